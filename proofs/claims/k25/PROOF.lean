import PyProof.Rows.All
import Wide.All
import OpenK.AllK
import Wide.FinOn
import Lean
import PyProof.EqAt
import PyProof.EqKinds
import PyProof.TupleCall
import PyProof.NeKinds
import PyProof.ReprRoads
import PyProof.ReprLen
import PyProof.Rows.RegStrFacts
import PyProof.Draws
import PyProof.EnumStmt
import PyProof.ZipIter
import PyProof.ListNew
import PyProof.TupleOfGen
import PyProof.ListRange
import PyProof.Rows.Range3
import PyProof.SumWalkG
import PyProof.Rows.RuleB_lshift
import PyProof.AutoSeq1
import PyProof.Cells
import PyProof.AutoListH
import PyProof.DictTable
import PyProof.StrLawsRepr
import PySem.Challenge.RW_joinedasks_k25_trees_known
set_option Elab.async false
set_option linter.all false
set_option maxRecDepth 100000
namespace L2
open PySem PySem.Spec PyProof.Rows

abbrev Key := Sum Int Str
def keyIs : Key → Value → Bool
  | .inl k, v => Value.isInt k v
  | .inr x, v => Value.isStrOf x v
def keyH (w : World) : Key → Int
  | .inl k => hashInt k
  | .inr x => hashStr w x
theorem keyIs_shape : ∀ {k : Key} {v : Value}, keyIs k v = true → (∃ i t, k = Sum.inl i ∧ v = Value.int i t) ∨ (∃ x t, k = Sum.inr x ∧ v = Value.str x t)
  | .inl i, v, h => by
    obtain ⟨t, e⟩ := Value.isInt_shape (k := i) (v := v) h
    exact .inl ⟨i, t, rfl, e⟩
  | .inr x, v, h => by
    obtain ⟨t, e⟩ := Value.isStrOf_shape (x := x) (v := v) h
    exact .inr ⟨x, t, rfl, e⟩
theorem keyIs_int (i : Int) (t : Tok) : keyIs (.inl i) (.int i t) = true := by simp [keyIs, Value.isInt]
theorem keyIs_str (x : Str) (t : Tok) : keyIs (.inr x) (.str x t) = true := by simp [keyIs, Value.isStrOf]
theorem key_ll (a b : Int) : decide ((Sum.inl a : Key) = Sum.inl b) = (a == b) := by
  by_cases e : a = b
  · subst e; simp
  · have h : ¬ (Sum.inl a : Key) = Sum.inl b := fun q => e (Sum.inl.inj q)
    rw [decide_eq_false h]
    exact (beq_eq_false_iff_ne.mpr e).symm
theorem key_rr (a b : Str) : decide ((Sum.inr a : Key) = Sum.inr b) = decide (a = b) := by
  by_cases e : a = b
  · subst e; simp
  · have h : ¬ (Sum.inr a : Key) = Sum.inr b := fun q => e (Sum.inr.inj q)
    rw [decide_eq_false h, decide_eq_false e]
theorem key_lr (a : Int) (b : Str) : decide ((Sum.inl a : Key) = Sum.inr b) = false := decide_eq_false (fun q => nomatch q)
theorem key_rl (a : Str) (b : Int) : decide ((Sum.inr a : Key) = Sum.inl b) = false := decide_eq_false (fun q => nomatch q)

def mixKind (prog : Program) (w : World) : PySem.KeyKind prog w Key where
  is := keyIs
  hash := keyH w
  inj := fun v a b ha hb => by
    rcases keyIs_shape ha with ⟨i, t, rfl, rfl⟩ | ⟨x, t, rfl, rfl⟩
    · rcases keyIs_shape hb with ⟨j, u, rfl, e⟩ | ⟨y, u, rfl, e⟩
      · injection e with e1 _; rw [e1]
      · exact nomatch e
    · rcases keyIs_shape hb with ⟨j, u, rfl, e⟩ | ⟨y, u, rfl, e⟩
      · exact nomatch e
      · injection e with e1 _; rw [e1]
  byValue := fun k v h => by
    rcases keyIs_shape h with ⟨i, t, rfl, rfl⟩ | ⟨x, t, rfl, rfl⟩ <;> rfl
  pyHash := fun hv h => by
    rcases keyIs_shape hv with ⟨i, t, rfl, rfl⟩ | ⟨x, t, rfl, rfl⟩
    · exact wpAny_pyHash_int h
    · exact wpAny_pyHash_str h
  eqBool := fun hu hv h => by
    rcases keyIs_shape hu with ⟨i, t, rfl, rfl⟩ | ⟨x, t, rfl, rfl⟩
    · rcases keyIs_shape hv with ⟨j, u, rfl, rfl⟩ | ⟨y, u, rfl, rfl⟩
      · rw [key_ll] at h; exact wpAny_eqBool_int h
      · rw [key_lr] at h; exact SeqAt.EqAt.int_str i t y u _ _ _ _ h
    · rcases keyIs_shape hv with ⟨j, u, rfl, rfl⟩ | ⟨y, u, rfl, rfl⟩
      · rw [key_rl] at h; exact SeqAt.EqAt.str_int x t j u _ _ _ _ h
      · rw [key_rr] at h; exact wpAny_eqBool_str h
  «strs» := fun k x t v h => by
    rcases keyIs_shape h with ⟨i, u, rfl, e⟩ | ⟨y, u, rfl, e⟩
    · exact nomatch e
    · injection e with e1 _
      subst e1
      cases v <;> rfl

end L2

namespace L2
open PySem PySem.Spec PyProof.Rows

inductive V where
  | non | bl (b : Bool) | int (i : Int) | str (x : Str) | byt (b : Array UInt8) | flt (b : UInt64) | ref (a : Addr) | ty (n : String)
  deriving DecidableEq

def RelV : V → Value → Prop
  | .non, u => u = Value.none
  | .bl b, u => u = Value.bool b
  | .int i, u => ∃ t, u = Value.int i t
  | .str x, u => ∃ t, u = Value.str x t
  | .byt b, u => ∃ t, u = Value.bytes b t
  | .flt b, u => ∃ t, u = Value.float b t
  | .ref a, u => u = Value.ref a
  | .ty n, u => u = Value.type n

abbrev Vals : List V → List Value → Prop := Paired RelV
theorem Vals.length {xs : List V} {us : List Value} (r : Vals xs us) : xs.length = us.length := Paired.length r
theorem Vals.get : ∀ {xs : List V} {us : List Value} {i : Nat} {x : V}, Vals xs us → xs[i]? = some x → ∃ u, us[i]? = some u ∧ RelV x u
  | _, _, _, _, .nil, e => by simp at e
  | _, _, 0, _, .cons r _, e => by simp at e; subst e; exact ⟨_, rfl, r⟩
  | _, _, i + 1, x, .cons _ t, e => by
    obtain ⟨u, h1, h2⟩ := Vals.get (i := i) (x := x) t (by simpa using e)
    exact ⟨u, by simpa using h1, h2⟩
theorem Vals.set {x : V} {u : Value} (r : RelV x u) : ∀ {xs : List V} {us : List Value} (i : Nat), Vals xs us → Vals (xs.set i x) (us.set i u)
  | _, _, _, .nil => .nil
  | _, _, 0, .cons _ t => .cons r t
  | _, _, i + 1, .cons q t => .cons q (Vals.set r i t)
theorem Vals.append : ∀ {xs ys : List V} {us ws : List Value}, Vals xs us → Vals ys ws → Vals (xs ++ ys) (us ++ ws)
  | _, _, _, _, .nil, s => s
  | _, _, _, _, .cons r t, s => .cons r (Vals.append t s)
theorem Vals.take : ∀ {xs : List V} {us : List Value} (n : Nat), Vals xs us → Vals (xs.take n) (us.take n)
  | _, _, 0, _ => .nil
  | _, _, _ + 1, .nil => .nil
  | _, _, n + 1, .cons r t => .cons r (Vals.take n t)
theorem Vals.drop : ∀ {xs : List V} {us : List Value} (n : Nat), Vals xs us → Vals (xs.drop n) (us.drop n)
  | _, _, 0, r => r
  | _, _, _ + 1, .nil => .nil
  | _, _, n + 1, .cons _ t => Vals.drop n t

def RelO : Option V → Option Value → Prop
  | some v, some u => RelV v u
  | none, none => True
  | _, _ => False
def KV {κ : Type} : List (κ × V) → List (κ × Value) → Prop := Paired fun (p : κ × V) (q : κ × Value) => p.1 = q.1 ∧ RelV p.2 q.2

def kV : Key → V
  | .inl i => .int i
  | .inr x => .str x

inductive HO where
  /-- a list -/
  | lst (xs : List V)
  /-- a tuple (never changes) -/
  | tup (xs : List V)
  /-- a dict whose keys are ints and texts; one whose keys are tuples of ints and texts (the empty one is both) -/
  | dK (kvs : List (Key × V)) | dT (kvs : List (List Key × V))
  /-- a set of ints: its members, its size -/
  | set (S : Int → Bool) (n : Nat)
  /-- an instance of the class at C, its dict at dx, its attributes -/
  | ins (C dx : Addr) (fs : List (Str × V))
  /-- the dict of the instance at x -/
  | own (x : Addr)
  /-- the dict of an exception -/
  | xd (fs : List (Str × V))
  /-- a bound method, f of x -/
  | met (f x : Addr)
  /-- a range object lo, lo + 1, .. below hi -/
  | rng (lo hi : Int)
  /-- a thing that is known to the object (the script; a dict while a loop walks it): read, never written while it is so -/
  | frz (o : Obj) (u : HO)
  /-- a code object's table -/
  | tbl (ps : Array Value)
  /-- any other thing, by what is true of its one object (a def of one's own: SetO a S n := HO.ext fun h => ..) -/
  | ext (φ : Heap → Prop)

abbrev Hp := Addr → Option HO
def upd (H : Hp) (a : Addr) (o : HO) : Hp := fun b => if b = a then some o else H b
theorem upd_same {H : Hp} {a : Addr} {o : HO} : upd H a o a = some o := by unfold upd; rw [if_pos rfl]
theorem upd_ne {H : Hp} {a b : Addr} {o : HO} (h : b ≠ a) : upd H a o b = H b := by unfold upd; rw [if_neg h]
theorem ne_of_none {H : Hp} {a b : Addr} {o : HO} (h : H a = some o) (h' : H b = none) : a ≠ b := by
  intro e; subst e; rw [h] at h'; cases h'

section
variable (P : Program) (w : World)
def ObjOk (H : Hp) (h : Heap) (a : Addr) : HO → Prop
  | .lst xs => xs.length ≤ sizeLine ∧ ∃ (its : List Value) (n : Nat), Vals xs its ∧ h.get? a = some { cls := .type "list", data := .seq its.toArray n }
  | .tup xs => xs.length ≤ sizeLine ∧ ∃ its : List Value, Vals xs its ∧ IsTup h a its.toArray
  | .dK kvs => kvs.length ≤ sizeLine ∧ (a == sysModules) = false ∧ ∃ vs, KV kvs vs ∧ h.DictOf (mixKind P w) a vs
  | .dT kvs => kvs.length ≤ sizeLine ∧ (a == sysModules) = false ∧ ∃ xs : List (List Key × Addr × Value),
      Paired (fun (p : List Key × V) (q : List Key × Addr × Value) => p.1 = q.1 ∧ H q.2.1 = some (.tup (p.1.map kV)) ∧ RelV p.2 q.2.2) kvs xs ∧
      ∃ o es ep, h.get? a = some o ∧ o.ExactDict ∧ o.data = .dict es ep ∧ es.toList = xs.map (entryOfKey (tupleKind (mixKind P w))) ∧ (xs.map (·.1)).Nodup
  | .set S n => h.SetOf (intKind P w) a S n
  | .ins C dx fs => H dx = some (.own a) ∧ fs.length ≤ 1000 ∧ dx ≠ a ∧ h.get? a = some (PySem.W.instObj C dx) ∧
      ∃ mA, h.Ns1 dx mA ∧ (∀ f, RelO (fs.lookup f) (mA f)) ∧ PySem.Within mA (fs.map (·.1))
  | .own _ => ∃ o, h.get? a = some o
  | .xd fs => ∃ mA, h.Ns1 a mA ∧ ∀ f, RelO (fs.lookup f) (mA f)
  | .rng lo hi => ∃ t u v, h.get? a = some { cls := .type "range", data := .fields #[.int lo t, .int hi u, .int 1 v] }
  | .frz o u => h.get? a = some o ∧ ObjOk H h a u
  | .tbl ps => h.get? a = some { cls := .none, data := .fields ps }
  | .met f x => h.get? a = some (PySem.W.methodObj (.ref f) (.ref x))
  | .ext φ => φ h ∧ (∃ o, h.get? a = some o) ∧ ∀ h1 h2 : Heap, φ h1 → (∀ o, h1.get? a = some o → h2.get? a = some o) → φ h2
def HOk (H : Hp) (h : Heap) : Prop := ∀ a o, H a = some o → ObjOk P w H h a o
end

section
variable {P : Program} {w : World} {H H' : Hp} {h h' : Heap} {a : Addr} {o : HO}
theorem ObjOk.lt (x : ObjOk P w H h a o) : a < h.objs.size := by
  cases o with
  | lst xs => obtain ⟨_, _, _, _, e⟩ := x; exact Heap.lt_size e
  | tup xs => obtain ⟨_, _, _, p⟩ := x; exact p.lt
  | dK kvs => obtain ⟨_, _, _, _, o, _, _, e, _⟩ := x; exact Heap.lt_size e
  | dT kvs => obtain ⟨_, _, _, _, o, _, _, e, _⟩ := x; exact Heap.lt_size e
  | set S n => obtain ⟨o, _, _, _, e, _⟩ := x; exact Heap.lt_size e
  | ins C dx fs => obtain ⟨_, _, _, e, _⟩ := x; exact Heap.lt_size e
  | own y => obtain ⟨_, e⟩ := x; exact Heap.lt_size e
  | xd fs => obtain ⟨_, ⟨_, _, _, e, _⟩, _⟩ := x; exact Heap.lt_size e
  | rng lo hi => obtain ⟨_, _, _, e⟩ := x; exact Heap.lt_size e
  | frz ob u => obtain ⟨e, _⟩ := x; exact Heap.lt_size e
  | tbl ps => exact Heap.lt_size (show h.get? a = some _ from x)
  | met f y => exact Heap.lt_size (show h.get? a = some _ from x)
  | ext φ => obtain ⟨_, ⟨_, e⟩, _⟩ := x; exact Heap.lt_size e
theorem Paired.mapP {α β : Type} {F G : α → β → Prop} : ∀ {l₁ : List α} {l₂ : List β}, Paired F l₁ l₂ → (∀ a b, F a b → G a b) → Paired G l₁ l₂
  | _, _, .nil, _ => .nil
  | _, _, .cons r t, f => .cons (f _ _ r) (Paired.mapP t f)
theorem ObjOk.stay (x : ObjOk P w H h a o) (k : ∀ b u, (b = a ∨ H b = some (.own a)) → h.get? b = some u → h'.get? b = some u)
    (ho : ∀ b, H b = some (.own a) → H' b = some (.own a)) (ht : ∀ b xs, H b = some (.tup xs) → H' b = some (.tup xs)) : ObjOk P w H' h' a o := by
  induction o with
  | lst xs => obtain ⟨z, its, n, r, e⟩ := x; exact ⟨z, its, n, r, k _ _ (.inl rfl) e⟩
  | tup xs => obtain ⟨z, its, r, ob, e, c⟩ := x; exact ⟨z, its, r, ob, k _ _ (.inl rfl) e, c⟩
  | dK kvs => obtain ⟨z, y, vs, r, ob, es, ep, e, c⟩ := x; exact ⟨z, y, vs, r, ob, es, ep, k _ _ (.inl rfl) e, c⟩
  | dT kvs =>
    obtain ⟨z, y, xs, r, ob, es, ep, e, c⟩ := x
    exact ⟨z, y, xs, Paired.mapP r fun p q z => ⟨z.1, ht _ _ z.2.1, z.2.2⟩, ob, es, ep, k _ _ (.inl rfl) e, c⟩
  | set S n => obtain ⟨ob, es, ep, t, e, c⟩ := x; exact ⟨ob, es, ep, t, k _ _ (.inl rfl) e, c⟩
  | ins C dx fs =>
    obtain ⟨d, z, ne, e, mA, ⟨od, es, ep, e2, c⟩, r⟩ := x
    exact ⟨ho _ d, z, ne, k _ _ (.inl rfl) e, mA, ⟨od, es, ep, k _ _ (.inr d) e2, c⟩, r⟩
  | own y => obtain ⟨ob, e⟩ := x; exact ⟨ob, k _ _ (.inl rfl) e⟩
  | xd fs => obtain ⟨mA, ⟨od, es, ep, e, c⟩, r⟩ := x; exact ⟨mA, ⟨od, es, ep, k _ _ (.inl rfl) e, c⟩, r⟩
  | rng lo hi => obtain ⟨t, u, v, e⟩ := x; exact ⟨t, u, v, k _ _ (.inl rfl) e⟩
  | frz ob u ih => obtain ⟨e, q⟩ := x; exact ⟨k _ _ (.inl rfl) e, ih q⟩
  | tbl ps =>
    have e : h.get? a = some { cls := .none, data := .fields ps } := x
    show h'.get? a = some { cls := .none, data := .fields ps }
    exact k a _ (.inl rfl) e
  | met f y =>
    have e : h.get? a = some (PySem.W.methodObj (.ref f) (.ref y)) := x
    show h'.get? a = some (PySem.W.methodObj (.ref f) (.ref y))
    exact k a _ (.inl rfl) e
  | ext φ => obtain ⟨p, ⟨o, e⟩, st⟩ := x; exact ⟨st _ _ p fun o q => k _ _ (.inl rfl) q, ⟨o, k _ _ (.inl rfl) e⟩, st⟩
theorem HOk.lt (x : HOk P w H h) (e : H a = some o) : a < h.objs.size := (x a o e).lt
theorem HOk.fresh (x : HOk P w H h) (e : h.objs.size ≤ a) : H a = none := by
  cases q : H a with
  | none => rfl
  | some u => exact absurd (Nat.lt_of_lt_of_le (x.lt q) e) (Nat.lt_irrefl _)
theorem HOk.kept (x : HOk P w H h) (k : ∀ b u, h.get? b = some u → h'.get? b = some u) : HOk P w H h' := fun a o e =>
  (x a o e).stay (fun b u _ q => k b u q) (fun _ q => q) fun _ _ q => q
theorem HOk.laid (x : HOk P w H h) (k : ∀ b u, h.get? b = some u → h'.get? b = some u) (hp : h.objs.size ≤ a) (new : ObjOk P w (upd H a o) h' a o) : HOk P w (upd H a o) h' := fun b u e => by
  have hn := x.fresh hp
  by_cases hb : b = a
  · subst hb; rw [upd_same] at e; cases e; exact new
  · rw [upd_ne hb] at e
    exact (x b u e).stay (fun c v _ q => k c v q) (fun c q => by rw [upd_ne (ne_of_none q hn)]; exact q) fun c xs q => by rw [upd_ne (ne_of_none q hn)]; exact q
end

def Rd (H : Hp) (a : Addr) (u : HO) : Prop := H a = some u ∨ ∃ o, H a = some (.frz o u)
theorem Rd.of {H : Hp} {a : Addr} {u : HO} (h : H a = some u) : Rd H a u := .inl h
theorem Rd.ok {P : Program} {w : World} {H : Hp} {h : Heap} {a : Addr} {u : HO} (r : Rd H a u) (x : HOk P w H h) : ObjOk P w H h a u := by
  rcases r with r | ⟨o, r⟩
  · exact x a u r
  · obtain ⟨_, q⟩ := x a _ r
    exact q
def Mut : Option HO → Prop
  | some (.lst _) => True
  | some (.dK _) => True
  | some (.dT _) => True
  | some (.set _ _) => True
  | some (.ins _ _ _) => True
  | some (.ext _) => True
  | _ => False
section
variable {P : Program} {w : World} {H : Hp} {h h' : Heap} {x e : Addr} {o' : HO}
theorem HOk.write (ok : HOk P w H h) (mu : Mut (H x)) (he : e = x ∨ H e = some (.own x)) (k : ∀ b u, b ≠ e → h.get? b = some u → h'.get? b = some u) (heo : ∃ u, h'.get? e = some u)
    (new : ObjOk P w (upd H x o') h' x o') : HOk P w (upd H x o') h' := fun b u q => by
  have nown : ∀ c y, H c = some (.own y) → c ≠ x := fun c y r z => by subst z; rw [r] at mu; exact mu
  have ntup : ∀ c xs, H c = some (.tup xs) → c ≠ x := fun c xs r z => by subst z; rw [r] at mu; exact mu
  by_cases hb : b = x
  · subst hb; rw [upd_same] at q; cases q; exact new
  · rw [upd_ne hb] at q
    by_cases hbe : b = e
    · have q' : H b = some (.own x) := by
        rcases he with z | z
        · exact absurd (hbe.trans z) hb
        · rw [hbe]; exact z
      rw [q] at q'; cases q'
      obtain ⟨v, hv⟩ := heo
      exact ⟨v, by rw [hbe]; exact hv⟩
    · refine (ok b u q).stay (fun c v hc r => k c v ?_ r) (fun c r => by rw [upd_ne (nown c b r)]; exact r) fun c xs r => by rw [upd_ne (ntup c xs r)]; exact r
      rcases hc with rfl | hc
      · exact hbe
      · rintro rfl
        rcases he with z | z
        · exact nown c b hc z
        · rw [hc] at z; cases z; exact hb rfl
end

structure Un (fs ex : List Addr) (H H' : Hp) (h h' : Heap) : Prop where
  keep : ∀ b o, h.get? b = some o → H b = none → b ∉ fs → b ∉ ex → h'.get? b = some o
  slot : ∀ b o, h.get? b = some o → H b = none → b ∈ fs → b ∉ ex → ∃ sl, h'.get? b = some { o with slots := sl }
  free : ∀ b o, h.get? b = some o → H b = none → b ∉ ex → H' b = none
  there : ∀ b o, h.get? b = some o → b ∉ ex → ∃ o', h'.get? b = some o'
  tups : ∀ b xs, H b = some (.tup xs) → H' b = some (.tup xs)
  frzs : ∀ b o u, H b = some (.frz o u) → H' b = some (.frz o u)
  tbls : ∀ b ps, H b = some (.tbl ps) → ∃ more, H' b = some (.tbl (ps ++ more))
section
variable {fs fs' ex ex' : List Addr} {H H1 H2 : Hp} {h h1 h2 h' : Heap} {a x e : Addr} {o : HO}
theorem Un.any (u : Un fs ex H H1 h h1) {b : Addr} {ob : Obj} (q : h.get? b = some ob) (n : H b = none) (hx : b ∉ ex) : ∃ sl, h1.get? b = some { ob with slots := sl } := by
  by_cases hb : b ∈ fs
  · exact u.slot b ob q n hb hx
  · exact ⟨ob.slots, u.keep b ob q n hb hx⟩
theorem Un.trans (a : Un fs ex H H1 h h1) (b : Un fs ex H1 H2 h1 h2) : Un fs ex H H2 h h2 where
  keep := fun c ob q n hc hx => b.keep c ob (a.keep c ob q n hc hx) (a.free c ob q n hx) hc hx
  slot := fun c ob q n hc hx => by
    obtain ⟨sl, e1⟩ := a.slot c ob q n hc hx
    obtain ⟨sl', e2⟩ := b.slot c _ e1 (a.free c ob q n hx) hc hx
    exact ⟨sl', e2⟩
  free := fun c ob q n hx => by
    obtain ⟨o', e1⟩ := a.there c ob q hx
    exact b.free c o' e1 (a.free c ob q n hx) hx
  there := fun c ob q hx => by
    obtain ⟨o', e1⟩ := a.there c ob q hx
    exact b.there c o' e1 hx
  tups := fun c xs q => b.tups c xs (a.tups c xs q)
  frzs := fun c ob xs q => b.frzs c ob xs (a.frzs c ob xs q)
  tbls := fun c ps q => by
    obtain ⟨m1, e1⟩ := a.tbls c ps q
    obtain ⟨m2, e2⟩ := b.tbls c _ e1
    exact ⟨m1 ++ m2, by rw [e2, Array.append_assoc]⟩
theorem Un.kept (k : ∀ b u, h.get? b = some u → h'.get? b = some u) : Un fs ex H H h h' :=
  ⟨fun b ob q _ _ _ => k b ob q, fun b ob q _ _ _ => ⟨ob.slots, k b ob q⟩, fun _ _ _ n _ => n, fun b ob q _ => ⟨ob, k b ob q⟩, fun _ _ q => q, fun _ _ _ q => q, fun _ ps q => ⟨#[], by rw [q]; simp⟩⟩
theorem Un.refl : Un fs ex H H h h := Un.kept fun _ _ q => q
theorem Un.laid (k : ∀ b u, h.get? b = some u → h'.get? b = some u) (hp : h.objs.size ≤ a) (hn : H a = none) : Un fs ex H (upd H a o) h h' where
  keep := fun b u q _ _ _ => k b u q
  slot := fun b u q _ _ _ => ⟨u.slots, k b u q⟩
  free := fun b u q n _ => by rw [upd_ne (Nat.ne_of_lt (Nat.lt_of_lt_of_le (Heap.lt_size q) hp))]; exact n
  there := fun b u q _ => ⟨u, k b u q⟩
  tups := fun b xs q => by rw [upd_ne (ne_of_none q hn)]; exact q
  frzs := fun b u xs q => by rw [upd_ne (ne_of_none q hn)]; exact q
  tbls := fun b ps q => ⟨#[], by rw [upd_ne (ne_of_none q hn), q]; simp⟩
theorem Un.write (mu : Mut (H x)) (he : e = x ∨ H e = some (.own x)) (k : ∀ b u, b ≠ e → h.get? b = some u → h'.get? b = some u) (heo : ∃ u, h'.get? e = some u) : Un fs ex H (upd H x o) h h' := by
  have hx : ∀ b, H b = none → b ≠ x := fun b n z => by subst z; rw [n] at mu; exact mu
  have hb : ∀ b, H b = none → b ≠ e := fun b n z => by
    subst z
    rcases he with r | r
    · exact hx b n r
    · rw [n] at r; cases r
  have hm : ∀ b u, H b = some u → ¬ Mut (some u) → b ≠ x := fun b u q nm z => by subst z; rw [q] at mu; exact nm mu
  refine ⟨fun b u q n _ _ => k b u (hb b n) q, fun b u q n _ _ => ⟨u.slots, k b u (hb b n) q⟩, fun b u q n _ => by rw [upd_ne (hx b n)]; exact n, fun b u q _ => ?_,
    fun b xs q => by rw [upd_ne (hm b _ q fun z => z)]; exact q, fun b u xs q => by rw [upd_ne (hm b _ q fun z => z)]; exact q, fun b ps q => ⟨#[], by rw [upd_ne (hm b _ q fun z => z), q]; simp⟩⟩
  by_cases hbe : b = e
  · subst hbe; exact heo
  · exact ⟨u, k b u hbe q⟩
theorem Un.mono (u : Un fs ex H H1 h h1) (hs : ∀ b ∈ fs, b ∈ fs') (hx : ∀ b ∈ ex, b ∈ ex') : Un fs' ex' H H1 h h1 :=
  ⟨fun b ob q n hb he => u.keep b ob q n (fun z => hb (hs b z)) fun z => he (hx b z), fun _ _ q n _ he => u.any q n fun z => he (hx _ z), fun b ob q n he => u.free b ob q n fun z => he (hx b z), fun b ob q he => u.there b ob q fun z => he (hx b z), u.tups, u.frzs, u.tbls⟩
end

def trk (h : Heap) (H : Hp) : List Addr := (List.range h.objs.size).filter fun a => (H a).isSome
def hidT (h : Heap) (H : Hp) : Heap := PySem.W.hideAll h (trk h H)
theorem hidT_size (h : Heap) (H : Hp) : (hidT h H).objs.size = h.objs.size := PySem.W.hideAll_size _ _
theorem hidT_get {h : Heap} {H : Hp} {b : Addr} {o : Obj} (e : h.get? b = some o) (n : H b = none) : (hidT h H).get? b = some o :=
  PySem.W.hideAll_get _ e fun hm => by
    have q : (H b).isSome = true := (List.mem_filter.mp hm).2
    rw [n] at q; simp at q
theorem of_hidT {h : Heap} {H : Hp} {b : Addr} {o : Obj} (e : (hidT h H).get? b = some o) : h.get? b = some o ∧ H b = none := by
  have e' : h.get? b = some o := PySem.W.of_hideAll (trk h H) e
  refine ⟨e', ?_⟩
  cases q : H b with
  | none => rfl
  | some x =>
    have hm : b ∈ trk h H := List.mem_filter.mpr ⟨List.mem_range.mpr (Heap.lt_size e'), by simp [q]⟩
    have z : (hidT h H).get? b = none := PySem.W.hideAll_none (trk h H) hm
    rw [z] at e; cases e

def allNews (g h : Heap) (L : Addr) : List (Addr × Obj) := (List.range h.objs.size).filterMap fun a => if a = L ∨ (g.get? a).isSome = true then none else (h.get? a).map fun o => (a, o)
def rest (g h : Heap) (L d : Addr) : List (Addr × Obj) := (allNews g h L).filter fun p => decide (p.1 ≠ d)
end L2

namespace L2
open PySem PySem.Spec PyProof.Rows

structure Mod (K : PySem.W.Frag) (mg : Str → Option Value) (base : Heap) : Prop where
  kin : K.In base
  glob : base.Ns mainGlobals mg
  blt : ∃ mb, base.Ns builtinsNs mb ∧ ∀ x : Str, x ≠ "__name__" → mb x = bootBuiltins x
  nolimit : base.NoLimit

structure Cx where
  prog : Program
  w : World
  K : PySem.W.Frag
  mg : Str → Option Value
  base : Heap
  A : Around
  N : List Str
  s₀ : Shared
  H₀ : Hp
  env : Env
  outer : List Env
  stack : List Env
  ex : List Addr
  fn : Str → Bool
  calm : Bool
  pn : List (Addr × Obj)
  xe : Value → Shared → Prop
def frs (l : List Env) : List Addr := l.filterMap (·.frame)
abbrev Cx.fs (X : Cx) : List Addr := frs X.outer

def Vis (sc : Scope) (x : Str) : Prop := sc.names.lookup x = some .local ∨ sc.names.lookup x = some .cell ∨ sc.names.lookup x = some .free
def Loc (sc : Scope) (x : Str) : Prop := sc.names.lookup x = some .local ∨ sc.names.lookup x = some .cell
def Look (env : Env) (h : Heap) (m : Str → Option Value) (x : Str) (u : Value) : Prop :=
  (env.kindOf x = some .local ∧ m x = some u) ∨ ((env.kindOf x = some .cell ∨ env.kindOf x = some .free) ∧ ∃ c, env.cells.lookup x = some c ∧ h.IsCell c (some u))

structure Cx.Ok (X : Cx) : Prop where
  mod : Mod X.K X.mg X.base
  kind : X.env.scope.kind = .function
  glob : X.env.globals = mainGlobals
  blt : X.env.builtins = builtinsNs
  above : X.s₀.heap.objs.size ≤ X.env.locals
  inj : ∀ x y c, X.env.cells.lookup x = some c → X.env.cells.lookup y = some c → x = y
  has : ∀ x, (X.env.kindOf x = some .cell ∨ X.env.kindOf x = some .free) → ∃ c, X.env.cells.lookup x = some c
  cab : ∀ x c, X.fn x = true → X.env.cells.lookup x = some c → X.s₀.heap.objs.size ≤ c
  hd : X.calm = true → X.A.handled = none
  frames : X.A.frames = some X.stack
  stk : X.stack = X.outer ∨ (X.stack = X.env :: X.outer ∧ X.env.frame = some X.env.locals)
  exf : ∀ b ∈ X.ex, b ≠ X.env.locals ∧ ∀ x c, X.env.cells.lookup x = some c → c ≠ b
  bs : ∀ b o, X.base.get? b = some o → X.s₀.heap.get? b = some o ∧ X.H₀ b = none
  bsz : X.base.objs.size ≤ X.s₀.heap.objs.size
  noex : ∀ b o, X.base.get? b = some o → b ∉ X.ex
  exfs : ∀ b ∈ X.ex, b ∉ X.fs
  funs : X.s₀.heap.FunFrames X.base X.outer
  frf : ∀ b ∈ X.fs, X.H₀ b = none

structure Inv (X : Cx) (pins : List (Addr × Obj)) (σ : List (Option V)) (H : Hp) (s : Shared) : Prop where
  ok : X.Ok
  os : s.os = X.s₀.os
  bare : AllBare s.gens
  base : Un X.fs X.ex X.H₀ H X.s₀.heap s.heap
  loc : ∃ m, s.heap.Ns X.env.locals m ∧ ∀ (i : Nat) (x : Str) (v : V), X.N[i]? = some x → σ[i]? = some (some v) → Vis X.env.scope x → ∃ u, RelV v u ∧ Look X.env s.heap m x u
  cell : ∀ x c, X.env.cells.lookup x = some c → ∃ v, s.heap.IsCell c v
  free : H X.env.locals = none
  freeC : ∀ x c, X.env.cells.lookup x = some c → H c = none
  pin : ∀ p ∈ X.pn ++ pins, s.heap.get? p.1 = some p.2 ∧ H p.1 = none ∧ p.1 ≠ X.env.locals ∧ p.1 ∉ X.fs ∧ ∀ v, p.2.data ≠ .cell v
  hok : HOk X.prog X.w H s.heap
  len : σ.length = X.N.length

section
variable {X : Cx} {pins : List (Addr × Obj)} {σ : List (Option V)} {H H' : Hp} {s : Shared} {h' : Heap}

theorem Cx.Ok.nofr (ok : X.Ok) {b : Addr} {o : Obj} (e : X.base.get? b = some o) : b ∉ X.fs := fun hb => by
  have := (ok.funs.mem hb).1
  rw [e] at this; cases this
theorem Inv.bs (I : Inv X pins σ H s) : ∀ b o, X.base.get? b = some o → s.heap.get? b = some o ∧ H b = none := fun b o e =>
  ⟨I.base.keep b o (I.ok.bs b o e).1 (I.ok.bs b o e).2 (I.ok.nofr e) (I.ok.noex b o e), I.base.free b o (I.ok.bs b o e).1 (I.ok.bs b o e).2 (I.ok.noex b o e)⟩
theorem Inv.bk (I : Inv X pins σ H s) : ∀ b o, X.base.get? b = some o → s.heap.get? b = some o := fun b o e => (I.bs b o e).1
theorem Inv.mod (I : Inv X pins σ H s) : Mod X.K X.mg X.base := I.ok.mod
theorem Inv.kIn (I : Inv X pins σ H s) : X.K.In s.heap := I.ok.mod.kin.keeps I.bk
theorem Inv.nolimit (I : Inv X pins σ H s) : s.heap.NoLimit := I.ok.mod.nolimit.keeps I.bk
theorem Inv.fr (I : Inv X pins σ H s) : ∃ m, Fr X.base X.env.locals s.heap m :=
  let ⟨m, hn, _⟩ := I.loc
  ⟨m, hn, I.bk, Nat.le_trans I.ok.bsz I.ok.above⟩
theorem Inv.lt (I : Inv X pins σ H s) : X.env.locals < s.heap.objs.size := let ⟨_, hn, _⟩ := I.loc; hn.lt
theorem Inv.sz (I : Inv X pins σ H s) : X.s₀.heap.objs.size ≤ s.heap.objs.size := Nat.le_trans I.ok.above (Nat.le_of_lt I.lt)
theorem Inv.nofs (I : Inv X pins σ H s) {a : Addr} (h : s.heap.objs.size ≤ a) : a ∉ X.fs := fun hb => by
  obtain ⟨_, o, ho, _⟩ := I.ok.funs.mem hb
  exact absurd (Nat.lt_of_lt_of_le (Heap.lt_size ho) (Nat.le_trans I.sz h)) (Nat.lt_irrefl _)
theorem Inv.cne (I : Inv X pins σ H s) : ∀ x c, X.env.cells.lookup x = some c → c ≠ X.env.locals := fun x c e z => by
  obtain ⟨v, o, ho, hd⟩ := I.cell x c e
  obtain ⟨m, ⟨o', es, ep, ho', hd', _⟩, _⟩ := I.loc
  rw [z, ho'] at ho; cases ho; rw [hd'] at hd; cases hd
theorem Inv.funs (I : Inv X pins σ H s) : s.heap.FunFrames X.base X.outer := by
  have all : ∀ (l : List Env), (∀ b ∈ frs l, b ∈ X.fs) → X.s₀.heap.FunFrames X.base l → s.heap.FunFrames X.base l := by
    intro l
    induction l with
    | nil => intro _ _; trivial
    | cons env r ih =>
      intro hs hl
      obtain ⟨hk, ⟨L, o, hf, hn, ho, hd⟩, hr⟩ := hl
      have hL : L ∈ X.fs := hs L (by unfold frs; rw [List.filterMap_cons, hf]; exact List.mem_cons_self)
      obtain ⟨sl, e⟩ := I.base.slot L o ho (I.ok.frf L hL) hL fun z => I.ok.exfs L z hL
      exact ⟨hk, ⟨L, _, hf, hn, e, hd⟩, ih (fun b hb => hs b (by unfold frs; rw [List.filterMap_cons, hf]; exact List.mem_cons_of_mem _ hb)) hr⟩
  exact all X.outer (fun _ hb => hb) I.ok.funs

theorem Inv.stack (I : Inv X pins σ H s) : s.heap.FunFrames X.base X.stack := by
  rcases I.ok.stk with e | ⟨e, hf⟩
  · rw [e]; exact I.funs
  · rw [e]
    obtain ⟨m, hn, _⟩ := I.loc
    refine .cons (by rw [I.ok.kind]; decide) hf hn ?_ I.funs
    exact Heap.get?_none_of_le (Nat.le_trans I.ok.bsz I.ok.above)
theorem Inv.stkSub (I : Inv X pins σ H s) : ∀ b ∈ frs X.stack, b ∈ X.env.locals :: X.fs := fun b hb => by
  rcases I.ok.stk with e | ⟨e, hf⟩
  · rw [e] at hb; exact List.mem_cons_of_mem _ hb
  · rw [e] at hb
    unfold frs at hb
    rw [List.filterMap_cons, hf] at hb
    exact hb
theorem Inv.stkFree (I : Inv X pins σ H s) : ∀ b ∈ frs X.stack, H b = none := fun b hb => by
  rcases List.mem_cons.mp (I.stkSub b hb) with e | hb
  · rw [e]; exact I.free
  · obtain ⟨_, o, ho, _⟩ := I.ok.funs.mem hb
    exact I.base.free b o ho (I.ok.frf b hb) fun z => I.ok.exfs b z hb

theorem Inv.step {g' : Array GenState} {t' : Nat} {d' : Drawn} {ch : List Addr} (I : Inv X pins σ H s)
    (hch : ∀ b ∈ ch, (b ∈ X.ex ∨ X.s₀.heap.objs.size ≤ b) ∧ b ≠ X.env.locals ∧ (∀ x c, X.env.cells.lookup x = some c → c ≠ b) ∧ ∀ p ∈ X.pn ++ pins, p.1 ≠ b)
    (keep : ∀ b o, b ≠ X.env.locals → b ∉ X.fs → b ∉ ch → s.heap.get? b = some o → H b = none → h'.get? b = some o)
    (slot : ∀ b o, b ≠ X.env.locals → b ∈ X.fs → b ∉ ch → s.heap.get? b = some o → H b = none → ∃ sl, h'.get? b = some { o with slots := sl }) (free : ∀ b o, b ∉ ch → s.heap.get? b = some o → H b = none → H' b = none)
    (there : ∀ b o, b ∉ ch → s.heap.get? b = some o → ∃ o', h'.get? b = some o')
    (tups : ∀ b xs, H b = some (.tup xs) → H' b = some (.tup xs)) (frzs : ∀ b o u, H b = some (.frz o u) → H' b = some (.frz o u)) (tbls : ∀ b ps, H b = some (.tbl ps) → ∃ more, H' b = some (.tbl (ps ++ more)))
    (ns : ∀ m, s.heap.Ns X.env.locals m → h'.Ns X.env.locals m) (hok : HOk X.prog X.w H' h') (hg : AllBare g') :
    Inv X pins σ H' { s with heap := h', gens := g', drawn := d', toks := t' } := by
  have neL : ∀ b o, X.s₀.heap.get? b = some o → b ≠ X.env.locals := fun b o e => Nat.ne_of_lt (Nat.lt_of_lt_of_le (Heap.lt_size e) I.ok.above)
  have neC : ∀ b o, X.s₀.heap.get? b = some o → b ∉ X.ex → b ∉ ch := fun b o e hx hb => by
    rcases (hch b hb).1 with z | z
    · exact hx z
    · exact absurd (Nat.lt_of_lt_of_le (Heap.lt_size e) z) (Nat.lt_irrefl _)
  have cellK : ∀ x c, X.env.cells.lookup x = some c → ∀ v, s.heap.IsCell c v → h'.IsCell c v := fun x c e v ⟨o, ho, hd⟩ => by
    have nch : c ∉ ch := fun z => (hch c z).2.2.1 x c e rfl
    by_cases hc : c ∈ X.fs
    · obtain ⟨sl, q⟩ := slot c o (I.cne x c e) hc nch ho (I.freeC x c e)
      exact ⟨_, q, hd⟩
    · exact ⟨o, keep c o (I.cne x c e) hc nch ho (I.freeC x c e), hd⟩
  refine ⟨I.ok, I.os, hg, ⟨fun b o e n hb hx => ?_, fun b o e n hb hx => ?_, fun b o e n hx => ?_, fun b o e hx => ?_, fun b xs e => tups b xs (I.base.tups b xs e), fun b o xs e => frzs b o xs (I.base.frzs b o xs e), fun b ps e => ?_⟩, ?_, fun x c e => ?_, ?_, fun x c e => ?_, fun p hp => ?_, hok, I.len⟩
  · exact keep b o (neL b o e) hb (neC b o e hx) (I.base.keep b o e n hb hx) (I.base.free b o e n hx)
  · obtain ⟨sl, e1⟩ := I.base.slot b o e n hb hx
    obtain ⟨sl', e2⟩ := slot b _ (neL b o e) hb (neC b o e hx) e1 (I.base.free b o e n hx)
    exact ⟨sl', e2⟩
  · obtain ⟨o', e1⟩ := I.base.there b o e hx
    exact free b o' (neC b o e hx) e1 (I.base.free b o e n hx)
  · obtain ⟨o', e1⟩ := I.base.there b o e hx
    exact there b o' (neC b o e hx) e1
  · obtain ⟨m1, e1⟩ := I.base.tbls b ps e
    obtain ⟨m2, e2⟩ := tbls b _ e1
    exact ⟨m1 ++ m2, by rw [e2, Array.append_assoc]⟩
  · obtain ⟨m, hn, hl⟩ := I.loc
    refine ⟨m, ns m hn, fun i x v e1 e2 e3 => ?_⟩
    obtain ⟨u, r, l⟩ := hl i x v e1 e2 e3
    refine ⟨u, r, ?_⟩
    rcases l with l | ⟨k, c, e, z⟩
    · exact .inl l
    · exact .inr ⟨k, c, e, cellK x c e _ z⟩
  · obtain ⟨v, z⟩ := I.cell x c e
    exact ⟨v, cellK x c e v z⟩
  · obtain ⟨m, ⟨o, _, _, ho, _⟩, _⟩ := I.loc
    exact free _ o (fun z => (hch _ z).2.1 rfl) ho I.free
  · obtain ⟨v, o, ho, hd⟩ := I.cell x c e
    exact free c o (fun z => (hch c z).2.2.1 x c e rfl) ho (I.freeC x c e)
  · obtain ⟨e, n, ne, nf, d⟩ := I.pin p hp
    have nch : p.1 ∉ ch := fun z => (hch p.1 z).2.2.2 p hp rfl
    exact ⟨keep p.1 p.2 ne nf nch e n, free p.1 p.2 nch e n, ne, nf, d⟩
theorem Inv.un {t' : Nat} (I : Inv X pins σ H s) (u : Un X.fs [] H H' s.heap h') (hok : HOk X.prog X.w H' h') : Inv X pins σ H' { s with heap := h', toks := t' } := by
  obtain ⟨m, ⟨o, es, ep, ho, r⟩, _⟩ := id I.loc
  obtain ⟨sl, hL⟩ := u.any ho I.free (by simp)
  exact I.step (g' := s.gens) (d' := s.drawn) (ch := []) (fun _ z => nomatch z) (fun b o _ hb _ e n => u.keep b o e n hb (by simp)) (fun b o _ hb _ e n => u.slot b o e n hb (by simp)) (fun b o _ e n => u.free b o e n (by simp)) (fun b o _ e => u.there b o e (by simp)) u.tups u.frzs u.tbls (fun m' hm => by
    obtain ⟨o', es', ep', ho', r'⟩ := hm
    rw [ho] at ho'; cases ho'
    exact ⟨_, es', ep', hL, r'⟩) hok I.bare
theorem Inv.call {g' : Array GenState} {t' : Nat} {d' : Drawn} {ch : List Addr} (I : Inv X pins σ H s) (u : Un (frs X.stack) ch H H' s.heap h') (hok : HOk X.prog X.w H' h') (hg : AllBare g')
    (hch : ∀ b ∈ ch, (b ∈ X.ex ∨ X.s₀.heap.objs.size ≤ b) ∧ b ≠ X.env.locals ∧ (∀ x c, X.env.cells.lookup x = some c → c ≠ b) ∧ ∀ p ∈ X.pn ++ pins, p.1 ≠ b) :
    Inv X pins σ H' { s with heap := h', gens := g', drawn := d', toks := t' } := by
  obtain ⟨m, ⟨o, es, ep, ho, r⟩, _⟩ := id I.loc
  obtain ⟨sl, hL⟩ := u.any ho I.free fun z => (hch _ z).2.1 rfl
  exact I.step (ch := ch) hch (fun b o hL hb hc e n => u.keep b o e n (fun z => (List.mem_cons.mp (I.stkSub b z)).elim hL hb) hc) (fun b o _ _ hc e n => u.any e n hc) (fun b o hc e n => u.free b o e n hc) (fun b o hc e => u.there b o e hc) u.tups u.frzs u.tbls (fun m' hm => by
    obtain ⟨o', es', ep', ho', r'⟩ := hm
    rw [ho] at ho'; cases ho'
    exact ⟨_, es', ep', hL, r'⟩) hok hg
theorem Inv.turned {t' : Nat} {it : Addr} (I : Inv X pins σ H s) (k : ∀ b o, b ≠ it → s.heap.get? b = some o → h'.get? b = some o) (hn : H it = none) (hL : it ≠ X.env.locals)
    (h1 : it ∈ X.ex ∨ X.s₀.heap.objs.size ≤ it) (h2 : ∀ x c, X.env.cells.lookup x = some c → c ≠ it) (h3 : ∀ p ∈ X.pn ++ pins, p.1 ≠ it) : Inv X pins σ H { s with heap := h', toks := t' } := by
  have nit : ∀ b u, H b = some u → b ≠ it := fun b u e z => by rw [z, hn] at e; cases e
  refine I.step (g' := s.gens) (d' := s.drawn) (ch := [it]) (fun b hb => ?_) (fun b o _ _ hc e _ => k b o (fun z => hc (by simp [z])) e) (fun b o _ _ hc e _ => ⟨o.slots, k b o (fun z => hc (by simp [z])) e⟩) (fun _ _ _ _ n => n)
    (fun b o hc e => ⟨o, k b o (fun z => hc (by simp [z])) e⟩) (fun _ _ e => e) (fun _ _ _ e => e) (fun b ps e => ⟨#[], by rw [e]; simp⟩) (fun m hm => ?_) (fun b u e => ?_) I.bare
  · have e : b = it := by simpa using hb
    subst e
    exact ⟨h1, hL, h2, h3⟩
  · obtain ⟨o, es, ep, ho, r⟩ := hm
    exact ⟨o, es, ep, k _ o (Ne.symm hL) ho, r⟩
  · refine (I.hok b u e).stay (fun c v hc q => k c v ?_ q) (fun _ q => q) fun _ _ q => q
    rcases hc with z | z
    · rw [z]; exact nit b u e
    · exact nit c _ z
theorem Inv.tok (I : Inv X pins σ H s) (t : Nat) : Inv X pins σ H { s with toks := t } := I.un (h' := s.heap) (t' := t) Un.refl I.hok
theorem Inv.kept {t' : Nat} (I : Inv X pins σ H s) (k : ∀ b u, s.heap.get? b = some u → h'.get? b = some u) : Inv X pins σ H { s with heap := h', toks := t' } := I.un (Un.kept k) (I.hok.kept k)
theorem Inv.laid {a : Addr} {o : HO} {t' : Nat} (I : Inv X pins σ H s) (k : ∀ b u, s.heap.get? b = some u → h'.get? b = some u) (hp : s.heap.objs.size ≤ a) (new : ObjOk X.prog X.w (upd H a o) h' a o) :
    Inv X pins σ (upd H a o) { s with heap := h', toks := t' } := I.un (Un.laid k hp (I.hok.fresh hp)) (I.hok.laid k hp new)
theorem Inv.write {x e : Addr} {o : HO} {t' : Nat} (I : Inv X pins σ H s) (mu : Mut (H x)) (he : e = x ∨ H e = some (.own x)) (k : ∀ b u, b ≠ e → s.heap.get? b = some u → h'.get? b = some u) (heo : ∃ u, h'.get? e = some u)
    (new : ObjOk X.prog X.w (upd H x o) h' x o) : Inv X pins σ (upd H x o) { s with heap := h', toks := t' } := I.un (Un.write mu he k heo) (I.hok.write mu he k heo new)
theorem Inv.pins_of {pins' : List (Addr × Obj)} (I : Inv X pins σ H s) (h : ∀ p ∈ pins', s.heap.get? p.1 = some p.2 ∧ H p.1 = none ∧ p.1 ≠ X.env.locals ∧ p.1 ∉ X.fs ∧ ∀ v, p.2.data ≠ .cell v) : Inv X pins' σ H s :=
  ⟨I.ok, I.os, I.bare, I.base, I.loc, I.cell, I.free, I.freeC, fun p hp => (List.mem_append.mp hp).elim (fun z => I.pin p (List.mem_append_left _ z)) (h p), I.hok, I.len⟩

theorem nodup_ix {N : List Str} (hN : N.Nodup) {i j : Nat} {x : Str} (a : N[i]? = some x) (b : N[j]? = some x) : i = j := by
  obtain ⟨h1, e1⟩ := List.getElem?_eq_some_iff.mp a
  obtain ⟨h2, e2⟩ := List.getElem?_eq_some_iff.mp b
  exact (List.getElem_inj hN).mp (e1.trans e2.symm)

theorem store_ok2 {M : Model} {A : Around} {E : Value → Shared → Prop} {i : Nat} {x : Str} {v : V} {u : Value} {Q : Unit → Shared → Prop} (I : Inv X pins σ H s) (hN : X.N.Nodup) (hi : X.N[i]? = some x) (hx : Loc X.env.scope x) (r : RelV v u)
    (h : ∀ s', Inv X pins (σ.set i (some v)) H s' → (∃ a, Heap.SameBut a s.heap s'.heap ∧ (a = X.env.locals ∨ X.env.cells.lookup x = some a)) → Q () s') (hf : X.fn x = true ∨ X.env.scope.names.lookup x = some .local := by first | exact .inl rfl | exact .inr rfl | assumption) : wpAny M A (storeName X.env x u) Q E s := by
  obtain ⟨m, hn, hl⟩ := id I.loc
  have hcls : (X.env.scope.kind == .class || (X.env.scope.kind == .module && X.env.locals != X.env.globals)) = false := by rw [I.ok.kind]; rfl
  have hiσ : i < σ.length := by rw [I.len]; exact (List.getElem?_eq_some_iff.mp hi).1
  have cne := I.cne
  have tracked : ∀ {a : Addr} {h' : Heap}, (∃ o, s.heap.get? a = some o ∧ H a = none) → Heap.SameBut a s.heap h' → HOk X.prog X.w H h' := fun {a h'} ha hs b ob e => by
    obtain ⟨_, _, hfree⟩ := ha
    refine (I.hok b ob e).stay (fun c w' hc q => (hs.2 c ?_).trans q) (fun _ q => q) fun _ _ q => q
    rintro rfl
    rcases hc with rfl | hc
    · rw [hfree] at e; cases e
    · rw [hfree] at hc; cases hc
  rcases hx with hk | hk
  · refine wpAny_storeName_local hk hn (fun h' hn' hs => ?_) hcls
    obtain ⟨oL, _, _, hoL, _⟩ := id hn
    refine h _ ⟨I.ok, I.os, I.bare, ⟨fun b o e n hb hx => ?_, fun b o e n hb hx => ?_, I.base.free, fun b o e hx => ?_, I.base.tups, I.base.frzs, I.base.tbls⟩, ⟨_, hn', fun j y v' e1 e2 e3 => ?_⟩, fun y c e => ?_, I.free, I.freeC, fun p hp => ?_, tracked ⟨oL, hoL, I.free⟩ hs, by simpa using I.len⟩ ⟨_, hs, .inl rfl⟩
    · exact (hs.2 b (Nat.ne_of_lt (Nat.lt_of_lt_of_le (Heap.lt_size e) I.ok.above))).trans (I.base.keep b o e n hb hx)
    · obtain ⟨sl, e1⟩ := I.base.slot b o e n hb hx
      exact ⟨sl, (hs.2 b (Nat.ne_of_lt (Nat.lt_of_lt_of_le (Heap.lt_size e) I.ok.above))).trans e1⟩
    · obtain ⟨o', e1⟩ := I.base.there b o e hx
      exact ⟨o', (hs.2 b (Nat.ne_of_lt (Nat.lt_of_lt_of_le (Heap.lt_size e) I.ok.above))).trans e1⟩
    · by_cases hj : j = i
      · subst hj
        rw [hi] at e1; cases e1
        rw [List.getElem?_set_self hiσ] at e2
        cases e2
        exact ⟨u, r, .inl ⟨hk, by simp⟩⟩
      · rw [List.getElem?_set_ne (Ne.symm hj)] at e2
        obtain ⟨u', r', q⟩ := hl j y v' e1 e2 e3
        refine ⟨u', r', ?_⟩
        rcases q with ⟨k, e⟩ | ⟨k, c, e, z⟩
        · refine .inl ⟨k, ?_⟩
          have : y ≠ x := fun e => hj (nodup_ix hN e1 (e ▸ hi))
          simp [this, e]
        · exact .inr ⟨k, c, e, z.sameBut hs (cne y c e)⟩
    · obtain ⟨w', z⟩ := I.cell y c e
      exact ⟨w', z.sameBut hs (cne y c e)⟩
    · obtain ⟨e, n, ne, nf, d⟩ := I.pin p hp
      exact ⟨(hs.2 p.1 ne).trans e, n, ne, nf, d⟩
  · have hfn : X.fn x = true := by
      rcases hf with z | z
      · exact z
      · rw [z] at hk; cases hk
    obtain ⟨c, hc⟩ := I.ok.has x (.inl hk)
    obtain ⟨w', z⟩ := I.cell x c hc
    refine wpAny_storeName_cell I.ok.kind hk hc z (fun h' hc' hs => ?_)
    obtain ⟨oc, hoc, hocd⟩ := id z
    refine h { s with heap := h' } ⟨I.ok, I.os, I.bare, ⟨fun b o e n hb hx => ?_, fun b o e n hb hx => ?_, I.base.free, fun b o e hx => ?_, I.base.tups, I.base.frzs, I.base.tbls⟩, ⟨m, hn.sameBut hs (Ne.symm (cne x c hc)), fun j y v' e1 e2 e3 => ?_⟩, fun y c' e => ?_, I.free, I.freeC, fun p hp => ?_, tracked ⟨oc, hoc, I.freeC x c hc⟩ hs, by simpa using I.len⟩ ⟨c, hs, .inr hc⟩
    · exact (hs.2 b (Nat.ne_of_lt (Nat.lt_of_lt_of_le (Heap.lt_size e) (I.ok.cab x c hfn hc)))).trans (I.base.keep b o e n hb hx)
    · obtain ⟨sl, e1⟩ := I.base.slot b o e n hb hx
      exact ⟨sl, (hs.2 b (Nat.ne_of_lt (Nat.lt_of_lt_of_le (Heap.lt_size e) (I.ok.cab x c hfn hc)))).trans e1⟩
    · obtain ⟨o', e1⟩ := I.base.there b o e hx
      exact ⟨o', (hs.2 b (Nat.ne_of_lt (Nat.lt_of_lt_of_le (Heap.lt_size e) (I.ok.cab x c hfn hc)))).trans e1⟩
    · by_cases hj : j = i
      · subst hj
        rw [hi] at e1; cases e1
        rw [List.getElem?_set_self hiσ] at e2
        cases e2
        exact ⟨u, r, .inr ⟨.inl hk, c, hc, hc'⟩⟩
      · rw [List.getElem?_set_ne (Ne.symm hj)] at e2
        obtain ⟨u', r', q⟩ := hl j y v' e1 e2 e3
        refine ⟨u', r', ?_⟩
        rcases q with q | ⟨k, c', e, z'⟩
        · exact .inl q
        · refine .inr ⟨k, c', e, z'.sameBut hs ?_⟩
          rintro rfl
          exact hj (nodup_ix hN e1 (I.ok.inj _ _ _ e hc ▸ hi))
    · by_cases hcc : c' = c
      · subst hcc; exact ⟨_, hc'⟩
      · obtain ⟨w2, z2⟩ := I.cell y c' e
        exact ⟨w2, z2.sameBut hs hcc⟩
    · obtain ⟨e, n, ne, nf, d⟩ := I.pin p hp
      refine ⟨(hs.2 p.1 ?_).trans e, n, ne, nf, d⟩
      intro q
      rw [q, hoc] at e
      have q' : oc = p.2 := Option.some.inj e
      exact d w' (by rw [← q']; exact hocd)
theorem store_ok {M : Model} {A : Around} {E : Value → Shared → Prop} {i : Nat} {x : Str} {v : V} {u : Value} {Q : Unit → Shared → Prop} (I : Inv X pins σ H s) (hN : X.N.Nodup) (hi : X.N[i]? = some x) (hx : Loc X.env.scope x) (r : RelV v u)
    (h : ∀ s', Inv X pins (σ.set i (some v)) H s' → Q () s') (hf : X.fn x = true ∨ X.env.scope.names.lookup x = some .local := by first | exact .inl rfl | exact .inr rfl | assumption) : wpAny M A (storeName X.env x u) Q E s :=
  store_ok2 I hN hi hx r (fun s' I' _ => h s' I') hf
theorem Inv.call' {s' : Shared} {ch : List Addr} (I : Inv X pins σ H s) (ho : s'.os = s.os) (u : Un (frs X.stack) ch H H' s.heap s'.heap) (hok : HOk X.prog X.w H' s'.heap) (hg : AllBare s'.gens)
    (hch : ∀ b ∈ ch, (b ∈ X.ex ∨ X.s₀.heap.objs.size ≤ b) ∧ b ≠ X.env.locals ∧ (∀ x c, X.env.cells.lookup x = some c → c ≠ b) ∧ ∀ p ∈ X.pn ++ pins, p.1 ≠ b) : Inv X pins σ H' s' := by
  obtain ⟨h', g', d', t', o'⟩ := s'
  have e : o' = s.os := ho
  subst e
  exact I.call (g' := g') (t' := t') (d' := d') u hok hg hch
end

abbrev XK := Value → Option Addr → Hp → Prop
abbrev St := List (Option V)
abbrev VK := V → Hp → Prop
abbrev TE := St → Hp → VK → Prop
abbrev TT := St → Hp → (Bool → Hp → Prop) → Prop
abbrev TA := St → Hp → (List V → Hp → Prop) → Prop
structure Ends where
  nx : St → Hp → Prop
  rt : VK
  bk : St → Hp → Prop := fun _ _ => False
  ct : St → Hp → Prop := fun _ _ => False
abbrev TS := Ends → St → Hp → Prop

def EP (X : Cx) (pins : List (Addr × Obj)) (σ : St) (Q : VK) (u : Value) (s' : Shared) : Prop := ∃ v H', Inv X pins σ H' s' ∧ RelV v u ∧ Q v H'
def TP (X : Cx) (pins : List (Addr × Obj)) (σ : St) (Q : Bool → Hp → Prop) (b : Bool) (s' : Shared) : Prop := ∃ H', Inv X pins σ H' s' ∧ Q b H'
def AP (X : Cx) (pins : List (Addr × Obj)) (σ : St) (Q : List V → Hp → Prop) (us : List Value) (s' : Shared) : Prop := ∃ vs H', Inv X pins σ H' s' ∧ Vals vs us ∧ Q vs H'
def SP (X : Cx) (pins : List (Addr × Obj)) (D : Ends) (f : Flow) (s' : Shared) : Prop :=
  match f with
  | .next => ∃ σ' H', Inv X pins σ' H' s' ∧ D.nx σ' H'
  | .brk => ∃ σ' H', Inv X pins σ' H' s' ∧ D.bk σ' H'
  | .cont => ∃ σ' H', Inv X pins σ' H' s' ∧ D.ct σ' H'
  | .ret u => ∃ v σ' H', Inv X pins σ' H' s' ∧ RelV v u ∧ D.rt v H'

def PE (X : Cx) (e : Expr) (t : TE) : Prop :=
  ∀ (pins : List (Addr × Obj)) (s : Shared) (σ : St) (H : Hp) (Q : VK), Inv X pins σ H s → t σ H Q → wpAny (model X.prog X.w) X.A (eval e X.env) (EP X pins σ Q) X.xe s
def PT (X : Cx) (e : Expr) (t : TT) : Prop :=
  ∀ (pins : List (Addr × Obj)) (s : Shared) (σ : St) (H : Hp) (Q : Bool → Hp → Prop), Inv X pins σ H s → t σ H Q → wpAny (model X.prog X.w) X.A (isTrue e X.env (eval e X.env)) (TP X pins σ Q) X.xe s
def PW (X : Cx) (e : Expr) (t : TT) : Prop :=
  ∀ (whole : Sem Value) (pins : List (Addr × Obj)) (s : Shared) (σ : St) (H : Hp) (Q : Bool → Hp → Prop), Inv X pins σ H s → t σ H Q → wpAny (model X.prog X.w) X.A (isTrue e X.env whole) (TP X pins σ Q) X.xe s
theorem PW.pt {X : Cx} {e : Expr} {t : TT} (h : PW X e t) : PT X e t := h _
def PA (X : Cx) (es : List Expr) (t : TA) : Prop :=
  ∀ (pos : Pos) (pins : List (Addr × Obj)) (s : Shared) (σ : St) (H : Hp) (Q : List V → Hp → Prop), Inv X pins σ H s → t σ H Q → wpAny (model X.prog X.w) X.A (spliced (backTo pos (starEach es X.env))) (AP X pins σ Q) X.xe s
def PS (X : Cx) (st : Stmt) (t : TS) : Prop :=
  ∀ (pins : List (Addr × Obj)) (s : Shared) (σ : St) (H : Hp) (D : Ends), Inv X pins σ H s → t D σ H → wpAny (model X.prog X.w) X.A (exec st X.env) (SP X pins D) X.xe s
def PSs (X : Cx) (st : List Stmt) (t : TS) : Prop :=
  ∀ (pins : List (Addr × Obj)) (s : Shared) (σ : St) (H : Hp) (D : Ends), Inv X pins σ H s → t D σ H → wpAny (model X.prog X.w) X.A (execs st X.env) (SP X pins D) X.xe s
theorem thn {α : Type} {t : Sem α} {Q Q' : α → Shared → Prop} {M : Model} {A : Around} {E : Value → Shared → Prop} {s : Shared} (h : wpAny M A t Q E s) (hQ : ∀ a s, Q a s → Q' a s) : wpAny M A t Q' E s := wpAny_mono h hQ fun _ _ x => x
end L2

namespace L2
open PySem PySem.Spec PyProof.Rows
section
variable {X : Cx}


def tVar (i : Nat) : TE := fun σ H Q => ∃ v, σ[i]? = some (some v) ∧ Q v H
def tC (v : V) : TE := fun _ H Q => Q v H
theorem pe_var {i : Nat} {x : Str} {pos : Pos} (hN : X.N[i]? = some x) (hv : Vis X.env.scope x) (hd : (x == ("__debug__" : Str)) = false := by decide) (hcd : (x == ("__classdict__" : Str)) = false := by decide) : PE X (.Name x pos) (tVar i) := by
  intro pins s σ H Q I h
  obtain ⟨v, e, h⟩ := h
  obtain ⟨m, hn, hl⟩ := I.loc
  obtain ⟨u, r, l⟩ := hl i x v hN e hv
  have fin : EP X pins σ Q u s := ⟨v, H, I, r, h⟩
  rcases l with ⟨hk, hm⟩ | ⟨hk, c, hc, hcell⟩
  · exact wpAny_Name (wpAny_loadName_local I.ok.kind hk hn hm fin) hd
  · rcases hk with hk | hk
    · exact wpAny_Name (wpAny_loadName_cell I.ok.kind hk hc hcell fin) hd
    · exact wpAny_Name (wpAny_loadName_free I.ok.kind hk hc hcell fin hcd) hd
theorem pe_int {i j pos} : PE X (.Constant (.int i) j pos) (tC (.int i)) := fun _ _ _ H _ I h => wpAny_Constant_int ⟨.int i, H, I.tok _, ⟨_, rfl⟩, h⟩
theorem pe_bl {b j pos} : PE X (.Constant (.bool b) j pos) (tC (.bl b)) := fun _ _ _ H _ I h => Constant_bool ⟨.bl b, H, I, rfl, h⟩
theorem pe_non {j pos} : PE X (.Constant .none j pos) (tC .non) := fun _ _ _ H _ I h => Constant_none ⟨.non, H, I, rfl, h⟩
theorem pe_str {x j pos} : PE X (.Constant (.str x) j pos) (tC (.str x)) := fun _ _ _ H _ I h => Calls.Constant_str ⟨.str x, H, I.tok _, ⟨_, rfl⟩, h⟩

def Gl (X : Cx) (x : Str) : Prop := X.env.kindOf x = some .globalImplicit
theorem ld_glob {E : Value → Shared → Prop} {pins : List (Addr × Obj)} {s : Shared} {σ : St} {H : Hp} {x : Str} {u : Value} {pos : Pos} {Q : Value → Shared → Prop} (I : Inv X pins σ H s) (hg : Gl X x) (hm : X.mg x = some u) (h : Q u s)
    (hd : (x == ("__debug__" : Str)) = false := by decide) : wpAny (model X.prog X.w) X.A (eval (.Name x pos) X.env) Q E s :=
  Calls.Name_function_global I.ok.kind hg (Calls.loadGlobal_global (by rw [I.ok.glob]; exact I.mod.glob.keeps I.bk) hm h) hd
theorem ld_blt {E : Value → Shared → Prop} {pins : List (Addr × Obj)} {s : Shared} {σ : St} {H : Hp} {x : Str} {u : Value} {pos : Pos} {Q : Value → Shared → Prop} (I : Inv X pins σ H s) (hg : Gl X x) (hm : X.mg x = none) (hv : bootBuiltins x = some u) (h : Q u s)
    (hn : x ≠ "__name__" := by decide) (hd : (x == ("__debug__" : Str)) = false := by decide) : wpAny (model X.prog X.w) X.A (eval (.Name x pos) X.env) Q E s := by
  obtain ⟨mb, h1, h2⟩ := I.mod.blt
  exact Calls.Name_function_global I.ok.kind hg (Calls.loadGlobal_builtin (by rw [I.ok.glob]; exact I.mod.glob.keeps I.bk) hm (by rw [I.ok.blt]; exact h1.keeps I.bk) ((h2 x hn).trans hv) h) hd
theorem pe_glob {x : Str} {v : V} {u : Value} {pos : Pos} (hg : Gl X x) (hm : X.mg x = some u) (r : RelV v u) (hd : (x == ("__debug__" : Str)) = false := by decide) : PE X (.Name x pos) (tC v) :=
  fun _ _ _ H _ I h => ld_glob I hg hm ⟨v, H, I, r, h⟩ hd
theorem pe_bltn {x : Str} {v : V} {u : Value} {pos : Pos} (hg : Gl X x) (hm : X.mg x = none) (hv : bootBuiltins x = some u) (r : RelV v u) (hn : x ≠ "__name__" := by decide) (hd : (x == ("__debug__" : Str)) = false := by decide) : PE X (.Name x pos) (tC v) :=
  fun _ _ _ H _ I h => ld_blt I hg hm hv ⟨v, H, I, r, h⟩ hn hd

variable {a b : Expr} {ta tb : TE} {pos : Pos}

def tB (t : TE) : TT := fun σ H Q => t σ H fun x H1 => ∃ c, x = .bl c ∧ Q c H1
theorem pt_val {e : Expr} {t : TE} (h : PE X e t) (he : ∀ whole, isTrue e X.env whole = (do let v ← whole; standAt e.pos; holding [v] (truthy v)) := by intro _; rfl) : PT X e (tB t) := by
  intro pins s σ H Q I hw
  refine isTrue_plain (thn (h pins s σ H _ I hw) fun v s1 ⟨x, H1, I1, r1, q1⟩ => ?_) (he _)
  obtain ⟨d, rfl, q⟩ := q1
  cases r1
  exact wpAny_truthy_bool ⟨H1, I1, q⟩

variable {tA tB' : TT} {rest : List Expr}
def tAnd (t u : TT) : TT := fun σ H Q => t σ H fun c H1 => if c = true then u σ H1 Q else Q false H1
def tOr (t u : TT) : TT := fun σ H Q => t σ H fun c H1 => if c = true then Q true H1 else u σ H1 Q
def tNot (t : TT) : TT := fun σ H Q => t σ H fun c H1 => Q (!c) H1
theorem pw_and1 (ha : PT X a tA) : PW X (.BoolOp .And [a] pos) tA := by
  intro wh pins s σ H Q I h
  refine isTrue_and (thn (ha pins s σ H Q I h) fun c s1 e => ?_)
  cases c with
  | true => exact isTrue_and_nil e
  | false => exact e
theorem pw_or1 (ha : PT X a tA) : PW X (.BoolOp .Or [a] pos) tA := by
  intro wh pins s σ H Q I h
  refine isTrue_or (thn (ha pins s σ H Q I h) fun c s1 e => ?_)
  cases c with
  | false => exact isTrue_or_nil e
  | true => exact e
theorem pw_and (ha : PT X a tA) (hb : PW X (.BoolOp .And (b :: rest) pos) tB') : PW X (.BoolOp .And (a :: b :: rest) pos) (tAnd tA tB') := by
  intro wh pins s σ H Q I h
  refine isTrue_and (thn (ha pins s σ H _ I h) fun c s1 ⟨H1, I1, q1⟩ => ?_)
  cases c with
  | true => exact hb wh pins s1 σ H1 Q I1 q1
  | false => exact ⟨H1, I1, q1⟩
theorem pw_or (ha : PT X a tA) (hb : PW X (.BoolOp .Or (b :: rest) pos) tB') : PW X (.BoolOp .Or (a :: b :: rest) pos) (tOr tA tB') := by
  intro wh pins s σ H Q I h
  refine isTrue_or (thn (ha pins s σ H _ I h) fun c s1 ⟨H1, I1, q1⟩ => ?_)
  cases c with
  | true => exact ⟨H1, I1, q1⟩
  | false => exact hb wh pins s1 σ H1 Q I1 q1
theorem pt_not (ha : PT X a tA) : PT X (.UnaryOp .Not a pos) (tNot tA) := by
  intro pins s σ H Q I h
  exact isTrue_not (ha pins s σ H (fun c H1 => Q (!c) H1) I h)
def tAndV (ta tb : TE) : TE := fun σ H Q => ta σ H fun x H1 => ∃ c, x = .bl c ∧ if c = true then tb σ H1 Q else Q (.bl false) H1
def tNotV (ta : TE) : TE := fun σ H Q => ta σ H fun x H1 => ∃ c, x = .bl c ∧ Q (.bl (!c)) H1
theorem pe_one {op} {t : TE} (h : PE X a t) : PE X (.BoolOp op [a] pos) t := fun pins s σ H Q I hw => BoolOp_one (h pins s σ H Q I hw)
theorem pe_and (ha : PE X a ta) (hb : PE X (.BoolOp .And (b :: rest) pos) tb) : PE X (.BoolOp .And (a :: b :: rest) pos) (tAndV ta tb) := by
  intro pins s σ H Q I h
  refine BoolOp_and (thn (ha pins s σ H _ I h) fun v s1 ⟨x, H1, I1, r1, q1⟩ => ?_)
  obtain ⟨c, rfl, q1⟩ := q1
  cases r1
  refine wpAny_truthy_bool ?_
  cases c with
  | true => exact hb pins s1 σ H1 Q I1 q1
  | false => exact ⟨.bl false, H1, I1, rfl, q1⟩
theorem pe_not (ha : PE X a ta) : PE X (.UnaryOp .Not a pos) (tNotV ta) := by
  intro pins s σ H Q I h
  refine UnaryOp_ (thn (ha pins s σ H _ I h) fun v s1 ⟨x, H1, I1, r1, q1⟩ => ?_)
  obtain ⟨c, rfl, q1⟩ := q1
  cases r1
  exact not_of (wpAny_truthy_bool ⟨.bl (!c), H1, I1, rfl, q1⟩)
end
end L2

namespace L2
open PySem PySem.Spec PyProof.Rows

def SqL (K : PySem.W.Frag) (H : Hp) (a : Addr) (xs : List V) : Prop :=
  Rd H a (.lst xs) ∨
    ∃ (o : Obj) (its : Array Value) (n : Nat), K.lookup a = some o ∧ o.cls = .type "list" ∧ o.dict = none ∧ o.data = .seq its n ∧ its.size ≤ sizeLine ∧ Vals xs its.toList
def SqT (K : PySem.W.Frag) (H : Hp) (a : Addr) (xs : List V) : Prop :=
  Rd H a (.tup xs) ∨
    ∃ (o : Obj) (its : Array Value) (n : Nat), K.lookup a = some o ∧ o.cls = .type "tuple" ∧ o.data = .seq its n ∧ its.size ≤ sizeLine ∧ Vals xs its.toList
def absV : Value → Option V
  | .none => some .non
  | .bool b => some (.bl b)
  | .int i _ => some (.int i)
  | .str x _ => some (.str x)
  | .bytes b _ => some (.byt b)
  | .float b _ => some (.flt b)
  | .ref a => some (.ref a)
  | .type n => some (.ty n)
  | _ => none
theorem RelV.abs {x : V} {u : Value} (r : RelV x u) : absV u = some x := by
  cases x with
  | non => cases r; rfl
  | bl _ => cases r; rfl
  | int _ => obtain ⟨t, rfl⟩ := r; rfl
  | str _ => obtain ⟨t, rfl⟩ := r; rfl
  | byt _ => obtain ⟨t, rfl⟩ := r; rfl
  | flt _ => obtain ⟨t, rfl⟩ := r; rfl
  | ref _ => cases r; rfl
  | ty _ => cases r; rfl
theorem RelV.inj {x y : V} {u : Value} (r : RelV x u) (q : RelV y u) : x = y := Option.some.inj (r.abs.symm.trans q.abs)
theorem Vals.inj : ∀ {xs ys : List V} {us : List Value}, Vals xs us → Vals ys us → xs = ys
  | _, _, _, .nil, .nil => rfl
  | _, _, _, .cons r t, .cons r' t' => by rw [r.inj r', Vals.inj t t']
section
variable {X : Cx} {pins : List (Addr × Obj)} {σ : St} {H : Hp} {s : Shared} {a : Addr} {xs ys : List V}
theorem SqL.of {K : PySem.W.Frag} (h : H a = some (.lst xs)) : SqL K H a xs := .inl (.inl h)
theorem SqT.of {K : PySem.W.Frag} (h : H a = some (.tup xs)) : SqT K H a xs := .inl (.inl h)
theorem Inv.list (I : Inv X pins σ H s) (h : SqL X.K H a xs) : ∃ its : List Value, Vals xs its ∧ PlainL s.heap a its.toArray ∧ xs.length ≤ sizeLine := by
  rcases h with h | ⟨o, its, n, hk, hc, hd, hs, hz, r⟩
  · obtain ⟨z, its, n, r, e⟩ := h.ok I.hok
    exact ⟨its, r, ⟨_, n, e, rfl, rfl, rfl⟩, z⟩
  · refine ⟨its.toList, r, ⟨o, n, I.kIn a o hk, hc, hd, by simpa using hs⟩, ?_⟩
    have e := r.length
    simp only [Array.length_toList] at e
    omega
theorem Inv.tuple (I : Inv X pins σ H s) (h : SqT X.K H a xs) : ∃ its : List Value, Vals xs its ∧ IsTup s.heap a its.toArray ∧ xs.length ≤ sizeLine := by
  rcases h with h | ⟨o, its, n, hk, hc, hs, hz, r⟩
  · obtain ⟨z, its, r, p⟩ := h.ok I.hok
    exact ⟨its, r, p, z⟩
  · refine ⟨its.toList, r, ⟨o, I.kIn a o hk, hc, n, by simpa using hs⟩, ?_⟩
    have e := r.length
    simp only [Array.length_toList] at e
    omega
theorem Inv.list_inj (I : Inv X pins σ H s) (h : SqL X.K H a xs) (h' : SqL X.K H a ys) : xs = ys := by
  obtain ⟨its, r, ⟨o, n, e, _, _, d⟩, _⟩ := I.list h
  obtain ⟨its', r', ⟨o', n', e', _, _, d'⟩, _⟩ := I.list h'
  rw [e] at e'; cases e'
  rw [d] at d'
  injection d' with d1 _
  have : its = its' := by simpa using congrArg Array.toList d1
  subst this
  exact r.inj r'
theorem Inv.tuple_inj (I : Inv X pins σ H s) (h : SqT X.K H a xs) (h' : SqT X.K H a ys) : xs = ys := by
  obtain ⟨its, r, ⟨o, e, _, n, d⟩, _⟩ := I.tuple h
  obtain ⟨its', r', ⟨o', e', _, n', d'⟩, _⟩ := I.tuple h'
  rw [e] at e'; cases e'
  rw [d] at d'
  injection d' with d1 _
  have : its = its' := by simpa using congrArg Array.toList d1
  subst this
  exact r.inj r'
end

abbrev Cx.wish (X : Cx) (E : Value → Shared → Prop) : Cx := { X with xe := E }
abbrev Cx.nox (X : Cx) : Cx := X.wish fun _ _ => False
theorem Cx.Ok.wish {X : Cx} (ok : X.Ok) (E : Value → Shared → Prop) : (X.wish E).Ok :=
  ⟨ok.mod, ok.kind, ok.glob, ok.blt, ok.above, ok.inj, ok.has, ok.cab, ok.hd, ok.frames, ok.stk, ok.exf, ok.bs, ok.bsz, ok.noex, ok.exfs, ok.funs, ok.frf⟩
theorem Cx.Ok.unwish {X : Cx} {E : Value → Shared → Prop} (ok : (X.wish E).Ok) : X.Ok :=
  ⟨ok.mod, ok.kind, ok.glob, ok.blt, ok.above, ok.inj, ok.has, ok.cab, ok.hd, ok.frames, ok.stk, ok.exf, ok.bs, ok.bsz, ok.noex, ok.exfs, ok.funs, ok.frf⟩
section
variable {X : Cx} {pins : List (Addr × Obj)} {σ : St} {H : Hp} {s : Shared} {E : Value → Shared → Prop}
theorem Inv.wish (I : Inv X pins σ H s) (E : Value → Shared → Prop) : Inv (X.wish E) pins σ H s := ⟨I.ok.wish E, I.os, I.bare, I.base, I.loc, I.cell, I.free, I.freeC, I.pin, I.hok, I.len⟩
theorem Inv.unwish (I : Inv (X.wish E) pins σ H s) : Inv X pins σ H s := ⟨I.ok.unwish, I.os, I.bare, I.base, I.loc, I.cell, I.free, I.freeC, I.pin, I.hok, I.len⟩
theorem SP.unwish {D : Ends} {f : Flow} {s' : Shared} (h : SP (X.wish E) pins D f s') : SP X pins D f s' := by
  cases f with
  | next => obtain ⟨σ', H', I, q⟩ := h; exact ⟨σ', H', I.unwish, q⟩
  | brk => obtain ⟨σ', H', I, q⟩ := h; exact ⟨σ', H', I.unwish, q⟩
  | cont => obtain ⟨σ', H', I, q⟩ := h; exact ⟨σ', H', I.unwish, q⟩
  | ret u => obtain ⟨v, σ', H', I, r, q⟩ := h; exact ⟨v, σ', H', I.unwish, r, q⟩
theorem PE.nox {e : Expr} {t : TE} (h : PE X.nox e t) : PE X e t := fun pins s σ H Q I hw =>
  wpAny_mono (h pins s σ H Q (I.wish _) hw) (fun _ _ ⟨v, H', I', r, q⟩ => ⟨v, H', I'.unwish, r, q⟩) fun _ _ z => False.elim z
theorem PT.nox {e : Expr} {t : TT} (h : PT X.nox e t) : PT X e t := fun pins s σ H Q I hw =>
  wpAny_mono (h pins s σ H Q (I.wish _) hw) (fun _ _ ⟨H', I', q⟩ => ⟨H', I'.unwish, q⟩) fun _ _ z => False.elim z
theorem PSs.nox {st : List Stmt} {t : TS} (h : PSs X.nox st t) : PSs X st t := fun pins s σ H D I hw =>
  wpAny_mono (h pins s σ H D (I.wish _) hw) (fun _ _ q => q.unwish) fun _ _ z => False.elim z
end

section
variable {X : Cx} {st : Stmt} {rest : List Stmt} {t u : TS} {e : Expr} {te : TE} {pos : Pos}
def tNext : TS := fun D σ H => D.nx σ H
def tSeq (t u : TS) : TS := fun D σ H => t { D with nx := u D } σ H
theorem pss_nil : PSs X [] tNext := fun _ _ σ H _ I h => wpAny_execs_nil ⟨σ, H, I, h⟩
theorem pss_cons (h1 : PS X st t) (h2 : PSs X rest u) : PSs X (st :: rest) (tSeq t u) := by
  intro pins s σ H D I h
  refine wpAny_execs_cons (thn (h1 pins s σ H { D with nx := u D } I h) fun f s1 q => ?_)
  cases f with
  | next =>
    obtain ⟨σ', H', I', q⟩ := q
    exact h2 pins s1 σ' H' D I' q
  | ret v => exact q
  | brk => exact q
  | cont => exact q
theorem pss_one (h1 : PS X st t) : PSs X [st] t := by
  intro pins s σ H D I h
  refine wpAny_execs_cons (thn (h1 pins s σ H D I h) fun f s1 q => ?_)
  cases f with
  | next => exact wpAny_execs_nil q
  | ret v => exact q
  | brk => exact q
  | cont => exact q
theorem Inv.quiet {pins : List (Addr × Obj)} {σ : St} {H : Hp} {s : Shared} (I : Inv X pins σ H s) : interactive X.env = false := by simp [interactive, I.ok.kind]
def tDrop (te : TE) : TS := fun D σ H => te σ H fun _ H1 => D.nx σ H1
theorem ps_expr (he : PE X e te) (hs : swapsWith e none pos.line X.env = pure false := by rfl) : PS X (.Expr e pos) (tDrop te) := by
  intro pins s σ H D I h
  exact wpAny_Expr_any (thn (he pins s σ H _ I h) fun v s1 ⟨x, H1, I1, r1, q1⟩ => ⟨σ, H1, I1, q1⟩) I.quiet hs
def tRet (te : TE) : TS := fun D σ H => te σ H D.rt
theorem ps_ret (he : PE X e te) : PS X (.Return (some e) pos) (tRet te) := by
  intro pins s σ H D I h
  exact wpAny_Return_some (thn (he pins s σ H _ I h) fun v s1 ⟨x, H1, I1, r1, q1⟩ => ⟨x, σ, H1, I1, r1, q1⟩)
def tIfS (c : TT) (t u : TS) : TS := fun D σ H => c σ H fun b H1 => if b = true then t D σ H1 else u D σ H1
theorem ps_if {c : Expr} {a b : List Stmt} {tc : TT} (hc : PT X c tc) (ha : PSs X a t) (hb : PSs X b u) : PS X (.If c a b pos) (tIfS tc t u) := by
  intro pins s σ H D I h
  refine wpAny_If (thn (hc pins s σ H _ I h) fun d s1 ⟨H1, I1, q1⟩ => ?_)
  cases d with
  | true => exact ha pins s1 σ H1 D I1 q1
  | false => exact hb pins s1 σ H1 D I1 q1
def tNever : TS := fun _ _ _ => False
theorem ps_never : PS X st tNever := fun _ _ _ _ _ _ h => h.elim
end

abbrev TG := V → St → Hp → (St → Hp → Prop) → Prop
def PG (X : Cx) (target : Expr) (t : TG) : Prop :=
  ∀ (pins : List (Addr × Obj)) (s : Shared) (σ : St) (H : Hp) (v : V) (u : Value) (Q : St → Hp → Prop), Inv X pins σ H s → RelV v u → t v σ H Q →
    wpAny (model X.prog X.w) X.A (assign target X.env u) (fun _ s' => ∃ σ' H', Inv X pins σ' H' s' ∧ Q σ' H') X.xe s
abbrev TSet := V → V → V → Hp → (Hp → Prop) → Prop
def PSet (X : Cx) (t : TSet) : Prop :=
  ∀ (pins : List (Addr × Obj)) (s : Shared) (σ : St) (H : Hp) (o i v : V) (ov iv u : Value) (Q : Hp → Prop), Inv X pins σ H s → RelV o ov → RelV i iv → RelV v u → t o i v H Q →
    wpAny (model X.prog X.w) X.A (setItem ov iv u) (fun _ s' => ∃ H', Inv X pins σ H' s' ∧ Q H') X.xe s
abbrev TIp := V → V → Hp → VK → Prop
def PIp (X : Cx) (op : Operator) (t : TIp) : Prop :=
  ∀ (pins : List (Addr × Obj)) (s : Shared) (σ : St) (H : Hp) (x y : V) (v u : Value) (Q : VK), Inv X pins σ H s → RelV x v → RelV y u → t x y H Q →
    wpAny (model X.prog X.w) X.A (inplaceOp op v u) (EP X pins σ Q) X.xe s
section
variable {X : Cx} {pos : Pos}
def gName (i : Nat) : TG := fun v σ H Q => Q (σ.set i (some v)) H
theorem pg_name {i : Nat} {x : Str} (hN : X.N.Nodup) (hi : X.N[i]? = some x) (hx : Loc X.env.scope x) (hf : X.fn x = true ∨ X.env.scope.names.lookup x = some .local := by first | exact .inl rfl | exact .inr rfl | assumption) : PG X (.Name x pos) (gName i) := by
  intro pins s σ H v u Q I r h
  exact wpAny_assign_Name (store_ok I hN hi hx r (fun s' I' => ⟨_, H, I', h⟩) hf)
def gSub (to ti : TE) (t : TSet) : TG := fun v σ H Q => to σ H fun o H1 => ti σ H1 fun i H2 => t o i v H2 fun H3 => Q σ H3
theorem pg_sub {o i : Expr} {to ti : TE} {t : TSet} (ho : PE X o to) (hi : PE X i ti) (hs : PSet X t)
    (ha : ∀ v, assign (.Subscript o i pos) X.env v = (do
      let ov ← holding [v] (eval o X.env)
      let iv ← holding [v, ov] (eval i X.env)
      standAt pos
      holding [v, ov, iv] (setItem ov iv v)
      release [v, ov, iv] []) := by intro _; rfl) : PG X (.Subscript o i pos) (gSub to ti t) := by
  intro pins s σ H v u Q I r h
  rw [ha]
  refine wpAny_bind (wpAny_holding (thn (ho pins s σ H _ I h) fun ov s1 ⟨x, H1, I1, r1, q1⟩ => ?_))
  refine wpAny_bind (wpAny_holding (thn (hi pins s1 σ H1 _ I1 q1) fun iv s2 ⟨y, H2, I2, r2, q2⟩ => ?_))
  refine wpAny_bind (wpAny_standAt (wpAny_bind (wpAny_holding (thn (hs pins s2 σ H2 x y v ov iv u _ I2 r1 r2 r q2) fun _ s3 ⟨H3, I3, q3⟩ => ?_))))
  exact wpAny_release ⟨σ, H3, I3, q3⟩
def tAsg (te : TE) (g : TG) : TS := fun D σ H => te σ H fun x H1 => g x σ H1 D.nx
theorem ps_asg {tg e : Expr} {te : TE} {g : TG} (he : PE X e te) (hg : PG X tg g) (hs : swapsWithSole [tg] e pos.line X.env = pure false := by rfl) (hw : swappedStores [tg] e X.env = pure none := by rfl)
    (h1 : (assignEach [tg] X.env).map (·.2) = [assign tg X.env] := by rfl) : PS X (.Assign [tg] e pos) (tAsg te g) := by
  intro pins s σ H D I h
  refine wpAny_Assign_stores (thn (he pins s σ H _ I h) fun v s1 ⟨x, H1, I1, r1, q1⟩ => ?_) hs hw
  rw [h1]
  exact thn (hg pins s1 σ H1 x v _ I1 r1 q1) fun _ s2 q => q
theorem ps_set {i : Nat} {x : Str} {e : Expr} {te : TE} {pos' : Pos} (hN : X.N.Nodup) (hi : X.N[i]? = some x) (hx : Loc X.env.scope x) (he : PE X e te) (hs : swapsWith e (some (.Name x pos')) pos.line X.env = pure false := by rfl) (hf : X.fn x = true ∨ X.env.scope.names.lookup x = some .local := by first | exact .inl rfl | exact .inr rfl | assumption) :
    PS X (.Assign [.Name x pos'] e pos) (tAsg te (gName i)) := by
  intro pins s σ H D I h
  refine wpAny_Assign_Name (thn (he pins s σ H _ I h) fun v s1 ⟨y, H1, I1, r1, q1⟩ => ?_) hs
  exact store_ok I1 hN hi hx r1 (fun s2 I2 => ⟨_, H1, I2, q1⟩) hf
def tAug (i : Nat) (te : TE) (ti : TIp) : TS := fun D σ H => ∃ x, σ[i]? = some (some x) ∧ te σ H fun y H1 => ti x y H1 fun z H2 => D.nx (σ.set i (some z)) H2
theorem ps_aug {i : Nat} {x : Str} {e : Expr} {te : TE} {op : Operator} {ti : TIp} {pos' : Pos} (hN : X.N.Nodup) (hi : X.N[i]? = some x) (hx : Loc X.env.scope x) (he : PE X e te) (ho : PIp X op ti) (hf : X.fn x = true ∨ X.env.scope.names.lookup x = some .local := by first | exact .inl rfl | exact .inr rfl | assumption) :
    PS X (.AugAssign (.Name x pos') op e pos) (tAug i te ti) := by
  intro pins s σ H D I h
  obtain ⟨v, e1, h⟩ := h
  obtain ⟨m, hn, hl⟩ := I.loc
  have vis : Vis X.env.scope x := by rcases hx with k | k; exact .inl k; exact .inr (.inl k)
  obtain ⟨u, r, l⟩ := hl i x v hi e1 vis
  refine wpAny_AugAssign_Name ?_
  have go : wpAny (model X.prog X.w) X.A (eval e X.env) (fun w s₂ => wpAny (model X.prog X.w) X.A (inplaceOp op u w) (fun r s₃ => wpAny (model X.prog X.w) X.A (storeName X.env x r) (fun _ => SP X pins D .next) X.xe s₃) X.xe s₂) X.xe s := by
    refine thn (he pins s σ H _ I h) fun w s1 ⟨y, H1, I1, r1, q1⟩ => ?_
    refine thn (ho pins s1 σ H1 v y u w _ I1 r r1 q1) fun z s2 ⟨zv, H2, I2, r2, q2⟩ => ?_
    exact store_ok I2 hN hi hx r2 (fun s3 I3 => ⟨_, H2, I3, q2⟩) hf
  rcases l with ⟨hk, hm⟩ | ⟨hk, c, hc, hcell⟩
  · exact wpAny_loadName_local I.ok.kind hk hn hm go
  · rcases hk with hk | hk
    · exact wpAny_loadName_cell I.ok.kind hk hc hcell go
    · rcases hx with k | k
      · have : X.env.scope.names.lookup x = some .free := hk
        rw [k] at this; cases this
      · have : X.env.scope.names.lookup x = some .free := hk
        rw [k] at this; cases this
def ipI (f : Int → Int → Int) : TIp := fun x y H Q => ∃ i j, x = .int i ∧ y = .int j ∧ Q (.int (f i j)) H
theorem ip_add : PIp X .Add (ipI fun i j => i + j) := by
  intro pins s σ H x y v u Q I r1 r2 h
  obtain ⟨i, j, e1, e2, q⟩ := h
  subst e1; subst e2
  obtain ⟨t, rfl⟩ := r1
  obtain ⟨t', rfl⟩ := r2
  exact iadd_int ⟨.int _, H, I.tok _, ⟨_, rfl⟩, q⟩
end

section
variable {X : Cx} {pos : Pos}
def tWhile (c : TT) (tb : TS) : TS := fun D σ H => ∃ W : Nat → St → Hp → Prop, (∃ m, W m σ H) ∧ ∀ m σ H, W m σ H →
  c σ H fun b H1 => if b = true then ∃ N : St → Hp → Prop, (∀ σ' H', N σ' H' → ∃ m', m' < m ∧ W m' σ' H') ∧ tb { D with nx := N, ct := N, bk := D.nx } σ H1 else D.nx σ H1
theorem ps_while {c : Expr} {body : List Stmt} {tc : TT} {tb : TS} (hp : PassesOwn (model X.prog X.w) X.A X.env X.xe) (hc : PT X c tc) (hb : PSs X body tb) : PS X (.While c body [] pos) (tWhile tc tb) := by
  intro pins s σ H D I h
  obtain ⟨W, ⟨m0, w0⟩, turn⟩ := h
  refine wpAny_While (codeAny_whileLoop (fun n s' => ∃ σ' H', Inv X pins σ' H' s' ∧ W n σ' H') ?_ m0 ⟨σ, H, I, w0⟩)
  rintro n s1 ⟨σ1, H1, I1, w1⟩
  refine wpAny_passesOwn hp (thn (hc pins s1 σ1 H1 _ I1 (turn n σ1 H1 w1)) fun b s2 ⟨H2, I2, q2⟩ => ?_)
  cases b with
  | true =>
    obtain ⟨N, hN, q2⟩ := q2
    rw [if_pos rfl]
    refine wpAny_passesOwn hp (thn (hb pins s2 σ1 H2 _ I2 q2) fun f s3 q3 => ?_)
    cases f with
    | next =>
      obtain ⟨σ3, H3, I3, n3⟩ := q3
      obtain ⟨m', hm, w3⟩ := hN σ3 H3 n3
      exact ⟨m', hm, σ3, H3, I3, w3⟩
    | cont =>
      obtain ⟨σ3, H3, I3, n3⟩ := q3
      obtain ⟨m', hm, w3⟩ := hN σ3 H3 n3
      exact ⟨m', hm, σ3, H3, I3, w3⟩
    | brk => exact q3
    | ret v => exact q3
  | false =>
    rw [if_neg Bool.false_ne_true]
    exact wpAny_execs_nil ⟨σ1, H2, I2, q2⟩
end

structure It where
  go : Nat → Hp → Prop
  yld : Nat → Hp → V → Hp → Prop
  stop : Nat → Hp → Prop
def FpOk (X : Cx) (pins : List (Addr × Obj)) (H : Hp) (b : Addr) : Prop :=
  H b = none ∧ b ≠ X.env.locals ∧ b ∉ X.fs ∧ (b ∈ X.ex ∨ X.s₀.heap.objs.size ≤ b) ∧ (∀ x c, X.env.cells.lookup x = some c → c ≠ b) ∧ ∀ p ∈ X.pn ++ pins, p.1 ≠ b
theorem Inv.fpOk {X : Cx} {pins : List (Addr × Obj)} {σ : St} {H H' : Hp} {s : Shared} {b : Addr} (I : Inv X pins σ H s) (hb : s.heap.objs.size ≤ b) (hn : H' b = none) : FpOk X pins H' b := by
  refine ⟨hn, Nat.ne_of_gt (Nat.lt_of_lt_of_le I.lt hb), I.nofs hb, .inr (Nat.le_trans I.sz hb), fun x c e z => ?_, fun p hp z => ?_⟩
  · obtain ⟨v, q⟩ := I.cell x c e
    exact absurd (Nat.lt_of_lt_of_le q.lt (by rw [z]; exact hb)) (Nat.lt_irrefl _)
  · exact absurd (Nat.lt_of_lt_of_le (Heap.lt_size (I.pin p hp).1) (by rw [z]; exact hb)) (Nat.lt_irrefl _)
structure Turn (P : Program) (w : World) (K : PySem.W.Frag) (tg : Expr) (J : It) (fp : List Addr) (it : Addr) (tn : Nat → Heap → Prop) : Prop where
  mem : it ∈ fp
  obj : ∀ i h, tn i h → ∀ b ∈ fp, ∃ o, h.get? b = some o ∧ ∀ v, o.data ≠ .cell v
  keep : ∀ i h h', tn i h → (∀ b ∈ fp, ∀ o, h.get? b = some o → h'.get? b = some o) → tn i h'
  item : ∀ (X : Cx), X.prog = P → X.w = w → X.K = K → X.calm = true → ∀ (i : Nat) (pins : List (Addr × Obj)) (s : Shared) (σ : St) (H : Hp) (E : Value → Shared → Prop), Inv X pins σ H s → (∀ b ∈ fp, FpOk X pins H b) → tn i s.heap → J.go i H →
    wpAny (model P w) X.A (pyNext (.ref it)) (fun r s1 => ∃ u, r = some u ∧
      wpAny (model P w) X.A (letOwnedTupleGo tg (.ref it) u) (fun _ s2 => ∃ x H', Inv X pins σ H' s2 ∧ RelV x u ∧ J.yld i H x H' ∧ tn (i + 1) s2.heap ∧ ∀ b ∈ fp, H' b = none) E s1) E s
  done : ∀ (X : Cx), X.prog = P → X.w = w → X.K = K → X.calm = true → ∀ (i : Nat) (pins : List (Addr × Obj)) (s : Shared) (σ : St) (H : Hp) (E : Value → Shared → Prop), Inv X pins σ H s → (∀ b ∈ fp, FpOk X pins H b) → tn i s.heap → J.stop i H →
    wpAny (model P w) X.A (pyNext (.ref it)) (fun r s1 => r = none ∧ Inv X pins σ H s1) E s
  self : ∀ (A : Around) (i : Nat) (s : Shared) (Q : Value → Shared → Prop) (E : Value → Shared → Prop), tn i s.heap → Q (.ref it) s → wpAny (model P w) A (pyIter (.ref it)) Q E s
abbrev TI := St → Hp → (It → Hp → Prop) → Prop
def PIE (X : Cx) (pins : List (Addr × Obj)) (σ : St) (tg : Expr) (R : It → Hp → Prop) (itv : Value) (s2 : Shared) : Prop :=
  ∃ (it : Addr) (fp : List Addr) (tn : Nat → Heap → Prop) (J : It) (H' : Hp), itv = .ref it ∧ Inv X pins σ H' s2 ∧ Turn X.prog X.w X.K tg J fp it tn ∧ tn 0 s2.heap ∧ (∀ b ∈ fp, FpOk X pins H' b) ∧ R J H'
def PI (X : Cx) (tg iter : Expr) (wi : TI) : Prop :=
  ∀ (pins : List (Addr × Obj)) (s : Shared) (σ : St) (H : Hp) (R : It → Hp → Prop), Inv X pins σ H s → wi σ H R →
    wpAny (model X.prog X.w) X.A (eval iter X.env) (fun v s1 => wpAny (model X.prog X.w) X.A (pyIter v) (PIE X pins σ tg R) X.xe s1) X.xe s

theorem go_of {M : Model} {A : Around} {E : Value → Shared → Prop} {s : Shared} {tg : Expr} {it : Addr} {u : Value} {o : Obj} {n : String} {vs : Array Value} {Q : Unit → Shared → Prop} (ho : s.heap.get? it = some o) (hc : o.cls = .type n) (hd : o.data = .fields vs)
    (hn : ["enumerate", "zip", "dict_itemiterator", "dict_reverseitemiterator", "odict_iterator", "itertools.zip_longest", "itertools.pairwise"].contains n = false) (hQ : Q () s) : wpAny M A (letOwnedTupleGo tg (.ref it) u) Q E s := by
  unfold letOwnedTupleGo
  cases tg <;> first
    | exact wpAny_pure hQ
    | (cases u <;> first
        | exact wpAny_pure hQ
        | (refine wpAny_bind (wpAny_load ho ?_)
           rw [hc, hd]
           show wpAny M A (if (["enumerate", "zip", "dict_itemiterator", "dict_reverseitemiterator", "odict_iterator", "itertools.zip_longest", "itertools.pairwise"].contains n && vs[0]? == some (rawInt _)) = true then _ else _) Q E s
           rw [if_neg (by intro h; rw [hn, Bool.false_and] at h; cases h)]
           exact wpAny_pure hQ))

def Itl (K : PySem.W.Frag) (a : Addr) : It :=
  ⟨fun i H => ∃ xs x, SqL K H a xs ∧ xs[i]? = some x, fun i H x H' => H' = H ∧ ∀ xs, SqL K H a xs → xs[i]? = some x, fun i H => ∃ xs, SqL K H a xs ∧ xs.length ≤ i⟩
def Itt (K : PySem.W.Frag) (a : Addr) : It :=
  ⟨fun i H => ∃ xs x, SqT K H a xs ∧ xs[i]? = some x, fun i H x H' => H' = H ∧ ∀ xs, SqT K H a xs → xs[i]? = some x, fun i H => ∃ xs, SqT K H a xs ∧ xs.length ≤ i⟩
def Itr (lo : Int) (n : Nat) : It := ⟨fun i _ => i < n, fun i H x H' => H' = H ∧ x = .int (lo + i), fun i _ => n ≤ i⟩
theorem turn_list {P : Program} {w : World} {K : PySem.W.Frag} {tg : Expr} (a it : Addr) : Turn P w K tg (Itl K a) [it] it (fun i h => h.IsListIter it a i) where
  mem := by simp
  obj := fun i h st b hb => by
    have e : b = it := by simpa using hb
    subst e
    obtain ⟨o, e, c, d⟩ := st
    exact ⟨o, e, fun v z => by rw [d] at z; cases z⟩
  keep := fun i h h' st k => st.at fun o e => k it (by simp) o e
  item := by
    intro X hP hw hK hc i pins s σ H E I hf st hg
    subst hP hw hK
    obtain ⟨xs, x, hq, hx⟩ := hg
    obtain ⟨its, rv, p, hz⟩ := I.list hq
    obtain ⟨u, hu, ru⟩ := rv.get hx
    obtain ⟨f0, f1, f2, f3, f4, f5⟩ := hf it (by simp)
    refine wpAny_pyNext_list_item st p.isList (x := u) (by simpa using hu) fun h' st' sb => ?_
    have I1 : Inv X pins σ H { s with heap := h' } := I.turned (t' := s.toks) (fun b o hb e => (sb.2 b hb).trans e) f0 f1 f3 f4 f5
    obtain ⟨o, e, c, d⟩ := id st'
    exact ⟨u, rfl, go_of (s := { s with heap := h' }) e c d (by decide) ⟨x, H, I1, ru, ⟨rfl, fun ys hy => by rw [I.list_inj hy hq]; exact hx⟩, st', fun b hb => (hf b hb).1⟩⟩
  done := by
    intro X hP hw hK hc i pins s σ H E I hf st hg
    subst hP hw hK
    obtain ⟨xs, hq, hx⟩ := hg
    obtain ⟨its, rv, p, hz⟩ := I.list hq
    obtain ⟨f0, f1, f2, f3, f4, f5⟩ := hf it (by simp)
    have hl := rv.length
    exact wpAny_pyNext_list_end (I.ok.hd hc) st p.isList (by simp; omega) fun h' eb => ⟨rfl, I.turned (t' := s.toks) (fun b o hb e => eb b o hb e) f0 f1 f3 f4 f5⟩
  self := fun _ _ _ _ _ st h => wpAny_pyIter_listiter st h
theorem turn_tuple {P : Program} {w : World} {K : PySem.W.Frag} {tg : Expr} (a it : Addr) : Turn P w K tg (Itt K a) [it] it (fun i h => h.IsTupleIter it a i) where
  mem := by simp
  obj := fun i h st b hb => by
    have e : b = it := by simpa using hb
    subst e
    obtain ⟨o, e, c, d⟩ := st
    exact ⟨o, e, fun v z => by rw [d] at z; cases z⟩
  keep := fun i h h' st k => st.at fun o e => k it (by simp) o e
  item := by
    intro X hP hw hK hc i pins s σ H E I hf st hg
    subst hP hw hK
    obtain ⟨xs, x, hq, hx⟩ := hg
    obtain ⟨its, rv, p, hz⟩ := I.tuple hq
    obtain ⟨u, hu, ru⟩ := rv.get hx
    obtain ⟨f0, f1, f2, f3, f4, f5⟩ := hf it (by simp)
    refine wpAny_pyNext_tuple_item st (show s.heap.IsTuple a its.toArray from p) (x := u) (by simpa using hu) fun h' st' sb => ?_
    have I1 : Inv X pins σ H { s with heap := h' } := I.turned (t' := s.toks) (fun b o hb e => (sb.2 b hb).trans e) f0 f1 f3 f4 f5
    obtain ⟨o, e, c, d⟩ := id st'
    exact ⟨u, rfl, go_of (s := { s with heap := h' }) e c d (by decide) ⟨x, H, I1, ru, ⟨rfl, fun ys hy => by rw [I.tuple_inj hy hq]; exact hx⟩, st', fun b hb => (hf b hb).1⟩⟩
  done := by
    intro X hP hw hK hc i pins s σ H E I hf st hg
    subst hP hw hK
    obtain ⟨xs, hq, hx⟩ := hg
    obtain ⟨its, rv, p, hz⟩ := I.tuple hq
    obtain ⟨f0, f1, f2, f3, f4, f5⟩ := hf it (by simp)
    have hl := rv.length
    exact wpAny_pyNext_tuple_end (I.ok.hd hc) st (show s.heap.IsTuple a its.toArray from p) (by simp; omega) fun h' eb => ⟨rfl, I.turned (t' := s.toks) (fun b o hb e => eb b o hb e) f0 f1 f3 f4 f5⟩
  self := fun _ _ _ _ _ st h => wpAny_pyIter_tupleiter st h
theorem turn_range {P : Program} {w : World} {K : PySem.W.Frag} {tg : Expr} (it : Addr) (lo : Int) (n : Nat) : Turn P w K tg (Itr lo n) [it] it (fun i h => IsRangeIter h it (lo + (i : Nat) * 1) ((n : Int) - (i : Nat)) 1) where
  mem := by simp
  obj := fun i h st b hb => by
    have e : b = it := by simpa using hb
    subst e
    exact ⟨_, st, fun v z => by
      have z' : Data.fields _ = Data.cell v := z
      cases z'⟩
  keep := fun i h h' st k => k it (by simp) _ st
  item := by
    intro X hP hw hK hc i pins s σ H E I hf st hg
    subst hP hw hK
    obtain ⟨f0, f1, f2, f3, f4, f5⟩ := hf it (by simp)
    have W := Walks.range (prog := X.prog) (w := X.w) (I.ok.hd hc) it lo 1 n
    refine W.item i s _ _ hg st fun v h' tk hv st' kk => ?_
    obtain ⟨t, rfl⟩ := hv
    have I1 : Inv X pins σ H { s with heap := h', toks := tk } := I.turned (fun b o hb e => kk b o (by simpa using hb) e) f0 f1 f3 f4 f5
    refine ⟨_, rfl, go_of (s := { s with heap := h', toks := tk }) (n := "range_iterator") st' rfl rfl (by decide) ⟨.int (lo + i), H, I1, ⟨t, ?_⟩, ⟨rfl, rfl⟩, st', fun b hb => (hf b hb).1⟩⟩
    rw [Int.mul_one]
  done := by
    intro X hP hw hK hc i pins s σ H E I hf st hg
    subst hP hw hK
    obtain ⟨f0, f1, f2, f3, f4, f5⟩ := hf it (by simp)
    exact wpAny_pyNext_range_end (I.ok.hd hc) st (by have : n ≤ i := hg; omega) fun h' eb => ⟨rfl, I.turned (t' := s.toks) (fun b o hb e => eb b o hb e) f0 f1 f3 f4 f5⟩
  self := fun _ _ _ _ _ st h => wpAny_pyIter_rangeiter st h
end L2

namespace L2
open PySem PySem.Spec PyProof.Rows
section
variable {X : Cx} {tg : Expr}
def iList (K : PySem.W.Frag) (tl : TE) : TI := fun σ H R => tl σ H fun x H1 => ∃ a, x = .ref a ∧ (∃ xs, SqL K H1 a xs) ∧ R (Itl K a) H1
def iTup (K : PySem.W.Frag) (tl : TE) : TI := fun σ H R => tl σ H fun x H1 => ∃ a, x = .ref a ∧ (∃ xs, SqT K H1 a xs) ∧ R (Itt K a) H1
theorem pi_list {l : Expr} {tl : TE} (hl : PE X l tl) : PI X tg l (iList X.K tl) := by
  intro pins s σ H R I h
  refine thn (hl pins s σ H _ I h) fun v s1 ⟨x, H1, I1, r1, q1⟩ => ?_
  obtain ⟨a, e, ⟨xs, hq⟩, q⟩ := q1
  subst e
  cases r1
  obtain ⟨its, rv, p, hz⟩ := I1.list hq
  refine wpAny_pyIter_list p.isList ?_
  refine ⟨s1.heap.objs.size, [s1.heap.objs.size], _, _, H1, rfl, I1.kept (t' := s1.toks) fun b o e => Heap.get?_push_of_some _ e, turn_list a _, ⟨_, Heap.get?_push_size _ rfl, rfl, rfl⟩, fun b hb => ?_, q⟩
  have e : b = s1.heap.objs.size := by simpa using hb
  subst e
  exact I1.fpOk (Nat.le_refl _) (I1.hok.fresh (Nat.le_refl _))
theorem pi_tup {l : Expr} {tl : TE} (hl : PE X l tl) : PI X tg l (iTup X.K tl) := by
  intro pins s σ H R I h
  refine thn (hl pins s σ H _ I h) fun v s1 ⟨x, H1, I1, r1, q1⟩ => ?_
  obtain ⟨a, e, ⟨xs, hq⟩, q⟩ := q1
  subst e
  cases r1
  obtain ⟨its, rv, p, hz⟩ := I1.tuple hq
  refine wpAny_pyIter_tuple (show s1.heap.IsTuple a its.toArray from p) ?_
  refine ⟨s1.heap.objs.size, [s1.heap.objs.size], _, _, H1, rfl, I1.kept (t' := s1.toks) fun b o e => Heap.get?_push_of_some _ e, turn_tuple a _, ⟨_, Heap.get?_push_size _ rfl, rfl, rfl⟩, fun b hb => ?_, q⟩
  have e : b = s1.heap.objs.size := by simpa using hb
  subst e
  exact I1.fpOk (Nat.le_refl _) (I1.hok.fresh (Nat.le_refl _))
theorem range_it {pins : List (Addr × Obj)} {σ : St} {H : Hp} {s : Shared} {R : It → Hp → Prop} {E : Value → Shared → Prop} {lo hi : Int} {t u v : Tok} {tk : Nat} (I : Inv X pins σ H s) (h1 : -(2 ^ 62) ≤ lo) (h2 : lo < 2 ^ 62) (h3 : -(2 ^ 62) ≤ hi) (h4 : hi < 2 ^ 62)
    (q : R (Itr lo (hi - lo).toNat) H) : wpAny (model X.prog X.w) X.A (pyIter (.ref s.heap.objs.size)) (PIE X pins σ tg R) E { s with heap := s.heap.push { cls := .type "range", data := .fields #[.int lo t, .int hi u, .int 1 v] }, toks := tk } := by
  refine wpAny_pyIter_range (IsRange.new ..) (small_one h1 h2 h3 h4) ?_
  have I1 : Inv X pins σ H { s with heap := s.heap.push { cls := .type "range", data := .fields #[.int lo t, .int hi u, .int 1 v] }, toks := tk } := I.kept fun b o e => Heap.get?_push_of_some _ e
  refine ⟨(s.heap.push { cls := .type "range", data := .fields #[.int lo t, .int hi u, .int 1 v] }).objs.size, [(s.heap.push { cls := .type "range", data := .fields #[.int lo t, .int hi u, .int 1 v] }).objs.size], _, _, H, rfl,
    I1.kept (t' := tk) fun b o e => Heap.get?_push_of_some _ e, turn_range _ lo (hi - lo).toNat, ?_, fun b hb => ?_, q⟩
  · have e1 : lo + ((0 : Nat) : Int) * 1 = lo := by simp
    have e2 : (((hi - lo).toNat : Nat) : Int) - ((0 : Nat) : Int) = Builtin.Range.rangeSize lo hi 1 := by rw [rangeSize_one]; split <;> omega
    show IsRangeIter _ _ (lo + ((0 : Nat) : Int) * 1) ((((hi - lo).toNat : Nat) : Int) - ((0 : Nat) : Int)) 1
    rw [e1, e2]
    exact Heap.get?_push_size _ rfl
  · have e : b = (s.heap.push { cls := .type "range", data := .fields #[.int lo t, .int hi u, .int 1 v] }).objs.size := by simpa using hb
    subst e
    exact I1.fpOk (Nat.le_refl _) (I1.hok.fresh (Nat.le_refl _))
def iRng1 (ta : TA) : TI := fun σ H R => ta σ H fun vs H1 => ∃ j : Int, vs = [.int j] ∧ -(2 ^ 62) ≤ j ∧ j < 2 ^ 62 ∧ R (Itr 0 j.toNat) H1
theorem pi_range1 {a : Expr} {ta : TA} {p pos : Pos} (hg : Gl X "range") (hm : X.mg "range" = none) (ha : PA X [a] ta) (hs : starEach [a] X.env = [(false, eval a X.env)] := by rfl) : PI X tg (.Call (.Name "range" p) [a] [] pos) (iRng1 ta) := by
  intro pins s σ H R I h
  refine Call_ (ld_blt I hg hm boot_range (PyProof.Rows.callWith_type1 (thn (ha pos pins s σ H _ I h) fun us s1 ⟨vs, H1, I1, r1, q1⟩ => ?_) hs rfl))
  obtain ⟨j, e, q1, q2, q⟩ := q1
  subst e
  cases r1 with
  | cons r rr =>
    cases rr
    obtain ⟨t, rfl⟩ := r
    exact call_range_1 (range_it I1 (by omega) (by omega) q1 q2 (by simpa using q))

def tFor (wi : TI) (g : TG) (tb : TS) : TS := fun D σ H => wi σ H fun J H1 => ∃ W : Nat → Nat → St → Hp → Prop, (∃ m, W 0 m σ H1) ∧ ∀ i m σ H, W i m σ H →
  (J.stop i H ∧ D.nx σ H) ∨ (J.go i H ∧ ∃ N : St → Hp → Prop, (∀ σ' H', N σ' H' → ∃ m', m' < m ∧ W (i + 1) m' σ' H') ∧ ∀ x H', J.yld i H x H' → g x σ H' fun σ2 H2 => tb { D with nx := N, ct := N, bk := D.nx } σ2 H2)
def pinsAt (fp : List Addr) (h : Heap) : List (Addr × Obj) := fp.filterMap fun b => (h.get? b).map fun o => (b, o)
theorem mem_pinsAt {fp : List Addr} {h : Heap} {b : Addr} {o : Obj} (hb : b ∈ fp) (e : h.get? b = some o) : (b, o) ∈ pinsAt fp h := List.mem_filterMap.mpr ⟨b, hb, by rw [e]; rfl⟩
theorem of_pinsAt {fp : List Addr} {h : Heap} {p : Addr × Obj} (hp : p ∈ pinsAt fp h) : p.1 ∈ fp ∧ h.get? p.1 = some p.2 := by
  obtain ⟨b, hb, e⟩ := List.mem_filterMap.mp hp
  cases q : h.get? b with
  | none => rw [q] at e; cases e
  | some o =>
    rw [q] at e
    have e' : (b, o) = p := Option.some.inj e
    subst e'
    exact ⟨hb, q⟩
theorem Inv.pinned {pins : List (Addr × Obj)} {σ : St} {H : Hp} {s : Shared} {fp : List Addr} (I : Inv X pins σ H s) (hf : ∀ b ∈ fp, FpOk X pins H b) (ho : ∀ b ∈ fp, ∃ o, s.heap.get? b = some o ∧ ∀ v, o.data ≠ .cell v) : Inv X (pins ++ pinsAt fp s.heap) σ H s :=
  I.pins_of fun p hp => (List.mem_append.mp hp).elim (fun z => I.pin p (List.mem_append_right _ z)) fun z => by
    obtain ⟨hb, e⟩ := of_pinsAt z
    obtain ⟨f0, f1, f2, _⟩ := hf p.1 hb
    obtain ⟨o, e', d⟩ := ho p.1 hb
    rw [e] at e'; cases e'
    exact ⟨e, f0, f1, f2, d⟩
theorem Inv.unpinned {pins pl : List (Addr × Obj)} {σ : St} {H : Hp} {s : Shared} (I : Inv X (pins ++ pl) σ H s) : Inv X pins σ H s := I.pins_of fun p hp => I.pin p (List.mem_append_right _ (List.mem_append_left _ hp))
theorem ps_for {iter : Expr} {body : List Stmt} {wi : TI} {g : TG} {tb : TS} {pos : Pos} (hp : PassesOwn (model X.prog X.w) X.A X.env X.xe) (hc : X.calm = true) (hi : PI X tg iter wi) (hg : PG X tg g) (hb : PSs X body tb)
    (hs : ∀ x, foldedSetIterable iter X.env x = pure x := by intro _; rfl) : PS X (.For tg iter body [] pos) (tFor wi g tb) := by
  intro pins s σ H D I h
  refine wpAny_For (thn (hi pins s σ H _ I h) fun v s1 h1 => thn h1 fun itv s2 h2 => ?_) hs
  obtain ⟨it, fp, tn, J, H2, e, I2, T, st2, f2, W, ⟨m0, w0⟩, turn⟩ := h2
  subst e
  -- what stays true of the iterator's objects through the loop
  have stat : ∀ {H' : Hp}, (∀ b ∈ fp, H' b = none) → ∀ b ∈ fp, FpOk X pins H' b := fun hn b hb => ⟨hn b hb, (f2 b hb).2⟩
  refine codeAny_forLoop_any (fun n s' => ∃ i σ' H', Inv X pins σ' H' s' ∧ tn i s'.heap ∧ (∀ b ∈ fp, H' b = none) ∧ W i n σ' H') ?_ m0 ⟨0, σ, H2, I2, st2, fun b hb => (f2 b hb).1, w0⟩
  rintro n s3 ⟨i, σ3, H3, I3, st3, fr3, w3⟩
  rcases turn i n σ3 H3 w3 with ⟨stop, qn⟩ | ⟨go, N, hN, step⟩
  · refine wpAny_passesOwn hp (thn (T.done X rfl rfl rfl hc i pins s3 σ3 H3 X.xe I3 (stat fr3) st3 stop) fun r s4 ⟨hr, I4⟩ => ?_)
    subst hr
    exact wpAny_execs_nil ⟨σ3, H3, I4, qn⟩
  · refine wpAny_passesOwn hp (thn (T.item X rfl rfl rfl hc i pins s3 σ3 H3 X.xe I3 (stat fr3) st3 go) fun r s4 ⟨u, hr, h4⟩ => ?_)
    subst hr
    refine wpAny_passesOwn hp (thn h4 fun _ s5 ⟨x, H5, I5, r5, y5, st5, fr5⟩ => ?_)
    have I5' := I5.pinned (stat fr5) (T.obj _ _ st5)
    refine wpAny_passesOwn hp (thn (hg _ s5 σ3 H5 x u _ I5' r5 (step x H5 y5)) fun _ s6 ⟨σ6, H6, I6, q6⟩ => ?_)
    refine wpAny_passesOwn hp (thn (hb _ s6 σ6 H6 _ I6 q6) fun f s7 q7 => ?_)
    have again : ∀ {σ7 : St} {H7 : Hp}, Inv X (pins ++ pinsAt fp s5.heap) σ7 H7 s7 → N σ7 H7 → ∃ m, m < n ∧ ∃ i σ' H', Inv X pins σ' H' s7 ∧ tn i s7.heap ∧ (∀ b ∈ fp, H' b = none) ∧ W i m σ' H' := fun {σ7 H7} I7 n7 => by
      obtain ⟨m', hm, w7⟩ := hN σ7 H7 n7
      refine ⟨m', hm, i + 1, σ7, H7, I7.unpinned, T.keep _ _ _ st5 fun b hb o e => (I7.pin (b, o) (List.mem_append_right _ (List.mem_append_right _ (mem_pinsAt hb e)))).1, fun b hb => ?_, w7⟩
      obtain ⟨o, e, d⟩ := T.obj _ _ st5 b hb
      exact (I7.pin (b, o) (List.mem_append_right _ (List.mem_append_right _ (mem_pinsAt hb e)))).2.1
    cases f with
    | next => obtain ⟨σ7, H7, I7, n7⟩ := q7; exact again I7 n7
    | cont => obtain ⟨σ7, H7, I7, n7⟩ := q7; exact again I7 n7
    | brk => obtain ⟨σ7, H7, I7, q7⟩ := q7; exact ⟨σ7, H7, I7.unpinned, q7⟩
    | ret v => obtain ⟨x7, σ7, H7, I7, r7, q7⟩ := q7; exact ⟨x7, σ7, H7, I7.unpinned, r7, q7⟩
end

theorem for_list {K : PySem.W.Frag} {a : Addr} {xs : List V} {g : TG} {tb : TS} {D : Ends} {σ : St} {H : Hp} (Pv : Nat → St → Hp → Prop) (h0 : Pv 0 σ H) (hl : ∀ i σ H, i ≤ xs.length → Pv i σ H → SqL K H a xs)
    (hs : ∀ i x σ H, xs[i]? = some x → Pv i σ H → g x σ H fun σ2 H2 => tb { D with nx := Pv (i + 1), ct := Pv (i + 1), bk := D.nx } σ2 H2) (hd : ∀ σ H, Pv xs.length σ H → D.nx σ H) :
    ∃ W : Nat → Nat → St → Hp → Prop, (∃ m, W 0 m σ H) ∧ ∀ i m σ H, W i m σ H →
      ((Itl K a).stop i H ∧ D.nx σ H) ∨ ((Itl K a).go i H ∧ ∃ N : St → Hp → Prop, (∀ σ' H', N σ' H' → ∃ m', m' < m ∧ W (i + 1) m' σ' H') ∧ ∀ x H', (Itl K a).yld i H x H' → g x σ H' fun σ2 H2 => tb { D with nx := N, ct := N, bk := D.nx } σ2 H2) := by
  refine ⟨fun i m σ H => m = xs.length - i ∧ i ≤ xs.length ∧ Pv i σ H, ⟨xs.length, by simp, Nat.zero_le _, h0⟩, ?_⟩
  rintro i m σ H ⟨rfl, hi, p⟩
  have q := hl i σ H hi p
  by_cases hlt : i < xs.length
  · refine .inr ⟨⟨xs, xs[i], q, by simp [hlt]⟩, Pv (i + 1), fun σ' H' p' => ⟨xs.length - (i + 1), by omega, rfl, hlt, p'⟩, fun x H' y => ?_⟩
    obtain ⟨e, y⟩ := y
    subst e
    exact hs i x σ _ (y xs q) p
  · have e : i = xs.length := by omega
    subst e
    exact .inl ⟨⟨xs, q, Nat.le_refl _⟩, hd σ H p⟩
theorem for_range {lo : Int} {n : Nat} {g : TG} {tb : TS} {D : Ends} {σ : St} {H : Hp} (Pv : Nat → St → Hp → Prop) (h0 : Pv 0 σ H)
    (hs : ∀ i σ H, i < n → Pv i σ H → g (.int (lo + i)) σ H fun σ2 H2 => tb { D with nx := Pv (i + 1), ct := Pv (i + 1), bk := D.nx } σ2 H2) (hd : ∀ σ H, Pv n σ H → D.nx σ H) :
    ∃ W : Nat → Nat → St → Hp → Prop, (∃ m, W 0 m σ H) ∧ ∀ i m σ H, W i m σ H →
      ((Itr lo n).stop i H ∧ D.nx σ H) ∨ ((Itr lo n).go i H ∧ ∃ N : St → Hp → Prop, (∀ σ' H', N σ' H' → ∃ m', m' < m ∧ W (i + 1) m' σ' H') ∧ ∀ x H', (Itr lo n).yld i H x H' → g x σ H' fun σ2 H2 => tb { D with nx := N, ct := N, bk := D.nx } σ2 H2) := by
  refine ⟨fun i m σ H => m = n - i ∧ i ≤ n ∧ Pv i σ H, ⟨n, by simp, Nat.zero_le _, h0⟩, ?_⟩
  rintro i m σ H ⟨rfl, hi, p⟩
  by_cases hlt : i < n
  · refine .inr ⟨hlt, Pv (i + 1), fun σ' H' p' => ⟨n - (i + 1), by omega, rfl, hlt, p'⟩, fun x H' y => ?_⟩
    obtain ⟨e, y⟩ := y
    subst e y
    exact hs i σ _ hlt p
  · have e : i = n := by omega
    subst e
    exact .inl ⟨Nat.le_refl _, hd σ H p⟩
end L2

namespace L2
open PySem PySem.Spec PyProof.Rows

abbrev R2 := V → V → Hp → VK → Prop
def OpR (X : Cx) (f : Value → Value → Sem Value) (r : R2) : Prop :=
  ∀ (pins : List (Addr × Obj)) (s : Shared) (σ : St) (H : Hp) (x y : V) (v u : Value) (Q : VK), Inv X pins σ H s → RelV x v → RelV y u → r x y H Q →
    wpAny (model X.prog X.w) X.A (f v u) (EP X pins σ Q) X.xe s
def UnR (X : Cx) (f : Value → Sem Value) (r : V → Hp → VK → Prop) : Prop :=
  ∀ (pins : List (Addr × Obj)) (s : Shared) (σ : St) (H : Hp) (x : V) (v : Value) (Q : VK), Inv X pins σ H s → RelV x v → r x H Q →
    wpAny (model X.prog X.w) X.A (f v) (EP X pins σ Q) X.xe s
def CallR (X : Cx) (f : Value) (r : List V → Hp → VK → Prop) : Prop :=
  ∀ (pins : List (Addr × Obj)) (s : Shared) (σ : St) (H : Hp) (xs : List V) (us : List Value) (Q : VK), Inv X pins σ H s → Vals xs us → r xs H Q →
    wpAny (model X.prog X.w) X.A (call f us) (EP X pins σ Q) X.xe s
def TruR (X : Cx) (r : V → Hp → (Bool → Hp → Prop) → Prop) : Prop :=
  ∀ (pins : List (Addr × Obj)) (s : Shared) (σ : St) (H : Hp) (x : V) (v : Value) (Q : Bool → Hp → Prop), Inv X pins σ H s → RelV x v → r x H Q →
    wpAny (model X.prog X.w) X.A (truthy v) (TP X pins σ Q) X.xe s

def tOp (r : R2) (ta tb : TE) : TE := fun σ H Q => ta σ H fun x H1 => tb σ H1 fun y H2 => r x y H2 Q
def tUn (r : V → Hp → VK → Prop) (ta : TE) : TE := fun σ H Q => ta σ H fun x H1 => r x H1 Q
def rI (C : Int → Int → Prop) (g : Int → Int → V) : R2 := fun x y H Q => ∃ i j, x = .int i ∧ y = .int j ∧ C i j ∧ Q (g i j) H
def rI0 (g : Int → Int → V) : R2 := fun x y H Q => ∃ i j, x = .int i ∧ y = .int j ∧ Q (g i j) H
def rU (g : Int → V) : V → Hp → VK → Prop := fun x H Q => ∃ i, x = .int i ∧ Q (g i) H

section
variable {X : Cx} {a b c : Expr} {ta tb tc : TE} {pos : Pos}

theorem binT (ha : PE X a ta) (hb : PE X b tb) {pins : List (Addr × Obj)} {s : Shared} {σ : St} {H : Hp} {R : V → V → Hp → Prop} (I : Inv X pins σ H s)
    (h : ta σ H fun x H1 => tb σ H1 fun y H2 => R x y H2) {Q : Value → Shared → Prop} {f : Value → Value → Sem Value}
    (hf : ∀ v u s2 x y H2, Inv X pins σ H2 s2 → RelV x v → RelV y u → R x y H2 → wpAny (model X.prog X.w) X.A (f v u) Q X.xe s2) :
    wpAny (model X.prog X.w) X.A (eval a X.env) (fun v s₁ => wpAny (model X.prog X.w) X.A (eval b X.env) (fun u s₂ => wpAny (model X.prog X.w) X.A (f v u) Q X.xe s₂) X.xe s₁) X.xe s := by
  refine thn (ha pins s σ H _ I h) fun v s1 ⟨x, H1, I1, r1, q1⟩ => ?_
  refine thn (hb pins s1 σ H1 _ I1 q1) fun u s2 ⟨y, H2, I2, r2, q2⟩ => ?_
  exact hf v u s2 x y H2 I2 r1 r2 q2

theorem pe_op {op : Operator} {r : R2} (ho : OpR X (binaryOp op) r) (ha : PE X a ta) (hb : PE X b tb) : PE X (.BinOp a op b pos) (tOp r ta tb) := by
  intro pins s σ H Q I h
  exact wpAny_BinOp (binT ha hb I h fun v u s2 x y H2 I2 rx ry q => ho pins s2 σ H2 x y v u Q I2 rx ry q)
theorem pe_un {op : UnaryOp} {r : V → Hp → VK → Prop} (ho : UnR X (unaryOp op) r) (ha : PE X a ta) : PE X (.UnaryOp op a pos) (tUn r ta) := by
  intro pins s σ H Q I h
  exact UnaryOp_ (thn (ha pins s σ H _ I h) fun v s1 ⟨x, H1, I1, r1, q1⟩ => ho pins s1 σ H1 x v Q I1 r1 q1)

theorem opI {f : Value → Value → Sem Value} {C : Int → Int → Prop} {g : Int → Int → Int}
    (rule : ∀ (i j : Int) (t u : Tok) (s : Shared) (Q : Value → Shared → Prop) (E : Value → Shared → Prop), C i j → Q (.int (g i j) s.toks) { s with toks := s.toks + 1 } → wpAny (model X.prog X.w) X.A (f (.int i t) (.int j u)) Q E s) :
    OpR X f (rI C fun i j => .int (g i j)) := by
  intro pins s σ H x y v u Q I rx ry h
  obtain ⟨i, j, rfl, rfl, hc, q⟩ := h
  obtain ⟨t, rfl⟩ := rx
  obtain ⟨t', rfl⟩ := ry
  exact rule i j t t' s _ _ hc ⟨.int (g i j), H, I.tok _, ⟨_, rfl⟩, q⟩
theorem opI0 {f : Value → Value → Sem Value} {g : Int → Int → Int}
    (rule : ∀ (i j : Int) (t u : Tok) (s : Shared) (Q : Value → Shared → Prop) (E : Value → Shared → Prop), Q (.int (g i j) s.toks) { s with toks := s.toks + 1 } → wpAny (model X.prog X.w) X.A (f (.int i t) (.int j u)) Q E s) :
    OpR X f (rI0 fun i j => .int (g i j)) := by
  intro pins s σ H x y v u Q I rx ry h
  obtain ⟨i, j, rfl, rfl, q⟩ := h
  obtain ⟨t, rfl⟩ := rx
  obtain ⟨t', rfl⟩ := ry
  exact rule i j t t' s _ _ ⟨.int (g i j), H, I.tok _, ⟨_, rfl⟩, q⟩
theorem opB0 {f : Value → Value → Sem Value} {g : Int → Int → Bool}
    (rule : ∀ (i j : Int) (t u : Tok) (s : Shared) (Q : Value → Shared → Prop) (E : Value → Shared → Prop), Q (.bool (g i j)) s → wpAny (model X.prog X.w) X.A (f (.int i t) (.int j u)) Q E s) :
    OpR X f (rI0 fun i j => .bl (g i j)) := by
  intro pins s σ H x y v u Q I rx ry h
  obtain ⟨i, j, rfl, rfl, q⟩ := h
  obtain ⟨t, rfl⟩ := rx
  obtain ⟨t', rfl⟩ := ry
  exact rule i j t t' s _ _ ⟨.bl (g i j), H, I, rfl, q⟩

def CPow (i j : Int) : Prop := 0 ≤ j ∧ j ≤ 1000000 ∧ i.natAbs < 2 ^ 64
def CMul (i j : Int) : Prop := (-(2 ^ 64) < i ∧ i < 2 ^ 64) ∨ (-(2 ^ 64) < j ∧ j < 2 ^ 64)
theorem CMul.ok {i j : Int} (h : CMul i j) : IntMulOk i j := by
  rcases h with ⟨h1, h2⟩ | ⟨h1, h2⟩
  · exact .of_left (intBits_le_64 h1 h2)
  · exact .of_right (intBits_le_64 h1 h2)

theorem op_add : OpR X (binaryOp .Add) (rI0 fun i j => .int (i + j)) := opI0 fun _ _ _ _ _ _ _ q => add_int q
theorem op_sub : OpR X (binaryOp .Sub) (rI0 fun i j => .int (i - j)) := opI0 fun _ _ _ _ _ _ _ q => sub_int q
theorem op_mod : OpR X (binaryOp .Mod) (rI (fun _ j => 0 < j) fun i j => .int (i % j)) := opI fun i j _ _ _ _ _ hc q => by
  have h1 : (0 : Int) < j := hc
  exact mod_int' (by omega) (by rw [Int.fmod_eq_emod_of_nonneg i (by omega)]; exact q)
theorem op_pow : OpR X (binaryOp .Pow) (rI CPow fun i j => .int (i ^ j.toNat)) := opI fun _ _ _ _ _ _ _ hc q => pow_int_small hc.1 hc.2.1 hc.2.2 q


theorem unI {f : Value → Sem Value} {g : Int → Int}
    (rule : ∀ (i : Int) (t : Tok) (s : Shared) (Q : Value → Shared → Prop) (E : Value → Shared → Prop), Q (.int (g i) s.toks) { s with toks := s.toks + 1 } → wpAny (model X.prog X.w) X.A (f (.int i t)) Q E s) :
    UnR X f (rU fun i => .int (g i)) := by
  intro pins s σ H x v Q I rx h
  obtain ⟨i, rfl, q⟩ := h
  obtain ⟨t, rfl⟩ := rx
  exact rule i t s _ _ ⟨.int (g i), H, I.tok _, ⟨_, rfl⟩, q⟩
theorem un_neg : UnR X (unaryOp .USub) (rU fun i => .int (-i)) := unI fun _ _ _ _ _ q => neg_int q

end

def scal : V → V → Bool
  | .non, .non => true | .non, .int _ => true | .int _, .non => true | .non, .bl _ => true | .bl _, .non => true | .non, .str _ => true | .str _, .non => true
  | .int _, .int _ => true | .bl _, .bl _ => true | .str _, .str _ => true | .byt _, .byt _ => true
  | .int _, .str _ => true | .str _, .int _ => true | .bl _, .str _ => true | .str _, .bl _ => true
  | _, _ => false
def rEq : R2 := fun x y H Q => scal x y = true ∧ Q (.bl (decide (x = y))) H
def rNe : R2 := fun x y H Q => scal x y = true ∧ Q (.bl (!decide (x = y))) H

theorem dec_int {i j : Int} : decide (V.int i = V.int j) = (i == j) := by
  rw [Bool.eq_iff_iff]
  simp
theorem dec_bl {i j : Bool} : decide (V.bl i = V.bl j) = (i == j) := by
  rw [Bool.eq_iff_iff]
  simp
theorem dec_str {i j : Str} : decide (V.str i = V.str j) = (i == j) := by
  rw [Bool.eq_iff_iff]
  simp
theorem dec_byt {i j : Array UInt8} : decide (V.byt i = V.byt j) = (i.toList == j.toList) := by
  rw [Bool.eq_iff_iff]
  cases i
  cases j
  simp

section
variable {X : Cx} {a b c : Expr} {ta tb tc : TE} {pos : Pos}
theorem fin_bl {pins : List (Addr × Obj)} {σ : St} {H : Hp} {s : Shared} {Q : VK} {k k' : Bool} (I : Inv X pins σ H s) (q : Q (.bl k) H) (e : k = k') : EP X pins σ Q (.bool k') s := by
  subst e
  exact ⟨.bl k, H, I, rfl, q⟩
theorem op_eq : OpR X (compareOp .Eq) rEq := by
  intro pins s σ H x y v u Q I rx ry h
  obtain ⟨hs, q⟩ := h
  cases x with
  | non =>
    cases rx
    cases y with
    | non => cases ry; exact PySem.EqNone.eq_none_none (fin_bl I q (by simp))
    | bl j => cases ry; exact PySem.EqNone.eq_none_bool (fin_bl I q (by simp))
    | int j => obtain ⟨t', rfl⟩ := ry; exact PySem.EqNone.eq_none_int (fin_bl I q (by simp))
    | str j => obtain ⟨t', rfl⟩ := ry; exact PySem.EqNone.eq_none_str (fin_bl I q (by simp))
    | _ => exact absurd (show false = true from hs) Bool.false_ne_true
  | bl i =>
    cases rx
    cases y with
    | non => cases ry; exact PySem.EqNone.eq_bool_none (fin_bl I q (by simp))
    | bl j => cases ry; exact eq_bool (fin_bl I q dec_bl)
    | str j => obtain ⟨t', rfl⟩ := ry; exact PySem.EqMixed.eq_bool_str (fin_bl I q (by simp))
    | _ => exact absurd (show false = true from hs) Bool.false_ne_true
  | int i =>
    obtain ⟨t, rfl⟩ := rx
    cases y with
    | non => cases ry; exact PySem.EqNone.eq_int_none (fin_bl I q (by simp))
    | int j => obtain ⟨t', rfl⟩ := ry; exact eq_int (fin_bl I q dec_int)
    | str j => obtain ⟨t', rfl⟩ := ry; exact PySem.EqMixed.eq_int_str (fin_bl I q (by simp))
    | _ => exact absurd (show false = true from hs) Bool.false_ne_true
  | str i =>
    obtain ⟨t, rfl⟩ := rx
    cases y with
    | non => cases ry; exact PySem.EqNone.eq_str_none (fin_bl I q (by simp))
    | bl j => cases ry; exact PySem.EqMixed.eq_str_bool (fin_bl I q (by simp))
    | int j => obtain ⟨t', rfl⟩ := ry; exact PySem.EqMixed.eq_str_int (fin_bl I q (by simp))
    | str j => obtain ⟨t', rfl⟩ := ry; exact eq_str (fin_bl I q dec_str)
    | _ => exact absurd (show false = true from hs) Bool.false_ne_true
  | byt i =>
    obtain ⟨t, rfl⟩ := rx
    cases y with
    | byt j => obtain ⟨t', rfl⟩ := ry; exact PySem.W.eq_bytes (fin_bl I q dec_byt)
    | _ => exact absurd (show false = true from hs) Bool.false_ne_true
  | _ => cases y <;> exact absurd (show false = true from hs) Bool.false_ne_true
theorem op_ne : OpR X (compareOp .NotEq) rNe := by
  intro pins s σ H x y v u Q I rx ry h
  obtain ⟨hs, q⟩ := h
  cases x with
  | non =>
    cases rx
    cases y with
    | non => cases ry; exact PySem.EqNone.ne_none_none (fin_bl I q (by simp))
    | bl j => cases ry; exact PySem.EqNone.ne_none_bool (fin_bl I q (by simp))
    | int j => obtain ⟨t', rfl⟩ := ry; exact PySem.EqNone.ne_none_int (fin_bl I q (by simp))
    | str j => obtain ⟨t', rfl⟩ := ry; exact PySem.EqNone.ne_none_str (fin_bl I q (by simp))
    | _ => exact absurd (show false = true from hs) Bool.false_ne_true
  | bl i =>
    cases rx
    cases y with
    | non => cases ry; exact PySem.EqNone.ne_bool_none (fin_bl I q (by simp))
    | bl j => cases ry; exact ne_bool (fin_bl I q (congrArg not dec_bl))
    | str j => obtain ⟨t', rfl⟩ := ry; exact PySem.EqMixed.ne_bool_str (fin_bl I q (by simp))
    | _ => exact absurd (show false = true from hs) Bool.false_ne_true
  | int i =>
    obtain ⟨t, rfl⟩ := rx
    cases y with
    | non => cases ry; exact PySem.EqNone.ne_int_none (fin_bl I q (by simp))
    | int j => obtain ⟨t', rfl⟩ := ry; exact ne_int (fin_bl I q (congrArg not dec_int))
    | str j => obtain ⟨t', rfl⟩ := ry; exact PySem.EqMixed.ne_int_str (fin_bl I q (by simp))
    | _ => exact absurd (show false = true from hs) Bool.false_ne_true
  | str i =>
    obtain ⟨t, rfl⟩ := rx
    cases y with
    | non => cases ry; exact PySem.EqNone.ne_str_none (fin_bl I q (by simp))
    | bl j => cases ry; exact PySem.EqMixed.ne_str_bool (fin_bl I q (by simp))
    | int j => obtain ⟨t', rfl⟩ := ry; exact PySem.EqMixed.ne_str_int (fin_bl I q (by simp))
    | str j => obtain ⟨t', rfl⟩ := ry; exact ne_str (fin_bl I q (congrArg not dec_str))
    | _ => exact absurd (show false = true from hs) Bool.false_ne_true
  | byt i =>
    obtain ⟨t, rfl⟩ := rx
    cases y with
    | byt j => obtain ⟨t', rfl⟩ := ry; exact PySem.W.ne_bytes (fin_bl I q (congrArg not dec_byt))
    | _ => exact absurd (show false = true from hs) Bool.false_ne_true
  | _ => cases y <;> exact absurd (show false = true from hs) Bool.false_ne_true

theorem op_lt : OpR X (compareOp .Lt) (rI0 fun i j => .bl (decide (i < j))) := opB0 fun _ _ _ _ _ _ _ q => lt_int q
theorem op_le : OpR X (compareOp .LtE) (rI0 fun i j => .bl (decide (i ≤ j))) := opB0 fun _ _ _ _ _ _ _ q => le_int q
theorem op_gt : OpR X (compareOp .Gt) (rI0 fun i j => .bl (decide (j < i))) := opB0 fun _ _ _ _ _ _ _ q => gt_int q




theorem nomark (b : Expr) {op : CmpOp} (h : op ≠ .In := by decide) (h2 : op ≠ .NotIn := by decide) : behindInMarks op b = false := by
  have e1 : (op == CmpOp.In) = false := by cases op <;> first | rfl | exact absurd rfl h
  have e2 : (op == CmpOp.NotIn) = false := by cases op <;> first | rfl | exact absurd rfl h2
  cases b <;> simp [behindInMarks, e1, e2]
theorem pe_cmpR {op : CmpOp} {r : R2} (ho : OpR X (compareOp op) r) (ha : PE X a ta) (hb : PE X b tb) (hm : behindInMarks op b = false) : PE X (.Compare a [op] [b] pos) (tOp r ta tb) := by
  intro pins s σ H Q I h
  exact wpAny_Compare1 (binT ha hb I h fun v u s2 x y H2 I2 rx ry q => ho pins s2 σ H2 x y v u Q I2 rx ry q) hm
def tTest (t : TE) : TT := fun σ H Q => t σ H fun x H' => ∃ k, x = .bl k ∧ Q k H'
theorem pt_cmpR {op : CmpOp} {r : R2} (ho : OpR X (compareOp op) r) (ha : PE X a ta) (hb : PE X b tb) (hm : behindInMarks op b = false) : PT X (.Compare a [op] [b] pos) (tTest (tOp r ta tb)) := by
  intro pins s σ H Q I h
  refine wpAny_isTrue_Compare1 (thn (ha pins s σ H _ I h) fun v s1 ⟨x, H1, I1, r1, q1⟩ => thn (hb pins s1 σ H1 _ I1 q1) fun u s2 ⟨y, H2, I2, r2, q2⟩ =>
    thn (ho pins s2 σ H2 x y v u _ I2 r1 r2 q2) fun c s3 ⟨z, H3, I3, r3, k, e, q3⟩ => ?_) hm
  subst e
  cases r3
  exact wpAny_truthy_bool ⟨H3, I3, q3⟩
def tChain (r r' : R2) (ta tb tc : TE) : TE := fun σ H Q => ta σ H fun x H1 => tb σ H1 fun y H2 => r x y H2 fun z H3 => ∃ k, z = .bl k ∧
  (if k = true then tc σ H3 fun w' H4 => r' y w' H4 Q else Q (.bl false) H3)
theorem pe_chain {op op' : CmpOp} {r r' : R2} (ho : OpR X (compareOp op) r) (ho' : OpR X (compareOp op') r') (ha : PE X a ta) (hb : PE X b tb) (hc : PE X c tc)
    (hm : lastMarks [op, op'] [b, c] = false := by with_unfolding_all rfl) : PE X (.Compare a [op, op'] [b, c] pos) (tChain r r' ta tb tc) := by
  intro pins s σ H Q I h
  refine Compare_chain (thn (ha pins s σ H _ I h) fun v s1 ⟨x, H1, I1, r1, q1⟩ => chain_link (thn (hb pins s1 σ H1 _ I1 q1) fun u s2 ⟨y, H2, I2, r2, q2⟩ =>
    thn (ho pins s2 σ H2 x y v u _ I2 r1 r2 q2) fun d s3 ⟨z, H3, I3, r3, k, e, q3⟩ => ?_)) hm
  subst e
  cases r3
  refine wpAny_truthy_bool ?_
  cases k with
  | false => exact ite_ff ⟨.bl false, H3, I3, rfl, q3⟩
  | true => exact ite_tt (chain_last (thn (hc pins s3 σ H3 _ I3 q3) fun w' s4 ⟨z', H4, I4, r4, q4⟩ => ho' pins s4 σ H4 y z' u w' Q I4 r2 r4 q4))

def TruV (K : PySem.W.Frag) (x : V) (H : Hp) (k : Bool) : Prop :=
  match x with
  | .non => k = false
  | .bl b => k = b
  | .int i => k = (i != 0)
  | .str y => y.length ≤ sizeLine ∧ k = ((y.length : Int) != 0)
  | .byt y => y.size ≤ sizeLine ∧ k = ((y.size : Int) != 0)
  | .ref p => (∃ xs, SqL K H p xs ∧ k = !xs.isEmpty) ∨ (∃ xs, SqT K H p xs ∧ k = !xs.isEmpty) ∨ ∃ kvs, H p = some (.dK kvs) ∧ k = !kvs.isEmpty
  | _ => False
theorem isEmpty_kv {κ : Type} {kvs : List (κ × V)} {vs : List (κ × Value)} (r : KV kvs vs) : (!vs.isEmpty) = !kvs.isEmpty := by
  cases r <;> rfl
theorem isEmpty_of {xs : List V} {its : List Value} (r : Vals xs its) : (!its.toArray.isEmpty) = !xs.isEmpty := by
  cases r <;> simp
theorem line63 : (sizeLine : Nat) < 2 ^ 63 := by rw [sizeLine_eq]; decide
theorem tru_ok : TruR X (fun x H Q => ∃ k, TruV X.K x H k ∧ Q k H) := by
  intro pins s σ H x v Q I rx h
  obtain ⟨k, e, q⟩ := h
  have hl := line63
  have hs : sizeLine = 16777216 := sizeLine_eq
  cases x with
  | non =>
    cases rx
    have e' : k = false := e
    subst e'
    exact truthy_none ⟨H, I, q⟩
  | bl b =>
    cases rx
    have e' : k = b := e
    subst e'
    exact wpAny_truthy_bool ⟨H, I, q⟩
  | int i =>
    obtain ⟨t, rfl⟩ := rx
    have e' : k = (i != 0) := e
    subst e'
    exact PySem.P.truthy_int ⟨H, I, q⟩
  | str y =>
    obtain ⟨t, rfl⟩ := rx
    obtain ⟨hy, e'⟩ : y.length ≤ sizeLine ∧ k = ((y.length : Int) != 0) := e
    subst e'
    exact PySem.P.truthy_str (by omega) ⟨H, I.tok _, q⟩
  | byt y =>
    obtain ⟨t, rfl⟩ := rx
    obtain ⟨hy, e'⟩ : y.size ≤ sizeLine ∧ k = ((y.size : Int) != 0) := e
    subst e'
    exact PySem.W.truthy_bytes (by omega) ⟨H, I.tok _, q⟩
  | ref p =>
    cases rx
    have e' : (∃ xs, SqL X.K H p xs ∧ k = !xs.isEmpty) ∨ (∃ xs, SqT X.K H p xs ∧ k = !xs.isEmpty) ∨ ∃ kvs, H p = some (.dK kvs) ∧ k = !kvs.isEmpty := e
    rcases e' with ⟨xs, hx, e'⟩ | ⟨xs, hx, e'⟩ | ⟨kvs, hx, e'⟩
    · subst e'
      obtain ⟨its, r, pl, hz⟩ := I.list hx
      have hlen := r.length
      exact wpAny_truthy_list pl.isList (by simp only [List.size_toArray]; omega) ⟨H, I.tok _, by rw [isEmpty_of r]; exact q⟩
    · subst e'
      obtain ⟨its, r, pl, hz⟩ := I.tuple hx
      have hlen := r.length
      exact truthy_tuple pl (by simp only [List.size_toArray]; omega) ⟨H, I.tok _, by rw [isEmpty_of r]; exact q⟩
    · subst e'
      obtain ⟨hz, hS, vs, r, m⟩ : kvs.length ≤ sizeLine ∧ (p == sysModules) = false ∧ ∃ vs, KV kvs vs ∧ s.heap.DictOf (mixKind X.prog X.w) p vs := I.hok p _ hx
      have hlen : kvs.length = vs.length := Paired.length r
      exact wpAny_truthy_dict hS m (by omega) ⟨H, I.tok _, by rw [isEmpty_kv r]; exact q⟩
  | _ => exact (show False from e).elim
theorem pt_truth (ha : PE X a ta) (he : ∀ whole, isTrue a X.env whole = (do let v ← whole; standAt a.pos; holding [v] (truthy v))) :
    PT X a (fun σ H Q => ta σ H fun x H' => ∃ k, TruV X.K x H' k ∧ Q k H') := by
  intro pins s σ H Q I h
  exact isTrue_plain (thn (ha pins s σ H _ I h) fun v s1 ⟨x, H1, I1, r1, q1⟩ => tru_ok pins s1 σ H1 x v Q I1 r1 q1) (he _)



theorem vals1 {x : V} {us : List Value} (r : Vals [x] us) : ∃ u, us = [u] ∧ RelV x u := by
  cases r with
  | cons r1 r2 => cases r2; exact ⟨_, rfl, r1⟩
theorem vals2 {x y : V} {us : List Value} (r : Vals [x, y] us) : ∃ u w', us = [u, w'] ∧ RelV x u ∧ RelV y w' := by
  cases r with
  | cons r1 r2 =>
    cases r2 with
    | cons r3 r4 => cases r4; exact ⟨_, _, rfl, r1, r3⟩
theorem call_max2 (hc : X.calm = true) : CallR X (.builtin "max") (fun xs H Q => ∃ i j, xs = [.int i, .int j] ∧ Q (.int (if j > i then j else i)) H) := by
  intro pins s σ H xs us Q I r h
  obtain ⟨i, j, rfl, q⟩ := h
  obtain ⟨u, w', rfl, ⟨t, rfl⟩, ⟨t', rfl⟩⟩ := vals2 r
  refine max_two_ints (I.ok.hd hc) fun h' tk k => ⟨_, H, I.kept k, ?_, q⟩
  by_cases hj : j > i
  · rw [if_pos hj, if_pos hj]; exact ⟨_, rfl⟩
  · rw [if_neg hj, if_neg hj]; exact ⟨_, rfl⟩
theorem call_min2 (hc : X.calm = true) : CallR X (.builtin "min") (fun xs H Q => ∃ i j, xs = [.int i, .int j] ∧ Q (.int (if j < i then j else i)) H) := by
  intro pins s σ H xs us Q I r h
  obtain ⟨i, j, rfl, q⟩ := h
  obtain ⟨u, w', rfl, ⟨t, rfl⟩, ⟨t', rfl⟩⟩ := vals2 r
  refine min_two_ints (I.ok.hd hc) fun h' tk k => ⟨_, H, I.kept k, ?_, q⟩
  by_cases hj : j < i
  · rw [if_pos hj, if_pos hj]; exact ⟨_, rfl⟩
  · rw [if_neg hj, if_neg hj]; exact ⟨_, rfl⟩
theorem call_int1 : CallR X (.type "int") (fun xs H Q => (∃ i, xs = [.int i] ∧ Q (.int i) H) ∨ ∃ k, xs = [.bl k] ∧ Q (.int (if k then 1 else 0)) H) := by
  intro pins s σ H xs us Q I r h
  rcases h with ⟨i, rfl, q⟩ | ⟨k, rfl, q⟩
  · obtain ⟨u, rfl, t, rfl⟩ := vals1 r
    exact call_int_int ⟨.int i, H, I, ⟨_, rfl⟩, q⟩
  · obtain ⟨u, rfl, r1⟩ := vals1 r
    cases r1
    exact call_int_bool ⟨.int (if k then 1 else 0), H, I.tok _, ⟨_, rfl⟩, q⟩
theorem call_str_int : CallR X (.type "str") (fun xs H Q => ∃ i, xs = [.int i] ∧ i.natAbs.log2 < 1920 ∧ Q (.str (toString i)) H) := by
  intro pins s σ H xs us Q I r h
  obtain ⟨i, rfl, hz, q⟩ := h
  obtain ⟨u, rfl, t, rfl⟩ := vals1 r
  exact PySem.P.str_of_int hz ⟨.str _, H, I.tok _, ⟨_, rfl⟩, q⟩
end
end L2

namespace L2
open PySem PySem.Spec PyProof.Rows

structure ObjM (h : Heap) (x dx C : Addr) (mA : Str → Option Value) : Prop where
  obj : h.get? x = some (PySem.W.instObj C dx)
  ns : h.Ns1 dx mA
  ne : dx ≠ x

theorem lookIn_ns {h : Heap} {dx : Addr} {mA : Str → Option Value} (n : h.Ns1 dx mA) : ∃ od, h.get? dx = some od ∧ ∀ name, PySem.W.lookIn name od = some (mA name) := by
  obtain ⟨o, es, ep, ho, hd, hk, _, hm⟩ := n
  refine ⟨o, ho, fun name => ?_⟩
  have e := hm name
  unfold nsFind findBy at e
  rw [← Array.find?_toList] at e
  unfold PySem.W.lookIn
  rw [hd]
  dsimp only
  split
  · rename_i y q
    rw [q] at e
    exact congrArg some e
  · rename_i q
    rw [q] at e
    have a : es.toList.any (·.refKey) = false := by
      rw [List.any_eq_false]
      intro y hy
      obtain ⟨z, t, hkey⟩ := hk y (Array.mem_toList_iff.mp hy)
      simp [DictEntry.refKey, hkey]
    have a' : ¬ es.toList.any (·.refKey) = true := by rw [a]; exact Bool.false_ne_true
    rw [if_neg a']
    exact congrArg some e

theorem ObjM.look {h : Heap} {x dx C : Addr} {mA : Str → Option Value} (I : ObjM h x dx C mA) : ∃ od, PySem.W.InstAt h x (PySem.W.instObj C dx) C (some od) ∧ ∀ name, PySem.W.lookIn name od = some (mA name) :=
  let ⟨od, ho, hl⟩ := lookIn_ns I.ns
  ⟨od, ⟨I.obj, rfl, rfl, ho⟩, hl⟩

section
variable {prog : Program} {w : World} {A : Around} {E : Value → Shared → Prop} {s : Shared} {K : PySem.W.Frag} {x dx C f : Addr} {mA : Str → Option Value} {name : Str} {v : Value}





end



section
variable {P : Program} {w : World} {H H' : Hp} {h h' : Heap} {a C dx : Addr} {fs fs' : List (Str × V)}
theorem ins_get (hok : HOk P w H h) (e : H a = some (.ins C dx fs)) : ∃ mA, ObjM h a dx C mA ∧ (∀ f, RelO (fs.lookup f) (mA f)) ∧ PySem.Within mA (fs.map (·.1)) ∧ fs.length ≤ 1000 ∧ H dx = some (.own a) := by
  obtain ⟨d, z, ne, ob, mA, n, r, q⟩ := (show ObjOk P w H h a (.ins C dx fs) from hok a _ e)
  exact ⟨mA, ⟨ob, n, ne⟩, r, q, z, d⟩
end

structure Cls (K : PySem.W.Frag) (C : Addr) : Prop where
  pg : PySem.W.plainGet K C Str.empty = true
  hd : PySem.W.hasDictIn K C = true
  po : PySem.W.plainOver K C = true
  sa : PySem.W.findIn K (.ref C) "__setattr__" = some (some (.builtin "object.__setattr__"))
theorem Cls.get {K : PySem.W.Frag} {C : Addr} (c : Cls K C) (f : Str) : PySem.W.plainGet K C f = true := c.pg
structure Con (K : PySem.W.Frag) (C : Addr) (f : Str) (v : V) (u : Value) : Prop where
  at_ : PySem.W.findIn K (.ref C) f = some (some u)
  rel : RelV v u
  get : PySem.W.specialIn K u "__get__" = some none
  cp : PySem.W.copiedNames.contains f = false
structure Meth (K : PySem.W.Frag) (C : Addr) (m : Str) (f : Addr) : Prop where
  at_ : PySem.W.findIn K (.ref C) m = some (some (.ref f))
  fn : PySem.W.isFn K (.ref f) = true
  kp : PySem.W.keepIn K (.ref f) = true

section
variable {X : Cx} {pins : List (Addr × Obj)} {σ : St} {H : Hp} {s : Shared} {a C dx : Addr} {fs : List (Str × V)} {f : Str} {v : V} {A : Around} {E : Value → Shared → Prop}






end


section
variable {X : Cx} {o e value : Expr} {f : Str} {pos pos' tpos : Pos} {ta tv : TE}

end

section
variable {X : Cx} {pins : List (Addr × Obj)} {σ : St} {H : Hp} {s : Shared} {A : Around} {E : Value → Shared → Prop} {Q : Value → Shared → Prop} {c : Value} {b : Bool}
inductive TyOf (K : PySem.W.Frag) (H : Hp) : V → Value → Prop where
  | non : TyOf K H .non (.type "NoneType")
  | bl (x : Bool) : TyOf K H (.bl x) (.type "bool")
  | int (i : Int) : TyOf K H (.int i) (.type "int")
  | str (x : Str) : TyOf K H (.str x) (.type "str")
  | flt (x : UInt64) : TyOf K H (.flt x) (.type "float")
  | lst {a : Addr} {xs : List V} (e : H a = some (.lst xs)) : TyOf K H (.ref a) (.type "list")
  | frz {a : Addr} {o : Obj} {xs : List V} (e : H a = some (.frz o (.lst xs))) : TyOf K H (.ref a) (.type "list")
  | tup {a : Addr} {xs : List V} (e : H a = some (.tup xs)) : TyOf K H (.ref a) (.type "tuple")
  | dK {a : Addr} {kvs : List (Key × V)} (e : H a = some (.dK kvs)) : TyOf K H (.ref a) (.type "dict")
  | dT {a : Addr} {kvs : List (List Key × V)} (e : H a = some (.dT kvs)) : TyOf K H (.ref a) (.type "dict")
  | ins {a C dx : Addr} {fs : List (Str × V)} (e : H a = some (.ins C dx fs)) (cl : Cls K C) (ha : PySem.W.findIn K (.ref C) "__class__" = some (some (.builtin "object.__class__")))
      (hn : PySem.W.specialIn K (.builtin "object.__class__") "__get__" = some (some (.builtin "getset_descriptor.__get__"))) (htk : PySem.W.takesIn K (.builtin "object.__class__") = some true)
      (hm : PySem.W.mroIn K C (.type "object") = some true) : TyOf K H (.ref a) (.ref C)
theorem isinst_ok {x : V} {u t : Value} (I : Inv X pins σ H s) (rx : RelV x u) (ty : TyOf X.K H x t) (e : PySem.W.kitOne X.K t c = some b) (h : ∀ tk, Q (.bool b) { s with toks := tk }) :
    wpAny (model X.prog X.w) A (call (.builtin "isinstance") [u, c]) Q E s := by
  cases ty with
  | non => cases (show u = Value.none from rx); exact PySem.W.kia_one PySem.W.kitx_none I.kIn True.intro e (fun z => nomatch z) h
  | bl y => cases (show u = Value.bool y from rx); exact PySem.W.kia_one PySem.W.kitx_bool I.kIn True.intro e (fun z => nomatch z) h
  | int i => obtain ⟨t, q⟩ := (show ∃ t, u = Value.int i t from rx); cases q; exact PySem.W.kia_one PySem.W.kitx_int I.kIn True.intro e (fun z => nomatch z) h
  | str y => obtain ⟨t, q⟩ := (show ∃ t, u = Value.str y t from rx); cases q; exact PySem.W.kia_one PySem.W.kitx_str I.kIn True.intro e (fun z => nomatch z) h
  | flt y => obtain ⟨t, q⟩ := (show ∃ t, u = Value.float y t from rx); cases q; exact PySem.W.kia_one PySem.W.kitx_float I.kIn True.intro e (fun z => nomatch z) h
  | @lst a xs ea =>
    cases (show u = Value.ref a from rx)
    obtain ⟨_, _, n, _, h1⟩ := (show ObjOk X.prog X.w H s.heap a (.lst xs) from I.hok a _ ea)
    exact PySem.W.kia_one PySem.W.kitx_list I.kIn ⟨_, h1, rfl⟩ e (fun z => nomatch z) h
  | @frz a ob xs ea =>
    cases (show u = Value.ref a from rx)
    obtain ⟨_, _, _, n, _, h1⟩ := (show ObjOk X.prog X.w H s.heap a (.frz ob (.lst xs)) from I.hok a _ ea)
    exact PySem.W.kia_one PySem.W.kitx_list I.kIn ⟨_, h1, rfl⟩ e (fun z => nomatch z) h
  | @tup a xs ea =>
    cases (show u = Value.ref a from rx)
    obtain ⟨_, _, _, p⟩ := (show ObjOk X.prog X.w H s.heap a (.tup xs) from I.hok a _ ea)
    obtain ⟨o, h1, h2, _⟩ := p
    exact PySem.W.kia_one PySem.W.kitx_tuple I.kIn ⟨o, h1, h2⟩ e (fun z => nomatch z) h
  | @dK a kvs ea =>
    cases (show u = Value.ref a from rx)
    obtain ⟨_, _, vs, _, p⟩ := (show ObjOk X.prog X.w H s.heap a (.dK kvs) from I.hok a _ ea)
    obtain ⟨o, es, ep, h1, h2, _⟩ := p
    exact PySem.W.kia_one PySem.W.kitx_dict I.kIn ⟨o, h1, h2.1⟩ e (fun z => nomatch z) h
  | @dT a kvs ea =>
    cases (show u = Value.ref a from rx)
    obtain ⟨_, _, xs, _, o, es, ep, h1, h2, _⟩ := (show ObjOk X.prog X.w H s.heap a (.dT kvs) from I.hok a _ ea)
    exact PySem.W.kia_one PySem.W.kitx_dict I.kIn ⟨o, h1, h2.1⟩ e (fun z => nomatch z) h
  | @ins a C dx fs ea cl ha hn htk hm =>
    cases (show u = Value.ref a from rx)
    obtain ⟨mA, O, _⟩ := ins_get I.hok ea
    obtain ⟨od, J, _⟩ := O.look
    exact PySem.W.kia_one (PySem.W.kitx_own (cl.get _) cl.hd ha hn htk hm) I.kIn J e (fun z => nomatch z) h
end
end L2

namespace L2
open PySem PySem.Spec PyProof.Rows

structure Room (k : Nat) (A : Around) : Prop where
  hd : A.handled = none
  dp : A.depth + 3 * k + 5 < recursionLimit
  un : A.units + 16 * k + 200 < cLine
  gd : A.guards = some []
theorem Room.mono {j k : Nat} {A : Around} (r : Room k A) (h : j ≤ k) : Room j A := ⟨r.hd, by have := r.dp; omega, by have := r.un; omega, r.gd⟩
theorem Room.deeper {k : Nat} {A : Around} (r : Room (k + 1) A) (env : Env) : Room k (A.deeper env) :=
  ⟨r.hd, by have := r.dp; show A.depth + 1 + 3 * k + 5 < _; omega, by have := r.un; show A.units + 3 + 16 * k + 200 < _; omega, r.gd⟩
theorem Room.in1 {k : Nat} {A : Around} (r : Room (k + 1) A) : Room k A.in1 :=
  ⟨r.hd, by have := r.dp; show A.depth + 3 * k + 5 < _; omega, by have := r.un; show A.units + 1 + 16 * k + 200 < _; omega, r.gd⟩
theorem Room.depth {k : Nat} {A : Around} (r : Room k A) : A.depth < recursionLimit := by have := r.dp; omega
theorem Room.units {k : Nat} {A : Around} (r : Room k A) : A.units + 64 < cLine := by have := r.un; omega
theorem Room.units0 {k : Nat} {A : Around} (r : Room k A) : A.units < cLine := by have := r.un; omega

def tNil : TA := fun _ H Q => Q [] H
def tCons (ta : TE) (tr : TA) : TA := fun σ H Q => ta σ H fun x H1 => tr σ H1 fun xs H2 => Q (x :: xs) H2
section
variable {X : Cx} {e : Expr} {es : List Expr} {te : TE} {t : TA} {pos : Pos}
theorem pa_nil : PA X [] tNil := fun _ _ _ _ H Q I h => Calls.spliced_nil ⟨[], H, I, .nil, h⟩
theorem pa_cons (ha : PE X e te) (hr : PA X es t) (hs : starEach (e :: es) X.env = (false, eval e X.env) :: starEach es X.env := by rfl) : PA X (e :: es) (tCons te t) := by
  intro pos pins s σ H Q I h
  rw [hs]
  show wpAny _ _ (spliced ((false, eval e X.env) :: backTo pos (starEach es X.env))) _ _ s
  refine Calls.spliced_cons (thn (ha pins s σ H _ I h) fun u s1 ⟨x, H1, I1, r1, q1⟩ => ?_)
  exact thn (hr pos pins s1 σ H1 _ I1 q1) fun us s2 ⟨xs, H2, I2, r2, q2⟩ => ⟨x :: xs, H2, I2, .cons r1 r2, q2⟩

def tTup (t : TA) : TE := fun σ H Q => t σ H fun xs H1 => xs.length ≤ sizeLine ∧ ∀ p, H1 p = none → Q (.ref p) (upd H1 p (.tup xs))
def tLst (t : TA) : TE := fun σ H Q => t σ H fun xs H1 => xs.length ≤ sizeLine ∧ ∀ p, H1 p = none → Q (.ref p) (upd H1 p (.lst xs))
theorem pe_tup {x1} (h : PA X es t) : PE X (.Tuple es x1 pos) (tTup t) := by
  intro pins s σ H Q I hq
  refine wpAny_Tuple_spliced (thn (h pos pins s σ H _ I hq) fun us s1 ⟨xs, H1, I1, r, z, q⟩ => ⟨by rw [← r.length]; exact z, ?_⟩)
  have hf : H1 s1.heap.objs.size = none := I1.hok.fresh (Nat.le_refl _)
  refine ⟨.ref s1.heap.objs.size, upd H1 s1.heap.objs.size (.tup xs), I1.laid (t' := s1.toks) (fun b u e => Heap.get?_push_of_some _ e) (Nat.le_refl _) ?_, rfl, q _ hf⟩
  exact ⟨z, us, r, ⟨_, Heap.get?_push_size _ rfl, rfl, _, rfl⟩⟩
theorem pe_lst (h : PA X es t) : PE X (.List es pos) (tLst t) := by
  intro pins s σ H Q I hq
  refine wpAny_List_spliced (thn (h pos pins s σ H _ I hq) fun us s1 ⟨xs, H1, I1, r, z, q⟩ => ⟨by rw [← r.length]; exact z, ?_⟩)
  have hf : H1 s1.heap.objs.size = none := I1.hok.fresh (Nat.le_refl _)
  refine ⟨.ref s1.heap.objs.size, upd H1 s1.heap.objs.size (.lst xs), I1.laid (t' := s1.toks) (fun b u e => Heap.get?_push_of_some _ e) (Nat.le_refl _) ?_, rfl, q _ hf⟩
  exact ⟨z, us, 0, r, Heap.get?_push_size _ rfl⟩
end

abbrev Sp := List V → Hp → VK → XK → Prop
abbrev CXT := List Env → Hp → Shared → XK → Value → Shared → Prop

structure Env0 (P : Program) (w : World) (K : PySem.W.Frag) (mg : Str → Option Value) (base : Heap) (A : Around) (outer : List Env) (s : Shared) (H : Hp) : Prop where
  frames : A.frames = some outer
  mod : Mod K mg base
  bs : ∀ b o, base.get? b = some o → s.heap.get? b = some o ∧ H b = none
  bsz : base.objs.size ≤ s.heap.objs.size
  funs : s.heap.FunFrames base outer
  frf : ∀ b ∈ frs outer, H b = none
  hok : HOk P w H s.heap
  bare : AllBare s.gens
def CE (outer : List Env) (P : Program) (w : World) (H : Hp) (s : Shared) (Q : VK) (u : Value) (s' : Shared) : Prop :=
  ∃ v H', s'.os = s.os ∧ AllBare s'.gens ∧ Un (frs outer) [] H H' s.heap s'.heap ∧ HOk P w H' s'.heap ∧ RelV v u ∧ Q v H'
def CR (CX : CXT) (outer : List Env) (P : Program) (w : World) (H : Hp) (s : Shared) (Q : VK) (E : XK) (r : Result) (s' : Shared) : Prop :=
  match r with
  | .ok (.ret u) => CE outer P w H s Q u s'
  | .ok _ => False
  | .error e => CX outer H s E e s'
structure FnOk (P : Program) (w : World) (K : PySem.W.Frag) (mg : Str → Option Value) (base : Heap) (CX : CXT) (k : Nat) (f : Addr) (fd : FuncData) (ps : List Str) (sp : Sp) : Prop where
  len : ∀ vs H Q E, sp vs H Q E → vs.length = ps.length
  run : ∀ (A : Around) (outer : List Env) (s : Shared) (H : Hp) (args : Args) (us : List Value) (vs : List V) (Q : VK) (E : XK), Room k A → Env0 P w K mg base A outer s H → BindsTo s fd args (ps.zip us) → Vals vs us → sp vs H Q E →
    codeAny (model P w) A (.call (.ref f) args) (CR CX outer P w H s Q E) s
theorem FnOk.mono {P : Program} {w : World} {K : PySem.W.Frag} {mg : Str → Option Value} {base : Heap} {CX : CXT} {j k : Nat} {f : Addr} {fd : FuncData} {ps : List Str} {sp : Sp} (F : FnOk P w K mg base CX j f fd ps sp) (h : j ≤ k) :
    FnOk P w K mg base CX k f fd ps sp := ⟨F.len, fun A outer s H args us vs Q E hr => F.run A outer s H args us vs Q E (hr.mono h)⟩
theorem FnOk.imp {P : Program} {w : World} {K : PySem.W.Frag} {mg : Str → Option Value} {base : Heap} {CX : CXT} {k : Nat} {f : Addr} {fd : FuncData} {ps : List Str} {sp sp' : Sp} (F : FnOk P w K mg base CX k f fd ps sp)
    (h : ∀ vs H Q E, sp' vs H Q E → sp vs H Q E) : FnOk P w K mg base CX k f fd ps sp' :=
  ⟨fun vs H Q E q => F.len vs H Q E (h _ _ _ _ q), fun A outer s H args us vs Q E hr he hb hv hs => F.run A outer s H args us vs Q E hr he hb hv (h _ _ _ _ hs)⟩

theorem Env0.in1 {P : Program} {w : World} {K : PySem.W.Frag} {mg : Str → Option Value} {base : Heap} {A : Around} {outer : List Env} {s : Shared} {H : Hp} (e : Env0 P w K mg base A outer s H) :
    Env0 P w K mg base A.in1 outer s H := ⟨e.frames, e.mod, e.bs, e.bsz, e.funs, e.frf, e.hok, e.bare⟩

section
variable {X : Cx} {pins : List (Addr × Obj)} {σ : St} {H : Hp} {s s' : Shared}
theorem Inv.env0 (I : Inv X pins σ H s) : Env0 X.prog X.w X.K X.mg X.base X.A X.stack s H :=
  ⟨I.ok.frames, I.ok.mod, I.bs, Nat.le_trans I.ok.bsz I.sz, I.stack, I.stkFree, I.hok, I.bare⟩
theorem Inv.after {Q : VK} {u : Value} (I : Inv X pins σ H s) (h : CE X.stack X.prog X.w H s Q u s') : EP X pins σ Q u s' := by
  obtain ⟨v, H', os, bare, un, hok, r, q⟩ := h
  obtain ⟨hh, g, d, t, os'⟩ := s'
  obtain rfl : os' = s.os := os
  exact ⟨v, H', I.call (h' := hh) (g' := g) (d' := d) (t' := t) (ch := []) un hok bare (fun b z => absurd z (by simp)), r, q⟩
end

def tCall (sp : Sp) (dvs : List V) (E : XK) (t : TA) : TE := fun σ H Q => t σ H fun vs H1 => sp (vs ++ dvs) H1 Q E

def Binds (K : PySem.W.Frag) (fd : FuncData) (ps : List Str) (ds : List Value) : Prop :=
  ∀ (s : Shared) (us : List Value), K.In s.heap → (us ++ ds).length = ps.length → BindsTo s fd ⟨us, []⟩ (ps.zip (us ++ ds))
theorem Binds.all {K : PySem.W.Frag} {fd : FuncData} {ps : List Str} (h : ∀ us : List Value, us.length = ps.length → bindArgs fd ⟨us, []⟩ = pure (ps.zip us)) : Binds K fd ps [] := fun s us _ hl => by
  rw [List.append_nil] at hl ⊢
  exact .of_eq (h us hl)

def Passes (CX : CXT) (X : Cx) (E : XK) : Prop := ∀ (pins : List (Addr × Obj)) (σ : St) (H : Hp) (s : Shared) (e : Value) (s' : Shared), Inv X pins σ H s → CX X.stack H s E e s' → X.xe e s'

section
variable {X : Cx} {CX : CXT} {k : Nat} {f C : Addr} {fd : FuncData} {ps : List Str} {sp : Sp} {dvs : List V} {ds : List Value} {E : XK} {x m : Str} {p pos apos : Pos} {e o : Expr} {es : List Expr} {ta : TE} {t : TA}

theorem run_fn {pins : List (Addr × Obj)} {σ : St} {H : Hp} {s : Shared} {Q : VK} {us : List Value} {vs : List V} (F : FnOk X.prog X.w X.K X.mg X.base CX k f fd ps sp) (hr : Room k X.A) (hb : Binds X.K fd ps ds) (hd : Vals dvs ds) (hx : Passes CX X E)
    (I : Inv X pins σ H s) (r : Vals vs us) (h : sp (vs ++ dvs) H Q E) : wpAny (model X.prog X.w) X.A (call (.ref f) us) (EP X pins σ Q) X.xe s := by
  have r2 : Vals (vs ++ dvs) (us ++ ds) := r.append hd
  have hl : (us ++ ds).length = ps.length := by rw [← r2.length]; exact F.len _ _ _ _ h
  refine wpAny_call (codeAny_mono (F.run X.A X.stack s H ⟨us, []⟩ (us ++ ds) (vs ++ dvs) Q E hr I.env0 (hb s us I.kIn hl) r2 h) fun r s' hq => ?_)
  cases r with
  | error e => exact hx pins σ H s e s' I hq
  | ok fl =>
    cases fl with
    | ret u => exact I.after hq
    | next => exact False.elim hq
    | brk => exact False.elim hq
    | cont => exact False.elim hq

theorem pe_call (F : FnOk X.prog X.w X.K X.mg X.base CX k f fd ps sp) (hr : Room k X.A) (hg : Gl X x) (hm : X.mg x = some (.ref f)) (hk : PySem.W.keepIn X.K (.ref f) = true) (hb : Binds X.K fd ps ds) (hd : Vals dvs ds) (hx : Passes CX X E)
    (ha : PA X (e :: es) t) (hdb : (x == ("__debug__" : Str)) = false := by decide) (he : starEach (e :: es) X.env = (false, eval e X.env) :: starEach es X.env := by rfl) (hpl : (backTo pos (starEach es X.env)).any (·.1) = false := by rfl) :
    PE X (.Call (.Name x p) (e :: es) [] pos) (tCall sp dvs E t) := by
  intro pins s σ H Q I h
  refine wpAny_Call_Name_kw (ld_glob I hg hm ?_ hdb)
  refine PySem.W.callWith_K (h₀ := X.base) I.ok.mod.kin hk (thn (ha pos pins s σ H _ I h) fun us s1 ⟨vs, H1, I1, r, q⟩ => ⟨I1.kIn, ?_⟩) he hpl
  exact run_fn F hr hb hd hx I1 r q


structure Mk (K : PySem.W.Frag) (C f : Addr) : Prop where
  makes : PySem.W.makesIn K C = true
  init : PySem.W.findIn K (.ref C) "__init__" = some (some (.ref f))
  fn : PySem.W.isFn K (.ref f) = true
  kp : PySem.W.keepIn K (.ref C) = true

end

section
variable {X : Cx} {CX : CXT} {k : Nat} {f C : Addr} {fd : FuncData} {ps ks : List Str} {sp : Sp} {E : XK} {x m : Str} {p pos apos kpos : Pos} {e o : Expr} {es : List Expr} {kws : List Keyword} {te ta : TE} {t tk : TA} {nm : Option Str}

structure KBinds (K : PySem.W.Frag) (fd : FuncData) (ps ks : List Str) (g : List Value → List Value → List Value) (gV : List V → List V → List V) : Prop where
  to : ∀ (s : Shared) (us ws : List Value), K.In s.heap → (g us ws).length = ps.length → BindsTo s fd ⟨us, ks.zip ws⟩ (ps.zip (g us ws))
  rel : ∀ {vs : List V} {us : List Value} {zs : List V} {ws : List Value}, Vals vs us → Vals zs ws → Vals (gV vs zs) (g us ws)
variable {g : List Value → List Value → List Value} {gV : List V → List V → List V}
end

structure FnScope (N P : List Str) (sc : Scope) : Prop where
  kind : sc.kind = .function
  co : sc.isCoroutine = false
  gen : sc.isGenerator = false
  nd : N.Nodup
  pre : N.take P.length = P
  par : ∀ x ∈ P, sc.names.lookup x = some .local ∨ sc.names.lookup x = some .cell
  nofree : ∀ y ∈ sc.names, y.2 ≠ .free

theorem bindL_out {kindOf : Str → Option NameKind} {x : Str} : ∀ {binds : List (Str × Value)} {m : Str → Option Value}, (∀ v, (x, v) ∉ binds) → bindL kindOf binds m x = m x
  | [], _, _ => rfl
  | (n, v) :: r, m, h => by
    unfold bindL
    rw [bindL_out fun w hw => h w (List.mem_cons_of_mem _ hw)]
    split
    · have : x ≠ n := by rintro rfl; exact h v List.mem_cons_self
      simp [this]
    · rfl
theorem bindC_out {kindOf : Str → Option NameKind} {x : Str} : ∀ {binds : List (Str × Value)} {m : Str → Option Value}, (∀ v, (x, v) ∉ binds) → bindC kindOf binds m x = m x
  | [], _, _ => rfl
  | (n, v) :: r, m, h => by
    unfold bindC
    rw [bindC_out fun w hw => h w (List.mem_cons_of_mem _ hw)]
    split
    · rfl
    · have : x ≠ n := by rintro rfl; exact h v List.mem_cons_self
      simp [this]
theorem bindL_get {kindOf : Str → Option NameKind} {x : Str} {v : Value} : ∀ {P : List Str} {vs : List Value} {i : Nat} {m : Str → Option Value}, P.Nodup → P[i]? = some x → vs[i]? = some v → kindOf x = some .local →
    bindL kindOf (P.zip vs) m x = some v
  | [], _, _, _, _, h, _, _ => by simp at h
  | _ :: _, [], _, _, _, _, h, _ => by simp at h
  | p :: P, w :: vs, 0, m, nd, h1, h2, hk => by
    simp at h1 h2; subst h1; subst h2
    show bindL kindOf ((p, w) :: P.zip vs) m p = _
    unfold bindL
    rw [bindL_out fun v hv => (List.nodup_cons.mp nd).1 (List.of_mem_zip hv).1, if_pos hk]
    simp
  | p :: P, w :: vs, i + 1, m, nd, h1, h2, hk => by
    show bindL kindOf ((p, w) :: P.zip vs) m x = _
    unfold bindL
    exact bindL_get (i := i) (List.nodup_cons.mp nd).2 (by simpa using h1) (by simpa using h2) hk
theorem bindC_get {kindOf : Str → Option NameKind} {x : Str} {v : Value} : ∀ {P : List Str} {vs : List Value} {i : Nat} {m : Str → Option Value}, P.Nodup → P[i]? = some x → vs[i]? = some v → kindOf x ≠ some .local →
    bindC kindOf (P.zip vs) m x = some v
  | [], _, _, _, _, h, _, _ => by simp at h
  | _ :: _, [], _, _, _, _, h, _ => by simp at h
  | p :: P, w :: vs, 0, m, nd, h1, h2, hk => by
    simp at h1 h2; subst h1; subst h2
    show bindC kindOf ((p, w) :: P.zip vs) m p = _
    unfold bindC
    rw [bindC_out fun v hv => (List.nodup_cons.mp nd).1 (List.of_mem_zip hv).1, if_neg hk]
    simp
  | p :: P, w :: vs, i + 1, m, nd, h1, h2, hk => by
    show bindC kindOf ((p, w) :: P.zip vs) m x = _
    unfold bindC
    exact bindC_get (i := i) (List.nodup_cons.mp nd).2 (by simpa using h1) (by simpa using h2) hk

def start (N : List Str) (vs : List V) : St := vs.map some ++ List.replicate (N.length - vs.length) none

def cxOf (CX : CXT) (P : Program) (w : World) (K : PySem.W.Frag) (mg : Str → Option Value) (base : Heap) (N : List Str) (qual : Str) (scope : Scope) (f : Addr) (cd : Value) (A : Around) (outer : List Env) (s : Shared) (H : Hp) (E : XK) : Cx where
  prog := P
  w := w
  K := K
  mg := mg
  base := base
  A := A.deeper (envOfC qual scope s.heap.objs.size f cd)
  N := N
  s₀ := s
  H₀ := H
  env := envOfC qual scope s.heap.objs.size f cd
  outer := outer
  stack := envOfC qual scope s.heap.objs.size f cd :: outer
  ex := []
  calm := true
  fn := fun _ => true
  pn := []
  xe := fun e s' => wpAny (model P w) (A.deeper (envOfC qual scope s.heap.objs.size f cd)) (leaving (envOfC qual scope s.heap.objs.size f cd) e) (fun _ s'' => CX outer H s E e s'') (fun e' s'' => CX outer H s E e' s'') s'

theorem cell_has {sc : Scope} {n : Nat} {x : Str} (h : sc.names.lookup x = some .cell) : ∃ c, (cellsFrom n sc.names []).lookup x = some c := by
  have q := PySem.W.cellsFrom_some sc.names n [] (.inl h)
  exact Option.isSome_iff_exists.mp q

theorem inv_start {CX : CXT} {P : Program} {w : World} {K : PySem.W.Frag} {mg : Str → Option Value} {base : Heap} {N ps : List Str} {qual : Str} {scope : Scope} {f : Addr} {cd : Value} {A : Around} {outer : List Env} {s s1 : Shared} {H : Hp} {E : XK} {us : List Value} {vs : List V}
    (S : FnScope N ps scope) (hd : A.handled = none) (e0 : Env0 P w K mg base A outer s H) (hl : vs.length = ps.length) (r : Vals vs us)
    (x : InCallC s s.heap.objs.size (bindL (envOfC qual scope s.heap.objs.size f cd).kindOf (ps.zip us) fun _ => none) (cellsFrom (s.heap.objs.size + 1) scope.names []) (bindC (envOfC qual scope s.heap.objs.size f cd).kindOf (ps.zip us) fun _ => none) s1) :
    Inv (cxOf CX P w K mg base N qual scope f cd A outer s H E) [] (start N vs) H s1 := by
  have hpl : ps.length ≤ N.length := by have := congrArg List.length S.pre; rw [List.length_take] at this; omega
  obtain ⟨h1, tk, rfl, hk⟩ := x.done
  have noA : ∀ b : Addr, b ∉ (cxOf CX P w K mg base N qual scope f cd A outer s H E).ex := fun b z => absurd (show b ∈ ([] : List Addr) from z) (by simp)
  refine ⟨⟨e0.mod, S.kind, rfl, rfl, Nat.le_refl _, fun y z c h1 h2 => ?_, fun y hy => ?_, fun y c _ h => ?_, fun _ => hd, Around.frames_deeper e0.frames, .inr ⟨rfl, rfl⟩, fun b z => absurd z (noA b), e0.bs, e0.bsz, fun b _ _ => noA b, fun b z => absurd z (noA b), e0.funs, e0.frf⟩,
    rfl, e0.bare, Un.kept hk, ⟨_, x.toInCall.ns, fun i y v h1 h2 h3 => ?_⟩, fun y c h => ⟨_, x.cell y c h⟩, e0.hok.fresh (Nat.le_refl _), fun y c h => ?_, fun p hp => absurd (show p ∈ ([] : List (Addr × Obj)) from hp) (by simp), e0.hok.kept hk, ?_⟩
  · exact name_of_addr x.apart (PySem.mem_of_lookup h1) (PySem.mem_of_lookup h2)
  · have hy : scope.names.lookup y = some .cell ∨ scope.names.lookup y = some .free := hy
    rcases hy with hy | hy
    · exact cell_has hy
    · exact absurd rfl (S.nofree _ (PySem.mem_of_lookup hy))
  · exact Nat.le_of_lt (x.above y c (PySem.mem_of_lookup h))
  · have hi : i < vs.length := by
      unfold start at h2
      by_cases hi : i < vs.length
      · exact hi
      · rw [List.getElem?_append_right (by simpa using hi)] at h2
        rw [List.getElem?_replicate] at h2
        split at h2 <;> cases h2
    have ha : vs[i]? = some v := by
      unfold start at h2
      rw [List.getElem?_append_left (by simpa using hi), List.getElem?_map] at h2
      cases e : vs[i]? with
      | none => rw [e] at h2; cases h2
      | some a => rw [e] at h2; cases h2; rfl
    obtain ⟨u, hu, rv⟩ := r.get ha
    have hp : ps[i]? = some y := by
      rw [← S.pre, List.getElem?_take_of_lt (by omega)]; exact h1
    have ndP : ps.Nodup := by rw [← S.pre]; exact S.nd.sublist (List.take_sublist _ _)
    refine ⟨u, rv, ?_⟩
    rcases S.par y (List.mem_of_getElem? hp) with k | k
    · exact .inl ⟨k, bindL_get ndP hp hu k⟩
    · obtain ⟨c, e⟩ := cell_has (n := s.heap.objs.size + 1) k
      refine .inr ⟨.inl k, c, e, ?_⟩
      have q := x.cell y c e
      rw [bindC_get ndP hp hu (by show scope.names.lookup y ≠ _; rw [k]; decide)] at q
      exact q
  · exact e0.hok.fresh (Nat.le_of_lt (x.above y c (PySem.mem_of_lookup h)))
  · unfold start
    show _ = N.length
    rw [List.length_append, List.length_map, List.length_replicate]
    omega

theorem fn_of {CX : CXT} {P : Program} {w : World} {K : PySem.W.Frag} {mg : Str → Option Value} {base : Heap} {k : Nat} {f : Addr} {name qual : Str} {params : Arguments} {body : List Stmt} {scope : Scope} {dV kV doc pm cdv ct oc : Value} {an od : Option Addr}
    {osl : Array (Option Value)} {N ps : List Str} {sp : Sp} (lk : K.lookup f = some ⟨oc, od, .func (PySem.W.fnOf name qual params body scope dV kV doc pm an cdv ct), osl⟩) (hcd : PySem.W.codeIn K cdv qual = true) (S : FnScope N ps scope)
    (len : ∀ vs H Q E, sp vs H Q E → vs.length = ps.length)
    (hbody : ∀ (A : Around) (outer : List Env) (s : Shared) (H : Hp) (vs : List V) (Q : VK) (E : XK), Room k (A.deeper (envOfC qual scope s.heap.objs.size f cdv)) → sp vs H Q E →
      ∃ t, PSs (cxOf CX P w K mg base N qual scope f cdv A outer s H E) body t ∧ t { nx := fun _ H' => Q .non H', rt := Q } (start N vs) H) :
    FnOk P w K mg base CX (k + 1) f (PySem.W.fnOf name qual params body scope dV kV doc pm an cdv ct) ps sp := by
  refine ⟨len, fun A outer s H args us vs Q E hr e0 hb r hsp => ?_⟩
  have hl := len _ _ _ _ hsp
  have KX : K.In s.heap := e0.mod.kin.keeps fun b o e => (e0.bs b o e).1
  have lim : s.heap.NoLimit := e0.mod.nolimit.keeps fun b o e => (e0.bs b o e).1
  have hkind : ∀ y ∈ ps.zip us, scope.names.lookup y.1 = some .local ∨ (scope.names.lookup y.1 = some .cell ∧ ((cellsFrom (s.heap.objs.size + 1) scope.names []).lookup y.1).isSome = true) := fun ⟨n, v⟩ hy => by
    rcases S.par n (List.of_mem_zip hy).1 with q | q
    · exact .inl q
    · exact .inr ⟨q, PySem.W.cellsFrom_some _ _ _ (.inl q)⟩
  refine codeAny_call_function hr.depth (KX _ _ lk) rfl S.co S.gen rfl (PySem.W.codeRec_of KX hcd) (hb _ _ _ _ ?_)
  refine wpAny_newFunctionEnv_cells S.kind hkind fun env he s1 x => ?_
  subst he
  refine ⟨lim.keeps x.toInCall.keep, codeAny_func ?_⟩
  obtain ⟨t, ht, hq⟩ := hbody A outer s H vs Q E (hr.deeper _) hsp
  have I : Inv (cxOf CX P w K mg base N qual scope f cdv A outer s H E) [] (start N vs) H s1 := inv_start S hr.hd e0 hl r x
  refine wpAny_mono (ht [] s1 (start N vs) H _ I hq) (fun fl s' hs => ?_) fun e s' hs => hs
  have fin : ∀ {σ' : St} {H' : Hp} {v : V} {u : Value}, Inv (cxOf CX P w K mg base N qual scope f cdv A outer s H E) [] σ' H' s' → RelV v u → Q v H' → CE outer P w H s Q u s' :=
    fun {σ' H' v u} J rv q => ⟨v, H', J.os, J.bare, J.base, J.hok, rv, q⟩
  cases fl with
  | ret u =>
    obtain ⟨v, σ', H', J, rv, q⟩ := hs
    exact fin J rv q
  | next =>
    obtain ⟨σ', H', J, q⟩ := hs
    exact fin (v := V.non) (u := Value.none) J rfl q
  | brk =>
    obtain ⟨_, _, _, q⟩ := hs
    exact False.elim q
  | cont =>
    obtain ⟨_, _, _, q⟩ := hs
    exact False.elim q
end L2

namespace L2
open PySem PySem.Spec PyProof.Rows
section
variable {X : Cx} {x : Str} {p pos : Pos} {e : Expr} {es : List Expr} {t : TA} {id T : String} {r : List V → Hp → VK → Prop}

def tCB (r : List V → Hp → VK → Prop) (t : TA) : TE := fun σ H Q => t σ H fun vs H1 => r vs H1 Q
theorem pe_callB (hc : CallR X (.builtin id) r) (hg : Gl X x) (hm : X.mg x = none) (hv : bootBuiltins x = some (.builtin id)) (ha : PA X (e :: es) t) (hn : x ≠ "__name__" := by decide) (hdb : (x == ("__debug__" : Str)) = false := by decide)
    (he : starEach (e :: es) X.env = (false, eval e X.env) :: starEach es X.env := by rfl) (hpl : (backTo pos (starEach es X.env)).any (·.1) = false := by rfl) : PE X (.Call (.Name x p) (e :: es) [] pos) (tCB r t) := by
  intro pins s σ H Q I h
  refine wpAny_Call_Name_kw (ld_blt I hg hm hv ?_ hn hdb)
  exact PyProof.Rows.callWith_builtin1 (thn (ha pos pins s σ H _ I h) fun us s1 ⟨vs, H1, I1, r1, q1⟩ => hc pins s1 σ H1 vs us Q I1 r1 q1) he hpl
theorem pe_callTy (hc : CallR X (.type T) r) (hg : Gl X x) (hm : X.mg x = none) (hv : bootBuiltins x = some (.type T)) (ha : PA X (e :: es) t) (hn : x ≠ "__name__" := by decide) (hdb : (x == ("__debug__" : Str)) = false := by decide)
    (he : starEach (e :: es) X.env = (false, eval e X.env) :: starEach es X.env := by rfl) (hpl : (backTo pos (starEach es X.env)).any (·.1) = false := by rfl) : PE X (.Call (.Name x p) (e :: es) [] pos) (tCB r t) := by
  intro pins s σ H Q I h
  refine wpAny_Call_Name_kw (ld_blt I hg hm hv ?_ hn hdb)
  exact PyProof.Rows.callWith_type1 (thn (ha pos pins s σ H _ I h) fun us s1 ⟨vs, H1, I1, r1, q1⟩ => hc pins s1 σ H1 vs us Q I1 r1 q1) he hpl
end
end L2

namespace HT
open PySem PyProof.Rows



section
open PySem.SeqAt
open PySem.AutoSeq1 (wpAny_loadPart')
open PySem.MeetsSeq PySem.MeetsSeq2 PySem.MeetsSeq3

end

section
variable {prog : Program} {w : World} {A : Around} {E : Value → Shared → Prop} {s : Shared}


theorem cat_tup {t b : Addr} {vs ws : List Value} {Q : Value → Shared → Prop} (ht : IsTup s.heap t vs.toArray) (hb : IsTup s.heap b ws.toArray) (hv : vs ≠ [])
    (h1 : ws = [] → Q (.ref t) s) (h2 : ws ≠ [] → Q (.ref s.heap.objs.size) { s with heap := s.heap.push { cls := .type "tuple", data := .seq (vs ++ ws).toArray } })
    (hsz : vs.length + ws.length ≤ sizeLine) : wpAny (model prog w) A (binaryOp .Add (.ref t) (.ref b)) Q E s := by
  obtain ⟨⟨cls, dd, data, sl⟩, ho, hc, n, hd⟩ := id ht
  obtain ⟨⟨cls2, dd2, data2, sl2⟩, ho2, hc2, n2, hd2⟩ := id hb
  simp only at hc hd hc2 hd2
  subst hc hd hc2 hd2
  have e : vs.toArray ++ ws.toArray = (vs ++ ws).toArray := by simp
  by_cases hw : ws = []
  · exact concat_meets ⟨_, ho, rfl⟩ ⟨_, ho2, rfl⟩ noFill_tuple_add seq_tuple_add PySem.F.slot_tuple_add PySem.F.entry_tuple_add (PySem.F.args_tuple_add_2 _ _)
      (tuple_addW1 t b vs.toArray ws.toArray n n2 dd dd2 sl sl2 (by simpa using hv) (by simp [hw])) ⟨ho, ho2, h1 hw⟩
  · refine concat_meets ⟨_, ho, rfl⟩ ⟨_, ho2, rfl⟩ noFill_tuple_add seq_tuple_add PySem.F.slot_tuple_add PySem.F.entry_tuple_add (PySem.F.args_tuple_add_2 _ _)
      (tuple_addW2 t b vs.toArray ws.toArray n n2 dd dd2 sl sl2 (by simpa using hv) (by simpa using hw) (by rw [List.size_toArray, List.size_toArray]; exact hsz)) ⟨ho, ho2, ?_⟩
    rw [e]
    exact h2 hw

def sIx (n d : Nat) : Option Int → Nat
  | none => d
  | some v => if v < 0 then (v + (n : Int)).toNat else min v.toNat n
theorem sIx_none (n d : Nat) : sIx n d none = d := rfl
theorem sIx_nat (n d k : Nat) : sIx n d (some (k : Int)) = min k n := by
  show (if (k : Int) < 0 then ((k : Int) + (n : Int)).toNat else min (k : Int).toNat n) = min k n
  rw [if_neg (by omega), Int.toNat_natCast]
theorem sIx_le (n d : Nat) (hd : d ≤ n) (o : Option Int) : sIx n d o ≤ n := by
  cases o with
  | none => exact hd
  | some v =>
    show (if v < 0 then (v + (n : Int)).toNat else min v.toNat n) ≤ n
    by_cases hv : v < 0
    · rw [if_pos hv]; omega
    · rw [if_neg hv]; exact Nat.min_le_right _ _
theorem clip_eq (v : Int) (n d : Nat) : (if v < 0 then max (v + (n : Int)) 0 else min v (n : Int)) = ((sIx n d (some v) : Nat) : Int) := by
  show (if v < 0 then max (v + (n : Int)) 0 else min v (n : Int)) = (((if v < 0 then (v + (n : Int)).toNat else min v.toNat n) : Nat) : Int)
  by_cases hv : v < 0
  · simp only [if_pos hv]; omega
  · simp only [if_neg hv]; omega
theorem adjust_gen (lo hi : Option Int) (n : Nat) : Builtin.Slice.sliceAdjust lo hi 1 (n : Int) = (((sIx n 0 lo : Nat) : Int), ((sIx n n hi : Nat) : Int)) := by
  have h1 : ¬ ((1 : Int) < 0) := by omega
  unfold Builtin.Slice.sliceAdjust
  simp only [h1, if_false]
  refine Prod.ext ?_ ?_
  · cases lo with
    | none => rfl
    | some v => exact clip_eq v n 0
  · cases hi with
    | none => rfl
    | some v => exact clip_eq v n n
theorem places_gen (i j : Nat) : Builtin.Slice.slicePlaces (i : Int) (j : Int) 1 = j - i := by
  unfold Builtin.Slice.slicePlaces
  have h1 : (1 : Int) > 0 := by omega
  simp only [h1, if_true, Int.ediv_one]
  split <;> omega
theorem slicePart_ {v : Value} {o : Option Int} {Q : Option Int → Shared → Prop} (p : IsPart v o) (h : Q o s) : wpAny (model prog w) A (Builtin.Slice.slicePartIndex v) Q E s := by
  cases p with
  | none => exact slicePart_none h
  | int i t => exact slicePart_int h
theorem sliceApplied_gen {sl : Addr} {vl vu : Value} {lo hi : Option Int} {n : Nat} {Q : Int × Int × Nat → Shared → Prop} (hs : s.heap.IsSliceOf sl vl vu .none) (pl : IsPart vl lo) (pu : IsPart vu hi)
    (h : Q (((sIx n 0 lo : Nat) : Int), 1, sIx n n hi - sIx n 0 lo) s) : wpAny (model prog w) A (Builtin.Slice.sliceApplied (.ref sl) (pure (n : Int))) Q E s := by
  obtain ⟨os, hos, hcs, hds⟩ := id hs
  unfold Builtin.Slice.sliceApplied Builtin.Slice.sliceFields
  refine wpAny_bind (wpAny_bind (wpAny_field hos hds (x := vl) rfl (wpAny_bind (wpAny_field hos hds (x := vu) rfl (wpAny_bind (wpAny_field hos hds (x := .none) rfl (wpAny_pure ?_)))))))
  refine wpAny_bind (slicePart_none ?_)
  show wpAny _ _ (if ((1 : Int) == 0) = true then _ else _) _ _ s
  rw [if_neg (by decide)]
  refine wpAny_bind (slicePart_ pl (wpAny_bind (slicePart_ pu (wpAny_bind (wpAny_pure ?_)))))
  show wpAny _ _ (match Builtin.Slice.sliceAdjust lo hi 1 (n : Int) with | (lo, hi) => pure (lo, (1 : Int), Builtin.Slice.slicePlaces lo hi 1)) _ _ s
  rw [adjust_gen lo hi n]
  show wpAny _ _ (pure (((sIx n 0 lo : Nat) : Int), (1 : Int), Builtin.Slice.slicePlaces ((sIx n 0 lo : Nat) : Int) ((sIx n n hi : Nat) : Int) 1)) _ _ s
  rw [places_gen]
  exact wpAny_pure h
theorem pick_gen (xs : Array Value) (i k : Nat) : ((List.range k).filterMap fun (m : Nat) => xs[((i : Int) + (m : Int) * 1).toNat]?).toArray = ((xs.toList.drop i).take k).toArray := by
  have e : (fun (m : Nat) => xs[((i : Int) + (m : Int) * 1).toNat]?) = fun m => xs[i + m]? := by
    funext m
    have : ((i : Int) + (m : Int) * 1).toNat = i + m := by omega
    rw [this]
  rw [e]
  have := pick_run xs i k
  rw [List.filterMap_map] at this
  have e2 : ((fun x => xs[x]?) ∘ fun x => i + x) = fun m => xs[i + m]? := rfl
  rw [e2] at this
  rw [this]

theorem getItem_tuple_cut {t sl : Addr} {items : Array Value} {vl vu : Value} {lo hi : Option Int} {Q : Value → Shared → Prop} (ht : IsTup s.heap t items) (hs : s.heap.IsSliceOf sl vl vu .none) (pl : IsPart vl lo) (pu : IsPart vu hi)
    (hw : ¬ (sIx items.size 0 lo = 0 ∧ sIx items.size items.size hi = items.size))
    (h : Q (.ref s.heap.objs.size) { s with heap := s.heap.push { cls := .type "tuple", data := .seq ((items.toList.drop (sIx items.size 0 lo)).take (sIx items.size items.size hi - sIx items.size 0 lo)).toArray } })
    (hsz : items.size ≤ sizeLine) : wpAny (model prog w) A (getItem (.ref t) (.ref sl)) Q E s := by
  have htake : sizeOk (.seq ((items.toList.drop (sIx items.size 0 lo)).take (sIx items.size items.size hi - sIx items.size 0 lo)).toArray) := by
    show ((items.toList.drop (sIx items.size 0 lo)).take (sIx items.size items.size hi - sIx items.size 0 lo)).toArray.size ≤ sizeLine
    rw [List.size_toArray, List.length_take, List.length_drop, Array.length_toList]
    omega
  have hj : sIx items.size items.size hi ≤ items.size := sIx_le _ _ (Nat.le_refl _) hi
  obtain ⟨os, hos, hcs, hds⟩ := id hs
  have hTs : s.TypeIs (.ref sl) "slice" := ⟨os, hos, hcs⟩
  unfold getItem
  try with_reducible refine wpAny_holding ?_
  first | refine wpAny_bind (wpAny_pure ?_) | skip
  refine wpAny_bind (wpAny_sequenceKey ht.typeIs (by decide) ?_)
  refine wpAny_bind (wpAny_callSpecial?_slot (name := Str.ofString "__getitem__") ht.typeIs PyProof.Rows.slot_tuple_getitem
    (wpAny_call_entry PyProof.Rows.slot_tuple_getitem ht.typeIs entry_tuple_getitem ?_ (args_tuple_getitem _ _)))
  show wpAny _ _ (Builtin.Tuple.tupleItemsOf (.ref t) >>= _) _ _ s
  refine wpAny_bind (tupleItemsOf_ ht ?_)
  refine wpAny_bind (wpAny_typeOf hTs ?_)
  rw [if_pos (by decide)]
  refine wpAny_bind (sliceApplied_gen hs pl pu ?_)
  have hno : ¬ ((((sIx items.size 0 lo : Nat) : Int) == 0 && (1 : Int) == 1 && (sIx items.size items.size hi - sIx items.size 0 lo) == items.size) = true) := by
    intro q
    rw [Bool.and_eq_true, Bool.and_eq_true] at q
    have q1 : ((sIx items.size 0 lo : Nat) : Int) = 0 := eq_of_beq q.1.1
    have q2 : sIx items.size items.size hi - sIx items.size 0 lo = items.size := eq_of_beq q.2
    exact hw ⟨by omega, by omega⟩
  show wpAny _ _ (if (((sIx items.size 0 lo : Nat) : Int) == 0 && (1 : Int) == 1 && (sIx items.size items.size hi - sIx items.size 0 lo) == items.size) = true then _ else _) _ _ s
  rw [if_neg hno, pick_gen]
  first
    | exact wpAny_bind (m := Builtin.Tuple.tupleExact _) (wpAny_newObj_type (wpAny_pure ⟨_, rfl, wpAny_pure h⟩) htake)
    | exact wpAny_bind (m := Builtin.Tuple.tupleExact _) (wpAny_newObj_type (wpAny_bind (wpAny_pure (wpAny_pure ⟨_, rfl, wpAny_pure h⟩))) htake)
    | exact wpAny_bind (wpAny_bind (m := Builtin.Tuple.tupleExact _) (wpAny_newObj_type (wpAny_pure (wpAny_pure ⟨_, rfl, wpAny_pure h⟩)) htake))
    | exact wpAny_bind (wpAny_bind (m := Builtin.Tuple.tupleExact _) (wpAny_newObj_type (wpAny_pure ⟨_, rfl, wpAny_pure h⟩) htake))
end
end HT

namespace L2
open PySem PySem.Spec PyProof.Rows

abbrev TO := St → Hp → (Option Int → Hp → Prop) → Prop
def PO (X : Cx) (e : Option Expr) (t : TO) : Prop :=
  ∀ (pins : List (Addr × Obj)) (s : Shared) (σ : St) (H : Hp) (Q : Option Int → Hp → Prop), Inv X pins σ H s → t σ H Q →
    wpAny (model X.prog X.w) X.A (evalPart e X.env) (fun u s' => ∃ o H', Inv X pins σ H' s' ∧ IsPart u o ∧ Q o H') X.xe s
def tNoPart : TO := fun _ H Q => Q none H
def tPart (t : TE) : TO := fun σ H Q => t σ H fun x H1 => ∃ i, x = .int i ∧ Q (some i) H1


section
variable {X : Cx} {e : Expr} {te : TE} {lo hi : Option Expr} {tl th : TO} {pos p2 : Pos}

theorem po_none : PO X none tNoPart := by
  intro pins s σ H Q I h
  rw [evalPart_none]
  exact wpAny_pure ⟨none, H, I, .none, h⟩
theorem po_some (h : PE X e te) : PO X (some e) (tPart te) := by
  intro pins s σ H Q I hw
  rw [evalPart_some]
  refine thn (h pins s σ H _ I hw) fun u s1 ⟨x, H1, I1, r1, q1⟩ => ?_
  obtain ⟨i, rfl, q⟩ := q1
  obtain ⟨t, rfl⟩ := r1
  exact ⟨some i, H1, I1, .int i t, q⟩

def SlR (X : Cx) (r : V → Option Int → Option Int → Hp → VK → Prop) : Prop :=
  ∀ (pins : List (Addr × Obj)) (s : Shared) (σ : St) (H : Hp) (x : V) (v vl vu : Value) (lo hi : Option Int) (sl : Addr) (Q : VK), Inv X pins σ H s → RelV x v → s.heap.IsSliceOf sl vl vu .none → IsPart vl lo → IsPart vu hi → r x lo hi H Q →
    ∃ T id, typeLookup (.type T) "__getitem__" = pure (some (.builtin id)) ∧ s.TypeIs v T ∧ wpAny (model X.prog X.w) X.A (getItem v (.ref sl)) (EP X pins σ Q) X.xe s
def tSl (r : V → Option Int → Option Int → Hp → VK → Prop) (te : TE) (tl th : TO) : TE := fun σ H Q => te σ H fun x H1 => tl σ H1 fun l H2 => th σ H2 fun u H3 => r x l u H3 Q
theorem pe_slice {r : V → Option Int → Option Int → Hp → VK → Prop} (hr : SlR X r) (he : PE X e te) (hl : PO X lo tl) (hu : PO X hi th) : PE X (.Subscript e (.Slice lo hi none p2) pos) (tSl r te tl th) := by
  intro pins s σ H Q I h
  refine Subscript_ (thn (he pins s σ H _ I h) fun v s1 ⟨x, H1, I1, r1, q1⟩ => ?_)
  refine wpAny_Slice (thn (hl pins s1 σ H1 _ I1 q1) fun vl s2 ⟨l, H2, I2, pl, q2⟩ => thn (hu pins s2 σ H2 _ I2 q2) fun vu s3 ⟨u, H3, I3, pu, q3⟩ => ?_)
  rw [evalPart_none]
  refine wpAny_pure ?_
  have I4 : Inv X pins σ H3 { s3 with heap := s3.heap.push { cls := .type "slice", data := .fields #[vl, vu, .none] } } := I3.kept (t' := s3.toks) fun b ob q => Heap.get?_push_of_some _ q
  obtain ⟨T, id, hT, ht, hg⟩ := hr pins { s3 with heap := s3.heap.push { cls := .type "slice", data := .fields #[vl, vu, .none] } } σ H3 x v vl vu l u s3.heap.objs.size Q I4 r1 (Heap.IsSliceOf.new ..) pl pu q3
  show wpAny (model X.prog X.w) X.A (subscriptTail e (.Slice lo hi none p2) v (.ref s3.heap.objs.size)) (EP X pins σ Q) X.xe { s3 with heap := s3.heap.push { cls := .type "slice", data := .fields #[vl, vu, .none] } }
  exact tail_any (ops := [.ref s3.heap.objs.size, v]) ht hT hg (by with_unfolding_all rfl)

def cutV (xs : List V) (lo hi : Option Int) : List V := (xs.drop (HT.sIx xs.length 0 lo)).take (HT.sIx xs.length xs.length hi - HT.sIx xs.length 0 lo)
theorem cutV_length (xs : List V) (lo hi : Option Int) : (cutV xs lo hi).length ≤ xs.length := by
  unfold cutV
  rw [List.length_take, List.length_drop]
  omega
def rSlT (K : PySem.W.Frag) : V → Option Int → Option Int → Hp → VK → Prop := fun x lo hi H Q => ∃ a xs, x = .ref a ∧ SqT K H a xs ∧
  ¬ (HT.sIx xs.length 0 lo = 0 ∧ HT.sIx xs.length xs.length hi = xs.length) ∧ ∀ p, H p = none → Q (.ref p) (upd H p (.tup (cutV xs lo hi)))
theorem sl_tup : SlR X (rSlT X.K) := by
  intro pins s σ H x v vl vu lo hi sl Q I rx hs pl pu h
  obtain ⟨a, xs, rfl, hx, hw, q⟩ := h
  cases rx
  obtain ⟨its, r, ht, hz⟩ := I.tuple hx
  have hlen : its.toArray.size = xs.length := by rw [List.size_toArray]; exact r.length.symm
  refine ⟨"tuple", _, PyProof.Rows.slot_tuple_getitem.lookup, ht.typeIs, ?_⟩
  refine HT.getItem_tuple_cut ht hs pl pu (by rw [hlen]; exact hw) ?_ (by rw [hlen]; exact hz)
  rw [hlen]
  refine ⟨.ref s.heap.objs.size, _, I.laid (t' := s.toks) (o := .tup (cutV xs lo hi)) (fun b ob q => Heap.get?_push_of_some _ q) (Nat.le_refl _) ?_, rfl, q _ (I.hok.fresh (Nat.le_refl _))⟩
  exact ⟨Nat.le_trans (cutV_length xs lo hi) hz, _, (r.drop (HT.sIx xs.length 0 lo)).take (HT.sIx xs.length xs.length hi - HT.sIx xs.length 0 lo), IsTup.new _ _⟩

def rCatT (K : PySem.W.Frag) : R2 := fun x y H Q => ∃ a b xs ys, x = .ref a ∧ y = .ref b ∧ SqT K H a xs ∧ SqT K H b ys ∧ xs ≠ [] ∧ xs.length + ys.length ≤ sizeLine ∧
  (ys = [] → Q (.ref a) H) ∧ (ys ≠ [] → ∀ p, H p = none → Q (.ref p) (upd H p (.tup (xs ++ ys))))
theorem Vals.nil_iff {xs : List V} {us : List Value} (r : Vals xs us) : us = [] ↔ xs = [] := by
  cases r with
  | nil => simp
  | cons _ _ => simp
theorem op_catT : OpR X (binaryOp .Add) (rCatT X.K) := by
  intro pins s σ H x y v u Q I rx ry h
  obtain ⟨a, b, xs, ys, rfl, rfl, ha, hb, hx, hz, q1, q2⟩ := h
  cases rx
  cases ry
  obtain ⟨its, r1, p1, _⟩ := I.tuple ha
  obtain ⟨its2, r2, p2, _⟩ := I.tuple hb
  refine HT.cat_tup p1 p2 (fun z => hx (r1.nil_iff.mp z)) (fun z => ⟨.ref a, H, I, rfl, q1 (r2.nil_iff.mp z)⟩) (fun z => ?_) (by rw [← r1.length, ← r2.length]; exact hz)
  refine ⟨.ref s.heap.objs.size, _, I.laid (t' := s.toks) (o := .tup (xs ++ ys)) (fun b ob q => Heap.get?_push_of_some _ q) (Nat.le_refl _) ?_, rfl, q2 (fun w => z (r2.nil_iff.mpr w)) _ (I.hok.fresh (Nat.le_refl _))⟩
  exact ⟨by rw [List.length_append]; exact hz, _, r1.append r2, IsTup.new _ _⟩
end
end L2

namespace L2
open PySem PySem.Spec PyProof.Rows

def ixN (n : Nat) (i : Int) : Option Nat := if 0 ≤ i then (if i < n then some i.toNat else none) else if -(n : Int) ≤ i then some (i + n).toNat else none
def atI {α : Type} (xs : List α) (i : Int) : Option α := (ixN xs.length i).bind fun j => xs[j]?
theorem ixN_seq {n : Nat} {i : Int} {j : Nat} (h : ixN n i = some j) : seqIndex? i n = some j ∧ j < n ∧ -(n : Int) ≤ i ∧ i < n := by
  unfold ixN at h
  by_cases h0 : 0 ≤ i
  · rw [if_pos h0] at h
    by_cases h1 : i < n
    · rw [if_pos h1] at h
      have e : i.toNat = j := Option.some.inj h
      exact ⟨by rw [seqIndex_of h0 h1, e], by omega, by omega, h1⟩
    · rw [if_neg h1] at h; cases h
  · rw [if_neg h0] at h
    by_cases h1 : -(n : Int) ≤ i
    · rw [if_pos h1] at h
      have e : (i + n).toNat = j := Option.some.inj h
      exact ⟨by rw [seqIndex_neg (by omega) h1, e], by omega, h1, by omega⟩
    · rw [if_neg h1] at h; cases h
theorem atI_get {α : Type} {xs : List α} {i : Int} {v : α} (h : atI xs i = some v) : ∃ j, seqIndex? i xs.length = some j ∧ xs[j]? = some v ∧ j < xs.length ∧ -(xs.length : Int) ≤ i ∧ i < xs.length := by
  unfold atI at h
  cases e : ixN xs.length i with
  | none => rw [e] at h; cases h
  | some j =>
    rw [e] at h
    obtain ⟨h1, h2, h3, h4⟩ := ixN_seq e
    exact ⟨j, h1, h, h2, h3, h4⟩
theorem atI_nat {α : Type} {xs : List α} {j : Nat} {v : α} (h : xs[j]? = some v) : atI xs (j : Int) = some v := by
  have hj : j < xs.length := (List.getElem?_eq_some_iff.mp h).1
  have e : ixN xs.length (j : Int) = some j := by
    unfold ixN
    rw [if_pos (by omega), if_pos (by omega)]; simp
  unfold atI; rw [e]; exact h

def PlainIx (b : Expr) : Prop := ∀ o i, subscripted b false o i = operate [o, i] (getItem o i)
def IxR (X : Cx) (r : R2) : Prop :=
  ∀ (value slice : Expr) (pins : List (Addr × Obj)) (s : Shared) (σ : St) (H : Hp) (x y : V) (v u : Value) (Q : VK), Inv X pins σ H s → RelV x v → RelV y u → r x y H Q →
    subscripted slice false v u = operate [v, u] (getItem v u) → wpAny (model X.prog X.w) X.A (subscriptTail value slice v u) (EP X pins σ Q) X.xe s
def MtR (X : Cx) (id : String) (r : V → List V → Hp → VK → Prop) : Prop :=
  ∀ (pins : List (Addr × Obj)) (s : Shared) (σ : St) (H : Hp) (x : V) (xs : List V) (v : Value) (us : List Value) (Q : VK), Inv X pins σ H s → RelV x v → Vals xs us → r x xs H Q →
    wpAny (model X.prog X.w) X.A (call (.builtin id) (v :: us)) (EP X pins σ Q) X.xe s
section
variable {X : Cx} {a b : Expr} {ta tb : TE} {pos : Pos}
theorem pe_ix {r : R2} (hr : IxR X r) (ha : PE X a ta) (hb : PE X b tb) (hs : PlainIx b) : PE X (.Subscript a b pos) (tOp r ta tb) := by
  intro pins s σ H Q I h
  exact Subscript_ (binT ha hb I h fun v u s2 x y H2 I2 rx ry q => hr a b pins s2 σ H2 x y v u Q I2 rx ry q (hs _ _))

def rIxL (K : PySem.W.Frag) : R2 := fun x y H Q => ∃ p xs i v, x = .ref p ∧ y = .int i ∧ SqL K H p xs ∧ atI xs i = some v ∧ Q v H
def rIxT (K : PySem.W.Frag) : R2 := fun x y H Q => ∃ p xs i v, x = .ref p ∧ y = .int i ∧ SqT K H p xs ∧ atI xs i = some v ∧ Q v H
theorem ix_list : IxR X (rIxL X.K) := by
  intro value slice pins s σ H x y v u Q I rx ry h hs
  obtain ⟨p, xs, i, z, rfl, rfl, hq, he, q⟩ := h
  cases rx
  obtain ⟨t, rfl⟩ := ry
  obtain ⟨its, r, pl, hz⟩ := I.list hq
  obtain ⟨j, h1, h2, h3, h4, h5⟩ := atI_get he
  obtain ⟨w, ew, rw'⟩ := r.get h2
  have hl := r.length
  have hn := line63
  have fin : EP X pins σ Q w s := ⟨z, H, I, rw', q⟩
  by_cases h0 : 0 ≤ i
  · have hj : i.toNat = j := by
      rw [seqIndex_of h0 h5] at h1
      exact Option.some.inj h1
    exact item_listR pl.isList h0 (by omega) (by rw [hj]; simpa using ew) fin hs
  · have hj : (i + (its.toArray.size : Int)).toNat = j := by
      rw [seqIndex_neg (by omega) h4] at h1
      rw [List.size_toArray, ← hl]
      exact Option.some.inj h1
    exact subscriptTail_builtinR (x := w) pl.isList.typeIs slot_list_getitem.lookup
      (wpAny_getItem_list_neg (Q := fun r s' => r = w ∧ EP X pins σ Q r s') pl.isList (by omega) (by rw [List.size_toArray] <;> omega) (by omega) (by rw [hj]; simpa using ew) ⟨rfl, fin⟩) hs
theorem ix_tup : IxR X (rIxT X.K) := by
  intro value slice pins s σ H x y v u Q I rx ry h hs
  obtain ⟨p, xs, i, z, rfl, rfl, hq, he, q⟩ := h
  cases rx
  obtain ⟨t, rfl⟩ := ry
  obtain ⟨its, r, pl, hz⟩ := I.tuple hq
  obtain ⟨j, h1, h2, h3, h4, h5⟩ := atI_get he
  obtain ⟨w, ew, rw'⟩ := r.get h2
  have hl := r.length
  have hn := line63
  have fin : EP X pins σ Q w s := ⟨z, H, I, rw', q⟩
  exact subscriptTail_builtinR (x := w) pl.typeIs slot_tuple_getitem.lookup
    (getItem_tuple (j := j) (Q := fun r s' => r = w ∧ EP X pins σ Q r s') pl (by omega) (by omega) (by rw [List.size_toArray, ← hl]; exact h1) (by simpa using ew) ⟨rfl, fin⟩) hs

theorem mapSeq_set (its : List Value) (n j : Nat) (u : Value) : Obj.mapSeq (·.setIfInBounds j u) { cls := .type "list", data := .seq its.toArray n } = { cls := .type "list", data := .seq (its.set j u).toArray n } := by
  simp [Obj.mapSeq]
theorem Inv.lst {pins : List (Addr × Obj)} {σ : St} {H : Hp} {s : Shared} {p : Addr} {xs : List V} (I : Inv X pins σ H s) (h : H p = some (.lst xs)) :
    ∃ (its : List Value) (n : Nat), Vals xs its ∧ s.heap.get? p = some { cls := .type "list", data := .seq its.toArray n } ∧ xs.length ≤ sizeLine := by
  obtain ⟨z, its, n, r, e⟩ := I.hok p _ h
  exact ⟨its, n, r, e, z⟩
theorem Inv.lstUpd {pins : List (Addr × Obj)} {σ : St} {H : Hp} {s : Shared} {p : Addr} {xs ys : List V} {its its' : List Value} {n n' : Nat} {f : Obj → Obj} (I : Inv X pins σ H s) (h : H p = some (.lst xs))
    (ho : s.heap.get? p = some { cls := .type "list", data := .seq its.toArray n }) (hf : f { cls := .type "list", data := .seq its.toArray n } = { cls := .type "list", data := .seq its'.toArray n' }) (r : Vals ys its') (hz : ys.length ≤ sizeLine) (t : Nat) :
    Inv X pins σ (upd H p (.lst ys)) { s with heap := s.heap.update p f, toks := t } := by
  have e : (s.heap.update p f).get? p = some { cls := .type "list", data := .seq its'.toArray n' } := by
    rw [Heap.get?_update_self f ho (by rw [hf] <;> rfl), hf]
  refine I.write (x := p) (e := p) (by rw [h]; trivial) (.inl rfl) (fun b u hb q => (Heap.get?_update_other _ _ (Ne.symm hb)).trans q) ⟨_, e⟩ ?_
  exact ⟨hz, its', n', r, e⟩
def rSetL : V → V → V → Hp → (Hp → Prop) → Prop := fun o i v H Q => ∃ p xs k j, o = .ref p ∧ i = .int k ∧ H p = some (.lst xs) ∧ ixN xs.length k = some j ∧ Q (upd H p (.lst (xs.set j v)))
theorem set_list : PSet X rSetL := by
  intro pins s σ H o i v ov iv u Q I ro ri rv h
  obtain ⟨p, xs, k, j, rfl, rfl, hp, hj, q⟩ := h
  cases ro
  obtain ⟨t, rfl⟩ := ri
  obtain ⟨its, n, r, ho, hz⟩ := I.lst hp
  obtain ⟨h1, h2, h3, h4⟩ := ixN_seq hj
  have hl := r.length
  have hn := line63
  have I' : Inv X pins σ (upd H p (.lst (xs.set j v))) { s with heap := s.heap.update p (Obj.mapSeq (·.setIfInBounds j u)) } :=
    I.lstUpd hp ho (mapSeq_set its n j u) (r.set rv j) (by rw [List.length_set]; exact hz) s.toks
  by_cases h0 : 0 ≤ k
  · have hk : k.toNat = j := by
      rw [seqIndex_of h0 h4] at h1
      exact Option.some.inj h1
    exact PySem.W.ki_setAt ho h0 (by omega) (by rw [List.size_toArray, ← hl]; exact h4) (by rw [hk]; exact ⟨_, I', q⟩)
  · have hk : (k + (its.toArray.size : Int)).toNat = j := by
      rw [seqIndex_neg (by omega) h3] at h1
      rw [List.size_toArray, ← hl]
      exact Option.some.inj h1
    exact PySem.W.ki_setBack ho (by omega) (by rw [List.size_toArray, ← hl]; exact h3) (by omega) (by rw [hk]; exact ⟨_, I', q⟩)


def flatV : V → Bool
  | .non => true
  | .bl _ => true
  | .int _ => true
  | .str _ => true
  | _ => false
def eqV : V → V → Bool
  | .non, .non => true
  | .bl a, .bl b => a == b
  | .bl a, .int b => (if a then 1 else 0) == b
  | .int a, .bl b => a == (if b then 1 else 0)
  | .int a, .int b => a == b
  | .str a, .str b => a == b
  | _, _ => false
theorem eqAt_V {A : Around} {s : Shared} {y x : V} {u v : Value} (ry : RelV y u) (rx : RelV x v) (fy : flatV y = true) (fx : flatV x = true) : SeqAt.EqAt A s u v (eqV y x) := by
  cases y with
  | non =>
    cases ry
    cases x with
    | non => cases rx; exact SeqAt.EqAt.same _
    | bl b => cases rx; exact SeqAt.EqAt.none_bool b
    | int b => obtain ⟨t, rfl⟩ := rx; exact SeqAt.EqAt.none_int b t
    | str b => obtain ⟨t, rfl⟩ := rx; exact SeqAt.EqAt.none_str b t
    | _ => exact absurd (show false = true from fx) Bool.false_ne_true
  | bl a =>
    cases ry
    cases x with
    | non => cases rx; exact SeqAt.EqAt.bool_none a
    | bl b => cases rx; exact SeqAt.EqAt.bool_bool a b
    | int b => obtain ⟨t, rfl⟩ := rx; exact SeqAt.EqAt.bool_int a b t
    | str b => obtain ⟨t, rfl⟩ := rx; exact SeqAt.EqAt.bool_str a b t
    | _ => exact absurd (show false = true from fx) Bool.false_ne_true
  | int a =>
    obtain ⟨t', rfl⟩ := ry
    cases x with
    | non => cases rx; exact SeqAt.EqAt.int_none a t'
    | bl b => cases rx; exact SeqAt.EqAt.int_bool a t' b
    | int b => obtain ⟨t, rfl⟩ := rx; exact SeqAt.EqAt.int_int a t' b t
    | str b => obtain ⟨t, rfl⟩ := rx; exact SeqAt.EqAt.int_str a t' b t
    | _ => exact absurd (show false = true from fx) Bool.false_ne_true
  | str a =>
    obtain ⟨t', rfl⟩ := ry
    cases x with
    | non => cases rx; exact SeqAt.EqAt.str_none a t'
    | bl b => cases rx; exact SeqAt.EqAt.str_bool a t' b
    | int b => obtain ⟨t, rfl⟩ := rx; exact SeqAt.EqAt.str_int a t' b t
    | str b => obtain ⟨t, rfl⟩ := rx; exact SeqAt.EqAt.str_str a t' b t
    | _ => exact absurd (show false = true from fx) Bool.false_ne_true
  | _ => exact absurd (show false = true from fy) Bool.false_ne_true
def eqU (x : V) (u : Value) : Bool := match u with
  | .none => eqV .non x
  | .bool b => eqV (.bl b) x
  | .int i _ => eqV (.int i) x
  | .str z _ => eqV (.str z) x
  | _ => false
theorem eqU_of {x y : V} {u : Value} (r : RelV y u) (f : flatV y = true) : eqU x u = eqV y x := by
  cases y with
  | non => cases r; rfl
  | bl b => cases r; rfl
  | int i => obtain ⟨t, rfl⟩ := r; rfl
  | str z => obtain ⟨t, rfl⟩ := r; rfl
  | _ => exact absurd (show false = true from f) Bool.false_ne_true
theorem any_eqU {x : V} : ∀ {xs : List V} {us : List Value}, Vals xs us → xs.all flatV = true → us.any (eqU x) = xs.any fun y => eqV y x
  | _, _, .nil, _ => rfl
  | y :: xs, u :: us, .cons r t, f => by
    rw [List.all_cons, Bool.and_eq_true] at f
    rw [List.any_cons, List.any_cons, eqU_of r f.1, any_eqU t f.2]
theorem mem_eqAt {A : Around} {s : Shared} {x : V} {v : Value} (rx : RelV x v) (fx : flatV x = true) : ∀ {xs : List V} {us : List Value}, Vals xs us → xs.all flatV = true → ∀ u ∈ us, SeqAt.EqAt A s u v (eqU x u)
  | _, _, .nil, _ => fun u hu => by cases hu
  | y :: xs, u :: us, .cons r t, f => fun u' hu => by
    rw [List.all_cons, Bool.and_eq_true] at f
    rcases List.mem_cons.mp hu with rfl | hu
    · rw [eqU_of r f.1]; exact eqAt_V r rx f.1 fx
    · exact mem_eqAt rx fx t f.2 u' hu
def inV (x : V) (xs : List V) : Bool := xs.any fun y => eqV y x
def rIn (K : PySem.W.Frag) (neg : Bool) : R2 := fun x y H Q => ∃ p xs, y = .ref p ∧ (SqL K H p xs ∨ SqT K H p xs) ∧ flatV x = true ∧ xs.all flatV = true ∧ Q (.bl (if neg then !inV x xs else inV x xs)) H
theorem op_in_seq : OpR X (compareOp .In) (rIn X.K false) := by
  intro pins s σ H x y v u Q I rx ry h
  obtain ⟨p, xs, rfl, hq, fx, fs, q⟩ := h
  cases ry
  rcases hq with hq | hq
  · obtain ⟨its, r, pl, hz⟩ := I.list hq
    refine SeqAt.in_listAt (eqU x) pl.isList (fun w hw => mem_eqAt rx fx r fs w (by simpa using hw)) ⟨.bl _, H, I, rfl, ?_⟩
    rw [show its.toArray.any (eqU x) = its.any (eqU x) by simp, any_eqU r fs]
    exact q
  · obtain ⟨its, r, pl, hz⟩ := I.tuple hq
    refine SeqAt.in_tupleAt (eqU x) pl (fun w hw => mem_eqAt rx fx r fs w (by simpa using hw)) ⟨.bl _, H, I, rfl, ?_⟩
    rw [show its.toArray.any (eqU x) = its.any (eqU x) by simp, any_eqU r fs]
    exact q

theorem call_len_seq : CallR X (.builtin "len") (fun xs H Q => ∃ p ys, xs = [.ref p] ∧ (SqL X.K H p ys ∨ SqT X.K H p ys) ∧ Q (.int ys.length) H) := by
  intro pins s σ H xs us Q I r h
  obtain ⟨p, ys, rfl, hq, q⟩ := h
  obtain ⟨u, rfl, rx⟩ := vals1 r
  cases rx
  have hn := line63
  rcases hq with hq | hq
  · obtain ⟨its, r', pl, hz⟩ := I.list hq
    have hlen := r'.length
    exact Calls.call_len_list pl.isList (by simp only [List.size_toArray] <;> omega) ⟨.int ys.length, H, I.tok _, ⟨s.toks + 1, by rw [List.size_toArray, hlen]⟩, q⟩
  · obtain ⟨its, r', pl, hz⟩ := I.tuple hq
    have hlen := r'.length
    exact len_tuple pl (by simp only [List.size_toArray] <;> omega) ⟨.int ys.length, H, I.tok _, ⟨s.toks + 1, by rw [List.size_toArray, hlen]⟩, q⟩
theorem call_tuple_of : CallR X (.type "tuple") (fun xs H Q => ∃ p ys, xs = [.ref p] ∧ ((SqL X.K H p ys ∧ ∀ l, H l = none → Q (.ref l) (upd H l (.tup ys))) ∨ (SqT X.K H p ys ∧ Q (.ref p) H))) := by
  intro pins s σ H xs us Q I r h
  obtain ⟨p, ys, rfl, h⟩ := h
  obtain ⟨u, rfl, rx⟩ := vals1 r
  cases rx
  rcases h with ⟨hq, q⟩ | ⟨hq, q⟩
  · obtain ⟨its, r', pl, hz⟩ := I.list hq
    have hlen := r'.length
    refine call_tuple_list pl.isList (fun h' kp => ?_) (by simp only [List.size_toArray] <;> omega)
    have I1 : Inv X pins σ H { s with heap := h' } := I.kept (t' := s.toks) kp
    have I2 : Inv X pins σ (upd H h'.objs.size (.tup ys)) { s with heap := h'.push { cls := .type "tuple", data := .seq its.toArray } } :=
      I1.laid (t' := s.toks) (fun b o e => Heap.get?_push_of_some _ e) (Nat.le_refl _) (show ObjOk X.prog X.w _ _ _ (.tup ys) from ⟨hz, its, r', IsTup.new _ _⟩)
    exact ⟨.ref h'.objs.size, _, I2, rfl, q _ (I1.hok.fresh (Nat.le_refl _))⟩
  · obtain ⟨its, r', pl, hz⟩ := I.tuple hq
    exact call_tuple_same pl ⟨.ref p, H, I, rfl, q⟩

def tyV (K : PySem.W.Frag) (T : String) (x : V) (H : Hp) : Prop := match x with
  | .str _ => T = "str"
  | .int _ => T = "int"
  | .ref p => (T = "list" ∧ ∃ xs, SqL K H p xs) ∨ (T = "tuple" ∧ ∃ o, K.lookup p = some o ∧ o.cls = .type "tuple" ∧ o.dict = none) ∨
      (T = "dict" ∧ ((∃ kvs, H p = some (.dK kvs)) ∨ ∃ kvs, H p = some (.dT kvs))) ∨ (T = "set" ∧ ∃ S n, H p = some (.set S n))
  | _ => False
theorem tyV_is {pins : List (Addr × Obj)} {σ : St} {H : Hp} {s : Shared} {T : String} {x : V} {v : Value} (I : Inv X pins σ H s) (r : RelV x v) (ty : tyV X.K T x H) :
    s.TypeIs v T ∧ ∀ a, v = .ref a → ∃ ob, s.heap.get? a = some ob ∧ ob.dict = none := by
  cases x with
  | str z =>
    obtain ⟨t, rfl⟩ := r
    cases (show T = "str" from ty)
    exact ⟨typeIs_str s z t, fun _ e => nomatch e⟩
  | int i =>
    obtain ⟨t, rfl⟩ := r
    cases (show T = "int" from ty)
    exact ⟨typeIs_int s i t, fun _ e => nomatch e⟩
  | ref p =>
    cases r
    rcases ty with ⟨rfl, xs, hq⟩ | ⟨rfl, o, hk, hc, hd⟩ | ⟨rfl, hk⟩ | ⟨rfl, S, n, hk⟩
    · obtain ⟨its, _, pl, _⟩ := I.list hq
      refine ⟨pl.isList.typeIs, fun a e => ?_⟩
      cases e
      obtain ⟨o, n, e, c, hd, _⟩ := pl
      exact ⟨o, e, hd⟩
    · refine ⟨⟨o, I.kIn p o hk, hc⟩, fun a e => ?_⟩
      cases e
      exact ⟨o, I.kIn _ o hk, hd⟩
    · have z : ∃ o, s.heap.get? p = some o ∧ o.ExactDict := by
        rcases hk with ⟨kvs, hk⟩ | ⟨kvs, hk⟩
        · obtain ⟨_, _, _, _, o, _, _, e, ex, _⟩ := I.hok p _ hk
          exact ⟨o, e, ex⟩
        · obtain ⟨_, _, _, _, o, _, _, e, ex, _⟩ := I.hok p _ hk
          exact ⟨o, e, ex⟩
      obtain ⟨o, e, ex⟩ := z
      refine ⟨⟨o, e, ex.1⟩, fun a e2 => ?_⟩
      cases e2
      exact ⟨o, e, ex.2.1⟩
    · obtain ⟨o, _, _, _, e, ex, _⟩ := I.hok p _ hk
      refine ⟨⟨o, e, ex.1⟩, fun a e2 => ?_⟩
      cases e2
      exact ⟨o, e, ex.2.1⟩
  | _ => exact False.elim ty
def tBM0 (K : PySem.W.Frag) (T : String) (r : V → List V → Hp → VK → Prop) (to : TE) : TE := fun σ H Q => to σ H fun x H1 => tyV K T x H1 ∧ r x [] H1 Q
def tBM (K : PySem.W.Frag) (T : String) (r : V → List V → Hp → VK → Prop) (to : TE) (t : TA) : TE := fun σ H Q => to σ H fun x H1 => tyV K T x H1 ∧ t σ H1 fun xs H2 => r x xs H2 Q
variable {o e : Expr} {es : List Expr} {to : TE} {t : TA} {name : Str} {apos cpos : Pos} {T id : String} {r : V → List V → Hp → VK → Prop}
theorem pe_bm0 (pa : PlainAttrs T) (slot : Slot T name id) (hty : typeOf (.builtin id) = pure (.type "method_descriptor")) (hm : MtR X id r) (ho : PE X o to)
    (hbase : attributeBase o name X.env (eval o X.env) = eval o X.env := by rfl) (hline : (apos.endLine == cpos.line) = true := by rfl) : PE X (.Call (.Attribute o name apos) [] [] cpos) (tBM0 X.K T r to) := by
  intro pins s σ H Q I h
  refine wpAny_Call_method0_late hbase hline (thn (ho pins s σ H _ I h) fun v s1 ⟨x, H1, I1, r1, ty, q1⟩ => ?_)
  obtain ⟨h1, h2⟩ := tyV_is I1 r1 ty
  exact ⟨T, id, pa, slot, hty, h1, h2, Calls.callWith_builtin rfl (PySem.evalArgs_none (hm pins s1 σ H1 x [] v [] Q I1 r1 .nil q1))⟩
theorem pe_bm (pa : PlainAttrs T) (slot : Slot T name id) (hty : typeOf (.builtin id) = pure (.type "method_descriptor")) (hm : MtR X id r) (ho : PE X o to) (ha : PA X (e :: es) t)
    (hbase : attributeBase o name X.env (eval o X.env) = eval o X.env := by rfl)
    (hfew : ((backTo cpos (starEach (e :: es) X.env)).all (fun x => !x.1) && (backToKw cpos (keywordEach [] X.env)).all (fun x => x.1.isSome)
      && decide ((e :: es).length + ([] : List Keyword).length + (if ([] : List Keyword).isEmpty then 0 else 1) < 30)) = true := by rfl)
    (hline : (apos.endLine == cpos.line) = true := by rfl) (hs : starEach (e :: es) X.env = (false, eval e X.env) :: starEach es X.env := by rfl) (hplain : (backTo cpos (starEach es X.env)).any (·.1) = false := by rfl) :
    PE X (.Call (.Attribute o name apos) (e :: es) [] cpos) (tBM X.K T r to t) := by
  intro pins s σ H Q I h
  refine wpAny_Call_method_late hbase hfew hline rfl (thn (ho pins s σ H _ I h) fun v s1 ⟨x, H1, I1, r1, ty, q1⟩ => ?_)
  obtain ⟨h1, h2⟩ := tyV_is I1 r1 ty
  refine ⟨T, id, pa, slot, hty, h1, h2, ?_⟩
  have hA := ha cpos pins s1 σ H1 _ I1 q1
  rw [hs] at hA ⊢
  refine Calls.callWith_builtin (by show (false || (backTo cpos (starEach es X.env)).any (·.1)) = false; rw [hplain] <;> rfl) (Calls.evalArgs_plain ?_)
  exact thn hA fun us s2 ⟨vs, H2, I2, r2, q2⟩ => hm pins s2 σ H2 x vs v us Q I2 r1 r2 q2
end
end L2

namespace L2
open PySem PySem.Spec PyProof.Rows

def MtM (X : Cx) (id : String) (r : V → List V → Hp → VK → Prop) : Prop :=
  ∀ (pins : List (Addr × Obj)) (s : Shared) (σ : St) (H : Hp) (x : V) (xs : List V) (v : Value) (us : List Value) (Q : VK), Inv X pins σ H s → RelV x v → Vals xs us → r x xs H Q →
    wpAny (model X.prog X.w) X.A (call (.builtin id) (v :: us)) (EP X pins σ Q) X.xe s

theorem Vals.one : ∀ {x : V} {us : List Value}, Vals [x] us → ∃ u, us = [u] ∧ RelV x u
  | _, _, .cons r .nil => ⟨_, rfl, r⟩
theorem Vals.zero : ∀ {us : List Value}, Vals [] us → us = []
  | _, .nil => rfl
theorem Vals.dropLast {xs : List V} {us : List Value} (h : Vals xs us) : Vals xs.dropLast us.dropLast := by
  induction h with
  | nil => exact .nil
  | cons r t ih =>
    cases t with
    | nil => exact .nil
    | cons q t' => exact .cons r ih
theorem Vals.eraseIdx : ∀ {xs : List V} {us : List Value} (i : Nat), Vals xs us → Vals (xs.eraseIdx i) (us.eraseIdx i)
  | _, _, _, .nil => .nil
  | _, _, 0, .cons _ t => t
  | _, _, i + 1, .cons r t => .cons r (Vals.eraseIdx i t)
theorem Vals.reverse {xs : List V} {us : List Value} (h : Vals xs us) : Vals xs.reverse us.reverse := by
  induction h with
  | nil => exact .nil
  | cons r t ih => rw [List.reverse_cons, List.reverse_cons]; exact Vals.append ih (.cons r .nil)
theorem Vals.rep {xs : List V} {us : List Value} (h : Vals xs us) : ∀ k : Nat, Vals (List.replicate k xs).flatten (List.replicate k us).flatten
  | 0 => .nil
  | k + 1 => by
    rw [List.replicate_succ, List.replicate_succ, List.flatten_cons, List.flatten_cons]
    exact Vals.append h (Vals.rep h k)
theorem erase_last {α : Type} (l : List α) : l.eraseIdx (l.length - 1) = l.dropLast := by
  induction l with
  | nil => rfl
  | cons a r ih =>
    cases r with
    | nil => rfl
    | cons b r =>
      have e : (a :: b :: r).length - 1 = ((b :: r).length - 1) + 1 := by
        have h1 : (a :: b :: r).length = r.length + 2 := rfl
        have h2 : (b :: r).length = r.length + 1 := rfl
        omega
      rw [e, List.eraseIdx_cons_succ, ih]
      all_goals rfl
theorem foldl_rep (its : List Value) : ∀ (k : Nat) (acc : List Value),
    List.foldl (fun x1 x2 => x1 ++ x2) acc.toArray (List.replicate k its.toArray) = (acc ++ (List.replicate k its).flatten).toArray
  | 0, acc => by simp
  | k + 1, acc => by
    have e : acc.toArray ++ its.toArray = (acc ++ its).toArray := by simp
    have e2 : (acc ++ its) ++ (List.replicate k its).flatten = acc ++ (List.replicate (k + 1) its).flatten := by
      rw [List.replicate_succ, List.flatten_cons, List.append_assoc]
    rw [← e2, ← foldl_rep its k (acc ++ its), ← e, List.replicate_succ, List.foldl_cons]

section
variable {X : Cx} {pins : List (Addr × Obj)} {σ : St} {H : Hp} {s : Shared} {l b : Addr} {xs ys zs : List V}

theorem Inv.lset {its its' : List Value} {n : Nat} {f : Array Value → Array Value} {t' : Nat} (I : Inv X pins σ H s) (hH : H l = some (.lst xs))
    (e : s.heap.get? l = some { cls := .type "list", data := .seq its.toArray n }) (hf : f its.toArray = its'.toArray) (hv : Vals ys its') (hz : ys.length ≤ sizeLine) :
    Inv X pins σ (upd H l (.lst ys)) { s with heap := s.heap.update l (Obj.mapSeq f), toks := t' } := by
  have q := PySem.IsL.update e f
  rw [hf] at q
  refine I.write (x := l) (e := l) (by rw [hH]; exact trivial) (.inl rfl) (fun b' u hb hu => (Heap.get?_update_other s.heap (Obj.mapSeq f) (Ne.symm hb)).trans hu) ⟨_, q⟩ ?_
  exact ⟨hz, its', _, hv, q⟩
theorem Inv.lnew {its : List Value} {t' : Nat} (I : Inv X pins σ H s) (hv : Vals ys its) (hz : ys.length ≤ sizeLine) :
    Inv X pins σ (upd H s.heap.objs.size (.lst ys)) { s with heap := s.heap.push { cls := .type "list", data := .seq its.toArray }, toks := t' } :=
  I.laid (fun _ _ q => Heap.get?_push_of_some _ q) (Nat.le_refl _) ⟨hz, its, 0, hv, Heap.get?_push_size _ rfl⟩
theorem Inv.fresh (I : Inv X pins σ H s) : H s.heap.objs.size = none := I.hok.fresh (Nat.le_refl _)
theorem Inv.lstM (I : Inv X pins σ H s) (hH : H l = some (.lst xs)) : xs.length ≤ sizeLine ∧ ∃ (its : List Value) (n : Nat), Vals xs its ∧ xs.length = its.length ∧ s.heap.get? l = some { cls := .type "list", data := .seq its.toArray n } := by
  obtain ⟨z, its, n, r, e⟩ := I.hok l _ hH
  exact ⟨z, its, n, r, r.length, e⟩

theorem notLongL {n : Nat} (h : n ≤ sizeLine) : Builtin.List.listTooLong n = false := by
  unfold Builtin.List.listTooLong
  exact decide_eq_false (by omega)
end

section
variable {X : Cx}

def rAppend : V → List V → Hp → VK → Prop := fun x vs H Q => ∃ l xs y, x = .ref l ∧ vs = [y] ∧ H l = some (.lst xs) ∧ xs.length < sizeLine ∧ Q .non (upd H l (.lst (xs ++ [y])))
theorem mt_append : MtM X "list.append" rAppend := by
  intro pins s σ H x vs v us Q I rx rv h
  obtain ⟨l, xs, y, rfl, rfl, hH, hz, q⟩ := h
  cases rx
  obtain ⟨u, rfl, ru⟩ := rv.one
  obtain ⟨z, its, n, r, hl, e⟩ := I.lstM hH
  refine call_meets F.slot_list_append ⟨_, e, rfl⟩ F.entry_list_append (F.args_list_append_2 _ _) (PySem.list_append l its.toArray n u (by rw [List.size_toArray]; omega)) ⟨e, ?_⟩
  refine ⟨.non, _, I.lset (its' := its ++ [u]) hH e (by simp) (r.append (.cons ru .nil)) ?_, rfl, q⟩
  rw [List.length_append, List.length_singleton]
  omega


def rPop : V → List V → Hp → VK → Prop := fun x vs H Q => ∃ l xs y, x = .ref l ∧ vs = [] ∧ H l = some (.lst xs) ∧ xs[xs.length - 1]? = some y ∧ Q y (upd H l (.lst xs.dropLast))
theorem mt_pop : MtM X "list.pop" rPop := by
  intro pins s σ H x vs v us Q I rx rv h
  obtain ⟨l, xs, y, rfl, rfl, hH, hy, q⟩ := h
  cases rx
  have hus := rv.zero
  subst hus
  obtain ⟨z, its, n, r, hl, e⟩ := I.lstM hH
  obtain ⟨u, hu, ru⟩ := r.get hy
  have hy' : its.toArray[its.toArray.size - 1]? = some u := by
    show its.toArray[its.length - 1]? = some u
    rw [← Array.getElem?_toList, ← hl]
    exact hu
  refine call_meets F.slot_list_pop ⟨_, e, rfl⟩ F.entry_list_pop (F.args_list_pop_1 _) (MeetsSeq.list_pop_last l its.toArray n u hy' (by rw [List.size_toArray]; omega)) ⟨e, ?_⟩
  refine ⟨y, _, I.lset (its' := its.dropLast) hH e ?_ r.dropLast ?_, ru, q⟩
  · show its.toArray.eraseIdxIfInBounds (its.toArray.size - 1) = its.dropLast.toArray
    rw [List.size_toArray, List.eraseIdxIfInBounds_toArray, erase_last]
  · rw [List.length_dropLast]
    omega




def rCat : R2 := fun x y H Q => ∃ l b xs zs, x = .ref l ∧ y = .ref b ∧ H l = some (.lst xs) ∧ H b = some (.lst zs) ∧ xs.length + zs.length ≤ sizeLine ∧ ∀ p, H p = none → Q (.ref p) (upd H p (.lst (xs ++ zs)))
theorem op_cat : OpR X (binaryOp .Add) rCat := by
  intro pins s σ H x y v u Q I rx ry h
  obtain ⟨l, b, xs, zs, rfl, rfl, hH, hB, hz, q⟩ := h
  cases rx
  cases ry
  obtain ⟨z, its, n, r, hl, e⟩ := I.lstM hH
  obtain ⟨z2, its2, n2, r2, hl2, e2⟩ := I.lstM hB
  refine PySem.P.add_list e e2 ?_ (by rw [List.size_toArray, List.size_toArray]; omega)
  have ea : its.toArray ++ its2.toArray = (its ++ its2).toArray := by simp
  rw [ea]
  exact ⟨.ref _, _, I.lnew (t' := s.toks) (r.append r2) (by rw [List.length_append]; omega), rfl, q _ I.fresh⟩
def rRep : R2 := fun x y H Q => ∃ l k xs, x = .ref l ∧ y = .int k ∧ H l = some (.lst xs) ∧ -(2 ^ 63) ≤ k ∧ k < 2 ^ 63 ∧ xs.length * k.toNat ≤ sizeLine ∧
  ∀ p, H p = none → Q (.ref p) (upd H p (.lst (List.replicate k.toNat xs).flatten))
theorem len_rep {α : Type} (xs : List α) (k : Nat) : (List.replicate k xs).flatten.length = k * xs.length := by
  induction k with
  | zero => simp
  | succ k ih => rw [List.replicate_succ, List.flatten_cons, List.length_append, ih, Nat.succ_mul, Nat.add_comm]
theorem op_rep : OpR X (binaryOp .Mult) rRep := by
  intro pins s σ H x y v u Q I rx ry h
  obtain ⟨l, k, xs, rfl, rfl, hH, h1, h2, hz, q⟩ := h
  cases rx
  obtain ⟨t, rfl⟩ := ry
  obtain ⟨z, its, n, r, hl, e⟩ := I.lstM hH
  have hlen : its.toArray.size * k.toNat ≤ sizeLine := by rw [List.size_toArray, ← hl]; exact hz
  have hcap : ¬ its.toArray.size * k.toNat > (2 ^ 63 - 1) / 8 := by
    have : (sizeLine : Nat) ≤ (2 ^ 63 - 1) / 8 := by decide
    omega
  have hfit : ¬ (!Builtin.List.listFitsIndex k) = true := by
    rw [fitsIndex_both h1 h2]
    exact Bool.false_ne_true
  have hlong : ¬ Builtin.List.listTooLong (its.toArray.size * k.toNat) = true := by
    rw [notLongL hlen]
    exact Bool.false_ne_true
  have hnew : List.foldl (fun x1 x2 => x1 ++ x2) #[] (List.replicate (if its.toArray.isEmpty = true then 0 else k.toNat) its.toArray) = (List.replicate k.toNat its).flatten.toArray := by
    have f0 : ∀ m : Nat, List.foldl (fun x1 x2 => x1 ++ x2) #[] (List.replicate m its.toArray) = (List.replicate m its).flatten.toArray := fun m => by
      have := foldl_rep its m []
      rw [List.nil_append] at this
      exact this
    rw [f0]
    cases its with
    | nil => simp
    | cons a r' => rw [if_neg (by simp)]
  refine wpAny_binaryOp_repeat_ref (T := "list") (U := "int") (by decide) ⟨_, e, rfl⟩ (fun s' => typeIs_int s' k t) noFill_list_mul F.fills_int_mul F.slot_int_rmul repeat_list F.slot_int_index.lookup
    (call_meets F.slot_int_rmul (typeIs_int s k t) F.entry_int_rmul (F.args_int_rmul_2 _ _) (int___rmul___int_list k t l its.toArray n)
      ⟨e, rfl, ⟨_, e, rfl⟩, call_meets F.slot_list_mul ⟨_, e, rfl⟩ F.entry_list_mul (F.args_list_mul_2 _ _) (AutoListH.list___mul___list_int_3 l its.toArray n k t hfit hcap hlong) ⟨e, ?_⟩⟩)
  rw [hnew]
  exact ⟨.ref _, _, I.lnew (t' := s.toks) (r.rep k.toNat) (by rw [len_rep, Nat.mul_comm]; exact hz), rfl, q _ I.fresh⟩

end

section
variable {prog : Program} {w : World} {A : Around} {E : Value → Shared → Prop} {s : Shared}
end

section
variable {X : Cx}
end
end L2

namespace Att
open PySem PySem.W PySem.Calls PyProof.Rows

theorem ints_of_wellAll {P : Params} {h : Heap} : ∀ (ns : List Int) (vs : List Value), WellAll P h vs (ns.map WData.int) → IntsAre vs ns := by
  intro ns
  induction ns with
  | nil =>
    intro vs w
    rw [List.map_nil] at w
    cases w
    exact .nil
  | cons n ns ih =>
    intro vs w
    rw [List.map_cons] at w
    cases w with
    | cons a b =>
      cases a
      exact .cons _ _ (ih _ b)

theorem script_of {l : OpenLaw} {n : Nat} (hn : l.most = some n) {P : Params} {h : Heap} {args : List WData} {vals : List Value}
    (hpre : l.row.toRowW.claim.pre args = true) (hwl : WellAll P h vals args) :
    ∃ a vs ns, vals = [Value.ref a] ∧ args = [WData.list (ns.map WData.int)] ∧ h.get? a = some { cls := .type "list", data := .seq vs.toArray } ∧ IntsAre vs ns ∧ ns.length ≤ n := by
  have hsh : WShape.hasAll [] args [.list .int] = true := (pre_splitW hpre).1
  have hc : l.pre.holds [] { args := args } = true := (pre_splitW hpre).2
  obtain ⟨d, r, rfl, h1, h2⟩ := hasAllW_cons hsh
  obtain rfl := hasAllW_nil h2
  obtain ⟨xs, rfl, h3⟩ := hasW_list h1
  obtain ⟨ns, rfl⟩ := items_int h3
  have hlen : ns.length ≤ n := by
    unfold OpenLaw.pre at hc
    have h4 : (WTm.not (.lt (.lit (.int (n : Int))) (.len (.arg 0)))).holds [] { args := [.list (ns.map .int)] } = true := by
      have h4 := (holds_andW hc).1
      rw [hn] at h4
      exact h4
    have h5 := condW_of h4 (w_not (w_lt w_lit (w_len_list (w_arg rfl))))
    rw [List.length_map] at h5
    refine Nat.le_of_not_lt fun q => ?_
    have q' : (n : Int) < ((ns.length : Nat) : Int) := by omega
    first
      | (rw [decide_eq_true q'] at h5; exact absurd h5 (by decide))
      | (simp at h5; omega)
  cases hwl with
  | cons w1 w2 =>
    cases w2
    cases w1 with
    | list ho hall => exact ⟨_, _, ns, rfl, rfl, ho, ints_of_wellAll ns _ hall, hlen⟩

theorem post_true (l : OpenLaw) (args : List WData) : l.row.toRowW.claim.post args (.bool true) args = true :=
  postW_of (r := l.row.toRowW) (X := (true == true))
    (show WShape.has [] (.bool true) .bool = true by first | rfl | decide | simp [WShape.has, WShape.arms, WShape.armsAll])
    (show (WTm.eq .res (.lit (.bool true))).value [] { args := args, res := some (.bool true), after := args } = some (.bool (true == true)) from w_eq_bool (w_res rfl) w_lit) rfl


theorem attach_call {l : OpenLaw} {n : Nat} {q : Program} {loose : List Str} {XP : (Str → Option Value) → Heap → Prop} {YP : World → Heap → Prop} {d : DefRec}
    (hn : l.most = some n) (hdf : d.params.defaults = [])
    (call : ∀ (w : World) (s₀ s₁ : Shared) (mg mb : Str → Option Value) (fa : Addr) (o : Obj) (pm cd doc : Value) (a : Addr) (vs : List Value) (ns : List Int),
      Ground q loose [] XP w s₀ mg mb s₁.heap → YP w s₁.heap →
      s₁.heap.get? fa = some o → o.data = .func (docDef d.name d.params d.body d.scope pm cd doc) → s₁.heap.CodeRec cd d.name → mg d.name = some (.ref fa) →
      s₁.heap.get? a = some { cls := .type "list", data := .seq vs.toArray } → IntsAre vs ns → ns.length ≤ n → s₁.gens = #[] →
      codeAny (model l.prog w) callerA (.call (.ref fa) ⟨[.ref a], []⟩) (fun r s' => r = .ok (.ret (.bool true)) ∧ OldK s₁.heap s'.heap ∧ s'.os = s₁.os ∧ AllBare s'.gens) s₁) :
    WalkO q loose XP YP l.row.toRowW d [] (fun f vs => PySem.call f vs) := by
  intro w s₀ s₁ mg mb G Y fa o pm cd doc dV kV ho hd hcd hD hmg hg args vals as hpre hlay hrd hwl hlo
  obtain rfl : dV = .none := Dflts.none hD hdf
  obtain rfl : kV = .none := Dflts.noKw hD
  obtain ⟨a, vs, ns, rfl, rfl, hobj, hints, hlen⟩ := script_of hn hpre hwl
  refine enter_call (codeAny_mono (call w s₀ s₁ mg mb fa o pm cd doc a vs ns G Y ho (fd_plain hd) hcd hmg hobj hints hlen hg) fun r s' hq => ?_)
  obtain ⟨rfl, h2, h3, h4⟩ := hq
  exact ⟨.inl ⟨.bool true, .bool true, [], rfl, fun _ => rfl, .bool true, post_true l _, fun _ => ⟨List.Pairwise.nil, fun _ hm => (nomatch hm)⟩⟩, h2, h3, h4⟩


section
variable {prog : Program} {w : World} {A : Around} {E : Value → Shared → Prop} {s : Shared} {K : Frag}






end
end Att

namespace L2
open PySem PySem.Spec PyProof.Rows

theorem vals_ints : ∀ {vs : List Value} {ns : List Int}, IntsAre vs ns → Vals (ns.map V.int) vs
  | _, _, .nil => .nil
  | _, _, .cons n t h => .cons ⟨t, rfl⟩ (vals_ints h)

def Only (H : Hp) : Prop := ∀ b, H b = none ∨ ∃ o xs, H b = some (.frz o (.lst xs))

theorem law_call {P : Program} {w : World} {K : PySem.W.Frag} {mg mb : Str → Option Value} {CX : CXT} {k : Nat} {fa a : Addr} {fd : FuncData} {x : Str} {sp : Sp} {s₁ : Shared} {vs : List Value} {ns : List Int}
    (KX : K.In s₁.heap) (hns : s₁.heap.Ns mainGlobals mg) (hb : s₁.heap.Ns builtinsNs mb) (hbb : ∀ x : Str, x ≠ "__name__" → mb x = bootBuiltins x) (hlim : s₁.heap.NoLimit) (hg : s₁.gens = #[])
    (ha : s₁.heap.get? a = some { cls := .type "list", data := .seq vs.toArray }) (hi : IntsAre vs ns) (hl : ns.length ≤ sizeLine) (hr : Room k callerA)
    (F : ∀ base : Heap, K.In base → base.Ns mainGlobals mg → FnOk P w K mg base CX k fa fd [x] sp) (hbind : ∀ (s : Shared) (u : Value), BindsTo s fd ⟨[u], []⟩ [(x, u)])
    (hsp : ∀ H : Hp, Only H → SqL K H a (ns.map V.int) → sp [.ref a] H (fun v _ => v = .bl true) fun _ _ _ => False)
    (hCX : ∀ H e s', CX [] H s₁ (fun _ _ _ => False) e s' → False) :
    codeAny (model P w) callerA (.call (.ref fa) ⟨[.ref a], []⟩) (fun r s' => r = .ok (.ret (.bool true)) ∧ OldK s₁.heap s'.heap ∧ s'.os = s₁.os ∧ AllBare s'.gens) s₁ := by
  have rv := vals_ints hi
  have lenV := hi.length
  -- from an abstract heap in which nothing but the script may be tracked
  have core : ∀ H : Hp, Only H → SqL K H a (ns.map V.int) → HOk P w H s₁.heap → (∀ b, H b ≠ none → b = a) → (H a ≠ none → K.lookup a = none) →
      codeAny (model P w) callerA (.call (.ref fa) ⟨[.ref a], []⟩) (fun r s' => r = .ok (.ret (.bool true)) ∧ OldK s₁.heap s'.heap ∧ s'.os = s₁.os ∧ AllBare s'.gens) s₁ := by
    intro H hO hS hok hA hK
    have base_of : ∀ {b : Addr} {o : Obj}, s₁.heap.get? b = some o → H b = none → (hidT s₁.heap H).get? b = some o := fun e n => hidT_get e n
    have noA : ∀ {b : Addr} {o : Obj} {es : Array DictEntry} {ep : Nat}, s₁.heap.get? b = some o → o.data = .dict es ep → H b = none := fun {b o es ep} e d => by
      cases q : H b with
      | none => rfl
      | some u =>
        have e' : b = a := hA b (by rw [q]; simp)
        subst e'
        rw [ha] at e; cases e
        have d' : Data.seq vs.toArray _ = Data.dict es ep := d
        cases d'
    have nsK : ∀ {b : Addr} {m : Str → Option Value}, s₁.heap.Ns b m → (hidT s₁.heap H).Ns b m := fun {b m} ⟨o, es, ep, e, d, r⟩ => ⟨o, es, ep, base_of e (noA e d), d, r⟩
    have hKb : K.In (hidT s₁.heap H) := fun b o e => base_of (KX b o e) (by
      cases q : H b with
      | none => rfl
      | some u =>
        have e' : b = a := hA b (by rw [q]; simp)
        subst e'
        rw [hK (by rw [q]; simp)] at e; cases e)
    have hM : Mod K mg (hidT s₁.heap H) := ⟨hKb, nsK hns, ⟨mb, nsK hb, hbb⟩, let ⟨mc, h1, h2⟩ := hlim; ⟨mc, nsK h1, h2⟩⟩
    have e0 : Env0 P w K mg (hidT s₁.heap H) callerA [] s₁ H := ⟨rfl, hM, fun b o e => of_hidT e, Nat.le_of_eq (hidT_size _ _), trivial, fun b hb => absurd (show b ∈ ([] : List Addr) from hb) (by simp), hok, .of_eq hg⟩
    refine codeAny_mono ((F _ hKb (nsK hns)).run callerA [] s₁ H ⟨[.ref a], []⟩ [.ref a] [.ref a] _ _ hr e0 (hbind s₁ (.ref a)) (.cons rfl .nil) (hsp H hO hS)) fun r s' h => ?_
    cases r with
    | error e => exact (hCX H e s' h).elim
    | ok fl =>
      cases fl with
      | next => exact False.elim h
      | brk => exact False.elim h
      | cont => exact False.elim h
      | ret u =>
        obtain ⟨v, H', os, bare, un, hok', r', q⟩ := h
        have q' : v = .bl true := q
        subst q'
        obtain rfl : u = Value.bool true := r'
        refine ⟨rfl, OldK.of_keep fun b o e => ?_, os, bare⟩
        cases q : H b with
        | none => exact un.keep b o e q (by intro z; exact absurd (show b ∈ ([] : List Addr) from z) (by simp)) (by simp)
        | some u =>
          rcases hO b with z | ⟨ob, xs, z⟩
          · rw [q] at z; cases z
          · have z2 := un.frzs b ob _ z
            obtain ⟨e1, _⟩ := hok b _ z
            obtain ⟨e2, _⟩ := hok' b _ z2
            rw [e] at e1; cases e1
            exact e2
  cases hk : K.lookup a with
  | some o =>
    -- the script is one of the module's own objects
    have e := KX a o hk
    rw [ha] at e
    cases e
    refine core (fun _ => none) (fun _ => .inl rfl) (.inr ⟨_, vs.toArray, _, hk, rfl, rfl, rfl, by rw [List.size_toArray, lenV]; exact hl, by simpa using rv⟩) (fun b u z => by have z' : (none : Option HO) = some u := z; cases z') (fun b z => absurd rfl z) fun z => absurd rfl z
  | none =>
    refine core (fun b => if b = a then some (.frz { cls := .type "list", data := .seq vs.toArray } (.lst (ns.map V.int))) else none) (fun b => ?_) (.inl (.inr ⟨{ cls := .type "list", data := .seq vs.toArray }, if_pos rfl⟩)) (fun b u z => ?_) (fun b z => ?_) fun _ => hk
    · by_cases hb : b = a
      · exact .inr ⟨_, _, if_pos hb⟩
      · exact .inl (if_neg hb)
    · by_cases hb : b = a
      · have z' := (if_pos hb).symm.trans z
        cases z'
        subst hb
        exact ⟨ha, by rw [List.length_map]; exact hl, vs, _, rv, ha⟩
      · have z' := (if_neg hb).symm.trans z
        cases z'
    · by_cases hb : b = a
      · exact hb
      · exact absurd (if_neg hb) z
end L2

namespace L2
open PySem PySem.Spec PyProof.Rows


theorem walk_of {l : PySem.W.OpenLaw} {n k : Nat} {q : Program} {loose : List Str} {XP : (Str → Option Value) → Heap → Prop} {YP : World → Heap → Prop} {d : DefRec} {K : Params → PySem.W.Frag} {CX : World → CXT} {sp : World → Sp} {x : Str}
    (hn : l.most = some n) (hn2 : n ≤ sizeLine) (hdf : d.params.defaults = []) (hr : Room k callerA)
    (hY : ∀ (w : World) (h : Heap), YP w h → (K w.params).In h)
    (F : ∀ (w : World) (mg : Str → Option Value) (fa : Addr) (h : Heap), (K w.params).In h → h.Ns mainGlobals mg → mg d.name = some (.ref fa) →
      ∃ fd : FuncData, (∀ (s : Shared) (u : Value), BindsTo s fd ⟨[u], []⟩ [(x, u)]) ∧
        ∀ base : Heap, (K w.params).In base → base.Ns mainGlobals mg → FnOk l.prog w (K w.params) mg base (CX w) k fa fd [x] (sp w))
    (hsp : ∀ (w : World) (H : Hp) (a : Addr) (ns : List Int), ns.length ≤ n → Only H → SqL (K w.params) H a (ns.map V.int) → sp w [.ref a] H (fun v _ => v = .bl true) fun _ _ _ => False)
    (hCX : ∀ (w : World) (H : Hp) (s : Shared) (e : Value) (s' : Shared), CX w [] H s (fun _ _ _ => False) e s' → False) :
    PySem.W.WalkO q loose XP YP l.row.toRowW d [] (fun f vs => PySem.call f vs) := by
  refine Att.attach_call hn hdf fun w s₀ s₁ mg mb fa o pm cd doc a vs ns G Y ho hd hcd hmg hobj hints hlen hg => ?_
  have KX := hY w _ Y
  obtain ⟨fd, hb, hF⟩ := F w mg fa _ KX G.T.g hmg
  exact law_call KX G.T.g G.T.b G.T.builtins G.T.nolimit hg hobj hints (Nat.le_trans hlen hn2) hr hF hb (fun H hO hS => hsp w H a ns hlen hO hS) fun H e s' => hCX w H s₁ e s'
end L2


namespace L2
open PySem PySem.Spec PyProof.Rows

def defArgs (s : Stmt) : Arguments := match s with
  | .FunctionDef _ a _ _ _ _ _ _ _ _ => a
  | _ => { posonlyargs := [], args := [], vararg := none, kwonlyargs := [], kw_defaults := [], kwarg := none, defaults := [] }
def defBody (s : Stmt) : List Stmt := match s with
  | .FunctionDef _ _ b _ _ _ _ _ _ _ => b
  | _ => []
def defScope (s : Stmt) : Scope := match s with
  | .FunctionDef _ _ _ _ _ _ sc _ _ _ => sc
  | _ => { kind := .function, names := [], isGenerator := false, isCoroutine := false }

abbrev CX0 : CXT := fun _ _ _ _ _ _ => False
abbrev E0 : XK := fun _ _ _ => False
theorem pass0 {X : Cx} : Passes CX0 X E0 := fun _ _ _ _ _ _ _ h => h.elim

structure Fun (K : PySem.W.Frag) (x qual : Str) (st : Stmt) (f : Addr) (fd : FuncData) : Prop where
  ex : ∃ (oc : Value) (od : Option Addr) (kV doc pm : Value) (an : Option Addr) (cdv ct : Value) (osl : Array (Option Value)),
    fd = PySem.W.fnOf x qual (defArgs st) (defBody st) (defScope st) .none kV doc pm an cdv ct ∧ K.lookup f = some ⟨oc, od, .func fd, osl⟩ ∧ PySem.W.codeIn K cdv qual = true
  kp : PySem.W.keepIn K (.ref f) = true
section
variable {P : Program} {w : World} {K : PySem.W.Frag} {mg : Str → Option Value} {base : Heap}
theorem Fun.ok {x qual : Str} {st : Stmt} {f : Addr} {fd : FuncData} {N ps : List Str} {k : Nat} {sp : Sp} (F : Fun K x qual st f fd) (S : FnScope N ps (defScope st)) (len : ∀ vs H Q E, sp vs H Q E → vs.length = ps.length)
    (hbody : ∀ (cdv : Value) (A : Around) (outer : List Env) (s : Shared) (H : Hp) (vs : List V) (Q : VK) (E : XK), Room k (A.deeper (envOfC qual (defScope st) s.heap.objs.size f cdv)) → sp vs H Q E →
      ∃ t, PSs (cxOf CX0 P w K mg base N qual (defScope st) f cdv A outer s H E).nox (defBody st) t ∧ t { nx := fun _ H' => Q .non H', rt := Q } (start N vs) H) : FnOk P w K mg base CX0 (k + 1) f fd ps sp := by
  obtain ⟨oc, od, kV, doc, pm, an, cdv, ct, osl, rfl, lk, hcd⟩ := F.ex
  refine fn_of lk hcd S len fun A outer s H vs Q E hr hsp => ?_
  obtain ⟨t, h, q⟩ := hbody cdv A outer s H vs Q E hr hsp
  exact ⟨t, h.nox, q⟩
theorem Fun.binds {x qual : Str} {st : Stmt} {f : Addr} {fd : FuncData} {ps : List Str} (F : Fun K x qual st f fd)
    (h : ∀ (kV doc pm : Value) (an : Option Addr) (cdv ct : Value) (us : List Value), us.length = ps.length → bindArgs (PySem.W.fnOf x qual (defArgs st) (defBody st) (defScope st) .none kV doc pm an cdv ct) ⟨us, []⟩ = pure (ps.zip us)) : Binds K fd ps [] := by
  obtain ⟨oc, od, kV, doc, pm, an, cdv, ct, osl, rfl, lk, hcd⟩ := F.ex
  exact .all (h kV doc pm an cdv ct)
theorem fun_mk {x qual : Str} {st : Stmt} {f : Addr} {oc : Value} {od an : Option Addr} {osl : Array (Option Value)} {kV doc pm cdv ct : Value} (l : K.lookup f = some ⟨oc, od, .func (PySem.W.fnOf x qual (defArgs st) (defBody st) (defScope st) .none kV doc pm an cdv ct), osl⟩)
    (c : PySem.W.codeIn K cdv qual = true) (k : PySem.W.keepIn K (.ref f) = true) : Fun K x qual st f (PySem.W.fnOf x qual (defArgs st) (defBody st) (defScope st) .none kV doc pm an cdv ct) := ⟨⟨oc, od, kV, doc, pm, an, cdv, ct, osl, rfl, l, c⟩, k⟩
end
theorem small1000 {n : Nat} (h : n ≤ 1000) : n < sizeLine := Nat.lt_of_le_of_lt h (by decide)

section
variable {X : Cx}
theorem pv (i : Nat) {x : Str} {pos : Pos} (hN : X.N[i]? = some x := by rfl) (hv : Vis X.env.scope x := by first | exact Or.inl rfl | exact Or.inr (Or.inl rfl) | exact Or.inr (Or.inr rfl)) (hd : (x == ("__debug__" : Str)) = false := by decide)
    (hcd : (x == ("__classdict__" : Str)) = false := by decide) : PE X (.Name x pos) (tVar i) := pe_var hN hv hd hcd
end

theorem iteF {A B : Prop} (h : B) : if false = true then A else B := by
  rw [if_neg Bool.false_ne_true]
  exact h
theorem iteT {A B : Prop} (h : A) : if true = true then A else B := by
  rw [if_pos rfl]
  exact h
theorem ite2 {c A B : Prop} [Decidable c] (h1 : c → A) (h2 : ¬ c → B) : if c then A else B := by
  by_cases h : c
  · rw [if_pos h]
    exact h1 h
  · rw [if_neg h]
    exact h2 h

def Same (H H' : Hp) : Prop := ∀ b o, H b = some o → H' b = some o
theorem Same.refl (H : Hp) : Same H H := fun _ _ h => h
theorem Same.trans {H H1 H2 : Hp} (a : Same H H1) (b : Same H1 H2) : Same H H2 := fun c o h => b c o (a c o h)
theorem Same.free {H H' : Hp} (e : Same H H') {l : Addr} (h : H' l = Option.none) : H l = Option.none := by
  cases q : H l with
  | none => rfl
  | some o =>
    rw [e l o q] at h
    cases h
theorem Same.seq {K : PySem.W.Frag} {H H' : Hp} {a : Addr} {xs : List V} (e : Same H H') (h : SqL K H a xs) : SqL K H' a xs := by
  rcases h with (h | ⟨o, h⟩) | h
  · exact .inl (.inl (e _ _ h))
  · exact .inl (.inr ⟨o, e _ _ h⟩)
  · exact .inr h

end L2

namespace L3
open PySem PySem.Spec PyProof.Rows L2

theorem b_len : bootBuiltins "len" = some (.builtin "len") := by decide +kernel
theorem b_max : bootBuiltins "max" = some (.builtin "max") := by decide +kernel
theorem b_min : bootBuiltins "min" = some (.builtin "min") := by decide +kernel
theorem b_repr : bootBuiltins "repr" = some (.builtin "repr") := by decide +kernel
theorem b_isinstance : bootBuiltins "isinstance" = some (.builtin "isinstance") := by decide +kernel
theorem b_all : bootBuiltins "all" = some (.builtin "all") := by decide +kernel
theorem b_int : bootBuiltins "int" = some (.type "int") := by decide +kernel
theorem b_bool : bootBuiltins "bool" = some (.type "bool") := by decide +kernel
theorem b_str : bootBuiltins "str" = some (.type "str") := by decide +kernel
theorem b_tuple : bootBuiltins "tuple" = some (.type "tuple") := by decide +kernel
theorem b_list : bootBuiltins "list" = some (.type "list") := by decide +kernel

def TyV (K : PySem.W.Frag) (H : Hp) (x : V) (T : String) : Prop := match x with
  | .non => T = "NoneType"
  | .bl _ => T = "bool"
  | .int _ => T = "int"
  | .str _ => T = "str"
  | .ref a => (T = "tuple" ∧ ∃ xs, SqT K H a xs) ∨ (T = "list" ∧ ∃ xs, SqL K H a xs) ∨ (T = "dict" ∧ ∃ kvs, H a = some (.dK kvs))
  | _ => False
section
variable {X : Cx} {a b c : Expr} {ta tb tc : TE} {pos : Pos}
def rIsi (K : PySem.W.Frag) : List V → Hp → VK → Prop := fun xs H Q => ∃ x T t k, xs = [x, .ty T] ∧ TyV K H x t ∧ PySem.W.kitOne K (.type t) (.type T) = some k ∧ Q (.bl k) H
theorem call_isi : CallR X (.builtin "isinstance") (rIsi X.K) := by
  intro pins s σ H xs us Q I r h
  obtain ⟨x, T, t, k, rfl, ty, e, q⟩ := h
  obtain ⟨u, w', rfl, rx, rt⟩ := vals2 r
  cases (show w' = Value.type T from rt)
  have fin : ∀ tk, EP X pins σ Q (.bool k) { s with toks := tk } := fun tk => ⟨.bl k, H, I.tok _, rfl, q⟩
  cases x with
  | non => cases (show t = "NoneType" from ty); exact isinst_ok I rx .non e fin
  | bl y => cases (show t = "bool" from ty); exact isinst_ok I rx (.bl y) e fin
  | int i => cases (show t = "int" from ty); exact isinst_ok I rx (.int i) e fin
  | str y => cases (show t = "str" from ty); exact isinst_ok I rx (.str y) e fin
  | byt y => exact ty.elim
  | flt y => exact ty.elim
  | ty y => exact ty.elim
  | ref a =>
    cases (show u = Value.ref a from rx)
    rcases ty with ⟨rfl, xs, hq⟩ | ⟨rfl, xs, hq⟩ | ⟨rfl, kvs, hq⟩
    · obtain ⟨its, _, ⟨o, h1, h2, _⟩, _⟩ := I.tuple hq
      exact PySem.W.kia_one PySem.W.kitx_tuple I.kIn ⟨o, h1, h2⟩ e (fun z => nomatch z) fin
    · obtain ⟨its, _, pl, _⟩ := I.list hq
      obtain ⟨o, h1, h2, _⟩ := pl.isList
      exact PySem.W.kia_one PySem.W.kitx_list I.kIn ⟨o, h1, h2⟩ e (fun z => nomatch z) fin
    · exact isinst_ok (x := V.ref a) I (show RelV (.ref a) (.ref a) from rfl) (.dK hq) e fin

theorem pe_tyn {x : Str} {T : String} {pos : Pos} (hg : Gl X x) (hm : X.mg x = none) (hv : bootBuiltins x = some (.type T)) (hn : x ≠ "__name__" := by decide) (hd : (x == ("__debug__" : Str)) = false := by decide) : PE X (.Name x pos) (tC (.ty T)) :=
  pe_bltn hg hm hv (show RelV (.ty T) (Value.type T) from rfl) hn hd
theorem op_mulG : OpR X (binaryOp .Mult) (rI IntMulOk fun i j => .int (i * j)) := opI fun _ _ _ _ _ _ _ hc q => mul_int q hc
def CDivL (i j : Int) : Prop := 0 < j ∧ j < 2 ^ 200
theorem CDivL.py {i j : Int} (h : CDivL i j) : Builtin.divisionGoesByPylong i j = false := by
  refine PyProof.noPylong_of_log2 ?_
  obtain ⟨h1, h2⟩ := h
  have h0 : j.natAbs ≠ 0 := by omega
  have h3 : j.natAbs < 2 ^ 200 := by
    have : (j.natAbs : Int) = j := by omega
    have h4 : ((j.natAbs : Nat) : Int) < ((2 ^ 200 : Nat) : Int) := by rw [this]; exact h2
    exact Int.ofNat_lt.mp h4
  exact Nat.lt_of_lt_of_le ((Nat.log2_lt h0).mpr h3) (by decide)
theorem op_fdivL : OpR X (binaryOp .FloorDiv) (rI CDivL fun i j => .int (i / j)) := opI fun i j _ _ _ _ _ hc q => by
  have := hc.1
  refine floordiv_int (by omega) ?_ (.inl hc.py)
  rw [Int.fdiv_eq_ediv_of_nonneg i (by omega)]
  exact q
end

def Callee (P : Program) (w : World) (K : PySem.W.Frag) (mg : Str → Option Value) (base : Heap) (k : Nat) (x : Str) (ps : List Str) (sp : Sp) : Prop :=
  ∃ (f : Addr) (fd : FuncData), FnOk P w K mg base CX0 k f fd ps sp ∧ Binds K fd ps [] ∧ PySem.W.keepIn K (.ref f) = true ∧ mg x = some (.ref f)
theorem Callee.mono {P : Program} {w : World} {K : PySem.W.Frag} {mg : Str → Option Value} {base : Heap} {j k : Nat} {x : Str} {ps : List Str} {sp : Sp} (C : Callee P w K mg base j x ps sp) (h : j ≤ k) : Callee P w K mg base k x ps sp := by
  obtain ⟨f, fd, F, b, kp, m⟩ := C
  exact ⟨f, fd, F.mono h, b, kp, m⟩
section
variable {X : Cx} {k : Nat} {ps : List Str} {sp : Sp} {x : Str} {p pos : Pos} {e : Expr} {es : List Expr} {t : TA}
theorem pe_callC (C : Callee X.prog X.w X.K X.mg X.base k x ps sp) (hr : Room k X.A) (hg : Gl X x)
    (ha : PA X (e :: es) t) (hdb : (x == ("__debug__" : Str)) = false := by decide) (he : starEach (e :: es) X.env = (false, eval e X.env) :: starEach es X.env := by rfl) (hpl : (backTo pos (starEach es X.env)).any (·.1) = false := by rfl) :
    PE X (.Call (.Name x p) (e :: es) [] pos) (tCall sp [] E0 t) := by
  obtain ⟨f, fd, F, b, kp, m⟩ := C
  exact pe_call F hr hg m kp b .nil pass0 ha hdb he hpl
end

structure Grow (m : List Addr) (H H' : Hp) : Prop where
  keep : ∀ b o, b ∉ m → H b = some o → H' b = some o
  tup : ∀ b xs, H b = some (.tup xs) → H' b = some (.tup xs)
  frz : ∀ b o u, H b = some (.frz o u) → H' b = some (.frz o u)
theorem Grow.refl (m : List Addr) (H : Hp) : Grow m H H := ⟨fun _ _ _ h => h, fun _ _ h => h, fun _ _ _ h => h⟩
theorem Grow.trans {m : List Addr} {H H1 H2 : Hp} (a : Grow m H H1) (b : Grow m H1 H2) : Grow m H H2 :=
  ⟨fun c o n h => b.keep c o n (a.keep c o n h), fun c xs h => b.tup c xs (a.tup c xs h), fun c o u h => b.frz c o u (a.frz c o u h)⟩
theorem Grow.new {m : List Addr} {H : Hp} {p : Addr} (h : H p = none) (o : HO) : Grow m H (upd H p o) :=
  ⟨fun b u _ q => by rw [upd_ne (ne_of_none q h)]; exact q, fun b xs q => by rw [upd_ne (ne_of_none q h)]; exact q, fun b u v q => by rw [upd_ne (ne_of_none q h)]; exact q⟩
theorem Grow.set {m : List Addr} {H : Hp} {p : Addr} {xs : List V} (h : H p = some (.lst xs)) (hm : p ∈ m) (ys : List V) : Grow m H (upd H p (.lst ys)) :=
  ⟨fun b u hb q => by rw [upd_ne (show b ≠ p from fun z => hb (by rw [z]; exact hm))]; exact q, fun b zs q => by rw [upd_ne (fun z => by subst z; rw [h] at q; cases q)]; exact q, fun b u v q => by rw [upd_ne (fun z => by subst z; rw [h] at q; cases q)]; exact q⟩
theorem Grow.mono {m m' : List Addr} {H H' : Hp} (a : Grow m H H') (h : ∀ b ∈ m, b ∈ m') : Grow m' H H' := ⟨fun b o n q => a.keep b o (fun z => n (h b z)) q, a.tup, a.frz⟩
theorem Grow.same {H H' : Hp} (a : Grow [] H H') : Same H H' := fun b o h => a.keep b o (by simp) h
theorem Grow.sqT {m : List Addr} {H H' : Hp} (g : Grow m H H') {K : PySem.W.Frag} {a : Addr} {xs : List V} (h : SqT K H a xs) : SqT K H' a xs := by
  rcases h with (h | ⟨o, h⟩) | h
  · exact .inl (.inl (g.tup _ _ h))
  · exact .inl (.inr ⟨o, g.frz _ _ _ h⟩)
  · exact .inr h
theorem Grow.free {H H' : Hp} {m : List Addr} (g : Grow m H H') {l : Addr} (hm : l ∉ m) (h : H' l = none) : H l = none := by
  cases q : H l with
  | none => rfl
  | some o => rw [g.keep l o hm q] at h; cases h
def Scr (K : PySem.W.Frag) (H : Hp) (a : Addr) (ns : List Int) : Prop :=
  (∃ o, H a = some (.frz o (.lst (ns.map V.int)))) ∨
    ∃ (o : Obj) (its : Array Value) (n : Nat), K.lookup a = some o ∧ o.cls = .type "list" ∧ o.dict = none ∧ o.data = .seq its n ∧ its.size ≤ sizeLine ∧ Vals (ns.map V.int) its.toList
theorem Scr.sq {K : PySem.W.Frag} {H : Hp} {a : Addr} {ns : List Int} (h : Scr K H a ns) : SqL K H a (ns.map V.int) := by
  rcases h with ⟨o, h⟩ | h
  · exact .inl (.inr ⟨o, h⟩)
  · exact .inr h
theorem Scr.of {K : PySem.W.Frag} {H : Hp} {a : Addr} {ns : List Int} (hO : Only H) (h : SqL K H a (ns.map V.int)) : Scr K H a ns := by
  rcases h with (h | ⟨o, h⟩) | h
  · rcases hO a with z | ⟨o, xs, z⟩
    · rw [h] at z; cases z
    · rw [h] at z; cases z
  · exact .inl ⟨o, h⟩
  · exact .inr h
theorem Grow.scr {m : List Addr} {H H' : Hp} (g : Grow m H H') {K : PySem.W.Frag} {a : Addr} {ns : List Int} (h : Scr K H a ns) : Scr K H' a ns := by
  rcases h with ⟨o, h⟩ | h
  · exact .inl ⟨o, g.frz _ _ _ h⟩
  · exact .inr h
end L3

namespace L3
open PySem PySem.Spec PyProof.Rows L2

structure Blt (mg : Str → Option Value) : Prop where
  abs : mg "abs" = none
  len : mg "len" = none
  max : mg "max" = none
  min : mg "min" = none
  divmod : mg "divmod" = none
  repr : mg "repr" = none
  isinstance : mg "isinstance" = none
  all : mg "all" = none
  range : mg "range" = none
  int : mg "int" = none
  bool : mg "bool" = none
  str : mg "str" = none
  tuple : mg "tuple" = none
  list : mg "list" = none
  dict : mg "dict" = none

def sp1 (b : V → Hp → VK → Prop) : Sp := fun vs H Q _ => ∃ x, vs = [x] ∧ b x H Q
def sp2 (b : V → V → Hp → VK → Prop) : Sp := fun vs H Q _ => ∃ x y, vs = [x, y] ∧ b x y H Q
def sp3 (b : V → V → V → Hp → VK → Prop) : Sp := fun vs H Q _ => ∃ x y z, vs = [x, y, z] ∧ b x y z H Q
theorem sp1_len {b : V → Hp → VK → Prop} {p : Str} : ∀ vs H Q E, sp1 b vs H Q E → vs.length = [p].length := fun vs H Q E h => by
  obtain ⟨x, rfl, _⟩ := h; rfl
theorem sp2_len {b : V → V → Hp → VK → Prop} {p q : Str} : ∀ vs H Q E, sp2 b vs H Q E → vs.length = [p, q].length := fun vs H Q E h => by
  obtain ⟨x, y, rfl, _⟩ := h; rfl
theorem sp3_len {b : V → V → V → Hp → VK → Prop} {p q r : Str} : ∀ vs H Q E, sp3 b vs H Q E → vs.length = [p, q, r].length := fun vs H Q E h => by
  obtain ⟨x, y, z, rfl, _⟩ := h; rfl

structure Deed where
  add : Int
  lo : Option Int
  hi : Option Int
  deriving DecidableEq
def ov : Option Int → V
  | none => .non
  | some i => .int i
def Deed.vs (d : Deed) : List V := [.int d.add, ov d.lo, ov d.hi]
def Deed.Ok (d : Deed) : Prop := ∀ l h, d.lo = some l → d.hi = some h → l < h ∨ (l = h ∧ d.add = 0)
def clampLo (lo : Option Int) (r : Int) : Int := match lo with
  | none => r
  | some l => if l > r then l else r
def clampHi (hi : Option Int) (r : Int) : Int := match hi with
  | none => r
  | some h => if h < r then h else r
def Deed.mk' (d : Deed) (v : Int) : Int := clampHi d.hi (clampLo d.lo (v + d.add))
def DeedAt (K : PySem.W.Frag) (H : Hp) (x : V) (d : Deed) : Prop := ∃ a, x = .ref a ∧ SqT K H a d.vs
theorem Grow.deed {m : List Addr} {H H' : Hp} (g : Grow m H H') {K : PySem.W.Frag} {x : V} {d : Deed} (h : DeedAt K H x d) : DeedAt K H' x d := by
  obtain ⟨a, e, h⟩ := h
  exact ⟨a, e, g.sqT h⟩


def Pot (H : Hp) (a : Addr) : Prop := ∃ p0 p1 : Int, H a = some (.lst [.int p0, .int p1]) ∧ 0 ≤ p0
def Sm (n : Int) : Prop := -(10 ^ 30) < n ∧ n < 10 ^ 30
def Deed.Sm (d : Deed) : Prop := L3.Sm d.add ∧ (∀ l, d.lo = some l → L3.Sm l) ∧ ∀ h, d.hi = some h → L3.Sm h
def sp_pot (K : PySem.W.Frag) : Sp := sp2 fun x y H Q => ∃ a ns k, x = .ref a ∧ y = .int k ∧ Scr K H a ns ∧ 0 ≤ k ∧ k < 1000 ∧ ∀ p H', H p = none → Grow [] H H' → Pot H' p → Q (.ref p) H'
theorem Sm.of {n : Int} (h1 : -(10 ^ 30) < n) (h2 : n < 10 ^ 30) : Sm n := ⟨h1, h2⟩
def sp_law (K : PySem.W.Frag) : Sp := sp1 fun x H Q => ∃ a ns, x = .ref a ∧ Scr K H a ns ∧ ns.length ≤ 63 ∧ ∀ H', Q (.bl true) H'
theorem szl {n : Nat} (h : Nat.ble n 1000 = true) : n ≤ sizeLine := Nat.le_of_lt (small1000 (Nat.le_of_ble_eq_true h))
theorem Grow.shrink {H H' : Hp} {l : Addr} (h : H l = none) (g : Grow [l] H H') : Grow [] H H' :=
  ⟨fun b o _ q => g.keep b o (fun z => by rw [List.mem_singleton.mp z] at q; rw [h] at q; cases q) q, g.tup, g.frz⟩
theorem Grow.wk {m : List Addr} {H H' : Hp} (g : Grow [] H H') : Grow m H H' := g.mono (by simp)
theorem Pot.grow {H H' : Hp} {a : Addr} (p : Pot H a) (g : Grow [] H H') : Pot H' a := by
  obtain ⟨u0, u1, hu, hn⟩ := p
  exact ⟨u0, u1, g.keep _ _ (by simp) hu, hn⟩
theorem Pot.new {H : Hp} {a l : Addr} (p : Pot H a) (hl : H l = none) (o : HO) : Pot (upd H l o) a := p.grow (Grow.new hl o)
theorem bits200 {k : Int} (h : -(2 ^ 200) < k ∧ k < 2 ^ 200) : Builtin.Int.intBits k ≤ 200 := PySem.intBits_le_iff.mpr (by
  have h1 : ((k.natAbs : Nat) : Int) < ((2 ^ 200 : Nat) : Int) := by
    have e : ((2 ^ 200 : Nat) : Int) = 2 ^ 200 := rfl
    rw [e]; obtain ⟨a, b⟩ := h; omega
  exact Int.ofNat_lt.mp h1)
theorem mulOk {i j : Int} (h1 : -(2 ^ 200) < i ∧ i < 2 ^ 200) (h2 : -(2 ^ 200) < j ∧ j < 2 ^ 200) : IntMulOk i j := PySem.IntMulOk.of_le (bits200 h1) (bits200 h2) (by decide)
theorem mulOkR {i j : Int} (h2 : -(2 ^ 60) < j ∧ j < 2 ^ 60) : IntMulOk i j := PySem.IntMulOk.of_right (Nat.le_trans ((PySem.intBits_le_iff (m := 60)).mpr (by obtain ⟨a, b⟩ := h2; omega)) (by decide))
end L3

namespace L3
open PySem PySem.Spec PyProof.Rows L2

section
variable {prog : Program} {w : World} {A : Around} {R : Result → Shared → Prop} {s : Shared}
theorem comp_loop {elt target iter : Expr} {ifs : List Expr} {scope : Scope} {pos : Pos} {it acc : Value} {env : Env} (I : Nat → Shared → Prop)
    (turn : ∀ n s, I n s → wpAny (model prog w) A (pyNext it) (fun r s₁ => match r with
      | none => R (.ok .next) s₁
      | some v => wpAny (model prog w) A (letOwnedTupleGo target it v) (fun _ s₂ => wpAny (model prog w) A (assign target env v) (fun _ s₃ =>
          wpAny (model prog w) A (forIn ifs true fun c r => if r = true then do let ok ← isTrue c env (eval c env); pure (ForInStep.yield ok) else pure (ForInStep.yield r)) (fun ok s₄ =>
            if ok = true then wpAny (model prog w) A (eval elt env) (fun x s₅ =>
              wpAny (model prog w) A (call (.builtin "list.append") [acc, x]) (fun _ s₆ => ∃ m, m < n ∧ I m s₆) (fun _ _ => False) s₅) (fun _ _ => False) s₄
            else ∃ m, m < n ∧ I m s₄) (fun _ _ => False) s₃) (fun _ _ => False) s₂) (fun _ _ => False) s₁) (fun _ _ => False) s)
    (n : Nat) (h : I n s) :
    codeAny (model prog w) A (.compLoop (.ListComp elt [⟨target, iter, ifs, 0⟩] scope pos) 0 it acc env) R s := by
  refine codeAny_loop rfl I (fun n s hI => ?_) n h
  show wpAny _ A ((compTurn (.ListComp elt [⟨target, iter, ifs, 0⟩] scope pos) 0 it acc env).onRaise (fun x => do noteFrame x env; theTreesLotGoes x)) _ _ s
  refine wpAny_noted ?_
  rw [compTurn_list]
  have no : ∀ (E : Value → Shared → Prop) (e : Value) (s : Shared), (fun (_ : Value) (_ : Shared) => False) e s → E e s := fun _ _ _ f => f.elim
  refine wpAny_bind (wpAny_standAt (wpAny_bind (wpAny_mono (turn n s hI) (fun r s₁ h₁ => ?_) (no _))))
  cases r with
  | none => exact wpAny_pure h₁
  | some v =>
    refine wpAny_bind (wpAny_mono h₁ (fun _ s₂ h₂ => ?_) (no _))
    refine wpAny_bind (wpAny_mono h₂ (fun _ s₃ h₃ => wpAny_bind (wpAny_mono h₃ (fun ok s₄ h₄ => ?_) (no _))) (no _))
    cases ok with
    | true =>
      simp only [if_true] at h₄ ⊢
      exact wpAny_bind (wpAny_bind (wpAny_mono h₄ (fun x s₅ h₅ => wpAny_bind (wpAny_mono h₅ (fun _ s₆ h₆ => wpAny_pure (wpAny_pure ⟨rfl, h₆⟩)) (no _))) (no _)))
    | false =>
      simp only [Bool.false_eq_true, if_false] at h₄ ⊢
      first
        | exact wpAny_bind (wpAny_pure (wpAny_pure ⟨rfl, h₄⟩))
        | exact wpAny_pure ⟨rfl, h₄⟩
end

theorem closure_ok {scope : Scope} {env : Env} (hfree : ∀ y ∈ scope.names, y.2 = .free → ∃ c, env.cells.lookup y.1 = some c) :
    ∃ cl, closureFor scope env = pure cl ∧ (∀ x c, cl.lookup x = some c → env.cells.lookup x = some c) ∧ ∀ y ∈ scope.names, y.2 = .free → ∃ c, cl.lookup y.1 = some c := by
  have key : ∀ (l : List (Str × NameKind)) (cs : List (Str × Addr)), (∀ y ∈ l, y.2 = .free → ∃ c, env.cells.lookup y.1 = some c) → (∀ x c, cs.lookup x = some c → env.cells.lookup x = some c) →
      ∃ cl, (forIn l cs (fun (x : Str × NameKind) r => do if x.2 == .free then do let c ← cellOf env x.1; pure (ForInStep.yield ((x.1, c) :: r)) else pure (ForInStep.yield r)) : Sem (List (Str × Addr))) = pure cl ∧
        (∀ x c, cl.lookup x = some c → env.cells.lookup x = some c) ∧ (∀ y ∈ l, y.2 = .free → ∃ c, cl.lookup y.1 = some c) ∧ ∀ x c, cs.lookup x = some c → ∃ c', cl.lookup x = some c' := by
    intro l
    induction l with
    | nil => intro cs _ h2; exact ⟨cs, rfl, h2, fun y hy => absurd hy (by simp), fun x c h => ⟨c, h⟩⟩
    | cons y r ih =>
      intro cs h1 h2
      obtain ⟨n, k⟩ := y
      by_cases hk : k = .free
      · subst hk
        obtain ⟨c, hc⟩ := h1 (n, .free) (by simp) rfl
        have hc' : env.cells.lookup n = some c := hc
        have e0 : cellOf env n = pure c := by unfold cellOf; rw [hc']
        obtain ⟨cl, e, p1, p2, p3⟩ := ih ((n, c) :: cs) (fun z hz => h1 z (List.mem_cons_of_mem _ hz)) (fun x d h => by
          by_cases hx : x = n
          · subst hx
            rw [List.lookup_cons_self] at h
            cases h; exact hc'
          · rw [List.lookup_cons, beq_eq_false_iff_ne.mpr hx] at h
            exact h2 x d h)
        refine ⟨cl, ?_, p1, fun z hz => ?_, fun x d h => ?_⟩
        · rw [List.forIn_cons]
          simp only [beq_self_eq_true, if_true, e0, pure_bind]
          exact e
        · rcases List.mem_cons.mp hz with rfl | hz
          · intro _
            exact p3 n c List.lookup_cons_self
          · exact p2 z hz
        · by_cases hx : x = n
          · subst hx; exact p3 x c List.lookup_cons_self
          · exact p3 x d (by rw [List.lookup_cons, beq_eq_false_iff_ne.mpr hx]; exact h)
      · have hb : (k == NameKind.free) = false := beq_eq_false_iff_ne.mpr hk
        obtain ⟨cl, e, p1, p2, p3⟩ := ih cs (fun z hz => h1 z (List.mem_cons_of_mem _ hz)) h2
        refine ⟨cl, ?_, p1, fun z hz => ?_, p3⟩
        · rw [List.forIn_cons]
          simp only [hb, Bool.false_eq_true, if_false, pure_bind]
          exact e
        · rcases List.mem_cons.mp hz with rfl | hz
          · intro h; exact absurd h hk
          · exact p2 z hz
  obtain ⟨cl, e, p1, p2, _⟩ := key scope.names [] hfree (fun x c h => by cases h)
  refine ⟨cl, ?_, p1, p2⟩
  unfold closureFor
  first
    | (rw [show (forIn scope.names [] _ : Sem (List (Str × Addr))) = pure cl from e]; rfl)
    | (simp only [bind_pure]; exact e)
    | exact e
end L3

namespace L3
open PySem PySem.Spec PyProof.Rows L2

def PIfs (X : Cx) (ifs : List Expr) (t : TT) : Prop :=
  ∀ (pins : List (Addr × Obj)) (s : Shared) (σ : L2.St) (H : Hp) (Q : Bool → Hp → Prop), Inv X pins σ H s → t σ H Q →
    wpAny (model X.prog X.w) X.A (forIn ifs true fun c r => if r = true then do let ok ← isTrue c X.env (eval c X.env); pure (ForInStep.yield ok) else pure (ForInStep.yield r)) (TP X pins σ Q) X.xe s
def tTrue : TT := fun _ H Q => Q true H
theorem pifs_nil {X : Cx} : PIfs X [] tTrue := fun pins s σ H Q I h => wpAny_pure ⟨H, I, h⟩

abbrev cxC (X : Cx) (N' : List Str) (scope : Scope) (cl : List (Str × Addr)) (C D : Addr) (fp : List Addr) (s : Shared) (H : Hp) : Cx :=
  { X with N := N', s₀ := s, H₀ := H, env := compEnvC scope cl C X.env, outer := X.stack, ex := D :: fp, fn := fun _ => false, xe := fun _ _ => False }
def capt (sub : List (Option Nat)) (σ : L2.St) : L2.St := sub.map fun o => match o with
  | none => none
  | some i => (match σ[i]? with | some v => v | none => none)
def CompW (J : It) (σ0 : L2.St) (H1 : Hp) (g : TG) (tt : TT) (te : TE) (Q : VK) : Prop :=
  ∃ W : Nat → Nat → List V → L2.St → Hp → Prop, (∃ m, W 0 m [] σ0 H1) ∧ ∀ i m ys σ' H', W i m ys σ' H' →
    (J.stop i H' ∧ ∀ l, H' l = none → Q (.ref l) (upd H' l (.lst ys))) ∨
    (J.go i H' ∧ ∃ Nn : List V → L2.St → Hp → Prop, (∀ zs σ2 H2, Nn zs σ2 H2 → ∃ m', m' < m ∧ W (i + 1) m' zs σ2 H2) ∧
      ∀ x H2, J.yld i H' x H2 → g x σ' H2 fun σ2 H3 => tt σ2 H3 fun b H4 => if b = true then te σ2 H4 fun y H5 => ys.length < sizeLine ∧ Nn (ys ++ [y]) σ2 H5 else Nn ys σ2 H4)
def tComp (wi : TI) (sub : List (Option Nat)) (g : TG) (tt : TT) (te : TE) : TE := fun σ H Q => wi σ H fun J H1 => CompW J (capt sub σ) H1 g tt te Q
structure CSc (X : Cx) (scope : Scope) (N' : List Str) (sub : List (Option Nat)) : Prop where
  free : ∀ y ∈ scope.names, y.2 = .free → X.env.kindOf y.1 = some .cell
  nocell : ∀ y ∈ scope.names, y.2 ≠ .cell
  kind : scope.kind = .function
  names : ∀ y ∈ scope.names, y.2 = .local → scope.names.lookup y.1 = some .local
  len : sub.length = N'.length
  cap : ∀ (j : Nat) (y : Str) (i : Nat), N'[j]? = some y → sub[j]? = some (some i) → X.N[i]? = some y ∧ X.env.scope.names.lookup y = some .cell ∧ scope.names.lookup y = some .free

theorem HOk.track {P : Program} {w : World} {H : Hp} {h : Heap} {a : Addr} {o : HO} (x : HOk P w H h) (hn : H a = none) (new : ObjOk P w (upd H a o) h a o) : HOk P w (upd H a o) h := fun b u e => by
  by_cases hb : b = a
  · subst hb; rw [upd_same] at e; cases e; exact new
  · rw [upd_ne hb] at e
    exact (x b u e).stay (fun c v _ q => q) (fun c q => by rw [upd_ne (ne_of_none q hn)]; exact q) fun c xs q => by rw [upd_ne (ne_of_none q hn)]; exact q
theorem relabel_lookup {scope : Scope} {env : Env} {y : Str} {k : NameKind} (h : (relabel scope env).names.lookup y = some k) :
    ∃ k', scope.names.lookup y = some k' ∧ (k = k' ∨ (k = .cell ∧ k' = .free)) := by
  have key : ∀ l : List (Str × NameKind), (l.map fun (n, k) => if (k == NameKind.free && env.scope.kind == .function && env.kindOf n == some .cell) then (n, NameKind.cell) else (n, k)).lookup y = some k →
      ∃ k', l.lookup y = some k' ∧ (k = k' ∨ (k = .cell ∧ k' = .free)) := by
    intro l
    induction l with
    | nil => intro h; cases h
    | cons p r ih =>
      obtain ⟨n, k0⟩ := p
      intro h
      rw [List.map_cons] at h
      by_cases hc : (k0 == NameKind.free && env.scope.kind == .function && env.kindOf n == some .cell) = true
      · have hf : k0 = .free := by
          simp only [Bool.and_eq_true, beq_iff_eq] at hc
          exact hc.1.1
        dsimp only at h
        rw [if_pos hc, List.lookup_cons] at h
        rw [List.lookup_cons]
        cases hx : y == n with
        | true => rw [hx] at h; cases h; exact ⟨k0, rfl, .inr ⟨rfl, hf⟩⟩
        | false => rw [hx] at h; exact ih h
      · dsimp only at h
        rw [if_neg hc, List.lookup_cons] at h
        rw [List.lookup_cons]
        cases hx : y == n with
        | true => rw [hx] at h; cases h; exact ⟨_, rfl, .inl rfl⟩
        | false => rw [hx] at h; exact ih h
  exact key scope.names h
theorem relabel_cell {scope : Scope} {env : Env} {y : Str} (hk : env.scope.kind = .function) (hc : env.kindOf y = some .cell) (h : scope.names.lookup y = some .free) : (relabel scope env).names.lookup y = some .cell := by
  have key : ∀ l : List (Str × NameKind), l.lookup y = some .free → (l.map fun (n, k) => if (k == NameKind.free && env.scope.kind == .function && env.kindOf n == some .cell) then (n, NameKind.cell) else (n, k)).lookup y = some .cell := by
    intro l
    induction l with
    | nil => intro h; cases h
    | cons p r ih =>
      obtain ⟨n, k0⟩ := p
      intro h
      rw [List.map_cons]
      rw [List.lookup_cons] at h
      dsimp only
      cases hx : y == n with
      | true =>
        rw [hx] at h
        cases h
        have e : y = n := by simpa using hx
        subst e
        rw [if_pos (by simp [hk, hc]), List.lookup_cons, hx]
      | false =>
        rw [hx] at h
        by_cases hc2 : (k0 == NameKind.free && env.scope.kind == .function && env.kindOf n == some .cell) = true
        · rw [if_pos hc2, List.lookup_cons, hx]; exact ih h
        · rw [if_neg hc2, List.lookup_cons, hx]; exact ih h
  exact key scope.names h
section
variable {X : Cx} {pins : List (Addr × Obj)} {σ : L2.St} {H2 : Hp} {s₂ : Shared} {it : Addr} {fp : List Addr} {tn : Nat → Heap → Prop} {J : It} {scope : Scope} {cl : List (Str × Addr)} {N' : List Str} {sub : List (Option Nat)}
theorem comp_start {h₁ : Heap} {tk : Nat} (I : Inv X pins σ H2 s₂) (S : CSc X scope N' sub) (hcl1 : ∀ x c, cl.lookup x = some c → X.env.cells.lookup x = some c) (hcl2 : ∀ y ∈ scope.names, y.2 = .free → ∃ c, cl.lookup y.1 = some c)
    (f2 : ∀ b ∈ fp, FpOk X pins H2 b) (hfp : ∀ b ∈ fp, b < s₂.heap.objs.size) {m : Str → Option Value} {ob : Obj}
    (hns : h₁.Ns (s₂.heap.objs.size + 1) m) (hk : ∀ b o, (s₂.heap.push ob).get? b = some o → h₁.get? b = some o) :
    Inv (cxC X N' scope cl (s₂.heap.objs.size + 1) s₂.heap.objs.size fp { s₂ with heap := s₂.heap.push ob } H2) pins (capt sub σ) H2 { s₂ with heap := h₁, toks := tk } := by
  have old : ∀ b o, s₂.heap.get? b = some o → (s₂.heap.push ob).get? b = some o := fun b o e => Heap.get?_push_of_some _ e
  have old2 : ∀ b o, s₂.heap.get? b = some o → h₁.get? b = some o := fun b o e => hk b o (old b o e)
  have sz : (s₂.heap.push ob).objs.size = s₂.heap.objs.size + 1 := Heap.size_push ..
  have cells : ∀ x c, cl.lookup x = some c → c < s₂.heap.objs.size := fun x c e => let ⟨v, q⟩ := I.cell x c (hcl1 x c e); q.lt
  have has : ∀ x, ((relabel scope X.env).names.lookup x = some .cell ∨ (relabel scope X.env).names.lookup x = some .free) → ∃ c, cl.lookup x = some c := fun x hx => by
    rcases hx with hx | hx
    · obtain ⟨k', e, z⟩ := relabel_lookup hx
      rcases z with z | ⟨_, z⟩
      · subst z; exact absurd rfl (S.nocell _ (PySem.mem_of_lookup e))
      · subst z; exact hcl2 _ (PySem.mem_of_lookup e) rfl
    · obtain ⟨k', e, z⟩ := relabel_lookup hx
      rcases z with z | ⟨z, _⟩
      · subst z; exact hcl2 _ (PySem.mem_of_lookup e) rfl
      · cases z
  have frsz : ∀ b ∈ frs X.stack, b < s₂.heap.objs.size := fun b hb => by
    rcases List.mem_cons.mp (I.stkSub b hb) with z | z
    · rw [z]; exact I.lt
    · exact Nat.lt_of_not_le fun q => I.nofs q z
  refine
    { ok :=
      { mod := I.ok.mod, kind := S.kind, glob := I.ok.glob, blt := I.ok.blt
        above := by show (s₂.heap.push ob).objs.size ≤ s₂.heap.objs.size + 1; rw [sz]; exact Nat.le_refl _
        inj := fun x y c h1 h2 => I.ok.inj x y c (hcl1 x c h1) (hcl1 y c h2)
        has := has
        cab := fun x c z => by cases z
        hd := I.ok.hd, frames := I.ok.frames, stk := .inl rfl
        exf := fun b hb => ?exf
        bs := fun b o e => ⟨old b o (I.bk b o e), (I.bs b o e).2⟩
        bsz := by show X.base.objs.size ≤ (s₂.heap.push ob).objs.size; rw [sz]; exact Nat.le_succ_of_le (Nat.le_trans I.ok.bsz I.sz)
        noex := fun b o e hb => ?noex
        exfs := fun b hb => ?exfs
        funs := ?funs
        frf := I.stkFree }
      os := rfl, bare := I.bare, base := Un.kept fun b u e => hk b u e
      loc := ⟨m, hns, ?loc⟩
      cell := fun x c e => ?cell
      free := I.hok.fresh (Nat.le_succ _)
      freeC := fun x c e => I.freeC x c (hcl1 x c e)
      pin := fun p hp => ?pin
      hok := I.hok.kept old2
      len := ?len }
  case exf =>
    rcases List.mem_cons.mp hb with rfl | hb
    · exact ⟨Nat.ne_of_lt (Nat.lt_succ_self _), fun x c e => Nat.ne_of_lt (cells x c e)⟩
    · exact ⟨Nat.ne_of_lt (Nat.lt_succ_of_lt (hfp b hb)), fun x c e => (f2 b hb).2.2.2.2.1 x c (hcl1 x c e)⟩
  case noex =>
    have hl : b < X.s₀.heap.objs.size := Nat.lt_of_lt_of_le (Heap.lt_size e) I.ok.bsz
    rcases List.mem_cons.mp hb with rfl | hb
    · exact absurd (Nat.lt_of_lt_of_le hl I.sz) (Nat.lt_irrefl _)
    · rcases (f2 b hb).2.2.2.1 with z | z
      · exact I.ok.noex b o e z
      · exact absurd (Nat.lt_of_lt_of_le hl z) (Nat.lt_irrefl _)
  case exfs =>
    intro hs
    rcases List.mem_cons.mp hb with rfl | hb
    · exact absurd (frsz _ hs) (Nat.lt_irrefl _)
    · rcases List.mem_cons.mp (I.stkSub b hs) with z | z
      · exact (f2 b hb).2.1 z
      · exact (f2 b hb).2.2.1 z
  case funs => exact Heap.FunFrames.of_keeps (fun b o e _ => ⟨o, old b o e, rfl⟩) I.stack
  case loc =>
    intro j y v hj hv hvis
    obtain ⟨mX, _, lX⟩ := I.loc
    unfold capt at hv
    rw [List.getElem?_map] at hv
    cases hs : sub[j]? with
    | none => rw [hs] at hv; cases hv
    | some o =>
      rw [hs] at hv
      cases o with
      | none => cases hv
      | some i =>
        obtain ⟨hN, hc, hf⟩ := S.cap j y i hj hs
        have hv' : σ[i]? = some (some v) := by
          have z : (match σ[i]? with | some v => v | none => none) = some v := Option.some.inj hv
          cases q : σ[i]? with
          | none => rw [q] at z; cases z
          | some w => rw [q] at z; rw [show w = some v from z]
        obtain ⟨u, ru, hl⟩ := lX i y v hN hv' (.inr (.inl hc))
        refine ⟨u, ru, ?_⟩
        have kc : (relabel scope X.env).names.lookup y = some .cell := relabel_cell I.ok.kind hc hf
        rcases hl with ⟨z, _⟩ | ⟨_, c, e, ic⟩
        · have z' : X.env.scope.names.lookup y = some .local := z
          rw [hc] at z'; cases z'
        · obtain ⟨c', e'⟩ := hcl2 _ (PySem.mem_of_lookup hf) rfl
          have := hcl1 _ _ e'
          rw [e] at this; cases this
          refine .inr ⟨.inl kc, c, e', ?_⟩
          obtain ⟨oc, h1, h2⟩ := ic
          exact ⟨oc, old2 _ _ h1, h2⟩
  case cell =>
    obtain ⟨v, oc, h1, h2⟩ := I.cell x c (hcl1 x c e)
    exact ⟨v, oc, old2 _ _ h1, h2⟩
  case pin =>
    obtain ⟨p1, p2, p3, p4, p5⟩ := I.pin p hp
    refine ⟨old2 _ _ p1, p2, Nat.ne_of_lt (Nat.lt_succ_of_lt (Heap.lt_size p1)), fun hs => ?_, p5⟩
    rcases List.mem_cons.mp (I.stkSub _ hs) with z | z
    · exact p3 z
    · exact p4 z
  case len =>
    show (capt sub σ).length = N'.length
    unfold capt
    rw [List.length_map]; exact S.len
theorem comp_fin {C D : Addr} {s₀ : Shared} {s' : Shared} {σ' : L2.St} {H' : Hp} {ys : List V} {us : List Value} {k : Nat} {oC : Obj} (I : Inv X pins σ H2 s₂)
    (hs₀ : ∀ b o, s₂.heap.get? b = some o → s₀.heap.get? b = some o) (hos : s₀.os = s₂.os) (hD : s₂.heap.objs.size ≤ D) (hC : s₂.heap.objs.size ≤ C) (hDC : D ≠ C) (f2 : ∀ b ∈ fp, FpOk X pins H2 b)
    (I' : Inv (cxC X N' scope cl C D fp s₀ H2) pins σ' H' s') (hn : H' D = none) (hy : s'.heap.get? D = some { cls := .type "list", data := .seq us.toArray k }) (rv : Vals ys us) (hz : ys.length ≤ sizeLine)
    (ho : s'.heap.get? C = some oC) (hd : ∀ v, oC.data ≠ .cell v) : Inv X (pins ++ [(C, oC)]) σ (upd H' D (.lst ys)) s' ∧ FpOk X pins (upd H' D (.lst ys)) C := by
  have neD : ∀ b o, s₂.heap.get? b = some o → b ≠ D := fun b o e => Nat.ne_of_lt (Nat.lt_of_lt_of_le (Heap.lt_size e) hD)
  have nm : ∀ b o, s₂.heap.get? b = some o → b ∉ fp → b ∉ D :: fp := fun b o e h z => (List.mem_cons.mp z).elim (neD b o e) h
  have U := I'.base
  have HC : upd H' D (.lst ys) C = none := by rw [upd_ne (Ne.symm hDC)]; exact I'.free
  have fpc : FpOk X pins (upd H' D (.lst ys)) C := I.fpOk hC HC
  have un : Un (frs X.stack) fp H2 (upd H' D (.lst ys)) s₂.heap s'.heap :=
    { keep := fun b o e n h1 h2 => U.keep b o (hs₀ b o e) n h1 (nm b o e h2)
      slot := fun b o e n h1 h2 => U.slot b o (hs₀ b o e) n h1 (nm b o e h2)
      free := fun b o e n h2 => by rw [upd_ne (neD b o e)]; exact U.free b o (hs₀ b o e) n (nm b o e h2)
      there := fun b o e h2 => U.there b o (hs₀ b o e) (nm b o e h2)
      tups := fun b xs e => by have z := U.tups b xs e; rw [upd_ne (ne_of_none z hn)]; exact z
      frzs := fun b o u e => by have z := U.frzs b o u e; rw [upd_ne (ne_of_none z hn)]; exact z
      tbls := fun b ps e => by obtain ⟨more, z⟩ := U.tbls b ps e; exact ⟨more, by rw [upd_ne (ne_of_none z hn)]; exact z⟩ }
  have hok : HOk X.prog X.w (upd H' D (.lst ys)) s'.heap := HOk.track I'.hok hn ⟨hz, us, k, rv, hy⟩
  have IX : Inv X pins σ (upd H' D (.lst ys)) s' := I.call' (I'.os.trans hos) un hok I'.bare fun b hb => ⟨(f2 b hb).2.2.2.1, (f2 b hb).2.1, (f2 b hb).2.2.2.2.1, (f2 b hb).2.2.2.2.2⟩
  refine ⟨IX.pins_of fun p hp => ?_, fpc⟩
  rcases List.mem_append.mp hp with hp | hp
  · exact IX.pin p (List.mem_append_right _ hp)
  · rw [List.mem_singleton.mp hp]
    exact ⟨ho, HC, fpc.2.1, fpc.2.2.1, hd⟩
end
section
variable {X : Cx} {scope : Scope} {N' : List Str} {sub : List (Option Nat)} {x : Str} {px pos : Pos} {elt iter : Expr} {ifs : List Expr} {wi : TI} {g : TG} {tt : TT} {te : TE}
theorem CSc.clos {pins : List (Addr × Obj)} {σ : L2.St} {H : Hp} {s : Shared} (S : CSc X scope N' sub) (I : Inv X pins σ H s) : ∃ cl, closureFor scope X.env = pure cl ∧ (∀ x c, cl.lookup x = some c → X.env.cells.lookup x = some c) ∧ ∀ y ∈ scope.names, y.2 = .free → ∃ c, cl.lookup y.1 = some c :=
  closure_ok fun y hy hf => I.ok.has y.1 (.inl (S.free y hy hf))
end
end L3

namespace L3
open PySem PySem.Spec PyProof.Rows L2

def eqVs : List V → List V → Bool
  | [], [] => true
  | x :: xs, y :: ys => eqV x y && eqVs xs ys
  | _, _ => false
theorem eqVs_len : ∀ {xs ys : List V}, eqVs xs ys = true → xs.length = ys.length
  | [], [], _ => rfl
  | x :: xs, y :: ys, h => by
    have h' : (eqV x y && eqVs xs ys) = true := h
    rw [Bool.and_eq_true] at h'
    simp [eqVs_len h'.2]
  | [], _ :: _, h => by cases h
  | _ :: _, [], h => by cases h
theorem eqVs_get : ∀ {xs ys : List V}, eqVs xs ys = true ↔ xs.length = ys.length ∧ ∀ (j : Nat) (x y : V), xs[j]? = some x → ys[j]? = some y → eqV x y = true
  | [], [] => by simp [eqVs]
  | x :: xs, y :: ys => by
    show (eqV x y && eqVs xs ys) = true ↔ _
    rw [Bool.and_eq_true, eqVs_get]
    constructor
    · rintro ⟨h1, h2, h3⟩
      refine ⟨by simp [h2], fun j a b ha hb => ?_⟩
      cases j with
      | zero => simp at ha hb; subst ha hb; exact h1
      | succ j => exact h3 j a b (by simpa using ha) (by simpa using hb)
    · rintro ⟨h1, h2⟩
      exact ⟨h2 0 x y rfl rfl, by simpa using h1, fun j a b ha hb => h2 (j + 1) a b (by simpa using ha) (by simpa using hb)⟩
  | [], _ :: _ => by simp [eqVs]
  | _ :: _, [] => by simp [eqVs]
theorem eqVs_range {xs ys : List V} : ((List.range (min xs.length ys.length)).all (fun j => match xs[j]?, ys[j]? with | some x, some y => eqV x y | _, _ => true) && xs.length == ys.length) = eqVs xs ys := by
  rw [Bool.eq_iff_iff, Bool.and_eq_true, List.all_eq_true, beq_iff_eq, eqVs_get]
  constructor
  · rintro ⟨h1, h2⟩
    refine ⟨h2, fun j x y hx hy => ?_⟩
    have hj : j < xs.length := (List.getElem?_eq_some_iff.mp hx).1
    have := h1 j (List.mem_range.mpr (by rw [← h2]; simpa using hj))
    rw [hx, hy] at this
    exact this
  · rintro ⟨h1, h2⟩
    refine ⟨fun j hj => ?_, h1⟩
    have hj' := List.mem_range.mp hj
    have a : j < xs.length := by omega
    have b : j < ys.length := by omega
    rw [List.getElem?_eq_getElem a, List.getElem?_eq_getElem b]
    exact h2 j _ _ (List.getElem?_eq_getElem a) (List.getElem?_eq_getElem b)
theorem vals_at {xs : List V} {us : List Value} (r : Vals xs us) (j : Nat) (h : j < us.length) : ∃ x, xs[j]? = some x ∧ RelV x us[j] := by
  have hl := r.length
  have hx : xs[j]? = some xs[j] := List.getElem?_eq_getElem (by omega)
  obtain ⟨u, e, q⟩ := r.get hx
  rw [List.getElem?_eq_getElem h] at e
  cases e
  exact ⟨_, hx, q⟩
theorem eqs_at {A : Around} {s : Shared} {xs ys : List V} {us ws : List Value} (r1 : Vals xs us) (r2 : Vals ys ws) (f1 : xs.all flatV = true) (f2 : ys.all flatV = true) :
    ∀ j (h1 : j < us.toArray.size) (h2 : j < ws.toArray.size), SeqAt.EqAt A s us.toArray[j] ws.toArray[j] ((fun j => match xs[j]?, ys[j]? with | some x, some y => eqV x y | _, _ => true) j) := by
  intro j h1 h2
  obtain ⟨x, ex, qx⟩ := vals_at r1 j (by simpa using h1)
  obtain ⟨y, ey, qy⟩ := vals_at r2 j (by simpa using h2)
  have fx : flatV x = true := List.all_eq_true.mp f1 x (List.mem_of_getElem? ex)
  have fy : flatV y = true := List.all_eq_true.mp f2 y (List.mem_of_getElem? ey)
  show SeqAt.EqAt A s _ _ (match xs[j]?, ys[j]? with | some x, some y => eqV x y | _, _ => true)
  rw [ex, ey]
  simpa using eqAt_V qx qy fx fy
section
variable {X : Cx}
theorem isTuple_of {h : Heap} {a : Addr} {its : Array Value} (t : IsTup h a its) : h.IsTuple a its := t
end
section
variable {X : Cx} {pos : Pos}
theorem bools_are : ∀ {bs : List Bool} {us : List Value}, Vals (bs.map V.bl) us → LSm.BoolsAre us bs
  | [], _, .nil => .nil
  | b :: bs, _, .cons r t => by
    cases r
    exact .cons b (bools_are t)
theorem call_allB (hcalm : X.calm = true) : CallR X (.builtin "all") (fun xs H Q => ∃ (l : Addr) (bs : List Bool), xs = [.ref l] ∧ SqL X.K H l (bs.map V.bl) ∧ Q (.bl (bs.all id)) H) := by
  intro pins s σ H xs us Q I r h
  obtain ⟨l, bs, rfl, hl, q⟩ := h
  obtain ⟨u, rfl, rx⟩ := vals1 r
  cases (show u = Value.ref l from rx)
  obtain ⟨vs, rv, pl, _⟩ := I.list hl
  have hl' : s.heap.IsList l vs.toArray := pl.isList
  have hb : LSm.BoolsAre vs bs := bools_are rv
  have hlt : l < s.heap.objs.size := by obtain ⟨_, e, _⟩ := hl'; exact Heap.lt_size e
  refine call_all_walk (wpAny_pyIter_list hl' ?_)
  refine ⟨s.heap.objs.size, [s.heap.objs.size, l], [s.heap.objs.size], vs.toArray.size, _, _, fun i => (bs[i]?).getD true, rfl, Walks.list (A := X.A.in1) (I.ok.hd hcalm) _ l (Nat.ne_of_lt hlt) vs.toArray,
    ⟨⟨_, Heap.get?_push_size _ rfl, rfl, rfl⟩, hl'.push _⟩, fun i v s' Q' E' hP hQ => ?_, fun h' tk hk => ?_⟩
  · obtain ⟨b, e, rfl⟩ := hb.get i v (by simpa using hP)
    simp only [e, Option.getD_some] at hQ
    exact wpAny_truthy_bool hQ
  · have e : ((List.range vs.toArray.size).all fun i => (bs[i]?).getD true) = bs.all id := by
      have hlen : bs.length = vs.length := by rw [← rv.length, List.length_map]
      rw [List.size_toArray, ← hlen, Bool.eq_iff_iff, List.all_eq_true, List.all_eq_true]
      constructor
      · intro z b hb'
        obtain ⟨i, hi, rfl⟩ := List.getElem_of_mem hb'
        have := z i (List.mem_range.mpr hi)
        simpa [List.getElem?_eq_getElem hi] using this
      · intro z i hi
        have hi' := List.mem_range.mp hi
        simpa [List.getElem?_eq_getElem hi'] using z _ (List.getElem_mem hi')
    rw [e]
    exact ⟨.bl (bs.all id), H, I.kept (t' := tk) (h' := h') (LSm.kept_iter hk), rfl, q⟩
end
theorem CSc.of {X : Cx} {scope : Scope} {N' : List Str} {sub : List (Option Nat)} (sc : Scope) (NN : List Str) (e : X.env.scope = sc) (en : X.N = NN)
    (h : ((scope.names.all fun y => (y.2 != .free || sc.names.lookup y.1 == some .cell) && (y.2 != .cell) && (y.2 != .local || scope.names.lookup y.1 == some .local)) && (sub.length == N'.length) &&
      ((N'.zip sub).all fun p => match p.2 with | none => true | some i => NN[i]? == some p.1 && sc.names.lookup p.1 == some .cell && scope.names.lookup p.1 == some .free)) = true)
    (hk : scope.kind = .function) : CSc X scope N' sub := by
  rw [Bool.and_eq_true, Bool.and_eq_true] at h
  obtain ⟨⟨h1, h2⟩, h3⟩ := h
  have k1 := fun y hy => List.all_eq_true.mp h1 y hy
  refine ⟨fun y hy hf => ?_, fun y hy hc => ?_, hk, fun y hy hl => ?_, by simpa using h2, fun j y i hj hs => ?_⟩
  · have := k1 y hy
    simp only [hf, Bool.and_eq_true] at this
    have z := this.1.1
    show X.env.scope.names.lookup y.1 = _
    rw [e]; simpa using z
  · have := k1 y hy
    simp only [hc, Bool.and_eq_true] at this
    simp at this
  · have := k1 y hy
    simp only [hl, Bool.and_eq_true] at this
    simpa using this.2
  · have hm : (y, some i) ∈ N'.zip sub := by
      have : (N'.zip sub)[j]? = some (y, some i) := by
        rw [List.getElem?_zip_eq_some]; exact ⟨hj, hs⟩
      exact List.mem_of_getElem? this
    have := List.all_eq_true.mp h3 _ hm
    simp only [Bool.and_eq_true, beq_iff_eq] at this
    rw [e, en]
    exact ⟨this.1.1, this.1.2, this.2⟩
end L3

namespace L3
open PySem PySem.Spec PyProof.Rows L2
def tidyD (a : Int) (lo hi : Option Int) : Deed := if lo ≠ none ∧ lo = hi then ⟨0, lo, hi⟩ else ⟨a, lo, hi⟩
def thrO (e : Deed) (o : Option Int) (d : Option Int) : Option Int := match o with
  | none => d
  | some l => some (e.mk' l)
def joinD (d e : Deed) : Deed := tidyD (d.add + e.add) (thrO e d.lo e.lo) (thrO e d.hi e.hi)
def Deed.Bd (B : Int) (d : Deed) : Prop := (-B ≤ d.add ∧ d.add ≤ B) ∧ (∀ l, d.lo = some l → -B ≤ l ∧ l ≤ B) ∧ ∀ h, d.hi = some h → -B ≤ h ∧ h ≤ B
def optA (o : Option Int) : Int := match o with | none => 0 | some i => (i.natAbs : Int)
def Deed.big (d : Deed) : Int := (d.add.natAbs : Int) + optA d.lo + optA d.hi + 1
theorem Deed.Sm.bd {d : Deed} (h : d.Sm) : d.Bd (10 ^ 30) := by
  obtain ⟨⟨a1, a2⟩, h1, h2⟩ := h
  exact ⟨⟨by omega, by omega⟩, fun l e => by have := h1 l e; exact ⟨by have := this.1; omega, by have := this.2; omega⟩, fun l e => by have := h2 l e; exact ⟨by have := this.1; omega, by have := this.2; omega⟩⟩
end L3

namespace L3
open PySem PySem.Spec PyProof.Rows L2
theorem iteF' {c : Bool} {A B : Prop} (e : c = false) (h : B) : if c = true then A else B := by rw [e]; exact iteF h
theorem iteT' {c : Bool} {A B : Prop} (e : c = true) (h : A) : if c = true then A else B := by rw [e]; exact iteT h
theorem comp_tup {K : PySem.W.Frag} {a : Addr} {xs : List V} {g : TG} {tt : TT} {te : TE} {Q : VK} {σ : L2.St} {H : Hp} (Pv : Nat → List V → L2.St → Hp → Prop) (h0 : Pv 0 [] σ H) (hl : ∀ i ys σ H, i ≤ xs.length → Pv i ys σ H → SqT K H a xs)
    (hs : ∀ i x ys σ H, xs[i]? = some x → Pv i ys σ H → g x σ H fun σ2 H3 => tt σ2 H3 fun b H4 => if b = true then te σ2 H4 fun y H5 => ys.length < sizeLine ∧ Pv (i + 1) (ys ++ [y]) σ2 H5 else Pv (i + 1) ys σ2 H4)
    (hd : ∀ ys σ H, Pv xs.length ys σ H → ∀ l, H l = none → Q (.ref l) (upd H l (.lst ys))) :
    CompW (Itt K a) σ H g tt te Q := by
  refine ⟨fun i m ys σ H => m = xs.length - i ∧ i ≤ xs.length ∧ Pv i ys σ H, ⟨xs.length, by simp, Nat.zero_le _, h0⟩, ?_⟩
  rintro i m ys σ H ⟨rfl, hi, p⟩
  have q := hl i ys σ H hi p
  by_cases hlt : i < xs.length
  · refine .inr ⟨⟨xs, xs[i], q, by simp [hlt]⟩, Pv (i + 1), fun zs σ' H' p' => ⟨xs.length - (i + 1), by omega, rfl, hlt, p'⟩, fun x H' y => ?_⟩
    obtain ⟨e, y⟩ := y
    subst e
    exact hs i x ys σ _ (y xs q) p
  · have e : i = xs.length := by omega
    subst e
    exact .inl ⟨⟨xs, q, Nat.le_refl _⟩, hd ys σ H p⟩
theorem comp_list {K : PySem.W.Frag} {a : Addr} {xs : List V} {g : TG} {tt : TT} {te : TE} {Q : VK} {σ : L2.St} {H : Hp} (Pv : Nat → List V → L2.St → Hp → Prop) (h0 : Pv 0 [] σ H) (hl : ∀ i ys σ H, i ≤ xs.length → Pv i ys σ H → SqL K H a xs)
    (hs : ∀ i x ys σ H, xs[i]? = some x → Pv i ys σ H → g x σ H fun σ2 H3 => tt σ2 H3 fun b H4 => if b = true then te σ2 H4 fun y H5 => ys.length < sizeLine ∧ Pv (i + 1) (ys ++ [y]) σ2 H5 else Pv (i + 1) ys σ2 H4)
    (hd : ∀ ys σ H, Pv xs.length ys σ H → ∀ l, H l = none → Q (.ref l) (upd H l (.lst ys))) :
    CompW (Itl K a) σ H g tt te Q := by
  refine ⟨fun i m ys σ H => m = xs.length - i ∧ i ≤ xs.length ∧ Pv i ys σ H, ⟨xs.length, by simp, Nat.zero_le _, h0⟩, ?_⟩
  rintro i m ys σ H ⟨rfl, hi, p⟩
  have q := hl i ys σ H hi p
  by_cases hlt : i < xs.length
  · refine .inr ⟨⟨xs, xs[i], q, by simp [hlt]⟩, Pv (i + 1), fun zs σ' H' p' => ⟨xs.length - (i + 1), by omega, rfl, hlt, p'⟩, fun x H' y => ?_⟩
    obtain ⟨e, y⟩ := y
    subst e
    exact hs i x ys σ _ (y xs q) p
  · have e : i = xs.length := by omega
    subst e
    exact .inl ⟨⟨xs, q, Nat.le_refl _⟩, hd ys σ H p⟩
theorem comp_tup0 {K : PySem.W.Frag} {a : Addr} {xs : List V} {n : Nat} {te : TE} {Q : VK} {σ : L2.St} {H : Hp} (Pv : Nat → List V → L2.St → Hp → Prop) (h0 : Pv 0 [] σ H) (hl : ∀ i ys σ H, i ≤ xs.length → Pv i ys σ H → SqT K H a xs)
    (hs : ∀ i x ys σ H, xs[i]? = some x → Pv i ys σ H → te (σ.set n (some x)) H fun y H5 => ys.length < sizeLine ∧ Pv (i + 1) (ys ++ [y]) (σ.set n (some x)) H5)
    (hd : ∀ ys σ H, Pv xs.length ys σ H → ∀ l, H l = none → Q (.ref l) (upd H l (.lst ys))) : CompW (Itt K a) σ H (gName n) tTrue te Q :=
  comp_tup Pv h0 hl (fun i x ys σ H hx p => by
    show if true = true then te (σ.set n (some x)) H (fun y H5 => ys.length < sizeLine ∧ Pv (i + 1) (ys ++ [y]) (σ.set n (some x)) H5) else Pv (i + 1) ys (σ.set n (some x)) H
    rw [if_pos rfl]; exact hs i x ys σ H hx p) hd
theorem comp_list0 {K : PySem.W.Frag} {a : Addr} {xs : List V} {n : Nat} {te : TE} {Q : VK} {σ : L2.St} {H : Hp} (Pv : Nat → List V → L2.St → Hp → Prop) (h0 : Pv 0 [] σ H) (hl : ∀ i ys σ H, i ≤ xs.length → Pv i ys σ H → SqL K H a xs)
    (hs : ∀ i x ys σ H, xs[i]? = some x → Pv i ys σ H → te (σ.set n (some x)) H fun y H5 => ys.length < sizeLine ∧ Pv (i + 1) (ys ++ [y]) (σ.set n (some x)) H5)
    (hd : ∀ ys σ H, Pv xs.length ys σ H → ∀ l, H l = none → Q (.ref l) (upd H l (.lst ys))) : CompW (Itl K a) σ H (gName n) tTrue te Q :=
  comp_list Pv h0 hl (fun i x ys σ H hx p => by
    show if true = true then te (σ.set n (some x)) H (fun y H5 => ys.length < sizeLine ∧ Pv (i + 1) (ys ++ [y]) (σ.set n (some x)) H5) else Pv (i + 1) ys (σ.set n (some x)) H
    rw [if_pos rfl]; exact hs i x ys σ H hx p) hd
theorem Deed.Bd.mono {d : Deed} {B C : Int} (b : d.Bd B) (h : B ≤ C) : d.Bd C := by
  obtain ⟨⟨b1, b2⟩, b3, b4⟩ := b
  exact ⟨⟨by omega, by omega⟩, fun l e => by have := b3 l e; omega, fun l e => by have := b4 l e; omega⟩
end L3

namespace L3
open PySem PySem.Spec PyProof.Rows L2
end L3

namespace L3
open PySem PySem.Spec PyProof.Rows L2
section
variable {X : Cx}
def rEqL (K : PySem.W.Frag) (neg : Bool) : R2 := fun x y H Q => ∃ a b xs ys, x = .ref a ∧ y = .ref b ∧ SqL K H a xs ∧ SqL K H b ys ∧ xs.all flatV = true ∧ ys.all flatV = true ∧ Q (.bl (if neg then !eqVs xs ys else eqVs xs ys)) H
theorem op_eqL {k : Nat} (hr : Room k X.A) : OpR X (compareOp .Eq) (rEqL X.K false) := by
  intro pins s σ H x y v u Q I rx ry h
  obtain ⟨a, b, xs, ys, rfl, rfl, ha, hb, f1, f2, q⟩ := h
  cases rx; cases ry
  obtain ⟨us, r1, t1, _⟩ := I.list ha
  obtain ⟨ws, r2, t2, _⟩ := I.list hb
  by_cases hl : us.length = ws.length
  · refine SeqAt.eq_listAt t1.isList t2.isList (by simpa using hl) hr.units0 (eqs_at r1 r2 f1 f2) ?_
    have e := eqVs_range (xs := xs) (ys := ys)
    have e2 : (xs.length == ys.length) = true := by rw [beq_iff_eq, r1.length, r2.length]; exact hl
    rw [e2, Bool.and_true, show min xs.length ys.length = xs.length by rw [r1.length, r2.length]; omega] at e
    rw [List.size_toArray, ← r1.length, e]
    exact ⟨.bl _, H, I, rfl, q⟩
  · refine SeqAt.eq_list_lengthsAt t1.isList t2.isList (by simpa using hl) hr.units0 ?_
    have e : eqVs xs ys = false := by
      cases z : eqVs xs ys with
      | false => rfl
      | true => exact absurd (by rw [← r1.length, ← r2.length]; exact eqVs_len z) hl
    rw [e] at q
    exact ⟨.bl _, H, I, rfl, q⟩
end
theorem eqV_int {i j : Int} : eqV (.int i) (.int j) = decide (i = j) := by rw [Bool.eq_iff_iff]; simp [eqV]
theorem eqVs_ints : ∀ {xs ys : List Int}, eqVs (xs.map V.int) (ys.map V.int) = decide (xs = ys)
  | [], [] => rfl
  | x :: xs, y :: ys => by
    show (eqV (.int x) (.int y) && eqVs (xs.map V.int) (ys.map V.int)) = _
    rw [eqV_int, eqVs_ints, Bool.eq_iff_iff]
    simp
  | [], _ :: _ => by simp [eqVs]
  | _ :: _, [] => by simp [eqVs]
theorem flat_ints {xs : List Int} : (xs.map V.int).all flatV = true := by
  rw [List.all_eq_true]; intro x hx; obtain ⟨i, _, rfl⟩ := List.mem_map.mp hx; rfl
theorem Grow.sqL {H H' : Hp} (g : Grow [] H H') {K : PySem.W.Frag} {a : Addr} {xs : List V} (h : SqL K H a xs) : SqL K H' a xs := by
  rcases h with (h | ⟨o, h⟩) | h
  · exact .inl (.inl (g.keep _ _ (by simp) h))
  · exact .inl (.inr ⟨o, g.frz _ _ _ h⟩)
  · exact .inr h
section
variable {K : PySem.W.Frag} {a : Addr} {xs : List V} {n : Nat} {tt : TT} {te : TE} {Q : VK} {σ : L2.St} {H : Hp}
end
theorem nd {d e : Deed} (h : d = e) : (!decide (d = e)) = false := by rw [decide_eq_true h]; rfl
end L3

namespace L3
open PySem PySem.Spec PyProof.Rows L2
mutual
inductive Dat (K : PySem.W.Frag) (H : Hp) : V → PyData → Prop
  | non : Dat K H .non .none
  | bl (b : Bool) : Dat K H (.bl b) (.bool b)
  | int (i : Int) : Dat K H (.int i) (.int i)
  | tup {a : Addr} {xs : List V} {ds : List PyData} : SqT K H a xs → DatAll K H xs ds → Dat K H (.ref a) (.tuple ds)
  | lst {a : Addr} {xs : List V} {ds : List PyData} : SqL K H a xs → DatAll K H xs ds → Dat K H (.ref a) (.list ds)
inductive DatAll (K : PySem.W.Frag) (H : Hp) : List V → List PyData → Prop
  | nil : DatAll K H [] []
  | cons {x : V} {xs : List V} {d : PyData} {ds : List PyData} : Dat K H x d → DatAll K H xs ds → DatAll K H (x :: xs) (d :: ds)
end
section
variable {X : Cx} {pins : List (Addr × Obj)} {σ : L2.St} {H : Hp} {s : Shared}
mutual
theorem Dat.reads (I : Inv X pins σ H s) : ∀ {x : V} {d : PyData} {u : Value}, Dat X.K H x d → RelV x u → ∃ as, Reads s.heap u d as
  | _, _, u, .non, r => by
    cases (show u = Value.none from r)
    exact ⟨_, .none⟩
  | _, _, u, .bl b, r => by
    cases (show u = Value.bool b from r)
    exact ⟨_, .bool b⟩
  | _, _, u, .int i, r => by
    obtain ⟨t, rfl⟩ := r
    exact ⟨_, .int i t⟩
  | _, _, u, .tup (a := a) hs hd, r => by
    cases (show u = Value.ref a from r)
    obtain ⟨its, r1, ⟨o, e1, e2, n, e3⟩, _⟩ := I.tuple hs
    obtain ⟨as, q⟩ := DatAll.reads I hd r1
    exact ⟨_, .tuple e1 e2 e3 q⟩
  | _, _, u, .lst (a := a) hs hd, r => by
    cases (show u = Value.ref a from r)
    obtain ⟨its, r1, ⟨o, n, e1, e2, _, e3⟩, _⟩ := I.list hs
    obtain ⟨as, q⟩ := DatAll.reads I hd r1
    exact ⟨_, .list e1 e2 e3 q⟩
theorem DatAll.reads (I : Inv X pins σ H s) : ∀ {xs : List V} {ds : List PyData} {us : List Value}, DatAll X.K H xs ds → Vals xs us → ∃ as, ReadsAll s.heap us ds as
  | _, _, _, .nil, .nil => ⟨_, .nil⟩
  | _, _, _, .cons h t, .cons r rs => by
    obtain ⟨as, q⟩ := Dat.reads I h r
    obtain ⟨bs, q2⟩ := DatAll.reads I t rs
    exact ⟨_, .cons q q2⟩
end
end
mutual
/-- a bound of the text's length -/
def wtD : PyData → Nat
  | .list xs | .tuple xs => wtAll xs + 3
  | .int _ => 1921
  | .none | .bool _ => 5
  | _ => 20000000
def wtAll : List PyData → Nat
  | [] => 0
  | x :: xs => wtD x + 2 + wtAll xs
end
mutual
theorem shown_wt : ∀ {d : PyData}, d.showable = true → d.hasDict = false → wtD d ≤ 16777216 → d.shown.length ≤ wtD d
  | .none, _, _, _ => by decide
  | .bool b, _, _, _ => by cases b <;> decide
  | .int i, h, _, _ => int_text_len_1921 (of_decide_eq_true h)
  | .str _, _, _, z => absurd (show 20000000 ≤ 16777216 from z) (by decide)
  | .list xs, h, h2, z => by
    have z' : wtAll xs + 3 ≤ 16777216 := z
    have q := shown_wtAll (xs := xs) h h2 (by omega)
    have l := listText_len_le (PyData.shownAll xs)
    show (listText (PyData.shownAll xs)).length ≤ wtAll xs + 3
    omega
  | .tuple xs, h, h2, z => by
    have z' : wtAll xs + 3 ≤ 16777216 := z
    have q := shown_wtAll (xs := xs) h h2 (by omega)
    have l := tupleText_len_le (PyData.shownAll xs)
    show (tupleText (PyData.shownAll xs)).length ≤ wtAll xs + 3
    omega
  | .dict _, _, h, _ => by cases h
theorem shown_wtAll : ∀ {xs : List PyData}, PyData.showableAll xs = true → PyData.hasDictAll xs = false → wtAll xs ≤ 16777216 → ((PyData.shownAll xs).map (·.length)).sum + 2 * (PyData.shownAll xs).length ≤ wtAll xs
  | [], _, _, _ => by decide
  | x :: xs, h, h2, z => by
    have h' : (x.showable && PyData.showableAll xs) = true := h
    have h2' : (x.hasDict || PyData.hasDictAll xs) = false := h2
    rw [Bool.and_eq_true] at h'
    rw [Bool.or_eq_false_iff] at h2'
    have z' : wtD x + 2 + wtAll xs ≤ 16777216 := z
    have q1 := shown_wt (d := x) h'.1 h2'.1 (by omega)
    have q2 := shown_wtAll (xs := xs) h'.2 h2'.2 (by omega)
    show (x.shown.length :: (PyData.shownAll xs).map (·.length)).sum + 2 * ((PyData.shownAll xs).length + 1) ≤ wtD x + 2 + wtAll xs
    rw [List.sum_cons]
    omega
end
end L3

namespace L3
open PySem PySem.Spec PyProof.Rows L2
section
variable {X : Cx} {a b : Expr} {rest : List Expr} {ta tb : TE} {pos : Pos}
end
def I200 (i : Int) : Prop := -(2 ^ 300) < i ∧ i < 2 ^ 300
end L3

namespace L3
open PySem PySem.Spec PyProof.Rows L2
section
variable {K : PySem.W.Frag} {a : Addr} {xs : List V} {lo : Int} {n k : Nat} {te : TE} {Q : VK} {σ : L2.St} {H : Hp}
theorem comp_rng (Pv : Nat → List V → Hp → Prop) (h0 : Pv 0 [] H)
    (hs : ∀ i ys H', i < n → Pv i ys H' → te (σ.set k (some (.int (lo + i)))) H' fun y H5 => ys.length < sizeLine ∧ Pv (i + 1) (ys ++ [y]) H5)
    (hd : ∀ ys H', Pv n ys H' → ∀ l, H' l = none → Q (.ref l) (upd H' l (.lst ys))) : CompW (Itr lo n) σ H (gName k) tTrue te Q := by
  refine ⟨fun i m ys σ' H' => m = n - i ∧ i ≤ n ∧ (σ' = σ ∨ ∃ e, σ' = σ.set k e) ∧ Pv i ys H', ⟨n, by simp, Nat.zero_le _, .inl rfl, h0⟩, ?_⟩
  rintro i m ys σ' H' ⟨rfl, hi, hσ, p⟩
  by_cases hlt : i < n
  · refine .inr ⟨hlt, fun zs σ2 H2 => (σ2 = σ ∨ ∃ e, σ2 = σ.set k e) ∧ Pv (i + 1) zs H2, fun zs σ2 H2 p' => ⟨n - (i + 1), by omega, rfl, hlt, p'.1, p'.2⟩, fun x H2 y => ?_⟩
    obtain ⟨e, y⟩ := y
    subst e y
    have e : σ'.set k (some (V.int (lo + i))) = σ.set k (some (V.int (lo + i))) := by
      rcases hσ with rfl | ⟨e, rfl⟩
      · rfl
      · rw [List.set_set]
    show if true = true then te (σ'.set k (some (V.int (lo + i)))) H2 (fun y H5 => ys.length < sizeLine ∧ ((σ'.set k (some (V.int (lo + i))) = σ ∨ ∃ e, σ'.set k (some (V.int (lo + i))) = σ.set k e) ∧ Pv (i + 1) (ys ++ [y]) H5)) else ((σ'.set k (some (V.int (lo + i))) = σ ∨ ∃ e, σ'.set k (some (V.int (lo + i))) = σ.set k e) ∧ Pv (i + 1) ys H2)
    rw [if_pos rfl, e]
    have e2 : (fun (y : V) (H5 : Hp) => ys.length < sizeLine ∧ ((σ.set k (some (V.int (lo + i))) = σ ∨ ∃ e, σ.set k (some (V.int (lo + i))) = σ.set k e) ∧ Pv (i + 1) (ys ++ [y]) H5)) = fun y H5 => ys.length < sizeLine ∧ Pv (i + 1) (ys ++ [y]) H5 := by
      funext y H5
      exact propext ⟨fun z => ⟨z.1, z.2.2⟩, fun z => ⟨z.1, .inr ⟨_, rfl⟩, z.2⟩⟩
    rw [e2]
    exact hs i ys H2 hlt p
  · have e : i = n := by omega
    subst e
    exact .inl ⟨Nat.le_refl _, hd ys H' p⟩
end
theorem Grow.fresh {m : List Addr} {H H' : Hp} (h : ∀ b ∈ m, H b = none) (g : Grow m H H') : Grow [] H H' :=
  ⟨fun b o _ q => g.keep b o (fun z => by rw [h b z] at q; cases q) q, g.tup, g.frz⟩
theorem Grow.less {m m' : List Addr} {H H' : Hp} (g : Grow m H H') (h : ∀ b ∈ m, b ∈ m' ∨ H b = none) : Grow m' H H' :=
  ⟨fun b o n q => g.keep b o (fun z => by
    rcases h b z with w | w
    · exact n w
    · rw [w] at q; cases q) q, g.tup, g.frz⟩
theorem Pot.ne {H : Hp} {a l : Addr} (p : Pot H a) (h : H l = none) : l ∉ [a] := by
  intro z
  obtain ⟨z0, z1, hz, _⟩ := p
  rw [List.mem_singleton.mp z, hz] at h
  cases h
theorem ixN_nat {n : Nat} {i : Int} (h0 : 0 ≤ i) (h : i.toNat < n) : ixN n i = some i.toNat := by
  unfold ixN; rw [if_pos h0, if_pos (by omega)]
theorem ixGet {xs : List V} {i : Int} {j : Nat} {v : V} (h : ixN xs.length i = some j) (hv : xs[j]? = some v) : atI xs i = some v := by
  unfold atI; rw [h]; exact hv
structure Ask where
  hand : Int
  box : Int
  deed : Deed
def AskAt (K : PySem.W.Frag) (H : Hp) (x : V) (k : Ask) : Prop := ∃ r rd, x = .ref r ∧ SqT K H r [.int k.hand, .int k.box, .ref rd] ∧ SqT K H rd k.deed.vs
def AllA (K : PySem.W.Frag) (H : Hp) : List V → List Ask → Prop
  | [], [] => True
  | x :: xs, k :: ks => AskAt K H x k ∧ AllA K H xs ks
  | _, _ => False
def BoardAt (K : PySem.W.Frag) (H : Hp) (x : V) (b : List Int) : Prop := ∃ r, x = .ref r ∧ SqT K H r (b.map V.int)
theorem Grow.board {m : List Addr} {H H' : Hp} (g : Grow m H H') {K : PySem.W.Frag} {x : V} {b : List Int} (h : BoardAt K H x b) : BoardAt K H' x b := by
  obtain ⟨r, e, h1⟩ := h
  exact ⟨r, e, g.sqT h1⟩
theorem AllA.len {K : PySem.W.Frag} {H : Hp} : ∀ {xs : List V} {ks : List Ask}, AllA K H xs ks → xs.length = ks.length
  | [], [], _ => rfl
  | _ :: xs, _ :: ks, ⟨_, t⟩ => congrArg (· + 1) (AllA.len t)
  | [], _ :: _, h => h.elim
  | _ :: _, [], h => h.elim
theorem AllA.get {K : PySem.W.Frag} {H : Hp} : ∀ {xs : List V} {ks : List Ask} {i : Nat} {x : V}, AllA K H xs ks → xs[i]? = some x → ∃ k, ks[i]? = some k ∧ AskAt K H x k
  | _ :: _, k :: _, 0, x, ⟨h, _⟩, e => by
    obtain rfl := Option.some.inj e
    exact ⟨k, rfl, h⟩
  | _ :: _, _ :: _, i + 1, x, ⟨_, t⟩, e => AllA.get (i := i) t e
  | [], [], i, x, _, e => by cases e
  | [], _ :: _, _, _, h, _ => h.elim
  | _ :: _, [], _, _, h, _ => h.elim
def InB (B : Int) (xs : List Int) : Prop := ∀ v ∈ xs, -B < v ∧ v < B
def Sh (d : PyData) (w n : Nat) : Prop := d.showable = true ∧ d.hasDict = false ∧ wtD d ≤ w ∧ d.depth ≤ n
theorem Sh.mono {d : PyData} {w w' n n' : Nat} (h : Sh d w n) (h1 : w ≤ w') (h2 : n ≤ n') : Sh d w' n' := ⟨h.1, h.2.1, Nat.le_trans h.2.2.1 h1, Nat.le_trans h.2.2.2 h2⟩
theorem InB.mono {B C : Int} {xs : List Int} (h : InB B xs) (hC : B ≤ C) : InB C xs := fun v hv => by have := h v hv; omega
def sp_draw (_ : PySem.W.Frag) : Sp := sp2 fun x y H Q => ∃ a m, x = .ref a ∧ y = .int m ∧ Pot H a ∧ 0 < m ∧ m < 2 ^ 200 ∧ ∀ n H', 0 ≤ n → n < m → Grow [a] H H' → Pot H' a → Q (.int n) H'
def sp_is_within (K : PySem.W.Frag) : Sp := sp3 fun x y z H Q => ∃ i l u, x = .int i ∧ y = .int l ∧ z = .int u ∧ Q (.bl (decide (l ≤ i) && decide (i ≤ u))) H
end L3

namespace L3
open PySem PySem.Spec PyProof.Rows L2
theorem fnok_vac {P : Program} {w : World} {K : PySem.W.Frag} {mg : Str → Option Value} {base : Heap} {CX : CXT} {k : Nat} {f : Addr} {fd : FuncData} {ps : List Str} {sp : Sp} (h : ∀ vs H Q E, ¬ sp vs H Q E) : FnOk P w K mg base CX k f fd ps sp :=
  ⟨fun vs H Q E z => (h vs H Q E z).elim, by
    intros
    first
      | exact (h _ _ _ _ (by assumption)).elim⟩
inductive Tr where
  | leaf (n : Int)
  | node (l r : Tr)
def Tr.count : Tr → Int
  | .leaf _ => 1
  | .node l r => l.count + r.count
def Tr.ht : Tr → Nat
  | .leaf _ => 0
  | .node l r => max l.ht r.ht + 1
def TreeAt (K : PySem.W.Frag) (H : Hp) (x : V) : Tr → Prop
  | .leaf n => x = .int n
  | .node l r => ∃ a xl xr, x = .ref a ∧ SqT K H a [xl, xr] ∧ TreeAt K H xl l ∧ TreeAt K H xr r
theorem Grow.tree {m : List Addr} {H H' : Hp} (g : Grow m H H') {K : PySem.W.Frag} : ∀ {t : Tr} {x : V}, TreeAt K H x t → TreeAt K H' x t
  | .leaf n, x, h => h
  | .node l r, x, h => by
    obtain ⟨a, xl, xr, e, hs, h1, h2⟩ := h
    exact ⟨a, xl, xr, e, g.sqT hs, g.tree h1, g.tree h2⟩
def trD : Tr → PyData
  | .leaf n => .int n
  | .node l r => .tuple [trD l, trD r]
def Tr.Nums (t : Tr) : Prop := match t with
  | .leaf n => I200 n
  | .node l r => l.Nums ∧ r.Nums
def Tr.wt : Tr → Nat
  | .leaf _ => 1
  | .node l r => l.wt + r.wt + 1
def sp_need_many (_ : PySem.W.Frag) : Sp := sp1 fun x H Q => ∃ m, x = .int m ∧ 1 ≤ m ∧ m ≤ 40 ∧ Q .non H
end L3

namespace L3
open PySem PySem.Spec PyProof.Rows L2
def sp4 (b : V → V → V → V → Hp → VK → Prop) : Sp := fun vs H Q _ => ∃ x y z u, vs = [x, y, z, u] ∧ b x y z u H Q
theorem sp4_len {b : V → V → V → V → Hp → VK → Prop} {p q r s : Str} : ∀ vs H Q E, sp4 b vs H Q E → vs.length = [p, q, r, s].length := fun vs H Q E h => by
  obtain ⟨x, y, z, u, rfl, _⟩ := h; rfl
def AllR {α : Type} (R : V → α → Prop) : List V → List α → Prop
  | [], [] => True
  | x :: xs, k :: ks => R x k ∧ AllR R xs ks
  | _, _ => False
section
variable {α : Type} {R S : V → α → Prop}
theorem AllR.imp (h : ∀ x k, R x k → S x k) : ∀ {xs : List V} {ks : List α}, AllR R xs ks → AllR S xs ks
  | [], [], _ => trivial
  | _ :: _, _ :: _, ⟨a, t⟩ => ⟨h _ _ a, AllR.imp h t⟩
  | [], _ :: _, z => z.elim
  | _ :: _, [], z => z.elim
theorem AllR.len : ∀ {xs : List V} {ks : List α}, AllR R xs ks → xs.length = ks.length
  | [], [], _ => rfl
  | _ :: xs, _ :: ks, ⟨_, t⟩ => congrArg (· + 1) (AllR.len t)
  | [], _ :: _, h => h.elim
  | _ :: _, [], h => h.elim
theorem AllR.get : ∀ {xs : List V} {ks : List α} {i : Nat} {x : V}, AllR R xs ks → xs[i]? = some x → ∃ k, ks[i]? = some k ∧ R x k
  | _ :: _, k :: _, 0, x, ⟨h, _⟩, e => by
    obtain rfl := Option.some.inj e
    exact ⟨k, rfl, h⟩
  | _ :: _, _ :: _, i + 1, x, ⟨_, t⟩, e => AllR.get (i := i) t e
  | [], [], i, x, _, e => by cases e
  | [], _ :: _, _, _, h, _ => h.elim
  | _ :: _, [], _, _, h, _ => h.elim
theorem AllR.app : ∀ {xs ys : List V} {ks js : List α}, AllR R xs ks → AllR R ys js → AllR R (xs ++ ys) (ks ++ js)
  | [], _, [], _, _, h => h
  | _ :: _, _, _ :: _, _, ⟨h, t⟩, q => ⟨h, AllR.app t q⟩
  | [], _, _ :: _, _, h, _ => h.elim
  | _ :: _, _, [], _, h, _ => h.elim
theorem AllR.one {x : V} {k : α} (h : R x k) : AllR R [x] [k] := ⟨h, trivial⟩
theorem AllR.take : ∀ {xs : List V} {ks : List α} {n : Nat}, AllR R xs ks → AllR R (xs.take n) (ks.take n)
  | [], [], n, _ => by rw [List.take_nil, List.take_nil]; trivial
  | _ :: _, _ :: _, 0, _ => trivial
  | _ :: _, _ :: _, n + 1, ⟨h, t⟩ => ⟨h, AllR.take t⟩
  | [], _ :: _, _, h => h.elim
  | _ :: _, [], _, h => h.elim
theorem AllR.snocE {xs : List V} {x : V} {ks : List α} (h : AllR R (xs ++ [x]) ks) : ∃ js j, ks = js ++ [j] ∧ AllR R xs js ∧ R x j := by
  induction xs generalizing ks with
  | nil =>
    cases ks with
    | nil => exact h.elim
    | cons k ks =>
      obtain ⟨a, b⟩ := h
      cases ks with
      | nil => exact ⟨[], k, rfl, trivial, a⟩
      | cons _ _ => exact b.elim
  | cons y ys ih =>
    cases ks with
    | nil => exact h.elim
    | cons k ks =>
      obtain ⟨a, b⟩ := h
      obtain ⟨js, j, rfl, p, q⟩ := ih b
      exact ⟨k :: js, j, rfl, ⟨a, p⟩, q⟩
end
def Ordd : Tr → Int → Prop
  | .leaf n, f => n = f
  | .node l r, f => Ordd l f ∧ Ordd r (f + l.count)
def look : Deed := ⟨0, none, none⟩
def AllOk (ds : List Deed) : Prop := ∀ d ∈ ds, d.Ok
theorem count_pos : ∀ t : Tr, 1 ≤ t.count
  | .leaf _ => Int.le_refl 1
  | .node l r => by have := count_pos l; have := count_pos r; show 1 ≤ l.count + r.count; omega
def runD (ds : List Deed) : Deed := ds.foldl joinD look
end L3

namespace L3
open PySem PySem.Spec PyProof.Rows L2
theorem snoc_of {xs : List V} (h : xs ≠ []) : ∃ ys y, xs = ys ++ [y] := by
  cases e : xs.reverse with
  | nil => exact absurd (List.reverse_eq_nil_iff.mp e) h
  | cons y r => exact ⟨r.reverse, y, by rw [← List.reverse_reverse xs, e, List.reverse_cons]⟩
theorem wt_count : ∀ t : Tr, (t.wt : Int) = 2 * t.count - 1
  | .leaf _ => rfl
  | .node l r => by
    have a := wt_count l
    have b := wt_count r
    show ((l.wt + r.wt + 1 : Nat) : Int) = 2 * (l.count + r.count) - 1
    omega
theorem Grow.treesR {m : List Addr} {H H' : Hp} (g : Grow m H H') {K : PySem.W.Frag} {xs : List V} {ts : List Tr} (h : AllR (TreeAt K H) xs ts) : AllR (TreeAt K H') xs ts := h.imp fun _ _ z => g.tree z
theorem AllR.drop {α : Type} {R : V → α → Prop} : ∀ {xs : List V} {ks : List α} {n : Nat}, AllR R xs ks → AllR R (xs.drop n) (ks.drop n)
  | [], [], n, _ => by rw [List.drop_nil, List.drop_nil]; trivial
  | _ :: _, _ :: _, 0, h => h
  | _ :: _, _ :: _, n + 1, ⟨h, t⟩ => AllR.drop (n := n) t
  | [], _ :: _, _, h => h.elim
  | _ :: _, [], _, h => h.elim
theorem AllR.cut {α : Type} {R : V → α → Prop} {xs : List V} {ks : List α} (h : AllR R xs ks) (lo hi : Option Int) : ∃ us, AllR R (cutV xs lo hi) us ∧ ∀ u ∈ us, u ∈ ks := by
  unfold cutV
  exact ⟨_, (h.drop (n := HT.sIx xs.length 0 lo)).take (n := HT.sIx xs.length xs.length hi - HT.sIx xs.length 0 lo), fun u hu => List.mem_of_mem_drop (List.mem_of_mem_take hu)⟩
def sp_law_tree (N : Nat) (K : PySem.W.Frag) : Sp := sp4 fun x y z u H Q => ∃ a f m c, x = .ref a ∧ y = .int f ∧ z = .int m ∧ u = .int c ∧ Pot H a ∧ 0 ≤ f ∧ 1 ≤ m ∧ m ≤ N ∧ f + m ≤ 100 ∧ 0 ≤ c ∧ c ≤ 2 ∧ ∀ y t H', Grow [a] H H' → Pot H' a → TreeAt K H' y t → Ordd t f → t.count = m → t.ht < m.toNat → t.Nums → Q y H'
theorem vac_law_tree {K : PySem.W.Frag} : ∀ vs H Q E, ¬ sp_law_tree 0 K vs H Q E := by
  rintro vs H Q E ⟨x, y, z, u, _, a, f, m, c, _, _, _, _, _, _, h1, h2, _⟩
  omega
end L3

namespace L3
open PySem PySem.Spec PyProof.Rows L2
def RowsAt (K : PySem.W.Frag) (H : Hp) (x : V) (rows : List (List Int)) : Prop := ∃ r xs, x = .ref r ∧ SqT K H r xs ∧ AllR (BoardAt K H) xs rows
theorem Grow.boardsR {m : List Addr} {H H' : Hp} (g : Grow m H H') {K : PySem.W.Frag} {xs : List V} {rows : List (List Int)} (h : AllR (BoardAt K H) xs rows) : AllR (BoardAt K H') xs rows := h.imp fun _ _ z => g.board z
theorem Grow.rows {m : List Addr} {H H' : Hp} (g : Grow m H H') {K : PySem.W.Frag} {x : V} {rows : List (List Int)} (h : RowsAt K H x rows) : RowsAt K H' x rows := by
  obtain ⟨r, xs, e, h1, h2⟩ := h
  exact ⟨r, xs, e, g.sqT h1, g.boardsR h2⟩
def Rng (m : Int) (xs : List Int) : Prop := ∀ v ∈ xs, 0 ≤ v ∧ v < m
def TabOk (R M : Nat) (rows : List (List Int)) : Prop := rows.length = R ∧ ∀ row ∈ rows, row.length = M ∧ Rng M row
structure Fd (R : Nat) (tab : List (List Int)) (ns : List Int) : Prop where
  tab : TabOk R R tab
  ns : Rng R ns
end L3

namespace L3
open PySem PySem.Spec PyProof.Rows L2
section
variable {prog : Program} {w : World} {A : Around} {E : Value → Shared → Prop} {s : Shared}
end
section
variable {prog : Program} {w : World} {A : Around} {E : Value → Shared → Prop} {s : Shared}
open AutoSeq1 (wpAny_loadPart')
end
section
variable {X : Cx} {pins : List (Addr × Obj)} {σ : L2.St} {H : Hp} {s : Shared} {h' : Heap}
end
section
variable {X : Cx} {elts : List Expr} {kt : Nat} {pt : Pos}
end
end L3

namespace L3
open PySem PySem.Spec PyProof.Rows L2
theorem getDd {ds : List Deed} {i : Nat} (h : i < ds.length) : ds[i]? = some (ds.getD i look) := by
  rw [List.getD_eq_getElem?_getD, List.getElem?_eq_getElem h]; rfl
def atBox (j : Int) (ks : List Ask) : List Deed := (ks.filter fun k => decide (k.box = j)).map Ask.deed
structure GInv (b : List Int) (ks : List Ask) (g : List Deed × List Deed) (p : List Int × List Int) : Prop where
  l1 : g.1.length = b.length
  l2 : g.2.length = ks.length
  p1 : p.1.length = ks.length
  p2 : p.2.length = b.length
  bd1 : ∀ d ∈ g.1, d.Ok ∧ d.Bd (ks.length * 10 ^ 30)
  bd2 : ∀ d ∈ g.2, d.Ok ∧ d.Bd (ks.length * 10 ^ 30)
  run : ∀ j : Nat, j < b.length → g.1.getD j look = runD (atBox j ks)
  val : ∀ j : Nat, j < b.length → p.2.getD j 0 = (g.1.getD j look).mk' (b.getD j 0)
  ans : ∀ i k, ks[i]? = some k → p.1.getD i 0 = (g.2.getD i look).mk' (b.getD k.box.toNat 0)
theorem AllR.set {α : Type} {R : V → α → Prop} {x : V} {k : α} (h : R x k) : ∀ {xs : List V} {ks : List α} {n : Nat}, AllR R xs ks → AllR R (xs.set n x) (ks.set n k)
  | [], [], n, _ => by cases n <;> trivial
  | _ :: _, _ :: _, 0, ⟨_, t⟩ => ⟨h, t⟩
  | _ :: _, _ :: _, n + 1, ⟨a, t⟩ => ⟨a, AllR.set h t⟩
  | [], _ :: _, _, z => z.elim
  | _ :: _, [], _, z => z.elim
section
variable {K : PySem.W.Frag} {a : Addr} {xs : List V} {k : Nat} {tt : TT} {te : TE} {Q : VK} {σ : L2.St} {H : Hp}
end
section
variable {K : PySem.W.Frag} {a : Addr} {xs : List V} {k : Nat} {tt : TT} {te : TE} {Q : VK} {σ : L2.St} {H : Hp}
end
end L3

namespace L3
open PySem PySem.Spec PyProof.Rows L2
def figI (k st l : Int) : Int := Builtin.bitAnd (l / 2 ^ (k - st).toNat) 1
def wfI (k st l w : Int) : Int := Builtin.bitXor l (Builtin.bitXor (figI k st l) w * 2 ^ (k - st).toNat)
def swI (k st l : Int) : Int := Builtin.bitOr (l / 2 ^ (k - st + 1).toNat * 2 ^ (k - st).toNat) (Builtin.bitAnd l (1 * 2 ^ (k - st).toNat - 1))
def figsL (k n : Int) : List Int := (List.range k.toNat).map fun i : Nat => Builtin.bitAnd (n / 2 ^ (k - 1 - (0 + (i : Int))).toNat) 1
def numL (xs : List Int) : Int := xs.foldl (fun f o => 2 * f + o) 0
def lineL (k h g : Int) (n : Nat) : Int := numL ((figsL k g).take n ++ (figsL k h).drop n)
def numsL (k l : Int) (st : Nat) : Int := numL ((figsL k l).take (st - 1) ++ (figsL k l).drop st)
end L3

namespace L3
open PySem PySem.Spec PyProof.Rows L2
section
variable {X : Cx}
end
theorem mulOkL {i j : Int} (h : -(2 ^ 60) < i ∧ i < 2 ^ 60) : IntMulOk i j := PySem.IntMulOk.of_left (Nat.le_trans ((PySem.intBits_le_iff (m := 60)).mpr (by obtain ⟨a, b⟩ := h; omega)) (by decide))
end L3

namespace L3
open PySem PySem.Spec PyProof.Rows L2
section
variable {prog : Program} {w : World} {A : Around} {R : Result → Shared → Prop} {s : Shared}
variable {elt t0 i0 t1 i1 : Expr} {ifs : List Expr} {scope : Scope} {pos : Pos} {it acc : Value} {env : Env}
end
section
variable {Y : Cx} {pins : List (Addr × Obj)} {D it2 : Addr} {fp2 : List Addr} {tn2 : Nat → Heap → Prop} {J2 : It} {y : Str} {py pos : Pos} {elt t0 i0 i1 : Expr} {ifs : List Expr} {scope : Scope} {g1 : TG} {tt : TT} {te : TE} {Out : List V → L2.St → Hp → Prop} {W : Nat → Nat → List V → L2.St → Hp → Prop} {R : Result → Shared → Prop}
end
section
variable {X : Cx} {pins : List (Addr × Obj)} {σ : L2.St} {H2 : Hp} {s₂ : Shared} {it : Addr} {fp : List Addr} {tn : Nat → Heap → Prop} {J : It} {scope : Scope} {cl : List (Str × Addr)} {N' : List Str} {sub : List (Option Nat)}
end
end L3

namespace L3
open PySem PySem.Spec PyProof.Rows L2
section
variable {X : Cx} {pins : List (Addr × Obj)} {σ : L2.St} {H2 : Hp} {s₂ : Shared} {it : Addr} {fp : List Addr} {tn : Nat → Heap → Prop} {J : It} {scope : Scope} {cl : List (Str × Addr)} {N' : List Str} {sub : List (Option Nat)}
end
section
variable {X : Cx} {scope : Scope} {N' : List Str} {sub : List (Option Nat)} {x y : Str} {px py pos : Pos} {elt i0 i1 : Expr} {ifs : List Expr} {wi wi1 : TI} {g0 g1 : TG} {tt : TT} {te : TE}
end
end L3

namespace L3
open PySem PySem.Spec PyProof.Rows L2
section
variable {X : Cx}
end
end L3

namespace L3
open PySem PySem.Spec PyProof.Rows L2
theorem Deed.Sm.bd2 {d : Deed} (h : d.Sm) : d.Bd (2 * 10 ^ 30) := h.bd.mono (by decide)
end L3

namespace L3
open PySem PySem.Spec PyProof.Rows L2
section
variable {X : Cx} {pins : List (Addr × Obj)} {σ : L2.St} {H2 : Hp} {s₂ : Shared} {it : Addr} {fp : List Addr} {tn : Nat → Heap → Prop} {J : It} {scope : Scope} {cl : List (Str × Addr)} {N' : List Str} {sub : List (Option Nat)}
theorem comp_runT {C D : Addr} {s₀ : Shared} {tg : Expr} {pos : Pos} {elt iter : Expr} {ifs : List Expr} {g : TG} {tt : TT} {te : TE} {Q : VK} {RR : Value → Addr → Result → Shared → Prop} {W : Nat → Nat → List V → L2.St → Hp → Prop}
    (I : Inv X pins σ H2 s₂) (hcalm : X.calm = true) (T : Turn X.prog X.w X.K tg J fp it tn) (f2 : ∀ b ∈ fp, FpOk X pins H2 b) (hfp : ∀ b ∈ fp, b < s₂.heap.objs.size)
    (hs₀ : ∀ b o, s₂.heap.get? b = some o → s₀.heap.get? b = some o) (hos : s₀.os = s₂.os) (hD : s₂.heap.objs.size ≤ D) (hC : s₂.heap.objs.size ≤ C) (hDC : D ≠ C)
    (hcl1 : ∀ x c, cl.lookup x = some c → X.env.cells.lookup x = some c)
    (hg : PG (cxC X N' scope cl C D fp s₀ H2) tg g) (ht : PIfs (cxC X N' scope cl C D fp s₀ H2) ifs tt) (he : PE (cxC X N' scope cl C D fp s₀ H2) elt te)
    (turn : ∀ i m ys σ' H', W i m ys σ' H' →
      (J.stop i H' ∧ ∀ l, H' l = none → Q (.ref l) (upd H' l (.lst ys))) ∨
      (J.go i H' ∧ ∃ Nn : List V → L2.St → Hp → Prop, (∀ zs σ2 H2, Nn zs σ2 H2 → ∃ m', m' < m ∧ W (i + 1) m' zs σ2 H2) ∧
        ∀ x H2, J.yld i H' x H2 → g x σ' H2 fun σ2 H3 => tt σ2 H3 fun b H4 => if b = true then te σ2 H4 fun y H5 => ys.length < sizeLine ∧ Nn (ys ++ [y]) σ2 H5 else Nn ys σ2 H4))
    (hRR : ∀ (D C : Addr) (oC : Obj) (m : Str → Option Value) (s' : Shared) (Hf : Hp), Inv X (pins ++ [(C, oC)]) σ Hf s' → s'.heap.Ns C m → FpOk X pins Hf C → Q (.ref D) Hf → RR (.ref D) C (.ok .next) s')
    (n : Nat) (s : Shared) (h : ∃ i ys us k σ' H', Inv (cxC X N' scope cl C D fp s₀ H2) pins σ' H' s ∧ tn i s.heap ∧ (∀ b ∈ fp, H' b = none) ∧ H' D = none ∧
      s.heap.get? D = some { cls := .type "list", data := .seq (us : List Value).toArray k } ∧ Vals ys us ∧ ys.length ≤ sizeLine ∧ W i n ys σ' H') :
    codeAny (model X.prog X.w) X.A (.compLoop (.ListComp elt [⟨tg, iter, ifs, 0⟩] scope pos) 0 (.ref it) (.ref D) (compEnvC scope cl C X.env)) (RR (.ref D) C) s := by
  have frsz : ∀ b ∈ frs X.stack, b < s₂.heap.objs.size := fun b hb => by
    rcases List.mem_cons.mp (I.stkSub b hb) with z | z
    · rw [z]; exact I.lt
    · exact Nat.lt_of_not_le fun q => I.nofs q z
  have cells : ∀ x c, cl.lookup x = some c → c < s₂.heap.objs.size := fun x c e => let ⟨v, q⟩ := I.cell x c (hcl1 x c e); q.lt
  have pinsz : ∀ p ∈ X.pn ++ pins, p.1 < s₂.heap.objs.size := fun p hp => Heap.lt_size (I.pin p hp).1
  refine comp_loop (fun n s => ∃ i ys us k σ' H', Inv (cxC X N' scope cl C D fp s₀ H2) pins σ' H' s ∧ tn i s.heap ∧ (∀ b ∈ fp, H' b = none) ∧ H' D = none ∧
      s.heap.get? D = some { cls := .type "list", data := .seq (us : List Value).toArray k } ∧ Vals ys us ∧ ys.length ≤ sizeLine ∧ W i n ys σ' H') ?_ n h
  rintro n s ⟨i, ys, us, k, σ', H', I', st', fr, hn, hy, rv, hz, w'⟩
  have pD : Inv (cxC X N' scope cl C D fp s₀ H2) (pins ++ [(D, { cls := .type "list", data := .seq us.toArray k })]) σ' H' s := I'.pins_of fun p hp => by
    rcases List.mem_append.mp hp with hp | hp
    · exact I'.pin p (List.mem_append_right _ hp)
    · rw [List.mem_singleton.mp hp]
      exact ⟨hy, hn, hDC, fun z => absurd (Nat.lt_of_lt_of_le (frsz _ z) hD) (Nat.lt_irrefl _), fun v z => by cases z⟩
  have fpok : ∀ {H'' : Hp}, (∀ b ∈ fp, H'' b = none) → ∀ b ∈ fp, FpOk (cxC X N' scope cl C D fp s₀ H2) (pins ++ [(D, { cls := .type "list", data := .seq us.toArray k })]) H'' b := fun hz b hb => by
    refine ⟨hz b hb, Nat.ne_of_lt (Nat.lt_of_lt_of_le (hfp b hb) hC), fun z => ?_, .inl (List.mem_cons_of_mem _ hb), fun x c e => (f2 b hb).2.2.2.2.1 x c (hcl1 x c e), fun p hp => ?_⟩
    · rcases List.mem_cons.mp (I.stkSub b z) with z | z
      · exact (f2 b hb).2.1 z
      · exact (f2 b hb).2.2.1 z
    · rcases List.mem_append.mp hp with hp | hp
      · exact (f2 b hb).2.2.2.2.2 p (List.mem_append_left _ hp)
      · rcases List.mem_append.mp hp with hp | hp
        · exact (f2 b hb).2.2.2.2.2 p (List.mem_append_right _ hp)
        · rw [List.mem_singleton.mp hp]
          exact Nat.ne_of_gt (Nat.lt_of_lt_of_le (hfp b hb) hD)
  rcases turn i n ys σ' H' w' with ⟨stop, q⟩ | ⟨go, Nn, hN, step⟩
  · refine thn (T.done (cxC X N' scope cl C D fp s₀ H2) rfl rfl rfl hcalm i _ s σ' H' (fun _ _ => False) pD (fpok fr) st' stop) fun r s1 ⟨hr, I1⟩ => ?_
    subst hr
    have hy1 := (I1.pin (D, { cls := .type "list", data := .seq us.toArray k }) (by simp)).1
    obtain ⟨m, hm, _⟩ := I1.loc
    obtain ⟨oC, es, ep, hoC, hdC, _⟩ := id hm
    obtain ⟨IX, fpc⟩ := comp_fin I hs₀ hos hD hC hDC f2 I1.unpinned hn hy1 rv hz hoC (by intro v z; rw [hdC] at z; cases z)
    exact hRR D C oC m s1 _ IX hm fpc (q D hn)
  · refine thn (T.item (cxC X N' scope cl C D fp s₀ H2) rfl rfl rfl hcalm i _ s σ' H' (fun _ _ => False) pD (fpok fr) st' go) fun r s1 ⟨u, hr, h4⟩ => ?_
    subst hr
    refine thn h4 fun _ s2 ⟨x5, H5, I5, r5, y5, st5, fr5⟩ => ?_
    have I5' := I5.pinned (fpok fr5) (T.obj _ _ st5)
    refine thn (hg _ s2 σ' H5 x5 u _ I5' r5 (step x5 H5 y5)) fun _ s3 ⟨σ6, H6, I6, q6⟩ => ?_
    refine thn (ht _ s3 σ6 H6 _ I6 q6) fun ok s4 ⟨H7, I7, q7⟩ => ?_
    have stay : ∀ {σ7 : L2.St} {H7 : Hp} {s7 : Shared}, Inv (cxC X N' scope cl C D fp s₀ H2) (pins ++ [(D, { cls := .type "list", data := .seq us.toArray k })] ++ pinsAt fp s2.heap) σ7 H7 s7 →
        (∀ b ∈ fp, ∀ o, s2.heap.get? b = some o → s7.heap.get? b = some o) ∧ (∀ b ∈ fp, H7 b = none) ∧ H7 D = none ∧ s7.heap.get? D = some { cls := .type "list", data := .seq us.toArray k } := fun {σ7 H7 s7} I7 => by
      have d := I7.pin (D, { cls := .type "list", data := .seq us.toArray k }) (by simp)
      refine ⟨fun b hb o e => (I7.pin (b, o) (List.mem_append_right _ (List.mem_append_right _ (mem_pinsAt hb e)))).1, fun b hb => ?_, d.2.1, d.1⟩
      obtain ⟨o, e, _⟩ := T.obj _ _ st5 b hb
      exact (I7.pin (b, o) (List.mem_append_right _ (List.mem_append_right _ (mem_pinsAt hb e)))).2.1
    cases ok with
    | false =>
      rw [if_neg (by decide)] at q7 ⊢
      obtain ⟨k1, k2, k3, k4⟩ := stay I7
      obtain ⟨m', hm, w7⟩ := hN ys σ6 H7 q7
      exact ⟨m', hm, i + 1, ys, us, k, σ6, H7, I7.unpinned.unpinned, T.keep _ _ _ st5 k1, k2, k3, k4, rv, hz, w7⟩
    | true =>
      rw [if_pos rfl] at q7 ⊢
      refine thn (he _ s4 σ6 H7 _ I7 q7) fun v s5 ⟨y, H8, I8, r8, hl8, n8⟩ => ?_
      obtain ⟨k1, k2, k3, k4⟩ := stay I8
      refine wpAny_list_append_plain (l := D) ⟨k, k4⟩ (fun h' pl sb => ?_) (by rw [List.size_toArray, ← rv.length]; exact hz)
      obtain ⟨k', e'⟩ := pl
      obtain ⟨m', hm, w8⟩ := hN _ σ6 H8 n8
      refine ⟨m', hm, i + 1, ys ++ [y], us ++ [v], k', σ6, H8, ?_, T.keep _ _ _ (T.keep _ _ _ st5 k1) fun b hb o e => sb.extBut b o (Nat.ne_of_lt (Nat.lt_of_lt_of_le (hfp b hb) hD)) e, k2, k3, ?_, rv.append (.cons r8 .nil), ?_, w8⟩
      · exact (I8.unpinned.unpinned).turned (it := D) (t' := s5.toks) (h' := h') (fun b o hb e => sb.extBut b o hb e) k3 hDC (.inl (by simp)) (fun x c e => Nat.ne_of_lt (Nat.lt_of_lt_of_le (cells x c e) hD)) (fun p hp => Nat.ne_of_lt (Nat.lt_of_lt_of_le (pinsz p hp) hD))
      · rw [e']; simp
      · rw [List.length_append]; exact hl8
theorem comp_blockT {tg : Expr} {pos : Pos} {elt iter : Expr} {ifs : List Expr} {g : TG} {tt : TT} {te : TE} {E : Value → Shared → Prop} {Q : VK} {RR : Value → Addr → Result → Shared → Prop}
    (I : Inv X pins σ H2 s₂) (hcalm : X.calm = true) (T : Turn X.prog X.w X.K tg J fp it tn) (st : tn 0 s₂.heap) (f2 : ∀ b ∈ fp, FpOk X pins H2 b)
    (S : CSc X scope N' sub) (hcl1 : ∀ x c, cl.lookup x = some c → X.env.cells.lookup x = some c) (hcl2 : ∀ y ∈ scope.names, y.2 = .free → ∃ c, cl.lookup y.1 = some c)
    (hg : ∀ C D fp s H, PG (cxC X N' scope cl C D fp s H) tg g) (ht : ∀ C D fp s H, PIfs (cxC X N' scope cl C D fp s H) ifs tt) (he : ∀ C D fp s H, PE (cxC X N' scope cl C D fp s H) elt te)
    (hW : CompW J (capt sub σ) H2 g tt te Q)
    (hRR : ∀ (D C : Addr) (oC : Obj) (m : Str → Option Value) (s' : Shared) (Hf : Hp), Inv X (pins ++ [(C, oC)]) σ Hf s' → s'.heap.Ns C m → FpOk X pins Hf C → Q (.ref D) Hf → RR (.ref D) C (.ok .next) s') :
    wpAny (model X.prog X.w) X.A (newList []) (fun acc s₃ => wpAny (model X.prog X.w) X.A (newFunctionEnv scope X.env.globals cl [] X.env.qual none .none (some X.env)) (fun cenv s₄ =>
      codeAny (model X.prog X.w) X.A (.compStart (.ListComp elt [⟨tg, iter, ifs, 0⟩] scope pos) 0 (.ref it) acc { cenv with scope := relabel scope X.env }) (RR acc cenv.locals) s₄) E s₃) E s₂ := by
  obtain ⟨W, ⟨m0, w0⟩, turn⟩ := hW
  refine wpAny_newObj_type (wpAny_newFunctionEnv S.nocell (by intro y hy; simp at hy) (fun h₁ hns₁ hsb₁ => ?_) S.kind)
  dsimp only at hns₁ hsb₁ ⊢
  have hC : (s₂.heap.push { cls := .type "list", dict := none, data := .seq ([] : List Value).toArray }).objs.size = s₂.heap.objs.size + 1 := Heap.size_push ..
  rw [hC] at hns₁ hsb₁ ⊢
  have hk : ∀ b o, (s₂.heap.push { cls := .type "list", dict := none, data := .seq ([] : List Value).toArray }).get? b = some o → h₁.get? b = some o := fun b o e =>
    hsb₁.extBut b o (by have := Heap.lt_size e; rw [hC] at this; exact Nat.ne_of_lt this) (Heap.get?_push_of_some _ e)
  have hfp : ∀ b ∈ fp, b < s₂.heap.objs.size := fun b hb => by
    obtain ⟨o, e, _⟩ := T.obj _ _ st b hb
    exact Heap.lt_size e
  have I0 := comp_start (tk := s₂.toks + ([] : List (Str × Value)).length) I S hcl1 hcl2 f2 hfp hns₁ hk
  have hD0 : h₁.get? s₂.heap.objs.size = some { cls := .type "list", data := .seq ([] : List Value).toArray 0 } := hk _ _ (Heap.get?_push_size _ rfl)
  have loop : codeAny (model X.prog X.w) X.A (.compLoop (.ListComp elt [⟨tg, iter, ifs, 0⟩] scope pos) 0 (.ref it) (.ref s₂.heap.objs.size) (compEnvC scope cl (s₂.heap.objs.size + 1) X.env)) (RR (.ref s₂.heap.objs.size) (s₂.heap.objs.size + 1)) { s₂ with heap := h₁, toks := s₂.toks + ([] : List (Str × Value)).length } :=
    comp_runT (s₀ := { s₂ with heap := s₂.heap.push { cls := .type "list", dict := none, data := .seq ([] : List Value).toArray } }) (C := s₂.heap.objs.size + 1) (D := s₂.heap.objs.size) I hcalm T f2 hfp (fun b o e => Heap.get?_push_of_some _ e) rfl (Nat.le_refl _) (Nat.le_succ _) (Nat.ne_of_lt (Nat.lt_succ_self _)) hcl1 (hg _ _ _ _ _) (ht _ _ _ _ _) (he _ _ _ _ _) turn hRR m0 _
      ⟨0, [], [], 0, capt sub σ, H2, I0, T.keep _ _ _ st fun b hb o e => hk b o (Heap.get?_push_of_some _ e), fun b hb => (f2 b hb).1, I.hok.fresh (Nat.le_refl _), hD0, .nil, Nat.zero_le _, w0⟩
  exact codeAny_compStart_list loop (T.self _ _ _ _ _ (T.keep _ _ _ st fun b hb o e => hk b o (Heap.get?_push_of_some _ e)) loop)
end
section
variable {X : Cx} {scope : Scope} {N' : List Str} {sub : List (Option Nat)} {tg : Expr} {pos : Pos} {elt iter : Expr} {ifs : List Expr} {wi : TI} {g : TG} {tt : TT} {te : TE}
theorem pe_compT (S : CSc X scope N' sub) (hcalm : X.calm = true) (hi : PI X tg iter wi)
    (hg : ∀ cl C D fp s H, PG (cxC X N' scope cl C D fp s H) tg g) (ht : ∀ cl C D fp s H, PIfs (cxC X N' scope cl C D fp s H) ifs tt) (he : ∀ cl C D fp s H, PE (cxC X N' scope cl C D fp s H) elt te)
    (hs : ∀ x, foldedSetIterable iter X.env x = pure x := by intro _; rfl) : PE X (.ListComp elt [⟨tg, iter, ifs, 0⟩] scope pos) (tComp wi sub g tt te) := by
  intro pins s σ H Q I h
  obtain ⟨cl, hclos, hcl1, hcl2⟩ := S.clos I
  rw [eval_ListComp]
  refine wpAny_comprehension_free (use := none) rfl hs hclos S.kind S.names (thn (hi pins s σ H _ I h) fun v s1 h1 => thn h1 fun itv s2 h2 => ?_)
  obtain ⟨it, fp, tn, J, H2, e, I2, T, st2, f2, hW⟩ := h2
  subst e
  refine comp_blockT (RR := fun acc C => compPost (model X.prog X.w) X.A X.xe none (EP X pins σ Q) acc C) I2 hcalm T st2 f2 S hcl1 hcl2 (hg cl) (ht cl) (he cl) hW ?_
  intro D C oC m s' Hf IX hm fpc q
  refine ⟨m, hm, fun h' sb => ⟨.ref D, Hf, ?_, rfl, q⟩⟩
  exact (IX.unpinned).turned (it := C) (t' := s'.toks) (h' := h') (fun b o hb e => sb.extBut b o hb e) fpc.1 fpc.2.1 fpc.2.2.2.1 fpc.2.2.2.2.1 fpc.2.2.2.2.2
end
end L3

namespace L3
open PySem PySem.Spec PyProof.Rows L2
section
variable {prog : Program} {w : World} {A : Around} {E : Value → Shared → Prop} {s : Shared}
end
end L3

namespace L3
open PySem PySem.Spec PyProof.Rows L2
section
variable {prog : Program} {w : World} {A : Around} {E : Value → Shared → Prop} {s : Shared}
def SrcAt (h : Heap) (a : Addr) (cn : String) (vs : Array Value) : Prop := (cn = "tuple_iterator" ∧ h.IsTuple a vs) ∨ (cn = "list_iterator" ∧ h.IsList a vs)
theorem SrcAt.iter {a : Addr} {cn : String} {vs : Array Value} {Q : Value → Shared → Prop} (h : SrcAt s.heap a cn vs)
    (q : Q (.ref s.heap.objs.size) { s with heap := s.heap.push { cls := .type cn, data := .fields #[.ref a, .int 0 0] } }) : wpAny (model prog w) A (pyIter (.ref a)) Q E s := by
  rcases h with ⟨rfl, h⟩ | ⟨rfl, h⟩
  · exact wpAny_pyIter_tuple h q
  · exact wpAny_pyIter_list h q
theorem SrcAt.push {h : Heap} {a : Addr} {cn : String} {vs : Array Value} (x : SrcAt h a cn vs) (o : Obj) : SrcAt (h.push o) a cn vs := by
  rcases x with ⟨rfl, x⟩ | ⟨rfl, x⟩
  · exact .inl ⟨rfl, x.push o⟩
  · exact .inr ⟨rfl, x.push o⟩
end
end L3

namespace L3
open PySem PySem.Spec PyProof.Rows L2
def SqC (c : Bool) (K : PySem.W.Frag) (H : Hp) (a : Addr) (xs : List V) : Prop := match c with
  | true => SqT K H a xs
  | false => SqL K H a xs
def IterC (c : Bool) (h : Heap) (j a : Addr) (i : Nat) : Prop := match c with
  | true => h.IsTupleIter j a i
  | false => h.IsListIter j a i
def SeqC (c : Bool) (h : Heap) (a : Addr) (vs : Array Value) : Prop := match c with
  | true => h.IsTuple a vs
  | false => h.IsList a vs
theorem IterC.at {c : Bool} {h h' : Heap} {j a : Addr} {i : Nat} (x : IterC c h j a i) (k : ∀ o, h.get? j = some o → h'.get? j = some o) : IterC c h' j a i := by
  cases c
  · exact Heap.IsListIter.at x k
  · exact Heap.IsTupleIter.at x k
theorem IterC.obj {c : Bool} {h : Heap} {j a : Addr} {i : Nat} (x : IterC c h j a i) : ∃ o, h.get? j = some o ∧ ∀ v, o.data ≠ .cell v := by
  cases c
  · obtain ⟨o, e, _, d⟩ := x
    exact ⟨o, e, fun v z => by rw [d] at z; cases z⟩
  · obtain ⟨o, e, _, d⟩ := x
    exact ⟨o, e, fun v z => by rw [d] at z; cases z⟩
theorem SeqC.lt {c : Bool} {h : Heap} {a : Addr} {vs : Array Value} (x : SeqC c h a vs) : a < h.objs.size := by
  cases c
  · obtain ⟨_, e, _⟩ := (show h.IsList a vs from x); exact Heap.lt_size e
  · obtain ⟨_, e, _⟩ := (show h.IsTuple a vs from x); exact Heap.lt_size e
section
variable {X : Cx} {elts : List Expr} {kt : Nat} {pt : Pos}
end
end L3

namespace L3
open PySem PySem.Spec PyProof.Rows L2
section
variable {X : Cx} {elts : List Expr} {kt : Nat} {pt : Pos} {K : PySem.W.Frag}
end
section
variable {K : PySem.W.Frag} {a b : Addr} {c d : Bool} {xs ys : List V} {g : TG} {tt : TT} {te : TE} {tb : TS} {D : Ends} {Q : VK} {σ : L2.St} {H : Hp}
end
section
variable {prog : Program} {w : World} {A : Around} {E : Value → Shared → Prop} {s : Shared}
open AutoSeq1 (wpAny_loadPart')
end
section
variable {X : Cx} {elts : List Expr} {kt : Nat} {pt : Pos} {K : PySem.W.Frag}
end
section
variable {K : PySem.W.Frag} {a : Addr} {c : Bool} {xs : List V} {g : TG} {tt : TT} {te : TE} {tb : TS} {D : Ends} {Q : VK} {σ : L2.St} {H : Hp}
end
end L3

namespace L3
open PySem PySem.Spec PyProof.Rows L2
section
variable {X : Cx}
variable {K : PySem.W.Frag}
end
def InC (C : Int) (xs : List Int) : Prop := ∀ v ∈ xs, -C ≤ v ∧ v ≤ C
theorem InC.mono {B C : Int} {xs : List Int} (h : InC B xs) (hC : B ≤ C) : InC C xs := fun v hv => by have := h v hv; omega
end L3

namespace L3
open PySem PySem.Spec PyProof.Rows L2
end L3

namespace L3
open PySem PySem.Spec PyProof.Rows L2
theorem vals_ints : ∀ {ns : List Int} {us : List Value}, IntsAre us ns → Vals (ns.map V.int) us := by
  intro ns us h
  induction h with
  | nil => exact .nil
  | cons n t _ ih => exact .cons ⟨t, rfl⟩ ih
section
variable {X : Cx} {K : PySem.W.Frag}
end
end L3

namespace L3
open PySem PySem.Spec PyProof.Rows L2
structure Wk (prog : Program) (w : World) (A : Around) (T : String) (I : Addr) (n : Nat) (Fr : Addr → Prop) (J : List Value → Shared → Prop) (Fn : List Value → Shared → Prop) : Prop where
  ty : ∀ acc s, J acc s → s.TypeIs (.ref I) T
  self : ∀ acc s (Q : Value → Shared → Prop) (E : Value → Shared → Prop), J acc s → Q (.ref I) s → wpAny (model prog w) A (pyIter (.ref I)) Q E s
  stay : ∀ acc s (S : Addr) (ob : Obj) (h' : Heap), J acc s → Fr S → s.heap.get? S = some ob → ob.cls = .type "list" → (∀ b o, b ≠ S → s.heap.get? b = some o → h'.get? b = some o) → h'.objs.size = s.heap.objs.size → J acc { s with heap := h' }
  next : ∀ acc s (S : Addr) (ob : Obj) (Q : Option Value → Shared → Prop) (E : Value → Shared → Prop), J acc s → Fr S → s.heap.get? S = some ob → ob.cls = .type "list" →
    (∀ v s', acc.length < n → J (acc ++ [v]) s' → s'.heap.get? S = some ob → Q (some v) s') → (∀ s', Fn acc s' → s'.heap.get? S = some ob → Q none s') → wpAny (model prog w) A (pyNext (.ref I)) Q E s
  push : ∀ acc s (o : Obj), J acc s → J acc { s with heap := s.heap.push o }
section
variable {prog : Program} {w : World} {A : Around} {R : Result → Shared → Prop} {T : String} {I : Addr} {n : Nat} {Fr : Addr → Prop} {J Fn : List Value → Shared → Prop}
end
section
variable {prog : Program} {w : World} {A : Around} {E : Value → Shared → Prop} {s : Shared} {T : String} {I : Addr} {n : Nat} {Fr : Addr → Prop} {J Fn : List Value → Shared → Prop}
end
end L3

namespace L3
open PySem PySem.Spec PyProof.Rows L2
section
variable {prog : Program} {w : World} {A : Around} {E : Value → Shared → Prop} {s : Shared}
end
section
variable {X : Cx} {pins : List (Addr × Obj)} {σ : L2.St} {H : Hp} {s : Shared} {h' : Heap}
end
end L3

namespace L3
open PySem PySem.Spec PyProof.Rows L2
section
variable {X : Cx} {pins : List (Addr × Obj)} {σ : L2.St} {H : Hp} {s0 : Shared} {K : PySem.W.Frag}
end
section
variable {X : Cx} {K : PySem.W.Frag} {a : Expr} {ta : TA} {p p2 pos pos2 : Pos}
end
end L3

namespace L3
open PySem PySem.Spec PyProof.Rows L2
section
variable {X : Cx} {K : PySem.W.Frag}
end
def PurseF (H : Hp) (a : Addr) : Prop := ∃ p0 c t : Int, H a = some (.lst [.int p0, .int c, .int t]) ∧ 0 ≤ p0
theorem PurseF.grow {H H' : Hp} {a : Addr} (p : PurseF H a) (g : Grow [] H H') : PurseF H' a := by
  obtain ⟨x, y, z, h, q⟩ := p
  exact ⟨x, y, z, g.keep _ _ (by simp) h, q⟩
theorem PurseF.new {H : Hp} {a l : Addr} (p : PurseF H a) (hl : H l = none) (o : HO) : PurseF (upd H l o) a := p.grow (Grow.new hl o)
theorem PurseF.ne {H : Hp} {a l : Addr} (p : PurseF H a) (h : H l = none) : l ∉ [a] := by
  intro z
  obtain ⟨x, y, w, hz, _⟩ := p
  rw [List.mem_singleton.mp z, hz] at h
  cases h
def PrAt (K : PySem.W.Frag) (H : Hp) (x : V) (q : Nat × Nat) : Prop := ∃ r, x = .ref r ∧ SqT K H r [.int q.1, .int q.2]
theorem Grow.prs {m : List Addr} {H H' : Hp} (g : Grow m H H') {K : PySem.W.Frag} {xs : List V} {qs : List (Nat × Nat)} (h : AllR (PrAt K H) xs qs) : AllR (PrAt K H') xs qs := h.imp fun _ _ ⟨r, e, z⟩ => ⟨r, e, g.sqT z⟩
def sortI (ns : List Int) : List Int := ns.mergeSort fun a b => decide (a ≤ b)
def dupS : List Int → Option Int
  | a :: b :: r => if a = b then some a else dupS (b :: r)
  | _ => none
def levelL (rows : List (List Int)) (l : Nat) : List Int := rows.map fun r => r.getD l 0
def sharedAt (rows : List (List Int)) (l : Nat) : Option Int := dupS (sortI (levelL rows l))
def SharedIs (k : Nat) (rows : List (List Int)) (o : Option (Nat × Int)) : Prop := match o with
  | none => ∀ l, l ≤ k → sharedAt rows l = none
  | some (l, v) => l ≤ k ∧ sharedAt rows l = some v ∧ ∀ j, j < l → sharedAt rows j = none
theorem SharedIs.one {k : Nat} {rows rows' : List (List Int)} {o o' : Option (Nat × Int)} (e : ∀ l, sharedAt rows l = sharedAt rows' l) (h : SharedIs k rows o) (h' : SharedIs k rows' o') : o = o' := by
  cases o with
  | none =>
    cases o' with
    | none => rfl
    | some p =>
      obtain ⟨l, v⟩ := p
      have z := h l h'.1
      rw [e, h'.2.1] at z; cases z
  | some p =>
    obtain ⟨l, v⟩ := p
    cases o' with
    | none =>
      have z := h' l h.1
      rw [← e, h.2.1] at z; cases z
    | some p' =>
      obtain ⟨l', v'⟩ := p'
      obtain ⟨a1, a2, a3⟩ := h
      obtain ⟨b1, b2, b3⟩ := h'
      by_cases c : l < l'
      · have z := b3 l c
        rw [← e, a2] at z; cases z
      · by_cases c2 : l' < l
        · have z := a3 l' c2
          rw [e, b2] at z; cases z
        · have : l = l' := by omega
          subst this
          rw [e, b2] at a2
          cases a2; rfl
def ClashAt (K : PySem.W.Frag) (H : Hp) (x : V) (o : Option (Nat × Int)) : Prop := match o with
  | none => x = .non
  | some (l, v) => ∃ r, x = .ref r ∧ SqT K H r [.int l, .int v]
theorem Grow.clash {m : List Addr} {H H' : Hp} (g : Grow m H H') {K : PySem.W.Frag} {x : V} {o : Option (Nat × Int)} (h : ClashAt K H x o) : ClashAt K H' x o := by
  cases o with
  | none => exact h
  | some p =>
    obtain ⟨l, v⟩ := p
    obtain ⟨r, e, z⟩ := h
    exact ⟨r, e, g.sqT z⟩
theorem cut_pre {xs : List V} {c : Nat} : cutV xs none (some (c : Int)) = xs.take c := by
  unfold cutV
  rw [HT.sIx_none, HT.sIx_nat, List.drop_zero, Nat.sub_zero]
  by_cases h : c ≤ xs.length
  · rw [Nat.min_eq_left h]
  · rw [Nat.min_eq_right (by omega), List.take_of_length_le (by omega), List.take_of_length_le (by omega)]
theorem cut_suf {xs : List V} {c : Nat} : cutV xs (some (c : Int)) none = xs.drop c := by
  unfold cutV
  rw [HT.sIx_none, HT.sIx_nat]
  by_cases h : c ≤ xs.length
  · rw [Nat.min_eq_left h, List.take_of_length_le (by rw [List.length_drop]; exact Nat.le_refl _)]
  · rw [Nat.min_eq_right (by omega), List.drop_eq_nil_of_le (by omega), List.drop_eq_nil_of_le (by omega)]; simp
end L3

namespace L3
open PySem PySem.Spec PyProof.Rows L2
mutual
inductive Dq (K : PySem.W.Frag) (H : Hp) : V → PyData → Prop
  | non : Dq K H .non .none
  | bl (b : Bool) : Dq K H (.bl b) (.bool b)
  | int (i : Int) : Dq K H (.int i) (.int i)
  | str (x : Str) : Dq K H (.str x) (.str x)
  | tup {a : Addr} {xs : List V} {ds : List PyData} : SqT K H a xs → DqAll K H xs ds → Dq K H (.ref a) (.tuple ds)
  | lst {a : Addr} {xs : List V} {ds : List PyData} : SqL K H a xs → DqAll K H xs ds → Dq K H (.ref a) (.list ds)
inductive DqAll (K : PySem.W.Frag) (H : Hp) : List V → List PyData → Prop
  | nil : DqAll K H [] []
  | cons {x : V} {xs : List V} {d : PyData} {ds : List PyData} : Dq K H x d → DqAll K H xs ds → DqAll K H (x :: xs) (d :: ds)
end
mutual
theorem Dat.dq {K : PySem.W.Frag} {H : Hp} : ∀ {x : V} {d : PyData}, Dat K H x d → Dq K H x d
  | _, _, .non => .non
  | _, _, .bl b => .bl b
  | _, _, .int i => .int i
  | _, _, .tup h t => .tup h (DatAll.dq t)
  | _, _, .lst h t => .lst h (DatAll.dq t)
theorem DatAll.dq {K : PySem.W.Frag} {H : Hp} : ∀ {xs : List V} {ds : List PyData}, DatAll K H xs ds → DqAll K H xs ds
  | _, _, .nil => .nil
  | _, _, .cons h t => .cons (Dat.dq h) (DatAll.dq t)
end
theorem DqAll.len {K : PySem.W.Frag} {H : Hp} : ∀ {xs : List V} {ds : List PyData}, DqAll K H xs ds → xs.length = ds.length
  | _, _, .nil => rfl
  | _, _, .cons _ t => congrArg (· + 1) (DqAll.len t)
theorem DqAll.app {K : PySem.W.Frag} {H : Hp} : ∀ {xs : List V} {ds : List PyData} {ys : List V} {es : List PyData}, DqAll K H xs ds → DqAll K H ys es → DqAll K H (xs ++ ys) (ds ++ es)
  | _, _, _, _, .nil, h => h
  | _, _, _, _, .cons h t, g => .cons h (DqAll.app t g)
theorem all_true (n : Nat) : (List.range n).all (fun _ => true) = true := List.all_eq_true.mpr fun _ _ => rfl
section
variable {X : Cx} {pins : List (Addr × Obj)} {σ : L2.St} {H : Hp} {s : Shared}
mutual
theorem dq_eq (I : Inv X pins σ H s) : ∀ {d : PyData} {x y : V} {u v : Value} {A : Around}, Dq X.K H x d → Dq X.K H y d → RelV x u → RelV y v → A.units + d.depth < cLine → SeqAt.EqAt A s u v true
  | _, _, y, u, v, A, .non, hy, ru, rv, _ => by
    cases hy
    cases (show u = Value.none from ru)
    cases (show v = Value.none from rv)
    exact SeqAt.EqAt.same _
  | _, _, y, u, v, A, .bl b, hy, ru, rv, _ => by
    cases hy
    cases (show u = Value.bool b from ru)
    cases (show v = Value.bool b from rv)
    exact SeqAt.EqAt.same _
  | _, _, y, u, v, A, .int i, hy, ru, rv, _ => by
    cases hy
    obtain ⟨t, rfl⟩ := ru
    obtain ⟨t', rfl⟩ := rv
    have z := SeqAt.EqAt.int_int (A := A) (s := s) i t i t'
    rw [beq_self_eq_true] at z
    exact z
  | _, _, y, u, v, A, .str x, hy, ru, rv, _ => by
    cases hy
    obtain ⟨t, rfl⟩ := ru
    obtain ⟨t', rfl⟩ := rv
    have z := SeqAt.EqAt.str_str (A := A) (s := s) x t x t'
    rw [beq_self_eq_true] at z
    exact z
  | _, _, y, u, v, A, .tup (a := a) (xs := xs) (ds := ds) hs ha, hy, ru, rv, hu => by
    cases hy with
    | tup hs' ha' =>
      rename_i a' xs'
      cases (show u = Value.ref a from ru)
      cases (show v = Value.ref a' from rv)
      obtain ⟨us, r1, t1, _⟩ := I.tuple hs
      obtain ⟨ws, r2, t2, _⟩ := I.tuple hs'
      have hd : A.units + (PyData.depthAll ds + 1) < cLine := hu
      by_cases e : a = a'
      · subst e; exact SeqAt.EqAt.same _
      · have l1 := ha.len
        have l2 := ha'.len
        have q := SeqAt.RcAt.tuples (e := fun _ => true) (isTuple_of t1) (isTuple_of t2) (by omega) (dqs_eq I ha ha' r1 r2 (A := A.in1) (by show A.units + 1 + PyData.depthAll ds < cLine; omega))
        rw [all_true, Bool.true_and, List.size_toArray, List.size_toArray, ← r1.length, ← r2.length, l1, l2, beq_self_eq_true] at q
        exact SeqAt.EqAt.of_refs e q
  | _, _, y, u, v, A, .lst (a := a) (xs := xs) (ds := ds) hs ha, hy, ru, rv, hu => by
    cases hy with
    | lst hs' ha' =>
      rename_i a' xs'
      cases (show u = Value.ref a from ru)
      cases (show v = Value.ref a' from rv)
      obtain ⟨us, r1, t1, _⟩ := I.list hs
      obtain ⟨ws, r2, t2, _⟩ := I.list hs'
      have hd : A.units + (PyData.depthAll ds + 1) < cLine := hu
      by_cases e : a = a'
      · subst e; exact SeqAt.EqAt.same _
      · have l1 := ha.len
        have l2 := ha'.len
        have q := SeqAt.RcAt.lists (e := fun _ => true) t1.isList t2.isList (by rw [List.size_toArray, List.size_toArray, ← r1.length, ← r2.length, l1, l2]) (by omega) (dqs_eq I ha ha' r1 r2 (A := A.in1) (by show A.units + 1 + PyData.depthAll ds < cLine; omega))
        rw [all_true] at q
        exact SeqAt.EqAt.of_refs e q
theorem dqs_eq (I : Inv X pins σ H s) : ∀ {ds : List PyData} {xs ys : List V} {us vs : List Value} {A : Around}, DqAll X.K H xs ds → DqAll X.K H ys ds → Vals xs us → Vals ys vs → A.units + PyData.depthAll ds < cLine →
    ∀ j (h1 : j < us.toArray.size) (h2 : j < vs.toArray.size), SeqAt.EqAt A s us.toArray[j] vs.toArray[j] true
  | _, _, _, _, _, A, .nil, hy, ru, rv, _ => fun j h1 _ => by
    cases ru
    exact absurd h1 (Nat.not_lt_zero j)
  | _, _, _, _, _, A, .cons (d := d) (ds := ds) hx tx, hy, ru, rv, hd => fun j h1 h2 => by
    cases hy with
    | cons hy ty =>
      cases ru with
      | cons r1 rr1 =>
        cases rv with
        | cons r2 rr2 =>
          have hd' : A.units + max d.depth (PyData.depthAll ds) < cLine := hd
          cases j with
          | zero => simpa using dq_eq I hx hy r1 r2 (A := A) (by omega)
          | succ j =>
            have z := dqs_eq I tx ty rr1 rr2 (A := A) (by omega) j (by simpa using h1) (by simpa using h2)
            simpa using z
end
variable {K : PySem.W.Frag}
end
end L3

namespace L3
open PySem PySem.Spec PyProof.Rows L2
def xN (k st a : Nat) : Nat := a ^^^ 2 ^ (k - st)
def nN (k st a : Nat) : Nat := (numsL k a st).toNat
def lN (k h g n : Nat) : Nat := (lineL k h g n).toNat
structure OneF (k st a : Nat) : Prop where
  sw : swI k st a = numsL k a st
  num : numsL k a st = (nN k st a : Int)
  lt : nN k st a < 2 ^ (k - 1)
  nx : nN k st (xN k st a) = nN k st a
  xx : xN k st (xN k st a) = a
  xne : xN k st a ≠ a
  xlt : xN k st a < 2 ^ k
  w0 : wfI k st a (Builtin.bitXor (figI k st a) 0) = (a : Int)
  w1 : wfI k st a (Builtin.bitXor (figI k st a) 1) = (xN k st a : Int)
  c1 : Builtin.bitXor (figI k st a) (figI k st (xN k st a)) = 1
  c0 : Builtin.bitXor (figI k st a) (figI k st a) = 0
  b0 : Builtin.bitXor (figI k st a) 0 = 0 ∨ Builtin.bitXor (figI k st a) 0 = 1
  b1 : Builtin.bitXor (figI k st a) 1 = 0 ∨ Builtin.bitXor (figI k st a) 1 = 1
def plOf (gs : List Nat) : List (Nat × Nat) := (List.range gs.length).map fun h => (h, gs.getD h 0)
def SidesOk (k : Nat) (gs : List Nat) : Prop := gs.length = 2 ^ k ∧ ∀ g ∈ gs, g < 2 ^ k
theorem SidesOk.get {k : Nat} {gs : List Nat} (h : SidesOk k gs) {i : Nat} (hi : i < 2 ^ k) : gs.getD i 0 < 2 ^ k := by
  rw [List.getD_eq_getElem?_getD, List.getElem?_eq_getElem (by rw [h.1]; exact hi)]
  exact h.2 _ (List.getElem_mem _)
def crossI (k st : Nat) (q : Nat × Nat) : Int := Builtin.bitXor (figI k st (lineL k q.1 q.2 (st - 1))) (figI k st (lineL k q.1 q.2 st))
def marksF (k st : Nat) (m : List Int) (q : Nat × Nat) : List Int := m.set (nN k st (lN k q.1 q.2 st)) (crossI k st q)
def marksR (k st : Nat) (pl : List (Nat × Nat)) : List Int := pl.foldl (marksF k st) (List.replicate (2 ^ k / 2) 0)
def setsL (k : Nat) (gs : List Nat) : List (List Int) := (List.range k).map fun n => marksR k (n + 1) (plOf gs)
end L3

namespace L3
open PySem PySem.Spec PyProof.Rows L2
section
variable {X : Cx} {a : Expr} {ta : TA} {p p2 pos pos2 : Pos}
def tRngV (ta : TA) : TE := fun σ H Q => ta σ H fun vs H1 => ∃ n : Nat, vs = [.int n] ∧ n ≤ 1000 ∧ ∀ l, H1 l = none → Q (.ref l) (upd H1 l (.lst ((List.range n).map fun i : Nat => V.int i)))
theorem pe_listRange (hc : X.calm = true) (hgl : Gl X "list") (hml : X.mg "list" = none) (hgr : Gl X "range") (hmr : X.mg "range" = none) (ha : PA X [a] ta)
    (hs : starEach [a] X.env = [(false, eval a X.env)] := by rfl) (hs2 : starEach [(.Call (.Name "range" p2) [a] [] pos2 : Expr)] X.env = [(false, eval (.Call (.Name "range" p2) [a] [] pos2) X.env)] := by rfl) :
    PE X (.Call (.Name "list" p) [.Call (.Name "range" p2) [a] [] pos2] [] pos) (tRngV ta) := by
  intro pins s σ H Q I h
  refine wpAny_Call_Name_kw (ld_blt I hgl hml b_list (PyProof.Rows.callWith_type1 ?_ hs2 rfl))
  rw [hs2]
  show wpAny _ _ (spliced [(false, eval (.Call (.Name "range" p2) [a] [] pos2) X.env)]) _ _ s
  refine Calls.spliced_cons ?_
  refine Call_ (ld_blt I hgr hmr boot_range (PyProof.Rows.callWith_type1 (thn (ha pos2 pins s σ H _ I h) fun us s1 ⟨vs, H1, I1, r1, q1⟩ => ?_) hs rfl))
  obtain ⟨n, e, hn, q⟩ := q1
  subst e
  obtain ⟨u, rfl, e1⟩ := vals1 r1
  obtain ⟨t, rfl⟩ := e1
  refine call_range_1 (Calls.spliced_nil ?_)
  have I2 : Inv X pins σ H1 { s1 with heap := s1.heap.push { cls := .type "range", data := .fields #[.int 0 s1.toks, .int n t, .int 1 (s1.toks + 1)] }, toks := s1.toks + 1 + 1 } := I1.kept fun b o e => Heap.get?_push_of_some _ e
  refine call_list_range (n := n) (I.ok.hd hc) (IsRange.new ..) (small_one (by omega) (by omega) (by omega) (by omega)) (by rw [rangeSize_one]; split <;> omega) (by omega) fun h' tk acc c' hk hS hacc => ?_
  have hvr : Vals ((List.range n).map fun i : Nat => V.int i) acc.toList := by
    have hlen : acc.toList.length = n := by rw [Array.length_toList]; exact hacc.1
    have key : ∀ (m : Nat) (l : List Value) (j : Nat), l.length = m → (∀ i v, l[i]? = some v → ∃ t, v = Value.int ((j + i : Nat) : Int) t) → Vals ((List.range' j m).map fun i : Nat => V.int i) l := by
      intro m
      induction m with
      | zero =>
        intro l j hl _
        rw [List.length_eq_zero_iff.mp hl]
        exact .nil
      | succ m ih =>
        intro l j hl hv
        match l, hl, hv with
        | x :: l, hl, hv =>
          refine .cons ?_ (ih l (j + 1) (by simpa using hl) fun i v h => ?_)
          · obtain ⟨t, e⟩ := hv 0 x rfl
            exact ⟨t, e⟩
          · obtain ⟨t, e⟩ := hv (i + 1) v (by simpa using h)
            exact ⟨t, by rw [e, show j + (i + 1) = j + 1 + i by omega]⟩
    rw [List.range_eq_range']
    refine key n acc.toList 0 hlen fun i v h => ?_
    obtain ⟨t, e⟩ := hacc.2 i v (by rw [← h]; exact (Array.getElem?_toList).symm)
    exact ⟨t, by rw [e]; congr 1; omega⟩
  refine ⟨.ref (s1.heap.push { cls := .type "range", data := .fields #[.int 0 s1.toks, .int n t, .int 1 (s1.toks + 1)] }).objs.size, _, I2.laid (t' := tk) hk (Nat.le_refl _) (show ObjOk X.prog X.w _ h' _ (.lst ((List.range n).map fun i : Nat => V.int i)) from ⟨by rw [List.length_map, List.length_range]; exact Nat.le_of_lt (small1000 hn), acc.toList, c', hvr, by simpa using hS⟩), rfl, q _ (I2.hok.fresh (Nat.le_refl _))⟩
end
end L3

namespace L3
open PySem PySem.Spec PyProof.Rows L2
def AnsAt (K : PySem.W.Frag) (H : Hp) (x : V) (k : Nat) (gs : List Nat) (o : Option (Nat × Int)) : Prop := ∃ (r : Addr) (s : Str) (y : V), x = .ref r ∧ SqT K H r [.str s, y] ∧ match o with
  | none => s = "settings" ∧ RowsAt K H y (setsL k gs)
  | some (l, v) => s = "clash" ∧ ∃ c, y = .ref c ∧ SqT K H c [.int l, .int v]
theorem Grow.ans {m : List Addr} {H H' : Hp} (g : Grow m H H') {K : PySem.W.Frag} {x : V} {k : Nat} {gs : List Nat} {o : Option (Nat × Int)} (h : AnsAt K H x k gs o) : AnsAt K H' x k gs o := by
  obtain ⟨r, s, y, e, z, w⟩ := h
  refine ⟨r, s, y, e, g.sqT z, ?_⟩
  cases o with
  | none => exact ⟨w.1, g.rows w.2⟩
  | some p =>
    obtain ⟨l, v⟩ := p
    obtain ⟨w1, c, e, z⟩ := w
    exact ⟨w1, c, e, g.sqT z⟩
theorem SidesOk.set {k : Nat} {gs : List Nat} (h : SidesOk k gs) {j n : Nat} (hn : n < 2 ^ k) : SidesOk k (gs.set j n) := by
  refine ⟨by rw [List.length_set, h.1], fun g hg => ?_⟩
  rcases List.mem_or_eq_of_mem_set hg with z | rfl
  · exact h.2 g z
  · exact hn
end L3

namespace L3
open PySem PySem.Spec PyProof.Rows L2
section
variable {prog : Program} {w : World} {A : Around} {E : Value → Shared → Prop} {s : Shared}
end
section
variable {X : Cx} {K : PySem.W.Frag}
end
end L3

namespace L3
open PySem PySem.Spec PyProof.Rows L2
section
variable {prog : Program} {w : World} {A : Around} {E : Value → Shared → Prop} {s : Shared}
end
section
variable {X : Cx} {K : PySem.W.Frag}
end
end L3

namespace L3
open PySem PySem.Spec PyProof.Rows L2
def wfN (k s l : Nat) (w : Int) : Nat := (wfI k s l w).toNat
structure WfF (k s l : Nat) (w : Int) : Prop where
  eq : wfI k s l w = (wfN k s l w : Int)
  lt : wfN k s l w < 2 ^ k
  at_ : figI k s (wfN k s l w) = w
  off : ∀ t : Nat, t ≤ k → t ≠ s → figI k t (wfN k s l w) = figI k t l
def mixN (k e x t : Nat) : Nat := (numL ((figsL k e).take (t - 1) ++ (figsL k x).drop t)).toNat
def fstI (rows : List (List Int)) (t n : Nat) : Int := (rows.getD (t - 1) []).getD n 0
def Ahead (k : Nat) (rows : List (List Int)) (e m x y : Nat) : Prop := ∃ t : Nat, m < t ∧ t ≤ k ∧ figI k t x ≠ figI k t y ∧ (∀ u : Nat, t < u → u ≤ k → figI k u x = figI k u y) ∧ figI k t x = fstI rows t (mixN k e x t)
structure OrdF (k : Nat) (rows : List (List Int)) (e n : Nat) (L : List Nat) : Prop where
  len : L.length = 2 ^ n
  mem : ∀ x ∈ L, x < 2 ^ k ∧ ∀ t : Nat, 1 ≤ t → t ≤ k - n → figI k t x = figI k t e
  all : ∀ x : Nat, x < 2 ^ k → (∀ t : Nat, 1 ≤ t → t ≤ k - n → figI k t x = figI k t e) → x ∈ L
  row : L.Pairwise (Ahead k rows e (k - n))
end L3

namespace L3
open PySem PySem.Spec PyProof.Rows L2
section
variable {lo : Int} {n k : Nat} {tt : TT} {te : TE} {Q : VK} {σ : L2.St} {H : Hp}
end
end L3

namespace L3
open PySem PySem.Spec PyProof.Rows L2
def LsR (H : Hp) (x : V) (row : List Int) : Prop := ∃ r, x = .ref r ∧ H r = some (.lst (row.map V.int))
def LsB (H : Hp) (x : V) (rows : List (List Int)) : Prop := ∃ l xs, x = .ref l ∧ H l = some (.lst xs) ∧ AllR (LsR H) xs rows
def LsN (a : Addr) (H : Hp) (x : V) (row : List Int) : Prop := ∃ r, x = .ref r ∧ r ∉ [a] ∧ H r = some (.lst (row.map V.int))
def LsA (a : Addr) (H : Hp) (x : V) (rows : List (List Int)) : Prop := ∃ l xs, x = .ref l ∧ l ∉ [a] ∧ H l = some (.lst xs) ∧ AllR (LsN a H) xs rows
theorem LsA.b {a : Addr} {H : Hp} {x : V} {rows : List (List Int)} (h : LsA a H x rows) : LsB H x rows := by
  obtain ⟨l, xs, e, n, z, w⟩ := h
  exact ⟨l, xs, e, z, w.imp fun _ _ ⟨r, e, _, z⟩ => ⟨r, e, z⟩⟩
end L3

namespace L3
open PySem PySem.Spec PyProof.Rows L2
end L3

namespace L3
open PySem PySem.Spec PyProof.Rows L2
section
variable {X : Cx}
end
end L3
namespace L3
open PySem PySem.Spec PyProof.Rows L2
end L3

namespace L3
open PySem PySem.Spec PyProof.Rows L2
section
variable {X : Cx}
end
end L3

namespace L3
open PySem PySem.Spec PyProof.Rows L2
end L3

namespace L3
open PySem PySem.Spec PyProof.Rows L2
section
variable {X : Cx} {K : PySem.W.Frag}
end
end L3

namespace L3
open PySem PySem.Spec PyProof.Rows L2
section
variable {prog : Program} {w : World} {A : Around} {E : Value → Shared → Prop} {s : Shared}
end
end L3

namespace L3
open PySem PySem.Spec PyProof.Rows L2
section
variable {prog : Program} {w : World} {A : Around} {E : Value → Shared → Prop} {s : Shared}
end
section
variable {X : Cx} {nm : Str} {pt : Pos} {K : PySem.W.Frag}
end
end L3

namespace L3
open PySem PySem.Spec PyProof.Rows L2
section
variable {X : Cx} {K : PySem.W.Frag}
end
section
variable {X : Cx}
end
section
variable {lo : Int} {n k : Nat} {te : TE} {Q : VK} {σ : L2.St} {H : Hp}
end
end L3

namespace L3
open PySem PySem.Spec PyProof.Rows L2
def RowsIn (K : PySem.W.Frag) (H : Hp) (f : Addr) (rows : List (List Int)) : Prop := ∃ xs, H f = some (.lst xs) ∧ AllR (BoardAt K H) xs rows
theorem RowsIn.grow {K : PySem.W.Frag} {H H' : Hp} {f : Addr} {rows : List (List Int)} (h : RowsIn K H f rows) (g : Grow [] H H') : RowsIn K H' f rows := by
  obtain ⟨xs, e, a⟩ := h
  exact ⟨xs, g.keep _ _ (by simp) e, g.boardsR a⟩
theorem RowsIn.ne {K : PySem.W.Frag} {H : Hp} {f r : Addr} {rows : List (List Int)} (h : RowsIn K H f rows) (e : H r = none) : r ≠ f := by
  obtain ⟨xs, e', _⟩ := h
  intro z; rw [z, e'] at e; cases e
end L3
namespace L3
open PySem PySem.Spec PyProof.Rows L2
end L3
namespace L3
open PySem PySem.Spec PyProof.Rows L2
theorem RowsIn.set {K : PySem.W.Frag} {H : Hp} {f : Addr} {rows : List (List Int)} {xs : List V} (e : H f = some (.lst xs)) (a : AllR (BoardAt K H) xs rows) : RowsIn K H f rows := ⟨xs, e, a⟩
end L3
namespace L3
open PySem PySem.Spec PyProof.Rows L2
end L3

namespace L3
open PySem PySem.Spec PyProof.Rows L2
structure CScC (X : Cx) (scope : Scope) (N' : List Str) (sub : List (Option Nat)) : Prop where
  free : ∀ y ∈ scope.names, y.2 = .free → X.env.kindOf y.1 = some .cell
  nd : (scope.names.map (·.1)).Nodup
  kind : scope.kind = .function
  names : ∀ y ∈ scope.names, y.2 = .local → scope.names.lookup y.1 = some .local
  len : sub.length = N'.length
  cap : ∀ (j : Nat) (y : Str) (i : Nat), N'[j]? = some y → sub[j]? = some (some i) → X.N[i]? = some y ∧ X.env.scope.names.lookup y = some .cell ∧ scope.names.lookup y = some .free
section
variable {X : Cx} {pins : List (Addr × Obj)} {σ : L2.St} {H2 : Hp} {s₂ : Shared} {it : Addr} {fp : List Addr} {tn : Nat → Heap → Prop} {J : It} {scope : Scope} {cl : List (Str × Addr)} {N' : List Str} {sub : List (Option Nat)}
end
section
variable {X : Cx} {scope : Scope} {N' : List Str} {sub : List (Option Nat)} {tg : Expr} {pos : Pos} {elt iter : Expr} {ifs : List Expr} {wi : TI} {g : TG} {tt : TT} {te : TE}
theorem CScC.clos {pins : List (Addr × Obj)} {σ : L2.St} {H : Hp} {s : Shared} (S : CScC X scope N' sub) (I : Inv X pins σ H s) : ∃ cl, closureFor scope X.env = pure cl ∧ (∀ x c, cl.lookup x = some c → X.env.cells.lookup x = some c) ∧ ∀ y ∈ scope.names, y.2 = .free → ∃ c, cl.lookup y.1 = some c :=
  closure_ok fun y hy hf => I.ok.has y.1 (.inl (S.free y hy hf))
end
end L3

namespace L3
open PySem PySem.Spec PyProof.Rows L2
theorem CScC.of {X : Cx} {scope : Scope} {N' : List Str} {sub : List (Option Nat)} (sc : Scope) (NN : List Str) (e : X.env.scope = sc) (en : X.N = NN)
    (h : ((scope.names.all fun y => (y.2 != .free || sc.names.lookup y.1 == some .cell) && (y.2 != .local || scope.names.lookup y.1 == some .local)) && (sub.length == N'.length) &&
      ((N'.zip sub).all fun p => match p.2 with | none => true | some i => NN[i]? == some p.1 && sc.names.lookup p.1 == some .cell && scope.names.lookup p.1 == some .free)) = true)
    (nd : (scope.names.map (·.1)).Nodup) (hk : scope.kind = .function) : CScC X scope N' sub := by
  rw [Bool.and_eq_true, Bool.and_eq_true] at h
  obtain ⟨⟨h1, h2⟩, h3⟩ := h
  have k1 := fun y hy => List.all_eq_true.mp h1 y hy
  refine ⟨fun y hy hf => ?_, nd, hk, fun y hy hl => ?_, by simpa using h2, fun j y i hj hs => ?_⟩
  · have := k1 y hy
    simp only [hf, Bool.and_eq_true] at this
    have z := this.1
    show X.env.scope.names.lookup y.1 = _
    rw [e]; simpa using z
  · have := k1 y hy
    simp only [hl, Bool.and_eq_true] at this
    simpa using this.2
  · have hm : (y, some i) ∈ N'.zip sub := by
      have : (N'.zip sub)[j]? = some (y, some i) := by
        rw [List.getElem?_zip_eq_some]; exact ⟨hj, hs⟩
      exact List.mem_of_getElem? this
    have := List.all_eq_true.mp h3 _ hm
    simp only [Bool.and_eq_true, beq_iff_eq] at this
    rw [e, en]
    exact ⟨this.1.1, this.1.2, this.2⟩
end L3

namespace L3
open PySem PySem.Spec PyProof.Rows L2
theorem AllOk.at {ds : List Deed} (h : AllOk ds) {i : Nat} (hi : i < ds.length) : (ds.getD i look).Ok := h _ (List.mem_of_getElem? (getDd hi))
structure MixOk (m : List Nat) : Prop where
  nd : m.Nodup
  lt : ∀ j ∈ m, j < m.length
  has : ∀ j, j < m.length → j ∈ m
theorem MixOk.of {m : List Nat} {n : Nat} (h : m.Perm (List.range n)) : MixOk m ∧ m.length = n := by
  have hl : m.length = n := by rw [h.length_eq, List.length_range]
  refine ⟨⟨(h.nodup_iff).mpr List.nodup_range, fun j hj => ?_, fun j hj => ?_⟩, hl⟩
  · rw [hl]; exact List.mem_range.mp (h.mem_iff.mp hj)
  · exact h.mem_iff.mpr (List.mem_range.mpr (by omega))
theorem MixOk.at {m : List Nat} (h : MixOk m) {j : Nat} (hj : j < m.length) : m.idxOf j < m.length ∧ m.getD (m.idxOf j) 0 = j := by
  have hl := List.idxOf_lt_length_of_mem (h.has j hj)
  refine ⟨hl, ?_⟩
  rw [List.getD_eq_getElem?_getD, List.getElem?_eq_getElem hl]
  exact List.getElem_idxOf hl
end L3

namespace L3
open PySem PySem.Spec PyProof.Rows L2
section
variable {X : Cx} {K : PySem.W.Frag}
end
end L3
namespace L3
open PySem PySem.Spec PyProof.Rows L2
end L3

namespace L3
open PySem PySem.Spec PyProof.Rows L2
structure WkD (prog : Program) (w : World) (A : Around) (T : String) (I : Addr) (n : Nat) (Fr : Addr → Prop) (J : List Value → Shared → Prop) (Fn : List Value → Shared → Prop) : Prop where
  ty : ∀ acc s, J acc s → s.TypeIs (.ref I) T
  self : ∀ acc s (Q : Value → Shared → Prop) (E : Value → Shared → Prop), J acc s → Q (.ref I) s → wpAny (model prog w) A (pyIter (.ref I)) Q E s
  stay : ∀ acc s (S : Addr) (ob : Obj) (h' : Heap), J acc s → Fr S → s.heap.get? S = some ob → (ob.cls = .type "list" ∧ ∀ v, ob.data ≠ .cell v) → (∀ b o, b ≠ S → s.heap.get? b = some o → h'.get? b = some o) → h'.objs.size = s.heap.objs.size → J acc { s with heap := h' }
  next : ∀ acc s (S : Addr) (ob : Obj) (Q : Option Value → Shared → Prop) (E : Value → Shared → Prop), J acc s → Fr S → s.heap.get? S = some ob → (ob.cls = .type "list" ∧ ∀ v, ob.data ≠ .cell v) →
    (∀ v s', acc.length < n → J (acc ++ [v]) s' → s'.heap.get? S = some ob → Q (some v) s') → (∀ s', Fn acc s' → s'.heap.get? S = some ob → Q none s') → wpAny (model prog w) A (pyNext (.ref I)) Q E s
  push : ∀ acc s (o : Obj), J acc s → J acc { s with heap := s.heap.push o }
section
variable {prog : Program} {w : World} {A : Around} {R : Result → Shared → Prop} {T : String} {I : Addr} {n : Nat} {Fr : Addr → Prop} {J Fn : List Value → Shared → Prop}
end
section
variable {prog : Program} {w : World} {A : Around} {E : Value → Shared → Prop} {s : Shared} {T : String} {I : Addr} {n : Nat} {Fr : Addr → Prop} {J Fn : List Value → Shared → Prop}
end
section
variable {X : Cx} {pins : List (Addr × Obj)} {σ : L2.St} {fp : List Addr} {it : Addr} {tn : Nat → Heap → Prop} {Jt : It} {nm : Str} {pt : Pos} {cls : String} {H0 : Hp} {S0 : Addr} {n : Nat}
end
section
variable {X : Cx} {K : PySem.W.Frag} {a b : Expr} {ta : TA} {p p2 pos pos2 : Pos}
theorem SqC.grow {c : Bool} {H H' : Hp} {a : Addr} {xs : List V} (g : Grow [] H H') (h : SqC c K H a xs) : SqC c K H' a xs := by
  cases c
  · exact g.sqL h
  · exact g.sqT h
end
end L3

namespace L3
open PySem PySem.Spec PyProof.Rows L2 HT
section
variable {prog : Program} {w : World} {A : Around} {E : Value → Shared → Prop} {s : Shared}
theorem add_none (l b : Addr) (us ws : Array Value) (n m : Nat) (d1 d2 : Option Addr) (e1 e2 : Array (Option Value)) (h0 : us.isEmpty = true) :
    Meets (Builtin.«tuple.__add__» ⟨[.ref l, .ref b], []⟩) (fun _ R s => s.heap.get? l = some ⟨.type "tuple", d1, .seq us n, e1⟩ ∧ s.heap.get? b = some ⟨.type "tuple", d2, .seq ws m, e2⟩ ∧ R (.ok (.ret (.ref b))) s) :=
  .of_wp fun P w A R s h => by
    obtain ⟨hh, gg, dd, tk, os⟩ := s
    obtain ⟨eL, eT, q⟩ := h
    have k1 := PySem.AutoSeq1.sub_tuple_tuple
    wp_walk using PySem.AutoSeq1.wpAny_loadPart' eL, PySem.AutoSeq1.wpAny_loadPart' eT
    exact ⟨_, rfl, q⟩
theorem cat_none {t b : Addr} {vs ws : List Value} {Q : Value → Shared → Prop} (ht : IsTup s.heap t vs.toArray) (hb : IsTup s.heap b ws.toArray) (hv : vs = []) (h1 : Q (.ref b) s) : wpAny (model prog w) A (binaryOp .Add (.ref t) (.ref b)) Q E s := by
  obtain ⟨⟨c1, d1, x1, l1⟩, ho, hc, n, hd⟩ := id ht
  obtain ⟨⟨c2, d2, x2, l2⟩, ho2, hc2, m, hd2⟩ := id hb
  cases hc
  cases hd
  cases hc2
  cases hd2
  exact concat_meets ⟨_, ho, rfl⟩ ⟨_, ho2, rfl⟩ noFill_tuple_add seq_tuple_add PySem.F.slot_tuple_add PySem.F.entry_tuple_add (PySem.F.args_tuple_add_2 _ _) (add_none t b vs.toArray ws.toArray n m d1 d2 l1 l2 (by simp [hv])) ⟨ho, ho2, h1⟩
theorem getItem_whole {t sl : Addr} {us : Array Value} {vl vu : Value} {lo hi : Option Int} {Q : Value → Shared → Prop} (ht : IsTup s.heap t us) (hs : s.heap.IsSliceOf sl vl vu .none) (pl : IsPart vl lo) (pu : IsPart vu hi)
    (hw : sIx us.size 0 lo = 0 ∧ sIx us.size us.size hi = us.size) (h : Q (.ref t) s) : wpAny (model prog w) A (getItem (.ref t) (.ref sl)) Q E s := by
  obtain ⟨os, hos, hcs, hds⟩ := id hs
  have hTs : s.TypeIs (.ref sl) "slice" := ⟨os, hos, hcs⟩
  unfold getItem
  try with_reducible refine wpAny_holding ?_
  first | refine wpAny_bind (wpAny_pure ?_) | skip
  refine wpAny_bind (wpAny_sequenceKey ht.typeIs (by decide) ?_)
  refine wpAny_bind (wpAny_callSpecial?_slot (name := Str.ofString "__getitem__") ht.typeIs PyProof.Rows.slot_tuple_getitem
    (wpAny_call_entry PyProof.Rows.slot_tuple_getitem ht.typeIs entry_tuple_getitem ?_ (args_tuple_getitem _ _)))
  show wpAny _ _ (Builtin.Tuple.tupleItemsOf (.ref t) >>= _) _ _ s
  refine wpAny_bind (tupleItemsOf_ ht ?_)
  refine wpAny_bind (wpAny_typeOf hTs ?_)
  rw [if_pos (by decide)]
  refine wpAny_bind (sliceApplied_gen hs pl pu ?_)
  have yes : (((sIx us.size 0 lo : Nat) : Int) == 0 && (1 : Int) == 1 && (sIx us.size us.size hi - sIx us.size 0 lo) == us.size) = true := by
    rw [hw.1, hw.2]; simp
  show wpAny _ _ (if (((sIx us.size 0 lo : Nat) : Int) == 0 && (1 : Int) == 1 && (sIx us.size us.size hi - sIx us.size 0 lo) == us.size) = true then _ else _) _ _ s
  rw [if_pos yes]
  refine wpAny_bind ?_
  unfold Builtin.Tuple.tupleIsExact
  refine wpAny_bind (wpAny_typeOf ht.typeIs (wpAny_pure ?_))
  show wpAny _ _ (rule _ >>= _) _ _ s
  exact wpAny_bind (wpAny_rule (wpAny_bind (wpAny_pure (wpAny_pure ⟨_, rfl, wpAny_pure h⟩))))
end
section
variable {X : Cx} {K : PySem.W.Frag}
def rSlG (K : PySem.W.Frag) : V → Option Int → Option Int → Hp → VK → Prop := fun x lo hi H Q => ∃ a xs, x = .ref a ∧ SqT K H a xs ∧ ∀ p H', Grow [] H H' → SqT K H' p (cutV xs lo hi) → Q (.ref p) H'
theorem cut_whole {xs : List V} {lo hi : Option Int} (h : HT.sIx xs.length 0 lo = 0 ∧ HT.sIx xs.length xs.length hi = xs.length) : cutV xs lo hi = xs := by
  unfold cutV
  rw [h.1, h.2, List.drop_zero, Nat.sub_zero, List.take_length]
theorem sl_tupG (hK : X.K = K) : SlR X (rSlG K) := by
  subst hK
  intro pins s σ H x v vl vu lo hi sl Q I rx hs pl pu h
  obtain ⟨a, xs, rfl, hx, q⟩ := h
  by_cases hw : HT.sIx xs.length 0 lo = 0 ∧ HT.sIx xs.length xs.length hi = xs.length
  · cases rx
    obtain ⟨its, r, ht, hz⟩ := I.tuple hx
    have hlen : its.toArray.size = xs.length := by rw [List.size_toArray]; exact r.length.symm
    refine ⟨"tuple", _, PyProof.Rows.slot_tuple_getitem.lookup, ht.typeIs, ?_⟩
    exact getItem_whole ht hs pl pu (by rw [hlen]; exact hw) ⟨.ref a, H, I, rfl, q a H (Grow.refl _ _) (by rw [cut_whole hw]; exact hx)⟩
  · exact sl_tup pins s σ H _ v vl vu lo hi sl Q I rx hs pl pu ⟨a, xs, rfl, hx, hw, fun p hp => q p _ (Grow.new hp _) (SqT.of upd_same)⟩
def rCatG (K : PySem.W.Frag) : R2 := fun x y H Q => ∃ a b xs ys, x = .ref a ∧ y = .ref b ∧ SqT K H a xs ∧ SqT K H b ys ∧ xs.length + ys.length ≤ sizeLine ∧ ∀ p H', Grow [] H H' → SqT K H' p (xs ++ ys) → Q (.ref p) H'
theorem op_catG (hK : X.K = K) : OpR X (binaryOp .Add) (rCatG K) := by
  subst hK
  intro pins s σ H x y v u Q I rx ry h
  obtain ⟨a, b, xs, ys, rfl, rfl, ha, hb, hz, q⟩ := h
  by_cases hx : xs = []
  · cases rx
    cases ry
    obtain ⟨its, r1, p1, _⟩ := I.tuple ha
    obtain ⟨its2, r2, p2, _⟩ := I.tuple hb
    exact cat_none p1 p2 (r1.nil_iff.mpr hx) ⟨.ref b, H, I, rfl, q b H (Grow.refl _ _) (by rw [hx]; exact hb)⟩
  · exact op_catT pins s σ H _ _ v u Q I rx ry ⟨a, b, xs, ys, rfl, rfl, ha, hb, hx, hz, fun e => q a H (Grow.refl _ _) (by rw [e, List.append_nil]; exact ha), fun _ p hp => q p _ (Grow.new hp _) (SqT.of upd_same)⟩
end
end L3

namespace L3
open PySem PySem.Spec PyProof.Rows L2
section
variable {c : TT} {e : TE} {i : Nat} {v v' : V} {t u r : TS} {D : Ends} {σ : L2.St} {H : Hp} {rt : VK} {bk ct : L2.St → Hp → Prop}
theorem c_name (h : t D (σ.set i (some v)) H) : gName i v σ H ({ nx := t D, rt := rt, bk := bk, ct := ct } : Ends).nx := h
theorem c_if (Good : L2.St → Hp → Prop) (hr : ∀ σ' H', Good σ' H' → r D σ' H') (hc : (∀ σ' H', Good σ' H' → r D σ' H') → tIfS c t u { D with nx := r D } σ H) : tSeq (tIfS c t u) r D σ H := hc hr
theorem c_asg (Good : V → Hp → Prop) (hc : ∀ K : VK, (∀ v H', Good v H' → K v H') → e σ H K) (hr : ∀ v H', Good v H' → t D (σ.set i (some v)) H') : tSeq (tAsg e (gName i)) t D σ H := hc _ fun v H' g => hr v H' g
theorem c_next (h : t D σ H) : tNext ({ nx := t D, rt := rt, bk := bk, ct := ct } : Ends) σ H := h
end
end L3

namespace L3
open PySem PySem.Spec PyProof.Rows L2
theorem hash_none {prog : Program} {w : World} {A : Around} {E : Value → Shared → Prop} {s : Shared} {Q : Int → Shared → Prop} (h : Q 0xFCA86420 { s with toks := s.toks + 1 }) : wpAny (model prog w) A (pyHash .none) Q E s := by
  unfold pyHash
  show wpAny _ _ (pyHashByItsType Value.none) Q E s
  unfold pyHashByItsType
  have hv : [Value.none].any Value.onHeap = false := rfl
  have hT : s.TypeIs .none "NoneType" := rfl
  refine wpAny_bind ?_
  rw [cRoomFor, if_neg (by rw [hv]; exact Bool.false_ne_true)]; refine wpAny_pure ?_
  refine wpAny_bind (wpAny_specialOf hT PySem.F.slot_NoneType_hash.lookup ?_)
  show wpAny _ _ (if (some (Value.builtin "NoneType.__hash__") == some Value.none) = true then _ else _) Q E s
  rw [if_neg (by rw [beq_builtin_none]; exact Bool.false_ne_true)]
  refine wpAny_bind (wpAny_specialOf hT PySem.F.slot_NoneType_hash.lookup ?_)
  show wpAny _ _ (callSpecialIfBoundUnlessNone? .none "__hash__" _ >>= _) Q E s
  refine wpAny_bind (wpAny_callSpecialIfBoundUnlessNone?_slot hT PySem.F.slot_NoneType_hash
    (wpAny_call_entry PySem.F.slot_NoneType_hash hT PySem.F.entry_NoneType_hash
      (show wpAny _ _ (do ret (← mkInt 0xFCA86420)) _ _ s from wpAny_ret_mkInt ?_) (PySem.F.args_NoneType_hash_1 _)))
  exact wpAny_pure h
theorem eqBool_none {prog : Program} {w : World} {A : Around} {E : Value → Shared → Prop} {s : Shared} {Q : Bool → Shared → Prop} (h : Q true s) : wpAny (model prog w) A (eqBool .none .none) Q E s := by
  unfold eqBool
  refine wpAny_holding ?_
  rw [if_pos (show (Value.none == Value.none) = true from rfl)]
  exact wpAny_bind (wpAny_rule (wpAny_pure h))
abbrev OKey := Option Key
def okIs : OKey → Value → Bool
  | none, v => v == .none
  | some k, v => keyIs k v
theorem okIs_shape : ∀ {k : OKey} {v : Value}, okIs k v = true → (k = none ∧ v = .none) ∨ ∃ q, k = some q ∧ keyIs q v = true
  | none, v, h => .inl ⟨rfl, eq_of_beq h⟩
  | some q, v, h => .inr ⟨q, rfl, h⟩
theorem keyIs_none {q : Key} (h : keyIs q .none = true) : False := by
  rcases keyIs_shape h with ⟨_, _, _, e⟩ | ⟨_, _, _, e⟩ <;> cases e
def okKind (prog : Program) (w : World) : PySem.KeyKind prog w OKey where
  is := okIs
  hash := fun k => match k with | none => 0xFCA86420 | some q => keyH w q
  inj := fun v a b ha hb => by
    rcases okIs_shape ha with ⟨rfl, rfl⟩ | ⟨q, rfl, hq⟩ <;> rcases okIs_shape hb with ⟨rfl, e⟩ | ⟨r, rfl, hr⟩
    · rfl
    · exact (keyIs_none hr).elim
    · subst e; exact (keyIs_none hq).elim
    · exact congrArg some ((mixKind prog w).inj v q r hq hr)
  byValue := fun k v h => by
    rcases okIs_shape h with ⟨rfl, rfl⟩ | ⟨q, rfl, hq⟩
    · rfl
    · exact (mixKind prog w).byValue q v hq
  pyHash := fun hv h => by
    rcases okIs_shape hv with ⟨rfl, rfl⟩ | ⟨q, rfl, hq⟩
    · exact hash_none h
    · exact (mixKind prog w).pyHash hq h
  eqBool := fun hu hv h => by
    rcases okIs_shape hu with ⟨rfl, rfl⟩ | ⟨q, rfl, hq⟩ <;> rcases okIs_shape hv with ⟨rfl, e⟩ | ⟨r, rfl, hr⟩
    · subst e; exact eqBool_none (by simpa using h)
    · rw [decide_eq_false (by simp)] at h
      rcases keyIs_shape hr with ⟨i, t, _, rfl⟩ | ⟨x, t, _, rfl⟩
      · exact SeqAt.EqAt.none_int i t _ _ _ _ h
      · exact SeqAt.EqAt.none_str x t _ _ _ _ h
    · rw [decide_eq_false (by simp)] at h
      subst e
      rcases keyIs_shape hq with ⟨i, t, _, rfl⟩ | ⟨x, t, _, rfl⟩
      · exact SeqAt.EqAt.int_none i t _ _ _ _ h
      · exact SeqAt.EqAt.str_none x t _ _ _ _ h
    · exact (mixKind prog w).eqBool hq hr (by simpa using h)
  «strs» := fun k x t v h => by
    rcases okIs_shape h with ⟨rfl, e⟩ | ⟨q, rfl, hq⟩
    · cases e
    · exact (mixKind prog w).strs q x t v hq
def okV : OKey → V
  | none => .non
  | some k => kV k
theorem okIs_of {k : OKey} {v : Value} (r : RelV (okV k) v) : okIs k v = true := by
  cases k with
  | none => cases (show v = Value.none from r); rfl
  | some q =>
    cases q with
    | inl i => obtain ⟨t, rfl⟩ := r; exact keyIs_int i t
    | inr x => obtain ⟨t, rfl⟩ := r; exact keyIs_str x t
theorem okIs_rel {k : OKey} {v : Value} (h : okIs k v = true) : RelV (okV k) v := by
  rcases okIs_shape h with ⟨rfl, rfl⟩ | ⟨q, rfl, hq⟩
  · rfl
  · rcases keyIs_shape hq with ⟨i, t, rfl, rfl⟩ | ⟨x, t, rfl, rfl⟩
    · exact ⟨t, rfl⟩
    · exact ⟨t, rfl⟩
def DcO (a : Addr) (kvs : List (V × V)) : HO := .ext fun h => ∃ o es n, h.get? a = some o ∧ o.cls = .type "dict" ∧ o.data = .dict es n ∧ Vals (kvs.map (·.1)) (es.toList.map (·.key)) ∧ Vals (kvs.map (·.2)) (es.toList.map (·.val))
mutual
/-- nested data, whose lists and dicts are none of m -/
inductive Od (K : PySem.W.Frag) (m : List Addr) (H : Hp) : V → PyData → Prop
  | non : Od K m H .non .none
  | bl (b : Bool) : Od K m H (.bl b) (.bool b)
  | int (i : Int) : Od K m H (.int i) (.int i)
  | str (x : Str) : Od K m H (.str x) (.str x)
  | tup {a : Addr} {xs : List V} {ds : List PyData} : SqT K H a xs → Ods K m H xs ds → Od K m H (.ref a) (.tuple ds)
  | lst {a : Addr} {xs : List V} {ds : List PyData} : H a = some (.lst xs) → a ∉ m → a ≠ sysModules → Ods K m H xs ds → Od K m H (.ref a) (.list ds)
  | dct {a : Addr} {kvs : List (V × V)} {ds : List (PyData × PyData)} : H a = some (DcO a kvs) → a ∉ m → a ≠ sysModules → Ods K m H (kvs.map (·.1)) (ds.map (·.1)) → Ods K m H (kvs.map (·.2)) (ds.map (·.2)) → Od K m H (.ref a) (.dict ds)
inductive Ods (K : PySem.W.Frag) (m : List Addr) (H : Hp) : List V → List PyData → Prop
  | nil : Ods K m H [] []
  | cons {x : V} {xs : List V} {d : PyData} {ds : List PyData} : Od K m H x d → Ods K m H xs ds → Ods K m H (x :: xs) (d :: ds)
end
section
variable {K : PySem.W.Frag} {m : List Addr} {H H' : Hp}
mutual
theorem Od.grow (g : Grow m H H') : ∀ {x : V} {d : PyData}, Od K m H x d → Od K m H' x d
  | _, _, .non => .non
  | _, _, .bl b => .bl b
  | _, _, .int i => .int i
  | _, _, .str x => .str x
  | _, _, .tup h t => .tup (g.sqT h) (Ods.grow g t)
  | _, _, .lst h n b t => .lst (g.keep _ _ n h) n b (Ods.grow g t)
  | _, _, .dct h n b t u => .dct (g.keep _ _ n h) n b (Ods.grow g t) (Ods.grow g u)
theorem Ods.grow (g : Grow m H H') : ∀ {xs : List V} {ds : List PyData}, Ods K m H xs ds → Ods K m H' xs ds
  | _, _, .nil => .nil
  | _, _, .cons h t => .cons (Od.grow g h) (Ods.grow g t)
end
theorem Ods.length : ∀ {xs : List V} {ds : List PyData}, Ods K m H xs ds → xs.length = ds.length
  | _, _, .nil => rfl
  | _, _, .cons _ t => congrArg (· + 1) (Ods.length t)
theorem Ods.get : ∀ {xs : List V} {ds : List PyData} {i : Nat} {x : V}, Ods K m H xs ds → xs[i]? = some x → ∃ d, ds[i]? = some d ∧ Od K m H x d
  | _, _, _, _, .nil, e => by simp at e
  | _, _, 0, _, .cons h _, e => by simp at e; subst e; exact ⟨_, rfl, h⟩
  | _, _, i + 1, x, .cons _ t, e => Ods.get (i := i) t (by simpa using e)
theorem Ods.at : ∀ {xs : List V} {ds : List PyData} {i : Nat} {d : PyData}, Ods K m H xs ds → ds[i]? = some d → ∃ x, xs[i]? = some x ∧ Od K m H x d
  | _, _, _, _, .nil, e => by simp at e
  | _, _, 0, _, .cons h _, e => by simp at e; subst e; exact ⟨_, rfl, h⟩
  | _, _, i + 1, x, .cons _ t, e => Ods.at (i := i) t (by simpa using e)
theorem Ods.append : ∀ {xs ys : List V} {ds es : List PyData}, Ods K m H xs ds → Ods K m H ys es → Ods K m H (xs ++ ys) (ds ++ es)
  | _, _, _, _, .nil, s => s
  | _, _, _, _, .cons r t, s => .cons r (Ods.append t s)
theorem Ods.take : ∀ {xs : List V} {ds : List PyData} (n : Nat), Ods K m H xs ds → Ods K m H (xs.take n) (ds.take n)
  | _, _, 0, _ => .nil
  | _, _, _ + 1, .nil => .nil
  | _, _, n + 1, .cons r t => .cons r (Ods.take n t)
theorem Ods.drop : ∀ {xs : List V} {ds : List PyData} (n : Nat), Ods K m H xs ds → Ods K m H (xs.drop n) (ds.drop n)
  | _, _, 0, r => r
  | _, _, _ + 1, .nil => .nil
  | _, _, n + 1, .cons _ t => Ods.drop n t
end
section
variable {X : Cx} {pins : List (Addr × Obj)} {σ : L2.St} {H : Hp} {s : Shared} {m : List Addr}
theorem inv_big (I : Inv X pins σ H s) : sysModules < s.heap.objs.size := Nat.lt_trans (by decide) (show mainGlobals < s.heap.objs.size from (I.mod.glob.keeps I.bk).lt)
theorem DcO.at (I : Inv X pins σ H s) {a : Addr} {kvs : List (V × V)} (h : H a = some (DcO a kvs)) : ∃ o es n, s.heap.get? a = some o ∧ o.cls = .type "dict" ∧ o.data = .dict es n ∧ Vals (kvs.map (·.1)) (es.toList.map (·.key)) ∧ Vals (kvs.map (·.2)) (es.toList.map (·.val)) := (I.hok a _ h).1
mutual
theorem Od.reads (I : Inv X pins σ H s) : ∀ {x : V} {d : PyData} {u : Value}, Od X.K m H x d → RelV x u → ∃ as, Reads s.heap u d as ∧ sysModules ∉ as
  | _, _, u, .non, r => by
    cases (show u = Value.none from r)
    exact ⟨_, .none, by simp⟩
  | _, _, u, .bl b, r => by
    cases (show u = Value.bool b from r)
    exact ⟨_, .bool b, by simp⟩
  | _, _, u, .int i, r => by
    obtain ⟨t, rfl⟩ := r
    exact ⟨_, .int i t, by simp⟩
  | _, _, u, .str x, r => by
    obtain ⟨t, rfl⟩ := r
    exact ⟨_, .str x t, by simp⟩
  | _, _, u, .tup (a := a) hs hd, r => by
    cases (show u = Value.ref a from r)
    obtain ⟨its, r1, ⟨o, e1, e2, n, e3⟩, _⟩ := I.tuple hs
    obtain ⟨as, q, ns⟩ := Ods.reads I hd r1
    exact ⟨_, .tuple e1 e2 e3 q, ns⟩
  | _, _, u, .lst (a := a) hs _ hb hd, r => by
    cases (show u = Value.ref a from r)
    obtain ⟨its, r1, ⟨o, n, e1, e2, _, e3⟩, _⟩ := I.list (SqL.of hs)
    obtain ⟨as, q, ns⟩ := Ods.reads I hd r1
    exact ⟨_, .list e1 e2 e3 q, fun z => (List.mem_cons.mp z).elim (fun e => hb e.symm) ns⟩
  | _, _, u, .dct (a := a) hs _ hb h1 h2, r => by
    cases (show u = Value.ref a from r)
    obtain ⟨o, es, n, e1, e2, e3, v1, v2⟩ := DcO.at I hs
    obtain ⟨as, q1, n1⟩ := Ods.reads I h1 v1
    obtain ⟨bs, q2, n2⟩ := Ods.reads I h2 v2
    refine ⟨_, .dict e1 e2 e3 q1 q2, fun z => ?_⟩
    rcases List.mem_append.mp z with z | z
    · exact (List.mem_cons.mp z).elim (fun e => hb e.symm) n1
    · exact n2 z
theorem Ods.reads (I : Inv X pins σ H s) : ∀ {xs : List V} {ds : List PyData} {us : List Value}, Ods X.K m H xs ds → Vals xs us → ∃ as, ReadsAll s.heap us ds as ∧ sysModules ∉ as
  | _, _, _, .nil, .nil => ⟨_, .nil, by simp⟩
  | _, _, _, .cons h t, .cons r rs => by
    obtain ⟨as, q, n1⟩ := Od.reads I h r
    obtain ⟨bs, q2, n2⟩ := Ods.reads I t rs
    exact ⟨_, .cons q q2, fun z => (List.mem_append.mp z).elim n1 n2⟩
end
def rReprO (K : PySem.W.Frag) : List V → Hp → VK → Prop := fun xs H Q => ∃ x d m, xs = [x] ∧ Od K m H x d ∧ d.showable = true ∧ d.depth ≤ 60 ∧ d.shown.length ≤ sizeLine ∧ Q (.str d.shown) H
theorem call_reprO {K : PySem.W.Frag} {k : Nat} (hK : X.K = K) (hr : Room k X.A) : CallR X (.builtin "repr") (rReprO K) := by
  subst hK
  intro pins s σ H xs us Q I r h
  obtain ⟨x, d, m, rfl, hd, h1, h3, h4, q⟩ := h
  obtain ⟨u, rfl, rx⟩ := vals1 r
  have key : ∀ a, u = .ref a → wpAny (model X.prog X.w) X.A (call (.builtin "repr") [u]) (EP X pins σ Q) X.xe s := fun a e => by
    subst e
    obtain ⟨as, rd, ns⟩ := Od.reads I hd rx
    exact repr_of_reads' rd h1 (fun _ => ns) hr.gd (by have := hr.un; omega) (fun _ _ e => e) (fun h' t tk hk => ⟨.str _, H, I.kept hk, ⟨_, rfl⟩, q⟩) h4
  cases hd with
  | non =>
    cases (show u = Value.none from rx)
    exact PySem.P.repr_of_none ⟨.str _, H, I.tok _, ⟨_, rfl⟩, q⟩
  | bl b =>
    cases (show u = Value.bool b from rx)
    exact PySem.P.repr_of_bool ⟨.str _, H, I.tok _, ⟨_, rfl⟩, q⟩
  | int i =>
    obtain ⟨t, rfl⟩ := rx
    exact PySem.P.repr_of_int (of_decide_eq_true h1) ⟨.str _, H, I.tok _, ⟨_, rfl⟩, q⟩
  | str x =>
    obtain ⟨t, rfl⟩ := rx
    exact PySem.P.repr_of_str ⟨.str _, H, I.tok _, ⟨_, rfl⟩, q⟩ h4
  | tup hs ha => exact key _ rx
  | lst hs _ _ ha => exact key _ rx
  | dct hs _ _ h1 h2 => exact key _ rx
end
end L3

namespace L3
open PySem PySem.Spec PyProof.Rows L2
section
variable {K : PySem.W.Frag} {m m' : List Addr} {H : Hp}
mutual
theorem Od.more {a : Addr} (h : H a = none) : ∀ {x : V} {d : PyData}, Od K m H x d → Od K (a :: m) H x d
  | _, _, .non => .non
  | _, _, .bl b => .bl b
  | _, _, .int i => .int i
  | _, _, .str x => .str x
  | _, _, .tup q t => .tup q (Ods.more h t)
  | _, _, .lst q n b t => .lst q (fun z => (List.mem_cons.mp z).elim (fun e => by rw [e, h] at q; cases q) n) b (Ods.more h t)
  | _, _, .dct q n b t u => .dct q (fun z => (List.mem_cons.mp z).elim (fun e => by rw [e, h] at q; cases q) n) b (Ods.more h t) (Ods.more h u)
theorem Ods.more {a : Addr} (h : H a = none) : ∀ {xs : List V} {ds : List PyData}, Ods K m H xs ds → Ods K (a :: m) H xs ds
  | _, _, .nil => .nil
  | _, _, .cons q t => .cons (Od.more h q) (Ods.more h t)
end
mutual
theorem Od.less (h : ∀ b ∈ m', b ∈ m) : ∀ {x : V} {d : PyData}, Od K m H x d → Od K m' H x d
  | _, _, .non => .non
  | _, _, .bl b => .bl b
  | _, _, .int i => .int i
  | _, _, .str x => .str x
  | _, _, .tup q t => .tup q (Ods.less h t)
  | _, _, .lst q n b t => .lst q (fun z => n (h _ z)) b (Ods.less h t)
  | _, _, .dct q n b t u => .dct q (fun z => n (h _ z)) b (Ods.less h t) (Ods.less h u)
theorem Ods.less (h : ∀ b ∈ m', b ∈ m) : ∀ {xs : List V} {ds : List PyData}, Ods K m H xs ds → Ods K m' H xs ds
  | _, _, .nil => .nil
  | _, _, .cons q t => .cons (Od.less h q) (Ods.less h t)
end
end
theorem star_dict {ks : List (Option Expr)} {vs es : List Expr} {p : Pos} {env : Env} : starEach (.Dict ks vs p :: es) env = (false, eval (.Dict ks vs p) env) :: starEach es env := by rfl
structure DR where
  p : List Addr → L2.St → Hp → Prop
  mono : ∀ {m σ H H'}, Grow [] H H' → p m σ H → p m σ H'
  more : ∀ {a m σ H}, H a = none → p m σ H → p (a :: m) σ H
def DR.t : DR := ⟨fun _ _ _ => True, fun _ _ => trivial, fun _ _ => trivial⟩
def DR.and (a b : DR) : DR := ⟨fun m σ H => a.p m σ H ∧ b.p m σ H, fun g h => ⟨a.mono g h.1, b.mono g h.2⟩, fun g h => ⟨a.more g h.1, b.more g h.2⟩⟩
def DR.var (K : PySem.W.Frag) (i : Nat) (d : PyData) : DR := ⟨fun m σ H => ∃ x, σ[i]? = some (some x) ∧ Od K m H x d, fun g h => by obtain ⟨x, e, o⟩ := h; exact ⟨x, e, o.grow (g.mono (by simp))⟩, fun g h => by obtain ⟨x, e, o⟩ := h; exact ⟨x, e, o.more g⟩⟩
def tOd (K : PySem.W.Frag) (R : DR) (D : PyData) : TE := fun σ H Q => ∃ m, R.p m σ H ∧ (∀ b ∈ m, H b ≠ none) ∧ ∀ x H', Grow [] H H' → Od K m H' x D → Q x H'
def tOds (K : PySem.W.Frag) (R : DR) (Ds : List PyData) : TA := fun σ H Q => ∃ m, R.p m σ H ∧ (∀ b ∈ m, H b ≠ none) ∧ ∀ xs H', Grow [] H H' → Ods K m H' xs Ds → Q xs H'
theorem grow_none {H H' : Hp} {m : List Addr} (g : Grow [] H H') (h : ∀ b ∈ m, H b ≠ none) : ∀ b ∈ m, H' b ≠ none := fun b hb z => by
  cases e : H b with
  | none => exact h b hb e
  | some o => rw [g.keep b o (by simp) e] at z; cases z
section
variable {X : Cx} {K : PySem.W.Frag} {R R' : DR} {D : PyData} {Ds : List PyData} {e : Expr} {es : List Expr} {pos : Pos} {j}
theorem po_non : PE X (.Constant .none j pos) (tOd K .t .none) := fun pins s σ H Q I ⟨m, _, _, q⟩ => pe_non pins s σ H Q I (q _ _ (Grow.refl _ _) .non)
theorem po_bl {b : Bool} : PE X (.Constant (.bool b) j pos) (tOd K .t (.bool b)) := fun pins s σ H Q I ⟨m, _, _, q⟩ => pe_bl pins s σ H Q I (q _ _ (Grow.refl _ _) (.bl b))
theorem po_int {i : Int} : PE X (.Constant (.int i) j pos) (tOd K .t (.int i)) := fun pins s σ H Q I ⟨m, _, _, q⟩ => pe_int pins s σ H Q I (q _ _ (Grow.refl _ _) (.int i))
theorem po_neg {i : Int} {pos2 : Pos} : PE X (.UnaryOp .USub (.Constant (.int i) j pos) pos2) (tOd K .t (.int (-i))) := fun pins s σ H Q I ⟨m, _, _, q⟩ => pe_un un_neg pe_int pins s σ H Q I ⟨_, rfl, q _ _ (Grow.refl _ _) (.int (-i))⟩
theorem po_pow {i n : Int} {j2 : Nat} {p1 p2 : Pos} (h : CPow i n) : PE X (.BinOp (.Constant (.int i) j p1) .Pow (.Constant (.int n) j2 p2) pos) (tOd K .t (.int (i ^ n.toNat))) := fun pins s σ H Q I ⟨m, _, _, q⟩ => pe_op op_pow pe_int pe_int pins s σ H Q I ⟨_, _, rfl, rfl, h, q _ _ (Grow.refl _ _) (.int _)⟩
theorem po_npow {i n : Int} {j2 : Nat} {p1 p2 p3 : Pos} (h : CPow i n) : PE X (.UnaryOp .USub (.BinOp (.Constant (.int i) j p1) .Pow (.Constant (.int n) j2 p2) pos) p3) (tOd K .t (.int (-(i ^ n.toNat)))) := fun pins s σ H Q I ⟨m, _, _, q⟩ => pe_un un_neg (pe_op op_pow pe_int pe_int) pins s σ H Q I ⟨_, _, rfl, rfl, h, _, rfl, q _ _ (Grow.refl _ _) (.int _)⟩
theorem po_str {x : Str} : PE X (.Constant (.str x) j pos) (tOd K .t (.str x)) := fun pins s σ H Q I ⟨m, _, _, q⟩ => pe_str pins s σ H Q I (q _ _ (Grow.refl _ _) (.str x))
theorem po_var {i : Nat} (D : PyData) (h : PE X e (tVar i)) : PE X e (tOd K (.var K i D) D) := fun pins s σ H Q I ⟨m, ⟨x, ex, o⟩, _, q⟩ => h pins s σ H Q I ⟨x, ex, q _ _ (Grow.refl _ _) o⟩
theorem pos_nil : PA X [] (tOds K .t []) := fun pos pins s σ H Q I ⟨m, _, _, q⟩ => pa_nil pos pins s σ H Q I (q _ _ (Grow.refl _ _) .nil)
theorem pos_cons (h : PE X e (tOd K R D)) (t : PA X es (tOds K R' Ds)) (hs : starEach (e :: es) X.env = (false, eval e X.env) :: starEach es X.env := by rfl) : PA X (e :: es) (tOds K (.and R R') (D :: Ds)) := fun pos pins s σ H Q I ⟨m, ⟨r1, r2⟩, b, q⟩ =>
  pa_cons h t hs pos pins s σ H Q I ⟨m, r1, b, fun x H1 g1 o1 => ⟨m, R'.mono g1 r2, grow_none g1 b, fun xs H2 g2 o2 => q _ _ (g1.trans g2) (.cons (o1.grow (g2.mono (by simp))) o2)⟩⟩
theorem pos_last (h : PE X e (tOd K R D)) (hs : starEach [e] X.env = (false, eval e X.env) :: starEach [] X.env := by rfl) : PA X [e] (tOds K R [D]) := fun pos pins s σ H Q I ⟨m, r1, b, q⟩ =>
  pa_cons h pa_nil hs pos pins s σ H Q I ⟨m, r1, b, fun x H1 g1 o1 => q _ _ g1 (.cons o1 .nil)⟩
theorem pos_consT (h : PE X e (tOd K .t D)) (t : PA X es (tOds K R' Ds)) (hs : starEach (e :: es) X.env = (false, eval e X.env) :: starEach es X.env := by rfl) : PA X (e :: es) (tOds K R' (D :: Ds)) := fun pos pins s σ H Q I ⟨m, r2, b, q⟩ =>
  pos_cons h t hs pos pins s σ H Q I ⟨m, ⟨trivial, r2⟩, b, q⟩
theorem po_tup {x1} (h : PA X es (tOds K R Ds)) (hl : Ds.length ≤ 1000 := by decide) : PE X (.Tuple es x1 pos) (tOd K R (.tuple Ds)) := fun pins s σ H Q I ⟨m, r, b, q⟩ =>
  pe_tup h pins s σ H Q I ⟨m, r, b, fun xs H' g o => ⟨by rw [o.length]; exact Nat.le_of_lt (small1000 hl), fun p hp =>
    have g2 := Grow.new (m := []) hp (.tup xs)
    q _ _ (g.trans g2) (.tup (SqT.of upd_same) (o.grow (g2.mono (by simp))))⟩⟩
def tLstB (t : TA) : TE := fun σ H Q => t σ H fun xs H1 => xs.length ≤ sizeLine ∧ ∀ p, H1 p = none → p ≠ sysModules → Q (.ref p) (upd H1 p (.lst xs))
theorem pe_lstB {t : TA} (h : PA X es t) : PE X (.List es pos) (tLstB t) := by
  intro pins s σ H Q I hq
  refine wpAny_List_spliced (thn (h pos pins s σ H _ I hq) fun us s1 ⟨xs, H1, I1, r, z, q⟩ => ⟨by rw [← r.length]; exact z, ?_⟩)
  have hf : H1 s1.heap.objs.size = none := I1.hok.fresh (Nat.le_refl _)
  refine ⟨.ref s1.heap.objs.size, upd H1 s1.heap.objs.size (.lst xs), I1.laid (t' := s1.toks) (fun b u e => Heap.get?_push_of_some _ e) (Nat.le_refl _) ?_, rfl, q _ hf (Nat.ne_of_gt (inv_big I1))⟩
  exact ⟨z, us, 0, r, Heap.get?_push_size _ rfl⟩
theorem notMem {m : List Addr} {H : Hp} {p : Addr} (b : ∀ b ∈ m, H b ≠ none) (h : H p = none) : p ∉ m := fun z => b p z h
theorem po_lst (h : PA X es (tOds K R Ds)) (hl : Ds.length ≤ 1000 := by decide) : PE X (.List es pos) (tOd K R (.list Ds)) := fun pins s σ H Q I ⟨m, r, b, q⟩ =>
  pe_lstB h pins s σ H Q I ⟨m, r, b, fun xs H' g o => ⟨by rw [o.length]; exact Nat.le_of_lt (small1000 hl), fun p hp hn =>
    have g2 := Grow.new (m := []) hp (.lst xs)
    q _ _ (g.trans g2) (.lst upd_same (notMem (grow_none g b) hp) hn (o.grow (g2.mono (by simp))))⟩⟩
theorem call_listB (hK : X.K = K) : CallR X (.type "list") (fun xs H Q => ∃ p ys, xs = [.ref p] ∧ (SqL K H p ys ∨ SqT K H p ys) ∧ ∀ l, H l = none → l ≠ sysModules → Q (.ref l) (upd H l (.lst ys))) := by
  subst hK
  intro pins s σ H xs us Q I r h
  obtain ⟨p, ys, rfl, hq, q⟩ := h
  obtain ⟨u, rfl, rx⟩ := vals1 r
  cases rx
  have fin : ∀ (its : List Value), Vals ys its → ys.length ≤ sizeLine → ∀ (h' : Heap) (c' : Nat), (∀ b o', s.heap.get? b = some o' → h'.get? b = some o') →
      h'.get? s.heap.objs.size = some { cls := .type "list", dict := none, data := .seq its.toArray c', slots := #[] } → EP X pins σ Q (.ref s.heap.objs.size) { s with heap := h' } := fun its r' hz h' c' kp e =>
    ⟨.ref s.heap.objs.size, _, I.laid (t' := s.toks) kp (Nat.le_refl _) (show ObjOk X.prog X.w _ h' _ (.lst ys) from ⟨hz, its, c', r', e⟩), rfl, q _ (I.hok.fresh (Nat.le_refl _)) (Nat.ne_of_gt (inv_big I))⟩
  rcases hq with hq | hq
  · obtain ⟨its, r', pl, hz⟩ := I.list hq
    have hlen := r'.length
    obtain ⟨o, ho, hc, n, hd⟩ := pl.isList
    exact call_list_seq p (.inl rfl) ho hc hd (fun h' c' kp e => fin its r' hz h' c' kp e) (by simp only [List.size_toArray] <;> omega)
  · obtain ⟨its, r', pl, hz⟩ := I.tuple hq
    have hlen := r'.length
    obtain ⟨o, ho, hc, n, hd⟩ := pl
    exact call_list_seq p (.inr rfl) ho hc hd (fun h' c' kp e => fin its r' hz h' c' kp e) (by simp only [List.size_toArray] <;> omega)
end
def okD : OKey → PyData
  | none => .none
  | some (.inl i) => .int i
  | some (.inr x) => .str x
theorem okD_od {K : PySem.W.Frag} {m : List Addr} {H : Hp} : ∀ {k : OKey}, Od K m H (okV k) (okD k)
  | none => .non
  | some (.inl i) => .int i
  | some (.inr x) => .str x
def KxR (p : OKey × V) (q : Value × Value) : Prop := RelV (okV p.1) q.1 ∧ RelV p.2 q.2
structure PO2 (X : Cx) (ks : List (Option Expr)) (vs : List Expr) (R : DR) (kds : List (OKey × PyData)) : Prop where
  run : ∀ (pos : Pos) (pins : List (Addr × Obj)) (s : Shared) (σ : L2.St) (H : Hp) (m : List Addr) (Q : List (Value × Value) → Shared → Prop), Inv X pins σ H s → R.p m σ H → (∀ b ∈ m, H b ≠ none) →
    (∀ r s' H' (kxs : List (OKey × V)), Inv X pins σ H' s' → Grow [] H H' → Paired KxR kxs r → kxs.map (·.1) = kds.map (·.1) → Ods X.K m H' (kxs.map (·.2)) (kds.map (·.2)) → Q r s') →
    wpAny (model X.prog X.w) X.A (evalPairs (pairTrees ks vs X.env pos)) Q X.xe s
section
variable {X : Cx} {K : PySem.W.Frag} {R R' : DR} {D : PyData} {e k : Expr} {ks : List (Option Expr)} {vs : List Expr} {kds : List (OKey × PyData)} {pos : Pos}
theorem po2_nil : PO2 X [] [] .t [] := ⟨fun pos pins s σ H m Q I _ _ q => pairTrees_nil_walk (q [] s H [] I (Grow.refl _ _) .nil rfl .nil)⟩
theorem po2_cons (key : OKey) (hk : PE X k (tC (okV key))) (h : PE X e (tOd X.K R D)) (t : PO2 X ks vs R' kds) : PO2 X (some k :: ks) (e :: vs) (.and R R') ((key, D) :: kds) := ⟨fun pos pins s σ H m Q I ⟨r1, r2⟩ b q => by
  refine pairTrees_cons_walk (thn (hk pins s σ H (fun x H1 => x = okV key ∧ H1 = H) I ⟨rfl, rfl⟩) fun u s1 ⟨x, H1, I1, rx, ex, eH⟩ => ?_)
  subst ex eH
  refine thn (h pins s1 σ H1 (fun y H2 => Grow [] H1 H2 ∧ Od X.K m H2 y D) I1 ⟨m, r1, b, fun y H2 g o => ⟨g, o⟩⟩) fun v s2 ⟨y, H2, I2, ry, g2, o2⟩ => ?_
  refine t.run pos pins s2 σ H2 m _ I2 (R'.mono g2 r2) (grow_none g2 b) fun r s' H3 kxs I3 g3 pr ek od => ?_
  exact q _ s' H3 ((key, y) :: kxs) I3 (g2.trans g3) (.cons ⟨rx, ry⟩ pr) (by rw [List.map_cons, List.map_cons, ek]) (.cons (o2.grow (g3.mono (by simp))) od)⟩
theorem po2_int {i : Int} {j} {pk : Pos} (h : PE X e (tOd X.K R D)) (t : PO2 X ks vs R' kds) : PO2 X (some (.Constant (.int i) j pk) :: ks) (e :: vs) (.and R R') ((some (.inl i), D) :: kds) := po2_cons (some (.inl i)) pe_int h t
theorem mapFst {α β γ : Type} (f : α → γ) (l : List (α × β)) : l.map (fun p => f p.1) = (l.map (·.1)).map f := by rw [List.map_map]; rfl
theorem mapPair1 {α β γ : Type} (f : α → γ) (l : List (α × β)) : (l.map fun p => (f p.1, p.2)).map (·.1) = (l.map (·.1)).map f := by rw [List.map_map, List.map_map]; rfl
theorem mapPair2 {α β γ : Type} (f : α → γ) (l : List (α × β)) : (l.map fun p => (f p.1, p.2)).map (·.2) = l.map (·.2) := by rw [List.map_map]; rfl
def E0D (a : Addr) : HO := .ext fun h => h.get? a = some { cls := .type "dict", data := .dict #[] }
theorem carries {prog : Program} {w : World} : ∀ {kxs : List (OKey × V)} {r : List (Value × Value)}, Paired KxR kxs r → ∃ kvs : List (OKey × Value), Carries (okKind prog w) r kvs ∧ kvs.map (·.1) = kxs.map (·.1) ∧ Vals (kxs.map (·.2)) (kvs.map (·.2))
  | _, _, .nil => ⟨[], trivial, rfl, .nil⟩
  | _, _, .cons (a := x) (b := y) h t => by
    obtain ⟨kvs, c, e, v⟩ := carries (prog := prog) (w := w) t
    exact ⟨(x.1, y.2) :: kvs, ⟨okIs_of h.1, rfl, c⟩, by rw [List.map_cons, List.map_cons, e], .cons h.2 v⟩
theorem merged_nodup {kvs : List (OKey × Value)} : ∀ {acc : List (OKey × Value)}, ((acc ++ kvs).map (·.1)).Nodup → merged acc kvs = acc ++ kvs := by
  induction kvs with
  | nil => intro acc _; simp [merged]
  | cons kv r ih =>
    intro acc h
    have h1 : stored acc kv.1 kv.2 = acc ++ [kv] := by
      unfold stored
      rw [if_neg]
      intro z
      obtain ⟨x, hx, e⟩ := List.any_eq_true.mp z
      rw [List.map_append, List.nodup_append] at h
      exact h.2.2 x.1 (List.mem_map_of_mem hx) kv.1 (by simp) (of_decide_eq_true e)
    show merged (stored acc kv.1 kv.2) r = _
    rw [h1, ih (by simpa using h)]
    simp
theorem pairs_vals {prog : Program} {w : World} : ∀ {es : List DictEntry} {kvs : List (OKey × Value)}, Pairs (okKind prog w) es kvs → Vals (kvs.map fun p => okV p.1) (es.map (·.key)) ∧ es.map (·.val) = kvs.map (·.2)
  | _, _, .nil => ⟨.nil, rfl⟩
  | _, _, .cons h1 h2 t => by
    obtain ⟨a, b⟩ := pairs_vals t
    exact ⟨.cons (okIs_rel h1) a, by rw [List.map_cons, List.map_cons, b, h2]⟩
theorem po_dct (h : PO2 X ks vs R kds) (hnd : (kds.map (·.1)).Nodup := by decide) (hall : ks.all (·.isSome) = true := by rfl) (hl : ks.length = vs.length := by rfl) (h0 : ks ≠ [] := by intro z; cases z) (hlen : ks.length ≤ 15 := by decide) :
    PE X (.Dict ks vs pos) (tOd X.K R (.dict (kds.map fun p => (okD p.1, p.2)))) := by
  intro pins s σ H Q I ⟨m, hr, hb, q⟩
  have hf : H s.heap.objs.size = none := I.hok.fresh (Nat.le_refl _)
  have I1 : Inv X pins σ (upd H s.heap.objs.size (E0D s.heap.objs.size)) { s with heap := s.heap.push { cls := .type "dict", data := .dict #[] } } :=
    I.laid (t' := s.toks) (fun b u e => Heap.get?_push_of_some _ e) (Nat.le_refl _) ⟨Heap.get?_push_size _ rfl, ⟨_, Heap.get?_push_size _ rfl⟩, fun h1 h2 a k => k _ a⟩
  have g1 := Grow.new (m := []) hf (E0D s.heap.objs.size)
  refine wpAny_Dict_walk (knd := okKind X.prog X.w) hall hl h0 hlen (h.run pos pins _ σ _ (s.heap.objs.size :: m) _ I1 (R.mono g1 (R.more hf hr)) ?_ fun r s1 H2 kxs I2 g2 pr ek od => ?_)
  · intro b hb' z
    rcases List.mem_cons.mp hb' with e | e
    · rw [e, upd_same] at z; cases z
    · exact grow_none g1 hb b e z
  have h2a : H2 s.heap.objs.size = some (E0D s.heap.objs.size) := g2.keep _ _ (by simp) upd_same
  have hE : s1.heap.get? s.heap.objs.size = some { cls := .type "dict", data := .dict #[] } := (I2.hok _ _ h2a).1
  obtain ⟨kvs, hc, ekv, vv⟩ := carries (prog := X.prog) (w := X.w) pr
  refine ⟨kvs, hc, ⟨_, #[], 0, hE, ⟨rfl, rfl, rfl⟩, rfl, fun e he => by simp at he, .nil, List.nodup_nil⟩, fun h' hm hs => ?_⟩
  have hmk : merged [] kvs = kvs := by
    have := merged_nodup (kvs := kvs) (acc := []) (by rw [List.nil_append, ekv, ek]; exact hnd)
    rw [this, List.nil_append]
  rw [hmk] at hm
  obtain ⟨o, es, ep, ho, hx, hd, _, prs, _⟩ := hm
  obtain ⟨v1, e2⟩ := pairs_vals prs
  have hk1 : (kxs.map fun p => (okV p.1, p.2)).map (·.1) = kvs.map fun p => okV p.1 := by
    rw [mapPair1, mapFst, ekv]
  have hk2 : (kxs.map fun p => (okV p.1, p.2)).map (·.2) = kxs.map (·.2) := mapPair2 okV kxs
  have new : ObjOk X.prog X.w (upd H2 s.heap.objs.size (DcO s.heap.objs.size (kxs.map fun p => (okV p.1, p.2)))) h' s.heap.objs.size (DcO s.heap.objs.size (kxs.map fun p => (okV p.1, p.2))) := by
    refine ⟨⟨o, es, ep, ho, hx.1, hd, by rw [hk1]; exact v1, by rw [hk2, e2]; exact vv⟩, ⟨o, ho⟩, fun h1 h2 hφ hk => ?_⟩
    obtain ⟨o', es', n', a1, a2⟩ := hφ
    exact ⟨o', es', n', hk _ a1, a2⟩
  have I3 := I2.write (t' := s1.toks + r.length) (h' := h') (x := s.heap.objs.size) (e := s.heap.objs.size) (by rw [h2a]; trivial) (.inl rfl) (fun b u hb e => (hs.2 b hb).trans e) ⟨o, ho⟩ new
  have g3 : Grow (s.heap.objs.size :: m) H2 (upd H2 s.heap.objs.size (DcO s.heap.objs.size (kxs.map fun p => (okV p.1, p.2)))) :=
    ⟨fun b u hb e => by rw [upd_ne (fun z => hb (by simp [z]))]; exact e, fun b u e => by rw [upd_ne (fun z => by rw [z, h2a] at e; cases e)]; exact e, fun b u v e => by rw [upd_ne (fun z => by rw [z, h2a] at e; cases e)]; exact e⟩
  have G : Grow [] H (upd H2 s.heap.objs.size (DcO s.heap.objs.size (kxs.map fun p => (okV p.1, p.2)))) := by
    have ga := g1.trans g2
    refine ⟨fun b u hb e => ?_, fun b u e => ?_, fun b u v e => ?_⟩
    · rw [upd_ne (ne_of_none e hf)]; exact ga.keep b u hb e
    · rw [upd_ne (ne_of_none e hf)]; exact ga.tup b u e
    · rw [upd_ne (ne_of_none e hf)]; exact ga.frz b u v e
  refine ⟨.ref s.heap.objs.size, _, I3, rfl, q _ _ G (.dct upd_same (notMem hb hf) (Nat.ne_of_gt (inv_big I)) ?_ ?_)⟩
  · rw [hk1]
    have : ∀ {l : List OKey} {H : Hp}, Ods X.K m H (l.map okV) (l.map okD) := fun {l H} => by
      induction l with
      | nil => exact .nil
      | cons a r ih => exact .cons okD_od ih
    rw [mapFst, ekv, ek, mapPair1]
    exact this
  · rw [hk2, mapPair2]
    exact (od.grow g3).less fun b hb => List.mem_cons_of_mem _ hb
theorem po_dnil : PE X (.Dict [] [] pos) (tOd K .t (.dict [])) := by
  intro pins s σ H Q I ⟨m, _, hb, q⟩
  have hf : H s.heap.objs.size = none := I.hok.fresh (Nat.le_refl _)
  refine wpAny_Dict_empty ?_
  have I1 : Inv X pins σ (upd H s.heap.objs.size (DcO s.heap.objs.size [])) { s with heap := s.heap.push { cls := .type "dict", data := .dict #[] } } :=
    I.laid (t' := s.toks) (fun b u e => Heap.get?_push_of_some _ e) (Nat.le_refl _) ⟨⟨_, _, _, Heap.get?_push_size _ rfl, rfl, rfl, .nil, .nil⟩, ⟨_, Heap.get?_push_size _ rfl⟩, fun h1 h2 hφ hk => by
      obtain ⟨o', es', n', a1, a2⟩ := hφ
      exact ⟨o', es', n', hk _ a1, a2⟩⟩
  exact ⟨.ref s.heap.objs.size, _, I1, rfl, q _ _ (Grow.new hf _) (.dct (kvs := []) (ds := []) upd_same (notMem hb hf) (Nat.ne_of_gt (inv_big I)) .nil .nil)⟩
end
end L3

namespace L3
open PySem PySem.Spec PyProof.Rows L2
def tyD : PyData → String
  | .none => "NoneType"
  | .bool _ => "bool"
  | .int _ => "int"
  | .str _ => "str"
  | .list _ => "list"
  | .tuple _ => "tuple"
  | .dict _ => "dict"
def rIsiO (K : PySem.W.Frag) : List V → Hp → VK → Prop := fun xs H Q => ∃ x d m T k, xs = [x, .ty T] ∧ Od K m H x d ∧ PySem.W.kitOne K (.type (tyD d)) (.type T) = some k ∧ Q (.bl k) H
theorem call_isiO {X : Cx} {K : PySem.W.Frag} (hK : X.K = K) : CallR X (.builtin "isinstance") (rIsiO K) := by
  subst hK
  intro pins s σ H xs us Q I r h
  obtain ⟨x, d, m, T, k, rfl, hd, e, q⟩ := h
  cases hd with
  | non => exact call_isi pins s σ H _ us Q I r ⟨_, T, _, k, rfl, rfl, e, q⟩
  | bl b => exact call_isi pins s σ H _ us Q I r ⟨_, T, _, k, rfl, rfl, e, q⟩
  | int i => exact call_isi pins s σ H _ us Q I r ⟨_, T, _, k, rfl, rfl, e, q⟩
  | str y => exact call_isi pins s σ H _ us Q I r ⟨_, T, _, k, rfl, rfl, e, q⟩
  | tup hs _ => exact call_isi pins s σ H _ us Q I r ⟨_, T, _, k, rfl, .inl ⟨rfl, _, hs⟩, e, q⟩
  | lst hs _ _ _ => exact call_isi pins s σ H _ us Q I r ⟨_, T, _, k, rfl, .inr (.inl ⟨rfl, _, SqL.of hs⟩), e, q⟩
  | @dct a kvs ds hs _ _ _ _ =>
    obtain ⟨u, w', rfl, rx, rt⟩ := vals2 r
    cases (show w' = Value.type T from rt)
    cases (show u = Value.ref a from rx)
    obtain ⟨o, es, n, e1, e2, _⟩ := DcO.at I hs
    exact PySem.W.kia_one PySem.W.kitx_dict I.kIn ⟨o, e1, e2⟩ e (fun z => nomatch z) fun tk => ⟨.bl k, H, I.tok _, rfl, q⟩
def intD : PyData → Bool
  | .int _ => true
  | .bool _ => true
  | _ => false
def boolD : PyData → Bool
  | .bool _ => true
  | _ => false
def tupD : PyData → Bool
  | .tuple _ => true
  | _ => false
def wholeD : PyData → Bool
  | .int _ => true
  | _ => false
theorem kit_int {K : PySem.W.Frag} : ∀ {d : PyData}, PySem.W.kitOne K (.type (tyD d)) (.type "int") = some (intD d)
  | .none => rfl
  | .bool _ => rfl
  | .int _ => rfl
  | .str _ => rfl
  | .list _ => rfl
  | .tuple _ => rfl
  | .dict _ => rfl
theorem kit_bool {K : PySem.W.Frag} : ∀ {d : PyData}, PySem.W.kitOne K (.type (tyD d)) (.type "bool") = some (boolD d)
  | .none => rfl
  | .bool _ => rfl
  | .int _ => rfl
  | .str _ => rfl
  | .list _ => rfl
  | .tuple _ => rfl
  | .dict _ => rfl
theorem kit_tup {K : PySem.W.Frag} : ∀ {d : PyData}, PySem.W.kitOne K (.type (tyD d)) (.type "tuple") = some (tupD d)
  | .none => rfl
  | .bool _ => rfl
  | .int _ => rfl
  | .str _ => rfl
  | .list _ => rfl
  | .tuple _ => rfl
  | .dict _ => rfl
def sp_is_wholeO (K : PySem.W.Frag) : Sp := sp1 fun x H Q => ∃ d m, Od K m H x d ∧ Q (.bl (wholeD d)) H
end L3

namespace L3
open PySem PySem.Spec PyProof.Rows L2
mutual
def leD (B : Int) : PyData → Bool
  | .int i => decide (-B ≤ i) && decide (i ≤ B)
  | .list xs | .tuple xs => leDs B xs
  | .dict kvs => leDk B kvs
  | .none | .bool _ | .str _ => true
def leDs (B : Int) : List PyData → Bool
  | [] => true
  | x :: xs => leD B x && leDs B xs
def leDk (B : Int) : List (PyData × PyData) → Bool
  | [] => true
  | (k, v) :: r => leD B k && leD B v && leDk B r
end
mutual
def wtO : PyData → Nat
  | .list xs | .tuple xs => wtOs xs + 3
  | .dict kvs => wtOk kvs + 3
  | .int _ => 1921
  | .none | .bool _ => 5
  | .str x => (reprText x).length
def wtOs : List PyData → Nat
  | [] => 0
  | x :: xs => wtO x + 2 + wtOs xs
def wtOk : List (PyData × PyData) → Nat
  | [] => 0
  | (k, v) :: r => wtO k + wtO v + 4 + wtOk r
end
mutual
theorem leD_mono {B B' : Int} (h : B ≤ B') : ∀ {d : PyData}, leD B d = true → leD B' d = true
  | .int i, z => by
    simp only [leD, Bool.and_eq_true, decide_eq_true_eq] at z ⊢
    omega
  | .list xs, z => leDs_mono h (xs := xs) z
  | .tuple xs, z => leDs_mono h (xs := xs) z
  | .dict kvs, z => leDk_mono h (kvs := kvs) z
  | .none, _ => rfl
  | .bool _, _ => rfl
  | .str _, _ => rfl
theorem leDs_mono {B B' : Int} (h : B ≤ B') : ∀ {xs : List PyData}, leDs B xs = true → leDs B' xs = true
  | [], _ => rfl
  | x :: xs, z => by
    have z' := Bool.and_eq_true_iff.mp (show (leD B x && leDs B xs) = true from z)
    show (leD B' x && leDs B' xs) = true
    rw [leD_mono h z'.1, leDs_mono h z'.2]; rfl
theorem leDk_mono {B B' : Int} (h : B ≤ B') : ∀ {kvs : List (PyData × PyData)}, leDk B kvs = true → leDk B' kvs = true
  | [], _ => rfl
  | (k, v) :: r, z => by
    have z' := Bool.and_eq_true_iff.mp (show (leD B k && leD B v && leDk B r) = true from z)
    have z'' := Bool.and_eq_true_iff.mp z'.1
    show (leD B' k && leD B' v && leDk B' r) = true
    rw [leD_mono h z''.1, leD_mono h z''.2, leDk_mono h z'.2]; rfl
end
theorem leDs_iff {B : Int} : ∀ {xs : List PyData}, leDs B xs = true ↔ ∀ x ∈ xs, leD B x = true
  | [] => by simp [leDs]
  | x :: xs => by simp [leDs, leDs_iff (xs := xs)]
theorem wtOs_append : ∀ {xs ys : List PyData}, wtOs (xs ++ ys) = wtOs xs + wtOs ys
  | [], ys => by simp [wtOs]
  | x :: xs, ys => by
    show wtO x + 2 + wtOs (xs ++ ys) = wtO x + 2 + wtOs xs + wtOs ys
    rw [wtOs_append]; omega
theorem wtOs_take : ∀ {xs : List PyData} (n : Nat), wtOs (xs.take n) ≤ wtOs xs
  | _, 0 => Nat.zero_le _
  | [], _ + 1 => Nat.le_refl _
  | x :: xs, n + 1 => by
    show wtO x + 2 + wtOs (xs.take n) ≤ wtO x + 2 + wtOs xs
    have := wtOs_take (xs := xs) n
    omega
theorem wtOs_drop : ∀ {xs : List PyData} (n : Nat), wtOs (xs.drop n) ≤ wtOs xs
  | _, 0 => Nat.le_refl _
  | [], _ + 1 => Nat.le_refl _
  | x :: xs, n + 1 => by
    show wtOs (xs.drop n) ≤ wtO x + 2 + wtOs xs
    have := wtOs_drop (xs := xs) n
    omega
def Bg : Int := 2 ^ 1000
mutual
theorem showable_le {B : Int} (hB : B ≤ Bg) : ∀ {d : PyData}, leD B d = true → d.showable = true
  | .int i, z => by
    simp only [leD, Bool.and_eq_true, decide_eq_true_eq] at z
    have hb : Bg = 2 ^ 1000 := rfl
    show decide (i.natAbs.log2 < 1920) = true
    refine decide_eq_true ?_
    by_cases h0 : i.natAbs = 0
    · rw [h0]; decide
    · rw [Nat.log2_lt h0]
      have h1 : (i.natAbs : Int) ≤ Bg := by omega
      have h2 : i.natAbs ≤ 2 ^ 1000 := by rw [hb] at h1; exact_mod_cast h1
      exact Nat.lt_of_le_of_lt h2 (Nat.pow_lt_pow_right (by decide) (by decide))
  | .list xs, z => showableAll_le hB (xs := xs) z
  | .tuple xs, z => showableAll_le hB (xs := xs) z
  | .dict kvs, z => showableKv_le hB (kvs := kvs) z
  | .none, _ => rfl
  | .bool _, _ => rfl
  | .str _, _ => rfl
theorem showableAll_le {B : Int} (hB : B ≤ Bg) : ∀ {xs : List PyData}, leDs B xs = true → PyData.showableAll xs = true
  | [], _ => rfl
  | x :: xs, z => by
    have z' := Bool.and_eq_true_iff.mp (show (leD B x && leDs B xs) = true from z)
    show (x.showable && PyData.showableAll xs) = true
    rw [showable_le hB z'.1, showableAll_le hB z'.2]; rfl
theorem showableKv_le {B : Int} (hB : B ≤ Bg) : ∀ {kvs : List (PyData × PyData)}, leDk B kvs = true → PyData.showableKv kvs = true
  | [], _ => rfl
  | (k, v) :: r, z => by
    have z' := Bool.and_eq_true_iff.mp (show (leD B k && leD B v && leDk B r) = true from z)
    have z'' := Bool.and_eq_true_iff.mp z'.1
    show (k.showable && v.showable && PyData.showableKv r) = true
    rw [showable_le hB z''.1, showable_le hB z''.2, showableKv_le hB z'.2]; rfl
end
mutual
theorem shown_le : ∀ {d : PyData}, d.showable = true → d.shown.length ≤ wtO d
  | .none, _ => by decide
  | .bool b, _ => by cases b <;> decide
  | .int i, h => int_text_len_1921 (of_decide_eq_true h)
  | .str x, _ => Nat.le_refl _
  | .list xs, h => by
    have q := shown_les (xs := xs) h
    have l := listText_len_le (PyData.shownAll xs)
    show (listText (PyData.shownAll xs)).length ≤ wtOs xs + 3
    omega
  | .tuple xs, h => by
    have q := shown_les (xs := xs) h
    have l := tupleText_len_le (PyData.shownAll xs)
    show (tupleText (PyData.shownAll xs)).length ≤ wtOs xs + 3
    omega
  | .dict kvs, h => by
    have q := shown_lek (kvs := kvs) h
    have l := dictText_len_le (PyData.shownKv kvs)
    show (dictText (PyData.shownKv kvs)).length ≤ wtOk kvs + 3
    omega
theorem shown_les : ∀ {xs : List PyData}, PyData.showableAll xs = true → ((PyData.shownAll xs).map (·.length)).sum + 2 * (PyData.shownAll xs).length ≤ wtOs xs
  | [], _ => by decide
  | x :: xs, h => by
    have h' : (x.showable && PyData.showableAll xs) = true := h
    rw [Bool.and_eq_true] at h'
    have q1 := shown_le (d := x) h'.1
    have q2 := shown_les (xs := xs) h'.2
    show (((x.shown :: PyData.shownAll xs).map (·.length)).sum + 2 * (x.shown :: PyData.shownAll xs).length) ≤ wtO x + 2 + wtOs xs
    rw [List.map_cons, List.sum_cons, List.length_cons]
    omega
theorem shown_lek : ∀ {kvs : List (PyData × PyData)}, PyData.showableKv kvs = true → ((PyData.shownKv kvs).map (·.length)).sum + 2 * (PyData.shownKv kvs).length ≤ wtOk kvs
  | [], _ => by decide
  | (k, v) :: r, h => by
    have h' : (k.showable && v.showable && PyData.showableKv r) = true := h
    rw [Bool.and_eq_true, Bool.and_eq_true] at h'
    have q1 := shown_le (d := k) h'.1.1
    have q2 := shown_le (d := v) h'.1.2
    have q3 := shown_lek (kvs := r) h'.2
    have e : (k.shown ++ ": " ++ v.shown).length = k.shown.length + 2 + v.shown.length := by
      rw [strLen_append, strLen_append]; rfl
    show ((((k.shown ++ ": " ++ v.shown) :: PyData.shownKv r).map (·.length)).sum + 2 * ((k.shown ++ ": " ++ v.shown) :: PyData.shownKv r).length) ≤ wtO k + wtO v + 4 + wtOk r
    rw [List.map_cons, List.sum_cons, List.length_cons, e]
    omega
end

structure GdS (n k w : Nat) (ds : List PyData) : Prop where
  le : leDs (10 ^ 30 + n) ds = true
  dp : PyData.depthAll ds ≤ k
  wt : wtOs ds ≤ w
structure GdD (n k w : Nat) (d : PyData) : Prop where
  le : leD (10 ^ 30 + n) d = true
  dp : d.depth ≤ k
  wt : wtO d ≤ w
theorem leDs_append {B : Int} {a b : List PyData} (ha : leDs B a = true) (hb : leDs B b = true) : leDs B (a ++ b) = true := leDs_iff.mpr fun x hx => (List.mem_append.mp hx).elim (leDs_iff.mp ha x) (leDs_iff.mp hb x)
theorem depthAll_le {k : Nat} : ∀ {xs : List PyData}, PyData.depthAll xs ≤ k ↔ ∀ x ∈ xs, x.depth ≤ k
  | [] => by simp [PyData.depthAll]
  | x :: xs => by
    show max x.depth (PyData.depthAll xs) ≤ k ↔ _
    rw [Nat.max_le, depthAll_le (xs := xs)]
    simp
theorem GdS.append {n k w w' : Nat} {a b : List PyData} (ha : GdS n k w a) (hb : GdS n k w' b) : GdS n k (w + w') (a ++ b) :=
  ⟨leDs_append ha.le hb.le, depthAll_le.mpr fun x hx => (List.mem_append.mp hx).elim (depthAll_le.mp ha.dp x) (depthAll_le.mp hb.dp x), by rw [wtOs_append]; have := ha.wt; have := hb.wt; omega⟩
theorem GdS.sub {n k w : Nat} {a b : List PyData} (ha : GdS n k w a) (h : ∀ x ∈ b, x ∈ a) (hw : wtOs b ≤ wtOs a) : GdS n k w b :=
  ⟨leDs_iff.mpr fun x hx => leDs_iff.mp ha.le x (h x hx), depthAll_le.mpr fun x hx => depthAll_le.mp ha.dp x (h x hx), Nat.le_trans hw ha.wt⟩
theorem GdD.one {n k w : Nat} {d : PyData} (h : GdD n k w d) : GdS n k (w + 2) [d] := ⟨by show (leD _ d && true) = true; rw [h.le]; rfl, by show max d.depth 0 ≤ k; have := h.dp; omega, by show wtO d + 2 + 0 ≤ w + 2; have := h.wt; omega⟩
theorem GdS.tup {n k w : Nat} {ds : List PyData} (h : GdS n k w ds) : GdD n (k + 1) (w + 3) (.tuple ds) := ⟨h.le, Nat.succ_le_succ h.dp, Nat.add_le_add_right h.wt 3⟩
theorem GdS.lst {n k w : Nat} {ds : List PyData} (h : GdS n k w ds) : GdD n (k + 1) (w + 3) (.list ds) := ⟨h.le, Nat.succ_le_succ h.dp, Nat.add_le_add_right h.wt 3⟩
theorem GdS.mono {n n' k k' w w' : Nat} {ds : List PyData} (h : GdS n k w ds) (h1 : n ≤ n') (h2 : k ≤ k') (h3 : w ≤ w') : GdS n' k' w' ds := ⟨leDs_mono (by omega) h.le, Nat.le_trans h.dp h2, Nat.le_trans h.wt h3⟩
theorem GdD.mono {n n' k k' w w' : Nat} {d : PyData} (h : GdD n k w d) (h1 : n ≤ n') (h2 : k ≤ k') (h3 : w ≤ w') : GdD n' k' w' d := ⟨leD_mono (by omega) h.le, Nat.le_trans h.dp h2, Nat.le_trans h.wt h3⟩
theorem Bg_le {n : Nat} (h : n ≤ 1000000) : (10 : Int) ^ 30 + n ≤ Bg := by
  have h1 : (10 : Int) ^ 30 + 1000000 ≤ Bg := by decide +kernel
  omega
theorem GdD.shows {n k w : Nat} {d : PyData} (h : GdD n k w d) (hn : n ≤ 1000000) (hk : k ≤ 60) (hw : w ≤ 1000000) : d.showable = true ∧ d.depth ≤ 60 ∧ d.shown.length ≤ sizeLine := by
  have s := showable_le (Bg_le hn) h.le
  refine ⟨s, Nat.le_trans h.dp hk, ?_⟩
  have := shown_le s
  have := h.wt
  have : (1000000 : Nat) ≤ sizeLine := by decide
  omega
def cutD (xs : List PyData) (lo hi : Option Int) : List PyData := (xs.drop (HT.sIx xs.length 0 lo)).take (HT.sIx xs.length xs.length hi - HT.sIx xs.length 0 lo)
theorem Ods.cut {K : PySem.W.Frag} {m : List Addr} {H : Hp} {xs : List V} {ds : List PyData} {lo hi : Option Int} (h : Ods K m H xs ds) : Ods K m H (cutV xs lo hi) (cutD ds lo hi) := by
  unfold cutV cutD
  rw [h.length]
  exact (h.drop _).take _
theorem GdS.cut {n k w : Nat} {ds : List PyData} {lo hi : Option Int} (h : GdS n k w ds) : GdS n k w (cutD ds lo hi) := by
  unfold cutD
  exact h.sub (fun x hx => List.mem_of_mem_drop (List.mem_of_mem_take hx)) (Nat.le_trans (wtOs_take _) (wtOs_drop _))
theorem num_gd {i : Int} {n : Nat} (h1 : -(10 ^ 30) - n ≤ i) (h2 : i ≤ 10 ^ 30 + n) : GdD n 0 1921 (.int i) := ⟨by show (decide (-(10 ^ 30 + (n : Int)) ≤ i) && decide (i ≤ 10 ^ 30 + (n : Int))) = true; rw [decide_eq_true (by omega), decide_eq_true h2]; rfl, Nat.le_refl _, Nat.le_refl _⟩
end L3
namespace L3
open PySem PySem.Spec PyProof.Rows L2
section
variable {K : PySem.W.Frag} {m : List Addr} {H : Hp} {x : V}
theorem Od.inv_lst {ds : List PyData} (h : Od K m H x (.list ds)) : ∃ a xs, x = .ref a ∧ H a = some (.lst xs) ∧ a ∉ m ∧ a ≠ sysModules ∧ Ods K m H xs ds := by
  cases h with
  | lst h1 h2 h3 h4 => exact ⟨_, _, rfl, h1, h2, h3, h4⟩
theorem Od.inv_tup {ds : List PyData} (h : Od K m H x (.tuple ds)) : ∃ a xs, x = .ref a ∧ SqT K H a xs ∧ Ods K m H xs ds := by
  cases h with
  | tup h1 h2 => exact ⟨_, _, rfl, h1, h2⟩
theorem Od.inv_int {i : Int} (h : Od K m H x (.int i)) : x = .int i := by cases h; rfl
theorem Ods.inv1 {xs : List V} {d : PyData} (h : Ods K m H xs [d]) : ∃ x, xs = [x] ∧ Od K m H x d := by
  cases h with
  | cons h t => cases t; exact ⟨_, rfl, h⟩
theorem pot_ne {a : Addr} (pp : Pot H a) : ∀ b ∈ [a], H b ≠ none := fun b hb z => by
  obtain ⟨u0, u1, hu, _⟩ := pp
  rw [List.mem_singleton.mp hb, hu] at z; cases z
end
end L3
namespace L3
open PySem PySem.Spec PyProof.Rows L2
end L3

namespace L3
open PySem PySem.Spec PyProof.Rows L2
mutual
def lvs : PyData → List PyData
  | .tuple xs => (match lvsAll xs with | [a, b] => a ++ b | _ => [.none])
  | .none => [.none]
  | .bool b => [.bool b]
  | .int i => [.int i]
  | .str x => [.str x]
  | .list xs => [.list xs]
  | .dict xs => [.dict xs]
def lvsAll : List PyData → List (List PyData)
  | [] => []
  | x :: xs => lvs x :: lvsAll xs
end
theorem lvs_pair {a b : PyData} : lvs (.tuple [a, b]) = lvs a ++ lvs b := rfl
theorem lvs_ne {ds : List PyData} (h : ds.length ≠ 2) : lvs (.tuple ds) = [.none] := by
  match ds, h with
  | [], _ => rfl
  | [_], _ => rfl
  | [_, _], h => exact absurd rfl h
  | _ :: _ :: _ :: _, _ => rfl
theorem lvs_nt {d : PyData} (h : tupD d = false) : lvs d = [d] := by
  cases d with
  | tuple _ => cases h
  | _ => rfl
def runL : List PyData → Nat → Option Nat
  | [], r => some r
  | .int i :: ls, r => if i = r then runL ls (r + 1) else none
  | _ :: _, _ => none
def treeP (d : PyData) (n : Nat) : Bool := decide (runL (lvs d) 0 = some n)
def stk (ds : List PyData) : List PyData := (ds.reverse.map lvs).flatten
theorem stk_snoc {ds : List PyData} {d : PyData} : stk (ds ++ [d]) = lvs d ++ stk ds := by
  unfold stk
  rw [List.reverse_append]; rfl
theorem runL_bad {d : PyData} {ls : List PyData} {r : Nat} (h : wholeD d = false) : runL (d :: ls) r = none := by
  cases d with
  | int _ => cases h
  | _ => rfl
theorem Ods.snocE {K : PySem.W.Frag} {m : List Addr} {H : Hp} {ys : List V} {y : V} {ds : List PyData} (h : Ods K m H (ys ++ [y]) ds) : ∃ es e, ds = es ++ [e] ∧ Ods K m H ys es ∧ Od K m H y e := by
  induction ys generalizing ds with
  | nil =>
    cases h with
    | cons h t => cases t; exact ⟨[], _, rfl, .nil, h⟩
  | cons a r ih =>
    cases h with
    | cons h t =>
      obtain ⟨es, e, rfl, h1, h2⟩ := ih t
      exact ⟨_ :: es, e, rfl, .cons h h1, h2⟩
theorem wtOs_snoc {ds : List PyData} {d : PyData} : wtOs (ds ++ [d]) = wtOs ds + (wtO d + 2) := by
  rw [wtOs_append]; rfl
theorem wtOs_len : ∀ {ds : List PyData}, 2 * ds.length ≤ wtOs ds
  | [] => Nat.zero_le _
  | d :: ds => by
    have := wtOs_len (ds := ds)
    show 2 * (ds.length + 1) ≤ wtO d + 2 + wtOs ds
    omega
theorem smallM {n : Nat} (h : n ≤ 1000000) : n < sizeLine := Nat.lt_of_le_of_lt h (by decide)
def sp_is_treeO (K : PySem.W.Frag) : Sp := sp2 fun x y H Q => ∃ (d : PyData) (m : List Addr) (n : Nat), Od K m H x d ∧ y = .int n ∧ 1 ≤ n ∧ n ≤ 40 ∧ wtO d ≤ 1000000 ∧ ∀ H', Grow [] H H' → Q (.bl (treeP d n)) H'
def sp_leaves25 (N : Nat) (K : PySem.W.Frag) : Sp := sp1 fun x H Q => ∃ (d : PyData) (m : List Addr), Od K m H x d ∧ d.depth < N ∧ wtO d ≤ 1000000 ∧ ∀ l xs H', H l = none → Grow [] H H' → H' l = some (.lst xs) → Ods K m H' xs (lvs d) → Q (.ref l) H'
theorem vac_leaves25 {K : PySem.W.Frag} : ∀ vs H Q E, ¬ sp_leaves25 0 K vs H Q E := by
  rintro vs H Q E ⟨x, _, d, m, _, h, _⟩
  exact absurd h (Nat.not_lt_zero _)
mutual
theorem lvs_len : ∀ {d : PyData}, (lvs d).length ≤ wtO d + 1
  | .tuple xs => by
    have h := lvsAll_len (xs := xs)
    match xs, h with
    | [], _ => show 1 ≤ _; decide
    | [a], _ => show 1 ≤ _; exact Nat.le_add_left _ _
    | [a, b], h =>
      rw [lvs_pair, List.length_append]
      have h' : (lvs a).length + ((lvs b).length + 0) ≤ wtOs [a, b] := h
      show _ ≤ wtOs [a, b] + 3 + 1
      omega
    | _ :: _ :: _ :: _, _ => show 1 ≤ _; exact Nat.le_add_left _ _
  | .none => by decide
  | .bool _ => by show 1 ≤ 5 + 1; decide
  | .int _ => by show 1 ≤ 1921 + 1; decide
  | .str x => by show 1 ≤ _ + 1; omega
  | .list xs => by show 1 ≤ _ + 1; omega
  | .dict xs => by show 1 ≤ _ + 1; omega
theorem lvsAll_len : ∀ {xs : List PyData}, ((lvsAll xs).map (·.length)).sum ≤ wtOs xs
  | [] => Nat.le_refl _
  | x :: xs => by
    have h1 := lvs_len (d := x)
    have h2 := lvsAll_len (xs := xs)
    show (lvs x).length + ((lvsAll xs).map (·.length)).sum ≤ wtO x + 2 + wtOs xs
    omega
end
theorem runL_iff : ∀ {ls : List PyData} {r n : Nat}, runL ls r = some n ↔ ls = (List.range' r ls.length).map (fun i : Nat => PyData.int i) ∧ r + ls.length = n
  | [], r, n => by
    show some r = some n ↔ _
    simp
  | .int i :: ls, r, n => by
    show (if i = (r : Int) then runL ls (r + 1) else none) = some n ↔ _
    by_cases h : i = r
    · subst h
      rw [if_pos rfl, runL_iff (ls := ls)]
      show _ ↔ PyData.int r :: ls = (List.range' r (ls.length + 1)).map _ ∧ r + (ls.length + 1) = n
      rw [List.range'_succ, List.map_cons]
      constructor
      · rintro ⟨a, b⟩; exact ⟨by rw [← a], by omega⟩
      · rintro ⟨a, b⟩; exact ⟨(List.cons.inj a).2, by omega⟩
    · rw [if_neg h]
      constructor
      · intro z; cases z
      · rintro ⟨a, _⟩
        exfalso
        have a' : PyData.int i :: ls = (List.range' r (ls.length + 1)).map _ := a
        rw [List.range'_succ, List.map_cons] at a'
        have := (List.cons.inj a').1
        injection this with e
        exact h e
  | .none :: ls, r, n => runL_no rfl
  | .bool _ :: ls, r, n => runL_no rfl
  | .str _ :: ls, r, n => runL_no rfl
  | .list _ :: ls, r, n => runL_no rfl
  | .tuple _ :: ls, r, n => runL_no rfl
  | .dict _ :: ls, r, n => runL_no rfl
where
  runL_no {d : PyData} {ls : List PyData} {r n : Nat} (h : wholeD d = false) : runL (d :: ls) r = some n ↔ d :: ls = (List.range' r (d :: ls).length).map (fun i : Nat => PyData.int i) ∧ r + (d :: ls).length = n := by
    rw [runL_bad h]
    constructor
    · intro z; cases z
    · rintro ⟨a, _⟩
      exfalso
      have a' : d :: ls = (List.range' r (ls.length + 1)).map _ := a
      rw [List.range'_succ, List.map_cons] at a'
      rw [(List.cons.inj a').1] at h
      cases h
theorem allWhole : ∀ {ls : List PyData}, (ls.all wholeD) = true → ∃ is : List Int, ls = is.map PyData.int
  | [], _ => ⟨[], rfl⟩
  | d :: ls, h => by
    obtain ⟨h1, h2⟩ := Bool.and_eq_true_iff.mp (show (wholeD d && ls.all wholeD) = true from h)
    obtain ⟨is, rfl⟩ := allWhole h2
    cases d with
    | int i => exact ⟨i :: is, rfl⟩
    | _ => cases h1
theorem notWhole : ∀ {ls : List PyData} {r n : Nat}, (ls.all wholeD) = false → runL ls r ≠ some n
  | [], _, _, h => by cases h
  | d :: ls, r, n, h => by
    cases hw : wholeD d with
    | false => rw [runL_bad hw]; exact (fun z => nomatch z)
    | true =>
      have h2 : ls.all wholeD = false := by
        have : (wholeD d && ls.all wholeD) = false := h
        rw [hw] at this; exact this
      cases d with
      | int i =>
        show (if i = (r : Int) then runL ls (r + 1) else none) ≠ some n
        split
        · exact notWhole h2
        · exact (fun z => nomatch z)
      | _ => cases hw

def sp_lis_tree25 (K : PySem.W.Frag) : Sp := sp2 fun x y H Q => ∃ (d : PyData) (m : List Addr) (n : Nat), Od K m H x d ∧ y = .int n ∧ 1 ≤ n ∧ n ≤ 40 ∧ d.depth < 62 ∧ wtO d ≤ 1000000 ∧ ∀ H', Grow [] H H' → Q (.bl (treeP d n)) H'
def sp_other25 (K : PySem.W.Frag) : Sp := sp2 fun x y H Q => ∃ (a : Addr) (d : PyData) (n k w : Nat), x = .ref a ∧ Pot H a ∧ Od K [a] H y d ∧ GdD n k w d ∧ n ≤ 1000 ∧ ∀ z d' H', Grow [a] H H' → Pot H' a → Od K [a] H' z d' → GdD (n + 1) (k + 3) (w + 30000) d' → Q z H'
def sp_bent25 (N : Nat) (K : PySem.W.Frag) : Sp := sp3 fun x y z H Q => ∃ (a : Addr) (d : PyData) (n k w dp : Nat), x = .ref a ∧ z = .int dp ∧ Pot H a ∧ Od K [a] H y d ∧ GdD n k w d ∧ n ≤ 1000 ∧ dp < N ∧ dp ≤ 40 ∧ w ≤ 400000 ∧ ∀ z d' H', Grow [a] H H' → Pot H' a → Od K [a] H' z d' → GdD (n + 1) (k + 3) (2 * w + 40000) d' → Q z H'
theorem vac_bent25 {K : PySem.W.Frag} : ∀ vs H Q E, ¬ sp_bent25 0 K vs H Q E := by
  rintro vs H Q E ⟨x, y, z, _, a, d, n, k, w, dp, _, _, _, _, _, _, h, _⟩
  exact absurd h (Nat.not_lt_zero _)
def exT (i j : Int) : Tr → Tr
  | .leaf n => .leaf (if n = i then j else if n = j then i else n)
  | .node l r => .node (exT i j l) (exT i j r)
def sp_exch25 (N : Nat) (K : PySem.W.Frag) : Sp := sp3 fun x y z H Q => ∃ (t : Tr) (m : List Addr) (i j : Int), TreeAt K H x t ∧ y = .int i ∧ z = .int j ∧ t.ht < N ∧ ∀ z H', Grow [] H H' → TreeAt K H' z (exT i j t) → Q z H'
theorem vac_exch25 {K : PySem.W.Frag} : ∀ vs H Q E, ¬ sp_exch25 0 K vs H Q E := by
  rintro vs H Q E ⟨x, y, z, _, t, m, i, j, _, _, _, h, _⟩
  exact absurd h (Nat.not_lt_zero _)
def trW : Nat → Int → Bool
  | 0, n => decide (n = 0)
  | 1, n => decide (n = 1)
  | _, n => decide (n = 0) || decide (n = 1)
def btD (c : Nat) : Tr → PyData
  | .leaf n => if trW c n = true then .bool (decide (n = 1)) else .int n
  | .node l r => .tuple [btD c l, btD c r]
def sp_bytr25 (N : Nat) (K : PySem.W.Frag) : Sp := sp2 fun x y H Q => ∃ (t : Tr) (m : List Addr) (c : Nat), TreeAt K H x t ∧ y = .int c ∧ c < 3 ∧ t.ht < N ∧ ∀ z H', Grow [] H H' → Od K m H' z (btD c t) → Q z H'
theorem vac_bytr25 {K : PySem.W.Frag} : ∀ vs H Q E, ¬ sp_bytr25 0 K vs H Q E := by
  rintro vs H Q E ⟨x, y, _, t, m, c, _, _, _, h, _⟩
  exact absurd h (Nat.not_lt_zero _)
def sp_right25 (K : PySem.W.Frag) : Sp := sp1 fun x H Q => ∃ a, x = .ref a ∧ Pot H a ∧ ∀ H', Grow [a] H H' → Pot H' a → Q (.bl true) H'

theorem tree_od {K : PySem.W.Frag} {m : List Addr} {H : Hp} : ∀ {t : Tr} {x : V}, TreeAt K H x t → Od K m H x (trD t)
  | .leaf n, x, h => by
    cases (show x = V.int n from h)
    exact .int n
  | .node l r, x, h => by
    obtain ⟨a, xl, xr, e, hs, h1, h2⟩ := h
    subst e
    exact .tup hs (.cons (tree_od h1) (.cons (tree_od h2) .nil))

theorem ods_ints {K : PySem.W.Frag} {m : List Addr} {H : Hp} : ∀ {is : List Int} {xs : List V}, Ods K m H xs (is.map PyData.int) → xs = is.map V.int
  | [], _, .nil => rfl
  | a :: r, _, .cons h t => by rw [h.inv_int, ods_ints t]; rfl

def okC (d : PyData) : Bool := leD (10 ^ 30) d && decide (d.depth ≤ 2) && decide (wtO d ≤ 20000)
theorem okC_gd {d : PyData} (h : okC d = true) (n k w : Nat) : GdD (n + 1) (k + 3) (w + 30000) d := by
  unfold okC at h
  simp only [Bool.and_eq_true, decide_eq_true_eq] at h
  exact ⟨leD_mono (by omega) h.1.1, by omega, by omega⟩
def L25a : List PyData := [.none, .bool true, .bool false, .str "0", .str "", .tuple [], .tuple [.int 0], .list [], .dict [], .int (-1), .int 0, .int 1, .int 15, .int 16, .int 17, .int (10 ^ (29 : Int).toNat), .int (-(10 ^ (29 : Int).toNat)), .tuple [.int 0, .none, .none]]
theorem L25a_ok : L25a.all okC = true := by decide +kernel
def L25b : List PyData := [.tuple [.int 1, .int 2, .int 2], .tuple [.int 0, .int 2, .int 2], .tuple [.int 0, .int 3, .int 2], .tuple [.int 0, .int 0, .tuple [.int 0, .none, .none]]]
theorem L25b_ok : L25b.all okC = true := by decide +kernel
theorem ofStr_lt {s : String} {c : Nat} (h : c ∈ (Str.ofString s).cps.toList) : c < 16 ^ 8 := by
  have h' : c ∈ cpsOfBytes 0 0 s.toByteArray.data.toList := by
    unfold Str.ofString at h
    simpa using h
  rw [cpsOfBytes_string] at h'
  obtain ⟨a, _, rfl⟩ := List.mem_map.mp h'
  exact a.val.toNat_lt
theorem digits_repr {i : Int} (h : i.natAbs.log2 < 1920) : wtO (.str (toString i)) ≤ 20000 := by
  have h1 := int_text_len_1921 h
  have h2 : (reprText ((toString i : String) : Str)).length ≤ 10 * ((toString i : String) : Str).length + 2 := PySem.StrLaws.reprText_len _ fun c hc => ofStr_lt hc
  show (reprText ((toString i : String) : Str)).length ≤ 20000
  omega

theorem wt_split {ds : List PyData} (t : Nat) : wtOs (ds.take t) + wtOs (ds.drop t) = wtOs ds := by rw [← wtOs_append, List.take_append_drop]
theorem GdS.of {n : Nat} {ds : List PyData} (h : leDs (10 ^ 30 + n) ds = true) : GdS n (PyData.depthAll ds) (wtOs ds) ds := ⟨h, Nat.le_refl _, Nat.le_refl _⟩
theorem GdS.exact {n k w : Nat} {ds : List PyData} (h : GdS n k w ds) : GdS n k (wtOs ds) ds := ⟨h.le, h.dp, Nat.le_refl _⟩
theorem GdS.take {n k w : Nat} {ds : List PyData} (h : GdS n k w ds) (t : Nat) : GdS n k (wtOs (ds.take t)) (ds.take t) := (h.sub (fun x hx => List.mem_of_mem_take hx) (wtOs_take t)).exact
theorem GdS.drop {n k w : Nat} {ds : List PyData} (h : GdS n k w ds) (t : Nat) : GdS n k (wtOs (ds.drop t)) (ds.drop t) := (h.sub (fun x hx => List.mem_of_mem_drop hx) (wtOs_drop t)).exact
theorem wt_drop_succ {ds : List PyData} {t : Nat} {e : PyData} (h : ds[t]? = some e) : wtOs (ds.drop t) = wtO e + 2 + wtOs (ds.drop (t + 1)) := by
  obtain ⟨ht, rfl⟩ := List.getElem?_eq_some_iff.mp h
  rw [List.drop_eq_getElem_cons ht]; rfl

def trB : Tr → Prop
  | .leaf n => 0 ≤ n ∧ n ≤ 1000
  | .node l r => trB l ∧ trB r
theorem ordd_bd : ∀ {t : Tr} {f : Int}, Ordd t f → 0 ≤ f → f + t.count ≤ 1000 → trB t
  | .leaf n, f, h, h0, h1 => by
    cases (show n = f from h)
    have h2 : n + 1 ≤ 1000 := h1
    exact ⟨h0, by omega⟩
  | .node l r, f, h, h0, h1 => by
    have h2 : f + (l.count + r.count) ≤ 1000 := h1
    have c1 := count_pos l
    have c2 := count_pos r
    exact ⟨ordd_bd h.1 h0 (by omega), ordd_bd h.2 (by omega) (by omega)⟩
theorem exT_bd {i j : Int} (hi : 0 ≤ i ∧ i ≤ 1000) (hj : 0 ≤ j ∧ j ≤ 1000) : ∀ {t : Tr}, trB t → trB (exT i j t)
  | .leaf n, h => by
    show 0 ≤ (if n = i then j else if n = j then i else n) ∧ (if n = i then j else if n = j then i else n) ≤ 1000
    split
    · exact hj
    · split
      · exact hi
      · exact h
  | .node l r, h => ⟨exT_bd hi hj h.1, exT_bd hi hj h.2⟩
theorem exT_wt {i j : Int} : ∀ {t : Tr}, (exT i j t).wt = t.wt ∧ (exT i j t).ht = t.ht
  | .leaf n => ⟨rfl, rfl⟩
  | .node l r => by
    obtain ⟨a, b⟩ := exT_wt (i := i) (j := j) (t := l)
    obtain ⟨c, d⟩ := exT_wt (i := i) (j := j) (t := r)
    exact ⟨by show (exT i j l).wt + (exT i j r).wt + 1 = _; rw [a, c]; rfl, by show max (exT i j l).ht (exT i j r).ht + 1 = _; rw [b, d]; rfl⟩
theorem tr_gd : ∀ {t : Tr}, trB t → GdD 0 t.ht (1928 * t.wt) (trD t)
  | .leaf n, h => (num_gd (n := 0) (by have := h.1; omega) (by have := h.2; omega)).mono (Nat.le_refl _) (Nat.le_refl _) (by show 1921 ≤ 1928 * 1; decide)
  | .node l r, h => by
    have a := (tr_gd h.1).mono (Nat.le_refl _) (show l.ht ≤ max l.ht r.ht by omega) (Nat.le_refl _)
    have b := (tr_gd h.2).mono (Nat.le_refl _) (show r.ht ≤ max l.ht r.ht by omega) (Nat.le_refl _)
    exact ((a.one.append b.one).tup).mono (Nat.le_refl _) (Nat.le_refl _) (by show 1928 * l.wt + 2 + (1928 * r.wt + 2) + 3 ≤ 1928 * (l.wt + r.wt + 1); omega)
theorem bt_gd {c : Nat} : ∀ {t : Tr}, trB t → GdD 0 t.ht (1928 * t.wt) (btD c t)
  | .leaf n, h => by
    unfold btD
    split
    · exact ⟨rfl, Nat.le_refl _, by show 5 ≤ 1928 * 1; decide⟩
    · exact tr_gd (t := .leaf n) h
  | .node l r, h => by
    have a := (bt_gd (c := c) h.1).mono (Nat.le_refl _) (show l.ht ≤ max l.ht r.ht by omega) (Nat.le_refl _)
    have b := (bt_gd (c := c) h.2).mono (Nat.le_refl _) (show r.ht ≤ max l.ht r.ht by omega) (Nat.le_refl _)
    exact ((a.one.append b.one).tup).mono (Nat.le_refl _) (Nat.le_refl _) (by show 1928 * l.wt + 2 + (1928 * r.wt + 2) + 3 ≤ 1928 * (l.wt + r.wt + 1); omega)
theorem run_tree : ∀ {t : Tr} {f : Nat} {ls : List PyData}, Ordd t f → runL (lvs (trD t) ++ ls) f = runL ls (f + t.count.toNat)
  | .leaf n, f, ls, h => by
    cases (show n = (f : Int) from h)
    show (if (f : Int) = (f : Int) then runL ls (f + 1) else none) = _
    rw [if_pos rfl]; rfl
  | .node l r, f, ls, h => by
    have c1 := count_pos l
    have c2 := count_pos r
    show runL (lvs (.tuple [trD l, trD r]) ++ ls) f = runL ls (f + (l.count + r.count).toNat)
    rw [lvs_pair, List.append_assoc, run_tree h.1, run_tree (f := f + l.count.toNat) (by rw [show ((f + l.count.toNat : Nat) : Int) = (f : Int) + l.count by omega]; exact h.2)]
    congr 1
    omega
theorem treeP_tree {t : Tr} {m n : Nat} (h : Ordd t 0) (hc : t.count = m) : treeP (trD t) n = decide (m = n) := by
  have := run_tree (t := t) (f := 0) (ls := []) h
  rw [List.append_nil] at this
  unfold treeP
  rw [this, hc]
  show decide (some (0 + (m : Int).toNat) = some n) = _
  by_cases z : m = n
  · rw [decide_eq_true z, decide_eq_true (by rw [← z]; congr 1; omega)]
  · rw [decide_eq_false z, decide_eq_false fun w => z (by have := Option.some.inj w; omega)]
end L3

namespace My
open PySem PySem.Spec PyProof.Rows L2 L3
def top (i : Nat) : Stmt := PySem.Challenge.pw_joinedasks_k25_trees_known.main.body.getD i (.Pass ⟨0, 0, 0, 0⟩)
section
variable {P : Program} {w : World} {K : PySem.W.Frag} {mg : Str → Option Value} {base : Heap}
theorem sc__law_by_truths : FnScope ["_law_thing", "_law_which"] ["_law_thing", "_law_which"] (defScope (top 20)) := ⟨rfl, rfl, rfl, by decide +kernel, rfl, by decide +kernel, by decide +kernel⟩
set_option maxHeartbeats 0 in
theorem ok__law_by_truths {n : Nat} {f : Addr} {fd : FuncData} (F : Fun K "_law_by_truths" "_law_by_truths" (top 20) f fd) (B : Blt mg) {N : Nat} (c__law_by_truths : Callee P w K mg base n "_law_by_truths" ["_law_thing", "_law_which"] (sp_bytr25 N K))    :
    FnOk P w K mg base CX0 (n + 1) f fd ["_law_thing", "_law_which"] (sp_bytr25 (N + 1) K) := by
  refine F.ok sc__law_by_truths sp2_len (fun cdv A outer s H vs Q E hr h => ?_)
  obtain ⟨x, y, rfl, t, m, c, ht, rfl, c3, hN, q⟩ := h
  refine ⟨_, (pss_cons (ps_if (pt_val (pe_callB (call_isiO (K := K) rfl) rfl B.isinstance b_isinstance (pa_cons (pv 0) (pa_cons (pe_tyn rfl B.tuple b_tuple) pa_nil)))) (pss_one (ps_ret (pe_callTy call_tuple_of rfl B.tuple b_tuple (pa_cons (pe_compT (CSc.of (N' := ["_law_part", "_law_which"]) (sub := [none, some 1]) (defScope (top 20)) ["_law_thing", "_law_which"] rfl rfl (by decide +kernel) rfl) rfl (pi_tup (pv 0)) (fun _ _ _ _ _ _ => pg_name (i := 0) (show (["_law_part", "_law_which"] : List Str).Nodup by decide +kernel) rfl (Or.inl rfl)) (fun _ _ _ _ _ _ => pifs_nil) (fun _ _ _ _ _ _ => (pe_callC c__law_by_truths hr rfl (pa_cons (pv 0) (pa_cons (pv 1) pa_nil))))) pa_nil)))) pss_nil) (pss_one (ps_ret (pe_ix ix_list (pe_lst (pa_cons (pv 0) (pa_cons (pe_cmpR op_eq (pv 0) pe_int (nomark _)) pa_nil))) (pe_callTy call_int1 rfl B.int b_int (pa_cons (pe_cmpR op_in_seq (pv 0) (pe_ix ix_list (pe_lst (pa_cons (pe_lst (pa_cons pe_int pa_nil)) (pa_cons (pe_lst (pa_cons pe_int pa_nil)) (pa_cons (pe_lst (pa_cons pe_int (pa_cons pe_int pa_nil))) pa_nil)))) (pv 1) (fun _ _ => rfl)) (by with_unfolding_all rfl)) pa_nil)) (fun _ _ => rfl))))), ?_⟩
  have ob : Od K m H x (trD t) := tree_od ht
  refine ⟨_, rfl, _, _, m, _, _, rfl, ob, kit_tup, _, rfl, ?_⟩
  cases t with
  | leaf v =>
    cases (show x = V.int v from ht)
    refine iteF ⟨_, rfl, _, rfl, rfl, szl rfl, fun l hl => ⟨_, rfl, szl rfl, fun l1 h1 => ⟨szl rfl, fun l2 h2 => ⟨szl rfl, fun l3 h3 => ⟨szl rfl, fun l4 h4 => ?_⟩⟩⟩⟩⟩
    have d0 := Grow.new (m := []) hl (.lst [V.int v, V.bl (decide (V.int v = V.int 1))])
    have d1 := Grow.new (m := []) h1 (.lst [V.int 0])
    have d2 := Grow.new (m := []) h2 (.lst [V.int 1])
    have d3 := Grow.new (m := []) h3 (.lst [V.int 0, V.int 1])
    have d4 := Grow.new (m := []) h4 (.lst [V.ref l1, V.ref l2, V.ref l3])
    have e0 := (d1.trans (d2.trans (d3.trans d4))).keep _ _ (by simp) (show upd H l (.lst [V.int v, V.bl (decide (V.int v = V.int 1))]) l = _ from upd_same)
    have e1 := (d2.trans (d3.trans d4)).keep _ _ (by simp) (show upd (upd H l (.lst [V.int v, V.bl (decide (V.int v = V.int 1))])) l1 (.lst [V.int 0]) l1 = _ from upd_same)
    have e2 := (d3.trans d4).keep _ _ (by simp) (show upd (upd (upd H l (.lst [V.int v, V.bl (decide (V.int v = V.int 1))])) l1 (.lst [V.int 0])) l2 (.lst [V.int 1]) l2 = _ from upd_same)
    have e3 := d4.keep _ _ (by simp) (show upd (upd (upd (upd H l (.lst [V.int v, V.bl (decide (V.int v = V.int 1))])) l1 (.lst [V.int 0])) l2 (.lst [V.int 1])) l3 (.lst [V.int 0, V.int 1]) l3 = _ from upd_same)
    have e4 : upd (upd (upd (upd (upd H l (.lst [V.int v, V.bl (decide (V.int v = V.int 1))])) l1 (.lst [V.int 0])) l2 (.lst [V.int 1])) l3 (.lst [V.int 0, V.int 1])) l4 (.lst [V.ref l1, V.ref l2, V.ref l3]) l4 = some (.lst [V.ref l1, V.ref l2, V.ref l3]) := upd_same
    have G := d0.trans (d1.trans (d2.trans (d3.trans d4)))
    generalize upd (upd (upd (upd (upd H l (.lst [V.int v, V.bl (decide (V.int v = V.int 1))])) l1 (.lst [V.int 0])) l2 (.lst [V.int 1])) l3 (.lst [V.int 0, V.int 1])) l4 (.lst [V.ref l1, V.ref l2, V.ref l3]) = H4 at e0 e1 e2 e3 e4 G ⊢
    have dI : ∀ p q : Int, decide (V.int p = V.int q) = decide (p = q) := fun p q => by
      by_cases z : p = q
      · rw [z, decide_eq_true rfl, decide_eq_true rfl]
      · rw [decide_eq_false z, decide_eq_false fun w => z (V.int.inj w)]
    have fin : ∀ b : Bool, b = trW c v → rIxL K (.ref l) (.int (if b = true then 1 else 0)) H4 Q := fun b hb => by
      have hQ := q (if b = true then .bl (decide (v = 1)) else .int v) H4 G (by
        unfold btD
        rw [← hb]
        cases b
        · exact .int v
        · exact .bl _)
      cases b
      · exact ⟨l, _, 0, _, rfl, rfl, SqL.of e0, rfl, hQ⟩
      · exact ⟨l, _, 1, _, rfl, rfl, SqL.of e0, rfl, by rw [dI]; exact hQ⟩
    have eI : ∀ p q : Int, eqV (.int p) (.int q) = decide (q = p) := fun p q => by
      show decide (p = q) = decide (q = p)
      by_cases z : p = q
      · rw [z]
      · rw [decide_eq_false z, decide_eq_false fun w => z w.symm]
    rcases (show c = 0 ∨ c = 1 ∨ c = 2 by omega) with rfl | rfl | rfl
    · exact ⟨_, rfl, l4, _, ((0 : Nat) : Int), _, rfl, rfl, SqL.of e4, rfl, l1, _, rfl, .inl (SqL.of e1), rfl, rfl, .inr ⟨_, rfl, fin _ (by show (eqV (.int 0) (.int v) || false) = _; rw [eI, Bool.or_false]; rfl)⟩⟩
    · exact ⟨_, rfl, l4, _, ((1 : Nat) : Int), _, rfl, rfl, SqL.of e4, rfl, l2, _, rfl, .inl (SqL.of e2), rfl, rfl, .inr ⟨_, rfl, fin _ (by show (eqV (.int 1) (.int v) || false) = _; rw [eI, Bool.or_false]; rfl)⟩⟩
    · exact ⟨_, rfl, l4, _, ((2 : Nat) : Int), _, rfl, rfl, SqL.of e4, rfl, l3, _, rfl, .inl (SqL.of e3), rfl, rfl, .inr ⟨_, rfl, fin _ (by show (eqV (.int 0) (.int v) || (eqV (.int 1) (.int v) || false)) = _; rw [eI, eI, Bool.or_false]; rfl)⟩⟩
  | node tl tr =>
    obtain ⟨a, xl, xr, rfl, hs, h1, h2⟩ := ht
    have hN2 : max tl.ht tr.ht + 1 < N + 1 := hN
    refine iteT ⟨_, rfl, a, rfl, ⟨_, hs⟩, ?_⟩
    refine comp_tup0 (xs := [xl, xr]) (fun n ys σ' H' => Grow [] H H' ∧ (∃ e, σ' = [e, some (.int c)]) ∧ Ods K m H' ys ([btD c tl, btD c tr].take n)) ?_ ?_ ?_ ?_
    · exact ⟨Grow.refl _ _, ⟨_, rfl⟩, .nil⟩
    · rintro n ys σ' H' _ ⟨g, _⟩
      exact g.sqT hs
    · rintro n y ys σ' H' hy ⟨g, ⟨e, rfl⟩, ha⟩
      have key : ∀ (u : Tr), TreeAt K H y u → u.ht < N → [btD c tl, btD c tr].take (n + 1) = [btD c tl, btD c tr].take n ++ [btD c u] → n < 2 → tCall (sp_bytr25 N K) [] E0 (tCons (tVar 0) (tCons (tVar 1) tNil)) [some y, some (.int c)] H' (fun z H5 => ys.length < sizeLine ∧ Grow [] H H5 ∧ (∃ e, [some y, some (V.int c)] = [e, some (.int c)]) ∧ Ods K m H5 (ys ++ [z]) ([btD c tl, btD c tr].take (n + 1))) := by
        intro u hu hh he hn2
        refine ⟨_, rfl, _, rfl, _, _, rfl, u, m, c, g.tree hu, rfl, c3, hh, fun z H5 g5 h5 => ⟨small1000 (by rw [ha.length, List.length_take]; show min n 2 ≤ 1000; omega), g.trans g5, ⟨_, rfl⟩, ?_⟩⟩
        rw [he]
        exact (ha.grow (g5.mono (by simp))).append (.cons h5 .nil)
      match n, hy with
      | 0, hy => cases Option.some.inj hy; exact key tl h1 (by omega) rfl (by decide)
      | 1, hy => cases Option.some.inj hy; exact key tr h2 (by omega) rfl (by decide)
    · rintro ys σ' H' ⟨g, _, ha⟩ l hl
      have ha' : Ods K m H' ys [btD c tl, btD c tr] := ha
      have d1 := Grow.new (m := []) hl (.lst ys)
      refine ⟨l, _, rfl, .inl ⟨SqL.of upd_same, fun l2 hl2 => ?_⟩⟩
      have d2 := Grow.new (m := []) hl2 (.tup ys)
      exact q _ _ (g.trans (d1.trans d2)) (.tup (SqT.of upd_same) (ha'.grow ((d1.trans d2).mono (by simp))))
theorem sc__law_draw : FnScope ["_law_pot_here", "_law_many", "_law_digit"] ["_law_pot_here", "_law_many"] (defScope (top 12)) := ⟨rfl, rfl, rfl, by decide +kernel, rfl, by decide +kernel, by decide +kernel⟩
set_option maxHeartbeats 0 in
theorem ok__law_draw {n : Nat} {f : Addr} {fd : FuncData} (F : Fun K "_law_draw" "_law_draw" (top 12) f fd) (B : Blt mg)     :
    FnOk P w K mg base CX0 (n + 1) f fd ["_law_pot_here", "_law_many"] (sp_draw K) := by
  refine F.ok sc__law_draw sp2_len (fun cdv A outer s H vs Q E hr h => ?_)
  obtain ⟨x, y, rfl, a, m, rfl, rfl, ⟨p0, p1, hp, h0⟩, hm, hm2, q⟩ := h
  refine ⟨_, (pss_cons (ps_if (pt_cmpR op_gt (pe_ix ix_list (pv 0) pe_int (fun _ _ => rfl)) pe_int (nomark _)) (pss_cons (ps_set (i := 2) sc__law_draw.nd rfl (Or.inl rfl) (pe_op op_mod (pe_ix ix_list (pv 0) pe_int (fun _ _ => rfl)) (pv 1))) (pss_cons (ps_asg (pe_op op_fdivL (pe_ix ix_list (pv 0) pe_int (fun _ _ => rfl)) (pv 1)) (pg_sub (pv 0) pe_int set_list)) (pss_one (ps_ret (pv 2))))) pss_nil) (pss_cons (ps_asg (pe_op op_mod (pe_op op_add (pe_op op_mulG (pe_ix ix_list (pv 0) pe_int (fun _ _ => rfl)) pe_int) pe_int) pe_int) (pg_sub (pv 0) pe_int set_list)) (pss_one (ps_ret (pe_op op_mod (pe_op op_fdivL (pe_op op_mod (pe_op op_mulG (pe_ix ix_list (pv 0) pe_int (fun _ _ => rfl)) (pe_ix ix_list (pv 0) pe_int (fun _ _ => rfl))) pe_int) pe_int) (pv 1)))))), ?_⟩
  refine ⟨_, rfl, a, _, _, _, rfl, rfl, SqL.of hp, rfl, _, _, rfl, rfl, _, rfl, ?_⟩
  refine ite2 (fun c => ?_) (fun c => ?_)
  · refine ⟨_, rfl, a, _, _, _, rfl, rfl, SqL.of hp, rfl, _, rfl, p0, m, rfl, rfl, hm, ?_⟩
    refine ⟨_, rfl, a, _, _, _, rfl, rfl, SqL.of hp, rfl, _, rfl, p0, m, rfl, rfl, ⟨hm, hm2⟩, _, rfl, a, _, 0, 0, rfl, rfl, hp, rfl, ?_⟩
    exact ⟨_, rfl, q _ _ (Int.emod_nonneg _ (by omega)) (Int.emod_lt_of_pos _ hm) (Grow.set hp (by simp) _) ⟨p0 / m, p1, upd_same, Int.ediv_nonneg h0 (by omega)⟩⟩
  · refine ⟨_, rfl, a, _, _, _, rfl, rfl, SqL.of hp, rfl, p1, 39373, rfl, rfl, mulOkR ⟨by decide, by decide⟩, _, _, rfl, rfl, _, _, rfl, rfl, (by show (0 : Int) < 2147483629; decide), _, rfl, a, _, 1, 1, rfl, rfl, hp, rfl, ?_⟩
    have b0 : 0 ≤ (p1 * 39373 + 7919) % 2147483629 := Int.emod_nonneg _ (by decide)
    have b1 : (p1 * 39373 + 7919) % 2147483629 < 2147483629 := Int.emod_lt_of_pos _ (by decide)
    refine ⟨_, rfl, a, _, _, _, rfl, rfl, SqL.of upd_same, rfl, _, rfl, a, _, _, _, rfl, rfl, SqL.of upd_same, rfl, (p1 * 39373 + 7919) % 2147483629, (p1 * 39373 + 7919) % 2147483629, rfl, rfl, mulOkR ⟨by omega, by omega⟩, _, _, rfl, rfl, (by show (0 : Int) < 2147483563; decide), _, _, rfl, rfl, ⟨by decide, by decide⟩, _, rfl, _, _, rfl, rfl, hm, ?_⟩
    exact q _ _ (Int.emod_nonneg _ (by omega)) (Int.emod_lt_of_pos _ hm) (Grow.set hp (by simp) _) ⟨p0, (p1 * 39373 + 7919) % 2147483629, upd_same, h0⟩
theorem sc_is_whole : FnScope ["thing"] ["thing"] (defScope (top 4)) := ⟨rfl, rfl, rfl, by decide +kernel, rfl, by decide +kernel, by decide +kernel⟩
set_option maxHeartbeats 0 in
theorem ok_is_whole {n : Nat} {f : Addr} {fd : FuncData} (F : Fun K "is_whole" "is_whole" (top 4) f fd) (B : Blt mg)     :
    FnOk P w K mg base CX0 (n + 1) f fd ["thing"] (sp_is_wholeO K) := by
  refine F.ok sc_is_whole sp1_len (fun cdv A outer s H vs Q E hr h => ?_)
  obtain ⟨x, rfl, d, m, hd, q⟩ := h
  refine ⟨_, (pss_one (ps_ret (pe_and (pe_callB (call_isiO (K := K) rfl) rfl B.isinstance b_isinstance (pa_cons (pv 0) (pa_cons (pe_tyn rfl B.int b_int) pa_nil))) (pe_one (pe_not (pe_callB (call_isiO (K := K) rfl) rfl B.isinstance b_isinstance (pa_cons (pv 0) (pa_cons (pe_tyn rfl B.bool b_bool) pa_nil)))))))), ?_⟩
  refine ⟨_, rfl, _, d, m, _, _, rfl, hd, kit_int, _, rfl, ?_⟩
  cases d with
  | int i => exact iteT ⟨_, rfl, _, _, m, _, _, rfl, hd, kit_bool, _, rfl, q⟩
  | bool b => exact iteT ⟨_, rfl, _, _, m, _, _, rfl, hd, kit_bool, _, rfl, q⟩
  | _ => exact iteF q
theorem sc_is_within : FnScope ["thing", "least", "greatest"] ["thing", "least", "greatest"] (defScope (top 5)) := ⟨rfl, rfl, rfl, by decide +kernel, rfl, by decide +kernel, by decide +kernel⟩
set_option maxHeartbeats 0 in
theorem ok_is_within {n : Nat} {f : Addr} {fd : FuncData} (F : Fun K "is_within" "is_within" (top 5) f fd) (B : Blt mg) (c_is_whole : Callee P w K mg base n "is_whole" ["thing"] (sp_is_wholeO K))    :
    FnOk P w K mg base CX0 (n + 1) f fd ["thing", "least", "greatest"] (sp_is_within K) := by
  refine F.ok sc_is_within sp3_len (fun cdv A outer s H vs Q E hr h => ?_)
  obtain ⟨x, y, z, rfl, i, l, u, rfl, rfl, rfl, q⟩ := h
  refine ⟨_, (pss_one (ps_ret (pe_and (pe_callC c_is_whole hr rfl (pa_cons (pv 0) pa_nil)) (pe_one (pe_chain op_le op_le (pv 1) (pv 0) (pv 2)))))), ?_⟩
  refine ⟨_, rfl, _, rfl, .int i, [], .int i, _, rfl, iteT ⟨_, rfl, _, rfl, _, _, rfl, rfl, _, rfl, ?_⟩⟩
  by_cases c : l ≤ i
  · refine iteT' (decide_eq_true c) ⟨_, rfl, _, _, rfl, rfl, ?_⟩
    rw [decide_eq_true c] at q; exact q
  · refine iteF' (decide_eq_false c) ?_
    rw [decide_eq_false c] at q; exact q
theorem sc_need_many : FnScope ["thing"] ["thing"] (defScope (top 8)) := ⟨rfl, rfl, rfl, by decide +kernel, rfl, by decide +kernel, by decide +kernel⟩
set_option maxHeartbeats 0 in
theorem ok_need_many {n : Nat} {f : Addr} {fd : FuncData} (F : Fun K "need_many" "need_many" (top 8) f fd) (B : Blt mg) (c_is_within : Callee P w K mg base n "is_within" ["thing", "least", "greatest"] (sp_is_within K))  {t_MOST_DEEDS : Tok} (g_MOST_DEEDS : mg "MOST_DEEDS" = some (.int 40 t_MOST_DEEDS))  :
    FnOk P w K mg base CX0 (n + 1) f fd ["thing"] (sp_need_many K) := by
  refine F.ok sc_need_many sp1_len (fun cdv A outer s H vs Q E hr h => ?_)
  obtain ⟨x, rfl, m, rfl, m0, m1, q⟩ := h
  refine ⟨_, (pss_one (ps_if (pt_not (pt_val (pe_callC c_is_within hr rfl (pa_cons (pv 0) (pa_cons pe_int (pa_cons (pe_glob rfl g_MOST_DEEDS (show RelV (.int 40) (.int 40 t_MOST_DEEDS) from ⟨_, rfl⟩)) pa_nil)))))) (pss_one ps_never) pss_nil)), ?_⟩
  exact ⟨_, rfl, _, _, _, rfl, _, _, _, rfl, rfl, rfl, _, rfl, iteF' (by rw [decide_eq_true m0, decide_eq_true m1]; rfl) q⟩
theorem sc_is_tree : FnScope ["thing", "many", "todo", "reached", "part"] ["thing", "many"] (defScope (top 9)) := ⟨rfl, rfl, rfl, by decide +kernel, rfl, by decide +kernel, by decide +kernel⟩
set_option maxHeartbeats 0 in
theorem ok_is_tree {n : Nat} {f : Addr} {fd : FuncData} (F : Fun K "is_tree" "is_tree" (top 9) f fd) (B : Blt mg) (c_is_whole : Callee P w K mg base n "is_whole" ["thing"] (sp_is_wholeO K)) (c_need_many : Callee P w K mg base n "need_many" ["thing"] (sp_need_many K))    :
    FnOk P w K mg base CX0 (n + 1) f fd ["thing", "many"] (sp_is_treeO K) := by
  refine F.ok sc_is_tree sp2_len (fun cdv A outer s H vs Q E hr h => ?_)
  obtain ⟨x, y, rfl, d, m, n, hd, rfl, n1, n40, hw, q⟩ := h
  refine ⟨_, (pss_cons (ps_expr (pe_callC c_need_many hr rfl (pa_cons (pv 1) pa_nil))) (pss_cons (ps_set (i := 2) sc_is_tree.nd rfl (Or.inl rfl) (pe_lst (pa_cons (pv 0) pa_nil))) (pss_cons (ps_set (i := 3) sc_is_tree.nd rfl (Or.inl rfl) pe_int) (pss_cons (ps_while PassesOwn.never (pt_truth (pv 2) (fun _ => rfl)) (pss_cons (ps_set (i := 4) sc_is_tree.nd rfl (Or.inl rfl) (pe_bm0 PySem.F.plainAttrs_list PySem.F.slot_list_pop PySem.F.type_list_pop mt_pop (pv 2))) (pss_one (ps_if (PW.pt (pw_and (pt_val (pe_callB (call_isiO (K := K) rfl) rfl B.isinstance b_isinstance (pa_cons (pv 4) (pa_cons (pe_tyn rfl B.tuple b_tuple) pa_nil)))) (pw_and1 (pt_cmpR op_eq (pe_callB call_len_seq rfl B.len b_len (pa_cons (pv 4) pa_nil)) pe_int (nomark _))))) (pss_cons (ps_expr (pe_bm PySem.F.plainAttrs_list PySem.F.slot_list_append PySem.F.type_list_append mt_append (pv 2) (pa_cons (pe_ix ix_tup (pv 4) pe_int (fun _ _ => rfl)) pa_nil))) (pss_one (ps_expr (pe_bm PySem.F.plainAttrs_list PySem.F.slot_list_append PySem.F.type_list_append mt_append (pv 2) (pa_cons (pe_ix ix_tup (pv 4) pe_int (fun _ _ => rfl)) pa_nil))))) (pss_one (ps_if (PW.pt (pw_and (pt_val (pe_callC c_is_whole hr rfl (pa_cons (pv 4) pa_nil))) (pw_and1 (pt_cmpR op_eq (pv 4) (pv 3) (nomark _))))) (pss_one (ps_aug (i := 3) sc_is_tree.nd rfl (Or.inl rfl) pe_int ip_add)) (pss_one (ps_ret pe_bl)))))))) (pss_one (ps_ret (pe_cmpR op_eq (pv 3) (pv 1) (nomark _)))))))), ?_⟩
  refine ⟨_, rfl, _, rfl, n, rfl, by omega, by omega, ?_⟩
  refine ⟨_, rfl, szl rfl, fun l hl => ?_⟩
  have gl : Grow (l :: m) H (upd H l (.lst [x])) := Grow.new hl _
  have gl1 : Grow [l] H (upd H l (.lst [x])) := Grow.new hl _
  have hd1 := (hd.more hl).grow gl
  refine ⟨fun μ σ' H' => ∃ (xs : List V) (ds : List PyData) (k : Nat) (e : Option V), σ' = [some x, some (V.int n), some (V.ref l), some (V.int k), e] ∧ Grow [l] H H' ∧ H' l = some (.lst xs) ∧ Ods K (l :: m) H' xs ds ∧ runL (lvs d) 0 = runL (stk ds) k ∧ wtOs ds = μ ∧ μ ≤ 1000002, ⟨_, [x], [d], 0, _, rfl, gl1, upd_same, .cons hd1 .nil, by show _ = runL (lvs d ++ []) 0; rw [List.append_nil], rfl, by show wtO d + 2 + 0 ≤ _; omega⟩, ?_⟩
  rintro μ σ' H1 ⟨xs, ds, k, e, rfl, g1, hl1, ha1, hO, rfl, hμ⟩
  refine ⟨_, rfl, !xs.isEmpty, .inl ⟨xs, SqL.of hl1, rfl⟩, ?_⟩
  by_cases hx : xs = []
  · subst hx
    cases ha1
    have hk : runL (lvs d) 0 = some k := hO
    refine iteF' rfl ⟨_, rfl, _, rfl, rfl, ?_⟩
    have e : decide (V.int (k : Int) = V.int (n : Int)) = treeP d n := by
      unfold treeP
      rw [hk]
      by_cases z : k = n
      · rw [z, decide_eq_true rfl, decide_eq_true rfl]
      · rw [decide_eq_false fun w => z (by have := V.int.inj w; omega), decide_eq_false fun w => z (Option.some.inj w)]
    rw [e]
    exact q _ (g1.shrink hl)
  obtain ⟨ys, y, rfl⟩ := snoc_of hx
  obtain ⟨js, j, rfl, hjs, hj⟩ := ha1.snocE
  rw [wtOs_snoc] at hμ
  rw [stk_snoc] at hO
  refine iteT' (by simp) ⟨fun σ' H' => ∃ μ, μ < wtOs (js ++ [j]) ∧ ∃ (xs : List V) (ds : List PyData) (k : Nat) (e : Option V), σ' = [some x, some (V.int n), some (V.ref l), some (V.int k), e] ∧ Grow [l] H H' ∧ H' l = some (.lst xs) ∧ Ods K (l :: m) H' xs ds ∧ runL (lvs d) 0 = runL (stk ds) k ∧ wtOs ds = μ ∧ μ ≤ 1000002, fun _ _ z => z, ?_⟩
  refine ⟨_, rfl, .inl ⟨rfl, _, SqL.of hl1⟩, l, _, y, rfl, rfl, hl1, by simp, ?_⟩
  rw [List.dropLast_concat]
  have g2 : Grow [l] H1 (upd H1 l (.lst ys)) := Grow.set hl1 (by simp) _
  have g2m : Grow (l :: m) H1 (upd H1 l (.lst ys)) := g2.mono (by simp)
  have hjs2 := hjs.grow g2m
  have hj2 := hj.grow g2m
  have hlen : 2 * ys.length ≤ wtOs js := by rw [hjs.length]; exact wtOs_len
  have bad : runL (lvs d) 0 = none → Q (.bl false) (upd H1 l (.lst ys)) := fun z => by
    have := q _ ((g1.trans g2).shrink hl)
    unfold treeP at this
    rw [z, decide_eq_false (fun w => nomatch w)] at this
    exact this
  refine ⟨_, rfl, _, j, l :: m, _, _, rfl, hj2, kit_tup, _, rfl, ?_⟩
  cases ht : tupD j with
  | false =>
    rw [lvs_nt ht] at hO
    refine iteF (iteF ?_)
    refine ⟨_, rfl, _, rfl, j, l :: m, hj2, _, rfl, ?_⟩
    cases hwj : wholeD j with
    | false => exact iteF (iteF (bad (hO.trans (runL_bad hwj))))
    | true =>
      cases j with
      | int v =>
        obtain rfl := hj2.inv_int
        have hO2 : runL (lvs d) 0 = if v = (k : Int) then runL (stk js) (k + 1) else none := hO
        refine iteT ⟨_, rfl, _, rfl, rfl, _, rfl, ?_⟩
        by_cases hv : v = (k : Int)
        · rw [if_pos hv] at hO2
          refine iteT' (decide_eq_true (congrArg V.int hv)) ?_
          refine ⟨_, rfl, _, _, rfl, rfl, wtOs js, ?_, ys, js, k + 1, _, rfl, g1.trans g2, upd_same, hjs2, hO2, rfl, by omega⟩
          rw [wtOs_snoc]; omega
        · rw [if_neg hv] at hO2
          exact iteF' (decide_eq_false fun z => hv (V.int.inj z)) (bad hO2)
      | _ => cases hwj
  | true =>
    refine iteT ?_
    cases j with
    | tuple es =>
      obtain ⟨a, zs, rfl, hs, hes⟩ := hj2.inv_tup
      refine ⟨_, rfl, a, zs, rfl, .inr hs, rfl, _, rfl, ?_⟩
      by_cases h2 : es.length = 2
      · match es, h2, hes, hO, hμ, hs with
        | [da, db], _, hes, hO, hμ, hs =>
          cases hes with
          | @cons xa _ _ _ oa tb =>
            obtain ⟨xb, rfl, ob⟩ := tb.inv1
            refine iteT' rfl ?_
            rw [lvs_pair] at hO
            have hμ2 : wtOs js + (wtO da + 2 + (wtO db + 2 + 0) + 3 + 2) ≤ 1000002 := hμ
            refine ⟨_, rfl, .inl ⟨rfl, _, SqL.of upd_same⟩, _, rfl, a, _, _, _, rfl, rfl, hs, rfl, l, ys, _, rfl, rfl, upd_same, smallM (by omega), ?_⟩
            have g3 : Grow [l] (upd H1 l (.lst ys)) (upd (upd H1 l (.lst ys)) l (.lst (ys ++ [xb]))) := Grow.set upd_same (by simp) _
            have hs3 := g3.sqT hs
            refine ⟨_, rfl, .inl ⟨rfl, _, SqL.of upd_same⟩, _, rfl, a, _, _, _, rfl, rfl, hs3, rfl, l, ys ++ [xb], _, rfl, rfl, upd_same, smallM (by rw [List.length_append]; show ys.length + 1 ≤ 1000000; omega), ?_⟩
            have g4 : Grow [l] (upd (upd H1 l (.lst ys)) l (.lst (ys ++ [xb]))) (upd (upd (upd H1 l (.lst ys)) l (.lst (ys ++ [xb]))) l (.lst (ys ++ [xb] ++ [xa]))) := Grow.set upd_same (by simp) _
            have g34 : Grow (l :: m) _ _ := (g3.trans g4).mono (m' := l :: m) (by simp)
            refine ⟨wtOs (js ++ [db] ++ [da]), ?_, _, js ++ [db] ++ [da], k, _, rfl, g1.trans (g2.trans (g3.trans g4)), upd_same, ((hjs2.grow g34).append (.cons (ob.grow g34) .nil)).append (.cons (oa.grow g34) .nil), ?_, rfl, ?_⟩
            · rw [wtOs_snoc, wtOs_snoc, wtOs_snoc]
              show _ < wtOs js + (wtO da + 2 + (wtO db + 2 + 0) + 3 + 2)
              omega
            · rw [stk_snoc, stk_snoc, ← List.append_assoc]; exact hO
            · rw [wtOs_snoc, wtOs_snoc]; omega
      · refine iteF' (decide_eq_false fun z => h2 (by have := V.int.inj z; have := hes.length; omega)) ?_
        rw [lvs_ne h2] at hO
        exact ⟨_, rfl, _, rfl, .tuple es, l :: m, hj2, _, rfl, iteF (iteF (bad (hO.trans rfl)))⟩
    | _ => cases ht
theorem sc__law_is_whole : FnScope ["_law_thing"] ["_law_thing"] (defScope (top 13)) := ⟨rfl, rfl, rfl, by decide +kernel, rfl, by decide +kernel, by decide +kernel⟩
set_option maxHeartbeats 0 in
theorem ok__law_is_whole {n : Nat} {f : Addr} {fd : FuncData} (F : Fun K "_law_is_whole" "_law_is_whole" (top 13) f fd) (B : Blt mg)     :
    FnOk P w K mg base CX0 (n + 1) f fd ["_law_thing"] (sp_is_wholeO K) := by
  refine F.ok sc__law_is_whole sp1_len (fun cdv A outer s H vs Q E hr h => ?_)
  obtain ⟨x, rfl, d, m, hd, q⟩ := h
  refine ⟨_, (pss_one (ps_ret (pe_and (pe_callB (call_isiO (K := K) rfl) rfl B.isinstance b_isinstance (pa_cons (pv 0) (pa_cons (pe_tyn rfl B.int b_int) pa_nil))) (pe_one (pe_not (pe_callB (call_isiO (K := K) rfl) rfl B.isinstance b_isinstance (pa_cons (pv 0) (pa_cons (pe_tyn rfl B.bool b_bool) pa_nil)))))))), ?_⟩
  refine ⟨_, rfl, _, d, m, _, _, rfl, hd, kit_int, _, rfl, ?_⟩
  cases d with
  | int i => exact iteT ⟨_, rfl, _, _, m, _, _, rfl, hd, kit_bool, _, rfl, q⟩
  | bool b => exact iteT ⟨_, rfl, _, _, m, _, _, rfl, hd, kit_bool, _, rfl, q⟩
  | _ => exact iteF q
theorem sc__law_leaves : FnScope ["_law_thing"] ["_law_thing"] (defScope (top 18)) := ⟨rfl, rfl, rfl, by decide +kernel, rfl, by decide +kernel, by decide +kernel⟩
set_option maxHeartbeats 0 in
theorem ok__law_leaves {n : Nat} {f : Addr} {fd : FuncData} (F : Fun K "_law_leaves" "_law_leaves" (top 18) f fd) (B : Blt mg) {N : Nat} (c__law_leaves : Callee P w K mg base n "_law_leaves" ["_law_thing"] (sp_leaves25 N K))    :
    FnOk P w K mg base CX0 (n + 1) f fd ["_law_thing"] (sp_leaves25 (N + 1) K) := by
  refine F.ok sc__law_leaves sp1_len (fun cdv A outer s H vs Q E hr h => ?_)
  obtain ⟨x, rfl, d, m, hd, hN, hw, q⟩ := h
  refine ⟨_, (pss_cons (ps_if (pt_not (pt_val (pe_callB (call_isiO (K := K) rfl) rfl B.isinstance b_isinstance (pa_cons (pv 0) (pa_cons (pe_tyn rfl B.tuple b_tuple) pa_nil))))) (pss_one (ps_ret (pe_lst (pa_cons (pv 0) pa_nil)))) pss_nil) (pss_cons (ps_if (pt_cmpR op_ne (pe_callB call_len_seq rfl B.len b_len (pa_cons (pv 0) pa_nil)) pe_int (nomark _)) (pss_one (ps_ret (pe_lst (pa_cons pe_non pa_nil)))) pss_nil) (pss_one (ps_ret (pe_op op_cat (pe_callC c__law_leaves hr rfl (pa_cons (pe_ix ix_tup (pv 0) pe_int (fun _ _ => rfl)) pa_nil)) (pe_callC c__law_leaves hr rfl (pa_cons (pe_ix ix_tup (pv 0) pe_int (fun _ _ => rfl)) pa_nil))))))), ?_⟩
  refine ⟨_, rfl, _, d, m, _, _, rfl, hd, kit_tup, _, rfl, ?_⟩
  cases ht : tupD d with
  | false =>
    rw [lvs_nt ht] at q
    refine iteT ⟨_, rfl, szl rfl, fun l hl => ?_⟩
    have g := Grow.new (m := []) hl (.lst [x])
    exact q l [x] _ hl g upd_same (.cons (hd.grow (g.mono (by simp))) .nil)
  | true =>
    refine iteF ?_
    cases d with
    | tuple es =>
      obtain ⟨a, zs, rfl, hs, hes⟩ := hd.inv_tup
      refine ⟨_, rfl, a, zs, rfl, .inr hs, rfl, _, rfl, ?_⟩
      by_cases h2 : es.length = 2
      · match es, h2, hes, hN, hw, hs, q with
        | [da, db], _, hes, hN, hw, hs, q =>
          cases hes with
          | cons oa tb =>
            obtain ⟨xb, rfl, ob⟩ := tb.inv1
            rename_i xa
            refine iteF' rfl ?_
            rw [lvs_pair] at q
            have hN2 : max da.depth (max db.depth 0) + 1 < N + 1 := hN
            have hw2 : wtO da + 2 + (wtO db + 2 + 0) + 3 ≤ 1000000 := hw
            refine ⟨_, rfl, a, _, _, _, rfl, rfl, hs, rfl, _, rfl, da, m, oa, by omega, by omega, fun l1 xs1 H1 f1 g1 e1 t1 => ?_⟩
            refine ⟨_, rfl, a, _, _, _, rfl, rfl, g1.sqT hs, rfl, _, rfl, db, m, ob.grow (g1.mono (by simp)), by omega, by omega, fun l2 xs2 H2 f2 g2 e2 t2 => ?_⟩
            have k1 := lvs_len (d := da)
            have k2 := lvs_len (d := db)
            refine ⟨l1, l2, xs1, xs2, rfl, rfl, g2.keep _ _ (by simp) e1, e2, Nat.le_of_lt (smallM (by rw [t1.length, t2.length]; omega)), fun l3 hl3 => ?_⟩
            have g3 := Grow.new (m := []) hl3 (.lst (xs1 ++ xs2))
            have G := g1.trans (g2.trans g3)
            exact q l3 _ _ ((g1.trans g2).free (by simp) hl3) G upd_same (((t1.grow (g2.mono (by simp))).append t2).grow (g3.mono (by simp)))
      · refine iteT' ?_ ⟨szl rfl, fun l hl => ?_⟩
        · rw [decide_eq_false fun z => h2 (by have := V.int.inj z; have := hes.length; omega)]; rfl
        rw [lvs_ne h2] at q
        exact q l [V.non] _ hl (Grow.new hl _) upd_same (.cons .non .nil)
    | _ => cases ht
theorem sc__law_is_tree : FnScope ["_law_thing", "_law_many", "_law_found"] ["_law_thing", "_law_many"] (defScope (top 19)) := ⟨rfl, rfl, rfl, by decide +kernel, rfl, by decide +kernel, by decide +kernel⟩
set_option maxHeartbeats 0 in
theorem ok__law_is_tree {n : Nat} {f : Addr} {fd : FuncData} (F : Fun K "_law_is_tree" "_law_is_tree" (top 19) f fd) (B : Blt mg) (c__law_is_whole : Callee P w K mg base n "_law_is_whole" ["_law_thing"] (sp_is_wholeO K)) (c__law_leaves : Callee P w K mg base n "_law_leaves" ["_law_thing"] (sp_leaves25 62 K))    :
    FnOk P w K mg base CX0 (n + 1) f fd ["_law_thing", "_law_many"] (sp_lis_tree25 K) := by
  refine F.ok sc__law_is_tree sp2_len (fun cdv A outer s H vs Q E hr h => ?_)
  obtain ⟨x, y, rfl, d, m, n, hd, rfl, n1, n40, hdp, hw, q⟩ := h
  refine ⟨_, (pss_cons (ps_set (i := 2) sc__law_is_tree.nd rfl (Or.inl rfl) (pe_callC c__law_leaves hr rfl (pa_cons (pv 0) pa_nil))) (pss_one (ps_ret (pe_and (pe_callB (call_allB rfl) rfl B.all b_all (pa_cons (pe_compT (CSc.of (N' := ["_law_one"]) (sub := [none]) (defScope (top 19)) ["_law_thing", "_law_many", "_law_found"] rfl rfl (by decide +kernel) rfl) rfl (pi_list (pv 2)) (fun _ _ _ _ _ _ => pg_name (i := 0) (show (["_law_one"] : List Str).Nodup by decide +kernel) rfl (Or.inl rfl)) (fun _ _ _ _ _ _ => pifs_nil) (fun _ _ _ _ _ _ => (pe_callC c__law_is_whole hr rfl (pa_cons (pv 0) pa_nil)))) pa_nil)) (pe_one (pe_cmpR (op_eqL hr) (pv 2) (pe_listRange rfl rfl B.list rfl B.range (pa_cons (pv 1) pa_nil)) (nomark _))))))), ?_⟩
  refine ⟨_, rfl, _, rfl, d, m, hd, hdp, hw, fun l xs H1 f1 g1 e1 t1 => ?_⟩
  have hlen := lvs_len (d := d)
  have hxl := t1.length
  have big : ∀ i : Nat, i ≤ xs.length → i < sizeLine := fun i hi => Nat.lt_of_le_of_lt (show i ≤ 1000001 by omega) (by decide)
  refine ⟨_, rfl, l, rfl, ⟨_, SqL.of e1⟩, comp_list0 (xs := xs) (fun i ys σ' H' => H' = H1 ∧ (∃ e, σ' = [e]) ∧ ys = (((lvs d).take i).map wholeD).map V.bl) ⟨rfl, ⟨_, rfl⟩, rfl⟩ ?_ ?_ ?_⟩
  · rintro i ys σ' H' _ ⟨rfl, _⟩
    exact SqL.of e1
  · rintro i x ys σ' H' hx ⟨rfl, ⟨e, rfl⟩, rfl⟩
    obtain ⟨dx, hdx, ox⟩ := t1.get hx
    have hi : i < xs.length := (List.getElem?_eq_some_iff.mp hx).1
    refine ⟨_, rfl, _, rfl, dx, m, ox, ?_, rfl, ⟨_, rfl⟩, ?_⟩
    · rw [List.length_map, List.length_map, List.length_take]; exact big _ (by omega)
    · obtain ⟨hi2, edx⟩ := List.getElem?_eq_some_iff.mp hdx
      rw [List.take_succ_eq_append_getElem hi2, edx, List.map_append, List.map_append]; rfl
  · rintro ys σ' H' ⟨rfl, _, rfl⟩ l2 hl2
    have g2 := Grow.new (m := []) hl2 (.lst ((((lvs d).take xs.length).map wholeD).map V.bl))
    have e1' := g2.keep _ _ (by simp) e1
    have G2 := g1.trans g2
    refine ⟨l2, _, rfl, SqL.of upd_same, _, rfl, ?_⟩
    have eall : ((((lvs d).take xs.length).map wholeD).all id) = (lvs d).all wholeD := by
      rw [hxl, List.take_length, List.all_map]; rfl
    rw [eall]
    generalize upd H' l2 (.lst ((((lvs d).take xs.length).map wholeD).map V.bl)) = H2 at e1' G2 ⊢
    cases hall : (lvs d).all wholeD with
    | false =>
      have := q _ G2
      unfold treeP at this
      rw [decide_eq_false (notWhole hall)] at this
      exact iteF this
    | true =>
      obtain ⟨is, his⟩ := allWhole hall
      have hxs : xs = is.map V.int := by
        rw [his] at t1
        exact ods_ints t1
      subst hxs
      refine iteT ⟨_, rfl, _, rfl, n, rfl, by omega, fun l3 hl3 => ?_⟩
      have g3 := Grow.new (m := []) hl3 (.lst ((List.range n).map fun i : Nat => V.int i))
      have er : ((List.range n).map fun i : Nat => V.int i) = ((List.range n).map fun i : Nat => (i : Int)).map V.int := by rw [List.map_map]; rfl
      refine ⟨l, l3, _, _, rfl, rfl, SqL.of (g3.keep _ _ (by simp) e1'), SqL.of upd_same, flat_ints, by rw [er]; exact flat_ints, ?_⟩
      have e : eqVs (is.map V.int) ((List.range n).map fun i : Nat => V.int i) = treeP d n := by
        rw [er, eqVs_ints]
        unfold treeP
        rw [his]
        have key : is = ((List.range n).map fun i : Nat => (i : Int)) ↔ runL (is.map PyData.int) 0 = some n := by
          rw [runL_iff, List.length_map]
          constructor
          · intro z
            have zl : is.length = n := by rw [z, List.length_map, List.length_range]
            refine ⟨?_, by omega⟩
            rw [zl, ← List.range_eq_range', z, List.map_map]; rfl
          · rintro ⟨a, c⟩
            have zl : is.length = n := by omega
            rw [zl, ← List.range_eq_range'] at a
            have a2 : is.map PyData.int = ((List.range n).map fun i : Nat => (i : Int)).map PyData.int := by rw [a, List.map_map]; rfl
            exact List.map_inj_right (f := PyData.int) (fun x y h => by injection h) |>.mp a2
        by_cases z : is = ((List.range n).map fun i : Nat => (i : Int))
        · rw [decide_eq_true z, decide_eq_true (key.mp z)]
        · rw [decide_eq_false z, decide_eq_false fun w => z (key.mpr w)]
      show Q (.bl (eqVs (is.map V.int) ((List.range n).map fun i : Nat => V.int i))) _
      rw [e]
      exact q _ (G2.trans g3)
theorem sc__law_other : FnScope ["_law_pot_here", "_law_thing", "_law_some"] ["_law_pot_here", "_law_thing"] (defScope (top 15)) := ⟨rfl, rfl, rfl, by decide +kernel, rfl, by decide +kernel, by decide +kernel⟩
set_option maxHeartbeats 0 in
theorem ok__law_other {n : Nat} {f : Addr} {fd : FuncData} (F : Fun K "_law_other" "_law_other" (top 15) f fd) (B : Blt mg) (c__law_draw : Callee P w K mg base n "_law_draw" ["_law_pot_here", "_law_many"] (sp_draw K)) (c__law_is_whole : Callee P w K mg base n "_law_is_whole" ["_law_thing"] (sp_is_wholeO K))    :
    FnOk P w K mg base CX0 (n + 1) f fd ["_law_pot_here", "_law_thing"] (sp_other25 K) := by
  refine F.ok sc__law_other sp2_len (fun cdv A outer s H vs Q E hr h => ?_)
  obtain ⟨x, y, rfl, a, d, n, k, w, rfl, pp, hd, gd, n1, q⟩ := h
  refine ⟨_, (@pss_cons _ _ _ _ _ (@ps_set _ _ 2 _ _ _ _ sc__law_other.nd rfl (Or.inl rfl) (@po_lst _ K _ _ _ _ (@pos_consT _ _ _ _ _ _ _ po_non (@pos_consT _ _ _ _ _ _ _ po_bl (@pos_consT _ _ _ _ _ _ _ po_bl (@pos_consT _ _ _ _ _ _ _ po_str (@pos_consT _ _ _ _ _ _ _ po_str (@pos_consT _ _ _ _ _ _ _ (@po_tup _ _ _ _ _ _ _ pos_nil (by first | rfl | decide | exact Or.inl rfl | exact Or.inr rfl | exact Or.inr (Or.inl rfl) | exact Or.inr (Or.inr rfl) | exact fun _ => rfl | exact Nat.le_of_ble_eq_true rfl)) (@pos_consT _ _ _ _ _ _ _ (@po_tup _ _ _ _ _ _ _ (@pos_consT _ _ _ _ _ _ _ po_int pos_nil (by first | rfl | decide | exact Or.inl rfl | exact Or.inr rfl | exact Or.inr (Or.inl rfl) | exact Or.inr (Or.inr rfl) | exact fun _ => rfl | exact Nat.le_of_ble_eq_true rfl)) (by first | rfl | decide | exact Or.inl rfl | exact Or.inr rfl | exact Or.inr (Or.inl rfl) | exact Or.inr (Or.inr rfl) | exact fun _ => rfl | exact Nat.le_of_ble_eq_true rfl)) (@pos_consT _ _ _ _ _ _ _ (@po_lst _ _ _ _ _ _ pos_nil (by first | rfl | decide | exact Or.inl rfl | exact Or.inr rfl | exact Or.inr (Or.inl rfl) | exact Or.inr (Or.inr rfl) | exact fun _ => rfl | exact Nat.le_of_ble_eq_true rfl)) (@pos_consT _ _ _ _ _ _ _ po_dnil (@pos_consT _ _ _ _ _ _ _ po_neg (@pos_consT _ _ _ _ _ _ _ po_int (@pos_consT _ _ _ _ _ _ _ po_int (@pos_consT _ _ _ _ _ _ _ po_int (@pos_consT _ _ _ _ _ _ _ po_int (@pos_consT _ _ _ _ _ _ _ po_int (@pos_consT _ _ _ _ _ _ _ (po_pow ⟨by decide, by decide, by decide⟩) (@pos_consT _ _ _ _ _ _ _ (po_npow ⟨by decide, by decide, by decide⟩) (@pos_consT _ _ _ _ _ _ _ (@po_tup _ _ _ _ _ _ _ (@pos_consT _ _ _ _ _ _ _ po_int (@pos_consT _ _ _ _ _ _ _ po_non (@pos_consT _ _ _ _ _ _ _ po_non pos_nil (by first | rfl | decide | exact Or.inl rfl | exact Or.inr rfl | exact Or.inr (Or.inl rfl) | exact Or.inr (Or.inr rfl) | exact fun _ => rfl | exact Nat.le_of_ble_eq_true rfl)) (by first | rfl | decide | exact Or.inl rfl | exact Or.inr rfl | exact Or.inr (Or.inl rfl) | exact Or.inr (Or.inr rfl) | exact fun _ => rfl | exact Nat.le_of_ble_eq_true rfl)) (by first | rfl | decide | exact Or.inl rfl | exact Or.inr rfl | exact Or.inr (Or.inl rfl) | exact Or.inr (Or.inr rfl) | exact fun _ => rfl | exact Nat.le_of_ble_eq_true rfl)) (by first | rfl | decide | exact Or.inl rfl | exact Or.inr rfl | exact Or.inr (Or.inl rfl) | exact Or.inr (Or.inr rfl) | exact fun _ => rfl | exact Nat.le_of_ble_eq_true rfl)) pos_nil (by first | rfl | decide | exact Or.inl rfl | exact Or.inr rfl | exact Or.inr (Or.inl rfl) | exact Or.inr (Or.inr rfl) | exact fun _ => rfl | exact Nat.le_of_ble_eq_true rfl)) (by first | rfl | decide | exact Or.inl rfl | exact Or.inr rfl | exact Or.inr (Or.inl rfl) | exact Or.inr (Or.inr rfl) | exact fun _ => rfl | exact Nat.le_of_ble_eq_true rfl)) (by first | rfl | decide | exact Or.inl rfl | exact Or.inr rfl | exact Or.inr (Or.inl rfl) | exact Or.inr (Or.inr rfl) | exact fun _ => rfl | exact Nat.le_of_ble_eq_true rfl)) (by first | rfl | decide | exact Or.inl rfl | exact Or.inr rfl | exact Or.inr (Or.inl rfl) | exact Or.inr (Or.inr rfl) | exact fun _ => rfl | exact Nat.le_of_ble_eq_true rfl)) (by first | rfl | decide | exact Or.inl rfl | exact Or.inr rfl | exact Or.inr (Or.inl rfl) | exact Or.inr (Or.inr rfl) | exact fun _ => rfl | exact Nat.le_of_ble_eq_true rfl)) (by first | rfl | decide | exact Or.inl rfl | exact Or.inr rfl | exact Or.inr (Or.inl rfl) | exact Or.inr (Or.inr rfl) | exact fun _ => rfl | exact Nat.le_of_ble_eq_true rfl)) (by first | rfl | decide | exact Or.inl rfl | exact Or.inr rfl | exact Or.inr (Or.inl rfl) | exact Or.inr (Or.inr rfl) | exact fun _ => rfl | exact Nat.le_of_ble_eq_true rfl)) (by first | rfl | decide | exact Or.inl rfl | exact Or.inr rfl | exact Or.inr (Or.inl rfl) | exact Or.inr (Or.inr rfl) | exact fun _ => rfl | exact Nat.le_of_ble_eq_true rfl)) (by first | rfl | decide | exact Or.inl rfl | exact Or.inr rfl | exact Or.inr (Or.inl rfl) | exact Or.inr (Or.inr rfl) | exact fun _ => rfl | exact Nat.le_of_ble_eq_true rfl)) star_dict) (by first | rfl | decide | exact Or.inl rfl | exact Or.inr rfl | exact Or.inr (Or.inl rfl) | exact Or.inr (Or.inr rfl) | exact fun _ => rfl | exact Nat.le_of_ble_eq_true rfl)) (by first | rfl | decide | exact Or.inl rfl | exact Or.inr rfl | exact Or.inr (Or.inl rfl) | exact Or.inr (Or.inr rfl) | exact fun _ => rfl | exact Nat.le_of_ble_eq_true rfl)) (by first | rfl | decide | exact Or.inl rfl | exact Or.inr rfl | exact Or.inr (Or.inl rfl) | exact Or.inr (Or.inr rfl) | exact fun _ => rfl | exact Nat.le_of_ble_eq_true rfl)) (by first | rfl | decide | exact Or.inl rfl | exact Or.inr rfl | exact Or.inr (Or.inl rfl) | exact Or.inr (Or.inr rfl) | exact fun _ => rfl | exact Nat.le_of_ble_eq_true rfl)) (by first | rfl | decide | exact Or.inl rfl | exact Or.inr rfl | exact Or.inr (Or.inl rfl) | exact Or.inr (Or.inr rfl) | exact fun _ => rfl | exact Nat.le_of_ble_eq_true rfl)) (by first | rfl | decide | exact Or.inl rfl | exact Or.inr rfl | exact Or.inr (Or.inl rfl) | exact Or.inr (Or.inr rfl) | exact fun _ => rfl | exact Nat.le_of_ble_eq_true rfl)) (by first | rfl | decide | exact Or.inl rfl | exact Or.inr rfl | exact Or.inr (Or.inl rfl) | exact Or.inr (Or.inr rfl) | exact fun _ => rfl | exact Nat.le_of_ble_eq_true rfl)) (by first | rfl | decide | exact Or.inl rfl | exact Or.inr rfl | exact Or.inr (Or.inl rfl) | exact Or.inr (Or.inr rfl) | exact fun _ => rfl | exact Nat.le_of_ble_eq_true rfl)) (by first | rfl | decide | exact Or.inl rfl | exact Or.inr rfl | exact Or.inr (Or.inl rfl) | exact Or.inr (Or.inr rfl) | exact fun _ => rfl | exact Nat.le_of_ble_eq_true rfl)) (by first | rfl | decide | exact Or.inl rfl | exact Or.inr rfl | exact Or.inr (Or.inl rfl) | exact Or.inr (Or.inr rfl) | exact fun _ => rfl | exact Nat.le_of_ble_eq_true rfl) (by first | rfl | decide | exact Or.inl rfl | exact Or.inr rfl | exact Or.inr (Or.inl rfl) | exact Or.inr (Or.inr rfl) | exact fun _ => rfl | exact Nat.le_of_ble_eq_true rfl)) (@pss_cons _ _ _ _ _ (@ps_set _ _ 2 _ _ _ _ sc__law_other.nd rfl (Or.inl rfl) (@pe_op _ _ _ _ _ _ _ _ op_cat (pv 2) (@po_lst _ K _ _ _ _ (@pos_consT _ _ _ _ _ _ _ (@po_tup _ _ _ _ _ _ _ (@pos_consT _ _ _ _ _ _ _ po_int (@pos_consT _ _ _ _ _ _ _ po_int (@pos_consT _ _ _ _ _ _ _ po_int pos_nil (by first | rfl | decide | exact Or.inl rfl | exact Or.inr rfl | exact Or.inr (Or.inl rfl) | exact Or.inr (Or.inr rfl) | exact fun _ => rfl | exact Nat.le_of_ble_eq_true rfl)) (by first | rfl | decide | exact Or.inl rfl | exact Or.inr rfl | exact Or.inr (Or.inl rfl) | exact Or.inr (Or.inr rfl) | exact fun _ => rfl | exact Nat.le_of_ble_eq_true rfl)) (by first | rfl | decide | exact Or.inl rfl | exact Or.inr rfl | exact Or.inr (Or.inl rfl) | exact Or.inr (Or.inr rfl) | exact fun _ => rfl | exact Nat.le_of_ble_eq_true rfl)) (by first | rfl | decide | exact Or.inl rfl | exact Or.inr rfl | exact Or.inr (Or.inl rfl) | exact Or.inr (Or.inr rfl) | exact fun _ => rfl | exact Nat.le_of_ble_eq_true rfl)) (@pos_consT _ _ _ _ _ _ _ (@po_tup _ _ _ _ _ _ _ (@pos_consT _ _ _ _ _ _ _ po_int (@pos_consT _ _ _ _ _ _ _ po_int (@pos_consT _ _ _ _ _ _ _ po_int pos_nil (by first | rfl | decide | exact Or.inl rfl | exact Or.inr rfl | exact Or.inr (Or.inl rfl) | exact Or.inr (Or.inr rfl) | exact fun _ => rfl | exact Nat.le_of_ble_eq_true rfl)) (by first | rfl | decide | exact Or.inl rfl | exact Or.inr rfl | exact Or.inr (Or.inl rfl) | exact Or.inr (Or.inr rfl) | exact fun _ => rfl | exact Nat.le_of_ble_eq_true rfl)) (by first | rfl | decide | exact Or.inl rfl | exact Or.inr rfl | exact Or.inr (Or.inl rfl) | exact Or.inr (Or.inr rfl) | exact fun _ => rfl | exact Nat.le_of_ble_eq_true rfl)) (by first | rfl | decide | exact Or.inl rfl | exact Or.inr rfl | exact Or.inr (Or.inl rfl) | exact Or.inr (Or.inr rfl) | exact fun _ => rfl | exact Nat.le_of_ble_eq_true rfl)) (@pos_consT _ _ _ _ _ _ _ (@po_tup _ _ _ _ _ _ _ (@pos_consT _ _ _ _ _ _ _ po_int (@pos_consT _ _ _ _ _ _ _ po_int (@pos_consT _ _ _ _ _ _ _ po_int pos_nil (by first | rfl | decide | exact Or.inl rfl | exact Or.inr rfl | exact Or.inr (Or.inl rfl) | exact Or.inr (Or.inr rfl) | exact fun _ => rfl | exact Nat.le_of_ble_eq_true rfl)) (by first | rfl | decide | exact Or.inl rfl | exact Or.inr rfl | exact Or.inr (Or.inl rfl) | exact Or.inr (Or.inr rfl) | exact fun _ => rfl | exact Nat.le_of_ble_eq_true rfl)) (by first | rfl | decide | exact Or.inl rfl | exact Or.inr rfl | exact Or.inr (Or.inl rfl) | exact Or.inr (Or.inr rfl) | exact fun _ => rfl | exact Nat.le_of_ble_eq_true rfl)) (by first | rfl | decide | exact Or.inl rfl | exact Or.inr rfl | exact Or.inr (Or.inl rfl) | exact Or.inr (Or.inr rfl) | exact fun _ => rfl | exact Nat.le_of_ble_eq_true rfl)) (@pos_consT _ _ _ _ _ _ _ (@po_tup _ _ _ _ _ _ _ (@pos_consT _ _ _ _ _ _ _ po_int (@pos_consT _ _ _ _ _ _ _ po_int (@pos_consT _ _ _ _ _ _ _ (@po_tup _ _ _ _ _ _ _ (@pos_consT _ _ _ _ _ _ _ po_int (@pos_consT _ _ _ _ _ _ _ po_non (@pos_consT _ _ _ _ _ _ _ po_non pos_nil (by first | rfl | decide | exact Or.inl rfl | exact Or.inr rfl | exact Or.inr (Or.inl rfl) | exact Or.inr (Or.inr rfl) | exact fun _ => rfl | exact Nat.le_of_ble_eq_true rfl)) (by first | rfl | decide | exact Or.inl rfl | exact Or.inr rfl | exact Or.inr (Or.inl rfl) | exact Or.inr (Or.inr rfl) | exact fun _ => rfl | exact Nat.le_of_ble_eq_true rfl)) (by first | rfl | decide | exact Or.inl rfl | exact Or.inr rfl | exact Or.inr (Or.inl rfl) | exact Or.inr (Or.inr rfl) | exact fun _ => rfl | exact Nat.le_of_ble_eq_true rfl)) (by first | rfl | decide | exact Or.inl rfl | exact Or.inr rfl | exact Or.inr (Or.inl rfl) | exact Or.inr (Or.inr rfl) | exact fun _ => rfl | exact Nat.le_of_ble_eq_true rfl)) pos_nil (by first | rfl | decide | exact Or.inl rfl | exact Or.inr rfl | exact Or.inr (Or.inl rfl) | exact Or.inr (Or.inr rfl) | exact fun _ => rfl | exact Nat.le_of_ble_eq_true rfl)) (by first | rfl | decide | exact Or.inl rfl | exact Or.inr rfl | exact Or.inr (Or.inl rfl) | exact Or.inr (Or.inr rfl) | exact fun _ => rfl | exact Nat.le_of_ble_eq_true rfl)) (by first | rfl | decide | exact Or.inl rfl | exact Or.inr rfl | exact Or.inr (Or.inl rfl) | exact Or.inr (Or.inr rfl) | exact fun _ => rfl | exact Nat.le_of_ble_eq_true rfl)) (by first | rfl | decide | exact Or.inl rfl | exact Or.inr rfl | exact Or.inr (Or.inl rfl) | exact Or.inr (Or.inr rfl) | exact fun _ => rfl | exact Nat.le_of_ble_eq_true rfl)) (@pos_cons _ _ _ _ _ _ _ _ (@po_lst _ _ _ _ _ _ (@pos_last _ _ _ _ _ (@po_var _ _ _ _ d (pv 1)) (by first | rfl | decide | exact Or.inl rfl | exact Or.inr rfl | exact Or.inr (Or.inl rfl) | exact Or.inr (Or.inr rfl) | exact fun _ => rfl | exact Nat.le_of_ble_eq_true rfl)) (by first | rfl | decide | exact Or.inl rfl | exact Or.inr rfl | exact Or.inr (Or.inl rfl) | exact Or.inr (Or.inr rfl) | exact fun _ => rfl | exact Nat.le_of_ble_eq_true rfl)) (@pos_cons _ _ _ _ _ _ _ _ (@po_tup _ _ _ _ _ _ _ (@pos_last _ _ _ _ _ (@po_var _ _ _ _ d (pv 1)) (by first | rfl | decide | exact Or.inl rfl | exact Or.inr rfl | exact Or.inr (Or.inl rfl) | exact Or.inr (Or.inr rfl) | exact fun _ => rfl | exact Nat.le_of_ble_eq_true rfl)) (by first | rfl | decide | exact Or.inl rfl | exact Or.inr rfl | exact Or.inr (Or.inl rfl) | exact Or.inr (Or.inr rfl) | exact fun _ => rfl | exact Nat.le_of_ble_eq_true rfl)) (@pos_last _ _ _ _ _ (@po_dct _ _ _ _ _ _ (@po2_int _ _ _ _ _ _ _ _ _ _ _ (@po_var _ _ _ _ d (pv 1)) po2_nil) (show ([some (.inl 0)] : List OKey).Nodup by decide) rfl rfl (fun z => nomatch z) (by decide)) star_dict) (by first | rfl | decide | exact Or.inl rfl | exact Or.inr rfl | exact Or.inr (Or.inl rfl) | exact Or.inr (Or.inr rfl) | exact fun _ => rfl | exact Nat.le_of_ble_eq_true rfl)) (by first | rfl | decide | exact Or.inl rfl | exact Or.inr rfl | exact Or.inr (Or.inl rfl) | exact Or.inr (Or.inr rfl) | exact fun _ => rfl | exact Nat.le_of_ble_eq_true rfl)) (by first | rfl | decide | exact Or.inl rfl | exact Or.inr rfl | exact Or.inr (Or.inl rfl) | exact Or.inr (Or.inr rfl) | exact fun _ => rfl | exact Nat.le_of_ble_eq_true rfl)) (by first | rfl | decide | exact Or.inl rfl | exact Or.inr rfl | exact Or.inr (Or.inl rfl) | exact Or.inr (Or.inr rfl) | exact fun _ => rfl | exact Nat.le_of_ble_eq_true rfl)) (by first | rfl | decide | exact Or.inl rfl | exact Or.inr rfl | exact Or.inr (Or.inl rfl) | exact Or.inr (Or.inr rfl) | exact fun _ => rfl | exact Nat.le_of_ble_eq_true rfl)) (by first | rfl | decide | exact Or.inl rfl | exact Or.inr rfl | exact Or.inr (Or.inl rfl) | exact Or.inr (Or.inr rfl) | exact fun _ => rfl | exact Nat.le_of_ble_eq_true rfl)) (by first | rfl | decide | exact Or.inl rfl | exact Or.inr rfl | exact Or.inr (Or.inl rfl) | exact Or.inr (Or.inr rfl) | exact fun _ => rfl | exact Nat.le_of_ble_eq_true rfl))) (by first | rfl | decide | exact Or.inl rfl | exact Or.inr rfl | exact Or.inr (Or.inl rfl) | exact Or.inr (Or.inr rfl) | exact fun _ => rfl | exact Nat.le_of_ble_eq_true rfl) (by first | rfl | decide | exact Or.inl rfl | exact Or.inr rfl | exact Or.inr (Or.inl rfl) | exact Or.inr (Or.inr rfl) | exact fun _ => rfl | exact Nat.le_of_ble_eq_true rfl)) (@pss_cons _ _ _ _ _ (@ps_if _ _ _ _ _ _ _ _ (@pt_val _ _ _ (@pe_callC _ _ _ _ _ _ _ _ _ _ c__law_is_whole hr rfl (@pa_cons _ _ _ _ _ (pv 1) pa_nil (by first | rfl | decide | exact Or.inl rfl | exact Or.inr rfl | exact Or.inr (Or.inl rfl) | exact Or.inr (Or.inr rfl) | exact fun _ => rfl | exact Nat.le_of_ble_eq_true rfl)) (by first | rfl | decide | exact Or.inl rfl | exact Or.inr rfl | exact Or.inr (Or.inl rfl) | exact Or.inr (Or.inr rfl) | exact fun _ => rfl | exact Nat.le_of_ble_eq_true rfl) (by first | rfl | decide | exact Or.inl rfl | exact Or.inr rfl | exact Or.inr (Or.inl rfl) | exact Or.inr (Or.inr rfl) | exact fun _ => rfl | exact Nat.le_of_ble_eq_true rfl) (by first | rfl | decide | exact Or.inl rfl | exact Or.inr rfl | exact Or.inr (Or.inl rfl) | exact Or.inr (Or.inr rfl) | exact fun _ => rfl | exact Nat.le_of_ble_eq_true rfl)) (by first | rfl | decide | exact Or.inl rfl | exact Or.inr rfl | exact Or.inr (Or.inl rfl) | exact Or.inr (Or.inr rfl) | exact fun _ => rfl | exact Nat.le_of_ble_eq_true rfl)) (@pss_one _ _ _ (@ps_set _ _ 2 _ _ _ _ sc__law_other.nd rfl (Or.inl rfl) (@pe_op _ _ _ _ _ _ _ _ op_cat (pv 2) (@pe_op _ _ _ _ _ _ _ _ op_rep (@pe_lst _ _ _ _ (@pa_cons _ _ _ _ _ (@pe_op _ _ _ _ _ _ _ _ op_add (pv 1) pe_int) (@pa_cons _ _ _ _ _ (@pe_op _ _ _ _ _ _ _ _ op_sub (pv 1) pe_int) (@pa_cons _ _ _ _ _ (@pe_op _ _ _ _ _ _ _ _ op_sub pe_int (pv 1)) (@pa_cons _ _ _ _ _ (@pe_callTy _ _ _ _ _ _ _ _ _ call_str_int rfl B.str b_str (@pa_cons _ _ _ _ _ (pv 1) pa_nil (by first | rfl | decide | exact Or.inl rfl | exact Or.inr rfl | exact Or.inr (Or.inl rfl) | exact Or.inr (Or.inr rfl) | exact fun _ => rfl | exact Nat.le_of_ble_eq_true rfl)) (by first | rfl | decide | exact Or.inl rfl | exact Or.inr rfl | exact Or.inr (Or.inl rfl) | exact Or.inr (Or.inr rfl) | exact fun _ => rfl | exact Nat.le_of_ble_eq_true rfl) (by first | rfl | decide | exact Or.inl rfl | exact Or.inr rfl | exact Or.inr (Or.inl rfl) | exact Or.inr (Or.inr rfl) | exact fun _ => rfl | exact Nat.le_of_ble_eq_true rfl) (by first | rfl | decide | exact Or.inl rfl | exact Or.inr rfl | exact Or.inr (Or.inl rfl) | exact Or.inr (Or.inr rfl) | exact fun _ => rfl | exact Nat.le_of_ble_eq_true rfl) (by first | rfl | decide | exact Or.inl rfl | exact Or.inr rfl | exact Or.inr (Or.inl rfl) | exact Or.inr (Or.inr rfl) | exact fun _ => rfl | exact Nat.le_of_ble_eq_true rfl)) pa_nil (by first | rfl | decide | exact Or.inl rfl | exact Or.inr rfl | exact Or.inr (Or.inl rfl) | exact Or.inr (Or.inr rfl) | exact fun _ => rfl | exact Nat.le_of_ble_eq_true rfl)) (by first | rfl | decide | exact Or.inl rfl | exact Or.inr rfl | exact Or.inr (Or.inl rfl) | exact Or.inr (Or.inr rfl) | exact fun _ => rfl | exact Nat.le_of_ble_eq_true rfl)) (by first | rfl | decide | exact Or.inl rfl | exact Or.inr rfl | exact Or.inr (Or.inl rfl) | exact Or.inr (Or.inr rfl) | exact fun _ => rfl | exact Nat.le_of_ble_eq_true rfl)) (by first | rfl | decide | exact Or.inl rfl | exact Or.inr rfl | exact Or.inr (Or.inl rfl) | exact Or.inr (Or.inr rfl) | exact fun _ => rfl | exact Nat.le_of_ble_eq_true rfl))) pe_int)) (by first | rfl | decide | exact Or.inl rfl | exact Or.inr rfl | exact Or.inr (Or.inl rfl) | exact Or.inr (Or.inr rfl) | exact fun _ => rfl | exact Nat.le_of_ble_eq_true rfl) (by first | rfl | decide | exact Or.inl rfl | exact Or.inr rfl | exact Or.inr (Or.inl rfl) | exact Or.inr (Or.inr rfl) | exact fun _ => rfl | exact Nat.le_of_ble_eq_true rfl))) pss_nil) (@pss_one _ _ _ (@ps_ret _ _ _ _ (@pe_ix _ _ _ _ _ _ _ ix_list (pv 2) (@pe_callC _ _ _ _ _ _ _ _ _ _ c__law_draw hr rfl (@pa_cons _ _ _ _ _ (pv 0) (@pa_cons _ _ _ _ _ (@pe_callB _ _ _ _ _ _ _ _ _ call_len_seq rfl B.len b_len (@pa_cons _ _ _ _ _ (pv 2) pa_nil (by first | rfl | decide | exact Or.inl rfl | exact Or.inr rfl | exact Or.inr (Or.inl rfl) | exact Or.inr (Or.inr rfl) | exact fun _ => rfl | exact Nat.le_of_ble_eq_true rfl)) (by first | rfl | decide | exact Or.inl rfl | exact Or.inr rfl | exact Or.inr (Or.inl rfl) | exact Or.inr (Or.inr rfl) | exact fun _ => rfl | exact Nat.le_of_ble_eq_true rfl) (by first | rfl | decide | exact Or.inl rfl | exact Or.inr rfl | exact Or.inr (Or.inl rfl) | exact Or.inr (Or.inr rfl) | exact fun _ => rfl | exact Nat.le_of_ble_eq_true rfl) (by first | rfl | decide | exact Or.inl rfl | exact Or.inr rfl | exact Or.inr (Or.inl rfl) | exact Or.inr (Or.inr rfl) | exact fun _ => rfl | exact Nat.le_of_ble_eq_true rfl) (by first | rfl | decide | exact Or.inl rfl | exact Or.inr rfl | exact Or.inr (Or.inl rfl) | exact Or.inr (Or.inr rfl) | exact fun _ => rfl | exact Nat.le_of_ble_eq_true rfl)) pa_nil (by first | rfl | decide | exact Or.inl rfl | exact Or.inr rfl | exact Or.inr (Or.inl rfl) | exact Or.inr (Or.inr rfl) | exact fun _ => rfl | exact Nat.le_of_ble_eq_true rfl)) (by first | rfl | decide | exact Or.inl rfl | exact Or.inr rfl | exact Or.inr (Or.inl rfl) | exact Or.inr (Or.inr rfl) | exact fun _ => rfl | exact Nat.le_of_ble_eq_true rfl)) (by first | rfl | decide | exact Or.inl rfl | exact Or.inr rfl | exact Or.inr (Or.inl rfl) | exact Or.inr (Or.inr rfl) | exact fun _ => rfl | exact Nat.le_of_ble_eq_true rfl) (by first | rfl | decide | exact Or.inl rfl | exact Or.inr rfl | exact Or.inr (Or.inl rfl) | exact Or.inr (Or.inr rfl) | exact fun _ => rfl | exact Nat.le_of_ble_eq_true rfl) (by first | rfl | decide | exact Or.inl rfl | exact Or.inr rfl | exact Or.inr (Or.inl rfl) | exact Or.inr (Or.inr rfl) | exact fun _ => rfl | exact Nat.le_of_ble_eq_true rfl)) (fun _ _ => rfl))))))), ?_⟩
  refine ⟨[a], trivial, pot_ne pp, fun x1 H1 g1 o1 => ?_⟩
  obtain ⟨l1, xs1, rfl, hl1, m1, s1, t1⟩ := o1.inv_lst
  have pp1 := pp.grow g1
  have hd1 := hd.grow (g1.mono (by simp))
  refine ⟨_, rfl, [a], ⟨⟨_, rfl, hd1⟩, ⟨_, rfl, hd1⟩, ⟨_, rfl, hd1⟩, trivial⟩, pot_ne pp1, fun x2 H2 g2 o2 => ?_⟩
  obtain ⟨l2, xs2, rfl, hl2, m2, s2, t2⟩ := o2.inv_lst
  have e1 := t1.length
  have e2 := t2.length
  refine ⟨l1, l2, xs1, xs2, rfl, rfl, g2.keep _ _ (by simp) hl1, hl2, Nat.le_of_lt (small1000 (by rw [e1, e2]; exact Nat.le_of_ble_eq_true rfl)), fun l3 hl3 => ?_⟩
  have d3 := Grow.new (m := []) hl3 (.lst (xs1 ++ xs2))
  have G3 := g1.trans (g2.trans d3)
  have pp3 := pp.grow G3
  have t3 := ((t1.grow (g2.mono (by simp))).append t2).grow (d3.mono (m' := [a]) (by simp))
  have h3 : upd H2 l3 (.lst (xs1 ++ xs2)) l3 = some (.lst (xs1 ++ xs2)) := upd_same
  have n3 : l3 ∉ [a] := fun z => pot_ne (pp.grow (g1.trans g2)) l3 z hl3
  have hd3 := hd.grow (G3.mono (by simp))
  have gd0 : ∀ e ∈ L25a ++ (L25b ++ [.list [d], .tuple [d], .dict [(.int 0, d)]]), GdD (n + 1) (k + 3) (w + 30000) e := by
    intro e he
    rcases List.mem_append.mp he with he | he
    · exact okC_gd (List.all_eq_true.mp L25a_ok e he) n k w
    rcases List.mem_append.mp he with he | he
    · exact okC_gd (List.all_eq_true.mp L25b_ok e he) n k w
    have g1' := gd.one
    simp only [List.mem_cons, List.not_mem_nil, or_false] at he
    rcases he with rfl | rfl | rfl
    · exact g1'.lst.mono (by omega) (by omega) (by omega)
    · exact g1'.tup.mono (by omega) (by omega) (by omega)
    · refine ⟨?_, ?_, ?_⟩
      · show (leD _ (.int 0) && leD _ d && true) = true
        rw [leD_mono (show (10 : Int) ^ 30 + n ≤ 10 ^ 30 + (n + 1 : Nat) by omega) gd.le, (num_gd (n := n + 1) (i := 0) (by omega) (by omega)).le]; rfl
      · show max (max 0 d.depth) 0 + 1 ≤ k + 3
        have := gd.dp; omega
      · show 1921 + wtO d + 4 + 0 + 3 ≤ w + 30000
        have := gd.wt; omega
  generalize upd H2 l3 (.lst (xs1 ++ xs2)) = H3 at G3 pp3 t3 h3 hd3 ⊢
  refine c_name (c_if (fun σ H' => ∃ (l : Addr) (xs : List V) (ds : List PyData), σ = [some (.ref a), some y, some (.ref l)] ∧ Grow [] H H' ∧ H' l = some (.lst xs) ∧ l ∉ [a] ∧ Ods K [a] H' xs ds ∧ ds.length ≤ 100 ∧ ds ≠ [] ∧ ∀ e ∈ ds, GdD (n + 1) (k + 3) (w + 30000) e) ?_ (fun hR => ?_))
  · rintro σ H4 ⟨l, xs, ds, rfl, g4, h4, n4, t4, len4, ne4, gd4⟩
    have pp4 := pp.grow g4
    have e4 := t4.length
    have pos : 0 < ds.length := List.length_pos_iff.mpr ne4
    refine ⟨_, rfl, _, rfl, _, rfl, l, _, rfl, .inl (SqL.of h4), _, _, rfl, a, _, rfl, rfl, pp4, by rw [e4]; omega, by rw [e4]; omega, fun j0 H5 u5 v5 g5 pp5 => ?_⟩
    obtain ⟨j, rfl⟩ : ∃ j : Nat, j0 = j := ⟨j0.toNat, by omega⟩
    obtain ⟨x5, hx5⟩ : ∃ x, xs[j]? = some x := ⟨_, List.getElem?_eq_getElem (by omega)⟩
    obtain ⟨d5, hd5, o5⟩ := t4.get hx5
    exact ⟨l, _, j, x5, rfl, rfl, SqL.of (g5.keep _ _ n4 h4), atI_nat hx5, q _ d5 H5 ((g4.mono (by simp)).trans g5) pp5 (o5.grow g5) (gd4 d5 (List.mem_of_getElem? hd5))⟩
  · refine ⟨_, rfl, _, rfl, d, [a], hd3, _, rfl, ?_⟩
    have base := hR [some (.ref a), some y, some (.ref l3)] H3 ⟨l3, _, _, rfl, G3, h3, n3, t3, Nat.le_of_ble_eq_true rfl, (fun z => nomatch z), gd0⟩
    cases hw : wholeD d with
    | false => exact iteF base
    | true =>
      cases d with
      | int v =>
        obtain rfl := hd.inv_int
        have hv : -(10 ^ 30) - (n : Int) ≤ v ∧ v ≤ 10 ^ 30 + n := by
          have z := gd.le
          simp only [leD, Bool.and_eq_true, decide_eq_true_eq] at z
          omega
        have gi : ∀ i : Int, -(10 ^ 30) - ((n + 1 : Nat) : Int) ≤ i → i ≤ 10 ^ 30 + ((n + 1 : Nat) : Int) → GdD (n + 1) (k + 3) (w + 30000) (.int i) := fun i p1 p2 => (num_gd p1 p2).mono (Nat.le_refl _) (by omega) (by omega)
        have hlog : v.natAbs.log2 < 1920 := of_decide_eq_true (showable_le (Bg_le (n := n) (by omega)) gd.le)
        have gs : GdD (n + 1) (k + 3) (w + 30000) (.str (toString v)) := ⟨rfl, Nat.zero_le _, by have := digits_repr hlog; omega⟩
        refine iteT ⟨_, rfl, _, rfl, _, _, rfl, rfl, _, rfl, _, _, rfl, rfl, _, rfl, _, _, rfl, rfl, _, rfl, v, rfl, hlog, szl rfl, fun l4 hl4 => ?_⟩
        have d4 := Grow.new (m := []) hl4 (.lst [V.int (v + 1), V.int (v - 1), V.int (0 - v), V.str (toString v)])
        refine ⟨l4, 2, _, rfl, rfl, upd_same, by decide, by decide, szl rfl, fun l5 hl5 => ?_⟩
        have d5 := Grow.new (m := []) hl5 (.lst (List.replicate (2 : Int).toNat [V.int (v + 1), V.int (v - 1), V.int (0 - v), V.str (toString v)]).flatten)
        refine ⟨l3, l5, _, _, rfl, rfl, (d4.trans d5).keep _ _ (by simp) h3, upd_same, Nat.le_of_lt (small1000 (by rw [t3.length]; exact Nat.le_of_ble_eq_true rfl)), fun l6 hl6 => ?_⟩
        have d6 := Grow.new (m := []) hl6 (.lst ((xs1 ++ xs2) ++ (List.replicate (2 : Int).toNat [V.int (v + 1), V.int (v - 1), V.int (0 - v), V.str (toString v)]).flatten))
        have G6 := G3.trans (d4.trans (d5.trans d6))
        have t4 : ∀ Hx, Ods K [a] Hx (List.replicate (2 : Int).toNat [V.int (v + 1), V.int (v - 1), V.int (0 - v), V.str (toString v)]).flatten ([.int (v + 1), .int (v - 1), .int (0 - v), .str (toString v)] ++ [.int (v + 1), .int (v - 1), .int (0 - v), .str (toString v)]) := fun Hx => .cons (.int _) (.cons (.int _) (.cons (.int _) (.cons (.str _) (.cons (.int _) (.cons (.int _) (.cons (.int _) (.cons (.str _) .nil)))))))
        refine hR _ _ ⟨l6, _, _, rfl, G6, upd_same, fun z => pot_ne (pp3.grow (d4.trans d5)) l6 z hl6, (t3.grow ((d4.trans (d5.trans d6)).mono (by simp))).append (t4 _), Nat.le_of_ble_eq_true rfl, (fun z => nomatch z), ?_⟩
        intro e he
        rcases List.mem_append.mp he with he | he
        · exact gd0 e he
        · have key : ∀ e ∈ [PyData.int (v + 1), .int (v - 1), .int (0 - v), .str (toString v)], GdD (n + 1) (k + 3) (w + 30000) e := by
            intro e he
            simp only [List.mem_cons, List.not_mem_nil, or_false] at he
            rcases he with rfl | rfl | rfl | rfl
            · exact gi _ (by omega) (by omega)
            · exact gi _ (by omega) (by omega)
            · exact gi _ (by omega) (by omega)
            · exact gs
          rcases List.mem_append.mp he with he | he
          · exact key e he
          · exact key e he
      | _ => cases hw
theorem sc__law_bent : FnScope ["_law_pot_here", "_law_thing", "_law_deep", "_law_choice", "_law_at"] ["_law_pot_here", "_law_thing", "_law_deep"] (defScope (top 16)) := ⟨rfl, rfl, rfl, by decide +kernel, rfl, by decide +kernel, by decide +kernel⟩
set_option maxHeartbeats 0 in
theorem ok__law_bent {n : Nat} {f : Addr} {fd : FuncData} (F : Fun K "_law_bent" "_law_bent" (top 16) f fd) (B : Blt mg) {N : Nat} (c__law_bent : Callee P w K mg base n "_law_bent" ["_law_pot_here", "_law_thing", "_law_deep"] (sp_bent25 N K)) (c__law_other : Callee P w K mg base n "_law_other" ["_law_pot_here", "_law_thing"] (sp_other25 K)) (c__law_draw : Callee P w K mg base n "_law_draw" ["_law_pot_here", "_law_many"] (sp_draw K))    :
    FnOk P w K mg base CX0 (n + 1) f fd ["_law_pot_here", "_law_thing", "_law_deep"] (sp_bent25 (N + 1) K) := by
  refine F.ok sc__law_bent sp3_len (fun cdv A outer s H vs Q E hr h => ?_)
  obtain ⟨x, y, z, rfl, a, d, n, k, w, dp, rfl, rfl, pp, hd, gd, n1, hN, dp0, w1, q⟩ := h
  refine ⟨_, (@pss_cons _ _ _ _ _ (@ps_set _ _ 3 _ _ _ _ sc__law_bent.nd rfl (Or.inl rfl) (@pe_callC _ _ _ _ _ _ _ _ _ _ c__law_draw hr rfl (@pa_cons _ _ _ _ _ (pv 0) (@pa_cons _ _ _ _ _ pe_int pa_nil (by first | rfl | decide | exact Or.inl rfl | exact Or.inr rfl | exact Or.inr (Or.inl rfl) | exact Or.inr (Or.inr rfl) | exact fun _ => rfl | exact Nat.le_of_ble_eq_true rfl)) (by first | rfl | decide | exact Or.inl rfl | exact Or.inr rfl | exact Or.inr (Or.inl rfl) | exact Or.inr (Or.inr rfl) | exact fun _ => rfl | exact Nat.le_of_ble_eq_true rfl)) (by first | rfl | decide | exact Or.inl rfl | exact Or.inr rfl | exact Or.inr (Or.inl rfl) | exact Or.inr (Or.inr rfl) | exact fun _ => rfl | exact Nat.le_of_ble_eq_true rfl) (by first | rfl | decide | exact Or.inl rfl | exact Or.inr rfl | exact Or.inr (Or.inl rfl) | exact Or.inr (Or.inr rfl) | exact fun _ => rfl | exact Nat.le_of_ble_eq_true rfl) (by first | rfl | decide | exact Or.inl rfl | exact Or.inr rfl | exact Or.inr (Or.inl rfl) | exact Or.inr (Or.inr rfl) | exact fun _ => rfl | exact Nat.le_of_ble_eq_true rfl)) (by first | rfl | decide | exact Or.inl rfl | exact Or.inr rfl | exact Or.inr (Or.inl rfl) | exact Or.inr (Or.inr rfl) | exact fun _ => rfl | exact Nat.le_of_ble_eq_true rfl) (by first | rfl | decide | exact Or.inl rfl | exact Or.inr rfl | exact Or.inr (Or.inl rfl) | exact Or.inr (Or.inr rfl) | exact fun _ => rfl | exact Nat.le_of_ble_eq_true rfl)) (@pss_cons _ _ _ _ _ (@ps_if _ _ _ _ _ _ _ _ (@PW.pt _ _ _ (@pw_or _ _ _ _ _ _ _ (@pt_not _ _ _ _ (@pt_val _ _ _ (@pe_callB _ _ _ _ _ _ _ _ _ (call_isiO (K := K) rfl) rfl B.isinstance b_isinstance (@pa_cons _ _ _ _ _ (pv 1) (@pa_cons _ _ _ _ _ (pe_tyn rfl B.tuple b_tuple) pa_nil (by first | rfl | decide | exact Or.inl rfl | exact Or.inr rfl | exact Or.inr (Or.inl rfl) | exact Or.inr (Or.inr rfl) | exact fun _ => rfl | exact Nat.le_of_ble_eq_true rfl)) (by first | rfl | decide | exact Or.inl rfl | exact Or.inr rfl | exact Or.inr (Or.inl rfl) | exact Or.inr (Or.inr rfl) | exact fun _ => rfl | exact Nat.le_of_ble_eq_true rfl)) (by first | rfl | decide | exact Or.inl rfl | exact Or.inr rfl | exact Or.inr (Or.inl rfl) | exact Or.inr (Or.inr rfl) | exact fun _ => rfl | exact Nat.le_of_ble_eq_true rfl) (by first | rfl | decide | exact Or.inl rfl | exact Or.inr rfl | exact Or.inr (Or.inl rfl) | exact Or.inr (Or.inr rfl) | exact fun _ => rfl | exact Nat.le_of_ble_eq_true rfl) (by first | rfl | decide | exact Or.inl rfl | exact Or.inr rfl | exact Or.inr (Or.inl rfl) | exact Or.inr (Or.inr rfl) | exact fun _ => rfl | exact Nat.le_of_ble_eq_true rfl) (by first | rfl | decide | exact Or.inl rfl | exact Or.inr rfl | exact Or.inr (Or.inl rfl) | exact Or.inr (Or.inr rfl) | exact fun _ => rfl | exact Nat.le_of_ble_eq_true rfl)) (by first | rfl | decide | exact Or.inl rfl | exact Or.inr rfl | exact Or.inr (Or.inl rfl) | exact Or.inr (Or.inr rfl) | exact fun _ => rfl | exact Nat.le_of_ble_eq_true rfl))) (@pw_or _ _ _ _ _ _ _ (@pt_cmpR _ _ _ _ _ _ _ _ op_eq (pv 2) pe_int (nomark _)) (@pw_or1 _ _ _ _ (@pt_cmpR _ _ _ _ _ _ _ _ op_eq (pv 3) pe_int (nomark _)))))) (@pss_one _ _ _ (@ps_ret _ _ _ _ (@pe_callC _ _ _ _ _ _ _ _ _ _ c__law_other hr rfl (@pa_cons _ _ _ _ _ (pv 0) (@pa_cons _ _ _ _ _ (pv 1) pa_nil (by first | rfl | decide | exact Or.inl rfl | exact Or.inr rfl | exact Or.inr (Or.inl rfl) | exact Or.inr (Or.inr rfl) | exact fun _ => rfl | exact Nat.le_of_ble_eq_true rfl)) (by first | rfl | decide | exact Or.inl rfl | exact Or.inr rfl | exact Or.inr (Or.inl rfl) | exact Or.inr (Or.inr rfl) | exact fun _ => rfl | exact Nat.le_of_ble_eq_true rfl)) (by first | rfl | decide | exact Or.inl rfl | exact Or.inr rfl | exact Or.inr (Or.inl rfl) | exact Or.inr (Or.inr rfl) | exact fun _ => rfl | exact Nat.le_of_ble_eq_true rfl) (by first | rfl | decide | exact Or.inl rfl | exact Or.inr rfl | exact Or.inr (Or.inl rfl) | exact Or.inr (Or.inr rfl) | exact fun _ => rfl | exact Nat.le_of_ble_eq_true rfl) (by first | rfl | decide | exact Or.inl rfl | exact Or.inr rfl | exact Or.inr (Or.inl rfl) | exact Or.inr (Or.inr rfl) | exact fun _ => rfl | exact Nat.le_of_ble_eq_true rfl)))) pss_nil) (@pss_cons _ _ _ _ _ (@ps_set _ _ 4 _ _ _ _ sc__law_bent.nd rfl (Or.inl rfl) (@pe_callC _ _ _ _ _ _ _ _ _ _ c__law_draw hr rfl (@pa_cons _ _ _ _ _ (pv 0) (@pa_cons _ _ _ _ _ (@pe_op _ _ _ _ _ _ _ _ op_add (@pe_callB _ _ _ _ _ _ _ _ _ call_len_seq rfl B.len b_len (@pa_cons _ _ _ _ _ (pv 1) pa_nil (by first | rfl | decide | exact Or.inl rfl | exact Or.inr rfl | exact Or.inr (Or.inl rfl) | exact Or.inr (Or.inr rfl) | exact fun _ => rfl | exact Nat.le_of_ble_eq_true rfl)) (by first | rfl | decide | exact Or.inl rfl | exact Or.inr rfl | exact Or.inr (Or.inl rfl) | exact Or.inr (Or.inr rfl) | exact fun _ => rfl | exact Nat.le_of_ble_eq_true rfl) (by first | rfl | decide | exact Or.inl rfl | exact Or.inr rfl | exact Or.inr (Or.inl rfl) | exact Or.inr (Or.inr rfl) | exact fun _ => rfl | exact Nat.le_of_ble_eq_true rfl) (by first | rfl | decide | exact Or.inl rfl | exact Or.inr rfl | exact Or.inr (Or.inl rfl) | exact Or.inr (Or.inr rfl) | exact fun _ => rfl | exact Nat.le_of_ble_eq_true rfl) (by first | rfl | decide | exact Or.inl rfl | exact Or.inr rfl | exact Or.inr (Or.inl rfl) | exact Or.inr (Or.inr rfl) | exact fun _ => rfl | exact Nat.le_of_ble_eq_true rfl)) pe_int) pa_nil (by first | rfl | decide | exact Or.inl rfl | exact Or.inr rfl | exact Or.inr (Or.inl rfl) | exact Or.inr (Or.inr rfl) | exact fun _ => rfl | exact Nat.le_of_ble_eq_true rfl)) (by first | rfl | decide | exact Or.inl rfl | exact Or.inr rfl | exact Or.inr (Or.inl rfl) | exact Or.inr (Or.inr rfl) | exact fun _ => rfl | exact Nat.le_of_ble_eq_true rfl)) (by first | rfl | decide | exact Or.inl rfl | exact Or.inr rfl | exact Or.inr (Or.inl rfl) | exact Or.inr (Or.inr rfl) | exact fun _ => rfl | exact Nat.le_of_ble_eq_true rfl) (by first | rfl | decide | exact Or.inl rfl | exact Or.inr rfl | exact Or.inr (Or.inl rfl) | exact Or.inr (Or.inr rfl) | exact fun _ => rfl | exact Nat.le_of_ble_eq_true rfl) (by first | rfl | decide | exact Or.inl rfl | exact Or.inr rfl | exact Or.inr (Or.inl rfl) | exact Or.inr (Or.inr rfl) | exact fun _ => rfl | exact Nat.le_of_ble_eq_true rfl)) (by first | rfl | decide | exact Or.inl rfl | exact Or.inr rfl | exact Or.inr (Or.inl rfl) | exact Or.inr (Or.inr rfl) | exact fun _ => rfl | exact Nat.le_of_ble_eq_true rfl) (by first | rfl | decide | exact Or.inl rfl | exact Or.inr rfl | exact Or.inr (Or.inl rfl) | exact Or.inr (Or.inr rfl) | exact fun _ => rfl | exact Nat.le_of_ble_eq_true rfl)) (@pss_cons _ _ _ _ _ (@ps_if _ _ _ _ _ _ _ _ (@pt_cmpR _ _ _ _ _ _ _ _ op_eq (pv 3) pe_int (nomark _)) (@pss_one _ _ _ (@ps_ret _ _ _ _ (@pe_callTy _ _ _ _ _ _ _ _ _ (call_listB (K := K) rfl) rfl B.list b_list (@pa_cons _ _ _ _ _ (pv 1) pa_nil (by first | rfl | decide | exact Or.inl rfl | exact Or.inr rfl | exact Or.inr (Or.inl rfl) | exact Or.inr (Or.inr rfl) | exact fun _ => rfl | exact Nat.le_of_ble_eq_true rfl)) (by first | rfl | decide | exact Or.inl rfl | exact Or.inr rfl | exact Or.inr (Or.inl rfl) | exact Or.inr (Or.inr rfl) | exact fun _ => rfl | exact Nat.le_of_ble_eq_true rfl) (by first | rfl | decide | exact Or.inl rfl | exact Or.inr rfl | exact Or.inr (Or.inl rfl) | exact Or.inr (Or.inr rfl) | exact fun _ => rfl | exact Nat.le_of_ble_eq_true rfl) (by first | rfl | decide | exact Or.inl rfl | exact Or.inr rfl | exact Or.inr (Or.inl rfl) | exact Or.inr (Or.inr rfl) | exact fun _ => rfl | exact Nat.le_of_ble_eq_true rfl) (by first | rfl | decide | exact Or.inl rfl | exact Or.inr rfl | exact Or.inr (Or.inl rfl) | exact Or.inr (Or.inr rfl) | exact fun _ => rfl | exact Nat.le_of_ble_eq_true rfl)))) pss_nil) (@pss_cons _ _ _ _ _ (@ps_if _ _ _ _ _ _ _ _ (@pt_cmpR _ _ _ _ _ _ _ _ op_eq (pv 3) pe_int (nomark _)) (@pss_one _ _ _ (@ps_ret _ _ _ _ (@pe_op _ _ _ _ _ _ _ _ (op_catG (K := K) rfl) (@pe_op _ _ _ _ _ _ _ _ (op_catG (K := K) rfl) (@pe_slice _ _ _ _ _ _ _ _ _ _ (sl_tupG (K := K) rfl) (pv 1) po_none (@po_some _ _ _ (pv 4))) (@pe_tup _ _ _ _ _ (@pa_cons _ _ _ _ _ (@pe_callC _ _ _ _ _ _ _ _ _ _ c__law_other hr rfl (@pa_cons _ _ _ _ _ (pv 0) (@pa_cons _ _ _ _ _ pe_int pa_nil (by first | rfl | decide | exact Or.inl rfl | exact Or.inr rfl | exact Or.inr (Or.inl rfl) | exact Or.inr (Or.inr rfl) | exact fun _ => rfl | exact Nat.le_of_ble_eq_true rfl)) (by first | rfl | decide | exact Or.inl rfl | exact Or.inr rfl | exact Or.inr (Or.inl rfl) | exact Or.inr (Or.inr rfl) | exact fun _ => rfl | exact Nat.le_of_ble_eq_true rfl)) (by first | rfl | decide | exact Or.inl rfl | exact Or.inr rfl | exact Or.inr (Or.inl rfl) | exact Or.inr (Or.inr rfl) | exact fun _ => rfl | exact Nat.le_of_ble_eq_true rfl) (by first | rfl | decide | exact Or.inl rfl | exact Or.inr rfl | exact Or.inr (Or.inl rfl) | exact Or.inr (Or.inr rfl) | exact fun _ => rfl | exact Nat.le_of_ble_eq_true rfl) (by first | rfl | decide | exact Or.inl rfl | exact Or.inr rfl | exact Or.inr (Or.inl rfl) | exact Or.inr (Or.inr rfl) | exact fun _ => rfl | exact Nat.le_of_ble_eq_true rfl)) pa_nil (by first | rfl | decide | exact Or.inl rfl | exact Or.inr rfl | exact Or.inr (Or.inl rfl) | exact Or.inr (Or.inr rfl) | exact fun _ => rfl | exact Nat.le_of_ble_eq_true rfl)))) (@pe_slice _ _ _ _ _ _ _ _ _ _ (sl_tupG (K := K) rfl) (pv 1) (@po_some _ _ _ (pv 4)) po_none)))) pss_nil) (@pss_cons _ _ _ _ _ (@ps_if _ _ _ _ _ _ _ _ (@pt_cmpR _ _ _ _ _ _ _ _ op_eq (pv 3) pe_int (nomark _)) (@pss_one _ _ _ (@ps_ret _ _ _ _ (@pe_op _ _ _ _ _ _ _ _ (op_catG (K := K) rfl) (@pe_op _ _ _ _ _ _ _ _ (op_catG (K := K) rfl) (@pe_slice _ _ _ _ _ _ _ _ _ _ (sl_tupG (K := K) rfl) (pv 1) po_none (@po_some _ _ _ (pv 4))) (@pe_slice _ _ _ _ _ _ _ _ _ _ (sl_tupG (K := K) rfl) (pv 1) (@po_some _ _ _ (pv 4)) (@po_some _ _ _ (@pe_op _ _ _ _ _ _ _ _ op_add (pv 4) pe_int)))) (@pe_slice _ _ _ _ _ _ _ _ _ _ (sl_tupG (K := K) rfl) (pv 1) (@po_some _ _ _ (pv 4)) po_none)))) pss_nil) (@pss_cons _ _ _ _ _ (@ps_if _ _ _ _ _ _ _ _ (@PW.pt _ _ _ (@pw_or _ _ _ _ _ _ _ (@pt_cmpR _ _ _ _ _ _ _ _ op_eq (pv 3) pe_int (nomark _)) (@pw_or1 _ _ _ _ (@pt_cmpR _ _ _ _ _ _ _ _ op_eq (pv 4) (@pe_callB _ _ _ _ _ _ _ _ _ call_len_seq rfl B.len b_len (@pa_cons _ _ _ _ _ (pv 1) pa_nil (by first | rfl | decide | exact Or.inl rfl | exact Or.inr rfl | exact Or.inr (Or.inl rfl) | exact Or.inr (Or.inr rfl) | exact fun _ => rfl | exact Nat.le_of_ble_eq_true rfl)) (by first | rfl | decide | exact Or.inl rfl | exact Or.inr rfl | exact Or.inr (Or.inl rfl) | exact Or.inr (Or.inr rfl) | exact fun _ => rfl | exact Nat.le_of_ble_eq_true rfl) (by first | rfl | decide | exact Or.inl rfl | exact Or.inr rfl | exact Or.inr (Or.inl rfl) | exact Or.inr (Or.inr rfl) | exact fun _ => rfl | exact Nat.le_of_ble_eq_true rfl) (by first | rfl | decide | exact Or.inl rfl | exact Or.inr rfl | exact Or.inr (Or.inl rfl) | exact Or.inr (Or.inr rfl) | exact fun _ => rfl | exact Nat.le_of_ble_eq_true rfl) (by first | rfl | decide | exact Or.inl rfl | exact Or.inr rfl | exact Or.inr (Or.inl rfl) | exact Or.inr (Or.inr rfl) | exact fun _ => rfl | exact Nat.le_of_ble_eq_true rfl)) (nomark _))))) (@pss_one _ _ _ (@ps_ret _ _ _ _ (@pe_op _ _ _ _ _ _ _ _ (op_catG (K := K) rfl) (@pe_slice _ _ _ _ _ _ _ _ _ _ (sl_tupG (K := K) rfl) (pv 1) po_none (@po_some _ _ _ (pv 4))) (@pe_slice _ _ _ _ _ _ _ _ _ _ (sl_tupG (K := K) rfl) (pv 1) (@po_some _ _ _ (@pe_op _ _ _ _ _ _ _ _ op_add (pv 4) pe_int)) po_none)))) pss_nil) (@pss_one _ _ _ (@ps_ret _ _ _ _ (@pe_op _ _ _ _ _ _ _ _ (op_catG (K := K) rfl) (@pe_op _ _ _ _ _ _ _ _ (op_catG (K := K) rfl) (@pe_slice _ _ _ _ _ _ _ _ _ _ (sl_tupG (K := K) rfl) (pv 1) po_none (@po_some _ _ _ (pv 4))) (@pe_tup _ _ _ _ _ (@pa_cons _ _ _ _ _ (@pe_callC _ _ _ _ _ _ _ _ _ _ c__law_bent hr rfl (@pa_cons _ _ _ _ _ (pv 0) (@pa_cons _ _ _ _ _ (@pe_ix _ _ _ _ _ _ _ ix_tup (pv 1) (pv 4) (fun _ _ => rfl)) (@pa_cons _ _ _ _ _ (@pe_op _ _ _ _ _ _ _ _ op_sub (pv 2) pe_int) pa_nil (by first | rfl | decide | exact Or.inl rfl | exact Or.inr rfl | exact Or.inr (Or.inl rfl) | exact Or.inr (Or.inr rfl) | exact fun _ => rfl | exact Nat.le_of_ble_eq_true rfl)) (by first | rfl | decide | exact Or.inl rfl | exact Or.inr rfl | exact Or.inr (Or.inl rfl) | exact Or.inr (Or.inr rfl) | exact fun _ => rfl | exact Nat.le_of_ble_eq_true rfl)) (by first | rfl | decide | exact Or.inl rfl | exact Or.inr rfl | exact Or.inr (Or.inl rfl) | exact Or.inr (Or.inr rfl) | exact fun _ => rfl | exact Nat.le_of_ble_eq_true rfl)) (by first | rfl | decide | exact Or.inl rfl | exact Or.inr rfl | exact Or.inr (Or.inl rfl) | exact Or.inr (Or.inr rfl) | exact fun _ => rfl | exact Nat.le_of_ble_eq_true rfl) (by first | rfl | decide | exact Or.inl rfl | exact Or.inr rfl | exact Or.inr (Or.inl rfl) | exact Or.inr (Or.inr rfl) | exact fun _ => rfl | exact Nat.le_of_ble_eq_true rfl) (by first | rfl | decide | exact Or.inl rfl | exact Or.inr rfl | exact Or.inr (Or.inl rfl) | exact Or.inr (Or.inr rfl) | exact fun _ => rfl | exact Nat.le_of_ble_eq_true rfl)) pa_nil (by first | rfl | decide | exact Or.inl rfl | exact Or.inr rfl | exact Or.inr (Or.inl rfl) | exact Or.inr (Or.inr rfl) | exact fun _ => rfl | exact Nat.le_of_ble_eq_true rfl)))) (@pe_slice _ _ _ _ _ _ _ _ _ _ (sl_tupG (K := K) rfl) (pv 1) (@po_some _ _ _ (@pe_op _ _ _ _ _ _ _ _ op_add (pv 4) pe_int)) po_none))))))))))), ?_⟩
  refine ⟨_, rfl, _, _, rfl, a, 10, rfl, rfl, pp, by decide, by decide, fun ch H1 l1 u1 g1 pp1 => ?_⟩
  have hd1 := hd.grow g1
  have oth : ∀ σ : L2.St, σ = [some (.ref a), some y, some (.int dp), some (.int ch), none] → tRet (tCall (sp_other25 K) [] E0 (tCons (tVar 0) (tCons (tVar 1) tNil))) { nx := fun _ H' => Q V.non H', rt := Q } σ H1 := fun σ hσ => by
    subst hσ
    exact ⟨_, rfl, _, rfl, _, _, rfl, a, d, n, k, w, rfl, pp1, hd1, gd, n1, fun z d' H' g' pp' o' gd' => q _ _ _ (g1.trans g') pp' o' (gd'.mono (Nat.le_refl _) (Nat.le_refl _) (by omega))⟩
  refine ⟨_, rfl, _, d, [a], _, _, rfl, hd1, kit_tup, _, rfl, ?_⟩
  cases ht : tupD d with
  | false => exact iteT (iteT (oth _ rfl))
  | true =>
    refine iteF ⟨_, rfl, rfl, _, rfl, ?_⟩
    by_cases hdp : dp = 0
    · exact iteT' (decide_eq_true (congrArg V.int (by omega))) (iteT (oth _ rfl))
    refine iteF' (decide_eq_false fun z => hdp (by have := V.int.inj z; omega)) ⟨_, rfl, rfl, _, rfl, ?_⟩
    by_cases hc0 : ch = 0
    · exact iteT' (decide_eq_true (congrArg V.int hc0)) (oth _ rfl)
    refine iteF' (decide_eq_false fun z => hc0 (V.int.inj z)) ?_
    clear oth
    cases d with
    | tuple ds =>
      obtain ⟨b, xs, rfl, hs1, t1⟩ := hd1.inv_tup
      have hk : PyData.depthAll ds + 1 ≤ k := gd.dp
      have hw : wtOs ds + 3 ≤ w := gd.wt
      have gds0 : GdS n (PyData.depthAll ds) (wtOs ds) ds := GdS.of gd.le
      have gds := gds0.mono (Nat.le_succ n) (show PyData.depthAll ds ≤ k + 2 by omega) (Nat.le_refl _)
      have hxl := t1.length
      have hlen : 2 * ds.length ≤ wtOs ds := wtOs_len
      refine ⟨_, rfl, _, rfl, b, xs, rfl, .inr hs1, _, _, rfl, rfl, _, _, rfl, a, _, rfl, rfl, pp1, by omega, by omega, fun at0 H2 l2 u2 g2 pp2 => ?_⟩
      obtain ⟨t, rfl⟩ : ∃ t : Nat, at0 = t := ⟨at0.toNat, by omega⟩
      have htl : t ≤ xs.length := by omega
      have hs2 := g2.sqT hs1
      have t2 := t1.grow g2
      have G2 := g1.trans g2
      have ep : cutV xs none (some (t : Int)) = xs.take t := cut_pre
      have es : cutV xs (some (t : Int)) none = xs.drop t := cut_suf
      have es1 : cutV xs (some ((t : Int) + 1)) none = xs.drop (t + 1) := cut_suf (c := t + 1)
      have wsp := wt_split (ds := ds) t
      have lt : (xs.take t).length ≤ xs.length := by rw [List.length_take]; omega
      have ld : ∀ i, (xs.drop i).length ≤ xs.length := fun i => by rw [List.length_drop]; omega
      clear g1 g2 hd hd1 hs1 t1 pp pp1
      refine ⟨_, rfl, rfl, _, rfl, ?_⟩
      by_cases c1 : ch = 1
      · refine iteT' (decide_eq_true (congrArg V.int c1)) ⟨_, rfl, b, _, rfl, .inr hs2, fun l3 h3 s3 => ?_⟩
        have d3 := Grow.new (m := []) h3 (.lst xs)
        exact q _ _ _ (G2.trans (d3.mono (by simp))) (pp2.grow d3) (.lst upd_same (fun z => pot_ne pp2 l3 z h3) s3 (t2.grow (d3.mono (by simp)))) (gds.lst.mono (Nat.le_refl _) (by omega) (by omega))
      refine iteF' (decide_eq_false fun z => c1 (V.int.inj z)) ⟨_, rfl, rfl, _, rfl, ?_⟩
      by_cases c2 : ch = 2
      · refine iteT' (decide_eq_true (congrArg V.int c2)) ⟨_, rfl, _, rfl, _, rfl, b, xs, rfl, hs2, fun p3 H3 g3 s3 => ?_⟩
        rw [ep] at s3
        refine ⟨_, rfl, _, _, rfl, a, .int 0, n, 0, 1921, rfl, pp2.grow g3, .int 0, num_gd (by omega) (by omega), n1, fun z d' H4 g4 pp4 o4 gd4 => ⟨szl rfl, fun t5 h5 => ?_⟩⟩
        have d5 := Grow.new (m := []) h5 (.tup [z])
        refine ⟨p3, t5, _, _, rfl, rfl, d5.sqT (g4.sqT s3), SqT.of upd_same, Nat.le_of_lt (smallM (by show _ + 1 ≤ 1000000; omega)), fun p6 H6 g6 s6 => ?_⟩
        have G6 : Grow [a] H2 H6 := (g3.mono (by simp)).trans (g4.trans ((d5.trans g6).mono (by simp)))
        refine ⟨_, rfl, _, rfl, _, rfl, b, xs, rfl, G6.sqT hs2, fun p7 H7 g7 s7 => ?_⟩
        rw [es] at s7
        refine ⟨p6, p7, _, _, rfl, rfl, g7.sqT s6, s7, Nat.le_of_lt (smallM (by have := ld t; rw [List.length_append]; show _ + 1 + _ ≤ 1000000; omega)), fun p8 H8 g8 s8 => ?_⟩
        have G8 : Grow [a] H2 H8 := G6.trans ((g7.trans g8).mono (by simp))
        have o8 := o4.grow ((d5.trans (g6.trans (g7.trans g8))).mono (m' := [a]) (by simp))
        exact q _ _ H8 (G2.trans G8) (pp4.grow (d5.trans (g6.trans (g7.trans g8)))) (.tup s8 ((((t2.grow G8).take t).append (.cons o8 .nil)).append ((t2.grow G8).drop t))) ((((gds.take t).append (gd4.mono (Nat.le_refl _) (show 0 + 3 ≤ k + 2 by omega) (Nat.le_refl _)).one).append (gds.drop t)).tup.mono (Nat.le_refl _) (by omega) (by omega))
      refine iteF' (decide_eq_false fun z => c2 (V.int.inj z)) ⟨_, rfl, rfl, _, rfl, ?_⟩
      by_cases c3 : ch = 3
      · refine iteT' (decide_eq_true (congrArg V.int c3)) ⟨_, rfl, _, rfl, _, rfl, b, xs, rfl, hs2, fun p3 H3 g3 s3 => ?_⟩
        rw [ep] at s3
        refine ⟨_, rfl, _, rfl, _, rfl, _, rfl, _, _, rfl, rfl, _, rfl, b, xs, rfl, g3.sqT hs2, fun p4 H4 g4 s4 => ?_⟩
        have lc := cutV_length xs (some (t : Int)) (some ((t : Int) + 1))
        refine ⟨p3, p4, _, _, rfl, rfl, g4.sqT s3, s4, Nat.le_of_lt (smallM (by omega)), fun p6 H6 g6 s6 => ?_⟩
        have G6 := g3.trans (g4.trans g6)
        refine ⟨_, rfl, _, rfl, _, rfl, b, xs, rfl, G6.sqT hs2, fun p7 H7 g7 s7 => ?_⟩
        rw [es] at s7
        refine ⟨p6, p7, _, _, rfl, rfl, g7.sqT s6, s7, Nat.le_of_lt (smallM (by have := ld t; rw [List.length_append]; omega)), fun p8 H8 g8 s8 => ?_⟩
        have G8' := G6.trans (g7.trans g8)
        have G8 : Grow [a] H2 H8 := G8'.mono (by simp)
        exact q _ _ H8 (G2.trans G8) (pp2.grow G8') (.tup s8 ((((t2.grow G8).take t).append (t2.grow G8).cut).append ((t2.grow G8).drop t))) ((((gds.take t).append gds.cut).append (gds.drop t)).tup.mono (Nat.le_refl _) (by omega) (by omega))
      refine iteF' (decide_eq_false fun z => c3 (V.int.inj z)) ⟨_, rfl, rfl, _, rfl, ?_⟩
      have cutr : tRet (tOp (rCatG K) (tSl (rSlG K) (tVar 1) tNoPart (tPart (tVar 4))) (tSl (rSlG K) (tVar 1) (tPart (tOp (rI0 fun i j => V.int (i + j)) (tVar 4) (tC (V.int 1)))) tNoPart)) { nx := fun _ H' => Q V.non H', rt := Q } [some (.ref a), some (.ref b), some (.int dp), some (.int ch), some (.int t)] H2 := by
        refine ⟨_, rfl, _, rfl, _, rfl, b, xs, rfl, hs2, fun p3 H3 g3 s3 => ?_⟩
        rw [ep] at s3
        refine ⟨_, rfl, _, rfl, _, _, rfl, rfl, _, rfl, b, xs, rfl, g3.sqT hs2, fun p7 H7 g7 s7 => ?_⟩
        rw [es1] at s7
        refine ⟨p3, p7, _, _, rfl, rfl, g7.sqT s3, s7, Nat.le_of_lt (smallM (by have := ld (t + 1); omega)), fun p8 H8 g8 s8 => ?_⟩
        have G8' := g3.trans (g7.trans g8)
        have G8 : Grow [a] H2 H8 := G8'.mono (by simp)
        have wd := wtOs_drop (xs := ds) (t + 1)
        have wt := wtOs_take (xs := ds) t
        exact q _ _ H8 (G2.trans G8) (pp2.grow G8') (.tup s8 (((t2.grow G8).take t).append ((t2.grow G8).drop (t + 1)))) (((gds.take t).append (gds.drop (t + 1))).tup.mono (Nat.le_refl _) (by omega) (by omega))
      by_cases c4 : ch = 4
      · exact iteT' (decide_eq_true (congrArg V.int c4)) (iteT cutr)
      refine iteF' (decide_eq_false fun z => c4 (V.int.inj z)) ⟨_, rfl, _, rfl, b, xs, rfl, .inr hs2, rfl, _, rfl, ?_⟩
      by_cases c5 : t = xs.length
      · exact iteT' (decide_eq_true (congrArg V.int (by omega))) cutr
      refine iteF' (decide_eq_false fun z => c5 (by have := V.int.inj z; omega)) ?_
      clear cutr
      obtain ⟨xe, hxe⟩ : ∃ x, xs[t]? = some x := ⟨_, List.getElem?_eq_getElem (by omega)⟩
      obtain ⟨e, hde, oe⟩ := t2.get hxe
      have wde := wt_drop_succ hde
      have lee : leD (10 ^ 30 + n) e = true := leDs_iff.mp gd.le e (List.mem_of_getElem? hde)
      have dee : e.depth ≤ PyData.depthAll ds := depthAll_le.mp (Nat.le_refl _) e (List.mem_of_getElem? hde)
      refine c_next ⟨_, rfl, _, rfl, _, rfl, b, xs, rfl, hs2, fun p3 H3 g3 s3 => ?_⟩
      rw [ep] at s3
      refine ⟨_, rfl, _, rfl, _, rfl, b, _, t, _, rfl, rfl, g3.sqT hs2, atI_nat hxe, _, rfl, _, _, rfl, rfl, _, _, _, rfl, a, e, n, e.depth, wtO e, dp - 1, rfl, congrArg V.int (by omega), pp2.grow g3, oe.grow (g3.mono (by simp)), ⟨lee, Nat.le_refl _, Nat.le_refl _⟩, n1, by omega, by omega, by omega, fun z d' H4 g4 pp4 o4 gd4 => ⟨szl rfl, fun t5 h5 => ?_⟩⟩
      have d5 := Grow.new (m := []) h5 (.tup [z])
      refine ⟨p3, t5, _, _, rfl, rfl, d5.sqT (g4.sqT s3), SqT.of upd_same, Nat.le_of_lt (smallM (by show _ + 1 ≤ 1000000; omega)), fun p6 H6 g6 s6 => ?_⟩
      have G6 : Grow [a] H2 H6 := (g3.mono (by simp)).trans (g4.trans ((d5.trans g6).mono (by simp)))
      refine ⟨_, rfl, _, rfl, _, _, rfl, rfl, _, rfl, b, xs, rfl, G6.sqT hs2, fun p7 H7 g7 s7 => ?_⟩
      rw [es1] at s7
      refine ⟨p6, p7, _, _, rfl, rfl, g7.sqT s6, s7, Nat.le_of_lt (smallM (by have := ld (t + 1); rw [List.length_append]; show _ + 1 + _ ≤ 1000000; omega)), fun p8 H8 g8 s8 => ?_⟩
      have G8 : Grow [a] H2 H8 := G6.trans ((g7.trans g8).mono (by simp))
      have o8 := o4.grow ((d5.trans (g6.trans (g7.trans g8))).mono (m' := [a]) (by simp))
      exact q _ _ H8 (G2.trans G8) (pp4.grow (d5.trans (g6.trans (g7.trans g8)))) (.tup s8 ((((t2.grow G8).take t).append (.cons o8 .nil)).append ((t2.grow G8).drop (t + 1)))) ((((gds.take t).append (gd4.mono (Nat.le_refl _) (show e.depth + 3 ≤ k + 2 by omega) (Nat.le_refl _)).one).append (gds.drop (t + 1))).tup.mono (Nat.le_refl _) (by omega) (by omega))
    | _ => cases ht
theorem sc__law_exchanged : FnScope ["_law_thing", "_law_one", "_law_other_here"] ["_law_thing", "_law_one", "_law_other_here"] (defScope (top 17)) := ⟨rfl, rfl, rfl, by decide +kernel, rfl, by decide +kernel, by decide +kernel⟩
set_option maxHeartbeats 0 in
theorem ok__law_exchanged {n : Nat} {f : Addr} {fd : FuncData} (F : Fun K "_law_exchanged" "_law_exchanged" (top 17) f fd) (B : Blt mg) {N : Nat} (c__law_exchanged : Callee P w K mg base n "_law_exchanged" ["_law_thing", "_law_one", "_law_other_here"] (sp_exch25 N K))    :
    FnOk P w K mg base CX0 (n + 1) f fd ["_law_thing", "_law_one", "_law_other_here"] (sp_exch25 (N + 1) K) := by
  refine F.ok sc__law_exchanged sp3_len (fun cdv A outer s H vs Q E hr h => ?_)
  obtain ⟨x, y, z, rfl, t, m, i, j, ht, rfl, rfl, hN, q⟩ := h
  refine ⟨_, (pss_cons (ps_if (pt_val (pe_callB (call_isiO (K := K) rfl) rfl B.isinstance b_isinstance (pa_cons (pv 0) (pa_cons (pe_tyn rfl B.tuple b_tuple) pa_nil)))) (pss_one (ps_ret (pe_callTy call_tuple_of rfl B.tuple b_tuple (pa_cons (pe_compT (CSc.of (N' := ["_law_part", "_law_one", "_law_other_here"]) (sub := [none, some 1, some 2]) (defScope (top 17)) ["_law_thing", "_law_one", "_law_other_here"] rfl rfl (by decide +kernel) rfl) rfl (pi_tup (pv 0)) (fun _ _ _ _ _ _ => pg_name (i := 0) (show (["_law_part", "_law_one", "_law_other_here"] : List Str).Nodup by decide +kernel) rfl (Or.inl rfl)) (fun _ _ _ _ _ _ => pifs_nil) (fun _ _ _ _ _ _ => (pe_callC c__law_exchanged hr rfl (pa_cons (pv 0) (pa_cons (pv 1) (pa_cons (pv 2) pa_nil)))))) pa_nil)))) pss_nil) (pss_one (ps_ret (pe_ix ix_list (pe_lst (pa_cons (pv 0) (pa_cons (pv 2) (pa_cons (pv 1) pa_nil)))) (pe_op op_add (pe_callTy call_int1 rfl B.int b_int (pa_cons (pe_cmpR op_eq (pv 0) (pv 1) (nomark _)) pa_nil)) (pe_op op_mulG pe_int (pe_callTy call_int1 rfl B.int b_int (pa_cons (pe_and (pe_cmpR op_eq (pv 0) (pv 2) (nomark _)) (pe_one (pe_cmpR op_ne (pv 1) (pv 2) (nomark _)))) pa_nil)))) (fun _ _ => rfl))))), ?_⟩
  have ob : Od K m H x (trD t) := tree_od ht
  refine ⟨_, rfl, _, _, m, _, _, rfl, ob, kit_tup, _, rfl, ?_⟩
  cases t with
  | leaf v =>
    cases (show x = V.int v from ht)
    refine iteF ⟨_, rfl, _, rfl, _, rfl, szl rfl, fun l hl => ?_⟩
    have g := Grow.new (m := []) hl (.lst [V.int v, V.int j, V.int i])
    refine ⟨_, rfl, _, rfl, rfl, .inr ⟨_, rfl, _, rfl, _, rfl, rfl, _, rfl, ?_⟩⟩
    have fin : ∀ (ix : Int) (r : Int), atI [V.int v, V.int j, V.int i] ix = some (V.int r) → r = (if v = i then j else if v = j then i else v) → rIxL K (.ref l) (.int ix) (upd H l (.lst [V.int v, V.int j, V.int i])) Q := fun ix r e1 e2 => ⟨l, _, ix, _, rfl, rfl, SqL.of upd_same, e1, q _ _ g (congrArg V.int e2)⟩
    by_cases hj : v = j
    · refine iteT' (decide_eq_true (congrArg V.int hj)) ⟨_, rfl, _, rfl, rfl, .inr ⟨_, rfl, _, _, rfl, rfl, mulOkL ⟨by decide, by decide⟩, _, _, rfl, rfl, ?_⟩⟩
      by_cases hi : v = i
      · exact fin _ j (by rw [decide_eq_true (congrArg V.int hi), decide_eq_true (congrArg V.int (hi.symm.trans hj))]; rfl) (by rw [if_pos hi])
      · exact fin _ i (by rw [decide_eq_false fun z => hi (V.int.inj z), decide_eq_false fun z => hi (hj.trans (V.int.inj z).symm)]; rfl) (by rw [if_neg hi, if_pos hj])
    · refine iteF' (decide_eq_false fun z => hj (V.int.inj z)) (.inr ⟨_, rfl, _, _, rfl, rfl, mulOkL ⟨by decide, by decide⟩, _, _, rfl, rfl, ?_⟩)
      by_cases hi : v = i
      · exact fin _ j (by rw [decide_eq_true (congrArg V.int hi)]; rfl) (by rw [if_pos hi])
      · exact fin _ v (by rw [decide_eq_false fun z => hi (V.int.inj z)]; rfl) (by rw [if_neg hi, if_neg hj])
  | node tl tr =>
    obtain ⟨a, xl, xr, rfl, hs, h1, h2⟩ := ht
    have hN2 : max tl.ht tr.ht + 1 < N + 1 := hN
    refine iteT ⟨_, rfl, a, rfl, ⟨_, hs⟩, ?_⟩
    refine comp_tup0 (xs := [xl, xr]) (fun n ys σ' H' => Grow [] H H' ∧ (∃ e, σ' = [e, some (.int i), some (.int j)]) ∧ AllR (TreeAt K H') ys ([exT i j tl, exT i j tr].take n)) ?_ ?_ ?_ ?_
    · exact ⟨Grow.refl _ _, ⟨_, rfl⟩, trivial⟩
    · rintro n ys σ' H' _ ⟨g, _⟩
      exact g.sqT hs
    · rintro n y ys σ' H' hy ⟨g, ⟨e, rfl⟩, ha⟩
      have key : ∀ (u : Tr), TreeAt K H y u → u.ht < N → [exT i j tl, exT i j tr].take (n + 1) = [exT i j tl, exT i j tr].take n ++ [exT i j u] → n < 2 → tCall (sp_exch25 N K) [] E0 (tCons (tVar 0) (tCons (tVar 1) (tCons (tVar 2) tNil))) [some y, some (.int i), some (.int j)] H' (fun z H5 => ys.length < sizeLine ∧ Grow [] H H5 ∧ (∃ e, [some y, some (V.int i), some (V.int j)] = [e, some (.int i), some (.int j)]) ∧ AllR (TreeAt K H5) (ys ++ [z]) ([exT i j tl, exT i j tr].take (n + 1))) := by
        intro u hu hh he hn2
        refine ⟨_, rfl, _, rfl, _, rfl, _, _, _, rfl, u, m, i, j, g.tree hu, rfl, rfl, hh, fun z H5 g5 h5 => ⟨small1000 (by rw [ha.len, List.length_take]; show min n 2 ≤ 1000; omega), g.trans g5, ⟨_, rfl⟩, ?_⟩⟩
        rw [he]
        exact (g5.treesR ha).app (.one h5)
      match n, hy with
      | 0, hy => cases Option.some.inj hy; exact key tl h1 (by omega) rfl (by decide)
      | 1, hy => cases Option.some.inj hy; exact key tr h2 (by omega) rfl (by decide)
    · rintro ys σ' H' ⟨g, _, ha⟩ l hl
      have ha' : AllR (TreeAt K H') ys [exT i j tl, exT i j tr] := ha
      match ys, ha' with
      | [y1, y2], ha' =>
        have d1 := Grow.new (m := []) hl (.lst [y1, y2])
        refine ⟨l, _, rfl, .inl ⟨SqL.of upd_same, fun l2 hl2 => ?_⟩⟩
        have d2 := Grow.new (m := []) hl2 (.tup [y1, y2])
        exact q _ _ (g.trans (d1.trans d2)) ⟨l2, y1, y2, rfl, SqT.of upd_same, (d1.trans d2).tree ha'.1, (d1.trans d2).tree ha'.2.1⟩
theorem sc__law_tree : FnScope ["_law_pot_here", "_law_first", "_law_many", "_law_choice", "_law_left"] ["_law_pot_here", "_law_first", "_law_many", "_law_choice"] (defScope (top 14)) := ⟨rfl, rfl, rfl, by decide +kernel, rfl, by decide +kernel, by decide +kernel⟩
set_option maxHeartbeats 0 in
theorem ok__law_tree {n : Nat} {f : Addr} {fd : FuncData} (F : Fun K "_law_tree" "_law_tree" (top 14) f fd) (B : Blt mg) {N : Nat} (c__law_tree : Callee P w K mg base n "_law_tree" ["_law_pot_here", "_law_first", "_law_many", "_law_choice"] (sp_law_tree N K)) (c__law_draw : Callee P w K mg base n "_law_draw" ["_law_pot_here", "_law_many"] (sp_draw K))    :
    FnOk P w K mg base CX0 (n + 1) f fd ["_law_pot_here", "_law_first", "_law_many", "_law_choice"] (sp_law_tree (N + 1) K) := by
  refine F.ok sc__law_tree sp4_len (fun cdv A outer s H vs Q E hr h => ?_)
  obtain ⟨x, y, z, u, rfl, a, f0, m, c, rfl, rfl, rfl, rfl, pp, f1, m0, m1, fm, c0, c1, q⟩ := h
  refine ⟨_, (pss_cons (ps_if (pt_cmpR op_eq (pv 2) pe_int (nomark _)) (pss_one (ps_ret (pv 1))) pss_nil) (pss_cons (ps_set (i := 4) sc__law_tree.nd rfl (Or.inl rfl) (pe_ix ix_list (pe_lst (pa_cons (pe_op op_add pe_int (pe_callC c__law_draw hr rfl (pa_cons (pv 0) (pa_cons (pe_op op_sub (pv 2) pe_int) pa_nil)))) (pa_cons pe_int (pa_cons (pe_op op_sub (pv 2) pe_int) pa_nil)))) (pv 3) (fun _ _ => rfl))) (pss_one (ps_ret (pe_tup (pa_cons (pe_callC c__law_tree hr rfl (pa_cons (pv 0) (pa_cons (pv 1) (pa_cons (pv 4) (pa_cons (pv 3) pa_nil))))) (pa_cons (pe_callC c__law_tree hr rfl (pa_cons (pv 0) (pa_cons (pe_op op_add (pv 1) (pv 4)) (pa_cons (pe_op op_sub (pv 2) (pv 4)) (pa_cons (pv 3) pa_nil))))) pa_nil))))))), ?_⟩
  refine ⟨_, rfl, rfl, _, rfl, ?_⟩
  by_cases cm : m = 1
  · subst cm
    exact iteT' (decide_eq_true rfl) ⟨_, rfl, q _ (.leaf f0) _ (Grow.refl _ _) pp rfl rfl rfl Nat.zero_lt_one ⟨by omega, by omega⟩⟩
  refine iteF' (decide_eq_false fun z => cm (V.int.inj z)) ?_
  refine ⟨_, rfl, _, rfl, _, _, rfl, rfl, _, _, rfl, a, _, rfl, rfl, pp, by omega, by omega, fun n1 H1 l1 u1 g1 pp1 => ?_⟩
  refine ⟨_, _, rfl, rfl, _, rfl, _, _, rfl, rfl, szl rfl, fun t1 ht1 => ?_⟩
  have gt : Grow [a] H1 (upd H1 t1 (.lst ([1 + n1, 1, m - 1].map V.int))) := Grow.new ht1 _
  have ppt := pp1.new ht1 (.lst ([1 + n1, 1, m - 1].map V.int))
  obtain ⟨L, hL, L1, L2⟩ : ∃ L : Int, atI ([1 + n1, 1, m - 1].map V.int) c = some (V.int L) ∧ 1 ≤ L ∧ L ≤ m - 1 := by
    obtain rfl | rfl | rfl : c = 0 ∨ c = 1 ∨ c = 2 := by omega
    · exact ⟨1 + n1, rfl, by omega, by omega⟩
    · exact ⟨1, rfl, by omega, by omega⟩
    · exact ⟨m - 1, rfl, by omega, by omega⟩
  refine ⟨_, rfl, t1, _, _, _, rfl, rfl, SqL.of upd_same, hL, ?_⟩
  refine ⟨_, rfl, _, rfl, _, rfl, _, rfl, _, _, _, _, rfl, a, f0, L, c, rfl, rfl, rfl, rfl, ppt, f1, L1, by omega, by omega, c0, c1, fun y2 T2 H2 g2 pp2 h2 o2 k2 d2 n2 => ?_⟩
  refine ⟨_, rfl, _, rfl, _, rfl, _, _, rfl, rfl, _, rfl, _, rfl, _, _, rfl, rfl, _, rfl, _, _, _, _, rfl, a, f0 + L, m - L, c, rfl, rfl, rfl, rfl, pp2, by omega, by omega, by omega, by omega, c0, c1, fun y3 T3 H3 g3 pp3 h3 o3 k3 d3 n3 => ⟨szl rfl, fun t4 ht4 => ?_⟩⟩
  have g4 : Grow [a] H3 (upd H3 t4 (.tup [y2, y3])) := Grow.new ht4 _
  refine q _ (.node T2 T3) _ (g1.trans (gt.trans (g2.trans (g3.trans g4)))) (pp3.new ht4 _) ⟨t4, y2, y3, rfl, SqT.of upd_same, g4.tree (g3.tree h2), g4.tree h3⟩ ⟨o2, by rw [k2]; exact o3⟩ ?_ ?_ ⟨n2, n3⟩
  · show T2.count + T3.count = m; omega
  · show max T2.ht T3.ht + 1 < m.toNat; omega
theorem sc__law_right : FnScope ["_law_pot_here", "_law_times", "_law_exchange", "_law_more", "_law_deep", "_law_many", "_law_tree_here", "_law_thing", "_law_turn", "_law_kept", "_law_asked", "_law_told", "_law_one"] ["_law_pot_here"] (defScope (top 21)) := ⟨rfl, rfl, rfl, by decide +kernel, rfl, by decide +kernel, by decide +kernel⟩
set_option maxHeartbeats 0 in
theorem ok__law_right {n : Nat} {f : Addr} {fd : FuncData} (F : Fun K "_law_right" "_law_right" (top 21) f fd) (B : Blt mg) (c__law_by_truths : Callee P w K mg base n "_law_by_truths" ["_law_thing", "_law_which"] (sp_bytr25 41 K)) (c__law_draw : Callee P w K mg base n "_law_draw" ["_law_pot_here", "_law_many"] (sp_draw K)) (c_is_tree : Callee P w K mg base n "is_tree" ["thing", "many"] (sp_is_treeO K)) (c__law_is_tree : Callee P w K mg base n "_law_is_tree" ["_law_thing", "_law_many"] (sp_lis_tree25 K)) (c__law_bent : Callee P w K mg base n "_law_bent" ["_law_pot_here", "_law_thing", "_law_deep"] (sp_bent25 42 K)) (c__law_exchanged : Callee P w K mg base n "_law_exchanged" ["_law_thing", "_law_one", "_law_other_here"] (sp_exch25 41 K)) (c__law_tree : Callee P w K mg base n "_law_tree" ["_law_pot_here", "_law_first", "_law_many", "_law_choice"] (sp_law_tree 40 K))    :
    FnOk P w K mg base CX0 (n + 1) f fd ["_law_pot_here"] (sp_right25 K) := by
  refine F.ok sc__law_right sp1_len (fun cdv A outer s H vs Q E hr h => ?_)
  obtain ⟨x, rfl, a, rfl, pp, q⟩ := h
  refine ⟨_, (pss_cons (ps_set (i := 1) sc__law_right.nd rfl (Or.inl rfl) (pe_callC c__law_draw hr rfl (pa_cons (pv 0) (pa_cons pe_int pa_nil)))) (pss_cons (ps_set (i := 2) sc__law_right.nd rfl (Or.inl rfl) (pe_callC c__law_draw hr rfl (pa_cons (pv 0) (pa_cons pe_int pa_nil)))) (pss_cons (ps_set (i := 3) sc__law_right.nd rfl (Or.inl rfl) (pe_ix ix_list (pe_lst (pa_cons pe_int (pa_cons pe_int (pa_cons pe_int (pa_cons pe_int (pa_cons (pe_un un_neg pe_int) pa_nil)))))) (pe_callC c__law_draw hr rfl (pa_cons (pv 0) (pa_cons pe_int pa_nil))) (fun _ _ => rfl))) (pss_cons (ps_set (i := 4) sc__law_right.nd rfl (Or.inl rfl) (pe_ix ix_list (pe_lst (pa_cons pe_int (pa_cons pe_int (pa_cons pe_int (pa_cons pe_int pa_nil))))) (pe_callC c__law_draw hr rfl (pa_cons (pv 0) (pa_cons pe_int pa_nil))) (fun _ _ => rfl))) (pss_cons (ps_set (i := 5) sc__law_right.nd rfl (Or.inl rfl) (pe_op op_add pe_int (pe_callC c__law_draw hr rfl (pa_cons (pv 0) (pa_cons pe_int pa_nil))))) (pss_cons (ps_set (i := 6) sc__law_right.nd rfl (Or.inl rfl) (pe_callC c__law_tree hr rfl (pa_cons (pv 0) (pa_cons pe_int (pa_cons (pv 5) (pa_cons (pe_callC c__law_draw hr rfl (pa_cons (pv 0) (pa_cons pe_int pa_nil))) pa_nil)))))) (pss_cons (ps_set (i := 7) sc__law_right.nd rfl (Or.inl rfl) (pv 6)) (pss_cons (ps_if (pt_cmpR op_eq (pv 2) pe_int (nomark _)) (pss_one (ps_set (i := 7) sc__law_right.nd rfl (Or.inl rfl) (pe_callC c__law_exchanged hr rfl (pa_cons (pv 7) (pa_cons (pe_callC c__law_draw hr rfl (pa_cons (pv 0) (pa_cons (pv 5) pa_nil))) (pa_cons (pe_callC c__law_draw hr rfl (pa_cons (pv 0) (pa_cons (pv 5) pa_nil))) pa_nil)))))) pss_nil) (pss_cons (ps_for PassesOwn.never rfl (pi_range1 rfl B.range (pa_cons (pe_callB (call_min2 rfl) rfl B.min b_min (pa_cons (pv 1) (pa_cons pe_int pa_nil))) pa_nil)) (pg_name (i := 8) sc__law_right.nd rfl (Or.inl rfl)) (pss_one (ps_set (i := 7) sc__law_right.nd rfl (Or.inl rfl) (pe_callC c__law_bent hr rfl (pa_cons (pv 0) (pa_cons (pv 7) (pa_cons (pv 4) pa_nil))))))) (pss_cons (ps_set (i := 9) sc__law_right.nd rfl (Or.inl rfl) (pe_callB (call_reprO (K := K) rfl hr) rfl B.repr b_repr (pa_cons (pv 7) pa_nil))) (pss_cons (ps_set (i := 10) sc__law_right.nd rfl (Or.inl rfl) (pe_callB (call_min2 rfl) rfl B.min b_min (pa_cons pe_int (pa_cons (pe_callB (call_max2 rfl) rfl B.max b_max (pa_cons pe_int (pa_cons (pe_op op_add (pv 5) (pv 3)) pa_nil))) pa_nil)))) (pss_cons (ps_for PassesOwn.never rfl (pi_range1 rfl B.range (pa_cons pe_int pa_nil)) (pg_name (i := 8) sc__law_right.nd rfl (Or.inl rfl)) (pss_cons (ps_set (i := 11) sc__law_right.nd rfl (Or.inl rfl) (pe_lstB (pa_cons (pe_callC c_is_tree hr rfl (pa_cons (pv 7) (pa_cons (pv 10) pa_nil))) (pa_cons (pe_callC c_is_tree hr rfl (pa_cons (pv 6) (pa_cons (pv 5) pa_nil))) (pa_cons (pe_callC c_is_tree hr rfl (pa_cons (pv 6) (pa_cons (pv 10) pa_nil))) pa_nil))))) (pss_one (ps_if (pt_cmpR op_ne (pe_callB (call_reprO (K := K) rfl hr) rfl B.repr b_repr (pa_cons (pv 11) pa_nil)) (pe_callB (call_reprO (K := K) rfl hr) rfl B.repr b_repr (pa_cons (pe_lstB (pa_cons (pe_callC c__law_is_tree hr rfl (pa_cons (pv 7) (pa_cons (pv 10) pa_nil))) (pa_cons pe_bl (pa_cons (pe_cmpR op_eq (pv 10) (pv 5) (nomark _)) pa_nil)))) pa_nil)) (nomark _)) (pss_one (ps_ret pe_bl)) pss_nil)))) (pss_cons (ps_for PassesOwn.never rfl (pi_list (pe_lst (pa_cons (pe_callC c__law_by_truths hr rfl (pa_cons (pv 6) (pa_cons (pe_callC c__law_draw hr rfl (pa_cons (pv 0) (pa_cons pe_int pa_nil))) pa_nil))) (pa_cons (pv 6) pa_nil)))) (pg_name (i := 12) sc__law_right.nd rfl (Or.inl rfl)) (pss_one (ps_if (pt_cmpR op_ne (pe_callB (call_reprO (K := K) rfl hr) rfl B.repr b_repr (pa_cons (pe_callC c_is_tree hr rfl (pa_cons (pv 12) (pa_cons (pv 5) pa_nil))) pa_nil)) (pe_callB (call_reprO (K := K) rfl hr) rfl B.repr b_repr (pa_cons (pe_callC c__law_is_tree hr rfl (pa_cons (pv 12) (pa_cons (pv 5) pa_nil))) pa_nil)) (nomark _)) (pss_one (ps_ret pe_bl)) pss_nil))) (pss_one (ps_ret (pe_cmpR op_eq (pe_callB (call_reprO (K := K) rfl hr) rfl B.repr b_repr (pa_cons (pv 7) pa_nil)) (pv 9) (nomark _))))))))))))))))), ?_⟩
  refine ⟨_, rfl, _, _, rfl, a, 4, rfl, rfl, pp, by decide, by decide, fun tm H1 l1 u1 g1 pp1 => ?_⟩
  refine ⟨_, rfl, _, _, rfl, a, 5, rfl, rfl, pp1, by decide, by decide, fun ex H2 l2 u2 g2 pp2 => ?_⟩
  have G2 := g1.trans g2
  refine c_name (c_asg (fun v H' => ∃ mo : Int, v = .int mo ∧ -1 ≤ mo ∧ mo ≤ 1 ∧ Grow [a] H2 H' ∧ Pot H' a) (fun Kk hK => ?_) ?_)
  · refine ⟨_, rfl, szl rfl, fun l hl => ⟨_, rfl, _, _, rfl, a, 5, rfl, rfl, pp2.grow (Grow.new hl _), by decide, by decide, fun j0 H3 l3 u3 g3 pp3 => ?_⟩⟩
    have d := Grow.new (m := [a]) hl (.lst [V.int 0, V.int 0, V.int 0, V.int 1, V.int (-1)])
    have hl3 := g3.keep _ _ (fun z => pot_ne pp2 l z hl) (show upd H2 l (.lst [V.int 0, V.int 0, V.int 0, V.int 1, V.int (-1)]) l = _ from upd_same)
    have fin : ∀ (v : Int), atI [V.int 0, V.int 0, V.int 0, V.int 1, V.int (-1)] j0 = some (.int v) → -1 ≤ v → v ≤ 1 → rIxL K (.ref l) (.int j0) H3 Kk := fun v e p1 p2 => ⟨l, _, j0, _, rfl, rfl, SqL.of hl3, e, hK _ _ ⟨v, rfl, p1, p2, d.trans g3, pp3⟩⟩
    rcases (show j0 = 0 ∨ j0 = 1 ∨ j0 = 2 ∨ j0 = 3 ∨ j0 = 4 by omega) with rfl | rfl | rfl | rfl | rfl
    · exact fin 0 rfl (by decide) (by decide)
    · exact fin 0 rfl (by decide) (by decide)
    · exact fin 0 rfl (by decide) (by decide)
    · exact fin 1 rfl (by decide) (by decide)
    · exact fin (-1) rfl (by decide) (by decide)
  rintro v H3 ⟨mo, rfl, mo1, mo2, g3, pp3⟩
  refine c_asg (fun v H' => ∃ dp : Nat, v = .int dp ∧ dp ≤ 40 ∧ Grow [a] H3 H' ∧ Pot H' a) (fun Kk hK => ?_) ?_
  · refine ⟨szl rfl, fun l hl => ⟨_, rfl, _, _, rfl, a, 4, rfl, rfl, pp3.grow (Grow.new hl _), by decide, by decide, fun j0 H4 l4 u4 g4 pp4 => ?_⟩⟩
    have d := Grow.new (m := [a]) hl (.lst [V.int 1, V.int 3, V.int 9, V.int 40])
    have hl4 := g4.keep _ _ (fun z => pot_ne pp3 l z hl) (show upd H3 l (.lst [V.int 1, V.int 3, V.int 9, V.int 40]) l = _ from upd_same)
    have fin : ∀ (v : Nat), atI [V.int 1, V.int 3, V.int 9, V.int 40] j0 = some (.int v) → v ≤ 40 → rIxL K (.ref l) (.int j0) H4 Kk := fun v e p2 => ⟨l, _, j0, _, rfl, rfl, SqL.of hl4, e, hK _ _ ⟨v, rfl, p2, d.trans g4, pp4⟩⟩
    rcases (show j0 = 0 ∨ j0 = 1 ∨ j0 = 2 ∨ j0 = 3 by omega) with rfl | rfl | rfl | rfl
    · exact fin 1 rfl (by decide)
    · exact fin 3 rfl (by decide)
    · exact fin 9 rfl (by decide)
    · exact fin 40 rfl (by decide)
  rintro v H4 ⟨dp, rfl, dp40, g4, pp4⟩
  refine c_asg (fun v H' => ∃ mn : Nat, v = .int mn ∧ 1 ≤ mn ∧ mn ≤ 40 ∧ Grow [a] H4 H' ∧ Pot H' a) (fun Kk hK => ?_) ?_
  · refine ⟨_, rfl, _, _, rfl, a, 40, rfl, rfl, pp4, by decide, by decide, fun n0 H5 l5 u5 g5 pp5 => ⟨_, _, rfl, rfl, hK _ _ ⟨(1 + n0).toNat, congrArg V.int (by omega), by omega, by omega, g5, pp5⟩⟩⟩
  rintro v H5 ⟨mn, rfl, mn1, mn40, g5, pp5⟩
  refine ⟨_, rfl, _, rfl, _, rfl, _, _, rfl, a, 3, rfl, rfl, pp5, by decide, by decide, fun c6 H6 l6 u6 g6 pp6 => ?_⟩
  refine ⟨_, _, _, _, rfl, a, 0, mn, c6, rfl, rfl, rfl, rfl, pp6, by decide, by omega, by omega, by omega, l6, by omega, fun y7 t H7 g7 pp7 at7 ord7 cnt7 ht7 _ => ?_⟩
  have G7 := G2.trans (g3.trans (g4.trans (g5.trans (g6.trans g7))))
  clear g1 g2 g3 g4 g5 g6 g7 pp pp1 pp2 pp3 pp4 pp5 pp6 G2
  have tb : trB t := ordd_bd ord7 (Int.le_refl _) (by omega)
  have twt : t.wt ≤ 79 := by have := wt_count t; omega
  have tht : t.ht ≤ 39 := by omega
  refine ⟨_, rfl, c_name (c_if (fun σ H' => ∃ (y : V) (u : Tr), σ = [some (.ref a), some (.int tm), some (.int ex), some (.int mo), some (.int dp), some (.int mn), some y7, some y, none, none, none, none, none] ∧ Grow [a] H7 H' ∧ Pot H' a ∧ TreeAt K H' y u ∧ trB u ∧ u.wt = t.wt ∧ u.ht = t.ht) ?_ (fun hR => ?_))⟩
  rotate_left
  · refine ⟨_, rfl, rfl, _, rfl, ?_⟩
    by_cases e0 : ex = 0
    · refine iteT' (decide_eq_true (congrArg V.int e0)) ⟨_, rfl, _, rfl, _, rfl, _, _, rfl, a, mn, rfl, rfl, pp7, by omega, by omega, fun i8 H8 l8 u8 g8 pp8 => ⟨_, rfl, _, rfl, _, _, rfl, a, mn, rfl, rfl, pp8, by omega, by omega, fun j9 H9 l9 u9 g9 pp9 => ?_⟩⟩
      refine ⟨_, _, _, rfl, t, [a], i8, j9, (g8.trans g9).tree at7, rfl, rfl, by omega, fun z H10 g10 at10 => ?_⟩
      obtain ⟨w1, w2⟩ := exT_wt (i := i8) (j := j9) (t := t)
      exact hR _ _ ⟨z, exT i8 j9 t, rfl, g8.trans (g9.trans (g10.mono (by simp))), pp9.grow g10, at10, exT_bd ⟨by omega, by omega⟩ ⟨by omega, by omega⟩ tb, w1, w2⟩
    · exact iteF' (decide_eq_false fun z => e0 (V.int.inj z)) (hR _ _ ⟨y7, t, rfl, Grow.refl _ _, pp7, at7, tb, rfl, rfl⟩)
  rintro σ H8 ⟨y8, u8, rfl, g8, pp8, at8, ub, uw, uh⟩
  have gd8 : GdD 0 (40 + 3 * 0) (160000 * 2 ^ 0 + 40000 * (2 ^ 0 - 1)) (trD u8) := (tr_gd ub).mono (Nat.le_refl _) (by omega) (by omega)
  refine ⟨_, rfl, _, _, rfl, _, rfl, ?_, ?_, ?_⟩
  · split <;> omega
  · split <;> omega
  refine for_range (fun n σ H' => ∃ (e8 : Option V) (y : V) (d : PyData), σ = [some (.ref a), some (.int tm), some (.int ex), some (.int mo), some (.int dp), some (.int mn), some y7, some y, e8, none, none, none, none] ∧ Grow [a] H7 H' ∧ Pot H' a ∧ Od K [a] H' y d ∧ GdD n (40 + 3 * n) (160000 * 2 ^ n + 40000 * (2 ^ n - 1)) d) ⟨_, y8, trD u8, rfl, g8, pp8, tree_od at8, gd8⟩ ?_ ?_
  · rintro n σ H9 hn ⟨e8, y, d, rfl, g9, pp9, o9, gd9⟩
    have n2 : n < 2 := by
      have hn' := hn
      revert hn'
      split <;> omega
    refine ⟨_, rfl, _, rfl, _, rfl, _, _, _, rfl, a, d, n, _, _, dp, rfl, rfl, pp9, o9, gd9, by omega, by omega, dp40, ?_, fun z d' H10 g10 pp10 o10 gd10 => ?_⟩
    · rcases (show n = 0 ∨ n = 1 by omega) with rfl | rfl <;> decide
    · refine ⟨_, z, d', rfl, g9.trans g10, pp10, o10, gd10.mono (Nat.le_refl _) (by omega) ?_⟩
      rcases (show n = 0 ∨ n = 1 by omega) with rfl | rfl <;> decide
  rintro σ H9 ⟨e8, y, d, rfl, g9, pp9, o9, gd9⟩
  have gd : GdD 2 46 760000 d := by
    have hn : ∀ n : Nat, n ≤ 2 → GdD n (40 + 3 * n) (160000 * 2 ^ n + 40000 * (2 ^ n - 1)) d → GdD 2 46 760000 d := fun n hn g => by
      rcases (show n = 0 ∨ n = 1 ∨ n = 2 by omega) with rfl | rfl | rfl <;> exact g.mono (by decide) (by decide) (by decide)
    refine hn _ ?_ gd9
    split <;> omega
  clear gd9 gd8 at8 pp8 g8 ub uw uh
  obtain ⟨sh1, sh2, sh3⟩ := gd.shows (by decide) (by decide) (by decide)
  have gt := tr_gd tb
  have twt' : wtO (trD t) ≤ 1000000 := by have := gt.wt; omega
  have tdp' : (trD t).depth < 62 := by have := gt.dp; omega
  refine ⟨_, rfl, _, d, [a], rfl, o9, sh1, sh2, sh3, ?_⟩
  refine c_name (c_asg (fun v H' => H' = H9 ∧ ∃ ak : Nat, v = .int ak ∧ 1 ≤ ak ∧ ak ≤ 40) (fun Kk hK => ?_) ?_)
  · refine ⟨_, rfl, _, rfl, _, _, rfl, rfl, _, _, rfl, _, _, rfl, hK _ _ ⟨rfl, (if (if (mn : Int) + mo > 1 then (mn : Int) + mo else 1) < 40 then (if (mn : Int) + mo > 1 then (mn : Int) + mo else 1) else 40).toNat, congrArg V.int ?_, ?_, ?_⟩⟩
    · split <;> split <;> omega
    · split <;> split <;> omega
    · split <;> split <;> omega
  rintro v H' ⟨rfl, ak, rfl, ak1, ak40⟩
  have shL : ∀ b c e : Bool, (PyData.list [.bool b, .bool c, .bool e]).showable = true ∧ (PyData.list [.bool b, .bool c, .bool e]).depth ≤ 60 ∧ (PyData.list [.bool b, .bool c, .bool e]).shown.length ≤ sizeLine := fun b c e => by
    cases b <;> cases c <;> cases e <;> exact ⟨rfl, by decide, by decide +kernel⟩
  have shB : ∀ b : Bool, (PyData.bool b).showable = true ∧ (PyData.bool b).depth ≤ 60 ∧ (PyData.bool b).shown.length ≤ sizeLine := fun b => ⟨rfl, Nat.zero_le _, by cases b <;> decide⟩
  refine ⟨_, rfl, by decide, by decide, for_range (fun n σ H'' => ∃ (e8 e11 : Option V), σ = [some (.ref a), some (.int tm), some (.int ex), some (.int mo), some (.int dp), some (.int mn), some y7, some y, e8, some (.str d.shown), some (.int ak), e11, none] ∧ Grow [] H' H'') ⟨_, _, rfl, Grow.refl _ _⟩ ?_ ?_⟩
  · rintro n σ H10 hn ⟨e8', e11, rfl, g10⟩
    have at10 := (g9.trans (g10.mono (by simp))).tree at7
    have o10 := o9.grow (g10.mono (by simp))
    have wd : wtO d ≤ 1000000 := by have := gd.wt; omega
    refine ⟨_, rfl, _, rfl, _, _, rfl, d, [a], ak, o10, rfl, ak1, ak40, wd, fun H11 g11 => ?_⟩
    refine ⟨_, rfl, _, rfl, _, _, rfl, trD t, [a], mn, tree_od (g11.tree at10), rfl, mn1, mn40, twt', fun H12 g12 => ?_⟩
    refine ⟨_, rfl, _, rfl, _, _, rfl, trD t, [a], ak, tree_od ((g11.trans g12).tree at10), rfl, ak1, ak40, twt', fun H13 g13 => ?_⟩
    rw [treeP_tree ord7 cnt7, treeP_tree ord7 cnt7, decide_eq_true (rfl : mn = mn)]
    refine ⟨szl rfl, fun l14 h14 s14 => ?_⟩
    have G13 := g11.trans (g12.trans g13)
    have d14 := Grow.new (m := []) h14 (.lst [V.bl (treeP d ak), V.bl true, V.bl (decide (mn = ak))])
    have ol : Od K [] (upd H13 l14 (.lst [V.bl (treeP d ak), V.bl true, V.bl (decide (mn = ak))])) (.ref l14) (.list [.bool (treeP d ak), .bool true, .bool (decide (mn = ak))]) := .lst upd_same (fun z => nomatch z) s14 (.cons (.bl _) (.cons (.bl _) (.cons (.bl _) .nil)))
    obtain ⟨b1, b2, b3⟩ := shL (treeP d ak) true (decide (mn = ak))
    refine ⟨_, rfl, _, _, [], rfl, ol, b1, b2, b3, ?_⟩
    have G14 := G13.trans d14
    refine ⟨_, rfl, _, rfl, _, _, rfl, d, [a], ak, o10.grow (G14.mono (by simp)), rfl, ak1, ak40, by have := gd.dp; omega, wd, fun H15 g15 => ?_⟩
    refine ⟨_, rfl, _, rfl, rfl, szl rfl, fun l16 h16 s16 => ?_⟩
    have ea : decide (V.int (ak : Int) = V.int (mn : Int)) = decide (mn = ak) := by
      by_cases z : mn = ak
      · rw [z, decide_eq_true rfl, decide_eq_true rfl]
      · rw [decide_eq_false z, decide_eq_false fun w => z (by have := V.int.inj w; omega)]
    rw [ea]
    have d16 := Grow.new (m := []) h16 (.lst [V.bl (treeP d ak), V.bl true, V.bl (decide (mn = ak))])
    have ol2 : Od K [] (upd H15 l16 (.lst [V.bl (treeP d ak), V.bl true, V.bl (decide (mn = ak))])) (.ref l16) (.list [.bool (treeP d ak), .bool true, .bool (decide (mn = ak))]) := .lst upd_same (fun z => nomatch z) s16 (.cons (.bl _) (.cons (.bl _) (.cons (.bl _) .nil)))
    refine ⟨_, _, [], rfl, ol2, b1, b2, b3, rfl, _, rfl, iteF' (by rw [decide_eq_true rfl]; rfl) ⟨_, _, rfl, g10.trans (G14.trans (g15.trans d16))⟩⟩
  rintro σ H10 ⟨e8', e11, rfl, g10⟩
  have pp10 := pp9.grow g10
  have at10 := (g9.trans (g10.mono (by simp))).tree at7
  have o10 := o9.grow (g10.mono (m' := [a]) (by simp))
  have G10 := G7.trans (g9.trans (g10.mono (by simp)))
  refine ⟨_, rfl, _, rfl, _, _, rfl, a, 3, rfl, rfl, pp10, by decide, by decide, fun c0 H11 l11 u11 g11 pp11 => ?_⟩
  obtain ⟨c, rfl⟩ : ∃ c : Nat, c0 = c := ⟨c0.toNat, by omega⟩
  refine ⟨_, _, rfl, t, [a], c, g11.tree at10, rfl, by omega, by omega, fun z H12 g12 o12 => ⟨_, rfl, szl rfl, fun l13 h13 => ?_⟩⟩
  have d13 := Grow.new (m := []) h13 (.lst [z, y7])
  have pp13 := pp11.grow (g12.trans d13)
  have n13 : l13 ∉ [a] := fun w => pot_ne (pp11.grow g12) l13 w h13
  have oz := o12.grow (d13.mono (m' := [a]) (by simp))
  have at13 := (g11.trans ((g12.trans d13).mono (by simp))).tree at10
  have G13 := G10.trans (g11.trans ((g12.trans d13).mono (by simp)))
  have o13 := o10.grow (g11.trans ((g12.trans d13).mono (by simp)))
  have h13' : upd H12 l13 (.lst [z, y7]) l13 = some (.lst [z, y7]) := upd_same
  have gb := bt_gd (c := c) tb
  generalize upd H12 l13 (.lst [z, y7]) = H13 at pp13 oz at13 G13 o13 h13' ⊢
  refine ⟨l13, rfl, ⟨_, SqL.of h13'⟩, for_list (xs := [z, y7]) (fun i σ H'' => ∃ (e12 : Option V), σ = [some (.ref a), some (.int tm), some (.int ex), some (.int mo), some (.int dp), some (.int mn), some y7, some y, e8', some (.str d.shown), some (.int ak), e11, e12] ∧ Grow [] H13 H'') ⟨_, rfl, Grow.refl _ _⟩ ?_ ?_ ?_⟩
  · rintro i σ H14 _ ⟨e12, rfl, g14⟩
    exact SqL.of (g14.keep _ _ (by simp) h13')
  · rintro i x σ H14 hx ⟨e12, rfl, g14⟩
    have key : ∀ dd : PyData, Od K [a] H13 x dd → dd.depth < 62 → wtO dd ≤ 1000000 → tIfS (tTest (tOp rNe (tCB (rReprO K) (tCons (tCall (sp_is_treeO K) [] E0 (tCons (tVar 12) (tCons (tVar 5) tNil))) tNil)) (tCB (rReprO K) (tCons (tCall (sp_lis_tree25 K) [] E0 (tCons (tVar 12) (tCons (tVar 5) tNil))) tNil)))) (tRet (tC (V.bl false))) tNext { nx := fun σ H'' => ∃ (e12 : Option V), σ = [some (.ref a), some (.int tm), some (.int ex), some (.int mo), some (.int dp), some (.int mn), some y7, some y, e8', some (.str d.shown), some (.int ak), e11, e12] ∧ Grow [] H13 H'', rt := Q } [some (.ref a), some (.int tm), some (.int ex), some (.int mo), some (.int dp), some (.int mn), some y7, some y, e8', some (.str d.shown), some (.int ak), e11, some x] H14 := by
      intro dd od ddp dwt
      obtain ⟨b1, b2, b3⟩ := shB (treeP dd mn)
      refine ⟨_, rfl, _, rfl, _, _, rfl, dd, [a], mn, od.grow (g14.mono (by simp)), rfl, mn1, mn40, dwt, fun H15 g15 => ⟨_, _, [], rfl, .bl _, b1, b2, b3, ?_⟩⟩
      refine ⟨_, rfl, _, rfl, _, _, rfl, dd, [a], mn, od.grow ((g14.trans g15).mono (by simp)), rfl, mn1, mn40, ddp, dwt, fun H16 g16 => ⟨_, _, [], rfl, .bl _, b1, b2, b3, rfl, _, rfl, iteF' (by rw [decide_eq_true rfl]; rfl) ⟨_, rfl, g14.trans (g15.trans g16)⟩⟩⟩
    match i, hx with
    | 0, hx => cases Option.some.inj hx; exact key _ oz (by have := gb.dp; omega) (by have := gb.wt; omega)
    | 1, hx => cases Option.some.inj hx; exact key _ (tree_od at13) tdp' twt'
  · rintro σ H14 ⟨e12, rfl, g14⟩
    refine ⟨_, rfl, _, d, [a], rfl, o13.grow (g14.mono (by simp)), sh1, sh2, sh3, _, rfl, rfl, ?_⟩
    show Q (.bl (decide (V.str d.shown = V.str d.shown))) H14
    rw [decide_eq_true rfl]
    exact q _ (G13.trans (g14.mono (by simp))) (pp13.grow g14)
theorem sc__law_pot : FnScope ["_law_script", "_law_k", "_law_primes", "_law_cell"] ["_law_script", "_law_k"] (defScope (top 11)) := ⟨rfl, rfl, rfl, by decide +kernel, rfl, by decide +kernel, by decide +kernel⟩
set_option maxHeartbeats 0 in
theorem ok__law_pot {n : Nat} {f : Addr} {fd : FuncData} (F : Fun K "_law_pot" "_law_pot" (top 11) f fd) (B : Blt mg)     :
    FnOk P w K mg base CX0 (n + 1) f fd ["_law_script", "_law_k"] (sp_pot K) := by
  refine F.ok sc__law_pot sp2_len (fun cdv A outer s H vs Q E hr h => ?_)
  obtain ⟨x, y, rfl, a, ns, k, rfl, rfl, hs, k0, k1, q⟩ := h
  refine ⟨_, (pss_cons (ps_set (i := 2) sc__law_pot.nd rfl (Or.inl rfl) (pe_lst (pa_cons pe_int (pa_cons pe_int (pa_cons pe_int (pa_cons pe_int (pa_cons pe_int (pa_cons pe_int (pa_cons pe_int (pa_cons pe_int pa_nil)))))))))) (pss_cons (ps_set (i := 3) sc__law_pot.nd rfl (Or.inl rfl) pe_int) (pss_cons (ps_if (pt_cmpR op_lt (pv 1) (pe_callB call_len_seq rfl B.len b_len (pa_cons (pv 0) pa_nil)) (nomark _)) (pss_one (ps_set (i := 3) sc__law_pot.nd rfl (Or.inl rfl) (pe_ix ix_list (pv 0) (pv 1) (fun _ _ => rfl)))) pss_nil) (pss_one (ps_ret (pe_lst (pa_cons (pe_callB (call_max2 rfl) rfl B.max b_max (pa_cons pe_int (pa_cons (pe_op op_sub (pv 3) (pe_op op_pow pe_int pe_int)) pa_nil))) (pa_cons (pe_op op_mod (pe_op op_pow (pe_op op_add (pe_op op_add (pe_op op_mod (pv 3) (pe_ix ix_list (pv 2) (pe_op op_mod (pv 1) pe_int) (fun _ _ => rfl))) (pe_op op_mulG pe_int (pv 1))) pe_int) pe_int) (pe_ix ix_list (pv 2) (pe_op op_mod (pv 1) pe_int) (fun _ _ => rfl))) pa_nil)))))))), ?_⟩
  refine ⟨szl rfl, fun lp hlp => ?_⟩
  have g0 : Grow [] H _ := Grow.new hlp (.lst ([2147483629, 2147483587, 2147483579, 2147483563, 2147483549, 2147483543, 2147483497, 2147483489].map V.int))
  have hlp2 := upd_same (H := H) (a := lp) (o := .lst ([2147483629, 2147483587, 2147483579, 2147483563, 2147483549, 2147483543, 2147483497, 2147483489].map V.int))
  obtain ⟨qq, hq, q0, q1⟩ : ∃ qq : Int, atI (([2147483629, 2147483587, 2147483579, 2147483563, 2147483549, 2147483543, 2147483497, 2147483489] : List Int).map V.int) (k % 8) = some (V.int qq) ∧ 0 < qq ∧ qq < 2147483648 := by
    obtain h | h | h | h | h | h | h | h : k % 8 = 0 ∨ k % 8 = 1 ∨ k % 8 = 2 ∨ k % 8 = 3 ∨ k % 8 = 4 ∨ k % 8 = 5 ∨ k % 8 = 6 ∨ k % 8 = 7 := by omega
    all_goals (rw [h]; exact ⟨_, rfl, by decide, by decide⟩)
  have hs2 := (g0.scr hs).sq
  have hl : (ns.map V.int).length = ns.length := List.length_map ..
  refine ⟨_, rfl, _, rfl, a, _, rfl, .inl hs2, _, _, rfl, rfl, _, rfl, ?_⟩
  by_cases c : k < ((ns.map V.int).length : Int)
  · refine iteT' (decide_eq_true c) ?_
    have hj : k.toNat < ns.length := by omega
    refine ⟨_, rfl, _, rfl, a, _, _, V.int ns[k.toNat], rfl, rfl, hs2, ixGet (ixN_nat k0 (by omega)) (by rw [List.getElem?_map, List.getElem?_eq_getElem hj]; rfl), ?_⟩
    refine ⟨_, rfl, _, _, rfl, rfl, ⟨by decide, by decide, by decide⟩, _, _, rfl, rfl, _, _, rfl, ?_⟩
    refine ⟨_, rfl, _, rfl, _, rfl, _, _, rfl, rfl, (by show (0 : Int) < 8; decide), lp, _, _, _, rfl, rfl, SqL.of hlp2, hq, _, _, rfl, rfl, q0, ?_⟩
    refine ⟨_, rfl, _, _, rfl, rfl, mulOk ⟨by decide, by decide⟩ ⟨by omega, by omega⟩, _, _, rfl, rfl, _, _, rfl, rfl, _, _, rfl, rfl, ⟨by decide, by decide, ?_⟩, ?_⟩
    · have e0 : 0 ≤ ns[k.toNat] % qq := Int.emod_nonneg _ (by omega)
      have e1 : ns[k.toNat] % qq < qq := Int.emod_lt_of_pos _ q0
      show (ns[k.toNat] % qq + 7919 * k + 5).natAbs < 2 ^ 64
      omega
    refine ⟨_, rfl, _, rfl, _, _, rfl, rfl, (by show (0 : Int) < 8; decide), lp, _, _, _, rfl, rfl, SqL.of hlp2, hq, _, _, rfl, rfl, q0, szl rfl, fun p hp => ?_⟩
    refine q p _ (g0.free (by simp) hp) (g0.trans (Grow.new hp _)) ⟨_, _, upd_same, ?_⟩
    show 0 ≤ (if (ns[k.toNat] - 10 ^ (18 : Int).toNat) > 0 then _ else _)
    split <;> omega
  · refine iteF' (decide_eq_false c) ?_
    refine ⟨_, rfl, _, _, rfl, rfl, ⟨by decide, by decide, by decide⟩, _, _, rfl, rfl, _, _, rfl, ?_⟩
    refine ⟨_, rfl, _, rfl, _, rfl, _, _, rfl, rfl, (by show (0 : Int) < 8; decide), lp, _, _, _, rfl, rfl, SqL.of hlp2, hq, _, _, rfl, rfl, q0, ?_⟩
    refine ⟨_, rfl, _, _, rfl, rfl, mulOk ⟨by decide, by decide⟩ ⟨by omega, by omega⟩, _, _, rfl, rfl, _, _, rfl, rfl, _, _, rfl, rfl, ⟨by decide, by decide, ?_⟩, ?_⟩
    · have e0 : 0 ≤ (0 : Int) % qq := Int.emod_nonneg _ (by omega)
      have e1 : (0 : Int) % qq < qq := Int.emod_lt_of_pos _ q0
      show ((0 : Int) % qq + 7919 * k + 5).natAbs < 2 ^ 64
      omega
    refine ⟨_, rfl, _, rfl, _, _, rfl, rfl, (by show (0 : Int) < 8; decide), lp, _, _, _, rfl, rfl, SqL.of hlp2, hq, _, _, rfl, rfl, q0, szl rfl, fun p hp => ?_⟩
    refine q p _ (g0.free (by simp) hp) (g0.trans (Grow.new hp _)) ⟨_, _, upd_same, ?_⟩
    show 0 ≤ (if ((0 : Int) - 10 ^ (18 : Int).toNat) > 0 then _ else _)
    split <;> omega
theorem sc_law : FnScope ["_law_script"] ["_law_script"] (defScope (top 22)) := ⟨rfl, rfl, rfl, by decide +kernel, rfl, by decide +kernel, by decide +kernel⟩
set_option maxHeartbeats 0 in
theorem ok_law {n : Nat} {f : Addr} {fd : FuncData} (F : Fun K "law" "law" (top 22) f fd) (B : Blt mg) (c__law_right : Callee P w K mg base n "_law_right" ["_law_pot_here"] (sp_right25 K)) (c__law_pot : Callee P w K mg base n "_law_pot" ["_law_script", "_law_k"] (sp_pot K))    :
    FnOk P w K mg base CX0 (n + 1) f fd ["_law_script"] (sp_law K) := by
  refine F.ok sc_law sp1_len (fun cdv A outer s H vs Q E hr h => ?_)
  obtain ⟨x, rfl, a, ns, rfl, hs, h63, q⟩ := h
  refine ⟨_, (pss_one (ps_ret (pe_callB (call_allB rfl) rfl B.all b_all (pa_cons (pe_compT (CSc.of (N' := ["_law_k", "_law_script"]) (sub := [none, some 0]) (defScope (top 22)) ["_law_script"] rfl rfl (by decide +kernel) rfl) rfl (pi_range1 rfl B.range (pa_cons (pe_callB (call_max2 rfl) rfl B.max b_max (pa_cons pe_int (pa_cons (pe_callB (call_min2 rfl) rfl B.min b_min (pa_cons (pe_callB call_len_seq rfl B.len b_len (pa_cons (pv 0) pa_nil)) (pa_cons pe_int pa_nil))) pa_nil))) pa_nil)) (fun _ _ _ _ _ _ => pg_name (i := 0) (show (["_law_k", "_law_script"] : List Str).Nodup by decide +kernel) rfl (Or.inl rfl)) (fun _ _ _ _ _ _ => pifs_nil) (fun _ _ _ _ _ _ => (pe_callC c__law_right hr rfl (pa_cons (pe_callC c__law_pot hr rfl (pa_cons (pv 1) (pa_cons (pv 0) pa_nil))) pa_nil)))) pa_nil)))), ?_⟩
  have hl : (ns.map V.int).length = ns.length := List.length_map ..
  refine ⟨_, rfl, a, _, rfl, .inl hs.sq, _, _, rfl, _, _, rfl, _, rfl, ?_, ?_, comp_rng (fun j ys H' => Grow [] H H' ∧ ys = (List.replicate j true).map V.bl) ⟨Grow.refl _ _, rfl⟩ ?_ ?_⟩
  · split <;> split <;> omega
  · rw [hl]; split <;> split <;> omega
  · rintro j ys H1 hj ⟨g, rfl⟩
    have j63 : j < 1000 := by
      have hj' := hj
      revert hj'
      split <;> split <;> omega
    refine ⟨_, rfl, _, rfl, _, _, rfl, a, ns, _, rfl, rfl, g.scr hs, by omega, by omega, fun pot H2 hp g2 pp => ?_⟩
    refine ⟨_, rfl, pot, rfl, pp, fun H3 g3 pp3 => ⟨small1000 (by rw [List.length_map, List.length_replicate]; omega), g.trans ((g2.wk.trans g3).fresh fun z hz => by rw [List.mem_singleton.mp hz]; exact hp), ?_⟩⟩
    rw [List.replicate_succ', List.map_append]; rfl
  · rintro ys H1 ⟨g, rfl⟩ l hl1
    refine ⟨l, _, rfl, SqL.of upd_same, ?_⟩
    have e : ∀ n : Nat, (List.replicate n true).all id = true := fun n => by rw [List.all_eq_true]; intro b hb; exact List.eq_of_mem_replicate hb
    rw [e]
    exact q _
end
theorem my_len1 : ∀ {us : List Value}, us.length = 1 → ∃ x0, us = [x0]
  | [x0], _ => ⟨x0, rfl⟩
theorem my_len2 : ∀ {us : List Value}, us.length = 2 → ∃ x0, ∃ x1, us = [x0, x1]
  | [x0, x1], _ => ⟨x0, x1, rfl⟩
theorem my_len3 : ∀ {us : List Value}, us.length = 3 → ∃ x0, ∃ x1, ∃ x2, us = [x0, x1, x2]
  | [x0, x1, x2], _ => ⟨x0, x1, x2, rfl⟩
theorem my_len4 : ∀ {us : List Value}, us.length = 4 → ∃ x0, ∃ x1, ∃ x2, ∃ x3, us = [x0, x1, x2, x3]
  | [x0, x1, x2, x3], _ => ⟨x0, x1, x2, x3, rfl⟩
set_option maxHeartbeats 0 in
theorem all_mk {l : PySem.W.OpenLaw} {w : World} {K : PySem.W.Frag} {h : Heap} {mg : Str → Option Value} {fa f1 f2 f3 f4 f5 f6 f7 f8 f9 f10 f11 f12 f13 f14 f15 f16 : Addr} (X : K.In h) (G : h.Ns mainGlobals mg) (hfa : mg "law" = some (.ref fa))
    {od1 an1 od2 an2 od3 an3 od4 an4 od5 an5 od6 an6 od7 an7 od8 an8 od9 an9 od10 an10 od11 an11 od12 an12 od13 an13 od14 an14 od15 an15 od16 an16 : Option Addr} {sl1 sl2 sl3 sl4 sl5 sl6 sl7 sl8 sl9 sl10 sl11 sl12 sl13 sl14 sl15 sl16 : Array (Option Value)} {oc1 kV1 dc1 pm1 cd1 ct1 oc2 kV2 dc2 pm2 cd2 ct2 oc3 kV3 dc3 pm3 cd3 ct3 oc4 kV4 dc4 pm4 cd4 ct4 oc5 kV5 dc5 pm5 cd5 ct5 oc6 kV6 dc6 pm6 cd6 ct6 oc7 kV7 dc7 pm7 cd7 ct7 oc8 kV8 dc8 pm8 cd8 ct8 oc9 kV9 dc9 pm9 cd9 ct9 oc10 kV10 dc10 pm10 cd10 ct10 oc11 kV11 dc11 pm11 cd11 ct11 oc12 kV12 dc12 pm12 cd12 ct12 oc13 kV13 dc13 pm13 cd13 ct13 oc14 kV14 dc14 pm14 cd14 ct14 oc15 kV15 dc15 pm15 cd15 ct15 oc16 kV16 dc16 pm16 cd16 ct16 : Value}
    (a1 : PySem.W.nsIn K mainGlobals "_law_by_truths" = some (some (.ref f1))) (l1 : K.lookup f1 = some ⟨oc1, od1, .func (PySem.W.fnOf "_law_by_truths" "_law_by_truths" (defArgs (top 20)) (defBody (top 20)) (defScope (top 20)) .none kV1 dc1 pm1 an1 cd1 ct1), sl1⟩) (c1 : PySem.W.codeIn K cd1 "_law_by_truths" = true) (k1 : PySem.W.keepIn K (.ref f1) = true)
    (a2 : PySem.W.nsIn K mainGlobals "_law_draw" = some (some (.ref f2))) (l2 : K.lookup f2 = some ⟨oc2, od2, .func (PySem.W.fnOf "_law_draw" "_law_draw" (defArgs (top 12)) (defBody (top 12)) (defScope (top 12)) .none kV2 dc2 pm2 an2 cd2 ct2), sl2⟩) (c2 : PySem.W.codeIn K cd2 "_law_draw" = true) (k2 : PySem.W.keepIn K (.ref f2) = true)
    (a3 : PySem.W.nsIn K mainGlobals "is_whole" = some (some (.ref f3))) (l3 : K.lookup f3 = some ⟨oc3, od3, .func (PySem.W.fnOf "is_whole" "is_whole" (defArgs (top 4)) (defBody (top 4)) (defScope (top 4)) .none kV3 dc3 pm3 an3 cd3 ct3), sl3⟩) (c3 : PySem.W.codeIn K cd3 "is_whole" = true) (k3 : PySem.W.keepIn K (.ref f3) = true)
    (a4 : PySem.W.nsIn K mainGlobals "is_within" = some (some (.ref f4))) (l4 : K.lookup f4 = some ⟨oc4, od4, .func (PySem.W.fnOf "is_within" "is_within" (defArgs (top 5)) (defBody (top 5)) (defScope (top 5)) .none kV4 dc4 pm4 an4 cd4 ct4), sl4⟩) (c4 : PySem.W.codeIn K cd4 "is_within" = true) (k4 : PySem.W.keepIn K (.ref f4) = true)
    (a5 : PySem.W.nsIn K mainGlobals "need_many" = some (some (.ref f5))) (l5 : K.lookup f5 = some ⟨oc5, od5, .func (PySem.W.fnOf "need_many" "need_many" (defArgs (top 8)) (defBody (top 8)) (defScope (top 8)) .none kV5 dc5 pm5 an5 cd5 ct5), sl5⟩) (c5 : PySem.W.codeIn K cd5 "need_many" = true) (k5 : PySem.W.keepIn K (.ref f5) = true)
    (a6 : PySem.W.nsIn K mainGlobals "is_tree" = some (some (.ref f6))) (l6 : K.lookup f6 = some ⟨oc6, od6, .func (PySem.W.fnOf "is_tree" "is_tree" (defArgs (top 9)) (defBody (top 9)) (defScope (top 9)) .none kV6 dc6 pm6 an6 cd6 ct6), sl6⟩) (c6 : PySem.W.codeIn K cd6 "is_tree" = true) (k6 : PySem.W.keepIn K (.ref f6) = true)
    (a7 : PySem.W.nsIn K mainGlobals "_law_is_whole" = some (some (.ref f7))) (l7 : K.lookup f7 = some ⟨oc7, od7, .func (PySem.W.fnOf "_law_is_whole" "_law_is_whole" (defArgs (top 13)) (defBody (top 13)) (defScope (top 13)) .none kV7 dc7 pm7 an7 cd7 ct7), sl7⟩) (c7 : PySem.W.codeIn K cd7 "_law_is_whole" = true) (k7 : PySem.W.keepIn K (.ref f7) = true)
    (a8 : PySem.W.nsIn K mainGlobals "_law_leaves" = some (some (.ref f8))) (l8 : K.lookup f8 = some ⟨oc8, od8, .func (PySem.W.fnOf "_law_leaves" "_law_leaves" (defArgs (top 18)) (defBody (top 18)) (defScope (top 18)) .none kV8 dc8 pm8 an8 cd8 ct8), sl8⟩) (c8 : PySem.W.codeIn K cd8 "_law_leaves" = true) (k8 : PySem.W.keepIn K (.ref f8) = true)
    (a9 : PySem.W.nsIn K mainGlobals "_law_is_tree" = some (some (.ref f9))) (l9 : K.lookup f9 = some ⟨oc9, od9, .func (PySem.W.fnOf "_law_is_tree" "_law_is_tree" (defArgs (top 19)) (defBody (top 19)) (defScope (top 19)) .none kV9 dc9 pm9 an9 cd9 ct9), sl9⟩) (c9 : PySem.W.codeIn K cd9 "_law_is_tree" = true) (k9 : PySem.W.keepIn K (.ref f9) = true)
    (a10 : PySem.W.nsIn K mainGlobals "_law_other" = some (some (.ref f10))) (l10 : K.lookup f10 = some ⟨oc10, od10, .func (PySem.W.fnOf "_law_other" "_law_other" (defArgs (top 15)) (defBody (top 15)) (defScope (top 15)) .none kV10 dc10 pm10 an10 cd10 ct10), sl10⟩) (c10 : PySem.W.codeIn K cd10 "_law_other" = true) (k10 : PySem.W.keepIn K (.ref f10) = true)
    (a11 : PySem.W.nsIn K mainGlobals "_law_bent" = some (some (.ref f11))) (l11 : K.lookup f11 = some ⟨oc11, od11, .func (PySem.W.fnOf "_law_bent" "_law_bent" (defArgs (top 16)) (defBody (top 16)) (defScope (top 16)) .none kV11 dc11 pm11 an11 cd11 ct11), sl11⟩) (c11 : PySem.W.codeIn K cd11 "_law_bent" = true) (k11 : PySem.W.keepIn K (.ref f11) = true)
    (a12 : PySem.W.nsIn K mainGlobals "_law_exchanged" = some (some (.ref f12))) (l12 : K.lookup f12 = some ⟨oc12, od12, .func (PySem.W.fnOf "_law_exchanged" "_law_exchanged" (defArgs (top 17)) (defBody (top 17)) (defScope (top 17)) .none kV12 dc12 pm12 an12 cd12 ct12), sl12⟩) (c12 : PySem.W.codeIn K cd12 "_law_exchanged" = true) (k12 : PySem.W.keepIn K (.ref f12) = true)
    (a13 : PySem.W.nsIn K mainGlobals "_law_tree" = some (some (.ref f13))) (l13 : K.lookup f13 = some ⟨oc13, od13, .func (PySem.W.fnOf "_law_tree" "_law_tree" (defArgs (top 14)) (defBody (top 14)) (defScope (top 14)) .none kV13 dc13 pm13 an13 cd13 ct13), sl13⟩) (c13 : PySem.W.codeIn K cd13 "_law_tree" = true) (k13 : PySem.W.keepIn K (.ref f13) = true)
    (a14 : PySem.W.nsIn K mainGlobals "_law_right" = some (some (.ref f14))) (l14 : K.lookup f14 = some ⟨oc14, od14, .func (PySem.W.fnOf "_law_right" "_law_right" (defArgs (top 21)) (defBody (top 21)) (defScope (top 21)) .none kV14 dc14 pm14 an14 cd14 ct14), sl14⟩) (c14 : PySem.W.codeIn K cd14 "_law_right" = true) (k14 : PySem.W.keepIn K (.ref f14) = true)
    (a15 : PySem.W.nsIn K mainGlobals "_law_pot" = some (some (.ref f15))) (l15 : K.lookup f15 = some ⟨oc15, od15, .func (PySem.W.fnOf "_law_pot" "_law_pot" (defArgs (top 11)) (defBody (top 11)) (defScope (top 11)) .none kV15 dc15 pm15 an15 cd15 ct15), sl15⟩) (c15 : PySem.W.codeIn K cd15 "_law_pot" = true) (k15 : PySem.W.keepIn K (.ref f15) = true)
    (a16 : PySem.W.nsIn K mainGlobals "law" = some (some (.ref f16))) (l16 : K.lookup f16 = some ⟨oc16, od16, .func (PySem.W.fnOf "law" "law" (defArgs (top 22)) (defBody (top 22)) (defScope (top 22)) .none kV16 dc16 pm16 an16 cd16 ct16), sl16⟩) (c16 : PySem.W.codeIn K cd16 "law" = true) (k16 : PySem.W.keepIn K (.ref f16) = true)
    {t_MOST_DEEDS : Tok} (ga_MOST_DEEDS : PySem.W.nsIn K mainGlobals "MOST_DEEDS" = some (some (.int 40 t_MOST_DEEDS)))
    (z_abs : PySem.W.nsIn K mainGlobals "abs" = some none)
    (z_len : PySem.W.nsIn K mainGlobals "len" = some none)
    (z_max : PySem.W.nsIn K mainGlobals "max" = some none)
    (z_min : PySem.W.nsIn K mainGlobals "min" = some none)
    (z_divmod : PySem.W.nsIn K mainGlobals "divmod" = some none)
    (z_repr : PySem.W.nsIn K mainGlobals "repr" = some none)
    (z_isinstance : PySem.W.nsIn K mainGlobals "isinstance" = some none)
    (z_all : PySem.W.nsIn K mainGlobals "all" = some none)
    (z_range : PySem.W.nsIn K mainGlobals "range" = some none)
    (z_int : PySem.W.nsIn K mainGlobals "int" = some none)
    (z_bool : PySem.W.nsIn K mainGlobals "bool" = some none)
    (z_str : PySem.W.nsIn K mainGlobals "str" = some none)
    (z_tuple : PySem.W.nsIn K mainGlobals "tuple" = some none)
    (z_list : PySem.W.nsIn K mainGlobals "list" = some none)
    (z_dict : PySem.W.nsIn K mainGlobals "dict" = some none)
    :
    ∃ fd : FuncData, (∀ (s : Shared) (v : Value), BindsTo s fd ⟨[v], []⟩ [("_law_script", v)]) ∧ ∀ base : Heap, K.In base → base.Ns mainGlobals mg → FnOk l.prog w K mg base CX0 65 fa fd ["_law_script"] (sp_law K) := by
  have e := hfa.symm.trans (PySem.W.mg_of X G a16)
  cases e
  have F1 := fun_mk (st := (top 20)) l1 c1 k1
  have F2 := fun_mk (st := (top 12)) l2 c2 k2
  have F3 := fun_mk (st := (top 4)) l3 c3 k3
  have F4 := fun_mk (st := (top 5)) l4 c4 k4
  have F5 := fun_mk (st := (top 8)) l5 c5 k5
  have F6 := fun_mk (st := (top 9)) l6 c6 k6
  have F7 := fun_mk (st := (top 13)) l7 c7 k7
  have F8 := fun_mk (st := (top 18)) l8 c8 k8
  have F9 := fun_mk (st := (top 19)) l9 c9 k9
  have F10 := fun_mk (st := (top 15)) l10 c10 k10
  have F11 := fun_mk (st := (top 16)) l11 c11 k11
  have F12 := fun_mk (st := (top 17)) l12 c12 k12
  have F13 := fun_mk (st := (top 14)) l13 c13 k13
  have F14 := fun_mk (st := (top 21)) l14 c14 k14
  have F15 := fun_mk (st := (top 11)) l15 c15 k15
  have F16 := fun_mk (st := (top 22)) l16 c16 k16
  have b1 := F1.binds (ps := ["_law_thing", "_law_which"]) fun _ _ _ _ _ _ us hl => by obtain ⟨_, _, rfl⟩ := my_len2 hl; rfl
  have b2 := F2.binds (ps := ["_law_pot_here", "_law_many"]) fun _ _ _ _ _ _ us hl => by obtain ⟨_, _, rfl⟩ := my_len2 hl; rfl
  have b3 := F3.binds (ps := ["thing"]) fun _ _ _ _ _ _ us hl => by obtain ⟨_, rfl⟩ := my_len1 hl; rfl
  have b4 := F4.binds (ps := ["thing", "least", "greatest"]) fun _ _ _ _ _ _ us hl => by obtain ⟨_, _, _, rfl⟩ := my_len3 hl; rfl
  have b5 := F5.binds (ps := ["thing"]) fun _ _ _ _ _ _ us hl => by obtain ⟨_, rfl⟩ := my_len1 hl; rfl
  have b6 := F6.binds (ps := ["thing", "many"]) fun _ _ _ _ _ _ us hl => by obtain ⟨_, _, rfl⟩ := my_len2 hl; rfl
  have b7 := F7.binds (ps := ["_law_thing"]) fun _ _ _ _ _ _ us hl => by obtain ⟨_, rfl⟩ := my_len1 hl; rfl
  have b8 := F8.binds (ps := ["_law_thing"]) fun _ _ _ _ _ _ us hl => by obtain ⟨_, rfl⟩ := my_len1 hl; rfl
  have b9 := F9.binds (ps := ["_law_thing", "_law_many"]) fun _ _ _ _ _ _ us hl => by obtain ⟨_, _, rfl⟩ := my_len2 hl; rfl
  have b10 := F10.binds (ps := ["_law_pot_here", "_law_thing"]) fun _ _ _ _ _ _ us hl => by obtain ⟨_, _, rfl⟩ := my_len2 hl; rfl
  have b11 := F11.binds (ps := ["_law_pot_here", "_law_thing", "_law_deep"]) fun _ _ _ _ _ _ us hl => by obtain ⟨_, _, _, rfl⟩ := my_len3 hl; rfl
  have b12 := F12.binds (ps := ["_law_thing", "_law_one", "_law_other_here"]) fun _ _ _ _ _ _ us hl => by obtain ⟨_, _, _, rfl⟩ := my_len3 hl; rfl
  have b13 := F13.binds (ps := ["_law_pot_here", "_law_first", "_law_many", "_law_choice"]) fun _ _ _ _ _ _ us hl => by obtain ⟨_, _, _, _, rfl⟩ := my_len4 hl; rfl
  have b14 := F14.binds (ps := ["_law_pot_here"]) fun _ _ _ _ _ _ us hl => by obtain ⟨_, rfl⟩ := my_len1 hl; rfl
  have b15 := F15.binds (ps := ["_law_script", "_law_k"]) fun _ _ _ _ _ _ us hl => by obtain ⟨_, _, rfl⟩ := my_len2 hl; rfl
  have B : Blt mg := ⟨PySem.W.mg_none_of X G z_abs, PySem.W.mg_none_of X G z_len, PySem.W.mg_none_of X G z_max, PySem.W.mg_none_of X G z_min, PySem.W.mg_none_of X G z_divmod, PySem.W.mg_none_of X G z_repr, PySem.W.mg_none_of X G z_isinstance, PySem.W.mg_none_of X G z_all, PySem.W.mg_none_of X G z_range, PySem.W.mg_none_of X G z_int, PySem.W.mg_none_of X G z_bool, PySem.W.mg_none_of X G z_str, PySem.W.mg_none_of X G z_tuple, PySem.W.mg_none_of X G z_list, PySem.W.mg_none_of X G z_dict⟩
  refine ⟨PySem.W.fnOf "law" "law" (defArgs (top 22)) (defBody (top 22)) (defScope (top 22)) .none kV16 dc16 pm16 an16 cd16 ct16, fun s v => .of_eq rfl, fun base _ _ => ?_⟩
  have R1 : ∀ N : Nat, FnOk l.prog w K mg base CX0 (0 + N) f1 (PySem.W.fnOf "_law_by_truths" "_law_by_truths" (defArgs (top 20)) (defBody (top 20)) (defScope (top 20)) .none kV1 dc1 pm1 an1 cd1 ct1) ["_law_thing", "_law_which"] (sp_bytr25 N K) := by
    intro N
    induction N with
    | zero => exact fnok_vac vac_bytr25
    | succ N ih => exact ok__law_by_truths (P := l.prog) (w := w) (base := base) (n := 0 + N) F1 B ⟨_, _, ih, b1, k1, PySem.W.mg_of X G a1⟩  
  have C1 : Callee l.prog w K mg base 41 "_law_by_truths" ["_law_thing", "_law_which"] (sp_bytr25 41 K) := ⟨_, _, R1 41, b1, k1, PySem.W.mg_of X G a1⟩
  have C2 : Callee l.prog w K mg base 1 "_law_draw" ["_law_pot_here", "_law_many"] (sp_draw K) := ⟨_, _, ok__law_draw (P := l.prog) (w := w) (base := base) (n := 0) F2 B    , b2, k2, PySem.W.mg_of X G a2⟩
  have C3 : Callee l.prog w K mg base 1 "is_whole" ["thing"] (sp_is_wholeO K) := ⟨_, _, ok_is_whole (P := l.prog) (w := w) (base := base) (n := 0) F3 B    , b3, k3, PySem.W.mg_of X G a3⟩
  have C4 : Callee l.prog w K mg base 2 "is_within" ["thing", "least", "greatest"] (sp_is_within K) := ⟨_, _, ok_is_within (P := l.prog) (w := w) (base := base) (n := 1) F4 B (C3.mono (by decide))   , b4, k4, PySem.W.mg_of X G a4⟩
  have C5 : Callee l.prog w K mg base 3 "need_many" ["thing"] (sp_need_many K) := ⟨_, _, ok_need_many (P := l.prog) (w := w) (base := base) (n := 2) F5 B (C4.mono (by decide))  (PySem.W.mg_of X G ga_MOST_DEEDS) , b5, k5, PySem.W.mg_of X G a5⟩
  have C6 : Callee l.prog w K mg base 4 "is_tree" ["thing", "many"] (sp_is_treeO K) := ⟨_, _, ok_is_tree (P := l.prog) (w := w) (base := base) (n := 3) F6 B (C3.mono (by decide)) (C5.mono (by decide))   , b6, k6, PySem.W.mg_of X G a6⟩
  have C7 : Callee l.prog w K mg base 1 "_law_is_whole" ["_law_thing"] (sp_is_wholeO K) := ⟨_, _, ok__law_is_whole (P := l.prog) (w := w) (base := base) (n := 0) F7 B    , b7, k7, PySem.W.mg_of X G a7⟩
  have R8 : ∀ N : Nat, FnOk l.prog w K mg base CX0 (0 + N) f8 (PySem.W.fnOf "_law_leaves" "_law_leaves" (defArgs (top 18)) (defBody (top 18)) (defScope (top 18)) .none kV8 dc8 pm8 an8 cd8 ct8) ["_law_thing"] (sp_leaves25 N K) := by
    intro N
    induction N with
    | zero => exact fnok_vac vac_leaves25
    | succ N ih => exact ok__law_leaves (P := l.prog) (w := w) (base := base) (n := 0 + N) F8 B ⟨_, _, ih, b8, k8, PySem.W.mg_of X G a8⟩  
  have C8 : Callee l.prog w K mg base 62 "_law_leaves" ["_law_thing"] (sp_leaves25 62 K) := ⟨_, _, R8 62, b8, k8, PySem.W.mg_of X G a8⟩
  have C9 : Callee l.prog w K mg base 63 "_law_is_tree" ["_law_thing", "_law_many"] (sp_lis_tree25 K) := ⟨_, _, ok__law_is_tree (P := l.prog) (w := w) (base := base) (n := 62) F9 B (C7.mono (by decide)) (C8.mono (by decide))   , b9, k9, PySem.W.mg_of X G a9⟩
  have C10 : Callee l.prog w K mg base 2 "_law_other" ["_law_pot_here", "_law_thing"] (sp_other25 K) := ⟨_, _, ok__law_other (P := l.prog) (w := w) (base := base) (n := 1) F10 B (C2.mono (by decide)) (C7.mono (by decide))   , b10, k10, PySem.W.mg_of X G a10⟩
  have R11 : ∀ N : Nat, FnOk l.prog w K mg base CX0 (2 + N) f11 (PySem.W.fnOf "_law_bent" "_law_bent" (defArgs (top 16)) (defBody (top 16)) (defScope (top 16)) .none kV11 dc11 pm11 an11 cd11 ct11) ["_law_pot_here", "_law_thing", "_law_deep"] (sp_bent25 N K) := by
    intro N
    induction N with
    | zero => exact fnok_vac vac_bent25
    | succ N ih => exact ok__law_bent (P := l.prog) (w := w) (base := base) (n := 2 + N) F11 B ⟨_, _, ih, b11, k11, PySem.W.mg_of X G a11⟩ (C10.mono (Nat.le_trans (show 2 ≤ 2 by decide) (Nat.le_add_right 2 N))) (C2.mono (Nat.le_trans (show 1 ≤ 2 by decide) (Nat.le_add_right 2 N)))  
  have C11 : Callee l.prog w K mg base 44 "_law_bent" ["_law_pot_here", "_law_thing", "_law_deep"] (sp_bent25 42 K) := ⟨_, _, R11 42, b11, k11, PySem.W.mg_of X G a11⟩
  have R12 : ∀ N : Nat, FnOk l.prog w K mg base CX0 (0 + N) f12 (PySem.W.fnOf "_law_exchanged" "_law_exchanged" (defArgs (top 17)) (defBody (top 17)) (defScope (top 17)) .none kV12 dc12 pm12 an12 cd12 ct12) ["_law_thing", "_law_one", "_law_other_here"] (sp_exch25 N K) := by
    intro N
    induction N with
    | zero => exact fnok_vac vac_exch25
    | succ N ih => exact ok__law_exchanged (P := l.prog) (w := w) (base := base) (n := 0 + N) F12 B ⟨_, _, ih, b12, k12, PySem.W.mg_of X G a12⟩  
  have C12 : Callee l.prog w K mg base 41 "_law_exchanged" ["_law_thing", "_law_one", "_law_other_here"] (sp_exch25 41 K) := ⟨_, _, R12 41, b12, k12, PySem.W.mg_of X G a12⟩
  have R13 : ∀ N : Nat, FnOk l.prog w K mg base CX0 (1 + N) f13 (PySem.W.fnOf "_law_tree" "_law_tree" (defArgs (top 14)) (defBody (top 14)) (defScope (top 14)) .none kV13 dc13 pm13 an13 cd13 ct13) ["_law_pot_here", "_law_first", "_law_many", "_law_choice"] (sp_law_tree N K) := by
    intro N
    induction N with
    | zero => exact fnok_vac vac_law_tree
    | succ N ih => exact ok__law_tree (P := l.prog) (w := w) (base := base) (n := 1 + N) F13 B ⟨_, _, ih, b13, k13, PySem.W.mg_of X G a13⟩ (C2.mono (Nat.le_trans (show 1 ≤ 1 by decide) (Nat.le_add_right 1 N)))  
  have C13 : Callee l.prog w K mg base 41 "_law_tree" ["_law_pot_here", "_law_first", "_law_many", "_law_choice"] (sp_law_tree 40 K) := ⟨_, _, R13 40, b13, k13, PySem.W.mg_of X G a13⟩
  have C14 : Callee l.prog w K mg base 64 "_law_right" ["_law_pot_here"] (sp_right25 K) := ⟨_, _, ok__law_right (P := l.prog) (w := w) (base := base) (n := 63) F14 B (C1.mono (by decide)) (C2.mono (by decide)) (C6.mono (by decide)) (C9.mono (by decide)) (C11.mono (by decide)) (C12.mono (by decide)) (C13.mono (by decide))   , b14, k14, PySem.W.mg_of X G a14⟩
  have C15 : Callee l.prog w K mg base 1 "_law_pot" ["_law_script", "_law_k"] (sp_pot K) := ⟨_, _, ok__law_pot (P := l.prog) (w := w) (base := base) (n := 0) F15 B    , b15, k15, PySem.W.mg_of X G a15⟩
  exact ok_law (P := l.prog) (w := w) (base := base) (n := 64) F16 B (C14.mono (by decide)) (C15.mono (by decide))   
theorem walk {l : PySem.W.OpenLaw} {q : Program} {loose : List Str} {XP : (Str → Option Value) → Heap → Prop} {YP : World → Heap → Prop} {d : DefRec} {K : Params → PySem.W.Frag} (hn : l.most = some 63) (hdf : d.params.defaults = [])
    (hY : ∀ (w : World) (h : Heap), YP w h → (K w.params).In h)
    (F : ∀ (w : World) (mg : Str → Option Value) (fa : Addr) (h : Heap), (K w.params).In h → h.Ns mainGlobals mg → mg d.name = some (.ref fa) →
      ∃ fd : FuncData, (∀ (s : Shared) (u : Value), BindsTo s fd ⟨[u], []⟩ [("_law_script", u)]) ∧ ∀ base : Heap, (K w.params).In base → base.Ns mainGlobals mg → FnOk l.prog w (K w.params) mg base CX0 65 fa fd ["_law_script"] (sp_law (K w.params))) :
    PySem.W.WalkO q loose XP YP l.row.toRowW d [] (fun f vs => PySem.call f vs) :=
  L2.walk_of (n := 63) (k := 65) (x := "_law_script") (CX := fun _ => CX0) (sp := fun w => sp_law (K w.params)) hn (by decide) hdf ⟨rfl, by decide, by decide, rfl⟩ hY F (fun _ _ a ns hl hO hS => ⟨_, rfl, a, ns, rfl, Scr.of hO hS, hl, fun _ => rfl⟩) fun _ _ _ _ _ z => z
theorem walkX {q : Program} {loose : List Str} {XP : (Str → Option Value) → Heap → Prop} {K : Params → PySem.W.Frag} {as : List Addr} {n t : Nat} {r : PySem.W.RowW} {d : DefRec} {kwd : List (Str × Expr)} {run : Value → List Value → Sem Value}
    (e : ∀ P, as = (K P).map (·.1)) (W : PySem.W.WalkO q loose XP (PySem.W.InK K) r d kwd run) : PySem.W.WalkX q loose XP (PySem.W.X.obsZ as) (PySem.W.X.valZ K n t) r d kwd run :=
  fun w s₀ s₁ mg mb G Y a o pm cd doc dV kV h2 h3 h4 h5 h6 h7 args vals as' L hpre hlay hrd hwl hlo =>
    W w s₀ s₁ mg mb G (PySem.W.InK.keeps w s₀.heap s₁.heap (PySem.W.X.z_facts e Y).2.1 L.keeps) a o pm cd doc dV kV h2 h3 h4 h5 h6 h7 args vals as' hpre hlay hrd hwl hlo
end My
open PySem PySem.W PyProof.Rows
set_option maxRecDepth 100000 in
set_option maxHeartbeats 0 in
theorem PySem.Challenge.cw_joinedasks_k25_trees_known_holds : PySem.Challenge.rw_joinedasks_k25_trees_known.Holds := by
  w_on; o_law; z_head; (case hw => w_witness2)
  refine My.walkX (fun _ => by kernel_rfl) (My.walk (l := PySem.Challenge.rw_joinedasks_k25_trees_known) rfl rfl (fun w h Y => Y) ?F)
  case F =>
    intro w mg fa h KX G hmg
    refine' My.all_mk KX G hmg   ?a1 ?l1 ?c1 ?k1 ?a2 ?l2 ?c2 ?k2 ?a3 ?l3 ?c3 ?k3 ?a4 ?l4 ?c4 ?k4 ?a5 ?l5 ?c5 ?k5 ?a6 ?l6 ?c6 ?k6 ?a7 ?l7 ?c7 ?k7 ?a8 ?l8 ?c8 ?k8 ?a9 ?l9 ?c9 ?k9 ?a10 ?l10 ?c10 ?k10 ?a11 ?l11 ?c11 ?k11 ?a12 ?l12 ?c12 ?k12 ?a13 ?l13 ?c13 ?k13 ?a14 ?l14 ?c14 ?k14 ?a15 ?l15 ?c15 ?k15 ?a16 ?l16 ?c16 ?k16 ?ga_MOST_DEEDS ?z_abs ?z_len ?z_max ?z_min ?z_divmod ?z_repr ?z_isinstance ?z_all ?z_range ?z_int ?z_bool ?z_str ?z_tuple ?z_list ?z_dict
    (case a1 => k_is); (case l1 => k_is); (case c1 => k_is); (case k1 => k_is)
    (case a2 => k_is); (case l2 => k_is); (case c2 => k_is); (case k2 => k_is)
    (case a3 => k_is); (case l3 => k_is); (case c3 => k_is); (case k3 => k_is)
    (case a4 => k_is); (case l4 => k_is); (case c4 => k_is); (case k4 => k_is)
    (case a5 => k_is); (case l5 => k_is); (case c5 => k_is); (case k5 => k_is)
    (case a6 => k_is); (case l6 => k_is); (case c6 => k_is); (case k6 => k_is)
    (case a7 => k_is); (case l7 => k_is); (case c7 => k_is); (case k7 => k_is)
    (case a8 => k_is); (case l8 => k_is); (case c8 => k_is); (case k8 => k_is)
    (case a9 => k_is); (case l9 => k_is); (case c9 => k_is); (case k9 => k_is)
    (case a10 => k_is); (case l10 => k_is); (case c10 => k_is); (case k10 => k_is)
    (case a11 => k_is); (case l11 => k_is); (case c11 => k_is); (case k11 => k_is)
    (case a12 => k_is); (case l12 => k_is); (case c12 => k_is); (case k12 => k_is)
    (case a13 => k_is); (case l13 => k_is); (case c13 => k_is); (case k13 => k_is)
    (case a14 => k_is); (case l14 => k_is); (case c14 => k_is); (case k14 => k_is)
    (case a15 => k_is); (case l15 => k_is); (case c15 => k_is); (case k15 => k_is)
    (case a16 => k_is); (case l16 => k_is); (case c16 => k_is); (case k16 => k_is)
    (case ga_MOST_DEEDS => k_is)
    (case z_abs => k_is); (case z_len => k_is); (case z_max => k_is); (case z_min => k_is); (case z_divmod => k_is); (case z_repr => k_is); (case z_isinstance => k_is); (case z_all => k_is); (case z_range => k_is); (case z_int => k_is); (case z_bool => k_is); (case z_str => k_is); (case z_tuple => k_is); (case z_list => k_is); (case z_dict => k_is)
