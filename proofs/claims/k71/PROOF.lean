import PyProof.Rows.All
import Wide.All
import OpenK.AllK
import Wide.FinOn
import Lean
import PyProof.EqAt
import PyProof.EqKinds
import PyProof.TupleCall
import PyProof.NeKinds
import PyProof.ReprRoads
import PyProof.ReprLen
import PyProof.Rows.RegStrFacts
import PyProof.Draws
import PyProof.EnumStmt
import PyProof.ZipIter
import PyProof.ListNew
import PyProof.TupleOfGen
import PyProof.ListRange
import PyProof.Rows.Range3
import PyProof.SumWalkG
import PyProof.Rows.RuleB_lshift
import PyProof.AutoSeq1
import PyProof.Cells
import PyProof.AutoListH
import PyProof.DictTable
import PyProof.RulesAs
import PyProof.NsDelKeeps
import KE.KDictList
import PyProof.ExcBaseAll.ValueError
import PyProof.ExcAttrAll.ValueError
import PySem.Challenge.RW_joinedasks_k71_calls_known
set_option Elab.async false
set_option linter.all false
set_option maxRecDepth 100000
namespace L2
open PySem PySem.Spec PyProof.Rows

abbrev Key := Sum Int Str
def keyIs : Key → Value → Bool
  | .inl k, v => Value.isInt k v
  | .inr x, v => Value.isStrOf x v
def keyH (w : World) : Key → Int
  | .inl k => hashInt k
  | .inr x => hashStr w x
theorem keyIs_shape : ∀ {k : Key} {v : Value}, keyIs k v = true → (∃ i t, k = Sum.inl i ∧ v = Value.int i t) ∨ (∃ x t, k = Sum.inr x ∧ v = Value.str x t)
  | .inl i, v, h => by
    obtain ⟨t, e⟩ := Value.isInt_shape (k := i) (v := v) h
    exact .inl ⟨i, t, rfl, e⟩
  | .inr x, v, h => by
    obtain ⟨t, e⟩ := Value.isStrOf_shape (x := x) (v := v) h
    exact .inr ⟨x, t, rfl, e⟩
theorem key_ll (a b : Int) : decide ((Sum.inl a : Key) = Sum.inl b) = (a == b) := by
  by_cases e : a = b
  · subst e; simp
  · have h : ¬ (Sum.inl a : Key) = Sum.inl b := fun q => e (Sum.inl.inj q)
    rw [decide_eq_false h]
    exact (beq_eq_false_iff_ne.mpr e).symm
theorem key_rr (a b : Str) : decide ((Sum.inr a : Key) = Sum.inr b) = decide (a = b) := by
  by_cases e : a = b
  · subst e; simp
  · have h : ¬ (Sum.inr a : Key) = Sum.inr b := fun q => e (Sum.inr.inj q)
    rw [decide_eq_false h, decide_eq_false e]
theorem key_lr (a : Int) (b : Str) : decide ((Sum.inl a : Key) = Sum.inr b) = false := decide_eq_false (fun q => nomatch q)
theorem key_rl (a : Str) (b : Int) : decide ((Sum.inr a : Key) = Sum.inl b) = false := decide_eq_false (fun q => nomatch q)

def mixKind (prog : Program) (w : World) : PySem.KeyKind prog w Key where
  is := keyIs
  hash := keyH w
  inj := fun v a b ha hb => by
    rcases keyIs_shape ha with ⟨i, t, rfl, rfl⟩ | ⟨x, t, rfl, rfl⟩
    · rcases keyIs_shape hb with ⟨j, u, rfl, e⟩ | ⟨y, u, rfl, e⟩
      · injection e with e1 _; rw [e1]
      · exact nomatch e
    · rcases keyIs_shape hb with ⟨j, u, rfl, e⟩ | ⟨y, u, rfl, e⟩
      · exact nomatch e
      · injection e with e1 _; rw [e1]
  byValue := fun k v h => by
    rcases keyIs_shape h with ⟨i, t, rfl, rfl⟩ | ⟨x, t, rfl, rfl⟩ <;> rfl
  pyHash := fun hv h => by
    rcases keyIs_shape hv with ⟨i, t, rfl, rfl⟩ | ⟨x, t, rfl, rfl⟩
    · exact wpAny_pyHash_int h
    · exact wpAny_pyHash_str h
  eqBool := fun hu hv h => by
    rcases keyIs_shape hu with ⟨i, t, rfl, rfl⟩ | ⟨x, t, rfl, rfl⟩
    · rcases keyIs_shape hv with ⟨j, u, rfl, rfl⟩ | ⟨y, u, rfl, rfl⟩
      · rw [key_ll] at h; exact wpAny_eqBool_int h
      · rw [key_lr] at h; exact SeqAt.EqAt.int_str i t y u _ _ _ _ h
    · rcases keyIs_shape hv with ⟨j, u, rfl, rfl⟩ | ⟨y, u, rfl, rfl⟩
      · rw [key_rl] at h; exact SeqAt.EqAt.str_int x t j u _ _ _ _ h
      · rw [key_rr] at h; exact wpAny_eqBool_str h
  «strs» := fun k x t v h => by
    rcases keyIs_shape h with ⟨i, u, rfl, e⟩ | ⟨y, u, rfl, e⟩
    · exact nomatch e
    · injection e with e1 _
      subst e1
      cases v <;> rfl

end L2

namespace L2
open PySem PySem.Spec PyProof.Rows

inductive V where
  | non | bl (b : Bool) | int (i : Int) | str (x : Str) | byt (b : Array UInt8) | flt (b : UInt64) | ref (a : Addr) | ty (n : String)
  deriving DecidableEq

def RelV : V → Value → Prop
  | .non, u => u = Value.none
  | .bl b, u => u = Value.bool b
  | .int i, u => ∃ t, u = Value.int i t
  | .str x, u => ∃ t, u = Value.str x t
  | .byt b, u => ∃ t, u = Value.bytes b t
  | .flt b, u => ∃ t, u = Value.float b t
  | .ref a, u => u = Value.ref a
  | .ty n, u => u = Value.type n

abbrev Vals : List V → List Value → Prop := Paired RelV
theorem Vals.length {xs : List V} {us : List Value} (r : Vals xs us) : xs.length = us.length := Paired.length r
theorem Vals.get : ∀ {xs : List V} {us : List Value} {i : Nat} {x : V}, Vals xs us → xs[i]? = some x → ∃ u, us[i]? = some u ∧ RelV x u
  | _, _, _, _, .nil, e => by simp at e
  | _, _, 0, _, .cons r _, e => by simp at e; subst e; exact ⟨_, rfl, r⟩
  | _, _, i + 1, x, .cons _ t, e => by
    obtain ⟨u, h1, h2⟩ := Vals.get (i := i) (x := x) t (by simpa using e)
    exact ⟨u, by simpa using h1, h2⟩
theorem Vals.set {x : V} {u : Value} (r : RelV x u) : ∀ {xs : List V} {us : List Value} (i : Nat), Vals xs us → Vals (xs.set i x) (us.set i u)
  | _, _, _, .nil => .nil
  | _, _, 0, .cons _ t => .cons r t
  | _, _, i + 1, .cons q t => .cons q (Vals.set r i t)
theorem Vals.append : ∀ {xs ys : List V} {us ws : List Value}, Vals xs us → Vals ys ws → Vals (xs ++ ys) (us ++ ws)
  | _, _, _, _, .nil, s => s
  | _, _, _, _, .cons r t, s => .cons r (Vals.append t s)
theorem Vals.take : ∀ {xs : List V} {us : List Value} (n : Nat), Vals xs us → Vals (xs.take n) (us.take n)
  | _, _, 0, _ => .nil
  | _, _, _ + 1, .nil => .nil
  | _, _, n + 1, .cons r t => .cons r (Vals.take n t)
theorem Vals.drop : ∀ {xs : List V} {us : List Value} (n : Nat), Vals xs us → Vals (xs.drop n) (us.drop n)
  | _, _, 0, r => r
  | _, _, _ + 1, .nil => .nil
  | _, _, n + 1, .cons _ t => Vals.drop n t

def RelO : Option V → Option Value → Prop
  | some v, some u => RelV v u
  | none, none => True
  | _, _ => False
def KV {κ : Type} : List (κ × V) → List (κ × Value) → Prop := Paired fun (p : κ × V) (q : κ × Value) => p.1 = q.1 ∧ RelV p.2 q.2

def kV : Key → V
  | .inl i => .int i
  | .inr x => .str x

inductive HO where
  /-- a list -/
  | lst (xs : List V)
  /-- a tuple (never changes) -/
  | tup (xs : List V)
  /-- a dict whose keys are ints and texts; one whose keys are tuples of ints and texts (the empty one is both) -/
  | dK (kvs : List (Key × V)) | dT (kvs : List (List Key × V))
  /-- a set of ints: its members, its size -/
  | set (S : Int → Bool) (n : Nat)
  /-- an instance of the class at C, its dict at dx, its attributes -/
  | ins (C dx : Addr) (fs : List (Str × V))
  /-- the dict of the instance at x -/
  | own (x : Addr)
  /-- the dict of an exception -/
  | xd (fs : List (Str × V))
  /-- a bound method, f of x -/
  | met (f x : Addr)
  /-- a range object lo, lo + 1, .. below hi -/
  | rng (lo hi : Int)
  /-- a thing that is known to the object (the script; a dict while a loop walks it): read, never written while it is so -/
  | frz (o : Obj) (u : HO)
  /-- a code object's table -/
  | tbl (ps : Array Value)
  /-- any other thing, by what is true of its one object (a def of one's own: SetO a S n := HO.ext fun h => ..) -/
  | ext (φ : Heap → Prop)

abbrev Hp := Addr → Option HO
def upd (H : Hp) (a : Addr) (o : HO) : Hp := fun b => if b = a then some o else H b
theorem upd_same {H : Hp} {a : Addr} {o : HO} : upd H a o a = some o := by unfold upd; rw [if_pos rfl]
theorem upd_ne {H : Hp} {a b : Addr} {o : HO} (h : b ≠ a) : upd H a o b = H b := by unfold upd; rw [if_neg h]
theorem ne_of_none {H : Hp} {a b : Addr} {o : HO} (h : H a = some o) (h' : H b = none) : a ≠ b := by
  intro e; subst e; rw [h] at h'; cases h'

section
variable (P : Program) (w : World)
def ObjOk (H : Hp) (h : Heap) (a : Addr) : HO → Prop
  | .lst xs => xs.length ≤ sizeLine ∧ ∃ (its : List Value) (n : Nat), Vals xs its ∧ h.get? a = some { cls := .type "list", data := .seq its.toArray n }
  | .tup xs => xs.length ≤ sizeLine ∧ ∃ its : List Value, Vals xs its ∧ IsTup h a its.toArray
  | .dK kvs => kvs.length ≤ sizeLine ∧ (a == sysModules) = false ∧ ∃ vs, KV kvs vs ∧ h.DictOf (mixKind P w) a vs
  | .dT kvs => kvs.length ≤ sizeLine ∧ (a == sysModules) = false ∧ ∃ xs : List (List Key × Addr × Value),
      Paired (fun (p : List Key × V) (q : List Key × Addr × Value) => p.1 = q.1 ∧ H q.2.1 = some (.tup (p.1.map kV)) ∧ RelV p.2 q.2.2) kvs xs ∧
      ∃ o es ep, h.get? a = some o ∧ o.ExactDict ∧ o.data = .dict es ep ∧ es.toList = xs.map (entryOfKey (tupleKind (mixKind P w))) ∧ (xs.map (·.1)).Nodup
  | .set S n => h.SetOf (intKind P w) a S n
  | .ins C dx fs => H dx = some (.own a) ∧ fs.length ≤ 1000 ∧ dx ≠ a ∧ h.get? a = some (PySem.W.instObj C dx) ∧
      ∃ mA, h.Ns1 dx mA ∧ (∀ f, RelO (fs.lookup f) (mA f)) ∧ PySem.Within mA (fs.map (·.1))
  | .own _ => ∃ o, h.get? a = some o
  | .xd fs => ∃ mA, h.Ns1 a mA ∧ ∀ f, RelO (fs.lookup f) (mA f)
  | .rng lo hi => ∃ t u v, h.get? a = some { cls := .type "range", data := .fields #[.int lo t, .int hi u, .int 1 v] }
  | .frz o u => h.get? a = some o ∧ ObjOk H h a u
  | .tbl ps => h.get? a = some { cls := .none, data := .fields ps }
  | .met f x => h.get? a = some (PySem.W.methodObj (.ref f) (.ref x))
  | .ext φ => φ h ∧ (∃ o, h.get? a = some o) ∧ ∀ h1 h2 : Heap, φ h1 → (∀ o, h1.get? a = some o → h2.get? a = some o) → φ h2
def HOk (H : Hp) (h : Heap) : Prop := ∀ a o, H a = some o → ObjOk P w H h a o
end

section
variable {P : Program} {w : World} {H H' : Hp} {h h' : Heap} {a : Addr} {o : HO}
theorem ObjOk.lt (x : ObjOk P w H h a o) : a < h.objs.size := by
  cases o with
  | lst xs => obtain ⟨_, _, _, _, e⟩ := x; exact Heap.lt_size e
  | tup xs => obtain ⟨_, _, _, p⟩ := x; exact p.lt
  | dK kvs => obtain ⟨_, _, _, _, o, _, _, e, _⟩ := x; exact Heap.lt_size e
  | dT kvs => obtain ⟨_, _, _, _, o, _, _, e, _⟩ := x; exact Heap.lt_size e
  | set S n => obtain ⟨o, _, _, _, e, _⟩ := x; exact Heap.lt_size e
  | ins C dx fs => obtain ⟨_, _, _, e, _⟩ := x; exact Heap.lt_size e
  | own y => obtain ⟨_, e⟩ := x; exact Heap.lt_size e
  | xd fs => obtain ⟨_, ⟨_, _, _, e, _⟩, _⟩ := x; exact Heap.lt_size e
  | rng lo hi => obtain ⟨_, _, _, e⟩ := x; exact Heap.lt_size e
  | frz ob u => obtain ⟨e, _⟩ := x; exact Heap.lt_size e
  | tbl ps => exact Heap.lt_size (show h.get? a = some _ from x)
  | met f y => exact Heap.lt_size (show h.get? a = some _ from x)
  | ext φ => obtain ⟨_, ⟨_, e⟩, _⟩ := x; exact Heap.lt_size e
theorem Paired.mapP {α β : Type} {F G : α → β → Prop} : ∀ {l₁ : List α} {l₂ : List β}, Paired F l₁ l₂ → (∀ a b, F a b → G a b) → Paired G l₁ l₂
  | _, _, .nil, _ => .nil
  | _, _, .cons r t, f => .cons (f _ _ r) (Paired.mapP t f)
theorem ObjOk.stay (x : ObjOk P w H h a o) (k : ∀ b u, (b = a ∨ H b = some (.own a)) → h.get? b = some u → h'.get? b = some u)
    (ho : ∀ b, H b = some (.own a) → H' b = some (.own a)) (ht : ∀ b xs, H b = some (.tup xs) → H' b = some (.tup xs)) : ObjOk P w H' h' a o := by
  induction o with
  | lst xs => obtain ⟨z, its, n, r, e⟩ := x; exact ⟨z, its, n, r, k _ _ (.inl rfl) e⟩
  | tup xs => obtain ⟨z, its, r, ob, e, c⟩ := x; exact ⟨z, its, r, ob, k _ _ (.inl rfl) e, c⟩
  | dK kvs => obtain ⟨z, y, vs, r, ob, es, ep, e, c⟩ := x; exact ⟨z, y, vs, r, ob, es, ep, k _ _ (.inl rfl) e, c⟩
  | dT kvs =>
    obtain ⟨z, y, xs, r, ob, es, ep, e, c⟩ := x
    exact ⟨z, y, xs, Paired.mapP r fun p q z => ⟨z.1, ht _ _ z.2.1, z.2.2⟩, ob, es, ep, k _ _ (.inl rfl) e, c⟩
  | set S n => obtain ⟨ob, es, ep, t, e, c⟩ := x; exact ⟨ob, es, ep, t, k _ _ (.inl rfl) e, c⟩
  | ins C dx fs =>
    obtain ⟨d, z, ne, e, mA, ⟨od, es, ep, e2, c⟩, r⟩ := x
    exact ⟨ho _ d, z, ne, k _ _ (.inl rfl) e, mA, ⟨od, es, ep, k _ _ (.inr d) e2, c⟩, r⟩
  | own y => obtain ⟨ob, e⟩ := x; exact ⟨ob, k _ _ (.inl rfl) e⟩
  | xd fs => obtain ⟨mA, ⟨od, es, ep, e, c⟩, r⟩ := x; exact ⟨mA, ⟨od, es, ep, k _ _ (.inl rfl) e, c⟩, r⟩
  | rng lo hi => obtain ⟨t, u, v, e⟩ := x; exact ⟨t, u, v, k _ _ (.inl rfl) e⟩
  | frz ob u ih => obtain ⟨e, q⟩ := x; exact ⟨k _ _ (.inl rfl) e, ih q⟩
  | tbl ps =>
    have e : h.get? a = some { cls := .none, data := .fields ps } := x
    show h'.get? a = some { cls := .none, data := .fields ps }
    exact k a _ (.inl rfl) e
  | met f y =>
    have e : h.get? a = some (PySem.W.methodObj (.ref f) (.ref y)) := x
    show h'.get? a = some (PySem.W.methodObj (.ref f) (.ref y))
    exact k a _ (.inl rfl) e
  | ext φ => obtain ⟨p, ⟨o, e⟩, st⟩ := x; exact ⟨st _ _ p fun o q => k _ _ (.inl rfl) q, ⟨o, k _ _ (.inl rfl) e⟩, st⟩
theorem HOk.lt (x : HOk P w H h) (e : H a = some o) : a < h.objs.size := (x a o e).lt
theorem HOk.fresh (x : HOk P w H h) (e : h.objs.size ≤ a) : H a = none := by
  cases q : H a with
  | none => rfl
  | some u => exact absurd (Nat.lt_of_lt_of_le (x.lt q) e) (Nat.lt_irrefl _)
theorem HOk.kept (x : HOk P w H h) (k : ∀ b u, h.get? b = some u → h'.get? b = some u) : HOk P w H h' := fun a o e =>
  (x a o e).stay (fun b u _ q => k b u q) (fun _ q => q) fun _ _ q => q
theorem HOk.laid (x : HOk P w H h) (k : ∀ b u, h.get? b = some u → h'.get? b = some u) (hp : h.objs.size ≤ a) (new : ObjOk P w (upd H a o) h' a o) : HOk P w (upd H a o) h' := fun b u e => by
  have hn := x.fresh hp
  by_cases hb : b = a
  · subst hb; rw [upd_same] at e; cases e; exact new
  · rw [upd_ne hb] at e
    exact (x b u e).stay (fun c v _ q => k c v q) (fun c q => by rw [upd_ne (ne_of_none q hn)]; exact q) fun c xs q => by rw [upd_ne (ne_of_none q hn)]; exact q
end

def Rd (H : Hp) (a : Addr) (u : HO) : Prop := H a = some u ∨ ∃ o, H a = some (.frz o u)
theorem Rd.of {H : Hp} {a : Addr} {u : HO} (h : H a = some u) : Rd H a u := .inl h
theorem Rd.ok {P : Program} {w : World} {H : Hp} {h : Heap} {a : Addr} {u : HO} (r : Rd H a u) (x : HOk P w H h) : ObjOk P w H h a u := by
  rcases r with r | ⟨o, r⟩
  · exact x a u r
  · obtain ⟨_, q⟩ := x a _ r
    exact q
def Mut : Option HO → Prop
  | some (.lst _) => True
  | some (.dK _) => True
  | some (.dT _) => True
  | some (.set _ _) => True
  | some (.ins _ _ _) => True
  | some (.ext _) => True
  | _ => False
section
variable {P : Program} {w : World} {H : Hp} {h h' : Heap} {x e : Addr} {o' : HO}
theorem HOk.write (ok : HOk P w H h) (mu : Mut (H x)) (he : e = x ∨ H e = some (.own x)) (k : ∀ b u, b ≠ e → h.get? b = some u → h'.get? b = some u) (heo : ∃ u, h'.get? e = some u)
    (new : ObjOk P w (upd H x o') h' x o') : HOk P w (upd H x o') h' := fun b u q => by
  have nown : ∀ c y, H c = some (.own y) → c ≠ x := fun c y r z => by subst z; rw [r] at mu; exact mu
  have ntup : ∀ c xs, H c = some (.tup xs) → c ≠ x := fun c xs r z => by subst z; rw [r] at mu; exact mu
  by_cases hb : b = x
  · subst hb; rw [upd_same] at q; cases q; exact new
  · rw [upd_ne hb] at q
    by_cases hbe : b = e
    · have q' : H b = some (.own x) := by
        rcases he with z | z
        · exact absurd (hbe.trans z) hb
        · rw [hbe]; exact z
      rw [q] at q'; cases q'
      obtain ⟨v, hv⟩ := heo
      exact ⟨v, by rw [hbe]; exact hv⟩
    · refine (ok b u q).stay (fun c v hc r => k c v ?_ r) (fun c r => by rw [upd_ne (nown c b r)]; exact r) fun c xs r => by rw [upd_ne (ntup c xs r)]; exact r
      rcases hc with rfl | hc
      · exact hbe
      · rintro rfl
        rcases he with z | z
        · exact nown c b hc z
        · rw [hc] at z; cases z; exact hb rfl
end

structure Un (fs ex : List Addr) (H H' : Hp) (h h' : Heap) : Prop where
  keep : ∀ b o, h.get? b = some o → H b = none → b ∉ fs → b ∉ ex → h'.get? b = some o
  slot : ∀ b o, h.get? b = some o → H b = none → b ∈ fs → b ∉ ex → ∃ sl, h'.get? b = some { o with slots := sl }
  free : ∀ b o, h.get? b = some o → H b = none → b ∉ ex → H' b = none
  there : ∀ b o, h.get? b = some o → b ∉ ex → ∃ o', h'.get? b = some o'
  tups : ∀ b xs, H b = some (.tup xs) → H' b = some (.tup xs)
  frzs : ∀ b o u, H b = some (.frz o u) → H' b = some (.frz o u)
  tbls : ∀ b ps, H b = some (.tbl ps) → ∃ more, H' b = some (.tbl (ps ++ more))
section
variable {fs fs' ex ex' : List Addr} {H H1 H2 : Hp} {h h1 h2 h' : Heap} {a x e : Addr} {o : HO}
theorem Un.any (u : Un fs ex H H1 h h1) {b : Addr} {ob : Obj} (q : h.get? b = some ob) (n : H b = none) (hx : b ∉ ex) : ∃ sl, h1.get? b = some { ob with slots := sl } := by
  by_cases hb : b ∈ fs
  · exact u.slot b ob q n hb hx
  · exact ⟨ob.slots, u.keep b ob q n hb hx⟩
theorem Un.trans (a : Un fs ex H H1 h h1) (b : Un fs ex H1 H2 h1 h2) : Un fs ex H H2 h h2 where
  keep := fun c ob q n hc hx => b.keep c ob (a.keep c ob q n hc hx) (a.free c ob q n hx) hc hx
  slot := fun c ob q n hc hx => by
    obtain ⟨sl, e1⟩ := a.slot c ob q n hc hx
    obtain ⟨sl', e2⟩ := b.slot c _ e1 (a.free c ob q n hx) hc hx
    exact ⟨sl', e2⟩
  free := fun c ob q n hx => by
    obtain ⟨o', e1⟩ := a.there c ob q hx
    exact b.free c o' e1 (a.free c ob q n hx) hx
  there := fun c ob q hx => by
    obtain ⟨o', e1⟩ := a.there c ob q hx
    exact b.there c o' e1 hx
  tups := fun c xs q => b.tups c xs (a.tups c xs q)
  frzs := fun c ob xs q => b.frzs c ob xs (a.frzs c ob xs q)
  tbls := fun c ps q => by
    obtain ⟨m1, e1⟩ := a.tbls c ps q
    obtain ⟨m2, e2⟩ := b.tbls c _ e1
    exact ⟨m1 ++ m2, by rw [e2, Array.append_assoc]⟩
theorem Un.kept (k : ∀ b u, h.get? b = some u → h'.get? b = some u) : Un fs ex H H h h' :=
  ⟨fun b ob q _ _ _ => k b ob q, fun b ob q _ _ _ => ⟨ob.slots, k b ob q⟩, fun _ _ _ n _ => n, fun b ob q _ => ⟨ob, k b ob q⟩, fun _ _ q => q, fun _ _ _ q => q, fun _ ps q => ⟨#[], by rw [q]; simp⟩⟩
theorem Un.refl : Un fs ex H H h h := Un.kept fun _ _ q => q
theorem Un.laid (k : ∀ b u, h.get? b = some u → h'.get? b = some u) (hp : h.objs.size ≤ a) (hn : H a = none) : Un fs ex H (upd H a o) h h' where
  keep := fun b u q _ _ _ => k b u q
  slot := fun b u q _ _ _ => ⟨u.slots, k b u q⟩
  free := fun b u q n _ => by rw [upd_ne (Nat.ne_of_lt (Nat.lt_of_lt_of_le (Heap.lt_size q) hp))]; exact n
  there := fun b u q _ => ⟨u, k b u q⟩
  tups := fun b xs q => by rw [upd_ne (ne_of_none q hn)]; exact q
  frzs := fun b u xs q => by rw [upd_ne (ne_of_none q hn)]; exact q
  tbls := fun b ps q => ⟨#[], by rw [upd_ne (ne_of_none q hn), q]; simp⟩
theorem Un.write (mu : Mut (H x)) (he : e = x ∨ H e = some (.own x)) (k : ∀ b u, b ≠ e → h.get? b = some u → h'.get? b = some u) (heo : ∃ u, h'.get? e = some u) : Un fs ex H (upd H x o) h h' := by
  have hx : ∀ b, H b = none → b ≠ x := fun b n z => by subst z; rw [n] at mu; exact mu
  have hb : ∀ b, H b = none → b ≠ e := fun b n z => by
    subst z
    rcases he with r | r
    · exact hx b n r
    · rw [n] at r; cases r
  have hm : ∀ b u, H b = some u → ¬ Mut (some u) → b ≠ x := fun b u q nm z => by subst z; rw [q] at mu; exact nm mu
  refine ⟨fun b u q n _ _ => k b u (hb b n) q, fun b u q n _ _ => ⟨u.slots, k b u (hb b n) q⟩, fun b u q n _ => by rw [upd_ne (hx b n)]; exact n, fun b u q _ => ?_,
    fun b xs q => by rw [upd_ne (hm b _ q fun z => z)]; exact q, fun b u xs q => by rw [upd_ne (hm b _ q fun z => z)]; exact q, fun b ps q => ⟨#[], by rw [upd_ne (hm b _ q fun z => z), q]; simp⟩⟩
  by_cases hbe : b = e
  · subst hbe; exact heo
  · exact ⟨u, k b u hbe q⟩
theorem Un.mono (u : Un fs ex H H1 h h1) (hs : ∀ b ∈ fs, b ∈ fs') (hx : ∀ b ∈ ex, b ∈ ex') : Un fs' ex' H H1 h h1 :=
  ⟨fun b ob q n hb he => u.keep b ob q n (fun z => hb (hs b z)) fun z => he (hx b z), fun _ _ q n _ he => u.any q n fun z => he (hx _ z), fun b ob q n he => u.free b ob q n fun z => he (hx b z), fun b ob q he => u.there b ob q fun z => he (hx b z), u.tups, u.frzs, u.tbls⟩
end

def trk (h : Heap) (H : Hp) : List Addr := (List.range h.objs.size).filter fun a => (H a).isSome
def hidT (h : Heap) (H : Hp) : Heap := PySem.W.hideAll h (trk h H)
theorem hidT_size (h : Heap) (H : Hp) : (hidT h H).objs.size = h.objs.size := PySem.W.hideAll_size _ _
theorem hidT_get {h : Heap} {H : Hp} {b : Addr} {o : Obj} (e : h.get? b = some o) (n : H b = none) : (hidT h H).get? b = some o :=
  PySem.W.hideAll_get _ e fun hm => by
    have q : (H b).isSome = true := (List.mem_filter.mp hm).2
    rw [n] at q; simp at q
theorem of_hidT {h : Heap} {H : Hp} {b : Addr} {o : Obj} (e : (hidT h H).get? b = some o) : h.get? b = some o ∧ H b = none := by
  have e' : h.get? b = some o := PySem.W.of_hideAll (trk h H) e
  refine ⟨e', ?_⟩
  cases q : H b with
  | none => rfl
  | some x =>
    have hm : b ∈ trk h H := List.mem_filter.mpr ⟨List.mem_range.mpr (Heap.lt_size e'), by simp [q]⟩
    have z : (hidT h H).get? b = none := PySem.W.hideAll_none (trk h H) hm
    rw [z] at e; cases e

def allNews (g h : Heap) (L : Addr) : List (Addr × Obj) := (List.range h.objs.size).filterMap fun a => if a = L ∨ (g.get? a).isSome = true then none else (h.get? a).map fun o => (a, o)
def rest (g h : Heap) (L d : Addr) : List (Addr × Obj) := (allNews g h L).filter fun p => decide (p.1 ≠ d)
end L2

namespace L2
open PySem PySem.Spec PyProof.Rows

structure Mod (K : PySem.W.Frag) (mg : Str → Option Value) (base : Heap) : Prop where
  kin : K.In base
  glob : base.Ns mainGlobals mg
  blt : ∃ mb, base.Ns builtinsNs mb ∧ ∀ x : Str, x ≠ "__name__" → mb x = bootBuiltins x
  nolimit : base.NoLimit

structure Cx where
  prog : Program
  w : World
  K : PySem.W.Frag
  mg : Str → Option Value
  base : Heap
  A : Around
  N : List Str
  s₀ : Shared
  H₀ : Hp
  env : Env
  outer : List Env
  stack : List Env
  ex : List Addr
  fn : Str → Bool
  calm : Bool
  pn : List (Addr × Obj)
  xe : Value → Shared → Prop
def frs (l : List Env) : List Addr := l.filterMap (·.frame)
abbrev Cx.fs (X : Cx) : List Addr := frs X.outer

def Vis (sc : Scope) (x : Str) : Prop := sc.names.lookup x = some .local ∨ sc.names.lookup x = some .cell ∨ sc.names.lookup x = some .free
def Loc (sc : Scope) (x : Str) : Prop := sc.names.lookup x = some .local ∨ sc.names.lookup x = some .cell
def Look (env : Env) (h : Heap) (m : Str → Option Value) (x : Str) (u : Value) : Prop :=
  (env.kindOf x = some .local ∧ m x = some u) ∨ ((env.kindOf x = some .cell ∨ env.kindOf x = some .free) ∧ ∃ c, env.cells.lookup x = some c ∧ h.IsCell c (some u))

structure Cx.Ok (X : Cx) : Prop where
  mod : Mod X.K X.mg X.base
  kind : X.env.scope.kind = .function
  glob : X.env.globals = mainGlobals
  blt : X.env.builtins = builtinsNs
  above : X.s₀.heap.objs.size ≤ X.env.locals
  inj : ∀ x y c, X.env.cells.lookup x = some c → X.env.cells.lookup y = some c → x = y
  has : ∀ x, (X.env.kindOf x = some .cell ∨ X.env.kindOf x = some .free) → ∃ c, X.env.cells.lookup x = some c
  cab : ∀ x c, X.fn x = true → X.env.cells.lookup x = some c → X.s₀.heap.objs.size ≤ c
  hd : X.calm = true → X.A.handled = none
  frames : X.A.frames = some X.stack
  stk : X.stack = X.outer ∨ (X.stack = X.env :: X.outer ∧ X.env.frame = some X.env.locals)
  exf : ∀ b ∈ X.ex, b ≠ X.env.locals ∧ ∀ x c, X.env.cells.lookup x = some c → c ≠ b
  bs : ∀ b o, X.base.get? b = some o → X.s₀.heap.get? b = some o ∧ X.H₀ b = none
  bsz : X.base.objs.size ≤ X.s₀.heap.objs.size
  noex : ∀ b o, X.base.get? b = some o → b ∉ X.ex
  exfs : ∀ b ∈ X.ex, b ∉ X.fs
  funs : X.s₀.heap.FunFrames X.base X.outer
  frf : ∀ b ∈ X.fs, X.H₀ b = none

structure Inv (X : Cx) (pins : List (Addr × Obj)) (σ : List (Option V)) (H : Hp) (s : Shared) : Prop where
  ok : X.Ok
  os : s.os = X.s₀.os
  bare : AllBare s.gens
  base : Un X.fs X.ex X.H₀ H X.s₀.heap s.heap
  loc : ∃ m, s.heap.Ns X.env.locals m ∧ ∀ (i : Nat) (x : Str) (v : V), X.N[i]? = some x → σ[i]? = some (some v) → Vis X.env.scope x → ∃ u, RelV v u ∧ Look X.env s.heap m x u
  cell : ∀ x c, X.env.cells.lookup x = some c → ∃ v, s.heap.IsCell c v
  free : H X.env.locals = none
  freeC : ∀ x c, X.env.cells.lookup x = some c → H c = none
  pin : ∀ p ∈ X.pn ++ pins, s.heap.get? p.1 = some p.2 ∧ H p.1 = none ∧ p.1 ≠ X.env.locals ∧ p.1 ∉ X.fs ∧ ∀ v, p.2.data ≠ .cell v
  hok : HOk X.prog X.w H s.heap
  len : σ.length = X.N.length

section
variable {X : Cx} {pins : List (Addr × Obj)} {σ : List (Option V)} {H H' : Hp} {s : Shared} {h' : Heap}

theorem Cx.Ok.nofr (ok : X.Ok) {b : Addr} {o : Obj} (e : X.base.get? b = some o) : b ∉ X.fs := fun hb => by
  have := (ok.funs.mem hb).1
  rw [e] at this; cases this
theorem Inv.bs (I : Inv X pins σ H s) : ∀ b o, X.base.get? b = some o → s.heap.get? b = some o ∧ H b = none := fun b o e =>
  ⟨I.base.keep b o (I.ok.bs b o e).1 (I.ok.bs b o e).2 (I.ok.nofr e) (I.ok.noex b o e), I.base.free b o (I.ok.bs b o e).1 (I.ok.bs b o e).2 (I.ok.noex b o e)⟩
theorem Inv.bk (I : Inv X pins σ H s) : ∀ b o, X.base.get? b = some o → s.heap.get? b = some o := fun b o e => (I.bs b o e).1
theorem Inv.mod (I : Inv X pins σ H s) : Mod X.K X.mg X.base := I.ok.mod
theorem Inv.kIn (I : Inv X pins σ H s) : X.K.In s.heap := I.ok.mod.kin.keeps I.bk
theorem Inv.nolimit (I : Inv X pins σ H s) : s.heap.NoLimit := I.ok.mod.nolimit.keeps I.bk
theorem Inv.fr (I : Inv X pins σ H s) : ∃ m, Fr X.base X.env.locals s.heap m :=
  let ⟨m, hn, _⟩ := I.loc
  ⟨m, hn, I.bk, Nat.le_trans I.ok.bsz I.ok.above⟩
theorem Inv.lt (I : Inv X pins σ H s) : X.env.locals < s.heap.objs.size := let ⟨_, hn, _⟩ := I.loc; hn.lt
theorem Inv.sz (I : Inv X pins σ H s) : X.s₀.heap.objs.size ≤ s.heap.objs.size := Nat.le_trans I.ok.above (Nat.le_of_lt I.lt)
theorem Inv.nofs (I : Inv X pins σ H s) {a : Addr} (h : s.heap.objs.size ≤ a) : a ∉ X.fs := fun hb => by
  obtain ⟨_, o, ho, _⟩ := I.ok.funs.mem hb
  exact absurd (Nat.lt_of_lt_of_le (Heap.lt_size ho) (Nat.le_trans I.sz h)) (Nat.lt_irrefl _)
theorem Inv.cne (I : Inv X pins σ H s) : ∀ x c, X.env.cells.lookup x = some c → c ≠ X.env.locals := fun x c e z => by
  obtain ⟨v, o, ho, hd⟩ := I.cell x c e
  obtain ⟨m, ⟨o', es, ep, ho', hd', _⟩, _⟩ := I.loc
  rw [z, ho'] at ho; cases ho; rw [hd'] at hd; cases hd
theorem Inv.funs (I : Inv X pins σ H s) : s.heap.FunFrames X.base X.outer := by
  have all : ∀ (l : List Env), (∀ b ∈ frs l, b ∈ X.fs) → X.s₀.heap.FunFrames X.base l → s.heap.FunFrames X.base l := by
    intro l
    induction l with
    | nil => intro _ _; trivial
    | cons env r ih =>
      intro hs hl
      obtain ⟨hk, ⟨L, o, hf, hn, ho, hd⟩, hr⟩ := hl
      have hL : L ∈ X.fs := hs L (by unfold frs; rw [List.filterMap_cons, hf]; exact List.mem_cons_self)
      obtain ⟨sl, e⟩ := I.base.slot L o ho (I.ok.frf L hL) hL fun z => I.ok.exfs L z hL
      exact ⟨hk, ⟨L, _, hf, hn, e, hd⟩, ih (fun b hb => hs b (by unfold frs; rw [List.filterMap_cons, hf]; exact List.mem_cons_of_mem _ hb)) hr⟩
  exact all X.outer (fun _ hb => hb) I.ok.funs

theorem Inv.stack (I : Inv X pins σ H s) : s.heap.FunFrames X.base X.stack := by
  rcases I.ok.stk with e | ⟨e, hf⟩
  · rw [e]; exact I.funs
  · rw [e]
    obtain ⟨m, hn, _⟩ := I.loc
    refine .cons (by rw [I.ok.kind]; decide) hf hn ?_ I.funs
    exact Heap.get?_none_of_le (Nat.le_trans I.ok.bsz I.ok.above)
theorem Inv.stkSub (I : Inv X pins σ H s) : ∀ b ∈ frs X.stack, b ∈ X.env.locals :: X.fs := fun b hb => by
  rcases I.ok.stk with e | ⟨e, hf⟩
  · rw [e] at hb; exact List.mem_cons_of_mem _ hb
  · rw [e] at hb
    unfold frs at hb
    rw [List.filterMap_cons, hf] at hb
    exact hb
theorem Inv.stkFree (I : Inv X pins σ H s) : ∀ b ∈ frs X.stack, H b = none := fun b hb => by
  rcases List.mem_cons.mp (I.stkSub b hb) with e | hb
  · rw [e]; exact I.free
  · obtain ⟨_, o, ho, _⟩ := I.ok.funs.mem hb
    exact I.base.free b o ho (I.ok.frf b hb) fun z => I.ok.exfs b z hb

theorem Inv.step {g' : Array GenState} {t' : Nat} {d' : Drawn} {ch : List Addr} (I : Inv X pins σ H s)
    (hch : ∀ b ∈ ch, (b ∈ X.ex ∨ X.s₀.heap.objs.size ≤ b) ∧ b ≠ X.env.locals ∧ (∀ x c, X.env.cells.lookup x = some c → c ≠ b) ∧ ∀ p ∈ X.pn ++ pins, p.1 ≠ b)
    (keep : ∀ b o, b ≠ X.env.locals → b ∉ X.fs → b ∉ ch → s.heap.get? b = some o → H b = none → h'.get? b = some o)
    (slot : ∀ b o, b ≠ X.env.locals → b ∈ X.fs → b ∉ ch → s.heap.get? b = some o → H b = none → ∃ sl, h'.get? b = some { o with slots := sl }) (free : ∀ b o, b ∉ ch → s.heap.get? b = some o → H b = none → H' b = none)
    (there : ∀ b o, b ∉ ch → s.heap.get? b = some o → ∃ o', h'.get? b = some o')
    (tups : ∀ b xs, H b = some (.tup xs) → H' b = some (.tup xs)) (frzs : ∀ b o u, H b = some (.frz o u) → H' b = some (.frz o u)) (tbls : ∀ b ps, H b = some (.tbl ps) → ∃ more, H' b = some (.tbl (ps ++ more)))
    (ns : ∀ m, s.heap.Ns X.env.locals m → h'.Ns X.env.locals m) (hok : HOk X.prog X.w H' h') (hg : AllBare g') :
    Inv X pins σ H' { s with heap := h', gens := g', drawn := d', toks := t' } := by
  have neL : ∀ b o, X.s₀.heap.get? b = some o → b ≠ X.env.locals := fun b o e => Nat.ne_of_lt (Nat.lt_of_lt_of_le (Heap.lt_size e) I.ok.above)
  have neC : ∀ b o, X.s₀.heap.get? b = some o → b ∉ X.ex → b ∉ ch := fun b o e hx hb => by
    rcases (hch b hb).1 with z | z
    · exact hx z
    · exact absurd (Nat.lt_of_lt_of_le (Heap.lt_size e) z) (Nat.lt_irrefl _)
  have cellK : ∀ x c, X.env.cells.lookup x = some c → ∀ v, s.heap.IsCell c v → h'.IsCell c v := fun x c e v ⟨o, ho, hd⟩ => by
    have nch : c ∉ ch := fun z => (hch c z).2.2.1 x c e rfl
    by_cases hc : c ∈ X.fs
    · obtain ⟨sl, q⟩ := slot c o (I.cne x c e) hc nch ho (I.freeC x c e)
      exact ⟨_, q, hd⟩
    · exact ⟨o, keep c o (I.cne x c e) hc nch ho (I.freeC x c e), hd⟩
  refine ⟨I.ok, I.os, hg, ⟨fun b o e n hb hx => ?_, fun b o e n hb hx => ?_, fun b o e n hx => ?_, fun b o e hx => ?_, fun b xs e => tups b xs (I.base.tups b xs e), fun b o xs e => frzs b o xs (I.base.frzs b o xs e), fun b ps e => ?_⟩, ?_, fun x c e => ?_, ?_, fun x c e => ?_, fun p hp => ?_, hok, I.len⟩
  · exact keep b o (neL b o e) hb (neC b o e hx) (I.base.keep b o e n hb hx) (I.base.free b o e n hx)
  · obtain ⟨sl, e1⟩ := I.base.slot b o e n hb hx
    obtain ⟨sl', e2⟩ := slot b _ (neL b o e) hb (neC b o e hx) e1 (I.base.free b o e n hx)
    exact ⟨sl', e2⟩
  · obtain ⟨o', e1⟩ := I.base.there b o e hx
    exact free b o' (neC b o e hx) e1 (I.base.free b o e n hx)
  · obtain ⟨o', e1⟩ := I.base.there b o e hx
    exact there b o' (neC b o e hx) e1
  · obtain ⟨m1, e1⟩ := I.base.tbls b ps e
    obtain ⟨m2, e2⟩ := tbls b _ e1
    exact ⟨m1 ++ m2, by rw [e2, Array.append_assoc]⟩
  · obtain ⟨m, hn, hl⟩ := I.loc
    refine ⟨m, ns m hn, fun i x v e1 e2 e3 => ?_⟩
    obtain ⟨u, r, l⟩ := hl i x v e1 e2 e3
    refine ⟨u, r, ?_⟩
    rcases l with l | ⟨k, c, e, z⟩
    · exact .inl l
    · exact .inr ⟨k, c, e, cellK x c e _ z⟩
  · obtain ⟨v, z⟩ := I.cell x c e
    exact ⟨v, cellK x c e v z⟩
  · obtain ⟨m, ⟨o, _, _, ho, _⟩, _⟩ := I.loc
    exact free _ o (fun z => (hch _ z).2.1 rfl) ho I.free
  · obtain ⟨v, o, ho, hd⟩ := I.cell x c e
    exact free c o (fun z => (hch c z).2.2.1 x c e rfl) ho (I.freeC x c e)
  · obtain ⟨e, n, ne, nf, d⟩ := I.pin p hp
    have nch : p.1 ∉ ch := fun z => (hch p.1 z).2.2.2 p hp rfl
    exact ⟨keep p.1 p.2 ne nf nch e n, free p.1 p.2 nch e n, ne, nf, d⟩
theorem Inv.un {t' : Nat} (I : Inv X pins σ H s) (u : Un X.fs [] H H' s.heap h') (hok : HOk X.prog X.w H' h') : Inv X pins σ H' { s with heap := h', toks := t' } := by
  obtain ⟨m, ⟨o, es, ep, ho, r⟩, _⟩ := id I.loc
  obtain ⟨sl, hL⟩ := u.any ho I.free (by simp)
  exact I.step (g' := s.gens) (d' := s.drawn) (ch := []) (fun _ z => nomatch z) (fun b o _ hb _ e n => u.keep b o e n hb (by simp)) (fun b o _ hb _ e n => u.slot b o e n hb (by simp)) (fun b o _ e n => u.free b o e n (by simp)) (fun b o _ e => u.there b o e (by simp)) u.tups u.frzs u.tbls (fun m' hm => by
    obtain ⟨o', es', ep', ho', r'⟩ := hm
    rw [ho] at ho'; cases ho'
    exact ⟨_, es', ep', hL, r'⟩) hok I.bare
theorem Inv.call {g' : Array GenState} {t' : Nat} {d' : Drawn} {ch : List Addr} (I : Inv X pins σ H s) (u : Un (frs X.stack) ch H H' s.heap h') (hok : HOk X.prog X.w H' h') (hg : AllBare g')
    (hch : ∀ b ∈ ch, (b ∈ X.ex ∨ X.s₀.heap.objs.size ≤ b) ∧ b ≠ X.env.locals ∧ (∀ x c, X.env.cells.lookup x = some c → c ≠ b) ∧ ∀ p ∈ X.pn ++ pins, p.1 ≠ b) :
    Inv X pins σ H' { s with heap := h', gens := g', drawn := d', toks := t' } := by
  obtain ⟨m, ⟨o, es, ep, ho, r⟩, _⟩ := id I.loc
  obtain ⟨sl, hL⟩ := u.any ho I.free fun z => (hch _ z).2.1 rfl
  exact I.step (ch := ch) hch (fun b o hL hb hc e n => u.keep b o e n (fun z => (List.mem_cons.mp (I.stkSub b z)).elim hL hb) hc) (fun b o _ _ hc e n => u.any e n hc) (fun b o hc e n => u.free b o e n hc) (fun b o hc e => u.there b o e hc) u.tups u.frzs u.tbls (fun m' hm => by
    obtain ⟨o', es', ep', ho', r'⟩ := hm
    rw [ho] at ho'; cases ho'
    exact ⟨_, es', ep', hL, r'⟩) hok hg
theorem Inv.turned {t' : Nat} {it : Addr} (I : Inv X pins σ H s) (k : ∀ b o, b ≠ it → s.heap.get? b = some o → h'.get? b = some o) (hn : H it = none) (hL : it ≠ X.env.locals)
    (h1 : it ∈ X.ex ∨ X.s₀.heap.objs.size ≤ it) (h2 : ∀ x c, X.env.cells.lookup x = some c → c ≠ it) (h3 : ∀ p ∈ X.pn ++ pins, p.1 ≠ it) : Inv X pins σ H { s with heap := h', toks := t' } := by
  have nit : ∀ b u, H b = some u → b ≠ it := fun b u e z => by rw [z, hn] at e; cases e
  refine I.step (g' := s.gens) (d' := s.drawn) (ch := [it]) (fun b hb => ?_) (fun b o _ _ hc e _ => k b o (fun z => hc (by simp [z])) e) (fun b o _ _ hc e _ => ⟨o.slots, k b o (fun z => hc (by simp [z])) e⟩) (fun _ _ _ _ n => n)
    (fun b o hc e => ⟨o, k b o (fun z => hc (by simp [z])) e⟩) (fun _ _ e => e) (fun _ _ _ e => e) (fun b ps e => ⟨#[], by rw [e]; simp⟩) (fun m hm => ?_) (fun b u e => ?_) I.bare
  · have e : b = it := by simpa using hb
    subst e
    exact ⟨h1, hL, h2, h3⟩
  · obtain ⟨o, es, ep, ho, r⟩ := hm
    exact ⟨o, es, ep, k _ o (Ne.symm hL) ho, r⟩
  · refine (I.hok b u e).stay (fun c v hc q => k c v ?_ q) (fun _ q => q) fun _ _ q => q
    rcases hc with z | z
    · rw [z]; exact nit b u e
    · exact nit c _ z
theorem Inv.tok (I : Inv X pins σ H s) (t : Nat) : Inv X pins σ H { s with toks := t } := I.un (h' := s.heap) (t' := t) Un.refl I.hok
theorem Inv.kept {t' : Nat} (I : Inv X pins σ H s) (k : ∀ b u, s.heap.get? b = some u → h'.get? b = some u) : Inv X pins σ H { s with heap := h', toks := t' } := I.un (Un.kept k) (I.hok.kept k)
theorem Inv.laid {a : Addr} {o : HO} {t' : Nat} (I : Inv X pins σ H s) (k : ∀ b u, s.heap.get? b = some u → h'.get? b = some u) (hp : s.heap.objs.size ≤ a) (new : ObjOk X.prog X.w (upd H a o) h' a o) :
    Inv X pins σ (upd H a o) { s with heap := h', toks := t' } := I.un (Un.laid k hp (I.hok.fresh hp)) (I.hok.laid k hp new)
theorem Inv.write {x e : Addr} {o : HO} {t' : Nat} (I : Inv X pins σ H s) (mu : Mut (H x)) (he : e = x ∨ H e = some (.own x)) (k : ∀ b u, b ≠ e → s.heap.get? b = some u → h'.get? b = some u) (heo : ∃ u, h'.get? e = some u)
    (new : ObjOk X.prog X.w (upd H x o) h' x o) : Inv X pins σ (upd H x o) { s with heap := h', toks := t' } := I.un (Un.write mu he k heo) (I.hok.write mu he k heo new)
theorem Inv.pins_of {pins' : List (Addr × Obj)} (I : Inv X pins σ H s) (h : ∀ p ∈ pins', s.heap.get? p.1 = some p.2 ∧ H p.1 = none ∧ p.1 ≠ X.env.locals ∧ p.1 ∉ X.fs ∧ ∀ v, p.2.data ≠ .cell v) : Inv X pins' σ H s :=
  ⟨I.ok, I.os, I.bare, I.base, I.loc, I.cell, I.free, I.freeC, fun p hp => (List.mem_append.mp hp).elim (fun z => I.pin p (List.mem_append_left _ z)) (h p), I.hok, I.len⟩

theorem nodup_ix {N : List Str} (hN : N.Nodup) {i j : Nat} {x : Str} (a : N[i]? = some x) (b : N[j]? = some x) : i = j := by
  obtain ⟨h1, e1⟩ := List.getElem?_eq_some_iff.mp a
  obtain ⟨h2, e2⟩ := List.getElem?_eq_some_iff.mp b
  exact (List.getElem_inj hN).mp (e1.trans e2.symm)

theorem store_ok2 {M : Model} {A : Around} {E : Value → Shared → Prop} {i : Nat} {x : Str} {v : V} {u : Value} {Q : Unit → Shared → Prop} (I : Inv X pins σ H s) (hN : X.N.Nodup) (hi : X.N[i]? = some x) (hx : Loc X.env.scope x) (r : RelV v u)
    (h : ∀ s', Inv X pins (σ.set i (some v)) H s' → (∃ a, Heap.SameBut a s.heap s'.heap ∧ (a = X.env.locals ∨ X.env.cells.lookup x = some a)) → Q () s') (hf : X.fn x = true ∨ X.env.scope.names.lookup x = some .local := by first | exact .inl rfl | exact .inr rfl | assumption) : wpAny M A (storeName X.env x u) Q E s := by
  obtain ⟨m, hn, hl⟩ := id I.loc
  have hcls : (X.env.scope.kind == .class || (X.env.scope.kind == .module && X.env.locals != X.env.globals)) = false := by rw [I.ok.kind]; rfl
  have hiσ : i < σ.length := by rw [I.len]; exact (List.getElem?_eq_some_iff.mp hi).1
  have cne := I.cne
  have tracked : ∀ {a : Addr} {h' : Heap}, (∃ o, s.heap.get? a = some o ∧ H a = none) → Heap.SameBut a s.heap h' → HOk X.prog X.w H h' := fun {a h'} ha hs b ob e => by
    obtain ⟨_, _, hfree⟩ := ha
    refine (I.hok b ob e).stay (fun c w' hc q => (hs.2 c ?_).trans q) (fun _ q => q) fun _ _ q => q
    rintro rfl
    rcases hc with rfl | hc
    · rw [hfree] at e; cases e
    · rw [hfree] at hc; cases hc
  rcases hx with hk | hk
  · refine wpAny_storeName_local hk hn (fun h' hn' hs => ?_) hcls
    obtain ⟨oL, _, _, hoL, _⟩ := id hn
    refine h _ ⟨I.ok, I.os, I.bare, ⟨fun b o e n hb hx => ?_, fun b o e n hb hx => ?_, I.base.free, fun b o e hx => ?_, I.base.tups, I.base.frzs, I.base.tbls⟩, ⟨_, hn', fun j y v' e1 e2 e3 => ?_⟩, fun y c e => ?_, I.free, I.freeC, fun p hp => ?_, tracked ⟨oL, hoL, I.free⟩ hs, by simpa using I.len⟩ ⟨_, hs, .inl rfl⟩
    · exact (hs.2 b (Nat.ne_of_lt (Nat.lt_of_lt_of_le (Heap.lt_size e) I.ok.above))).trans (I.base.keep b o e n hb hx)
    · obtain ⟨sl, e1⟩ := I.base.slot b o e n hb hx
      exact ⟨sl, (hs.2 b (Nat.ne_of_lt (Nat.lt_of_lt_of_le (Heap.lt_size e) I.ok.above))).trans e1⟩
    · obtain ⟨o', e1⟩ := I.base.there b o e hx
      exact ⟨o', (hs.2 b (Nat.ne_of_lt (Nat.lt_of_lt_of_le (Heap.lt_size e) I.ok.above))).trans e1⟩
    · by_cases hj : j = i
      · subst hj
        rw [hi] at e1; cases e1
        rw [List.getElem?_set_self hiσ] at e2
        cases e2
        exact ⟨u, r, .inl ⟨hk, by simp⟩⟩
      · rw [List.getElem?_set_ne (Ne.symm hj)] at e2
        obtain ⟨u', r', q⟩ := hl j y v' e1 e2 e3
        refine ⟨u', r', ?_⟩
        rcases q with ⟨k, e⟩ | ⟨k, c, e, z⟩
        · refine .inl ⟨k, ?_⟩
          have : y ≠ x := fun e => hj (nodup_ix hN e1 (e ▸ hi))
          simp [this, e]
        · exact .inr ⟨k, c, e, z.sameBut hs (cne y c e)⟩
    · obtain ⟨w', z⟩ := I.cell y c e
      exact ⟨w', z.sameBut hs (cne y c e)⟩
    · obtain ⟨e, n, ne, nf, d⟩ := I.pin p hp
      exact ⟨(hs.2 p.1 ne).trans e, n, ne, nf, d⟩
  · have hfn : X.fn x = true := by
      rcases hf with z | z
      · exact z
      · rw [z] at hk; cases hk
    obtain ⟨c, hc⟩ := I.ok.has x (.inl hk)
    obtain ⟨w', z⟩ := I.cell x c hc
    refine wpAny_storeName_cell I.ok.kind hk hc z (fun h' hc' hs => ?_)
    obtain ⟨oc, hoc, hocd⟩ := id z
    refine h { s with heap := h' } ⟨I.ok, I.os, I.bare, ⟨fun b o e n hb hx => ?_, fun b o e n hb hx => ?_, I.base.free, fun b o e hx => ?_, I.base.tups, I.base.frzs, I.base.tbls⟩, ⟨m, hn.sameBut hs (Ne.symm (cne x c hc)), fun j y v' e1 e2 e3 => ?_⟩, fun y c' e => ?_, I.free, I.freeC, fun p hp => ?_, tracked ⟨oc, hoc, I.freeC x c hc⟩ hs, by simpa using I.len⟩ ⟨c, hs, .inr hc⟩
    · exact (hs.2 b (Nat.ne_of_lt (Nat.lt_of_lt_of_le (Heap.lt_size e) (I.ok.cab x c hfn hc)))).trans (I.base.keep b o e n hb hx)
    · obtain ⟨sl, e1⟩ := I.base.slot b o e n hb hx
      exact ⟨sl, (hs.2 b (Nat.ne_of_lt (Nat.lt_of_lt_of_le (Heap.lt_size e) (I.ok.cab x c hfn hc)))).trans e1⟩
    · obtain ⟨o', e1⟩ := I.base.there b o e hx
      exact ⟨o', (hs.2 b (Nat.ne_of_lt (Nat.lt_of_lt_of_le (Heap.lt_size e) (I.ok.cab x c hfn hc)))).trans e1⟩
    · by_cases hj : j = i
      · subst hj
        rw [hi] at e1; cases e1
        rw [List.getElem?_set_self hiσ] at e2
        cases e2
        exact ⟨u, r, .inr ⟨.inl hk, c, hc, hc'⟩⟩
      · rw [List.getElem?_set_ne (Ne.symm hj)] at e2
        obtain ⟨u', r', q⟩ := hl j y v' e1 e2 e3
        refine ⟨u', r', ?_⟩
        rcases q with q | ⟨k, c', e, z'⟩
        · exact .inl q
        · refine .inr ⟨k, c', e, z'.sameBut hs ?_⟩
          rintro rfl
          exact hj (nodup_ix hN e1 (I.ok.inj _ _ _ e hc ▸ hi))
    · by_cases hcc : c' = c
      · subst hcc; exact ⟨_, hc'⟩
      · obtain ⟨w2, z2⟩ := I.cell y c' e
        exact ⟨w2, z2.sameBut hs hcc⟩
    · obtain ⟨e, n, ne, nf, d⟩ := I.pin p hp
      refine ⟨(hs.2 p.1 ?_).trans e, n, ne, nf, d⟩
      intro q
      rw [q, hoc] at e
      have q' : oc = p.2 := Option.some.inj e
      exact d w' (by rw [← q']; exact hocd)
theorem store_ok {M : Model} {A : Around} {E : Value → Shared → Prop} {i : Nat} {x : Str} {v : V} {u : Value} {Q : Unit → Shared → Prop} (I : Inv X pins σ H s) (hN : X.N.Nodup) (hi : X.N[i]? = some x) (hx : Loc X.env.scope x) (r : RelV v u)
    (h : ∀ s', Inv X pins (σ.set i (some v)) H s' → Q () s') (hf : X.fn x = true ∨ X.env.scope.names.lookup x = some .local := by first | exact .inl rfl | exact .inr rfl | assumption) : wpAny M A (storeName X.env x u) Q E s :=
  store_ok2 I hN hi hx r (fun s' I' _ => h s' I') hf
theorem Inv.call' {s' : Shared} {ch : List Addr} (I : Inv X pins σ H s) (ho : s'.os = s.os) (u : Un (frs X.stack) ch H H' s.heap s'.heap) (hok : HOk X.prog X.w H' s'.heap) (hg : AllBare s'.gens)
    (hch : ∀ b ∈ ch, (b ∈ X.ex ∨ X.s₀.heap.objs.size ≤ b) ∧ b ≠ X.env.locals ∧ (∀ x c, X.env.cells.lookup x = some c → c ≠ b) ∧ ∀ p ∈ X.pn ++ pins, p.1 ≠ b) : Inv X pins σ H' s' := by
  obtain ⟨h', g', d', t', o'⟩ := s'
  have e : o' = s.os := ho
  subst e
  exact I.call (g' := g') (t' := t') (d' := d') u hok hg hch
end

abbrev XK := Value → Option Addr → Hp → Prop
abbrev St := List (Option V)
abbrev VK := V → Hp → Prop
abbrev TE := St → Hp → VK → Prop
abbrev TT := St → Hp → (Bool → Hp → Prop) → Prop
abbrev TA := St → Hp → (List V → Hp → Prop) → Prop
structure Ends where
  nx : St → Hp → Prop
  rt : VK
  bk : St → Hp → Prop := fun _ _ => False
  ct : St → Hp → Prop := fun _ _ => False
abbrev TS := Ends → St → Hp → Prop

def EP (X : Cx) (pins : List (Addr × Obj)) (σ : St) (Q : VK) (u : Value) (s' : Shared) : Prop := ∃ v H', Inv X pins σ H' s' ∧ RelV v u ∧ Q v H'
def TP (X : Cx) (pins : List (Addr × Obj)) (σ : St) (Q : Bool → Hp → Prop) (b : Bool) (s' : Shared) : Prop := ∃ H', Inv X pins σ H' s' ∧ Q b H'
def AP (X : Cx) (pins : List (Addr × Obj)) (σ : St) (Q : List V → Hp → Prop) (us : List Value) (s' : Shared) : Prop := ∃ vs H', Inv X pins σ H' s' ∧ Vals vs us ∧ Q vs H'
def SP (X : Cx) (pins : List (Addr × Obj)) (D : Ends) (f : Flow) (s' : Shared) : Prop :=
  match f with
  | .next => ∃ σ' H', Inv X pins σ' H' s' ∧ D.nx σ' H'
  | .brk => ∃ σ' H', Inv X pins σ' H' s' ∧ D.bk σ' H'
  | .cont => ∃ σ' H', Inv X pins σ' H' s' ∧ D.ct σ' H'
  | .ret u => ∃ v σ' H', Inv X pins σ' H' s' ∧ RelV v u ∧ D.rt v H'

def PE (X : Cx) (e : Expr) (t : TE) : Prop :=
  ∀ (pins : List (Addr × Obj)) (s : Shared) (σ : St) (H : Hp) (Q : VK), Inv X pins σ H s → t σ H Q → wpAny (model X.prog X.w) X.A (eval e X.env) (EP X pins σ Q) X.xe s
def PT (X : Cx) (e : Expr) (t : TT) : Prop :=
  ∀ (pins : List (Addr × Obj)) (s : Shared) (σ : St) (H : Hp) (Q : Bool → Hp → Prop), Inv X pins σ H s → t σ H Q → wpAny (model X.prog X.w) X.A (isTrue e X.env (eval e X.env)) (TP X pins σ Q) X.xe s
def PW (X : Cx) (e : Expr) (t : TT) : Prop :=
  ∀ (whole : Sem Value) (pins : List (Addr × Obj)) (s : Shared) (σ : St) (H : Hp) (Q : Bool → Hp → Prop), Inv X pins σ H s → t σ H Q → wpAny (model X.prog X.w) X.A (isTrue e X.env whole) (TP X pins σ Q) X.xe s
theorem PW.pt {X : Cx} {e : Expr} {t : TT} (h : PW X e t) : PT X e t := h _
def PA (X : Cx) (es : List Expr) (t : TA) : Prop :=
  ∀ (pos : Pos) (pins : List (Addr × Obj)) (s : Shared) (σ : St) (H : Hp) (Q : List V → Hp → Prop), Inv X pins σ H s → t σ H Q → wpAny (model X.prog X.w) X.A (spliced (backTo pos (starEach es X.env))) (AP X pins σ Q) X.xe s
def PS (X : Cx) (st : Stmt) (t : TS) : Prop :=
  ∀ (pins : List (Addr × Obj)) (s : Shared) (σ : St) (H : Hp) (D : Ends), Inv X pins σ H s → t D σ H → wpAny (model X.prog X.w) X.A (exec st X.env) (SP X pins D) X.xe s
def PSs (X : Cx) (st : List Stmt) (t : TS) : Prop :=
  ∀ (pins : List (Addr × Obj)) (s : Shared) (σ : St) (H : Hp) (D : Ends), Inv X pins σ H s → t D σ H → wpAny (model X.prog X.w) X.A (execs st X.env) (SP X pins D) X.xe s
theorem thn {α : Type} {t : Sem α} {Q Q' : α → Shared → Prop} {M : Model} {A : Around} {E : Value → Shared → Prop} {s : Shared} (h : wpAny M A t Q E s) (hQ : ∀ a s, Q a s → Q' a s) : wpAny M A t Q' E s := wpAny_mono h hQ fun _ _ x => x
end L2

namespace L2
open PySem PySem.Spec PyProof.Rows
section
variable {X : Cx}


def tVar (i : Nat) : TE := fun σ H Q => ∃ v, σ[i]? = some (some v) ∧ Q v H
def tC (v : V) : TE := fun _ H Q => Q v H
theorem pe_var {i : Nat} {x : Str} {pos : Pos} (hN : X.N[i]? = some x) (hv : Vis X.env.scope x) (hd : (x == ("__debug__" : Str)) = false := by decide) (hcd : (x == ("__classdict__" : Str)) = false := by decide) : PE X (.Name x pos) (tVar i) := by
  intro pins s σ H Q I h
  obtain ⟨v, e, h⟩ := h
  obtain ⟨m, hn, hl⟩ := I.loc
  obtain ⟨u, r, l⟩ := hl i x v hN e hv
  have fin : EP X pins σ Q u s := ⟨v, H, I, r, h⟩
  rcases l with ⟨hk, hm⟩ | ⟨hk, c, hc, hcell⟩
  · exact wpAny_Name (wpAny_loadName_local I.ok.kind hk hn hm fin) hd
  · rcases hk with hk | hk
    · exact wpAny_Name (wpAny_loadName_cell I.ok.kind hk hc hcell fin) hd
    · exact wpAny_Name (wpAny_loadName_free I.ok.kind hk hc hcell fin hcd) hd
theorem pe_int {i j pos} : PE X (.Constant (.int i) j pos) (tC (.int i)) := fun _ _ _ H _ I h => wpAny_Constant_int ⟨.int i, H, I.tok _, ⟨_, rfl⟩, h⟩
theorem pe_bl {b j pos} : PE X (.Constant (.bool b) j pos) (tC (.bl b)) := fun _ _ _ H _ I h => Constant_bool ⟨.bl b, H, I, rfl, h⟩
theorem pe_non {j pos} : PE X (.Constant .none j pos) (tC .non) := fun _ _ _ H _ I h => Constant_none ⟨.non, H, I, rfl, h⟩
theorem pe_str {x j pos} : PE X (.Constant (.str x) j pos) (tC (.str x)) := fun _ _ _ H _ I h => Calls.Constant_str ⟨.str x, H, I.tok _, ⟨_, rfl⟩, h⟩

def Gl (X : Cx) (x : Str) : Prop := X.env.kindOf x = some .globalImplicit
theorem ld_glob {E : Value → Shared → Prop} {pins : List (Addr × Obj)} {s : Shared} {σ : St} {H : Hp} {x : Str} {u : Value} {pos : Pos} {Q : Value → Shared → Prop} (I : Inv X pins σ H s) (hg : Gl X x) (hm : X.mg x = some u) (h : Q u s)
    (hd : (x == ("__debug__" : Str)) = false := by decide) : wpAny (model X.prog X.w) X.A (eval (.Name x pos) X.env) Q E s :=
  Calls.Name_function_global I.ok.kind hg (Calls.loadGlobal_global (by rw [I.ok.glob]; exact I.mod.glob.keeps I.bk) hm h) hd
theorem ld_blt {E : Value → Shared → Prop} {pins : List (Addr × Obj)} {s : Shared} {σ : St} {H : Hp} {x : Str} {u : Value} {pos : Pos} {Q : Value → Shared → Prop} (I : Inv X pins σ H s) (hg : Gl X x) (hm : X.mg x = none) (hv : bootBuiltins x = some u) (h : Q u s)
    (hn : x ≠ "__name__" := by decide) (hd : (x == ("__debug__" : Str)) = false := by decide) : wpAny (model X.prog X.w) X.A (eval (.Name x pos) X.env) Q E s := by
  obtain ⟨mb, h1, h2⟩ := I.mod.blt
  exact Calls.Name_function_global I.ok.kind hg (Calls.loadGlobal_builtin (by rw [I.ok.glob]; exact I.mod.glob.keeps I.bk) hm (by rw [I.ok.blt]; exact h1.keeps I.bk) ((h2 x hn).trans hv) h) hd
theorem pe_glob {x : Str} {v : V} {u : Value} {pos : Pos} (hg : Gl X x) (hm : X.mg x = some u) (r : RelV v u) (hd : (x == ("__debug__" : Str)) = false := by decide) : PE X (.Name x pos) (tC v) :=
  fun _ _ _ H _ I h => ld_glob I hg hm ⟨v, H, I, r, h⟩ hd
theorem pe_bltn {x : Str} {v : V} {u : Value} {pos : Pos} (hg : Gl X x) (hm : X.mg x = none) (hv : bootBuiltins x = some u) (r : RelV v u) (hn : x ≠ "__name__" := by decide) (hd : (x == ("__debug__" : Str)) = false := by decide) : PE X (.Name x pos) (tC v) :=
  fun _ _ _ H _ I h => ld_blt I hg hm hv ⟨v, H, I, r, h⟩ hn hd

variable {a b : Expr} {ta tb : TE} {pos : Pos}

def PC (X : Cx) (op : CmpOp) (a b : Expr) (t : TE) : Prop :=
  ∀ (pins : List (Addr × Obj)) (s : Shared) (σ : St) (H : Hp) (Q : VK), Inv X pins σ H s → t σ H Q →
    wpAny (model X.prog X.w) X.A (eval a X.env) (fun v s₁ => wpAny (model X.prog X.w) X.A (eval b X.env) (fun u s₂ => wpAny (model X.prog X.w) X.A (compareOp op v u) (EP X pins σ Q) X.xe s₂) X.xe s₁) X.xe s
theorem nobehind (b : Expr) {op : CmpOp} (h : op ≠ .In) (h2 : op ≠ .NotIn) : behindInMarks op b = false := by
  have e1 : (op == CmpOp.In) = false := by cases op <;> first | rfl | exact absurd rfl h
  have e2 : (op == CmpOp.NotIn) = false := by cases op <;> first | rfl | exact absurd rfl h2
  cases b <;> simp [behindInMarks, e1, e2]
def tIsN (ta : TE) : TE := fun σ H Q => ta σ H fun x H1 => Q (.bl (decide (x = .non))) H1
def tNotN (ta : TE) : TE := fun σ H Q => ta σ H fun x H1 => Q (.bl (!decide (x = .non))) H1
theorem RelV.none_iff {x : V} {v : Value} (r : RelV x v) : (v == Value.none) = decide (x = .non) := by
  cases x with
  | non => cases r; rfl
  | bl _ => cases r; rfl
  | int _ => obtain ⟨t, rfl⟩ := r; rfl
  | str _ => obtain ⟨t, rfl⟩ := r; rfl
  | byt _ => obtain ⟨t, rfl⟩ := r; rfl
  | flt _ => obtain ⟨t, rfl⟩ := r; rfl
  | ref _ => cases r; rfl
  | ty _ => cases r; rfl
theorem pc_isN {j pos'} (ha : PE X a ta) : PC X .Is a (.Constant .none j pos') (tIsN ta) := by
  intro pins s σ H Q I h
  refine thn (ha pins s σ H _ I h) fun v s1 ⟨x, H1, I1, r1, q1⟩ => ?_
  exact Constant_none (is_none_gen ⟨.bl _, H1, I1, by rw [r1.none_iff]; rfl, q1⟩)
theorem pc_notN {j pos'} (ha : PE X a ta) : PC X .IsNot a (.Constant .none j pos') (tNotN ta) := by
  intro pins s σ H Q I h
  refine thn (ha pins s σ H _ I h) fun v s1 ⟨x, H1, I1, r1, q1⟩ => ?_
  exact Constant_none (isnot_none_gen ⟨.bl _, H1, I1, by rw [r1.none_iff]; rfl, q1⟩)
def tB (t : TE) : TT := fun σ H Q => t σ H fun x H1 => ∃ c, x = .bl c ∧ Q c H1
theorem pe_cmp {op : CmpOp} {t : TE} (h : PC X op a b t) (h1 : behindInMarks op b = false := by first | exact nobehind _ (by decide) (by decide) | rfl) : PE X (.Compare a [op] [b] pos) t := fun pins s σ H Q I hw => wpAny_Compare1 (h pins s σ H Q I hw) h1
theorem pt_cmp {op : CmpOp} {t : TE} (h : PC X op a b t) (h1 : behindInMarks op b = false := by first | exact nobehind _ (by decide) (by decide) | rfl) : PT X (.Compare a [op] [b] pos) (tB t) := by
  intro pins s σ H Q I hw
  refine wpAny_isTrue_Compare1 (thn (h pins s σ H _ I hw) fun v s1 h1 => thn h1 fun u s2 h2 => thn h2 fun c s3 ⟨x, H1, I1, r1, q1⟩ => ?_) h1
  obtain ⟨d, rfl, q⟩ := q1
  cases r1
  exact wpAny_truthy_bool ⟨H1, I1, q⟩
theorem pt_val {e : Expr} {t : TE} (h : PE X e t) (he : ∀ whole, isTrue e X.env whole = (do let v ← whole; standAt e.pos; holding [v] (truthy v)) := by intro _; rfl) : PT X e (tB t) := by
  intro pins s σ H Q I hw
  refine isTrue_plain (thn (h pins s σ H _ I hw) fun v s1 ⟨x, H1, I1, r1, q1⟩ => ?_) (he _)
  obtain ⟨d, rfl, q⟩ := q1
  cases r1
  exact wpAny_truthy_bool ⟨H1, I1, q⟩

variable {tA tB' : TT} {rest : List Expr}
def tAnd (t u : TT) : TT := fun σ H Q => t σ H fun c H1 => if c = true then u σ H1 Q else Q false H1
def tOr (t u : TT) : TT := fun σ H Q => t σ H fun c H1 => if c = true then Q true H1 else u σ H1 Q
def tNot (t : TT) : TT := fun σ H Q => t σ H fun c H1 => Q (!c) H1
theorem pw_and1 (ha : PT X a tA) : PW X (.BoolOp .And [a] pos) tA := by
  intro wh pins s σ H Q I h
  refine isTrue_and (thn (ha pins s σ H Q I h) fun c s1 e => ?_)
  cases c with
  | true => exact isTrue_and_nil e
  | false => exact e
theorem pw_or1 (ha : PT X a tA) : PW X (.BoolOp .Or [a] pos) tA := by
  intro wh pins s σ H Q I h
  refine isTrue_or (thn (ha pins s σ H Q I h) fun c s1 e => ?_)
  cases c with
  | false => exact isTrue_or_nil e
  | true => exact e
theorem pw_and (ha : PT X a tA) (hb : PW X (.BoolOp .And (b :: rest) pos) tB') : PW X (.BoolOp .And (a :: b :: rest) pos) (tAnd tA tB') := by
  intro wh pins s σ H Q I h
  refine isTrue_and (thn (ha pins s σ H _ I h) fun c s1 ⟨H1, I1, q1⟩ => ?_)
  cases c with
  | true => exact hb wh pins s1 σ H1 Q I1 q1
  | false => exact ⟨H1, I1, q1⟩
theorem pw_or (ha : PT X a tA) (hb : PW X (.BoolOp .Or (b :: rest) pos) tB') : PW X (.BoolOp .Or (a :: b :: rest) pos) (tOr tA tB') := by
  intro wh pins s σ H Q I h
  refine isTrue_or (thn (ha pins s σ H _ I h) fun c s1 ⟨H1, I1, q1⟩ => ?_)
  cases c with
  | true => exact ⟨H1, I1, q1⟩
  | false => exact hb wh pins s1 σ H1 Q I1 q1
theorem pt_not (ha : PT X a tA) : PT X (.UnaryOp .Not a pos) (tNot tA) := by
  intro pins s σ H Q I h
  exact isTrue_not (ha pins s σ H (fun c H1 => Q (!c) H1) I h)
def tAndV (ta tb : TE) : TE := fun σ H Q => ta σ H fun x H1 => ∃ c, x = .bl c ∧ if c = true then tb σ H1 Q else Q (.bl false) H1
def tOrV (ta tb : TE) : TE := fun σ H Q => ta σ H fun x H1 => ∃ c, x = .bl c ∧ if c = true then Q (.bl true) H1 else tb σ H1 Q
def tNotV (ta : TE) : TE := fun σ H Q => ta σ H fun x H1 => ∃ c, x = .bl c ∧ Q (.bl (!c)) H1
theorem pe_one {op} {t : TE} (h : PE X a t) : PE X (.BoolOp op [a] pos) t := fun pins s σ H Q I hw => BoolOp_one (h pins s σ H Q I hw)
theorem pe_and (ha : PE X a ta) (hb : PE X (.BoolOp .And (b :: rest) pos) tb) : PE X (.BoolOp .And (a :: b :: rest) pos) (tAndV ta tb) := by
  intro pins s σ H Q I h
  refine BoolOp_and (thn (ha pins s σ H _ I h) fun v s1 ⟨x, H1, I1, r1, q1⟩ => ?_)
  obtain ⟨c, rfl, q1⟩ := q1
  cases r1
  refine wpAny_truthy_bool ?_
  cases c with
  | true => exact hb pins s1 σ H1 Q I1 q1
  | false => exact ⟨.bl false, H1, I1, rfl, q1⟩
theorem pe_or (ha : PE X a ta) (hb : PE X (.BoolOp .Or (b :: rest) pos) tb) : PE X (.BoolOp .Or (a :: b :: rest) pos) (tOrV ta tb) := by
  intro pins s σ H Q I h
  refine BoolOp_or (thn (ha pins s σ H _ I h) fun v s1 ⟨x, H1, I1, r1, q1⟩ => ?_)
  obtain ⟨c, rfl, q1⟩ := q1
  cases r1
  refine wpAny_truthy_bool ?_
  cases c with
  | false => exact hb pins s1 σ H1 Q I1 q1
  | true => exact ⟨.bl true, H1, I1, rfl, q1⟩
theorem pe_not (ha : PE X a ta) : PE X (.UnaryOp .Not a pos) (tNotV ta) := by
  intro pins s σ H Q I h
  refine UnaryOp_ (thn (ha pins s σ H _ I h) fun v s1 ⟨x, H1, I1, r1, q1⟩ => ?_)
  obtain ⟨c, rfl, q1⟩ := q1
  cases r1
  exact not_of (wpAny_truthy_bool ⟨.bl (!c), H1, I1, rfl, q1⟩)
end
end L2

namespace L2
open PySem PySem.Spec PyProof.Rows

def SqL (K : PySem.W.Frag) (H : Hp) (a : Addr) (xs : List V) : Prop :=
  Rd H a (.lst xs) ∨
    ∃ (o : Obj) (its : Array Value) (n : Nat), K.lookup a = some o ∧ o.cls = .type "list" ∧ o.dict = none ∧ o.data = .seq its n ∧ its.size ≤ sizeLine ∧ Vals xs its.toList
def SqT (K : PySem.W.Frag) (H : Hp) (a : Addr) (xs : List V) : Prop :=
  Rd H a (.tup xs) ∨
    ∃ (o : Obj) (its : Array Value) (n : Nat), K.lookup a = some o ∧ o.cls = .type "tuple" ∧ o.data = .seq its n ∧ its.size ≤ sizeLine ∧ Vals xs its.toList
def absV : Value → Option V
  | .none => some .non
  | .bool b => some (.bl b)
  | .int i _ => some (.int i)
  | .str x _ => some (.str x)
  | .bytes b _ => some (.byt b)
  | .float b _ => some (.flt b)
  | .ref a => some (.ref a)
  | .type n => some (.ty n)
  | _ => none
theorem RelV.abs {x : V} {u : Value} (r : RelV x u) : absV u = some x := by
  cases x with
  | non => cases r; rfl
  | bl _ => cases r; rfl
  | int _ => obtain ⟨t, rfl⟩ := r; rfl
  | str _ => obtain ⟨t, rfl⟩ := r; rfl
  | byt _ => obtain ⟨t, rfl⟩ := r; rfl
  | flt _ => obtain ⟨t, rfl⟩ := r; rfl
  | ref _ => cases r; rfl
  | ty _ => cases r; rfl
theorem RelV.inj {x y : V} {u : Value} (r : RelV x u) (q : RelV y u) : x = y := Option.some.inj (r.abs.symm.trans q.abs)
theorem Vals.inj : ∀ {xs ys : List V} {us : List Value}, Vals xs us → Vals ys us → xs = ys
  | _, _, _, .nil, .nil => rfl
  | _, _, _, .cons r t, .cons r' t' => by rw [r.inj r', Vals.inj t t']
section
variable {X : Cx} {pins : List (Addr × Obj)} {σ : St} {H : Hp} {s : Shared} {a : Addr} {xs ys : List V}
theorem SqL.of {K : PySem.W.Frag} (h : H a = some (.lst xs)) : SqL K H a xs := .inl (.inl h)
theorem SqT.of {K : PySem.W.Frag} (h : H a = some (.tup xs)) : SqT K H a xs := .inl (.inl h)
theorem Inv.list (I : Inv X pins σ H s) (h : SqL X.K H a xs) : ∃ its : List Value, Vals xs its ∧ PlainL s.heap a its.toArray ∧ xs.length ≤ sizeLine := by
  rcases h with h | ⟨o, its, n, hk, hc, hd, hs, hz, r⟩
  · obtain ⟨z, its, n, r, e⟩ := h.ok I.hok
    exact ⟨its, r, ⟨_, n, e, rfl, rfl, rfl⟩, z⟩
  · refine ⟨its.toList, r, ⟨o, n, I.kIn a o hk, hc, hd, by simpa using hs⟩, ?_⟩
    have e := r.length
    simp only [Array.length_toList] at e
    omega
theorem Inv.tuple (I : Inv X pins σ H s) (h : SqT X.K H a xs) : ∃ its : List Value, Vals xs its ∧ IsTup s.heap a its.toArray ∧ xs.length ≤ sizeLine := by
  rcases h with h | ⟨o, its, n, hk, hc, hs, hz, r⟩
  · obtain ⟨z, its, r, p⟩ := h.ok I.hok
    exact ⟨its, r, p, z⟩
  · refine ⟨its.toList, r, ⟨o, I.kIn a o hk, hc, n, by simpa using hs⟩, ?_⟩
    have e := r.length
    simp only [Array.length_toList] at e
    omega
theorem Inv.list_inj (I : Inv X pins σ H s) (h : SqL X.K H a xs) (h' : SqL X.K H a ys) : xs = ys := by
  obtain ⟨its, r, ⟨o, n, e, _, _, d⟩, _⟩ := I.list h
  obtain ⟨its', r', ⟨o', n', e', _, _, d'⟩, _⟩ := I.list h'
  rw [e] at e'; cases e'
  rw [d] at d'
  injection d' with d1 _
  have : its = its' := by simpa using congrArg Array.toList d1
  subst this
  exact r.inj r'
theorem Inv.tuple_inj (I : Inv X pins σ H s) (h : SqT X.K H a xs) (h' : SqT X.K H a ys) : xs = ys := by
  obtain ⟨its, r, ⟨o, e, _, n, d⟩, _⟩ := I.tuple h
  obtain ⟨its', r', ⟨o', e', _, n', d'⟩, _⟩ := I.tuple h'
  rw [e] at e'; cases e'
  rw [d] at d'
  injection d' with d1 _
  have : its = its' := by simpa using congrArg Array.toList d1
  subst this
  exact r.inj r'
end

abbrev Cx.wish (X : Cx) (E : Value → Shared → Prop) : Cx := { X with xe := E }
abbrev Cx.nox (X : Cx) : Cx := X.wish fun _ _ => False
theorem Cx.Ok.wish {X : Cx} (ok : X.Ok) (E : Value → Shared → Prop) : (X.wish E).Ok :=
  ⟨ok.mod, ok.kind, ok.glob, ok.blt, ok.above, ok.inj, ok.has, ok.cab, ok.hd, ok.frames, ok.stk, ok.exf, ok.bs, ok.bsz, ok.noex, ok.exfs, ok.funs, ok.frf⟩
theorem Cx.Ok.unwish {X : Cx} {E : Value → Shared → Prop} (ok : (X.wish E).Ok) : X.Ok :=
  ⟨ok.mod, ok.kind, ok.glob, ok.blt, ok.above, ok.inj, ok.has, ok.cab, ok.hd, ok.frames, ok.stk, ok.exf, ok.bs, ok.bsz, ok.noex, ok.exfs, ok.funs, ok.frf⟩
section
variable {X : Cx} {pins : List (Addr × Obj)} {σ : St} {H : Hp} {s : Shared} {E : Value → Shared → Prop}
theorem Inv.wish (I : Inv X pins σ H s) (E : Value → Shared → Prop) : Inv (X.wish E) pins σ H s := ⟨I.ok.wish E, I.os, I.bare, I.base, I.loc, I.cell, I.free, I.freeC, I.pin, I.hok, I.len⟩
theorem Inv.unwish (I : Inv (X.wish E) pins σ H s) : Inv X pins σ H s := ⟨I.ok.unwish, I.os, I.bare, I.base, I.loc, I.cell, I.free, I.freeC, I.pin, I.hok, I.len⟩
theorem SP.unwish {D : Ends} {f : Flow} {s' : Shared} (h : SP (X.wish E) pins D f s') : SP X pins D f s' := by
  cases f with
  | next => obtain ⟨σ', H', I, q⟩ := h; exact ⟨σ', H', I.unwish, q⟩
  | brk => obtain ⟨σ', H', I, q⟩ := h; exact ⟨σ', H', I.unwish, q⟩
  | cont => obtain ⟨σ', H', I, q⟩ := h; exact ⟨σ', H', I.unwish, q⟩
  | ret u => obtain ⟨v, σ', H', I, r, q⟩ := h; exact ⟨v, σ', H', I.unwish, r, q⟩
theorem PE.nox {e : Expr} {t : TE} (h : PE X.nox e t) : PE X e t := fun pins s σ H Q I hw =>
  wpAny_mono (h pins s σ H Q (I.wish _) hw) (fun _ _ ⟨v, H', I', r, q⟩ => ⟨v, H', I'.unwish, r, q⟩) fun _ _ z => False.elim z
theorem PT.nox {e : Expr} {t : TT} (h : PT X.nox e t) : PT X e t := fun pins s σ H Q I hw =>
  wpAny_mono (h pins s σ H Q (I.wish _) hw) (fun _ _ ⟨H', I', q⟩ => ⟨H', I'.unwish, q⟩) fun _ _ z => False.elim z
theorem PSs.nox {st : List Stmt} {t : TS} (h : PSs X.nox st t) : PSs X st t := fun pins s σ H D I hw =>
  wpAny_mono (h pins s σ H D (I.wish _) hw) (fun _ _ q => q.unwish) fun _ _ z => False.elim z
end

section
variable {X : Cx} {st : Stmt} {rest : List Stmt} {t u : TS} {e : Expr} {te : TE} {pos : Pos}
def tNext : TS := fun D σ H => D.nx σ H
def tSeq (t u : TS) : TS := fun D σ H => t { D with nx := u D } σ H
theorem pss_nil : PSs X [] tNext := fun _ _ σ H _ I h => wpAny_execs_nil ⟨σ, H, I, h⟩
theorem pss_cons (h1 : PS X st t) (h2 : PSs X rest u) : PSs X (st :: rest) (tSeq t u) := by
  intro pins s σ H D I h
  refine wpAny_execs_cons (thn (h1 pins s σ H { D with nx := u D } I h) fun f s1 q => ?_)
  cases f with
  | next =>
    obtain ⟨σ', H', I', q⟩ := q
    exact h2 pins s1 σ' H' D I' q
  | ret v => exact q
  | brk => exact q
  | cont => exact q
theorem pss_one (h1 : PS X st t) : PSs X [st] t := by
  intro pins s σ H D I h
  refine wpAny_execs_cons (thn (h1 pins s σ H D I h) fun f s1 q => ?_)
  cases f with
  | next => exact wpAny_execs_nil q
  | ret v => exact q
  | brk => exact q
  | cont => exact q
theorem Inv.quiet {pins : List (Addr × Obj)} {σ : St} {H : Hp} {s : Shared} (I : Inv X pins σ H s) : interactive X.env = false := by simp [interactive, I.ok.kind]
def tDrop (te : TE) : TS := fun D σ H => te σ H fun _ H1 => D.nx σ H1
theorem ps_expr (he : PE X e te) (hs : swapsWith e none pos.line X.env = pure false := by rfl) : PS X (.Expr e pos) (tDrop te) := by
  intro pins s σ H D I h
  exact wpAny_Expr_any (thn (he pins s σ H _ I h) fun v s1 ⟨x, H1, I1, r1, q1⟩ => ⟨σ, H1, I1, q1⟩) I.quiet hs
def tRet (te : TE) : TS := fun D σ H => te σ H D.rt
theorem ps_ret (he : PE X e te) : PS X (.Return (some e) pos) (tRet te) := by
  intro pins s σ H D I h
  exact wpAny_Return_some (thn (he pins s σ H _ I h) fun v s1 ⟨x, H1, I1, r1, q1⟩ => ⟨x, σ, H1, I1, r1, q1⟩)
def tIfS (c : TT) (t u : TS) : TS := fun D σ H => c σ H fun b H1 => if b = true then t D σ H1 else u D σ H1
theorem ps_if {c : Expr} {a b : List Stmt} {tc : TT} (hc : PT X c tc) (ha : PSs X a t) (hb : PSs X b u) : PS X (.If c a b pos) (tIfS tc t u) := by
  intro pins s σ H D I h
  refine wpAny_If (thn (hc pins s σ H _ I h) fun d s1 ⟨H1, I1, q1⟩ => ?_)
  cases d with
  | true => exact ha pins s1 σ H1 D I1 q1
  | false => exact hb pins s1 σ H1 D I1 q1
end

abbrev TG := V → St → Hp → (St → Hp → Prop) → Prop
abbrev TGs := List V → St → Hp → (St → Hp → Prop) → Prop
def PG (X : Cx) (target : Expr) (t : TG) : Prop :=
  ∀ (pins : List (Addr × Obj)) (s : Shared) (σ : St) (H : Hp) (v : V) (u : Value) (Q : St → Hp → Prop), Inv X pins σ H s → RelV v u → t v σ H Q →
    wpAny (model X.prog X.w) X.A (assign target X.env u) (fun _ s' => ∃ σ' H', Inv X pins σ' H' s' ∧ Q σ' H') X.xe s
def PGs (X : Cx) (ts : List Expr) (t : TGs) : Prop :=
  ∀ (pins : List (Addr × Obj)) (s : Shared) (σ : St) (H : Hp) (vs : List V) (us : List Value) (Q : St → Hp → Prop), Inv X pins σ H s → Vals vs us → t vs σ H Q →
    wpAny (model X.prog X.w) X.A (assignInOrder ((assignEach ts X.env).map (·.2)) us) (fun _ s' => ∃ σ' H', Inv X pins σ' H' s' ∧ Q σ' H') X.xe s
abbrev TSet := V → V → V → Hp → (Hp → Prop) → Prop
def PSet (X : Cx) (t : TSet) : Prop :=
  ∀ (pins : List (Addr × Obj)) (s : Shared) (σ : St) (H : Hp) (o i v : V) (ov iv u : Value) (Q : Hp → Prop), Inv X pins σ H s → RelV o ov → RelV i iv → RelV v u → t o i v H Q →
    wpAny (model X.prog X.w) X.A (setItem ov iv u) (fun _ s' => ∃ H', Inv X pins σ H' s' ∧ Q H') X.xe s
section
variable {X : Cx} {pos : Pos}
def gName (i : Nat) : TG := fun v σ H Q => Q (σ.set i (some v)) H
theorem pg_name {i : Nat} {x : Str} (hN : X.N.Nodup) (hi : X.N[i]? = some x) (hx : Loc X.env.scope x) (hf : X.fn x = true ∨ X.env.scope.names.lookup x = some .local := by first | exact .inl rfl | exact .inr rfl | assumption) : PG X (.Name x pos) (gName i) := by
  intro pins s σ H v u Q I r h
  exact wpAny_assign_Name (store_ok I hN hi hx r (fun s' I' => ⟨_, H, I', h⟩) hf)
def gNil : TGs := fun vs σ H Q => vs = [] ∧ Q σ H
def gCons (t : TG) (u : TGs) : TGs := fun vs σ H Q => ∃ v r, vs = v :: r ∧ t v σ H fun σ' H' => u r σ' H' Q
theorem pgs_nil : PGs X [] gNil := by
  intro pins s σ H vs us Q I r h
  obtain ⟨e, h⟩ := h
  subst e
  cases r
  exact assignInOrder_nil ⟨σ, H, I, h⟩
theorem pgs_cons {e : Expr} {es : List Expr} {t : TG} {u : TGs} (h1 : PG X e t) (h2 : PGs X es u)
    (hs : (assignEach (e :: es) X.env).map (·.2) = assign e X.env :: (assignEach es X.env).map (·.2) := by rfl) : PGs X (e :: es) (gCons t u) := by
  intro pins s σ H vs us Q I r h
  obtain ⟨v, vr, e1, h⟩ := h
  subst e1
  cases r with
  | cons r rr =>
    rw [hs]
    refine assignInOrder_cons (thn (h1 pins s σ H _ _ _ I r h) fun _ s1 ⟨σ1, H1, I1, q1⟩ => ?_)
    exact h2 pins s1 σ1 H1 _ _ Q I1 rr q1
def gTup (K : PySem.W.Frag) (n : Nat) (t : TGs) : TG := fun v σ H Q => ∃ a xs, v = .ref a ∧ SqT K H a xs ∧ xs.length = n ∧ t xs σ H Q
theorem pg_tup {es : List Expr} {k : Nat} {t : TGs} {n : Nat} (hc : X.calm = true) (h : PGs X es t)
    (hn : (assignEach es X.env).length = n := by rfl) (hst : (assignEach es X.env).findIdx? (·.1) = none := by rfl) : PG X (.Tuple es k pos) (gTup X.K n t) := by
  intro pins s σ H v u Q I r hw
  obtain ⟨a, xs, e1, hq, hl, hw⟩ := hw
  subst e1
  cases r
  obtain ⟨its, rv, ht, hz⟩ := I.tuple hq
  refine assign_Tuple_tuple (I.ok.hd hc) ht (by simp [hn, ← hl, rv.length]) hst fun h' hx => ?_
  have I1 : Inv X pins σ H { s with heap := h' } := I.kept (t' := s.toks) fun b o e => hx b o (Nat.ne_of_lt (Heap.lt_size e)) e
  exact h pins _ σ H xs _ Q I1 (by simpa using rv) hw
def gSub (to ti : TE) (t : TSet) : TG := fun v σ H Q => to σ H fun o H1 => ti σ H1 fun i H2 => t o i v H2 fun H3 => Q σ H3
theorem pg_sub {o i : Expr} {to ti : TE} {t : TSet} (ho : PE X o to) (hi : PE X i ti) (hs : PSet X t)
    (ha : ∀ v, assign (.Subscript o i pos) X.env v = (do
      let ov ← holding [v] (eval o X.env)
      let iv ← holding [v, ov] (eval i X.env)
      standAt pos
      holding [v, ov, iv] (setItem ov iv v)
      release [v, ov, iv] []) := by intro _; rfl) : PG X (.Subscript o i pos) (gSub to ti t) := by
  intro pins s σ H v u Q I r h
  rw [ha]
  refine wpAny_bind (wpAny_holding (thn (ho pins s σ H _ I h) fun ov s1 ⟨x, H1, I1, r1, q1⟩ => ?_))
  refine wpAny_bind (wpAny_holding (thn (hi pins s1 σ H1 _ I1 q1) fun iv s2 ⟨y, H2, I2, r2, q2⟩ => ?_))
  refine wpAny_bind (wpAny_standAt (wpAny_bind (wpAny_holding (thn (hs pins s2 σ H2 x y v ov iv u _ I2 r1 r2 r q2) fun _ s3 ⟨H3, I3, q3⟩ => ?_))))
  exact wpAny_release ⟨σ, H3, I3, q3⟩
def tAsg (te : TE) (g : TG) : TS := fun D σ H => te σ H fun x H1 => g x σ H1 D.nx
theorem ps_asg {tg e : Expr} {te : TE} {g : TG} (he : PE X e te) (hg : PG X tg g) (hs : swapsWithSole [tg] e pos.line X.env = pure false := by rfl) (hw : swappedStores [tg] e X.env = pure none := by rfl)
    (h1 : (assignEach [tg] X.env).map (·.2) = [assign tg X.env] := by rfl) : PS X (.Assign [tg] e pos) (tAsg te g) := by
  intro pins s σ H D I h
  refine wpAny_Assign_stores (thn (he pins s σ H _ I h) fun v s1 ⟨x, H1, I1, r1, q1⟩ => ?_) hs hw
  rw [h1]
  exact thn (hg pins s1 σ H1 x v _ I1 r1 q1) fun _ s2 q => q
theorem ps_set {i : Nat} {x : Str} {e : Expr} {te : TE} {pos' : Pos} (hN : X.N.Nodup) (hi : X.N[i]? = some x) (hx : Loc X.env.scope x) (he : PE X e te) (hs : swapsWith e (some (.Name x pos')) pos.line X.env = pure false := by rfl) (hf : X.fn x = true ∨ X.env.scope.names.lookup x = some .local := by first | exact .inl rfl | exact .inr rfl | assumption) :
    PS X (.Assign [.Name x pos'] e pos) (tAsg te (gName i)) := by
  intro pins s σ H D I h
  refine wpAny_Assign_Name (thn (he pins s σ H _ I h) fun v s1 ⟨y, H1, I1, r1, q1⟩ => ?_) hs
  exact store_ok I1 hN hi hx r1 (fun s2 I2 => ⟨_, H1, I2, q1⟩) hf
end

section
variable {X : Cx} {pos : Pos}
end

structure It where
  go : Nat → Hp → Prop
  yld : Nat → Hp → V → Hp → Prop
  stop : Nat → Hp → Prop
def FpOk (X : Cx) (pins : List (Addr × Obj)) (H : Hp) (b : Addr) : Prop :=
  H b = none ∧ b ≠ X.env.locals ∧ b ∉ X.fs ∧ (b ∈ X.ex ∨ X.s₀.heap.objs.size ≤ b) ∧ (∀ x c, X.env.cells.lookup x = some c → c ≠ b) ∧ ∀ p ∈ X.pn ++ pins, p.1 ≠ b
theorem Inv.fpOk {X : Cx} {pins : List (Addr × Obj)} {σ : St} {H H' : Hp} {s : Shared} {b : Addr} (I : Inv X pins σ H s) (hb : s.heap.objs.size ≤ b) (hn : H' b = none) : FpOk X pins H' b := by
  refine ⟨hn, Nat.ne_of_gt (Nat.lt_of_lt_of_le I.lt hb), I.nofs hb, .inr (Nat.le_trans I.sz hb), fun x c e z => ?_, fun p hp z => ?_⟩
  · obtain ⟨v, q⟩ := I.cell x c e
    exact absurd (Nat.lt_of_lt_of_le q.lt (by rw [z]; exact hb)) (Nat.lt_irrefl _)
  · exact absurd (Nat.lt_of_lt_of_le (Heap.lt_size (I.pin p hp).1) (by rw [z]; exact hb)) (Nat.lt_irrefl _)
structure Turn (P : Program) (w : World) (K : PySem.W.Frag) (tg : Expr) (J : It) (fp : List Addr) (it : Addr) (tn : Nat → Heap → Prop) : Prop where
  mem : it ∈ fp
  obj : ∀ i h, tn i h → ∀ b ∈ fp, ∃ o, h.get? b = some o ∧ ∀ v, o.data ≠ .cell v
  keep : ∀ i h h', tn i h → (∀ b ∈ fp, ∀ o, h.get? b = some o → h'.get? b = some o) → tn i h'
  item : ∀ (X : Cx), X.prog = P → X.w = w → X.K = K → X.calm = true → ∀ (i : Nat) (pins : List (Addr × Obj)) (s : Shared) (σ : St) (H : Hp) (E : Value → Shared → Prop), Inv X pins σ H s → (∀ b ∈ fp, FpOk X pins H b) → tn i s.heap → J.go i H →
    wpAny (model P w) X.A (pyNext (.ref it)) (fun r s1 => ∃ u, r = some u ∧
      wpAny (model P w) X.A (letOwnedTupleGo tg (.ref it) u) (fun _ s2 => ∃ x H', Inv X pins σ H' s2 ∧ RelV x u ∧ J.yld i H x H' ∧ tn (i + 1) s2.heap ∧ ∀ b ∈ fp, H' b = none) E s1) E s
  done : ∀ (X : Cx), X.prog = P → X.w = w → X.K = K → X.calm = true → ∀ (i : Nat) (pins : List (Addr × Obj)) (s : Shared) (σ : St) (H : Hp) (E : Value → Shared → Prop), Inv X pins σ H s → (∀ b ∈ fp, FpOk X pins H b) → tn i s.heap → J.stop i H →
    wpAny (model P w) X.A (pyNext (.ref it)) (fun r s1 => r = none ∧ Inv X pins σ H s1) E s
  self : ∀ (A : Around) (i : Nat) (s : Shared) (Q : Value → Shared → Prop) (E : Value → Shared → Prop), tn i s.heap → Q (.ref it) s → wpAny (model P w) A (pyIter (.ref it)) Q E s
abbrev TI := St → Hp → (It → Hp → Prop) → Prop
def PIE (X : Cx) (pins : List (Addr × Obj)) (σ : St) (tg : Expr) (R : It → Hp → Prop) (itv : Value) (s2 : Shared) : Prop :=
  ∃ (it : Addr) (fp : List Addr) (tn : Nat → Heap → Prop) (J : It) (H' : Hp), itv = .ref it ∧ Inv X pins σ H' s2 ∧ Turn X.prog X.w X.K tg J fp it tn ∧ tn 0 s2.heap ∧ (∀ b ∈ fp, FpOk X pins H' b) ∧ R J H'
def PI (X : Cx) (tg iter : Expr) (wi : TI) : Prop :=
  ∀ (pins : List (Addr × Obj)) (s : Shared) (σ : St) (H : Hp) (R : It → Hp → Prop), Inv X pins σ H s → wi σ H R →
    wpAny (model X.prog X.w) X.A (eval iter X.env) (fun v s1 => wpAny (model X.prog X.w) X.A (pyIter v) (PIE X pins σ tg R) X.xe s1) X.xe s

theorem go_of {M : Model} {A : Around} {E : Value → Shared → Prop} {s : Shared} {tg : Expr} {it : Addr} {u : Value} {o : Obj} {n : String} {vs : Array Value} {Q : Unit → Shared → Prop} (ho : s.heap.get? it = some o) (hc : o.cls = .type n) (hd : o.data = .fields vs)
    (hn : ["enumerate", "zip", "dict_itemiterator", "dict_reverseitemiterator", "odict_iterator", "itertools.zip_longest", "itertools.pairwise"].contains n = false) (hQ : Q () s) : wpAny M A (letOwnedTupleGo tg (.ref it) u) Q E s := by
  unfold letOwnedTupleGo
  cases tg <;> first
    | exact wpAny_pure hQ
    | (cases u <;> first
        | exact wpAny_pure hQ
        | (refine wpAny_bind (wpAny_load ho ?_)
           rw [hc, hd]
           show wpAny M A (if (["enumerate", "zip", "dict_itemiterator", "dict_reverseitemiterator", "odict_iterator", "itertools.zip_longest", "itertools.pairwise"].contains n && vs[0]? == some (rawInt _)) = true then _ else _) Q E s
           rw [if_neg (by intro h; rw [hn, Bool.false_and] at h; cases h)]
           exact wpAny_pure hQ))

def Itl (K : PySem.W.Frag) (a : Addr) : It :=
  ⟨fun i H => ∃ xs x, SqL K H a xs ∧ xs[i]? = some x, fun i H x H' => H' = H ∧ ∀ xs, SqL K H a xs → xs[i]? = some x, fun i H => ∃ xs, SqL K H a xs ∧ xs.length ≤ i⟩
def Itt (K : PySem.W.Frag) (a : Addr) : It :=
  ⟨fun i H => ∃ xs x, SqT K H a xs ∧ xs[i]? = some x, fun i H x H' => H' = H ∧ ∀ xs, SqT K H a xs → xs[i]? = some x, fun i H => ∃ xs, SqT K H a xs ∧ xs.length ≤ i⟩
def Itr (lo : Int) (n : Nat) : It := ⟨fun i _ => i < n, fun i H x H' => H' = H ∧ x = .int (lo + i), fun i _ => n ≤ i⟩
theorem turn_list {P : Program} {w : World} {K : PySem.W.Frag} {tg : Expr} (a it : Addr) : Turn P w K tg (Itl K a) [it] it (fun i h => h.IsListIter it a i) where
  mem := by simp
  obj := fun i h st b hb => by
    have e : b = it := by simpa using hb
    subst e
    obtain ⟨o, e, c, d⟩ := st
    exact ⟨o, e, fun v z => by rw [d] at z; cases z⟩
  keep := fun i h h' st k => st.at fun o e => k it (by simp) o e
  item := by
    intro X hP hw hK hc i pins s σ H E I hf st hg
    subst hP hw hK
    obtain ⟨xs, x, hq, hx⟩ := hg
    obtain ⟨its, rv, p, hz⟩ := I.list hq
    obtain ⟨u, hu, ru⟩ := rv.get hx
    obtain ⟨f0, f1, f2, f3, f4, f5⟩ := hf it (by simp)
    refine wpAny_pyNext_list_item st p.isList (x := u) (by simpa using hu) fun h' st' sb => ?_
    have I1 : Inv X pins σ H { s with heap := h' } := I.turned (t' := s.toks) (fun b o hb e => (sb.2 b hb).trans e) f0 f1 f3 f4 f5
    obtain ⟨o, e, c, d⟩ := id st'
    exact ⟨u, rfl, go_of (s := { s with heap := h' }) e c d (by decide) ⟨x, H, I1, ru, ⟨rfl, fun ys hy => by rw [I.list_inj hy hq]; exact hx⟩, st', fun b hb => (hf b hb).1⟩⟩
  done := by
    intro X hP hw hK hc i pins s σ H E I hf st hg
    subst hP hw hK
    obtain ⟨xs, hq, hx⟩ := hg
    obtain ⟨its, rv, p, hz⟩ := I.list hq
    obtain ⟨f0, f1, f2, f3, f4, f5⟩ := hf it (by simp)
    have hl := rv.length
    exact wpAny_pyNext_list_end (I.ok.hd hc) st p.isList (by simp; omega) fun h' eb => ⟨rfl, I.turned (t' := s.toks) (fun b o hb e => eb b o hb e) f0 f1 f3 f4 f5⟩
  self := fun _ _ _ _ _ st h => wpAny_pyIter_listiter st h
theorem turn_tuple {P : Program} {w : World} {K : PySem.W.Frag} {tg : Expr} (a it : Addr) : Turn P w K tg (Itt K a) [it] it (fun i h => h.IsTupleIter it a i) where
  mem := by simp
  obj := fun i h st b hb => by
    have e : b = it := by simpa using hb
    subst e
    obtain ⟨o, e, c, d⟩ := st
    exact ⟨o, e, fun v z => by rw [d] at z; cases z⟩
  keep := fun i h h' st k => st.at fun o e => k it (by simp) o e
  item := by
    intro X hP hw hK hc i pins s σ H E I hf st hg
    subst hP hw hK
    obtain ⟨xs, x, hq, hx⟩ := hg
    obtain ⟨its, rv, p, hz⟩ := I.tuple hq
    obtain ⟨u, hu, ru⟩ := rv.get hx
    obtain ⟨f0, f1, f2, f3, f4, f5⟩ := hf it (by simp)
    refine wpAny_pyNext_tuple_item st (show s.heap.IsTuple a its.toArray from p) (x := u) (by simpa using hu) fun h' st' sb => ?_
    have I1 : Inv X pins σ H { s with heap := h' } := I.turned (t' := s.toks) (fun b o hb e => (sb.2 b hb).trans e) f0 f1 f3 f4 f5
    obtain ⟨o, e, c, d⟩ := id st'
    exact ⟨u, rfl, go_of (s := { s with heap := h' }) e c d (by decide) ⟨x, H, I1, ru, ⟨rfl, fun ys hy => by rw [I.tuple_inj hy hq]; exact hx⟩, st', fun b hb => (hf b hb).1⟩⟩
  done := by
    intro X hP hw hK hc i pins s σ H E I hf st hg
    subst hP hw hK
    obtain ⟨xs, hq, hx⟩ := hg
    obtain ⟨its, rv, p, hz⟩ := I.tuple hq
    obtain ⟨f0, f1, f2, f3, f4, f5⟩ := hf it (by simp)
    have hl := rv.length
    exact wpAny_pyNext_tuple_end (I.ok.hd hc) st (show s.heap.IsTuple a its.toArray from p) (by simp; omega) fun h' eb => ⟨rfl, I.turned (t' := s.toks) (fun b o hb e => eb b o hb e) f0 f1 f3 f4 f5⟩
  self := fun _ _ _ _ _ st h => wpAny_pyIter_tupleiter st h
theorem turn_range {P : Program} {w : World} {K : PySem.W.Frag} {tg : Expr} (it : Addr) (lo : Int) (n : Nat) : Turn P w K tg (Itr lo n) [it] it (fun i h => IsRangeIter h it (lo + (i : Nat) * 1) ((n : Int) - (i : Nat)) 1) where
  mem := by simp
  obj := fun i h st b hb => by
    have e : b = it := by simpa using hb
    subst e
    exact ⟨_, st, fun v z => by
      have z' : Data.fields _ = Data.cell v := z
      cases z'⟩
  keep := fun i h h' st k => k it (by simp) _ st
  item := by
    intro X hP hw hK hc i pins s σ H E I hf st hg
    subst hP hw hK
    obtain ⟨f0, f1, f2, f3, f4, f5⟩ := hf it (by simp)
    have W := Walks.range (prog := X.prog) (w := X.w) (I.ok.hd hc) it lo 1 n
    refine W.item i s _ _ hg st fun v h' tk hv st' kk => ?_
    obtain ⟨t, rfl⟩ := hv
    have I1 : Inv X pins σ H { s with heap := h', toks := tk } := I.turned (fun b o hb e => kk b o (by simpa using hb) e) f0 f1 f3 f4 f5
    refine ⟨_, rfl, go_of (s := { s with heap := h', toks := tk }) (n := "range_iterator") st' rfl rfl (by decide) ⟨.int (lo + i), H, I1, ⟨t, ?_⟩, ⟨rfl, rfl⟩, st', fun b hb => (hf b hb).1⟩⟩
    rw [Int.mul_one]
  done := by
    intro X hP hw hK hc i pins s σ H E I hf st hg
    subst hP hw hK
    obtain ⟨f0, f1, f2, f3, f4, f5⟩ := hf it (by simp)
    exact wpAny_pyNext_range_end (I.ok.hd hc) st (by have : n ≤ i := hg; omega) fun h' eb => ⟨rfl, I.turned (t' := s.toks) (fun b o hb e => eb b o hb e) f0 f1 f3 f4 f5⟩
  self := fun _ _ _ _ _ st h => wpAny_pyIter_rangeiter st h
end L2

namespace L2
open PySem PySem.Spec PyProof.Rows
section
variable {X : Cx} {tg : Expr}
def iList (K : PySem.W.Frag) (tl : TE) : TI := fun σ H R => tl σ H fun x H1 => ∃ a, x = .ref a ∧ (∃ xs, SqL K H1 a xs) ∧ R (Itl K a) H1
def iTup (K : PySem.W.Frag) (tl : TE) : TI := fun σ H R => tl σ H fun x H1 => ∃ a, x = .ref a ∧ (∃ xs, SqT K H1 a xs) ∧ R (Itt K a) H1
theorem pi_list {l : Expr} {tl : TE} (hl : PE X l tl) : PI X tg l (iList X.K tl) := by
  intro pins s σ H R I h
  refine thn (hl pins s σ H _ I h) fun v s1 ⟨x, H1, I1, r1, q1⟩ => ?_
  obtain ⟨a, e, ⟨xs, hq⟩, q⟩ := q1
  subst e
  cases r1
  obtain ⟨its, rv, p, hz⟩ := I1.list hq
  refine wpAny_pyIter_list p.isList ?_
  refine ⟨s1.heap.objs.size, [s1.heap.objs.size], _, _, H1, rfl, I1.kept (t' := s1.toks) fun b o e => Heap.get?_push_of_some _ e, turn_list a _, ⟨_, Heap.get?_push_size _ rfl, rfl, rfl⟩, fun b hb => ?_, q⟩
  have e : b = s1.heap.objs.size := by simpa using hb
  subst e
  exact I1.fpOk (Nat.le_refl _) (I1.hok.fresh (Nat.le_refl _))
theorem pi_tup {l : Expr} {tl : TE} (hl : PE X l tl) : PI X tg l (iTup X.K tl) := by
  intro pins s σ H R I h
  refine thn (hl pins s σ H _ I h) fun v s1 ⟨x, H1, I1, r1, q1⟩ => ?_
  obtain ⟨a, e, ⟨xs, hq⟩, q⟩ := q1
  subst e
  cases r1
  obtain ⟨its, rv, p, hz⟩ := I1.tuple hq
  refine wpAny_pyIter_tuple (show s1.heap.IsTuple a its.toArray from p) ?_
  refine ⟨s1.heap.objs.size, [s1.heap.objs.size], _, _, H1, rfl, I1.kept (t' := s1.toks) fun b o e => Heap.get?_push_of_some _ e, turn_tuple a _, ⟨_, Heap.get?_push_size _ rfl, rfl, rfl⟩, fun b hb => ?_, q⟩
  have e : b = s1.heap.objs.size := by simpa using hb
  subst e
  exact I1.fpOk (Nat.le_refl _) (I1.hok.fresh (Nat.le_refl _))
theorem range_it {pins : List (Addr × Obj)} {σ : St} {H : Hp} {s : Shared} {R : It → Hp → Prop} {E : Value → Shared → Prop} {lo hi : Int} {t u v : Tok} {tk : Nat} (I : Inv X pins σ H s) (h1 : -(2 ^ 62) ≤ lo) (h2 : lo < 2 ^ 62) (h3 : -(2 ^ 62) ≤ hi) (h4 : hi < 2 ^ 62)
    (q : R (Itr lo (hi - lo).toNat) H) : wpAny (model X.prog X.w) X.A (pyIter (.ref s.heap.objs.size)) (PIE X pins σ tg R) E { s with heap := s.heap.push { cls := .type "range", data := .fields #[.int lo t, .int hi u, .int 1 v] }, toks := tk } := by
  refine wpAny_pyIter_range (IsRange.new ..) (small_one h1 h2 h3 h4) ?_
  have I1 : Inv X pins σ H { s with heap := s.heap.push { cls := .type "range", data := .fields #[.int lo t, .int hi u, .int 1 v] }, toks := tk } := I.kept fun b o e => Heap.get?_push_of_some _ e
  refine ⟨(s.heap.push { cls := .type "range", data := .fields #[.int lo t, .int hi u, .int 1 v] }).objs.size, [(s.heap.push { cls := .type "range", data := .fields #[.int lo t, .int hi u, .int 1 v] }).objs.size], _, _, H, rfl,
    I1.kept (t' := tk) fun b o e => Heap.get?_push_of_some _ e, turn_range _ lo (hi - lo).toNat, ?_, fun b hb => ?_, q⟩
  · have e1 : lo + ((0 : Nat) : Int) * 1 = lo := by simp
    have e2 : (((hi - lo).toNat : Nat) : Int) - ((0 : Nat) : Int) = Builtin.Range.rangeSize lo hi 1 := by rw [rangeSize_one]; split <;> omega
    show IsRangeIter _ _ (lo + ((0 : Nat) : Int) * 1) ((((hi - lo).toNat : Nat) : Int) - ((0 : Nat) : Int)) 1
    rw [e1, e2]
    exact Heap.get?_push_size _ rfl
  · have e : b = (s.heap.push { cls := .type "range", data := .fields #[.int lo t, .int hi u, .int 1 v] }).objs.size := by simpa using hb
    subst e
    exact I1.fpOk (Nat.le_refl _) (I1.hok.fresh (Nat.le_refl _))
def iRng1 (ta : TA) : TI := fun σ H R => ta σ H fun vs H1 => ∃ j : Int, vs = [.int j] ∧ -(2 ^ 62) ≤ j ∧ j < 2 ^ 62 ∧ R (Itr 0 j.toNat) H1
theorem pi_range1 {a : Expr} {ta : TA} {p pos : Pos} (hg : Gl X "range") (hm : X.mg "range" = none) (ha : PA X [a] ta) (hs : starEach [a] X.env = [(false, eval a X.env)] := by rfl) : PI X tg (.Call (.Name "range" p) [a] [] pos) (iRng1 ta) := by
  intro pins s σ H R I h
  refine Call_ (ld_blt I hg hm boot_range (PyProof.Rows.callWith_type1 (thn (ha pos pins s σ H _ I h) fun us s1 ⟨vs, H1, I1, r1, q1⟩ => ?_) hs rfl))
  obtain ⟨j, e, q1, q2, q⟩ := q1
  subst e
  cases r1 with
  | cons r rr =>
    cases rr
    obtain ⟨t, rfl⟩ := r
    exact call_range_1 (range_it I1 (by omega) (by omega) q1 q2 (by simpa using q))

def tFor (wi : TI) (g : TG) (tb : TS) : TS := fun D σ H => wi σ H fun J H1 => ∃ W : Nat → Nat → St → Hp → Prop, (∃ m, W 0 m σ H1) ∧ ∀ i m σ H, W i m σ H →
  (J.stop i H ∧ D.nx σ H) ∨ (J.go i H ∧ ∃ N : St → Hp → Prop, (∀ σ' H', N σ' H' → ∃ m', m' < m ∧ W (i + 1) m' σ' H') ∧ ∀ x H', J.yld i H x H' → g x σ H' fun σ2 H2 => tb { D with nx := N, ct := N, bk := D.nx } σ2 H2)
def pinsAt (fp : List Addr) (h : Heap) : List (Addr × Obj) := fp.filterMap fun b => (h.get? b).map fun o => (b, o)
theorem mem_pinsAt {fp : List Addr} {h : Heap} {b : Addr} {o : Obj} (hb : b ∈ fp) (e : h.get? b = some o) : (b, o) ∈ pinsAt fp h := List.mem_filterMap.mpr ⟨b, hb, by rw [e]; rfl⟩
theorem of_pinsAt {fp : List Addr} {h : Heap} {p : Addr × Obj} (hp : p ∈ pinsAt fp h) : p.1 ∈ fp ∧ h.get? p.1 = some p.2 := by
  obtain ⟨b, hb, e⟩ := List.mem_filterMap.mp hp
  cases q : h.get? b with
  | none => rw [q] at e; cases e
  | some o =>
    rw [q] at e
    have e' : (b, o) = p := Option.some.inj e
    subst e'
    exact ⟨hb, q⟩
theorem Inv.pinned {pins : List (Addr × Obj)} {σ : St} {H : Hp} {s : Shared} {fp : List Addr} (I : Inv X pins σ H s) (hf : ∀ b ∈ fp, FpOk X pins H b) (ho : ∀ b ∈ fp, ∃ o, s.heap.get? b = some o ∧ ∀ v, o.data ≠ .cell v) : Inv X (pins ++ pinsAt fp s.heap) σ H s :=
  I.pins_of fun p hp => (List.mem_append.mp hp).elim (fun z => I.pin p (List.mem_append_right _ z)) fun z => by
    obtain ⟨hb, e⟩ := of_pinsAt z
    obtain ⟨f0, f1, f2, _⟩ := hf p.1 hb
    obtain ⟨o, e', d⟩ := ho p.1 hb
    rw [e] at e'; cases e'
    exact ⟨e, f0, f1, f2, d⟩
theorem Inv.unpinned {pins pl : List (Addr × Obj)} {σ : St} {H : Hp} {s : Shared} (I : Inv X (pins ++ pl) σ H s) : Inv X pins σ H s := I.pins_of fun p hp => I.pin p (List.mem_append_right _ (List.mem_append_left _ hp))
theorem ps_for {iter : Expr} {body : List Stmt} {wi : TI} {g : TG} {tb : TS} {pos : Pos} (hp : PassesOwn (model X.prog X.w) X.A X.env X.xe) (hc : X.calm = true) (hi : PI X tg iter wi) (hg : PG X tg g) (hb : PSs X body tb)
    (hs : ∀ x, foldedSetIterable iter X.env x = pure x := by intro _; rfl) : PS X (.For tg iter body [] pos) (tFor wi g tb) := by
  intro pins s σ H D I h
  refine wpAny_For (thn (hi pins s σ H _ I h) fun v s1 h1 => thn h1 fun itv s2 h2 => ?_) hs
  obtain ⟨it, fp, tn, J, H2, e, I2, T, st2, f2, W, ⟨m0, w0⟩, turn⟩ := h2
  subst e
  -- what stays true of the iterator's objects through the loop
  have stat : ∀ {H' : Hp}, (∀ b ∈ fp, H' b = none) → ∀ b ∈ fp, FpOk X pins H' b := fun hn b hb => ⟨hn b hb, (f2 b hb).2⟩
  refine codeAny_forLoop_any (fun n s' => ∃ i σ' H', Inv X pins σ' H' s' ∧ tn i s'.heap ∧ (∀ b ∈ fp, H' b = none) ∧ W i n σ' H') ?_ m0 ⟨0, σ, H2, I2, st2, fun b hb => (f2 b hb).1, w0⟩
  rintro n s3 ⟨i, σ3, H3, I3, st3, fr3, w3⟩
  rcases turn i n σ3 H3 w3 with ⟨stop, qn⟩ | ⟨go, N, hN, step⟩
  · refine wpAny_passesOwn hp (thn (T.done X rfl rfl rfl hc i pins s3 σ3 H3 X.xe I3 (stat fr3) st3 stop) fun r s4 ⟨hr, I4⟩ => ?_)
    subst hr
    exact wpAny_execs_nil ⟨σ3, H3, I4, qn⟩
  · refine wpAny_passesOwn hp (thn (T.item X rfl rfl rfl hc i pins s3 σ3 H3 X.xe I3 (stat fr3) st3 go) fun r s4 ⟨u, hr, h4⟩ => ?_)
    subst hr
    refine wpAny_passesOwn hp (thn h4 fun _ s5 ⟨x, H5, I5, r5, y5, st5, fr5⟩ => ?_)
    have I5' := I5.pinned (stat fr5) (T.obj _ _ st5)
    refine wpAny_passesOwn hp (thn (hg _ s5 σ3 H5 x u _ I5' r5 (step x H5 y5)) fun _ s6 ⟨σ6, H6, I6, q6⟩ => ?_)
    refine wpAny_passesOwn hp (thn (hb _ s6 σ6 H6 _ I6 q6) fun f s7 q7 => ?_)
    have again : ∀ {σ7 : St} {H7 : Hp}, Inv X (pins ++ pinsAt fp s5.heap) σ7 H7 s7 → N σ7 H7 → ∃ m, m < n ∧ ∃ i σ' H', Inv X pins σ' H' s7 ∧ tn i s7.heap ∧ (∀ b ∈ fp, H' b = none) ∧ W i m σ' H' := fun {σ7 H7} I7 n7 => by
      obtain ⟨m', hm, w7⟩ := hN σ7 H7 n7
      refine ⟨m', hm, i + 1, σ7, H7, I7.unpinned, T.keep _ _ _ st5 fun b hb o e => (I7.pin (b, o) (List.mem_append_right _ (List.mem_append_right _ (mem_pinsAt hb e)))).1, fun b hb => ?_, w7⟩
      obtain ⟨o, e, d⟩ := T.obj _ _ st5 b hb
      exact (I7.pin (b, o) (List.mem_append_right _ (List.mem_append_right _ (mem_pinsAt hb e)))).2.1
    cases f with
    | next => obtain ⟨σ7, H7, I7, n7⟩ := q7; exact again I7 n7
    | cont => obtain ⟨σ7, H7, I7, n7⟩ := q7; exact again I7 n7
    | brk => obtain ⟨σ7, H7, I7, q7⟩ := q7; exact ⟨σ7, H7, I7.unpinned, q7⟩
    | ret v => obtain ⟨x7, σ7, H7, I7, r7, q7⟩ := q7; exact ⟨x7, σ7, H7, I7.unpinned, r7, q7⟩
end

theorem for_list {K : PySem.W.Frag} {a : Addr} {xs : List V} {g : TG} {tb : TS} {D : Ends} {σ : St} {H : Hp} (Pv : Nat → St → Hp → Prop) (h0 : Pv 0 σ H) (hl : ∀ i σ H, i ≤ xs.length → Pv i σ H → SqL K H a xs)
    (hs : ∀ i x σ H, xs[i]? = some x → Pv i σ H → g x σ H fun σ2 H2 => tb { D with nx := Pv (i + 1), ct := Pv (i + 1), bk := D.nx } σ2 H2) (hd : ∀ σ H, Pv xs.length σ H → D.nx σ H) :
    ∃ W : Nat → Nat → St → Hp → Prop, (∃ m, W 0 m σ H) ∧ ∀ i m σ H, W i m σ H →
      ((Itl K a).stop i H ∧ D.nx σ H) ∨ ((Itl K a).go i H ∧ ∃ N : St → Hp → Prop, (∀ σ' H', N σ' H' → ∃ m', m' < m ∧ W (i + 1) m' σ' H') ∧ ∀ x H', (Itl K a).yld i H x H' → g x σ H' fun σ2 H2 => tb { D with nx := N, ct := N, bk := D.nx } σ2 H2) := by
  refine ⟨fun i m σ H => m = xs.length - i ∧ i ≤ xs.length ∧ Pv i σ H, ⟨xs.length, by simp, Nat.zero_le _, h0⟩, ?_⟩
  rintro i m σ H ⟨rfl, hi, p⟩
  have q := hl i σ H hi p
  by_cases hlt : i < xs.length
  · refine .inr ⟨⟨xs, xs[i], q, by simp [hlt]⟩, Pv (i + 1), fun σ' H' p' => ⟨xs.length - (i + 1), by omega, rfl, hlt, p'⟩, fun x H' y => ?_⟩
    obtain ⟨e, y⟩ := y
    subst e
    exact hs i x σ _ (y xs q) p
  · have e : i = xs.length := by omega
    subst e
    exact .inl ⟨⟨xs, q, Nat.le_refl _⟩, hd σ H p⟩
theorem for_tup {K : PySem.W.Frag} {a : Addr} {xs : List V} {g : TG} {tb : TS} {D : Ends} {σ : St} {H : Hp} (Pv : Nat → St → Hp → Prop) (h0 : Pv 0 σ H) (hl : ∀ i σ H, i ≤ xs.length → Pv i σ H → SqT K H a xs)
    (hs : ∀ i x σ H, xs[i]? = some x → Pv i σ H → g x σ H fun σ2 H2 => tb { D with nx := Pv (i + 1), ct := Pv (i + 1), bk := D.nx } σ2 H2) (hd : ∀ σ H, Pv xs.length σ H → D.nx σ H) :
    ∃ W : Nat → Nat → St → Hp → Prop, (∃ m, W 0 m σ H) ∧ ∀ i m σ H, W i m σ H →
      ((Itt K a).stop i H ∧ D.nx σ H) ∨ ((Itt K a).go i H ∧ ∃ N : St → Hp → Prop, (∀ σ' H', N σ' H' → ∃ m', m' < m ∧ W (i + 1) m' σ' H') ∧ ∀ x H', (Itt K a).yld i H x H' → g x σ H' fun σ2 H2 => tb { D with nx := N, ct := N, bk := D.nx } σ2 H2) := by
  refine ⟨fun i m σ H => m = xs.length - i ∧ i ≤ xs.length ∧ Pv i σ H, ⟨xs.length, by simp, Nat.zero_le _, h0⟩, ?_⟩
  rintro i m σ H ⟨rfl, hi, p⟩
  have q := hl i σ H hi p
  by_cases hlt : i < xs.length
  · refine .inr ⟨⟨xs, xs[i], q, by simp [hlt]⟩, Pv (i + 1), fun σ' H' p' => ⟨xs.length - (i + 1), by omega, rfl, hlt, p'⟩, fun x H' y => ?_⟩
    obtain ⟨e, y⟩ := y
    subst e
    exact hs i x σ _ (y xs q) p
  · have e : i = xs.length := by omega
    subst e
    exact .inl ⟨⟨xs, q, Nat.le_refl _⟩, hd σ H p⟩
theorem for_range {lo : Int} {n : Nat} {g : TG} {tb : TS} {D : Ends} {σ : St} {H : Hp} (Pv : Nat → St → Hp → Prop) (h0 : Pv 0 σ H)
    (hs : ∀ i σ H, i < n → Pv i σ H → g (.int (lo + i)) σ H fun σ2 H2 => tb { D with nx := Pv (i + 1), ct := Pv (i + 1), bk := D.nx } σ2 H2) (hd : ∀ σ H, Pv n σ H → D.nx σ H) :
    ∃ W : Nat → Nat → St → Hp → Prop, (∃ m, W 0 m σ H) ∧ ∀ i m σ H, W i m σ H →
      ((Itr lo n).stop i H ∧ D.nx σ H) ∨ ((Itr lo n).go i H ∧ ∃ N : St → Hp → Prop, (∀ σ' H', N σ' H' → ∃ m', m' < m ∧ W (i + 1) m' σ' H') ∧ ∀ x H', (Itr lo n).yld i H x H' → g x σ H' fun σ2 H2 => tb { D with nx := N, ct := N, bk := D.nx } σ2 H2) := by
  refine ⟨fun i m σ H => m = n - i ∧ i ≤ n ∧ Pv i σ H, ⟨n, by simp, Nat.zero_le _, h0⟩, ?_⟩
  rintro i m σ H ⟨rfl, hi, p⟩
  by_cases hlt : i < n
  · refine .inr ⟨hlt, Pv (i + 1), fun σ' H' p' => ⟨n - (i + 1), by omega, rfl, hlt, p'⟩, fun x H' y => ?_⟩
    obtain ⟨e, y⟩ := y
    subst e y
    exact hs i σ _ hlt p
  · have e : i = n := by omega
    subst e
    exact .inl ⟨Nat.le_refl _, hd σ H p⟩
end L2

namespace L2
open PySem PySem.Spec PyProof.Rows

abbrev R2 := V → V → Hp → VK → Prop
def OpR (X : Cx) (f : Value → Value → Sem Value) (r : R2) : Prop :=
  ∀ (pins : List (Addr × Obj)) (s : Shared) (σ : St) (H : Hp) (x y : V) (v u : Value) (Q : VK), Inv X pins σ H s → RelV x v → RelV y u → r x y H Q →
    wpAny (model X.prog X.w) X.A (f v u) (EP X pins σ Q) X.xe s
def UnR (X : Cx) (f : Value → Sem Value) (r : V → Hp → VK → Prop) : Prop :=
  ∀ (pins : List (Addr × Obj)) (s : Shared) (σ : St) (H : Hp) (x : V) (v : Value) (Q : VK), Inv X pins σ H s → RelV x v → r x H Q →
    wpAny (model X.prog X.w) X.A (f v) (EP X pins σ Q) X.xe s
def CallR (X : Cx) (f : Value) (r : List V → Hp → VK → Prop) : Prop :=
  ∀ (pins : List (Addr × Obj)) (s : Shared) (σ : St) (H : Hp) (xs : List V) (us : List Value) (Q : VK), Inv X pins σ H s → Vals xs us → r xs H Q →
    wpAny (model X.prog X.w) X.A (call f us) (EP X pins σ Q) X.xe s

def tOp (r : R2) (ta tb : TE) : TE := fun σ H Q => ta σ H fun x H1 => tb σ H1 fun y H2 => r x y H2 Q
def tUn (r : V → Hp → VK → Prop) (ta : TE) : TE := fun σ H Q => ta σ H fun x H1 => r x H1 Q
def rI (C : Int → Int → Prop) (g : Int → Int → V) : R2 := fun x y H Q => ∃ i j, x = .int i ∧ y = .int j ∧ C i j ∧ Q (g i j) H
def rI0 (g : Int → Int → V) : R2 := fun x y H Q => ∃ i j, x = .int i ∧ y = .int j ∧ Q (g i j) H
def rU (g : Int → V) : V → Hp → VK → Prop := fun x H Q => ∃ i, x = .int i ∧ Q (g i) H

section
variable {X : Cx} {a b c : Expr} {ta tb tc : TE} {pos : Pos}

theorem binT (ha : PE X a ta) (hb : PE X b tb) {pins : List (Addr × Obj)} {s : Shared} {σ : St} {H : Hp} {R : V → V → Hp → Prop} (I : Inv X pins σ H s)
    (h : ta σ H fun x H1 => tb σ H1 fun y H2 => R x y H2) {Q : Value → Shared → Prop} {f : Value → Value → Sem Value}
    (hf : ∀ v u s2 x y H2, Inv X pins σ H2 s2 → RelV x v → RelV y u → R x y H2 → wpAny (model X.prog X.w) X.A (f v u) Q X.xe s2) :
    wpAny (model X.prog X.w) X.A (eval a X.env) (fun v s₁ => wpAny (model X.prog X.w) X.A (eval b X.env) (fun u s₂ => wpAny (model X.prog X.w) X.A (f v u) Q X.xe s₂) X.xe s₁) X.xe s := by
  refine thn (ha pins s σ H _ I h) fun v s1 ⟨x, H1, I1, r1, q1⟩ => ?_
  refine thn (hb pins s1 σ H1 _ I1 q1) fun u s2 ⟨y, H2, I2, r2, q2⟩ => ?_
  exact hf v u s2 x y H2 I2 r1 r2 q2

theorem pe_op {op : Operator} {r : R2} (ho : OpR X (binaryOp op) r) (ha : PE X a ta) (hb : PE X b tb) : PE X (.BinOp a op b pos) (tOp r ta tb) := by
  intro pins s σ H Q I h
  exact wpAny_BinOp (binT ha hb I h fun v u s2 x y H2 I2 rx ry q => ho pins s2 σ H2 x y v u Q I2 rx ry q)
theorem pe_un {op : UnaryOp} {r : V → Hp → VK → Prop} (ho : UnR X (unaryOp op) r) (ha : PE X a ta) : PE X (.UnaryOp op a pos) (tUn r ta) := by
  intro pins s σ H Q I h
  exact UnaryOp_ (thn (ha pins s σ H _ I h) fun v s1 ⟨x, H1, I1, r1, q1⟩ => ho pins s1 σ H1 x v Q I1 r1 q1)

theorem opI {f : Value → Value → Sem Value} {C : Int → Int → Prop} {g : Int → Int → Int}
    (rule : ∀ (i j : Int) (t u : Tok) (s : Shared) (Q : Value → Shared → Prop) (E : Value → Shared → Prop), C i j → Q (.int (g i j) s.toks) { s with toks := s.toks + 1 } → wpAny (model X.prog X.w) X.A (f (.int i t) (.int j u)) Q E s) :
    OpR X f (rI C fun i j => .int (g i j)) := by
  intro pins s σ H x y v u Q I rx ry h
  obtain ⟨i, j, rfl, rfl, hc, q⟩ := h
  obtain ⟨t, rfl⟩ := rx
  obtain ⟨t', rfl⟩ := ry
  exact rule i j t t' s _ _ hc ⟨.int (g i j), H, I.tok _, ⟨_, rfl⟩, q⟩
theorem opI0 {f : Value → Value → Sem Value} {g : Int → Int → Int}
    (rule : ∀ (i j : Int) (t u : Tok) (s : Shared) (Q : Value → Shared → Prop) (E : Value → Shared → Prop), Q (.int (g i j) s.toks) { s with toks := s.toks + 1 } → wpAny (model X.prog X.w) X.A (f (.int i t) (.int j u)) Q E s) :
    OpR X f (rI0 fun i j => .int (g i j)) := by
  intro pins s σ H x y v u Q I rx ry h
  obtain ⟨i, j, rfl, rfl, q⟩ := h
  obtain ⟨t, rfl⟩ := rx
  obtain ⟨t', rfl⟩ := ry
  exact rule i j t t' s _ _ ⟨.int (g i j), H, I.tok _, ⟨_, rfl⟩, q⟩
theorem opB0 {f : Value → Value → Sem Value} {g : Int → Int → Bool}
    (rule : ∀ (i j : Int) (t u : Tok) (s : Shared) (Q : Value → Shared → Prop) (E : Value → Shared → Prop), Q (.bool (g i j)) s → wpAny (model X.prog X.w) X.A (f (.int i t) (.int j u)) Q E s) :
    OpR X f (rI0 fun i j => .bl (g i j)) := by
  intro pins s σ H x y v u Q I rx ry h
  obtain ⟨i, j, rfl, rfl, q⟩ := h
  obtain ⟨t, rfl⟩ := rx
  obtain ⟨t', rfl⟩ := ry
  exact rule i j t t' s _ _ ⟨.bl (g i j), H, I, rfl, q⟩

def CPow (i j : Int) : Prop := 0 ≤ j ∧ j ≤ 1000000 ∧ i.natAbs < 2 ^ 64
def CMul (i j : Int) : Prop := (-(2 ^ 64) < i ∧ i < 2 ^ 64) ∨ (-(2 ^ 64) < j ∧ j < 2 ^ 64)
theorem CMul.ok {i j : Int} (h : CMul i j) : IntMulOk i j := by
  rcases h with ⟨h1, h2⟩ | ⟨h1, h2⟩
  · exact .of_left (intBits_le_64 h1 h2)
  · exact .of_right (intBits_le_64 h1 h2)

theorem op_add : OpR X (binaryOp .Add) (rI0 fun i j => .int (i + j)) := opI0 fun _ _ _ _ _ _ _ q => add_int q
theorem op_sub : OpR X (binaryOp .Sub) (rI0 fun i j => .int (i - j)) := opI0 fun _ _ _ _ _ _ _ q => sub_int q
theorem op_mod : OpR X (binaryOp .Mod) (rI (fun _ j => 0 < j) fun i j => .int (i % j)) := opI fun i j _ _ _ _ _ hc q => by
  have h1 : (0 : Int) < j := hc
  exact mod_int' (by omega) (by rw [Int.fmod_eq_emod_of_nonneg i (by omega)]; exact q)
theorem op_pow : OpR X (binaryOp .Pow) (rI CPow fun i j => .int (i ^ j.toNat)) := opI fun _ _ _ _ _ _ _ hc q => pow_int_small hc.1 hc.2.1 hc.2.2 q


theorem unI {f : Value → Sem Value} {g : Int → Int}
    (rule : ∀ (i : Int) (t : Tok) (s : Shared) (Q : Value → Shared → Prop) (E : Value → Shared → Prop), Q (.int (g i) s.toks) { s with toks := s.toks + 1 } → wpAny (model X.prog X.w) X.A (f (.int i t)) Q E s) :
    UnR X f (rU fun i => .int (g i)) := by
  intro pins s σ H x v Q I rx h
  obtain ⟨i, rfl, q⟩ := h
  obtain ⟨t, rfl⟩ := rx
  exact rule i t s _ _ ⟨.int (g i), H, I.tok _, ⟨_, rfl⟩, q⟩
theorem un_neg : UnR X (unaryOp .USub) (rU fun i => .int (-i)) := unI fun _ _ _ _ _ q => neg_int q

end

def scal : V → V → Bool
  | .non, .non => true | .non, .int _ => true | .int _, .non => true | .non, .bl _ => true | .bl _, .non => true | .non, .str _ => true | .str _, .non => true
  | .int _, .int _ => true | .bl _, .bl _ => true | .str _, .str _ => true | .byt _, .byt _ => true
  | .int _, .str _ => true | .str _, .int _ => true | .bl _, .str _ => true | .str _, .bl _ => true
  | _, _ => false
def rEq : R2 := fun x y H Q => scal x y = true ∧ Q (.bl (decide (x = y))) H
def rNe : R2 := fun x y H Q => scal x y = true ∧ Q (.bl (!decide (x = y))) H

theorem dec_int {i j : Int} : decide (V.int i = V.int j) = (i == j) := by
  rw [Bool.eq_iff_iff]
  simp
theorem dec_bl {i j : Bool} : decide (V.bl i = V.bl j) = (i == j) := by
  rw [Bool.eq_iff_iff]
  simp
theorem dec_str {i j : Str} : decide (V.str i = V.str j) = (i == j) := by
  rw [Bool.eq_iff_iff]
  simp
theorem dec_byt {i j : Array UInt8} : decide (V.byt i = V.byt j) = (i.toList == j.toList) := by
  rw [Bool.eq_iff_iff]
  cases i
  cases j
  simp

section
variable {X : Cx} {a b c : Expr} {ta tb tc : TE} {pos : Pos}
theorem fin_bl {pins : List (Addr × Obj)} {σ : St} {H : Hp} {s : Shared} {Q : VK} {k k' : Bool} (I : Inv X pins σ H s) (q : Q (.bl k) H) (e : k = k') : EP X pins σ Q (.bool k') s := by
  subst e
  exact ⟨.bl k, H, I, rfl, q⟩
theorem op_eq : OpR X (compareOp .Eq) rEq := by
  intro pins s σ H x y v u Q I rx ry h
  obtain ⟨hs, q⟩ := h
  cases x with
  | non =>
    cases rx
    cases y with
    | non => cases ry; exact PySem.EqNone.eq_none_none (fin_bl I q (by simp))
    | bl j => cases ry; exact PySem.EqNone.eq_none_bool (fin_bl I q (by simp))
    | int j => obtain ⟨t', rfl⟩ := ry; exact PySem.EqNone.eq_none_int (fin_bl I q (by simp))
    | str j => obtain ⟨t', rfl⟩ := ry; exact PySem.EqNone.eq_none_str (fin_bl I q (by simp))
    | _ => exact absurd (show false = true from hs) Bool.false_ne_true
  | bl i =>
    cases rx
    cases y with
    | non => cases ry; exact PySem.EqNone.eq_bool_none (fin_bl I q (by simp))
    | bl j => cases ry; exact eq_bool (fin_bl I q dec_bl)
    | str j => obtain ⟨t', rfl⟩ := ry; exact PySem.EqMixed.eq_bool_str (fin_bl I q (by simp))
    | _ => exact absurd (show false = true from hs) Bool.false_ne_true
  | int i =>
    obtain ⟨t, rfl⟩ := rx
    cases y with
    | non => cases ry; exact PySem.EqNone.eq_int_none (fin_bl I q (by simp))
    | int j => obtain ⟨t', rfl⟩ := ry; exact eq_int (fin_bl I q dec_int)
    | str j => obtain ⟨t', rfl⟩ := ry; exact PySem.EqMixed.eq_int_str (fin_bl I q (by simp))
    | _ => exact absurd (show false = true from hs) Bool.false_ne_true
  | str i =>
    obtain ⟨t, rfl⟩ := rx
    cases y with
    | non => cases ry; exact PySem.EqNone.eq_str_none (fin_bl I q (by simp))
    | bl j => cases ry; exact PySem.EqMixed.eq_str_bool (fin_bl I q (by simp))
    | int j => obtain ⟨t', rfl⟩ := ry; exact PySem.EqMixed.eq_str_int (fin_bl I q (by simp))
    | str j => obtain ⟨t', rfl⟩ := ry; exact eq_str (fin_bl I q dec_str)
    | _ => exact absurd (show false = true from hs) Bool.false_ne_true
  | byt i =>
    obtain ⟨t, rfl⟩ := rx
    cases y with
    | byt j => obtain ⟨t', rfl⟩ := ry; exact PySem.W.eq_bytes (fin_bl I q dec_byt)
    | _ => exact absurd (show false = true from hs) Bool.false_ne_true
  | _ => cases y <;> exact absurd (show false = true from hs) Bool.false_ne_true
theorem op_ne : OpR X (compareOp .NotEq) rNe := by
  intro pins s σ H x y v u Q I rx ry h
  obtain ⟨hs, q⟩ := h
  cases x with
  | non =>
    cases rx
    cases y with
    | non => cases ry; exact PySem.EqNone.ne_none_none (fin_bl I q (by simp))
    | bl j => cases ry; exact PySem.EqNone.ne_none_bool (fin_bl I q (by simp))
    | int j => obtain ⟨t', rfl⟩ := ry; exact PySem.EqNone.ne_none_int (fin_bl I q (by simp))
    | str j => obtain ⟨t', rfl⟩ := ry; exact PySem.EqNone.ne_none_str (fin_bl I q (by simp))
    | _ => exact absurd (show false = true from hs) Bool.false_ne_true
  | bl i =>
    cases rx
    cases y with
    | non => cases ry; exact PySem.EqNone.ne_bool_none (fin_bl I q (by simp))
    | bl j => cases ry; exact ne_bool (fin_bl I q (congrArg not dec_bl))
    | str j => obtain ⟨t', rfl⟩ := ry; exact PySem.EqMixed.ne_bool_str (fin_bl I q (by simp))
    | _ => exact absurd (show false = true from hs) Bool.false_ne_true
  | int i =>
    obtain ⟨t, rfl⟩ := rx
    cases y with
    | non => cases ry; exact PySem.EqNone.ne_int_none (fin_bl I q (by simp))
    | int j => obtain ⟨t', rfl⟩ := ry; exact ne_int (fin_bl I q (congrArg not dec_int))
    | str j => obtain ⟨t', rfl⟩ := ry; exact PySem.EqMixed.ne_int_str (fin_bl I q (by simp))
    | _ => exact absurd (show false = true from hs) Bool.false_ne_true
  | str i =>
    obtain ⟨t, rfl⟩ := rx
    cases y with
    | non => cases ry; exact PySem.EqNone.ne_str_none (fin_bl I q (by simp))
    | bl j => cases ry; exact PySem.EqMixed.ne_str_bool (fin_bl I q (by simp))
    | int j => obtain ⟨t', rfl⟩ := ry; exact PySem.EqMixed.ne_str_int (fin_bl I q (by simp))
    | str j => obtain ⟨t', rfl⟩ := ry; exact ne_str (fin_bl I q (congrArg not dec_str))
    | _ => exact absurd (show false = true from hs) Bool.false_ne_true
  | byt i =>
    obtain ⟨t, rfl⟩ := rx
    cases y with
    | byt j => obtain ⟨t', rfl⟩ := ry; exact PySem.W.ne_bytes (fin_bl I q (congrArg not dec_byt))
    | _ => exact absurd (show false = true from hs) Bool.false_ne_true
  | _ => cases y <;> exact absurd (show false = true from hs) Bool.false_ne_true

theorem op_lt : OpR X (compareOp .Lt) (rI0 fun i j => .bl (decide (i < j))) := opB0 fun _ _ _ _ _ _ _ q => lt_int q
theorem op_le : OpR X (compareOp .LtE) (rI0 fun i j => .bl (decide (i ≤ j))) := opB0 fun _ _ _ _ _ _ _ q => le_int q
theorem op_gt : OpR X (compareOp .Gt) (rI0 fun i j => .bl (decide (j < i))) := opB0 fun _ _ _ _ _ _ _ q => gt_int q




theorem nomark (b : Expr) {op : CmpOp} (h : op ≠ .In := by decide) (h2 : op ≠ .NotIn := by decide) : behindInMarks op b = false := by
  have e1 : (op == CmpOp.In) = false := by cases op <;> first | rfl | exact absurd rfl h
  have e2 : (op == CmpOp.NotIn) = false := by cases op <;> first | rfl | exact absurd rfl h2
  cases b <;> simp [behindInMarks, e1, e2]
theorem pe_cmpR {op : CmpOp} {r : R2} (ho : OpR X (compareOp op) r) (ha : PE X a ta) (hb : PE X b tb) (hm : behindInMarks op b = false) : PE X (.Compare a [op] [b] pos) (tOp r ta tb) := by
  intro pins s σ H Q I h
  exact wpAny_Compare1 (binT ha hb I h fun v u s2 x y H2 I2 rx ry q => ho pins s2 σ H2 x y v u Q I2 rx ry q) hm
def tTest (t : TE) : TT := fun σ H Q => t σ H fun x H' => ∃ k, x = .bl k ∧ Q k H'
theorem pt_cmpR {op : CmpOp} {r : R2} (ho : OpR X (compareOp op) r) (ha : PE X a ta) (hb : PE X b tb) (hm : behindInMarks op b = false) : PT X (.Compare a [op] [b] pos) (tTest (tOp r ta tb)) := by
  intro pins s σ H Q I h
  refine wpAny_isTrue_Compare1 (thn (ha pins s σ H _ I h) fun v s1 ⟨x, H1, I1, r1, q1⟩ => thn (hb pins s1 σ H1 _ I1 q1) fun u s2 ⟨y, H2, I2, r2, q2⟩ =>
    thn (ho pins s2 σ H2 x y v u _ I2 r1 r2 q2) fun c s3 ⟨z, H3, I3, r3, k, e, q3⟩ => ?_) hm
  subst e
  cases r3
  exact wpAny_truthy_bool ⟨H3, I3, q3⟩
def tChain (r r' : R2) (ta tb tc : TE) : TE := fun σ H Q => ta σ H fun x H1 => tb σ H1 fun y H2 => r x y H2 fun z H3 => ∃ k, z = .bl k ∧
  (if k = true then tc σ H3 fun w' H4 => r' y w' H4 Q else Q (.bl false) H3)
theorem pe_chain {op op' : CmpOp} {r r' : R2} (ho : OpR X (compareOp op) r) (ho' : OpR X (compareOp op') r') (ha : PE X a ta) (hb : PE X b tb) (hc : PE X c tc)
    (hm : lastMarks [op, op'] [b, c] = false := by with_unfolding_all rfl) : PE X (.Compare a [op, op'] [b, c] pos) (tChain r r' ta tb tc) := by
  intro pins s σ H Q I h
  refine Compare_chain (thn (ha pins s σ H _ I h) fun v s1 ⟨x, H1, I1, r1, q1⟩ => chain_link (thn (hb pins s1 σ H1 _ I1 q1) fun u s2 ⟨y, H2, I2, r2, q2⟩ =>
    thn (ho pins s2 σ H2 x y v u _ I2 r1 r2 q2) fun d s3 ⟨z, H3, I3, r3, k, e, q3⟩ => ?_)) hm
  subst e
  cases r3
  refine wpAny_truthy_bool ?_
  cases k with
  | false => exact ite_ff ⟨.bl false, H3, I3, rfl, q3⟩
  | true => exact ite_tt (chain_last (thn (hc pins s3 σ H3 _ I3 q3) fun w' s4 ⟨z', H4, I4, r4, q4⟩ => ho' pins s4 σ H4 y z' u w' Q I4 r2 r4 q4))
theorem pt_chain {op op' : CmpOp} {r r' : R2} (ho : OpR X (compareOp op) r) (ho' : OpR X (compareOp op') r') (ha : PE X a ta) (hb : PE X b tb) (hc : PE X c tc)
    (hm : lastMarks [op, op'] [b, c] = false := by with_unfolding_all rfl) : PT X (.Compare a [op, op'] [b, c] pos) (tTest (tChain r r' ta tb tc)) := by
  intro pins s σ H Q I h
  refine isTrue_chain (thn (ha pins s σ H _ I h) fun v s1 ⟨x, H1, I1, r1, q1⟩ => test_link (thn (hb pins s1 σ H1 _ I1 q1) fun u s2 ⟨y, H2, I2, r2, q2⟩ =>
    thn (ho pins s2 σ H2 x y v u _ I2 r1 r2 q2) fun d s3 ⟨z, H3, I3, r3, k, e, q3⟩ => ?_)) hm
  subst e
  cases r3
  refine wpAny_truthy_bool ?_
  cases k with
  | false =>
    obtain ⟨k', e', q'⟩ := q3
    cases e'
    exact ite_ff ⟨H3, I3, q'⟩
  | true =>
    refine ite_tt (test_last (thn (hc pins s3 σ H3 _ I3 q3) fun w' s4 ⟨z', H4, I4, r4, q4⟩ => thn (ho' pins s4 σ H4 y z' u w' _ I4 r2 r4 q4) fun d' s5 ⟨z2, H5, I5, r5, k2, e2, q5⟩ => ?_))
    subst e2
    cases r5
    exact wpAny_truthy_bool ⟨H5, I5, q5⟩

theorem line63 : (sizeLine : Nat) < 2 ^ 63 := by rw [sizeLine_eq]; decide



theorem vals1 {x : V} {us : List Value} (r : Vals [x] us) : ∃ u, us = [u] ∧ RelV x u := by
  cases r with
  | cons r1 r2 => cases r2; exact ⟨_, rfl, r1⟩
theorem vals2 {x y : V} {us : List Value} (r : Vals [x, y] us) : ∃ u w', us = [u, w'] ∧ RelV x u ∧ RelV y w' := by
  cases r with
  | cons r1 r2 =>
    cases r2 with
    | cons r3 r4 => cases r4; exact ⟨_, _, rfl, r1, r3⟩
theorem call_max2 (hc : X.calm = true) : CallR X (.builtin "max") (fun xs H Q => ∃ i j, xs = [.int i, .int j] ∧ Q (.int (if j > i then j else i)) H) := by
  intro pins s σ H xs us Q I r h
  obtain ⟨i, j, rfl, q⟩ := h
  obtain ⟨u, w', rfl, ⟨t, rfl⟩, ⟨t', rfl⟩⟩ := vals2 r
  refine max_two_ints (I.ok.hd hc) fun h' tk k => ⟨_, H, I.kept k, ?_, q⟩
  by_cases hj : j > i
  · rw [if_pos hj, if_pos hj]; exact ⟨_, rfl⟩
  · rw [if_neg hj, if_neg hj]; exact ⟨_, rfl⟩
theorem call_min2 (hc : X.calm = true) : CallR X (.builtin "min") (fun xs H Q => ∃ i j, xs = [.int i, .int j] ∧ Q (.int (if j < i then j else i)) H) := by
  intro pins s σ H xs us Q I r h
  obtain ⟨i, j, rfl, q⟩ := h
  obtain ⟨u, w', rfl, ⟨t, rfl⟩, ⟨t', rfl⟩⟩ := vals2 r
  refine min_two_ints (I.ok.hd hc) fun h' tk k => ⟨_, H, I.kept k, ?_, q⟩
  by_cases hj : j < i
  · rw [if_pos hj, if_pos hj]; exact ⟨_, rfl⟩
  · rw [if_neg hj, if_neg hj]; exact ⟨_, rfl⟩
theorem call_int1 : CallR X (.type "int") (fun xs H Q => (∃ i, xs = [.int i] ∧ Q (.int i) H) ∨ ∃ k, xs = [.bl k] ∧ Q (.int (if k then 1 else 0)) H) := by
  intro pins s σ H xs us Q I r h
  rcases h with ⟨i, rfl, q⟩ | ⟨k, rfl, q⟩
  · obtain ⟨u, rfl, t, rfl⟩ := vals1 r
    exact call_int_int ⟨.int i, H, I, ⟨_, rfl⟩, q⟩
  · obtain ⟨u, rfl, r1⟩ := vals1 r
    cases r1
    exact call_int_bool ⟨.int (if k then 1 else 0), H, I.tok _, ⟨_, rfl⟩, q⟩
theorem call_str_int : CallR X (.type "str") (fun xs H Q => ∃ i, xs = [.int i] ∧ i.natAbs.log2 < 1920 ∧ Q (.str (toString i)) H) := by
  intro pins s σ H xs us Q I r h
  obtain ⟨i, rfl, hz, q⟩ := h
  obtain ⟨u, rfl, t, rfl⟩ := vals1 r
  exact PySem.P.str_of_int hz ⟨.str _, H, I.tok _, ⟨_, rfl⟩, q⟩
end
end L2

namespace L2
open PySem PySem.Spec PyProof.Rows

structure ObjM (h : Heap) (x dx C : Addr) (mA : Str → Option Value) : Prop where
  obj : h.get? x = some (PySem.W.instObj C dx)
  ns : h.Ns1 dx mA
  ne : dx ≠ x

theorem lookIn_ns {h : Heap} {dx : Addr} {mA : Str → Option Value} (n : h.Ns1 dx mA) : ∃ od, h.get? dx = some od ∧ ∀ name, PySem.W.lookIn name od = some (mA name) := by
  obtain ⟨o, es, ep, ho, hd, hk, _, hm⟩ := n
  refine ⟨o, ho, fun name => ?_⟩
  have e := hm name
  unfold nsFind findBy at e
  rw [← Array.find?_toList] at e
  unfold PySem.W.lookIn
  rw [hd]
  dsimp only
  split
  · rename_i y q
    rw [q] at e
    exact congrArg some e
  · rename_i q
    rw [q] at e
    have a : es.toList.any (·.refKey) = false := by
      rw [List.any_eq_false]
      intro y hy
      obtain ⟨z, t, hkey⟩ := hk y (Array.mem_toList_iff.mp hy)
      simp [DictEntry.refKey, hkey]
    have a' : ¬ es.toList.any (·.refKey) = true := by rw [a]; exact Bool.false_ne_true
    rw [if_neg a']
    exact congrArg some e

theorem ObjM.look {h : Heap} {x dx C : Addr} {mA : Str → Option Value} (I : ObjM h x dx C mA) : ∃ od, PySem.W.InstAt h x (PySem.W.instObj C dx) C (some od) ∧ ∀ name, PySem.W.lookIn name od = some (mA name) :=
  let ⟨od, ho, hl⟩ := lookIn_ns I.ns
  ⟨od, ⟨I.obj, rfl, rfl, ho⟩, hl⟩

section
variable {prog : Program} {w : World} {A : Around} {E : Value → Shared → Prop} {s : Shared} {K : PySem.W.Frag} {x dx C f : Addr} {mA : Str → Option Value} {name : Str} {v : Value}





end



section
variable {P : Program} {w : World} {H H' : Hp} {h h' : Heap} {a C dx : Addr} {fs fs' : List (Str × V)}
theorem ins_get (hok : HOk P w H h) (e : H a = some (.ins C dx fs)) : ∃ mA, ObjM h a dx C mA ∧ (∀ f, RelO (fs.lookup f) (mA f)) ∧ PySem.Within mA (fs.map (·.1)) ∧ fs.length ≤ 1000 ∧ H dx = some (.own a) := by
  obtain ⟨d, z, ne, ob, mA, n, r, q⟩ := (show ObjOk P w H h a (.ins C dx fs) from hok a _ e)
  exact ⟨mA, ⟨ob, n, ne⟩, r, q, z, d⟩
end

structure Cls (K : PySem.W.Frag) (C : Addr) : Prop where
  pg : PySem.W.plainGet K C Str.empty = true
  hd : PySem.W.hasDictIn K C = true
  po : PySem.W.plainOver K C = true
  sa : PySem.W.findIn K (.ref C) "__setattr__" = some (some (.builtin "object.__setattr__"))
theorem Cls.get {K : PySem.W.Frag} {C : Addr} (c : Cls K C) (f : Str) : PySem.W.plainGet K C f = true := c.pg
def NoAttr (K : PySem.W.Frag) (C : Addr) (f : Str) : Prop := PySem.W.findIn K (.ref C) f = some none
structure Con (K : PySem.W.Frag) (C : Addr) (f : Str) (v : V) (u : Value) : Prop where
  at_ : PySem.W.findIn K (.ref C) f = some (some u)
  rel : RelV v u
  get : PySem.W.specialIn K u "__get__" = some none
  cp : PySem.W.copiedNames.contains f = false
structure Meth (K : PySem.W.Frag) (C : Addr) (m : Str) (f : Addr) : Prop where
  at_ : PySem.W.findIn K (.ref C) m = some (some (.ref f))
  fn : PySem.W.isFn K (.ref f) = true
  kp : PySem.W.keepIn K (.ref f) = true

section
variable {X : Cx} {pins : List (Addr × Obj)} {σ : St} {H : Hp} {s : Shared} {a C dx : Addr} {fs : List (Str × V)} {f : Str} {v : V} {A : Around} {E : Value → Shared → Prop}






end


section
variable {X : Cx} {o e value : Expr} {f : Str} {pos pos' tpos : Pos} {ta tv : TE}

end

section
variable {X : Cx} {pins : List (Addr × Obj)} {σ : St} {H : Hp} {s : Shared} {A : Around} {E : Value → Shared → Prop} {Q : Value → Shared → Prop} {c : Value} {b : Bool}
inductive TyOf (K : PySem.W.Frag) (H : Hp) : V → Value → Prop where
  | non : TyOf K H .non (.type "NoneType")
  | bl (x : Bool) : TyOf K H (.bl x) (.type "bool")
  | int (i : Int) : TyOf K H (.int i) (.type "int")
  | str (x : Str) : TyOf K H (.str x) (.type "str")
  | flt (x : UInt64) : TyOf K H (.flt x) (.type "float")
  | lst {a : Addr} {xs : List V} (e : H a = some (.lst xs)) : TyOf K H (.ref a) (.type "list")
  | frz {a : Addr} {o : Obj} {xs : List V} (e : H a = some (.frz o (.lst xs))) : TyOf K H (.ref a) (.type "list")
  | tup {a : Addr} {xs : List V} (e : H a = some (.tup xs)) : TyOf K H (.ref a) (.type "tuple")
  | dK {a : Addr} {kvs : List (Key × V)} (e : H a = some (.dK kvs)) : TyOf K H (.ref a) (.type "dict")
  | dT {a : Addr} {kvs : List (List Key × V)} (e : H a = some (.dT kvs)) : TyOf K H (.ref a) (.type "dict")
  | ins {a C dx : Addr} {fs : List (Str × V)} (e : H a = some (.ins C dx fs)) (cl : Cls K C) (ha : PySem.W.findIn K (.ref C) "__class__" = some (some (.builtin "object.__class__")))
      (hn : PySem.W.specialIn K (.builtin "object.__class__") "__get__" = some (some (.builtin "getset_descriptor.__get__"))) (htk : PySem.W.takesIn K (.builtin "object.__class__") = some true)
      (hm : PySem.W.mroIn K C (.type "object") = some true) : TyOf K H (.ref a) (.ref C)
theorem isinst_ok {x : V} {u t : Value} (I : Inv X pins σ H s) (rx : RelV x u) (ty : TyOf X.K H x t) (e : PySem.W.kitOne X.K t c = some b) (h : ∀ tk, Q (.bool b) { s with toks := tk }) :
    wpAny (model X.prog X.w) A (call (.builtin "isinstance") [u, c]) Q E s := by
  cases ty with
  | non => cases (show u = Value.none from rx); exact PySem.W.kia_one PySem.W.kitx_none I.kIn True.intro e (fun z => nomatch z) h
  | bl y => cases (show u = Value.bool y from rx); exact PySem.W.kia_one PySem.W.kitx_bool I.kIn True.intro e (fun z => nomatch z) h
  | int i => obtain ⟨t, q⟩ := (show ∃ t, u = Value.int i t from rx); cases q; exact PySem.W.kia_one PySem.W.kitx_int I.kIn True.intro e (fun z => nomatch z) h
  | str y => obtain ⟨t, q⟩ := (show ∃ t, u = Value.str y t from rx); cases q; exact PySem.W.kia_one PySem.W.kitx_str I.kIn True.intro e (fun z => nomatch z) h
  | flt y => obtain ⟨t, q⟩ := (show ∃ t, u = Value.float y t from rx); cases q; exact PySem.W.kia_one PySem.W.kitx_float I.kIn True.intro e (fun z => nomatch z) h
  | @lst a xs ea =>
    cases (show u = Value.ref a from rx)
    obtain ⟨_, _, n, _, h1⟩ := (show ObjOk X.prog X.w H s.heap a (.lst xs) from I.hok a _ ea)
    exact PySem.W.kia_one PySem.W.kitx_list I.kIn ⟨_, h1, rfl⟩ e (fun z => nomatch z) h
  | @frz a ob xs ea =>
    cases (show u = Value.ref a from rx)
    obtain ⟨_, _, _, n, _, h1⟩ := (show ObjOk X.prog X.w H s.heap a (.frz ob (.lst xs)) from I.hok a _ ea)
    exact PySem.W.kia_one PySem.W.kitx_list I.kIn ⟨_, h1, rfl⟩ e (fun z => nomatch z) h
  | @tup a xs ea =>
    cases (show u = Value.ref a from rx)
    obtain ⟨_, _, _, p⟩ := (show ObjOk X.prog X.w H s.heap a (.tup xs) from I.hok a _ ea)
    obtain ⟨o, h1, h2, _⟩ := p
    exact PySem.W.kia_one PySem.W.kitx_tuple I.kIn ⟨o, h1, h2⟩ e (fun z => nomatch z) h
  | @dK a kvs ea =>
    cases (show u = Value.ref a from rx)
    obtain ⟨_, _, vs, _, p⟩ := (show ObjOk X.prog X.w H s.heap a (.dK kvs) from I.hok a _ ea)
    obtain ⟨o, es, ep, h1, h2, _⟩ := p
    exact PySem.W.kia_one PySem.W.kitx_dict I.kIn ⟨o, h1, h2.1⟩ e (fun z => nomatch z) h
  | @dT a kvs ea =>
    cases (show u = Value.ref a from rx)
    obtain ⟨_, _, xs, _, o, es, ep, h1, h2, _⟩ := (show ObjOk X.prog X.w H s.heap a (.dT kvs) from I.hok a _ ea)
    exact PySem.W.kia_one PySem.W.kitx_dict I.kIn ⟨o, h1, h2.1⟩ e (fun z => nomatch z) h
  | @ins a C dx fs ea cl ha hn htk hm =>
    cases (show u = Value.ref a from rx)
    obtain ⟨mA, O, _⟩ := ins_get I.hok ea
    obtain ⟨od, J, _⟩ := O.look
    exact PySem.W.kia_one (PySem.W.kitx_own (cl.get _) cl.hd ha hn htk hm) I.kIn J e (fun z => nomatch z) h
end
end L2

namespace L2
open PySem PySem.Spec PyProof.Rows

structure Room (k : Nat) (A : Around) : Prop where
  hd : A.handled = none
  dp : A.depth + 3 * k + 5 < recursionLimit
  un : A.units + 16 * k + 200 < cLine
  gd : A.guards = some []
theorem Room.mono {j k : Nat} {A : Around} (r : Room k A) (h : j ≤ k) : Room j A := ⟨r.hd, by have := r.dp; omega, by have := r.un; omega, r.gd⟩
theorem Room.deeper {k : Nat} {A : Around} (r : Room (k + 1) A) (env : Env) : Room k (A.deeper env) :=
  ⟨r.hd, by have := r.dp; show A.depth + 1 + 3 * k + 5 < _; omega, by have := r.un; show A.units + 3 + 16 * k + 200 < _; omega, r.gd⟩
theorem Room.in1 {k : Nat} {A : Around} (r : Room (k + 1) A) : Room k A.in1 :=
  ⟨r.hd, by have := r.dp; show A.depth + 3 * k + 5 < _; omega, by have := r.un; show A.units + 1 + 16 * k + 200 < _; omega, r.gd⟩
theorem Room.depth {k : Nat} {A : Around} (r : Room k A) : A.depth < recursionLimit := by have := r.dp; omega
theorem Room.units {k : Nat} {A : Around} (r : Room k A) : A.units + 64 < cLine := by have := r.un; omega
theorem Room.units0 {k : Nat} {A : Around} (r : Room k A) : A.units < cLine := by have := r.un; omega

def tNil : TA := fun _ H Q => Q [] H
def tCons (ta : TE) (tr : TA) : TA := fun σ H Q => ta σ H fun x H1 => tr σ H1 fun xs H2 => Q (x :: xs) H2
section
variable {X : Cx} {e : Expr} {es : List Expr} {te : TE} {t : TA} {pos : Pos}
theorem pa_nil : PA X [] tNil := fun _ _ _ _ H Q I h => Calls.spliced_nil ⟨[], H, I, .nil, h⟩
theorem pa_cons (ha : PE X e te) (hr : PA X es t) (hs : starEach (e :: es) X.env = (false, eval e X.env) :: starEach es X.env := by rfl) : PA X (e :: es) (tCons te t) := by
  intro pos pins s σ H Q I h
  rw [hs]
  show wpAny _ _ (spliced ((false, eval e X.env) :: backTo pos (starEach es X.env))) _ _ s
  refine Calls.spliced_cons (thn (ha pins s σ H _ I h) fun u s1 ⟨x, H1, I1, r1, q1⟩ => ?_)
  exact thn (hr pos pins s1 σ H1 _ I1 q1) fun us s2 ⟨xs, H2, I2, r2, q2⟩ => ⟨x :: xs, H2, I2, .cons r1 r2, q2⟩

def tTup (t : TA) : TE := fun σ H Q => t σ H fun xs H1 => xs.length ≤ sizeLine ∧ ∀ p, H1 p = none → Q (.ref p) (upd H1 p (.tup xs))
def tLst (t : TA) : TE := fun σ H Q => t σ H fun xs H1 => xs.length ≤ sizeLine ∧ ∀ p, H1 p = none → Q (.ref p) (upd H1 p (.lst xs))
theorem pe_tup {x1} (h : PA X es t) : PE X (.Tuple es x1 pos) (tTup t) := by
  intro pins s σ H Q I hq
  refine wpAny_Tuple_spliced (thn (h pos pins s σ H _ I hq) fun us s1 ⟨xs, H1, I1, r, z, q⟩ => ⟨by rw [← r.length]; exact z, ?_⟩)
  have hf : H1 s1.heap.objs.size = none := I1.hok.fresh (Nat.le_refl _)
  refine ⟨.ref s1.heap.objs.size, upd H1 s1.heap.objs.size (.tup xs), I1.laid (t' := s1.toks) (fun b u e => Heap.get?_push_of_some _ e) (Nat.le_refl _) ?_, rfl, q _ hf⟩
  exact ⟨z, us, r, ⟨_, Heap.get?_push_size _ rfl, rfl, _, rfl⟩⟩
theorem pe_lst (h : PA X es t) : PE X (.List es pos) (tLst t) := by
  intro pins s σ H Q I hq
  refine wpAny_List_spliced (thn (h pos pins s σ H _ I hq) fun us s1 ⟨xs, H1, I1, r, z, q⟩ => ⟨by rw [← r.length]; exact z, ?_⟩)
  have hf : H1 s1.heap.objs.size = none := I1.hok.fresh (Nat.le_refl _)
  refine ⟨.ref s1.heap.objs.size, upd H1 s1.heap.objs.size (.lst xs), I1.laid (t' := s1.toks) (fun b u e => Heap.get?_push_of_some _ e) (Nat.le_refl _) ?_, rfl, q _ hf⟩
  exact ⟨z, us, 0, r, Heap.get?_push_size _ rfl⟩
end

abbrev Sp := List V → Hp → VK → XK → Prop
abbrev CXT := List Env → Hp → Shared → XK → Value → Shared → Prop

structure Env0 (P : Program) (w : World) (K : PySem.W.Frag) (mg : Str → Option Value) (base : Heap) (A : Around) (outer : List Env) (s : Shared) (H : Hp) : Prop where
  frames : A.frames = some outer
  mod : Mod K mg base
  bs : ∀ b o, base.get? b = some o → s.heap.get? b = some o ∧ H b = none
  bsz : base.objs.size ≤ s.heap.objs.size
  funs : s.heap.FunFrames base outer
  frf : ∀ b ∈ frs outer, H b = none
  hok : HOk P w H s.heap
  bare : AllBare s.gens
def CE (outer : List Env) (P : Program) (w : World) (H : Hp) (s : Shared) (Q : VK) (u : Value) (s' : Shared) : Prop :=
  ∃ v H', s'.os = s.os ∧ AllBare s'.gens ∧ Un (frs outer) [] H H' s.heap s'.heap ∧ HOk P w H' s'.heap ∧ RelV v u ∧ Q v H'
def CR (CX : CXT) (outer : List Env) (P : Program) (w : World) (H : Hp) (s : Shared) (Q : VK) (E : XK) (r : Result) (s' : Shared) : Prop :=
  match r with
  | .ok (.ret u) => CE outer P w H s Q u s'
  | .ok _ => False
  | .error e => CX outer H s E e s'
structure FnOk (P : Program) (w : World) (K : PySem.W.Frag) (mg : Str → Option Value) (base : Heap) (CX : CXT) (k : Nat) (f : Addr) (fd : FuncData) (ps : List Str) (sp : Sp) : Prop where
  len : ∀ vs H Q E, sp vs H Q E → vs.length = ps.length
  run : ∀ (A : Around) (outer : List Env) (s : Shared) (H : Hp) (args : Args) (us : List Value) (vs : List V) (Q : VK) (E : XK), Room k A → Env0 P w K mg base A outer s H → BindsTo s fd args (ps.zip us) → Vals vs us → sp vs H Q E →
    codeAny (model P w) A (.call (.ref f) args) (CR CX outer P w H s Q E) s
theorem FnOk.mono {P : Program} {w : World} {K : PySem.W.Frag} {mg : Str → Option Value} {base : Heap} {CX : CXT} {j k : Nat} {f : Addr} {fd : FuncData} {ps : List Str} {sp : Sp} (F : FnOk P w K mg base CX j f fd ps sp) (h : j ≤ k) :
    FnOk P w K mg base CX k f fd ps sp := ⟨F.len, fun A outer s H args us vs Q E hr => F.run A outer s H args us vs Q E (hr.mono h)⟩
theorem FnOk.imp {P : Program} {w : World} {K : PySem.W.Frag} {mg : Str → Option Value} {base : Heap} {CX : CXT} {k : Nat} {f : Addr} {fd : FuncData} {ps : List Str} {sp sp' : Sp} (F : FnOk P w K mg base CX k f fd ps sp)
    (h : ∀ vs H Q E, sp' vs H Q E → sp vs H Q E) : FnOk P w K mg base CX k f fd ps sp' :=
  ⟨fun vs H Q E q => F.len vs H Q E (h _ _ _ _ q), fun A outer s H args us vs Q E hr he hb hv hs => F.run A outer s H args us vs Q E hr he hb hv (h _ _ _ _ hs)⟩

theorem Env0.in1 {P : Program} {w : World} {K : PySem.W.Frag} {mg : Str → Option Value} {base : Heap} {A : Around} {outer : List Env} {s : Shared} {H : Hp} (e : Env0 P w K mg base A outer s H) :
    Env0 P w K mg base A.in1 outer s H := ⟨e.frames, e.mod, e.bs, e.bsz, e.funs, e.frf, e.hok, e.bare⟩

section
variable {X : Cx} {pins : List (Addr × Obj)} {σ : St} {H : Hp} {s s' : Shared}
theorem Inv.env0 (I : Inv X pins σ H s) : Env0 X.prog X.w X.K X.mg X.base X.A X.stack s H :=
  ⟨I.ok.frames, I.ok.mod, I.bs, Nat.le_trans I.ok.bsz I.sz, I.stack, I.stkFree, I.hok, I.bare⟩
theorem Inv.after {Q : VK} {u : Value} (I : Inv X pins σ H s) (h : CE X.stack X.prog X.w H s Q u s') : EP X pins σ Q u s' := by
  obtain ⟨v, H', os, bare, un, hok, r, q⟩ := h
  obtain ⟨hh, g, d, t, os'⟩ := s'
  obtain rfl : os' = s.os := os
  exact ⟨v, H', I.call (h' := hh) (g' := g) (d' := d) (t' := t) (ch := []) un hok bare (fun b z => absurd z (by simp)), r, q⟩
end

def tCall (sp : Sp) (dvs : List V) (E : XK) (t : TA) : TE := fun σ H Q => t σ H fun vs H1 => sp (vs ++ dvs) H1 Q E

def Binds (K : PySem.W.Frag) (fd : FuncData) (ps : List Str) (ds : List Value) : Prop :=
  ∀ (s : Shared) (us : List Value), K.In s.heap → (us ++ ds).length = ps.length → BindsTo s fd ⟨us, []⟩ (ps.zip (us ++ ds))
theorem Binds.all {K : PySem.W.Frag} {fd : FuncData} {ps : List Str} (h : ∀ us : List Value, us.length = ps.length → bindArgs fd ⟨us, []⟩ = pure (ps.zip us)) : Binds K fd ps [] := fun s us _ hl => by
  rw [List.append_nil] at hl ⊢
  exact .of_eq (h us hl)

def Passes (CX : CXT) (X : Cx) (E : XK) : Prop := ∀ (pins : List (Addr × Obj)) (σ : St) (H : Hp) (s : Shared) (e : Value) (s' : Shared), Inv X pins σ H s → CX X.stack H s E e s' → X.xe e s'

section
variable {X : Cx} {CX : CXT} {k : Nat} {f C : Addr} {fd : FuncData} {ps : List Str} {sp : Sp} {dvs : List V} {ds : List Value} {E : XK} {x m : Str} {p pos apos : Pos} {e o : Expr} {es : List Expr} {ta : TE} {t : TA}

theorem run_fn {pins : List (Addr × Obj)} {σ : St} {H : Hp} {s : Shared} {Q : VK} {us : List Value} {vs : List V} (F : FnOk X.prog X.w X.K X.mg X.base CX k f fd ps sp) (hr : Room k X.A) (hb : Binds X.K fd ps ds) (hd : Vals dvs ds) (hx : Passes CX X E)
    (I : Inv X pins σ H s) (r : Vals vs us) (h : sp (vs ++ dvs) H Q E) : wpAny (model X.prog X.w) X.A (call (.ref f) us) (EP X pins σ Q) X.xe s := by
  have r2 : Vals (vs ++ dvs) (us ++ ds) := r.append hd
  have hl : (us ++ ds).length = ps.length := by rw [← r2.length]; exact F.len _ _ _ _ h
  refine wpAny_call (codeAny_mono (F.run X.A X.stack s H ⟨us, []⟩ (us ++ ds) (vs ++ dvs) Q E hr I.env0 (hb s us I.kIn hl) r2 h) fun r s' hq => ?_)
  cases r with
  | error e => exact hx pins σ H s e s' I hq
  | ok fl =>
    cases fl with
    | ret u => exact I.after hq
    | next => exact False.elim hq
    | brk => exact False.elim hq
    | cont => exact False.elim hq

theorem pe_call (F : FnOk X.prog X.w X.K X.mg X.base CX k f fd ps sp) (hr : Room k X.A) (hg : Gl X x) (hm : X.mg x = some (.ref f)) (hk : PySem.W.keepIn X.K (.ref f) = true) (hb : Binds X.K fd ps ds) (hd : Vals dvs ds) (hx : Passes CX X E)
    (ha : PA X (e :: es) t) (hdb : (x == ("__debug__" : Str)) = false := by decide) (he : starEach (e :: es) X.env = (false, eval e X.env) :: starEach es X.env := by rfl) (hpl : (backTo pos (starEach es X.env)).any (·.1) = false := by rfl) :
    PE X (.Call (.Name x p) (e :: es) [] pos) (tCall sp dvs E t) := by
  intro pins s σ H Q I h
  refine wpAny_Call_Name_kw (ld_glob I hg hm ?_ hdb)
  refine PySem.W.callWith_K (h₀ := X.base) I.ok.mod.kin hk (thn (ha pos pins s σ H _ I h) fun us s1 ⟨vs, H1, I1, r, q⟩ => ⟨I1.kIn, ?_⟩) he hpl
  exact run_fn F hr hb hd hx I1 r q


structure Mk (K : PySem.W.Frag) (C f : Addr) : Prop where
  makes : PySem.W.makesIn K C = true
  init : PySem.W.findIn K (.ref C) "__init__" = some (some (.ref f))
  fn : PySem.W.isFn K (.ref f) = true
  kp : PySem.W.keepIn K (.ref C) = true

end

section
variable {X : Cx} {CX : CXT} {k : Nat} {f C : Addr} {fd : FuncData} {ps ks : List Str} {sp : Sp} {E : XK} {x m : Str} {p pos apos kpos : Pos} {e o : Expr} {es : List Expr} {kws : List Keyword} {te ta : TE} {t tk : TA} {nm : Option Str}

structure KBinds (K : PySem.W.Frag) (fd : FuncData) (ps ks : List Str) (g : List Value → List Value → List Value) (gV : List V → List V → List V) : Prop where
  to : ∀ (s : Shared) (us ws : List Value), K.In s.heap → (g us ws).length = ps.length → BindsTo s fd ⟨us, ks.zip ws⟩ (ps.zip (g us ws))
  rel : ∀ {vs : List V} {us : List Value} {zs : List V} {ws : List Value}, Vals vs us → Vals zs ws → Vals (gV vs zs) (g us ws)
variable {g : List Value → List Value → List Value} {gV : List V → List V → List V}
end

structure FnScope (N P : List Str) (sc : Scope) : Prop where
  kind : sc.kind = .function
  co : sc.isCoroutine = false
  gen : sc.isGenerator = false
  nd : N.Nodup
  pre : N.take P.length = P
  par : ∀ x ∈ P, sc.names.lookup x = some .local ∨ sc.names.lookup x = some .cell
  nofree : ∀ y ∈ sc.names, y.2 ≠ .free

theorem bindL_out {kindOf : Str → Option NameKind} {x : Str} : ∀ {binds : List (Str × Value)} {m : Str → Option Value}, (∀ v, (x, v) ∉ binds) → bindL kindOf binds m x = m x
  | [], _, _ => rfl
  | (n, v) :: r, m, h => by
    unfold bindL
    rw [bindL_out fun w hw => h w (List.mem_cons_of_mem _ hw)]
    split
    · have : x ≠ n := by rintro rfl; exact h v List.mem_cons_self
      simp [this]
    · rfl
theorem bindC_out {kindOf : Str → Option NameKind} {x : Str} : ∀ {binds : List (Str × Value)} {m : Str → Option Value}, (∀ v, (x, v) ∉ binds) → bindC kindOf binds m x = m x
  | [], _, _ => rfl
  | (n, v) :: r, m, h => by
    unfold bindC
    rw [bindC_out fun w hw => h w (List.mem_cons_of_mem _ hw)]
    split
    · rfl
    · have : x ≠ n := by rintro rfl; exact h v List.mem_cons_self
      simp [this]
theorem bindL_get {kindOf : Str → Option NameKind} {x : Str} {v : Value} : ∀ {P : List Str} {vs : List Value} {i : Nat} {m : Str → Option Value}, P.Nodup → P[i]? = some x → vs[i]? = some v → kindOf x = some .local →
    bindL kindOf (P.zip vs) m x = some v
  | [], _, _, _, _, h, _, _ => by simp at h
  | _ :: _, [], _, _, _, _, h, _ => by simp at h
  | p :: P, w :: vs, 0, m, nd, h1, h2, hk => by
    simp at h1 h2; subst h1; subst h2
    show bindL kindOf ((p, w) :: P.zip vs) m p = _
    unfold bindL
    rw [bindL_out fun v hv => (List.nodup_cons.mp nd).1 (List.of_mem_zip hv).1, if_pos hk]
    simp
  | p :: P, w :: vs, i + 1, m, nd, h1, h2, hk => by
    show bindL kindOf ((p, w) :: P.zip vs) m x = _
    unfold bindL
    exact bindL_get (i := i) (List.nodup_cons.mp nd).2 (by simpa using h1) (by simpa using h2) hk
theorem bindC_get {kindOf : Str → Option NameKind} {x : Str} {v : Value} : ∀ {P : List Str} {vs : List Value} {i : Nat} {m : Str → Option Value}, P.Nodup → P[i]? = some x → vs[i]? = some v → kindOf x ≠ some .local →
    bindC kindOf (P.zip vs) m x = some v
  | [], _, _, _, _, h, _, _ => by simp at h
  | _ :: _, [], _, _, _, _, h, _ => by simp at h
  | p :: P, w :: vs, 0, m, nd, h1, h2, hk => by
    simp at h1 h2; subst h1; subst h2
    show bindC kindOf ((p, w) :: P.zip vs) m p = _
    unfold bindC
    rw [bindC_out fun v hv => (List.nodup_cons.mp nd).1 (List.of_mem_zip hv).1, if_neg hk]
    simp
  | p :: P, w :: vs, i + 1, m, nd, h1, h2, hk => by
    show bindC kindOf ((p, w) :: P.zip vs) m x = _
    unfold bindC
    exact bindC_get (i := i) (List.nodup_cons.mp nd).2 (by simpa using h1) (by simpa using h2) hk

def start (N : List Str) (vs : List V) : St := vs.map some ++ List.replicate (N.length - vs.length) none

def cxOf (CX : CXT) (P : Program) (w : World) (K : PySem.W.Frag) (mg : Str → Option Value) (base : Heap) (N : List Str) (qual : Str) (scope : Scope) (f : Addr) (cd : Value) (A : Around) (outer : List Env) (s : Shared) (H : Hp) (E : XK) : Cx where
  prog := P
  w := w
  K := K
  mg := mg
  base := base
  A := A.deeper (envOfC qual scope s.heap.objs.size f cd)
  N := N
  s₀ := s
  H₀ := H
  env := envOfC qual scope s.heap.objs.size f cd
  outer := outer
  stack := envOfC qual scope s.heap.objs.size f cd :: outer
  ex := []
  calm := true
  fn := fun _ => true
  pn := []
  xe := fun e s' => wpAny (model P w) (A.deeper (envOfC qual scope s.heap.objs.size f cd)) (leaving (envOfC qual scope s.heap.objs.size f cd) e) (fun _ s'' => CX outer H s E e s'') (fun e' s'' => CX outer H s E e' s'') s'

theorem cell_has {sc : Scope} {n : Nat} {x : Str} (h : sc.names.lookup x = some .cell) : ∃ c, (cellsFrom n sc.names []).lookup x = some c := by
  have q := PySem.W.cellsFrom_some sc.names n [] (.inl h)
  exact Option.isSome_iff_exists.mp q

theorem inv_start {CX : CXT} {P : Program} {w : World} {K : PySem.W.Frag} {mg : Str → Option Value} {base : Heap} {N ps : List Str} {qual : Str} {scope : Scope} {f : Addr} {cd : Value} {A : Around} {outer : List Env} {s s1 : Shared} {H : Hp} {E : XK} {us : List Value} {vs : List V}
    (S : FnScope N ps scope) (hd : A.handled = none) (e0 : Env0 P w K mg base A outer s H) (hl : vs.length = ps.length) (r : Vals vs us)
    (x : InCallC s s.heap.objs.size (bindL (envOfC qual scope s.heap.objs.size f cd).kindOf (ps.zip us) fun _ => none) (cellsFrom (s.heap.objs.size + 1) scope.names []) (bindC (envOfC qual scope s.heap.objs.size f cd).kindOf (ps.zip us) fun _ => none) s1) :
    Inv (cxOf CX P w K mg base N qual scope f cd A outer s H E) [] (start N vs) H s1 := by
  have hpl : ps.length ≤ N.length := by have := congrArg List.length S.pre; rw [List.length_take] at this; omega
  obtain ⟨h1, tk, rfl, hk⟩ := x.done
  have noA : ∀ b : Addr, b ∉ (cxOf CX P w K mg base N qual scope f cd A outer s H E).ex := fun b z => absurd (show b ∈ ([] : List Addr) from z) (by simp)
  refine ⟨⟨e0.mod, S.kind, rfl, rfl, Nat.le_refl _, fun y z c h1 h2 => ?_, fun y hy => ?_, fun y c _ h => ?_, fun _ => hd, Around.frames_deeper e0.frames, .inr ⟨rfl, rfl⟩, fun b z => absurd z (noA b), e0.bs, e0.bsz, fun b _ _ => noA b, fun b z => absurd z (noA b), e0.funs, e0.frf⟩,
    rfl, e0.bare, Un.kept hk, ⟨_, x.toInCall.ns, fun i y v h1 h2 h3 => ?_⟩, fun y c h => ⟨_, x.cell y c h⟩, e0.hok.fresh (Nat.le_refl _), fun y c h => ?_, fun p hp => absurd (show p ∈ ([] : List (Addr × Obj)) from hp) (by simp), e0.hok.kept hk, ?_⟩
  · exact name_of_addr x.apart (PySem.mem_of_lookup h1) (PySem.mem_of_lookup h2)
  · have hy : scope.names.lookup y = some .cell ∨ scope.names.lookup y = some .free := hy
    rcases hy with hy | hy
    · exact cell_has hy
    · exact absurd rfl (S.nofree _ (PySem.mem_of_lookup hy))
  · exact Nat.le_of_lt (x.above y c (PySem.mem_of_lookup h))
  · have hi : i < vs.length := by
      unfold start at h2
      by_cases hi : i < vs.length
      · exact hi
      · rw [List.getElem?_append_right (by simpa using hi)] at h2
        rw [List.getElem?_replicate] at h2
        split at h2 <;> cases h2
    have ha : vs[i]? = some v := by
      unfold start at h2
      rw [List.getElem?_append_left (by simpa using hi), List.getElem?_map] at h2
      cases e : vs[i]? with
      | none => rw [e] at h2; cases h2
      | some a => rw [e] at h2; cases h2; rfl
    obtain ⟨u, hu, rv⟩ := r.get ha
    have hp : ps[i]? = some y := by
      rw [← S.pre, List.getElem?_take_of_lt (by omega)]; exact h1
    have ndP : ps.Nodup := by rw [← S.pre]; exact S.nd.sublist (List.take_sublist _ _)
    refine ⟨u, rv, ?_⟩
    rcases S.par y (List.mem_of_getElem? hp) with k | k
    · exact .inl ⟨k, bindL_get ndP hp hu k⟩
    · obtain ⟨c, e⟩ := cell_has (n := s.heap.objs.size + 1) k
      refine .inr ⟨.inl k, c, e, ?_⟩
      have q := x.cell y c e
      rw [bindC_get ndP hp hu (by show scope.names.lookup y ≠ _; rw [k]; decide)] at q
      exact q
  · exact e0.hok.fresh (Nat.le_of_lt (x.above y c (PySem.mem_of_lookup h)))
  · unfold start
    show _ = N.length
    rw [List.length_append, List.length_map, List.length_replicate]
    omega

theorem fn_of {CX : CXT} {P : Program} {w : World} {K : PySem.W.Frag} {mg : Str → Option Value} {base : Heap} {k : Nat} {f : Addr} {name qual : Str} {params : Arguments} {body : List Stmt} {scope : Scope} {dV kV doc pm cdv ct oc : Value} {an od : Option Addr}
    {osl : Array (Option Value)} {N ps : List Str} {sp : Sp} (lk : K.lookup f = some ⟨oc, od, .func (PySem.W.fnOf name qual params body scope dV kV doc pm an cdv ct), osl⟩) (hcd : PySem.W.codeIn K cdv qual = true) (S : FnScope N ps scope)
    (len : ∀ vs H Q E, sp vs H Q E → vs.length = ps.length)
    (hbody : ∀ (A : Around) (outer : List Env) (s : Shared) (H : Hp) (vs : List V) (Q : VK) (E : XK), Room k (A.deeper (envOfC qual scope s.heap.objs.size f cdv)) → sp vs H Q E →
      ∃ t, PSs (cxOf CX P w K mg base N qual scope f cdv A outer s H E) body t ∧ t { nx := fun _ H' => Q .non H', rt := Q } (start N vs) H) :
    FnOk P w K mg base CX (k + 1) f (PySem.W.fnOf name qual params body scope dV kV doc pm an cdv ct) ps sp := by
  refine ⟨len, fun A outer s H args us vs Q E hr e0 hb r hsp => ?_⟩
  have hl := len _ _ _ _ hsp
  have KX : K.In s.heap := e0.mod.kin.keeps fun b o e => (e0.bs b o e).1
  have lim : s.heap.NoLimit := e0.mod.nolimit.keeps fun b o e => (e0.bs b o e).1
  have hkind : ∀ y ∈ ps.zip us, scope.names.lookup y.1 = some .local ∨ (scope.names.lookup y.1 = some .cell ∧ ((cellsFrom (s.heap.objs.size + 1) scope.names []).lookup y.1).isSome = true) := fun ⟨n, v⟩ hy => by
    rcases S.par n (List.of_mem_zip hy).1 with q | q
    · exact .inl q
    · exact .inr ⟨q, PySem.W.cellsFrom_some _ _ _ (.inl q)⟩
  refine codeAny_call_function hr.depth (KX _ _ lk) rfl S.co S.gen rfl (PySem.W.codeRec_of KX hcd) (hb _ _ _ _ ?_)
  refine wpAny_newFunctionEnv_cells S.kind hkind fun env he s1 x => ?_
  subst he
  refine ⟨lim.keeps x.toInCall.keep, codeAny_func ?_⟩
  obtain ⟨t, ht, hq⟩ := hbody A outer s H vs Q E (hr.deeper _) hsp
  have I : Inv (cxOf CX P w K mg base N qual scope f cdv A outer s H E) [] (start N vs) H s1 := inv_start S hr.hd e0 hl r x
  refine wpAny_mono (ht [] s1 (start N vs) H _ I hq) (fun fl s' hs => ?_) fun e s' hs => hs
  have fin : ∀ {σ' : St} {H' : Hp} {v : V} {u : Value}, Inv (cxOf CX P w K mg base N qual scope f cdv A outer s H E) [] σ' H' s' → RelV v u → Q v H' → CE outer P w H s Q u s' :=
    fun {σ' H' v u} J rv q => ⟨v, H', J.os, J.bare, J.base, J.hok, rv, q⟩
  cases fl with
  | ret u =>
    obtain ⟨v, σ', H', J, rv, q⟩ := hs
    exact fin J rv q
  | next =>
    obtain ⟨σ', H', J, q⟩ := hs
    exact fin (v := V.non) (u := Value.none) J rfl q
  | brk =>
    obtain ⟨_, _, _, q⟩ := hs
    exact False.elim q
  | cont =>
    obtain ⟨_, _, _, q⟩ := hs
    exact False.elim q
end L2

namespace L2
open PySem PySem.Spec PyProof.Rows
section
variable {X : Cx} {x : Str} {p pos : Pos} {e : Expr} {es : List Expr} {t : TA} {id T : String} {r : List V → Hp → VK → Prop}

def tCB (r : List V → Hp → VK → Prop) (t : TA) : TE := fun σ H Q => t σ H fun vs H1 => r vs H1 Q
theorem pe_callB (hc : CallR X (.builtin id) r) (hg : Gl X x) (hm : X.mg x = none) (hv : bootBuiltins x = some (.builtin id)) (ha : PA X (e :: es) t) (hn : x ≠ "__name__" := by decide) (hdb : (x == ("__debug__" : Str)) = false := by decide)
    (he : starEach (e :: es) X.env = (false, eval e X.env) :: starEach es X.env := by rfl) (hpl : (backTo pos (starEach es X.env)).any (·.1) = false := by rfl) : PE X (.Call (.Name x p) (e :: es) [] pos) (tCB r t) := by
  intro pins s σ H Q I h
  refine wpAny_Call_Name_kw (ld_blt I hg hm hv ?_ hn hdb)
  exact PyProof.Rows.callWith_builtin1 (thn (ha pos pins s σ H _ I h) fun us s1 ⟨vs, H1, I1, r1, q1⟩ => hc pins s1 σ H1 vs us Q I1 r1 q1) he hpl
theorem pe_callTy (hc : CallR X (.type T) r) (hg : Gl X x) (hm : X.mg x = none) (hv : bootBuiltins x = some (.type T)) (ha : PA X (e :: es) t) (hn : x ≠ "__name__" := by decide) (hdb : (x == ("__debug__" : Str)) = false := by decide)
    (he : starEach (e :: es) X.env = (false, eval e X.env) :: starEach es X.env := by rfl) (hpl : (backTo pos (starEach es X.env)).any (·.1) = false := by rfl) : PE X (.Call (.Name x p) (e :: es) [] pos) (tCB r t) := by
  intro pins s σ H Q I h
  refine wpAny_Call_Name_kw (ld_blt I hg hm hv ?_ hn hdb)
  exact PyProof.Rows.callWith_type1 (thn (ha pos pins s σ H _ I h) fun us s1 ⟨vs, H1, I1, r1, q1⟩ => hc pins s1 σ H1 vs us Q I1 r1 q1) he hpl
end
end L2

namespace HT
open PySem PyProof.Rows



section
open PySem.SeqAt
open PySem.AutoSeq1 (wpAny_loadPart')
open PySem.MeetsSeq PySem.MeetsSeq2 PySem.MeetsSeq3

end

section
variable {prog : Program} {w : World} {A : Around} {E : Value → Shared → Prop} {s : Shared}


theorem cat_tup {t b : Addr} {vs ws : List Value} {Q : Value → Shared → Prop} (ht : IsTup s.heap t vs.toArray) (hb : IsTup s.heap b ws.toArray) (hv : vs ≠ [])
    (h1 : ws = [] → Q (.ref t) s) (h2 : ws ≠ [] → Q (.ref s.heap.objs.size) { s with heap := s.heap.push { cls := .type "tuple", data := .seq (vs ++ ws).toArray } })
    (hsz : vs.length + ws.length ≤ sizeLine) : wpAny (model prog w) A (binaryOp .Add (.ref t) (.ref b)) Q E s := by
  obtain ⟨⟨cls, dd, data, sl⟩, ho, hc, n, hd⟩ := id ht
  obtain ⟨⟨cls2, dd2, data2, sl2⟩, ho2, hc2, n2, hd2⟩ := id hb
  simp only at hc hd hc2 hd2
  subst hc hd hc2 hd2
  have e : vs.toArray ++ ws.toArray = (vs ++ ws).toArray := by simp
  by_cases hw : ws = []
  · exact concat_meets ⟨_, ho, rfl⟩ ⟨_, ho2, rfl⟩ noFill_tuple_add seq_tuple_add PySem.F.slot_tuple_add PySem.F.entry_tuple_add (PySem.F.args_tuple_add_2 _ _)
      (tuple_addW1 t b vs.toArray ws.toArray n n2 dd dd2 sl sl2 (by simpa using hv) (by simp [hw])) ⟨ho, ho2, h1 hw⟩
  · refine concat_meets ⟨_, ho, rfl⟩ ⟨_, ho2, rfl⟩ noFill_tuple_add seq_tuple_add PySem.F.slot_tuple_add PySem.F.entry_tuple_add (PySem.F.args_tuple_add_2 _ _)
      (tuple_addW2 t b vs.toArray ws.toArray n n2 dd dd2 sl sl2 (by simpa using hv) (by simpa using hw) (by rw [List.size_toArray, List.size_toArray]; exact hsz)) ⟨ho, ho2, ?_⟩
    rw [e]
    exact h2 hw

def sIx (n d : Nat) : Option Int → Nat
  | none => d
  | some v => if v < 0 then (v + (n : Int)).toNat else min v.toNat n
theorem sIx_none (n d : Nat) : sIx n d none = d := rfl
theorem sIx_nat (n d k : Nat) : sIx n d (some (k : Int)) = min k n := by
  show (if (k : Int) < 0 then ((k : Int) + (n : Int)).toNat else min (k : Int).toNat n) = min k n
  rw [if_neg (by omega), Int.toNat_natCast]
theorem sIx_le (n d : Nat) (hd : d ≤ n) (o : Option Int) : sIx n d o ≤ n := by
  cases o with
  | none => exact hd
  | some v =>
    show (if v < 0 then (v + (n : Int)).toNat else min v.toNat n) ≤ n
    by_cases hv : v < 0
    · rw [if_pos hv]; omega
    · rw [if_neg hv]; exact Nat.min_le_right _ _
theorem clip_eq (v : Int) (n d : Nat) : (if v < 0 then max (v + (n : Int)) 0 else min v (n : Int)) = ((sIx n d (some v) : Nat) : Int) := by
  show (if v < 0 then max (v + (n : Int)) 0 else min v (n : Int)) = (((if v < 0 then (v + (n : Int)).toNat else min v.toNat n) : Nat) : Int)
  by_cases hv : v < 0
  · simp only [if_pos hv]; omega
  · simp only [if_neg hv]; omega
theorem adjust_gen (lo hi : Option Int) (n : Nat) : Builtin.Slice.sliceAdjust lo hi 1 (n : Int) = (((sIx n 0 lo : Nat) : Int), ((sIx n n hi : Nat) : Int)) := by
  have h1 : ¬ ((1 : Int) < 0) := by omega
  unfold Builtin.Slice.sliceAdjust
  simp only [h1, if_false]
  refine Prod.ext ?_ ?_
  · cases lo with
    | none => rfl
    | some v => exact clip_eq v n 0
  · cases hi with
    | none => rfl
    | some v => exact clip_eq v n n
theorem places_gen (i j : Nat) : Builtin.Slice.slicePlaces (i : Int) (j : Int) 1 = j - i := by
  unfold Builtin.Slice.slicePlaces
  have h1 : (1 : Int) > 0 := by omega
  simp only [h1, if_true, Int.ediv_one]
  split <;> omega
theorem slicePart_ {v : Value} {o : Option Int} {Q : Option Int → Shared → Prop} (p : IsPart v o) (h : Q o s) : wpAny (model prog w) A (Builtin.Slice.slicePartIndex v) Q E s := by
  cases p with
  | none => exact slicePart_none h
  | int i t => exact slicePart_int h
theorem sliceApplied_gen {sl : Addr} {vl vu : Value} {lo hi : Option Int} {n : Nat} {Q : Int × Int × Nat → Shared → Prop} (hs : s.heap.IsSliceOf sl vl vu .none) (pl : IsPart vl lo) (pu : IsPart vu hi)
    (h : Q (((sIx n 0 lo : Nat) : Int), 1, sIx n n hi - sIx n 0 lo) s) : wpAny (model prog w) A (Builtin.Slice.sliceApplied (.ref sl) (pure (n : Int))) Q E s := by
  obtain ⟨os, hos, hcs, hds⟩ := id hs
  unfold Builtin.Slice.sliceApplied Builtin.Slice.sliceFields
  refine wpAny_bind (wpAny_bind (wpAny_field hos hds (x := vl) rfl (wpAny_bind (wpAny_field hos hds (x := vu) rfl (wpAny_bind (wpAny_field hos hds (x := .none) rfl (wpAny_pure ?_)))))))
  refine wpAny_bind (slicePart_none ?_)
  show wpAny _ _ (if ((1 : Int) == 0) = true then _ else _) _ _ s
  rw [if_neg (by decide)]
  refine wpAny_bind (slicePart_ pl (wpAny_bind (slicePart_ pu (wpAny_bind (wpAny_pure ?_)))))
  show wpAny _ _ (match Builtin.Slice.sliceAdjust lo hi 1 (n : Int) with | (lo, hi) => pure (lo, (1 : Int), Builtin.Slice.slicePlaces lo hi 1)) _ _ s
  rw [adjust_gen lo hi n]
  show wpAny _ _ (pure (((sIx n 0 lo : Nat) : Int), (1 : Int), Builtin.Slice.slicePlaces ((sIx n 0 lo : Nat) : Int) ((sIx n n hi : Nat) : Int) 1)) _ _ s
  rw [places_gen]
  exact wpAny_pure h
theorem pick_gen (xs : Array Value) (i k : Nat) : ((List.range k).filterMap fun (m : Nat) => xs[((i : Int) + (m : Int) * 1).toNat]?).toArray = ((xs.toList.drop i).take k).toArray := by
  have e : (fun (m : Nat) => xs[((i : Int) + (m : Int) * 1).toNat]?) = fun m => xs[i + m]? := by
    funext m
    have : ((i : Int) + (m : Int) * 1).toNat = i + m := by omega
    rw [this]
  rw [e]
  have := pick_run xs i k
  rw [List.filterMap_map] at this
  have e2 : ((fun x => xs[x]?) ∘ fun x => i + x) = fun m => xs[i + m]? := rfl
  rw [e2] at this
  rw [this]

theorem getItem_tuple_cut {t sl : Addr} {items : Array Value} {vl vu : Value} {lo hi : Option Int} {Q : Value → Shared → Prop} (ht : IsTup s.heap t items) (hs : s.heap.IsSliceOf sl vl vu .none) (pl : IsPart vl lo) (pu : IsPart vu hi)
    (hw : ¬ (sIx items.size 0 lo = 0 ∧ sIx items.size items.size hi = items.size))
    (h : Q (.ref s.heap.objs.size) { s with heap := s.heap.push { cls := .type "tuple", data := .seq ((items.toList.drop (sIx items.size 0 lo)).take (sIx items.size items.size hi - sIx items.size 0 lo)).toArray } })
    (hsz : items.size ≤ sizeLine) : wpAny (model prog w) A (getItem (.ref t) (.ref sl)) Q E s := by
  have htake : sizeOk (.seq ((items.toList.drop (sIx items.size 0 lo)).take (sIx items.size items.size hi - sIx items.size 0 lo)).toArray) := by
    show ((items.toList.drop (sIx items.size 0 lo)).take (sIx items.size items.size hi - sIx items.size 0 lo)).toArray.size ≤ sizeLine
    rw [List.size_toArray, List.length_take, List.length_drop, Array.length_toList]
    omega
  have hj : sIx items.size items.size hi ≤ items.size := sIx_le _ _ (Nat.le_refl _) hi
  obtain ⟨os, hos, hcs, hds⟩ := id hs
  have hTs : s.TypeIs (.ref sl) "slice" := ⟨os, hos, hcs⟩
  unfold getItem
  try with_reducible refine wpAny_holding ?_
  first | refine wpAny_bind (wpAny_pure ?_) | skip
  refine wpAny_bind (wpAny_sequenceKey ht.typeIs (by decide) ?_)
  refine wpAny_bind (wpAny_callSpecial?_slot (name := Str.ofString "__getitem__") ht.typeIs PyProof.Rows.slot_tuple_getitem
    (wpAny_call_entry PyProof.Rows.slot_tuple_getitem ht.typeIs entry_tuple_getitem ?_ (args_tuple_getitem _ _)))
  show wpAny _ _ (Builtin.Tuple.tupleItemsOf (.ref t) >>= _) _ _ s
  refine wpAny_bind (tupleItemsOf_ ht ?_)
  refine wpAny_bind (wpAny_typeOf hTs ?_)
  rw [if_pos (by decide)]
  refine wpAny_bind (sliceApplied_gen hs pl pu ?_)
  have hno : ¬ ((((sIx items.size 0 lo : Nat) : Int) == 0 && (1 : Int) == 1 && (sIx items.size items.size hi - sIx items.size 0 lo) == items.size) = true) := by
    intro q
    rw [Bool.and_eq_true, Bool.and_eq_true] at q
    have q1 : ((sIx items.size 0 lo : Nat) : Int) = 0 := eq_of_beq q.1.1
    have q2 : sIx items.size items.size hi - sIx items.size 0 lo = items.size := eq_of_beq q.2
    exact hw ⟨by omega, by omega⟩
  show wpAny _ _ (if (((sIx items.size 0 lo : Nat) : Int) == 0 && (1 : Int) == 1 && (sIx items.size items.size hi - sIx items.size 0 lo) == items.size) = true then _ else _) _ _ s
  rw [if_neg hno, pick_gen]
  first
    | exact wpAny_bind (m := Builtin.Tuple.tupleExact _) (wpAny_newObj_type (wpAny_pure ⟨_, rfl, wpAny_pure h⟩) htake)
    | exact wpAny_bind (m := Builtin.Tuple.tupleExact _) (wpAny_newObj_type (wpAny_bind (wpAny_pure (wpAny_pure ⟨_, rfl, wpAny_pure h⟩))) htake)
    | exact wpAny_bind (wpAny_bind (m := Builtin.Tuple.tupleExact _) (wpAny_newObj_type (wpAny_pure (wpAny_pure ⟨_, rfl, wpAny_pure h⟩)) htake))
    | exact wpAny_bind (wpAny_bind (m := Builtin.Tuple.tupleExact _) (wpAny_newObj_type (wpAny_pure ⟨_, rfl, wpAny_pure h⟩) htake))
end
end HT

namespace L2
open PySem PySem.Spec PyProof.Rows

abbrev TO := St → Hp → (Option Int → Hp → Prop) → Prop
def PO (X : Cx) (e : Option Expr) (t : TO) : Prop :=
  ∀ (pins : List (Addr × Obj)) (s : Shared) (σ : St) (H : Hp) (Q : Option Int → Hp → Prop), Inv X pins σ H s → t σ H Q →
    wpAny (model X.prog X.w) X.A (evalPart e X.env) (fun u s' => ∃ o H', Inv X pins σ H' s' ∧ IsPart u o ∧ Q o H') X.xe s
def tNoPart : TO := fun _ H Q => Q none H
def tPart (t : TE) : TO := fun σ H Q => t σ H fun x H1 => ∃ i, x = .int i ∧ Q (some i) H1


section
variable {X : Cx} {e : Expr} {te : TE} {lo hi : Option Expr} {tl th : TO} {pos p2 : Pos}

theorem po_none : PO X none tNoPart := by
  intro pins s σ H Q I h
  rw [evalPart_none]
  exact wpAny_pure ⟨none, H, I, .none, h⟩
theorem po_some (h : PE X e te) : PO X (some e) (tPart te) := by
  intro pins s σ H Q I hw
  rw [evalPart_some]
  refine thn (h pins s σ H _ I hw) fun u s1 ⟨x, H1, I1, r1, q1⟩ => ?_
  obtain ⟨i, rfl, q⟩ := q1
  obtain ⟨t, rfl⟩ := r1
  exact ⟨some i, H1, I1, .int i t, q⟩

def SlR (X : Cx) (r : V → Option Int → Option Int → Hp → VK → Prop) : Prop :=
  ∀ (pins : List (Addr × Obj)) (s : Shared) (σ : St) (H : Hp) (x : V) (v vl vu : Value) (lo hi : Option Int) (sl : Addr) (Q : VK), Inv X pins σ H s → RelV x v → s.heap.IsSliceOf sl vl vu .none → IsPart vl lo → IsPart vu hi → r x lo hi H Q →
    ∃ T id, typeLookup (.type T) "__getitem__" = pure (some (.builtin id)) ∧ s.TypeIs v T ∧ wpAny (model X.prog X.w) X.A (getItem v (.ref sl)) (EP X pins σ Q) X.xe s
def tSl (r : V → Option Int → Option Int → Hp → VK → Prop) (te : TE) (tl th : TO) : TE := fun σ H Q => te σ H fun x H1 => tl σ H1 fun l H2 => th σ H2 fun u H3 => r x l u H3 Q
theorem pe_slice {r : V → Option Int → Option Int → Hp → VK → Prop} (hr : SlR X r) (he : PE X e te) (hl : PO X lo tl) (hu : PO X hi th) : PE X (.Subscript e (.Slice lo hi none p2) pos) (tSl r te tl th) := by
  intro pins s σ H Q I h
  refine Subscript_ (thn (he pins s σ H _ I h) fun v s1 ⟨x, H1, I1, r1, q1⟩ => ?_)
  refine wpAny_Slice (thn (hl pins s1 σ H1 _ I1 q1) fun vl s2 ⟨l, H2, I2, pl, q2⟩ => thn (hu pins s2 σ H2 _ I2 q2) fun vu s3 ⟨u, H3, I3, pu, q3⟩ => ?_)
  rw [evalPart_none]
  refine wpAny_pure ?_
  have I4 : Inv X pins σ H3 { s3 with heap := s3.heap.push { cls := .type "slice", data := .fields #[vl, vu, .none] } } := I3.kept (t' := s3.toks) fun b ob q => Heap.get?_push_of_some _ q
  obtain ⟨T, id, hT, ht, hg⟩ := hr pins { s3 with heap := s3.heap.push { cls := .type "slice", data := .fields #[vl, vu, .none] } } σ H3 x v vl vu l u s3.heap.objs.size Q I4 r1 (Heap.IsSliceOf.new ..) pl pu q3
  show wpAny (model X.prog X.w) X.A (subscriptTail e (.Slice lo hi none p2) v (.ref s3.heap.objs.size)) (EP X pins σ Q) X.xe { s3 with heap := s3.heap.push { cls := .type "slice", data := .fields #[vl, vu, .none] } }
  exact tail_any (ops := [.ref s3.heap.objs.size, v]) ht hT hg (by with_unfolding_all rfl)

def cutV (xs : List V) (lo hi : Option Int) : List V := (xs.drop (HT.sIx xs.length 0 lo)).take (HT.sIx xs.length xs.length hi - HT.sIx xs.length 0 lo)
theorem cutV_length (xs : List V) (lo hi : Option Int) : (cutV xs lo hi).length ≤ xs.length := by
  unfold cutV
  rw [List.length_take, List.length_drop]
  omega
def rSlT (K : PySem.W.Frag) : V → Option Int → Option Int → Hp → VK → Prop := fun x lo hi H Q => ∃ a xs, x = .ref a ∧ SqT K H a xs ∧
  ¬ (HT.sIx xs.length 0 lo = 0 ∧ HT.sIx xs.length xs.length hi = xs.length) ∧ ∀ p, H p = none → Q (.ref p) (upd H p (.tup (cutV xs lo hi)))
theorem sl_tup : SlR X (rSlT X.K) := by
  intro pins s σ H x v vl vu lo hi sl Q I rx hs pl pu h
  obtain ⟨a, xs, rfl, hx, hw, q⟩ := h
  cases rx
  obtain ⟨its, r, ht, hz⟩ := I.tuple hx
  have hlen : its.toArray.size = xs.length := by rw [List.size_toArray]; exact r.length.symm
  refine ⟨"tuple", _, PyProof.Rows.slot_tuple_getitem.lookup, ht.typeIs, ?_⟩
  refine HT.getItem_tuple_cut ht hs pl pu (by rw [hlen]; exact hw) ?_ (by rw [hlen]; exact hz)
  rw [hlen]
  refine ⟨.ref s.heap.objs.size, _, I.laid (t' := s.toks) (o := .tup (cutV xs lo hi)) (fun b ob q => Heap.get?_push_of_some _ q) (Nat.le_refl _) ?_, rfl, q _ (I.hok.fresh (Nat.le_refl _))⟩
  exact ⟨Nat.le_trans (cutV_length xs lo hi) hz, _, (r.drop (HT.sIx xs.length 0 lo)).take (HT.sIx xs.length xs.length hi - HT.sIx xs.length 0 lo), IsTup.new _ _⟩

def rCatT (K : PySem.W.Frag) : R2 := fun x y H Q => ∃ a b xs ys, x = .ref a ∧ y = .ref b ∧ SqT K H a xs ∧ SqT K H b ys ∧ xs ≠ [] ∧ xs.length + ys.length ≤ sizeLine ∧
  (ys = [] → Q (.ref a) H) ∧ (ys ≠ [] → ∀ p, H p = none → Q (.ref p) (upd H p (.tup (xs ++ ys))))
theorem Vals.nil_iff {xs : List V} {us : List Value} (r : Vals xs us) : us = [] ↔ xs = [] := by
  cases r with
  | nil => simp
  | cons _ _ => simp
theorem op_catT : OpR X (binaryOp .Add) (rCatT X.K) := by
  intro pins s σ H x y v u Q I rx ry h
  obtain ⟨a, b, xs, ys, rfl, rfl, ha, hb, hx, hz, q1, q2⟩ := h
  cases rx
  cases ry
  obtain ⟨its, r1, p1, _⟩ := I.tuple ha
  obtain ⟨its2, r2, p2, _⟩ := I.tuple hb
  refine HT.cat_tup p1 p2 (fun z => hx (r1.nil_iff.mp z)) (fun z => ⟨.ref a, H, I, rfl, q1 (r2.nil_iff.mp z)⟩) (fun z => ?_) (by rw [← r1.length, ← r2.length]; exact hz)
  refine ⟨.ref s.heap.objs.size, _, I.laid (t' := s.toks) (o := .tup (xs ++ ys)) (fun b ob q => Heap.get?_push_of_some _ q) (Nat.le_refl _) ?_, rfl, q2 (fun w => z (r2.nil_iff.mpr w)) _ (I.hok.fresh (Nat.le_refl _))⟩
  exact ⟨by rw [List.length_append]; exact hz, _, r1.append r2, IsTup.new _ _⟩
end
end L2

namespace L2
open PySem PySem.Spec PyProof.Rows

def ixN (n : Nat) (i : Int) : Option Nat := if 0 ≤ i then (if i < n then some i.toNat else none) else if -(n : Int) ≤ i then some (i + n).toNat else none
def atI {α : Type} (xs : List α) (i : Int) : Option α := (ixN xs.length i).bind fun j => xs[j]?
theorem ixN_seq {n : Nat} {i : Int} {j : Nat} (h : ixN n i = some j) : seqIndex? i n = some j ∧ j < n ∧ -(n : Int) ≤ i ∧ i < n := by
  unfold ixN at h
  by_cases h0 : 0 ≤ i
  · rw [if_pos h0] at h
    by_cases h1 : i < n
    · rw [if_pos h1] at h
      have e : i.toNat = j := Option.some.inj h
      exact ⟨by rw [seqIndex_of h0 h1, e], by omega, by omega, h1⟩
    · rw [if_neg h1] at h; cases h
  · rw [if_neg h0] at h
    by_cases h1 : -(n : Int) ≤ i
    · rw [if_pos h1] at h
      have e : (i + n).toNat = j := Option.some.inj h
      exact ⟨by rw [seqIndex_neg (by omega) h1, e], by omega, h1, by omega⟩
    · rw [if_neg h1] at h; cases h
theorem atI_get {α : Type} {xs : List α} {i : Int} {v : α} (h : atI xs i = some v) : ∃ j, seqIndex? i xs.length = some j ∧ xs[j]? = some v ∧ j < xs.length ∧ -(xs.length : Int) ≤ i ∧ i < xs.length := by
  unfold atI at h
  cases e : ixN xs.length i with
  | none => rw [e] at h; cases h
  | some j =>
    rw [e] at h
    obtain ⟨h1, h2, h3, h4⟩ := ixN_seq e
    exact ⟨j, h1, h, h2, h3, h4⟩
theorem atI_nat {α : Type} {xs : List α} {j : Nat} {v : α} (h : xs[j]? = some v) : atI xs (j : Int) = some v := by
  have hj : j < xs.length := (List.getElem?_eq_some_iff.mp h).1
  have e : ixN xs.length (j : Int) = some j := by
    unfold ixN
    rw [if_pos (by omega), if_pos (by omega)]; simp
  unfold atI; rw [e]; exact h

def PlainIx (b : Expr) : Prop := ∀ o i, subscripted b false o i = operate [o, i] (getItem o i)
def IxR (X : Cx) (r : R2) : Prop :=
  ∀ (value slice : Expr) (pins : List (Addr × Obj)) (s : Shared) (σ : St) (H : Hp) (x y : V) (v u : Value) (Q : VK), Inv X pins σ H s → RelV x v → RelV y u → r x y H Q →
    subscripted slice false v u = operate [v, u] (getItem v u) → wpAny (model X.prog X.w) X.A (subscriptTail value slice v u) (EP X pins σ Q) X.xe s
def MtR (X : Cx) (id : String) (r : V → List V → Hp → VK → Prop) : Prop :=
  ∀ (pins : List (Addr × Obj)) (s : Shared) (σ : St) (H : Hp) (x : V) (xs : List V) (v : Value) (us : List Value) (Q : VK), Inv X pins σ H s → RelV x v → Vals xs us → r x xs H Q →
    wpAny (model X.prog X.w) X.A (call (.builtin id) (v :: us)) (EP X pins σ Q) X.xe s
section
variable {X : Cx} {a b : Expr} {ta tb : TE} {pos : Pos}
theorem pe_ix {r : R2} (hr : IxR X r) (ha : PE X a ta) (hb : PE X b tb) (hs : PlainIx b) : PE X (.Subscript a b pos) (tOp r ta tb) := by
  intro pins s σ H Q I h
  exact Subscript_ (binT ha hb I h fun v u s2 x y H2 I2 rx ry q => hr a b pins s2 σ H2 x y v u Q I2 rx ry q (hs _ _))

def rIxL (K : PySem.W.Frag) : R2 := fun x y H Q => ∃ p xs i v, x = .ref p ∧ y = .int i ∧ SqL K H p xs ∧ atI xs i = some v ∧ Q v H
def rIxT (K : PySem.W.Frag) : R2 := fun x y H Q => ∃ p xs i v, x = .ref p ∧ y = .int i ∧ SqT K H p xs ∧ atI xs i = some v ∧ Q v H
theorem ix_list : IxR X (rIxL X.K) := by
  intro value slice pins s σ H x y v u Q I rx ry h hs
  obtain ⟨p, xs, i, z, rfl, rfl, hq, he, q⟩ := h
  cases rx
  obtain ⟨t, rfl⟩ := ry
  obtain ⟨its, r, pl, hz⟩ := I.list hq
  obtain ⟨j, h1, h2, h3, h4, h5⟩ := atI_get he
  obtain ⟨w, ew, rw'⟩ := r.get h2
  have hl := r.length
  have hn := line63
  have fin : EP X pins σ Q w s := ⟨z, H, I, rw', q⟩
  by_cases h0 : 0 ≤ i
  · have hj : i.toNat = j := by
      rw [seqIndex_of h0 h5] at h1
      exact Option.some.inj h1
    exact item_listR pl.isList h0 (by omega) (by rw [hj]; simpa using ew) fin hs
  · have hj : (i + (its.toArray.size : Int)).toNat = j := by
      rw [seqIndex_neg (by omega) h4] at h1
      rw [List.size_toArray, ← hl]
      exact Option.some.inj h1
    exact subscriptTail_builtinR (x := w) pl.isList.typeIs slot_list_getitem.lookup
      (wpAny_getItem_list_neg (Q := fun r s' => r = w ∧ EP X pins σ Q r s') pl.isList (by omega) (by rw [List.size_toArray] <;> omega) (by omega) (by rw [hj]; simpa using ew) ⟨rfl, fin⟩) hs
theorem ix_tup : IxR X (rIxT X.K) := by
  intro value slice pins s σ H x y v u Q I rx ry h hs
  obtain ⟨p, xs, i, z, rfl, rfl, hq, he, q⟩ := h
  cases rx
  obtain ⟨t, rfl⟩ := ry
  obtain ⟨its, r, pl, hz⟩ := I.tuple hq
  obtain ⟨j, h1, h2, h3, h4, h5⟩ := atI_get he
  obtain ⟨w, ew, rw'⟩ := r.get h2
  have hl := r.length
  have hn := line63
  have fin : EP X pins σ Q w s := ⟨z, H, I, rw', q⟩
  exact subscriptTail_builtinR (x := w) pl.typeIs slot_tuple_getitem.lookup
    (getItem_tuple (j := j) (Q := fun r s' => r = w ∧ EP X pins σ Q r s') pl (by omega) (by omega) (by rw [List.size_toArray, ← hl]; exact h1) (by simpa using ew) ⟨rfl, fin⟩) hs

theorem mapSeq_set (its : List Value) (n j : Nat) (u : Value) : Obj.mapSeq (·.setIfInBounds j u) { cls := .type "list", data := .seq its.toArray n } = { cls := .type "list", data := .seq (its.set j u).toArray n } := by
  simp [Obj.mapSeq]
theorem Inv.lst {pins : List (Addr × Obj)} {σ : St} {H : Hp} {s : Shared} {p : Addr} {xs : List V} (I : Inv X pins σ H s) (h : H p = some (.lst xs)) :
    ∃ (its : List Value) (n : Nat), Vals xs its ∧ s.heap.get? p = some { cls := .type "list", data := .seq its.toArray n } ∧ xs.length ≤ sizeLine := by
  obtain ⟨z, its, n, r, e⟩ := I.hok p _ h
  exact ⟨its, n, r, e, z⟩
theorem Inv.lstUpd {pins : List (Addr × Obj)} {σ : St} {H : Hp} {s : Shared} {p : Addr} {xs ys : List V} {its its' : List Value} {n n' : Nat} {f : Obj → Obj} (I : Inv X pins σ H s) (h : H p = some (.lst xs))
    (ho : s.heap.get? p = some { cls := .type "list", data := .seq its.toArray n }) (hf : f { cls := .type "list", data := .seq its.toArray n } = { cls := .type "list", data := .seq its'.toArray n' }) (r : Vals ys its') (hz : ys.length ≤ sizeLine) (t : Nat) :
    Inv X pins σ (upd H p (.lst ys)) { s with heap := s.heap.update p f, toks := t } := by
  have e : (s.heap.update p f).get? p = some { cls := .type "list", data := .seq its'.toArray n' } := by
    rw [Heap.get?_update_self f ho (by rw [hf] <;> rfl), hf]
  refine I.write (x := p) (e := p) (by rw [h]; trivial) (.inl rfl) (fun b u hb q => (Heap.get?_update_other _ _ (Ne.symm hb)).trans q) ⟨_, e⟩ ?_
  exact ⟨hz, its', n', r, e⟩
def rSetL : V → V → V → Hp → (Hp → Prop) → Prop := fun o i v H Q => ∃ p xs k j, o = .ref p ∧ i = .int k ∧ H p = some (.lst xs) ∧ ixN xs.length k = some j ∧ Q (upd H p (.lst (xs.set j v)))
theorem set_list : PSet X rSetL := by
  intro pins s σ H o i v ov iv u Q I ro ri rv h
  obtain ⟨p, xs, k, j, rfl, rfl, hp, hj, q⟩ := h
  cases ro
  obtain ⟨t, rfl⟩ := ri
  obtain ⟨its, n, r, ho, hz⟩ := I.lst hp
  obtain ⟨h1, h2, h3, h4⟩ := ixN_seq hj
  have hl := r.length
  have hn := line63
  have I' : Inv X pins σ (upd H p (.lst (xs.set j v))) { s with heap := s.heap.update p (Obj.mapSeq (·.setIfInBounds j u)) } :=
    I.lstUpd hp ho (mapSeq_set its n j u) (r.set rv j) (by rw [List.length_set]; exact hz) s.toks
  by_cases h0 : 0 ≤ k
  · have hk : k.toNat = j := by
      rw [seqIndex_of h0 h4] at h1
      exact Option.some.inj h1
    exact PySem.W.ki_setAt ho h0 (by omega) (by rw [List.size_toArray, ← hl]; exact h4) (by rw [hk]; exact ⟨_, I', q⟩)
  · have hk : (k + (its.toArray.size : Int)).toNat = j := by
      rw [seqIndex_neg (by omega) h3] at h1
      rw [List.size_toArray, ← hl]
      exact Option.some.inj h1
    exact PySem.W.ki_setBack ho (by omega) (by rw [List.size_toArray, ← hl]; exact h3) (by omega) (by rw [hk]; exact ⟨_, I', q⟩)


def flatV : V → Bool
  | .non => true
  | .bl _ => true
  | .int _ => true
  | .str _ => true
  | _ => false
def eqV : V → V → Bool
  | .non, .non => true
  | .bl a, .bl b => a == b
  | .bl a, .int b => (if a then 1 else 0) == b
  | .int a, .bl b => a == (if b then 1 else 0)
  | .int a, .int b => a == b
  | .str a, .str b => a == b
  | _, _ => false
theorem eqAt_V {A : Around} {s : Shared} {y x : V} {u v : Value} (ry : RelV y u) (rx : RelV x v) (fy : flatV y = true) (fx : flatV x = true) : SeqAt.EqAt A s u v (eqV y x) := by
  cases y with
  | non =>
    cases ry
    cases x with
    | non => cases rx; exact SeqAt.EqAt.same _
    | bl b => cases rx; exact SeqAt.EqAt.none_bool b
    | int b => obtain ⟨t, rfl⟩ := rx; exact SeqAt.EqAt.none_int b t
    | str b => obtain ⟨t, rfl⟩ := rx; exact SeqAt.EqAt.none_str b t
    | _ => exact absurd (show false = true from fx) Bool.false_ne_true
  | bl a =>
    cases ry
    cases x with
    | non => cases rx; exact SeqAt.EqAt.bool_none a
    | bl b => cases rx; exact SeqAt.EqAt.bool_bool a b
    | int b => obtain ⟨t, rfl⟩ := rx; exact SeqAt.EqAt.bool_int a b t
    | str b => obtain ⟨t, rfl⟩ := rx; exact SeqAt.EqAt.bool_str a b t
    | _ => exact absurd (show false = true from fx) Bool.false_ne_true
  | int a =>
    obtain ⟨t', rfl⟩ := ry
    cases x with
    | non => cases rx; exact SeqAt.EqAt.int_none a t'
    | bl b => cases rx; exact SeqAt.EqAt.int_bool a t' b
    | int b => obtain ⟨t, rfl⟩ := rx; exact SeqAt.EqAt.int_int a t' b t
    | str b => obtain ⟨t, rfl⟩ := rx; exact SeqAt.EqAt.int_str a t' b t
    | _ => exact absurd (show false = true from fx) Bool.false_ne_true
  | str a =>
    obtain ⟨t', rfl⟩ := ry
    cases x with
    | non => cases rx; exact SeqAt.EqAt.str_none a t'
    | bl b => cases rx; exact SeqAt.EqAt.str_bool a t' b
    | int b => obtain ⟨t, rfl⟩ := rx; exact SeqAt.EqAt.str_int a t' b t
    | str b => obtain ⟨t, rfl⟩ := rx; exact SeqAt.EqAt.str_str a t' b t
    | _ => exact absurd (show false = true from fx) Bool.false_ne_true
  | _ => exact absurd (show false = true from fy) Bool.false_ne_true

theorem call_len_seq : CallR X (.builtin "len") (fun xs H Q => ∃ p ys, xs = [.ref p] ∧ (SqL X.K H p ys ∨ SqT X.K H p ys) ∧ Q (.int ys.length) H) := by
  intro pins s σ H xs us Q I r h
  obtain ⟨p, ys, rfl, hq, q⟩ := h
  obtain ⟨u, rfl, rx⟩ := vals1 r
  cases rx
  have hn := line63
  rcases hq with hq | hq
  · obtain ⟨its, r', pl, hz⟩ := I.list hq
    have hlen := r'.length
    exact Calls.call_len_list pl.isList (by simp only [List.size_toArray] <;> omega) ⟨.int ys.length, H, I.tok _, ⟨s.toks + 1, by rw [List.size_toArray, hlen]⟩, q⟩
  · obtain ⟨its, r', pl, hz⟩ := I.tuple hq
    have hlen := r'.length
    exact len_tuple pl (by simp only [List.size_toArray] <;> omega) ⟨.int ys.length, H, I.tok _, ⟨s.toks + 1, by rw [List.size_toArray, hlen]⟩, q⟩
theorem call_tuple_of : CallR X (.type "tuple") (fun xs H Q => ∃ p ys, xs = [.ref p] ∧ ((SqL X.K H p ys ∧ ∀ l, H l = none → Q (.ref l) (upd H l (.tup ys))) ∨ (SqT X.K H p ys ∧ Q (.ref p) H))) := by
  intro pins s σ H xs us Q I r h
  obtain ⟨p, ys, rfl, h⟩ := h
  obtain ⟨u, rfl, rx⟩ := vals1 r
  cases rx
  rcases h with ⟨hq, q⟩ | ⟨hq, q⟩
  · obtain ⟨its, r', pl, hz⟩ := I.list hq
    have hlen := r'.length
    refine call_tuple_list pl.isList (fun h' kp => ?_) (by simp only [List.size_toArray] <;> omega)
    have I1 : Inv X pins σ H { s with heap := h' } := I.kept (t' := s.toks) kp
    have I2 : Inv X pins σ (upd H h'.objs.size (.tup ys)) { s with heap := h'.push { cls := .type "tuple", data := .seq its.toArray } } :=
      I1.laid (t' := s.toks) (fun b o e => Heap.get?_push_of_some _ e) (Nat.le_refl _) (show ObjOk X.prog X.w _ _ _ (.tup ys) from ⟨hz, its, r', IsTup.new _ _⟩)
    exact ⟨.ref h'.objs.size, _, I2, rfl, q _ (I1.hok.fresh (Nat.le_refl _))⟩
  · obtain ⟨its, r', pl, hz⟩ := I.tuple hq
    exact call_tuple_same pl ⟨.ref p, H, I, rfl, q⟩

def tyV (K : PySem.W.Frag) (T : String) (x : V) (H : Hp) : Prop := match x with
  | .str _ => T = "str"
  | .int _ => T = "int"
  | .ref p => (T = "list" ∧ ∃ xs, SqL K H p xs) ∨ (T = "tuple" ∧ ∃ o, K.lookup p = some o ∧ o.cls = .type "tuple" ∧ o.dict = none) ∨
      (T = "dict" ∧ ((∃ kvs, H p = some (.dK kvs)) ∨ ∃ kvs, H p = some (.dT kvs))) ∨ (T = "set" ∧ ∃ S n, H p = some (.set S n))
  | _ => False
theorem tyV_is {pins : List (Addr × Obj)} {σ : St} {H : Hp} {s : Shared} {T : String} {x : V} {v : Value} (I : Inv X pins σ H s) (r : RelV x v) (ty : tyV X.K T x H) :
    s.TypeIs v T ∧ ∀ a, v = .ref a → ∃ ob, s.heap.get? a = some ob ∧ ob.dict = none := by
  cases x with
  | str z =>
    obtain ⟨t, rfl⟩ := r
    cases (show T = "str" from ty)
    exact ⟨typeIs_str s z t, fun _ e => nomatch e⟩
  | int i =>
    obtain ⟨t, rfl⟩ := r
    cases (show T = "int" from ty)
    exact ⟨typeIs_int s i t, fun _ e => nomatch e⟩
  | ref p =>
    cases r
    rcases ty with ⟨rfl, xs, hq⟩ | ⟨rfl, o, hk, hc, hd⟩ | ⟨rfl, hk⟩ | ⟨rfl, S, n, hk⟩
    · obtain ⟨its, _, pl, _⟩ := I.list hq
      refine ⟨pl.isList.typeIs, fun a e => ?_⟩
      cases e
      obtain ⟨o, n, e, c, hd, _⟩ := pl
      exact ⟨o, e, hd⟩
    · refine ⟨⟨o, I.kIn p o hk, hc⟩, fun a e => ?_⟩
      cases e
      exact ⟨o, I.kIn _ o hk, hd⟩
    · have z : ∃ o, s.heap.get? p = some o ∧ o.ExactDict := by
        rcases hk with ⟨kvs, hk⟩ | ⟨kvs, hk⟩
        · obtain ⟨_, _, _, _, o, _, _, e, ex, _⟩ := I.hok p _ hk
          exact ⟨o, e, ex⟩
        · obtain ⟨_, _, _, _, o, _, _, e, ex, _⟩ := I.hok p _ hk
          exact ⟨o, e, ex⟩
      obtain ⟨o, e, ex⟩ := z
      refine ⟨⟨o, e, ex.1⟩, fun a e2 => ?_⟩
      cases e2
      exact ⟨o, e, ex.2.1⟩
    · obtain ⟨o, _, _, _, e, ex, _⟩ := I.hok p _ hk
      refine ⟨⟨o, e, ex.1⟩, fun a e2 => ?_⟩
      cases e2
      exact ⟨o, e, ex.2.1⟩
  | _ => exact False.elim ty
def tBM (K : PySem.W.Frag) (T : String) (r : V → List V → Hp → VK → Prop) (to : TE) (t : TA) : TE := fun σ H Q => to σ H fun x H1 => tyV K T x H1 ∧ t σ H1 fun xs H2 => r x xs H2 Q
variable {o e : Expr} {es : List Expr} {to : TE} {t : TA} {name : Str} {apos cpos : Pos} {T id : String} {r : V → List V → Hp → VK → Prop}
theorem pe_bm (pa : PlainAttrs T) (slot : Slot T name id) (hty : typeOf (.builtin id) = pure (.type "method_descriptor")) (hm : MtR X id r) (ho : PE X o to) (ha : PA X (e :: es) t)
    (hbase : attributeBase o name X.env (eval o X.env) = eval o X.env := by rfl)
    (hfew : ((backTo cpos (starEach (e :: es) X.env)).all (fun x => !x.1) && (backToKw cpos (keywordEach [] X.env)).all (fun x => x.1.isSome)
      && decide ((e :: es).length + ([] : List Keyword).length + (if ([] : List Keyword).isEmpty then 0 else 1) < 30)) = true := by rfl)
    (hline : (apos.endLine == cpos.line) = true := by rfl) (hs : starEach (e :: es) X.env = (false, eval e X.env) :: starEach es X.env := by rfl) (hplain : (backTo cpos (starEach es X.env)).any (·.1) = false := by rfl) :
    PE X (.Call (.Attribute o name apos) (e :: es) [] cpos) (tBM X.K T r to t) := by
  intro pins s σ H Q I h
  refine wpAny_Call_method_late hbase hfew hline rfl (thn (ho pins s σ H _ I h) fun v s1 ⟨x, H1, I1, r1, ty, q1⟩ => ?_)
  obtain ⟨h1, h2⟩ := tyV_is I1 r1 ty
  refine ⟨T, id, pa, slot, hty, h1, h2, ?_⟩
  have hA := ha cpos pins s1 σ H1 _ I1 q1
  rw [hs] at hA ⊢
  refine Calls.callWith_builtin (by show (false || (backTo cpos (starEach es X.env)).any (·.1)) = false; rw [hplain] <;> rfl) (Calls.evalArgs_plain ?_)
  exact thn hA fun us s2 ⟨vs, H2, I2, r2, q2⟩ => hm pins s2 σ H2 x vs v us Q I2 r1 r2 q2
end
end L2

namespace L2
open PySem PySem.Spec PyProof.Rows

def MtM (X : Cx) (id : String) (r : V → List V → Hp → VK → Prop) : Prop :=
  ∀ (pins : List (Addr × Obj)) (s : Shared) (σ : St) (H : Hp) (x : V) (xs : List V) (v : Value) (us : List Value) (Q : VK), Inv X pins σ H s → RelV x v → Vals xs us → r x xs H Q →
    wpAny (model X.prog X.w) X.A (call (.builtin id) (v :: us)) (EP X pins σ Q) X.xe s

theorem Vals.one : ∀ {x : V} {us : List Value}, Vals [x] us → ∃ u, us = [u] ∧ RelV x u
  | _, _, .cons r .nil => ⟨_, rfl, r⟩
theorem Vals.zero : ∀ {us : List Value}, Vals [] us → us = []
  | _, .nil => rfl
theorem Vals.reverse {xs : List V} {us : List Value} (h : Vals xs us) : Vals xs.reverse us.reverse := by
  induction h with
  | nil => exact .nil
  | cons r t ih => rw [List.reverse_cons, List.reverse_cons]; exact Vals.append ih (.cons r .nil)
theorem Vals.rep {xs : List V} {us : List Value} (h : Vals xs us) : ∀ k : Nat, Vals (List.replicate k xs).flatten (List.replicate k us).flatten
  | 0 => .nil
  | k + 1 => by
    rw [List.replicate_succ, List.replicate_succ, List.flatten_cons, List.flatten_cons]
    exact Vals.append h (Vals.rep h k)
theorem foldl_rep (its : List Value) : ∀ (k : Nat) (acc : List Value),
    List.foldl (fun x1 x2 => x1 ++ x2) acc.toArray (List.replicate k its.toArray) = (acc ++ (List.replicate k its).flatten).toArray
  | 0, acc => by simp
  | k + 1, acc => by
    have e : acc.toArray ++ its.toArray = (acc ++ its).toArray := by simp
    have e2 : (acc ++ its) ++ (List.replicate k its).flatten = acc ++ (List.replicate (k + 1) its).flatten := by
      rw [List.replicate_succ, List.flatten_cons, List.append_assoc]
    rw [← e2, ← foldl_rep its k (acc ++ its), ← e, List.replicate_succ, List.foldl_cons]

section
variable {X : Cx} {pins : List (Addr × Obj)} {σ : St} {H : Hp} {s : Shared} {l b : Addr} {xs ys zs : List V}

theorem Inv.lset {its its' : List Value} {n : Nat} {f : Array Value → Array Value} {t' : Nat} (I : Inv X pins σ H s) (hH : H l = some (.lst xs))
    (e : s.heap.get? l = some { cls := .type "list", data := .seq its.toArray n }) (hf : f its.toArray = its'.toArray) (hv : Vals ys its') (hz : ys.length ≤ sizeLine) :
    Inv X pins σ (upd H l (.lst ys)) { s with heap := s.heap.update l (Obj.mapSeq f), toks := t' } := by
  have q := PySem.IsL.update e f
  rw [hf] at q
  refine I.write (x := l) (e := l) (by rw [hH]; exact trivial) (.inl rfl) (fun b' u hb hu => (Heap.get?_update_other s.heap (Obj.mapSeq f) (Ne.symm hb)).trans hu) ⟨_, q⟩ ?_
  exact ⟨hz, its', _, hv, q⟩
theorem Inv.lnew {its : List Value} {t' : Nat} (I : Inv X pins σ H s) (hv : Vals ys its) (hz : ys.length ≤ sizeLine) :
    Inv X pins σ (upd H s.heap.objs.size (.lst ys)) { s with heap := s.heap.push { cls := .type "list", data := .seq its.toArray }, toks := t' } :=
  I.laid (fun _ _ q => Heap.get?_push_of_some _ q) (Nat.le_refl _) ⟨hz, its, 0, hv, Heap.get?_push_size _ rfl⟩
theorem Inv.fresh (I : Inv X pins σ H s) : H s.heap.objs.size = none := I.hok.fresh (Nat.le_refl _)
theorem Inv.lstM (I : Inv X pins σ H s) (hH : H l = some (.lst xs)) : xs.length ≤ sizeLine ∧ ∃ (its : List Value) (n : Nat), Vals xs its ∧ xs.length = its.length ∧ s.heap.get? l = some { cls := .type "list", data := .seq its.toArray n } := by
  obtain ⟨z, its, n, r, e⟩ := I.hok l _ hH
  exact ⟨z, its, n, r, r.length, e⟩

theorem notLongL {n : Nat} (h : n ≤ sizeLine) : Builtin.List.listTooLong n = false := by
  unfold Builtin.List.listTooLong
  exact decide_eq_false (by omega)
end

section
variable {X : Cx}

def rAppend : V → List V → Hp → VK → Prop := fun x vs H Q => ∃ l xs y, x = .ref l ∧ vs = [y] ∧ H l = some (.lst xs) ∧ xs.length < sizeLine ∧ Q .non (upd H l (.lst (xs ++ [y])))
theorem mt_append : MtM X "list.append" rAppend := by
  intro pins s σ H x vs v us Q I rx rv h
  obtain ⟨l, xs, y, rfl, rfl, hH, hz, q⟩ := h
  cases rx
  obtain ⟨u, rfl, ru⟩ := rv.one
  obtain ⟨z, its, n, r, hl, e⟩ := I.lstM hH
  refine call_meets F.slot_list_append ⟨_, e, rfl⟩ F.entry_list_append (F.args_list_append_2 _ _) (PySem.list_append l its.toArray n u (by rw [List.size_toArray]; omega)) ⟨e, ?_⟩
  refine ⟨.non, _, I.lset (its' := its ++ [u]) hH e (by simp) (r.append (.cons ru .nil)) ?_, rfl, q⟩
  rw [List.length_append, List.length_singleton]
  omega

def rExtend : V → List V → Hp → VK → Prop := fun x vs H Q => ∃ l b xs zs, x = .ref l ∧ vs = [.ref b] ∧ H l = some (.lst xs) ∧ H b = some (.lst zs) ∧ xs.length + zs.length ≤ sizeLine ∧ Q .non (upd H l (.lst (xs ++ zs)))
theorem mt_extend : MtM X "list.extend" rExtend := by
  intro pins s σ H x vs v us Q I rx rv h
  obtain ⟨l, b, xs, zs, rfl, rfl, hH, hB, hz, q⟩ := h
  cases rx
  obtain ⟨u, rfl, ru⟩ := rv.one
  cases ru
  obtain ⟨z, its, n, r, hl, e⟩ := I.lstM hH
  obtain ⟨z2, its2, n2, r2, hl2, e2⟩ := I.lstM hB
  have hsz : its.toArray.size + its2.toArray.size ≤ sizeLine := by rw [List.size_toArray, List.size_toArray]; omega
  have hlong : ¬ (!its.toArray.isEmpty && Builtin.List.listTooLong (its.toArray.size + its2.toArray.size)) = true := by
    rw [notLongL hsz, Bool.and_false]
    exact Bool.false_ne_true
  refine call_meets F.slot_list_extend ⟨_, e, rfl⟩ F.entry_list_extend (F.args_list_extend_2 _ _)
    (AutoSeq1.list_extend_list_list_0 l its.toArray n b its2.toArray n2 hlong (by rw [List.size_toArray]; omega) (by omega)) ⟨e, e2, ?_⟩
  refine ⟨.non, _, I.lset (its' := its ++ its2) hH e (by simp) (r.append r2) ?_, rfl, q⟩
  rw [List.length_append]
  omega





def rCat : R2 := fun x y H Q => ∃ l b xs zs, x = .ref l ∧ y = .ref b ∧ H l = some (.lst xs) ∧ H b = some (.lst zs) ∧ xs.length + zs.length ≤ sizeLine ∧ ∀ p, H p = none → Q (.ref p) (upd H p (.lst (xs ++ zs)))
theorem op_cat : OpR X (binaryOp .Add) rCat := by
  intro pins s σ H x y v u Q I rx ry h
  obtain ⟨l, b, xs, zs, rfl, rfl, hH, hB, hz, q⟩ := h
  cases rx
  cases ry
  obtain ⟨z, its, n, r, hl, e⟩ := I.lstM hH
  obtain ⟨z2, its2, n2, r2, hl2, e2⟩ := I.lstM hB
  refine PySem.P.add_list e e2 ?_ (by rw [List.size_toArray, List.size_toArray]; omega)
  have ea : its.toArray ++ its2.toArray = (its ++ its2).toArray := by simp
  rw [ea]
  exact ⟨.ref _, _, I.lnew (t' := s.toks) (r.append r2) (by rw [List.length_append]; omega), rfl, q _ I.fresh⟩
def rRep : R2 := fun x y H Q => ∃ l k xs, x = .ref l ∧ y = .int k ∧ H l = some (.lst xs) ∧ -(2 ^ 63) ≤ k ∧ k < 2 ^ 63 ∧ xs.length * k.toNat ≤ sizeLine ∧
  ∀ p, H p = none → Q (.ref p) (upd H p (.lst (List.replicate k.toNat xs).flatten))
theorem len_rep {α : Type} (xs : List α) (k : Nat) : (List.replicate k xs).flatten.length = k * xs.length := by
  induction k with
  | zero => simp
  | succ k ih => rw [List.replicate_succ, List.flatten_cons, List.length_append, ih, Nat.succ_mul, Nat.add_comm]
theorem op_rep : OpR X (binaryOp .Mult) rRep := by
  intro pins s σ H x y v u Q I rx ry h
  obtain ⟨l, k, xs, rfl, rfl, hH, h1, h2, hz, q⟩ := h
  cases rx
  obtain ⟨t, rfl⟩ := ry
  obtain ⟨z, its, n, r, hl, e⟩ := I.lstM hH
  have hlen : its.toArray.size * k.toNat ≤ sizeLine := by rw [List.size_toArray, ← hl]; exact hz
  have hcap : ¬ its.toArray.size * k.toNat > (2 ^ 63 - 1) / 8 := by
    have : (sizeLine : Nat) ≤ (2 ^ 63 - 1) / 8 := by decide
    omega
  have hfit : ¬ (!Builtin.List.listFitsIndex k) = true := by
    rw [fitsIndex_both h1 h2]
    exact Bool.false_ne_true
  have hlong : ¬ Builtin.List.listTooLong (its.toArray.size * k.toNat) = true := by
    rw [notLongL hlen]
    exact Bool.false_ne_true
  have hnew : List.foldl (fun x1 x2 => x1 ++ x2) #[] (List.replicate (if its.toArray.isEmpty = true then 0 else k.toNat) its.toArray) = (List.replicate k.toNat its).flatten.toArray := by
    have f0 : ∀ m : Nat, List.foldl (fun x1 x2 => x1 ++ x2) #[] (List.replicate m its.toArray) = (List.replicate m its).flatten.toArray := fun m => by
      have := foldl_rep its m []
      rw [List.nil_append] at this
      exact this
    rw [f0]
    cases its with
    | nil => simp
    | cons a r' => rw [if_neg (by simp)]
  refine wpAny_binaryOp_repeat_ref (T := "list") (U := "int") (by decide) ⟨_, e, rfl⟩ (fun s' => typeIs_int s' k t) noFill_list_mul F.fills_int_mul F.slot_int_rmul repeat_list F.slot_int_index.lookup
    (call_meets F.slot_int_rmul (typeIs_int s k t) F.entry_int_rmul (F.args_int_rmul_2 _ _) (int___rmul___int_list k t l its.toArray n)
      ⟨e, rfl, ⟨_, e, rfl⟩, call_meets F.slot_list_mul ⟨_, e, rfl⟩ F.entry_list_mul (F.args_list_mul_2 _ _) (AutoListH.list___mul___list_int_3 l its.toArray n k t hfit hcap hlong) ⟨e, ?_⟩⟩)
  rw [hnew]
  exact ⟨.ref _, _, I.lnew (t' := s.toks) (r.rep k.toNat) (by rw [len_rep, Nat.mul_comm]; exact hz), rfl, q _ I.fresh⟩

end

section
variable {prog : Program} {w : World} {A : Around} {E : Value → Shared → Prop} {s : Shared}
end

section
variable {X : Cx}
end
end L2

namespace Att
open PySem PySem.W PySem.Calls PyProof.Rows

theorem ints_of_wellAll {P : Params} {h : Heap} : ∀ (ns : List Int) (vs : List Value), WellAll P h vs (ns.map WData.int) → IntsAre vs ns := by
  intro ns
  induction ns with
  | nil =>
    intro vs w
    rw [List.map_nil] at w
    cases w
    exact .nil
  | cons n ns ih =>
    intro vs w
    rw [List.map_cons] at w
    cases w with
    | cons a b =>
      cases a
      exact .cons _ _ (ih _ b)

theorem script_of {l : OpenLaw} {n : Nat} (hn : l.most = some n) {P : Params} {h : Heap} {args : List WData} {vals : List Value}
    (hpre : l.row.toRowW.claim.pre args = true) (hwl : WellAll P h vals args) :
    ∃ a vs ns, vals = [Value.ref a] ∧ args = [WData.list (ns.map WData.int)] ∧ h.get? a = some { cls := .type "list", data := .seq vs.toArray } ∧ IntsAre vs ns ∧ ns.length ≤ n := by
  have hsh : WShape.hasAll [] args [.list .int] = true := (pre_splitW hpre).1
  have hc : l.pre.holds [] { args := args } = true := (pre_splitW hpre).2
  obtain ⟨d, r, rfl, h1, h2⟩ := hasAllW_cons hsh
  obtain rfl := hasAllW_nil h2
  obtain ⟨xs, rfl, h3⟩ := hasW_list h1
  obtain ⟨ns, rfl⟩ := items_int h3
  have hlen : ns.length ≤ n := by
    unfold OpenLaw.pre at hc
    have h4 : (WTm.not (.lt (.lit (.int (n : Int))) (.len (.arg 0)))).holds [] { args := [.list (ns.map .int)] } = true := by
      have h4 := (holds_andW hc).1
      rw [hn] at h4
      exact h4
    have h5 := condW_of h4 (w_not (w_lt w_lit (w_len_list (w_arg rfl))))
    rw [List.length_map] at h5
    refine Nat.le_of_not_lt fun q => ?_
    have q' : (n : Int) < ((ns.length : Nat) : Int) := by omega
    first
      | (rw [decide_eq_true q'] at h5; exact absurd h5 (by decide))
      | (simp at h5; omega)
  cases hwl with
  | cons w1 w2 =>
    cases w2
    cases w1 with
    | list ho hall => exact ⟨_, _, ns, rfl, rfl, ho, ints_of_wellAll ns _ hall, hlen⟩

theorem post_true (l : OpenLaw) (args : List WData) : l.row.toRowW.claim.post args (.bool true) args = true :=
  postW_of (r := l.row.toRowW) (X := (true == true))
    (show WShape.has [] (.bool true) .bool = true by first | rfl | decide | simp [WShape.has, WShape.arms, WShape.armsAll])
    (show (WTm.eq .res (.lit (.bool true))).value [] { args := args, res := some (.bool true), after := args } = some (.bool (true == true)) from w_eq_bool (w_res rfl) w_lit) rfl


theorem attach_call {l : OpenLaw} {n : Nat} {q : Program} {loose : List Str} {XP : (Str → Option Value) → Heap → Prop} {YP : World → Heap → Prop} {d : DefRec}
    (hn : l.most = some n) (hdf : d.params.defaults = [])
    (call : ∀ (w : World) (s₀ s₁ : Shared) (mg mb : Str → Option Value) (fa : Addr) (o : Obj) (pm cd doc : Value) (a : Addr) (vs : List Value) (ns : List Int),
      Ground q loose [] XP w s₀ mg mb s₁.heap → YP w s₁.heap →
      s₁.heap.get? fa = some o → o.data = .func (docDef d.name d.params d.body d.scope pm cd doc) → s₁.heap.CodeRec cd d.name → mg d.name = some (.ref fa) →
      s₁.heap.get? a = some { cls := .type "list", data := .seq vs.toArray } → IntsAre vs ns → ns.length ≤ n → s₁.gens = #[] →
      codeAny (model l.prog w) callerA (.call (.ref fa) ⟨[.ref a], []⟩) (fun r s' => r = .ok (.ret (.bool true)) ∧ OldK s₁.heap s'.heap ∧ s'.os = s₁.os ∧ AllBare s'.gens) s₁) :
    WalkO q loose XP YP l.row.toRowW d [] (fun f vs => PySem.call f vs) := by
  intro w s₀ s₁ mg mb G Y fa o pm cd doc dV kV ho hd hcd hD hmg hg args vals as hpre hlay hrd hwl hlo
  obtain rfl : dV = .none := Dflts.none hD hdf
  obtain rfl : kV = .none := Dflts.noKw hD
  obtain ⟨a, vs, ns, rfl, rfl, hobj, hints, hlen⟩ := script_of hn hpre hwl
  refine enter_call (codeAny_mono (call w s₀ s₁ mg mb fa o pm cd doc a vs ns G Y ho (fd_plain hd) hcd hmg hobj hints hlen hg) fun r s' hq => ?_)
  obtain ⟨rfl, h2, h3, h4⟩ := hq
  exact ⟨.inl ⟨.bool true, .bool true, [], rfl, fun _ => rfl, .bool true, post_true l _, fun _ => ⟨List.Pairwise.nil, fun _ hm => (nomatch hm)⟩⟩, h2, h3, h4⟩


section
variable {prog : Program} {w : World} {A : Around} {E : Value → Shared → Prop} {s : Shared} {K : Frag}






end
end Att

namespace L2
open PySem PySem.Spec PyProof.Rows

theorem vals_ints : ∀ {vs : List Value} {ns : List Int}, IntsAre vs ns → Vals (ns.map V.int) vs
  | _, _, .nil => .nil
  | _, _, .cons n t h => .cons ⟨t, rfl⟩ (vals_ints h)

def Only (H : Hp) : Prop := ∀ b, H b = none ∨ ∃ o xs, H b = some (.frz o (.lst xs))

theorem law_call {P : Program} {w : World} {K : PySem.W.Frag} {mg mb : Str → Option Value} {CX : CXT} {k : Nat} {fa a : Addr} {fd : FuncData} {x : Str} {sp : Sp} {s₁ : Shared} {vs : List Value} {ns : List Int}
    (KX : K.In s₁.heap) (hns : s₁.heap.Ns mainGlobals mg) (hb : s₁.heap.Ns builtinsNs mb) (hbb : ∀ x : Str, x ≠ "__name__" → mb x = bootBuiltins x) (hlim : s₁.heap.NoLimit) (hg : s₁.gens = #[])
    (ha : s₁.heap.get? a = some { cls := .type "list", data := .seq vs.toArray }) (hi : IntsAre vs ns) (hl : ns.length ≤ sizeLine) (hr : Room k callerA)
    (F : ∀ base : Heap, K.In base → base.Ns mainGlobals mg → FnOk P w K mg base CX k fa fd [x] sp) (hbind : ∀ (s : Shared) (u : Value), BindsTo s fd ⟨[u], []⟩ [(x, u)])
    (hsp : ∀ H : Hp, Only H → SqL K H a (ns.map V.int) → sp [.ref a] H (fun v _ => v = .bl true) fun _ _ _ => False)
    (hCX : ∀ H e s', CX [] H s₁ (fun _ _ _ => False) e s' → False) :
    codeAny (model P w) callerA (.call (.ref fa) ⟨[.ref a], []⟩) (fun r s' => r = .ok (.ret (.bool true)) ∧ OldK s₁.heap s'.heap ∧ s'.os = s₁.os ∧ AllBare s'.gens) s₁ := by
  have rv := vals_ints hi
  have lenV := hi.length
  -- from an abstract heap in which nothing but the script may be tracked
  have core : ∀ H : Hp, Only H → SqL K H a (ns.map V.int) → HOk P w H s₁.heap → (∀ b, H b ≠ none → b = a) → (H a ≠ none → K.lookup a = none) →
      codeAny (model P w) callerA (.call (.ref fa) ⟨[.ref a], []⟩) (fun r s' => r = .ok (.ret (.bool true)) ∧ OldK s₁.heap s'.heap ∧ s'.os = s₁.os ∧ AllBare s'.gens) s₁ := by
    intro H hO hS hok hA hK
    have base_of : ∀ {b : Addr} {o : Obj}, s₁.heap.get? b = some o → H b = none → (hidT s₁.heap H).get? b = some o := fun e n => hidT_get e n
    have noA : ∀ {b : Addr} {o : Obj} {es : Array DictEntry} {ep : Nat}, s₁.heap.get? b = some o → o.data = .dict es ep → H b = none := fun {b o es ep} e d => by
      cases q : H b with
      | none => rfl
      | some u =>
        have e' : b = a := hA b (by rw [q]; simp)
        subst e'
        rw [ha] at e; cases e
        have d' : Data.seq vs.toArray _ = Data.dict es ep := d
        cases d'
    have nsK : ∀ {b : Addr} {m : Str → Option Value}, s₁.heap.Ns b m → (hidT s₁.heap H).Ns b m := fun {b m} ⟨o, es, ep, e, d, r⟩ => ⟨o, es, ep, base_of e (noA e d), d, r⟩
    have hKb : K.In (hidT s₁.heap H) := fun b o e => base_of (KX b o e) (by
      cases q : H b with
      | none => rfl
      | some u =>
        have e' : b = a := hA b (by rw [q]; simp)
        subst e'
        rw [hK (by rw [q]; simp)] at e; cases e)
    have hM : Mod K mg (hidT s₁.heap H) := ⟨hKb, nsK hns, ⟨mb, nsK hb, hbb⟩, let ⟨mc, h1, h2⟩ := hlim; ⟨mc, nsK h1, h2⟩⟩
    have e0 : Env0 P w K mg (hidT s₁.heap H) callerA [] s₁ H := ⟨rfl, hM, fun b o e => of_hidT e, Nat.le_of_eq (hidT_size _ _), trivial, fun b hb => absurd (show b ∈ ([] : List Addr) from hb) (by simp), hok, .of_eq hg⟩
    refine codeAny_mono ((F _ hKb (nsK hns)).run callerA [] s₁ H ⟨[.ref a], []⟩ [.ref a] [.ref a] _ _ hr e0 (hbind s₁ (.ref a)) (.cons rfl .nil) (hsp H hO hS)) fun r s' h => ?_
    cases r with
    | error e => exact (hCX H e s' h).elim
    | ok fl =>
      cases fl with
      | next => exact False.elim h
      | brk => exact False.elim h
      | cont => exact False.elim h
      | ret u =>
        obtain ⟨v, H', os, bare, un, hok', r', q⟩ := h
        have q' : v = .bl true := q
        subst q'
        obtain rfl : u = Value.bool true := r'
        refine ⟨rfl, OldK.of_keep fun b o e => ?_, os, bare⟩
        cases q : H b with
        | none => exact un.keep b o e q (by intro z; exact absurd (show b ∈ ([] : List Addr) from z) (by simp)) (by simp)
        | some u =>
          rcases hO b with z | ⟨ob, xs, z⟩
          · rw [q] at z; cases z
          · have z2 := un.frzs b ob _ z
            obtain ⟨e1, _⟩ := hok b _ z
            obtain ⟨e2, _⟩ := hok' b _ z2
            rw [e] at e1; cases e1
            exact e2
  cases hk : K.lookup a with
  | some o =>
    -- the script is one of the module's own objects
    have e := KX a o hk
    rw [ha] at e
    cases e
    refine core (fun _ => none) (fun _ => .inl rfl) (.inr ⟨_, vs.toArray, _, hk, rfl, rfl, rfl, by rw [List.size_toArray, lenV]; exact hl, by simpa using rv⟩) (fun b u z => by have z' : (none : Option HO) = some u := z; cases z') (fun b z => absurd rfl z) fun z => absurd rfl z
  | none =>
    refine core (fun b => if b = a then some (.frz { cls := .type "list", data := .seq vs.toArray } (.lst (ns.map V.int))) else none) (fun b => ?_) (.inl (.inr ⟨{ cls := .type "list", data := .seq vs.toArray }, if_pos rfl⟩)) (fun b u z => ?_) (fun b z => ?_) fun _ => hk
    · by_cases hb : b = a
      · exact .inr ⟨_, _, if_pos hb⟩
      · exact .inl (if_neg hb)
    · by_cases hb : b = a
      · have z' := (if_pos hb).symm.trans z
        cases z'
        subst hb
        exact ⟨ha, by rw [List.length_map]; exact hl, vs, _, rv, ha⟩
      · have z' := (if_neg hb).symm.trans z
        cases z'
    · by_cases hb : b = a
      · exact hb
      · exact absurd (if_neg hb) z
end L2

namespace L2
open PySem PySem.Spec PyProof.Rows


theorem walk_of {l : PySem.W.OpenLaw} {n k : Nat} {q : Program} {loose : List Str} {XP : (Str → Option Value) → Heap → Prop} {YP : World → Heap → Prop} {d : DefRec} {K : Params → PySem.W.Frag} {CX : World → CXT} {sp : World → Sp} {x : Str}
    (hn : l.most = some n) (hn2 : n ≤ sizeLine) (hdf : d.params.defaults = []) (hr : Room k callerA)
    (hY : ∀ (w : World) (h : Heap), YP w h → (K w.params).In h)
    (F : ∀ (w : World) (mg : Str → Option Value) (fa : Addr) (h : Heap), (K w.params).In h → h.Ns mainGlobals mg → mg d.name = some (.ref fa) →
      ∃ fd : FuncData, (∀ (s : Shared) (u : Value), BindsTo s fd ⟨[u], []⟩ [(x, u)]) ∧
        ∀ base : Heap, (K w.params).In base → base.Ns mainGlobals mg → FnOk l.prog w (K w.params) mg base (CX w) k fa fd [x] (sp w))
    (hsp : ∀ (w : World) (H : Hp) (a : Addr) (ns : List Int), ns.length ≤ n → Only H → SqL (K w.params) H a (ns.map V.int) → sp w [.ref a] H (fun v _ => v = .bl true) fun _ _ _ => False)
    (hCX : ∀ (w : World) (H : Hp) (s : Shared) (e : Value) (s' : Shared), CX w [] H s (fun _ _ _ => False) e s' → False) :
    PySem.W.WalkO q loose XP YP l.row.toRowW d [] (fun f vs => PySem.call f vs) := by
  refine Att.attach_call hn hdf fun w s₀ s₁ mg mb fa o pm cd doc a vs ns G Y ho hd hcd hmg hobj hints hlen hg => ?_
  have KX := hY w _ Y
  obtain ⟨fd, hb, hF⟩ := F w mg fa _ KX G.T.g hmg
  exact law_call KX G.T.g G.T.b G.T.builtins G.T.nolimit hg hobj hints (Nat.le_trans hlen hn2) hr hF hb (fun H hO hS => hsp w H a ns hlen hO hS) fun H e s' => hCX w H s₁ e s'
end L2


namespace L2
open PySem PySem.Spec PyProof.Rows

def defArgs (s : Stmt) : Arguments := match s with
  | .FunctionDef _ a _ _ _ _ _ _ _ _ => a
  | _ => { posonlyargs := [], args := [], vararg := none, kwonlyargs := [], kw_defaults := [], kwarg := none, defaults := [] }
def defBody (s : Stmt) : List Stmt := match s with
  | .FunctionDef _ _ b _ _ _ _ _ _ _ => b
  | _ => []
def defScope (s : Stmt) : Scope := match s with
  | .FunctionDef _ _ _ _ _ _ sc _ _ _ => sc
  | _ => { kind := .function, names := [], isGenerator := false, isCoroutine := false }

abbrev CX0 : CXT := fun _ _ _ _ _ _ => False
abbrev E0 : XK := fun _ _ _ => False
theorem pass0 {X : Cx} : Passes CX0 X E0 := fun _ _ _ _ _ _ _ h => h.elim

structure Fun (K : PySem.W.Frag) (x qual : Str) (st : Stmt) (f : Addr) (fd : FuncData) : Prop where
  ex : ∃ (oc : Value) (od : Option Addr) (kV doc pm : Value) (an : Option Addr) (cdv ct : Value) (osl : Array (Option Value)),
    fd = PySem.W.fnOf x qual (defArgs st) (defBody st) (defScope st) .none kV doc pm an cdv ct ∧ K.lookup f = some ⟨oc, od, .func fd, osl⟩ ∧ PySem.W.codeIn K cdv qual = true
  kp : PySem.W.keepIn K (.ref f) = true
section
variable {P : Program} {w : World} {K : PySem.W.Frag} {mg : Str → Option Value} {base : Heap}
theorem Fun.ok {x qual : Str} {st : Stmt} {f : Addr} {fd : FuncData} {N ps : List Str} {k : Nat} {sp : Sp} (F : Fun K x qual st f fd) (S : FnScope N ps (defScope st)) (len : ∀ vs H Q E, sp vs H Q E → vs.length = ps.length)
    (hbody : ∀ (cdv : Value) (A : Around) (outer : List Env) (s : Shared) (H : Hp) (vs : List V) (Q : VK) (E : XK), Room k (A.deeper (envOfC qual (defScope st) s.heap.objs.size f cdv)) → sp vs H Q E →
      ∃ t, PSs (cxOf CX0 P w K mg base N qual (defScope st) f cdv A outer s H E).nox (defBody st) t ∧ t { nx := fun _ H' => Q .non H', rt := Q } (start N vs) H) : FnOk P w K mg base CX0 (k + 1) f fd ps sp := by
  obtain ⟨oc, od, kV, doc, pm, an, cdv, ct, osl, rfl, lk, hcd⟩ := F.ex
  refine fn_of lk hcd S len fun A outer s H vs Q E hr hsp => ?_
  obtain ⟨t, h, q⟩ := hbody cdv A outer s H vs Q E hr hsp
  exact ⟨t, h.nox, q⟩
theorem Fun.binds {x qual : Str} {st : Stmt} {f : Addr} {fd : FuncData} {ps : List Str} (F : Fun K x qual st f fd)
    (h : ∀ (kV doc pm : Value) (an : Option Addr) (cdv ct : Value) (us : List Value), us.length = ps.length → bindArgs (PySem.W.fnOf x qual (defArgs st) (defBody st) (defScope st) .none kV doc pm an cdv ct) ⟨us, []⟩ = pure (ps.zip us)) : Binds K fd ps [] := by
  obtain ⟨oc, od, kV, doc, pm, an, cdv, ct, osl, rfl, lk, hcd⟩ := F.ex
  exact .all (h kV doc pm an cdv ct)
theorem fun_mk {x qual : Str} {st : Stmt} {f : Addr} {oc : Value} {od an : Option Addr} {osl : Array (Option Value)} {kV doc pm cdv ct : Value} (l : K.lookup f = some ⟨oc, od, .func (PySem.W.fnOf x qual (defArgs st) (defBody st) (defScope st) .none kV doc pm an cdv ct), osl⟩)
    (c : PySem.W.codeIn K cdv qual = true) (k : PySem.W.keepIn K (.ref f) = true) : Fun K x qual st f (PySem.W.fnOf x qual (defArgs st) (defBody st) (defScope st) .none kV doc pm an cdv ct) := ⟨⟨oc, od, kV, doc, pm, an, cdv, ct, osl, rfl, l, c⟩, k⟩
end
theorem small1000 {n : Nat} (h : n ≤ 1000) : n < sizeLine := Nat.lt_of_le_of_lt h (by decide)

section
variable {X : Cx}
theorem pv (i : Nat) {x : Str} {pos : Pos} (hN : X.N[i]? = some x := by rfl) (hv : Vis X.env.scope x := by first | exact Or.inl rfl | exact Or.inr (Or.inl rfl) | exact Or.inr (Or.inr rfl)) (hd : (x == ("__debug__" : Str)) = false := by decide)
    (hcd : (x == ("__classdict__" : Str)) = false := by decide) : PE X (.Name x pos) (tVar i) := pe_var hN hv hd hcd
end

theorem iteF {A B : Prop} (h : B) : if false = true then A else B := by
  rw [if_neg Bool.false_ne_true]
  exact h
theorem iteT {A B : Prop} (h : A) : if true = true then A else B := by
  rw [if_pos rfl]
  exact h
theorem ite2 {c A B : Prop} [Decidable c] (h1 : c → A) (h2 : ¬ c → B) : if c then A else B := by
  by_cases h : c
  · rw [if_pos h]
    exact h1 h
  · rw [if_neg h]
    exact h2 h

def Same (H H' : Hp) : Prop := ∀ b o, H b = some o → H' b = some o
theorem Same.refl (H : Hp) : Same H H := fun _ _ h => h
theorem Same.trans {H H1 H2 : Hp} (a : Same H H1) (b : Same H1 H2) : Same H H2 := fun c o h => b c o (a c o h)
theorem Same.free {H H' : Hp} (e : Same H H') {l : Addr} (h : H' l = Option.none) : H l = Option.none := by
  cases q : H l with
  | none => rfl
  | some o =>
    rw [e l o q] at h
    cases h
theorem Same.seq {K : PySem.W.Frag} {H H' : Hp} {a : Addr} {xs : List V} (e : Same H H') (h : SqL K H a xs) : SqL K H' a xs := by
  rcases h with (h | ⟨o, h⟩) | h
  · exact .inl (.inl (e _ _ h))
  · exact .inl (.inr ⟨o, e _ _ h⟩)
  · exact .inr h

end L2

namespace L3
open PySem PySem.Spec PyProof.Rows L2

theorem b_len : bootBuiltins "len" = some (.builtin "len") := by decide +kernel
theorem b_max : bootBuiltins "max" = some (.builtin "max") := by decide +kernel
theorem b_min : bootBuiltins "min" = some (.builtin "min") := by decide +kernel
theorem b_repr : bootBuiltins "repr" = some (.builtin "repr") := by decide +kernel
theorem b_isinstance : bootBuiltins "isinstance" = some (.builtin "isinstance") := by decide +kernel
theorem b_all : bootBuiltins "all" = some (.builtin "all") := by decide +kernel
theorem b_any : bootBuiltins "any" = some (.builtin "any") := by decide +kernel
theorem b_int : bootBuiltins "int" = some (.type "int") := by decide +kernel
theorem b_bool : bootBuiltins "bool" = some (.type "bool") := by decide +kernel
theorem b_str : bootBuiltins "str" = some (.type "str") := by decide +kernel
theorem b_tuple : bootBuiltins "tuple" = some (.type "tuple") := by decide +kernel
theorem b_list : bootBuiltins "list" = some (.type "list") := by decide +kernel

def TyV (K : PySem.W.Frag) (H : Hp) (x : V) (T : String) : Prop := match x with
  | .non => T = "NoneType"
  | .bl _ => T = "bool"
  | .int _ => T = "int"
  | .str _ => T = "str"
  | .ref a => (T = "tuple" ∧ ∃ xs, SqT K H a xs) ∨ (T = "list" ∧ ∃ xs, SqL K H a xs) ∨ (T = "dict" ∧ ∃ kvs, H a = some (.dK kvs))
  | _ => False
section
variable {X : Cx} {a b c : Expr} {ta tb tc : TE} {pos : Pos}
def rIsi (K : PySem.W.Frag) : List V → Hp → VK → Prop := fun xs H Q => ∃ x T t k, xs = [x, .ty T] ∧ TyV K H x t ∧ PySem.W.kitOne K (.type t) (.type T) = some k ∧ Q (.bl k) H
theorem call_isi : CallR X (.builtin "isinstance") (rIsi X.K) := by
  intro pins s σ H xs us Q I r h
  obtain ⟨x, T, t, k, rfl, ty, e, q⟩ := h
  obtain ⟨u, w', rfl, rx, rt⟩ := vals2 r
  cases (show w' = Value.type T from rt)
  have fin : ∀ tk, EP X pins σ Q (.bool k) { s with toks := tk } := fun tk => ⟨.bl k, H, I.tok _, rfl, q⟩
  cases x with
  | non => cases (show t = "NoneType" from ty); exact isinst_ok I rx .non e fin
  | bl y => cases (show t = "bool" from ty); exact isinst_ok I rx (.bl y) e fin
  | int i => cases (show t = "int" from ty); exact isinst_ok I rx (.int i) e fin
  | str y => cases (show t = "str" from ty); exact isinst_ok I rx (.str y) e fin
  | byt y => exact ty.elim
  | flt y => exact ty.elim
  | ty y => exact ty.elim
  | ref a =>
    cases (show u = Value.ref a from rx)
    rcases ty with ⟨rfl, xs, hq⟩ | ⟨rfl, xs, hq⟩ | ⟨rfl, kvs, hq⟩
    · obtain ⟨its, _, ⟨o, h1, h2, _⟩, _⟩ := I.tuple hq
      exact PySem.W.kia_one PySem.W.kitx_tuple I.kIn ⟨o, h1, h2⟩ e (fun z => nomatch z) fin
    · obtain ⟨its, _, pl, _⟩ := I.list hq
      obtain ⟨o, h1, h2, _⟩ := pl.isList
      exact PySem.W.kia_one PySem.W.kitx_list I.kIn ⟨o, h1, h2⟩ e (fun z => nomatch z) fin
    · exact isinst_ok (x := V.ref a) I (show RelV (.ref a) (.ref a) from rfl) (.dK hq) e fin

theorem pe_tyn {x : Str} {T : String} {pos : Pos} (hg : Gl X x) (hm : X.mg x = none) (hv : bootBuiltins x = some (.type T)) (hn : x ≠ "__name__" := by decide) (hd : (x == ("__debug__" : Str)) = false := by decide) : PE X (.Name x pos) (tC (.ty T)) :=
  pe_bltn hg hm hv (show RelV (.ty T) (Value.type T) from rfl) hn hd
theorem op_mulG : OpR X (binaryOp .Mult) (rI IntMulOk fun i j => .int (i * j)) := opI fun _ _ _ _ _ _ _ hc q => mul_int q hc
def CDivL (i j : Int) : Prop := 0 < j ∧ j < 2 ^ 200
theorem CDivL.py {i j : Int} (h : CDivL i j) : Builtin.divisionGoesByPylong i j = false := by
  refine PyProof.noPylong_of_log2 ?_
  obtain ⟨h1, h2⟩ := h
  have h0 : j.natAbs ≠ 0 := by omega
  have h3 : j.natAbs < 2 ^ 200 := by
    have : (j.natAbs : Int) = j := by omega
    have h4 : ((j.natAbs : Nat) : Int) < ((2 ^ 200 : Nat) : Int) := by rw [this]; exact h2
    exact Int.ofNat_lt.mp h4
  exact Nat.lt_of_lt_of_le ((Nat.log2_lt h0).mpr h3) (by decide)
theorem op_fdivL : OpR X (binaryOp .FloorDiv) (rI CDivL fun i j => .int (i / j)) := opI fun i j _ _ _ _ _ hc q => by
  have := hc.1
  refine floordiv_int (by omega) ?_ (.inl hc.py)
  rw [Int.fdiv_eq_ediv_of_nonneg i (by omega)]
  exact q
end

def Callee (P : Program) (w : World) (K : PySem.W.Frag) (mg : Str → Option Value) (base : Heap) (k : Nat) (x : Str) (ps : List Str) (sp : Sp) : Prop :=
  ∃ (f : Addr) (fd : FuncData), FnOk P w K mg base CX0 k f fd ps sp ∧ Binds K fd ps [] ∧ PySem.W.keepIn K (.ref f) = true ∧ mg x = some (.ref f)
theorem Callee.mono {P : Program} {w : World} {K : PySem.W.Frag} {mg : Str → Option Value} {base : Heap} {j k : Nat} {x : Str} {ps : List Str} {sp : Sp} (C : Callee P w K mg base j x ps sp) (h : j ≤ k) : Callee P w K mg base k x ps sp := by
  obtain ⟨f, fd, F, b, kp, m⟩ := C
  exact ⟨f, fd, F.mono h, b, kp, m⟩
section
variable {X : Cx} {k : Nat} {ps : List Str} {sp : Sp} {x : Str} {p pos : Pos} {e : Expr} {es : List Expr} {t : TA}
theorem pe_callC (C : Callee X.prog X.w X.K X.mg X.base k x ps sp) (hr : Room k X.A) (hg : Gl X x)
    (ha : PA X (e :: es) t) (hdb : (x == ("__debug__" : Str)) = false := by decide) (he : starEach (e :: es) X.env = (false, eval e X.env) :: starEach es X.env := by rfl) (hpl : (backTo pos (starEach es X.env)).any (·.1) = false := by rfl) :
    PE X (.Call (.Name x p) (e :: es) [] pos) (tCall sp [] E0 t) := by
  obtain ⟨f, fd, F, b, kp, m⟩ := C
  exact pe_call F hr hg m kp b .nil pass0 ha hdb he hpl
end

structure Grow (m : List Addr) (H H' : Hp) : Prop where
  keep : ∀ b o, b ∉ m → H b = some o → H' b = some o
  tup : ∀ b xs, H b = some (.tup xs) → H' b = some (.tup xs)
  frz : ∀ b o u, H b = some (.frz o u) → H' b = some (.frz o u)
theorem Grow.refl (m : List Addr) (H : Hp) : Grow m H H := ⟨fun _ _ _ h => h, fun _ _ h => h, fun _ _ _ h => h⟩
theorem Grow.trans {m : List Addr} {H H1 H2 : Hp} (a : Grow m H H1) (b : Grow m H1 H2) : Grow m H H2 :=
  ⟨fun c o n h => b.keep c o n (a.keep c o n h), fun c xs h => b.tup c xs (a.tup c xs h), fun c o u h => b.frz c o u (a.frz c o u h)⟩
theorem Grow.new {m : List Addr} {H : Hp} {p : Addr} (h : H p = none) (o : HO) : Grow m H (upd H p o) :=
  ⟨fun b u _ q => by rw [upd_ne (ne_of_none q h)]; exact q, fun b xs q => by rw [upd_ne (ne_of_none q h)]; exact q, fun b u v q => by rw [upd_ne (ne_of_none q h)]; exact q⟩
theorem Grow.set {m : List Addr} {H : Hp} {p : Addr} {xs : List V} (h : H p = some (.lst xs)) (hm : p ∈ m) (ys : List V) : Grow m H (upd H p (.lst ys)) :=
  ⟨fun b u hb q => by rw [upd_ne (show b ≠ p from fun z => hb (by rw [z]; exact hm))]; exact q, fun b zs q => by rw [upd_ne (fun z => by subst z; rw [h] at q; cases q)]; exact q, fun b u v q => by rw [upd_ne (fun z => by subst z; rw [h] at q; cases q)]; exact q⟩
theorem Grow.mono {m m' : List Addr} {H H' : Hp} (a : Grow m H H') (h : ∀ b ∈ m, b ∈ m') : Grow m' H H' := ⟨fun b o n q => a.keep b o (fun z => n (h b z)) q, a.tup, a.frz⟩
theorem Grow.same {H H' : Hp} (a : Grow [] H H') : Same H H' := fun b o h => a.keep b o (by simp) h
theorem Grow.sqT {m : List Addr} {H H' : Hp} (g : Grow m H H') {K : PySem.W.Frag} {a : Addr} {xs : List V} (h : SqT K H a xs) : SqT K H' a xs := by
  rcases h with (h | ⟨o, h⟩) | h
  · exact .inl (.inl (g.tup _ _ h))
  · exact .inl (.inr ⟨o, g.frz _ _ _ h⟩)
  · exact .inr h
theorem Grow.free {H H' : Hp} {m : List Addr} (g : Grow m H H') {l : Addr} (hm : l ∉ m) (h : H' l = none) : H l = none := by
  cases q : H l with
  | none => rfl
  | some o => rw [g.keep l o hm q] at h; cases h
def Scr (K : PySem.W.Frag) (H : Hp) (a : Addr) (ns : List Int) : Prop :=
  (∃ o, H a = some (.frz o (.lst (ns.map V.int)))) ∨
    ∃ (o : Obj) (its : Array Value) (n : Nat), K.lookup a = some o ∧ o.cls = .type "list" ∧ o.dict = none ∧ o.data = .seq its n ∧ its.size ≤ sizeLine ∧ Vals (ns.map V.int) its.toList
theorem Scr.sq {K : PySem.W.Frag} {H : Hp} {a : Addr} {ns : List Int} (h : Scr K H a ns) : SqL K H a (ns.map V.int) := by
  rcases h with ⟨o, h⟩ | h
  · exact .inl (.inr ⟨o, h⟩)
  · exact .inr h
theorem Scr.of {K : PySem.W.Frag} {H : Hp} {a : Addr} {ns : List Int} (hO : Only H) (h : SqL K H a (ns.map V.int)) : Scr K H a ns := by
  rcases h with (h | ⟨o, h⟩) | h
  · rcases hO a with z | ⟨o, xs, z⟩
    · rw [h] at z; cases z
    · rw [h] at z; cases z
  · exact .inl ⟨o, h⟩
  · exact .inr h
theorem Grow.scr {m : List Addr} {H H' : Hp} (g : Grow m H H') {K : PySem.W.Frag} {a : Addr} {ns : List Int} (h : Scr K H a ns) : Scr K H' a ns := by
  rcases h with ⟨o, h⟩ | h
  · exact .inl ⟨o, g.frz _ _ _ h⟩
  · exact .inr h
end L3

namespace L3
open PySem PySem.Spec PyProof.Rows L2

structure Blt (mg : Str → Option Value) : Prop where
  abs : mg "abs" = none
  len : mg "len" = none
  max : mg "max" = none
  min : mg "min" = none
  divmod : mg "divmod" = none
  repr : mg "repr" = none
  isinstance : mg "isinstance" = none
  all : mg "all" = none
  range : mg "range" = none
  int : mg "int" = none
  bool : mg "bool" = none
  str : mg "str" = none
  tuple : mg "tuple" = none
  list : mg "list" = none
  dict : mg "dict" = none

def sp1 (b : V → Hp → VK → Prop) : Sp := fun vs H Q _ => ∃ x, vs = [x] ∧ b x H Q
def sp2 (b : V → V → Hp → VK → Prop) : Sp := fun vs H Q _ => ∃ x y, vs = [x, y] ∧ b x y H Q
def sp3 (b : V → V → V → Hp → VK → Prop) : Sp := fun vs H Q _ => ∃ x y z, vs = [x, y, z] ∧ b x y z H Q
theorem sp1_len {b : V → Hp → VK → Prop} {p : Str} : ∀ vs H Q E, sp1 b vs H Q E → vs.length = [p].length := fun vs H Q E h => by
  obtain ⟨x, rfl, _⟩ := h; rfl
theorem sp2_len {b : V → V → Hp → VK → Prop} {p q : Str} : ∀ vs H Q E, sp2 b vs H Q E → vs.length = [p, q].length := fun vs H Q E h => by
  obtain ⟨x, y, rfl, _⟩ := h; rfl
theorem sp3_len {b : V → V → V → Hp → VK → Prop} {p q r : Str} : ∀ vs H Q E, sp3 b vs H Q E → vs.length = [p, q, r].length := fun vs H Q E h => by
  obtain ⟨x, y, z, rfl, _⟩ := h; rfl

structure Deed where
  add : Int
  lo : Option Int
  hi : Option Int
  deriving DecidableEq
def ov : Option Int → V
  | none => .non
  | some i => .int i
def Deed.vs (d : Deed) : List V := [.int d.add, ov d.lo, ov d.hi]
def Deed.Ok (d : Deed) : Prop := ∀ l h, d.lo = some l → d.hi = some h → l < h ∨ (l = h ∧ d.add = 0)
def clampLo (lo : Option Int) (r : Int) : Int := match lo with
  | none => r
  | some l => if l > r then l else r
def clampHi (hi : Option Int) (r : Int) : Int := match hi with
  | none => r
  | some h => if h < r then h else r
def Deed.mk' (d : Deed) (v : Int) : Int := clampHi d.hi (clampLo d.lo (v + d.add))
def DeedAt (K : PySem.W.Frag) (H : Hp) (x : V) (d : Deed) : Prop := ∃ a, x = .ref a ∧ SqT K H a d.vs
theorem Grow.deed {m : List Addr} {H H' : Hp} (g : Grow m H H') {K : PySem.W.Frag} {x : V} {d : Deed} (h : DeedAt K H x d) : DeedAt K H' x d := by
  obtain ⟨a, e, h⟩ := h
  exact ⟨a, e, g.sqT h⟩


def Pot (H : Hp) (a : Addr) : Prop := ∃ p0 p1 : Int, H a = some (.lst [.int p0, .int p1]) ∧ 0 ≤ p0
def Sm (n : Int) : Prop := -(10 ^ 30) < n ∧ n < 10 ^ 30
def Deed.Sm (d : Deed) : Prop := L3.Sm d.add ∧ (∀ l, d.lo = some l → L3.Sm l) ∧ ∀ h, d.hi = some h → L3.Sm h
def sp_pot (K : PySem.W.Frag) : Sp := sp2 fun x y H Q => ∃ a ns k, x = .ref a ∧ y = .int k ∧ Scr K H a ns ∧ 0 ≤ k ∧ k < 1000 ∧ ∀ p H', H p = none → Grow [] H H' → Pot H' p → Q (.ref p) H'
def sp_take (_ : PySem.W.Frag) : Sp := sp2 fun x y H Q => ∃ a m, x = .ref a ∧ y = .int m ∧ Pot H a ∧ 0 < m ∧ m < 2 ^ 200 ∧ ∀ n H', 0 ≤ n → n < m → Grow [a] H H' → Pot H' a → Q (.int n) H'
theorem Sm.of {n : Int} (h1 : -(10 ^ 30) < n) (h2 : n < 10 ^ 30) : Sm n := ⟨h1, h2⟩
def sp_law (K : PySem.W.Frag) : Sp := sp1 fun x H Q => ∃ a ns, x = .ref a ∧ Scr K H a ns ∧ ns.length ≤ 63 ∧ ∀ H', Q (.bl true) H'
theorem szl {n : Nat} (h : Nat.ble n 1000 = true) : n ≤ sizeLine := Nat.le_of_lt (small1000 (Nat.le_of_ble_eq_true h))
theorem Grow.shrink {H H' : Hp} {l : Addr} (h : H l = none) (g : Grow [l] H H') : Grow [] H H' :=
  ⟨fun b o _ q => g.keep b o (fun z => by rw [List.mem_singleton.mp z] at q; rw [h] at q; cases q) q, g.tup, g.frz⟩
theorem Grow.wk {m : List Addr} {H H' : Hp} (g : Grow [] H H') : Grow m H H' := g.mono (by simp)
theorem Pot.grow {H H' : Hp} {a : Addr} (p : Pot H a) (g : Grow [] H H') : Pot H' a := by
  obtain ⟨u0, u1, hu, hn⟩ := p
  exact ⟨u0, u1, g.keep _ _ (by simp) hu, hn⟩
theorem Pot.new {H : Hp} {a l : Addr} (p : Pot H a) (hl : H l = none) (o : HO) : Pot (upd H l o) a := p.grow (Grow.new hl o)
theorem mulOkR {i j : Int} (h2 : -(2 ^ 60) < j ∧ j < 2 ^ 60) : IntMulOk i j := PySem.IntMulOk.of_right (Nat.le_trans ((PySem.intBits_le_iff (m := 60)).mpr (by obtain ⟨a, b⟩ := h2; omega)) (by decide))
end L3

namespace L3
open PySem PySem.Spec PyProof.Rows L2

section
variable {prog : Program} {w : World} {A : Around} {R : Result → Shared → Prop} {s : Shared}
theorem comp_loop {elt target iter : Expr} {ifs : List Expr} {scope : Scope} {pos : Pos} {it acc : Value} {env : Env} (I : Nat → Shared → Prop)
    (turn : ∀ n s, I n s → wpAny (model prog w) A (pyNext it) (fun r s₁ => match r with
      | none => R (.ok .next) s₁
      | some v => wpAny (model prog w) A (letOwnedTupleGo target it v) (fun _ s₂ => wpAny (model prog w) A (assign target env v) (fun _ s₃ =>
          wpAny (model prog w) A (forIn ifs true fun c r => if r = true then do let ok ← isTrue c env (eval c env); pure (ForInStep.yield ok) else pure (ForInStep.yield r)) (fun ok s₄ =>
            if ok = true then wpAny (model prog w) A (eval elt env) (fun x s₅ =>
              wpAny (model prog w) A (call (.builtin "list.append") [acc, x]) (fun _ s₆ => ∃ m, m < n ∧ I m s₆) (fun _ _ => False) s₅) (fun _ _ => False) s₄
            else ∃ m, m < n ∧ I m s₄) (fun _ _ => False) s₃) (fun _ _ => False) s₂) (fun _ _ => False) s₁) (fun _ _ => False) s)
    (n : Nat) (h : I n s) :
    codeAny (model prog w) A (.compLoop (.ListComp elt [⟨target, iter, ifs, 0⟩] scope pos) 0 it acc env) R s := by
  refine codeAny_loop rfl I (fun n s hI => ?_) n h
  show wpAny _ A ((compTurn (.ListComp elt [⟨target, iter, ifs, 0⟩] scope pos) 0 it acc env).onRaise (fun x => do noteFrame x env; theTreesLotGoes x)) _ _ s
  refine wpAny_noted ?_
  rw [compTurn_list]
  have no : ∀ (E : Value → Shared → Prop) (e : Value) (s : Shared), (fun (_ : Value) (_ : Shared) => False) e s → E e s := fun _ _ _ f => f.elim
  refine wpAny_bind (wpAny_standAt (wpAny_bind (wpAny_mono (turn n s hI) (fun r s₁ h₁ => ?_) (no _))))
  cases r with
  | none => exact wpAny_pure h₁
  | some v =>
    refine wpAny_bind (wpAny_mono h₁ (fun _ s₂ h₂ => ?_) (no _))
    refine wpAny_bind (wpAny_mono h₂ (fun _ s₃ h₃ => wpAny_bind (wpAny_mono h₃ (fun ok s₄ h₄ => ?_) (no _))) (no _))
    cases ok with
    | true =>
      simp only [if_true] at h₄ ⊢
      exact wpAny_bind (wpAny_bind (wpAny_mono h₄ (fun x s₅ h₅ => wpAny_bind (wpAny_mono h₅ (fun _ s₆ h₆ => wpAny_pure (wpAny_pure ⟨rfl, h₆⟩)) (no _))) (no _)))
    | false =>
      simp only [Bool.false_eq_true, if_false] at h₄ ⊢
      first
        | exact wpAny_bind (wpAny_pure (wpAny_pure ⟨rfl, h₄⟩))
        | exact wpAny_pure ⟨rfl, h₄⟩
end

theorem closure_ok {scope : Scope} {env : Env} (hfree : ∀ y ∈ scope.names, y.2 = .free → ∃ c, env.cells.lookup y.1 = some c) :
    ∃ cl, closureFor scope env = pure cl ∧ (∀ x c, cl.lookup x = some c → env.cells.lookup x = some c) ∧ ∀ y ∈ scope.names, y.2 = .free → ∃ c, cl.lookup y.1 = some c := by
  have key : ∀ (l : List (Str × NameKind)) (cs : List (Str × Addr)), (∀ y ∈ l, y.2 = .free → ∃ c, env.cells.lookup y.1 = some c) → (∀ x c, cs.lookup x = some c → env.cells.lookup x = some c) →
      ∃ cl, (forIn l cs (fun (x : Str × NameKind) r => do if x.2 == .free then do let c ← cellOf env x.1; pure (ForInStep.yield ((x.1, c) :: r)) else pure (ForInStep.yield r)) : Sem (List (Str × Addr))) = pure cl ∧
        (∀ x c, cl.lookup x = some c → env.cells.lookup x = some c) ∧ (∀ y ∈ l, y.2 = .free → ∃ c, cl.lookup y.1 = some c) ∧ ∀ x c, cs.lookup x = some c → ∃ c', cl.lookup x = some c' := by
    intro l
    induction l with
    | nil => intro cs _ h2; exact ⟨cs, rfl, h2, fun y hy => absurd hy (by simp), fun x c h => ⟨c, h⟩⟩
    | cons y r ih =>
      intro cs h1 h2
      obtain ⟨n, k⟩ := y
      by_cases hk : k = .free
      · subst hk
        obtain ⟨c, hc⟩ := h1 (n, .free) (by simp) rfl
        have hc' : env.cells.lookup n = some c := hc
        have e0 : cellOf env n = pure c := by unfold cellOf; rw [hc']
        obtain ⟨cl, e, p1, p2, p3⟩ := ih ((n, c) :: cs) (fun z hz => h1 z (List.mem_cons_of_mem _ hz)) (fun x d h => by
          by_cases hx : x = n
          · subst hx
            rw [List.lookup_cons_self] at h
            cases h; exact hc'
          · rw [List.lookup_cons, beq_eq_false_iff_ne.mpr hx] at h
            exact h2 x d h)
        refine ⟨cl, ?_, p1, fun z hz => ?_, fun x d h => ?_⟩
        · rw [List.forIn_cons]
          simp only [beq_self_eq_true, if_true, e0, pure_bind]
          exact e
        · rcases List.mem_cons.mp hz with rfl | hz
          · intro _
            exact p3 n c List.lookup_cons_self
          · exact p2 z hz
        · by_cases hx : x = n
          · subst hx; exact p3 x c List.lookup_cons_self
          · exact p3 x d (by rw [List.lookup_cons, beq_eq_false_iff_ne.mpr hx]; exact h)
      · have hb : (k == NameKind.free) = false := beq_eq_false_iff_ne.mpr hk
        obtain ⟨cl, e, p1, p2, p3⟩ := ih cs (fun z hz => h1 z (List.mem_cons_of_mem _ hz)) h2
        refine ⟨cl, ?_, p1, fun z hz => ?_, p3⟩
        · rw [List.forIn_cons]
          simp only [hb, Bool.false_eq_true, if_false, pure_bind]
          exact e
        · rcases List.mem_cons.mp hz with rfl | hz
          · intro h; exact absurd h hk
          · exact p2 z hz
  obtain ⟨cl, e, p1, p2, _⟩ := key scope.names [] hfree (fun x c h => by cases h)
  refine ⟨cl, ?_, p1, p2⟩
  unfold closureFor
  first
    | (rw [show (forIn scope.names [] _ : Sem (List (Str × Addr))) = pure cl from e]; rfl)
    | (simp only [bind_pure]; exact e)
    | exact e
end L3

namespace L3
open PySem PySem.Spec PyProof.Rows L2

def PIfs (X : Cx) (ifs : List Expr) (t : TT) : Prop :=
  ∀ (pins : List (Addr × Obj)) (s : Shared) (σ : L2.St) (H : Hp) (Q : Bool → Hp → Prop), Inv X pins σ H s → t σ H Q →
    wpAny (model X.prog X.w) X.A (forIn ifs true fun c r => if r = true then do let ok ← isTrue c X.env (eval c X.env); pure (ForInStep.yield ok) else pure (ForInStep.yield r)) (TP X pins σ Q) X.xe s
def tTrue : TT := fun _ H Q => Q true H
theorem pifs_nil {X : Cx} : PIfs X [] tTrue := fun pins s σ H Q I h => wpAny_pure ⟨H, I, h⟩
theorem pifs_one {X : Cx} {c : Expr} {t : TT} (hc : PT X c t) : PIfs X [c] t := fun pins s σ H Q I h => wpAny_tests_one (hc pins s σ H Q I h)

abbrev cxC (X : Cx) (N' : List Str) (scope : Scope) (cl : List (Str × Addr)) (C D : Addr) (fp : List Addr) (s : Shared) (H : Hp) : Cx :=
  { X with N := N', s₀ := s, H₀ := H, env := compEnvC scope cl C X.env, outer := X.stack, ex := D :: fp, fn := fun _ => false, xe := fun _ _ => False }
def capt (sub : List (Option Nat)) (σ : L2.St) : L2.St := sub.map fun o => match o with
  | none => none
  | some i => (match σ[i]? with | some v => v | none => none)
def CompW (J : It) (σ0 : L2.St) (H1 : Hp) (g : TG) (tt : TT) (te : TE) (Q : VK) : Prop :=
  ∃ W : Nat → Nat → List V → L2.St → Hp → Prop, (∃ m, W 0 m [] σ0 H1) ∧ ∀ i m ys σ' H', W i m ys σ' H' →
    (J.stop i H' ∧ ∀ l, H' l = none → Q (.ref l) (upd H' l (.lst ys))) ∨
    (J.go i H' ∧ ∃ Nn : List V → L2.St → Hp → Prop, (∀ zs σ2 H2, Nn zs σ2 H2 → ∃ m', m' < m ∧ W (i + 1) m' zs σ2 H2) ∧
      ∀ x H2, J.yld i H' x H2 → g x σ' H2 fun σ2 H3 => tt σ2 H3 fun b H4 => if b = true then te σ2 H4 fun y H5 => ys.length < sizeLine ∧ Nn (ys ++ [y]) σ2 H5 else Nn ys σ2 H4)
def tComp (wi : TI) (sub : List (Option Nat)) (g : TG) (tt : TT) (te : TE) : TE := fun σ H Q => wi σ H fun J H1 => CompW J (capt sub σ) H1 g tt te Q
structure CSc (X : Cx) (scope : Scope) (N' : List Str) (sub : List (Option Nat)) : Prop where
  free : ∀ y ∈ scope.names, y.2 = .free → X.env.kindOf y.1 = some .cell
  nocell : ∀ y ∈ scope.names, y.2 ≠ .cell
  kind : scope.kind = .function
  names : ∀ y ∈ scope.names, y.2 = .local → scope.names.lookup y.1 = some .local
  len : sub.length = N'.length
  cap : ∀ (j : Nat) (y : Str) (i : Nat), N'[j]? = some y → sub[j]? = some (some i) → X.N[i]? = some y ∧ X.env.scope.names.lookup y = some .cell ∧ scope.names.lookup y = some .free

theorem HOk.track {P : Program} {w : World} {H : Hp} {h : Heap} {a : Addr} {o : HO} (x : HOk P w H h) (hn : H a = none) (new : ObjOk P w (upd H a o) h a o) : HOk P w (upd H a o) h := fun b u e => by
  by_cases hb : b = a
  · subst hb; rw [upd_same] at e; cases e; exact new
  · rw [upd_ne hb] at e
    exact (x b u e).stay (fun c v _ q => q) (fun c q => by rw [upd_ne (ne_of_none q hn)]; exact q) fun c xs q => by rw [upd_ne (ne_of_none q hn)]; exact q
theorem relabel_lookup {scope : Scope} {env : Env} {y : Str} {k : NameKind} (h : (relabel scope env).names.lookup y = some k) :
    ∃ k', scope.names.lookup y = some k' ∧ (k = k' ∨ (k = .cell ∧ k' = .free)) := by
  have key : ∀ l : List (Str × NameKind), (l.map fun (n, k) => if (k == NameKind.free && env.scope.kind == .function && env.kindOf n == some .cell) then (n, NameKind.cell) else (n, k)).lookup y = some k →
      ∃ k', l.lookup y = some k' ∧ (k = k' ∨ (k = .cell ∧ k' = .free)) := by
    intro l
    induction l with
    | nil => intro h; cases h
    | cons p r ih =>
      obtain ⟨n, k0⟩ := p
      intro h
      rw [List.map_cons] at h
      by_cases hc : (k0 == NameKind.free && env.scope.kind == .function && env.kindOf n == some .cell) = true
      · have hf : k0 = .free := by
          simp only [Bool.and_eq_true, beq_iff_eq] at hc
          exact hc.1.1
        dsimp only at h
        rw [if_pos hc, List.lookup_cons] at h
        rw [List.lookup_cons]
        cases hx : y == n with
        | true => rw [hx] at h; cases h; exact ⟨k0, rfl, .inr ⟨rfl, hf⟩⟩
        | false => rw [hx] at h; exact ih h
      · dsimp only at h
        rw [if_neg hc, List.lookup_cons] at h
        rw [List.lookup_cons]
        cases hx : y == n with
        | true => rw [hx] at h; cases h; exact ⟨_, rfl, .inl rfl⟩
        | false => rw [hx] at h; exact ih h
  exact key scope.names h
theorem relabel_cell {scope : Scope} {env : Env} {y : Str} (hk : env.scope.kind = .function) (hc : env.kindOf y = some .cell) (h : scope.names.lookup y = some .free) : (relabel scope env).names.lookup y = some .cell := by
  have key : ∀ l : List (Str × NameKind), l.lookup y = some .free → (l.map fun (n, k) => if (k == NameKind.free && env.scope.kind == .function && env.kindOf n == some .cell) then (n, NameKind.cell) else (n, k)).lookup y = some .cell := by
    intro l
    induction l with
    | nil => intro h; cases h
    | cons p r ih =>
      obtain ⟨n, k0⟩ := p
      intro h
      rw [List.map_cons]
      rw [List.lookup_cons] at h
      dsimp only
      cases hx : y == n with
      | true =>
        rw [hx] at h
        cases h
        have e : y = n := by simpa using hx
        subst e
        rw [if_pos (by simp [hk, hc]), List.lookup_cons, hx]
      | false =>
        rw [hx] at h
        by_cases hc2 : (k0 == NameKind.free && env.scope.kind == .function && env.kindOf n == some .cell) = true
        · rw [if_pos hc2, List.lookup_cons, hx]; exact ih h
        · rw [if_neg hc2, List.lookup_cons, hx]; exact ih h
  exact key scope.names h
section
variable {X : Cx} {pins : List (Addr × Obj)} {σ : L2.St} {H2 : Hp} {s₂ : Shared} {it : Addr} {fp : List Addr} {tn : Nat → Heap → Prop} {J : It} {scope : Scope} {cl : List (Str × Addr)} {N' : List Str} {sub : List (Option Nat)}
theorem comp_start {h₁ : Heap} {tk : Nat} (I : Inv X pins σ H2 s₂) (S : CSc X scope N' sub) (hcl1 : ∀ x c, cl.lookup x = some c → X.env.cells.lookup x = some c) (hcl2 : ∀ y ∈ scope.names, y.2 = .free → ∃ c, cl.lookup y.1 = some c)
    (f2 : ∀ b ∈ fp, FpOk X pins H2 b) (hfp : ∀ b ∈ fp, b < s₂.heap.objs.size) {m : Str → Option Value} {ob : Obj}
    (hns : h₁.Ns (s₂.heap.objs.size + 1) m) (hk : ∀ b o, (s₂.heap.push ob).get? b = some o → h₁.get? b = some o) :
    Inv (cxC X N' scope cl (s₂.heap.objs.size + 1) s₂.heap.objs.size fp { s₂ with heap := s₂.heap.push ob } H2) pins (capt sub σ) H2 { s₂ with heap := h₁, toks := tk } := by
  have old : ∀ b o, s₂.heap.get? b = some o → (s₂.heap.push ob).get? b = some o := fun b o e => Heap.get?_push_of_some _ e
  have old2 : ∀ b o, s₂.heap.get? b = some o → h₁.get? b = some o := fun b o e => hk b o (old b o e)
  have sz : (s₂.heap.push ob).objs.size = s₂.heap.objs.size + 1 := Heap.size_push ..
  have cells : ∀ x c, cl.lookup x = some c → c < s₂.heap.objs.size := fun x c e => let ⟨v, q⟩ := I.cell x c (hcl1 x c e); q.lt
  have has : ∀ x, ((relabel scope X.env).names.lookup x = some .cell ∨ (relabel scope X.env).names.lookup x = some .free) → ∃ c, cl.lookup x = some c := fun x hx => by
    rcases hx with hx | hx
    · obtain ⟨k', e, z⟩ := relabel_lookup hx
      rcases z with z | ⟨_, z⟩
      · subst z; exact absurd rfl (S.nocell _ (PySem.mem_of_lookup e))
      · subst z; exact hcl2 _ (PySem.mem_of_lookup e) rfl
    · obtain ⟨k', e, z⟩ := relabel_lookup hx
      rcases z with z | ⟨z, _⟩
      · subst z; exact hcl2 _ (PySem.mem_of_lookup e) rfl
      · cases z
  have frsz : ∀ b ∈ frs X.stack, b < s₂.heap.objs.size := fun b hb => by
    rcases List.mem_cons.mp (I.stkSub b hb) with z | z
    · rw [z]; exact I.lt
    · exact Nat.lt_of_not_le fun q => I.nofs q z
  refine
    { ok :=
      { mod := I.ok.mod, kind := S.kind, glob := I.ok.glob, blt := I.ok.blt
        above := by show (s₂.heap.push ob).objs.size ≤ s₂.heap.objs.size + 1; rw [sz]; exact Nat.le_refl _
        inj := fun x y c h1 h2 => I.ok.inj x y c (hcl1 x c h1) (hcl1 y c h2)
        has := has
        cab := fun x c z => by cases z
        hd := I.ok.hd, frames := I.ok.frames, stk := .inl rfl
        exf := fun b hb => ?exf
        bs := fun b o e => ⟨old b o (I.bk b o e), (I.bs b o e).2⟩
        bsz := by show X.base.objs.size ≤ (s₂.heap.push ob).objs.size; rw [sz]; exact Nat.le_succ_of_le (Nat.le_trans I.ok.bsz I.sz)
        noex := fun b o e hb => ?noex
        exfs := fun b hb => ?exfs
        funs := ?funs
        frf := I.stkFree }
      os := rfl, bare := I.bare, base := Un.kept fun b u e => hk b u e
      loc := ⟨m, hns, ?loc⟩
      cell := fun x c e => ?cell
      free := I.hok.fresh (Nat.le_succ _)
      freeC := fun x c e => I.freeC x c (hcl1 x c e)
      pin := fun p hp => ?pin
      hok := I.hok.kept old2
      len := ?len }
  case exf =>
    rcases List.mem_cons.mp hb with rfl | hb
    · exact ⟨Nat.ne_of_lt (Nat.lt_succ_self _), fun x c e => Nat.ne_of_lt (cells x c e)⟩
    · exact ⟨Nat.ne_of_lt (Nat.lt_succ_of_lt (hfp b hb)), fun x c e => (f2 b hb).2.2.2.2.1 x c (hcl1 x c e)⟩
  case noex =>
    have hl : b < X.s₀.heap.objs.size := Nat.lt_of_lt_of_le (Heap.lt_size e) I.ok.bsz
    rcases List.mem_cons.mp hb with rfl | hb
    · exact absurd (Nat.lt_of_lt_of_le hl I.sz) (Nat.lt_irrefl _)
    · rcases (f2 b hb).2.2.2.1 with z | z
      · exact I.ok.noex b o e z
      · exact absurd (Nat.lt_of_lt_of_le hl z) (Nat.lt_irrefl _)
  case exfs =>
    intro hs
    rcases List.mem_cons.mp hb with rfl | hb
    · exact absurd (frsz _ hs) (Nat.lt_irrefl _)
    · rcases List.mem_cons.mp (I.stkSub b hs) with z | z
      · exact (f2 b hb).2.1 z
      · exact (f2 b hb).2.2.1 z
  case funs => exact Heap.FunFrames.of_keeps (fun b o e _ => ⟨o, old b o e, rfl⟩) I.stack
  case loc =>
    intro j y v hj hv hvis
    obtain ⟨mX, _, lX⟩ := I.loc
    unfold capt at hv
    rw [List.getElem?_map] at hv
    cases hs : sub[j]? with
    | none => rw [hs] at hv; cases hv
    | some o =>
      rw [hs] at hv
      cases o with
      | none => cases hv
      | some i =>
        obtain ⟨hN, hc, hf⟩ := S.cap j y i hj hs
        have hv' : σ[i]? = some (some v) := by
          have z : (match σ[i]? with | some v => v | none => none) = some v := Option.some.inj hv
          cases q : σ[i]? with
          | none => rw [q] at z; cases z
          | some w => rw [q] at z; rw [show w = some v from z]
        obtain ⟨u, ru, hl⟩ := lX i y v hN hv' (.inr (.inl hc))
        refine ⟨u, ru, ?_⟩
        have kc : (relabel scope X.env).names.lookup y = some .cell := relabel_cell I.ok.kind hc hf
        rcases hl with ⟨z, _⟩ | ⟨_, c, e, ic⟩
        · have z' : X.env.scope.names.lookup y = some .local := z
          rw [hc] at z'; cases z'
        · obtain ⟨c', e'⟩ := hcl2 _ (PySem.mem_of_lookup hf) rfl
          have := hcl1 _ _ e'
          rw [e] at this; cases this
          refine .inr ⟨.inl kc, c, e', ?_⟩
          obtain ⟨oc, h1, h2⟩ := ic
          exact ⟨oc, old2 _ _ h1, h2⟩
  case cell =>
    obtain ⟨v, oc, h1, h2⟩ := I.cell x c (hcl1 x c e)
    exact ⟨v, oc, old2 _ _ h1, h2⟩
  case pin =>
    obtain ⟨p1, p2, p3, p4, p5⟩ := I.pin p hp
    refine ⟨old2 _ _ p1, p2, Nat.ne_of_lt (Nat.lt_succ_of_lt (Heap.lt_size p1)), fun hs => ?_, p5⟩
    rcases List.mem_cons.mp (I.stkSub _ hs) with z | z
    · exact p3 z
    · exact p4 z
  case len =>
    show (capt sub σ).length = N'.length
    unfold capt
    rw [List.length_map]; exact S.len
theorem comp_fin {C D : Addr} {s₀ : Shared} {s' : Shared} {σ' : L2.St} {H' : Hp} {ys : List V} {us : List Value} {k : Nat} {oC : Obj} (I : Inv X pins σ H2 s₂)
    (hs₀ : ∀ b o, s₂.heap.get? b = some o → s₀.heap.get? b = some o) (hos : s₀.os = s₂.os) (hD : s₂.heap.objs.size ≤ D) (hC : s₂.heap.objs.size ≤ C) (hDC : D ≠ C) (f2 : ∀ b ∈ fp, FpOk X pins H2 b)
    (I' : Inv (cxC X N' scope cl C D fp s₀ H2) pins σ' H' s') (hn : H' D = none) (hy : s'.heap.get? D = some { cls := .type "list", data := .seq us.toArray k }) (rv : Vals ys us) (hz : ys.length ≤ sizeLine)
    (ho : s'.heap.get? C = some oC) (hd : ∀ v, oC.data ≠ .cell v) : Inv X (pins ++ [(C, oC)]) σ (upd H' D (.lst ys)) s' ∧ FpOk X pins (upd H' D (.lst ys)) C := by
  have neD : ∀ b o, s₂.heap.get? b = some o → b ≠ D := fun b o e => Nat.ne_of_lt (Nat.lt_of_lt_of_le (Heap.lt_size e) hD)
  have nm : ∀ b o, s₂.heap.get? b = some o → b ∉ fp → b ∉ D :: fp := fun b o e h z => (List.mem_cons.mp z).elim (neD b o e) h
  have U := I'.base
  have HC : upd H' D (.lst ys) C = none := by rw [upd_ne (Ne.symm hDC)]; exact I'.free
  have fpc : FpOk X pins (upd H' D (.lst ys)) C := I.fpOk hC HC
  have un : Un (frs X.stack) fp H2 (upd H' D (.lst ys)) s₂.heap s'.heap :=
    { keep := fun b o e n h1 h2 => U.keep b o (hs₀ b o e) n h1 (nm b o e h2)
      slot := fun b o e n h1 h2 => U.slot b o (hs₀ b o e) n h1 (nm b o e h2)
      free := fun b o e n h2 => by rw [upd_ne (neD b o e)]; exact U.free b o (hs₀ b o e) n (nm b o e h2)
      there := fun b o e h2 => U.there b o (hs₀ b o e) (nm b o e h2)
      tups := fun b xs e => by have z := U.tups b xs e; rw [upd_ne (ne_of_none z hn)]; exact z
      frzs := fun b o u e => by have z := U.frzs b o u e; rw [upd_ne (ne_of_none z hn)]; exact z
      tbls := fun b ps e => by obtain ⟨more, z⟩ := U.tbls b ps e; exact ⟨more, by rw [upd_ne (ne_of_none z hn)]; exact z⟩ }
  have hok : HOk X.prog X.w (upd H' D (.lst ys)) s'.heap := HOk.track I'.hok hn ⟨hz, us, k, rv, hy⟩
  have IX : Inv X pins σ (upd H' D (.lst ys)) s' := I.call' (I'.os.trans hos) un hok I'.bare fun b hb => ⟨(f2 b hb).2.2.2.1, (f2 b hb).2.1, (f2 b hb).2.2.2.2.1, (f2 b hb).2.2.2.2.2⟩
  refine ⟨IX.pins_of fun p hp => ?_, fpc⟩
  rcases List.mem_append.mp hp with hp | hp
  · exact IX.pin p (List.mem_append_right _ hp)
  · rw [List.mem_singleton.mp hp]
    exact ⟨ho, HC, fpc.2.1, fpc.2.2.1, hd⟩
end
section
variable {X : Cx} {scope : Scope} {N' : List Str} {sub : List (Option Nat)} {x : Str} {px pos : Pos} {elt iter : Expr} {ifs : List Expr} {wi : TI} {g : TG} {tt : TT} {te : TE}
theorem CSc.clos {pins : List (Addr × Obj)} {σ : L2.St} {H : Hp} {s : Shared} (S : CSc X scope N' sub) (I : Inv X pins σ H s) : ∃ cl, closureFor scope X.env = pure cl ∧ (∀ x c, cl.lookup x = some c → X.env.cells.lookup x = some c) ∧ ∀ y ∈ scope.names, y.2 = .free → ∃ c, cl.lookup y.1 = some c :=
  closure_ok fun y hy hf => I.ok.has y.1 (.inl (S.free y hy hf))
end
end L3

namespace L3
open PySem PySem.Spec PyProof.Rows L2

def eqVs : List V → List V → Bool
  | [], [] => true
  | x :: xs, y :: ys => eqV x y && eqVs xs ys
  | _, _ => false
theorem eqVs_len : ∀ {xs ys : List V}, eqVs xs ys = true → xs.length = ys.length
  | [], [], _ => rfl
  | x :: xs, y :: ys, h => by
    have h' : (eqV x y && eqVs xs ys) = true := h
    rw [Bool.and_eq_true] at h'
    simp [eqVs_len h'.2]
  | [], _ :: _, h => by cases h
  | _ :: _, [], h => by cases h
theorem eqVs_get : ∀ {xs ys : List V}, eqVs xs ys = true ↔ xs.length = ys.length ∧ ∀ (j : Nat) (x y : V), xs[j]? = some x → ys[j]? = some y → eqV x y = true
  | [], [] => by simp [eqVs]
  | x :: xs, y :: ys => by
    show (eqV x y && eqVs xs ys) = true ↔ _
    rw [Bool.and_eq_true, eqVs_get]
    constructor
    · rintro ⟨h1, h2, h3⟩
      refine ⟨by simp [h2], fun j a b ha hb => ?_⟩
      cases j with
      | zero => simp at ha hb; subst ha hb; exact h1
      | succ j => exact h3 j a b (by simpa using ha) (by simpa using hb)
    · rintro ⟨h1, h2⟩
      exact ⟨h2 0 x y rfl rfl, by simpa using h1, fun j a b ha hb => h2 (j + 1) a b (by simpa using ha) (by simpa using hb)⟩
  | [], _ :: _ => by simp [eqVs]
  | _ :: _, [] => by simp [eqVs]
theorem eqVs_range {xs ys : List V} : ((List.range (min xs.length ys.length)).all (fun j => match xs[j]?, ys[j]? with | some x, some y => eqV x y | _, _ => true) && xs.length == ys.length) = eqVs xs ys := by
  rw [Bool.eq_iff_iff, Bool.and_eq_true, List.all_eq_true, beq_iff_eq, eqVs_get]
  constructor
  · rintro ⟨h1, h2⟩
    refine ⟨h2, fun j x y hx hy => ?_⟩
    have hj : j < xs.length := (List.getElem?_eq_some_iff.mp hx).1
    have := h1 j (List.mem_range.mpr (by rw [← h2]; simpa using hj))
    rw [hx, hy] at this
    exact this
  · rintro ⟨h1, h2⟩
    refine ⟨fun j hj => ?_, h1⟩
    have hj' := List.mem_range.mp hj
    have a : j < xs.length := by omega
    have b : j < ys.length := by omega
    rw [List.getElem?_eq_getElem a, List.getElem?_eq_getElem b]
    exact h2 j _ _ (List.getElem?_eq_getElem a) (List.getElem?_eq_getElem b)
theorem vals_at {xs : List V} {us : List Value} (r : Vals xs us) (j : Nat) (h : j < us.length) : ∃ x, xs[j]? = some x ∧ RelV x us[j] := by
  have hl := r.length
  have hx : xs[j]? = some xs[j] := List.getElem?_eq_getElem (by omega)
  obtain ⟨u, e, q⟩ := r.get hx
  rw [List.getElem?_eq_getElem h] at e
  cases e
  exact ⟨_, hx, q⟩
theorem eqs_at {A : Around} {s : Shared} {xs ys : List V} {us ws : List Value} (r1 : Vals xs us) (r2 : Vals ys ws) (f1 : xs.all flatV = true) (f2 : ys.all flatV = true) :
    ∀ j (h1 : j < us.toArray.size) (h2 : j < ws.toArray.size), SeqAt.EqAt A s us.toArray[j] ws.toArray[j] ((fun j => match xs[j]?, ys[j]? with | some x, some y => eqV x y | _, _ => true) j) := by
  intro j h1 h2
  obtain ⟨x, ex, qx⟩ := vals_at r1 j (by simpa using h1)
  obtain ⟨y, ey, qy⟩ := vals_at r2 j (by simpa using h2)
  have fx : flatV x = true := List.all_eq_true.mp f1 x (List.mem_of_getElem? ex)
  have fy : flatV y = true := List.all_eq_true.mp f2 y (List.mem_of_getElem? ey)
  show SeqAt.EqAt A s _ _ (match xs[j]?, ys[j]? with | some x, some y => eqV x y | _, _ => true)
  rw [ex, ey]
  simpa using eqAt_V qx qy fx fy
section
variable {X : Cx}
theorem isTuple_of {h : Heap} {a : Addr} {its : Array Value} (t : IsTup h a its) : h.IsTuple a its := t
end
section
variable {X : Cx} {pos : Pos}
theorem bools_are : ∀ {bs : List Bool} {us : List Value}, Vals (bs.map V.bl) us → LSm.BoolsAre us bs
  | [], _, .nil => .nil
  | b :: bs, _, .cons r t => by
    cases r
    exact .cons b (bools_are t)
theorem call_allB (hcalm : X.calm = true) : CallR X (.builtin "all") (fun xs H Q => ∃ (l : Addr) (bs : List Bool), xs = [.ref l] ∧ SqL X.K H l (bs.map V.bl) ∧ Q (.bl (bs.all id)) H) := by
  intro pins s σ H xs us Q I r h
  obtain ⟨l, bs, rfl, hl, q⟩ := h
  obtain ⟨u, rfl, rx⟩ := vals1 r
  cases (show u = Value.ref l from rx)
  obtain ⟨vs, rv, pl, _⟩ := I.list hl
  have hl' : s.heap.IsList l vs.toArray := pl.isList
  have hb : LSm.BoolsAre vs bs := bools_are rv
  have hlt : l < s.heap.objs.size := by obtain ⟨_, e, _⟩ := hl'; exact Heap.lt_size e
  refine call_all_walk (wpAny_pyIter_list hl' ?_)
  refine ⟨s.heap.objs.size, [s.heap.objs.size, l], [s.heap.objs.size], vs.toArray.size, _, _, fun i => (bs[i]?).getD true, rfl, Walks.list (A := X.A.in1) (I.ok.hd hcalm) _ l (Nat.ne_of_lt hlt) vs.toArray,
    ⟨⟨_, Heap.get?_push_size _ rfl, rfl, rfl⟩, hl'.push _⟩, fun i v s' Q' E' hP hQ => ?_, fun h' tk hk => ?_⟩
  · obtain ⟨b, e, rfl⟩ := hb.get i v (by simpa using hP)
    simp only [e, Option.getD_some] at hQ
    exact wpAny_truthy_bool hQ
  · have e : ((List.range vs.toArray.size).all fun i => (bs[i]?).getD true) = bs.all id := by
      have hlen : bs.length = vs.length := by rw [← rv.length, List.length_map]
      rw [List.size_toArray, ← hlen, Bool.eq_iff_iff, List.all_eq_true, List.all_eq_true]
      constructor
      · intro z b hb'
        obtain ⟨i, hi, rfl⟩ := List.getElem_of_mem hb'
        have := z i (List.mem_range.mpr hi)
        simpa [List.getElem?_eq_getElem hi] using this
      · intro z i hi
        have hi' := List.mem_range.mp hi
        simpa [List.getElem?_eq_getElem hi'] using z _ (List.getElem_mem hi')
    rw [e]
    exact ⟨.bl (bs.all id), H, I.kept (t' := tk) (h' := h') (LSm.kept_iter hk), rfl, q⟩
end
theorem CSc.of {X : Cx} {scope : Scope} {N' : List Str} {sub : List (Option Nat)} (sc : Scope) (NN : List Str) (e : X.env.scope = sc) (en : X.N = NN)
    (h : ((scope.names.all fun y => (y.2 != .free || sc.names.lookup y.1 == some .cell) && (y.2 != .cell) && (y.2 != .local || scope.names.lookup y.1 == some .local)) && (sub.length == N'.length) &&
      ((N'.zip sub).all fun p => match p.2 with | none => true | some i => NN[i]? == some p.1 && sc.names.lookup p.1 == some .cell && scope.names.lookup p.1 == some .free)) = true)
    (hk : scope.kind = .function) : CSc X scope N' sub := by
  rw [Bool.and_eq_true, Bool.and_eq_true] at h
  obtain ⟨⟨h1, h2⟩, h3⟩ := h
  have k1 := fun y hy => List.all_eq_true.mp h1 y hy
  refine ⟨fun y hy hf => ?_, fun y hy hc => ?_, hk, fun y hy hl => ?_, by simpa using h2, fun j y i hj hs => ?_⟩
  · have := k1 y hy
    simp only [hf, Bool.and_eq_true] at this
    have z := this.1.1
    show X.env.scope.names.lookup y.1 = _
    rw [e]; simpa using z
  · have := k1 y hy
    simp only [hc, Bool.and_eq_true] at this
    simp at this
  · have := k1 y hy
    simp only [hl, Bool.and_eq_true] at this
    simpa using this.2
  · have hm : (y, some i) ∈ N'.zip sub := by
      have : (N'.zip sub)[j]? = some (y, some i) := by
        rw [List.getElem?_zip_eq_some]; exact ⟨hj, hs⟩
      exact List.mem_of_getElem? this
    have := List.all_eq_true.mp h3 _ hm
    simp only [Bool.and_eq_true, beq_iff_eq] at this
    rw [e, en]
    exact ⟨this.1.1, this.1.2, this.2⟩
end L3

namespace L3
open PySem PySem.Spec PyProof.Rows L2
def tidyD (a : Int) (lo hi : Option Int) : Deed := if lo ≠ none ∧ lo = hi then ⟨0, lo, hi⟩ else ⟨a, lo, hi⟩
def thrO (e : Deed) (o : Option Int) (d : Option Int) : Option Int := match o with
  | none => d
  | some l => some (e.mk' l)
def joinD (d e : Deed) : Deed := tidyD (d.add + e.add) (thrO e d.lo e.lo) (thrO e d.hi e.hi)
def Deed.Bd (B : Int) (d : Deed) : Prop := (-B ≤ d.add ∧ d.add ≤ B) ∧ (∀ l, d.lo = some l → -B ≤ l ∧ l ≤ B) ∧ ∀ h, d.hi = some h → -B ≤ h ∧ h ≤ B
theorem mk_nn (a v : Int) : (Deed.mk a none none).mk' v = v + a := rfl
theorem mk_sn (a l v : Int) : (Deed.mk a (some l) none).mk' v = if l > v + a then l else v + a := rfl
theorem mk_ns (a h v : Int) : (Deed.mk a none (some h)).mk' v = if h < v + a then h else v + a := rfl
theorem mk_ss (a l h v : Int) : (Deed.mk a (some l) (some h)).mk' v = if h < (if l > v + a then l else v + a) then h else (if l > v + a then l else v + a) := rfl
def optA (o : Option Int) : Int := match o with | none => 0 | some i => (i.natAbs : Int)
def Deed.big (d : Deed) : Int := (d.add.natAbs : Int) + optA d.lo + optA d.hi + 1
theorem mk_bd {e : Deed} {B C : Int} (b : e.Bd B) (hB : 0 ≤ B) {v : Int} (h1 : -C ≤ v) (h2 : v ≤ C) (hC : 0 ≤ C) : -(B + C) ≤ e.mk' v ∧ e.mk' v ≤ B + C := by
  obtain ⟨a, lo, hi⟩ := e
  obtain ⟨⟨b1, b2⟩, b3, b4⟩ := b
  have b1' : -B ≤ a := b1
  have b2' : a ≤ B := b2
  cases lo with
  | none =>
    cases hi with
    | none => rw [mk_nn]; omega
    | some h => have := b4 h rfl; rw [mk_ns]; split <;> omega
  | some l =>
    have := b3 l rfl
    cases hi with
    | none => rw [mk_sn]; split <;> omega
    | some h => have := b4 h rfl; rw [mk_ss]; (repeat' split) <;> omega
theorem Deed.Sm.bd {d : Deed} (h : d.Sm) : d.Bd (10 ^ 30) := by
  obtain ⟨⟨a1, a2⟩, h1, h2⟩ := h
  exact ⟨⟨by omega, by omega⟩, fun l e => by have := h1 l e; exact ⟨by have := this.1; omega, by have := this.2; omega⟩, fun l e => by have := h2 l e; exact ⟨by have := this.1; omega, by have := this.2; omega⟩⟩
end L3

namespace L3
open PySem PySem.Spec PyProof.Rows L2
theorem tTrue_i {σ : L2.St} {H : Hp} {A B : Hp → Prop} (h : A H) : tTrue σ H (fun b H4 => if b = true then A H4 else B H4) := by
  show if true = true then A H else B H
  rw [if_pos rfl]; exact h
theorem iteF' {c : Bool} {A B : Prop} (e : c = false) (h : B) : if c = true then A else B := by rw [e]; exact iteF h
theorem iteT' {c : Bool} {A B : Prop} (e : c = true) (h : A) : if c = true then A else B := by rw [e]; exact iteT h
theorem comp_tup {K : PySem.W.Frag} {a : Addr} {xs : List V} {g : TG} {tt : TT} {te : TE} {Q : VK} {σ : L2.St} {H : Hp} (Pv : Nat → List V → L2.St → Hp → Prop) (h0 : Pv 0 [] σ H) (hl : ∀ i ys σ H, i ≤ xs.length → Pv i ys σ H → SqT K H a xs)
    (hs : ∀ i x ys σ H, xs[i]? = some x → Pv i ys σ H → g x σ H fun σ2 H3 => tt σ2 H3 fun b H4 => if b = true then te σ2 H4 fun y H5 => ys.length < sizeLine ∧ Pv (i + 1) (ys ++ [y]) σ2 H5 else Pv (i + 1) ys σ2 H4)
    (hd : ∀ ys σ H, Pv xs.length ys σ H → ∀ l, H l = none → Q (.ref l) (upd H l (.lst ys))) :
    CompW (Itt K a) σ H g tt te Q := by
  refine ⟨fun i m ys σ H => m = xs.length - i ∧ i ≤ xs.length ∧ Pv i ys σ H, ⟨xs.length, by simp, Nat.zero_le _, h0⟩, ?_⟩
  rintro i m ys σ H ⟨rfl, hi, p⟩
  have q := hl i ys σ H hi p
  by_cases hlt : i < xs.length
  · refine .inr ⟨⟨xs, xs[i], q, by simp [hlt]⟩, Pv (i + 1), fun zs σ' H' p' => ⟨xs.length - (i + 1), by omega, rfl, hlt, p'⟩, fun x H' y => ?_⟩
    obtain ⟨e, y⟩ := y
    subst e
    exact hs i x ys σ _ (y xs q) p
  · have e : i = xs.length := by omega
    subst e
    exact .inl ⟨⟨xs, q, Nat.le_refl _⟩, hd ys σ H p⟩
theorem comp_list {K : PySem.W.Frag} {a : Addr} {xs : List V} {g : TG} {tt : TT} {te : TE} {Q : VK} {σ : L2.St} {H : Hp} (Pv : Nat → List V → L2.St → Hp → Prop) (h0 : Pv 0 [] σ H) (hl : ∀ i ys σ H, i ≤ xs.length → Pv i ys σ H → SqL K H a xs)
    (hs : ∀ i x ys σ H, xs[i]? = some x → Pv i ys σ H → g x σ H fun σ2 H3 => tt σ2 H3 fun b H4 => if b = true then te σ2 H4 fun y H5 => ys.length < sizeLine ∧ Pv (i + 1) (ys ++ [y]) σ2 H5 else Pv (i + 1) ys σ2 H4)
    (hd : ∀ ys σ H, Pv xs.length ys σ H → ∀ l, H l = none → Q (.ref l) (upd H l (.lst ys))) :
    CompW (Itl K a) σ H g tt te Q := by
  refine ⟨fun i m ys σ H => m = xs.length - i ∧ i ≤ xs.length ∧ Pv i ys σ H, ⟨xs.length, by simp, Nat.zero_le _, h0⟩, ?_⟩
  rintro i m ys σ H ⟨rfl, hi, p⟩
  have q := hl i ys σ H hi p
  by_cases hlt : i < xs.length
  · refine .inr ⟨⟨xs, xs[i], q, by simp [hlt]⟩, Pv (i + 1), fun zs σ' H' p' => ⟨xs.length - (i + 1), by omega, rfl, hlt, p'⟩, fun x H' y => ?_⟩
    obtain ⟨e, y⟩ := y
    subst e
    exact hs i x ys σ _ (y xs q) p
  · have e : i = xs.length := by omega
    subst e
    exact .inl ⟨⟨xs, q, Nat.le_refl _⟩, hd ys σ H p⟩
theorem ix_tupK {X : Cx} {K : PySem.W.Frag} (h : X.K = K) : IxR X (rIxT K) := by subst h; exact ix_tup
theorem ix_listK {X : Cx} {K : PySem.W.Frag} (h : X.K = K) : IxR X (rIxL K) := by subst h; exact ix_list
theorem Deed.Bd.mono {d : Deed} {B C : Int} (b : d.Bd B) (h : B ≤ C) : d.Bd C := by
  obtain ⟨⟨b1, b2⟩, b3, b4⟩ := b
  exact ⟨⟨by omega, by omega⟩, fun l e => by have := b3 l e; omega, fun l e => by have := b4 l e; omega⟩
end L3

namespace L3
open PySem PySem.Spec PyProof.Rows L2
end L3

namespace L3
open PySem PySem.Spec PyProof.Rows L2
section
variable {X : Cx}
def rEqL (K : PySem.W.Frag) (neg : Bool) : R2 := fun x y H Q => ∃ a b xs ys, x = .ref a ∧ y = .ref b ∧ SqL K H a xs ∧ SqL K H b ys ∧ xs.all flatV = true ∧ ys.all flatV = true ∧ Q (.bl (if neg then !eqVs xs ys else eqVs xs ys)) H
theorem op_neL {k : Nat} (hr : Room k X.A) : OpR X (compareOp .NotEq) (rEqL X.K true) := by
  intro pins s σ H x y v u Q I rx ry h
  obtain ⟨a, b, xs, ys, rfl, rfl, ha, hb, f1, f2, q⟩ := h
  cases rx; cases ry
  obtain ⟨us, r1, t1, _⟩ := I.list ha
  obtain ⟨ws, r2, t2, _⟩ := I.list hb
  by_cases hl : us.length = ws.length
  · refine SeqAt.RcNeAt.lists t1.isList t2.isList (by simpa using hl) hr.units0 (eqs_at r1 r2 f1 f2) _ _ _ _ ?_
    have e := eqVs_range (xs := xs) (ys := ys)
    have e2 : (xs.length == ys.length) = true := by rw [beq_iff_eq, r1.length, r2.length]; exact hl
    rw [e2, Bool.and_true, show min xs.length ys.length = xs.length by rw [r1.length, r2.length]; omega] at e
    rw [List.size_toArray, ← r1.length, e]
    exact ⟨.bl _, H, I, rfl, q⟩
  · refine SeqAt.RcNeAt.lists_lengths t1.isList t2.isList (by simpa using hl) hr.units0 _ _ _ _ ?_
    have e : eqVs xs ys = false := by
      cases z : eqVs xs ys with
      | false => rfl
      | true => exact absurd (by rw [← r1.length, ← r2.length]; exact eqVs_len z) hl
    rw [e] at q
    exact ⟨.bl _, H, I, rfl, q⟩
theorem op_eqL {k : Nat} (hr : Room k X.A) : OpR X (compareOp .Eq) (rEqL X.K false) := by
  intro pins s σ H x y v u Q I rx ry h
  obtain ⟨a, b, xs, ys, rfl, rfl, ha, hb, f1, f2, q⟩ := h
  cases rx; cases ry
  obtain ⟨us, r1, t1, _⟩ := I.list ha
  obtain ⟨ws, r2, t2, _⟩ := I.list hb
  by_cases hl : us.length = ws.length
  · refine SeqAt.eq_listAt t1.isList t2.isList (by simpa using hl) hr.units0 (eqs_at r1 r2 f1 f2) ?_
    have e := eqVs_range (xs := xs) (ys := ys)
    have e2 : (xs.length == ys.length) = true := by rw [beq_iff_eq, r1.length, r2.length]; exact hl
    rw [e2, Bool.and_true, show min xs.length ys.length = xs.length by rw [r1.length, r2.length]; omega] at e
    rw [List.size_toArray, ← r1.length, e]
    exact ⟨.bl _, H, I, rfl, q⟩
  · refine SeqAt.eq_list_lengthsAt t1.isList t2.isList (by simpa using hl) hr.units0 ?_
    have e : eqVs xs ys = false := by
      cases z : eqVs xs ys with
      | false => rfl
      | true => exact absurd (by rw [← r1.length, ← r2.length]; exact eqVs_len z) hl
    rw [e] at q
    exact ⟨.bl _, H, I, rfl, q⟩
end
theorem Grow.sqL {H H' : Hp} (g : Grow [] H H') {K : PySem.W.Frag} {a : Addr} {xs : List V} (h : SqL K H a xs) : SqL K H' a xs := by
  rcases h with (h | ⟨o, h⟩) | h
  · exact .inl (.inl (g.keep _ _ (by simp) h))
  · exact .inl (.inr ⟨o, g.frz _ _ _ h⟩)
  · exact .inr h
section
variable {K : PySem.W.Frag} {a : Addr} {xs : List V} {n : Nat} {tt : TT} {te : TE} {Q : VK} {σ : L2.St} {H : Hp}
end
theorem nd {d e : Deed} (h : d = e) : (!decide (d = e)) = false := by rw [decide_eq_true h]; rfl
end L3

namespace L3
open PySem PySem.Spec PyProof.Rows L2
mutual
inductive Dat (K : PySem.W.Frag) (H : Hp) : V → PyData → Prop
  | non : Dat K H .non .none
  | bl (b : Bool) : Dat K H (.bl b) (.bool b)
  | int (i : Int) : Dat K H (.int i) (.int i)
  | tup {a : Addr} {xs : List V} {ds : List PyData} : SqT K H a xs → DatAll K H xs ds → Dat K H (.ref a) (.tuple ds)
  | lst {a : Addr} {xs : List V} {ds : List PyData} : SqL K H a xs → DatAll K H xs ds → Dat K H (.ref a) (.list ds)
inductive DatAll (K : PySem.W.Frag) (H : Hp) : List V → List PyData → Prop
  | nil : DatAll K H [] []
  | cons {x : V} {xs : List V} {d : PyData} {ds : List PyData} : Dat K H x d → DatAll K H xs ds → DatAll K H (x :: xs) (d :: ds)
end
section
variable {X : Cx} {pins : List (Addr × Obj)} {σ : L2.St} {H : Hp} {s : Shared}
mutual
theorem Dat.reads (I : Inv X pins σ H s) : ∀ {x : V} {d : PyData} {u : Value}, Dat X.K H x d → RelV x u → ∃ as, Reads s.heap u d as
  | _, _, u, .non, r => by
    cases (show u = Value.none from r)
    exact ⟨_, .none⟩
  | _, _, u, .bl b, r => by
    cases (show u = Value.bool b from r)
    exact ⟨_, .bool b⟩
  | _, _, u, .int i, r => by
    obtain ⟨t, rfl⟩ := r
    exact ⟨_, .int i t⟩
  | _, _, u, .tup (a := a) hs hd, r => by
    cases (show u = Value.ref a from r)
    obtain ⟨its, r1, ⟨o, e1, e2, n, e3⟩, _⟩ := I.tuple hs
    obtain ⟨as, q⟩ := DatAll.reads I hd r1
    exact ⟨_, .tuple e1 e2 e3 q⟩
  | _, _, u, .lst (a := a) hs hd, r => by
    cases (show u = Value.ref a from r)
    obtain ⟨its, r1, ⟨o, n, e1, e2, _, e3⟩, _⟩ := I.list hs
    obtain ⟨as, q⟩ := DatAll.reads I hd r1
    exact ⟨_, .list e1 e2 e3 q⟩
theorem DatAll.reads (I : Inv X pins σ H s) : ∀ {xs : List V} {ds : List PyData} {us : List Value}, DatAll X.K H xs ds → Vals xs us → ∃ as, ReadsAll s.heap us ds as
  | _, _, _, .nil, .nil => ⟨_, .nil⟩
  | _, _, _, .cons h t, .cons r rs => by
    obtain ⟨as, q⟩ := Dat.reads I h r
    obtain ⟨bs, q2⟩ := DatAll.reads I t rs
    exact ⟨_, .cons q q2⟩
end
end
mutual
/-- a bound of the text's length -/
def wtD : PyData → Nat
  | .list xs | .tuple xs => wtAll xs + 3
  | .int _ => 1921
  | .none | .bool _ => 5
  | _ => 20000000
def wtAll : List PyData → Nat
  | [] => 0
  | x :: xs => wtD x + 2 + wtAll xs
end
mutual
theorem shown_wt : ∀ {d : PyData}, d.showable = true → d.hasDict = false → wtD d ≤ 16777216 → d.shown.length ≤ wtD d
  | .none, _, _, _ => by decide
  | .bool b, _, _, _ => by cases b <;> decide
  | .int i, h, _, _ => int_text_len_1921 (of_decide_eq_true h)
  | .str _, _, _, z => absurd (show 20000000 ≤ 16777216 from z) (by decide)
  | .list xs, h, h2, z => by
    have z' : wtAll xs + 3 ≤ 16777216 := z
    have q := shown_wtAll (xs := xs) h h2 (by omega)
    have l := listText_len_le (PyData.shownAll xs)
    show (listText (PyData.shownAll xs)).length ≤ wtAll xs + 3
    omega
  | .tuple xs, h, h2, z => by
    have z' : wtAll xs + 3 ≤ 16777216 := z
    have q := shown_wtAll (xs := xs) h h2 (by omega)
    have l := tupleText_len_le (PyData.shownAll xs)
    show (tupleText (PyData.shownAll xs)).length ≤ wtAll xs + 3
    omega
  | .dict _, _, h, _ => by cases h
theorem shown_wtAll : ∀ {xs : List PyData}, PyData.showableAll xs = true → PyData.hasDictAll xs = false → wtAll xs ≤ 16777216 → ((PyData.shownAll xs).map (·.length)).sum + 2 * (PyData.shownAll xs).length ≤ wtAll xs
  | [], _, _, _ => by decide
  | x :: xs, h, h2, z => by
    have h' : (x.showable && PyData.showableAll xs) = true := h
    have h2' : (x.hasDict || PyData.hasDictAll xs) = false := h2
    rw [Bool.and_eq_true] at h'
    rw [Bool.or_eq_false_iff] at h2'
    have z' : wtD x + 2 + wtAll xs ≤ 16777216 := z
    have q1 := shown_wt (d := x) h'.1 h2'.1 (by omega)
    have q2 := shown_wtAll (xs := xs) h'.2 h2'.2 (by omega)
    show (x.shown.length :: (PyData.shownAll xs).map (·.length)).sum + 2 * ((PyData.shownAll xs).length + 1) ≤ wtD x + 2 + wtAll xs
    rw [List.sum_cons]
    omega
end
end L3

namespace L3
open PySem PySem.Spec PyProof.Rows L2
section
variable {X : Cx} {a b : Expr} {rest : List Expr} {ta tb : TE} {pos : Pos}
end
def oD : Option Int → PyData
  | none => .none
  | some i => .int i
end L3

namespace L3
open PySem PySem.Spec PyProof.Rows L2
section
variable {K : PySem.W.Frag} {a : Addr} {xs : List V} {lo : Int} {n k : Nat} {te : TE} {Q : VK} {σ : L2.St} {H : Hp}
theorem comp_rng (Pv : Nat → List V → Hp → Prop) (h0 : Pv 0 [] H)
    (hs : ∀ i ys H', i < n → Pv i ys H' → te (σ.set k (some (.int (lo + i)))) H' fun y H5 => ys.length < sizeLine ∧ Pv (i + 1) (ys ++ [y]) H5)
    (hd : ∀ ys H', Pv n ys H' → ∀ l, H' l = none → Q (.ref l) (upd H' l (.lst ys))) : CompW (Itr lo n) σ H (gName k) tTrue te Q := by
  refine ⟨fun i m ys σ' H' => m = n - i ∧ i ≤ n ∧ (σ' = σ ∨ ∃ e, σ' = σ.set k e) ∧ Pv i ys H', ⟨n, by simp, Nat.zero_le _, .inl rfl, h0⟩, ?_⟩
  rintro i m ys σ' H' ⟨rfl, hi, hσ, p⟩
  by_cases hlt : i < n
  · refine .inr ⟨hlt, fun zs σ2 H2 => (σ2 = σ ∨ ∃ e, σ2 = σ.set k e) ∧ Pv (i + 1) zs H2, fun zs σ2 H2 p' => ⟨n - (i + 1), by omega, rfl, hlt, p'.1, p'.2⟩, fun x H2 y => ?_⟩
    obtain ⟨e, y⟩ := y
    subst e y
    have e : σ'.set k (some (V.int (lo + i))) = σ.set k (some (V.int (lo + i))) := by
      rcases hσ with rfl | ⟨e, rfl⟩
      · rfl
      · rw [List.set_set]
    show if true = true then te (σ'.set k (some (V.int (lo + i)))) H2 (fun y H5 => ys.length < sizeLine ∧ ((σ'.set k (some (V.int (lo + i))) = σ ∨ ∃ e, σ'.set k (some (V.int (lo + i))) = σ.set k e) ∧ Pv (i + 1) (ys ++ [y]) H5)) else ((σ'.set k (some (V.int (lo + i))) = σ ∨ ∃ e, σ'.set k (some (V.int (lo + i))) = σ.set k e) ∧ Pv (i + 1) ys H2)
    rw [if_pos rfl, e]
    have e2 : (fun (y : V) (H5 : Hp) => ys.length < sizeLine ∧ ((σ.set k (some (V.int (lo + i))) = σ ∨ ∃ e, σ.set k (some (V.int (lo + i))) = σ.set k e) ∧ Pv (i + 1) (ys ++ [y]) H5)) = fun y H5 => ys.length < sizeLine ∧ Pv (i + 1) (ys ++ [y]) H5 := by
      funext y H5
      exact propext ⟨fun z => ⟨z.1, z.2.2⟩, fun z => ⟨z.1, .inr ⟨_, rfl⟩, z.2⟩⟩
    rw [e2]
    exact hs i ys H2 hlt p
  · have e : i = n := by omega
    subst e
    exact .inl ⟨Nat.le_refl _, hd ys H' p⟩
theorem comp_listP (Pv : Nat → List V → Hp → Prop) (h0 : Pv 0 [] H) (hl : ∀ i ys H', Pv i ys H' → SqL K H' a xs)
    (hs : ∀ i x ys H', xs[i]? = some x → Pv i ys H' → te (σ.set k (some x)) H' fun y H5 => ys.length < sizeLine ∧ Pv (i + 1) (ys ++ [y]) H5)
    (hd : ∀ ys H', Pv xs.length ys H' → ∀ l, H' l = none → Q (.ref l) (upd H' l (.lst ys))) : CompW (Itl K a) σ H (gName k) tTrue te Q := by
  refine comp_list (xs := xs) (fun i ys σ' H' => (σ' = σ ∨ ∃ e, σ' = σ.set k e) ∧ Pv i ys H') ⟨.inl rfl, h0⟩ (fun i ys σ' H' _ p => hl i ys H' p.2) ?_ (fun ys σ' H' p l hl => hd ys H' p.2 l hl)
  rintro i x ys σ' H' hx ⟨hσ, p⟩
  have e : σ'.set k (some x) = σ.set k (some x) := by
    rcases hσ with rfl | ⟨e, rfl⟩
    · rfl
    · rw [List.set_set]
  show if true = true then te (σ'.set k (some x)) H' (fun y H5 => ys.length < sizeLine ∧ ((σ'.set k (some x) = σ ∨ ∃ e, σ'.set k (some x) = σ.set k e) ∧ Pv (i + 1) (ys ++ [y]) H5)) else ((σ'.set k (some x) = σ ∨ ∃ e, σ'.set k (some x) = σ.set k e) ∧ Pv (i + 1) ys H')
  rw [if_pos rfl, e]
  have e2 : (fun (y : V) (H5 : Hp) => ys.length < sizeLine ∧ ((σ.set k (some x) = σ ∨ ∃ e, σ.set k (some x) = σ.set k e) ∧ Pv (i + 1) (ys ++ [y]) H5)) = fun y H5 => ys.length < sizeLine ∧ Pv (i + 1) (ys ++ [y]) H5 := by
    funext y H5
    exact propext ⟨fun z => ⟨z.1, z.2.2⟩, fun z => ⟨z.1, .inr ⟨_, rfl⟩, z.2⟩⟩
  rw [e2]
  exact hs i x ys H' hx p
end
theorem Grow.fresh {m : List Addr} {H H' : Hp} (h : ∀ b ∈ m, H b = none) (g : Grow m H H') : Grow [] H H' :=
  ⟨fun b o _ q => g.keep b o (fun z => by rw [h b z] at q; cases q) q, g.tup, g.frz⟩
theorem Grow.less {m m' : List Addr} {H H' : Hp} (g : Grow m H H') (h : ∀ b ∈ m, b ∈ m' ∨ H b = none) : Grow m' H H' :=
  ⟨fun b o n q => g.keep b o (fun z => by
    rcases h b z with w | w
    · exact n w
    · rw [w] at q; cases q) q, g.tup, g.frz⟩
theorem Pot.ne {H : Hp} {a l : Addr} (p : Pot H a) (h : H l = none) : l ∉ [a] := by
  intro z
  obtain ⟨z0, z1, hz, _⟩ := p
  rw [List.mem_singleton.mp z, hz] at h
  cases h
structure Ask where
  hand : Int
  box : Int
  deed : Deed
def AskAt (K : PySem.W.Frag) (H : Hp) (x : V) (k : Ask) : Prop := ∃ r rd, x = .ref r ∧ SqT K H r [.int k.hand, .int k.box, .ref rd] ∧ SqT K H rd k.deed.vs
def AllA (K : PySem.W.Frag) (H : Hp) : List V → List Ask → Prop
  | [], [] => True
  | x :: xs, k :: ks => AskAt K H x k ∧ AllA K H xs ks
  | _, _ => False
def BoardAt (K : PySem.W.Frag) (H : Hp) (x : V) (b : List Int) : Prop := ∃ r, x = .ref r ∧ SqT K H r (b.map V.int)
theorem Grow.board {m : List Addr} {H H' : Hp} (g : Grow m H H') {K : PySem.W.Frag} {x : V} {b : List Int} (h : BoardAt K H x b) : BoardAt K H' x b := by
  obtain ⟨r, e, h1⟩ := h
  exact ⟨r, e, g.sqT h1⟩
theorem AllA.len {K : PySem.W.Frag} {H : Hp} : ∀ {xs : List V} {ks : List Ask}, AllA K H xs ks → xs.length = ks.length
  | [], [], _ => rfl
  | _ :: xs, _ :: ks, ⟨_, t⟩ => congrArg (· + 1) (AllA.len t)
  | [], _ :: _, h => h.elim
  | _ :: _, [], h => h.elim
theorem AllA.get {K : PySem.W.Frag} {H : Hp} : ∀ {xs : List V} {ks : List Ask} {i : Nat} {x : V}, AllA K H xs ks → xs[i]? = some x → ∃ k, ks[i]? = some k ∧ AskAt K H x k
  | _ :: _, k :: _, 0, x, ⟨h, _⟩, e => by
    obtain rfl := Option.some.inj e
    exact ⟨k, rfl, h⟩
  | _ :: _, _ :: _, i + 1, x, ⟨_, t⟩, e => AllA.get (i := i) t e
  | [], [], i, x, _, e => by cases e
  | [], _ :: _, _, _, h, _ => h.elim
  | _ :: _, [], _, _, h, _ => h.elim
def InB (B : Int) (xs : List Int) : Prop := ∀ v ∈ xs, -B < v ∧ v < B
def deedD (d : Deed) : PyData := .tuple [.int d.add, oD d.lo, oD d.hi]
def Sh (d : PyData) (w n : Nat) : Prop := d.showable = true ∧ d.hasDict = false ∧ wtD d ≤ w ∧ d.depth ≤ n
theorem Sh.mono {d : PyData} {w w' n n' : Nat} (h : Sh d w n) (h1 : w ≤ w') (h2 : n ≤ n') : Sh d w' n' := ⟨h.1, h.2.1, Nat.le_trans h.2.2.1 h1, Nat.le_trans h.2.2.2 h2⟩
theorem InB.mono {B C : Int} {xs : List Int} (h : InB B xs) (hC : B ≤ C) : InB C xs := fun v hv => by have := h v hv; omega
end L3

namespace L3
open PySem PySem.Spec PyProof.Rows L2
theorem fnok_vac {P : Program} {w : World} {K : PySem.W.Frag} {mg : Str → Option Value} {base : Heap} {CX : CXT} {k : Nat} {f : Addr} {fd : FuncData} {ps : List Str} {sp : Sp} (h : ∀ vs H Q E, ¬ sp vs H Q E) : FnOk P w K mg base CX k f fd ps sp :=
  ⟨fun vs H Q E z => (h vs H Q E z).elim, by
    intros
    first
      | exact (h _ _ _ _ (by assumption)).elim⟩
inductive Tr where
  | leaf (n : Int)
  | node (l r : Tr)
def Tr.count : Tr → Int
  | .leaf _ => 1
  | .node l r => l.count + r.count
def Tr.ht : Tr → Nat
  | .leaf _ => 0
  | .node l r => max l.ht r.ht + 1
def Tr.wt : Tr → Nat
  | .leaf _ => 1
  | .node l r => l.wt + r.wt + 1
end L3

namespace L3
open PySem PySem.Spec PyProof.Rows L2
def AllR {α : Type} (R : V → α → Prop) : List V → List α → Prop
  | [], [] => True
  | x :: xs, k :: ks => R x k ∧ AllR R xs ks
  | _, _ => False
section
variable {α : Type} {R S : V → α → Prop}
theorem AllR.imp (h : ∀ x k, R x k → S x k) : ∀ {xs : List V} {ks : List α}, AllR R xs ks → AllR S xs ks
  | [], [], _ => trivial
  | _ :: _, _ :: _, ⟨a, t⟩ => ⟨h _ _ a, AllR.imp h t⟩
  | [], _ :: _, z => z.elim
  | _ :: _, [], z => z.elim
theorem AllR.len : ∀ {xs : List V} {ks : List α}, AllR R xs ks → xs.length = ks.length
  | [], [], _ => rfl
  | _ :: xs, _ :: ks, ⟨_, t⟩ => congrArg (· + 1) (AllR.len t)
  | [], _ :: _, h => h.elim
  | _ :: _, [], h => h.elim
theorem AllR.get : ∀ {xs : List V} {ks : List α} {i : Nat} {x : V}, AllR R xs ks → xs[i]? = some x → ∃ k, ks[i]? = some k ∧ R x k
  | _ :: _, k :: _, 0, x, ⟨h, _⟩, e => by
    obtain rfl := Option.some.inj e
    exact ⟨k, rfl, h⟩
  | _ :: _, _ :: _, i + 1, x, ⟨_, t⟩, e => AllR.get (i := i) t e
  | [], [], i, x, _, e => by cases e
  | [], _ :: _, _, _, h, _ => h.elim
  | _ :: _, [], _, _, h, _ => h.elim
theorem AllR.app : ∀ {xs ys : List V} {ks js : List α}, AllR R xs ks → AllR R ys js → AllR R (xs ++ ys) (ks ++ js)
  | [], _, [], _, _, h => h
  | _ :: _, _, _ :: _, _, ⟨h, t⟩, q => ⟨h, AllR.app t q⟩
  | [], _, _ :: _, _, h, _ => h.elim
  | _ :: _, _, [], _, h, _ => h.elim
theorem AllR.one {x : V} {k : α} (h : R x k) : AllR R [x] [k] := ⟨h, trivial⟩
theorem AllR.take : ∀ {xs : List V} {ks : List α} {n : Nat}, AllR R xs ks → AllR R (xs.take n) (ks.take n)
  | [], [], n, _ => by rw [List.take_nil, List.take_nil]; trivial
  | _ :: _, _ :: _, 0, _ => trivial
  | _ :: _, _ :: _, n + 1, ⟨h, t⟩ => ⟨h, AllR.take t⟩
  | [], _ :: _, _, h => h.elim
  | _ :: _, [], _, h => h.elim
end
def look : Deed := ⟨0, none, none⟩
def AllOk (ds : List Deed) : Prop := ∀ d ∈ ds, d.Ok
def runD (ds : List Deed) : Deed := ds.foldl joinD look
end L3

namespace L3
open PySem PySem.Spec PyProof.Rows L2
theorem AllR.drop {α : Type} {R : V → α → Prop} : ∀ {xs : List V} {ks : List α} {n : Nat}, AllR R xs ks → AllR R (xs.drop n) (ks.drop n)
  | [], [], n, _ => by rw [List.drop_nil, List.drop_nil]; trivial
  | _ :: _, _ :: _, 0, h => h
  | _ :: _, _ :: _, n + 1, ⟨h, t⟩ => AllR.drop (n := n) t
  | [], _ :: _, _, h => h.elim
  | _ :: _, [], _, h => h.elim
theorem AllR.cut {α : Type} {R : V → α → Prop} {xs : List V} {ks : List α} (h : AllR R xs ks) (lo hi : Option Int) : ∃ us, AllR R (cutV xs lo hi) us ∧ ∀ u ∈ us, u ∈ ks := by
  unfold cutV
  exact ⟨_, (h.drop (n := HT.sIx xs.length 0 lo)).take (n := HT.sIx xs.length xs.length hi - HT.sIx xs.length 0 lo), fun u hu => List.mem_of_mem_drop (List.mem_of_mem_take hu)⟩
end L3

namespace L3
open PySem PySem.Spec PyProof.Rows L2
theorem call_lenK {X : Cx} {K : PySem.W.Frag} (h : X.K = K) : CallR X (.builtin "len") (fun xs H Q => ∃ p ys, xs = [.ref p] ∧ (SqL K H p ys ∨ SqT K H p ys) ∧ Q (.int ys.length) H) := by subst h; exact call_len_seq
def RowsAt (K : PySem.W.Frag) (H : Hp) (x : V) (rows : List (List Int)) : Prop := ∃ r xs, x = .ref r ∧ SqT K H r xs ∧ AllR (BoardAt K H) xs rows
theorem Grow.boardsR {m : List Addr} {H H' : Hp} (g : Grow m H H') {K : PySem.W.Frag} {xs : List V} {rows : List (List Int)} (h : AllR (BoardAt K H) xs rows) : AllR (BoardAt K H') xs rows := h.imp fun _ _ z => g.board z
theorem Grow.rows {m : List Addr} {H H' : Hp} (g : Grow m H H') {K : PySem.W.Frag} {x : V} {rows : List (List Int)} (h : RowsAt K H x rows) : RowsAt K H' x rows := by
  obtain ⟨r, xs, e, h1, h2⟩ := h
  exact ⟨r, xs, e, g.sqT h1, g.boardsR h2⟩
def Rng (m : Int) (xs : List Int) : Prop := ∀ v ∈ xs, 0 ≤ v ∧ v < m
def TabOk (R M : Nat) (rows : List (List Int)) : Prop := rows.length = R ∧ ∀ row ∈ rows, row.length = M ∧ Rng M row
structure Fd (R : Nat) (tab : List (List Int)) (ns : List Int) : Prop where
  tab : TabOk R R tab
  ns : Rng R ns
end L3

namespace L3
open PySem PySem.Spec PyProof.Rows L2
section
variable {prog : Program} {w : World} {A : Around} {E : Value → Shared → Prop} {s : Shared}
theorem nx_tup_item {jt t : Addr} {i : Nat} {vs : Array Value} {v : Value} {Q : Value → Shared → Prop} (hit : s.heap.IsTupleIter jt t i) (ht : s.heap.IsTuple t vs) (hv : vs[i]? = some v)
    (hQ : ∀ h', h'.IsTupleIter jt t (i + 1) → Heap.SameBut jt s.heap h' → Q v { s with heap := h' }) : wpAny (model prog w) A (Builtin.SmallTypes.nextOf (.ref jt)) Q E s := by
  obtain ⟨oj, hoj, cj, dj⟩ := id hit
  obtain ⟨ot, hot, _, nt, dt⟩ := ht
  unfold Builtin.SmallTypes.nextOf
  refine wpAny_bind (wpAny_callSpecial?_slot (name := Str.ofString "__next__") hit.typeIs F.slot_tuple_iterator_next (wpAny_call_entry F.slot_tuple_iterator_next hit.typeIs F.entry_tuple_iterator_next ?_ (F.args_tuple_iterator_next_1 _)))
  show wpAny _ _ (field (.ref jt) 0 >>= _) _ _ s
  refine wpAny_bind (wpAny_field hoj dj (x := .ref t) rfl ?_); show wpAny _ _ (if (Value.ref t == Value.none) = true then _ else _) _ _ s
  rw [if_neg (show ¬ ((Value.ref t == Value.none) = true) by exact Bool.false_ne_true)]; show wpAny _ _ (field (.ref jt) 1 >>= _) _ _ s
  refine wpAny_bind (wpAny_field hoj dj (x := .int i 0) rfl ?_); show wpAny _ _ (seqItems? (.ref t) >>= _) _ _ s
  refine wpAny_bind (wpAny_seqItems hot dt ?_); simp only [Int.toNat_natCast, hv]
  refine wpAny_bind (wpAny_setField hoj dj (by simp) (wpAny_pure ⟨v, rfl, wpAny_pure (hQ _ ⟨_, Heap.get?_update_self _ hoj (Obj.isFreed_of_fields (Obj.data_mapFields dj _)), (Obj.cls_mapFields ..).trans cj, by rw [Obj.data_mapFields dj]; simp [rawInt]⟩ (Heap.SameBut.update ..))⟩))
theorem nx_tup_end {jt t : Addr} {i : Nat} {vs : Array Value} {Q : Value → Shared → Prop} (hh : A.handled = none) (hit : s.heap.IsTupleIter jt t i) (ht : s.heap.IsTuple t vs) (hv : vs[i]? = none)
    (hE : ∀ h' e, Heap.ExtBut jt s.heap h' → (∃ o, h'.get? e = some o ∧ o.cls = .type "StopIteration") → E (.ref e) { s with heap := h' }) : wpAny (model prog w) A (Builtin.SmallTypes.nextOf (.ref jt)) Q E s := by
  obtain ⟨oj, hoj, cj, dj⟩ := id hit
  obtain ⟨ot, hot, _, nt, dt⟩ := ht
  unfold Builtin.SmallTypes.nextOf
  refine wpAny_bind (wpAny_callSpecial?_slot (name := Str.ofString "__next__") hit.typeIs F.slot_tuple_iterator_next (wpAny_call_entry F.slot_tuple_iterator_next hit.typeIs F.entry_tuple_iterator_next ?_ (F.args_tuple_iterator_next_1 _)))
  show wpAny _ _ (field (.ref jt) 0 >>= _) _ _ s
  refine wpAny_bind (wpAny_field hoj dj (x := .ref t) rfl ?_); show wpAny _ _ (if (Value.ref t == Value.none) = true then _ else _) _ _ s
  rw [if_neg (show ¬ ((Value.ref t == Value.none) = true) by exact Bool.false_ne_true)]; show wpAny _ _ (field (.ref jt) 1 >>= _) _ _ s
  refine wpAny_bind (wpAny_field hoj dj (x := .int i 0) rfl ?_); show wpAny _ _ (seqItems? (.ref t) >>= _) _ _ s
  refine wpAny_bind (wpAny_seqItems hot dt ?_); simp only [Int.toNat_natCast, hv]
  refine wpAny_bind (wpAny_rule (wpAny_bind (wpAny_setField hoj dj (by simp) ?_))); show wpAny _ _ (newExc (.type "StopIteration") [] >>= _) _ _ _
  refine wpAny_bind ?_; simp only [newExc, newTuple]
  refine wpAny_bind (wpAny_newObj_type ?_ (by size_fits)); refine wpAny_bind (m := firstArgMember _ _) (wpAny_of_eq (a := Value.none) (by first | rfl | (simp only [firstArgMember]; rfl)) ?_)
  refine wpAny_newObj_type ?_ (by size_fits); simp only [raiseNew]
  refine wpAny_bind (wpAny_handled ?_); (first | rw [show A.in1.handled = none from hh] | rw [hh])
  exact wpAny_bind (wpAny_pure (wpAny_throw (hE _ _ (((Heap.SameBut.update ..).extBut.push _).push _) ⟨_, Heap.get?_push_size _ rfl, rfl⟩)))
end
theorem draws_tup {prog : Program} {w : World} {A : Around} (hh : A.handled = none) (jt t : Addr) (hne : t ≠ jt) (vs : Array Value) :
    Draws prog w A jt [jt, t] vs.size (fun i v => vs[i]? = some v) (fun i h => h.IsTupleIter jt t i ∧ h.IsTuple t vs) where
  live := fun _ _ st => let ⟨o, ho, _⟩ := st.1; ⟨o, ho⟩
  frame := fun _ _ _ st hk => ⟨st.1.at (hk jt (by simp)), st.2.at (hk t (by simp))⟩
  item := fun i s Q E hi st hQ => nx_tup_item st.1 st.2 (v := vs[i]) (by simp [hi]) fun h' hit' hs' => hQ _ h' s.toks (by simp [hi]) ⟨hit', st.2.extBut hs'.extBut hne⟩ hs'
  done := fun s Q E st hE => nx_tup_end hh st.1 st.2 (by simp) hE
theorem draws_end {prog : Program} {w : World} {A : Around} (hh : A.handled = none) (jt t : Addr) (vs : Array Value) {i : Nat} (hv : vs[i]? = none) :
    Draws prog w A jt [jt, t] i (fun _ _ => True) (fun j h => j = i ∧ h.IsTupleIter jt t i ∧ h.IsTuple t vs) where
  live := fun _ _ st => let ⟨o, ho, _⟩ := st.2.1; ⟨o, ho⟩
  frame := fun _ _ _ st hk => ⟨st.1, st.2.1.at (hk jt (by simp)), st.2.2.at (hk t (by simp))⟩
  item := fun j s Q E hj st hQ => absurd st.1 (Nat.ne_of_lt hj)
  done := fun s Q E st hE => nx_tup_end hh st.2.1 st.2.2 hv hE
section
variable {prog : Program} {w : World} {A : Around} {E : Value → Shared → Prop} {s : Shared}
open AutoSeq1 (wpAny_loadPart')
end
section
variable {X : Cx} {pins : List (Addr × Obj)} {σ : L2.St} {H : Hp} {s : Shared} {h' : Heap}
theorem turnedL {fp : List Addr} {t' : Nat} (I : Inv X pins σ H s) (k : ∀ b o, b ∉ fp → s.heap.get? b = some o → h'.get? b = some o) (ff : ∀ b ∈ fp, FpOk X pins H b) : Inv X pins σ H { s with heap := h', toks := t' } := by
  have nit : ∀ b u, H b = some u → b ∉ fp := fun b u e z => by rw [(ff b z).1] at e; cases e
  refine I.step (g' := s.gens) (d' := s.drawn) (ch := fp) (fun b hb => ?_) (fun b o _ _ hc e _ => k b o hc e) (fun b o _ _ hc e _ => ⟨o.slots, k b o hc e⟩) (fun _ _ _ _ n => n) (fun b o hc e => ⟨o, k b o hc e⟩) (fun _ _ e => e) (fun _ _ _ e => e) (fun b ps e => ⟨#[], by rw [e]; simp⟩) (fun m hm => ?_) (fun b u e => ?_) I.bare
  · obtain ⟨_, f1, _, f3, f4, f5⟩ := ff b hb
    exact ⟨f3, f1, f4, f5⟩
  · obtain ⟨o, es, ep, ho, r⟩ := hm
    exact ⟨o, es, ep, k _ o (fun z => (ff _ z).2.1 rfl) ho, r⟩
  · refine (I.hok b u e).stay (fun c v hc q => k c v ?_ q) (fun _ q => q) fun _ _ q => q
    rcases hc with z | z
    · rw [z]; exact nit b u e
    · exact nit c _ z
theorem turnLaid {fp : List Addr} {T : Addr} {o : HO} {t' : Nat} (I : Inv X pins σ H s) (k : ∀ b o, b ∉ fp → s.heap.get? b = some o → h'.get? b = some o) (ff : ∀ b ∈ fp, FpOk X pins H b) (hT : s.heap.objs.size ≤ T)
    (new : ObjOk X.prog X.w (upd H T o) h' T o) : Inv X pins σ (upd H T o) { s with heap := h', toks := t' } := by
  have hn : H T = none := I.hok.fresh hT
  have I1 : Inv X pins σ H { s with heap := h', toks := t' } := turnedL I k ff
  have hok : HOk X.prog X.w (upd H T o) h' := HOk.track I1.hok hn new
  refine I.step (g' := s.gens) (d' := s.drawn) (ch := fp) (fun b hb => ?_) (fun b o _ _ hc e _ => k b o hc e) (fun b o _ _ hc e _ => ⟨o.slots, k b o hc e⟩) (fun b u _ e n => by rw [upd_ne (Nat.ne_of_lt (Nat.lt_of_lt_of_le (Heap.lt_size e) hT))]; exact n) (fun b o hc e => ⟨o, k b o hc e⟩)
    (fun b xs e => by rw [upd_ne (ne_of_none e hn)]; exact e) (fun b u xs e => by rw [upd_ne (ne_of_none e hn)]; exact e) (fun b ps e => ⟨#[], by rw [upd_ne (ne_of_none e hn), e]; simp⟩) (fun m hm => ?_) hok I.bare
  · obtain ⟨_, f1, _, f3, f4, f5⟩ := ff b hb
    exact ⟨f3, f1, f4, f5⟩
  · obtain ⟨o, es, ep, ho, r⟩ := hm
    exact ⟨o, es, ep, k _ o (fun z => (ff _ z).2.1 rfl) ho, r⟩
end
section
variable {X : Cx} {elts : List Expr} {kt : Nat} {pt : Pos}
theorem b_enum : bootBuiltins "enumerate" = some (.type "enumerate") := by decide +kernel
end
end L3

namespace L3
open PySem PySem.Spec PyProof.Rows L2
theorem getDd {ds : List Deed} {i : Nat} (h : i < ds.length) : ds[i]? = some (ds.getD i look) := by
  rw [List.getD_eq_getElem?_getD, List.getElem?_eq_getElem h]; rfl
def atBox (j : Int) (ks : List Ask) : List Deed := (ks.filter fun k => decide (k.box = j)).map Ask.deed
structure GInv (b : List Int) (ks : List Ask) (g : List Deed × List Deed) (p : List Int × List Int) : Prop where
  l1 : g.1.length = b.length
  l2 : g.2.length = ks.length
  p1 : p.1.length = ks.length
  p2 : p.2.length = b.length
  bd1 : ∀ d ∈ g.1, d.Ok ∧ d.Bd (ks.length * 10 ^ 30)
  bd2 : ∀ d ∈ g.2, d.Ok ∧ d.Bd (ks.length * 10 ^ 30)
  run : ∀ j : Nat, j < b.length → g.1.getD j look = runD (atBox j ks)
  val : ∀ j : Nat, j < b.length → p.2.getD j 0 = (g.1.getD j look).mk' (b.getD j 0)
  ans : ∀ i k, ks[i]? = some k → p.1.getD i 0 = (g.2.getD i look).mk' (b.getD k.box.toNat 0)
theorem AllR.set {α : Type} {R : V → α → Prop} {x : V} {k : α} (h : R x k) : ∀ {xs : List V} {ks : List α} {n : Nat}, AllR R xs ks → AllR R (xs.set n x) (ks.set n k)
  | [], [], n, _ => by cases n <;> trivial
  | _ :: _, _ :: _, 0, ⟨_, t⟩ => ⟨h, t⟩
  | _ :: _, _ :: _, n + 1, ⟨a, t⟩ => ⟨a, AllR.set h t⟩
  | [], _ :: _, _, z => z.elim
  | _ :: _, [], _, z => z.elim
section
variable {K : PySem.W.Frag} {a : Addr} {xs : List V} {k : Nat} {tt : TT} {te : TE} {Q : VK} {σ : L2.St} {H : Hp}
theorem comp_tupPT (p : V → Bool) (Pv : Nat → List V → Hp → Prop) (h0 : Pv 0 [] H) (hl : ∀ i ys H', Pv i ys H' → SqT K H' a xs)
    (ht : ∀ x H' (R : Bool → Hp → Prop), x ∈ xs → R (p x) H' → tt (σ.set k (some x)) H' R)
    (hs : ∀ i x ys H', xs[i]? = some x → Pv i ys H' → p x = true → te (σ.set k (some x)) H' fun y H5 => ys.length < sizeLine ∧ Pv (i + 1) (ys ++ [y]) H5)
    (hn : ∀ i x ys H', xs[i]? = some x → Pv i ys H' → p x = false → Pv (i + 1) ys H')
    (hd : ∀ ys H', Pv xs.length ys H' → ∀ l, H' l = none → Q (.ref l) (upd H' l (.lst ys))) : CompW (Itt K a) σ H (gName k) tt te Q := by
  refine comp_tup (xs := xs) (fun i ys σ' H' => (σ' = σ ∨ ∃ e, σ' = σ.set k e) ∧ Pv i ys H') ⟨.inl rfl, h0⟩ (fun i ys σ' H' _ p => hl i ys H' p.2) ?_ (fun ys σ' H' p l hl => hd ys H' p.2 l hl)
  rintro i x ys σ' H' hx ⟨hσ, pv⟩
  have e : σ'.set k (some x) = σ.set k (some x) := by
    rcases hσ with rfl | ⟨e, rfl⟩
    · rfl
    · rw [List.set_set]
  show tt (σ'.set k (some x)) H' _
  rw [e]
  refine ht x H' _ (List.mem_of_getElem? hx) ?_
  by_cases c : p x = true
  · rw [if_pos c]
    have e2 : (fun (y : V) (H5 : Hp) => ys.length < sizeLine ∧ ((σ.set k (some x) = σ ∨ ∃ e, σ.set k (some x) = σ.set k e) ∧ Pv (i + 1) (ys ++ [y]) H5)) = fun y H5 => ys.length < sizeLine ∧ Pv (i + 1) (ys ++ [y]) H5 := by
      funext y H5
      exact propext ⟨fun z => ⟨z.1, z.2.2⟩, fun z => ⟨z.1, .inr ⟨_, rfl⟩, z.2⟩⟩
    have z := hs i x ys H' hx pv c
    rw [← e2] at z
    exact z
  · rw [if_neg c]
    exact ⟨.inr ⟨_, rfl⟩, hn i x ys H' hx pv (by simpa using c)⟩
end
section
variable {K : PySem.W.Frag} {a : Addr} {xs : List V} {k : Nat} {tt : TT} {te : TE} {Q : VK} {σ : L2.St} {H : Hp}
end
end L3

namespace L3
open PySem PySem.Spec PyProof.Rows L2
def figI (k st l : Int) : Int := Builtin.bitAnd (l / 2 ^ (k - st).toNat) 1
def wfI (k st l w : Int) : Int := Builtin.bitXor l (Builtin.bitXor (figI k st l) w * 2 ^ (k - st).toNat)
def swI (k st l : Int) : Int := Builtin.bitOr (l / 2 ^ (k - st + 1).toNat * 2 ^ (k - st).toNat) (Builtin.bitAnd l (1 * 2 ^ (k - st).toNat - 1))
def figsL (k n : Int) : List Int := (List.range k.toNat).map fun i : Nat => Builtin.bitAnd (n / 2 ^ (k - 1 - (0 + (i : Int))).toNat) 1
def numL (xs : List Int) : Int := xs.foldl (fun f o => 2 * f + o) 0
def lineL (k h g : Int) (n : Nat) : Int := numL ((figsL k g).take n ++ (figsL k h).drop n)
def numsL (k l : Int) (st : Nat) : Int := numL ((figsL k l).take (st - 1) ++ (figsL k l).drop st)
end L3

namespace L3
open PySem PySem.Spec PyProof.Rows L2
section
variable {X : Cx}
theorem call_isiK {K : PySem.W.Frag} (h : X.K = K) : CallR X (.builtin "isinstance") (rIsi K) := by subst h; exact call_isi
end
theorem mulOkL {i j : Int} (h : -(2 ^ 60) < i ∧ i < 2 ^ 60) : IntMulOk i j := PySem.IntMulOk.of_left (Nat.le_trans ((PySem.intBits_le_iff (m := 60)).mpr (by obtain ⟨a, b⟩ := h; omega)) (by decide))
end L3

namespace L3
open PySem PySem.Spec PyProof.Rows L2
section
variable {prog : Program} {w : World} {A : Around} {R : Result → Shared → Prop} {s : Shared}
variable {elt t0 i0 t1 i1 : Expr} {ifs : List Expr} {scope : Scope} {pos : Pos} {it acc : Value} {env : Env}
end
section
variable {Y : Cx} {pins : List (Addr × Obj)} {D it2 : Addr} {fp2 : List Addr} {tn2 : Nat → Heap → Prop} {J2 : It} {y : Str} {py pos : Pos} {elt t0 i0 i1 : Expr} {ifs : List Expr} {scope : Scope} {g1 : TG} {tt : TT} {te : TE} {Out : List V → L2.St → Hp → Prop} {W : Nat → Nat → List V → L2.St → Hp → Prop} {R : Result → Shared → Prop}
end
section
variable {X : Cx} {pins : List (Addr × Obj)} {σ : L2.St} {H2 : Hp} {s₂ : Shared} {it : Addr} {fp : List Addr} {tn : Nat → Heap → Prop} {J : It} {scope : Scope} {cl : List (Str × Addr)} {N' : List Str} {sub : List (Option Nat)}
end
end L3

namespace L3
open PySem PySem.Spec PyProof.Rows L2
section
variable {X : Cx} {pins : List (Addr × Obj)} {σ : L2.St} {H2 : Hp} {s₂ : Shared} {it : Addr} {fp : List Addr} {tn : Nat → Heap → Prop} {J : It} {scope : Scope} {cl : List (Str × Addr)} {N' : List Str} {sub : List (Option Nat)}
end
section
variable {X : Cx} {scope : Scope} {N' : List Str} {sub : List (Option Nat)} {x y : Str} {px py pos : Pos} {elt i0 i1 : Expr} {ifs : List Expr} {wi wi1 : TI} {g0 g1 : TG} {tt : TT} {te : TE}
end
end L3

namespace L3
open PySem PySem.Spec PyProof.Rows L2
section
variable {X : Cx}
end
end L3

namespace L3
open PySem PySem.Spec PyProof.Rows L2
theorem Deed.Sm.bd2 {d : Deed} (h : d.Sm) : d.Bd (2 * 10 ^ 30) := h.bd.mono (by decide)
end L3

namespace L3
open PySem PySem.Spec PyProof.Rows L2
section
variable {X : Cx} {pins : List (Addr × Obj)} {σ : L2.St} {H2 : Hp} {s₂ : Shared} {it : Addr} {fp : List Addr} {tn : Nat → Heap → Prop} {J : It} {scope : Scope} {cl : List (Str × Addr)} {N' : List Str} {sub : List (Option Nat)}
theorem comp_runT {C D : Addr} {s₀ : Shared} {tg : Expr} {pos : Pos} {elt iter : Expr} {ifs : List Expr} {g : TG} {tt : TT} {te : TE} {Q : VK} {RR : Value → Addr → Result → Shared → Prop} {W : Nat → Nat → List V → L2.St → Hp → Prop}
    (I : Inv X pins σ H2 s₂) (hcalm : X.calm = true) (T : Turn X.prog X.w X.K tg J fp it tn) (f2 : ∀ b ∈ fp, FpOk X pins H2 b) (hfp : ∀ b ∈ fp, b < s₂.heap.objs.size)
    (hs₀ : ∀ b o, s₂.heap.get? b = some o → s₀.heap.get? b = some o) (hos : s₀.os = s₂.os) (hD : s₂.heap.objs.size ≤ D) (hC : s₂.heap.objs.size ≤ C) (hDC : D ≠ C)
    (hcl1 : ∀ x c, cl.lookup x = some c → X.env.cells.lookup x = some c)
    (hg : PG (cxC X N' scope cl C D fp s₀ H2) tg g) (ht : PIfs (cxC X N' scope cl C D fp s₀ H2) ifs tt) (he : PE (cxC X N' scope cl C D fp s₀ H2) elt te)
    (turn : ∀ i m ys σ' H', W i m ys σ' H' →
      (J.stop i H' ∧ ∀ l, H' l = none → Q (.ref l) (upd H' l (.lst ys))) ∨
      (J.go i H' ∧ ∃ Nn : List V → L2.St → Hp → Prop, (∀ zs σ2 H2, Nn zs σ2 H2 → ∃ m', m' < m ∧ W (i + 1) m' zs σ2 H2) ∧
        ∀ x H2, J.yld i H' x H2 → g x σ' H2 fun σ2 H3 => tt σ2 H3 fun b H4 => if b = true then te σ2 H4 fun y H5 => ys.length < sizeLine ∧ Nn (ys ++ [y]) σ2 H5 else Nn ys σ2 H4))
    (hRR : ∀ (D C : Addr) (oC : Obj) (m : Str → Option Value) (s' : Shared) (Hf : Hp), Inv X (pins ++ [(C, oC)]) σ Hf s' → s'.heap.Ns C m → FpOk X pins Hf C → Q (.ref D) Hf → RR (.ref D) C (.ok .next) s')
    (n : Nat) (s : Shared) (h : ∃ i ys us k σ' H', Inv (cxC X N' scope cl C D fp s₀ H2) pins σ' H' s ∧ tn i s.heap ∧ (∀ b ∈ fp, H' b = none) ∧ H' D = none ∧
      s.heap.get? D = some { cls := .type "list", data := .seq (us : List Value).toArray k } ∧ Vals ys us ∧ ys.length ≤ sizeLine ∧ W i n ys σ' H') :
    codeAny (model X.prog X.w) X.A (.compLoop (.ListComp elt [⟨tg, iter, ifs, 0⟩] scope pos) 0 (.ref it) (.ref D) (compEnvC scope cl C X.env)) (RR (.ref D) C) s := by
  have frsz : ∀ b ∈ frs X.stack, b < s₂.heap.objs.size := fun b hb => by
    rcases List.mem_cons.mp (I.stkSub b hb) with z | z
    · rw [z]; exact I.lt
    · exact Nat.lt_of_not_le fun q => I.nofs q z
  have cells : ∀ x c, cl.lookup x = some c → c < s₂.heap.objs.size := fun x c e => let ⟨v, q⟩ := I.cell x c (hcl1 x c e); q.lt
  have pinsz : ∀ p ∈ X.pn ++ pins, p.1 < s₂.heap.objs.size := fun p hp => Heap.lt_size (I.pin p hp).1
  refine comp_loop (fun n s => ∃ i ys us k σ' H', Inv (cxC X N' scope cl C D fp s₀ H2) pins σ' H' s ∧ tn i s.heap ∧ (∀ b ∈ fp, H' b = none) ∧ H' D = none ∧
      s.heap.get? D = some { cls := .type "list", data := .seq (us : List Value).toArray k } ∧ Vals ys us ∧ ys.length ≤ sizeLine ∧ W i n ys σ' H') ?_ n h
  rintro n s ⟨i, ys, us, k, σ', H', I', st', fr, hn, hy, rv, hz, w'⟩
  have pD : Inv (cxC X N' scope cl C D fp s₀ H2) (pins ++ [(D, { cls := .type "list", data := .seq us.toArray k })]) σ' H' s := I'.pins_of fun p hp => by
    rcases List.mem_append.mp hp with hp | hp
    · exact I'.pin p (List.mem_append_right _ hp)
    · rw [List.mem_singleton.mp hp]
      exact ⟨hy, hn, hDC, fun z => absurd (Nat.lt_of_lt_of_le (frsz _ z) hD) (Nat.lt_irrefl _), fun v z => by cases z⟩
  have fpok : ∀ {H'' : Hp}, (∀ b ∈ fp, H'' b = none) → ∀ b ∈ fp, FpOk (cxC X N' scope cl C D fp s₀ H2) (pins ++ [(D, { cls := .type "list", data := .seq us.toArray k })]) H'' b := fun hz b hb => by
    refine ⟨hz b hb, Nat.ne_of_lt (Nat.lt_of_lt_of_le (hfp b hb) hC), fun z => ?_, .inl (List.mem_cons_of_mem _ hb), fun x c e => (f2 b hb).2.2.2.2.1 x c (hcl1 x c e), fun p hp => ?_⟩
    · rcases List.mem_cons.mp (I.stkSub b z) with z | z
      · exact (f2 b hb).2.1 z
      · exact (f2 b hb).2.2.1 z
    · rcases List.mem_append.mp hp with hp | hp
      · exact (f2 b hb).2.2.2.2.2 p (List.mem_append_left _ hp)
      · rcases List.mem_append.mp hp with hp | hp
        · exact (f2 b hb).2.2.2.2.2 p (List.mem_append_right _ hp)
        · rw [List.mem_singleton.mp hp]
          exact Nat.ne_of_gt (Nat.lt_of_lt_of_le (hfp b hb) hD)
  rcases turn i n ys σ' H' w' with ⟨stop, q⟩ | ⟨go, Nn, hN, step⟩
  · refine thn (T.done (cxC X N' scope cl C D fp s₀ H2) rfl rfl rfl hcalm i _ s σ' H' (fun _ _ => False) pD (fpok fr) st' stop) fun r s1 ⟨hr, I1⟩ => ?_
    subst hr
    have hy1 := (I1.pin (D, { cls := .type "list", data := .seq us.toArray k }) (by simp)).1
    obtain ⟨m, hm, _⟩ := I1.loc
    obtain ⟨oC, es, ep, hoC, hdC, _⟩ := id hm
    obtain ⟨IX, fpc⟩ := comp_fin I hs₀ hos hD hC hDC f2 I1.unpinned hn hy1 rv hz hoC (by intro v z; rw [hdC] at z; cases z)
    exact hRR D C oC m s1 _ IX hm fpc (q D hn)
  · refine thn (T.item (cxC X N' scope cl C D fp s₀ H2) rfl rfl rfl hcalm i _ s σ' H' (fun _ _ => False) pD (fpok fr) st' go) fun r s1 ⟨u, hr, h4⟩ => ?_
    subst hr
    refine thn h4 fun _ s2 ⟨x5, H5, I5, r5, y5, st5, fr5⟩ => ?_
    have I5' := I5.pinned (fpok fr5) (T.obj _ _ st5)
    refine thn (hg _ s2 σ' H5 x5 u _ I5' r5 (step x5 H5 y5)) fun _ s3 ⟨σ6, H6, I6, q6⟩ => ?_
    refine thn (ht _ s3 σ6 H6 _ I6 q6) fun ok s4 ⟨H7, I7, q7⟩ => ?_
    have stay : ∀ {σ7 : L2.St} {H7 : Hp} {s7 : Shared}, Inv (cxC X N' scope cl C D fp s₀ H2) (pins ++ [(D, { cls := .type "list", data := .seq us.toArray k })] ++ pinsAt fp s2.heap) σ7 H7 s7 →
        (∀ b ∈ fp, ∀ o, s2.heap.get? b = some o → s7.heap.get? b = some o) ∧ (∀ b ∈ fp, H7 b = none) ∧ H7 D = none ∧ s7.heap.get? D = some { cls := .type "list", data := .seq us.toArray k } := fun {σ7 H7 s7} I7 => by
      have d := I7.pin (D, { cls := .type "list", data := .seq us.toArray k }) (by simp)
      refine ⟨fun b hb o e => (I7.pin (b, o) (List.mem_append_right _ (List.mem_append_right _ (mem_pinsAt hb e)))).1, fun b hb => ?_, d.2.1, d.1⟩
      obtain ⟨o, e, _⟩ := T.obj _ _ st5 b hb
      exact (I7.pin (b, o) (List.mem_append_right _ (List.mem_append_right _ (mem_pinsAt hb e)))).2.1
    cases ok with
    | false =>
      rw [if_neg (by decide)] at q7 ⊢
      obtain ⟨k1, k2, k3, k4⟩ := stay I7
      obtain ⟨m', hm, w7⟩ := hN ys σ6 H7 q7
      exact ⟨m', hm, i + 1, ys, us, k, σ6, H7, I7.unpinned.unpinned, T.keep _ _ _ st5 k1, k2, k3, k4, rv, hz, w7⟩
    | true =>
      rw [if_pos rfl] at q7 ⊢
      refine thn (he _ s4 σ6 H7 _ I7 q7) fun v s5 ⟨y, H8, I8, r8, hl8, n8⟩ => ?_
      obtain ⟨k1, k2, k3, k4⟩ := stay I8
      refine wpAny_list_append_plain (l := D) ⟨k, k4⟩ (fun h' pl sb => ?_) (by rw [List.size_toArray, ← rv.length]; exact hz)
      obtain ⟨k', e'⟩ := pl
      obtain ⟨m', hm, w8⟩ := hN _ σ6 H8 n8
      refine ⟨m', hm, i + 1, ys ++ [y], us ++ [v], k', σ6, H8, ?_, T.keep _ _ _ (T.keep _ _ _ st5 k1) fun b hb o e => sb.extBut b o (Nat.ne_of_lt (Nat.lt_of_lt_of_le (hfp b hb) hD)) e, k2, k3, ?_, rv.append (.cons r8 .nil), ?_, w8⟩
      · exact (I8.unpinned.unpinned).turned (it := D) (t' := s5.toks) (h' := h') (fun b o hb e => sb.extBut b o hb e) k3 hDC (.inl (by simp)) (fun x c e => Nat.ne_of_lt (Nat.lt_of_lt_of_le (cells x c e) hD)) (fun p hp => Nat.ne_of_lt (Nat.lt_of_lt_of_le (pinsz p hp) hD))
      · rw [e']; simp
      · rw [List.length_append]; exact hl8
theorem comp_blockT {tg : Expr} {pos : Pos} {elt iter : Expr} {ifs : List Expr} {g : TG} {tt : TT} {te : TE} {E : Value → Shared → Prop} {Q : VK} {RR : Value → Addr → Result → Shared → Prop}
    (I : Inv X pins σ H2 s₂) (hcalm : X.calm = true) (T : Turn X.prog X.w X.K tg J fp it tn) (st : tn 0 s₂.heap) (f2 : ∀ b ∈ fp, FpOk X pins H2 b)
    (S : CSc X scope N' sub) (hcl1 : ∀ x c, cl.lookup x = some c → X.env.cells.lookup x = some c) (hcl2 : ∀ y ∈ scope.names, y.2 = .free → ∃ c, cl.lookup y.1 = some c)
    (hg : ∀ C D fp s H, PG (cxC X N' scope cl C D fp s H) tg g) (ht : ∀ C D fp s H, PIfs (cxC X N' scope cl C D fp s H) ifs tt) (he : ∀ C D fp s H, PE (cxC X N' scope cl C D fp s H) elt te)
    (hW : CompW J (capt sub σ) H2 g tt te Q)
    (hRR : ∀ (D C : Addr) (oC : Obj) (m : Str → Option Value) (s' : Shared) (Hf : Hp), Inv X (pins ++ [(C, oC)]) σ Hf s' → s'.heap.Ns C m → FpOk X pins Hf C → Q (.ref D) Hf → RR (.ref D) C (.ok .next) s') :
    wpAny (model X.prog X.w) X.A (newList []) (fun acc s₃ => wpAny (model X.prog X.w) X.A (newFunctionEnv scope X.env.globals cl [] X.env.qual none .none (some X.env)) (fun cenv s₄ =>
      codeAny (model X.prog X.w) X.A (.compStart (.ListComp elt [⟨tg, iter, ifs, 0⟩] scope pos) 0 (.ref it) acc { cenv with scope := relabel scope X.env }) (RR acc cenv.locals) s₄) E s₃) E s₂ := by
  obtain ⟨W, ⟨m0, w0⟩, turn⟩ := hW
  refine wpAny_newObj_type (wpAny_newFunctionEnv S.nocell (by intro y hy; simp at hy) (fun h₁ hns₁ hsb₁ => ?_) S.kind)
  dsimp only at hns₁ hsb₁ ⊢
  have hC : (s₂.heap.push { cls := .type "list", dict := none, data := .seq ([] : List Value).toArray }).objs.size = s₂.heap.objs.size + 1 := Heap.size_push ..
  rw [hC] at hns₁ hsb₁ ⊢
  have hk : ∀ b o, (s₂.heap.push { cls := .type "list", dict := none, data := .seq ([] : List Value).toArray }).get? b = some o → h₁.get? b = some o := fun b o e =>
    hsb₁.extBut b o (by have := Heap.lt_size e; rw [hC] at this; exact Nat.ne_of_lt this) (Heap.get?_push_of_some _ e)
  have hfp : ∀ b ∈ fp, b < s₂.heap.objs.size := fun b hb => by
    obtain ⟨o, e, _⟩ := T.obj _ _ st b hb
    exact Heap.lt_size e
  have I0 := comp_start (tk := s₂.toks + ([] : List (Str × Value)).length) I S hcl1 hcl2 f2 hfp hns₁ hk
  have hD0 : h₁.get? s₂.heap.objs.size = some { cls := .type "list", data := .seq ([] : List Value).toArray 0 } := hk _ _ (Heap.get?_push_size _ rfl)
  have loop : codeAny (model X.prog X.w) X.A (.compLoop (.ListComp elt [⟨tg, iter, ifs, 0⟩] scope pos) 0 (.ref it) (.ref s₂.heap.objs.size) (compEnvC scope cl (s₂.heap.objs.size + 1) X.env)) (RR (.ref s₂.heap.objs.size) (s₂.heap.objs.size + 1)) { s₂ with heap := h₁, toks := s₂.toks + ([] : List (Str × Value)).length } :=
    comp_runT (s₀ := { s₂ with heap := s₂.heap.push { cls := .type "list", dict := none, data := .seq ([] : List Value).toArray } }) (C := s₂.heap.objs.size + 1) (D := s₂.heap.objs.size) I hcalm T f2 hfp (fun b o e => Heap.get?_push_of_some _ e) rfl (Nat.le_refl _) (Nat.le_succ _) (Nat.ne_of_lt (Nat.lt_succ_self _)) hcl1 (hg _ _ _ _ _) (ht _ _ _ _ _) (he _ _ _ _ _) turn hRR m0 _
      ⟨0, [], [], 0, capt sub σ, H2, I0, T.keep _ _ _ st fun b hb o e => hk b o (Heap.get?_push_of_some _ e), fun b hb => (f2 b hb).1, I.hok.fresh (Nat.le_refl _), hD0, .nil, Nat.zero_le _, w0⟩
  exact codeAny_compStart_list loop (T.self _ _ _ _ _ (T.keep _ _ _ st fun b hb o e => hk b o (Heap.get?_push_of_some _ e)) loop)
end
section
variable {X : Cx} {scope : Scope} {N' : List Str} {sub : List (Option Nat)} {tg : Expr} {pos : Pos} {elt iter : Expr} {ifs : List Expr} {wi : TI} {g : TG} {tt : TT} {te : TE}
theorem pe_compT (S : CSc X scope N' sub) (hcalm : X.calm = true) (hi : PI X tg iter wi)
    (hg : ∀ cl C D fp s H, PG (cxC X N' scope cl C D fp s H) tg g) (ht : ∀ cl C D fp s H, PIfs (cxC X N' scope cl C D fp s H) ifs tt) (he : ∀ cl C D fp s H, PE (cxC X N' scope cl C D fp s H) elt te)
    (hs : ∀ x, foldedSetIterable iter X.env x = pure x := by intro _; rfl) : PE X (.ListComp elt [⟨tg, iter, ifs, 0⟩] scope pos) (tComp wi sub g tt te) := by
  intro pins s σ H Q I h
  obtain ⟨cl, hclos, hcl1, hcl2⟩ := S.clos I
  rw [eval_ListComp]
  refine wpAny_comprehension_free (use := none) rfl hs hclos S.kind S.names (thn (hi pins s σ H _ I h) fun v s1 h1 => thn h1 fun itv s2 h2 => ?_)
  obtain ⟨it, fp, tn, J, H2, e, I2, T, st2, f2, hW⟩ := h2
  subst e
  refine comp_blockT (RR := fun acc C => compPost (model X.prog X.w) X.A X.xe none (EP X pins σ Q) acc C) I2 hcalm T st2 f2 S hcl1 hcl2 (hg cl) (ht cl) (he cl) hW ?_
  intro D C oC m s' Hf IX hm fpc q
  refine ⟨m, hm, fun h' sb => ⟨.ref D, Hf, ?_, rfl, q⟩⟩
  exact (IX.unpinned).turned (it := C) (t' := s'.toks) (h' := h') (fun b o hb e => sb.extBut b o hb e) fpc.1 fpc.2.1 fpc.2.2.2.1 fpc.2.2.2.2.1 fpc.2.2.2.2.2
theorem ps_compT {i : Nat} {y : Str} {py spos : Pos} (hN : X.N.Nodup) (hiN : X.N[i]? = some y) (hy : X.env.scope.names.lookup y = some .local) (S : CSc X scope N' sub) (hcalm : X.calm = true) (hi : PI X tg iter wi)
    (hg : ∀ cl C D fp s H, PG (cxC X N' scope cl C D fp s H) tg g) (ht : ∀ cl C D fp s H, PIfs (cxC X N' scope cl C D fp s H) ifs tt) (he : ∀ cl C D fp s H, PE (cxC X N' scope cl C D fp s H) elt te)
    (hsw : swapsWith (.ListComp elt [⟨tg, iter, ifs, 0⟩] scope pos) (some (.Name y py)) spos.line X.env = pure true := by rfl)
    (hs : ∀ x, foldedSetIterable iter X.env x = pure x := by intro _; rfl) : PS X (.Assign [.Name y py] (.ListComp elt [⟨tg, iter, ifs, 0⟩] scope pos) spos) (tAsg (tComp wi sub g tt te) (gName i)) := by
  intro pins s σ H D I h
  obtain ⟨cl, hclos, hcl1, hcl2⟩ := S.clos I
  rw [exec_Assign_Name_used _ _ _ _ hsw]
  refine wpAny_bind (wpAny_standAt (wpAny_bind ?_))
  show wpAny _ X.A (do let _ ← comprehension (.ListComp elt [⟨tg, iter, ifs, 0⟩] scope pos) scope X.env _ (newList []) false (eval iter X.env) (some (assign (.Name y py) X.env))) _ _ s
  refine wpAny_bind (wpAny_mono (wpAny_comprehension_free (use := some (assign (.Name y py) X.env)) (Q := fun _ s' => SP X pins D .next s') rfl hs hclos S.kind S.names
    (thn (hi pins s σ H _ I h) fun v s1 h1 => thn h1 fun itv s2 h2 => ?_)) (fun _ s' hq => wpAny_pure (wpAny_pure hq)) fun _ _ e => e)
  obtain ⟨it, fp, tn, J, H2, e, I2, T, st2, f2, hW⟩ := h2
  subst e
  refine comp_blockT (Q := fun x H1 => gName i x σ H1 D.nx) (RR := fun acc C => compPost (model X.prog X.w) X.A X.xe (some (assign (.Name y py) X.env)) (fun _ s' => SP X pins D .next s') acc C) I2 hcalm T st2 f2 S hcl1 hcl2 (hg cl) (ht cl) (he cl) hW ?_
  intro L C oC m s' Hf IX hm fpc q
  have st := pg_name (X := X) (pos := py) hN hiN (.inl hy) (.inr hy) _ s' σ Hf (.ref L) (.ref L) D.nx IX rfl q
  refine thn st fun _ s'' ⟨σ2, H2, I2', q2⟩ => ?_
  have p := I2'.pin (C, oC) (by simp)
  have hm' : s''.heap.Ns C m := by
    obtain ⟨o, es, ep, e1, r⟩ := hm
    have z := (IX.pin (C, oC) (by simp)).1
    rw [e1] at z; cases z
    exact ⟨_, es, ep, p.1, r⟩
  refine ⟨m, hm', fun h' sb => ⟨σ2, H2, ?_, q2⟩⟩
  exact (I2'.unpinned).turned (it := C) (t' := s''.toks) (h' := h') (fun b o hb e => sb.extBut b o hb e) p.2.1 fpc.2.1 fpc.2.2.2.1 fpc.2.2.2.2.1 fpc.2.2.2.2.2
end
end L3

namespace L3
open PySem PySem.Spec PyProof.Rows L2
section
variable {prog : Program} {w : World} {A : Around} {E : Value → Shared → Prop} {s : Shared}
theorem zip_f0 {h : Heap} {z TI TO : Addr} {f0 : Value} (hz : IsZip h z TI TO f0) (v : Value) : IsZip (h.update z (Obj.mapFields fun x => x.setIfInBounds 0 v)) z TI TO v ∧ Heap.SameBut z h (h.update z (Obj.mapFields fun x => x.setIfInBounds 0 v)) :=
  ⟨Heap.get?_update_self _ hz rfl, Heap.SameBut.update ..⟩
theorem zip_f1 {h : Heap} {z TI TO : Addr} {f0 : Value} (hz : IsZip h z TI TO f0) : IsZip (h.update z (Obj.mapFields fun x => x.setIfInBounds 1 (.bool false))) z TI TO f0 ∧ Heap.SameBut z h (h.update z (Obj.mapFields fun x => x.setIfInBounds 1 (.bool false))) :=
  ⟨Heap.get?_update_self _ hz rfl, Heap.SameBut.update ..⟩
theorem pair_0 {h : Heap} {T : Addr} {a b : Value} (hp : IsPair h T a b) (v : Value) : IsPair (h.update T (Obj.mapSeq fun x => x.setIfInBounds 0 v)) T v b ∧ Heap.SameBut T h (h.update T (Obj.mapSeq fun x => x.setIfInBounds 0 v)) :=
  ⟨Heap.get?_update_self _ hp rfl, Heap.SameBut.update ..⟩
theorem pair_1 {h : Heap} {T : Addr} {a b : Value} (hp : IsPair h T a b) (v : Value) : IsPair (h.update T (Obj.mapSeq fun x => x.setIfInBounds 1 v)) T a v ∧ Heap.SameBut T h (h.update T (Obj.mapSeq fun x => x.setIfInBounds 1 v)) :=
  ⟨Heap.get?_update_self _ hp rfl, Heap.SameBut.update ..⟩
theorem zip_itemD {z TI TO i1 i2 : Addr} {fp1 fp2 : List Addr} {n1 n2 i : Nat} {P1 P2 : Nat → Value → Prop} {St1 St2 : Nat → Heap → Prop} {a b : Value} {Q : Value → Shared → Prop}
    (D1 : Draws prog w A i1 fp1 n1 P1 St1) (D2 : Draws prog w A i2 fp2 n2 P2 St2)
    (hz : IsZip s.heap z TI TO .none) (hI : IsPair s.heap TI (.ref i1) (.ref i2)) (hO : IsPair s.heap TO a b) (st1 : St1 i s.heap) (st2 : St2 i s.heap) (l1 : i < n1) (l2 : i < n2)
    (z1 : z ∉ fp1) (z2 : z ∉ fp2) (o1 : TO ∉ fp1) (o2 : TO ∉ fp2) (x12 : i2 ∉ fp1) (x21 : i1 ∉ fp2) (iz1 : i1 ≠ z) (iz2 : i2 ≠ z) (io1 : i1 ≠ TO) (io2 : i2 ≠ TO) (oz : TO ≠ z) (tz : TI ≠ z) (tO : TI ≠ TO) (ti1 : TI ≠ i1) (ti2 : TI ≠ i2)
    (hQ : ∀ x y h' tk, P1 i x → P2 i y → IsZip h' z TI TO (rawInt s.heap.objs.size) → IsPair h' TI (.ref i1) (.ref i2) → IsPair h' TO x y → St1 (i + 1) h' → St2 (i + 1) h' → IsPair h' s.heap.objs.size x y → h'.objs.size = s.heap.objs.size + 1 →
      (∀ c o, c ≠ z → c ≠ TO → c ≠ i1 → c ≠ i2 → s.heap.get? c = some o → h'.get? c = some o) → Q (.ref s.heap.objs.size) { s with heap := h', toks := tk }) :
    wpAny (model prog w) A (Builtin.«zip.__next__» { pos := [.ref z] }) (fun fin s' => ∃ v, fin = Fin.done (Flow.ret v) ∧ Q v s') E s := by
  show wpAny _ _ (field (.ref z) 2 >>= _) _ _ s
  refine wpAny_bind (wpAny_field hz rfl (x := .bool false) rfl ?_)
  show wpAny _ _ (field (.ref z) 3 >>= _) _ _ s
  refine wpAny_bind (wpAny_field hz rfl (x := .ref TI) rfl ?_)
  show wpAny _ _ (seqItems? (.ref TI) >>= _) _ _ s
  refine wpAny_bind (wpAny_seqItems hI rfl ?_)
  show wpAny _ _ (Builtin.SmallTypes.ownedTupleIsFree (.ref z) >>= _) _ _ s
  refine wpAny_bind ?_
  unfold Builtin.SmallTypes.ownedTupleIsFree
  refine wpAny_bind (wpAny_field hz rfl (x := .none) rfl (wpAny_pure ?_))
  show wpAny _ _ (rule _ >>= _) _ _ s
  refine wpAny_bind (wpAny_rule ?_)
  show wpAny _ _ (field (.ref z) 4 >>= _) _ _ s
  refine wpAny_bind (wpAny_field hz rfl (x := .ref TO) rfl ?_)
  show wpAny _ _ (setField (.ref z) 0 .ellipsis >>= _) _ _ s
  refine wpAny_bind (wpAny_setField hz rfl (by show 0 < 5; decide) ?_)
  obtain ⟨hz0, sb0⟩ := zip_f0 hz .ellipsis
  revert hz0 sb0
  generalize s.heap.update z (Obj.mapFields fun x => x.setIfInBounds 0 Value.ellipsis) = h0
  intro hz0 sb0
  have no : ∀ b, b ≠ z → ∀ o, s.heap.get? b = some o → h0.get? b = some o := fun b hb o e => (sb0.2 b hb).trans e
  refine wpAny_bind ?_
  show wpAny _ _ (forIn [(Value.ref i1, 0), (Value.ref i2, 1)] (none, ()) _) _ _ _
  rw [List.forIn_cons]
  refine wpAny_bind (wpAny_bind (wpAny_onRaise ?_))
  show wpAny _ _ (Builtin.SmallTypes.nextOf (.ref i1) >>= fun x => pure (some x)) _ _ _
  refine wpAny_bind (D1.item i { s with heap := h0 } _ _ l1 (D1.frame _ _ _ st1 fun b hb o e => no b (fun q => z1 (q ▸ hb)) o e) fun x h1 tk1 p1 st1' sb1 => wpAny_pure ?_)
  have hO1 : IsPair h1 TO a b := (sb1.2 TO (Ne.symm io1)).trans (no TO oz _ hO)
  show wpAny _ _ (seqItems? (.ref TO) >>= _) _ _ _
  refine wpAny_bind (wpAny_seqItems (s := { s with heap := h1, toks := tk1 }) hO1 rfl ?_)
  show wpAny _ _ (updateSeq TO _ >>= _) _ _ _
  refine wpAny_bind (wpAny_updateSeq (s := { s with heap := h1, toks := tk1 }) hO1 rfl ?_)
  obtain ⟨hO2, sb2⟩ := pair_0 hO1 x
  revert hO2 sb2
  show IsPair (h1.update TO (Obj.mapSeq fun q => q.setIfInBounds 0 x)) TO x b → Heap.SameBut TO h1 (h1.update TO (Obj.mapSeq fun q => q.setIfInBounds 0 x)) → wpAny _ _ _ _ _ { s with heap := h1.update TO (Obj.mapSeq fun q => q.setIfInBounds 0 x), toks := tk1 }
  generalize h1.update TO (Obj.mapSeq fun q => q.setIfInBounds 0 x) = h2
  intro hO2 sb2
  refine wpAny_bind (wpAny_letGo (wpAny_pure ?_))
  show wpAny _ _ (forIn [(Value.ref i2, 1)] (none, ()) _) _ _ _
  rw [List.forIn_cons]
  refine wpAny_bind (wpAny_bind (wpAny_onRaise ?_))
  show wpAny _ _ (Builtin.SmallTypes.nextOf (.ref i2) >>= fun x => pure (some x)) _ _ _
  have k2 : ∀ c o, c ≠ z → c ≠ TO → c ≠ i1 → s.heap.get? c = some o → h2.get? c = some o := fun c o c1 c2 c3 e => (sb2.2 c c2).trans ((sb1.2 c c3).trans (no c c1 o e))
  refine wpAny_bind (D2.item i { s with heap := h2, toks := tk1 } _ _ l2 (D2.frame _ _ _ st2 fun c hc o e => k2 c o (fun q => z2 (q ▸ hc)) (fun q => o2 (q ▸ hc)) (fun q => x21 (q ▸ hc)) e) fun y h3 tk3 p2 st2' sb3 => wpAny_pure ?_)
  have hO3 : IsPair h3 TO x b := (sb3.2 TO (Ne.symm io2)).trans hO2
  show wpAny _ _ (seqItems? (.ref TO) >>= _) _ _ _
  refine wpAny_bind (wpAny_seqItems (s := { s with heap := h3, toks := tk3 }) hO3 rfl ?_)
  show wpAny _ _ (updateSeq TO _ >>= _) _ _ _
  refine wpAny_bind (wpAny_updateSeq (s := { s with heap := h3, toks := tk3 }) hO3 rfl ?_)
  obtain ⟨hO4, sb4⟩ := pair_1 hO3 y
  revert hO4 sb4
  show IsPair (h3.update TO (Obj.mapSeq fun q => q.setIfInBounds 1 y)) TO x y → Heap.SameBut TO h3 (h3.update TO (Obj.mapSeq fun q => q.setIfInBounds 1 y)) → wpAny _ _ _ _ _ { s with heap := h3.update TO (Obj.mapSeq fun q => q.setIfInBounds 1 y), toks := tk3 }
  generalize h3.update TO (Obj.mapSeq fun q => q.setIfInBounds 1 y) = h4
  intro hO4 sb4
  refine wpAny_bind (wpAny_letGo (wpAny_pure ?_))
  show wpAny _ _ (forIn [] (none, ()) _) _ _ _
  rw [List.forIn_nil]
  refine wpAny_pure ?_
  show wpAny _ _ (seqItems? (.ref TO) >>= _) _ _ _
  refine wpAny_bind (wpAny_seqItems (s := { s with heap := h4, toks := tk3 }) hO4 rfl ?_)
  show wpAny _ _ (newTuple [x, y] >>= _) _ _ _
  refine wpAny_bind ?_
  simp only [newTuple]
  have k4 : ∀ c o, c ≠ z → c ≠ TO → c ≠ i1 → c ≠ i2 → s.heap.get? c = some o → h4.get? c = some o := fun c o c1 c2 c3 c4 e => (sb4.2 c c2).trans ((sb3.2 c c4).trans (k2 c o c1 c2 c3 e))
  have hz4 : IsZip h4 z TI TO .ellipsis := (sb4.2 z (Ne.symm oz)).trans ((sb3.2 z (Ne.symm iz2)).trans ((sb2.2 z (Ne.symm oz)).trans ((sb1.2 z (Ne.symm iz1)).trans hz0)))
  have s1' : St1 (i + 1) h4 := D1.frame _ _ _ st1' fun c hc o e => (sb4.2 c (fun q => o1 (q ▸ hc))).trans ((sb3.2 c (fun q => x12 (q ▸ hc))).trans ((sb2.2 c (fun q => o1 (q ▸ hc))).trans e))
  have s2' : St2 (i + 1) h4 := D2.frame _ _ _ st2' fun c hc o e => (sb4.2 c (fun q => o2 (q ▸ hc))).trans e
  have sz4 : h4.objs.size = s.heap.objs.size := by rw [sb4.1, sb3.1, sb2.1, sb1.1, sb0.1]
  refine wpAny_newObj_type ?_ (by size_fits)
  have hz5 : IsZip (h4.push { cls := .type "tuple", data := .seq #[x, y] }) z TI TO .ellipsis := Heap.get?_push_of_some _ hz4
  have hT5 : IsPair (h4.push { cls := .type "tuple", data := .seq #[x, y] }) h4.objs.size x y := Heap.get?_push_size _ rfl
  have sz5 : (h4.push { cls := .type "tuple", data := .seq #[x, y] }).objs.size = h4.objs.size + 1 := Heap.size_push ..
  have k5 : ∀ c o, h4.get? c = some o → (h4.push { cls := .type "tuple", data := .seq #[x, y] }).get? c = some o := fun c o e => Heap.get?_push_of_some _ e
  show wpAny _ _ _ _ _ { s with heap := h4.push { cls := .type "tuple", data := .seq #[x, y] }, toks := tk3 }
  revert hz5 hT5 sz5 k5
  generalize h4.push { cls := .type "tuple", data := .seq #[x, y] } = h5
  intro hz5 hT5 sz5 k5
  show wpAny _ _ (Builtin.SmallTypes.ownedTupleHandOut (.ref z) (.ref h4.objs.size) >>= fun _ => pure (Fin.done (Flow.ret (.ref h4.objs.size)))) _ _ _
  rw [sz4] at hT5 sz5 ⊢
  refine wpAny_bind ?_
  show wpAny _ _ (setField (.ref z) 0 (rawInt s.heap.objs.size) >>= fun _ => setField (.ref z) 1 (.bool false)) _ _ _
  refine wpAny_bind (wpAny_setField (s := { s with heap := h5, toks := tk3 }) hz5 rfl (by show 0 < 5; decide) ?_)
  obtain ⟨hz6, sb6⟩ := zip_f0 hz5 (rawInt s.heap.objs.size)
  obtain ⟨hz7, sb7⟩ := zip_f1 hz6
  refine wpAny_setField hz6 rfl (by show 1 < 5; decide) (wpAny_pure ⟨_, rfl, ?_⟩)
  have k7 : ∀ c o, c ≠ z → h4.get? c = some o → ((h5.update z (Obj.mapFields fun x => x.setIfInBounds 0 (rawInt s.heap.objs.size))).update z (Obj.mapFields fun x => x.setIfInBounds 1 (.bool false))).get? c = some o := fun c o c1 e => (sb7.2 c c1).trans ((sb6.2 c c1).trans (k5 c o e))
  have nT : s.heap.objs.size ≠ z := Nat.ne_of_gt (Heap.lt_size hz)
  exact hQ x y _ tk3 p1 p2 hz7 (k7 TI _ tz (k4 TI _ tz tO ti1 ti2 hI)) (k7 TO _ oz hO4) (D1.frame _ _ _ s1' fun c hc o e => k7 c o (fun q => z1 (q ▸ hc)) e) (D2.frame _ _ _ s2' fun c hc o e => k7 c o (fun q => z2 (q ▸ hc)) e) ((sb7.2 _ nT).trans ((sb6.2 _ nT).trans hT5)) (by rw [sb7.1, sb6.1, sz5]) fun c o c1 c2 c3 c4 e => k7 c o c1 (k4 c o c1 c2 c3 c4 e)
theorem zip_end1 {z TI TO i1 i2 : Addr} {fp1 : List Addr} {n1 : Nat} {P1 : Nat → Value → Prop} {St1 : Nat → Heap → Prop} {a b : Value} {Q : Fin → Shared → Prop}
    (D1 : Draws prog w A i1 fp1 n1 P1 St1)
    (hz : IsZip s.heap z TI TO .none) (hI : IsPair s.heap TI (.ref i1) (.ref i2)) (hO : IsPair s.heap TO a b) (st1 : St1 n1 s.heap)
    (z1 : z ∉ fp1) (iz1 : i1 ≠ z)
    (hE : ∀ h' e tk, (∀ c o, c ≠ z → c ≠ TO → c ≠ i1 → c ≠ i2 → s.heap.get? c = some o → h'.get? c = some o) → (∃ o, h'.get? e = some o ∧ o.cls = .type "StopIteration") → E (.ref e) { s with heap := h', toks := tk }) :
    wpAny (model prog w) A (Builtin.«zip.__next__» { pos := [.ref z] }) Q E s := by
  show wpAny _ _ (field (.ref z) 2 >>= _) _ _ s
  refine wpAny_bind (wpAny_field hz rfl (x := .bool false) rfl ?_)
  show wpAny _ _ (field (.ref z) 3 >>= _) _ _ s
  refine wpAny_bind (wpAny_field hz rfl (x := .ref TI) rfl ?_)
  show wpAny _ _ (seqItems? (.ref TI) >>= _) _ _ s
  refine wpAny_bind (wpAny_seqItems hI rfl ?_)
  show wpAny _ _ (Builtin.SmallTypes.ownedTupleIsFree (.ref z) >>= _) _ _ s
  refine wpAny_bind ?_
  unfold Builtin.SmallTypes.ownedTupleIsFree
  refine wpAny_bind (wpAny_field hz rfl (x := .none) rfl (wpAny_pure ?_))
  show wpAny _ _ (rule _ >>= _) _ _ s
  refine wpAny_bind (wpAny_rule ?_)
  show wpAny _ _ (field (.ref z) 4 >>= _) _ _ s
  refine wpAny_bind (wpAny_field hz rfl (x := .ref TO) rfl ?_)
  show wpAny _ _ (setField (.ref z) 0 .ellipsis >>= _) _ _ s
  refine wpAny_bind (wpAny_setField hz rfl (by show 0 < 5; decide) ?_)
  obtain ⟨hz0, sb0⟩ := zip_f0 hz .ellipsis
  revert hz0 sb0
  generalize s.heap.update z (Obj.mapFields fun x => x.setIfInBounds 0 Value.ellipsis) = h0
  intro hz0 sb0
  have no : ∀ b, b ≠ z → ∀ o, s.heap.get? b = some o → h0.get? b = some o := fun b hb o e => (sb0.2 b hb).trans e
  refine wpAny_bind ?_
  show wpAny _ _ (forIn [(Value.ref i1, 0), (Value.ref i2, 1)] (none, ()) _) _ _ _
  rw [List.forIn_cons]
  refine wpAny_bind (wpAny_bind (wpAny_onRaise ?_))
  show wpAny _ _ (Builtin.SmallTypes.nextOf (.ref i1) >>= fun x => pure (some x)) _ _ _
  refine wpAny_bind (D1.done { s with heap := h0 } _ _ (D1.frame _ _ _ st1 fun b hb o e => no b (fun q => z1 (q ▸ hb)) o e) fun h1 e xb hs => ?_)
  have hz1 : IsZip h1 z TI TO .ellipsis := xb z _ (Ne.symm iz1) hz0
  obtain ⟨hz2, sb2⟩ := zip_f0 hz1 .none
  refine wpAny_setField (s := { s with heap := h1 }) hz1 rfl (by show 0 < 5; decide) (hE _ e s.toks (fun c o c1 c2 c3 c4 q => (sb2.2 c c1).trans (xb c o c3 (no c c1 o q))) ?_)
  obtain ⟨o, ho, hc⟩ := hs
  refine ⟨o, (sb2.2 e fun q => ?_).trans ho, hc⟩
  rw [q, hz1] at ho
  obtain rfl := Option.some.inj ho
  exact absurd hc (by show ¬ (Value.type "zip" = Value.type "StopIteration"); decide)
theorem zip_end2 {z TI TO i1 i2 : Addr} {fp1 fp2 : List Addr} {n1 i : Nat} {P1 P2 : Nat → Value → Prop} {St1 St2 : Nat → Heap → Prop} {a b : Value} {Q : Fin → Shared → Prop}
    (D1 : Draws prog w A i1 fp1 n1 P1 St1) (D2 : Draws prog w A i2 fp2 i P2 St2)
    (hz : IsZip s.heap z TI TO .none) (hI : IsPair s.heap TI (.ref i1) (.ref i2)) (hO : IsPair s.heap TO a b) (st1 : St1 i s.heap) (st2 : St2 i s.heap) (l1 : i < n1)
    (z1 : z ∉ fp1) (z2 : z ∉ fp2) (o2 : TO ∉ fp2) (x21 : i1 ∉ fp2) (iz1 : i1 ≠ z) (iz2 : i2 ≠ z) (io1 : i1 ≠ TO) (oz : TO ≠ z)
    (hE : ∀ h' e tk, (∀ c o, c ≠ z → c ≠ TO → c ≠ i1 → c ≠ i2 → s.heap.get? c = some o → h'.get? c = some o) → (∃ o, h'.get? e = some o ∧ o.cls = .type "StopIteration") → E (.ref e) { s with heap := h', toks := tk }) :
    wpAny (model prog w) A (Builtin.«zip.__next__» { pos := [.ref z] }) Q E s := by
  show wpAny _ _ (field (.ref z) 2 >>= _) _ _ s
  refine wpAny_bind (wpAny_field hz rfl (x := .bool false) rfl ?_)
  show wpAny _ _ (field (.ref z) 3 >>= _) _ _ s
  refine wpAny_bind (wpAny_field hz rfl (x := .ref TI) rfl ?_)
  show wpAny _ _ (seqItems? (.ref TI) >>= _) _ _ s
  refine wpAny_bind (wpAny_seqItems hI rfl ?_)
  show wpAny _ _ (Builtin.SmallTypes.ownedTupleIsFree (.ref z) >>= _) _ _ s
  refine wpAny_bind ?_
  unfold Builtin.SmallTypes.ownedTupleIsFree
  refine wpAny_bind (wpAny_field hz rfl (x := .none) rfl (wpAny_pure ?_))
  show wpAny _ _ (rule _ >>= _) _ _ s
  refine wpAny_bind (wpAny_rule ?_)
  show wpAny _ _ (field (.ref z) 4 >>= _) _ _ s
  refine wpAny_bind (wpAny_field hz rfl (x := .ref TO) rfl ?_)
  show wpAny _ _ (setField (.ref z) 0 .ellipsis >>= _) _ _ s
  refine wpAny_bind (wpAny_setField hz rfl (by show 0 < 5; decide) ?_)
  obtain ⟨hz0, sb0⟩ := zip_f0 hz .ellipsis
  revert hz0 sb0
  generalize s.heap.update z (Obj.mapFields fun x => x.setIfInBounds 0 Value.ellipsis) = h0
  intro hz0 sb0
  have no : ∀ b, b ≠ z → ∀ o, s.heap.get? b = some o → h0.get? b = some o := fun b hb o e => (sb0.2 b hb).trans e
  refine wpAny_bind ?_
  show wpAny _ _ (forIn [(Value.ref i1, 0), (Value.ref i2, 1)] (none, ()) _) _ _ _
  rw [List.forIn_cons]
  refine wpAny_bind (wpAny_bind (wpAny_onRaise ?_))
  show wpAny _ _ (Builtin.SmallTypes.nextOf (.ref i1) >>= fun x => pure (some x)) _ _ _
  refine wpAny_bind (D1.item i { s with heap := h0 } _ _ l1 (D1.frame _ _ _ st1 fun b hb o e => no b (fun q => z1 (q ▸ hb)) o e) fun x h1 tk1 p1 st1' sb1 => wpAny_pure ?_)
  have hO1 : IsPair h1 TO a b := (sb1.2 TO (Ne.symm io1)).trans (no TO oz _ hO)
  show wpAny _ _ (seqItems? (.ref TO) >>= _) _ _ _
  refine wpAny_bind (wpAny_seqItems (s := { s with heap := h1, toks := tk1 }) hO1 rfl ?_)
  show wpAny _ _ (updateSeq TO _ >>= _) _ _ _
  refine wpAny_bind (wpAny_updateSeq (s := { s with heap := h1, toks := tk1 }) hO1 rfl ?_)
  obtain ⟨hO2, sb2⟩ := pair_0 hO1 x
  revert hO2 sb2
  show IsPair (h1.update TO (Obj.mapSeq fun q => q.setIfInBounds 0 x)) TO x b → Heap.SameBut TO h1 (h1.update TO (Obj.mapSeq fun q => q.setIfInBounds 0 x)) → wpAny _ _ _ _ _ { s with heap := h1.update TO (Obj.mapSeq fun q => q.setIfInBounds 0 x), toks := tk1 }
  generalize h1.update TO (Obj.mapSeq fun q => q.setIfInBounds 0 x) = h2
  intro hO2 sb2
  refine wpAny_bind (wpAny_letGo (wpAny_pure ?_))
  show wpAny _ _ (forIn [(Value.ref i2, 1)] (none, ()) _) _ _ _
  rw [List.forIn_cons]
  refine wpAny_bind (wpAny_bind (wpAny_onRaise ?_))
  show wpAny _ _ (Builtin.SmallTypes.nextOf (.ref i2) >>= fun x => pure (some x)) _ _ _
  have k2 : ∀ c o, c ≠ z → c ≠ TO → c ≠ i1 → s.heap.get? c = some o → h2.get? c = some o := fun c o c1 c2 c3 e => (sb2.2 c c2).trans ((sb1.2 c c3).trans (no c c1 o e))
  have hz2 : IsZip h2 z TI TO .ellipsis := (sb2.2 z (Ne.symm oz)).trans ((sb1.2 z (Ne.symm iz1)).trans hz0)
  refine wpAny_bind (D2.done { s with heap := h2, toks := tk1 } _ _ (D2.frame _ _ _ st2 fun c hc o e => k2 c o (fun q => z2 (q ▸ hc)) (fun q => o2 (q ▸ hc)) (fun q => x21 (q ▸ hc)) e) fun h3 e xb hs => ?_)
  have hz3 : IsZip h3 z TI TO .ellipsis := xb z _ (Ne.symm iz2) hz2
  obtain ⟨hz4, sb4⟩ := zip_f0 hz3 .none
  refine wpAny_setField (s := { s with heap := h3, toks := tk1 }) hz3 rfl (by show 0 < 5; decide) (hE _ e tk1 (fun c o c1 c2 c3 c4 q => (sb4.2 c c1).trans (xb c o c4 (k2 c o c1 c2 c3 q))) ?_)
  obtain ⟨o, ho, hc⟩ := hs
  refine ⟨o, (sb4.2 e fun q => ?_).trans ho, hc⟩
  rw [q, hz3] at ho
  obtain rfl := Option.some.inj ho
  exact absurd hc (by show ¬ (Value.type "zip" = Value.type "StopIteration"); decide)
end
end L3

namespace L3
open PySem PySem.Spec PyProof.Rows L2
section
variable {prog : Program} {w : World} {A : Around} {E : Value → Shared → Prop} {s : Shared}
theorem stop_next {e : Addr} {Q : Option Value → Shared → Prop} (h : ∃ o, s.heap.get? e = some o ∧ o.cls = .type "StopIteration") (q : Q none s) :
    wpAny (model prog w) A (do if ← isInstance (.ref e) (.type "StopIteration") then pure none else throw (.ref e) : Sem (Option Value)) Q E s := by
  refine wpAny_bind (wpAny_isInstance (T := "StopIteration") (b := true) h (by first | rfl | decide) ?_)
  rw [if_pos rfl]
  exact wpAny_pure q
theorem zip_ty {z TI TO : Addr} {f0 : Value} (hz : IsZip s.heap z TI TO f0) : s.TypeIs (.ref z) "zip" := ⟨_, hz, rfl⟩
theorem pn_zip {z TI TO : Addr} {f0 : Value} {Q : Option Value → Shared → Prop} (hz : IsZip s.heap z TI TO f0)
    (h : wpAny (model prog w) A.in1 (Builtin.«zip.__next__» { pos := [.ref z] }) (fun fin s' => ∃ v, fin = Fin.done (Flow.ret v) ∧ Q (some v) s')
      (fun e s' => ∃ a, e = .ref a ∧ (∃ o, s'.heap.get? a = some o ∧ o.cls = .type "StopIteration") ∧ Q none s') s) : wpAny (model prog w) A (pyNext (.ref z)) Q E s := by
  unfold pyNext
  refine wpAny_bind (wpAny_attempt (wpAny_callSpecial?_slot (name := Str.ofString "__next__") (zip_ty hz) F.slot_zip_next (wpAny_call_entry F.slot_zip_next (zip_ty hz) F.entry_zip_next (wpAny_mono h (fun fin s' hq => ?_) (fun e s' hq => ?_)) (F.args_zip_next_1 _))))
  · obtain ⟨v, rfl, q⟩ := hq
    exact ⟨v, rfl, wpAny_pure q⟩
  · obtain ⟨a, rfl, ho, q⟩ := hq
    exact stop_next ho q
def SrcAt (h : Heap) (a : Addr) (cn : String) (vs : Array Value) : Prop := (cn = "tuple_iterator" ∧ h.IsTuple a vs) ∨ (cn = "list_iterator" ∧ h.IsList a vs)
theorem SrcAt.iter {a : Addr} {cn : String} {vs : Array Value} {Q : Value → Shared → Prop} (h : SrcAt s.heap a cn vs)
    (q : Q (.ref s.heap.objs.size) { s with heap := s.heap.push { cls := .type cn, data := .fields #[.ref a, .int 0 0] } }) : wpAny (model prog w) A (pyIter (.ref a)) Q E s := by
  rcases h with ⟨rfl, h⟩ | ⟨rfl, h⟩
  · exact wpAny_pyIter_tuple h q
  · exact wpAny_pyIter_list h q
theorem SrcAt.push {h : Heap} {a : Addr} {cn : String} {vs : Array Value} (x : SrcAt h a cn vs) (o : Obj) : SrcAt (h.push o) a cn vs := by
  rcases x with ⟨rfl, x⟩ | ⟨rfl, x⟩
  · exact .inl ⟨rfl, x.push o⟩
  · exact .inr ⟨rfl, x.push o⟩
def zpO (c : String) (a : Addr) : Obj := { cls := .type c, data := .fields #[.ref a, .int 0 0] }
def zpT (a b : Value) : Obj := { cls := .type "tuple", data := .seq #[a, b] }
def zpZ (TI TO : Addr) : Obj := { cls := .type "zip", data := .fields #[.none, .bool false, .bool false, .ref TI, .ref TO] }
def zpN (h : Heap) (c1 : String) (a : Addr) (c2 : String) (b : Addr) : Addr :=
  let h1 := h.push (zpO c1 a)
  let h2 := h1.push (zpO c2 b)
  let h3 := h2.push (zpT (.ref h.objs.size) (.ref h1.objs.size))
  (h3.push (zpT .none .none)).objs.size
def zpH (h : Heap) (c1 : String) (a : Addr) (c2 : String) (b : Addr) : Heap :=
  let h1 := h.push (zpO c1 a)
  let h2 := h1.push (zpO c2 b)
  let h3 := h2.push (zpT (.ref h.objs.size) (.ref h1.objs.size))
  let h4 := h3.push (zpT .none .none)
  h4.push (zpZ h2.objs.size h3.objs.size)
theorem zip_new (a b : Addr) (c1 c2 : String) (xs ys : Array Value) :
    Meets (Builtin.«zip.__new__» ⟨[.type "zip", .ref a, .ref b], []⟩) (fun _ R s => SrcAt s.heap a c1 xs ∧ SrcAt s.heap b c2 ys ∧
      R (.ok (.ret (.ref (zpN s.heap c1 a c2 b)))) { s with heap := zpH s.heap c1 a c2 b }) :=
  .of_wp fun prog w A R s h => by
    obtain ⟨hp, g, d, tk, os⟩ := s; obtain ⟨h1, h2, h⟩ := h
    have hsub := sub_zip
    have h2' : SrcAt (Shared.heap ⟨hp.push { cls := .type c1, data := .fields #[.ref a, .int 0 0] }, g, d, tk, os⟩) b c2 ys := h2.push _
    wp_walk using SrcAt.iter h1, SrcAt.iter h2'
    exact ⟨_, rfl, h⟩
theorem call_zipS {a b : Addr} {c1 c2 : String} {xs ys : Array Value} {Q : Value → Shared → Prop} (ha : SrcAt s.heap a c1 xs) (hb : SrcAt s.heap b c2 ys)
    (h : ∀ h', IsZip h' (s.heap.objs.size + 4) (s.heap.objs.size + 2) (s.heap.objs.size + 3) .none → IsPair h' (s.heap.objs.size + 2) (.ref s.heap.objs.size) (.ref (s.heap.objs.size + 1)) → IsPair h' (s.heap.objs.size + 3) .none .none →
      h'.get? s.heap.objs.size = some (zpO c1 a) → h'.get? (s.heap.objs.size + 1) = some (zpO c2 b) → (∀ c o, s.heap.get? c = some o → h'.get? c = some o) → Q (.ref (s.heap.objs.size + 4)) { s with heap := h' }) :
    wpAny (model prog w) A (call (.type "zip") [.ref a, .ref b]) Q E s := by
  refine callType_new F.called_zip (by decide) (F.typeCall_zip_2 _ _) (F.newCall_zip_2 _ _) (fun obj => F.args_object_init_3 obj _ _) F.entry_zip_new (zip_new a b c1 c2 xs ys) ⟨ha, hb, ?_⟩
  have gs : ∀ (h : Heap) (o : Obj) (m : Nat), o.isFreed = false → h.objs.size = m → (h.push o).get? m = some o ∧ (h.push o).objs.size = m + 1 := fun h o m f e => by
    subst e; exact ⟨Heap.get?_push_size _ f, Heap.size_push ..⟩
  obtain ⟨e1, z1⟩ := gs s.heap (zpO c1 a) _ rfl rfl
  obtain ⟨e2, z2⟩ := gs (s.heap.push (zpO c1 a)) (zpO c2 b) _ rfl z1
  obtain ⟨e3, z3⟩ := gs ((s.heap.push (zpO c1 a)).push (zpO c2 b)) (zpT (.ref s.heap.objs.size) (.ref (s.heap.push (zpO c1 a)).objs.size)) _ rfl z2
  obtain ⟨e4, z4⟩ := gs (((s.heap.push (zpO c1 a)).push (zpO c2 b)).push (zpT (.ref s.heap.objs.size) (.ref (s.heap.push (zpO c1 a)).objs.size))) (zpT .none .none) _ rfl z3
  obtain ⟨e5, z5⟩ := gs ((((s.heap.push (zpO c1 a)).push (zpO c2 b)).push (zpT (.ref s.heap.objs.size) (.ref (s.heap.push (zpO c1 a)).objs.size))).push (zpT .none .none)) (zpZ ((s.heap.push (zpO c1 a)).push (zpO c2 b)).objs.size (((s.heap.push (zpO c1 a)).push (zpO c2 b)).push (zpT (.ref s.heap.objs.size) (.ref (s.heap.push (zpO c1 a)).objs.size))).objs.size) _ rfl z4
  have eN : zpN s.heap c1 a c2 b = s.heap.objs.size + 4 := z4
  have ps : ∀ (h : Heap) (o : Obj) (c : Addr) (q : Obj), h.get? c = some q → (h.push o).get? c = some q := fun h o c q e => Heap.get?_push_of_some _ e
  have f5 : (zpH s.heap c1 a c2 b).get? (s.heap.objs.size + 4) = some (zpZ (s.heap.objs.size + 2) (s.heap.objs.size + 3)) := by
    have := e5
    rw [z2, z3] at this
    unfold zpH
    dsimp only
    rw [z2, z3]
    exact this
  have f3 : (zpH s.heap c1 a c2 b).get? (s.heap.objs.size + 2) = some (zpT (.ref s.heap.objs.size) (.ref (s.heap.objs.size + 1))) := by
    have := ps _ (zpZ ((s.heap.push (zpO c1 a)).push (zpO c2 b)).objs.size (((s.heap.push (zpO c1 a)).push (zpO c2 b)).push (zpT (.ref s.heap.objs.size) (.ref (s.heap.push (zpO c1 a)).objs.size))).objs.size) _ _ (ps _ (zpT .none .none) _ _ e3)
    unfold zpH
    dsimp only
    exact this.trans (by rw [z1])
  have f4 : (zpH s.heap c1 a c2 b).get? (s.heap.objs.size + 3) = some (zpT .none .none) := ps _ _ _ _ e4
  have f1 : (zpH s.heap c1 a c2 b).get? s.heap.objs.size = some (zpO c1 a) := ps _ _ _ _ (ps _ _ _ _ (ps _ _ _ _ (ps _ _ _ _ e1)))
  have f2 : (zpH s.heap c1 a c2 b).get? (s.heap.objs.size + 1) = some (zpO c2 b) := ps _ _ _ _ (ps _ _ _ _ (ps _ _ _ _ e2))
  have fk : ∀ c o, s.heap.get? c = some o → (zpH s.heap c1 a c2 b).get? c = some o := fun c o e => ps _ _ _ _ (ps _ _ _ _ (ps _ _ _ _ (ps _ _ _ _ (ps _ _ _ _ e))))
  show _ ∧ _
  rw [eN]
  exact ⟨⟨_, f5, rfl⟩, h _ f5 f3 f4 f1 f2 fk⟩
end
end L3

namespace L3
open PySem PySem.Spec PyProof.Rows L2
def SqC (c : Bool) (K : PySem.W.Frag) (H : Hp) (a : Addr) (xs : List V) : Prop := match c with
  | true => SqT K H a xs
  | false => SqL K H a xs
def IterC (c : Bool) (h : Heap) (j a : Addr) (i : Nat) : Prop := match c with
  | true => h.IsTupleIter j a i
  | false => h.IsListIter j a i
def SeqC (c : Bool) (h : Heap) (a : Addr) (vs : Array Value) : Prop := match c with
  | true => h.IsTuple a vs
  | false => h.IsList a vs
def cnC (c : Bool) : String := match c with
  | true => "tuple_iterator"
  | false => "list_iterator"
theorem IterC.at {c : Bool} {h h' : Heap} {j a : Addr} {i : Nat} (x : IterC c h j a i) (k : ∀ o, h.get? j = some o → h'.get? j = some o) : IterC c h' j a i := by
  cases c
  · exact Heap.IsListIter.at x k
  · exact Heap.IsTupleIter.at x k
theorem IterC.obj {c : Bool} {h : Heap} {j a : Addr} {i : Nat} (x : IterC c h j a i) : ∃ o, h.get? j = some o ∧ ∀ v, o.data ≠ .cell v := by
  cases c
  · obtain ⟨o, e, _, d⟩ := x
    exact ⟨o, e, fun v z => by rw [d] at z; cases z⟩
  · obtain ⟨o, e, _, d⟩ := x
    exact ⟨o, e, fun v z => by rw [d] at z; cases z⟩
theorem IterC.mk {c : Bool} {h : Heap} {j a : Addr} (e : h.get? j = some (zpO (cnC c) a)) : IterC c h j a 0 := by
  cases c
  · exact ⟨_, e, rfl, rfl⟩
  · exact ⟨_, e, rfl, rfl⟩
theorem SeqC.src {c : Bool} {h : Heap} {a : Addr} {vs : Array Value} (x : SeqC c h a vs) : SrcAt h a (cnC c) vs := by
  cases c
  · exact .inr ⟨rfl, x⟩
  · exact .inl ⟨rfl, x⟩
theorem SeqC.lt {c : Bool} {h : Heap} {a : Addr} {vs : Array Value} (x : SeqC c h a vs) : a < h.objs.size := by
  cases c
  · obtain ⟨_, e, _⟩ := (show h.IsList a vs from x); exact Heap.lt_size e
  · obtain ⟨_, e, _⟩ := (show h.IsTuple a vs from x); exact Heap.lt_size e
theorem drawsC {prog : Program} {w : World} {A : Around} (hh : A.handled = none) (c : Bool) (j t : Addr) (hne : t ≠ j) (vs : Array Value) :
    Draws prog w A j [j, t] vs.size (fun i v => vs[i]? = some v) (fun i h => IterC c h j t i ∧ SeqC c h t vs) := by
  cases c
  · exact Draws.list hh j t hne vs
  · exact draws_tup hh j t hne vs
theorem draws_endL {prog : Program} {w : World} {A : Around} (hh : A.handled = none) (jt t : Addr) (vs : Array Value) {i : Nat} (hv : vs[i]? = none) :
    Draws prog w A jt [jt, t] i (fun _ _ => True) (fun j h => j = i ∧ h.IsListIter jt t i ∧ h.IsList t vs) where
  live := fun _ _ st => let ⟨o, ho, _⟩ := st.2.1; ⟨o, ho⟩
  frame := fun _ _ _ st hk => ⟨st.1, st.2.1.at (hk jt (by simp)), st.2.2.at (hk t (by simp))⟩
  item := fun j s Q E hj st hQ => absurd st.1 (Nat.ne_of_lt hj)
  done := fun s Q E st hE => wpAny_nextOf_list_end hh st.2.1 st.2.2 hv hE
theorem drawsC_end {prog : Program} {w : World} {A : Around} (hh : A.handled = none) (c : Bool) (j t : Addr) (vs : Array Value) {i : Nat} (hv : vs[i]? = none) :
    Draws prog w A j [j, t] i (fun _ _ => True) (fun k h => k = i ∧ IterC c h j t i ∧ SeqC c h t vs) := by
  cases c
  · exact draws_endL hh j t vs hv
  · exact draws_end hh j t vs hv
theorem inv_seqC {X : Cx} {pins : List (Addr × Obj)} {σ : L2.St} {H : Hp} {s : Shared} {c : Bool} {a : Addr} {xs : List V} (I : Inv X pins σ H s) (h : SqC c X.K H a xs) : ∃ its : List Value, Vals xs its ∧ SeqC c s.heap a its.toArray := by
  cases c
  · obtain ⟨its, r, p, _⟩ := I.list h
    exact ⟨its, r, p.isList⟩
  · obtain ⟨its, r, p, _⟩ := I.tuple h
    exact ⟨its, r, p⟩
theorem inv_seqC_inj {X : Cx} {pins : List (Addr × Obj)} {σ : L2.St} {H : Hp} {s : Shared} {c : Bool} {a : Addr} {xs ys : List V} (I : Inv X pins σ H s) (h : SqC c X.K H a xs) (h' : SqC c X.K H a ys) : xs = ys := by
  cases c
  · exact I.list_inj h h'
  · exact I.tuple_inj h h'
theorem nne {i j : Nat} (h : i ≠ j) : i ≠ j := h
theorem nin2 {z j t : Nat} (h1 : z ≠ j) (h2 : z ≠ t) : z ∉ ([j, t] : List Nat) := by simp [h1, h2]
def Itz (K : PySem.W.Frag) (c : Bool) (a : Addr) (d : Bool) (b : Addr) : It :=
  ⟨fun i H => ∃ xs ys x y, SqC c K H a xs ∧ SqC d K H b ys ∧ xs[i]? = some x ∧ ys[i]? = some y,
   fun i H x H' => ∃ T v w, H T = none ∧ x = .ref T ∧ H' = upd H T (.tup [v, w]) ∧ (∀ xs, SqC c K H a xs → xs[i]? = some v) ∧ ∀ ys, SqC d K H b ys → ys[i]? = some w,
   fun i H => ∃ xs ys, SqC c K H a xs ∧ SqC d K H b ys ∧ (xs.length ≤ i ∨ ys.length ≤ i)⟩
def ZipSt (c d : Bool) (z TI TO i1 i2 a b : Addr) (i : Nat) (h : Heap) : Prop :=
  IsZip h z TI TO .none ∧ IsPair h TI (.ref i1) (.ref i2) ∧ (∃ u v, IsPair h TO u v) ∧ IterC c h i1 a i ∧ IterC d h i2 b i
theorem nad {n : Nat} (i j : Nat) (h : i ≠ j) : n + i ≠ n + j := fun z => h (Nat.add_left_cancel z)
theorem nad0 {n : Nat} (i : Nat) (h : i ≠ 0) : n + i ≠ n := fun z => h (Nat.add_left_cancel (z.trans (Nat.add_zero n).symm))
theorem turn_zip {P : Program} {w : World} {K : PySem.W.Frag} {elts : List Expr} {kt : Nat} {pt : Pos} (c d : Bool) (a b n : Nat) (ha : a < n) (hb : b < n) :
    Turn P w K (.Tuple elts kt pt) (Itz K c a d b) [n + 4, n + 3, n + 2, n + 1, n] (n + 4) (ZipSt c d (n + 4) (n + 2) (n + 3) n (n + 1) a b) where
  mem := by simp
  obj := fun i h st q hq => by
    obtain ⟨hz, hI, ⟨u, v, hO⟩, s1, s2⟩ := st
    simp only [List.mem_cons, List.mem_nil_iff, or_false] at hq
    rcases hq with rfl | rfl | rfl | rfl | rfl
    · exact ⟨_, hz, fun v z => by cases z⟩
    · exact ⟨_, hO, fun v z => by cases z⟩
    · exact ⟨_, hI, fun v z => by cases z⟩
    · exact s2.obj
    · exact s1.obj
  keep := fun i h h' st k => by
    obtain ⟨hz, hI, ⟨u, v, hO⟩, s1, s2⟩ := st
    exact ⟨k _ (by simp) _ hz, k _ (by simp) _ hI, ⟨u, v, k _ (by simp) _ hO⟩, s1.at (k _ (by simp)), s2.at (k _ (by simp))⟩
  item := by
    intro X hP hw hK hc i pins s σ H E I hf st hg
    subst hP hw hK
    obtain ⟨hz, hI, ⟨u0, v0, hO⟩, s1, s2⟩ := st
    obtain ⟨xs, ys, x, y, hqa, hqb, hx, hy⟩ := hg
    obtain ⟨ia, ra, pa⟩ := inv_seqC I hqa
    obtain ⟨ib, rb, pb⟩ := inv_seqC I hqb
    obtain ⟨u, hu, ru⟩ := ra.get hx
    obtain ⟨v, hv, rv⟩ := rb.get hy
    have l1 : i < ia.toArray.size := by have := (List.getElem?_eq_some_iff.mp hu).1; simpa using this
    have l2 : i < ib.toArray.size := by have := (List.getElem?_eq_some_iff.mp hv).1; simpa using this
    have an : a ≠ n := Nat.ne_of_lt ha
    have bn : b ≠ n + 1 := by omega
    refine pn_zip hz (wpAny_mono (zip_itemD (A := X.A.in1) (Q := fun v s1 => ∃ u, some v = some u ∧ wpAny (model X.prog X.w) X.A (letOwnedTupleGo (.Tuple elts kt pt) (.ref (n + 4)) u) (fun _ s2 => ∃ x H', Inv X pins σ H' s2 ∧ RelV x u ∧ (Itz X.K c a d b).yld i H x H' ∧ ZipSt c d (n + 4) (n + 2) (n + 3) n (n + 1) a b (i + 1) s2.heap ∧ ∀ b ∈ [n + 4, n + 3, n + 2, n + 1, n], H' b = none) E s1) (drawsC (A := X.A.in1) (I.ok.hd hc) c n a an ia.toArray) (drawsC (A := X.A.in1) (I.ok.hd hc) d (n + 1) b bn ib.toArray) hz hI hO ⟨s1, pa⟩ ⟨s2, pb⟩ l1 l2
      (nin2 (by first | exact nad _ _ (by decide) | exact nad0 _ (by decide) | exact (nad0 _ (by decide)).symm | omega) (by first | exact nad _ _ (by decide) | exact nad0 _ (by decide) | exact (nad0 _ (by decide)).symm | omega)) (nin2 (by first | exact nad _ _ (by decide) | exact nad0 _ (by decide) | exact (nad0 _ (by decide)).symm | omega) (by first | exact nad _ _ (by decide) | exact nad0 _ (by decide) | exact (nad0 _ (by decide)).symm | omega)) (nin2 (by first | exact nad _ _ (by decide) | exact nad0 _ (by decide) | exact (nad0 _ (by decide)).symm | omega) (by first | exact nad _ _ (by decide) | exact nad0 _ (by decide) | exact (nad0 _ (by decide)).symm | omega)) (nin2 (by first | exact nad _ _ (by decide) | exact nad0 _ (by decide) | exact (nad0 _ (by decide)).symm | omega) (by first | exact nad _ _ (by decide) | exact nad0 _ (by decide) | exact (nad0 _ (by decide)).symm | omega)) (nin2 (by first | exact nad _ _ (by decide) | exact nad0 _ (by decide) | exact (nad0 _ (by decide)).symm | omega) (by first | exact nad _ _ (by decide) | exact nad0 _ (by decide) | exact (nad0 _ (by decide)).symm | omega)) (nin2 (by first | exact nad _ _ (by decide) | exact nad0 _ (by decide) | exact (nad0 _ (by decide)).symm | omega) (by first | exact nad _ _ (by decide) | exact nad0 _ (by decide) | exact (nad0 _ (by decide)).symm | omega)) (nne (by first | exact nad _ _ (by decide) | exact nad0 _ (by decide) | exact (nad0 _ (by decide)).symm | omega)) (nne (by first | exact nad _ _ (by decide) | exact nad0 _ (by decide) | exact (nad0 _ (by decide)).symm | omega)) (nne (by first | exact nad _ _ (by decide) | exact nad0 _ (by decide) | exact (nad0 _ (by decide)).symm | omega)) (nne (by first | exact nad _ _ (by decide) | exact nad0 _ (by decide) | exact (nad0 _ (by decide)).symm | omega)) (nne (by first | exact nad _ _ (by decide) | exact nad0 _ (by decide) | exact (nad0 _ (by decide)).symm | omega)) (nne (by first | exact nad _ _ (by decide) | exact nad0 _ (by decide) | exact (nad0 _ (by decide)).symm | omega)) (nne (by first | exact nad _ _ (by decide) | exact nad0 _ (by decide) | exact (nad0 _ (by decide)).symm | omega)) (nne (by first | exact nad _ _ (by decide) | exact nad0 _ (by decide) | exact (nad0 _ (by decide)).symm | omega)) (nne (by first | exact nad _ _ (by decide) | exact nad0 _ (by decide) | exact (nad0 _ (by decide)).symm | omega)) ?_) (fun fin s' hq => hq) (fun e s' (hq : False) => hq.elim))
    intro p q h1 tk hp hq hz1 hI1 hO1 st1 st2 hT hsz hk
    have ep : p = u := by
      have e1 : ia.toArray[i]? = some p := hp
      have e2 : ia.toArray[i]? = some u := by simpa using hu
      rw [e1] at e2; exact Option.some.inj e2
    have eq' : q = v := by
      have e1 : ib.toArray[i]? = some q := hq
      have e2 : ib.toArray[i]? = some v := by simpa using hv
      rw [e1] at e2; exact Option.some.inj e2
    subst ep eq'
    refine ⟨_, rfl, wpAny_letOwnedTupleGo_zip (s := { s with heap := h1, toks := tk }) hz1 fun h2 hz2 hs2 => ?_⟩
    have hk2 : ∀ b o, b ∉ [n + 4, n + 3, n + 2, n + 1, n] → s.heap.get? b = some o → h2.get? b = some o := fun b o hb q => by
      have n1 : b ≠ n + 4 := fun z => hb (by simp [z])
      have n2 : b ≠ n + 3 := fun z => hb (by simp [z])
      have n3 : b ≠ n + 1 := fun z => hb (by simp [z])
      have n4 : b ≠ n := fun z => hb (by simp [z])
      exact (hs2.2 b n1).trans (hk b o n1 n2 n4 n3 q)
    have zs : n + 4 < s.heap.objs.size := Heap.lt_size hz
    have hT2 : h2.get? s.heap.objs.size = some { cls := .type "tuple", data := .seq #[p, q] } := (hs2.2 _ (Nat.ne_of_gt zs)).trans hT
    have hn : H s.heap.objs.size = none := I.hok.fresh (Nat.le_refl _)
    have I2 : Inv X pins σ (upd H s.heap.objs.size (.tup [x, y])) { s with heap := h2, toks := tk } := turnLaid (s := s) I hk2 hf (Nat.le_refl _) ⟨by show 2 ≤ sizeLine; decide, [p, q], .cons ru (.cons rv .nil), _, hT2, rfl, 0, rfl⟩
    refine ⟨.ref s.heap.objs.size, upd H s.heap.objs.size (.tup [x, y]), I2, rfl, ⟨_, x, y, hn, rfl, rfl, fun zs hz => by rw [inv_seqC_inj I hz hqa]; exact hx, fun zs hz => by rw [inv_seqC_inj I hz hqb]; exact hy⟩, ⟨hz2, (hs2.2 _ (nne (by first | exact nad _ _ (by decide) | exact nad0 _ (by decide) | exact (nad0 _ (by decide)).symm | omega))).trans hI1, ⟨p, q, (hs2.2 _ (nne (by first | exact nad _ _ (by decide) | exact nad0 _ (by decide) | exact (nad0 _ (by decide)).symm | omega))).trans hO1⟩, st1.1.at fun o e => (hs2.2 _ (nne (by first | exact nad _ _ (by decide) | exact nad0 _ (by decide) | exact (nad0 _ (by decide)).symm | omega))).trans e, st2.1.at fun o e => (hs2.2 _ (nne (by first | exact nad _ _ (by decide) | exact nad0 _ (by decide) | exact (nad0 _ (by decide)).symm | omega))).trans e⟩, fun q hq => ?_⟩
    have nb : q ≠ s.heap.objs.size := by
      simp only [List.mem_cons, List.mem_nil_iff, or_false] at hq
      omega
    rw [upd_ne nb]; exact (hf q hq).1
  done := by
    intro X hP hw hK hc i pins s σ H E I hf st hg
    subst hP hw hK
    obtain ⟨hz, hI, ⟨u0, v0, hO⟩, s1, s2⟩ := st
    obtain ⟨xs, ys, hqa, hqb, hl⟩ := hg
    obtain ⟨ia, ra, pa⟩ := inv_seqC I hqa
    obtain ⟨ib, rb, pb⟩ := inv_seqC I hqb
    have la := ra.length
    have lb := rb.length
    have an : a ≠ n := Nat.ne_of_lt ha
    have fin : ∀ (h' : Heap) (e : Addr) (tk : Nat), (∀ c o, c ≠ n + 4 → c ≠ n + 3 → c ≠ n → c ≠ n + 1 → s.heap.get? c = some o → h'.get? c = some o) → Inv X pins σ H { s with heap := h', toks := tk } := fun h' e tk k =>
      turnedL (fp := [n + 4, n + 3, n + 2, n + 1, n]) I (fun b o hb q => k b o (fun z => hb (by simp [z])) (fun z => hb (by simp [z])) (fun z => hb (by simp [z])) (fun z => hb (by simp [z])) q) hf
    by_cases h1 : xs.length ≤ i
    · refine pn_zip hz (zip_end1 (A := X.A.in1) (drawsC_end (A := X.A.in1) (I.ok.hd hc) c n a ia.toArray (i := i) (by simp; omega)) hz hI hO ⟨rfl, s1, pa⟩ (nin2 (by first | exact nad _ _ (by decide) | exact nad0 _ (by decide) | exact (nad0 _ (by decide)).symm | omega) (by first | exact nad _ _ (by decide) | exact nad0 _ (by decide) | exact (nad0 _ (by decide)).symm | omega)) (nne (by first | exact nad _ _ (by decide) | exact nad0 _ (by decide) | exact (nad0 _ (by decide)).symm | omega)) fun h' e tk k ho => ⟨e, rfl, ho, rfl, fin h' e tk k⟩)
    · have h2 : ys.length ≤ i := by omega
      refine pn_zip hz (zip_end2 (A := X.A.in1) (drawsC (A := X.A.in1) (I.ok.hd hc) c n a an ia.toArray) (drawsC_end (A := X.A.in1) (I.ok.hd hc) d (n + 1) b ib.toArray (i := i) (by simp; omega)) hz hI hO ⟨s1, pa⟩ ⟨rfl, s2, pb⟩ (by simp; omega) (nin2 (by first | exact nad _ _ (by decide) | exact nad0 _ (by decide) | exact (nad0 _ (by decide)).symm | omega) (by first | exact nad _ _ (by decide) | exact nad0 _ (by decide) | exact (nad0 _ (by decide)).symm | omega)) (nin2 (by first | exact nad _ _ (by decide) | exact nad0 _ (by decide) | exact (nad0 _ (by decide)).symm | omega) (by first | exact nad _ _ (by decide) | exact nad0 _ (by decide) | exact (nad0 _ (by decide)).symm | omega)) (nin2 (by first | exact nad _ _ (by decide) | exact nad0 _ (by decide) | exact (nad0 _ (by decide)).symm | omega) (by first | exact nad _ _ (by decide) | exact nad0 _ (by decide) | exact (nad0 _ (by decide)).symm | omega)) (nin2 (by first | exact nad _ _ (by decide) | exact nad0 _ (by decide) | exact (nad0 _ (by decide)).symm | omega) (by first | exact nad _ _ (by decide) | exact nad0 _ (by decide) | exact (nad0 _ (by decide)).symm | omega)) (nne (by first | exact nad _ _ (by decide) | exact nad0 _ (by decide) | exact (nad0 _ (by decide)).symm | omega)) (nne (by first | exact nad _ _ (by decide) | exact nad0 _ (by decide) | exact (nad0 _ (by decide)).symm | omega)) (nne (by first | exact nad _ _ (by decide) | exact nad0 _ (by decide) | exact (nad0 _ (by decide)).symm | omega)) (nne (by first | exact nad _ _ (by decide) | exact nad0 _ (by decide) | exact (nad0 _ (by decide)).symm | omega)) fun h' e tk k ho => ⟨e, rfl, ho, rfl, fin h' e tk k⟩)
  self := fun _ _ _ _ _ st h => wpAny_pyIter_zip st.1 h
section
variable {X : Cx} {elts : List Expr} {kt : Nat} {pt : Pos}
theorem b_zip : bootBuiltins "zip" = some (.type "zip") := by decide +kernel
def iZip (K : PySem.W.Frag) (ta : TA) : TI := fun σ H R => ta σ H fun vs H1 => ∃ (c d : Bool) (a b : Addr), vs = [.ref a, .ref b] ∧ (∃ xs, SqC c K H1 a xs) ∧ (∃ ys, SqC d K H1 b ys) ∧ R (Itz K c a d b) H1
end
end L3

namespace L3
open PySem PySem.Spec PyProof.Rows L2
section
variable {X : Cx} {elts : List Expr} {kt : Nat} {pt : Pos} {K : PySem.W.Frag}
theorem pi_zip {a b : Expr} {ta : TA} {p pos : Pos} (hK : X.K = K) (hg : Gl X "zip") (hm : X.mg "zip" = none) (ha : PA X [a, b] ta) (hs : starEach [a, b] X.env = [(false, eval a X.env), (false, eval b X.env)] := by rfl) (hs2 : starEach [b] X.env = [(false, eval b X.env)] := by rfl) :
    PI X (.Tuple elts kt pt) (.Call (.Name "zip" p) [a, b] [] pos) (iZip K ta) := by
  subst hK
  intro pins s σ H R I h
  refine Call_ (ld_blt I hg hm b_zip (PyProof.Rows.callWith_type1 (thn (ha pos pins s σ H _ I h) fun us s1 ⟨vs, H1, I1, r1, q1⟩ => ?_) (by rw [hs, hs2]) (by rw [hs2]; rfl)))
  obtain ⟨c, d, ra, rb, e, ⟨xs, hqa⟩, ⟨ys, hqb⟩, q⟩ := q1
  subst e
  obtain ⟨u, w', rfl, e1, e2⟩ := vals2 r1
  cases (show u = Value.ref ra from e1)
  cases (show w' = Value.ref rb from e2)
  obtain ⟨ia, va, pa⟩ := inv_seqC I1 hqa
  obtain ⟨ib, vb, pb⟩ := inv_seqC I1 hqb
  refine call_zipS pa.src pb.src fun h' hz hI hO h1 h2 hk => ?_
  refine wpAny_pyIter_zip (s := { s1 with heap := h' }) hz ?_
  have I2 : Inv X pins σ H1 { s1 with heap := h' } := I1.kept (t' := s1.toks) hk
  refine ⟨s1.heap.objs.size + 4, [s1.heap.objs.size + 4, s1.heap.objs.size + 3, s1.heap.objs.size + 2, s1.heap.objs.size + 1, s1.heap.objs.size], _, _, H1, rfl, I2, turn_zip c d ra rb s1.heap.objs.size pa.lt pb.lt, ⟨hz, hI, ⟨_, _, hO⟩, .mk h1, .mk h2⟩, fun b hb => ?_, q⟩
  have hle : s1.heap.objs.size ≤ b := by
    simp only [List.mem_cons, List.mem_nil_iff, or_false] at hb
    rcases hb with rfl | rfl | rfl | rfl | rfl <;> first | exact Nat.le_add_right _ _ | exact Nat.le_refl _
  exact I1.fpOk hle (I1.hok.fresh hle)
end
section
variable {K : PySem.W.Frag} {a b : Addr} {c d : Bool} {xs ys : List V} {g : TG} {tt : TT} {te : TE} {tb : TS} {D : Ends} {Q : VK} {σ : L2.St} {H : Hp}
theorem comp_zip (Pv : Nat → List V → L2.St → Hp → Prop) (h0 : Pv 0 [] σ H) (hl : ∀ i zs σ H, Pv i zs σ H → SqC c K H a xs ∧ SqC d K H b ys)
    (hs : ∀ i x y zs σ H T, xs[i]? = some x → ys[i]? = some y → Pv i zs σ H → H T = none → g (.ref T) σ (upd H T (.tup [x, y])) fun σ2 H3 => tt σ2 H3 fun b H4 => if b = true then te σ2 H4 fun y H5 => zs.length < sizeLine ∧ Pv (i + 1) (zs ++ [y]) σ2 H5 else Pv (i + 1) zs σ2 H4)
    (hd : ∀ zs σ H, Pv (min xs.length ys.length) zs σ H → ∀ l, H l = none → Q (.ref l) (upd H l (.lst zs))) :
    CompW (Itz K c a d b) σ H g tt te Q := by
  refine ⟨fun i m zs σ H => m = min xs.length ys.length - i ∧ i ≤ min xs.length ys.length ∧ Pv i zs σ H, ⟨min xs.length ys.length, by simp, Nat.zero_le _, h0⟩, ?_⟩
  rintro i m zs σ H ⟨rfl, hi, p⟩
  obtain ⟨q1, q2⟩ := hl i zs σ H p
  by_cases hlt : i < min xs.length ys.length
  · have l1 : i < xs.length := by omega
    have l2 : i < ys.length := by omega
    refine .inr ⟨⟨xs, ys, xs[i], ys[i], q1, q2, by simp [l1], by simp [l2]⟩, Pv (i + 1), fun ws σ' H' p' => ⟨min xs.length ys.length - (i + 1), by omega, rfl, hlt, p'⟩, fun x H' y => ?_⟩
    obtain ⟨T, v, w, hT, rfl, rfl, y1, y2⟩ := y
    exact hs i v w zs σ H T (y1 xs q1) (y2 ys q2) p hT
  · have e : i = min xs.length ys.length := by omega
    subst e
    exact .inl ⟨⟨xs, ys, q1, q2, by omega⟩, hd zs σ H p⟩
end
section
variable {prog : Program} {w : World} {A : Around} {E : Value → Shared → Prop} {s : Shared}
open AutoSeq1 (wpAny_loadPart')
theorem enum_newC (t : Addr) (c : Bool) (vs : Array Value) :
    Meets (Builtin.«enumerate.__new__» ⟨[.type "enumerate", .ref t], []⟩) (fun _ R s => SeqC c s.heap t vs ∧
      R (.ok (.ret (.ref (s.heap.push (zpO (cnC c) t)).objs.size)))
        { s with heap := (s.heap.push (zpO (cnC c) t)).push { cls := .type "enumerate", data := .fields #[.none, .bool false, .ref s.heap.objs.size, rawInt 0, .none, .none] } }) :=
  .of_wp fun prog w A R s h => by
    obtain ⟨hp, g, d, tk, os⟩ := s; obtain ⟨hT, h⟩ := h
    have hT' : SrcAt (Shared.heap ⟨hp, g, d, tk, os⟩) t (cnC c) vs := hT.src
    obtain ⟨ot, hot⟩ : ∃ o, hp.get? t = some o := by
      cases c
      · obtain ⟨o, e, _⟩ := (show hp.IsList t vs from hT); exact ⟨o, e⟩
      · obtain ⟨o, e, _⟩ := (show hp.IsTuple t vs from hT); exact ⟨o, e⟩
    have hsub := sub_enumerate
    wp_walk using wpAny_loadPart' hot
    refine wpAny_stack_any fun st => wpAny_pure ?_
    split
    · rename_i c' _ _ _ _ _
      cases (c' == Value.type "enumerate") <;> (wp_walk using wpAny_loadPart' hot, SrcAt.iter hT') <;> exact ⟨_, rfl, h⟩
    · wp_walk using wpAny_loadPart' hot, SrcAt.iter hT'
      exact ⟨_, rfl, h⟩
theorem call_enumC {t : Addr} {c : Bool} {vs : Array Value} {Q : Value → Shared → Prop} (ht : SeqC c s.heap t vs)
    (h : ∀ h', IsEnum h' (s.heap.objs.size + 1) s.heap.objs.size 0 .none → IterC c h' s.heap.objs.size t 0 → h'.objs.size = s.heap.objs.size + 2 → (∀ b o, s.heap.get? b = some o → h'.get? b = some o) → Q (.ref (s.heap.objs.size + 1)) { s with heap := h' }) :
    wpAny (model prog w) A (call (.type "enumerate") [.ref t]) Q E s := by
  refine callType_new F.called_enumerate (by decide) (F.typeCall_enumerate_1 _) (F.newCall_enumerate_1 _) (fun obj => F.args_object_init_2 obj _) F.entry_enumerate_new (enum_newC t c vs) ⟨ht, ?_⟩
  have hz : (s.heap.push (zpO (cnC c) t)).objs.size = s.heap.objs.size + 1 := Heap.size_push ..
  show _ ∧ _
  rw [hz]
  have he : IsEnum ((s.heap.push (zpO (cnC c) t)).push { cls := .type "enumerate", data := .fields #[.none, .bool false, .ref s.heap.objs.size, rawInt 0, .none, .none] }) (s.heap.objs.size + 1) s.heap.objs.size 0 .none := by
    have := Heap.get?_push_size (s.heap.push (zpO (cnC c) t)) (o := { cls := .type "enumerate", data := .fields #[.none, .bool false, .ref s.heap.objs.size, rawInt 0, .none, .none] }) rfl
    rw [hz] at this; exact this
  exact ⟨⟨_, he, rfl⟩, h _ he (.mk (Heap.get?_push_of_some _ (Heap.get?_push_size _ rfl))) (by rw [Heap.size_push, Heap.size_push]) fun b o x => Heap.get?_push_of_some _ (Heap.get?_push_of_some _ x)⟩
end
def IteC (c : Bool) (K : PySem.W.Frag) (a : Addr) : It :=
  ⟨fun i H => ∃ xs x, SqC c K H a xs ∧ xs[i]? = some x, fun i H x H' => ∃ T v, H T = none ∧ x = .ref T ∧ H' = upd H T (.tup [.int i, v]) ∧ ∀ xs, SqC c K H a xs → xs[i]? = some v, fun i H => ∃ xs, SqC c K H a xs ∧ xs.length ≤ i⟩
theorem turn_enumC {P : Program} {w : World} {K : PySem.W.Frag} {elts : List Expr} {kt : Nat} {pt : Pos} (c : Bool) (a e jt : Addr) (hej : e ≠ jt) (hae : a ≠ e) (haj : a ≠ jt) :
    Turn P w K (.Tuple elts kt pt) (IteC c K a) [e, jt] e (fun i h => (∃ old, IsEnum h e jt i old) ∧ IterC c h jt a i) where
  mem := by simp
  obj := fun i h st b hb => by
    obtain ⟨⟨old, he⟩, st⟩ := st
    simp only [List.mem_cons, List.mem_nil_iff, or_false] at hb
    rcases hb with rfl | rfl
    · exact ⟨_, he, fun v z => by cases z⟩
    · exact st.obj
  keep := fun i h h' st k => by
    obtain ⟨⟨old, he⟩, st⟩ := st
    exact ⟨⟨old, k e (by simp) _ he⟩, st.at fun o q => k jt (by simp) o q⟩
  item := by
    intro X hP hw hK hc i pins s σ H E I hf st hg
    subst hP hw hK
    obtain ⟨⟨old, he⟩, hit⟩ := st
    obtain ⟨xs, x, hq, hx⟩ := hg
    obtain ⟨its, rv, p⟩ := inv_seqC I hq
    obtain ⟨u, hu, ru⟩ := rv.get hx
    have hlt : i < its.toArray.size := by have := (List.getElem?_eq_some_iff.mp hu).1; simpa using this
    refine wpAny_pyNext_enum_itemD (drawsC (A := X.A.in1) (I.ok.hd hc) c jt a haj its.toArray) he ⟨hit, p⟩ hlt hej (by simp [hej, Ne.symm hae]) fun v h1 tk hv hout hst1 hT hsz hk => ?_
    have hvu : v = u := by
      have e1 : its.toArray[i]? = some v := hv
      have e2 : its.toArray[i]? = some u := by simpa using hu
      rw [e1] at e2; exact Option.some.inj e2
    subst hvu
    refine ⟨_, rfl, wpAny_letOwnedTupleGo_enum (s := { s with heap := h1, toks := tk + 1 }) hout fun h2 he2 hs2 => ?_⟩
    have hk2 : ∀ b o, b ∉ [e, jt] → s.heap.get? b = some o → h2.get? b = some o := fun b o hb q => by
      have n1 : b ≠ e := fun z => hb (by simp [z])
      have n2 : b ≠ jt := fun z => hb (by simp [z])
      exact (hs2.2 b n1).trans (hk b o n1 n2 q)
    have eT : s.heap.objs.size ≠ e := Nat.ne_of_gt (Heap.lt_size he)
    have hT2 : h2.get? s.heap.objs.size = some { cls := .type "tuple", data := .seq #[.int i tk, v] } := (hs2.2 _ eT).trans hT
    have hn : H s.heap.objs.size = none := I.hok.fresh (Nat.le_refl _)
    have I2 : Inv X pins σ (upd H s.heap.objs.size (.tup [.int i, x])) { s with heap := h2, toks := tk + 1 } := turnLaid (s := s) I hk2 hf (Nat.le_refl _) ⟨by show 2 ≤ sizeLine; decide, [.int i tk, v], .cons ⟨_, rfl⟩ (.cons ru .nil), _, hT2, rfl, 0, rfl⟩
    refine ⟨.ref s.heap.objs.size, upd H s.heap.objs.size (.tup [.int i, x]), I2, rfl, ⟨_, x, hn, rfl, rfl, fun ys hy => by rw [inv_seqC_inj I hy hq]; exact hx⟩, ⟨⟨v, by simpa using he2⟩, ?_⟩, fun b hb => ?_⟩
    · exact hst1.1.at fun o q => (hs2.2 jt (Ne.symm hej)).trans q
    · have nb : b ≠ s.heap.objs.size := by
        obtain ⟨oj, hoj, _⟩ := hit.obj
        simp only [List.mem_cons, List.mem_nil_iff, or_false] at hb
        rcases hb with rfl | rfl
        · exact Ne.symm eT
        · exact Nat.ne_of_lt (Heap.lt_size hoj)
      rw [upd_ne nb]; exact (hf b hb).1
  done := by
    intro X hP hw hK hc i pins s σ H E I hf st hg
    subst hP hw hK
    obtain ⟨⟨old, he⟩, hit⟩ := st
    obtain ⟨xs, hq, hx⟩ := hg
    obtain ⟨its, rv, p⟩ := inv_seqC I hq
    have hl := rv.length
    refine wpAny_pyNext_enum_endD (drawsC_end (A := X.A.in1) (I.ok.hd hc) c jt a its.toArray (i := i) (by simp; omega)) he ⟨rfl, hit, p⟩ fun h' eb => ⟨rfl, ?_⟩
    exact turnedL (fp := [e, jt]) (t' := s.toks) I (fun b o hb q => eb b o (fun z => hb (by simp [z])) q) hf
  self := fun _ _ _ _ _ st h => by
    obtain ⟨⟨old, he⟩, _⟩ := st
    exact wpAny_pyIter_enum he h
section
variable {X : Cx} {elts : List Expr} {kt : Nat} {pt : Pos} {K : PySem.W.Frag}
def iEnumC (c : Bool) (K : PySem.W.Frag) (ta : TA) : TI := fun σ H R => ta σ H fun vs H1 => ∃ a xs, vs = [.ref a] ∧ SqC c K H1 a xs ∧ R (IteC c K a) H1
theorem pi_enumC {a : Expr} {ta : TA} {p pos : Pos} (c : Bool) (hK : X.K = K) (hg : Gl X "enumerate") (hm : X.mg "enumerate" = none) (ha : PA X [a] ta) (hs : starEach [a] X.env = [(false, eval a X.env)] := by rfl) :
    PI X (.Tuple elts kt pt) (.Call (.Name "enumerate" p) [a] [] pos) (iEnumC c K ta) := by
  subst hK
  intro pins s σ H R I h
  refine Call_ (ld_blt I hg hm b_enum (PyProof.Rows.callWith_type1 (thn (ha pos pins s σ H _ I h) fun us s1 ⟨vs, H1, I1, r1, q1⟩ => ?_) hs rfl))
  obtain ⟨t, xs, e, hq, q⟩ := q1
  subst e
  obtain ⟨u, rfl, e1⟩ := vals1 r1
  cases (show u = Value.ref t from e1)
  obtain ⟨its, rv, p⟩ := inv_seqC I1 hq
  refine call_enumC p fun h' he hit _ hk => ?_
  refine wpAny_pyIter_enum he ?_
  have lt : t < s1.heap.objs.size := p.lt
  have I2 : Inv X pins σ H1 { s1 with heap := h' } := I1.kept (t' := s1.toks) hk
  refine ⟨s1.heap.objs.size + 1, [s1.heap.objs.size + 1, s1.heap.objs.size], _, _, H1, rfl, I2, turn_enumC c t (s1.heap.objs.size + 1) s1.heap.objs.size (Nat.succ_ne_self _) (Nat.ne_of_lt (Nat.lt_succ_of_lt lt)) (Nat.ne_of_lt lt), ⟨⟨_, he⟩, hit⟩, fun b hb => ?_, q⟩
  simp only [List.mem_cons, List.mem_nil_iff, or_false] at hb
  rcases hb with rfl | rfl
  · exact I1.fpOk (Nat.le_succ _) (I1.hok.fresh (Nat.le_succ _))
  · exact I1.fpOk (Nat.le_refl _) (I1.hok.fresh (Nat.le_refl _))
end
section
variable {K : PySem.W.Frag} {a : Addr} {c : Bool} {xs : List V} {g : TG} {tt : TT} {te : TE} {tb : TS} {D : Ends} {Q : VK} {σ : L2.St} {H : Hp}
theorem for_enumC (Pv : Nat → L2.St → Hp → Prop) (h0 : Pv 0 σ H) (hl : ∀ i σ H, i ≤ xs.length → Pv i σ H → SqC c K H a xs)
    (hs : ∀ i x σ H T, xs[i]? = some x → Pv i σ H → H T = none → g (.ref T) σ (upd H T (.tup [.int i, x])) fun σ2 H2 => tb { D with nx := Pv (i + 1), ct := Pv (i + 1), bk := D.nx } σ2 H2) (hd : ∀ σ H, Pv xs.length σ H → D.nx σ H) :
    ∃ W : Nat → Nat → L2.St → Hp → Prop, (∃ m, W 0 m σ H) ∧ ∀ i m σ H, W i m σ H →
      ((IteC c K a).stop i H ∧ D.nx σ H) ∨ ((IteC c K a).go i H ∧ ∃ N : L2.St → Hp → Prop, (∀ σ' H', N σ' H' → ∃ m', m' < m ∧ W (i + 1) m' σ' H') ∧ ∀ x H', (IteC c K a).yld i H x H' → g x σ H' fun σ2 H2 => tb { D with nx := N, ct := N, bk := D.nx } σ2 H2) := by
  refine ⟨fun i m σ H => m = xs.length - i ∧ i ≤ xs.length ∧ Pv i σ H, ⟨xs.length, by simp, Nat.zero_le _, h0⟩, ?_⟩
  rintro i m σ H ⟨rfl, hi, p⟩
  have q := hl i σ H hi p
  by_cases hlt : i < xs.length
  · refine .inr ⟨⟨xs, xs[i], q, by simp [hlt]⟩, Pv (i + 1), fun σ' H' p' => ⟨xs.length - (i + 1), by omega, rfl, hlt, p'⟩, fun x H' y => ?_⟩
    obtain ⟨T, v, hT, rfl, rfl, y⟩ := y
    exact hs i v σ H T (y xs q) p hT
  · have e : i = xs.length := by omega
    subst e
    exact .inl ⟨⟨xs, q, Nat.le_refl _⟩, hd σ H p⟩
end
end L3

namespace L3
open PySem PySem.Spec PyProof.Rows L2
section
variable {X : Cx}
theorem op_isB : OpR X (compareOp .Is) (fun x y H Q => ∃ k j : Bool, x = .bl k ∧ y = .bl j ∧ Q (.bl (k == j)) H) := by
  intro pins s σ H x y v u Q I rx ry h
  obtain ⟨k, j, rfl, rfl, q⟩ := h
  cases (show v = Value.bool k from rx)
  cases (show u = Value.bool j from ry)
  refine wpAny_is_plain (by cases k <;> cases j <;> rfl) (fin_bl I q ?_)
  cases k <;> cases j <;> rfl
variable {K : PySem.W.Frag}
theorem pg_tupK {es : List Expr} {k : Nat} {pos : Pos} {t : TGs} (n : Nat) (h0 : X.K = K) (hc : X.calm = true) (h : PGs X es t)
    (hn : (assignEach es X.env).length = n) (hst : (assignEach es X.env).findIdx? (·.1) = none) : PG X (.Tuple es k pos) (gTup K n t) := by subst h0; exact pg_tup hc h hn hst
end
def InC (C : Int) (xs : List Int) : Prop := ∀ v ∈ xs, -C ≤ v ∧ v ≤ C
theorem InC.mono {B C : Int} {xs : List Int} (h : InC B xs) (hC : B ≤ C) : InC C xs := fun v hv => by have := h v hv; omega
end L3

namespace L3
open PySem PySem.Spec PyProof.Rows L2
end L3

namespace L3
open PySem PySem.Spec PyProof.Rows L2
theorem vals_ints : ∀ {ns : List Int} {us : List Value}, IntsAre us ns → Vals (ns.map V.int) us := by
  intro ns us h
  induction h with
  | nil => exact .nil
  | cons n t _ ih => exact .cons ⟨t, rfl⟩ ih
section
variable {X : Cx} {K : PySem.W.Frag}
theorem fm_congr {α β : Type} {f g : α → Option β} : ∀ {l : List α}, (∀ x ∈ l, f x = g x) → l.filterMap f = l.filterMap g
  | [], _ => rfl
  | x :: xs, h => by rw [List.filterMap_cons, List.filterMap_cons, h x (by simp), fm_congr fun y hy => h y (List.mem_cons_of_mem _ hy)]
theorem slicePick_rev (its : List Value) : slicePick its.toArray none none (some (-1)) = its.reverse.toArray := by
  have key : ∀ l : List Value, ((List.range l.length).map fun k : Nat => ((l.length : Int) - 1 + -1 * (k : Int)).toNat).filterMap (l.toArray[·]?) = l.reverse := by
    intro l
    refine List.ext_getElem? fun i => ?_
    have e : ((List.range l.length).map fun k : Nat => ((l.length : Int) - 1 + -1 * (k : Int)).toNat).filterMap (l.toArray[·]?) = (List.range l.length).filterMap fun k => l[l.length - 1 - k]? := by
      rw [List.filterMap_map]
      refine fm_congr fun k hk => ?_
      have := List.mem_range.mp hk
      show l.toArray[((l.length : Int) - 1 + -1 * (k : Int)).toNat]? = _
      rw [show ((l.length : Int) - 1 + -1 * (k : Int)).toNat = l.length - 1 - k by omega]; simp
    have e2 : (List.range l.length).filterMap (fun k => l[l.length - 1 - k]?) = (List.range l.length).map fun k => l.getD (l.length - 1 - k) .none := by
      rw [← List.filterMap_eq_map]
      refine fm_congr fun k hk => ?_
      have := List.mem_range.mp hk
      rw [List.getElem?_eq_getElem (by omega)]
      show _ = some (l.getD (l.length - 1 - k) .none)
      rw [List.getD_eq_getElem?_getD, List.getElem?_eq_getElem (by omega)]; rfl
    rw [e, e2, List.getElem?_map]
    by_cases hi : i < l.length
    · rw [List.getElem?_range hi, List.getElem?_reverse hi, List.getElem?_eq_getElem (by omega)]
      show some (l.getD (l.length - 1 - i) .none) = _
      rw [List.getD_eq_getElem?_getD, List.getElem?_eq_getElem (by omega)]; rfl
    · rw [List.getElem?_eq_none (by rw [List.length_range]; omega), List.getElem?_eq_none (by rw [List.length_reverse]; omega)]; rfl
  unfold slicePick
  have b1 : (sliceBounds none none (some (-1)) its.toArray.size).1 = (its.length : Int) - 1 := by simp [sliceBounds]
  have b2 : (sliceBounds none none (some (-1)) its.toArray.size).2.1 = -1 := by simp [sliceBounds]
  have b3 : (sliceBounds none none (some (-1)) its.toArray.size).2.2 = -1 := rfl
  rw [b1, b2, b3]
  have c : sliceRange ((its.length : Int) - 1) (-1) (-1) = (List.range its.length).map fun k : Nat => ((its.length : Int) - 1 + -1 * (k : Int)).toNat := by
    unfold sliceRange
    by_cases h : its.length = 0
    · rw [h]; rfl
    · rw [if_neg (by decide), if_pos (by omega)]
      have : (((its.length : Int) - 1 - -1 - -1 - 1) / (- -1)).toNat = its.length := by
        rw [show ((its.length : Int) - 1 - -1 - -1 - 1) = its.length by omega, show (- -1 : Int) = 1 from rfl, Int.ediv_one]; omega
      dsimp only
      rw [this]
  rw [c, key]
theorem valsRev : ∀ {xs : List V} {us : List Value}, Vals xs us → Vals xs.reverse us.reverse
  | _, _, .nil => .nil
  | _, _, .cons r t => by
    rw [List.reverse_cons, List.reverse_cons]
    exact (valsRev t).append (.cons r .nil)
end
end L3

namespace L3
open PySem PySem.Spec PyProof.Rows L2
structure Wk (prog : Program) (w : World) (A : Around) (T : String) (I : Addr) (n : Nat) (Fr : Addr → Prop) (J : List Value → Shared → Prop) (Fn : List Value → Shared → Prop) : Prop where
  ty : ∀ acc s, J acc s → s.TypeIs (.ref I) T
  self : ∀ acc s (Q : Value → Shared → Prop) (E : Value → Shared → Prop), J acc s → Q (.ref I) s → wpAny (model prog w) A (pyIter (.ref I)) Q E s
  stay : ∀ acc s (S : Addr) (ob : Obj) (h' : Heap), J acc s → Fr S → s.heap.get? S = some ob → ob.cls = .type "list" → (∀ b o, b ≠ S → s.heap.get? b = some o → h'.get? b = some o) → h'.objs.size = s.heap.objs.size → J acc { s with heap := h' }
  next : ∀ acc s (S : Addr) (ob : Obj) (Q : Option Value → Shared → Prop) (E : Value → Shared → Prop), J acc s → Fr S → s.heap.get? S = some ob → ob.cls = .type "list" →
    (∀ v s', acc.length < n → J (acc ++ [v]) s' → s'.heap.get? S = some ob → Q (some v) s') → (∀ s', Fn acc s' → s'.heap.get? S = some ob → Q none s') → wpAny (model prog w) A (pyNext (.ref I)) Q E s
  push : ∀ acc s (o : Obj), J acc s → J acc { s with heap := s.heap.push o }
section
variable {prog : Program} {w : World} {A : Around} {R : Result → Shared → Prop} {T : String} {I : Addr} {n : Nat} {Fr : Addr → Prop} {J Fn : List Value → Shared → Prop}
end
section
variable {prog : Program} {w : World} {A : Around} {E : Value → Shared → Prop} {s : Shared} {T : String} {I : Addr} {n : Nat} {Fr : Addr → Prop} {J Fn : List Value → Shared → Prop}
end
end L3

namespace L3
open PySem PySem.Spec PyProof.Rows L2
section
variable {prog : Program} {w : World} {A : Around} {E : Value → Shared → Prop} {s : Shared}
end
section
variable {X : Cx} {pins : List (Addr × Obj)} {σ : L2.St} {H : Hp} {s : Shared} {h' : Heap}
end
end L3

namespace L3
open PySem PySem.Spec PyProof.Rows L2
section
variable {X : Cx} {pins : List (Addr × Obj)} {σ : L2.St} {H : Hp} {s0 : Shared} {K : PySem.W.Frag}
end
section
variable {X : Cx} {K : PySem.W.Frag} {a : Expr} {ta : TA} {p p2 pos pos2 : Pos}
end
end L3

namespace L3
open PySem PySem.Spec PyProof.Rows L2
section
variable {X : Cx} {K : PySem.W.Frag}
end
def PurseF (H : Hp) (a : Addr) : Prop := ∃ p0 c t : Int, H a = some (.lst [.int p0, .int c, .int t]) ∧ 0 ≤ p0
theorem PurseF.grow {H H' : Hp} {a : Addr} (p : PurseF H a) (g : Grow [] H H') : PurseF H' a := by
  obtain ⟨x, y, z, h, q⟩ := p
  exact ⟨x, y, z, g.keep _ _ (by simp) h, q⟩
theorem PurseF.new {H : Hp} {a l : Addr} (p : PurseF H a) (hl : H l = none) (o : HO) : PurseF (upd H l o) a := p.grow (Grow.new hl o)
theorem PurseF.ne {H : Hp} {a l : Addr} (p : PurseF H a) (h : H l = none) : l ∉ [a] := by
  intro z
  obtain ⟨x, y, w, hz, _⟩ := p
  rw [List.mem_singleton.mp z, hz] at h
  cases h
def sortI (ns : List Int) : List Int := ns.mergeSort fun a b => decide (a ≤ b)
def dupS : List Int → Option Int
  | a :: b :: r => if a = b then some a else dupS (b :: r)
  | _ => none
def levelL (rows : List (List Int)) (l : Nat) : List Int := rows.map fun r => r.getD l 0
def sharedAt (rows : List (List Int)) (l : Nat) : Option Int := dupS (sortI (levelL rows l))
def SharedIs (k : Nat) (rows : List (List Int)) (o : Option (Nat × Int)) : Prop := match o with
  | none => ∀ l, l ≤ k → sharedAt rows l = none
  | some (l, v) => l ≤ k ∧ sharedAt rows l = some v ∧ ∀ j, j < l → sharedAt rows j = none
theorem SharedIs.one {k : Nat} {rows rows' : List (List Int)} {o o' : Option (Nat × Int)} (e : ∀ l, sharedAt rows l = sharedAt rows' l) (h : SharedIs k rows o) (h' : SharedIs k rows' o') : o = o' := by
  cases o with
  | none =>
    cases o' with
    | none => rfl
    | some p =>
      obtain ⟨l, v⟩ := p
      have z := h l h'.1
      rw [e, h'.2.1] at z; cases z
  | some p =>
    obtain ⟨l, v⟩ := p
    cases o' with
    | none =>
      have z := h' l h.1
      rw [← e, h.2.1] at z; cases z
    | some p' =>
      obtain ⟨l', v'⟩ := p'
      obtain ⟨a1, a2, a3⟩ := h
      obtain ⟨b1, b2, b3⟩ := h'
      by_cases c : l < l'
      · have z := b3 l c
        rw [← e, a2] at z; cases z
      · by_cases c2 : l' < l
        · have z := a3 l' c2
          rw [e, b2] at z; cases z
        · have : l = l' := by omega
          subst this
          rw [e, b2] at a2
          cases a2; rfl
def ClashAt (K : PySem.W.Frag) (H : Hp) (x : V) (o : Option (Nat × Int)) : Prop := match o with
  | none => x = .non
  | some (l, v) => ∃ r, x = .ref r ∧ SqT K H r [.int l, .int v]
theorem Grow.clash {m : List Addr} {H H' : Hp} (g : Grow m H H') {K : PySem.W.Frag} {x : V} {o : Option (Nat × Int)} (h : ClashAt K H x o) : ClashAt K H' x o := by
  cases o with
  | none => exact h
  | some p =>
    obtain ⟨l, v⟩ := p
    obtain ⟨r, e, z⟩ := h
    exact ⟨r, e, g.sqT z⟩
theorem cut_pre {xs : List V} {c : Nat} : cutV xs none (some (c : Int)) = xs.take c := by
  unfold cutV
  rw [HT.sIx_none, HT.sIx_nat, List.drop_zero, Nat.sub_zero]
  by_cases h : c ≤ xs.length
  · rw [Nat.min_eq_left h]
  · rw [Nat.min_eq_right (by omega), List.take_of_length_le (by omega), List.take_of_length_le (by omega)]
theorem cut_suf {xs : List V} {c : Nat} : cutV xs (some (c : Int)) none = xs.drop c := by
  unfold cutV
  rw [HT.sIx_none, HT.sIx_nat]
  by_cases h : c ≤ xs.length
  · rw [Nat.min_eq_left h, List.take_of_length_le (by rw [List.length_drop]; exact Nat.le_refl _)]
  · rw [Nat.min_eq_right (by omega), List.drop_eq_nil_of_le (by omega), List.drop_eq_nil_of_le (by omega)]; simp
end L3

namespace L3
open PySem PySem.Spec PyProof.Rows L2
mutual
inductive Dq (K : PySem.W.Frag) (H : Hp) : V → PyData → Prop
  | non : Dq K H .non .none
  | bl (b : Bool) : Dq K H (.bl b) (.bool b)
  | int (i : Int) : Dq K H (.int i) (.int i)
  | str (x : Str) : Dq K H (.str x) (.str x)
  | tup {a : Addr} {xs : List V} {ds : List PyData} : SqT K H a xs → DqAll K H xs ds → Dq K H (.ref a) (.tuple ds)
  | lst {a : Addr} {xs : List V} {ds : List PyData} : SqL K H a xs → DqAll K H xs ds → Dq K H (.ref a) (.list ds)
inductive DqAll (K : PySem.W.Frag) (H : Hp) : List V → List PyData → Prop
  | nil : DqAll K H [] []
  | cons {x : V} {xs : List V} {d : PyData} {ds : List PyData} : Dq K H x d → DqAll K H xs ds → DqAll K H (x :: xs) (d :: ds)
end
mutual
theorem Dat.dq {K : PySem.W.Frag} {H : Hp} : ∀ {x : V} {d : PyData}, Dat K H x d → Dq K H x d
  | _, _, .non => .non
  | _, _, .bl b => .bl b
  | _, _, .int i => .int i
  | _, _, .tup h t => .tup h (DatAll.dq t)
  | _, _, .lst h t => .lst h (DatAll.dq t)
theorem DatAll.dq {K : PySem.W.Frag} {H : Hp} : ∀ {xs : List V} {ds : List PyData}, DatAll K H xs ds → DqAll K H xs ds
  | _, _, .nil => .nil
  | _, _, .cons h t => .cons (Dat.dq h) (DatAll.dq t)
end
theorem DqAll.len {K : PySem.W.Frag} {H : Hp} : ∀ {xs : List V} {ds : List PyData}, DqAll K H xs ds → xs.length = ds.length
  | _, _, .nil => rfl
  | _, _, .cons _ t => congrArg (· + 1) (DqAll.len t)
theorem DqAll.app {K : PySem.W.Frag} {H : Hp} : ∀ {xs : List V} {ds : List PyData} {ys : List V} {es : List PyData}, DqAll K H xs ds → DqAll K H ys es → DqAll K H (xs ++ ys) (ds ++ es)
  | _, _, _, _, .nil, h => h
  | _, _, _, _, .cons h t, g => .cons h (DqAll.app t g)
theorem all_true (n : Nat) : (List.range n).all (fun _ => true) = true := List.all_eq_true.mpr fun _ _ => rfl
section
variable {X : Cx} {pins : List (Addr × Obj)} {σ : L2.St} {H : Hp} {s : Shared}
mutual
theorem dq_eq (I : Inv X pins σ H s) : ∀ {d : PyData} {x y : V} {u v : Value} {A : Around}, Dq X.K H x d → Dq X.K H y d → RelV x u → RelV y v → A.units + d.depth < cLine → SeqAt.EqAt A s u v true
  | _, _, y, u, v, A, .non, hy, ru, rv, _ => by
    cases hy
    cases (show u = Value.none from ru)
    cases (show v = Value.none from rv)
    exact SeqAt.EqAt.same _
  | _, _, y, u, v, A, .bl b, hy, ru, rv, _ => by
    cases hy
    cases (show u = Value.bool b from ru)
    cases (show v = Value.bool b from rv)
    exact SeqAt.EqAt.same _
  | _, _, y, u, v, A, .int i, hy, ru, rv, _ => by
    cases hy
    obtain ⟨t, rfl⟩ := ru
    obtain ⟨t', rfl⟩ := rv
    have z := SeqAt.EqAt.int_int (A := A) (s := s) i t i t'
    rw [beq_self_eq_true] at z
    exact z
  | _, _, y, u, v, A, .str x, hy, ru, rv, _ => by
    cases hy
    obtain ⟨t, rfl⟩ := ru
    obtain ⟨t', rfl⟩ := rv
    have z := SeqAt.EqAt.str_str (A := A) (s := s) x t x t'
    rw [beq_self_eq_true] at z
    exact z
  | _, _, y, u, v, A, .tup (a := a) (xs := xs) (ds := ds) hs ha, hy, ru, rv, hu => by
    cases hy with
    | tup hs' ha' =>
      rename_i a' xs'
      cases (show u = Value.ref a from ru)
      cases (show v = Value.ref a' from rv)
      obtain ⟨us, r1, t1, _⟩ := I.tuple hs
      obtain ⟨ws, r2, t2, _⟩ := I.tuple hs'
      have hd : A.units + (PyData.depthAll ds + 1) < cLine := hu
      by_cases e : a = a'
      · subst e; exact SeqAt.EqAt.same _
      · have l1 := ha.len
        have l2 := ha'.len
        have q := SeqAt.RcAt.tuples (e := fun _ => true) (isTuple_of t1) (isTuple_of t2) (by omega) (dqs_eq I ha ha' r1 r2 (A := A.in1) (by show A.units + 1 + PyData.depthAll ds < cLine; omega))
        rw [all_true, Bool.true_and, List.size_toArray, List.size_toArray, ← r1.length, ← r2.length, l1, l2, beq_self_eq_true] at q
        exact SeqAt.EqAt.of_refs e q
  | _, _, y, u, v, A, .lst (a := a) (xs := xs) (ds := ds) hs ha, hy, ru, rv, hu => by
    cases hy with
    | lst hs' ha' =>
      rename_i a' xs'
      cases (show u = Value.ref a from ru)
      cases (show v = Value.ref a' from rv)
      obtain ⟨us, r1, t1, _⟩ := I.list hs
      obtain ⟨ws, r2, t2, _⟩ := I.list hs'
      have hd : A.units + (PyData.depthAll ds + 1) < cLine := hu
      by_cases e : a = a'
      · subst e; exact SeqAt.EqAt.same _
      · have l1 := ha.len
        have l2 := ha'.len
        have q := SeqAt.RcAt.lists (e := fun _ => true) t1.isList t2.isList (by rw [List.size_toArray, List.size_toArray, ← r1.length, ← r2.length, l1, l2]) (by omega) (dqs_eq I ha ha' r1 r2 (A := A.in1) (by show A.units + 1 + PyData.depthAll ds < cLine; omega))
        rw [all_true] at q
        exact SeqAt.EqAt.of_refs e q
theorem dqs_eq (I : Inv X pins σ H s) : ∀ {ds : List PyData} {xs ys : List V} {us vs : List Value} {A : Around}, DqAll X.K H xs ds → DqAll X.K H ys ds → Vals xs us → Vals ys vs → A.units + PyData.depthAll ds < cLine →
    ∀ j (h1 : j < us.toArray.size) (h2 : j < vs.toArray.size), SeqAt.EqAt A s us.toArray[j] vs.toArray[j] true
  | _, _, _, _, _, A, .nil, hy, ru, rv, _ => fun j h1 _ => by
    cases ru
    exact absurd h1 (Nat.not_lt_zero j)
  | _, _, _, _, _, A, .cons (d := d) (ds := ds) hx tx, hy, ru, rv, hd => fun j h1 h2 => by
    cases hy with
    | cons hy ty =>
      cases ru with
      | cons r1 rr1 =>
        cases rv with
        | cons r2 rr2 =>
          have hd' : A.units + max d.depth (PyData.depthAll ds) < cLine := hd
          cases j with
          | zero => simpa using dq_eq I hx hy r1 r2 (A := A) (by omega)
          | succ j =>
            have z := dqs_eq I tx ty rr1 rr2 (A := A) (by omega) j (by simpa using h1) (by simpa using h2)
            simpa using z
end
variable {K : PySem.W.Frag}
end
end L3

namespace L3
open PySem PySem.Spec PyProof.Rows L2
def xN (k st a : Nat) : Nat := a ^^^ 2 ^ (k - st)
def nN (k st a : Nat) : Nat := (numsL k a st).toNat
def lN (k h g n : Nat) : Nat := (lineL k h g n).toNat
structure OneF (k st a : Nat) : Prop where
  sw : swI k st a = numsL k a st
  num : numsL k a st = (nN k st a : Int)
  lt : nN k st a < 2 ^ (k - 1)
  nx : nN k st (xN k st a) = nN k st a
  xx : xN k st (xN k st a) = a
  xne : xN k st a ≠ a
  xlt : xN k st a < 2 ^ k
  w0 : wfI k st a (Builtin.bitXor (figI k st a) 0) = (a : Int)
  w1 : wfI k st a (Builtin.bitXor (figI k st a) 1) = (xN k st a : Int)
  c1 : Builtin.bitXor (figI k st a) (figI k st (xN k st a)) = 1
  c0 : Builtin.bitXor (figI k st a) (figI k st a) = 0
  b0 : Builtin.bitXor (figI k st a) 0 = 0 ∨ Builtin.bitXor (figI k st a) 0 = 1
  b1 : Builtin.bitXor (figI k st a) 1 = 0 ∨ Builtin.bitXor (figI k st a) 1 = 1
def plOf (gs : List Nat) : List (Nat × Nat) := (List.range gs.length).map fun h => (h, gs.getD h 0)
def SidesOk (k : Nat) (gs : List Nat) : Prop := gs.length = 2 ^ k ∧ ∀ g ∈ gs, g < 2 ^ k
theorem SidesOk.get {k : Nat} {gs : List Nat} (h : SidesOk k gs) {i : Nat} (hi : i < 2 ^ k) : gs.getD i 0 < 2 ^ k := by
  rw [List.getD_eq_getElem?_getD, List.getElem?_eq_getElem (by rw [h.1]; exact hi)]
  exact h.2 _ (List.getElem_mem _)
def crossI (k st : Nat) (q : Nat × Nat) : Int := Builtin.bitXor (figI k st (lineL k q.1 q.2 (st - 1))) (figI k st (lineL k q.1 q.2 st))
def marksF (k st : Nat) (m : List Int) (q : Nat × Nat) : List Int := m.set (nN k st (lN k q.1 q.2 st)) (crossI k st q)
def marksR (k st : Nat) (pl : List (Nat × Nat)) : List Int := pl.foldl (marksF k st) (List.replicate (2 ^ k / 2) 0)
def setsL (k : Nat) (gs : List Nat) : List (List Int) := (List.range k).map fun n => marksR k (n + 1) (plOf gs)
end L3

namespace L3
open PySem PySem.Spec PyProof.Rows L2
section
variable {X : Cx} {a : Expr} {ta : TA} {p p2 pos pos2 : Pos}
end
end L3

namespace L3
open PySem PySem.Spec PyProof.Rows L2
def natsV (gs : List Nat) : List V := gs.map fun g : Nat => V.int g
def AnsAt (K : PySem.W.Frag) (H : Hp) (x : V) (k : Nat) (gs : List Nat) (o : Option (Nat × Int)) : Prop := ∃ (r : Addr) (s : Str) (y : V), x = .ref r ∧ SqT K H r [.str s, y] ∧ match o with
  | none => s = "settings" ∧ RowsAt K H y (setsL k gs)
  | some (l, v) => s = "clash" ∧ ∃ c, y = .ref c ∧ SqT K H c [.int l, .int v]
theorem Grow.ans {m : List Addr} {H H' : Hp} (g : Grow m H H') {K : PySem.W.Frag} {x : V} {k : Nat} {gs : List Nat} {o : Option (Nat × Int)} (h : AnsAt K H x k gs o) : AnsAt K H' x k gs o := by
  obtain ⟨r, s, y, e, z, w⟩ := h
  refine ⟨r, s, y, e, g.sqT z, ?_⟩
  cases o with
  | none => exact ⟨w.1, g.rows w.2⟩
  | some p =>
    obtain ⟨l, v⟩ := p
    obtain ⟨w1, c, e, z⟩ := w
    exact ⟨w1, c, e, g.sqT z⟩
theorem AllR.of_get {α : Type} {R : V → α → Prop} : ∀ {xs : List V} {ks : List α}, xs.length = ks.length → (∀ (i : Nat) (x : V), xs[i]? = some x → ∃ k, ks[i]? = some k ∧ R x k) → AllR R xs ks
  | [], [], _, _ => trivial
  | x :: xs, k :: ks, hl, h => by
    refine ⟨?_, AllR.of_get (by simpa using hl) fun i y hy => by simpa using h (i + 1) y (by simpa using hy)⟩
    obtain ⟨k', e, r⟩ := h 0 x rfl
    cases e
    exact r
  | [], _ :: _, hl, _ => by simp at hl
  | _ :: _, [], hl, _ => by simp at hl
theorem SidesOk.set {k : Nat} {gs : List Nat} (h : SidesOk k gs) {j n : Nat} (hn : n < 2 ^ k) : SidesOk k (gs.set j n) := by
  refine ⟨by rw [List.length_set, h.1], fun g hg => ?_⟩
  rcases List.mem_or_eq_of_mem_set hg with z | rfl
  · exact h.2 g z
  · exact hn
end L3

namespace L3
open PySem PySem.Spec PyProof.Rows L2
section
variable {prog : Program} {w : World} {A : Around} {E : Value → Shared → Prop} {s : Shared}
end
section
variable {X : Cx} {K : PySem.W.Frag}
end
end L3

namespace L3
open PySem PySem.Spec PyProof.Rows L2
section
variable {prog : Program} {w : World} {A : Around} {E : Value → Shared → Prop} {s : Shared}
theorem rev_pick (its : List Value) : ((List.range its.length).filterMap fun (k : Nat) => its.toArray[((its.length : Int) - 1 + (k : Int) * (-1)).toNat]?).toArray = its.reverse.toArray := by
  have e := slicePick_rev its
  unfold slicePick at e
  have b1 : (sliceBounds none none (some (-1)) its.toArray.size).1 = (its.length : Int) - 1 := by simp [sliceBounds]
  have b2 : (sliceBounds none none (some (-1)) its.toArray.size).2.1 = -1 := by simp [sliceBounds]
  have b3 : (sliceBounds none none (some (-1)) its.toArray.size).2.2 = -1 := rfl
  rw [b1, b2, b3] at e
  have c : sliceRange ((its.length : Int) - 1) (-1) (-1) = (List.range its.length).map fun k : Nat => ((its.length : Int) - 1 + -1 * (k : Int)).toNat := by
    unfold sliceRange
    by_cases h : its.length = 0
    · rw [h]; rfl
    · rw [if_neg (by decide), if_pos (by omega)]
      have : (((its.length : Int) - 1 - -1 - -1 - 1) / (- -1)).toNat = its.length := by
        rw [show ((its.length : Int) - 1 - -1 - -1 - 1) = its.length by omega, show (- -1 : Int) = 1 from rfl, Int.ediv_one]; omega
      dsimp only
      rw [this]
  rw [c, List.filterMap_map] at e
  rw [← e]
  congr 1
  refine fm_congr fun k _ => ?_
  show its.toArray[((its.length : Int) - 1 + (k : Int) * (-1)).toNat]? = its.toArray[((its.length : Int) - 1 + -1 * (k : Int)).toNat]?
  rw [Int.mul_comm]
theorem applied_rev {sl : Addr} {vs : Value} {n : Nat} {Q : Int × Int × Nat → Shared → Prop} (hs : s.heap.IsSliceOf sl .none .none vs) (ps : IsPart vs (some (-1))) (q : Q ((n : Int) - 1, -1, n) s) :
    wpAny (model prog w) A (Builtin.Slice.sliceApplied (.ref sl) (pure (n : Int))) Q E s := by
  obtain ⟨ob, e1, e2, e3⟩ := id hs
  unfold Builtin.Slice.sliceApplied Builtin.Slice.sliceFields
  refine wpAny_bind (wpAny_bind (wpAny_field e1 e3 (x := .none) rfl (wpAny_bind (wpAny_field e1 e3 (x := .none) rfl (wpAny_bind (wpAny_field e1 e3 (x := vs) rfl (wpAny_pure (wpAny_bind (HT.slicePart_ ps ?_)))))))))
  show wpAny _ _ (if ((-1 : Int) == 0) = true then _ else _) _ _ s
  rw [if_neg (by decide)]
  refine wpAny_bind (HT.slicePart_ .none (wpAny_bind (HT.slicePart_ .none (wpAny_bind (wpAny_pure ?_)))))
  have e4 : Builtin.Slice.slicePlaces ((n : Int) - 1) (-1) (-1) = n := by
    unfold Builtin.Slice.slicePlaces
    simp only [show ¬ ((-1 : Int) > 0) by decide, if_false, show (- -1 : Int) = 1 from rfl, Int.ediv_one]
    split <;> omega
  show wpAny _ _ (pure ((n : Int) - 1, (-1 : Int), Builtin.Slice.slicePlaces ((n : Int) - 1) (-1) (-1))) _ _ s
  rw [e4]
  exact wpAny_pure q
theorem item_rev {t sl : Addr} {its : List Value} {vs : Value} {Q : Value → Shared → Prop} (ht : s.heap.IsTuple t its.toArray) (hs : s.heap.IsSliceOf sl .none .none vs) (ps : IsPart vs (some (-1)))
    (q : Q (.ref s.heap.objs.size) { s with heap := s.heap.push { cls := .type "tuple", data := .seq its.reverse.toArray } }) (hz : its.length ≤ sizeLine) : wpAny (model prog w) A (getItem (.ref t) (.ref sl)) Q E s := by
  obtain ⟨ob, e1, e2, e3⟩ := id hs
  have ty : s.TypeIs (.ref sl) "slice" := ⟨ob, e1, e2⟩
  have hk : sizeOk (.seq its.reverse.toArray) := by
    show its.reverse.toArray.size ≤ sizeLine
    rw [List.size_toArray, List.length_reverse]; exact hz
  unfold getItem
  try with_reducible refine wpAny_holding ?_
  first | refine wpAny_bind (wpAny_pure ?_) | skip
  refine wpAny_bind (wpAny_sequenceKey ht.typeIs (by decide) (wpAny_bind (wpAny_callSpecial?_slot (name := Str.ofString "__getitem__") ht.typeIs slot_tuple_getitem (wpAny_call_entry slot_tuple_getitem ht.typeIs entry_tuple_getitem ?_ (args_tuple_getitem _ _)))))
  show wpAny _ _ (Builtin.Tuple.tupleItemsOf (.ref t) >>= _) _ _ s
  refine wpAny_bind (tupleItemsOf_ ht (wpAny_bind (wpAny_typeOf ty ?_)))
  rw [if_pos (by decide)]
  refine wpAny_bind (applied_rev hs ps ?_)
  show wpAny _ _ (if (((its.toArray.size : Nat) : Int) - 1 == 0 && (-1 : Int) == 1 && its.toArray.size == its.toArray.size) = true then _ else _) _ _ s
  rw [if_neg (by rw [show ((-1 : Int) == 1) = false from rfl, Bool.and_false, Bool.false_and]; exact Bool.false_ne_true)]
  have e := rev_pick its
  rw [List.size_toArray, e]
  first
    | exact wpAny_bind (m := Builtin.Tuple.tupleExact _) (wpAny_newObj_type (wpAny_pure ⟨_, rfl, wpAny_pure q⟩) hk)
    | exact wpAny_bind (m := Builtin.Tuple.tupleExact _) (wpAny_newObj_type (wpAny_bind (wpAny_pure (wpAny_pure ⟨_, rfl, wpAny_pure q⟩))) hk)
    | exact wpAny_bind (wpAny_bind (m := Builtin.Tuple.tupleExact _) (wpAny_newObj_type (wpAny_pure (wpAny_pure ⟨_, rfl, wpAny_pure q⟩)) hk))
    | exact wpAny_bind (wpAny_bind (m := Builtin.Tuple.tupleExact _) (wpAny_newObj_type (wpAny_pure ⟨_, rfl, wpAny_pure q⟩) hk))
end
section
variable {X : Cx} {K : PySem.W.Frag}
def tRevT (K : PySem.W.Frag) (te : TE) : TE := fun σ H Q => te σ H fun x H1 => ∃ a xs, x = .ref a ∧ SqT K H1 a xs ∧ ∀ p, H1 p = none → Q (.ref p) (upd H1 p (.tup xs.reverse))
theorem pe_revT {e : Expr} {te : TE} {j : Nat} {pc pu p2 pos : Pos} (hK : X.K = K) (he : PE X e te) : PE X (.Subscript e (.Slice none none (some (.UnaryOp .USub (.Constant (.int 1) j pc) pu)) p2) pos) (tRevT K te) := by
  subst hK
  intro pins s σ H Q I h
  refine Subscript_ (thn (he pins s σ H _ I h) fun v s1 ⟨x, H1, I1, r1, q1⟩ => ?_)
  obtain ⟨a, xs, rfl, hx, q⟩ := q1
  cases (show v = Value.ref a from r1)
  refine wpAny_Slice (thn (po_none pins s1 σ H1 (fun o H2 => o = none ∧ H2 = H1) I1 ⟨rfl, rfl⟩) fun vl s2 ⟨l, H2, I2, pl, q2a, q2⟩ => thn (po_none pins s2 σ H2 (fun o H3 => o = none ∧ H3 = H1) I2 ⟨rfl, q2⟩) fun vu s3 ⟨u, H3, I3, pu', q3a, q3⟩ => ?_)
  subst q2a q3a
  cases pl
  cases pu'
  subst q3
  refine thn (po_some (pe_un un_neg pe_int) pins s3 σ H3 (fun o H4 => o = some (-1) ∧ H4 = H3) I3 ⟨_, rfl, _, rfl, rfl, rfl⟩) fun vs s4 ⟨o, H4, I4, po, q4, q5⟩ => ?_
  subst q4 q5
  have I5 : Inv X pins σ H4 { s4 with heap := s4.heap.push { cls := .type "slice", data := .fields #[.none, .none, vs] } } := I4.kept (t' := s4.toks) fun b ob q => Heap.get?_push_of_some _ q
  show wpAny (model X.prog X.w) X.A (subscriptTail e _ (.ref a) (.ref s4.heap.objs.size)) (EP X pins σ Q) X.xe { s4 with heap := s4.heap.push { cls := .type "slice", data := .fields #[.none, .none, vs] } }
  obtain ⟨its, r, ht, hz⟩ := I5.tuple hx
  have hlen := r.length
  refine tail_any (ops := [.ref a, .ref s4.heap.objs.size]) ht.typeIs slot_tuple_getitem.lookup ?_ (by with_unfolding_all rfl)
  refine item_rev ht (Heap.IsSliceOf.new ..) po ?_ (by omega)
  refine ⟨.ref _, _, I5.laid (t' := s4.toks) (o := .tup xs.reverse) (fun b ob q => Heap.get?_push_of_some _ q) (Nat.le_refl _) ?_, rfl, q _ (I5.hok.fresh (Nat.le_refl _))⟩
  exact ⟨by rw [List.length_reverse]; exact hz, _, valsRev r, IsTup.new _ _⟩
end
end L3

namespace L3
open PySem PySem.Spec PyProof.Rows L2
def wfN (k s l : Nat) (w : Int) : Nat := (wfI k s l w).toNat
structure WfF (k s l : Nat) (w : Int) : Prop where
  eq : wfI k s l w = (wfN k s l w : Int)
  lt : wfN k s l w < 2 ^ k
  at_ : figI k s (wfN k s l w) = w
  off : ∀ t : Nat, t ≤ k → t ≠ s → figI k t (wfN k s l w) = figI k t l
def mixN (k e x t : Nat) : Nat := (numL ((figsL k e).take (t - 1) ++ (figsL k x).drop t)).toNat
def fstI (rows : List (List Int)) (t n : Nat) : Int := (rows.getD (t - 1) []).getD n 0
def Ahead (k : Nat) (rows : List (List Int)) (e m x y : Nat) : Prop := ∃ t : Nat, m < t ∧ t ≤ k ∧ figI k t x ≠ figI k t y ∧ (∀ u : Nat, t < u → u ≤ k → figI k u x = figI k u y) ∧ figI k t x = fstI rows t (mixN k e x t)
structure OrdF (k : Nat) (rows : List (List Int)) (e n : Nat) (L : List Nat) : Prop where
  len : L.length = 2 ^ n
  mem : ∀ x ∈ L, x < 2 ^ k ∧ ∀ t : Nat, 1 ≤ t → t ≤ k - n → figI k t x = figI k t e
  all : ∀ x : Nat, x < 2 ^ k → (∀ t : Nat, 1 ≤ t → t ≤ k - n → figI k t x = figI k t e) → x ∈ L
  row : L.Pairwise (Ahead k rows e (k - n))
end L3

namespace L3
open PySem PySem.Spec PyProof.Rows L2
section
variable {lo : Int} {n k : Nat} {tt : TT} {te : TE} {Q : VK} {σ : L2.St} {H : Hp}
end
end L3

namespace L3
open PySem PySem.Spec PyProof.Rows L2
def LsR (H : Hp) (x : V) (row : List Int) : Prop := ∃ r, x = .ref r ∧ H r = some (.lst (row.map V.int))
def LsB (H : Hp) (x : V) (rows : List (List Int)) : Prop := ∃ l xs, x = .ref l ∧ H l = some (.lst xs) ∧ AllR (LsR H) xs rows
def LsN (a : Addr) (H : Hp) (x : V) (row : List Int) : Prop := ∃ r, x = .ref r ∧ r ∉ [a] ∧ H r = some (.lst (row.map V.int))
def LsA (a : Addr) (H : Hp) (x : V) (rows : List (List Int)) : Prop := ∃ l xs, x = .ref l ∧ l ∉ [a] ∧ H l = some (.lst xs) ∧ AllR (LsN a H) xs rows
theorem LsA.b {a : Addr} {H : Hp} {x : V} {rows : List (List Int)} (h : LsA a H x rows) : LsB H x rows := by
  obtain ⟨l, xs, e, n, z, w⟩ := h
  exact ⟨l, xs, e, z, w.imp fun _ _ ⟨r, e, _, z⟩ => ⟨r, e, z⟩⟩
end L3

namespace L3
open PySem PySem.Spec PyProof.Rows L2
def sd (k a : Nat) : Nat := if h : a = 0 ∨ k = 0 then 0 else a % 2 ^ k ^^^ sd k (a / 2 ^ k)
termination_by a
decreasing_by
  have : a ≠ 0 := fun e => h (.inl e)
  exact Nat.div_lt_self (by omega) (Nat.one_lt_two_pow (fun e => h (.inr e)))
end L3

namespace L3
open PySem PySem.Spec PyProof.Rows L2
section
variable {X : Cx}
end
end L3
namespace L3
open PySem PySem.Spec PyProof.Rows L2
end L3

namespace L3
open PySem PySem.Spec PyProof.Rows L2
section
variable {X : Cx}
end
end L3

namespace L3
open PySem PySem.Spec PyProof.Rows L2
end L3

namespace L3
open PySem PySem.Spec PyProof.Rows L2
section
variable {X : Cx} {K : PySem.W.Frag}
end
end L3

namespace L3
open PySem PySem.Spec PyProof.Rows L2
section
variable {prog : Program} {w : World} {A : Around} {E : Value → Shared → Prop} {s : Shared}
end
end L3

namespace L3
open PySem PySem.Spec PyProof.Rows L2
section
variable {prog : Program} {w : World} {A : Around} {E : Value → Shared → Prop} {s : Shared}
end
section
variable {X : Cx} {nm : Str} {pt : Pos} {K : PySem.W.Frag}
end
end L3

namespace L3
open PySem PySem.Spec PyProof.Rows L2
section
variable {X : Cx} {K : PySem.W.Frag}
end
section
variable {X : Cx}
end
section
variable {lo : Int} {n k : Nat} {te : TE} {Q : VK} {σ : L2.St} {H : Hp}
end
end L3

namespace L3
open PySem PySem.Spec PyProof.Rows L2
theorem natsV_len {gs : List Nat} : (natsV gs).length = gs.length := by unfold natsV; rw [List.length_map]
def RowsIn (K : PySem.W.Frag) (H : Hp) (f : Addr) (rows : List (List Int)) : Prop := ∃ xs, H f = some (.lst xs) ∧ AllR (BoardAt K H) xs rows
theorem RowsIn.grow {K : PySem.W.Frag} {H H' : Hp} {f : Addr} {rows : List (List Int)} (h : RowsIn K H f rows) (g : Grow [] H H') : RowsIn K H' f rows := by
  obtain ⟨xs, e, a⟩ := h
  exact ⟨xs, g.keep _ _ (by simp) e, g.boardsR a⟩
theorem RowsIn.ne {K : PySem.W.Frag} {H : Hp} {f r : Addr} {rows : List (List Int)} (h : RowsIn K H f rows) (e : H r = none) : r ≠ f := by
  obtain ⟨xs, e', _⟩ := h
  intro z; rw [z, e'] at e; cases e
theorem natsV_app {a b : List Nat} : natsV (a ++ b) = natsV a ++ natsV b := by unfold natsV; exact List.map_append
end L3
namespace L3
open PySem PySem.Spec PyProof.Rows L2
end L3
namespace L3
open PySem PySem.Spec PyProof.Rows L2
theorem RowsIn.set {K : PySem.W.Frag} {H : Hp} {f : Addr} {rows : List (List Int)} {xs : List V} (e : H f = some (.lst xs)) (a : AllR (BoardAt K H) xs rows) : RowsIn K H f rows := ⟨xs, e, a⟩
end L3
namespace L3
open PySem PySem.Spec PyProof.Rows L2
end L3

namespace L3
open PySem PySem.Spec PyProof.Rows L2
structure CScC (X : Cx) (scope : Scope) (N' : List Str) (sub : List (Option Nat)) : Prop where
  free : ∀ y ∈ scope.names, y.2 = .free → X.env.kindOf y.1 = some .cell
  nd : (scope.names.map (·.1)).Nodup
  kind : scope.kind = .function
  names : ∀ y ∈ scope.names, y.2 = .local → scope.names.lookup y.1 = some .local
  len : sub.length = N'.length
  cap : ∀ (j : Nat) (y : Str) (i : Nat), N'[j]? = some y → sub[j]? = some (some i) → X.N[i]? = some y ∧ X.env.scope.names.lookup y = some .cell ∧ scope.names.lookup y = some .free
section
variable {X : Cx} {pins : List (Addr × Obj)} {σ : L2.St} {H2 : Hp} {s₂ : Shared} {it : Addr} {fp : List Addr} {tn : Nat → Heap → Prop} {J : It} {scope : Scope} {cl : List (Str × Addr)} {N' : List Str} {sub : List (Option Nat)}
end
section
variable {X : Cx} {scope : Scope} {N' : List Str} {sub : List (Option Nat)} {tg : Expr} {pos : Pos} {elt iter : Expr} {ifs : List Expr} {wi : TI} {g : TG} {tt : TT} {te : TE}
theorem CScC.clos {pins : List (Addr × Obj)} {σ : L2.St} {H : Hp} {s : Shared} (S : CScC X scope N' sub) (I : Inv X pins σ H s) : ∃ cl, closureFor scope X.env = pure cl ∧ (∀ x c, cl.lookup x = some c → X.env.cells.lookup x = some c) ∧ ∀ y ∈ scope.names, y.2 = .free → ∃ c, cl.lookup y.1 = some c :=
  closure_ok fun y hy hf => I.ok.has y.1 (.inl (S.free y hy hf))
end
end L3

namespace L3
open PySem PySem.Spec PyProof.Rows L2
theorem CScC.of {X : Cx} {scope : Scope} {N' : List Str} {sub : List (Option Nat)} (sc : Scope) (NN : List Str) (e : X.env.scope = sc) (en : X.N = NN)
    (h : ((scope.names.all fun y => (y.2 != .free || sc.names.lookup y.1 == some .cell) && (y.2 != .local || scope.names.lookup y.1 == some .local)) && (sub.length == N'.length) &&
      ((N'.zip sub).all fun p => match p.2 with | none => true | some i => NN[i]? == some p.1 && sc.names.lookup p.1 == some .cell && scope.names.lookup p.1 == some .free)) = true)
    (nd : (scope.names.map (·.1)).Nodup) (hk : scope.kind = .function) : CScC X scope N' sub := by
  rw [Bool.and_eq_true, Bool.and_eq_true] at h
  obtain ⟨⟨h1, h2⟩, h3⟩ := h
  have k1 := fun y hy => List.all_eq_true.mp h1 y hy
  refine ⟨fun y hy hf => ?_, nd, hk, fun y hy hl => ?_, by simpa using h2, fun j y i hj hs => ?_⟩
  · have := k1 y hy
    simp only [hf, Bool.and_eq_true] at this
    have z := this.1
    show X.env.scope.names.lookup y.1 = _
    rw [e]; simpa using z
  · have := k1 y hy
    simp only [hl, Bool.and_eq_true] at this
    simpa using this.2
  · have hm : (y, some i) ∈ N'.zip sub := by
      have : (N'.zip sub)[j]? = some (y, some i) := by
        rw [List.getElem?_zip_eq_some]; exact ⟨hj, hs⟩
      exact List.mem_of_getElem? this
    have := List.all_eq_true.mp h3 _ hm
    simp only [Bool.and_eq_true, beq_iff_eq] at this
    rw [e, en]
    exact ⟨this.1.1, this.1.2, this.2⟩
end L3

namespace L3
open PySem PySem.Spec PyProof.Rows L2
theorem AllOk.at {ds : List Deed} (h : AllOk ds) {i : Nat} (hi : i < ds.length) : (ds.getD i look).Ok := h _ (List.mem_of_getElem? (getDd hi))
structure MixOk (m : List Nat) : Prop where
  nd : m.Nodup
  lt : ∀ j ∈ m, j < m.length
  has : ∀ j, j < m.length → j ∈ m
theorem MixOk.of {m : List Nat} {n : Nat} (h : m.Perm (List.range n)) : MixOk m ∧ m.length = n := by
  have hl : m.length = n := by rw [h.length_eq, List.length_range]
  refine ⟨⟨(h.nodup_iff).mpr List.nodup_range, fun j hj => ?_, fun j hj => ?_⟩, hl⟩
  · rw [hl]; exact List.mem_range.mp (h.mem_iff.mp hj)
  · exact h.mem_iff.mpr (List.mem_range.mpr (by omega))
theorem MixOk.at {m : List Nat} (h : MixOk m) {j : Nat} (hj : j < m.length) : m.idxOf j < m.length ∧ m.getD (m.idxOf j) 0 = j := by
  have hl := List.idxOf_lt_length_of_mem (h.has j hj)
  refine ⟨hl, ?_⟩
  rw [List.getD_eq_getElem?_getD, List.getElem?_eq_getElem hl]
  exact List.getElem_idxOf hl
end L3

namespace L3
open PySem PySem.Spec PyProof.Rows L2
section
variable {X : Cx} {K : PySem.W.Frag}
end
end L3
namespace L3
open PySem PySem.Spec PyProof.Rows L2
theorem pe_bmK {X : Cx} {K : PySem.W.Frag} {T : String} {name : Str} {id : String} {r : V → List V → Hp → VK → Prop} {o e : Expr} {es : List Expr} {to : TE} {t : TA} {apos cpos : Pos} (hK : X.K = K) (pa : PlainAttrs T) (slot : Slot T name id) (hty : typeOf (.builtin id) = pure (.type "method_descriptor")) (hm : MtR X id r) (ho : PE X o to) (ha : PA X (e :: es) t)
    (hbase : attributeBase o name X.env (eval o X.env) = eval o X.env := by rfl)
    (hfew : ((backTo cpos (starEach (e :: es) X.env)).all (fun x => !x.1) && (backToKw cpos (keywordEach [] X.env)).all (fun x => x.1.isSome)
      && decide ((e :: es).length + ([] : List Keyword).length + (if ([] : List Keyword).isEmpty then 0 else 1) < 30)) = true := by rfl)
    (hline : (apos.endLine == cpos.line) = true := by rfl) (hs : starEach (e :: es) X.env = (false, eval e X.env) :: starEach es X.env := by rfl) (hplain : (backTo cpos (starEach es X.env)).any (·.1) = false := by rfl) :
    PE X (.Call (.Attribute o name apos) (e :: es) [] cpos) (tBM K T r to t) := by
  subst hK
  exact pe_bm pa slot hty hm ho ha hbase hfew hline hs hplain
end L3

namespace L3
open PySem PySem.Spec PyProof.Rows L2
structure WkD (prog : Program) (w : World) (A : Around) (T : String) (I : Addr) (n : Nat) (Fr : Addr → Prop) (J : List Value → Shared → Prop) (Fn : List Value → Shared → Prop) : Prop where
  ty : ∀ acc s, J acc s → s.TypeIs (.ref I) T
  self : ∀ acc s (Q : Value → Shared → Prop) (E : Value → Shared → Prop), J acc s → Q (.ref I) s → wpAny (model prog w) A (pyIter (.ref I)) Q E s
  stay : ∀ acc s (S : Addr) (ob : Obj) (h' : Heap), J acc s → Fr S → s.heap.get? S = some ob → (ob.cls = .type "list" ∧ ∀ v, ob.data ≠ .cell v) → (∀ b o, b ≠ S → s.heap.get? b = some o → h'.get? b = some o) → h'.objs.size = s.heap.objs.size → J acc { s with heap := h' }
  next : ∀ acc s (S : Addr) (ob : Obj) (Q : Option Value → Shared → Prop) (E : Value → Shared → Prop), J acc s → Fr S → s.heap.get? S = some ob → (ob.cls = .type "list" ∧ ∀ v, ob.data ≠ .cell v) →
    (∀ v s', acc.length < n → J (acc ++ [v]) s' → s'.heap.get? S = some ob → Q (some v) s') → (∀ s', Fn acc s' → s'.heap.get? S = some ob → Q none s') → wpAny (model prog w) A (pyNext (.ref I)) Q E s
  push : ∀ acc s (o : Obj), J acc s → J acc { s with heap := s.heap.push o }
section
variable {prog : Program} {w : World} {A : Around} {R : Result → Shared → Prop} {T : String} {I : Addr} {n : Nat} {Fr : Addr → Prop} {J Fn : List Value → Shared → Prop}
end
section
variable {prog : Program} {w : World} {A : Around} {E : Value → Shared → Prop} {s : Shared} {T : String} {I : Addr} {n : Nat} {Fr : Addr → Prop} {J Fn : List Value → Shared → Prop}
end
section
variable {X : Cx} {pins : List (Addr × Obj)} {σ : L2.St} {fp : List Addr} {it : Addr} {tn : Nat → Heap → Prop} {Jt : It} {nm : Str} {pt : Pos} {cls : String} {H0 : Hp} {S0 : Addr} {n : Nat}
end
section
variable {X : Cx} {K : PySem.W.Frag} {a b : Expr} {ta : TA} {p p2 pos pos2 : Pos}
theorem SqC.grow {c : Bool} {H H' : Hp} {a : Addr} {xs : List V} (g : Grow [] H H') (h : SqC c K H a xs) : SqC c K H' a xs := by
  cases c
  · exact g.sqL h
  · exact g.sqT h
end
end L3

namespace L3
open PySem PySem.Spec PyProof.Rows L2 HT
section
variable {prog : Program} {w : World} {A : Around} {E : Value → Shared → Prop} {s : Shared}
theorem add_none (l b : Addr) (us ws : Array Value) (n m : Nat) (d1 d2 : Option Addr) (e1 e2 : Array (Option Value)) (h0 : us.isEmpty = true) :
    Meets (Builtin.«tuple.__add__» ⟨[.ref l, .ref b], []⟩) (fun _ R s => s.heap.get? l = some ⟨.type "tuple", d1, .seq us n, e1⟩ ∧ s.heap.get? b = some ⟨.type "tuple", d2, .seq ws m, e2⟩ ∧ R (.ok (.ret (.ref b))) s) :=
  .of_wp fun P w A R s h => by
    obtain ⟨hh, gg, dd, tk, os⟩ := s
    obtain ⟨eL, eT, q⟩ := h
    have k1 := PySem.AutoSeq1.sub_tuple_tuple
    wp_walk using PySem.AutoSeq1.wpAny_loadPart' eL, PySem.AutoSeq1.wpAny_loadPart' eT
    exact ⟨_, rfl, q⟩
theorem cat_none {t b : Addr} {vs ws : List Value} {Q : Value → Shared → Prop} (ht : IsTup s.heap t vs.toArray) (hb : IsTup s.heap b ws.toArray) (hv : vs = []) (h1 : Q (.ref b) s) : wpAny (model prog w) A (binaryOp .Add (.ref t) (.ref b)) Q E s := by
  obtain ⟨⟨c1, d1, x1, l1⟩, ho, hc, n, hd⟩ := id ht
  obtain ⟨⟨c2, d2, x2, l2⟩, ho2, hc2, m, hd2⟩ := id hb
  cases hc
  cases hd
  cases hc2
  cases hd2
  exact concat_meets ⟨_, ho, rfl⟩ ⟨_, ho2, rfl⟩ noFill_tuple_add seq_tuple_add PySem.F.slot_tuple_add PySem.F.entry_tuple_add (PySem.F.args_tuple_add_2 _ _) (add_none t b vs.toArray ws.toArray n m d1 d2 l1 l2 (by simp [hv])) ⟨ho, ho2, h1⟩
theorem getItem_whole {t sl : Addr} {us : Array Value} {vl vu : Value} {lo hi : Option Int} {Q : Value → Shared → Prop} (ht : IsTup s.heap t us) (hs : s.heap.IsSliceOf sl vl vu .none) (pl : IsPart vl lo) (pu : IsPart vu hi)
    (hw : sIx us.size 0 lo = 0 ∧ sIx us.size us.size hi = us.size) (h : Q (.ref t) s) : wpAny (model prog w) A (getItem (.ref t) (.ref sl)) Q E s := by
  obtain ⟨os, hos, hcs, hds⟩ := id hs
  have hTs : s.TypeIs (.ref sl) "slice" := ⟨os, hos, hcs⟩
  unfold getItem
  try with_reducible refine wpAny_holding ?_
  first | refine wpAny_bind (wpAny_pure ?_) | skip
  refine wpAny_bind (wpAny_sequenceKey ht.typeIs (by decide) ?_)
  refine wpAny_bind (wpAny_callSpecial?_slot (name := Str.ofString "__getitem__") ht.typeIs PyProof.Rows.slot_tuple_getitem
    (wpAny_call_entry PyProof.Rows.slot_tuple_getitem ht.typeIs entry_tuple_getitem ?_ (args_tuple_getitem _ _)))
  show wpAny _ _ (Builtin.Tuple.tupleItemsOf (.ref t) >>= _) _ _ s
  refine wpAny_bind (tupleItemsOf_ ht ?_)
  refine wpAny_bind (wpAny_typeOf hTs ?_)
  rw [if_pos (by decide)]
  refine wpAny_bind (sliceApplied_gen hs pl pu ?_)
  have yes : (((sIx us.size 0 lo : Nat) : Int) == 0 && (1 : Int) == 1 && (sIx us.size us.size hi - sIx us.size 0 lo) == us.size) = true := by
    rw [hw.1, hw.2]; simp
  show wpAny _ _ (if (((sIx us.size 0 lo : Nat) : Int) == 0 && (1 : Int) == 1 && (sIx us.size us.size hi - sIx us.size 0 lo) == us.size) = true then _ else _) _ _ s
  rw [if_pos yes]
  refine wpAny_bind ?_
  unfold Builtin.Tuple.tupleIsExact
  refine wpAny_bind (wpAny_typeOf ht.typeIs (wpAny_pure ?_))
  show wpAny _ _ (rule _ >>= _) _ _ s
  exact wpAny_bind (wpAny_rule (wpAny_bind (wpAny_pure (wpAny_pure ⟨_, rfl, wpAny_pure h⟩))))
end
section
variable {X : Cx} {K : PySem.W.Frag}
def rSlG (K : PySem.W.Frag) : V → Option Int → Option Int → Hp → VK → Prop := fun x lo hi H Q => ∃ a xs, x = .ref a ∧ SqT K H a xs ∧ ∀ p H', Grow [] H H' → SqT K H' p (cutV xs lo hi) → Q (.ref p) H'
theorem cut_whole {xs : List V} {lo hi : Option Int} (h : HT.sIx xs.length 0 lo = 0 ∧ HT.sIx xs.length xs.length hi = xs.length) : cutV xs lo hi = xs := by
  unfold cutV
  rw [h.1, h.2, List.drop_zero, Nat.sub_zero, List.take_length]
theorem sl_tupG (hK : X.K = K) : SlR X (rSlG K) := by
  subst hK
  intro pins s σ H x v vl vu lo hi sl Q I rx hs pl pu h
  obtain ⟨a, xs, rfl, hx, q⟩ := h
  by_cases hw : HT.sIx xs.length 0 lo = 0 ∧ HT.sIx xs.length xs.length hi = xs.length
  · cases rx
    obtain ⟨its, r, ht, hz⟩ := I.tuple hx
    have hlen : its.toArray.size = xs.length := by rw [List.size_toArray]; exact r.length.symm
    refine ⟨"tuple", _, PyProof.Rows.slot_tuple_getitem.lookup, ht.typeIs, ?_⟩
    exact getItem_whole ht hs pl pu (by rw [hlen]; exact hw) ⟨.ref a, H, I, rfl, q a H (Grow.refl _ _) (by rw [cut_whole hw]; exact hx)⟩
  · exact sl_tup pins s σ H _ v vl vu lo hi sl Q I rx hs pl pu ⟨a, xs, rfl, hx, hw, fun p hp => q p _ (Grow.new hp _) (SqT.of upd_same)⟩
def rCatG (K : PySem.W.Frag) : R2 := fun x y H Q => ∃ a b xs ys, x = .ref a ∧ y = .ref b ∧ SqT K H a xs ∧ SqT K H b ys ∧ xs.length + ys.length ≤ sizeLine ∧ ∀ p H', Grow [] H H' → SqT K H' p (xs ++ ys) → Q (.ref p) H'
theorem op_catG (hK : X.K = K) : OpR X (binaryOp .Add) (rCatG K) := by
  subst hK
  intro pins s σ H x y v u Q I rx ry h
  obtain ⟨a, b, xs, ys, rfl, rfl, ha, hb, hz, q⟩ := h
  by_cases hx : xs = []
  · cases rx
    cases ry
    obtain ⟨its, r1, p1, _⟩ := I.tuple ha
    obtain ⟨its2, r2, p2, _⟩ := I.tuple hb
    exact cat_none p1 p2 (r1.nil_iff.mpr hx) ⟨.ref b, H, I, rfl, q b H (Grow.refl _ _) (by rw [hx]; exact hb)⟩
  · exact op_catT pins s σ H _ _ v u Q I rx ry ⟨a, b, xs, ys, rfl, rfl, ha, hb, hx, hz, fun e => q a H (Grow.refl _ _) (by rw [e, List.append_nil]; exact ha), fun _ p hp => q p _ (Grow.new hp _) (SqT.of upd_same)⟩
end
end L3

namespace L3
open PySem PySem.Spec PyProof.Rows L2
end L3
namespace L3
open PySem PySem.Spec PyProof.Rows L2
end L3
namespace L3
open PySem PySem.Spec PyProof.Rows L2
end L3

namespace L3
open PySem PySem.Spec PyProof.Rows L2
def MCallee (P : Program) (w : World) (K : PySem.W.Frag) (mg : Str → Option Value) (base : Heap) (C : Addr) (k : Nat) (m : Str) (ps : List Str) (sp : Sp) : Prop :=
  ∃ (f : Addr) (fd : FuncData), FnOk P w K mg base CX0 k f fd ps sp ∧ Binds K fd ps [] ∧ Meth K C m f
def MkCallee (P : Program) (w : World) (K : PySem.W.Frag) (mg : Str → Option Value) (base : Heap) (C : Addr) (k : Nat) (ps : List Str) (sp : Sp) : Prop :=
  ∃ (j : Nat) (f : Addr) (fd : FuncData), j + 1 = k ∧ FnOk P w K mg base CX0 j f fd ps sp ∧ Binds K fd ps [] ∧ Mk K C f
section
variable {P : Program} {w : World} {K : PySem.W.Frag} {mg : Str → Option Value} {base : Heap} {C : Addr} {j k : Nat} {m : Str} {ps : List Str} {sp : Sp}
theorem MCallee.mono (c : MCallee P w K mg base C j m ps sp) (h : j ≤ k) : MCallee P w K mg base C k m ps sp := by
  obtain ⟨f, fd, F, b, mt⟩ := c
  exact ⟨f, fd, F.mono h, b, mt⟩
theorem MkCallee.mono (c : MkCallee P w K mg base C j ps sp) (h : j ≤ k) : MkCallee P w K mg base C k ps sp := by
  obtain ⟨i, f, fd, e, F, b, mt⟩ := c
  exact ⟨k - 1, f, fd, by omega, F.mono (by omega), b, mt⟩
end
section
variable {X : Cx} {K : PySem.W.Frag} {C : Addr} {k : Nat} {m x : Str} {ps : List Str} {sp : Sp} {o e : Expr} {es : List Expr} {ta : TE} {t : TA} {apos pos p : Pos} {f : Str}
end
structure CTxt (K : PySem.W.Frag) (mg : Str → Option Value) (C : Addr) : Prop where
  cl : Cls K C
  n1 : NoAttr K C "depth"
  n2 : NoAttr K C "gates"
  n3 : NoAttr K C "out_lines"
  n4 : NoAttr K C "ups"
  n5 : NoAttr K C "tokens"
  n6 : NoAttr K C "came_out"
  n7 : NoAttr K C "given"
  mgC : mg "Counter" = some (.ref C)
end L3

namespace L3
open PySem PySem.Spec PyProof.Rows L2
section
variable {X : Cx} {K : PySem.W.Frag}
def FrT (H : Hp) (r : Addr) (xs : List V) : Prop := ∃ o : Obj, H r = some (.frz o (.tup xs)) ∧ o.cls = .type "tuple" ∧ o.dict = none
theorem FrT.sqT {H : Hp} {r : Addr} {xs : List V} (h : FrT H r xs) : SqT K H r xs := by
  obtain ⟨o, e, _⟩ := h
  exact .inl (.inr ⟨o, e⟩)
end
end L3

namespace L3
open PySem PySem.Spec PyProof.Rows L2
def Trc (h : Heap) (e T : Addr) (cls : Value) : Prop :=
  ∃ oe vs oT ts, h.get? e = some oe ∧ oe.cls = cls ∧ oe.data = .fields vs ∧ vs[1]? = some (.ref T) ∧ T ≠ e ∧ h.get? T = some oT ∧ oT.data = .fields ts ∧ ts[3]? = some .none ∧ vs[2]? = some .none
structure Lft (fr : List Addr) (e T0 T : Addr) (cls : Value) (h h' : Heap) : Prop where
  keep : ∀ b o, b ∉ fr → b ≠ e → b ≠ T0 → h.get? b = some o → h'.get? b = some o
  slot : ∀ b o, b ∈ fr → b ≠ e → b ≠ T0 → h.get? b = some o → ∃ sl, h'.get? b = some { o with slots := sl }
  new : h.get? T = none
  trc : Trc h' e T cls
section
variable {M : Model} {A : Around} {E : Value → Shared → Prop} {s : Shared}
theorem entry_exact {base : Heap} {env : Env} {outer : List Env} {L e : Addr} {oe : Obj} {vs : Array Value} {head : Value} {hadNext : Bool} {Q : Unit → Shared → Prop}
    (hfr : A.frames = some (env :: outer)) (hl : s.heap.FunFrames base (env :: outer)) (hf : env.frame = some L)
    (he : s.heap.get? e = some oe) (hd : oe.data = .fields vs) (hsz : 1 < vs.size) (hv2 : vs[2]? = some .none)
    (h : ∀ h' T, Lft ((env :: outer).filterMap (·.frame)) e e T oe.cls s.heap h' → Q () { s with heap := h' }) :
    wpAny M A (do let a ← frameOf env; let pl ← entryPlaceOf L hadNext; let b ← EntryCells.newEntry head a .none (rawInt L) .none pl; setField (.ref e) 1 b) (fun _ s' => wpAny M A (setFlight (.ref e) none) Q E s') E s := by
  have hne : e ∉ (env :: outer).filterMap (·.frame) := fun hm => by
    obtain ⟨_, o, ho, hnf⟩ := hl.mem hm
    rw [he] at ho
    cases ho
    exact hnf vs hd
  refine wpAny_bind (wpAny_frameOf_fun hfr hl hf fun h1 s1 => ?_)
  refine wpAny_bind (wpAny_entryPlaceOf fun pl hpl => ?_)
  unfold EntryCells.newEntry newFields
  refine wpAny_bind (wpAny_newObj_type ?_ (hpl.sizeOk5 _ _ _ _ _))
  have e1 : h1.get? e = some oe := (s1.2.1 e hne).trans he
  have hTe : h1.objs.size ≠ e := Nat.ne_of_gt (Heap.lt_size e1)
  generalize hT : ({ cls := .type "traceback", dict := none, data := .fields ([head, .ref L, .none, rawInt L, .none] ++ (if pl.isEmpty then List.replicate 6 Value.none else pl)).toArray } : Obj) = oT
  have hTd : oT.data = .fields ([head, .ref L, .none, rawInt L, .none] ++ (if pl.isEmpty then List.replicate 6 Value.none else pl)).toArray := by rw [← hT]
  have hTf : oT.isFreed = false := Obj.isFreed_of_fields hTd
  have e2 := Heap.get?_push_of_some (h := h1) oT e1
  refine wpAny_setField e2 hd hsz ?_
  have d3 := Obj.data_mapFields hd (·.setIfInBounds 1 (Value.ref h1.objs.size))
  have e3 := Heap.get?_update_self (Obj.mapFields (·.setIfInBounds 1 (Value.ref h1.objs.size))) e2 (Obj.isFreed_of_fields d3)
  have t3 : ((h1.push oT).update e (Obj.mapFields (·.setIfInBounds 1 (Value.ref h1.objs.size)))).get? h1.objs.size = some oT := (Heap.get?_update_other _ _ (Ne.symm hTe)).trans (Heap.get?_push_size h1 hTf)
  unfold setFlight
  refine wpAny_bind (wpAny_field e3 d3 (x := .ref h1.objs.size) (by simp [hsz]) ?_)
  rw [if_pos (show (Value.ref h1.objs.size != Value.none) = true from by simp)]
  refine wpAny_setField t3 hTd (by simp only [List.size_toArray, List.length_append, List.length_cons, List.length_nil] <;> omega) (h _ h1.objs.size ?_)
  have keep : ∀ b o, b ≠ e → h1.get? b = some o →
      (((h1.push oT).update e (Obj.mapFields (·.setIfInBounds 1 (Value.ref h1.objs.size)))).update h1.objs.size (Obj.mapFields (·.setIfInBounds 3 ((none : Option Addr).elim Value.none fun f => rawInt f)))).get? b = some o := fun b o hbe hb => by
    rw [Heap.get?_update_other _ _ (Nat.ne_of_gt (Heap.lt_size hb)), Heap.get?_update_other _ _ (Ne.symm hbe)]
    exact Heap.get?_push_of_some _ hb
  refine ⟨fun b o hb hbe _ ho => keep b o hbe ((s1.2.1 b hb).trans ho), fun b o hb hbe _ ho => ?_, ?_, ?_⟩
  · obtain ⟨sl, hs⟩ := s1.2.2 b o ho
    exact ⟨sl, keep b _ hbe hs⟩
  · cases q : s.heap.get? h1.objs.size with
    | none => rfl
    | some o =>
      have := Heap.lt_size q
      rw [s1.1] at this
      exact absurd this (Nat.lt_irrefl _)
  · refine ⟨_, _, _, _, (Heap.get?_update_other _ _ hTe).trans e3, Obj.cls_mapFields _ _, d3, by simp [hsz], hTe, Heap.get?_update_self _ t3 (Obj.isFreed_of_fields (Obj.data_mapFields hTd _)), Obj.data_mapFields hTd _, ?_, (Array.getElem?_setIfInBounds_ne (by decide)).trans hv2⟩
    simp only [Array.getElem?_setIfInBounds, if_true]
    rw [if_pos (by simp only [List.size_toArray, List.length_append, List.length_cons, List.length_nil]; omega)]
    rfl
theorem leave_first {base : Heap} {env : Env} {outer : List Env} {L e : Addr} {oe : Obj} {vs : Array Value} {Q : Unit → Shared → Prop}
    (hfr : A.frames = some (env :: outer)) (hl : s.heap.FunFrames base (env :: outer)) (hf : env.frame = some L)
    (he : s.heap.get? e = some oe) (hd : oe.data = .fields vs) (h1 : vs[1]? = some .none) (hv2 : vs[2]? = some .none)
    (h : ∀ h' T, Lft ((env :: outer).filterMap (·.frame)) e e T oe.cls s.heap h' → Q () { s with heap := h' }) : wpAny M A (leaving env (.ref e)) Q E s := by
  unfold leaving noteFrame
  simp only [hf]
  refine wpAny_bind (wpAny_bind (wpAny_field he hd h1 ?_))
  rw [if_neg (by decide)]
  exact entry_exact hfr hl hf he hd (Array.getElem?_eq_some_iff.mp h1).1 hv2 h
theorem leave_next {base : Heap} {env : Env} {outer : List Env} {L e T0 : Addr} {cls : Value} {Q : Unit → Shared → Prop}
    (hfr : A.frames = some (env :: outer)) (hl : s.heap.FunFrames base (env :: outer)) (hf : env.frame = some L) (ht : Trc s.heap e T0 cls)
    (h : ∀ h' T, Lft ((env :: outer).filterMap (·.frame)) e T0 T cls s.heap h' → Q () { s with heap := h' }) : wpAny M A (leaving env (.ref e)) Q E s := by
  obtain ⟨oe, vs, oT, ts, he, hcls, hd, h1, hTe, hT, hdT, h3, hv2⟩ := ht
  subst hcls
  unfold leaving noteFrame
  simp only [hf]
  refine wpAny_bind (wpAny_bind (wpAny_field he hd h1 ?_))
  rw [if_pos (show (Value.ref T0 != Value.none) = true from by simp)]
  refine wpAny_bind (wpAny_field hT hdT h3 ?_)
  rw [if_neg (show ¬ ((Value.none == rawInt L) = true) from by simp [rawInt])]
  refine wpAny_bind (wpAny_setField hT hdT (Array.getElem?_eq_some_iff.mp h3).1 ?_)
  have other : ∀ b, b ≠ T0 → (s.heap.update T0 (Obj.mapFields (·.setIfInBounds 3 Value.none))).get? b = s.heap.get? b := fun b hb => Heap.get?_update_other _ _ (Ne.symm hb)
  have nf : ∀ b o, s.heap.get? b = some o → (∀ vs, o.data ≠ .fields vs) → b ≠ T0 := fun b o hb hnf q => by
    rw [q, hT] at hb
    cases hb
    exact hnf ts hdT
  refine entry_exact hfr (hl.of_keeps fun b o hb hnf => ⟨o, (other b (nf b o hb hnf)).trans hb, rfl⟩) hf ((other e (Ne.symm hTe)).trans he) hd (Array.getElem?_eq_some_iff.mp h1).1 hv2 fun h' T x => h h' T ?_
  refine ⟨fun b o hb hbe hb0 ho => x.keep b o hb hbe hbe ((other b hb0).trans ho), fun b o hb hbe hb0 ho => x.slot b o hb hbe hbe ((other b hb0).trans ho), ?_, x.trc⟩
  have := x.new
  by_cases q : T = T0
  · subst q
    have e5 := Heap.get?_update_self (Obj.mapFields (·.setIfInBounds 3 Value.none)) hT (Obj.isFreed_of_fields (Obj.data_mapFields hdT _))
    rw [show (s.heap.update T (Obj.mapFields (·.setIfInBounds 3 Value.none))).get? T = _ from e5] at this
    cases this
  · rw [← other T q]; exact this
end
end L3

namespace L3
open PySem PySem.Spec PyProof.Rows L2
def CX1 (P : Program) (w : World) : CXT := fun outer H s E e s' => ∃ (a T C : Addr) (H' : Hp), e = .ref a ∧ s'.os = s.os ∧ AllBare s'.gens ∧ Un (frs outer) [] H H' s.heap s'.heap ∧ HOk P w H' s'.heap ∧
  Trc s'.heap a T (.ref C) ∧ H' a = none ∧ H' T = none ∧ s.heap.get? a = none ∧ s.heap.get? T = none ∧ E e (some C) H'
theorem ObjOk.at {P : Program} {w : World} {H : Hp} {h : Heap} {a : Addr} {o : HO} (x : ObjOk P w H h a o) : ∃ ob, h.get? a = some ob := by
  induction o with
  | lst xs => obtain ⟨z, its, n, r, e⟩ := x; exact ⟨_, e⟩
  | tup xs => obtain ⟨z, its, r, ob, e, c⟩ := x; exact ⟨_, e⟩
  | dK kvs => obtain ⟨z, y, vs, r, ob, es, ep, e, c⟩ := x; exact ⟨_, e⟩
  | dT kvs => obtain ⟨z, y, xs, r, ob, es, ep, e, c⟩ := x; exact ⟨_, e⟩
  | set S n => obtain ⟨ob, es, ep, t, e, c⟩ := x; exact ⟨_, e⟩
  | ins C dx fs => obtain ⟨d, z, ne, e, _⟩ := x; exact ⟨_, e⟩
  | own y => exact x
  | xd fs => obtain ⟨mA, ⟨od, es, ep, e, c⟩, r⟩ := x; exact ⟨_, e⟩
  | rng lo hi => obtain ⟨t, u, v, e⟩ := x; exact ⟨_, e⟩
  | frz ob u ih => exact ⟨_, x.1⟩
  | tbl ps => exact ⟨_, x⟩
  | met f y => exact ⟨_, x⟩
  | ext φ => exact x.2.1
theorem hok_left {P : Program} {w : World} {H : Hp} {h h' : Heap} {fr : List Addr} {e T0 T : Addr} {cls : Value} (x : HOk P w H h) (l : Lft fr e T0 T cls h h') (hfr : ∀ b ∈ fr, H b = none) (he : H e = none) (h0 : H T0 = none) : HOk P w H h' := fun b u q => by
  refine (x b u q).stay (fun c v hc r => ?_) (fun _ r => r) fun _ _ r => r
  have hn : H c ≠ none := by
    rcases hc with rfl | hc
    · rw [q]; exact fun z => nomatch z
    · rw [hc]; exact fun z => nomatch z
  exact l.keep c v (fun z => hn (hfr c z)) (fun z => hn (by rw [z]; exact he)) (fun z => hn (by rw [z]; exact h0)) r
section
variable {P : Program} {w : World} {K : PySem.W.Frag} {mg : Str → Option Value} {base : Heap} {N : List Str} {qual : Str} {scope : Scope} {f : Addr} {cd : Value} {A : Around} {outer : List Env} {s0 : Shared} {H0 : Hp} {E : XK}
  {pins : List (Addr × Obj)} {σ : L2.St} {H : Hp} {s : Shared}
theorem left_cx {h2 : Heap} {e T0 T C : Addr} (I : Inv (cxOf (CX1 P w) P w K mg base N qual scope f cd A outer s0 H0 E) pins σ H s) (l : Lft ((envOfC qual scope s0.heap.objs.size f cd :: outer).filterMap (·.frame)) e T0 T (.ref C) s.heap h2)
    (new : ∀ b o, s0.heap.get? b = some o → b ≠ e ∧ b ≠ T0) (he0 : H e = none) (ht0 : H T0 = none) (q : E (.ref e) (some C) H) : CX1 P w outer H0 s0 E (.ref e) { s with heap := h2 } := by
  have hfr : ∀ b ∈ (envOfC qual scope s0.heap.objs.size f cd :: outer).filterMap (·.frame), H b = none := I.stkFree
  have hU : Un (frs outer) [] H0 H s0.heap s.heap := I.base
  have newT : ∀ b o, s0.heap.get? b = some o → b ≠ T := fun b o hb z => by
    obtain ⟨o', h1⟩ := hU.there b o hb (by simp)
    have := l.new
    rw [← z, h1] at this; cases this
  have nin : ∀ b o, s0.heap.get? b = some o → b ∉ frs outer → b ∉ (envOfC qual scope s0.heap.objs.size f cd :: outer).filterMap (·.frame) := fun b o hb hn z => by
    rcases List.mem_cons.mp (show b ∈ s0.heap.objs.size :: frs outer from z) with z | z
    · exact Nat.ne_of_lt (Heap.lt_size hb) z
    · exact hn z
  have isin : ∀ b, b ∈ frs outer → b ∈ (envOfC qual scope s0.heap.objs.size f cd :: outer).filterMap (·.frame) := fun b hb => show b ∈ s0.heap.objs.size :: frs outer from List.mem_cons_of_mem _ hb
  refine ⟨e, T, C, H, rfl, I.os, I.bare, ⟨fun b o hb hn hf hx' => ?_, fun b o hb hn hf hx' => ?_, hU.free, fun b o hb hx' => ?_, hU.tups, hU.frzs, hU.tbls⟩, hok_left I.hok l hfr he0 ht0, l.trc, he0, ?_, ?_, ?_, q⟩
  · obtain ⟨n1, n2⟩ := new b o hb
    exact l.keep b o (nin b o hb hf) n1 n2 (hU.keep b o hb hn hf hx')
  · obtain ⟨n1, n2⟩ := new b o hb
    obtain ⟨sl, h1⟩ := hU.slot b o hb hn hf hx'
    obtain ⟨sl', h2⟩ := l.slot b _ (isin b hf) n1 n2 h1
    exact ⟨sl', h2⟩
  · obtain ⟨n1, n2⟩ := new b o hb
    obtain ⟨o', h1⟩ := hU.there b o hb hx'
    by_cases z : b ∈ (envOfC qual scope s0.heap.objs.size f cd :: outer).filterMap (·.frame)
    · obtain ⟨sl, h2⟩ := l.slot b o' z n1 n2 h1
      exact ⟨_, h2⟩
    · exact ⟨o', l.keep b o' z n1 n2 h1⟩
  · cases r : H T with
    | none => rfl
    | some o =>
      obtain ⟨ob, z⟩ := ObjOk.at (I.hok T o r)
      rw [l.new] at z; cases z
  · cases r : s0.heap.get? e with
    | none => rfl
    | some o => exact absurd rfl (new e o r).1
  · cases r : s0.heap.get? T with
    | none => rfl
    | some o => exact absurd rfl (newT T o r)
theorem xe_made {h' : Heap} {e C : Addr} {args : List Value} (I : Inv (cxOf (CX1 P w) P w K mg base N qual scope f cd A outer s0 H0 E) pins σ H s) (hx : Heap.MadeExcOf s.heap h' e (.ref C) args) (q : E (.ref e) (some C) H) :
    (cxOf (CX1 P w) P w K mg base N qual scope f cd A outer s0 H0 E).xe (.ref e) { s with heap := h' } := by
  obtain ⟨t, he, ht, _⟩ := hx.there
  have he0 : H e = none := by
    cases r : H e with
    | none => rfl
    | some o =>
      obtain ⟨ob, z⟩ := ObjOk.at (I.hok e o r)
      rw [hx.new] at z; cases z
  have I1 : Inv (cxOf (CX1 P w) P w K mg base N qual scope f cd A outer s0 H0 E) pins σ H { s with heap := h' } := I.kept (t' := s.toks) hx.keeps
  have new : ∀ b o, s0.heap.get? b = some o → b ≠ e := fun b o hb z => by
    have hU : Un (frs outer) [] H0 H s0.heap s.heap := I.base
    obtain ⟨o', ho'⟩ := hU.there b o hb (by simp)
    rw [z, hx.new] at ho'; cases ho'
  refine leave_first (base := base) (outer := outer) (L := s0.heap.objs.size) I.ok.frames I1.stack rfl he rfl rfl rfl fun h2 T l => ?_
  exact left_cx I1 l (fun b o hb => ⟨new b o hb, new b o hb⟩) he0 he0 q
theorem xe_pass {E' : XK} (hE : ∀ e C H', E' e (some C) H' → E e (some C) H') : Passes (CX1 P w) (cxOf (CX1 P w) P w K mg base N qual scope f cd A outer s0 H0 E) E' := by
  intro pins σ H s ex s' I hc
  obtain ⟨e, T0, C, H', rfl, os, bare, un, hok, trc, e0, t0, ne, nt, q⟩ := hc
  have I1 : Inv (cxOf (CX1 P w) P w K mg base N qual scope f cd A outer s0 H0 E) pins σ H' s' := I.call' (ch := []) os un hok bare (fun b z => absurd z (by simp))
  have new : ∀ b o, s0.heap.get? b = some o → b ≠ e ∧ b ≠ T0 := fun b o hb => by
    have hU : Un (frs outer) [] H0 H s0.heap s.heap := I.base
    obtain ⟨o', ho'⟩ := hU.there b o hb (by simp)
    refine ⟨fun z => ?_, fun z => ?_⟩
    · rw [z, ne] at ho'; cases ho'
    · rw [z, nt] at ho'; cases ho'
  refine leave_next (base := base) (outer := outer) (L := s0.heap.objs.size) I.ok.frames I1.stack rfl trc fun h2 T l => ?_
  exact left_cx I1 l new e0 t0 (hE _ _ _ q)
end
end L3

namespace L3
open PySem PySem.Spec PyProof.Rows L2
abbrev veM : List Value := [.type "ValueError", .type "Exception", .type "BaseException", .type "object"]
def ExcC (K : PySem.W.Frag) (mg : Str → Option Value) (x : Str) (C : Addr) : Prop := ∀ h : Heap, K.In h → OwnCls x C veM "ValueError.__new__" mg h
def Raises (X : Cx) (E : XK) : Prop := ∀ (pins : List (Addr × Obj)) (σ : L2.St) (H : Hp) (s : Shared) (h' : Heap) (e C : Addr) (args : List Value), Inv X pins σ H s → Heap.MadeExcOf s.heap h' e (.ref C) args → E (.ref e) (some C) H → X.xe (.ref e) { s with heap := h' }
def tRaise (C : Addr) (E : XK) (te : TE) : TS := fun _ σ H => te σ H fun _ H1 => ∀ e, E (.ref e) (some C) H1
section
variable {X : Cx} {x : Str} {C : Addr} {np cpos pos : Pos} {e₀ : Expr} {te : TE} {E : XK}
theorem ps_raise (hc : X.calm = true) (O : ExcC X.K X.mg x C) (hg : Gl X x) (hr : Raises X E) (he : PE X e₀ te) (hdb : (x == ("__debug__" : Str)) = false := by decide)
    (hst : starEach [e₀] X.env = [(false, eval e₀ X.env)] := by rfl) : PS X (.Raise (some (.Call (.Name x np) [e₀] [] cpos)) none pos) (tRaise C E te) := by
  intro pins s σ H D I h
  obtain ⟨tl, N, nm, q, bs, hdct, sn, sub, ab, col, dd, k0, k1, k2, k3, k5, mN, hC, hN, hni, T⟩ := (O X.base I.mod.kin).obj
  refine wpAny_Raise_call_subT (C := C) (nm := nm) (q := q) (N := N) (bs := bs) (bm := tl) (hdct := hdct) (sn := sn) (sub := sub) (ab := ab) (col := col) (dd := dd) (k0 := k0) (k1 := k1) (k2 := k2) (k3 := k3) (k5 := k5)
    PySem.F.excBase_ValueError (mN := mN) (T.hasType PySem.F.excBase_ValueError.hasBase) (I.ok.hd hc) (by rw [hst]; rfl) hni (ld_glob I hg (O s.heap I.kIn).bound ⟨rfl, ?_⟩ hdb)
  rw [hst]
  refine Calls.evalArgs_plain ?_
  show wpAny _ _ (spliced [(false, eval e₀ X.env)]) _ _ s
  refine Calls.spliced_cons (thn (he pins s σ H _ I h) fun v s1 ⟨y, H1, I1, r1, q1⟩ => Calls.spliced_nil ?_)
  exact ⟨rfl, szl rfl, I1.bk _ _ hC, hN.keeps I1.bk, T.keeps I1.bk, fun h' e hm => hr pins σ H1 s1 h' e C _ I1 hm (q1 e)⟩
end
section
variable {P : Program} {w : World} {K : PySem.W.Frag} {mg : Str → Option Value} {base : Heap} {N : List Str} {qual : Str} {scope : Scope} {f : Addr} {cd : Value} {A : Around} {outer : List Env} {s0 : Shared} {H0 : Hp} {E : XK}
theorem raises_cx : Raises (cxOf (CX1 P w) P w K mg base N qual scope f cd A outer s0 H0 E) E := fun _ _ _ _ _ _ _ _ I hx q => xe_made I hx q
end
end L3

namespace L3
open PySem PySem.Spec PyProof.Rows L2
section
variable {M : Model} {A : Around} {E : Value → Shared → Prop} {s : Shared}
theorem note_next {base : Heap} {env : Env} {outer : List Env} {L e T0 : Addr} {cls : Value} {Q : Unit → Shared → Prop}
    (hfr : A.frames = some (env :: outer)) (hl : s.heap.FunFrames base (env :: outer)) (hf : env.frame = some L) (ht : Trc s.heap e T0 cls)
    (h : ∀ h' T, Lft ((env :: outer).filterMap (·.frame)) e T0 T cls s.heap h' → Q () { s with heap := h' }) : wpAny M A (noteFrame (.ref e) env) (fun _ s' => wpAny M A (setFlight (.ref e) none) Q E s') E s := by
  obtain ⟨oe, vs, oT, ts, he, hcls, hd, h1, hTe, hT, hdT, h3, hv2⟩ := ht
  subst hcls
  unfold noteFrame
  simp only [hf]
  refine wpAny_bind (wpAny_field he hd h1 ?_)
  rw [if_pos (show (Value.ref T0 != Value.none) = true from by simp)]
  refine wpAny_bind (wpAny_field hT hdT h3 ?_)
  rw [if_neg (show ¬ ((Value.none == rawInt L) = true) from by simp [rawInt])]
  refine wpAny_bind (wpAny_setField hT hdT (Array.getElem?_eq_some_iff.mp h3).1 ?_)
  have other : ∀ b, b ≠ T0 → (s.heap.update T0 (Obj.mapFields (·.setIfInBounds 3 Value.none))).get? b = s.heap.get? b := fun b hb => Heap.get?_update_other _ _ (Ne.symm hb)
  have nf : ∀ b o, s.heap.get? b = some o → (∀ vs, o.data ≠ .fields vs) → b ≠ T0 := fun b o hb hnf q => by
    rw [q, hT] at hb
    cases hb
    exact hnf ts hdT
  refine entry_exact hfr (hl.of_keeps fun b o hb hnf => ⟨o, (other b (nf b o hb hnf)).trans hb, rfl⟩) hf ((other e (Ne.symm hTe)).trans he) hd (Array.getElem?_eq_some_iff.mp h1).1 hv2 fun h' T x => h h' T ?_
  refine ⟨fun b o hb hbe hb0 ho => x.keep b o hb hbe hbe ((other b hb0).trans ho), fun b o hb hbe hb0 ho => x.slot b o hb hbe hbe ((other b hb0).trans ho), ?_, x.trc⟩
  have := x.new
  by_cases q : T = T0
  · subst q
    have e5 := Heap.get?_update_self (Obj.mapFields (·.setIfInBounds 3 Value.none)) hT (Obj.isFreed_of_fields (Obj.data_mapFields hdT _))
    rw [show (s.heap.update T (Obj.mapFields (·.setIfInBounds 3 Value.none))).get? T = _ from e5] at this
    cases this
  · rw [← other T q]; exact this
theorem flight_end {e T0 : Addr} {cls : Value} {Q : Unit → Shared → Prop} (ht : Trc s.heap e T0 cls)
    (h : ∀ h', (∀ b, b ≠ T0 → h'.get? b = s.heap.get? b) → Trc h' e T0 cls → Q () { s with heap := h' }) : wpAny M A (setFlight (.ref e) none) Q E s := by
  obtain ⟨oe, vs, oT, ts, he, hcls, hd, h1, hTe, hT, hdT, h3, hv2⟩ := ht
  unfold setFlight
  refine wpAny_bind (wpAny_field he hd h1 ?_)
  rw [if_pos (show (Value.ref T0 != Value.none) = true from by simp)]
  have other : ∀ b, b ≠ T0 → (s.heap.update T0 (Obj.mapFields (·.setIfInBounds 3 ((none : Option Addr).elim Value.none fun f => rawInt f)))).get? b = s.heap.get? b := fun b hb => Heap.get?_update_other _ _ (Ne.symm hb)
  refine wpAny_setField hT hdT (Array.getElem?_eq_some_iff.mp h3).1 (h _ other ⟨oe, vs, _, _, (other e (Ne.symm hTe)).trans he, hcls, hd, h1, hTe, Heap.get?_update_self _ hT (Obj.isFreed_of_fields (Obj.data_mapFields hdT _)), Obj.data_mapFields hdT _, ?_, hv2⟩)
  simp only [Array.getElem?_setIfInBounds, if_true]
  rw [if_pos (Array.getElem?_eq_some_iff.mp h3).1]
  rfl
end
structure ApX (X : Cx) (pins : List (Addr × Obj)) (H : Hp) (a T : Addr) : Prop where
  s0 : ∀ b o, X.s₀.heap.get? b = some o → b ≠ a ∧ b ≠ T
  loc : X.env.locals ≠ a ∧ X.env.locals ≠ T
  cel : ∀ x c, X.env.cells.lookup x = some c → c ≠ a ∧ c ≠ T
  pin : ∀ p ∈ X.pn ++ pins, p.1 ≠ a ∧ p.1 ≠ T
  ha : H a = none
  hT : H T = none
theorem ApX.of {X : Cx} {pins : List (Addr × Obj)} {σ : L2.St} {H H' : Hp} {s : Shared} {a T : Addr} (I : Inv X pins σ H s) (hx : X.ex = []) (na : s.heap.get? a = none) (nT : s.heap.get? T = none) (ha : H' a = none) (hT : H' T = none) : ApX X pins H' a T := by
  have ne : ∀ b o, s.heap.get? b = some o → b ≠ a ∧ b ≠ T := fun b o hb => ⟨fun z => (by rw [z, na] at hb; cases hb), fun z => (by rw [z, nT] at hb; cases hb)⟩
  refine ⟨fun b o hb => ?_, ?_, fun x c hc => ?_, fun p hp => ne _ _ (I.pin p hp).1, ha, hT⟩
  · obtain ⟨o', h1⟩ := I.base.there b o hb (by rw [hx]; simp)
    exact ne b o' h1
  · obtain ⟨m, ⟨o, es, ep, ho, _⟩, _⟩ := I.loc
    exact ne _ _ ho
  · obtain ⟨v, hv⟩ := I.cell x c hc
    obtain ⟨o, ho, _⟩ := hv
    exact ne _ _ ho
end L3

namespace L3
open PySem PySem.Spec PyProof.Rows L2
theorem Inv.leftK {X : Cx} {pins : List (Addr × Obj)} {σ : L2.St} {H : Hp} {s : Shared} {a T0 : Addr} {h2 : Heap} (I : Inv X pins σ H s) (hx : X.ex = []) (ap : ApX X pins H a T0)
    (lk : ∀ b o, b ∉ frs X.stack → b ≠ a → b ≠ T0 → s.heap.get? b = some o → h2.get? b = some o) (ls : ∀ b o, b ∈ frs X.stack → b ≠ a → b ≠ T0 → s.heap.get? b = some o → ∃ sl, h2.get? b = some { o with slots := sl }) : Inv X pins σ H { s with heap := h2 } := by
  have stk : ∀ b, b ∈ frs X.stack → b = X.env.locals ∨ b ∈ X.fs := fun b hb => List.mem_cons.mp (I.stkSub b hb)
  have any : ∀ b o, b ≠ a → b ≠ T0 → s.heap.get? b = some o → ∃ sl, h2.get? b = some { o with slots := sl } := fun b o n1 n2 ho => by
    by_cases z : b ∈ frs X.stack
    · exact ls b o z n1 n2 ho
    · exact ⟨o.slots, lk b o z n1 n2 ho⟩
  have cellK : ∀ x c, X.env.cells.lookup x = some c → ∀ v, s.heap.IsCell c v → h2.IsCell c v := fun x c e v ⟨o, ho, hd⟩ => by
    obtain ⟨n1, n2⟩ := ap.cel x c e
    obtain ⟨sl, h1⟩ := any c o n1 n2 ho
    exact ⟨_, h1, hd⟩
  refine ⟨I.ok, I.os, I.bare, ⟨fun b o hb hn hf hx' => ?_, fun b o hb hn hf hx' => ?_, I.base.free, fun b o hb hx' => ?_, I.base.tups, I.base.frzs, I.base.tbls⟩, ?_, fun x c hc => ?_, I.free, I.freeC, fun p hp => ?_, fun b u q => ?_, I.len⟩
  · obtain ⟨n1, n2⟩ := ap.s0 b o hb
    refine lk b o (fun z => ?_) n1 n2 (I.base.keep b o hb hn hf hx')
    rcases stk b z with z | z
    · exact absurd (Nat.lt_of_lt_of_le (Heap.lt_size hb) I.ok.above) (by rw [z]; exact Nat.lt_irrefl _)
    · exact hf z
  · obtain ⟨n1, n2⟩ := ap.s0 b o hb
    obtain ⟨sl, h1⟩ := I.base.slot b o hb hn hf hx'
    obtain ⟨sl', h3⟩ := any b _ n1 n2 h1
    exact ⟨sl', h3⟩
  · obtain ⟨n1, n2⟩ := ap.s0 b o hb
    obtain ⟨o', h1⟩ := I.base.there b o hb hx'
    obtain ⟨sl, h3⟩ := any b o' n1 n2 h1
    exact ⟨_, h3⟩
  · obtain ⟨m, ⟨o, es, ep, ho, r⟩, hl⟩ := I.loc
    obtain ⟨sl, h1⟩ := any _ o ap.loc.1 ap.loc.2 ho
    refine ⟨m, ⟨_, es, ep, h1, r⟩, fun i x v e1 e2 e3 => ?_⟩
    obtain ⟨u, ru, lk⟩ := hl i x v e1 e2 e3
    refine ⟨u, ru, ?_⟩
    rcases lk with lk | ⟨k1, c, k2, k3⟩
    · exact .inl lk
    · exact .inr ⟨k1, c, k2, cellK x c k2 _ k3⟩
  · obtain ⟨v, hv⟩ := I.cell x c hc
    exact ⟨v, cellK x c hc v hv⟩
  · obtain ⟨p1, p2, p3, p4, p5⟩ := I.pin p hp
    obtain ⟨n1, n2⟩ := ap.pin p hp
    refine ⟨lk _ _ (fun z => ?_) n1 n2 p1, p2, p3, p4, p5⟩
    rcases stk _ z with z | z
    · exact p3 z
    · exact p4 z
  · refine (I.hok b u q).stay (fun c v hc r => ?_) (fun _ r => r) fun _ _ r => r
    have hn : H c ≠ none := by
      rcases hc with rfl | hc
      · rw [q]; exact fun z => nomatch z
      · rw [hc]; exact fun z => nomatch z
    exact lk c v (fun z => hn (I.stkFree c z)) (fun z => hn (by rw [z]; exact ap.ha)) (fun z => hn (by rw [z]; exact ap.hT)) r
theorem Inv.left {X : Cx} {pins : List (Addr × Obj)} {σ : L2.St} {H : Hp} {s : Shared} {a T0 T : Addr} {cls : Value} {h2 : Heap} (I : Inv X pins σ H s) (hx : X.ex = []) (ap : ApX X pins H a T0)
    (l : Lft (frs X.stack) a T0 T cls s.heap h2) : Inv X pins σ H { s with heap := h2 } := Inv.leftK I hx ap l.keep l.slot
end L3

namespace L3
open PySem PySem.Spec PyProof.Rows L2
abbrev pinX (X : Cx) (ps : List (Addr × Obj)) (E : Value → Shared → Prop) : Cx := { X with pn := X.pn ++ ps, xe := E }
def CaughtX (X : Cx) (ps : List (Addr × Obj)) (E : XK) : Value → Shared → Prop := fun e s' => ∃ (a T C : Addr) (σ : L2.St) (H : Hp), e = .ref a ∧ Inv X ps σ H s' ∧ Trc s'.heap a T (.ref C) ∧ ApX X ps H a T ∧ E e (some C) H
section
variable {X : Cx} {ps pins : List (Addr × Obj)} {E : Value → Shared → Prop} {σ : L2.St} {H : Hp} {s : Shared}
theorem Inv.pinX (I : Inv X ps σ H s) : Inv (pinX X ps E) [] σ H s :=
  ⟨⟨I.ok.mod, I.ok.kind, I.ok.glob, I.ok.blt, I.ok.above, I.ok.inj, I.ok.has, I.ok.cab, I.ok.hd, I.ok.frames, I.ok.stk, I.ok.exf, I.ok.bs, I.ok.bsz, I.ok.noex, I.ok.exfs, I.ok.funs, I.ok.frf⟩, I.os, I.bare, I.base, I.loc, I.cell, I.free, I.freeC, fun p hp => I.pin p (by simpa using hp), I.hok, I.len⟩
theorem Inv.unpin (I : Inv (L3.pinX X ps E) pins σ H s) : Inv X ps σ H s :=
  ⟨⟨I.ok.mod, I.ok.kind, I.ok.glob, I.ok.blt, I.ok.above, I.ok.inj, I.ok.has, I.ok.cab, I.ok.hd, I.ok.frames, I.ok.stk, I.ok.exf, I.ok.bs, I.ok.bsz, I.ok.noex, I.ok.exfs, I.ok.funs, I.ok.frf⟩, I.os, I.bare, I.base, I.loc, I.cell, I.free, I.freeC, fun p hp => I.pin p (List.mem_append_left _ hp), I.hok, I.len⟩
end
theorem pass_try {X : Cx} {ps : List (Addr × Obj)} {E : XK} (hx : X.ex = []) : Passes (CX1 X.prog X.w) (pinX X ps (CaughtX X ps E)) E := by
  intro pins σ H s ex s' I hc
  obtain ⟨a, T0, C, H', rfl, os, bare, un, hok, trc, e0, t0, ne, nt, q⟩ := hc
  have I0 : Inv X ps σ H s := Inv.unpin I
  have I1 : Inv X ps σ H' s' := I0.call' (ch := []) os un hok bare (fun b z => absurd z (by simp))
  exact ⟨a, T0, C, σ, H', rfl, I1, trc, ApX.of I0 hx ne nt e0 t0, q⟩
end L3

namespace L3
open PySem PySem.Spec PyProof.Rows L2
abbrev handX (X : Cx) (e : Addr) : Cx := { X with A := X.A.mark (some (.ref e)), calm := false, xe := fun _ _ => False }
section
variable {X : Cx} {pins : List (Addr × Obj)} {σ : L2.St} {H : Hp} {s : Shared} {e : Addr}
theorem Inv.handX (I : Inv X pins σ H s) : Inv (handX X e) pins σ H s :=
  ⟨⟨I.ok.mod, I.ok.kind, I.ok.glob, I.ok.blt, I.ok.above, I.ok.inj, I.ok.has, I.ok.cab, fun z => (nomatch z), I.ok.frames, I.ok.stk, I.ok.exf, I.ok.bs, I.ok.bsz, I.ok.noex, I.ok.exfs, I.ok.funs, I.ok.frf⟩, I.os, I.bare, I.base, I.loc, I.cell, I.free, I.freeC, I.pin, I.hok, I.len⟩
theorem Inv.unhand (ok : X.Ok) (I : Inv (L3.handX X e) pins σ H s) : Inv X pins σ H s := ⟨ok, I.os, I.bare, I.base, I.loc, I.cell, I.free, I.freeC, I.pin, I.hok, I.len⟩
theorem SP.unhand (ok : X.Ok) {D : Ends} {f : Flow} (h : SP (L3.handX X e) pins D f s) : SP X pins D f s := by
  cases f with
  | next => obtain ⟨σ', H', I, q⟩ := h; exact ⟨σ', H', Inv.unhand ok I, q⟩
  | brk => obtain ⟨σ', H', I, q⟩ := h; exact ⟨σ', H', Inv.unhand ok I, q⟩
  | cont => obtain ⟨σ', H', I, q⟩ := h; exact ⟨σ', H', Inv.unhand ok I, q⟩
  | ret u => obtain ⟨v, σ', H', I, r, q⟩ := h; exact ⟨v, σ', H', Inv.unhand ok I, r, q⟩
theorem SP.unpin {ps : List (Addr × Obj)} {E : Value → Shared → Prop} {D : Ends} {f : Flow} (h : SP (L3.pinX X ps E) [] D f s) : SP X ps D f s := by
  cases f with
  | next => obtain ⟨σ', H', I, q⟩ := h; exact ⟨σ', H', Inv.unpin I, q⟩
  | brk => obtain ⟨σ', H', I, q⟩ := h; exact ⟨σ', H', Inv.unpin I, q⟩
  | cont => obtain ⟨σ', H', I, q⟩ := h; exact ⟨σ', H', Inv.unpin I, q⟩
  | ret u => obtain ⟨v, σ', H', I, r, q⟩ := h; exact ⟨v, σ', H', Inv.unpin I, r, q⟩
end
section
variable {X : Cx} {x : Str} {C : Addr} {np hpos pos : Pos} {body suite : List Stmt} {b₀ : Stmt} {tb th : TS} {E : XK}
end
end L3

namespace L3
open PySem PySem.Spec PyProof.Rows L2
open PySem.W in
/-- an exception class as the text's constants show it -/
theorem excC_of {K : PySem.W.Frag} {mg : Str → Option Value} {x : Str} {C : Addr} (b : mg x = some (.ref C)) (q : PySem.W.excIn K C veM "ValueError.__new__" = true) : ExcC K mg x C := by
  intro h X
  refine ⟨b, ?_⟩
  unfold PySem.W.excIn at q
  cases ho : K.lookup C with
  | none => rw [ho] at q; cases q
  | some ob =>
    rw [ho] at q
    obtain ⟨oc, od, oda, osl⟩ := ob
    split at q
    · rename_i dd cd sl e
      obtain ⟨rfl, rfl, rfl, rfl⟩ := Obj.mk.inj (Option.some.inj e)
      split at q
      · rename_i C' bm k0 k1 k2 k3 n k5 hm hs
        simp only [Bool.and_eq_true, beq_iff_eq, Bool.not_eq_true'] at q
        obtain ⟨⟨⟨⟨⟨rfl, rfl⟩, hdel⟩, ht⟩, hok⟩, hni⟩ := q
        obtain ⟨nm, bs, mro, ns, qn, hd, sn, sub, ab, col, del⟩ := cd
        dsimp only at hm hdel hok hni
        subst hm hdel
        obtain ⟨l⟩ := osl
        have hl : l = [k0, k1, k2, k3, some (.builtin "ValueError.__new__"), k5] := hs
        subst hl
        exact ⟨bm, ns, nm, qn, bs, hd, sn, sub, ab, col, od, k0, k1, k2, k3, k5, _, X _ _ ho, .of_isNs (PySem.W.isNs_of_in X hok), PySem.W.nsMap_none_of_in X hok hni, PySem.W.tail_of_in X ht⟩
      · cases q
    · cases q
end L3

namespace L3
open PySem PySem.Spec PyProof.Rows L2
theorem pass1 {X : Cx} : Passes (CX1 X.prog X.w) X E0 := fun _ _ _ _ _ _ _ h => by
  obtain ⟨_, _, _, _, _, _, _, _, _, _, _, _, _, _, q⟩ := h
  exact q.elim
section
variable {P : Program} {w : World} {K : PySem.W.Frag} {mg : Str → Option Value} {base : Heap}
theorem Fun.okX {x qual : Str} {st : Stmt} {f : Addr} {fd : FuncData} {N ps : List Str} {k : Nat} {sp : Sp} (F : Fun K x qual st f fd) (S : FnScope N ps (defScope st)) (len : ∀ vs H Q E, sp vs H Q E → vs.length = ps.length)
    (hbody : ∀ (cdv : Value) (A : Around) (outer : List Env) (s : Shared) (H : Hp) (vs : List V) (Q : VK) (E : XK), Room k (A.deeper (envOfC qual (defScope st) s.heap.objs.size f cdv)) → sp vs H Q E →
      ∃ t, PSs (cxOf (CX1 P w) P w K mg base N qual (defScope st) f cdv A outer s H E) (defBody st) t ∧ t { nx := fun _ H' => Q .non H', rt := Q } (start N vs) H) : FnOk P w K mg base (CX1 P w) (k + 1) f fd ps sp := by
  obtain ⟨oc, od, kV, doc, pm, an, cdv, ct, osl, rfl, lk, hcd⟩ := F.ex
  exact fn_of lk hcd S len fun A outer s H vs Q E hr hsp => hbody cdv A outer s H vs Q E hr hsp
end
def MCalleeX (P : Program) (w : World) (K : PySem.W.Frag) (mg : Str → Option Value) (base : Heap) (C : Addr) (k : Nat) (m : Str) (ps : List Str) (sp : Sp) : Prop :=
  ∃ (f : Addr) (fd : FuncData), FnOk P w K mg base (CX1 P w) k f fd ps sp ∧ Binds K fd ps [] ∧ Meth K C m f
def CalleeX (P : Program) (w : World) (K : PySem.W.Frag) (mg : Str → Option Value) (base : Heap) (k : Nat) (x : Str) (ps : List Str) (sp : Sp) : Prop :=
  ∃ (f : Addr) (fd : FuncData), FnOk P w K mg base (CX1 P w) k f fd ps sp ∧ Binds K fd ps [] ∧ PySem.W.keepIn K (.ref f) = true ∧ mg x = some (.ref f)
section
variable {P : Program} {w : World} {K : PySem.W.Frag} {mg : Str → Option Value} {base : Heap} {C : Addr} {j k : Nat} {m x : Str} {ps : List Str} {sp : Sp}
theorem MCalleeX.mono (c : MCalleeX P w K mg base C j m ps sp) (h : j ≤ k) : MCalleeX P w K mg base C k m ps sp := by
  obtain ⟨f, fd, F, b, mt⟩ := c
  exact ⟨f, fd, F.mono h, b, mt⟩
theorem CalleeX.mono (c : CalleeX P w K mg base j x ps sp) (h : j ≤ k) : CalleeX P w K mg base k x ps sp := by
  obtain ⟨f, fd, F, b, mt⟩ := c
  exact ⟨f, fd, F.mono h, b, mt⟩
end
section
variable {X : Cx} {C : Addr} {k : Nat} {m x : Str} {ps : List Str} {sp : Sp} {o e : Expr} {es : List Expr} {ta : TE} {t : TA} {apos pos p : Pos} {E : XK}
theorem pe_callX (c : CalleeX X.prog X.w X.K X.mg X.base k x ps sp) (hx : Passes (CX1 X.prog X.w) X E) (hr : Room k X.A) (hg : Gl X x)
    (ha : PA X (e :: es) t) (hdb : (x == ("__debug__" : Str)) = false := by decide) (he : starEach (e :: es) X.env = (false, eval e X.env) :: starEach es X.env := by rfl) (hpl : (backTo pos (starEach es X.env)).any (·.1) = false := by rfl) :
    PE X (.Call (.Name x p) (e :: es) [] pos) (tCall sp [] E t) := by
  obtain ⟨f, fd, F, b, kp, m⟩ := c
  exact pe_call F hr hg m kp b .nil hx ha hdb he hpl
end
end L3

namespace L3
open PySem PySem.Spec PyProof.Rows L2 PySem.W
open PySem.Builtin PySem.Builtin.ObjectAttr PySem.Builtin.Getset_descriptor in
theorem exc_class_get {prog : Program} {w : World} {A : Around} {s : Shared} {K : PySem.W.Frag} {a C : Addr} {o : Obj} {R : Result → Shared → Prop} {tp : Value} (X : K.In s.heap) (hx : s.heap.get? a = some o) (hc : o.cls = .ref C) (hm : PySem.W.mroIn K C (.type "object") = some true)
    (h : R (.ok (.ret (.ref C))) s) : codeAny (model prog w) A (.call (.builtin "getset_descriptor.__get__") ⟨[.builtin "object.__class__", .ref a, tp], []⟩) R s := by
  obtain ⟨hh, g, dr, t, os⟩ := s
  have L0 : Looks (model prog w) hh (typeOf (.ref a)) (.ref C) := hc ▸ (Looks.ld hx).andThen .now
  have L1 := looks_mroIn (M := model prog w) X hm
  refine codeAny_call_builtin KF.slot_gs.plain KF.entry_gs (KF.slot_gs.check _ _ _ _ _ _ _ _ KF.type_class (KF.args_gs _ _ _) ?_)
  unfold Builtin.«getset_descriptor.__get__» descrGet
  rw [dga_obj]
  refine wpAny_bind (wpAny_pure ?_)
  unfold descrGetter descrCheckInstance descrNameAndClass isInstance
  simp only [KF.owner_class]
  repeat lk
  refine ⟨Code.quiet_builtin _ (by decide +kernel), codeAny_builtin KF.entry_class ?_⟩
  unfold Builtin.«object.__class__» shownTypeOf
  repeat lk
  exact h
section
variable {prog : Program} {w : World} {A : Around} {E : Value → Shared → Prop} {K : PySem.W.Frag} {a C : Addr} {o : Obj} {h : Heap} {g : Array GenState} {d : Drawn} {t : Nat} {os : OsState}
theorem exc_class_entry {tk : Tok} {Q : PySem.Fin → Shared → Prop} (X : K.In h) (hx : h.get? a = some o) (hc : o.cls = .ref C) (ha : findIn K (.ref C) "__class__" = some (some (.builtin "object.__class__"))) (hm : PySem.W.mroIn K C (.type "object") = some true)
    (hq : Q (.done (.ret (.ref C))) ⟨h, g, d, t, os⟩) : wpAny (model prog w) A (Builtin.«object.__getattribute__» ⟨[.ref a, .str "__class__" tk], []⟩) Q E ⟨h, g, d, t, os⟩ := by
  have L0 : Looks (model prog w) h (typeOf (.ref a)) (.ref C) := hc ▸ (Looks.ld hx).andThen .now
  have L1 := looks_findIn (M := model prog w) X ha
  have f5 := PySem.F.typeOf_object_class
  have f6 := PySem.F.slot_gs_get.lookup
  have f7 := PySem.F.slot_gs_set.lookup
  repeat (any_goals (first | assumption | with_reducible refine L0.at ?_ | with_reducible refine L1.at ?_ | (with_reducible refine wpAny_loadPart_at hx ?_; rw [hc]) | wp_step))
  refine exc_class_get X hx hc hm ?_
  repeat (any_goals (first | assumption | wp_step))
theorem exc_check_ga {M : Model} {nameV : Value} {Q : Unit → Shared → Prop} (X : K.In h) (hx : h.get? a = some o) (hc : o.cls = .ref C) (hb : PySem.W.mroIn K C (.type "BaseException") = some true) (hq : Q () ⟨h, g, d, t, os⟩) :
    wpAny M A (checkBuiltinCall "BaseException.__getattribute__" ⟨[.ref a, nameV], []⟩) Q E ⟨h, g, d, t, os⟩ := by
  have hk : builtinKind "BaseException.__getattribute__" = some .slot := by decide +kernel
  have hsplit : splitId "BaseException.__getattribute__" = some ("BaseException", "__getattribute__") := by decide +kernel
  have L0 : Looks M h (typeOf (.ref a)) (.ref C) := hc ▸ (Looks.ld hx).andThen .now
  have L1 := looks_mroIn (M := M) X hb
  have ha := PySem.F.args_bexc_ga (.ref a) nameV
  simp only [checkBuiltinCall, hk, hsplit]
  refine wpAny_bind ?_
  unfold isInstance
  repeat (first | with_reducible refine L0.at ?_ | with_reducible refine L1.at ?_ | wp_step)
  exact hq
theorem exc_class_call {tk : Tok} {R : Result → Shared → Prop} (X : K.In h) (hx : h.get? a = some o) (hc : o.cls = .ref C) (ha : findIn K (.ref C) "__class__" = some (some (.builtin "object.__class__"))) (hm : PySem.W.mroIn K C (.type "object") = some true) (hb : PySem.W.mroIn K C (.type "BaseException") = some true)
    (hq : R (.ok (.ret (.ref C))) ⟨h, g, d, t, os⟩) : codeAny (model prog w) A (.call (.builtin "BaseException.__getattribute__") ⟨[.ref a, .str "__class__" tk], []⟩) R ⟨h, g, d, t, os⟩ :=
  codeAny_call_builtin (by decide +kernel) PySem.F.entry_bexc_ga (exc_check_ga X hx hc hb (exc_class_entry X hx hc ha hm hq))
theorem exc_class_by {tk : Tok} {Q : Value → Shared → Prop} (X : K.In h) (hx : h.get? a = some o) (hc : o.cls = .ref C) (hga : findIn K (.ref C) "__getattribute__" = some (some (.builtin "BaseException.__getattribute__"))) (hgt : findIn K (.ref C) "__getattr__" = some none)
    (ha : findIn K (.ref C) "__class__" = some (some (.builtin "object.__class__"))) (hm : PySem.W.mroIn K C (.type "object") = some true) (hb : PySem.W.mroIn K C (.type "BaseException") = some true)
    (hq : Q (.ref C) ⟨h, g, d, t, os⟩) : wpAny (model prog w) A (getAttrBy (.ref a) (.str "__class__" tk) false) Q E ⟨h, g, d, t, os⟩ := by
  have L0 : Looks (model prog w) h (typeOf (.ref a)) (.ref C) := hc ▸ (Looks.ld hx).andThen .now
  have L1 := looks_findIn (M := model prog w) X hga
  have L2 := looks_findIn (M := model prog w) X hgt
  have f3 := PySem.F.attr_ValueError.ga.bind (.ref a)
  have hx2 : (Value.builtin "BaseException.__getattribute__" == Value.builtin "object.__getattribute__") = false := by decide +kernel
  have hx1 : (onTheHeap (Value.ref C) && Value.builtin "BaseException.__getattribute__" == Value.builtin "object.__getattribute__") = false := by rw [hx2]; rfl
  repeat (any_goals (first | assumption | with_reducible refine L0.at ?_ | with_reducible refine L1.at ?_ | with_reducible refine L2.at ?_ | (with_reducible refine wpAny_loadPart_at hx ?_; rw [hc]) | wp_step))
  refine exc_class_call X hx hc ha hm hb ?_
  repeat (any_goals (first | assumption | wp_step))
theorem exc_class_attr {Q : Option Value → Shared → Prop} (X : K.In h) (hx : h.get? a = some o) (hc : o.cls = .ref C) (hga : findIn K (.ref C) "__getattribute__" = some (some (.builtin "BaseException.__getattribute__"))) (hgt : findIn K (.ref C) "__getattr__" = some none)
    (ha : findIn K (.ref C) "__class__" = some (some (.builtin "object.__class__"))) (hm : PySem.W.mroIn K C (.type "object") = some true) (hb : PySem.W.mroIn K C (.type "BaseException") = some true)
    (hq : Q (some (.ref C)) ⟨h, g, d, t + 1, os⟩) : wpAny (model prog w) A (getAttr? (.ref a) "__class__") Q E ⟨h, g, d, t, os⟩ := by
  unfold getAttr? getAttrBy?
  repeat (any_goals (first | assumption | with_reducible apply exc_class_by X hx hc hga hgt ha hm hb | wp_step))
end
end L3

namespace L3
open PySem PySem.Spec PyProof.Rows L2 PySem.W
structure ExcK (K : PySem.W.Frag) (C : Addr) : Prop where
  ga : findIn K (.ref C) "__getattribute__" = some (some (.builtin "BaseException.__getattribute__"))
  gt : findIn K (.ref C) "__getattr__" = some none
  cl : findIn K (.ref C) "__class__" = some (some (.builtin "object.__class__"))
  ob : mroIn K C (.type "object") = some true
  be : mroIn K C (.type "BaseException") = some true
theorem mro_cls {K : PySem.W.Frag} {C : Addr} {b : Value} {r : Bool} (e : mroIn K C b = some r) : ∃ cd, clsIn K C = some cd := by
  obtain ⟨cd, a, _⟩ := Option.bind_eq_some_iff.mp e
  exact ⟨cd, a⟩
theorem kitx_exc {K : PySem.W.Frag} {a C : Addr} (F : ExcK K C) : KitX K (.ref a) (.ref C) (fun h => ∃ o, h.get? a = some o ∧ o.cls = .ref C) where
  ty := fun M h _ p => by
    obtain ⟨o, h1, h2⟩ := p
    exact h2 ▸ (Looks.ld h1).andThen .now
  it := fun _ _ X _ => by
    obtain ⟨cdD, hcD⟩ := mro_cls F.ob
    unfold clsIn at hcD
    split at hcD
    · rename_i c' d' cd' sl' ho
      intro A' Q' E' s' k q
      unfold isType loadHead
      exact wpAny_bind (wpAny_loadPart (k _ _ (X _ _ ho)) (wpAny_pure q))
    · cases hcD
  ne := fun h tp dd its n sl X htp => by
    obtain ⟨cdD, hcD⟩ := mro_cls F.ob
    refine Bool.eq_false_iff.mpr fun q => ?_
    have e : C = tp := Value.ref.inj (beq_iff_eq.mp q)
    subst e
    unfold clsIn at hcD
    split at hcD
    · rename_i c' d' cd' sl' ho
      have z := (X _ _ ho).symm.trans htp
      cases z
    · cases hcD
  ca := fun {_ _ _ _ _ s} X p k => by
    obtain ⟨h, g, d, t, os⟩ := s
    obtain ⟨o, h1, h2⟩ := p
    exact exc_class_attr X h1 h2 F.ga F.gt F.cl F.ob F.be k
def ExO (a C : Addr) : HO := .ext fun h => ∃ o, h.get? a = some o ∧ o.cls = .ref C ∧ ∃ vs, o.data = .fields vs ∧ vs[2]? = some .none
theorem ExO.cl {h : Heap} {a C : Addr} (p : ∃ o, h.get? a = some o ∧ o.cls = .ref C ∧ ∃ vs, o.data = .fields vs ∧ vs[2]? = some .none) : ∃ o, h.get? a = some o ∧ o.cls = .ref C := p.imp fun _ z => ⟨z.1, z.2.1⟩
def rIsiE (K : PySem.W.Frag) : List V → Hp → VK → Prop := fun xs H Q => ∃ (a C : Addr) (y : V) (c : Value) (b : Bool), xs = [.ref a, y] ∧ H a = some (ExO a C) ∧ (∀ u, RelV y u → u = c) ∧ ExcK K C ∧ kitOne K (.ref C) c = some b ∧ Q (.bl b) H
theorem call_isiE {X : Cx} {K : PySem.W.Frag} (hK : X.K = K) : CallR X (.builtin "isinstance") (rIsiE K) := by
  subst hK
  intro pins s σ H xs us Q I r h
  obtain ⟨a, C, y, c, b, rfl, hH, hy, F, e, q⟩ := h
  obtain ⟨u, w', rfl, rx, ry⟩ := vals2 r
  cases (show u = Value.ref a from rx)
  have := hy w' ry
  subst this
  exact kia_one (kitx_exc F) I.kIn (ExO.cl (I.hok a _ hH).1) e (fun z => nomatch z) fun tk => ⟨.bl b, H, I.tok _, rfl, q⟩
theorem excMatches_up {M : Model} {A : Around} {E : Value → Shared → Prop} {K : PySem.W.Frag} {h : Heap} {g : Array GenState} {d : Drawn} {t : Nat} {os : OsState} {e C' C N : Addr} {oe : Obj} {Q : Bool → Shared → Prop} {nm q : Str} {bs bm : List Value} {hdct : Bool} {sn : List Str} {sub : List Value} {ab : Bool} {col : Option Bool} {dd : Option Addr} {k0 k1 k2 k3 k5 : Option Value} {newId : String}
    (X : K.In h) (hC : h.get? C = some (excClassObj nm q C N bs bm hdct sn sub ab col dd k0 k1 k2 k3 k5 newId)) (he : h.get? e = some oe) (hcls : oe.cls = .ref C') (hbase : bm.contains (.type "BaseException") = true) (hup : mroIn K C' (.ref C) = some true)
    (hq : Q true ⟨h, g, d, t, os⟩) : wpAny M A (excMatches (.ref e) (.ref C)) Q E ⟨h, g, d, t, os⟩ := by
  have hcB : (Value.ref C :: bm).contains (.type "BaseException") = true := by rw [List.contains_cons, hbase, Bool.or_true]
  have L1 := looks_mroIn (M := M) X hup
  have f := tc_notTuple
  unfold excMatches
  repeat (first | (with_reducible refine wpAny_loadPart_at he ?_; rw [hcls]) | with_reducible refine L1.at ?_ | with_reducible refine wpAny_loadPart_at hC ?_ | (with_reducible refine wpAny_isSubtype_exc hC ?_; rw [hcB]) | wp_step)
  exact hq
end L3

namespace L3
open PySem PySem.Spec PyProof.Rows L2 PySem.W
section
variable {X : Cx} {pins : List (Addr × Obj)} {σ : L2.St} {H : Hp} {s : Shared}
theorem unbind_ok {M : Model} {A : Around} {E : Value → Shared → Prop} {i : Nat} {x : Str} {pos : Pos} {Q : Unit → Shared → Prop} (I : Inv X pins σ H s) (hN : X.N.Nodup) (hi : X.N[i]? = some x) (hx : X.env.kindOf x = some .local) (hx2 : X.env.scope.names.lookup x = some .local)
    (h : ∀ s', Inv X pins (σ.set i none) H s' → Q () s') : wpAny M A (do bindName X.env x .none; unbindBehindTheSuite X.env x pos) Q E s := by
  have hcls : (X.env.scope.kind == .class || (X.env.scope.kind == .module && X.env.locals != X.env.globals)) = false := by rw [I.ok.kind]; rfl
  refine wpAny_bind (wpAny_bindName (store_ok (v := .non) I hN hi (.inl hx2) rfl (fun s1 I1 => ?_) (.inr hx2)))
  unfold unbindBehindTheSuite
  refine wpAny_onRaise ?_
  unfold unbindName
  refine wpAny_bind (wpAny_point (wpAny_bind ?_))
  unfold deleteName
  simp only [hx, hcls]
  rw [if_neg (by decide)]
  obtain ⟨m, hn, hl⟩ := id I1.loc
  refine wpAny_bind (wpAny_nsDel_keeps hn fun h' v hn' hs => ?_)
  have hiσ : i < σ.length := by rw [I.len]; exact (List.getElem?_eq_some_iff.mp hi).1
  have hm : (m x).isSome = true := by
    obtain ⟨u, _, l⟩ := hl i x .non hi (List.getElem?_set_self hiσ) (.inl hx2)
    rcases l with ⟨_, e⟩ | ⟨k, _⟩
    · rw [e]; rfl
    · rcases k with k | k <;> (rw [hx] at k; cases k)
  simp only [hm, if_true, Bool.not_true, Bool.false_eq_true, if_false]
  refine wpAny_pure (wpAny_point (h _ ?_))
  obtain ⟨oL, _, _, hoL, _⟩ := id hn
  have cne := I1.cne
  have tracked : HOk X.prog X.w H h' := fun b ob e => by
    refine (I1.hok b ob e).stay (fun c w' hc q => (hs.2 c ?_).trans q) (fun _ q => q) fun _ _ q => q
    rintro rfl
    have hfree := I1.free
    rcases hc with hc | hc
    · rw [← hc] at e; rw [hfree] at e; cases e
    · rw [hfree] at hc; cases hc
  refine ⟨I1.ok, I1.os, I1.bare, ⟨fun b o e n hb hx => ?_, fun b o e n hb hx => ?_, I1.base.free, fun b o e hx => ?_, I1.base.tups, I1.base.frzs, I1.base.tbls⟩, ⟨_, hn', fun j y v' e1 e2 e3 => ?_⟩, fun y c e => ?_, I1.free, I1.freeC, fun p hp => ?_, tracked, by rw [List.length_set]; exact I.len⟩
  · exact (hs.2 b (Nat.ne_of_lt (Nat.lt_of_lt_of_le (Heap.lt_size e) I1.ok.above))).trans (I1.base.keep b o e n hb hx)
  · obtain ⟨sl, e1⟩ := I1.base.slot b o e n hb hx
    exact ⟨sl, (hs.2 b (Nat.ne_of_lt (Nat.lt_of_lt_of_le (Heap.lt_size e) I1.ok.above))).trans e1⟩
  · obtain ⟨o', e1⟩ := I1.base.there b o e hx
    exact ⟨o', (hs.2 b (Nat.ne_of_lt (Nat.lt_of_lt_of_le (Heap.lt_size e) I1.ok.above))).trans e1⟩
  · have hj : j ≠ i := fun z => by
      subst z
      rw [List.getElem?_set_self hiσ] at e2
      cases e2
    rw [List.getElem?_set_ne (Ne.symm hj)] at e2
    obtain ⟨u', r', q⟩ := hl j y v' e1 (by rw [List.getElem?_set_ne (Ne.symm hj)]; exact e2) e3
    refine ⟨u', r', ?_⟩
    rcases q with ⟨k, e⟩ | ⟨k, c, e, z⟩
    · refine .inl ⟨k, ?_⟩
      have : y ≠ x := fun e => hj (nodup_ix hN e1 (e ▸ hi))
      simp [this, e]
    · exact .inr ⟨k, c, e, z.sameBut hs (cne y c e)⟩
  · obtain ⟨w', z⟩ := I1.cell y c e
    exact ⟨w', z.sameBut hs (cne y c e)⟩
  · obtain ⟨e, n, ne, nf, d⟩ := I1.pin p hp
    exact ⟨(hs.2 p.1 ne).trans e, n, ne, nf, d⟩
end

theorem Inv.trackX {X : Cx} {pins : List (Addr × Obj)} {σ : L2.St} {H : Hp} {s : Shared} {a T C : Addr} {o : Obj} (I : L2.Inv X pins σ H s) (ap : ApX X pins H a T) {vs : Array Value} (he : s.heap.get? a = some o) (hc : o.cls = .ref C) (hd : o.data = .fields vs) (h2 : vs[2]? = some .none) : L2.Inv X pins σ (upd H a (ExO a C)) s := by
  refine ⟨I.ok, I.os, I.bare, ⟨I.base.keep, I.base.slot, fun b o' e n hx => ?_, I.base.there, fun b xs e => ?_, fun b o' u e => ?_, fun b ps e => ?_⟩, I.loc, I.cell, ?_, fun x c e => ?_, fun p hp => ?_, ?_, I.len⟩
  · rw [upd_ne (ap.s0 b o' e).1]; exact I.base.free b o' e n hx
  · have z := I.base.tups b xs e
    rw [upd_ne (ne_of_none z ap.ha)]; exact z
  · have z := I.base.frzs b o' u e
    rw [upd_ne (ne_of_none z ap.ha)]; exact z
  · obtain ⟨more, z⟩ := I.base.tbls b ps e
    exact ⟨more, by rw [upd_ne (ne_of_none z ap.ha)]; exact z⟩
  · rw [upd_ne ap.loc.1]; exact I.free
  · rw [upd_ne (ap.cel x c e).1]; exact I.freeC x c e
  · obtain ⟨p1, p2, p3, p4, p5⟩ := I.pin p hp
    exact ⟨p1, by rw [upd_ne (ap.pin p hp).1]; exact p2, p3, p4, p5⟩
  · refine HOk.track I.hok ap.ha ⟨⟨o, he, hc, vs, hd, h2⟩, ⟨o, he⟩, fun h1 h2 φ k => ?_⟩
    obtain ⟨o', e1, e2⟩ := φ
    exact ⟨o', k _ e1, e2⟩
def asEnds (i : Nat) (D : Ends) : Ends := { nx := fun σ H => D.nx (σ.set i none) H, rt := D.rt, bk := fun σ H => D.bk (σ.set i none) H, ct := fun σ H => D.ct (σ.set i none) H }
def tTryAs (n i : Nat) (K : PySem.W.Frag) (B : Addr) (E : XK) (tb : TS) (th : Addr → TS) : TS := fun D σ H => tb D σ H ∧ ∀ (e C' : Addr) (σ' : L2.St) (H' : Hp), σ'.length = n → H' e = none → E (.ref e) (some C') H' → mroIn K C' (.ref B) = some true ∧ th e (asEnds i D) (σ'.set i (some (.ref e))) (upd H' e (ExO e C'))
section
variable {X : Cx} {x y : Str} {C : Addr} {np hpos pos : Pos} {body suite : List Stmt} {b₀ : Stmt} {tb : TS} {th : Addr → TS} {E : XK} {i : Nat} {K : PySem.W.Frag}
theorem ps_tryAs (hK : X.K = K) (hx : X.ex = []) (hstk : X.stack = X.env :: X.outer) (hf : X.env.frame = some X.env.locals) (O : ExcC X.K X.mg x C) (hg : Gl X x) (hN : X.N.Nodup) (hi : X.N[i]? = some y) (hy : X.env.kindOf y = some .local) (hy2 : X.env.scope.names.lookup y = some .local)
    (hB : ∀ ps, PSs (pinX X ps (CaughtX X ps E)) body tb) (hS : ∀ e, PSs (handX X e) (b₀ :: suite) (th e)) (hdb : (x == ("__debug__" : Str)) = false := by decide) :
    PS X (.Try body [.ExceptHandler (some (.Name x np)) (some y) (b₀ :: suite) hpos] [] [] pos) (tTryAs X.N.length i K C E tb th) := by
  subst hK
  intro pins s σ H D I ⟨hb, hh⟩
  refine wpAny_Try_except (wpAny_mono (hB pins [] s σ H D (Inv.pinX I) hb) (fun f s1 h1 => ?_) (fun ex s1 h1 => ?_))
  · have h2 := SP.unpin h1
    cases f with
    | next => exact wpAny_execs_nil h2
    | brk => exact h2
    | cont => exact h2
    | ret u => exact h2
  · obtain ⟨a, T, C', σ', H', rfl, I1, trc, ap, q⟩ := h1
    have hfr : X.A.frames = some (X.env :: X.outer) := by rw [← hstk]; exact I.ok.frames
    have hst : s1.heap.FunFrames X.base (X.env :: X.outer) := by rw [← hstk]; exact I1.stack
    refine note_next (base := X.base) (outer := X.outer) hfr hst hf trc fun h2 T2 l => ?_
    have l' : Lft (frs X.stack) a T T2 (.ref C') s1.heap h2 := by rw [hstk]; exact l
    have I2 := Inv.left I1 hx ap l'
    have I3 : Inv (handX X a) pins σ' H' { s1 with heap := h2 } := Inv.handX I2
    obtain ⟨tl, N, nm, q0, bs, hdct, sn, sub, ab, col, dd, k0, k1, k2, k3, k5, mN, hC, hNs, hni, TL⟩ := (O X.base I.mod.kin).obj
    obtain ⟨oe, vs, oT, ts, he, hcls, _⟩ := id l.trc
    have hn : H' a = none := ap.ha
    obtain ⟨hup, q2⟩ := hh a C' σ' H' I1.len hn q
    refine wpAny_handleBy_cons (codeAny_handlers_test (ld_glob (X := handX X a) I3 hg (O X.base I.mod.kin).bound ?_ hdb)) (by intro q; cases q)
    refine excMatches_up I2.kIn (I2.bk _ _ hC) he hcls (TL.hasType PySem.F.excBase_ValueError.hasBase) hup (codeAny_handlers_suite_as ?_)
    refine flight_end (s := { s1 with heap := h2 }) l.trc fun h3 hk trc3 => ?_
    have hT2 : H' T2 = none := by
      cases r : H' T2 with
      | none => rfl
      | some o =>
        obtain ⟨ob, z⟩ := ObjOk.at (I1.hok T2 o r)
        rw [l.new] at z; cases z
    have ap2 : ApX X pins H' T2 T2 := ApX.of I1 hx l.new l.new hT2 hT2
    have I4 := Inv.leftK I2 hx ap2 (h2 := h3) (fun b o _ n1 _ ho => (hk b n1).trans ho) (fun b o _ n1 _ ho => ⟨o.slots, (hk b n1).trans ho⟩)
    obtain ⟨oe3, vs3, oT3, ts3, he3, hcls3, hd3, _, _, _, _, _, hv3⟩ := id trc3
    have I5 := Inv.trackX (C := C') I4 ap he3 hcls3 hd3 hv3
    have I6 : L2.Inv (handX X a) pins σ' (upd H' a (ExO a C')) { s1 with heap := h3 } := Inv.handX I5
    refine store_ok (X := handX X a) (v := .ref a) I6 hN hi (.inl hy2) rfl (fun s5 I7 => ?_) (.inr hy2)
    refine wpAny_mono (hS a pins s5 _ _ (asEnds i D) I7 q2) (fun f s2 h => ?_) (fun _ _ z => False.elim z)
    cases f with
    | next =>
      obtain ⟨σ2, H2, J, q3⟩ := h
      exact unbind_ok (Inv.unhand I.ok J) hN hi hy hy2 fun s' J' => ⟨_, H2, J', q3⟩
    | brk =>
      obtain ⟨σ2, H2, J, q3⟩ := h
      exact unbind_ok (Inv.unhand I.ok J) hN hi hy hy2 fun s' J' => ⟨_, H2, J', q3⟩
    | cont =>
      obtain ⟨σ2, H2, J, q3⟩ := h
      exact unbind_ok (Inv.unhand I.ok J) hN hi hy hy2 fun s' J' => ⟨_, H2, J', q3⟩
    | ret u =>
      obtain ⟨v, σ2, H2, J, r, q3⟩ := h
      exact unbind_ok (Inv.unhand I.ok J) hN hi hy hy2 fun s' J' => ⟨v, _, H2, J', r, q3⟩
end

theorem b_ValueError : bootBuiltins "ValueError" = some (.type "ValueError") := by kernel_rfl
end L3

namespace L3
open PySem PySem.Spec PyProof.Rows L2
section
variable {c : TT} {e : TE} {i : Nat} {v v' : V} {t u r : TS} {D : Ends} {σ : L2.St} {H : Hp} {rt : VK} {bk ct : L2.St → Hp → Prop}
theorem c_name (h : t D (σ.set i (some v)) H) : gName i v σ H ({ nx := t D, rt := rt, bk := bk, ct := ct } : Ends).nx := h
theorem c_if (Good : L2.St → Hp → Prop) (hr : ∀ σ' H', Good σ' H' → r D σ' H') (hc : (∀ σ' H', Good σ' H' → r D σ' H') → tIfS c t u { D with nx := r D } σ H) : tSeq (tIfS c t u) r D σ H := hc hr
theorem c_asg (Good : V → Hp → Prop) (hc : ∀ K : VK, (∀ v H', Good v H' → K v H') → e σ H K) (hr : ∀ v H', Good v H' → t D (σ.set i (some v)) H') : tSeq (tAsg e (gName i)) t D σ H := hc _ fun v H' g => hr v H' g
theorem c_next (h : t D σ H) : tNext ({ nx := t D, rt := rt, bk := bk, ct := ct } : Ends) σ H := h
theorem c_test (Good : Bool → Hp → Prop) (hc : ∀ K : Bool → Hp → Prop, (∀ b H', Good b H' → K b H') → c σ H K) (hr : ∀ b H', Good b H' → if b = true then t { D with nx := r D } σ H' else u { D with nx := r D } σ H') : tSeq (tIfS c t u) r D σ H := hc _ hr
end
end L3

namespace L3
open PySem PySem.Spec PyProof.Rows L2
abbrev OKey := Option Key
def okV : OKey → V
  | none => .non
  | some k => kV k
def DcO (a : Addr) (kvs : List (V × V)) : HO := .ext fun h => ∃ o es n, h.get? a = some o ∧ o.cls = .type "dict" ∧ o.data = .dict es n ∧ Vals (kvs.map (·.1)) (es.toList.map (·.key)) ∧ Vals (kvs.map (·.2)) (es.toList.map (·.val))
mutual
/-- nested data, whose lists and dicts are none of m -/
inductive Od (K : PySem.W.Frag) (m : List Addr) (H : Hp) : V → PyData → Prop
  | non : Od K m H .non .none
  | bl (b : Bool) : Od K m H (.bl b) (.bool b)
  | int (i : Int) : Od K m H (.int i) (.int i)
  | str (x : Str) : Od K m H (.str x) (.str x)
  | tup {a : Addr} {xs : List V} {ds : List PyData} : SqT K H a xs → Ods K m H xs ds → Od K m H (.ref a) (.tuple ds)
  | lst {a : Addr} {xs : List V} {ds : List PyData} : H a = some (.lst xs) → a ∉ m → a ≠ sysModules → Ods K m H xs ds → Od K m H (.ref a) (.list ds)
  | dct {a : Addr} {kvs : List (V × V)} {ds : List (PyData × PyData)} : H a = some (DcO a kvs) → a ∉ m → a ≠ sysModules → Ods K m H (kvs.map (·.1)) (ds.map (·.1)) → Ods K m H (kvs.map (·.2)) (ds.map (·.2)) → Od K m H (.ref a) (.dict ds)
inductive Ods (K : PySem.W.Frag) (m : List Addr) (H : Hp) : List V → List PyData → Prop
  | nil : Ods K m H [] []
  | cons {x : V} {xs : List V} {d : PyData} {ds : List PyData} : Od K m H x d → Ods K m H xs ds → Ods K m H (x :: xs) (d :: ds)
end
section
variable {K : PySem.W.Frag} {m : List Addr} {H H' : Hp}
mutual
theorem Od.grow (g : Grow m H H') : ∀ {x : V} {d : PyData}, Od K m H x d → Od K m H' x d
  | _, _, .non => .non
  | _, _, .bl b => .bl b
  | _, _, .int i => .int i
  | _, _, .str x => .str x
  | _, _, .tup h t => .tup (g.sqT h) (Ods.grow g t)
  | _, _, .lst h n b t => .lst (g.keep _ _ n h) n b (Ods.grow g t)
  | _, _, .dct h n b t u => .dct (g.keep _ _ n h) n b (Ods.grow g t) (Ods.grow g u)
theorem Ods.grow (g : Grow m H H') : ∀ {xs : List V} {ds : List PyData}, Ods K m H xs ds → Ods K m H' xs ds
  | _, _, .nil => .nil
  | _, _, .cons h t => .cons (Od.grow g h) (Ods.grow g t)
end
theorem Ods.length : ∀ {xs : List V} {ds : List PyData}, Ods K m H xs ds → xs.length = ds.length
  | _, _, .nil => rfl
  | _, _, .cons _ t => congrArg (· + 1) (Ods.length t)
theorem Ods.get : ∀ {xs : List V} {ds : List PyData} {i : Nat} {x : V}, Ods K m H xs ds → xs[i]? = some x → ∃ d, ds[i]? = some d ∧ Od K m H x d
  | _, _, _, _, .nil, e => by simp at e
  | _, _, 0, _, .cons h _, e => by simp at e; subst e; exact ⟨_, rfl, h⟩
  | _, _, i + 1, x, .cons _ t, e => Ods.get (i := i) t (by simpa using e)
theorem Ods.at : ∀ {xs : List V} {ds : List PyData} {i : Nat} {d : PyData}, Ods K m H xs ds → ds[i]? = some d → ∃ x, xs[i]? = some x ∧ Od K m H x d
  | _, _, _, _, .nil, e => by simp at e
  | _, _, 0, _, .cons h _, e => by simp at e; subst e; exact ⟨_, rfl, h⟩
  | _, _, i + 1, x, .cons _ t, e => Ods.at (i := i) t (by simpa using e)
theorem Ods.append : ∀ {xs ys : List V} {ds es : List PyData}, Ods K m H xs ds → Ods K m H ys es → Ods K m H (xs ++ ys) (ds ++ es)
  | _, _, _, _, .nil, s => s
  | _, _, _, _, .cons r t, s => .cons r (Ods.append t s)
theorem Ods.take : ∀ {xs : List V} {ds : List PyData} (n : Nat), Ods K m H xs ds → Ods K m H (xs.take n) (ds.take n)
  | _, _, 0, _ => .nil
  | _, _, _ + 1, .nil => .nil
  | _, _, n + 1, .cons r t => .cons r (Ods.take n t)
theorem Ods.drop : ∀ {xs : List V} {ds : List PyData} (n : Nat), Ods K m H xs ds → Ods K m H (xs.drop n) (ds.drop n)
  | _, _, 0, r => r
  | _, _, _ + 1, .nil => .nil
  | _, _, n + 1, .cons _ t => Ods.drop n t
end
section
variable {X : Cx} {pins : List (Addr × Obj)} {σ : L2.St} {H : Hp} {s : Shared} {m : List Addr}
theorem inv_big (I : Inv X pins σ H s) : sysModules < s.heap.objs.size := Nat.lt_trans (by decide) (show mainGlobals < s.heap.objs.size from (I.mod.glob.keeps I.bk).lt)
theorem DcO.at (I : Inv X pins σ H s) {a : Addr} {kvs : List (V × V)} (h : H a = some (DcO a kvs)) : ∃ o es n, s.heap.get? a = some o ∧ o.cls = .type "dict" ∧ o.data = .dict es n ∧ Vals (kvs.map (·.1)) (es.toList.map (·.key)) ∧ Vals (kvs.map (·.2)) (es.toList.map (·.val)) := (I.hok a _ h).1
mutual
theorem Od.reads (I : Inv X pins σ H s) : ∀ {x : V} {d : PyData} {u : Value}, Od X.K m H x d → RelV x u → ∃ as, Reads s.heap u d as ∧ sysModules ∉ as
  | _, _, u, .non, r => by
    cases (show u = Value.none from r)
    exact ⟨_, .none, by simp⟩
  | _, _, u, .bl b, r => by
    cases (show u = Value.bool b from r)
    exact ⟨_, .bool b, by simp⟩
  | _, _, u, .int i, r => by
    obtain ⟨t, rfl⟩ := r
    exact ⟨_, .int i t, by simp⟩
  | _, _, u, .str x, r => by
    obtain ⟨t, rfl⟩ := r
    exact ⟨_, .str x t, by simp⟩
  | _, _, u, .tup (a := a) hs hd, r => by
    cases (show u = Value.ref a from r)
    obtain ⟨its, r1, ⟨o, e1, e2, n, e3⟩, _⟩ := I.tuple hs
    obtain ⟨as, q, ns⟩ := Ods.reads I hd r1
    exact ⟨_, .tuple e1 e2 e3 q, ns⟩
  | _, _, u, .lst (a := a) hs _ hb hd, r => by
    cases (show u = Value.ref a from r)
    obtain ⟨its, r1, ⟨o, n, e1, e2, _, e3⟩, _⟩ := I.list (SqL.of hs)
    obtain ⟨as, q, ns⟩ := Ods.reads I hd r1
    exact ⟨_, .list e1 e2 e3 q, fun z => (List.mem_cons.mp z).elim (fun e => hb e.symm) ns⟩
  | _, _, u, .dct (a := a) hs _ hb h1 h2, r => by
    cases (show u = Value.ref a from r)
    obtain ⟨o, es, n, e1, e2, e3, v1, v2⟩ := DcO.at I hs
    obtain ⟨as, q1, n1⟩ := Ods.reads I h1 v1
    obtain ⟨bs, q2, n2⟩ := Ods.reads I h2 v2
    refine ⟨_, .dict e1 e2 e3 q1 q2, fun z => ?_⟩
    rcases List.mem_append.mp z with z | z
    · exact (List.mem_cons.mp z).elim (fun e => hb e.symm) n1
    · exact n2 z
theorem Ods.reads (I : Inv X pins σ H s) : ∀ {xs : List V} {ds : List PyData} {us : List Value}, Ods X.K m H xs ds → Vals xs us → ∃ as, ReadsAll s.heap us ds as ∧ sysModules ∉ as
  | _, _, _, .nil, .nil => ⟨_, .nil, by simp⟩
  | _, _, _, .cons h t, .cons r rs => by
    obtain ⟨as, q, n1⟩ := Od.reads I h r
    obtain ⟨bs, q2, n2⟩ := Ods.reads I t rs
    exact ⟨_, .cons q q2, fun z => (List.mem_append.mp z).elim n1 n2⟩
end
def rReprO (K : PySem.W.Frag) : List V → Hp → VK → Prop := fun xs H Q => ∃ x d m, xs = [x] ∧ Od K m H x d ∧ d.showable = true ∧ d.depth ≤ 60 ∧ d.shown.length ≤ sizeLine ∧ Q (.str d.shown) H
theorem call_reprO {K : PySem.W.Frag} {k : Nat} (hK : X.K = K) (hr : Room k X.A) : CallR X (.builtin "repr") (rReprO K) := by
  subst hK
  intro pins s σ H xs us Q I r h
  obtain ⟨x, d, m, rfl, hd, h1, h3, h4, q⟩ := h
  obtain ⟨u, rfl, rx⟩ := vals1 r
  have key : ∀ a, u = .ref a → wpAny (model X.prog X.w) X.A (call (.builtin "repr") [u]) (EP X pins σ Q) X.xe s := fun a e => by
    subst e
    obtain ⟨as, rd, ns⟩ := Od.reads I hd rx
    exact repr_of_reads' rd h1 (fun _ => ns) hr.gd (by have := hr.un; omega) (fun _ _ e => e) (fun h' t tk hk => ⟨.str _, H, I.kept hk, ⟨_, rfl⟩, q⟩) h4
  cases hd with
  | non =>
    cases (show u = Value.none from rx)
    exact PySem.P.repr_of_none ⟨.str _, H, I.tok _, ⟨_, rfl⟩, q⟩
  | bl b =>
    cases (show u = Value.bool b from rx)
    exact PySem.P.repr_of_bool ⟨.str _, H, I.tok _, ⟨_, rfl⟩, q⟩
  | int i =>
    obtain ⟨t, rfl⟩ := rx
    exact PySem.P.repr_of_int (of_decide_eq_true h1) ⟨.str _, H, I.tok _, ⟨_, rfl⟩, q⟩
  | str x =>
    obtain ⟨t, rfl⟩ := rx
    exact PySem.P.repr_of_str ⟨.str _, H, I.tok _, ⟨_, rfl⟩, q⟩ h4
  | tup hs ha => exact key _ rx
  | lst hs _ _ ha => exact key _ rx
  | dct hs _ _ h1 h2 => exact key _ rx
end
end L3

namespace L3
open PySem PySem.Spec PyProof.Rows L2
section
variable {K : PySem.W.Frag} {m m' : List Addr} {H : Hp}
mutual
theorem Od.more {a : Addr} (h : H a = none) : ∀ {x : V} {d : PyData}, Od K m H x d → Od K (a :: m) H x d
  | _, _, .non => .non
  | _, _, .bl b => .bl b
  | _, _, .int i => .int i
  | _, _, .str x => .str x
  | _, _, .tup q t => .tup q (Ods.more h t)
  | _, _, .lst q n b t => .lst q (fun z => (List.mem_cons.mp z).elim (fun e => by rw [e, h] at q; cases q) n) b (Ods.more h t)
  | _, _, .dct q n b t u => .dct q (fun z => (List.mem_cons.mp z).elim (fun e => by rw [e, h] at q; cases q) n) b (Ods.more h t) (Ods.more h u)
theorem Ods.more {a : Addr} (h : H a = none) : ∀ {xs : List V} {ds : List PyData}, Ods K m H xs ds → Ods K (a :: m) H xs ds
  | _, _, .nil => .nil
  | _, _, .cons q t => .cons (Od.more h q) (Ods.more h t)
end
mutual
theorem Od.less (h : ∀ b ∈ m', b ∈ m) : ∀ {x : V} {d : PyData}, Od K m H x d → Od K m' H x d
  | _, _, .non => .non
  | _, _, .bl b => .bl b
  | _, _, .int i => .int i
  | _, _, .str x => .str x
  | _, _, .tup q t => .tup q (Ods.less h t)
  | _, _, .lst q n b t => .lst q (fun z => n (h _ z)) b (Ods.less h t)
  | _, _, .dct q n b t u => .dct q (fun z => n (h _ z)) b (Ods.less h t) (Ods.less h u)
theorem Ods.less (h : ∀ b ∈ m', b ∈ m) : ∀ {xs : List V} {ds : List PyData}, Ods K m H xs ds → Ods K m' H xs ds
  | _, _, .nil => .nil
  | _, _, .cons q t => .cons (Od.less h q) (Ods.less h t)
end
end
theorem star_dict {ks : List (Option Expr)} {vs es : List Expr} {p : Pos} {env : Env} : starEach (.Dict ks vs p :: es) env = (false, eval (.Dict ks vs p) env) :: starEach es env := by rfl
structure DR where
  p : List Addr → L2.St → Hp → Prop
  mono : ∀ {m σ H H'}, Grow [] H H' → p m σ H → p m σ H'
  more : ∀ {a m σ H}, H a = none → p m σ H → p (a :: m) σ H
def DR.t : DR := ⟨fun _ _ _ => True, fun _ _ => trivial, fun _ _ => trivial⟩
def DR.and (a b : DR) : DR := ⟨fun m σ H => a.p m σ H ∧ b.p m σ H, fun g h => ⟨a.mono g h.1, b.mono g h.2⟩, fun g h => ⟨a.more g h.1, b.more g h.2⟩⟩
def tOd (K : PySem.W.Frag) (R : DR) (D : PyData) : TE := fun σ H Q => ∃ m, R.p m σ H ∧ (∀ b ∈ m, H b ≠ none) ∧ ∀ x H', Grow [] H H' → Od K m H' x D → Q x H'
def tOds (K : PySem.W.Frag) (R : DR) (Ds : List PyData) : TA := fun σ H Q => ∃ m, R.p m σ H ∧ (∀ b ∈ m, H b ≠ none) ∧ ∀ xs H', Grow [] H H' → Ods K m H' xs Ds → Q xs H'
theorem grow_none {H H' : Hp} {m : List Addr} (g : Grow [] H H') (h : ∀ b ∈ m, H b ≠ none) : ∀ b ∈ m, H' b ≠ none := fun b hb z => by
  cases e : H b with
  | none => exact h b hb e
  | some o => rw [g.keep b o (by simp) e] at z; cases z
section
variable {X : Cx} {K : PySem.W.Frag} {R R' : DR} {D : PyData} {Ds : List PyData} {e : Expr} {es : List Expr} {pos : Pos} {j}
theorem po_non : PE X (.Constant .none j pos) (tOd K .t .none) := fun pins s σ H Q I ⟨m, _, _, q⟩ => pe_non pins s σ H Q I (q _ _ (Grow.refl _ _) .non)
theorem po_bl {b : Bool} : PE X (.Constant (.bool b) j pos) (tOd K .t (.bool b)) := fun pins s σ H Q I ⟨m, _, _, q⟩ => pe_bl pins s σ H Q I (q _ _ (Grow.refl _ _) (.bl b))
theorem po_int {i : Int} : PE X (.Constant (.int i) j pos) (tOd K .t (.int i)) := fun pins s σ H Q I ⟨m, _, _, q⟩ => pe_int pins s σ H Q I (q _ _ (Grow.refl _ _) (.int i))
theorem po_neg {i : Int} {pos2 : Pos} : PE X (.UnaryOp .USub (.Constant (.int i) j pos) pos2) (tOd K .t (.int (-i))) := fun pins s σ H Q I ⟨m, _, _, q⟩ => pe_un un_neg pe_int pins s σ H Q I ⟨_, rfl, q _ _ (Grow.refl _ _) (.int (-i))⟩
theorem po_pow {i n : Int} {j2 : Nat} {p1 p2 : Pos} (h : CPow i n) : PE X (.BinOp (.Constant (.int i) j p1) .Pow (.Constant (.int n) j2 p2) pos) (tOd K .t (.int (i ^ n.toNat))) := fun pins s σ H Q I ⟨m, _, _, q⟩ => pe_op op_pow pe_int pe_int pins s σ H Q I ⟨_, _, rfl, rfl, h, q _ _ (Grow.refl _ _) (.int _)⟩
theorem po_str {x : Str} : PE X (.Constant (.str x) j pos) (tOd K .t (.str x)) := fun pins s σ H Q I ⟨m, _, _, q⟩ => pe_str pins s σ H Q I (q _ _ (Grow.refl _ _) (.str x))
theorem pos_nil : PA X [] (tOds K .t []) := fun pos pins s σ H Q I ⟨m, _, _, q⟩ => pa_nil pos pins s σ H Q I (q _ _ (Grow.refl _ _) .nil)
theorem pos_cons (h : PE X e (tOd K R D)) (t : PA X es (tOds K R' Ds)) (hs : starEach (e :: es) X.env = (false, eval e X.env) :: starEach es X.env := by rfl) : PA X (e :: es) (tOds K (.and R R') (D :: Ds)) := fun pos pins s σ H Q I ⟨m, ⟨r1, r2⟩, b, q⟩ =>
  pa_cons h t hs pos pins s σ H Q I ⟨m, r1, b, fun x H1 g1 o1 => ⟨m, R'.mono g1 r2, grow_none g1 b, fun xs H2 g2 o2 => q _ _ (g1.trans g2) (.cons (o1.grow (g2.mono (by simp))) o2)⟩⟩
theorem pos_consT (h : PE X e (tOd K .t D)) (t : PA X es (tOds K R' Ds)) (hs : starEach (e :: es) X.env = (false, eval e X.env) :: starEach es X.env := by rfl) : PA X (e :: es) (tOds K R' (D :: Ds)) := fun pos pins s σ H Q I ⟨m, r2, b, q⟩ =>
  pos_cons h t hs pos pins s σ H Q I ⟨m, ⟨trivial, r2⟩, b, q⟩
theorem po_tup {x1} (h : PA X es (tOds K R Ds)) (hl : Ds.length ≤ 1000 := by decide) : PE X (.Tuple es x1 pos) (tOd K R (.tuple Ds)) := fun pins s σ H Q I ⟨m, r, b, q⟩ =>
  pe_tup h pins s σ H Q I ⟨m, r, b, fun xs H' g o => ⟨by rw [o.length]; exact Nat.le_of_lt (small1000 hl), fun p hp =>
    have g2 := Grow.new (m := []) hp (.tup xs)
    q _ _ (g.trans g2) (.tup (SqT.of upd_same) (o.grow (g2.mono (by simp))))⟩⟩
def tLstB (t : TA) : TE := fun σ H Q => t σ H fun xs H1 => xs.length ≤ sizeLine ∧ ∀ p, H1 p = none → p ≠ sysModules → Q (.ref p) (upd H1 p (.lst xs))
theorem pe_lstB {t : TA} (h : PA X es t) : PE X (.List es pos) (tLstB t) := by
  intro pins s σ H Q I hq
  refine wpAny_List_spliced (thn (h pos pins s σ H _ I hq) fun us s1 ⟨xs, H1, I1, r, z, q⟩ => ⟨by rw [← r.length]; exact z, ?_⟩)
  have hf : H1 s1.heap.objs.size = none := I1.hok.fresh (Nat.le_refl _)
  refine ⟨.ref s1.heap.objs.size, upd H1 s1.heap.objs.size (.lst xs), I1.laid (t' := s1.toks) (fun b u e => Heap.get?_push_of_some _ e) (Nat.le_refl _) ?_, rfl, q _ hf (Nat.ne_of_gt (inv_big I1))⟩
  exact ⟨z, us, 0, r, Heap.get?_push_size _ rfl⟩
theorem notMem {m : List Addr} {H : Hp} {p : Addr} (b : ∀ b ∈ m, H b ≠ none) (h : H p = none) : p ∉ m := fun z => b p z h
theorem po_lst (h : PA X es (tOds K R Ds)) (hl : Ds.length ≤ 1000 := by decide) : PE X (.List es pos) (tOd K R (.list Ds)) := fun pins s σ H Q I ⟨m, r, b, q⟩ =>
  pe_lstB h pins s σ H Q I ⟨m, r, b, fun xs H' g o => ⟨by rw [o.length]; exact Nat.le_of_lt (small1000 hl), fun p hp hn =>
    have g2 := Grow.new (m := []) hp (.lst xs)
    q _ _ (g.trans g2) (.lst upd_same (notMem (grow_none g b) hp) hn (o.grow (g2.mono (by simp))))⟩⟩
theorem call_listB (hK : X.K = K) : CallR X (.type "list") (fun xs H Q => ∃ p ys, xs = [.ref p] ∧ (SqL K H p ys ∨ SqT K H p ys) ∧ ∀ l, H l = none → l ≠ sysModules → Q (.ref l) (upd H l (.lst ys))) := by
  subst hK
  intro pins s σ H xs us Q I r h
  obtain ⟨p, ys, rfl, hq, q⟩ := h
  obtain ⟨u, rfl, rx⟩ := vals1 r
  cases rx
  have fin : ∀ (its : List Value), Vals ys its → ys.length ≤ sizeLine → ∀ (h' : Heap) (c' : Nat), (∀ b o', s.heap.get? b = some o' → h'.get? b = some o') →
      h'.get? s.heap.objs.size = some { cls := .type "list", dict := none, data := .seq its.toArray c', slots := #[] } → EP X pins σ Q (.ref s.heap.objs.size) { s with heap := h' } := fun its r' hz h' c' kp e =>
    ⟨.ref s.heap.objs.size, _, I.laid (t' := s.toks) kp (Nat.le_refl _) (show ObjOk X.prog X.w _ h' _ (.lst ys) from ⟨hz, its, c', r', e⟩), rfl, q _ (I.hok.fresh (Nat.le_refl _)) (Nat.ne_of_gt (inv_big I))⟩
  rcases hq with hq | hq
  · obtain ⟨its, r', pl, hz⟩ := I.list hq
    have hlen := r'.length
    obtain ⟨o, ho, hc, n, hd⟩ := pl.isList
    exact call_list_seq p (.inl rfl) ho hc hd (fun h' c' kp e => fin its r' hz h' c' kp e) (by simp only [List.size_toArray] <;> omega)
  · obtain ⟨its, r', pl, hz⟩ := I.tuple hq
    have hlen := r'.length
    obtain ⟨o, ho, hc, n, hd⟩ := pl
    exact call_list_seq p (.inr rfl) ho hc hd (fun h' c' kp e => fin its r' hz h' c' kp e) (by simp only [List.size_toArray] <;> omega)
end
def KxR (p : OKey × V) (q : Value × Value) : Prop := RelV (okV p.1) q.1 ∧ RelV p.2 q.2
structure PO2 (X : Cx) (ks : List (Option Expr)) (vs : List Expr) (R : DR) (kds : List (OKey × PyData)) : Prop where
  run : ∀ (pos : Pos) (pins : List (Addr × Obj)) (s : Shared) (σ : L2.St) (H : Hp) (m : List Addr) (Q : List (Value × Value) → Shared → Prop), Inv X pins σ H s → R.p m σ H → (∀ b ∈ m, H b ≠ none) →
    (∀ r s' H' (kxs : List (OKey × V)), Inv X pins σ H' s' → Grow [] H H' → Paired KxR kxs r → kxs.map (·.1) = kds.map (·.1) → Ods X.K m H' (kxs.map (·.2)) (kds.map (·.2)) → Q r s') →
    wpAny (model X.prog X.w) X.A (evalPairs (pairTrees ks vs X.env pos)) Q X.xe s
section
variable {X : Cx} {K : PySem.W.Frag} {R R' : DR} {D : PyData} {e k : Expr} {ks : List (Option Expr)} {vs : List Expr} {kds : List (OKey × PyData)} {pos : Pos}
theorem po_dnil : PE X (.Dict [] [] pos) (tOd K .t (.dict [])) := by
  intro pins s σ H Q I ⟨m, _, hb, q⟩
  have hf : H s.heap.objs.size = none := I.hok.fresh (Nat.le_refl _)
  refine wpAny_Dict_empty ?_
  have I1 : Inv X pins σ (upd H s.heap.objs.size (DcO s.heap.objs.size [])) { s with heap := s.heap.push { cls := .type "dict", data := .dict #[] } } :=
    I.laid (t' := s.toks) (fun b u e => Heap.get?_push_of_some _ e) (Nat.le_refl _) ⟨⟨_, _, _, Heap.get?_push_size _ rfl, rfl, rfl, .nil, .nil⟩, ⟨_, Heap.get?_push_size _ rfl⟩, fun h1 h2 hφ hk => by
      obtain ⟨o', es', n', a1, a2⟩ := hφ
      exact ⟨o', es', n', hk _ a1, a2⟩⟩
  exact ⟨.ref s.heap.objs.size, _, I1, rfl, q _ _ (Grow.new hf _) (.dct (kvs := []) (ds := []) upd_same (notMem hb hf) (Nat.ne_of_gt (inv_big I)) .nil .nil)⟩
end
end L3

namespace L3
open PySem PySem.Spec PyProof.Rows L2
def tyD : PyData → String
  | .none => "NoneType"
  | .bool _ => "bool"
  | .int _ => "int"
  | .str _ => "str"
  | .list _ => "list"
  | .tuple _ => "tuple"
  | .dict _ => "dict"
def rIsiO (K : PySem.W.Frag) : List V → Hp → VK → Prop := fun xs H Q => ∃ x d m T k, xs = [x, .ty T] ∧ Od K m H x d ∧ PySem.W.kitOne K (.type (tyD d)) (.type T) = some k ∧ Q (.bl k) H
theorem call_isiO {X : Cx} {K : PySem.W.Frag} (hK : X.K = K) : CallR X (.builtin "isinstance") (rIsiO K) := by
  subst hK
  intro pins s σ H xs us Q I r h
  obtain ⟨x, d, m, T, k, rfl, hd, e, q⟩ := h
  cases hd with
  | non => exact call_isi pins s σ H _ us Q I r ⟨_, T, _, k, rfl, rfl, e, q⟩
  | bl b => exact call_isi pins s σ H _ us Q I r ⟨_, T, _, k, rfl, rfl, e, q⟩
  | int i => exact call_isi pins s σ H _ us Q I r ⟨_, T, _, k, rfl, rfl, e, q⟩
  | str y => exact call_isi pins s σ H _ us Q I r ⟨_, T, _, k, rfl, rfl, e, q⟩
  | tup hs _ => exact call_isi pins s σ H _ us Q I r ⟨_, T, _, k, rfl, .inl ⟨rfl, _, hs⟩, e, q⟩
  | lst hs _ _ _ => exact call_isi pins s σ H _ us Q I r ⟨_, T, _, k, rfl, .inr (.inl ⟨rfl, _, SqL.of hs⟩), e, q⟩
  | @dct a kvs ds hs _ _ _ _ =>
    obtain ⟨u, w', rfl, rx, rt⟩ := vals2 r
    cases (show w' = Value.type T from rt)
    cases (show u = Value.ref a from rx)
    obtain ⟨o, es, n, e1, e2, _⟩ := DcO.at I hs
    exact PySem.W.kia_one PySem.W.kitx_dict I.kIn ⟨o, e1, e2⟩ e (fun z => nomatch z) fun tk => ⟨.bl k, H, I.tok _, rfl, q⟩
def intD : PyData → Bool
  | .int _ => true
  | .bool _ => true
  | _ => false
def boolD : PyData → Bool
  | .bool _ => true
  | _ => false
def tupD : PyData → Bool
  | .tuple _ => true
  | _ => false
def wholeD : PyData → Bool
  | .int _ => true
  | _ => false
def endD : PyData → Bool
  | .none => true
  | .int _ => true
  | _ => false
theorem kit_int {K : PySem.W.Frag} : ∀ {d : PyData}, PySem.W.kitOne K (.type (tyD d)) (.type "int") = some (intD d)
  | .none => rfl
  | .bool _ => rfl
  | .int _ => rfl
  | .str _ => rfl
  | .list _ => rfl
  | .tuple _ => rfl
  | .dict _ => rfl
theorem kit_bool {K : PySem.W.Frag} : ∀ {d : PyData}, PySem.W.kitOne K (.type (tyD d)) (.type "bool") = some (boolD d)
  | .none => rfl
  | .bool _ => rfl
  | .int _ => rfl
  | .str _ => rfl
  | .list _ => rfl
  | .tuple _ => rfl
  | .dict _ => rfl
theorem kit_tup {K : PySem.W.Frag} : ∀ {d : PyData}, PySem.W.kitOne K (.type (tyD d)) (.type "tuple") = some (tupD d)
  | .none => rfl
  | .bool _ => rfl
  | .int _ => rfl
  | .str _ => rfl
  | .list _ => rfl
  | .tuple _ => rfl
  | .dict _ => rfl
theorem od_isN {K : PySem.W.Frag} {m : List Addr} {H : Hp} {x : V} {d : PyData} (h : Od K m H x d) : (x = .non ∧ d = .none) ∨ (x ≠ .non ∧ d ≠ .none) := by
  cases h with
  | non => exact .inl ⟨rfl, rfl⟩
  | _ => exact .inr ⟨(fun z => nomatch z), (fun z => nomatch z)⟩
def lowHi (a : Int) : PyData → PyData → Bool
  | .int x, .int y => decide (x < y) || (decide (x = y) && decide (a = 0))
  | _, _ => true
def deedP : PyData → Bool
  | .tuple [.int a, l, h] => endD l && endD h && lowHi a l h
  | _ => false
def sp_is_wholeO (K : PySem.W.Frag) : Sp := sp1 fun x H Q => ∃ d m, Od K m H x d ∧ Q (.bl (wholeD d)) H
def sp_is_endO (K : PySem.W.Frag) : Sp := sp1 fun x H Q => ∃ d m, Od K m H x d ∧ Q (.bl (endD d)) H
def sp_is_deedO (K : PySem.W.Frag) : Sp := sp1 fun x H Q => ∃ d m, Od K m H x d ∧ Q (.bl (deedP d)) H
end L3

namespace L3
open PySem PySem.Spec PyProof.Rows L2
mutual
def leD (B : Int) : PyData → Bool
  | .int i => decide (-B ≤ i) && decide (i ≤ B)
  | .list xs | .tuple xs => leDs B xs
  | .dict kvs => leDk B kvs
  | .none | .bool _ | .str _ => true
def leDs (B : Int) : List PyData → Bool
  | [] => true
  | x :: xs => leD B x && leDs B xs
def leDk (B : Int) : List (PyData × PyData) → Bool
  | [] => true
  | (k, v) :: r => leD B k && leD B v && leDk B r
end
mutual
def wtO : PyData → Nat
  | .list xs | .tuple xs => wtOs xs + 3
  | .dict kvs => wtOk kvs + 3
  | .int _ => 1921
  | .none | .bool _ => 5
  | .str x => (reprText x).length
def wtOs : List PyData → Nat
  | [] => 0
  | x :: xs => wtO x + 2 + wtOs xs
def wtOk : List (PyData × PyData) → Nat
  | [] => 0
  | (k, v) :: r => wtO k + wtO v + 4 + wtOk r
end
mutual
theorem leD_mono {B B' : Int} (h : B ≤ B') : ∀ {d : PyData}, leD B d = true → leD B' d = true
  | .int i, z => by
    simp only [leD, Bool.and_eq_true, decide_eq_true_eq] at z ⊢
    omega
  | .list xs, z => leDs_mono h (xs := xs) z
  | .tuple xs, z => leDs_mono h (xs := xs) z
  | .dict kvs, z => leDk_mono h (kvs := kvs) z
  | .none, _ => rfl
  | .bool _, _ => rfl
  | .str _, _ => rfl
theorem leDs_mono {B B' : Int} (h : B ≤ B') : ∀ {xs : List PyData}, leDs B xs = true → leDs B' xs = true
  | [], _ => rfl
  | x :: xs, z => by
    have z' := Bool.and_eq_true_iff.mp (show (leD B x && leDs B xs) = true from z)
    show (leD B' x && leDs B' xs) = true
    rw [leD_mono h z'.1, leDs_mono h z'.2]; rfl
theorem leDk_mono {B B' : Int} (h : B ≤ B') : ∀ {kvs : List (PyData × PyData)}, leDk B kvs = true → leDk B' kvs = true
  | [], _ => rfl
  | (k, v) :: r, z => by
    have z' := Bool.and_eq_true_iff.mp (show (leD B k && leD B v && leDk B r) = true from z)
    have z'' := Bool.and_eq_true_iff.mp z'.1
    show (leD B' k && leD B' v && leDk B' r) = true
    rw [leD_mono h z''.1, leD_mono h z''.2, leDk_mono h z'.2]; rfl
end
theorem leDs_iff {B : Int} : ∀ {xs : List PyData}, leDs B xs = true ↔ ∀ x ∈ xs, leD B x = true
  | [] => by simp [leDs]
  | x :: xs => by simp [leDs, leDs_iff (xs := xs)]
theorem wtOs_append : ∀ {xs ys : List PyData}, wtOs (xs ++ ys) = wtOs xs + wtOs ys
  | [], ys => by simp [wtOs]
  | x :: xs, ys => by
    show wtO x + 2 + wtOs (xs ++ ys) = wtO x + 2 + wtOs xs + wtOs ys
    rw [wtOs_append]; omega
theorem wtOs_take : ∀ {xs : List PyData} (n : Nat), wtOs (xs.take n) ≤ wtOs xs
  | _, 0 => Nat.zero_le _
  | [], _ + 1 => Nat.le_refl _
  | x :: xs, n + 1 => by
    show wtO x + 2 + wtOs (xs.take n) ≤ wtO x + 2 + wtOs xs
    have := wtOs_take (xs := xs) n
    omega
theorem wtOs_drop : ∀ {xs : List PyData} (n : Nat), wtOs (xs.drop n) ≤ wtOs xs
  | _, 0 => Nat.le_refl _
  | [], _ + 1 => Nat.le_refl _
  | x :: xs, n + 1 => by
    show wtOs (xs.drop n) ≤ wtO x + 2 + wtOs xs
    have := wtOs_drop (xs := xs) n
    omega
def Bg : Int := 2 ^ 1000
mutual
theorem showable_le {B : Int} (hB : B ≤ Bg) : ∀ {d : PyData}, leD B d = true → d.showable = true
  | .int i, z => by
    simp only [leD, Bool.and_eq_true, decide_eq_true_eq] at z
    have hb : Bg = 2 ^ 1000 := rfl
    show decide (i.natAbs.log2 < 1920) = true
    refine decide_eq_true ?_
    by_cases h0 : i.natAbs = 0
    · rw [h0]; decide
    · rw [Nat.log2_lt h0]
      have h1 : (i.natAbs : Int) ≤ Bg := by omega
      have h2 : i.natAbs ≤ 2 ^ 1000 := by rw [hb] at h1; exact_mod_cast h1
      exact Nat.lt_of_le_of_lt h2 (Nat.pow_lt_pow_right (by decide) (by decide))
  | .list xs, z => showableAll_le hB (xs := xs) z
  | .tuple xs, z => showableAll_le hB (xs := xs) z
  | .dict kvs, z => showableKv_le hB (kvs := kvs) z
  | .none, _ => rfl
  | .bool _, _ => rfl
  | .str _, _ => rfl
theorem showableAll_le {B : Int} (hB : B ≤ Bg) : ∀ {xs : List PyData}, leDs B xs = true → PyData.showableAll xs = true
  | [], _ => rfl
  | x :: xs, z => by
    have z' := Bool.and_eq_true_iff.mp (show (leD B x && leDs B xs) = true from z)
    show (x.showable && PyData.showableAll xs) = true
    rw [showable_le hB z'.1, showableAll_le hB z'.2]; rfl
theorem showableKv_le {B : Int} (hB : B ≤ Bg) : ∀ {kvs : List (PyData × PyData)}, leDk B kvs = true → PyData.showableKv kvs = true
  | [], _ => rfl
  | (k, v) :: r, z => by
    have z' := Bool.and_eq_true_iff.mp (show (leD B k && leD B v && leDk B r) = true from z)
    have z'' := Bool.and_eq_true_iff.mp z'.1
    show (k.showable && v.showable && PyData.showableKv r) = true
    rw [showable_le hB z''.1, showable_le hB z''.2, showableKv_le hB z'.2]; rfl
end
mutual
theorem shown_le : ∀ {d : PyData}, d.showable = true → d.shown.length ≤ wtO d
  | .none, _ => by decide
  | .bool b, _ => by cases b <;> decide
  | .int i, h => int_text_len_1921 (of_decide_eq_true h)
  | .str x, _ => Nat.le_refl _
  | .list xs, h => by
    have q := shown_les (xs := xs) h
    have l := listText_len_le (PyData.shownAll xs)
    show (listText (PyData.shownAll xs)).length ≤ wtOs xs + 3
    omega
  | .tuple xs, h => by
    have q := shown_les (xs := xs) h
    have l := tupleText_len_le (PyData.shownAll xs)
    show (tupleText (PyData.shownAll xs)).length ≤ wtOs xs + 3
    omega
  | .dict kvs, h => by
    have q := shown_lek (kvs := kvs) h
    have l := dictText_len_le (PyData.shownKv kvs)
    show (dictText (PyData.shownKv kvs)).length ≤ wtOk kvs + 3
    omega
theorem shown_les : ∀ {xs : List PyData}, PyData.showableAll xs = true → ((PyData.shownAll xs).map (·.length)).sum + 2 * (PyData.shownAll xs).length ≤ wtOs xs
  | [], _ => by decide
  | x :: xs, h => by
    have h' : (x.showable && PyData.showableAll xs) = true := h
    rw [Bool.and_eq_true] at h'
    have q1 := shown_le (d := x) h'.1
    have q2 := shown_les (xs := xs) h'.2
    show (((x.shown :: PyData.shownAll xs).map (·.length)).sum + 2 * (x.shown :: PyData.shownAll xs).length) ≤ wtO x + 2 + wtOs xs
    rw [List.map_cons, List.sum_cons, List.length_cons]
    omega
theorem shown_lek : ∀ {kvs : List (PyData × PyData)}, PyData.showableKv kvs = true → ((PyData.shownKv kvs).map (·.length)).sum + 2 * (PyData.shownKv kvs).length ≤ wtOk kvs
  | [], _ => by decide
  | (k, v) :: r, h => by
    have h' : (k.showable && v.showable && PyData.showableKv r) = true := h
    rw [Bool.and_eq_true, Bool.and_eq_true] at h'
    have q1 := shown_le (d := k) h'.1.1
    have q2 := shown_le (d := v) h'.1.2
    have q3 := shown_lek (kvs := r) h'.2
    have e : (k.shown ++ ": " ++ v.shown).length = k.shown.length + 2 + v.shown.length := by
      rw [strLen_append, strLen_append]; rfl
    show ((((k.shown ++ ": " ++ v.shown) :: PyData.shownKv r).map (·.length)).sum + 2 * ((k.shown ++ ": " ++ v.shown) :: PyData.shownKv r).length) ≤ wtO k + wtO v + 4 + wtOk r
    rw [List.map_cons, List.sum_cons, List.length_cons, e]
    omega
end

structure GdS (n k w : Nat) (ds : List PyData) : Prop where
  le : leDs (10 ^ 30 + n) ds = true
  dp : PyData.depthAll ds ≤ k
  wt : wtOs ds ≤ w
structure GdD (n k w : Nat) (d : PyData) : Prop where
  le : leD (10 ^ 30 + n) d = true
  dp : d.depth ≤ k
  wt : wtO d ≤ w
theorem leDs_append {B : Int} {a b : List PyData} (ha : leDs B a = true) (hb : leDs B b = true) : leDs B (a ++ b) = true := leDs_iff.mpr fun x hx => (List.mem_append.mp hx).elim (leDs_iff.mp ha x) (leDs_iff.mp hb x)
theorem depthAll_le {k : Nat} : ∀ {xs : List PyData}, PyData.depthAll xs ≤ k ↔ ∀ x ∈ xs, x.depth ≤ k
  | [] => by simp [PyData.depthAll]
  | x :: xs => by
    show max x.depth (PyData.depthAll xs) ≤ k ↔ _
    rw [Nat.max_le, depthAll_le (xs := xs)]
    simp
theorem GdS.append {n k w w' : Nat} {a b : List PyData} (ha : GdS n k w a) (hb : GdS n k w' b) : GdS n k (w + w') (a ++ b) :=
  ⟨leDs_append ha.le hb.le, depthAll_le.mpr fun x hx => (List.mem_append.mp hx).elim (depthAll_le.mp ha.dp x) (depthAll_le.mp hb.dp x), by rw [wtOs_append]; have := ha.wt; have := hb.wt; omega⟩
theorem GdS.sub {n k w : Nat} {a b : List PyData} (ha : GdS n k w a) (h : ∀ x ∈ b, x ∈ a) (hw : wtOs b ≤ wtOs a) : GdS n k w b :=
  ⟨leDs_iff.mpr fun x hx => leDs_iff.mp ha.le x (h x hx), depthAll_le.mpr fun x hx => depthAll_le.mp ha.dp x (h x hx), Nat.le_trans hw ha.wt⟩
theorem GdD.one {n k w : Nat} {d : PyData} (h : GdD n k w d) : GdS n k (w + 2) [d] := ⟨by show (leD _ d && true) = true; rw [h.le]; rfl, by show max d.depth 0 ≤ k; have := h.dp; omega, by show wtO d + 2 + 0 ≤ w + 2; have := h.wt; omega⟩
theorem GdS.tup {n k w : Nat} {ds : List PyData} (h : GdS n k w ds) : GdD n (k + 1) (w + 3) (.tuple ds) := ⟨h.le, Nat.succ_le_succ h.dp, Nat.add_le_add_right h.wt 3⟩
theorem GdS.lst {n k w : Nat} {ds : List PyData} (h : GdS n k w ds) : GdD n (k + 1) (w + 3) (.list ds) := ⟨h.le, Nat.succ_le_succ h.dp, Nat.add_le_add_right h.wt 3⟩
theorem GdS.mono {n n' k k' w w' : Nat} {ds : List PyData} (h : GdS n k w ds) (h1 : n ≤ n') (h2 : k ≤ k') (h3 : w ≤ w') : GdS n' k' w' ds := ⟨leDs_mono (by omega) h.le, Nat.le_trans h.dp h2, Nat.le_trans h.wt h3⟩
theorem GdD.mono {n n' k k' w w' : Nat} {d : PyData} (h : GdD n k w d) (h1 : n ≤ n') (h2 : k ≤ k') (h3 : w ≤ w') : GdD n' k' w' d := ⟨leD_mono (by omega) h.le, Nat.le_trans h.dp h2, Nat.le_trans h.wt h3⟩
theorem Bg_le {n : Nat} (h : n ≤ 1000000) : (10 : Int) ^ 30 + n ≤ Bg := by
  have h1 : (10 : Int) ^ 30 + 1000000 ≤ Bg := by decide +kernel
  omega
def cutD (xs : List PyData) (lo hi : Option Int) : List PyData := (xs.drop (HT.sIx xs.length 0 lo)).take (HT.sIx xs.length xs.length hi - HT.sIx xs.length 0 lo)
theorem Ods.cut {K : PySem.W.Frag} {m : List Addr} {H : Hp} {xs : List V} {ds : List PyData} {lo hi : Option Int} (h : Ods K m H xs ds) : Ods K m H (cutV xs lo hi) (cutD ds lo hi) := by
  unfold cutV cutD
  rw [h.length]
  exact (h.drop _).take _
theorem GdS.cut {n k w : Nat} {ds : List PyData} {lo hi : Option Int} (h : GdS n k w ds) : GdS n k w (cutD ds lo hi) := by
  unfold cutD
  exact h.sub (fun x hx => List.mem_of_mem_drop (List.mem_of_mem_take hx)) (Nat.le_trans (wtOs_take _) (wtOs_drop _))
theorem num_gd {i : Int} {n : Nat} (h1 : -(10 ^ 30) - n ≤ i) (h2 : i ≤ 10 ^ 30 + n) : GdD n 0 1921 (.int i) := ⟨by show (decide (-(10 ^ 30 + (n : Int)) ≤ i) && decide (i ≤ 10 ^ 30 + (n : Int))) = true; rw [decide_eq_true (by omega), decide_eq_true h2]; rfl, Nat.le_refl _, Nat.le_refl _⟩
theorem deed_shape {d : PyData} (h : deedP d = true) : ∃ a l u, d = .tuple [.int a, l, u] ∧ endD l = true ∧ endD u = true ∧ lowHi a l u = true := by
  unfold deedP at h
  split at h
  · rename_i a l u
    simp only [Bool.and_eq_true] at h
    exact ⟨a, l, u, rfl, h.1.1, h.1.2, h.2⟩
  · cases h
end L3
namespace L3
open PySem PySem.Spec PyProof.Rows L2
section
variable {K : PySem.W.Frag} {m : List Addr} {H : Hp} {x : V}
theorem Od.inv_lst {ds : List PyData} (h : Od K m H x (.list ds)) : ∃ a xs, x = .ref a ∧ H a = some (.lst xs) ∧ a ∉ m ∧ a ≠ sysModules ∧ Ods K m H xs ds := by
  cases h with
  | lst h1 h2 h3 h4 => exact ⟨_, _, rfl, h1, h2, h3, h4⟩
theorem Od.inv_tup {ds : List PyData} (h : Od K m H x (.tuple ds)) : ∃ a xs, x = .ref a ∧ SqT K H a xs ∧ Ods K m H xs ds := by
  cases h with
  | tup h1 h2 => exact ⟨_, _, rfl, h1, h2⟩
theorem Od.inv_int {i : Int} (h : Od K m H x (.int i)) : x = .int i := by cases h; rfl
theorem Od.inv_non (h : Od K m H x .none) : x = .non := by cases h; rfl
theorem Ods.inv1 {xs : List V} {d : PyData} (h : Ods K m H xs [d]) : ∃ x, xs = [x] ∧ Od K m H x d := by
  cases h with
  | cons h t => cases t; exact ⟨_, rfl, h⟩
theorem Ods.inv3 {xs : List V} {d e f : PyData} (h : Ods K m H xs [d, e, f]) : ∃ x y z, xs = [x, y, z] ∧ Od K m H x d ∧ Od K m H y e ∧ Od K m H z f := by
  cases h with
  | cons h t =>
    cases t with
    | cons h2 t =>
      obtain ⟨z, rfl, hz⟩ := Ods.inv1 t
      exact ⟨_, _, _, rfl, h, h2, hz⟩
theorem tup_not {d : PyData} (h : tupD d = false) : deedP d = false := by
  cases d with
  | tuple _ => cases h
  | _ => rfl
theorem deedP_len {ds : List PyData} (h : ds.length ≠ 3) : deedP (.tuple ds) = false := by
  cases e : deedP (.tuple ds) with
  | false => rfl
  | true => obtain ⟨a, l, u, e2, _⟩ := deed_shape e; cases e2; exact absurd rfl h
theorem deedP_nw {a l u : PyData} (h : wholeD a = false) : deedP (.tuple [a, l, u]) = false := by
  cases a with
  | int _ => cases h
  | _ => rfl
theorem deedP_int {a : Int} {l u : PyData} : deedP (.tuple [.int a, l, u]) = (endD l && endD u && lowHi a l u) := rfl
end
end L3
namespace L3
open PySem PySem.Spec PyProof.Rows L2
end L3

namespace L3
open PySem PySem.Spec PyProof.Rows L2
structure Call72 where
  hand : Int
  box : Int
  deed : Deed
  begun : Int
  ended : Int
  answer : Int
instance : Inhabited Call72 := ⟨⟨0, 0, ⟨0, none, none⟩, 0, 0, 0⟩⟩
def Call72.vs (c : Call72) (rd : Addr) : List V := [.int c.hand, .int c.box, .ref rd, .int c.begun, .int c.ended, .int c.answer]
def CallAt72 (K : PySem.W.Frag) (H : Hp) (x : V) (c : Call72) : Prop := ∃ r rd, x = .ref r ∧ SqT K H r (c.vs rd) ∧ SqT K H rd c.deed.vs
def CallsAt72 (K : PySem.W.Frag) (H : Hp) (x : V) (cs : List Call72) : Prop := ∃ r xs, x = .ref r ∧ SqT K H r xs ∧ AllR (CallAt72 K H) xs cs
theorem Grow.call72 {m : List Addr} {H H' : Hp} (g : Grow m H H') {K : PySem.W.Frag} {x : V} {c : Call72} (h : CallAt72 K H x c) : CallAt72 K H' x c := by
  obtain ⟨r, rd, e, h1, h2⟩ := h
  exact ⟨r, rd, e, g.sqT h1, g.sqT h2⟩
theorem Grow.callsR {m : List Addr} {H H' : Hp} (g : Grow m H H') {K : PySem.W.Frag} {xs : List V} {cs : List Call72} (h : AllR (CallAt72 K H) xs cs) : AllR (CallAt72 K H') xs cs := h.imp fun _ _ z => g.call72 z
theorem Grow.calls72 {m : List Addr} {H H' : Hp} (g : Grow m H H') {K : PySem.W.Frag} {x : V} {cs : List Call72} (h : CallsAt72 K H x cs) : CallsAt72 K H' x cs := by
  obtain ⟨r, xs, e, h1, h2⟩ := h
  exact ⟨r, xs, e, g.sqT h1, g.callsR h2⟩
structure CallOk72 (m : Nat) (c : Call72) : Prop where
  h0 : 0 ≤ c.hand
  h1 : c.hand ≤ 15
  b0 : 0 ≤ c.box
  b1 : c.box < m
  d : c.deed.Ok
  t0 : 0 ≤ c.begun
  t1 : c.begun ≤ c.ended
def cnt72 (b : Int) (cs : List Call72) : Nat := cs.countP fun c => decide (c.box = b)
structure Calls72 (m : Nat) (cs : List Call72) : Prop where
  len : cs.length ≤ 40
  ok : ∀ c ∈ cs, CallOk72 m c
  few : ∀ b : Int, cnt72 b cs ≤ 8
theorem getD_set72 {α : Type} {l : List α} {j : Nat} {x d : α} (h : j < l.length) : (l.set j x).getD j d = x := by rw [List.getD_eq_getElem?_getD, List.getElem?_set_self h]; rfl
theorem getD_setne72 {α : Type} {l : List α} {i j : Nat} {x d : α} (h : i ≠ j) : (l.set i x).getD j d = l.getD j d := by rw [List.getD_eq_getElem?_getD, List.getD_eq_getElem?_getD, List.getElem?_set_ne h]
def NumsT (K : PySem.W.Frag) (H : Hp) (x : V) (ns : List Nat) : Prop := ∃ r, x = .ref r ∧ SqT K H r (natsV ns)
theorem natsV_at72 {ns : List Nat} {i : Nat} {x : V} (h : (natsV ns)[i]? = some x) : ∃ k, ns[i]? = some k ∧ x = .int k := by
  unfold natsV at h
  rw [List.getElem?_map] at h
  obtain ⟨k, hk, e⟩ := Option.map_eq_some_iff.mp h
  exact ⟨k, hk, e.symm⟩
theorem drop_at72 {ns : List Nat} {i k : Nat} (h : ns[i]? = some k) : ns.drop i = k :: ns.drop (i + 1) := by
  obtain ⟨hlt, e⟩ := List.getElem?_eq_some_iff.mp h
  rw [List.drop_eq_getElem_cons hlt, e]
theorem NumsT.grow {K : PySem.W.Frag} {H H' : Hp} {x : V} {ns : List Nat} {m : List Addr} (h : NumsT K H x ns) (g : Grow m H H') : NumsT K H' x ns := by
  obtain ⟨r, e, s⟩ := h
  exact ⟨r, e, g.sqT s⟩
section
variable {K : PySem.W.Frag} {a : Addr} {xs : List V} {k : Nat} {te : TE} {Q : VK} {σ : L2.St} {H : Hp}
theorem comp_tupP72 (Pv : Nat → List V → Hp → Prop) (h0 : Pv 0 [] H) (hl : ∀ i ys H', Pv i ys H' → SqT K H' a xs)
    (hs : ∀ i x ys H', xs[i]? = some x → Pv i ys H' → te (σ.set k (some x)) H' fun y H5 => ys.length < sizeLine ∧ Pv (i + 1) (ys ++ [y]) H5)
    (hd : ∀ ys H', Pv xs.length ys H' → ∀ l, H' l = none → Q (.ref l) (upd H' l (.lst ys))) : CompW (Itt K a) σ H (gName k) tTrue te Q :=
  comp_tupPT (fun _ => true) Pv h0 hl (fun _ _ _ _ h => h) (fun i x ys H' hx p _ => hs i x ys H' hx p) (fun _ _ _ _ _ _ z => nomatch z) hd
end
theorem lt72 {n : Nat} (h : n ≤ 5000) : n < sizeLine := Nat.lt_of_le_of_lt h (by decide)
theorem le72 {n : Nat} (h : n ≤ 5000) : n ≤ sizeLine := Nat.le_trans h (by decide)
theorem Grow.shrinkL {H H' : Hp} {m : List Addr} (h : ∀ a ∈ m, H a = none) (g : Grow m H H') : Grow [] H H' :=
  ⟨fun b o _ q => g.keep b o (fun z => by rw [h b z] at q; cases q) q, g.tup, g.frz⟩
theorem cnt_snoc {b : Int} {cs : List Call72} {c : Call72} : cnt72 b (cs ++ [c]) = cnt72 b cs + (if c.box = b then 1 else 0) := by
  unfold cnt72
  rw [List.countP_append, List.countP_cons, List.countP_nil]
  by_cases h : c.box = b
  · rw [if_pos h, decide_eq_true h]; rfl
  · rw [if_neg h, decide_eq_false h]; rfl
theorem cnt_take {b : Int} {cs : List Call72} {i : Nat} : cnt72 b (cs.take i) ≤ cnt72 b cs := List.Sublist.countP_le (List.take_sublist i cs)
def BoxLs (H : Hp) (zs : List V) (nss : List (List Nat)) : Prop := AllR (fun z ns => ∃ a, z = .ref a ∧ H a = some (.lst (natsV ns))) zs nss
structure Bx72 (H : Hp) (as : List Addr) (nss : List (List Nat)) : Prop where
  len : nss.length = as.length
  at_ : ∀ (j : Nat) (a : Addr), as[j]? = some a → H a = some (.lst (natsV (nss.getD j [])))
theorem Bx72.ls {H : Hp} {as : List Addr} {nss : List (List Nat)} (h : Bx72 H as nss) : BoxLs H (as.map V.ref) nss := by
  refine AllR.of_get (by rw [List.length_map, h.len]) fun i x hx => ?_
  rw [List.getElem?_map] at hx
  obtain ⟨a, ha, rfl⟩ := Option.map_eq_some_iff.mp hx
  have hi : i < nss.length := by rw [h.len]; exact (List.getElem?_eq_some_iff.mp ha).1
  refine ⟨nss[i], List.getElem?_eq_getElem hi, a, rfl, ?_⟩
  rw [h.at_ i a ha, List.getD_eq_getElem?_getD, List.getElem?_eq_getElem hi]; rfl
def isT72 : PyData → Bool
  | .tuple _ => true
  | _ => false
theorem kit_tup72 {K : PySem.W.Frag} (d : PyData) : PySem.W.kitOne K (.type (tyD d)) (.type "tuple") = some (isT72 d) := by cases d <;> rfl
theorem od_tup72 {K : PySem.W.Frag} {m : List Addr} {H : Hp} {x : V} {d : PyData} (h : Od K m H x d) (ht : isT72 d = true) : ∃ r xs ds, x = .ref r ∧ d = .tuple ds ∧ SqT K H r xs ∧ Ods K m H xs ds := by
  cases h <;> first | exact ⟨_, _, _, rfl, rfl, by assumption, by assumption⟩ | cases ht
def sp_truth72 (_ : PySem.W.Frag) : Sp := sp2 fun x y H Q => ∃ b c : Bool, x = .bl b ∧ y = .bl c ∧ Q (.bl (b == c)) H
theorem pot_ne72 {H : Hp} {p r : Addr} (pp : Pot H p) (h : H r = none) : r ∉ [p] := fun z => by
  rw [List.mem_singleton.mp z] at h
  obtain ⟨_, _, e, _⟩ := pp
  rw [e] at h; cases h
def sp_at72 (K : PySem.W.Frag) : Sp := sp2 fun x y H Q => ∃ a ns k, x = .ref a ∧ y = .int k ∧ Scr K H a ns ∧ 0 ≤ k ∧ ∀ n : Int, (n = 0 ∨ n ∈ ns) → Q (.int n) H
def N27 (n : Int) : Prop := -(10 ^ 27) ≤ n ∧ n ≤ 10 ^ 27
def sp_num72 (_ : PySem.W.Frag) : Sp := sp2 fun x y H Q => ∃ (p : Addr) (b : Bool), x = .ref p ∧ y = .bl b ∧ Pot H p ∧ ∀ n H', N27 n → Grow [p] H H' → Pot H' p → Q (.int n) H'
def sp_deed72 (K : PySem.W.Frag) : Sp := sp2 fun x y H Q => ∃ (p : Addr) (b : Bool), x = .ref p ∧ y = .bl b ∧ Pot H p ∧ ∀ d v H', d.Ok → d.Bd (10 ^ 27 + 6) → Grow [p] H H' → Pot H' p → DeedAt K H' v d → Q v H'
end L3

namespace L3
open PySem PySem.Spec PyProof.Rows L2
def kc72 : List Call72 → Bool
  | [] => true
  | c :: r => !(r.any fun e => decide (e.ended < c.begun)) && kc72 r
def pl72 : List Int → List Call72 → Option (List Int)
  | vs, [] => some vs
  | vs, c :: r => if vs.getD c.box.toNat 0 = c.answer then pl72 (vs.set c.box.toNat (c.deed.mk' c.answer)) r else none
theorem kc_snoc {c : Call72} : ∀ {cs : List Call72}, kc72 cs = true → (∀ e ∈ cs, e.begun ≤ c.ended) → kc72 (cs ++ [c]) = true
  | [], _, _ => rfl
  | e :: r, h, hb => by
    have h' : (!(r.any fun x => decide (x.ended < e.begun)) && kc72 r) = true := h
    rw [Bool.and_eq_true, Bool.not_eq_true'] at h'
    show (!((r ++ [c]).any fun x => decide (x.ended < e.begun)) && kc72 (r ++ [c])) = true
    rw [List.any_append, h'.1, kc_snoc h'.2 fun x hx => hb x (List.mem_cons_of_mem _ hx)]
    have := hb e (List.mem_cons_self ..)
    rw [List.any_cons, decide_eq_false (by omega)]; rfl
theorem pl_snoc {c : Call72} : ∀ {cs : List Call72} {vs ws : List Int}, pl72 vs cs = some ws → ws.getD c.box.toNat 0 = c.answer → pl72 vs (cs ++ [c]) = some (ws.set c.box.toNat (c.deed.mk' c.answer))
  | [], vs, ws, h, ha => by
    cases h
    show (if vs.getD c.box.toNat 0 = c.answer then _ else none) = _
    rw [if_pos ha]; rfl
  | e :: r, vs, ws, h, ha => by
    have h' : (if vs.getD e.box.toNat 0 = e.answer then pl72 (vs.set e.box.toNat (e.deed.mk' e.answer)) r else none) = some ws := h
    show (if vs.getD e.box.toNat 0 = e.answer then pl72 (vs.set e.box.toNat (e.deed.mk' e.answer)) (r ++ [c]) else none) = _
    by_cases hv : vs.getD e.box.toNat 0 = e.answer
    · rw [if_pos hv] at h' ⊢
      exact pl_snoc h' ha
    · rw [if_neg hv] at h'; cases h'
structure Cb72 (B : Int) (c : Call72) : Prop where
  hand : -B ≤ c.hand ∧ c.hand ≤ B
  box : -B ≤ c.box ∧ c.box ≤ B
  deed : c.deed.Bd B
  begun : -B ≤ c.begun ∧ c.begun ≤ B
  ended : -B ≤ c.ended ∧ c.ended ≤ B
  answer : -B ≤ c.answer ∧ c.answer ≤ B
structure Hist72 (n : Nat) (b : List Int) (cs : List Call72) : Prop where
  bl : b.length = n
  bb : ∀ v ∈ b, N27 v
  ok : Calls72 n cs
  bd : ∀ c ∈ cs, Cb72 (10 ^ 29) c
  kc : kc72 cs = true
  pl : (pl72 b cs).isSome = true
theorem sum_rep (n : Nat) : (List.replicate n 8).sum = 8 * n := by
  induction n with
  | zero => rfl
  | succ n ih => rw [List.replicate_succ, List.sum_cons, ih]; omega
theorem sum_set : ∀ {l : List Nat} {j x : Nat}, l[j]? = some x → 0 < x → (l.set j (x - 1)).sum + 1 = l.sum
  | [], _, _, h, _ => by cases h
  | a :: l, 0, x, h, h0 => by
    have e : a = x := Option.some.inj h
    subst e
    show a - 1 + l.sum + 1 = a + l.sum
    omega
  | a :: l, j + 1, x, h, h0 => by
    have := sum_set (l := l) (j := j) h h0
    show a + (l.set j (x - 1)).sum + 1 = a + l.sum
    omega
structure HI72 (n i : Nat) (b vs : List Int) (rs : List Nat) (cs : List Call72) (mo sc : Int) : Prop where
  vl : vs.length = n
  rl : rs.length = n
  cl : cs.length = i
  pl : pl72 b cs = some vs
  kc : kc72 cs = true
  ok : ∀ c ∈ cs, CallOk72 n c
  rm : ∀ j, j < n → rs.getD j 0 + cnt72 j cs = 8
  sm : rs.sum + i = 8 * n
  vb : ∀ v ∈ vs, -(10 ^ 27 + i * (10 ^ 27 + 6)) ≤ v ∧ v ≤ 10 ^ 27 + i * (10 ^ 27 + 6)
  bd : ∀ c ∈ cs, Cb72 (10 ^ 29) c
  m0 : 0 ≤ mo
  m1 : mo ≤ 2 * i
  bg : ∀ c ∈ cs, c.begun ≤ mo * sc
theorem HI72.start {n : Nat} {b : List Int} {sc : Int} (bl : b.length = n) (bb : ∀ v ∈ b, N27 v) : HI72 n 0 b b (List.replicate n 8) [] 0 sc := by
  refine ⟨bl, List.length_replicate, rfl, rfl, rfl, (fun _ h => nomatch h), fun j hj => ?_, (by rw [sum_rep]; rfl), fun v hv => ?_, (fun _ h => nomatch h), (by decide), (by decide), (fun _ h => nomatch h)⟩
  · rw [List.getD_eq_getElem?_getD, List.getElem?_replicate, if_pos hj]; rfl
  · have := bb v hv
    unfold N27 at this
    omega
theorem HI72.next {n i : Nat} {b vs : List Int} {rs : List Nat} {cs : List Call72} {mo sc : Int} (h : HI72 n i b vs rs cs mo sc) {bx x : Nat} {t ha be en : Int} {d : Deed} (i40 : i < 40) (n6 : n ≤ 6)
    (hx : rs[bx]? = some x) (x0 : 0 < x) (t0 : 0 ≤ t) (t1 : t ≤ 2) (s0 : 1 ≤ sc) (s1 : sc ≤ 10 ^ 24 + 7) (h0 : 0 ≤ ha) (h1 : ha ≤ 15) (od : d.Ok) (bd : d.Bd (10 ^ 27 + 6)) (e0 : 0 ≤ be) (e1 : be ≤ (mo + t) * sc) (e2 : (mo + t) * sc ≤ en) (e3 : en ≤ (mo + t + 3) * sc) :
    HI72 n (i + 1) b (vs.set bx (d.mk' (vs.getD bx 0))) (rs.set bx (x - 1)) (cs ++ [⟨ha, bx, d, be, en, vs.getD bx 0⟩]) (mo + t) sc := by
  have hbx : bx < n := by rw [← h.rl]; exact (List.getElem?_eq_some_iff.mp hx).1
  have hv : vs.getD bx 0 ∈ vs := by
    have hb : bx < vs.length := by rw [h.vl]; exact hbx
    rw [List.getD_eq_getElem?_getD, List.getElem?_eq_getElem hb]; exact List.getElem_mem hb
  have vb := h.vb _ hv
  have mm : mo * sc ≤ (mo + t) * sc := Int.mul_le_mul_of_nonneg_right (by omega) (by omega)
  have m1 := h.m1
  have m0 := h.m0
  have big : (mo + t + 3) * sc ≤ 10 ^ 27 := by
    have : (mo + t + 3) * sc ≤ 90 * (10 ^ 24 + 7) := Int.mul_le_mul (by omega) s1 (by omega) (by decide)
    exact Int.le_trans this (by decide)
  have C0 : (0 : Int) ≤ 10 ^ 27 + i * (10 ^ 27 + 6) := by omega
  have mk := mk_bd bd (by decide) vb.1 vb.2 C0
  have nb : (⟨ha, bx, d, be, en, vs.getD bx 0⟩ : Call72).box.toNat = bx := Int.toNat_natCast bx
  refine ⟨by rw [List.length_set, h.vl], by rw [List.length_set, h.rl], by rw [List.length_append, List.length_singleton, h.cl], ?_, ?_, ?_, ?_, ?_, ?_, ?_, by omega, by omega, ?_⟩
  · have := pl_snoc (c := ⟨ha, bx, d, be, en, vs.getD bx 0⟩) h.pl (by rw [nb])
    rw [this, nb]
  · exact kc_snoc h.kc fun e he => by have := h.bg e he; show e.begun ≤ en; omega
  · intro c hc
    rcases List.mem_append.mp hc with hc | hc
    · exact h.ok c hc
    · rw [List.mem_singleton.mp hc]
      exact ⟨h0, h1, Int.natCast_nonneg bx, by show (bx : Int) < n; omega, od, e0, by show be ≤ en; omega⟩
  · intro j hj
    rw [cnt_snoc]
    have r := h.rm j hj
    by_cases e : j = bx
    · subst e
      rw [getD_set72 (by rw [h.rl]; exact hj), if_pos rfl]
      rw [List.getD_eq_getElem?_getD, hx] at r
      have : x + cnt72 j cs = 8 := r
      omega
    · rw [getD_setne72 (fun z => e z.symm), if_neg (by show ¬ (bx : Int) = j; omega)]
      exact r
  · have := sum_set hx x0
    have := h.sm
    omega
  · intro v hv'
    rcases List.mem_or_eq_of_mem_set hv' with hv' | rfl
    · have := h.vb v hv'
      push_cast at this ⊢
      omega
    · push_cast
      omega
  · intro c hc
    rcases List.mem_append.mp hc with hc | hc
    · exact h.bd c hc
    · rw [List.mem_singleton.mp hc]
      refine ⟨?_, ?_, ?_, ?_, ?_, ?_⟩
      · show -(10 ^ 29) ≤ ha ∧ ha ≤ 10 ^ 29; omega
      · show -(10 ^ 29) ≤ (bx : Int) ∧ (bx : Int) ≤ 10 ^ 29; omega
      · exact bd.mono (by decide)
      · show -(10 ^ 29) ≤ be ∧ be ≤ 10 ^ 29; omega
      · show -(10 ^ 29) ≤ en ∧ en ≤ 10 ^ 29; omega
      · show -(10 ^ 29) ≤ vs.getD bx 0 ∧ vs.getD bx 0 ≤ 10 ^ 29; omega
  · intro c hc
    rcases List.mem_append.mp hc with hc | hc
    · have := h.bg c hc; omega
    · rw [List.mem_singleton.mp hc]; exact e1
theorem Cb72.mono {B C : Int} {c : Call72} (h : Cb72 B c) (hB : B ≤ C) : Cb72 C c := ⟨by have := h.hand; omega, by have := h.box; omega, h.deed.mono hB, by have := h.begun; omega, by have := h.ended; omega, by have := h.answer; omega⟩
theorem op_eqNilT72 {X : Cx} {K : PySem.W.Frag} {k : Nat} (hK : X.K = K) (hr : Room k X.A) : OpR X (compareOp .Eq) (fun x y H Q => ∃ a b xs, x = .ref a ∧ y = .ref b ∧ SqT K H a xs ∧ SqT K H b [] ∧ Q (.bl xs.isEmpty) H) := by
  subst hK
  intro pins s σ H x y v u Q I rx ry h
  obtain ⟨a, b, xs, rfl, rfl, ha, hb, q⟩ := h
  cases rx; cases ry
  obtain ⟨us, r1, t1, _⟩ := I.tuple ha
  obtain ⟨ws, r2, t2, _⟩ := I.tuple hb
  have hw : ws.length = 0 := r2.length.symm
  refine SeqAt.eq_tupleAt (e := fun _ => true) (isTuple_of t1) (isTuple_of t2) hr.units0 (fun j h1 h2 => absurd h2 (by simp; omega)) ?_
  have e : ((List.range (min us.toArray.size ws.toArray.size)).all (fun _ => true) && us.toArray.size == ws.toArray.size) = xs.isEmpty := by
    rw [List.size_toArray, List.size_toArray, hw, ← r1.length]
    cases xs with
    | nil => rfl
    | cons a r => simp
  rw [e]
  exact ⟨.bl _, H, I, rfl, q⟩
def callD (c : Call72) : PyData := .tuple [.int c.hand, .int c.box, deedD c.deed, .int c.begun, .int c.ended, .int c.answer]
theorem od_board72 {K : PySem.W.Frag} {m : List Addr} {H : Hp} {x : V} {b : List Int} (h : BoardAt K H x b) : Od K m H x (.tuple (b.map PyData.int)) := by
  obtain ⟨r, rfl, hs⟩ := h
  refine .tup hs ?_
  clear hs
  induction b with
  | nil => exact .nil
  | cons a b ih => exact .cons (.int a) ih
theorem od_oD72 {K : PySem.W.Frag} {m : List Addr} {H : Hp} : ∀ {o : Option Int}, Od K m H (ov o) (oD o)
  | none => .non
  | some _ => .int _
theorem od_call72 {K : PySem.W.Frag} {m : List Addr} {H : Hp} {x : V} {c : Call72} (h : CallAt72 K H x c) : Od K m H x (callD c) := by
  obtain ⟨r, rd, rfl, h1, h2⟩ := h
  exact .tup h1 (.cons (.int _) (.cons (.int _) (.cons (.tup h2 (.cons (.int _) (.cons od_oD72 (.cons od_oD72 .nil)))) (.cons (.int _) (.cons (.int _) (.cons (.int _) .nil))))))
theorem ods_calls72 {K : PySem.W.Frag} {m : List Addr} {H : Hp} : ∀ {xs : List V} {cs : List Call72}, AllR (CallAt72 K H) xs cs → Ods K m H xs (cs.map callD)
  | [], [], _ => .nil
  | [], _ :: _, h => h.elim
  | _ :: _, [], h => h.elim
  | _ :: _, _ :: _, h => .cons (od_call72 h.1) (ods_calls72 h.2)
theorem od_calls72 {K : PySem.W.Frag} {m : List Addr} {H : Hp} {x : V} {cs : List Call72} (h : CallsAt72 K H x cs) : Od K m H x (.tuple (cs.map callD)) := by
  obtain ⟨r, xs, rfl, h1, h2⟩ := h
  exact .tup h1 (ods_calls72 h2)
theorem wt_le72 {w : Nat} : ∀ {ds : List PyData}, (∀ d ∈ ds, wtO d ≤ w) → wtOs ds ≤ ds.length * (w + 2)
  | [], _ => by simp [wtOs]
  | d :: ds, h => by
    have h1 := h d (List.mem_cons_self ..)
    have h2 := wt_le72 (ds := ds) fun e he => h e (List.mem_cons_of_mem _ he)
    show wtO d + 2 + wtOs ds ≤ (ds.length + 1) * (w + 2)
    rw [Nat.succ_mul]; omega
theorem le_int72 {B : Int} {i : Int} (h : -B ≤ i ∧ i ≤ B) : leD B (.int i) = true := by
  show (decide (-B ≤ i) && decide (i ≤ B)) = true
  rw [decide_eq_true h.1, decide_eq_true h.2]; rfl
theorem le_oD72 {B : Int} {o : Option Int} (h : ∀ l, o = some l → -B ≤ l ∧ l ≤ B) : leD B (oD o) = true := by
  cases o with
  | none => rfl
  | some l => exact le_int72 (h l rfl)
theorem le_call72 {B : Int} {c : Call72} (h : Cb72 B c) : leD B (callD c) = true := by
  show leDs B [.int c.hand, .int c.box, deedD c.deed, .int c.begun, .int c.ended, .int c.answer] = true
  have e : leD B (deedD c.deed) = true := by
    show leDs B [.int c.deed.add, oD c.deed.lo, oD c.deed.hi] = true
    rw [leDs_iff]
    intro x hx
    rcases List.mem_cons.mp hx with rfl | hx
    · exact le_int72 h.deed.1
    rcases List.mem_cons.mp hx with rfl | hx
    · exact le_oD72 h.deed.2.1
    rw [List.mem_singleton.mp hx]; exact le_oD72 h.deed.2.2
  rw [leDs_iff]
  intro x hx
  rcases List.mem_cons.mp hx with rfl | hx
  · exact le_int72 h.hand
  rcases List.mem_cons.mp hx with rfl | hx
  · exact le_int72 h.box
  rcases List.mem_cons.mp hx with rfl | hx
  · exact e
  rcases List.mem_cons.mp hx with rfl | hx
  · exact le_int72 h.begun
  rcases List.mem_cons.mp hx with rfl | hx
  · exact le_int72 h.ended
  rw [List.mem_singleton.mp hx]; exact le_int72 h.answer
theorem dp_oD72 (o : Option Int) : (oD o).depth = 0 := by cases o <;> rfl
theorem wt_oD72 : ∀ o : Option Int, wtO (oD o) ≤ 1921
  | none => by decide
  | some _ => Nat.le_refl _
theorem dp_call72 (c : Call72) : (callD c).depth ≤ 2 := by
  show (PyData.tuple [.int c.hand, .int c.box, deedD c.deed, .int c.begun, .int c.ended, .int c.answer]).depth ≤ 2
  have e : (deedD c.deed).depth ≤ 1 := by
    show PyData.depthAll [.int c.deed.add, oD c.deed.lo, oD c.deed.hi] + 1 ≤ 1
    have : PyData.depthAll [.int c.deed.add, oD c.deed.lo, oD c.deed.hi] ≤ 0 := depthAll_le.mpr fun x hx => by
      rcases List.mem_cons.mp hx with rfl | hx
      · exact Nat.le_refl _
      rcases List.mem_cons.mp hx with rfl | hx
      · rw [dp_oD72]; exact Nat.le_refl _
      rw [List.mem_singleton.mp hx, dp_oD72]; exact Nat.le_refl _
    omega
  show PyData.depthAll [.int c.hand, .int c.box, deedD c.deed, .int c.begun, .int c.ended, .int c.answer] + 1 ≤ 2
  have : PyData.depthAll [.int c.hand, .int c.box, deedD c.deed, .int c.begun, .int c.ended, .int c.answer] ≤ 1 := depthAll_le.mpr fun x hx => by
    rcases List.mem_cons.mp hx with rfl | hx
    · exact Nat.zero_le _
    rcases List.mem_cons.mp hx with rfl | hx
    · exact Nat.zero_le _
    rcases List.mem_cons.mp hx with rfl | hx
    · exact e
    rcases List.mem_cons.mp hx with rfl | hx
    · exact Nat.zero_le _
    rcases List.mem_cons.mp hx with rfl | hx
    · exact Nat.zero_le _
    rw [List.mem_singleton.mp hx]; exact Nat.zero_le _
  omega
theorem wt_call72 (c : Call72) : wtO (callD c) ≤ 20000 := by
  have h1 := wt_oD72 c.deed.lo
  have h2 := wt_oD72 c.deed.hi
  have e : wtO (callD c) = 1921 + 2 + (1921 + 2 + ((1921 + 2 + (wtO (oD c.deed.lo) + 2 + (wtO (oD c.deed.hi) + 2 + 0)) + 3) + 2 + (1921 + 2 + (1921 + 2 + (1921 + 2 + 0))))) + 3 := rfl
  omega
end L3

namespace L3
open PySem PySem.Spec PyProof.Rows L2
def spX1 (f : V → Hp → VK → XK → Prop) : Sp := fun vs H Q E => ∃ x, vs = [x] ∧ f x H Q E
def spX2 (f : V → V → Hp → VK → XK → Prop) : Sp := fun vs H Q E => ∃ x y, vs = [x, y] ∧ f x y H Q E
theorem spX1_len {f : V → Hp → VK → XK → Prop} {p : Str} : ∀ vs H Q E, spX1 f vs H Q E → vs.length = [p].length := by rintro vs H Q E ⟨x, rfl, _⟩; rfl
theorem spX2_len {f : V → V → Hp → VK → XK → Prop} {p q : Str} : ∀ vs H Q E, spX2 f vs H Q E → vs.length = [p, q].length := by rintro vs H Q E ⟨x, y, rfl, _⟩; rfl
def MkCalleeX (P : Program) (w : World) (K : PySem.W.Frag) (mg : Str → Option Value) (base : Heap) (C : Addr) (k : Nat) (ps : List Str) (sp : Sp) : Prop :=
  ∃ (j : Nat) (f : Addr) (fd : FuncData), j + 1 = k ∧ FnOk P w K mg base (CX1 P w) j f fd ps sp ∧ Binds K fd ps [] ∧ Mk K C f
section
variable {P : Program} {w : World} {K : PySem.W.Frag} {mg : Str → Option Value} {base : Heap} {C : Addr} {j k : Nat} {m : Str} {ps : List Str} {sp : Sp}
theorem MkCalleeX.mono (c : MkCalleeX P w K mg base C j ps sp) (h : j ≤ k) : MkCalleeX P w K mg base C k ps sp := by
  obtain ⟨i, f, fd, e, F, b, mt⟩ := c
  exact ⟨k - 1, f, fd, by omega, F.mono (by omega), b, mt⟩
end
section
variable {X : Cx} {C : Addr} {k : Nat} {x : Str} {ps : List Str} {sp : Sp} {e : Expr} {es : List Expr} {t : TA} {pos p : Pos} {E : XK}
end
def withinD (l u : Int) : PyData → Bool
  | .int i => decide (l ≤ i) && decide (i ≤ u)
  | _ => false
theorem within_int {l u : Int} {d : PyData} (h : withinD l u d = true) : ∃ i, d = .int i ∧ l ≤ i ∧ i ≤ u := by
  cases d with
  | int i =>
    simp only [withinD, Bool.and_eq_true, decide_eq_true_eq] at h
    exact ⟨i, rfl, h.1, h.2⟩
  | _ => cases h
def sp_withinO (K : PySem.W.Frag) : Sp := sp3 fun x y z H Q => ∃ (d : PyData) (m : List Addr) (l u : Int), Od K m H x d ∧ y = .int l ∧ z = .int u ∧ Q (.bl (withinD l u d)) H
end L3

namespace L3
open PySem PySem.Spec PyProof.Rows L2
def NoCtx (h : Heap) (e : Addr) : Prop := ∃ o vs, h.get? e = some o ∧ o.data = .fields vs ∧ vs[2]? = some .none
theorem entry_unchain : entryFor table "proto.unchain" = some Builtin.«proto.unchain» := entryFor_of_fast (by kernel_rfl)
section
variable {prog : Program} {w : World} {A : Around} {E : Value → Shared → Prop} {s : Shared}
theorem unchain_no {e x : Addr} {Q : Value → Shared → Prop} (hn : NoCtx s.heap e) (h : Q .none s) : wpAny (model prog w) A (runValue (.builtin "proto.unchain" ⟨[.ref x, .ref e, .ref e, .bool false], []⟩)) Q E s := by
  obtain ⟨o, vs, ho, hd, h2⟩ := hn
  refine wpAny_runValue (codeAny_builtin entry_unchain ?_)
  show wpAny _ _ (field (.ref e) 2 >>= _) _ _ s
  refine wpAny_bind (wpAny_field ho hd h2 ?_)
  exact wpAny_pure h
theorem pyNext_list_endH {it l e : Addr} {i : Nat} {items : Array Value} {Q : Option Value → Shared → Prop} (hh : A.handled = some (.ref e)) (hne : e ≠ it) (hn : NoCtx s.heap e)
    (hit : s.heap.IsListIter it l i) (hl : s.heap.IsList l items) (hx : items[i]? = none)
    (hQ : ∀ h', Heap.ExtBut it s.heap h' → Q none { s with heap := h' }) : wpAny (model prog w) A (pyNext (.ref it)) Q E s := by
  obtain ⟨o, ho, hc, hd⟩ := id hit
  obtain ⟨ol, hol, _, nl, hdl⟩ := hl
  unfold pyNext
  refine wpAny_bind (wpAny_attempt (wpAny_callSpecial?_slot (name := Str.ofString "__next__") hit.typeIs slot_listiter_next
    (wpAny_call_entry slot_listiter_next hit.typeIs entry_listiter_next ?_ (args_listiter_next _))))
  show wpAny _ _ (field (.ref it) 0 >>= _) _ _ s
  refine wpAny_bind (wpAny_field ho hd (x := .ref l) rfl ?_)
  show wpAny _ _ (if (Value.ref l == Value.none) = true then _ else _) _ _ s
  rw [if_neg (show ¬ ((Value.ref l == Value.none) = true) from Bool.false_ne_true)]
  show wpAny _ _ (field (.ref it) 1 >>= _) _ _ s
  refine wpAny_bind (wpAny_field ho hd (x := .int i 0) rfl ?_)
  show wpAny _ _ (seqItems? (.ref l) >>= _) _ _ s
  refine wpAny_bind (wpAny_seqItems hol hdl ?_)
  simp only [Int.toNat_natCast, hx]
  refine wpAny_bind (wpAny_rule (wpAny_bind (wpAny_setField ho hd (by simp) ?_)))
  show wpAny _ _ (newExc (.type "StopIteration") [] >>= _) _ _ _
  refine wpAny_bind ?_
  simp only [newExc, newTuple]
  refine wpAny_bind (wpAny_newObj_type ?_ (by size_fits))
  refine wpAny_bind (m := firstArgMember _ _) (wpAny_of_eq (a := Value.none) (by first | rfl | (simp only [firstArgMember]; rfl)) ?_)
  refine wpAny_newObj_type ?_ (by size_fits)
  simp only [raiseNew]
  refine wpAny_bind (wpAny_handled ?_)
  rw [show A.in1.handled = some (.ref e) from hh]
  obtain ⟨oe, vs, hoe, hde, h2⟩ := hn
  have sb := Heap.SameBut.update s.heap it (Obj.mapFields (·.setIfInBounds 0 Value.none))
  generalize s.heap.update it (Obj.mapFields (·.setIfInBounds 0 Value.none)) = h1 at sb ⊢
  have e1 : h1.get? e = some oe := (sb.2 e hne).trans hoe
  have e2 := Heap.get?_push_of_some (h := h1) { cls := Value.type "tuple", data := Data.seq #[] } e1
  have lt := Heap.lt_size e2
  have ext : Heap.ExtBut it s.heap (h1.push { cls := Value.type "tuple", data := Data.seq #[] }) := sb.extBut.push _
  generalize h1.push { cls := Value.type "tuple", data := Data.seq #[] } = h2' at e2 lt ext ⊢
  have hne2 : Value.ref e ≠ Value.ref h2'.objs.size := fun z => Nat.ne_of_lt lt (Value.ref.inj z)
  dsimp only
  rw [if_pos (bne_iff_ne.mpr hne2)]
  generalize hO : ({ cls := Value.type "StopIteration", data := Data.fields (#[Value.ref h1.objs.size, Value.none, Value.none, Value.none, Value.bool false, Value.none] ++ ownMembersOf (Value.type "StopIteration") []) } : Obj) = oS
  have hSd : oS.data = Data.fields (#[Value.ref h1.objs.size, Value.none, Value.none, Value.none, Value.bool false, Value.none] ++ ownMembersOf (Value.type "StopIteration") []) := by rw [← hO]
  have hSc : oS.cls = Value.type "StopIteration" := by rw [← hO]
  have e3 := Heap.get?_push_of_some (h := h2') oS e2
  have eS : (h2'.push oS).get? h2'.objs.size = some oS := Heap.get?_push_size _ (Obj.isFreed_of_fields hSd)
  refine wpAny_bind (wpAny_holding (unchain_no ⟨oe, vs, e3, hde, h2⟩ ?_))
  refine wpAny_bind (m := updateField _ _ _) ?_
  refine wpAny_setField (a := h2'.objs.size) eS hSd (by rw [Array.size_append]; exact Nat.lt_of_lt_of_le (show 2 < 6 by decide) (Nat.le_add_right 6 _)) (wpAny_throw ?_)
  have e5 := Heap.get?_update_self (Obj.mapFields (·.setIfInBounds 2 (Value.ref e))) eS (Obj.isFreed_of_fields (Obj.data_mapFields hSd _))
  refine wpAny_bind (wpAny_isInstance (T := "StopIteration") (b := true) ⟨_, e5, (Obj.cls_mapFields ..).trans hSc⟩ isSubtype_stop ?_)
  refine wpAny_pure (hQ _ fun b o' hb ho' => ?_)
  have q := ext b o' hb ho'
  exact (Heap.get?_update_other _ _ (Nat.ne_of_gt (Heap.lt_size q))).trans (Heap.get?_push_of_some _ q)
theorem walksH {e : Addr} (hh : A.handled = some (.ref e)) (I ax : Addr) (hne : ax ≠ I) (he : e ≠ I) (items : Array Value) :
    Walks prog w A I [I, ax, e] [I] items.size (fun i v => items[i]? = some v) (fun i h => (h.IsListIter I ax i ∧ h.IsList ax items) ∧ NoCtx h e) where
  sub := fun b hb => by simp at hb; simp [hb]
  frame := fun _ _ _ st hk => ⟨⟨st.1.1.at fun o e => hk I (by simp) o e, st.1.2.at fun o e => hk ax (by simp) o e⟩, by obtain ⟨o, vs, z, r⟩ := st.2; exact ⟨o, vs, hk e (by simp) o z, r⟩⟩
  item := fun i s Q E hi st hQ => by
    refine wpAny_pyNext_list_item st.1.1 st.1.2 (x := items[i]) (by simp [hi]) fun h' hit' hs' => ?_
    obtain ⟨o, vs, z, r⟩ := st.2
    exact hQ _ h' s.toks (by simp [hi]) ⟨⟨hit', st.1.2.extBut hs'.extBut hne⟩, ⟨o, vs, hs'.extBut e o he z, r⟩⟩ fun b o hb e => hs'.extBut b o (fun h => hb (by simp [h])) e
  done := fun s Q E st hQ => pyNext_list_endH hh he st.2 st.1.1 st.1.2 (by simp) fun h' he' => hQ h' s.toks fun b o hb e => he' b o (fun h => hb (by simp [h])) e
  self := fun _ _ _ _ st hQ => wpAny_pyIter_listiter st.1.1 hQ
end
theorem hand_h (X : Cx) (e : Addr) : (handX X e).A.handled = some (.ref e) := rfl
theorem call_anyH {X : Cx} {K : PySem.W.Frag} {e : Addr} (hK : X.K = K) (hh : X.A.handled = some (.ref e)) : CallR X (.builtin "any") (fun xs H Q => ∃ (l : Addr) (bs : List Bool) (C : Addr), xs = [.ref l] ∧ H e = some (ExO e C) ∧ SqL K H l (bs.map V.bl) ∧ Q (.bl (bs.any id)) H) := by
  subst hK
  intro pins s σ H xs us Q I r h
  obtain ⟨l, bs, C, rfl, hE, hl, q⟩ := h
  obtain ⟨u, rfl, rx⟩ := vals1 r
  cases (show u = Value.ref l from rx)
  obtain ⟨vs, rv, pl, _⟩ := I.list hl
  have hl' : s.heap.IsList l vs.toArray := pl.isList
  have hb : LSm.BoolsAre vs bs := bools_are rv
  have hlt : l < s.heap.objs.size := by obtain ⟨_, e, _⟩ := hl'; exact Heap.lt_size e
  obtain ⟨oe, heo, _, ws, hed, hew⟩ := (I.hok e _ hE).1
  have het : e < s.heap.objs.size := Heap.lt_size heo
  refine call_any_walk (wpAny_pyIter_list hl' ?_)
  refine ⟨s.heap.objs.size, [s.heap.objs.size, l, e], [s.heap.objs.size], vs.toArray.size, _, _, fun i => (bs[i]?).getD true, rfl, walksH (A := X.A.in1) hh _ l (Nat.ne_of_lt hlt) (Nat.ne_of_lt het) vs.toArray,
    ⟨⟨⟨_, Heap.get?_push_size _ rfl, rfl, rfl⟩, hl'.push _⟩, ⟨oe, ws, Heap.get?_push_of_some _ heo, hed, hew⟩⟩, fun i v s' Q' E' hP hQ => ?_, fun h' tk hk => ?_⟩
  · obtain ⟨b, e, rfl⟩ := hb.get i v (by simpa using hP)
    simp only [e, Option.getD_some] at hQ
    exact wpAny_truthy_bool hQ
  · have e : ((List.range vs.toArray.size).any fun i => (bs[i]?).getD true) = bs.any id := by
      have hlen : bs.length = vs.length := by rw [← rv.length, List.length_map]
      rw [List.size_toArray, ← hlen, Bool.eq_iff_iff, List.any_eq_true, List.any_eq_true]
      constructor
      · rintro ⟨i, hi, z⟩
        have hi' := List.mem_range.mp hi
        exact ⟨bs[i], List.getElem_mem hi', by simpa [List.getElem?_eq_getElem hi'] using z⟩
      · rintro ⟨b, hb', z⟩
        obtain ⟨i, hi, rfl⟩ := List.getElem_of_mem hb'
        exact ⟨i, List.mem_range.mpr hi, by simpa [List.getElem?_eq_getElem hi] using z⟩
    rw [e]
    exact ⟨.bl (bs.any id), H, I.kept (t' := tk) (h' := h') (LSm.kept_iter hk), rfl, q⟩
end L3

namespace L3
open PySem PySem.Spec PyProof.Rows L2 HT
theorem noFill_tuple_mul : fillsNumberSlot (.type "tuple") "mul" = pure false :=
  PySem.fillsNumberSlot_seq (id := "tuple.__mul__") (r := some (.builtin "tuple.__rmul__")) PySem.F.slot_tuple_mul.lookup (by decide +kernel) (by rw [typeLookup_type, builtinLookup_eq_fast]; kernel_rfl) (by decide +kernel)
theorem repeat_tuple : seqRepeat? (.type "tuple") = pure (some (.builtin "tuple.__mul__")) := by
  unfold seqRepeat?
  rw [PySem.seqSlot_of (T := "tuple") (name := "__mul__") (id := "tuple.__mul__") PySem.F.slot_tuple_mul.lookup (by decide +kernel), PySem.seqSlot_of (T := "tuple") (name := "__rmul__") (id := "tuple.__rmul__") (by rw [typeLookup_type, builtinLookup_eq_fast]; kernel_rfl) (by decide +kernel)]
  rfl
theorem rmul_int_tuple (a : Int) (t : Tok) (l : Addr) (us : Array Value) (n : Nat) (d1 : Option Addr) (e1 : Array (Option Value)) :
    Meets (Builtin.«int.__rmul__» ⟨[.int a t, .ref l], []⟩) (fun _ R s => s.heap.get? l = some ⟨.type "tuple", d1, .seq us n, e1⟩ ∧ R (.ok (.ret Value.notImplemented)) s) :=
  .of_wp fun prog w A R s h => by obtain ⟨hp, g, d, tk, os⟩ := s; obtain ⟨hl, h⟩ := h; wp_walk; exact ⟨_, rfl, h⟩
theorem mul_tuple (l : Addr) (us : Array Value) (n : Nat) (d1 : Option Addr) (e1 : Array (Option Value)) (x : Int) (u : Tok) (h1 : ¬ x < -(2 ^ 63)) (h2 : ¬ x ≥ 2 ^ 63) (h0 : us.isEmpty = false) (h3 : (x == 1) = false) (h4 : ¬ x ≤ 0) (h5 : ¬ (us.size : Int) * x > (2 ^ 63 - 1) / 8) (h6 : Builtin.Tuple.tupleTooMany ((us.size : Int) * x) = false) (h7 : (List.foldl (fun x1 x2 => x1 ++ x2) #[] (List.replicate x.toNat us)).size ≤ sizeLine) :
    Meets (Builtin.«tuple.__mul__» ⟨[.ref l, .int x u], []⟩) (fun _ R s => s.heap.get? l = some ⟨.type "tuple", d1, .seq us n, e1⟩ ∧ R (.ok (.ret (Value.ref s.heap.objs.size))) { s with heap := s.heap.push { cls := Value.type "tuple", data := Data.seq (List.foldl (fun x1 x2 => x1 ++ x2) #[] (List.replicate x.toNat us)) }, toks := s.toks }) :=
  .of_wp fun prog w A R s h => by
    obtain ⟨hp, g, d, tk, os⟩ := s; obtain ⟨hl, h⟩ := h
    wp_walk using PySem.AutoSeq1.wpAny_loadPart' hl
    rw [if_neg (by simp only [Bool.or_eq_true, decide_eq_true_eq]; omega)]
    wp_walk using PySem.AutoSeq1.wpAny_loadPart' hl
    rw [if_neg h5]
    rw [if_neg (by rw [h6]; decide)]
    unfold Builtin.Tuple.tupleExact
    refine wpAny_bind (wpAny_newObj_type ?_ h7)
    exact wpAny_pure ⟨_, rfl, h⟩
theorem mul_tuple1 (l : Addr) (us : Array Value) (n : Nat) (d1 : Option Addr) (e1 : Array (Option Value)) (u : Tok) :
    Meets (Builtin.«tuple.__mul__» ⟨[.ref l, .int 1 u], []⟩) (fun _ R s => s.heap.get? l = some ⟨.type "tuple", d1, .seq us n, e1⟩ ∧ R (.ok (.ret (Value.ref l))) s) :=
  .of_wp fun prog w A R s h => by
    obtain ⟨hp, g, d, tk, os⟩ := s; obtain ⟨hl, h⟩ := h
    wp_walk using PySem.AutoSeq1.wpAny_loadPart' hl
    exact ⟨_, rfl, h⟩
theorem mul_tuple0 (l : Addr) (us : Array Value) (n : Nat) (d1 : Option Addr) (e1 : Array (Option Value)) (u : Tok) (h0 : us.isEmpty = false) :
    Meets (Builtin.«tuple.__mul__» ⟨[.ref l, .int 0 u], []⟩) (fun _ R s => s.heap.get? l = some ⟨.type "tuple", d1, .seq us n, e1⟩ ∧ R (.ok (.ret (Value.ref s.heap.objs.size))) { s with heap := s.heap.push { cls := Value.type "tuple", data := Data.seq #[] }, toks := s.toks }) :=
  .of_wp fun prog w A R s h => by
    obtain ⟨hp, g, d, tk, os⟩ := s; obtain ⟨hl, h⟩ := h
    wp_walk using PySem.AutoSeq1.wpAny_loadPart' hl
    exact ⟨_, rfl, h⟩
section
variable {X : Cx} {K : PySem.W.Frag}
def rRepT (K : PySem.W.Frag) : R2 := fun x y H Q => ∃ (a : Addr) (k : Nat) (xs : List V), x = .ref a ∧ y = .int k ∧ SqT K H a xs ∧ xs ≠ [] ∧ xs.length * k ≤ sizeLine ∧ ∀ p H', Grow [] H H' → SqT K H' p (List.replicate k xs).flatten → Q (.ref p) H'
theorem op_repT (hK : X.K = K) : OpR X (binaryOp .Mult) (rRepT K) := by
  subst hK
  intro pins s σ H x y v u Q I rx ry h
  obtain ⟨a, k, xs, rfl, rfl, ha, hne, hz, q⟩ := h
  cases rx
  obtain ⟨t, rfl⟩ := ry
  obtain ⟨its, r, ht, hzz⟩ := I.tuple ha
  obtain ⟨⟨c1, d1, x1, l1⟩, ho, hc, n, hd⟩ := id ht
  cases hc
  cases hd
  have hl := r.length
  have he : its.toArray.isEmpty = false := by
    cases its with
    | nil => exact absurd (r.nil_iff.mp rfl) hne
    | cons _ _ => rfl
  have hsl : (sizeLine : Nat) ≤ (2 ^ 63 - 1) / 8 := by decide
  have hpos : 0 < xs.length := List.length_pos_iff.mpr hne
  have hk : k ≤ xs.length * k := Nat.le_mul_of_pos_left k hpos
  refine wpAny_binaryOp_repeat_ref (T := "tuple") (U := "int") (by decide) ⟨_, ho, rfl⟩ (fun s' => typeIs_int s' k t) noFill_tuple_mul PySem.F.fills_int_mul PySem.F.slot_int_rmul repeat_tuple PySem.F.slot_int_index.lookup
    (call_meets PySem.F.slot_int_rmul (typeIs_int s k t) PySem.F.entry_int_rmul (PySem.F.args_int_rmul_2 _ _) (rmul_int_tuple k t a its.toArray n d1 l1)
      ⟨ho, rfl, ⟨_, ho, rfl⟩, ?_⟩)
  by_cases k1 : k = 1
  · subst k1
    refine call_meets PySem.F.slot_tuple_mul ⟨_, ho, rfl⟩ PySem.F.entry_tuple_mul (PySem.F.args_tuple_mul_2 _ _) (mul_tuple1 a its.toArray n d1 l1 t) ⟨ho, ?_⟩
    exact ⟨.ref a, H, I, rfl, q a H (Grow.refl _ _) (by simpa using ha)⟩
  by_cases k0 : k = 0
  · subst k0
    refine call_meets PySem.F.slot_tuple_mul ⟨_, ho, rfl⟩ PySem.F.entry_tuple_mul (PySem.F.args_tuple_mul_2 _ _) (mul_tuple0 a its.toArray n d1 l1 t he) ⟨ho, ?_⟩
    refine ⟨.ref s.heap.objs.size, _, I.laid (t' := s.toks) (o := .tup []) (fun b ob q => Heap.get?_push_of_some _ q) (Nat.le_refl _) ⟨Nat.zero_le _, [], .nil, IsTup.new _ _⟩, rfl, q _ _ (Grow.new (I.hok.fresh (Nat.le_refl _)) _) (by simpa using SqT.of upd_same)⟩
  have hnew : List.foldl (fun x1 x2 => x1 ++ x2) #[] (List.replicate (k : Int).toNat its.toArray) = (List.replicate k its).flatten.toArray := by
    have := foldl_rep its k []
    rw [List.nil_append] at this
    exact this
  have hsz : (List.replicate k its).flatten.length ≤ sizeLine := by rw [len_rep, ← hl, Nat.mul_comm]; exact hz
  refine call_meets PySem.F.slot_tuple_mul ⟨_, ho, rfl⟩ PySem.F.entry_tuple_mul (PySem.F.args_tuple_mul_2 _ _) (mul_tuple a its.toArray n d1 l1 k t (by omega) (by omega) he (beq_false_of_ne (by omega)) (by omega) ?_ ?_ (by rw [hnew, List.size_toArray]; exact hsz)) ⟨ho, ?_⟩
  · rw [List.size_toArray, ← hl]
    have : ((xs.length : Nat) : Int) * (k : Int) = ((xs.length * k : Nat) : Int) := by rw [Int.natCast_mul]
    rw [this]; omega
  · rw [List.size_toArray, ← hl]
    have : ((xs.length : Nat) : Int) * (k : Int) = ((xs.length * k : Nat) : Int) := by rw [Int.natCast_mul]
    rw [this]
    exact decide_eq_false (by omega)
  · rw [hnew]
    refine ⟨.ref s.heap.objs.size, _, I.laid (t' := s.toks) (o := .tup (List.replicate k xs).flatten) (fun b ob q => Heap.get?_push_of_some _ q) (Nat.le_refl _) ⟨by rw [len_rep, Nat.mul_comm]; exact hz, _, r.rep k, IsTup.new _ _⟩, rfl, q _ _ (Grow.new (I.hok.fresh (Nat.le_refl _)) _) (SqT.of upd_same)⟩
end
section
variable {prog : Program} {w : World} {A : Around} {E : Value → Shared → Prop} {s : Shared}
end
section
variable {X : Cx} {a : Expr} {ta : TA} {p p2 pos pos2 : Pos}
end
end L3

namespace L3
open PySem PySem.Spec PyProof.Rows L2
def boardP : PyData → Bool
  | .tuple ds => decide (1 ≤ ds.length) && (decide (ds.length ≤ 16) && ds.all wholeD)
  | _ => false
def askP (n : Nat) : PyData → Bool
  | .tuple [h, b, e] => withinD 0 15 h && (withinD 0 ((n : Int) - 1) b && deedP e)
  | _ => false
def fromTo : PyData → PyData → Bool
  | .int s, .int t => decide (0 ≤ s) && decide (s ≤ t)
  | _, _ => false
def callP (n : Nat) : PyData → Bool
  | .tuple [h, b, e, s, t, a] => (withinD 0 15 h && (withinD 0 ((n : Int) - 1) b && deedP e)) && (wholeD s && (wholeD t && (wholeD a && fromTo s t)))
  | _ => false
def boxOf : PyData → Int
  | .tuple (_ :: .int b :: _) => b
  | _ => -1
def fewP (n : Nat) (ds : List PyData) : Bool := (List.range n).all fun j => decide ((ds.countP fun d => decide (boxOf d = (j : Int))) ≤ 8)
def callsP (n : Nat) : PyData → Bool
  | .tuple ds => decide (ds.length ≤ 40) && (ds.all (callP n) && fewP n ds)
  | _ => false
def lenD : PyData → Nat
  | .tuple ds => ds.length
  | _ => 0
def callD71 (c : Call72) : PyData := .tuple [.int c.hand, .int c.box, deedD c.deed, .int c.begun, .int c.ended, .int c.answer]
theorem whole_int71 {d : PyData} (h : wholeD d = true) : ∃ i, d = .int i := by cases d <;> first | exact ⟨_, rfl⟩ | cases h
theorem end_oD71 {d : PyData} (h : endD d = true) : ∃ o : Option Int, d = oD o := by
  cases d <;> first | exact ⟨none, rfl⟩ | exact ⟨some _, rfl⟩ | cases h
theorem deed_of71 {d : PyData} (h : deedP d = true) : ∃ e : Deed, d = deedD e ∧ e.Ok := by
  unfold deedP at h
  split at h
  · rename_i a l u
    rw [Bool.and_eq_true, Bool.and_eq_true] at h
    obtain ⟨lo, rfl⟩ := end_oD71 h.1.1
    obtain ⟨hi, rfl⟩ := end_oD71 h.1.2
    refine ⟨⟨a, lo, hi⟩, rfl, fun x y hx hy => ?_⟩
    have hx' : lo = some x := hx
    have hy' : hi = some y := hy
    subst hx' hy'
    have h2 : (decide (x < y) || (decide (x = y) && decide (a = 0))) = true := h.2
    rw [Bool.or_eq_true, Bool.and_eq_true, decide_eq_true_eq, decide_eq_true_eq, decide_eq_true_eq] at h2
    exact h2
  · cases h
theorem call_of71 {n : Nat} {d : PyData} (h : callP n d = true) : ∃ c : Call72, d = callD71 c ∧ CallOk72 n c := by
  unfold callP at h
  split at h
  · rename_i hd b e s t a
    simp only [Bool.and_eq_true] at h
    obtain ⟨⟨h1, h2, h3⟩, h4, h5, h6, h7⟩ := h
    obtain ⟨i1, rfl, a1, a2⟩ := within_int h1
    obtain ⟨i2, rfl, b1, b2⟩ := within_int h2
    obtain ⟨dd, rfl, od⟩ := deed_of71 h3
    obtain ⟨i4, rfl⟩ := whole_int71 h4
    obtain ⟨i5, rfl⟩ := whole_int71 h5
    obtain ⟨i6, rfl⟩ := whole_int71 h6
    have h8 : (decide (0 ≤ i4) && decide (i4 ≤ i5)) = true := h7
    rw [Bool.and_eq_true, decide_eq_true_eq, decide_eq_true_eq] at h8
    exact ⟨⟨i1, i2, dd, i4, i5, i6⟩, rfl, ⟨a1, a2, b1, by show i2 < (n : Int); omega, od, h8.1, h8.2⟩⟩
  · cases h
theorem ov_od71 {K : PySem.W.Frag} {m : List Addr} {H : Hp} {x : V} {o : Option Int} (h : Od K m H x (oD o)) : x = ov o := by
  cases o with
  | none => exact h.inv_non
  | some i => exact h.inv_int
theorem callAt71 {K : PySem.W.Frag} {m : List Addr} {H : Hp} {x : V} {c : Call72} (h : Od K m H x (callD71 c)) : CallAt72 K H x c := by
  obtain ⟨r, xs, rfl, hs, os⟩ := h.inv_tup
  cases os with
  | cons o1 os => cases os with
    | cons o2 os => cases os with
      | cons o3 os => cases os with
        | cons o4 os => cases os with
          | cons o5 os => cases os with
            | cons o6 os =>
              cases os
              obtain ⟨rd, ys, rfl, hs3, os3⟩ := (show Od K m H _ (.tuple [.int c.deed.add, oD c.deed.lo, oD c.deed.hi]) from o3).inv_tup
              cases os3 with
              | cons q1 os3 => cases os3 with
                | cons q2 os3 => cases os3 with
                  | cons q3 os3 =>
                    cases os3
                    rw [o1.inv_int, o2.inv_int, o4.inv_int, o5.inv_int, o6.inv_int] at hs
                    rw [q1.inv_int, ov_od71 q2, ov_od71 q3] at hs3
                    exact ⟨r, rd, rfl, hs, hs3⟩
theorem calls_of71 {n : Nat} : ∀ {ds : List PyData}, ds.all (callP n) = true → ∃ cs : List Call72, ds = cs.map callD71 ∧ ∀ c ∈ cs, CallOk72 n c
  | [], _ => ⟨[], rfl, fun _ h => nomatch h⟩
  | d :: ds, h => by
    rw [List.all_cons, Bool.and_eq_true] at h
    obtain ⟨c, rfl, ok⟩ := call_of71 h.1
    obtain ⟨cs, rfl, oks⟩ := calls_of71 h.2
    refine ⟨c :: cs, rfl, fun x hx => ?_⟩
    rcases List.mem_cons.mp hx with rfl | hx
    · exact ok
    · exact oks x hx
theorem callsAt71 {K : PySem.W.Frag} {m : List Addr} {H : Hp} : ∀ {xs : List V} {cs : List Call72}, Ods K m H xs (cs.map callD71) → AllR (CallAt72 K H) xs cs
  | _, [], .nil => trivial
  | _, _ :: _, .cons o os => ⟨callAt71 o, callsAt71 os⟩
theorem few_cnt71 {n : Nat} {cs : List Call72} : fewP n (cs.map callD71) = (List.range n).all fun j : Nat => decide (cnt72 (j : Int) cs ≤ 8) := by
  unfold fewP cnt72
  congr 1
  funext j
  rw [List.countP_map]; rfl
theorem inv6_71 {K : PySem.W.Frag} {m : List Addr} {H : Hp} {xs : List V} {d1 d2 d3 d4 d5 d6 : PyData} (h : Ods K m H xs [d1, d2, d3, d4, d5, d6]) : ∃ v1 v2 v3 v4 v5 v6, xs = [v1, v2, v3, v4, v5, v6] ∧ Od K m H v1 d1 ∧ Od K m H v2 d2 ∧ Od K m H v3 d3 ∧ Od K m H v4 d4 ∧ Od K m H v5 d5 ∧ Od K m H v6 d6 := by
  cases h with
  | cons o1 h => cases h with
    | cons o2 h => cases h with
      | cons o3 h => cases h with
        | cons o4 h => cases h with
          | cons o5 h => cases h with
            | cons o6 h =>
              cases h
              exact ⟨_, _, _, _, _, _, rfl, o1, o2, o3, o4, o5, o6⟩
theorem wholes71 {K : PySem.W.Frag} {m : List Addr} {H : Hp} : ∀ {xs : List V} {ds : List PyData}, Ods K m H xs ds → ds.all wholeD = true → ∃ b : List Int, xs = b.map V.int ∧ b.length = ds.length
  | _, _, .nil, _ => ⟨[], rfl, rfl⟩
  | _, _, .cons o os, h => by
    rw [List.all_cons, Bool.and_eq_true] at h
    obtain ⟨i, rfl⟩ := whole_int71 h.1
    obtain ⟨b, rfl, e⟩ := wholes71 os h.2
    rw [o.inv_int]
    exact ⟨i :: b, rfl, by rw [List.length_cons, List.length_cons, e]⟩
theorem board_of71 {K : PySem.W.Frag} {m : List Addr} {H : Hp} {x : V} {d : PyData} (h : Od K m H x d) (hb : boardP d = true) : ∃ b, BoardAt K H x b ∧ lenD d = b.length ∧ b.length ≤ 16 ∧ 1 ≤ b.length := by
  unfold boardP at hb
  split at hb
  · rename_i ds
    rw [Bool.and_eq_true, Bool.and_eq_true, decide_eq_true_eq, decide_eq_true_eq] at hb
    obtain ⟨r, xs, rfl, hs, os⟩ := h.inv_tup
    obtain ⟨b, rfl, e⟩ := wholes71 os hb.2.2
    exact ⟨b, ⟨r, rfl, hs⟩, e.symm, by omega, by omega⟩
  · cases hb
theorem mt_count71 {X : Cx} {K : PySem.W.Frag} (hK : X.K = K) : MtR X "list.count" (fun x vs H Q => ∃ (l : Addr) (ns : List Int) (j : Int), x = .ref l ∧ vs = [.int j] ∧ SqL K H l (ns.map V.int) ∧ Q (.int ((ns.countP fun i => decide (i = j) : Nat) : Int)) H) := by
  subst hK
  intro pins s σ H x vs v us Q I rx rv h
  obtain ⟨l, ns, j, rfl, rfl, hq, q⟩ := h
  cases rx
  obtain ⟨u, rfl, t, rfl⟩ := vals1 rv
  obtain ⟨its, r, ⟨o, n, ho, hc, hdi, hd⟩, hz⟩ := I.list hq
  obtain ⟨oc, od, oda, osl⟩ := o
  cases hc
  cases hd
  have key : ∀ {ms : List Int} {ws : List Value}, Vals (ms.map V.int) ws → (ws.countP fun v => match v with | .int a _ => a == j | _ => false) = ms.countP fun i => decide (i = j) := by
    intro ms
    induction ms with
    | nil => intro ws r; cases r; rfl
    | cons a ms ih =>
      intro ws r
      cases r with
      | cons r1 r2 =>
        obtain ⟨t', rfl⟩ := r1
        rw [List.countP_cons, List.countP_cons, ih r2]
        congr 1
  refine call_meets F.slot_list_count ⟨_, ho, rfl⟩ F.entry_list_count (F.args_list_count_2 _ _)
    (SeqAt.list_countAt l its.toArray n od osl (.int j t) (fun v => match v with | .int a _ => a == j | _ => false)) ⟨ho, fun y hy => ?_, ?_⟩
  · obtain ⟨m, hm, rfl⟩ := List.getElem_of_mem (by simpa using hy : y ∈ its)
    have hm' : m < ns.length := by have := r.length; rw [List.length_map] at this; omega
    have e1 : (ns.map V.int)[m]? = some (.int ns[m]) := by rw [List.getElem?_map, List.getElem?_eq_getElem hm']; rfl
    obtain ⟨u, hu, t', rfl⟩ := r.get e1
    rw [List.getElem?_eq_getElem hm] at hu
    rw [Option.some.inj hu]
    exact SeqAt.EqAt.int_int _ _ _ _
  · have : its.toArray.toList = its := List.toList_toArray
    rw [this, key r]
    exact ⟨.int _, H, I.tok _, ⟨_, rfl⟩, q⟩
theorem within_whole71 {l u : Int} {d : PyData} (h : wholeD d = false) : withinD l u d = false := by cases d <;> first | rfl | cases h
theorem notw71 {u : Int} {d1 d2 d4 d5 d6 : PyData} (h : [d1, d2, d4, d5, d6].all wholeD = false) : ((withinD 0 15 d1 && withinD 0 u d2) && (wholeD d4 && (wholeD d5 && (wholeD d6 && fromTo d4 d5)))) = false := by
  cases h1 : wholeD d1 with
  | false => rw [within_whole71 h1]; rfl
  | true =>
    cases h2 : wholeD d2 with
    | false => rw [within_whole71 (l := 0) (u := u) h2, Bool.and_false]; rfl
    | true =>
      have h' : (wholeD d4 && (wholeD d5 && wholeD d6)) = false := by
        simp only [List.all_cons, List.all_nil, Bool.and_true, h1, h2, Bool.true_and] at h
        exact h
      have e : (wholeD d4 && (wholeD d5 && (wholeD d6 && fromTo d4 d5))) = ((wholeD d4 && (wholeD d5 && wholeD d6)) && fromTo d4 d5) := by
        cases wholeD d4 <;> cases wholeD d5 <;> cases wholeD d6 <;> rfl
      rw [e, h', Bool.false_and, Bool.and_false]
def nn71 : PyData → Bool
  | .none => false
  | _ => true
def nv71 (v : V) : Bool := !decide (v = .non)
theorem nv_nn71 {K : PySem.W.Frag} {m : List Addr} {H : Hp} {x : V} {d : PyData} (h : Od K m H x d) : nv71 x = nn71 d := by
  rcases od_isN h with ⟨rfl, rfl⟩ | ⟨h1, h2⟩
  · rfl
  · unfold nv71
    rw [decide_eq_false h1]
    cases d <;> first | rfl | exact absurd rfl h2
theorem ods_filter71 {K : PySem.W.Frag} {m : List Addr} {H : Hp} : ∀ {xs : List V} {ds : List PyData}, Ods K m H xs ds → Ods K m H (xs.filter nv71) (ds.filter nn71)
  | _, _, .nil => .nil
  | _, _, .cons (x := x) (d := d) o os => by
    rw [List.filter_cons, List.filter_cons, nv_nn71 o]
    split
    · exact .cons o (ods_filter71 os)
    · exact ods_filter71 os
theorem ends71 (d2 d3 : PyData) : (([d2, d3].filter nn71).all wholeD) = (endD d2 && endD d3) := by
  cases d2 <;> cases d3 <;> rfl
theorem low71 {a : Int} {d2 d3 : PyData} (h : ([d2, d3].filter nn71).length < 2) : lowHi a d2 d3 = true := by
  cases d2 <;> cases d3 <;> first | rfl | exact absurd h (show ¬ (2 : Nat) < 2 by decide)
theorem both71 {d2 d3 : PyData} (h : ¬ ([d2, d3].filter nn71).length < 2) (hw : (([d2, d3].filter nn71).all wholeD) = true) : ∃ l u : Int, d2 = .int l ∧ d3 = .int u := by
  rw [ends71, Bool.and_eq_true] at hw
  cases d2 <;> first | (cases hw.1; done) | skip
  · exact absurd (by cases d3 <;> first | exact (show (0 : Nat) < 2 by decide) | exact (show (1 : Nat) < 2 by decide)) h
  · cases d3 <;> first | (cases hw.2; done) | skip
    · exact absurd (show (1 : Nat) < 2 by decide) h
    · exact ⟨_, _, rfl, rfl⟩
def sp_is_boardO (K : PySem.W.Frag) : Sp := sp1 fun x H Q => ∃ d m, Od K m H x d ∧ lenD d ≤ 1000 ∧ ∀ H', Grow [] H H' → Q (.bl (boardP d)) H'
def sp_need_boardX (A : Addr) (K : PySem.W.Frag) : Sp := spX1 fun x H Q E => ∃ d m, Od K m H x d ∧ lenD d ≤ 1000 ∧ if boardP d = true then ∀ H', Grow [] H H' → Q .non H' else ∀ e H', Grow [] H H' → E (.ref e) (some A) H'
def sp_is_askO (K : PySem.W.Frag) : Sp := sp2 fun x y H Q => ∃ b d m, BoardAt K H x b ∧ Od K m H y d ∧ Q (.bl (askP b.length d)) H
def sp_is_callO (K : PySem.W.Frag) : Sp := sp2 fun x y H Q => ∃ b d m, BoardAt K H x b ∧ Od K m H y d ∧ ∀ H', Grow [] H H' → Q (.bl (callP b.length d)) H'
def sp_byb71 (K : PySem.W.Frag) : Sp := sp2 fun x y H Q => ∃ b cs, BoardAt K H x b ∧ CallsAt72 K H y cs ∧ b.length ≤ 16 ∧ cs.length ≤ 40 ∧ (∀ c ∈ cs, CallOk72 b.length c) ∧
  ∀ l zs nss H', Grow [] H H' → H' l = some (.lst zs) → BoxLs H' zs nss → nss.length = b.length → (∀ j : Nat, j < b.length → (nss.getD j []).length = cnt72 (j : Int) cs) → Q (.ref l) H'
def sp_areX (A : Addr) (K : PySem.W.Frag) : Sp := spX2 fun x y H Q E => ∃ (db dc : PyData) (m : List Addr), Od K m H x db ∧ Od K m H y dc ∧ lenD db ≤ 1000 ∧ lenD dc ≤ 1000 ∧
  if boardP db = true then ∀ H', Grow [] H H' → Q (.bl (callsP (lenD db) dc)) H' else ∀ e H', Grow [] H H' → E (.ref e) (some A) H'
def sp_lis_deed71 (K : PySem.W.Frag) : Sp := sp1 fun x H Q => ∃ d m, Od K m H x d ∧ ∀ H', Grow [] H H' → Q (.bl (deedP d)) H'
def sp_lare71 (K : PySem.W.Frag) : Sp := sp2 fun x y H Q => ∃ b d m, BoardAt K H x b ∧ b.length ≤ 16 ∧ Od K m H y d ∧ lenD d ≤ 1000 ∧ ∀ H', Grow [] H H' → Q (.bl (callsP b.length d)) H'
def sp_word71 (K : PySem.W.Frag) : Sp := sp2 fun x y H Q => ∃ (db dc : PyData) (m : List Addr), Od K m H x db ∧ Od K m H y dc ∧ lenD db ≤ 1000 ∧ lenD dc ≤ 1000 ∧
  (boardP db = true → ∀ H', Grow [] H H' → Q (.bl (callsP (lenD db) dc)) H') ∧ (boardP db = false → ∀ l H', Grow [] H H' → H' l = some (.lst [.bl true, .bl false]) → Q (.ref l) H')
def inD : PyData → List Nat → Option PyData
  | d, [] => some d
  | .tuple ds, k :: ks => match ds[k]? with
    | some e => inD e ks
    | none => none
  | _, _ :: _ => none
def wiD : PyData → List Nat → PyData → PyData
  | _, [], o => o
  | .tuple ds, k :: ks, o => match ds[k]? with
    | some e => .tuple (ds.take k ++ [wiD e ks o] ++ ds.drop (k + 1))
    | none => .tuple ds
  | d, _ :: _, _ => d
theorem in_cons {d e : PyData} {k : Nat} {ks : List Nat} (h : inD d (k :: ks) = some e) : ∃ ds f, d = .tuple ds ∧ ds[k]? = some f ∧ inD f ks = some e := by
  cases d with
  | tuple ds =>
    unfold inD at h
    cases hk : ds[k]? with
    | none => simp only [hk] at h; cases h
    | some f => simp only [hk] at h; exact ⟨ds, f, rfl, hk, h⟩
  | _ => cases h
theorem dp_mem71 {ds : List PyData} {f : PyData} {k : Nat} (h : ds[k]? = some f) : f.depth + 1 ≤ (PyData.tuple ds).depth := by
  show f.depth + 1 ≤ PyData.depthAll ds + 1
  have := (depthAll_le (k := PyData.depthAll ds) (xs := ds)).mp (Nat.le_refl _) f (List.mem_of_getElem? h)
  omega
theorem wt_mem71 : ∀ {ds : List PyData} {f : PyData} {k : Nat}, ds[k]? = some f → wtO f + 2 ≤ wtOs ds
  | [], _, _, h => by cases h
  | d :: ds, f, 0, h => by
    have e : d = f := Option.some.inj h
    subst e
    show wtO d + 2 ≤ wtO d + 2 + wtOs ds
    omega
  | d :: ds, f, k + 1, h => by
    have := wt_mem71 (ds := ds) (k := k) h
    show wtO f + 2 ≤ wtO d + 2 + wtOs ds
    omega
theorem wt_len71 : ∀ {ds : List PyData}, 2 * ds.length ≤ wtOs ds
  | [] => Nat.le_refl _
  | d :: ds => by
    have := wt_len71 (ds := ds)
    show 2 * (ds.length + 1) ≤ wtO d + 2 + wtOs ds
    omega
theorem wt_take71 {ds : List PyData} {i : Nat} {e : PyData} (h : ds[i]? = some e) : wtOs (ds.take (i + 1)) = wtOs (ds.take i) + wtO e + 2 := by
  rw [List.take_succ, h]
  show wtOs (ds.take i ++ [e]) = _
  rw [wtOs_append]
  show wtOs (ds.take i) + (wtO e + 2 + 0) = _
  omega
theorem in_len {ks : List Nat} : ∀ {d : PyData}, (inD d ks).isSome = true → ks.length ≤ d.depth := by
  induction ks with
  | nil => intro d _; exact Nat.zero_le _
  | cons k ks ih =>
    intro d h
    obtain ⟨e, he⟩ := Option.isSome_iff_exists.mp h
    obtain ⟨ds, f, rfl, hk, hf⟩ := in_cons he
    have := ih (d := f) (by rw [hf]; rfl)
    have := dp_mem71 hk
    rw [List.length_cons]; omega
theorem in_step {ds : List PyData} {e : PyData} {i : Nat} {ks : List Nat} (h : ds[i]? = some e) (hk : (inD e ks).isSome = true) : (inD (.tuple ds) (i :: ks)).isSome = true := by
  unfold inD
  simp only [h]
  exact hk
theorem wi_cons {ds : List PyData} {f o : PyData} {k : Nat} {ks : List Nat} (h : ds[k]? = some f) : wiD (.tuple ds) (k :: ks) o = .tuple (ds.take k ++ [wiD f ks o] ++ ds.drop (k + 1)) := by
  show (match ds[k]? with | some e => PyData.tuple (ds.take k ++ [wiD e ks o] ++ ds.drop (k + 1)) | none => .tuple ds) = _
  rw [h]
theorem leS71 {n : Nat} (h : n ≤ 7000000) : n ≤ sizeLine := Nat.le_trans h (by decide)
theorem ltS71 {n : Nat} (h : n ≤ 7000000) : n < sizeLine := Nat.lt_of_le_of_lt h (by decide)
def PathsAt (K : PySem.W.Frag) (H : Hp) (d : PyData) (zs : List V) : Prop := ∀ z ∈ zs, ∃ r ks, z = .ref r ∧ SqT K H r (natsV ks) ∧ (inD d ks).isSome = true
theorem PathsAt.grow {K : PySem.W.Frag} {m : List Addr} {H H' : Hp} {d : PyData} {zs : List V} (h : PathsAt K H d zs) (g : Grow m H H') : PathsAt K H' d zs := fun z hz => by
  obtain ⟨r, ks, e, s, v⟩ := h z hz
  exact ⟨r, ks, e, g.sqT s, v⟩
def sp_paths71 (N : Nat) (K : PySem.W.Frag) : Sp := sp1 fun x H Q => ∃ d m, Od K m H x d ∧ d.depth < N ∧ d.depth ≤ 50 ∧ wtO d ≤ 3000000 ∧ ∀ l zs H', Grow [] H H' → H l = none → H' l = some (.lst zs) → PathsAt K H' d zs → zs.length ≤ wtO d + 1 → 0 < zs.length → Q (.ref l) H'
def sp_inner71 (K : PySem.W.Frag) : Sp := sp2 fun x y H Q => ∃ d m r ks e, Od K m H x d ∧ y = .ref r ∧ SqT K H r (natsV ks) ∧ inD d ks = some e ∧ ∀ v, Od K m H v e → Q v H
def sp_with71 (N : Nat) (K : PySem.W.Frag) : Sp := sp3 fun x y z H Q => ∃ d m r ks o, Od K m H x d ∧ y = .ref r ∧ SqT K H r (natsV ks) ∧ (inD d ks).isSome = true ∧ Od K m H z o ∧ d.depth < N ∧ wtO d ≤ 3000000 ∧ ∀ v H', Grow [] H H' → Od K m H' v (wiD d ks o) → Q v H'
end L3

namespace L3
open PySem PySem.Spec PyProof.Rows L2
def pl71 : Nat → PyData → Bool
  | _, .int _ => true
  | _, .none => true
  | 0, .tuple ds => decide (ds.length ≤ 42)
  | n + 1, .tuple ds => decide (ds.length ≤ 42) && ds.all (pl71 n)
  | _, _ => false
def Pl71 (d : PyData) : Prop := ∀ N, pl71 N d = true
theorem pl_int71 (i : Int) : Pl71 (.int i) := fun N => by cases N <;> rfl
theorem pl_none71 : Pl71 .none := fun N => by cases N <;> rfl
theorem pl_tup71 {ds : List PyData} (hl : ds.length ≤ 42) (h : ∀ d ∈ ds, Pl71 d) : Pl71 (.tuple ds) := fun N => by
  cases N with
  | zero => exact decide_eq_true hl
  | succ n => exact Bool.and_eq_true_iff.mpr ⟨decide_eq_true hl, List.all_eq_true.mpr fun d hd => h d hd n⟩
theorem pl_mem71 {ds : List PyData} (h : Pl71 (.tuple ds)) {d : PyData} (hd : d ∈ ds) : Pl71 d := fun N => List.all_eq_true.mp (Bool.and_eq_true_iff.mp (h (N + 1))).2 d hd
theorem pl_len71 {d : PyData} (h : Pl71 d) : lenD d ≤ 42 := by
  cases d with
  | tuple ds => exact of_decide_eq_true (h 0)
  | _ => exact Nat.zero_le _
theorem pl_oD71 (o : Option Int) : Pl71 (oD o) := by cases o; exact pl_none71; exact pl_int71 _
theorem pl_call71 (c : Call72) : Pl71 (callD71 c) := pl_tup71 (show 6 ≤ 42 by decide) fun d hd => by
  simp only [List.mem_cons, List.not_mem_nil, or_false] at hd
  rcases hd with rfl | rfl | rfl | rfl | rfl | rfl
  · exact pl_int71 _
  · exact pl_int71 _
  · refine pl_tup71 (show 3 ≤ 42 by decide) fun d hd => ?_
    have hd' : d ∈ [PyData.int c.deed.add, oD c.deed.lo, oD c.deed.hi] := hd
    simp only [List.mem_cons, List.not_mem_nil, or_false] at hd'
    rcases hd' with rfl | rfl | rfl
    · exact pl_int71 _
    · exact pl_oD71 _
    · exact pl_oD71 _
  · exact pl_int71 _
  · exact pl_int71 _
  · exact pl_int71 _
theorem pl_calls71 {n : Nat} {d : PyData} (h : callsP n d = true) : Pl71 d := by
  unfold callsP at h
  split at h
  · rename_i ds
    rw [Bool.and_eq_true, Bool.and_eq_true, decide_eq_true_eq] at h
    obtain ⟨cs, rfl, _⟩ := calls_of71 h.2.1
    refine pl_tup71 (by omega) fun d hd => ?_
    obtain ⟨c, _, rfl⟩ := List.mem_map.mp hd
    exact pl_call71 c
  · cases h
theorem pl_board71 {d : PyData} (h : boardP d = true) : Pl71 d := by
  unfold boardP at h
  split at h
  · rename_i ds
    rw [Bool.and_eq_true, Bool.and_eq_true, decide_eq_true_eq, decide_eq_true_eq] at h
    refine pl_tup71 (by omega) fun d hd => ?_
    obtain ⟨i, rfl⟩ := whole_int71 (List.all_eq_true.mp h.2.2 d hd)
    exact pl_int71 i
  · cases h
theorem pl_in71 {ks : List Nat} : ∀ {d e : PyData}, Pl71 d → inD d ks = some e → Pl71 e := by
  induction ks with
  | nil => intro d e h he; rw [← Option.some.inj he]; exact h
  | cons k ks ih =>
    intro d e h he
    obtain ⟨ds, f, rfl, hk, hf⟩ := in_cons he
    exact ih (pl_mem71 h (List.mem_of_getElem? hk)) hf
theorem pl_bool71 {b : Bool} {ks : List Nat} : ∀ {d e : PyData}, inD d ks = some e → pl71 ks.length (wiD d ks (.bool b)) = false := by
  induction ks with
  | nil => intro d e _; unfold wiD; rfl
  | cons k ks ih =>
    intro d e he
    obtain ⟨ds, f, rfl, hk, hf⟩ := in_cons he
    rw [wi_cons hk]
    show (decide _ && (ds.take k ++ [wiD f ks (.bool b)] ++ ds.drop (k + 1)).all (pl71 ks.length)) = false
    rw [List.all_append, List.all_append]
    show (_ && (_ && (pl71 ks.length (wiD f ks (.bool b)) && true) && _)) = false
    rw [ih hf, Bool.false_and, Bool.and_false, Bool.false_and, Bool.and_false]
theorem no_calls71 {n : Nat} {b : Bool} {d e : PyData} {ks : List Nat} (h : inD d ks = some e) : callsP n (wiD d ks (.bool b)) = false := by
  cases q : callsP n (wiD d ks (.bool b)) with
  | false => rfl
  | true => have := pl_calls71 q ks.length; rw [pl_bool71 h] at this; cases this
theorem no_board71 {b : Bool} {d e : PyData} {ks : List Nat} (h : inD d ks = some e) : boardP (wiD d ks (.bool b)) = false := by
  cases q : boardP (wiD d ks (.bool b)) with
  | false => rfl
  | true => have := pl_board71 q ks.length; rw [pl_bool71 h] at this; cases this
theorem len_wi71 {ks : List Nat} {d e o : PyData} (h : inD d ks = some e) : lenD (wiD d ks o) ≤ max (lenD d) (lenD o) := by
  cases ks with
  | nil => rw [show wiD d [] o = o from by unfold wiD; rfl]; exact Nat.le_max_right ..
  | cons k ks =>
    obtain ⟨ds, f, rfl, hk, hf⟩ := in_cons h
    rw [wi_cons hk]
    have := (List.getElem?_eq_some_iff.mp hk).1
    show (ds.take k ++ [wiD f ks o] ++ ds.drop (k + 1)).length ≤ max ds.length (lenD o)
    simp only [List.length_append, List.length_take, List.length_drop, List.length_cons, List.length_nil]
    omega
theorem gd_in71 {n k w : Nat} {ks : List Nat} : ∀ {d e : PyData}, GdD n k w d → inD d ks = some e → GdD n k w e := by
  induction ks with
  | nil => intro d e h he; rw [← Option.some.inj he]; exact h
  | cons j ks ih =>
    intro d e h he
    obtain ⟨ds, f, rfl, hk, hf⟩ := in_cons he
    have dm := dp_mem71 hk
    have wm := wt_mem71 hk
    have h1 := h.dp
    have h2 : wtOs ds + 3 ≤ w := h.wt
    exact ih ⟨leDs_iff.mp (show leDs _ ds = true from h.le) f (List.mem_of_getElem? hk), by omega, by omega⟩ hf
theorem wt_cut71 {ds : List PyData} {f : PyData} {j : Nat} (h : ds[j]? = some f) : wtOs (ds.take j) + (wtO f + 2) + wtOs (ds.drop (j + 1)) = wtOs ds := by
  have e1 := wt_take71 h
  have e2 : wtOs (ds.take (j + 1)) + wtOs (ds.drop (j + 1)) = wtOs ds := by rw [← wtOs_append, List.take_append_drop]
  omega
theorem gd_wi71 {n : Nat} {o : PyData} {k' w' : Nat} (ho : GdD n k' w' o) {ks : List Nat} : ∀ {k w : Nat} {d e : PyData}, GdD n k w d → inD d ks = some e → GdD n (k + k') (w + w') (wiD d ks o) := by
  induction ks with
  | nil => intro k w d e h he; rw [show wiD d [] o = o from by unfold wiD; rfl]; exact ho.mono (Nat.le_refl _) (by omega) (by omega)
  | cons j ks ih =>
    intro k w d e h he
    obtain ⟨ds, f, rfl, hk, hf⟩ := in_cons he
    rw [wi_cons hk]
    have dm := dp_mem71 hk
    have hd0 := h.dp
    have h2 : wtOs ds + 3 ≤ w := h.wt
    have hle : leDs _ ds = true := h.le
    have hda : PyData.depthAll ds + 1 ≤ k := h.dp
    have wc := wt_cut71 hk
    have g := ih (k := k - 1) (w := wtO f) (d := f) ⟨leDs_iff.mp hle f (List.mem_of_getElem? hk), by omega, Nat.le_refl _⟩ hf
    have gw := g.wt
    refine ⟨?_, ?_, ?_⟩
    · show leDs _ (ds.take j ++ [wiD f ks o] ++ ds.drop (j + 1)) = true
      refine leDs_append (leDs_append (leDs_iff.mpr fun x hx => leDs_iff.mp hle x (List.mem_of_mem_take hx)) ?_) (leDs_iff.mpr fun x hx => leDs_iff.mp hle x (List.mem_of_mem_drop hx))
      exact leDs_iff.mpr fun x hx => by rw [List.mem_singleton.mp hx]; exact g.le
    · show PyData.depthAll (ds.take j ++ [wiD f ks o] ++ ds.drop (j + 1)) + 1 ≤ k + k'
      have : PyData.depthAll (ds.take j ++ [wiD f ks o] ++ ds.drop (j + 1)) ≤ k - 1 + k' := depthAll_le.mpr fun x hx => by
        have all := depthAll_le.mp (Nat.le_refl (PyData.depthAll ds))
        rcases List.mem_append.mp hx with hx | hx
        · rcases List.mem_append.mp hx with hx | hx
          · have := all x (List.mem_of_mem_take hx); omega
          · rw [List.mem_singleton.mp hx]; exact g.dp
        · have := all x (List.mem_of_mem_drop hx); omega
      omega
    · show wtOs (ds.take j ++ [wiD f ks o] ++ ds.drop (j + 1)) + 3 ≤ w + w'
      rw [wtOs_append, wtOs_append]
      show wtOs (ds.take j) + (wtO (wiD f ks o) + 2 + 0) + wtOs (ds.drop (j + 1)) + 3 ≤ w + w'
      omega
theorem boardP_ints71 {b : List Int} (b1 : 1 ≤ b.length) (b16 : b.length ≤ 16) : boardP (.tuple (b.map PyData.int)) = true := by
  show (decide (1 ≤ (b.map PyData.int).length) && (decide ((b.map PyData.int).length ≤ 16) && (b.map PyData.int).all wholeD)) = true
  rw [List.length_map, decide_eq_true b1, decide_eq_true b16, List.all_map]
  exact List.all_eq_true.mpr fun _ _ => rfl
theorem gd_calls71 {cs : List Call72} (c42 : cs.length ≤ 42) (bd : ∀ c ∈ cs, Cb72 (10 ^ 29) c) : GdD 5 4 900000 (.tuple (cs.map callD)) := by
  refine ⟨?_, ?_, ?_⟩
  · show leDs _ (cs.map callD) = true
    rw [leDs_iff]
    intro y hy
    obtain ⟨c, hc, rfl⟩ := List.mem_map.mp hy
    exact le_call72 ((bd c hc).mono (by decide))
  · have : PyData.depthAll (cs.map callD) ≤ 2 := depthAll_le.mpr fun y hy => by
      obtain ⟨v, _, rfl⟩ := List.mem_map.mp hy
      exact dp_call72 v
    show PyData.depthAll (cs.map callD) + 1 ≤ 4
    omega
  · have w2 := wt_le72 (w := 20000) (ds := cs.map callD) (fun d h => by obtain ⟨v, _, rfl⟩ := List.mem_map.mp h; exact wt_call72 v)
    rw [List.length_map] at w2
    have m2 : cs.length * (20000 + 2) ≤ 42 * (20000 + 2) := Nat.mul_le_mul_right _ c42
    show wtOs (cs.map callD) + 3 ≤ 900000
    omega
theorem pl_dcalls71 {cs : List Call72} (c42 : cs.length ≤ 42) : Pl71 (.tuple (cs.map callD)) := pl_tup71 (by rw [List.length_map]; exact c42) fun d hd => by
  obtain ⟨c, _, rfl⟩ := List.mem_map.mp hd
  exact pl_call71 c
def whole71 (b : List Int) (d : PyData) : PyData := .tuple [.tuple (b.map PyData.int), d]
theorem shows71 {b : List Int} {d : PyData} (b16 : b.length ≤ 16) (bb : ∀ v ∈ b, N27 v) (g : GdD 10 10 3000000 d) :
    (whole71 b d).showable = true ∧ (whole71 b d).depth ≤ 60 ∧ (whole71 b d).shown.length ≤ sizeLine := by
  have hB : (10 : Int) ^ 30 + 10 ≤ Bg := Bg_le (n := 10) (by decide)
  have s : (whole71 b d).showable = true := by
    refine showable_le hB ?_
    show leDs _ [.tuple (b.map PyData.int), d] = true
    rw [leDs_iff]
    intro x hx
    rcases List.mem_cons.mp hx with rfl | hx
    · show leDs _ (b.map PyData.int) = true
      rw [leDs_iff]
      intro y hy
      obtain ⟨v, hv, rfl⟩ := List.mem_map.mp hy
      refine le_int72 ?_
      have := bb v hv
      unfold N27 at this
      omega
    rw [List.mem_singleton.mp hx]
    exact g.le
  refine ⟨s, ?_, ?_⟩
  · have : PyData.depthAll (b.map PyData.int) ≤ 0 := depthAll_le.mpr fun y hy => by
      obtain ⟨v, _, rfl⟩ := List.mem_map.mp hy
      exact Nat.le_refl _
    have := g.dp
    show max (PyData.depthAll (b.map PyData.int) + 1) (max d.depth 0) + 1 ≤ 60
    omega
  · refine Nat.le_trans (shown_le s) ?_
    have w1 := wt_le72 (w := 1921) (ds := b.map PyData.int) (fun d h => by obtain ⟨v, _, rfl⟩ := List.mem_map.mp h; exact Nat.le_refl _)
    rw [List.length_map] at w1
    have m1 : b.length * (1921 + 2) ≤ 16 * (1921 + 2) := Nat.mul_le_mul_right _ b16
    have := g.wt
    have e : wtO (whole71 b d) = (wtOs (b.map PyData.int) + 3) + 2 + (wtO d + 2 + 0) + 3 := rfl
    have : (16000000 : Nat) ≤ sizeLine := by decide
    omega
theorem told_calls71 {a b c d e : Int} (ha : a = 0 ∨ a = 1) (hb : b = 0 ∨ b = 1) (hd : d = 0 ∨ d = 1) : callsP 2 (.tuple ([(⟨a, b, ⟨c, some 0, some 1⟩, d, 1, e⟩ : Call72)].map callD)) = true := by
  rcases ha with rfl | rfl <;> rcases hb with rfl | rfl <;> rcases hd with rfl | rfl <;> rfl
theorem six71 {ns : List Int} (h : ns.length = 6) (hb : ∀ n ∈ ns, n = 0 ∨ n = 1) : ∃ a b c d e f : Int, ns = [a, b, c, d, e, f] ∧ (a = 0 ∨ a = 1) ∧ (b = 0 ∨ b = 1) ∧ (c = 0 ∨ c = 1) ∧ (d = 0 ∨ d = 1) ∧ (e = 0 ∨ e = 1) ∧ (f = 0 ∨ f = 1) := by
  match ns, h with
  | [a, b, c, d, e, f], _ => exact ⟨a, b, c, d, e, f, rfl, hb a (by simp), hb b (by simp), hb c (by simp), hb d (by simp), hb e (by simp), hb f (by simp)⟩
theorem dp_board71 (b : List Int) : (PyData.tuple (b.map PyData.int)).depth < 6 := by
  have : PyData.depthAll (b.map PyData.int) ≤ 0 := depthAll_le.mpr fun y hy => by
    obtain ⟨v, _, rfl⟩ := List.mem_map.mp hy
    exact Nat.le_refl _
  show PyData.depthAll (b.map PyData.int) + 1 < 6
  omega
theorem dp_calls71 (cs : List Call72) : (PyData.tuple (cs.map callD)).depth < 6 := by
  have : PyData.depthAll (cs.map callD) ≤ 2 := depthAll_le.mpr fun y hy => by
    obtain ⟨v, _, rfl⟩ := List.mem_map.mp hy
    exact dp_call72 v
  show PyData.depthAll (cs.map callD) + 1 < 6
  omega
theorem wt_calls71 (c : Call72) : wtO (PyData.tuple ([c].map callD)) ≤ 900000 := by
  have w1 := wt_le72 (w := 20000) (ds := [c].map callD) (fun d h => by obtain ⟨v, _, rfl⟩ := List.mem_map.mp h; exact wt_call72 v)
  have e : ([c].map callD).length = 1 := rfl
  rw [e] at w1
  show wtOs ([c].map callD) + 3 ≤ 900000
  omega
theorem wt_board71 (x y : Int) : wtO (PyData.tuple ([x, y].map PyData.int)) ≤ 900000 := by
  have w1 := wt_le72 (w := 1921) (ds := [x, y].map PyData.int) (fun d h => by obtain ⟨v, _, rfl⟩ := List.mem_map.mp h; exact Nat.le_refl _)
  have e : ([x, y].map PyData.int).length = 2 := rfl
  rw [e] at w1
  show wtOs ([x, y].map PyData.int) + 3 ≤ 900000
  omega
theorem vac_paths71 {K : PySem.W.Frag} : ∀ vs H Q E, ¬ sp_paths71 0 K vs H Q E := by
  rintro vs H Q E ⟨x, rfl, d, m, _, h, _⟩
  exact Nat.not_lt_zero _ h
theorem vac_with71 {K : PySem.W.Frag} : ∀ vs H Q E, ¬ sp_with71 0 K vs H Q E := by
  rintro vs H Q E ⟨x, y, z, rfl, d, m, r, ks, o, _, _, _, _, _, h, _⟩
  exact Nat.not_lt_zero _ h
def sp_call71 (K : PySem.W.Frag) : Sp := sp3 fun x y z H Q => ∃ (p : Addr) (j n : Nat) (w : Bool), x = .ref p ∧ y = .int j ∧ z = .bl w ∧ Pot H p ∧ j < n ∧ n ≤ 16 ∧ ∀ (c : Call72) v H', CallOk72 n c → Cb72 (10 ^ 29) c → Grow [p] H H' → Pot H' p → CallAt72 K H' v c → Q v H'
def sp_some71 (K : PySem.W.Frag) : Sp := sp1 fun x H Q => ∃ p, x = .ref p ∧ Pot H p ∧ ∀ (b : List Int) (cs : List Call72) (r : Addr) (vb vc : V) H', 1 ≤ b.length → b.length ≤ 16 → (∀ v ∈ b, N27 v) → cs.length ≤ 42 → (∀ c ∈ cs, CallOk72 b.length c) → (∀ c ∈ cs, Cb72 (10 ^ 29) c) →
  Grow [p] H H' → Pot H' p → SqT K H' r [vb, vc] → BoardAt K H' vb b → CallsAt72 K H' vc cs → Q (.ref r) H'
def Oth71 (K : PySem.W.Frag) (m : List Addr) (H : Hp) (z : V) : Prop := ∃ e, Od K m H z e ∧ GdD 10 6 2000000 e ∧ lenD e ≤ 500
theorem Oth71.grow {K : PySem.W.Frag} {m : List Addr} {H H' : Hp} {z : V} (h : Oth71 K m H z) (g : Grow m H H') : Oth71 K m H' z := by
  obtain ⟨e, o, r⟩ := h
  exact ⟨e, o.grow g, r⟩
def okO71 (d : PyData) : Prop := GdD 10 6 2000000 d ∧ lenD d ≤ 500
def okB71 (d : PyData) : Bool := leD (10 ^ 30) d && (decide (d.depth ≤ 6) && (decide (wtO d ≤ 2000000) && decide (lenD d ≤ 500)))
theorem okB_ok71 {d : PyData} (h : okB71 d = true) : okO71 d := by
  unfold okB71 at h
  simp only [Bool.and_eq_true, decide_eq_true_eq] at h
  exact ⟨⟨leD_mono (by omega) h.1, h.2.1, h.2.2.1⟩, h.2.2.2⟩
def L71a : List PyData := [.none, .bool true, .bool false, .str "0", .str "", .int (-1), .int 15, .int 16, .int 0, .int 1, .int 6, .list [], .tuple [], .dict [], .int (10 ^ (29 : Int).toNat)]
def L71b : List PyData := [.tuple [.int 0, .none, .none], .tuple [.int 1, .int 3, .int 3], .tuple [.int 0, .int 4, .int 3]]
theorem L71_ok : (L71a ++ L71b).all okB71 = true := by decide +kernel
theorem ods_oth71 {K : PySem.W.Frag} {m : List Addr} {H : Hp} {xs : List V} {ds : List PyData} (h : Ods K m H xs ds) (ok : ∀ e ∈ ds, okO71 e) : ∀ z ∈ xs, Oth71 K m H z := fun z hz => by
  obtain ⟨i, hi, rfl⟩ := List.getElem_of_mem hz
  obtain ⟨d, hd, o⟩ := h.get (List.getElem?_eq_getElem hi)
  exact ⟨d, o, ok d (List.mem_of_getElem? hd)⟩
theorem ofStr_lt71 {s : String} {c : Nat} (h : c ∈ (Str.ofString s).cps.toList) : c < 16 ^ 8 := by
  have h' : c ∈ cpsOfBytes 0 0 s.toByteArray.data.toList := by
    unfold Str.ofString at h
    simpa using h
  rw [cpsOfBytes_string] at h'
  obtain ⟨a, _, rfl⟩ := List.mem_map.mp h'
  exact a.val.toNat_lt
theorem digits_repr71 {i : Int} (h : i.natAbs.log2 < 1920) : wtO (.str (toString i)) ≤ 20000 := by
  have h1 := int_text_len_1921 h
  have h2 : (reprText ((toString i : String) : Str)).length ≤ 10 * ((toString i : String) : Str).length + 2 := PySem.StrLaws.reprText_len _ fun c hc => ofStr_lt71 hc
  show (reprText ((toString i : String) : Str)).length ≤ 20000
  omega
theorem Ods.rev71 {K : PySem.W.Frag} {m : List Addr} {H : Hp} : ∀ {xs : List V} {ds : List PyData}, Ods K m H xs ds → Ods K m H xs.reverse ds.reverse
  | _, _, .nil => .nil
  | _, _, .cons o os => by rw [List.reverse_cons, List.reverse_cons]; exact (Ods.rev71 os).append (.cons o .nil)
theorem gs_cut71 {n k w : Nat} {ds : List PyData} {lo hi : Option Int} (h : GdS n k w ds) : GdS n k w (cutD ds lo hi) :=
  h.sub (fun x hx => List.mem_of_mem_drop (List.mem_of_mem_take hx)) (Nat.le_trans (wtOs_take _) (wtOs_drop _))
theorem len_cut71 {ds : List PyData} {lo hi : Option Int} : (cutD ds lo hi).length ≤ ds.length := by
  unfold cutD
  rw [List.length_take, List.length_drop]; omega
theorem wt_rev71 : ∀ {ds : List PyData}, wtOs ds.reverse = wtOs ds
  | [] => rfl
  | d :: ds => by
    rw [List.reverse_cons, wtOs_append, wt_rev71 (ds := ds)]
    show wtOs ds + (wtO d + 2 + 0) = wtO d + 2 + wtOs ds
    omega
theorem gs_rev71 {n k w : Nat} {ds : List PyData} (h : GdS n k w ds) : GdS n k w ds.reverse := h.sub (fun x hx => List.mem_reverse.mp hx) (Nat.le_of_eq wt_rev71)
theorem ok_tup71 {k w : Nat} {ds : List PyData} (h : GdS 5 k w ds) (hk : k ≤ 5) (hw : w ≤ 1900000) (hl : ds.length ≤ 500) : okO71 (.tuple ds) := ⟨h.tup.mono (by omega) (by omega) (by omega), hl⟩
def sp_others71 (K : PySem.W.Frag) : Sp := sp1 fun x H Q => ∃ (d : PyData) (m : List Addr), Od K m H x d ∧ Pl71 d ∧ GdD 5 4 900000 d ∧ lenD d ≤ 200 ∧ (∀ a ∈ m, H a ≠ none) ∧
  ∀ l zs H', Grow [] H H' → H l = none → H' l = some (.lst zs) → (∀ z ∈ zs, Oth71 K m H' z) → 0 < zs.length → zs.length ≤ 100 → Q (.ref l) H'
def Nob71 (K : PySem.W.Frag) (m : List Addr) (H : Hp) (z : V) : Prop := ∃ e, Od K m H z e ∧ boardP e = false ∧ lenD e ≤ 1000
theorem Nob71.grow {K : PySem.W.Frag} {m : List Addr} {H H' : Hp} {z : V} (h : Nob71 K m H z) (g : Grow m H H') : Nob71 K m H' z := by
  obtain ⟨e, o, r⟩ := h
  exact ⟨e, o.grow g, r⟩
theorem nob_all71 {ds : List PyData} (h : ds.all wholeD = false) : boardP (.tuple ds) = false := by
  show (decide _ && (decide _ && ds.all wholeD)) = false
  rw [h, Bool.and_false, Bool.and_false]
theorem nob_len71 {ds : List PyData} (h : 16 < ds.length) : boardP (.tuple ds) = false := by
  show (decide _ && (decide (ds.length ≤ 16) && _)) = false
  rw [decide_eq_false (show ¬ ds.length ≤ 16 by omega), Bool.false_and, Bool.and_false]
theorem ods_ints71 {K : PySem.W.Frag} {m : List Addr} {H : Hp} : ∀ {b : List Int}, Ods K m H (b.map V.int) (b.map PyData.int)
  | [] => .nil
  | _ :: _ => .cons (.int _) ods_ints71
theorem Ods.rep71 {K : PySem.W.Frag} {m : List Addr} {H : Hp} {xs : List V} {ds : List PyData} (h : Ods K m H xs ds) : ∀ k : Nat, Ods K m H (List.replicate k xs).flatten (List.replicate k ds).flatten
  | 0 => .nil
  | k + 1 => by rw [List.replicate_succ, List.replicate_succ]; exact h.append (Ods.rep71 h k)
def sp_nob71 (K : PySem.W.Frag) : Sp := sp1 fun x H Q => ∃ (b : List Int) (m : List Addr), BoardAt K H x b ∧ 1 ≤ b.length ∧ b.length ≤ 16 ∧ (∀ a ∈ m, H a ≠ none) ∧
  ∀ l zs H', Grow [] H H' → H l = none → H' l = some (.lst zs) → (∀ z ∈ zs, Nob71 K m H' z) → zs.length = 14 → Q (.ref l) H'
def sp_truths71 (K : PySem.W.Frag) : Sp := sp1 fun x H Q => ∃ (d : PyData) (m : List Addr), Od K m H x d ∧ Pl71 d ∧ d.depth < 6 ∧ wtO d ≤ 900000 ∧
  ∀ l zs H', Grow [] H H' → H' l = some (.lst zs) → (∀ z ∈ zs, ∃ e ks f b, Od K m H' z e ∧ e = wiD d ks (.bool b) ∧ inD d ks = some f) → zs.length ≤ 900001 → Q (.ref l) H'
def sp_right71 (K : PySem.W.Frag) : Sp := sp3 fun x y z H Q => ∃ (p : Addr) (b : List Int) (cs : List Call72), x = .ref p ∧ Pot H p ∧ BoardAt K H y b ∧ 1 ≤ b.length ∧ b.length ≤ 16 ∧ (∀ v ∈ b, N27 v) ∧ CallsAt72 K H z cs ∧ cs.length ≤ 42 ∧ (∀ c ∈ cs, Cb72 (10 ^ 29) c) ∧ ∀ H', Grow [p] H H' → Pot H' p → Q (.bl true) H'
def sp_ttold71 (K : PySem.W.Frag) : Sp := sp1 fun x H Q => ∃ p, x = .ref p ∧ Pot H p ∧ ∀ H', Grow [p] H H' → Pot H' p → Q (.bl true) H'
end L3

namespace My
open PySem PySem.Spec PyProof.Rows L2 L3
def top (i : Nat) : Stmt := PySem.Challenge.pw_joinedasks_k71_calls_known.main.body.getD i (.Pass ⟨0, 0, 0, 0⟩)
section
variable {P : Program} {w : World} {K : PySem.W.Frag} {mg : Str → Option Value} {base : Heap}
theorem sc__law_paths : FnScope ["_law_thing", "_law_found", "_law_k", "_law_one"] ["_law_thing"] (defScope (top 35)) := ⟨rfl, rfl, rfl, by decide +kernel, rfl, by decide +kernel, by decide +kernel⟩
set_option maxHeartbeats 0 in
theorem ok__law_paths {n : Nat} {f : Addr} {fd : FuncData} (F : Fun K "_law_paths" "_law_paths" (top 35) f fd) (B : Blt mg) {N : Nat} (c__law_paths : Callee P w K mg base n "_law_paths" ["_law_thing"] (sp_paths71 N K)) (g_enumerate : mg "enumerate" = none)   :
    FnOk P w K mg base CX0 (n + 1) f fd ["_law_thing"] (sp_paths71 (N + 1) K) := by
  refine F.ok sc__law_paths sp1_len (fun cdv A outer s H vs Q E hr h => ?_)
  obtain ⟨x, rfl, d, m, hd, hN, h50, hw, q⟩ := h
  refine ⟨_, (pss_cons (ps_set (i := 1) sc__law_paths.nd rfl (Or.inl rfl) (pe_lst (pa_cons (pe_tup pa_nil) pa_nil))) (pss_cons (ps_if (pt_val (pe_callB (call_isiO (K := K) rfl) rfl B.isinstance b_isinstance (pa_cons (pv 0) (pa_cons (pe_tyn rfl B.tuple b_tuple) pa_nil)))) (pss_one (ps_for PassesOwn.never rfl (pi_enumC true (K := K) rfl rfl g_enumerate (pa_cons (pv 0) pa_nil)) (pg_tup rfl (pgs_cons (pg_name (i := 2) sc__law_paths.nd rfl (Or.inr rfl)) (pgs_cons (pg_name (i := 3) sc__law_paths.nd rfl (Or.inl rfl)) pgs_nil))) (pss_one (ps_expr (pe_bm PySem.F.plainAttrs_list PySem.F.slot_list_extend PySem.F.type_list_extend mt_extend (pv 1) (pa_cons (pe_compT (CSc.of (N' := ["_law_path", "_law_k"]) (sub := [none, some 2]) (defScope (top 35)) ["_law_thing", "_law_found", "_law_k", "_law_one"] rfl rfl (by decide +kernel) rfl) rfl (pi_list (pe_callC c__law_paths hr rfl (pa_cons (pv 3) pa_nil))) (fun _ _ _ _ _ _ => pg_name (i := 0) (show (["_law_path", "_law_k"] : List Str).Nodup by decide +kernel) rfl (Or.inl rfl)) (fun _ _ _ _ _ _ => pifs_nil) (fun _ _ _ _ _ _ => (pe_op (op_catG (K := K) rfl) (pe_tup (pa_cons (pv 1) pa_nil)) (pv 0)))) pa_nil)))))) pss_nil) (pss_one (ps_ret (pv 1))))), ?_⟩
  refine c_asg (fun v H' => ∃ (l t0 : Addr), v = .ref l ∧ H l = none ∧ H' l = some (.lst [.ref t0]) ∧ SqT K H' t0 [] ∧ Grow [] H H') (fun Kk hk => ⟨szl rfl, fun t0 ht0 => ⟨szl rfl, fun l hl => hk _ _ ⟨l, t0, rfl, (Grow.new (m := []) ht0 _).free (by simp) hl, upd_same, (Grow.new (m := []) hl _).sqT (SqT.of upd_same), (Grow.new ht0 _).trans (Grow.new hl _)⟩⟩⟩) ?_
  rintro _ H1 ⟨l, t0, rfl, nl, hl1, ht0, g1⟩
  have p0 : PathsAt K H1 d [.ref t0] := fun z hz => ⟨t0, [], List.mem_singleton.mp hz, ht0, by unfold inD; rfl⟩
  refine c_if (fun σ' H' => ∃ (zs : List V) (e2 e3 : Option V), σ' = [some x, some (.ref l), e2, e3] ∧ H' l = some (.lst zs) ∧ PathsAt K H' d zs ∧ zs.length ≤ wtO d + 1 ∧ 0 < zs.length ∧ Grow [l] H H') ?_ (fun hk => ?_)
  rotate_left
  · have hd1 := (hd.more nl).grow (g1.wk (m := l :: m))
    refine ⟨_, rfl, _, d, l :: m, _, _, rfl, hd1, kit_tup72 d, _, rfl, ?_⟩
    cases ht : isT72 d with
    | false => exact iteF (hk _ _ ⟨_, _, _, rfl, hl1, p0, by show 1 ≤ _; omega, Nat.zero_lt_one, g1.wk⟩)
    | true =>
      refine iteT ?_
      obtain ⟨a, xs, ds, rfl, rfl, hs, os⟩ := od_tup72 hd1 ht
      have xl := os.length
      have wl := wt_len71 (ds := ds)
      have hw' : wtOs ds + 3 ≤ 3000000 := hw
      refine ⟨_, rfl, a, _, rfl, hs, for_enumC (xs := xs) (fun i σ H' => ∃ (zs : List V) (e2 e3 : Option V), σ = [some (.ref a), some (.ref l), e2, e3] ∧ H' l = some (.lst zs) ∧ PathsAt K H' (.tuple ds) zs ∧ zs.length ≤ wtOs (ds.take i) + 1 ∧ 0 < zs.length ∧ Grow [l] H1 H') ⟨_, _, _, rfl, hl1, p0, by show 1 ≤ _; omega, Nat.zero_lt_one, Grow.refl _ _⟩ (fun i σ H' _ ⟨_, _, _, _, _, _, _, _, g⟩ => (g.sqT hs : SqT K H' a xs)) ?_ ?_⟩
      · rintro i v σ H2 T hv ⟨zs, e2, e3, rfl, hl2, pz, zl, z0, g2⟩ hT
        obtain ⟨e, he, _⟩ := os.get hv
        have gT := Grow.new (m := []) hT (.tup [.int i, v])
        have wm := wt_mem71 he
        have dm := dp_mem71 he
        have wt1 := wt_take71 he
        have wtl := wtOs_take (xs := ds) (i + 1)
        have ov : Od K (l :: m) (upd H2 T (.tup [.int i, v])) v e := by
          obtain ⟨e', he', oe'⟩ := os.get hv
          obtain rfl : e' = e := Option.some.inj (he'.symm.trans he)
          exact oe'.grow ((g2.mono (m' := l :: m) (by simp)).trans (gT.wk (m := l :: m)))
        have hl3 := gT.keep _ _ (by simp) hl2
        have hi := (List.getElem?_eq_some_iff.mp he).1
        refine ⟨T, _, rfl, SqT.of upd_same, rfl, _, _, rfl, _, _, rfl, rfl, ?_⟩
        refine ⟨_, rfl, .inl ⟨rfl, _, SqL.of hl3⟩, _, rfl, _, rfl, e, l :: m, ov, by omega, by omega, by omega, fun l2 zs2 H3 g3 n2 h2 pz2 zl2 z02 => ⟨l2, rfl, ⟨_, SqL.of h2⟩, comp_listP (xs := zs2) (fun n ys H' => PathsAt K H' (.tuple ds) ys ∧ ys.length = n ∧ Grow [] H3 H') ⟨(fun _ h => nomatch h), rfl, Grow.refl _ _⟩ (fun n ys H' z => SqL.of (z.2.2.keep _ _ (by simp) h2)) ?_ ?_⟩⟩
        · rintro n z ys H4 hz ⟨py, yl, g4⟩
          have hn := (List.getElem?_eq_some_iff.mp hz).1
          obtain ⟨r, ks, rfl, hr4, vk⟩ := (pz2.grow g4) z (List.mem_of_getElem? hz)
          have kl := in_len vk
          refine ⟨_, rfl, szl rfl, fun t ht => ⟨_, rfl, t, r, _, _, rfl, rfl, SqT.of upd_same, (Grow.new (m := []) ht _).sqT hr4, leS71 (by rw [natsV_len]; show 1 + _ ≤ 7000000; omega), fun p4 H5 g5 h5 => ⟨ltS71 (by omega), fun w hw => ?_, by rw [List.length_append, List.length_singleton, yl], g4.trans ((Grow.new ht _).trans g5)⟩⟩⟩
          rcases List.mem_append.mp hw with hw | hw
          · exact (py.grow ((Grow.new (m := []) ht _).trans g5)) w hw
          · exact ⟨p4, i :: ks, List.mem_singleton.mp hw, h5, in_step he vk⟩
        · rintro ys H4 ⟨py, yl, g4⟩ l5 hl5
          have g5 := Grow.new (m := []) hl5 (.lst ys)
          have Ga := gT.trans (g3.trans (g4.trans g5))
          have hl6 := Ga.keep _ _ (by simp) hl2
          refine ⟨l, l5, zs, ys, rfl, rfl, hl6, upd_same, leS71 (by omega), ?_⟩
          have gs := Grow.set (m := [l]) hl6 (by simp) (zs ++ ys)
          refine ⟨zs ++ ys, _, _, rfl, upd_same, fun w hw => ?_, by rw [List.length_append]; omega, by rw [List.length_append]; omega, g2.trans (Ga.wk.trans gs)⟩
          rcases List.mem_append.mp hw with hw | hw
          · exact (pz.grow (Ga.wk.trans gs)) w hw
          · exact (py.grow (g5.wk.trans gs)) w hw
      · rintro σ H2 ⟨zs, e2, e3, rfl, hl2, pz, zl, z0, g2⟩
        rw [xl, List.take_length] at zl
        exact hk _ _ ⟨zs, _, _, rfl, hl2, pz, by show _ ≤ wtOs ds + 3 + 1; omega, z0, g1.wk.trans g2⟩
  rintro _ H2 ⟨zs, e2, e3, rfl, hl2, pz, zl, z0, g2⟩
  exact ⟨_, rfl, q l zs _ (Grow.shrink nl g2) nl hl2 pz zl z0⟩
theorem sc__law_is_whole : FnScope ["_law_thing"] ["_law_thing"] (defScope (top 39)) := ⟨rfl, rfl, rfl, by decide +kernel, rfl, by decide +kernel, by decide +kernel⟩
set_option maxHeartbeats 0 in
theorem ok__law_is_whole {n : Nat} {f : Addr} {fd : FuncData} (F : Fun K "_law_is_whole" "_law_is_whole" (top 39) f fd) (B : Blt mg)     :
    FnOk P w K mg base CX0 (n + 1) f fd ["_law_thing"] (sp_is_wholeO K) := by
  refine F.ok sc__law_is_whole sp1_len (fun cdv A outer s H vs Q E hr h => ?_)
  obtain ⟨x, rfl, d, m, hd, q⟩ := h
  refine ⟨_, (pss_one (ps_ret (pe_and (pe_callB (call_isiO (K := K) rfl) rfl B.isinstance b_isinstance (pa_cons (pv 0) (pa_cons (pe_tyn rfl B.int b_int) pa_nil))) (pe_one (pe_not (pe_callB (call_isiO (K := K) rfl) rfl B.isinstance b_isinstance (pa_cons (pv 0) (pa_cons (pe_tyn rfl B.bool b_bool) pa_nil)))))))), ?_⟩
  refine ⟨_, rfl, _, d, m, _, _, rfl, hd, kit_int, _, rfl, ?_⟩
  cases d with
  | int i => exact iteT ⟨_, rfl, _, _, m, _, _, rfl, hd, kit_bool, _, rfl, q⟩
  | bool b => exact iteT ⟨_, rfl, _, _, m, _, _, rfl, hd, kit_bool, _, rfl, q⟩
  | _ => exact iteF q
theorem sc__law_with : FnScope ["_law_thing", "_law_path", "_law_other"] ["_law_thing", "_law_path", "_law_other"] (defScope (top 37)) := ⟨rfl, rfl, rfl, by decide +kernel, rfl, by decide +kernel, by decide +kernel⟩
set_option maxHeartbeats 0 in
theorem ok__law_with {n : Nat} {f : Addr} {fd : FuncData} (F : Fun K "_law_with" "_law_with" (top 37) f fd) (B : Blt mg) {N : Nat} (c__law_with : Callee P w K mg base n "_law_with" ["_law_thing", "_law_path", "_law_other"] (sp_with71 N K))    :
    FnOk P w K mg base CX0 (n + 1) f fd ["_law_thing", "_law_path", "_law_other"] (sp_with71 (N + 1) K) := by
  refine F.ok sc__law_with sp3_len (fun cdv A outer s H vs Q E hr h => ?_)
  obtain ⟨x, y, z, rfl, d, m, r, ks, o, hd, rfl, hr0, he, ho, hN, hw, q⟩ := h
  refine ⟨_, (pss_cons (ps_if (pt_cmpR (op_eqNilT72 (K := K) rfl hr) (pv 1) (pe_tup pa_nil) (nomark _)) (pss_one (ps_ret (pv 2))) pss_nil) (pss_one (ps_ret (pe_op (op_catG (K := K) rfl) (pe_op (op_catG (K := K) rfl) (pe_slice (sl_tupG (K := K) rfl) (pv 0) po_none (po_some (pe_ix ix_tup (pv 1) pe_int (fun _ _ => rfl)))) (pe_tup (pa_cons (pe_callC c__law_with hr rfl (pa_cons (pe_ix ix_tup (pv 0) (pe_ix ix_tup (pv 1) pe_int (fun _ _ => rfl)) (fun _ _ => rfl)) (pa_cons (pe_slice (sl_tupG (K := K) rfl) (pv 1) (po_some pe_int) po_none) (pa_cons (pv 2) pa_nil)))) pa_nil))) (pe_slice (sl_tupG (K := K) rfl) (pv 0) (po_some (pe_op op_add (pe_ix ix_tup (pv 1) pe_int (fun _ _ => rfl)) pe_int)) po_none))))), ?_⟩
  refine c_test (fun b H' => b = (natsV ks).isEmpty ∧ Grow [] H H') (fun Kk hk => ⟨_, rfl, szl rfl, fun t0 ht0 => ⟨r, t0, _, rfl, rfl, (Grow.new (m := []) ht0 _).sqT hr0, SqT.of upd_same, _, rfl, hk _ _ ⟨rfl, Grow.new ht0 _⟩⟩⟩) ?_
  rintro _ H1 ⟨rfl, g1⟩
  cases ks with
  | nil =>
    refine iteT ⟨_, rfl, q _ _ g1 ?_⟩
    have : wiD d [] o = o := by unfold wiD; rfl
    rw [this]
    exact ho.grow (g1.wk (m := m))
  | cons k ks =>
    refine iteF (c_next ?_)
    obtain ⟨e, he'⟩ := Option.isSome_iff_exists.mp he
    obtain ⟨ds, f, rfl, hk, hf⟩ := in_cons he'
    rw [wi_cons hk] at q
    obtain ⟨a, xs, rfl, hs, os⟩ := hd.inv_tup
    have xl := os.length
    have wl := wt_len71 (ds := ds)
    have hw' : wtOs ds + 3 ≤ 3000000 := hw
    have wm := wt_mem71 hk
    have dm := dp_mem71 hk
    have hkl : k < xs.length := by rw [xl]; exact (List.getElem?_eq_some_iff.mp hk).1
    have hx : xs[k]? = some xs[k] := List.getElem?_eq_getElem hkl
    obtain ⟨f', hf', of⟩ := os.get hx
    obtain rfl : f' = f := Option.some.inj (hf'.symm.trans hk)
    have i0 : atI (natsV (k :: ks)) 0 = some (.int k) := atI_nat (j := 0) rfl
    have cl1 := cutV_length xs
    refine ⟨_, rfl, _, rfl, r, _, _, _, rfl, rfl, g1.sqT hr0, i0, _, rfl, a, _, rfl, g1.sqT hs, fun p1 H2 g2 h2 => ?_⟩
    have G2 := g1.trans g2
    refine ⟨_, rfl, _, rfl, r, _, _, _, rfl, rfl, G2.sqT hr0, i0, a, _, _, _, rfl, rfl, G2.sqT hs, atI_nat hx, _, rfl, _, rfl, r, _, rfl, G2.sqT hr0, fun p2 H3 g3 h3 => ?_⟩
    have G3 := G2.trans g3
    have e3 : cutV (natsV (k :: ks)) (some 1) none = natsV ks := by rw [show (1 : Int) = ((1 : Nat) : Int) from rfl, cut_suf]; rfl
    rw [e3] at h3
    refine ⟨_, rfl, _, _, _, rfl, f', m, p2, ks, o, of.grow (G3.wk (m := m)), rfl, h3, by rw [hf]; rfl, ho.grow (G3.wk (m := m)), by omega, by omega, fun v H4 g4 hv => ⟨szl rfl, fun t ht => ?_⟩⟩
    have gt := Grow.new (m := []) ht (.tup [v])
    refine ⟨p1, t, _, _, rfl, rfl, (g3.trans (g4.trans gt)).sqT h2, SqT.of upd_same, ?_, fun p3 H5 g5 h5 => ?_⟩
    · have := cl1 none (some (k : Int)); exact leS71 (by show _ + 1 ≤ 7000000; omega)
    have G5 := G3.trans (g4.trans (gt.trans g5))
    refine ⟨_, rfl, _, rfl, r, _, _, _, rfl, rfl, G5.sqT hr0, i0, _, _, rfl, rfl, _, rfl, a, _, rfl, G5.sqT hs, fun p5 H6 g6 h6 => ⟨p3, p5, _, _, rfl, rfl, g6.sqT h5, h6, ?_, fun p6 H7 g7 h7 => ?_⟩⟩
    · have := cl1 none (some (k : Int)); have := cl1 (some ((k : Int) + 1)) none
      exact leS71 (by rw [List.length_append]; show _ + 1 + _ ≤ 7000000; omega)
    have G7 := G5.trans (g6.trans g7)
    rw [show (k : Int) + 1 = ((k + 1 : Nat) : Int) from by omega, cut_pre, cut_suf] at h7
    have osG := os.grow (G7.wk (m := m))
    exact q _ _ G7 (.tup h7 (((osG.take k).append (.cons (hv.grow (gt.trans (g5.trans (g6.trans g7))).wk) .nil)).append (osG.drop (k + 1))))
theorem sc__law_inner : FnScope ["_law_thing", "_law_path", "_law_k"] ["_law_thing", "_law_path"] (defScope (top 36)) := ⟨rfl, rfl, rfl, by decide +kernel, rfl, by decide +kernel, by decide +kernel⟩
set_option maxHeartbeats 0 in
theorem ok__law_inner {n : Nat} {f : Addr} {fd : FuncData} (F : Fun K "_law_inner" "_law_inner" (top 36) f fd) (B : Blt mg)     :
    FnOk P w K mg base CX0 (n + 1) f fd ["_law_thing", "_law_path"] (sp_inner71 K) := by
  refine F.ok sc__law_inner sp2_len (fun cdv A outer s H vs Q E hr h => ?_)
  obtain ⟨x, y, rfl, d, m, r, ks, e, hd, rfl, hr0, he, q⟩ := h
  refine ⟨_, (pss_cons (ps_for PassesOwn.never rfl (pi_tup (pv 1)) (pg_name (i := 2) sc__law_inner.nd rfl (Or.inl rfl)) (pss_one (ps_set (i := 0) sc__law_inner.nd rfl (Or.inl rfl) (pe_ix ix_tup (pv 0) (pv 2) (fun _ _ => rfl))))) (pss_one (ps_ret (pv 0)))), ?_⟩
  refine ⟨_, rfl, r, rfl, ⟨_, hr0⟩, for_tup (xs := natsV ks) (fun i σ H' => ∃ (v : V) (d' : PyData) (e2 : Option V), σ = [some v, some (.ref r), e2] ∧ H' = H ∧ Od K m H v d' ∧ inD d' (ks.drop i) = some e) ⟨x, d, _, rfl, rfl, hd, he⟩ (fun i σ H' _ ⟨_, _, _, _, e, _⟩ => by rw [e]; exact hr0) ?_ ?_⟩
  · rintro i z σ H' hz ⟨v, d', e2, rfl, rfl, hv, hi⟩
    obtain ⟨k, hki, rfl⟩ := natsV_at72 hz
    rw [drop_at72 hki] at hi
    obtain ⟨ds, f, rfl, hk, hf⟩ := in_cons hi
    obtain ⟨a, xs, rfl, hs, os⟩ := hv.inv_tup
    have hkl : k < xs.length := by rw [os.length]; exact (List.getElem?_eq_some_iff.mp hk).1
    have hx : xs[k]? = some xs[k] := List.getElem?_eq_getElem hkl
    obtain ⟨f', hf', of⟩ := os.get hx
    obtain rfl : f' = f := Option.some.inj (hf'.symm.trans hk)
    exact ⟨_, rfl, _, rfl, a, _, _, _, rfl, rfl, hs, atI_nat hx, ⟨_, _, _, rfl, rfl, of, hf⟩⟩
  · rintro σ H' ⟨v, d', e2, rfl, rfl, hv, hi⟩
    rw [natsV_len, List.drop_length] at hi
    obtain rfl : d' = e := Option.some.inj (by
      have : inD d' [] = some d' := by unfold inD; rfl
      exact this.symm.trans hi)
    exact ⟨_, rfl, q _ hv⟩
theorem sc__law_truths : FnScope ["_law_thing", "_law_found", "_law_path", "_law_one"] ["_law_thing"] (defScope (top 47)) := ⟨rfl, rfl, rfl, by decide +kernel, rfl, by decide +kernel, by decide +kernel⟩
set_option maxHeartbeats 0 in
theorem ok__law_truths {n : Nat} {f : Addr} {fd : FuncData} (F : Fun K "_law_truths" "_law_truths" (top 47) f fd) (B : Blt mg) (c__law_paths : Callee P w K mg base n "_law_paths" ["_law_thing"] (sp_paths71 6 K)) (c__law_is_whole : Callee P w K mg base n "_law_is_whole" ["_law_thing"] (sp_is_wholeO K)) (c__law_with : Callee P w K mg base n "_law_with" ["_law_thing", "_law_path", "_law_other"] (sp_with71 6 K)) (c__law_inner : Callee P w K mg base n "_law_inner" ["_law_thing", "_law_path"] (sp_inner71 K))    :
    FnOk P w K mg base CX0 (n + 1) f fd ["_law_thing"] (sp_truths71 K) := by
  refine F.ok sc__law_truths sp1_len (fun cdv A outer s H vs Q E hr h => ?_)
  obtain ⟨x, rfl, d, m, hd, pl, dp, wt, q⟩ := h
  refine ⟨_, (pss_cons (ps_set (i := 1) sc__law_truths.nd rfl (Or.inl rfl) (pe_lst pa_nil)) (pss_cons (ps_for PassesOwn.never rfl (pi_list (pe_callC c__law_paths hr rfl (pa_cons (pv 0) pa_nil))) (pg_name (i := 2) sc__law_truths.nd rfl (Or.inl rfl)) (pss_cons (ps_set (i := 3) sc__law_truths.nd rfl (Or.inl rfl) (pe_callC c__law_inner hr rfl (pa_cons (pv 0) (pa_cons (pv 2) pa_nil)))) (pss_one (ps_if (PW.pt (pw_and (pt_val (pe_callC c__law_is_whole hr rfl (pa_cons (pv 3) pa_nil))) (pw_and1 (pt_chain op_le op_le pe_int (pv 3) pe_int)))) (pss_one (ps_expr (pe_bm PySem.F.plainAttrs_list PySem.F.slot_list_append PySem.F.type_list_append mt_append (pv 1) (pa_cons (pe_callC c__law_with hr rfl (pa_cons (pv 0) (pa_cons (pv 2) (pa_cons (pe_cmpR op_eq (pv 3) pe_int (nomark _)) pa_nil)))) pa_nil)))) pss_nil)))) (pss_one (ps_ret (pv 1))))), ?_⟩
  refine c_asg (fun v H' => ∃ lf, v = .ref lf ∧ H lf = none ∧ H' = upd H lf (.lst [])) (fun Kk hk => ⟨szl rfl, fun lf nf => hk _ _ ⟨lf, rfl, nf, rfl⟩⟩) ?_
  rintro _ _ ⟨lf, rfl, nf, rfl⟩
  have gf := Grow.new (m := []) nf (.lst [])
  have hd1 := (hd.more nf).grow (gf.wk (m := lf :: m))
  refine ⟨_, rfl, _, rfl, d, lf :: m, hd1, dp, by omega, by omega, fun l zs H2 g2 nl hl hp zl z0 => ⟨l, rfl, ⟨_, SqL.of hl⟩, for_list (xs := zs) (fun i σ H' => ∃ (e2 e3 : Option V) (ys : List V), σ = [some x, some (.ref lf), e2, e3] ∧ H' lf = some (.lst ys) ∧ ys.length ≤ i ∧ Grow [lf] H2 H' ∧ (∀ z ∈ ys, ∃ e ks f b, Od K (lf :: m) H' z e ∧ e = wiD d ks (.bool b) ∧ inD d ks = some f)) ⟨_, _, [], rfl, g2.keep _ _ (by simp) upd_same, Nat.le_refl _, Grow.refl _ _, (fun _ h => nomatch h)⟩ (fun i σ H' _ ⟨_, _, _, _, _, _, g, _⟩ => SqL.of (g.keep _ _ (fun z => by rw [List.mem_singleton.mp z, upd_same] at nl; cases nl) hl)) ?_ ?_⟩⟩
  · rintro i v σ H3 hv ⟨e2, e3, ys, rfl, h3, yl, g3, hy⟩
    obtain ⟨r, ks, rfl, hr0, hin⟩ := hp v (List.mem_of_getElem? hv)
    obtain ⟨f, hf⟩ := Option.isSome_iff_exists.mp hin
    have hd3 : Od K (lf :: m) H3 x d := (hd1.grow g2.wk).grow (g3.mono (by simp))
    refine c_asg (fun v H' => H3 = H' ∧ Od K (lf :: m) H3 v f) (fun Kk hk => ⟨_, rfl, _, rfl, _, _, rfl, d, lf :: m, r, ks, f, hd3, rfl, g3.sqT hr0, hf, fun v hv => hk _ _ ⟨rfl, hv⟩⟩) ?_
    rintro v _ ⟨rfl, hv3⟩
    refine ⟨_, rfl, _, rfl, f, lf :: m, hv3, _, rfl, ?_⟩
    have nx : ∀ e2 e3, ∃ (e2' e3' : Option V) (ys' : List V), [some x, some (V.ref lf), e2, e3] = [some x, some (.ref lf), e2', e3'] ∧ H3 lf = some (.lst ys') ∧ ys'.length ≤ i + 1 ∧ Grow [lf] H2 H3 ∧ (∀ z ∈ ys', ∃ e ks f b, Od K (lf :: m) H3 z e ∧ e = wiD d ks (.bool b) ∧ inD d ks = some f) := fun e2 e3 => ⟨e2, e3, ys, rfl, h3, by omega, g3, hy⟩
    cases hw : wholeD f with
    | false => exact iteF (iteF (nx _ _))
    | true =>
      obtain ⟨n0, rfl⟩ := whole_int71 hw
      cases hv3.inv_int
      refine iteT ⟨_, rfl, _, _, rfl, rfl, _, rfl, ?_⟩
      by_cases h0 : 0 ≤ n0
      · refine iteT' (decide_eq_true h0) ⟨_, _, rfl, rfl, _, rfl, ?_⟩
        by_cases h1 : n0 ≤ 1
        · refine iteT' (decide_eq_true h1) ⟨_, rfl, ?_⟩
          refine ⟨.inl ⟨rfl, _, SqL.of h3⟩, _, rfl, _, rfl, _, rfl, rfl, _, _, _, rfl, d, lf :: m, r, ks, .bool (decide (V.int n0 = V.int 1)), hd3, rfl, g3.sqT hr0, hin, .bl _, dp, by omega, fun v H4 g4 o4 => ?_⟩
          have h4 := g4.keep _ _ (by simp) h3
          have gs := Grow.set (m := [lf]) h4 (by simp) (ys ++ [v])
          have G4 : Grow [lf] H3 _ := g4.wk.trans gs
          refine ⟨lf, ys, v, rfl, rfl, h4, ltS71 (by have := (List.getElem?_eq_some_iff.mp hv).1; omega), _, _, ys ++ [v], rfl, upd_same, by rw [List.length_append, List.length_singleton]; omega, g3.trans G4, fun z hz => ?_⟩
          rcases List.mem_append.mp hz with hz | hz
          · obtain ⟨e, ks', f', b', o, h⟩ := hy z hz
            exact ⟨e, ks', f', b', o.grow (G4.mono (by simp)), h⟩
          · rw [List.mem_singleton.mp hz]
            exact ⟨_, ks, _, _, o4.grow (gs.mono (by simp)), rfl, hf⟩
        · exact iteF' (decide_eq_false h1) (nx _ _)
      · exact iteF' (decide_eq_false h0) ⟨_, rfl, iteF (nx _ _)⟩
  · rintro σ H3 ⟨e2, e3, ys, rfl, h3, yl, g3, hy⟩
    refine ⟨_, rfl, q lf ys H3 ?_ h3 (fun z hz => ?_) (by omega)⟩
    · exact (gf.wk.trans (g2.wk.trans g3)).shrink nf
    · obtain ⟨e, ks, f, b, o, h⟩ := hy z hz
      exact ⟨e, ks, f, b, o.less (fun b hb => List.mem_cons_of_mem _ hb), h⟩
theorem sc__law_is_truth : FnScope ["_law_found", "_law_due"] ["_law_found", "_law_due"] (defScope (top 45)) := ⟨rfl, rfl, rfl, by decide +kernel, rfl, by decide +kernel, by decide +kernel⟩
set_option maxHeartbeats 0 in
theorem ok__law_is_truth {n : Nat} {f : Addr} {fd : FuncData} (F : Fun K "_law_is_truth" "_law_is_truth" (top 45) f fd) (B : Blt mg)     :
    FnOk P w K mg base CX0 (n + 1) f fd ["_law_found", "_law_due"] (sp_truth72 K) := by
  refine F.ok sc__law_is_truth sp2_len (fun cdv A outer s H vs Q E hr h => ?_)
  obtain ⟨x, y, rfl, b, c, rfl, rfl, q⟩ := h
  refine ⟨_, (pss_one (ps_ret (pe_and (pe_callB (call_isiK (K := K) rfl) rfl B.isinstance b_isinstance (pa_cons (pv 0) (pa_cons (pe_tyn rfl B.bool b_bool) pa_nil))) (pe_one (pe_cmpR op_eq (pv 0) (pv 1) (nomark _)))))), ?_⟩
  refine ⟨_, rfl, _, "bool", "bool", true, rfl, rfl, rfl, _, rfl, iteT ⟨_, rfl, _, rfl, rfl, ?_⟩⟩
  have e : decide (V.bl b = V.bl c) = (b == c) := by cases b <;> cases c <;> rfl
  rw [e]
  exact q
theorem sc_by_boxes : FnScope ["board", "calls", "numbers", "number", "call"] ["board", "calls"] (defScope (top 25)) := ⟨rfl, rfl, rfl, by decide +kernel, rfl, by decide +kernel, by decide +kernel⟩
set_option maxHeartbeats 0 in
theorem ok_by_boxes {n : Nat} {f : Addr} {fd : FuncData} (F : Fun K "by_boxes" "by_boxes" (top 25) f fd) (B : Blt mg)  (g_enumerate : mg "enumerate" = none)   :
    FnOk P w K mg base CX0 (n + 1) f fd ["board", "calls"] (sp_byb71 K) := by
  refine F.ok sc_by_boxes sp2_len (fun cdv A outer s H vs Q E hr h => ?_)
  obtain ⟨x, y, rfl, b, cs, hb, hc, b16, c40, ok, q⟩ := h
  refine ⟨_, (pss_cons (ps_compT (i := 2) sc_by_boxes.nd rfl rfl (CSc.of (N' := ["value"]) (sub := [none]) (defScope (top 25)) ["board", "calls", "numbers", "number", "call"] rfl rfl (by decide +kernel) rfl) rfl (pi_tup (pv 0)) (fun _ _ _ _ _ _ => pg_name (i := 0) (show (["value"] : List Str).Nodup by decide +kernel) rfl (Or.inl rfl)) (fun _ _ _ _ _ _ => pifs_nil) (fun _ _ _ _ _ _ => (pe_lst pa_nil))) (pss_cons (ps_for PassesOwn.never rfl (pi_enumC true (K := K) rfl rfl g_enumerate (pa_cons (pv 1) pa_nil)) (pg_tup rfl (pgs_cons (pg_name (i := 3) sc_by_boxes.nd rfl (Or.inl rfl)) (pgs_cons (pg_name (i := 4) sc_by_boxes.nd rfl (Or.inl rfl)) pgs_nil))) (pss_one (ps_expr (pe_bm PySem.F.plainAttrs_list PySem.F.slot_list_append PySem.F.type_list_append mt_append (pe_ix ix_list (pv 2) (pe_ix ix_tup (pv 4) pe_int (fun _ _ => rfl)) (fun _ _ => rfl)) (pa_cons (pv 3) pa_nil))))) (pss_one (ps_ret (pv 2))))), ?_⟩
  obtain ⟨rb, rfl, hrb⟩ := id hb
  obtain ⟨rc, xs, rfl, hrc, hall⟩ := id hc
  refine c_asg (fun v H' => ∃ (l : Addr) (as : List Addr), v = .ref l ∧ H' l = some (.lst (as.map V.ref)) ∧ l ∉ as ∧ H l = none ∧ as.length = b.length ∧ as.Nodup ∧ (∀ a ∈ as, H a = none ∧ H' a = some (.lst [])) ∧ Grow [] H H') (fun Kk hk => ⟨_, rfl, rb, rfl, ⟨_, hrb⟩, comp_tupP72 (xs := b.map V.int) (fun i ys H' => ∃ as : List Addr, ys = as.map V.ref ∧ as.length = i ∧ as.Nodup ∧ (∀ a ∈ as, H a = none ∧ H' a = some (.lst [])) ∧ Grow [] H H') ⟨[], rfl, rfl, List.nodup_nil, (fun a h => nomatch h), Grow.refl _ _⟩ (fun i ys H' ⟨_, _, _, _, _, g⟩ => g.sqT hrb) ?_ ?_⟩) ?_
  · rintro i x ys H' hx ⟨as, rfl, al, nd, ha, g⟩
    have hi := (List.getElem?_eq_some_iff.mp hx).1
    rw [List.length_map] at hi
    refine ⟨szl rfl, fun a h0 => ⟨lt72 (by rw [List.length_map]; omega), as ++ [a], by rw [List.map_append]; rfl, by rw [List.length_append, List.length_singleton, al], ?_, ?_, g.trans (Grow.new h0 _)⟩⟩
    · refine List.nodup_append.mpr ⟨nd, by simp, fun x hx y hy => ?_⟩
      rw [List.mem_singleton.mp hy]
      rintro rfl
      rw [(ha x hx).2] at h0; cases h0
    · intro x hx
      rcases List.mem_append.mp hx with hx | hx
      · exact ⟨(ha x hx).1, by rw [upd_ne (ne_of_none (ha x hx).2 h0)]; exact (ha x hx).2⟩
      · rw [List.mem_singleton.mp hx]
        exact ⟨g.free (by simp) h0, upd_same⟩
  · rintro ys H' ⟨as, rfl, al, nd, ha, g⟩ l hl
    rw [List.length_map] at al
    refine hk _ _ ⟨l, as, rfl, upd_same, fun z => ?_, g.free (by simp) hl, al, nd, fun a h => ⟨(ha a h).1, by rw [upd_ne (ne_of_none (ha a h).2 hl)]; exact (ha a h).2⟩, g.trans (Grow.new hl _)⟩
    rw [(ha l z).2] at hl; cases hl
  rintro _ H0 ⟨l, as, rfl, hl0, nl, nl0, al, nd, ha, g0⟩
  have xl := hall.len
  refine ⟨_, rfl, rc, _, rfl, g0.sqT hrc, for_enumC (xs := xs) (fun i σ H' => ∃ (nss : List (List Nat)) (e3 e4 : Option V), σ = [some (.ref rb), some (.ref rc), some (.ref l), e3, e4] ∧ H' l = some (.lst (as.map V.ref)) ∧ Bx72 H' as nss ∧ (∀ j, j < as.length → (nss.getD j []).length = cnt72 j (cs.take i)) ∧ Grow as H0 H') ⟨as.map fun _ => [], _, _, rfl, hl0, ⟨by rw [List.length_map], fun j a h => ?_⟩, fun j hj => ?_, Grow.refl _ _⟩ (fun i σ H' _ ⟨_, _, _, _, _, _, _, g⟩ => (g.sqT (g0.sqT hrc) : SqT K H' rc xs)) ?_ ?_⟩
  · rw [(ha a (List.mem_of_getElem? h)).2, List.getD_eq_getElem?_getD, List.getElem?_map, h]; rfl
  · rw [List.getD_eq_getElem?_getD, List.getElem?_map, List.getElem?_eq_getElem hj]; rfl
  · rintro i x σ H1 T hx ⟨nss, e3, e4, rfl, hl1, bx, hn, g1⟩ hT
    obtain ⟨c, hci, hcat⟩ := hall.get hx
    obtain ⟨rz, rd, rfl, sz, _⟩ := (g1.call72 (g0.call72 hcat))
    have gT := Grow.new (m := as) hT (.tup [.int i, .ref rz])
    have o := ok c (List.mem_of_getElem? hci)
    have b0 := o.b0
    have b1 := o.b1
    obtain ⟨j, hj⟩ : ∃ j : Nat, c.box = j := ⟨c.box.toNat, by omega⟩
    have hjl : j < as.length := by omega
    have haj : as[j]? = some as[j] := List.getElem?_eq_getElem hjl
    have aT : ∀ {a : Addr} {o : HO}, H1 a = some o → upd H1 T (.tup [.int i, .ref rz]) a = some o := fun h => by rw [upd_ne (ne_of_none h hT)]; exact h
    have nT : (nss.getD j []).length ≤ 40 := by
      rw [hn j hjl]
      exact Nat.le_trans cnt_take (Nat.le_trans (List.countP_le_length) c40)
    refine ⟨T, _, rfl, SqT.of upd_same, rfl, _, _, rfl, _, _, rfl, rfl, ?_⟩
    refine ⟨_, rfl, _, rfl, rz, _, 1, .int c.box, rfl, rfl, gT.sqT sz, atI_nat (j := 1) rfl, l, _, _, .ref as[j], rfl, rfl, SqL.of (aT hl1), by rw [hj]; exact atI_nat (by rw [List.getElem?_map, haj]; rfl), .inl ⟨rfl, _, SqL.of (aT (bx.at_ j _ haj))⟩, _, rfl, as[j], _, _, rfl, rfl, aT (bx.at_ j _ haj), lt72 (by rw [natsV_len]; omega), ?_⟩
    refine ⟨nss.set j (nss.getD j [] ++ [i]), _, _, rfl, ?_, ⟨by rw [List.length_set, bx.len], fun j' a' h' => ?_⟩, fun j' hj' => ?_, g1.trans (gT.trans (Grow.set (aT (bx.at_ j _ haj)) (List.mem_of_getElem? haj) _))⟩
    · rw [upd_ne (fun z => nl (by rw [z]; exact List.mem_of_getElem? haj))]; exact aT hl1
    · by_cases e : j' = j
      · subst e
        cases h'.symm.trans haj
        rw [upd_same, getD_set72 (by rw [bx.len]; exact hjl), natsV_app]; rfl
      · have ne : a' ≠ as[j] := fun z => e (by
          have h1 : as[j']? = as[j]? := by rw [h', haj, z]
          exact (List.getElem?_inj (by have := (List.getElem?_eq_some_iff.mp h').1; exact this) nd).mp h1)
        rw [upd_ne ne, aT (bx.at_ j' a' h'), getD_setne72 (fun z => e z.symm)]
    · have et : cs.take (i + 1) = cs.take i ++ [c] := by rw [List.take_succ, hci]; rfl
      rw [et, cnt_snoc]
      by_cases e : j' = j
      · subst e
        rw [if_pos hj, getD_set72 (by rw [bx.len]; exact hjl), List.length_append, List.length_singleton, hn j' hj']
      · rw [if_neg (by omega), getD_setne72 (fun z => e z.symm), hn j' hj']; rfl
  · rintro σ H1 ⟨nss, e3, e4, rfl, hl1, bx, hn, g1⟩
    rw [xl, List.take_length] at hn
    exact ⟨_, rfl, q l _ nss _ (Grow.shrinkL (fun a h => (ha a h).1) (g0.wk.trans g1)) hl1 bx.ls (by rw [bx.len, al]) (fun j hj => hn j (by rw [al]; exact hj))⟩
theorem sc_is_whole : FnScope ["thing"] ["thing"] (defScope (top 10)) := ⟨rfl, rfl, rfl, by decide +kernel, rfl, by decide +kernel, by decide +kernel⟩
set_option maxHeartbeats 0 in
theorem ok_is_whole {n : Nat} {f : Addr} {fd : FuncData} (F : Fun K "is_whole" "is_whole" (top 10) f fd) (B : Blt mg)     :
    FnOk P w K mg base CX0 (n + 1) f fd ["thing"] (sp_is_wholeO K) := by
  refine F.ok sc_is_whole sp1_len (fun cdv A outer s H vs Q E hr h => ?_)
  obtain ⟨x, rfl, d, m, hd, q⟩ := h
  refine ⟨_, (pss_one (ps_ret (pe_and (pe_callB (call_isiO (K := K) rfl) rfl B.isinstance b_isinstance (pa_cons (pv 0) (pa_cons (pe_tyn rfl B.int b_int) pa_nil))) (pe_one (pe_not (pe_callB (call_isiO (K := K) rfl) rfl B.isinstance b_isinstance (pa_cons (pv 0) (pa_cons (pe_tyn rfl B.bool b_bool) pa_nil)))))))), ?_⟩
  refine ⟨_, rfl, _, d, m, _, _, rfl, hd, kit_int, _, rfl, ?_⟩
  cases d with
  | int i => exact iteT ⟨_, rfl, _, _, m, _, _, rfl, hd, kit_bool, _, rfl, q⟩
  | bool b => exact iteT ⟨_, rfl, _, _, m, _, _, rfl, hd, kit_bool, _, rfl, q⟩
  | _ => exact iteF q
theorem sc_is_end : FnScope ["thing"] ["thing"] (defScope (top 13)) := ⟨rfl, rfl, rfl, by decide +kernel, rfl, by decide +kernel, by decide +kernel⟩
set_option maxHeartbeats 0 in
theorem ok_is_end {n : Nat} {f : Addr} {fd : FuncData} (F : Fun K "is_end" "is_end" (top 13) f fd) (B : Blt mg) (c_is_whole : Callee P w K mg base n "is_whole" ["thing"] (sp_is_wholeO K))    :
    FnOk P w K mg base CX0 (n + 1) f fd ["thing"] (sp_is_endO K) := by
  refine F.ok sc_is_end sp1_len (fun cdv A outer s H vs Q E hr h => ?_)
  obtain ⟨x, rfl, d, m, hd, q⟩ := h
  refine ⟨_, (pss_one (ps_ret (pe_or (pe_cmp (pc_isN (pv 0))) (pe_one (pe_callC c_is_whole hr rfl (pa_cons (pv 0) pa_nil)))))), ?_⟩
  refine ⟨x, rfl, _, rfl, ?_⟩
  rcases od_isN hd with ⟨rfl, rfl⟩ | ⟨h1, h2⟩
  · exact iteT q
  · refine iteF' (decide_eq_false h1) ⟨_, rfl, _, rfl, d, m, hd, ?_⟩
    have e : endD d = wholeD d := by cases d <;> first | rfl | exact absurd rfl h2
    rw [← e]; exact q
theorem sc_is_deed : FnScope ["thing", "add", "low", "high"] ["thing"] (defScope (top 14)) := ⟨rfl, rfl, rfl, by decide +kernel, rfl, by decide +kernel, by decide +kernel⟩
set_option maxHeartbeats 0 in
theorem ok_is_deed {n : Nat} {f : Addr} {fd : FuncData} (F : Fun K "is_deed" "is_deed" (top 14) f fd) (B : Blt mg) (c_is_end : Callee P w K mg base n "is_end" ["thing"] (sp_is_endO K)) (c_is_whole : Callee P w K mg base n "is_whole" ["thing"] (sp_is_wholeO K))    :
    FnOk P w K mg base CX0 (n + 1) f fd ["thing"] (sp_is_deedO K) := by
  refine F.ok sc_is_deed sp1_len (fun cdv A outer s H vs Q E hr h => ?_)
  obtain ⟨x, rfl, d, m, hd, q⟩ := h
  refine ⟨_, (pss_cons (ps_if (PW.pt (pw_or (pt_not (pt_val (pe_callB (call_isiO (K := K) rfl) rfl B.isinstance b_isinstance (pa_cons (pv 0) (pa_cons (pe_tyn rfl B.tuple b_tuple) pa_nil))))) (pw_or1 (pt_cmpR op_ne (pe_callB call_len_seq rfl B.len b_len (pa_cons (pv 0) pa_nil)) pe_int (nomark _))))) (pss_one (ps_ret pe_bl)) pss_nil) (pss_cons (ps_asg (pv 0) (pg_tup rfl (pgs_cons (pg_name (i := 1) sc_is_deed.nd rfl (Or.inl rfl)) (pgs_cons (pg_name (i := 2) sc_is_deed.nd rfl (Or.inl rfl)) (pgs_cons (pg_name (i := 3) sc_is_deed.nd rfl (Or.inl rfl)) pgs_nil))))) (pss_cons (ps_if (pt_not (PW.pt (pw_and (pt_val (pe_callC c_is_whole hr rfl (pa_cons (pv 1) pa_nil))) (pw_and (pt_val (pe_callC c_is_end hr rfl (pa_cons (pv 2) pa_nil))) (pw_and1 (pt_val (pe_callC c_is_end hr rfl (pa_cons (pv 3) pa_nil)))))))) (pss_one (ps_ret pe_bl)) pss_nil) (pss_cons (ps_if (PW.pt (pw_or (pt_cmp (pc_isN (pv 2))) (pw_or1 (pt_cmp (pc_isN (pv 3)))))) (pss_one (ps_ret pe_bl)) pss_nil) (pss_one (ps_ret (pe_or (pe_cmpR op_lt (pv 2) (pv 3) (nomark _)) (pe_one (pe_and (pe_cmpR op_eq (pv 2) (pv 3) (nomark _)) (pe_one (pe_cmpR op_eq (pv 1) pe_int (nomark _)))))))))))), ?_⟩
  refine ⟨_, rfl, _, d, m, _, _, rfl, hd, kit_tup, _, rfl, ?_⟩
  cases ht : tupD d with
  | false => rw [tup_not ht] at q; exact iteT (iteT q)
  | true =>
    refine iteF ?_
    cases d with
    | tuple ds =>
      obtain ⟨a, xs, rfl, hs, hds⟩ := hd.inv_tup
      refine ⟨_, rfl, a, xs, rfl, .inr hs, rfl, _, rfl, ?_⟩
      by_cases hl : ds.length = 3
      · refine iteF' (by rw [hds.length, hl]; rfl) ?_
        match ds, hl, hds, hd, q with
        | [d0, d1, d2], _, hds, hd, q =>
          obtain ⟨x0, x1, x2, rfl, o0, o1, o2⟩ := hds.inv3
          refine ⟨_, rfl, a, _, rfl, hs, rfl, _, _, rfl, _, _, rfl, _, _, rfl, rfl, ?_⟩
          refine ⟨_, rfl, _, rfl, d0, m, o0, _, rfl, ?_⟩
          cases h0 : wholeD d0 with
          | false => rw [deedP_nw h0] at q; exact iteF (iteT q)
          | true =>
            cases d0 with
            | int i =>
              refine iteT ⟨_, rfl, _, rfl, d1, m, o1, _, rfl, ?_⟩
              rw [deedP_int] at q
              cases h1 : endD d1 with
              | false => rw [h1] at q; exact iteF (iteT q)
              | true =>
                refine iteT ⟨_, rfl, _, rfl, d2, m, o2, _, rfl, ?_⟩
                cases h2 : endD d2 with
                | false => rw [h1, h2] at q; exact iteT q
                | true =>
                  rw [h1, h2] at q
                  refine iteF ?_
                  cases d1 with
                  | none => obtain rfl := o1.inv_non; exact ⟨_, rfl, _, rfl, iteT (iteT q)⟩
                  | int l =>
                    obtain rfl := o1.inv_int
                    cases d2 with
                    | none => obtain rfl := o2.inv_non; exact ⟨_, rfl, _, rfl, iteF ⟨_, rfl, _, rfl, iteT q⟩⟩
                    | int u =>
                      obtain rfl := o2.inv_int
                      refine ⟨_, rfl, _, rfl, iteF ⟨_, rfl, _, rfl, iteF ?_⟩⟩
                      refine ⟨_, rfl, _, rfl, _, _, rfl, rfl, _, rfl, ?_⟩
                      obtain rfl := o0.inv_int
                      have q' : Q (.bl (decide (l < u) || (decide (l = u) && decide (i = 0)))) H := q
                      refine ite2 (fun c => ?_) (fun c => ?_)
                      · rw [c] at q'; exact q'
                      · rw [Bool.eq_false_iff.mpr c] at q'
                        refine ⟨_, rfl, _, rfl, rfl, _, rfl, ?_⟩
                        refine ite2 (fun d => ?_) (fun d => ?_)
                        · have d' : l = u := V.int.inj (of_decide_eq_true d)
                          refine ⟨_, rfl, rfl, ?_⟩
                          rw [decide_eq_true d'] at q'
                          have e : decide (V.int i = V.int 0) = decide (i = 0) := by
                            by_cases z : i = 0
                            · rw [z]; rfl
                            · rw [decide_eq_false z, decide_eq_false fun w => z (V.int.inj w)]
                          show Q (.bl (decide (V.int i = V.int 0))) H
                          rw [e]; exact q'
                        · have d' : ¬ l = u := fun z => d (decide_eq_true (congrArg V.int z))
                          rw [decide_eq_false d'] at q'
                          exact q'
                    | _ => cases h2
                  | _ => cases h1
            | _ => cases h0
      · rw [deedP_len hl] at q
        refine iteT' ?_ q
        rw [decide_eq_false fun z => hl (by have := V.int.inj z; have := hds.length; omega)]; rfl
    | _ => cases ht
theorem sc_is_within : FnScope ["thing", "least", "greatest"] ["thing", "least", "greatest"] (defScope (top 11)) := ⟨rfl, rfl, rfl, by decide +kernel, rfl, by decide +kernel, by decide +kernel⟩
set_option maxHeartbeats 0 in
theorem ok_is_within {n : Nat} {f : Addr} {fd : FuncData} (F : Fun K "is_within" "is_within" (top 11) f fd) (B : Blt mg) (c_is_whole : Callee P w K mg base n "is_whole" ["thing"] (sp_is_wholeO K))    :
    FnOk P w K mg base CX0 (n + 1) f fd ["thing", "least", "greatest"] (sp_withinO K) := by
  refine F.ok sc_is_within sp3_len (fun cdv A outer s H vs Q E hr h => ?_)
  obtain ⟨x, y, z, rfl, d, m, l, u, hd, rfl, rfl, q⟩ := h
  refine ⟨_, (pss_one (ps_ret (pe_and (pe_callC c_is_whole hr rfl (pa_cons (pv 0) pa_nil)) (pe_one (pe_chain op_le op_le (pv 1) (pv 0) (pv 2)))))), ?_⟩
  refine ⟨_, rfl, _, rfl, d, m, hd, _, rfl, ?_⟩
  cases d with
  | int i =>
    obtain rfl := hd.inv_int
    refine iteT ⟨_, rfl, _, rfl, _, _, rfl, rfl, _, rfl, ?_⟩
    have q' : Q (.bl (decide (l ≤ i) && decide (i ≤ u))) H := q
    by_cases c : l ≤ i
    · refine iteT' (decide_eq_true c) ⟨_, rfl, _, _, rfl, rfl, ?_⟩
      rw [decide_eq_true c] at q'; exact q'
    · refine iteF' (decide_eq_false c) ?_
      rw [decide_eq_false c] at q'; exact q'
  | _ => exact iteF q
theorem sc_is_ask : FnScope ["board", "thing", "hand", "box", "deed"] ["board", "thing"] (defScope (top 20)) := ⟨rfl, rfl, rfl, by decide +kernel, rfl, by decide +kernel, by decide +kernel⟩
set_option maxHeartbeats 0 in
theorem ok_is_ask {n : Nat} {f : Addr} {fd : FuncData} (F : Fun K "is_ask" "is_ask" (top 20) f fd) (B : Blt mg) (c_is_deed : Callee P w K mg base n "is_deed" ["thing"] (sp_is_deedO K)) (c_is_within : Callee P w K mg base n "is_within" ["thing", "least", "greatest"] (sp_withinO K))  {t_LAST_HAND : Tok} (g_LAST_HAND : mg "LAST_HAND" = some (.int 15 t_LAST_HAND))  :
    FnOk P w K mg base CX0 (n + 1) f fd ["board", "thing"] (sp_is_askO K) := by
  refine F.ok sc_is_ask sp2_len (fun cdv A outer s H vs Q E hr h => ?_)
  obtain ⟨x, y, rfl, b, d, m, hb, hd, q⟩ := h
  refine ⟨_, (pss_cons (ps_if (PW.pt (pw_or (pt_not (pt_val (pe_callB (call_isiO (K := K) rfl) rfl B.isinstance b_isinstance (pa_cons (pv 1) (pa_cons (pe_tyn rfl B.tuple b_tuple) pa_nil))))) (pw_or1 (pt_cmpR op_ne (pe_callB call_len_seq rfl B.len b_len (pa_cons (pv 1) pa_nil)) pe_int (nomark _))))) (pss_one (ps_ret pe_bl)) pss_nil) (pss_cons (ps_asg (pv 1) (pg_tup rfl (pgs_cons (pg_name (i := 2) sc_is_ask.nd rfl (Or.inl rfl)) (pgs_cons (pg_name (i := 3) sc_is_ask.nd rfl (Or.inl rfl)) (pgs_cons (pg_name (i := 4) sc_is_ask.nd rfl (Or.inl rfl)) pgs_nil))))) (pss_one (ps_ret (pe_and (pe_callC c_is_within hr rfl (pa_cons (pv 2) (pa_cons pe_int (pa_cons (pe_glob rfl g_LAST_HAND (show RelV (.int 15) (.int 15 t_LAST_HAND) from ⟨_, rfl⟩)) pa_nil)))) (pe_and (pe_callC c_is_within hr rfl (pa_cons (pv 3) (pa_cons pe_int (pa_cons (pe_op op_sub (pe_callB call_len_seq rfl B.len b_len (pa_cons (pv 0) pa_nil)) pe_int) pa_nil)))) (pe_one (pe_callC c_is_deed hr rfl (pa_cons (pv 4) pa_nil))))))))), ?_⟩
  obtain ⟨rb, rfl, hrb⟩ := id hb
  refine c_test (fun t H' => H' = H ∧ (t = true → askP b.length d = false) ∧ (t = false → ∃ (r : Addr) (v1 v2 v3 : V) (d1 d2 d3 : PyData), y = .ref r ∧ d = .tuple [d1, d2, d3] ∧ SqT K H r [v1, v2, v3] ∧ Od K m H v1 d1 ∧ Od K m H v2 d2 ∧ Od K m H v3 d3)) (fun Kk hk => ⟨_, rfl, _, d, m, _, _, rfl, hd, kit_tup72 d, _, rfl, ?_⟩) ?_
  · cases ht : isT72 d with
    | false => exact iteT (hk _ _ ⟨rfl, (fun _ => by cases d <;> first | rfl | cases ht), fun z => nomatch z⟩)
    | true =>
      obtain ⟨r, xs, ds, rfl, rfl, hs, os⟩ := od_tup72 hd ht
      have xl := os.length
      refine iteF ⟨_, rfl, r, _, rfl, .inr hs, rfl, _, rfl, ?_⟩
      by_cases h3 : ds.length = 3
      · match ds, h3, os, xl with
        | [d1, d2, d3], _, os, xl =>
          obtain ⟨v1, v2, v3, rfl, o1, o2, o3⟩ := os.inv3
          exact hk _ _ ⟨rfl, (fun z => nomatch z), fun _ => ⟨r, v1, v2, v3, d1, d2, d3, rfl, rfl, hs, o1, o2, o3⟩⟩
      · have e : askP b.length (.tuple ds) = false := by
          unfold askP
          split
          · rename_i z; injection z with z; rw [z] at h3; exact absurd rfl h3
          · rfl
        exact hk _ _ ⟨rfl, (fun _ => e), fun z => absurd z (by rw [decide_eq_false fun w => h3 (by have := V.int.inj w; omega)]; decide)⟩
  rintro t H ⟨rfl, h1, h2⟩
  cases t with
  | true => rw [h1 rfl] at q; exact iteT q
  | false =>
    obtain ⟨r, v1, v2, v3, d1, d2, d3, rfl, rfl, hs, o1, o2, o3⟩ := h2 rfl
    have e : askP b.length (.tuple [d1, d2, d3]) = (withinD 0 15 d1 && (withinD 0 ((b.length : Int) - 1) d2 && deedP d3)) := rfl
    rw [e] at q
    refine iteF (c_next ⟨_, rfl, r, _, rfl, hs, rfl, _, _, rfl, _, _, rfl, _, _, rfl, rfl, ?_⟩)
    refine ⟨_, rfl, _, _, _, rfl, d1, m, 0, 15, o1, rfl, rfl, _, rfl, ?_⟩
    cases e1 : withinD 0 15 d1 with
    | false => rw [e1] at q; exact iteF q
    | true =>
      rw [e1] at q
      refine iteT ⟨_, rfl, _, rfl, rb, _, rfl, .inr hrb, _, _, rfl, rfl, _, _, _, rfl, d2, m, 0, (b.length : Int) - 1, o2, rfl, by rw [List.length_map], _, rfl, ?_⟩
      cases e2 : withinD 0 ((b.length : Int) - 1) d2 with
      | false => rw [e2] at q; exact iteF q
      | true => rw [e2] at q; exact iteT ⟨_, rfl, _, rfl, d3, m, o3, q⟩
theorem sc_is_call : FnScope ["board", "thing", "begun", "ended", "answer"] ["board", "thing"] (defScope (top 24)) := ⟨rfl, rfl, rfl, by decide +kernel, rfl, by decide +kernel, by decide +kernel⟩
set_option maxHeartbeats 0 in
theorem ok_is_call {n : Nat} {f : Addr} {fd : FuncData} (F : Fun K "is_call" "is_call" (top 24) f fd) (B : Blt mg) (c_is_whole : Callee P w K mg base n "is_whole" ["thing"] (sp_is_wholeO K)) (c_is_ask : Callee P w K mg base n "is_ask" ["board", "thing"] (sp_is_askO K))    :
    FnOk P w K mg base CX0 (n + 1) f fd ["board", "thing"] (sp_is_callO K) := by
  refine F.ok sc_is_call sp2_len (fun cdv A outer s H vs Q E hr h => ?_)
  obtain ⟨x, y, rfl, b, d, m, hb, hd, q⟩ := h
  refine ⟨_, (pss_cons (ps_if (PW.pt (pw_or (pt_not (pt_val (pe_callB (call_isiO (K := K) rfl) rfl B.isinstance b_isinstance (pa_cons (pv 1) (pa_cons (pe_tyn rfl B.tuple b_tuple) pa_nil))))) (pw_or (pt_cmpR op_ne (pe_callB call_len_seq rfl B.len b_len (pa_cons (pv 1) pa_nil)) pe_int (nomark _)) (pw_or1 (pt_not (pt_val (pe_callC c_is_ask hr rfl (pa_cons (pv 0) (pa_cons (pe_slice (sl_tupG (K := K) rfl) (pv 1) po_none (po_some pe_int)) pa_nil))))))))) (pss_one (ps_ret pe_bl)) pss_nil) (pss_cons (ps_asg (pe_slice (sl_tupG (K := K) rfl) (pv 1) (po_some pe_int) po_none) (pg_tup rfl (pgs_cons (pg_name (i := 2) sc_is_call.nd rfl (Or.inl rfl)) (pgs_cons (pg_name (i := 3) sc_is_call.nd rfl (Or.inl rfl)) (pgs_cons (pg_name (i := 4) sc_is_call.nd rfl (Or.inl rfl)) pgs_nil))))) (pss_one (ps_ret (pe_and (pe_callC c_is_whole hr rfl (pa_cons (pv 2) pa_nil)) (pe_and (pe_callC c_is_whole hr rfl (pa_cons (pv 3) pa_nil)) (pe_and (pe_callC c_is_whole hr rfl (pa_cons (pv 4) pa_nil)) (pe_one (pe_chain op_le op_le pe_int (pv 2) (pv 3)))))))))), ?_⟩
  obtain ⟨rb, rfl, hrb⟩ := id hb
  refine c_test (fun t H' => Grow [] H H' ∧ (t = true → callP b.length d = false) ∧ (t = false → ∃ (r : Addr) (v1 v2 v3 v4 v5 v6 : V) (d1 d2 d3 d4 d5 d6 : PyData), y = .ref r ∧ d = .tuple [d1, d2, d3, d4, d5, d6] ∧ SqT K H r [v1, v2, v3, v4, v5, v6] ∧ Od K m H v4 d4 ∧ Od K m H v5 d5 ∧ Od K m H v6 d6 ∧ askP b.length (.tuple [d1, d2, d3]) = true)) (fun Kk hk => ⟨_, rfl, _, d, m, _, _, rfl, hd, kit_tup72 d, _, rfl, ?_⟩) ?_
  · cases ht : isT72 d with
    | false => exact iteT (hk _ _ ⟨Grow.refl _ _, (fun _ => by cases d <;> first | rfl | cases ht), fun z => nomatch z⟩)
    | true =>
      obtain ⟨r, xs, ds, rfl, rfl, hs, os⟩ := od_tup72 hd ht
      have xl := os.length
      refine iteF ⟨_, rfl, r, _, rfl, .inr hs, rfl, _, rfl, ?_⟩
      by_cases h6 : ds.length = 6
      · match ds, h6, os, xl with
        | [d1, d2, d3, d4, d5, d6], _, os, xl =>
          obtain ⟨v1, v2, v3, v4, v5, v6, rfl, o1, o2, o3, o4, o5, o6⟩ := inv6_71 os
          refine iteF ⟨_, rfl, _, rfl, _, rfl, r, _, rfl, hs, fun t1 H1 g1 h1 => ⟨_, _, rfl, b, .tuple [d1, d2, d3], m, g1.board hb, .tup (show SqT K H1 t1 [v1, v2, v3] from h1) (.cons (o1.grow g1.wk) (.cons (o2.grow g1.wk) (.cons (o3.grow g1.wk) .nil))), _, rfl, hk _ _ ⟨g1, fun z => ?_, fun z => ?_⟩⟩⟩
          · have e : askP b.length (.tuple [d1, d2, d3]) = false := by cases ha : askP b.length (.tuple [d1, d2, d3]) with | false => rfl | true => rw [ha] at z; cases z
            show (askP b.length (.tuple [d1, d2, d3]) && _) = false
            rw [e]; rfl
          · have e : askP b.length (.tuple [d1, d2, d3]) = true := by cases ha : askP b.length (.tuple [d1, d2, d3]) with | true => rfl | false => rw [ha] at z; cases z
            exact ⟨r, v1, v2, v3, v4, v5, v6, d1, d2, d3, d4, d5, d6, rfl, rfl, hs, o4, o5, o6, e⟩
      · have e : callP b.length (.tuple ds) = false := by
          unfold callP
          split
          · rename_i z; injection z with z; rw [z] at h6; exact absurd rfl h6
          · rfl
        exact iteT' (by rw [decide_eq_false fun w => h6 (by have := V.int.inj w; omega)]; rfl) (hk _ _ ⟨Grow.refl _ _, (fun _ => e), fun z => nomatch z⟩)
  rintro t H1 ⟨g1, h1, h2⟩
  cases t with
  | true => have := q _ g1; rw [h1 rfl] at this; exact iteT this
  | false =>
    obtain ⟨r, v1, v2, v3, v4, v5, v6, d1, d2, d3, d4, d5, d6, rfl, rfl, hs, o4, o5, o6, ea⟩ := h2 rfl
    have e : callP b.length (.tuple [d1, d2, d3, d4, d5, d6]) = (askP b.length (.tuple [d1, d2, d3]) && (wholeD d4 && (wholeD d5 && (wholeD d6 && fromTo d4 d5)))) := rfl
    rw [e, ea, Bool.true_and] at q
    refine iteF (c_next ⟨_, rfl, _, rfl, r, _, rfl, g1.sqT hs, fun t2 H2 g2 h2 => ⟨t2, _, rfl, (show SqT K H2 t2 [v4, v5, v6] from h2), rfl, _, _, rfl, _, _, rfl, _, _, rfl, rfl, ?_⟩⟩)
    have G2 := g1.trans g2
    have o4' := o4.grow (G2.wk (m := m))
    have o5' := o5.grow (G2.wk (m := m))
    have o6' := o6.grow (G2.wk (m := m))
    have q' := q _ G2
    refine ⟨_, rfl, _, rfl, d4, m, o4', _, rfl, ?_⟩
    cases e4 : wholeD d4 with
    | false => rw [e4] at q'; exact iteF q'
    | true =>
      rw [e4] at q'
      refine iteT ⟨_, rfl, _, rfl, d5, m, o5', _, rfl, ?_⟩
      cases e5 : wholeD d5 with
      | false => rw [e5] at q'; exact iteF q'
      | true =>
        rw [e5] at q'
        refine iteT ⟨_, rfl, _, rfl, d6, m, o6', _, rfl, ?_⟩
        cases e6 : wholeD d6 with
        | false => rw [e6] at q'; exact iteF q'
        | true =>
          rw [e6] at q'
          obtain ⟨s, rfl⟩ := whole_int71 e4
          obtain ⟨t, rfl⟩ := whole_int71 e5
          obtain rfl := o4'.inv_int
          obtain rfl := o5'.inv_int
          have q2 : Q (.bl (decide (0 ≤ s) && decide (s ≤ t))) H2 := q'
          refine iteT ⟨_, rfl, _, _, rfl, rfl, _, rfl, ?_⟩
          by_cases s0 : 0 ≤ s
          · rw [decide_eq_true s0] at q2
            exact iteT' (decide_eq_true s0) ⟨_, rfl, _, _, rfl, rfl, q2⟩
          · rw [decide_eq_false s0] at q2
            exact iteF' (decide_eq_false s0) q2
theorem sc_is_board : FnScope ["thing"] ["thing"] (defScope (top 18)) := ⟨rfl, rfl, rfl, by decide +kernel, rfl, by decide +kernel, by decide +kernel⟩
set_option maxHeartbeats 0 in
theorem ok_is_board {n : Nat} {f : Addr} {fd : FuncData} (F : Fun K "is_board" "is_board" (top 18) f fd) (B : Blt mg) (c_is_whole : Callee P w K mg base n "is_whole" ["thing"] (sp_is_wholeO K))  {t_MOST_BOXES : Tok} (g_MOST_BOXES : mg "MOST_BOXES" = some (.int 16 t_MOST_BOXES))  :
    FnOk P w K mg base CX0 (n + 1) f fd ["thing"] (sp_is_boardO K) := by
  refine F.ok sc_is_board sp1_len (fun cdv A outer s H vs Q E hr h => ?_)
  obtain ⟨x, rfl, d, m, hd, hl, q⟩ := h
  refine ⟨_, (pss_cons (ps_if (PW.pt (pw_or (pt_not (pt_val (pe_callB (call_isiO (K := K) rfl) rfl B.isinstance b_isinstance (pa_cons (pv 0) (pa_cons (pe_tyn rfl B.tuple b_tuple) pa_nil))))) (pw_or1 (pt_not (pt_chain op_le op_le pe_int (pe_callB call_len_seq rfl B.len b_len (pa_cons (pv 0) pa_nil)) (pe_glob rfl g_MOST_BOXES (show RelV (.int 16) (.int 16 t_MOST_BOXES) from ⟨_, rfl⟩))))))) (pss_one (ps_ret pe_bl)) pss_nil) (pss_one (ps_ret (pe_callB (call_allB rfl) rfl B.all b_all (pa_cons (pe_compT (CSc.of (N' := ["value"]) (sub := [none]) (defScope (top 18)) ["thing"] rfl rfl (by decide +kernel) rfl) rfl (pi_tup (pv 0)) (fun _ _ _ _ _ _ => pg_name (i := 0) (show (["value"] : List Str).Nodup by decide +kernel) rfl (Or.inl rfl)) (fun _ _ _ _ _ _ => pifs_nil) (fun _ _ _ _ _ _ => (pe_callC c_is_whole hr rfl (pa_cons (pv 0) pa_nil)))) pa_nil))))), ?_⟩
  refine c_test (fun b H' => H' = H ∧ (b = true → boardP d = false) ∧ (b = false → ∃ (r : Addr) (xs : List V) (ds : List PyData), x = .ref r ∧ d = .tuple ds ∧ SqT K H r xs ∧ Ods K m H xs ds ∧ boardP d = ds.all wholeD)) (fun Kk hk => ⟨_, rfl, _, d, m, _, _, rfl, hd, kit_tup72 d, _, rfl, ?_⟩) ?_
  · cases ht : isT72 d with
    | false => exact iteT (hk _ _ ⟨rfl, (fun _ => by cases d <;> first | rfl | cases ht), fun z => nomatch z⟩)
    | true =>
      obtain ⟨r, xs, ds, rfl, rfl, hs, os⟩ := od_tup72 hd ht
      have xl := os.length
      refine iteF ⟨_, rfl, r, _, rfl, .inr hs, _, _, rfl, rfl, _, rfl, ?_⟩
      have e : boardP (.tuple ds) = (decide (1 ≤ ds.length) && (decide (ds.length ≤ 16) && ds.all wholeD)) := rfl
      by_cases h1 : 1 ≤ ds.length
      · refine iteT' (decide_eq_true (by omega)) ⟨_, _, rfl, rfl, _, rfl, ?_⟩
        by_cases h2 : ds.length ≤ 16
        · exact hk _ _ ⟨rfl, (fun z => absurd z (by rw [decide_eq_true (by omega)]; decide)), fun _ => ⟨r, xs, ds, rfl, rfl, hs, os, by rw [e, decide_eq_true h1, decide_eq_true h2]; rfl⟩⟩
        · exact hk _ _ ⟨rfl, (fun _ => by rw [e, decide_eq_false h2, decide_eq_true h1]; rfl), fun z => absurd z (by rw [decide_eq_false (by omega)]; decide)⟩
      · exact iteF' (decide_eq_false (by omega)) ⟨_, rfl, hk _ _ ⟨rfl, (fun _ => by rw [e, decide_eq_false h1]; rfl), fun z => nomatch z⟩⟩
  rintro b H ⟨rfl, hb1, hb2⟩
  cases b with
  | true => rw [hb1 rfl] at q; exact iteT (q _ (Grow.refl _ _))
  | false =>
    obtain ⟨r, xs, ds, rfl, rfl, hs, os, eb⟩ := hb2 rfl
    rw [eb] at q
    have xl := os.length
    have hl' : ds.length ≤ 1000 := hl
    refine iteF (c_next ⟨_, rfl, r, rfl, ⟨_, hs⟩, comp_tupP72 (xs := xs) (fun i ys H' => ys = ((ds.take i).map wholeD).map V.bl ∧ H' = H) ⟨rfl, rfl⟩ (fun i ys H' z => by rw [z.2]; exact hs) ?_ ?_⟩)
    · rintro i x ys H' hx ⟨rfl, rfl⟩
      obtain ⟨e, he, oe⟩ := os.get hx
      refine ⟨_, rfl, _, rfl, e, m, oe, lt72 (by rw [List.length_map, List.length_map, List.length_take]; omega), ?_, rfl⟩
      rw [List.take_succ, he, List.map_append, List.map_append]; rfl
    · rintro ys H' ⟨rfl, rfl⟩ l hl0
      rw [xl, List.take_length]
      refine ⟨l, ds.map wholeD, rfl, SqL.of upd_same, ?_⟩
      rw [List.all_map]
      exact q _ (Grow.new hl0 _)
theorem sc_need_board : FnScope ["thing"] ["thing"] (defScope (top 19)) := ⟨rfl, rfl, rfl, by decide +kernel, rfl, by decide +kernel, by decide +kernel⟩
set_option maxHeartbeats 0 in
theorem ok_need_board {n : Nat} {f : Addr} {fd : FuncData} (F : Fun K "need_board" "need_board" (top 19) f fd) (B : Blt mg) {A_NoBoard : Addr} (x_NoBoard : ExcC K mg "NoBoard" A_NoBoard) (c_is_board : Callee P w K mg base n "is_board" ["thing"] (sp_is_boardO K))    :
    FnOk P w K mg base (CX1 P w) (n + 1) f fd ["thing"] (sp_need_boardX A_NoBoard K) := by
  refine Fun.okX F sc_need_board spX1_len (fun cdv A outer s H vs Q E hr h => ?_)
  obtain ⟨x, rfl, d, m, hd, hl, q⟩ := h
  refine ⟨_, (pss_one (ps_if (pt_not (pt_val (pe_callC c_is_board hr rfl (pa_cons (pv 0) pa_nil)))) (pss_one (ps_raise rfl x_NoBoard rfl raises_cx pe_str)) pss_nil)), ?_⟩
  refine ⟨_, rfl, _, rfl, d, m, hd, hl, fun H1 g1 => ⟨_, rfl, ?_⟩⟩
  cases hb : boardP d with
  | true =>
    rw [hb, if_pos rfl] at q
    exact iteF (q _ g1)
  | false =>
    rw [hb, if_neg (by decide)] at q
    exact iteT fun e => q e _ g1
theorem sc_are_calls : FnScope ["board", "thing"] ["board", "thing"] (defScope (top 26)) := ⟨rfl, rfl, rfl, by decide +kernel, rfl, by decide +kernel, by decide +kernel⟩
set_option maxHeartbeats 0 in
theorem ok_are_calls {n : Nat} {f : Addr} {fd : FuncData} (F : Fun K "are_calls" "are_calls" (top 26) f fd) (B : Blt mg) {A_NoBoard : Addr} (x_NoBoard : ExcC K mg "NoBoard" A_NoBoard) (c_by_boxes : Callee P w K mg base n "by_boxes" ["board", "calls"] (sp_byb71 K)) (c_is_call : Callee P w K mg base n "is_call" ["board", "thing"] (sp_is_callO K)) (c_need_board : CalleeX P w K mg base n "need_board" ["thing"] (sp_need_boardX A_NoBoard K))  {t_MOST_AT_A_BOX : Tok} (g_MOST_AT_A_BOX : mg "MOST_AT_A_BOX" = some (.int 8 t_MOST_AT_A_BOX)) {t_MOST_CALLS : Tok} (g_MOST_CALLS : mg "MOST_CALLS" = some (.int 40 t_MOST_CALLS))  :
    FnOk P w K mg base (CX1 P w) (n + 1) f fd ["board", "thing"] (sp_areX A_NoBoard K) := by
  refine Fun.okX F sc_are_calls spX2_len (fun cdv A outer s H vs Q E hr h => ?_)
  obtain ⟨x, y, rfl, db, dc, m, hx, hy, lb, lc, q⟩ := h
  refine ⟨_, (pss_cons (ps_expr (pe_callX c_need_board (xe_pass fun _ _ _ z => z) hr rfl (pa_cons (pv 0) pa_nil))) (pss_cons (ps_if (PW.pt (pw_or (pt_not (pt_val (pe_callB (call_isiO (K := K) rfl) rfl B.isinstance b_isinstance (pa_cons (pv 1) (pa_cons (pe_tyn rfl B.tuple b_tuple) pa_nil))))) (pw_or1 (pt_cmpR op_gt (pe_callB call_len_seq rfl B.len b_len (pa_cons (pv 1) pa_nil)) (pe_glob rfl g_MOST_CALLS (show RelV (.int 40) (.int 40 t_MOST_CALLS) from ⟨_, rfl⟩)) (nomark _))))) (pss_one (ps_ret pe_bl)) pss_nil) (pss_cons (ps_if (pt_not (pt_val (pe_callB (call_allB rfl) rfl B.all b_all (pa_cons (pe_compT (CSc.of (N' := ["call", "board"]) (sub := [none, some 0]) (defScope (top 26)) ["board", "thing"] rfl rfl (by decide +kernel) rfl) rfl (pi_tup (pv 1)) (fun _ _ _ _ _ _ => pg_name (i := 0) (show (["call", "board"] : List Str).Nodup by decide +kernel) rfl (Or.inl rfl)) (fun _ _ _ _ _ _ => pifs_nil) (fun _ _ _ _ _ _ => (pe_callC c_is_call hr rfl (pa_cons (pv 1) (pa_cons (pv 0) pa_nil))))) pa_nil)))) (pss_one (ps_ret pe_bl)) pss_nil) (pss_one (ps_ret (pe_callB (call_allB rfl) rfl B.all b_all (pa_cons (pe_compT (CSc.of (N' := ["numbers"]) (sub := [none]) (defScope (top 26)) ["board", "thing"] rfl rfl (by decide +kernel) rfl) rfl (pi_list (pe_callC c_by_boxes hr rfl (pa_cons (pv 0) (pa_cons (pv 1) pa_nil)))) (fun _ _ _ _ _ _ => pg_name (i := 0) (show (["numbers"] : List Str).Nodup by decide +kernel) rfl (Or.inl rfl)) (fun _ _ _ _ _ _ => pifs_nil) (fun _ _ _ _ _ _ => (pe_cmpR op_le (pe_callB (call_lenK (K := K) rfl) rfl B.len b_len (pa_cons (pv 0) pa_nil)) (pe_glob rfl g_MOST_AT_A_BOX (show RelV (.int 8) (.int 8 t_MOST_AT_A_BOX) from ⟨_, rfl⟩)) (nomark _)))) pa_nil))))))), ?_⟩
  refine ⟨_, rfl, _, rfl, db, m, hx, lb, ?_⟩
  cases hbp : boardP db with
  | false =>
    rw [hbp, if_neg (by decide)] at q
    rw [if_neg (by decide)]
    exact fun e H' g => q e H' g
  | true =>
    rw [hbp, if_pos rfl] at q
    rw [if_pos rfl]
    intro H0 g0
    obtain ⟨b, hb, bl, b16, b1⟩ := board_of71 hx hbp
    rw [bl] at q
    have hb0 := g0.board hb
    have hy0 := hy.grow (g0.wk (m := m))
    try dsimp only
    refine c_test (fun t H' => H' = H0 ∧ (t = true → callsP b.length dc = false) ∧ (t = false → ∃ (r : Addr) (xs : List V) (ds : List PyData), y = .ref r ∧ dc = .tuple ds ∧ SqT K H0 r xs ∧ Ods K m H0 xs ds ∧ ds.length ≤ 40)) (fun Kk hk => ⟨_, rfl, _, dc, m, _, _, rfl, hy0, kit_tup72 dc, _, rfl, ?_⟩) ?_
    · cases ht : isT72 dc with
      | false => exact iteT (hk _ _ ⟨rfl, (fun _ => by cases dc <;> first | rfl | cases ht), fun z => nomatch z⟩)
      | true =>
        obtain ⟨r, xs, ds, rfl, rfl, hs, os⟩ := od_tup72 hy0 ht
        have xl := os.length
        refine iteF ⟨_, rfl, r, _, rfl, .inr hs, _, _, rfl, rfl, _, rfl, hk _ _ ⟨rfl, fun z => ?_, fun z => ⟨r, xs, ds, rfl, rfl, hs, os, ?_⟩⟩⟩
        · have : ¬ ds.length ≤ 40 := by have := of_decide_eq_true z; omega
          show (decide (ds.length ≤ 40) && _) = false
          rw [decide_eq_false this]; rfl
        · have := of_decide_eq_false z; omega
    rintro t H0 ⟨rfl, h1, h2⟩
    cases t with
    | true => have := q _ g0; rw [h1 rfl] at this; exact iteT this
    | false =>
      obtain ⟨r, xs, ds, rfl, rfl, hs, os, d40⟩ := h2 rfl
      have xl := os.length
      have e : callsP b.length (.tuple ds) = (ds.all (callP b.length) && fewP b.length ds) := by show (decide (ds.length ≤ 40) && _) = _; rw [decide_eq_true d40]; rfl
      rw [e] at q
      refine iteF (c_next ?_)
      refine c_test (fun t H' => t = (!ds.all (callP b.length)) ∧ Grow [] H0 H') (fun Kk hk => ⟨_, rfl, r, rfl, ⟨_, hs⟩, comp_tupP72 (xs := xs) (fun i ys H' => ys = ((ds.take i).map (callP b.length)).map V.bl ∧ Grow [] H0 H') ⟨rfl, Grow.refl _ _⟩ (fun i ys H' ⟨_, g⟩ => g.sqT hs) ?_ ?_⟩) ?_
      · rintro i x ys H' hx' ⟨rfl, g'⟩
        obtain ⟨d, hd, od⟩ := os.get hx'
        refine ⟨_, rfl, _, rfl, _, _, rfl, b, d, m, (g0.trans g').board hb, od.grow (g'.wk (m := m)), fun H2 g2 => ⟨lt72 (by rw [List.length_map, List.length_map, List.length_take]; omega), ?_, g'.trans g2⟩⟩
        rw [List.take_succ, hd, List.map_append, List.map_append]; rfl
      · rintro ys H' ⟨rfl, g'⟩ l hl
        rw [xl, List.take_length]
        exact ⟨l, ds.map (callP b.length), rfl, SqL.of upd_same, _, rfl, hk _ _ ⟨by rw [List.all_map]; rfl, g'.trans (Grow.new hl _)⟩⟩
      rintro _ H1 ⟨rfl, g1⟩
      cases hall : ds.all (callP b.length) with
      | false => have := q _ (g0.trans g1); rw [hall] at this; exact iteT this
      | true =>
        rw [hall, Bool.true_and] at q
        obtain ⟨cs, rfl, ok⟩ := calls_of71 hall
        rw [List.length_map] at d40
        rw [few_cnt71] at q
        have hcs : CallsAt72 K H0 (.ref r) cs := ⟨r, xs, rfl, hs, callsAt71 os⟩
        refine iteF (c_next ⟨_, rfl, _, rfl, _, _, rfl, b, cs, (g0.trans g1).board hb, g1.calls72 hcs, b16, d40, ok, fun l zs nss H2 g2 hl2 hz nl hn => ⟨l, rfl, ⟨_, SqL.of hl2⟩, comp_listP (xs := zs) (fun i ys H' => ys = ((List.range i).map fun j : Nat => decide (cnt72 (j : Int) cs ≤ 8)).map V.bl ∧ H' = H2) ⟨rfl, rfl⟩ (fun i ys H' z => by rw [z.2]; exact SqL.of hl2) ?_ ?_⟩⟩)
        · rintro i x ys H' hx' ⟨rfl, rfl⟩
          have hi := (List.getElem?_eq_some_iff.mp hx').1
          have zl := hz.len
          obtain ⟨ks, hni, a, rfl, hA⟩ := hz.get hx'
          have hk := hn i (by omega)
          rw [List.getD_eq_getElem?_getD, hni] at hk
          have hk' : ks.length = cnt72 (i : Int) cs := hk
          refine ⟨_, rfl, a, _, rfl, .inl (SqL.of hA), _, _, rfl, rfl, lt72 (by rw [List.length_map, List.length_map, List.length_range]; omega), ?_, rfl⟩
          rw [List.range_succ, List.map_append, List.map_append]
          have e8 : decide (((natsV ks).length : Int) ≤ 8) = decide (cnt72 (i : Int) cs ≤ 8) := by rw [natsV_len, hk', decide_eq_decide]; omega
          show _ ++ [V.bl (decide (((natsV ks).length : Int) ≤ 8))] = _
          rw [e8]; rfl
        · rintro ys H' ⟨rfl, rfl⟩ l' hl'
          have zl := hz.len
          refine ⟨l', _, rfl, SqL.of upd_same, ?_⟩
          rw [List.all_map, show zs.length = b.length by omega]
          exact q _ (g0.trans (g1.trans (g2.trans (Grow.new hl' _))))
theorem sc__law_word : FnScope ["_law_board", "_law_thing", "_law_found", "e", "_law_some_here"] ["_law_board", "_law_thing"] (defScope (top 44)) := ⟨rfl, rfl, rfl, by decide +kernel, rfl, by decide +kernel, by decide +kernel⟩
set_option maxHeartbeats 0 in
theorem ok__law_word {n : Nat} {f : Addr} {fd : FuncData} (F : Fun K "_law_word" "_law_word" (top 44) f fd) (B : Blt mg) {A_AskError : Addr} {A_NoBoard : Addr} {A_NoOrder : Addr} {A_NoCalls : Addr} {A_TooMany : Addr} {A_NoAsk : Addr} {A_NoDeed : Addr} {A_NoNumber : Addr} (x_AskError : ExcC K mg "AskError" A_AskError) (x_NoBoard : ExcC K mg "NoBoard" A_NoBoard) (v_NoBoard : mg "NoBoard" = some (.ref A_NoBoard)) (v_NoOrder : mg "NoOrder" = some (.ref A_NoOrder)) (v_NoCalls : mg "NoCalls" = some (.ref A_NoCalls)) (v_TooMany : mg "TooMany" = some (.ref A_TooMany)) (v_NoAsk : mg "NoAsk" = some (.ref A_NoAsk)) (v_NoDeed : mg "NoDeed" = some (.ref A_NoDeed)) (v_NoNumber : mg "NoNumber" = some (.ref A_NoNumber)) (u_NoBoard : PySem.W.mroIn K A_NoBoard (.ref A_AskError) = some true) (k_NoBoard : ExcK K A_NoBoard) (q_NoBoard_NoNumber : PySem.W.kitOne K (.ref A_NoBoard) (.ref A_NoNumber) = some false) (q_NoBoard_NoDeed : PySem.W.kitOne K (.ref A_NoBoard) (.ref A_NoDeed) = some false) (q_NoBoard_NoAsk : PySem.W.kitOne K (.ref A_NoBoard) (.ref A_NoAsk) = some false) (q_NoBoard_TooMany : PySem.W.kitOne K (.ref A_NoBoard) (.ref A_TooMany) = some false) (q_NoBoard_NoCalls : PySem.W.kitOne K (.ref A_NoBoard) (.ref A_NoCalls) = some false) (q_NoBoard_NoOrder : PySem.W.kitOne K (.ref A_NoBoard) (.ref A_NoOrder) = some false) (q_NoBoard_ValueError : PySem.W.kitOne K (.ref A_NoBoard) (.type "ValueError") = some true) (q_NoBoard_NoBoard : PySem.W.kitOne K (.ref A_NoBoard) (.ref A_NoBoard) = some true) (c_are_calls : CalleeX P w K mg base n "are_calls" ["board", "thing"] (sp_areX A_NoBoard K)) (g_any : mg "any" = none) (g_ValueError : mg "ValueError" = none)   :
    FnOk P w K mg base CX0 (n + 1) f fd ["_law_board", "_law_thing"] (sp_word71 K) := by
  refine F.ok sc__law_word sp2_len (fun cdv A outer s H vs Q E hr h => ?_)
  obtain ⟨x, y, rfl, db, dc, m, hx, hy, lb, lc, q1, q2⟩ := h
  refine ⟨_, (pss_cons (ps_tryAs (K := K) (i := 3) (E := (fun _ c H' => c = some A_NoBoard ∧ boardP db = false ∧ Grow [] H H')) rfl rfl rfl rfl x_AskError rfl sc__law_word.nd rfl rfl rfl (fun ps => (pss_one (ps_set (i := 2) sc__law_word.nd rfl (Or.inl rfl) (pe_callX c_are_calls (pass_try rfl) hr rfl (pa_cons (pv 0) (pa_cons (pv 1) pa_nil)))))) (fun e => (pss_cons (ps_set (i := 4) sc__law_word.nd rfl (Or.inl rfl) (pe_lst (pa_cons (pe_callB (call_isiE (K := K) rfl) rfl B.isinstance b_isinstance (pa_cons (pv 3) (pa_cons (pe_glob rfl v_NoNumber (show RelV (.ref A_NoNumber) (.ref A_NoNumber) from rfl)) pa_nil))) (pa_cons (pe_callB (call_isiE (K := K) rfl) rfl B.isinstance b_isinstance (pa_cons (pv 3) (pa_cons (pe_glob rfl v_NoDeed (show RelV (.ref A_NoDeed) (.ref A_NoDeed) from rfl)) pa_nil))) (pa_cons (pe_callB (call_isiE (K := K) rfl) rfl B.isinstance b_isinstance (pa_cons (pv 3) (pa_cons (pe_glob rfl v_NoAsk (show RelV (.ref A_NoAsk) (.ref A_NoAsk) from rfl)) pa_nil))) (pa_cons (pe_callB (call_isiE (K := K) rfl) rfl B.isinstance b_isinstance (pa_cons (pv 3) (pa_cons (pe_glob rfl v_TooMany (show RelV (.ref A_TooMany) (.ref A_TooMany) from rfl)) pa_nil))) pa_nil)))))) (pss_cons (ps_set (i := 4) sc__law_word.nd rfl (Or.inl rfl) (pe_op op_cat (pv 4) (pe_lst (pa_cons (pe_callB (call_isiE (K := K) rfl) rfl B.isinstance b_isinstance (pa_cons (pv 3) (pa_cons (pe_glob rfl v_NoCalls (show RelV (.ref A_NoCalls) (.ref A_NoCalls) from rfl)) pa_nil))) (pa_cons (pe_callB (call_isiE (K := K) rfl) rfl B.isinstance b_isinstance (pa_cons (pv 3) (pa_cons (pe_glob rfl v_NoOrder (show RelV (.ref A_NoOrder) (.ref A_NoOrder) from rfl)) pa_nil))) (pa_cons (pe_not (pe_callB (call_isiE (K := K) rfl) rfl B.isinstance b_isinstance (pa_cons (pv 3) (pa_cons (pe_tyn rfl g_ValueError b_ValueError) pa_nil)))) pa_nil)))))) (pss_one (ps_set (i := 2) sc__law_word.nd rfl (Or.inl rfl) (pe_lst (pa_cons (pe_callB (call_isiE (K := K) rfl) rfl B.isinstance b_isinstance (pa_cons (pv 3) (pa_cons (pe_glob rfl v_NoBoard (show RelV (.ref A_NoBoard) (.ref A_NoBoard) from rfl)) pa_nil))) (pa_cons (pe_callB (call_anyH (K := K) rfl (hand_h _ _)) rfl g_any b_any (pa_cons (pv 4) pa_nil)) pa_nil))))))))) (pss_one (ps_ret (pv 2)))), ?_⟩
  refine ⟨?_, fun e C' σ' H' hl' hn hE => ?_⟩
  · refine ⟨_, rfl, _, rfl, _, _, rfl, db, dc, m, hx, hy, lb, lc, ?_⟩
    by_cases hb : boardP db = true
    · rw [if_pos hb]; exact fun H' g => ⟨_, rfl, q1 hb H' g⟩
    · rw [if_neg hb]; exact fun e H' g => ⟨rfl, by simpa using hb, g⟩
  obtain ⟨hC, hno, g⟩ := hE
  obtain ⟨s0, s1, s2, s3, s4, rfl⟩ : ∃ a b c d e, σ' = [a, b, c, d, e] := by
    match σ', hl' with
    | [a, b, c, d, e], _ => exact ⟨a, b, c, d, e, rfl⟩
  obtain rfl : A_NoBoard = C' := (Option.some.inj hC).symm
  refine ⟨u_NoBoard, ?_⟩
  have gn := Grow.new (m := []) hn (ExO e A_NoBoard)
  have he0 := upd_same (H := H') (a := e) (o := ExO e A_NoBoard)
  refine ⟨_, rfl, e, _, _, _, _, rfl, he0, (fun _ r => r), k_NoBoard, q_NoBoard_NoNumber, _, rfl, e, _, _, _, _, rfl, he0, (fun _ r => r), k_NoBoard, q_NoBoard_NoDeed, _, rfl, e, _, _, _, _, rfl, he0, (fun _ r => r), k_NoBoard, q_NoBoard_NoAsk, _, rfl, e, _, _, _, _, rfl, he0, (fun _ r => r), k_NoBoard, q_NoBoard_TooMany, szl rfl, fun l1 hl1 => ?_⟩
  have g1 := Grow.new (m := []) hl1 (.lst [.bl false, .bl false, .bl false, .bl false])
  have he1 := g1.keep e _ (by simp) he0
  refine ⟨_, rfl, _, rfl, e, _, _, _, _, rfl, he1, (fun _ r => r), k_NoBoard, q_NoBoard_NoCalls, _, rfl, e, _, _, _, _, rfl, he1, (fun _ r => r), k_NoBoard, q_NoBoard_NoOrder, _, rfl, e, _, _, _, _, rfl, he1, (fun _ r => r), k_NoBoard, q_NoBoard_ValueError, true, rfl, szl rfl, fun l2 hl2 => ?_⟩
  have g2 := Grow.new (m := []) hl2 (.lst [.bl false, .bl false, .bl false])
  refine ⟨l1, l2, _, _, rfl, rfl, g2.keep l1 _ (by simp) upd_same, upd_same, szl rfl, fun l3 hl3 => ?_⟩
  have g3 := Grow.new (m := []) hl3 (.lst [.bl false, .bl false, .bl false, .bl false, .bl false, .bl false, .bl false])
  have he3 := g3.keep e _ (by simp) (g2.keep e _ (by simp) he1)
  refine ⟨_, rfl, e, _, _, _, _, rfl, he3, (fun _ r => r), k_NoBoard, q_NoBoard_NoBoard, _, rfl, l3, [false, false, false, false, false, false, false], _, rfl, he3, SqL.of upd_same, szl rfl, fun l4 hl4 => ?_⟩
  have g4 := Grow.new (m := []) hl4 (.lst [.bl true, .bl false])
  exact ⟨_, rfl, q2 hno l4 _ (g.trans (gn.trans (g1.trans (g2.trans (g3.trans g4))))) upd_same⟩
theorem sc__law_take : FnScope ["_law_pot_here", "_law_many", "_law_digit"] ["_law_pot_here", "_law_many"] (defScope (top 30)) := ⟨rfl, rfl, rfl, by decide +kernel, rfl, by decide +kernel, by decide +kernel⟩
set_option maxHeartbeats 0 in
theorem ok__law_take {n : Nat} {f : Addr} {fd : FuncData} (F : Fun K "_law_take" "_law_take" (top 30) f fd) (B : Blt mg)     :
    FnOk P w K mg base CX0 (n + 1) f fd ["_law_pot_here", "_law_many"] (sp_take K) := by
  refine F.ok sc__law_take sp2_len (fun cdv A outer s H vs Q E hr h => ?_)
  obtain ⟨x, y, rfl, a, m, rfl, rfl, ⟨p0, p1, hp, h0⟩, hm, hm2, q⟩ := h
  refine ⟨_, (pss_cons (ps_if (pt_cmpR op_gt (pe_ix ix_list (pv 0) pe_int (fun _ _ => rfl)) pe_int (nomark _)) (pss_cons (ps_set (i := 2) sc__law_take.nd rfl (Or.inl rfl) (pe_op op_mod (pe_ix ix_list (pv 0) pe_int (fun _ _ => rfl)) (pv 1))) (pss_cons (ps_asg (pe_op op_fdivL (pe_ix ix_list (pv 0) pe_int (fun _ _ => rfl)) (pv 1)) (pg_sub (pv 0) pe_int set_list)) (pss_one (ps_ret (pv 2))))) pss_nil) (pss_cons (ps_asg (pe_op op_mod (pe_op op_add (pe_op op_mulG (pe_ix ix_list (pv 0) pe_int (fun _ _ => rfl)) pe_int) pe_int) pe_int) (pg_sub (pv 0) pe_int set_list)) (pss_one (ps_ret (pe_op op_mod (pe_op op_fdivL (pe_op op_mod (pe_op op_mulG (pe_ix ix_list (pv 0) pe_int (fun _ _ => rfl)) (pe_ix ix_list (pv 0) pe_int (fun _ _ => rfl))) pe_int) pe_int) (pv 1)))))), ?_⟩
  refine ⟨_, rfl, a, _, _, _, rfl, rfl, SqL.of hp, rfl, _, _, rfl, rfl, _, rfl, ?_⟩
  refine ite2 (fun c => ?_) (fun c => ?_)
  · refine ⟨_, rfl, a, _, _, _, rfl, rfl, SqL.of hp, rfl, _, rfl, p0, m, rfl, rfl, hm, ?_⟩
    refine ⟨_, rfl, a, _, _, _, rfl, rfl, SqL.of hp, rfl, _, rfl, p0, m, rfl, rfl, ⟨hm, hm2⟩, _, rfl, a, _, 0, 0, rfl, rfl, hp, rfl, ?_⟩
    exact ⟨_, rfl, q _ _ (Int.emod_nonneg _ (by omega)) (Int.emod_lt_of_pos _ hm) (Grow.set hp (by simp) _) ⟨p0 / m, p1, upd_same, Int.ediv_nonneg h0 (by omega)⟩⟩
  · refine ⟨_, rfl, a, _, _, _, rfl, rfl, SqL.of hp, rfl, p1, 48271, rfl, rfl, mulOkR ⟨by decide, by decide⟩, _, _, rfl, rfl, _, _, rfl, rfl, (by show (0 : Int) < 2147483647; decide), _, rfl, a, _, 1, 1, rfl, rfl, hp, rfl, ?_⟩
    have b0 : 0 ≤ (p1 * 48271 + 12345) % 2147483647 := Int.emod_nonneg _ (by decide)
    have b1 : (p1 * 48271 + 12345) % 2147483647 < 2147483647 := Int.emod_lt_of_pos _ (by decide)
    refine ⟨_, rfl, a, _, _, _, rfl, rfl, SqL.of upd_same, rfl, _, rfl, a, _, _, _, rfl, rfl, SqL.of upd_same, rfl, (p1 * 48271 + 12345) % 2147483647, (p1 * 48271 + 12345) % 2147483647, rfl, rfl, mulOkR ⟨by omega, by omega⟩, _, _, rfl, rfl, (by show (0 : Int) < 2147483629; decide), _, _, rfl, rfl, ⟨by decide, by decide⟩, _, rfl, _, _, rfl, rfl, hm, ?_⟩
    exact q _ _ (Int.emod_nonneg _ (by omega)) (Int.emod_lt_of_pos _ hm) (Grow.set hp (by simp) _) ⟨p0, (p1 * 48271 + 12345) % 2147483647, upd_same, h0⟩
theorem sc__law_truths_told : FnScope ["_law_pot_here", "_law_some_here", "_law_board", "_law_calls", "_law_other", "_law_told"] ["_law_pot_here"] (defScope (top 48)) := ⟨rfl, rfl, rfl, by decide +kernel, rfl, by decide +kernel, by decide +kernel⟩
set_option maxHeartbeats 0 in
theorem ok__law_truths_told {n : Nat} {f : Addr} {fd : FuncData} (F : Fun K "_law_truths_told" "_law_truths_told" (top 48) f fd) (B : Blt mg) (c__law_truths : Callee P w K mg base n "_law_truths" ["_law_thing"] (sp_truths71 K)) (c__law_is_truth : Callee P w K mg base n "_law_is_truth" ["_law_found", "_law_due"] (sp_truth72 K)) (c__law_word : Callee P w K mg base n "_law_word" ["_law_board", "_law_thing"] (sp_word71 K)) (c__law_take : Callee P w K mg base n "_law_take" ["_law_pot_here", "_law_many"] (sp_take K)) (g_zip : mg "zip" = none)   :
    FnOk P w K mg base CX0 (n + 1) f fd ["_law_pot_here"] (sp_ttold71 K) := by
  refine F.ok sc__law_truths_told sp1_len (fun cdv A outer s H vs Q E hr h => ?_)
  obtain ⟨x, rfl, p, rfl, pp, q⟩ := h
  refine ⟨_, (pss_cons (ps_compT (i := 1) sc__law_truths_told.nd rfl rfl (CSc.of (N' := ["_law_k", "_law_pot_here"]) (sub := [none, some 0]) (defScope (top 48)) ["_law_pot_here", "_law_some_here", "_law_board", "_law_calls", "_law_other", "_law_told"] rfl rfl (by decide +kernel) rfl) rfl (pi_range1 rfl B.range (pa_cons pe_int pa_nil)) (fun _ _ _ _ _ _ => pg_name (i := 0) (show (["_law_k", "_law_pot_here"] : List Str).Nodup by decide +kernel) rfl (Or.inl rfl)) (fun _ _ _ _ _ _ => pifs_nil) (fun _ _ _ _ _ _ => (pe_callC c__law_take hr rfl (pa_cons (pv 1) (pa_cons pe_int pa_nil))))) (pss_cons (ps_set (i := 2) sc__law_truths_told.nd rfl (Or.inl rfl) (pe_tup (pa_cons (pe_ix ix_list (pv 1) pe_int (fun _ _ => rfl)) (pa_cons (pe_op op_sub pe_int (pe_ix ix_list (pv 1) pe_int (fun _ _ => rfl))) pa_nil)))) (pss_cons (ps_set (i := 3) sc__law_truths_told.nd rfl (Or.inl rfl) (pe_tup (pa_cons (pe_tup (pa_cons (pe_ix ix_list (pv 1) pe_int (fun _ _ => rfl)) (pa_cons (pe_ix ix_list (pv 1) pe_int (fun _ _ => rfl)) (pa_cons (pe_tup (pa_cons (pe_ix ix_list (pv 1) pe_int (fun _ _ => rfl)) (pa_cons pe_int (pa_cons pe_int pa_nil)))) (pa_cons (pe_ix ix_list (pv 1) pe_int (fun _ _ => rfl)) (pa_cons pe_int (pa_cons (pe_ix ix_list (pv 1) pe_int (fun _ _ => rfl)) pa_nil))))))) pa_nil))) (pss_cons (ps_for PassesOwn.never rfl (pi_list (pe_callC c__law_truths hr rfl (pa_cons (pv 3) pa_nil))) (pg_name (i := 4) sc__law_truths_told.nd rfl (Or.inl rfl)) (pss_cons (ps_set (i := 5) sc__law_truths_told.nd rfl (Or.inl rfl) (pe_lst (pa_cons (pe_callC c__law_word hr rfl (pa_cons (pv 2) (pa_cons (pv 3) pa_nil))) (pa_cons (pe_callC c__law_word hr rfl (pa_cons (pv 2) (pa_cons (pv 4) pa_nil))) (pa_cons (pe_callC c__law_word hr rfl (pa_cons (pv 2) (pa_cons (pv 3) pa_nil))) pa_nil))))) (pss_one (ps_if (pt_not (pt_val (pe_callB (call_allB rfl) rfl B.all b_all (pa_cons (pe_compT (CSc.of (N' := ["_law_found", "_law_due"]) (sub := [none, none]) (defScope (top 48)) ["_law_pot_here", "_law_some_here", "_law_board", "_law_calls", "_law_other", "_law_told"] rfl rfl (by decide +kernel) rfl) rfl (pi_zip (K := K) rfl rfl g_zip (pa_cons (pv 5) (pa_cons (pe_lst (pa_cons pe_bl (pa_cons pe_bl (pa_cons pe_bl pa_nil)))) pa_nil))) (fun _ _ _ _ _ _ => pg_tupK (K := K) 2 rfl rfl (pgs_cons (pg_name (i := 0) (show (["_law_found", "_law_due"] : List Str).Nodup by decide +kernel) rfl (Or.inl rfl) (Or.inr rfl)) (pgs_cons (pg_name (i := 1) (show (["_law_found", "_law_due"] : List Str).Nodup by decide +kernel) rfl (Or.inl rfl) (Or.inr rfl)) pgs_nil)) rfl rfl) (fun _ _ _ _ _ _ => pifs_nil) (fun _ _ _ _ _ _ => (pe_callC c__law_is_truth hr rfl (pa_cons (pv 0) (pa_cons (pv 1) pa_nil))))) pa_nil)))) (pss_one (ps_ret pe_bl)) pss_nil)))) (pss_cons (ps_for PassesOwn.never rfl (pi_list (pe_callC c__law_truths hr rfl (pa_cons (pv 2) pa_nil))) (pg_name (i := 4) sc__law_truths_told.nd rfl (Or.inl rfl)) (pss_cons (ps_set (i := 5) sc__law_truths_told.nd rfl (Or.inl rfl) (pe_lst (pa_cons (pe_callC c__law_word hr rfl (pa_cons (pv 4) (pa_cons (pv 3) pa_nil))) (pa_cons (pe_callC c__law_word hr rfl (pa_cons (pv 2) (pa_cons (pv 3) pa_nil))) pa_nil)))) (pss_one (ps_if (PW.pt (pw_or (pt_cmpR (op_neL hr) (pe_ix ix_list (pv 5) pe_int (fun _ _ => rfl)) (pe_lst (pa_cons pe_bl (pa_cons pe_bl pa_nil))) (nomark _)) (pw_or1 (pt_not (pt_val (pe_callC c__law_is_truth hr rfl (pa_cons (pe_ix ix_list (pv 5) pe_int (fun _ _ => rfl)) (pa_cons pe_bl pa_nil)))))))) (pss_one (ps_ret pe_bl)) pss_nil)))) (pss_one (ps_ret pe_bl))))))), ?_⟩
  refine c_asg (fun v H' => ∃ (l : Addr) (a b c d e f : Int), v = .ref l ∧ H' l = some (.lst [.int a, .int b, .int c, .int d, .int e, .int f]) ∧ (a = 0 ∨ a = 1) ∧ (b = 0 ∨ b = 1) ∧ (c = 0 ∨ c = 1) ∧ (d = 0 ∨ d = 1) ∧ (e = 0 ∨ e = 1) ∧ (f = 0 ∨ f = 1) ∧ Grow [p] H H' ∧ Pot H' p) (fun Kk hk => ⟨_, rfl, by decide, by decide, comp_rng (fun i ys H' => ∃ ns : List Int, ys = ns.map V.int ∧ ns.length = i ∧ (∀ n ∈ ns, n = 0 ∨ n = 1) ∧ Grow [p] H H' ∧ Pot H' p) ⟨[], rfl, rfl, (fun _ h => nomatch h), Grow.refl _ _, pp⟩ ?_ ?_⟩) ?_
  · rintro i ys H' hi ⟨ns, rfl, nl, nb, g, pp'⟩
    refine ⟨_, rfl, _, _, rfl, p, 2, rfl, rfl, pp', by decide, by decide, fun t H2 t0 t1 g2 pp2 => ⟨lt72 (by rw [List.length_map]; omega), ns ++ [t], by rw [List.map_append]; rfl, by rw [List.length_append, List.length_singleton, nl], fun v hv => ?_, g.trans g2, pp2⟩⟩
    rcases List.mem_append.mp hv with hv | hv
    · exact nb v hv
    · rw [List.mem_singleton.mp hv]; omega
  · rintro ys H' ⟨ns, rfl, nl, nb, g, pp'⟩ l hl
    obtain ⟨a, b, c, d, e, f, rfl, h1, h2, h3, h4, h5, h6⟩ := six71 (by rw [nl]; rfl) nb
    exact hk _ _ ⟨l, a, b, c, d, e, f, rfl, upd_same, h1, h2, h3, h4, h5, h6, g.trans (Grow.new hl _), pp'.grow (Grow.new hl _)⟩
  rintro _ H1 ⟨ls, a, b, c, d, e, f, rfl, hl1, ha, hb, hc, hd, he, hf, g1, pp1⟩
  refine c_asg (fun v H' => BoardAt K H' v [f, 1 - f] ∧ Grow [] H1 H') (fun Kk hk => ⟨_, rfl, ls, _, 5, _, rfl, rfl, SqL.of hl1, atI_nat (j := 5) rfl, _, rfl, ls, _, 5, _, rfl, rfl, SqL.of hl1, atI_nat (j := 5) rfl, _, _, rfl, rfl, szl rfl, fun r hr => hk _ _ ⟨⟨r, rfl, SqT.of upd_same⟩, Grow.new hr _⟩⟩) ?_
  rintro vb H2 ⟨hB2, g2⟩
  have hl2 := g2.keep _ _ (by simp) hl1
  refine c_asg (fun v H' => CallsAt72 K H' v [⟨a, b, ⟨c, some 0, some 1⟩, d, 1, e⟩] ∧ Grow [] H2 H') (fun Kk hk => ⟨_, rfl, ls, _, 0, _, rfl, rfl, SqL.of hl2, atI_nat (j := 0) rfl, _, rfl, ls, _, 1, _, rfl, rfl, SqL.of hl2, atI_nat (j := 1) rfl, _, rfl, ls, _, 2, _, rfl, rfl, SqL.of hl2, atI_nat (j := 2) rfl, szl rfl, fun rd nd => ?_⟩) ?_
  · have kd := Grow.new (m := []) nd (.tup [V.int c, .int 0, .int 1])
    have hl3 := kd.keep _ _ (by simp) hl2
    refine ⟨_, rfl, ls, _, 3, _, rfl, rfl, SqL.of hl3, atI_nat (j := 3) rfl, _, rfl, ls, _, 4, _, rfl, rfl, SqL.of hl3, atI_nat (j := 4) rfl, szl rfl, fun rc nc => ⟨szl rfl, fun r nr => ?_⟩⟩
    have kc := Grow.new (m := []) nc (.tup [V.int a, .int b, .ref rd, .int d, .int 1, .int e])
    have kr := Grow.new (m := []) nr (.tup [V.ref rc])
    exact hk _ _ ⟨⟨r, [.ref rc], rfl, SqT.of upd_same, ⟨rc, rd, rfl, kr.sqT (SqT.of upd_same), (kc.trans kr).sqT (SqT.of upd_same)⟩, trivial⟩, kd.trans (kc.trans kr)⟩
  rintro vc H3 ⟨hC3, g3⟩
  have hB3 := g3.board hB2
  have hCP := told_calls71 (c := c) (e := e) ha hb hd
  have hBP : boardP (.tuple ([f, 1 - f].map PyData.int)) = true := boardP_ints71 (show 1 ≤ 2 by decide) (show 2 ≤ 16 by decide)
  have wB : ∀ H', Grow [] H3 H' → Od K [] H' vb (.tuple ([f, 1 - f].map PyData.int)) := fun H' g => od_board72 (g.board hB3)
  have wC : ∀ H', Grow [] H3 H' → Od K [] H' vc (.tuple ([(⟨a, b, ⟨c, some 0, some 1⟩, d, 1, e⟩ : Call72)].map callD)) := fun H' g => od_calls72 (g.calls72 hC3)
  generalize hDB : (PyData.tuple ([f, 1 - f].map PyData.int)) = DB at wB hBP
  generalize hDC : (PyData.tuple ([(⟨a, b, ⟨c, some 0, some 1⟩, d, 1, e⟩ : Call72)].map callD)) = DC at wC hCP
  have lB : lenD DB = 2 := by rw [← hDB]; rfl
  have lC : lenD DC = 1 := by rw [← hDC]; rfl
  have pB : Pl71 DB := pl_board71 hBP
  have pC : Pl71 DC := pl_calls71 hCP
  have dB : DB.depth < 6 := by rw [← hDB]; exact dp_board71 _
  have dC : DC.depth < 6 := by rw [← hDC]; exact dp_calls71 _
  have tB : wtO DB ≤ 900000 := by rw [← hDB]; exact wt_board71 _ _
  have tC : wtO DC ≤ 900000 := by rw [← hDC]; exact wt_calls71 _
  have nb : ∀ {P : Prop}, boardP DB = false → P := fun z => by rw [hBP] at z; cases z
  have bC : ∀ {v : V}, v = .bl (callsP (lenD DB) DC) → v = .bl true := fun h => by rw [h, lB, hCP]
  refine ⟨_, rfl, _, rfl, DC, [], wC _ (Grow.refl _ _), pC, dC, tC, fun l4 z4 H4 g4 h4 o4 len4 => ⟨l4, rfl, ⟨_, SqL.of h4⟩, for_list (xs := z4) (fun i σ H' => ∃ (e4 e5 : Option V), σ = [some (.ref p), some (.ref ls), some vb, some vc, e4, e5] ∧ Grow [] H4 H') ⟨_, _, rfl, Grow.refl _ _⟩ (fun i σ H' _ ⟨_, _, _, g⟩ => SqL.of (g.keep _ _ (by simp) h4)) ?_ ?_⟩⟩
  · rintro i v σ H5 hv ⟨e4, e5, rfl, g5⟩
    obtain ⟨eo, ks, fo, bo, oo, rfl, hin⟩ := o4 v (List.mem_of_getElem? hv)
    have lw := len_wi71 (o := .bool bo) hin
    have l0 : lenD (.bool bo) = 0 := rfl
    have hno : callsP (lenD DB) (wiD DC ks (.bool bo)) = false := no_calls71 hin
    have G5 := g4.trans g5
    refine c_asg (fun w H' => ∃ l6, w = .ref l6 ∧ H' l6 = some (.lst [.bl true, .bl false, .bl true]) ∧ Grow [] H5 H') (fun Kk hk => ⟨_, rfl, _, rfl, _, _, rfl, DB, DC, [], wB _ G5, wC _ G5, by omega, by omega, (fun _ H6 g6 => ⟨_, rfl, _, rfl, _, _, rfl, DB, _, [], wB _ (G5.trans g6), oo.grow (g5.trans g6), by omega, by omega, (fun _ H7 g7 => ⟨_, rfl, _, rfl, _, _, rfl, DB, DC, [], wB _ (G5.trans (g6.trans g7)), wC _ (G5.trans (g6.trans g7)), by omega, by omega, (fun _ H8 g8 => ⟨szl rfl, fun l6 n6 => hk _ _ ⟨l6, rfl, by rw [lB, hCP, ← lB, hno]; exact upd_same, g6.trans (g7.trans (g8.trans (Grow.new n6 _)))⟩⟩), (fun z => nb z)⟩), (fun z => nb z)⟩), (fun z => nb z)⟩) ?_
    rintro _ H6 ⟨l6, rfl, h6, g6⟩
    refine ⟨_, rfl, szl rfl, fun lb nlb => ?_⟩
    have kb := Grow.new (m := []) nlb (.lst [V.bl true, V.bl false, V.bl true])
    have h6' := kb.keep _ _ (by simp) h6
    refine ⟨false, false, l6, lb, rfl, ⟨_, SqL.of h6'⟩, ⟨_, SqL.of upd_same⟩, comp_zip (xs := [V.bl true, V.bl false, V.bl true]) (ys := [V.bl true, V.bl false, V.bl true]) (fun i ws σ H' => (∃ (e0 e1 : Option V), σ = [e0, e1]) ∧ ws = (List.replicate i true).map V.bl ∧ Grow [] (upd H6 lb (.lst [V.bl true, V.bl false, V.bl true])) H') ⟨⟨_, _, rfl⟩, rfl, Grow.refl _ _⟩ (fun i ws σ H' ⟨_, _, g⟩ => ⟨SqL.of (g.keep _ _ (by simp) h6'), SqL.of (g.keep _ _ (by simp) upd_same)⟩) ?_ ?_⟩
    · rintro j x y ws σ H7 T hx hy ⟨⟨e0, e1, rfl⟩, rfl, g7⟩ hT
      have hxy : x = y := Option.some.inj (hx.symm.trans hy)
      subst hxy
      have hj : j < 3 := (List.getElem?_eq_some_iff.mp hx).1
      obtain ⟨t, rfl⟩ : ∃ t, x = .bl t := by
        have : j = 0 ∨ j = 1 ∨ j = 2 := by omega
        rcases this with rfl | rfl | rfl <;> exact ⟨_, (Option.some.inj hx).symm⟩
      have gT := Grow.new (m := []) hT (.tup [V.bl t, V.bl t])
      refine ⟨T, _, rfl, SqT.of upd_same, rfl, _, _, rfl, _, _, rfl, rfl, tTrue_i ?_⟩
      refine ⟨_, rfl, _, rfl, _, _, rfl, t, t, rfl, rfl, lt72 (by rw [List.length_map, List.length_replicate]; omega), ⟨_, _, rfl⟩, ?_, g7.trans gT⟩
      rw [List.replicate_succ', List.map_append, show (t == t) = true from by cases t <;> rfl]; rfl
    · rintro ws σ H7 ⟨_, rfl, g7⟩ l7 n7
      exact ⟨l7, List.replicate 3 true, rfl, SqL.of upd_same, _, rfl, iteF ⟨_, _, rfl, g5.trans (g6.trans (kb.trans (g7.trans (Grow.new n7 _))))⟩⟩
  rintro σ H5 ⟨e4, e5, rfl, g5⟩
  dsimp only
  have G5 := g4.trans g5
  refine ⟨_, rfl, _, rfl, DB, [], wB _ G5, pB, dB, tB, fun l8 z8 H8 g8 h8 o8 len8 => ⟨l8, rfl, ⟨_, SqL.of h8⟩, for_list (xs := z8) (fun i σ H' => ∃ (e4 e5 : Option V), σ = [some (.ref p), some (.ref ls), some vb, some vc, e4, e5] ∧ Grow [] H8 H') ⟨_, _, rfl, Grow.refl _ _⟩ (fun i σ H' _ ⟨_, _, _, g⟩ => SqL.of (g.keep _ _ (by simp) h8)) ?_ ?_⟩⟩
  · rintro i v σ H9 hv ⟨e4, e5, rfl, g9⟩
    obtain ⟨eo, ks, fo, bo, oo, rfl, hin⟩ := o8 v (List.mem_of_getElem? hv)
    have lw := len_wi71 (o := .bool bo) hin
    have l0 : lenD (.bool bo) = 0 := rfl
    have hno : boardP (wiD DB ks (.bool bo)) = false := no_board71 hin
    have G9 := G5.trans (g8.trans g9)
    refine c_asg (fun w H' => ∃ l6 la, w = .ref l6 ∧ H' l6 = some (.lst [.ref la, .bl true]) ∧ H' la = some (.lst [.bl true, .bl false]) ∧ Grow [] H9 H') (fun Kk hk => ⟨_, rfl, _, rfl, _, _, rfl, _, DC, [], oo.grow g9, wC _ G9, by omega, by omega, (fun z => by rw [hno] at z; cases z), fun _ la H10 g10 h10 => ⟨_, rfl, _, rfl, _, _, rfl, DB, DC, [], wB _ (G9.trans g10), wC _ (G9.trans g10), by omega, by omega, (fun _ H11 g11 => ⟨szl rfl, fun l6 n6 => hk _ _ ⟨l6, la, rfl, by rw [lB, hCP]; exact upd_same, (g11.trans (Grow.new n6 _)).keep _ _ (by simp) h10, g10.trans (g11.trans (Grow.new n6 _))⟩⟩), (fun z => nb z)⟩⟩) ?_
    rintro _ H10 ⟨l6, la, rfl, h6, ha6, g10⟩
    refine ⟨_, rfl, l6, _, 0, _, rfl, rfl, SqL.of h6, atI_nat (j := 0) rfl, szl rfl, fun lb nlb => ?_⟩
    have kb := Grow.new (m := []) nlb (.lst [V.bl true, V.bl false])
    refine ⟨la, lb, _, _, rfl, rfl, SqL.of (kb.keep _ _ (by simp) ha6), SqL.of upd_same, rfl, rfl, _, rfl, iteF ⟨_, rfl, l6, _, 1, _, rfl, rfl, SqL.of (kb.keep _ _ (by simp) h6), atI_nat (j := 1) rfl, _, _, rfl, true, true, rfl, rfl, _, rfl, iteF ⟨_, _, rfl, g9.trans (g10.trans kb)⟩⟩⟩
  · rintro σ H9 ⟨e4, e5, rfl, g9⟩
    have G9 : Grow [] H1 H9 := g2.trans (g3.trans (G5.trans (g8.trans g9)))
    exact q _ (g1.trans G9.wk) (pp1.grow G9)
theorem sc__law_at : FnScope ["_law_script", "_law_k"] ["_law_script", "_law_k"] (defScope (top 28)) := ⟨rfl, rfl, rfl, by decide +kernel, rfl, by decide +kernel, by decide +kernel⟩
set_option maxHeartbeats 0 in
theorem ok__law_at {n : Nat} {f : Addr} {fd : FuncData} (F : Fun K "_law_at" "_law_at" (top 28) f fd) (B : Blt mg)     :
    FnOk P w K mg base CX0 (n + 1) f fd ["_law_script", "_law_k"] (sp_at72 K) := by
  refine F.ok sc__law_at sp2_len (fun cdv A outer s H vs Q E hr h => ?_)
  obtain ⟨x, y, rfl, a, ns, k, rfl, rfl, hs, k0, q⟩ := h
  refine ⟨_, (pss_cons (ps_if (pt_cmpR op_lt (pv 1) (pe_callB call_len_seq rfl B.len b_len (pa_cons (pv 0) pa_nil)) (nomark _)) (pss_one (ps_ret (pe_ix ix_list (pv 0) (pv 1) (fun _ _ => rfl)))) pss_nil) (pss_one (ps_ret pe_int))), ?_⟩
  refine ⟨_, rfl, _, rfl, a, _, rfl, .inl hs.sq, _, _, rfl, rfl, _, rfl, ?_⟩
  refine ite2 (fun c => ?_) (fun c => ?_)
  · have c' : k < ((ns.map V.int).length : Int) := of_decide_eq_true c
    rw [List.length_map] at c'
    have hk : k.toNat < ns.length := by omega
    have ek : k = ((k.toNat : Nat) : Int) := by omega
    have hat : atI (ns.map V.int) k = some (.int ns[k.toNat]) := by
      have z : atI (ns.map V.int) ((k.toNat : Nat) : Int) = some (.int ns[k.toNat]) := atI_nat (by rw [List.getElem?_map, List.getElem?_eq_getElem hk]; rfl)
      rw [← ek] at z; exact z
    exact ⟨_, rfl, _, rfl, a, _, _, _, rfl, rfl, hs.sq, hat, q _ (.inr (List.getElem_mem hk))⟩
  · exact q 0 (.inl rfl)
theorem sc__law_pot : FnScope ["_law_script", "_law_k", "_law_cell", "_law_seed"] ["_law_script", "_law_k"] (defScope (top 29)) := ⟨rfl, rfl, rfl, by decide +kernel, rfl, by decide +kernel, by decide +kernel⟩
set_option maxHeartbeats 0 in
theorem ok__law_pot {n : Nat} {f : Addr} {fd : FuncData} (F : Fun K "_law_pot" "_law_pot" (top 29) f fd) (B : Blt mg) (c__law_at : Callee P w K mg base n "_law_at" ["_law_script", "_law_k"] (sp_at72 K))    :
    FnOk P w K mg base CX0 (n + 1) f fd ["_law_script", "_law_k"] (sp_pot K) := by
  refine F.ok sc__law_pot sp2_len (fun cdv A outer s H vs Q E hr h => ?_)
  obtain ⟨x, y, rfl, a, ns, k, rfl, rfl, hs, k0, k1, q⟩ := h
  refine ⟨_, (pss_cons (ps_set (i := 2) sc__law_pot.nd rfl (Or.inl rfl) (pe_callC c__law_at hr rfl (pa_cons (pv 0) (pa_cons (pv 1) pa_nil)))) (pss_cons (ps_set (i := 3) sc__law_pot.nd rfl (Or.inl rfl) (pe_op op_mod (pe_op op_pow (pe_op op_add (pe_op op_mulG (pe_op op_add (pe_op op_mod (pv 2) pe_int) pe_int) (pe_op op_add (pe_op op_mulG pe_int (pv 1)) pe_int)) pe_int) pe_int) pe_int)) (pss_one (ps_ret (pe_lst (pa_cons (pe_callB (call_max2 rfl) rfl B.max b_max (pa_cons pe_int (pa_cons (pe_op op_sub (pv 2) (pe_op op_pow pe_int pe_int)) pa_nil))) (pa_cons (pv 3) pa_nil))))))), ?_⟩
  refine ⟨_, rfl, _, rfl, _, _, rfl, a, ns, k, rfl, rfl, hs, k0, fun c _ => ?_⟩
  have c0 : 0 ≤ c % 2147483629 := Int.emod_nonneg _ (by decide)
  have c1 : c % 2147483629 < 2147483629 := Int.emod_lt_of_pos _ (by decide)
  have m0 : 0 ≤ (c % 2147483629 + 11) * (977 * k + 131) := Int.mul_nonneg (by omega) (by omega)
  have m1 : (c % 2147483629 + 11) * (977 * k + 131) ≤ 2147483640 * 1000000 := Int.mul_le_mul (by omega) (by omega) (by omega) (by decide)
  refine ⟨_, rfl, _, _, rfl, rfl, (by show (0 : Int) < 2147483629; decide), _, _, rfl, rfl, _, rfl, _, _, rfl, rfl, mulOkL ⟨by decide, by decide⟩, _, _, rfl, rfl, _, _, rfl, rfl, mulOkR ⟨by omega, by omega⟩, _, _, rfl, rfl, _, _, rfl, rfl, ⟨by decide, by decide, by omega⟩, _, _, rfl, rfl, (by show (0 : Int) < 2147483647; decide), ?_⟩
  refine ⟨_, rfl, _, _, rfl, rfl, ⟨by decide, by decide, by decide⟩, _, _, rfl, rfl, _, _, rfl, _, rfl, szl rfl, fun p hp => ?_⟩
  refine q p _ hp (Grow.new hp _) ⟨_, _, upd_same, ?_⟩
  split <;> omega
theorem sc__law_no_boards : FnScope ["_law_board", "_law_some_here"] ["_law_board"] (defScope (top 43)) := ⟨rfl, rfl, rfl, by decide +kernel, rfl, by decide +kernel, by decide +kernel⟩
set_option maxHeartbeats 0 in
theorem ok__law_no_boards {n : Nat} {f : Addr} {fd : FuncData} (F : Fun K "_law_no_boards" "_law_no_boards" (top 43) f fd) (B : Blt mg)     :
    FnOk P w K mg base CX0 (n + 1) f fd ["_law_board"] (sp_nob71 K) := by
  refine F.ok sc__law_no_boards sp1_len (fun cdv A outer s H vs Q E hr h => ?_)
  obtain ⟨x, rfl, b, m, hb, b1, b16, hm, q⟩ := h
  refine ⟨_, (@pss_cons _ _ _ _ _ (@ps_set _ _ 1 _ _ _ _ sc__law_no_boards.nd rfl (Or.inl rfl) (@pe_lst _ _ _ _ (@pa_cons _ _ _ _ _ pe_non (@pa_cons _ _ _ _ _ (@pe_tup _ _ _ _ _ pa_nil) (@pa_cons _ _ _ _ _ (@pe_callTy _ _ _ _ _ _ _ _ _ (call_listB (K := K) rfl) rfl B.list b_list (@pa_cons _ _ _ _ _ (pv 0) pa_nil (by first | rfl | decide | exact Or.inl rfl | exact Or.inr rfl | exact Or.inr (Or.inl rfl) | exact Or.inr (Or.inr rfl) | exact fun _ => rfl | exact Nat.le_of_ble_eq_true rfl)) (by first | rfl | decide | exact Or.inl rfl | exact Or.inr rfl | exact Or.inr (Or.inl rfl) | exact Or.inr (Or.inr rfl) | exact fun _ => rfl | exact Nat.le_of_ble_eq_true rfl) (by first | rfl | decide | exact Or.inl rfl | exact Or.inr rfl | exact Or.inr (Or.inl rfl) | exact Or.inr (Or.inr rfl) | exact fun _ => rfl | exact Nat.le_of_ble_eq_true rfl) (by first | rfl | decide | exact Or.inl rfl | exact Or.inr rfl | exact Or.inr (Or.inl rfl) | exact Or.inr (Or.inr rfl) | exact fun _ => rfl | exact Nat.le_of_ble_eq_true rfl) (by first | rfl | decide | exact Or.inl rfl | exact Or.inr rfl | exact Or.inr (Or.inl rfl) | exact Or.inr (Or.inr rfl) | exact fun _ => rfl | exact Nat.le_of_ble_eq_true rfl)) (@pa_cons _ _ _ _ _ pe_str (@pa_cons _ _ _ _ _ pe_int (@pa_cons _ _ _ _ _ pe_bl (@pa_cons _ _ _ _ _ (po_dnil (K := K)) (@pa_cons _ _ _ _ _ (@pe_op _ _ _ _ _ _ _ _ (op_catG (K := K) rfl) (pv 0) (@pe_tup _ _ _ _ _ (@pa_cons _ _ _ _ _ pe_bl pa_nil (by first | rfl | decide | exact Or.inl rfl | exact Or.inr rfl | exact Or.inr (Or.inl rfl) | exact Or.inr (Or.inr rfl) | exact fun _ => rfl | exact Nat.le_of_ble_eq_true rfl)))) (@pa_cons _ _ _ _ _ (@pe_op _ _ _ _ _ _ _ _ (op_catG (K := K) rfl) (@pe_tup _ _ _ _ _ (@pa_cons _ _ _ _ _ pe_non pa_nil (by first | rfl | decide | exact Or.inl rfl | exact Or.inr rfl | exact Or.inr (Or.inl rfl) | exact Or.inr (Or.inr rfl) | exact fun _ => rfl | exact Nat.le_of_ble_eq_true rfl))) (@pe_slice _ _ _ _ _ _ _ _ _ _ (sl_tupG (K := K) rfl) (pv 0) (@po_some _ _ _ pe_int) po_none)) (@pa_cons _ _ _ _ _ (@pe_op _ _ _ _ _ _ _ _ (op_repT (K := K) rfl) (@pe_tup _ _ _ _ _ (@pa_cons _ _ _ _ _ pe_int pa_nil (by first | rfl | decide | exact Or.inl rfl | exact Or.inr rfl | exact Or.inr (Or.inl rfl) | exact Or.inr (Or.inr rfl) | exact fun _ => rfl | exact Nat.le_of_ble_eq_true rfl))) pe_int) (@pa_cons _ _ _ _ _ (@pe_tup _ _ _ _ _ (@pa_cons _ _ _ _ _ (@pe_tup _ _ _ _ _ (@pa_cons _ _ _ _ _ pe_int pa_nil (by first | rfl | decide | exact Or.inl rfl | exact Or.inr rfl | exact Or.inr (Or.inl rfl) | exact Or.inr (Or.inr rfl) | exact fun _ => rfl | exact Nat.le_of_ble_eq_true rfl))) pa_nil (by first | rfl | decide | exact Or.inl rfl | exact Or.inr rfl | exact Or.inr (Or.inl rfl) | exact Or.inr (Or.inr rfl) | exact fun _ => rfl | exact Nat.le_of_ble_eq_true rfl))) (@pa_cons _ _ _ _ _ (@pe_tup _ _ _ _ _ (@pa_cons _ _ _ _ _ pe_str pa_nil (by first | rfl | decide | exact Or.inl rfl | exact Or.inr rfl | exact Or.inr (Or.inl rfl) | exact Or.inr (Or.inr rfl) | exact fun _ => rfl | exact Nat.le_of_ble_eq_true rfl))) pa_nil (by first | rfl | decide | exact Or.inl rfl | exact Or.inr rfl | exact Or.inr (Or.inl rfl) | exact Or.inr (Or.inr rfl) | exact fun _ => rfl | exact Nat.le_of_ble_eq_true rfl)) (by first | rfl | decide | exact Or.inl rfl | exact Or.inr rfl | exact Or.inr (Or.inl rfl) | exact Or.inr (Or.inr rfl) | exact fun _ => rfl | exact Nat.le_of_ble_eq_true rfl)) (by first | rfl | decide | exact Or.inl rfl | exact Or.inr rfl | exact Or.inr (Or.inl rfl) | exact Or.inr (Or.inr rfl) | exact fun _ => rfl | exact Nat.le_of_ble_eq_true rfl)) (by first | rfl | decide | exact Or.inl rfl | exact Or.inr rfl | exact Or.inr (Or.inl rfl) | exact Or.inr (Or.inr rfl) | exact fun _ => rfl | exact Nat.le_of_ble_eq_true rfl)) (by first | rfl | decide | exact Or.inl rfl | exact Or.inr rfl | exact Or.inr (Or.inl rfl) | exact Or.inr (Or.inr rfl) | exact fun _ => rfl | exact Nat.le_of_ble_eq_true rfl)) (by first | rfl | decide | exact Or.inl rfl | exact Or.inr rfl | exact Or.inr (Or.inl rfl) | exact Or.inr (Or.inr rfl) | exact fun _ => rfl | exact Nat.le_of_ble_eq_true rfl)) (by first | rfl | decide | exact Or.inl rfl | exact Or.inr rfl | exact Or.inr (Or.inl rfl) | exact Or.inr (Or.inr rfl) | exact fun _ => rfl | exact Nat.le_of_ble_eq_true rfl)) (by first | rfl | decide | exact Or.inl rfl | exact Or.inr rfl | exact Or.inr (Or.inl rfl) | exact Or.inr (Or.inr rfl) | exact fun _ => rfl | exact Nat.le_of_ble_eq_true rfl)) (by first | rfl | decide | exact Or.inl rfl | exact Or.inr rfl | exact Or.inr (Or.inl rfl) | exact Or.inr (Or.inr rfl) | exact fun _ => rfl | exact Nat.le_of_ble_eq_true rfl)) (by first | rfl | decide | exact Or.inl rfl | exact Or.inr rfl | exact Or.inr (Or.inl rfl) | exact Or.inr (Or.inr rfl) | exact fun _ => rfl | exact Nat.le_of_ble_eq_true rfl)) (by first | rfl | decide | exact Or.inl rfl | exact Or.inr rfl | exact Or.inr (Or.inl rfl) | exact Or.inr (Or.inr rfl) | exact fun _ => rfl | exact Nat.le_of_ble_eq_true rfl)) (by first | rfl | decide | exact Or.inl rfl | exact Or.inr rfl | exact Or.inr (Or.inl rfl) | exact Or.inr (Or.inr rfl) | exact fun _ => rfl | exact Nat.le_of_ble_eq_true rfl))) (by first | rfl | decide | exact Or.inl rfl | exact Or.inr rfl | exact Or.inr (Or.inl rfl) | exact Or.inr (Or.inr rfl) | exact fun _ => rfl | exact Nat.le_of_ble_eq_true rfl) (by first | rfl | decide | exact Or.inl rfl | exact Or.inr rfl | exact Or.inr (Or.inl rfl) | exact Or.inr (Or.inr rfl) | exact fun _ => rfl | exact Nat.le_of_ble_eq_true rfl)) (@pss_one _ _ _ (@ps_ret _ _ _ _ (@pe_op _ _ _ _ _ _ _ _ op_cat (pv 1) (@pe_lst _ _ _ _ (@pa_cons _ _ _ _ _ (@pe_op _ _ _ _ _ _ _ _ (op_repT (K := K) rfl) (pv 0) pe_int) (@pa_cons _ _ _ _ _ (@pe_op _ _ _ _ _ _ _ _ (op_catG (K := K) rfl) (@pe_slice _ _ _ _ _ _ _ _ _ _ (sl_tupG (K := K) rfl) (pv 0) po_none (@po_some _ _ _ (@pe_un _ _ _ _ _ _ un_neg pe_int))) (@pe_tup _ _ _ _ _ (@pa_cons _ _ _ _ _ (@pe_lstB _ _ _ _ pa_nil) pa_nil (by first | rfl | decide | exact Or.inl rfl | exact Or.inr rfl | exact Or.inr (Or.inl rfl) | exact Or.inr (Or.inr rfl) | exact fun _ => rfl | exact Nat.le_of_ble_eq_true rfl)))) pa_nil (by first | rfl | decide | exact Or.inl rfl | exact Or.inr rfl | exact Or.inr (Or.inl rfl) | exact Or.inr (Or.inr rfl) | exact fun _ => rfl | exact Nat.le_of_ble_eq_true rfl)) (by first | rfl | decide | exact Or.inl rfl | exact Or.inr rfl | exact Or.inr (Or.inl rfl) | exact Or.inr (Or.inr rfl) | exact fun _ => rfl | exact Nat.le_of_ble_eq_true rfl))))))), ?_⟩
  obtain ⟨rb, rfl, hs⟩ := hb
  have bl : (b.map V.int).length = b.length := List.length_map ..
  have bd : (b.map PyData.int).length = b.length := List.length_map ..
  have bne : b.map V.int ≠ [] := fun z => by rw [z] at bl; simp at bl; omega
  refine ⟨szl rfl, fun t1 n1 => ⟨_, rfl, rb, _, rfl, .inr ((Grow.new (m := []) n1 (.tup [])).sqT hs), fun la na sa => ?_⟩⟩
  have k1 := Grow.new (m := []) n1 (.tup [])
  have k2 := Grow.new (m := []) na (.lst (b.map V.int))
  have nla : la ∉ m := fun z => grow_none k1 hm la z na
  have K2 := k1.trans k2
  refine ⟨m, trivial, grow_none K2 hm, fun xd H3 g3 od => ⟨_, rfl, szl rfl, fun t2 n2 => ?_⟩⟩
  have k3 := Grow.new (m := []) n2 (.tup [V.bl true])
  have K3 := K2.trans (g3.trans k3)
  refine ⟨rb, t2, _, _, rfl, rfl, K3.sqT hs, SqT.of upd_same, leS71 (by rw [bl]; show _ + 1 ≤ 7000000; omega), fun p3 H4 g4 s4 => ⟨szl rfl, fun t4 n4 => ?_⟩⟩
  have k4 := Grow.new (m := []) n4 (.tup [V.non])
  have K4 := K3.trans (g4.trans k4)
  refine ⟨_, rfl, _, rfl, rb, _, rfl, K4.sqT hs, fun p5 H6 g6 s6 => ⟨t4, p5, _, _, rfl, rfl, g6.sqT (SqT.of upd_same), s6, leS71 (by have := cutV_length (b.map V.int) (lo := some (1 : Int)) (hi := none); show 1 + _ ≤ 7000000; omega), fun p6 H7 g7 s7 => ⟨szl rfl, fun t7 n7 => ?_⟩⟩⟩
  have k7 := Grow.new (m := []) n7 (.tup [V.int 0])
  refine ⟨t7, 17, _, rfl, rfl, SqT.of upd_same, (fun z => nomatch z), leS71 (by show 1 * 17 ≤ 7000000; omega), fun p8 H8 g8 s8 => ⟨szl rfl, fun t8 n8 => ⟨szl rfl, fun t9 n9 => ⟨szl rfl, fun t10 n10 => ⟨szl rfl, fun l1 nl1 => ?_⟩⟩⟩⟩⟩
  have k8 := Grow.new (m := []) n8 (.tup [V.int 0])
  have k9 := Grow.new (m := []) n9 (.tup [V.ref t8])
  have k10 := Grow.new (m := []) n10 (.tup [V.str "0"])
  have kl1 := Grow.new (m := []) nl1 (.lst [V.non, .ref t1, .ref la, .str "0", .int 0, .bl true, xd, .ref p3, .ref p6, .ref p8, .ref t9, .ref t10])
  have K8 := K4.trans (g6.trans (g7.trans (k7.trans (g8.trans (k8.trans (k9.trans (k10.trans kl1)))))))
  refine ⟨_, rfl, _, rfl, rb, 17, _, rfl, rfl, K8.sqT hs, bne, leS71 (by rw [bl]; omega), fun p11 H11 g11 s11 => ⟨_, rfl, _, rfl, _, rfl, rb, _, rfl, (K8.trans g11).sqT hs, fun p12 H12 g12 s12 => ⟨szl rfl, fun lb nb sb => ⟨szl rfl, fun t13 n13 => ?_⟩⟩⟩⟩
  have K12 := K8.trans (g11.trans g12)
  have kb := Grow.new (m := []) nb (.lst [])
  have k13 := Grow.new (m := []) n13 (.tup [V.ref lb])
  have nlb : lb ∉ m := fun z => grow_none K12 hm lb z nb
  refine ⟨p12, t13, _, _, rfl, rfl, (kb.trans k13).sqT s12, SqT.of upd_same, leS71 (by have := cutV_length (b.map V.int) (lo := none) (hi := some (-1 : Int)); show _ + 1 ≤ 7000000; omega), fun p14 H14 g14 s14 => ⟨szl rfl, fun l2 nl2 => ?_⟩⟩
  have kl2 := Grow.new (m := []) nl2 (.lst [V.ref p11, .ref p14])
  have T1 := g11.trans (g12.trans (kb.trans (k13.trans (g14.trans kl2))))
  refine ⟨l1, l2, _, _, rfl, rfl, T1.keep _ _ (by simp) upd_same, upd_same, szl rfl, fun l nl => ?_⟩
  have kl := Grow.new (m := []) nl (.lst ([V.non, .ref t1, .ref la, .str "0", .int 0, .bl true, xd, .ref p3, .ref p6, .ref p8, .ref t9, .ref t10] ++ [V.ref p11, .ref p14]))
  have T2 := T1.trans kl
  have T14 : Grow [] H14 _ := kl2.trans kl
  have o1 : Nob71 K m _ (.ref t1) := ⟨.tuple [], .tup (SqT.of (upd_same (H := H) (a := t1) (o := .tup []))) .nil, rfl, Nat.zero_le _⟩
  have o2 : Nob71 K m _ (.ref la) := ⟨.list (b.map PyData.int), .lst (upd_same (H := upd H t1 (.tup [])) (a := la) (o := .lst (b.map V.int))) nla sa ods_ints71, rfl, Nat.zero_le _⟩
  have o3 : Nob71 K m _ xd := ⟨_, od, rfl, Nat.zero_le _⟩
  have o4 : Nob71 K m _ (.ref p3) := ⟨_, .tup s4 (ods_ints71.append (.cons (.bl true) .nil)), nob_all71 (by rw [List.all_append]; exact Bool.and_false _), by show (b.map PyData.int ++ [_]).length ≤ 1000; rw [List.length_append, bd]; show _ + 1 ≤ 1000; omega⟩
  have o5 : Nob71 K m _ (.ref p6) := ⟨_, .tup s7 ((Ods.cons .non .nil).append (ods_ints71.cut (lo := some (1 : Int)) (hi := none))), nob_all71 rfl, by have := len_cut71 (ds := b.map PyData.int) (lo := some (1 : Int)) (hi := none); show ([PyData.none] ++ L3.cutD (b.map PyData.int) (some 1) none).length ≤ 1000; rw [List.length_append]; show 1 + _ ≤ 1000; omega⟩
  have o6 : Nob71 K m _ (.ref p8) := ⟨_, .tup s8 ((Ods.cons (.int 0) .nil).rep71 17), nob_len71 (by decide), by decide⟩
  have o7 : Nob71 K m _ (.ref t9) := ⟨_, .tup (SqT.of (upd_same (H := upd H8 t8 (.tup [V.int 0])) (a := t9) (o := .tup [V.ref t8]))) (.cons (.tup (k9.sqT (SqT.of upd_same)) (.cons (.int 0) .nil)) .nil), rfl, by decide⟩
  have o8 : Nob71 K m _ (.ref t10) := ⟨_, .tup (SqT.of (upd_same (H := upd (upd H8 t8 (.tup [V.int 0])) t9 (.tup [V.ref t8])) (a := t10) (o := .tup [V.str "0"]))) (.cons (.str "0") .nil), rfl, by decide⟩
  have o9 : Nob71 K m _ (.ref p11) := ⟨_, .tup s11 (ods_ints71.rep71 17), nob_len71 (by rw [len_rep, bd]; omega), by show (List.replicate 17 (b.map PyData.int)).flatten.length ≤ 1000; rw [len_rep, bd]; omega⟩
  have o10 : Nob71 K m _ (.ref p14) := ⟨_, .tup s14 ((ods_ints71.cut (lo := none) (hi := some (-1 : Int))).append (.cons (.lst ((k13.trans g14).keep _ _ (by simp) upd_same) nlb sb .nil) .nil)), nob_all71 (by rw [List.all_append]; exact Bool.and_false _), by have := len_cut71 (ds := b.map PyData.int) (lo := none) (hi := some (-1 : Int)); show (L3.cutD (b.map PyData.int) none (some (-1)) ++ [PyData.list []]).length ≤ 1000; rw [List.length_append]; show _ + 1 ≤ 1000; omega⟩
  refine q l _ _ (K8.trans T2) ((K8.trans T1).free (by simp) nl) upd_same (fun z hz => ?_) rfl
  have A8 := k9.trans (k10.trans (kl1.trans T2))
  simp only [List.cons_append, List.nil_append, List.mem_cons, List.not_mem_nil, or_false] at hz
  rcases hz with rfl | rfl | rfl | rfl | rfl | rfl | rfl | rfl | rfl | rfl | rfl | rfl | rfl | rfl
  · exact ⟨_, .non, rfl, Nat.zero_le _⟩
  · exact o1.grow ((k2.trans (g3.trans (k3.trans (g4.trans (k4.trans (g6.trans (g7.trans (k7.trans (g8.trans (k8.trans A8)))))))))).wk)
  · exact o2.grow ((g3.trans (k3.trans (g4.trans (k4.trans (g6.trans (g7.trans (k7.trans (g8.trans (k8.trans A8))))))))).wk)
  · exact ⟨_, .str "0", rfl, Nat.zero_le _⟩
  · exact ⟨_, .int 0, rfl, Nat.zero_le _⟩
  · exact ⟨_, .bl true, rfl, Nat.zero_le _⟩
  · exact o3.grow ((k3.trans (g4.trans (k4.trans (g6.trans (g7.trans (k7.trans (g8.trans (k8.trans A8)))))))).wk)
  · exact o4.grow ((k4.trans (g6.trans (g7.trans (k7.trans (g8.trans (k8.trans A8)))))).wk)
  · exact o5.grow ((k7.trans (g8.trans (k8.trans A8))).wk)
  · exact o6.grow ((k8.trans A8).wk)
  · exact o7.grow ((k10.trans (kl1.trans T2)).wk)
  · exact o8.grow ((kl1.trans T2).wk)
  · exact o9.grow ((g12.trans (kb.trans (k13.trans (g14.trans (kl2.trans kl))))).wk)
  · exact o10.grow (T14.wk)
theorem sc__law_is_deed : FnScope ["_law_thing", "_law_ends"] ["_law_thing"] (defScope (top 40)) := ⟨rfl, rfl, rfl, by decide +kernel, rfl, by decide +kernel, by decide +kernel⟩
set_option maxHeartbeats 0 in
theorem ok__law_is_deed {n : Nat} {f : Addr} {fd : FuncData} (F : Fun K "_law_is_deed" "_law_is_deed" (top 40) f fd) (B : Blt mg) (c__law_is_whole : Callee P w K mg base n "_law_is_whole" ["_law_thing"] (sp_is_wholeO K))    :
    FnOk P w K mg base CX0 (n + 1) f fd ["_law_thing"] (sp_lis_deed71 K) := by
  refine F.ok sc__law_is_deed sp1_len (fun cdv A outer s H vs Q E hr h => ?_)
  obtain ⟨x, rfl, d, m, hd, q⟩ := h
  refine ⟨_, (pss_cons (ps_if (PW.pt (pw_or (pt_not (pt_val (pe_callB (call_isiO (K := K) rfl) rfl B.isinstance b_isinstance (pa_cons (pv 0) (pa_cons (pe_tyn rfl B.tuple b_tuple) pa_nil))))) (pw_or (pt_cmpR op_ne (pe_callB call_len_seq rfl B.len b_len (pa_cons (pv 0) pa_nil)) pe_int (nomark _)) (pw_or1 (pt_not (pt_val (pe_callC c__law_is_whole hr rfl (pa_cons (pe_ix ix_tup (pv 0) pe_int (fun _ _ => rfl)) pa_nil)))))))) (pss_one (ps_ret pe_bl)) pss_nil) (pss_cons (ps_compT (i := 1) sc__law_is_deed.nd rfl rfl (CSc.of (N' := ["_law_one"]) (sub := [none]) (defScope (top 40)) ["_law_thing", "_law_ends"] rfl rfl (by decide +kernel) rfl) rfl (pi_tup (pe_slice (sl_tupG (K := K) rfl) (pv 0) (po_some pe_int) po_none)) (fun _ _ _ _ _ _ => pg_name (i := 0) (show (["_law_one"] : List Str).Nodup by decide +kernel) rfl (Or.inl rfl)) (fun _ _ _ _ _ _ => (pifs_one (pt_cmp (pc_notN (pv 0))))) (fun _ _ _ _ _ _ => (pv 0))) (pss_cons (ps_if (pt_not (pt_val (pe_callB (call_allB rfl) rfl B.all b_all (pa_cons (pe_compT (CSc.of (N' := ["_law_one"]) (sub := [none]) (defScope (top 40)) ["_law_thing", "_law_ends"] rfl rfl (by decide +kernel) rfl) rfl (pi_list (pv 1)) (fun _ _ _ _ _ _ => pg_name (i := 0) (show (["_law_one"] : List Str).Nodup by decide +kernel) rfl (Or.inl rfl)) (fun _ _ _ _ _ _ => pifs_nil) (fun _ _ _ _ _ _ => (pe_callC c__law_is_whole hr rfl (pa_cons (pv 0) pa_nil)))) pa_nil)))) (pss_one (ps_ret pe_bl)) pss_nil) (pss_one (ps_ret (pe_or (pe_cmpR op_lt (pe_callB call_len_seq rfl B.len b_len (pa_cons (pv 1) pa_nil)) pe_int (nomark _)) (pe_or (pe_cmpR op_lt (pe_ix ix_list (pv 1) pe_int (fun _ _ => rfl)) (pe_ix ix_list (pv 1) pe_int (fun _ _ => rfl)) (nomark _)) (pe_one (pe_and (pe_cmpR op_eq (pe_ix ix_list (pv 1) pe_int (fun _ _ => rfl)) (pe_ix ix_list (pv 1) pe_int (fun _ _ => rfl)) (nomark _)) (pe_one (pe_cmpR op_eq (pe_ix ix_tup (pv 0) pe_int (fun _ _ => rfl)) pe_int (nomark _)))))))))))), ?_⟩
  refine c_test (fun t H' => H' = H ∧ (t = true → deedP d = false) ∧ (t = false → ∃ (r : Addr) (a : Int) (v2 v3 : V) (d2 d3 : PyData), x = .ref r ∧ d = .tuple [.int a, d2, d3] ∧ SqT K H r [.int a, v2, v3] ∧ Od K m H v2 d2 ∧ Od K m H v3 d3)) (fun Kk hk => ⟨_, rfl, _, d, m, _, _, rfl, hd, kit_tup72 d, _, rfl, ?_⟩) ?_
  · cases ht : isT72 d with
    | false => exact iteT (hk _ _ ⟨rfl, (fun _ => by cases d <;> first | rfl | cases ht), fun z => nomatch z⟩)
    | true =>
      obtain ⟨r, xs, ds, rfl, rfl, hs, os⟩ := od_tup72 hd ht
      have xl := os.length
      refine iteF ⟨_, rfl, r, _, rfl, .inr hs, rfl, _, rfl, ?_⟩
      by_cases h3 : ds.length = 3
      · match ds, h3, os, xl with
        | [d1, d2, d3], _, os, xl =>
          obtain ⟨v1, v2, v3, rfl, o1, o2, o3⟩ := os.inv3
          refine iteF ⟨_, rfl, r, _, _, _, rfl, rfl, hs, atI_nat (j := 0) rfl, _, rfl, d1, m, o1, _, rfl, hk _ _ ⟨rfl, fun z => ?_, fun z => ?_⟩⟩
          · have e : wholeD d1 = false := by cases ha : wholeD d1 with | false => rfl | true => rw [ha] at z; cases z
            exact deedP_nw e
          · have e : wholeD d1 = true := by cases ha : wholeD d1 with | true => rfl | false => rw [ha] at z; cases z
            obtain ⟨a, rfl⟩ := whole_int71 e
            rw [o1.inv_int] at hs
            exact ⟨r, a, v2, v3, d2, d3, rfl, rfl, hs, o2, o3⟩
      · exact iteT' (by rw [decide_eq_false fun w => h3 (by have := V.int.inj w; omega)]; rfl) (hk _ _ ⟨rfl, (fun _ => deedP_len h3), fun z => nomatch z⟩)
  rintro t H ⟨rfl, h1, h2⟩
  cases t with
  | true => have := q _ (Grow.refl _ _); rw [h1 rfl] at this; exact iteT this
  | false =>
    obtain ⟨r, a, v2, v3, d2, d3, rfl, rfl, hs, o2, o3⟩ := h2 rfl
    have e : deedP (.tuple [.int a, d2, d3]) = ((([d2, d3].filter nn71).all wholeD) && lowHi a d2 d3) := by rw [ends71]; rfl
    rw [e] at q
    refine iteF (c_next ?_)
    refine c_asg (fun v H' => ∃ l, v = .ref l ∧ H' l = some (.lst ([v2, v3].filter nv71)) ∧ Grow [] H H') (fun Kk hk => ⟨_, rfl, _, rfl, r, _, rfl, hs, fun p1 H1 g1 h1 => ⟨p1, rfl, ⟨_, h1⟩, comp_tup (xs := [v2, v3]) (fun i ys σ H' => (∃ e, σ = [e]) ∧ H' = H1 ∧ ys = ([v2, v3].take i).filter nv71) ⟨⟨_, rfl⟩, rfl, rfl⟩ (fun i ys σ H' _ z => by rw [z.2.1]; exact (show SqT K H1 p1 [v2, v3] from h1)) ?_ ?_⟩⟩) ?_
    · rintro i v ys σ H' hx ⟨⟨e, rfl⟩, rfl, rfl⟩
      have hi : i < 2 := (List.getElem?_eq_some_iff.mp hx).1
      have et : [v2, v3].take (i + 1) = [v2, v3].take i ++ [v] := by rw [List.take_succ, hx]; rfl
      refine ⟨_, rfl, _, rfl, ?_⟩
      by_cases hv : v = .non
      · refine iteF' (by rw [decide_eq_true hv]; rfl) ⟨⟨_, rfl⟩, rfl, ?_⟩
        rw [et, List.filter_append, show [v].filter nv71 = [] from by rw [List.filter_cons, show nv71 v = false from by unfold nv71; rw [decide_eq_true hv]; rfl]; rfl, List.append_nil]
      · refine iteT' (by rw [decide_eq_false hv]; rfl) ⟨_, rfl, lt72 (Nat.le_trans (List.length_filter_le ..) (by rw [List.length_take]; omega)), ⟨_, rfl⟩, rfl, ?_⟩
        rw [et, List.filter_append, show [v].filter nv71 = [v] from by rw [List.filter_cons, show nv71 v = true from by unfold nv71; rw [decide_eq_false hv]; rfl]; rfl]
    · rintro ys σ H' ⟨_, rfl, rfl⟩ l hl
      exact hk _ _ ⟨l, rfl, upd_same, g1.trans (Grow.new hl _)⟩
    rintro _ H1 ⟨l, rfl, hl1, g1⟩
    have os1 : Ods K m H1 ([v2, v3].filter nv71) ([d2, d3].filter nn71) := ods_filter71 (.cons (o2.grow (g1.wk (m := m))) (.cons (o3.grow (g1.wk (m := m))) .nil))
    have ol := os1.length
    have l2 : ([d2, d3].filter nn71).length ≤ 2 := List.length_filter_le ..
    refine c_test (fun t H' => t = (!([d2, d3].filter nn71).all wholeD) ∧ Grow [] H1 H') (fun Kk hk => ⟨_, rfl, l, rfl, ⟨_, SqL.of hl1⟩, comp_listP (xs := [v2, v3].filter nv71) (fun i ys H' => ys = ((([d2, d3].filter nn71).take i).map wholeD).map V.bl ∧ H' = H1) ⟨rfl, rfl⟩ (fun i ys H' z => by rw [z.2]; exact SqL.of hl1) ?_ ?_⟩) ?_
    · rintro i x ys H' hx ⟨rfl, rfl⟩
      obtain ⟨e, he, oe⟩ := os1.get hx
      refine ⟨_, rfl, _, rfl, e, m, oe, lt72 (by rw [List.length_map, List.length_map, List.length_take]; omega), ?_, rfl⟩
      rw [List.take_succ, he, List.map_append, List.map_append]; rfl
    · rintro ys H' ⟨rfl, rfl⟩ l' hl0
      rw [ol, List.take_length]
      exact ⟨l', ([d2, d3].filter nn71).map wholeD, rfl, SqL.of upd_same, _, rfl, hk _ _ ⟨by rw [List.all_map]; rfl, Grow.new hl0 _⟩⟩
    rintro _ H2 ⟨rfl, g2⟩
    have q' := q _ (g1.trans g2)
    have hl2 := g2.keep _ _ (by simp) hl1
    cases hw : ([d2, d3].filter nn71).all wholeD with
    | false => rw [hw] at q'; exact iteT q'
    | true =>
      rw [hw, Bool.true_and] at q'
      refine iteF (c_next ⟨_, rfl, l, _, rfl, .inl (SqL.of hl2), _, _, rfl, rfl, _, rfl, ?_⟩)
      by_cases h2 : ([d2, d3].filter nn71).length < 2
      · rw [low71 h2] at q'
        exact iteT' (decide_eq_true (by omega)) q'
      · obtain ⟨i, u, rfl, rfl⟩ := both71 h2 hw
        obtain rfl := o2.inv_int
        obtain rfl := o3.inv_int
        have q2 : Q (.bl (decide (i < u) || (decide (i = u) && decide (a = 0)))) H2 := q'
        have hl3 : SqL K H2 l [.int i, .int u] := SqL.of hl2
        have i0 : atI [V.int i, V.int u] 0 = some (.int i) := atI_nat (j := 0) rfl
        have i1 : atI [V.int i, V.int u] 1 = some (.int u) := atI_nat (j := 1) rfl
        refine iteF' (decide_eq_false (by omega)) ⟨_, rfl, l, _, _, _, rfl, rfl, hl3, i0, _, rfl, l, _, _, _, rfl, rfl, hl3, i1, _, _, rfl, rfl, _, rfl, ?_⟩
        by_cases c1 : i < u
        · rw [decide_eq_true c1] at q2
          exact iteT' (decide_eq_true c1) q2
        · rw [decide_eq_false c1] at q2
          refine iteF' (decide_eq_false c1) ⟨_, rfl, l, _, _, _, rfl, rfl, hl3, i0, _, rfl, l, _, _, _, rfl, rfl, hl3, i1, rfl, _, rfl, ?_⟩
          by_cases c2 : i = u
          · rw [decide_eq_true c2] at q2
            refine iteT' (decide_eq_true (congrArg V.int c2)) ⟨_, rfl, r, _, _, _, rfl, rfl, (g1.trans g2).sqT hs, atI_nat (j := 0) rfl, rfl, ?_⟩
            have e : decide (V.int a = V.int 0) = decide (a = 0) := by
              by_cases z : a = 0
              · rw [z]; rfl
              · rw [decide_eq_false z, decide_eq_false fun w => z (V.int.inj w)]
            rw [e]; exact q2
          · rw [decide_eq_false c2] at q2
            exact iteF' (decide_eq_false fun z => c2 (V.int.inj z)) q2
theorem sc__law_is_call : FnScope ["_law_board", "_law_thing", "_law_numbers", "_law_hand", "_law_box", "_law_begun", "_law_ended", "_law_answer"] ["_law_board", "_law_thing"] (defScope (top 41)) := ⟨rfl, rfl, rfl, by decide +kernel, rfl, by decide +kernel, by decide +kernel⟩
set_option maxHeartbeats 0 in
theorem ok__law_is_call {n : Nat} {f : Addr} {fd : FuncData} (F : Fun K "_law_is_call" "_law_is_call" (top 41) f fd) (B : Blt mg) (c__law_is_whole : Callee P w K mg base n "_law_is_whole" ["_law_thing"] (sp_is_wholeO K)) (c__law_is_deed : Callee P w K mg base n "_law_is_deed" ["_law_thing"] (sp_lis_deed71 K))    :
    FnOk P w K mg base CX0 (n + 1) f fd ["_law_board", "_law_thing"] (sp_is_callO K) := by
  refine F.ok sc__law_is_call sp2_len (fun cdv A outer s H vs Q E hr h => ?_)
  obtain ⟨x, y, rfl, b, d, m, hb, hd, q⟩ := h
  refine ⟨_, (pss_cons (ps_if (PW.pt (pw_or (pt_not (pt_val (pe_callB (call_isiO (K := K) rfl) rfl B.isinstance b_isinstance (pa_cons (pv 1) (pa_cons (pe_tyn rfl B.tuple b_tuple) pa_nil))))) (pw_or (pt_cmpR op_ne (pe_callB call_len_seq rfl B.len b_len (pa_cons (pv 1) pa_nil)) pe_int (nomark _)) (pw_or1 (pt_not (pt_val (pe_callC c__law_is_deed hr rfl (pa_cons (pe_ix ix_tup (pv 1) pe_int (fun _ _ => rfl)) pa_nil)))))))) (pss_one (ps_ret pe_bl)) pss_nil) (pss_cons (ps_set (i := 2) sc__law_is_call.nd rfl (Or.inl rfl) (pe_op (op_catG (K := K) rfl) (pe_slice (sl_tupG (K := K) rfl) (pv 1) po_none (po_some pe_int)) (pe_slice (sl_tupG (K := K) rfl) (pv 1) (po_some pe_int) po_none))) (pss_cons (ps_if (pt_not (pt_val (pe_callB (call_allB rfl) rfl B.all b_all (pa_cons (pe_compT (CSc.of (N' := ["_law_one"]) (sub := [none]) (defScope (top 41)) ["_law_board", "_law_thing", "_law_numbers", "_law_hand", "_law_box", "_law_begun", "_law_ended", "_law_answer"] rfl rfl (by decide +kernel) rfl) rfl (pi_tup (pv 2)) (fun _ _ _ _ _ _ => pg_name (i := 0) (show (["_law_one"] : List Str).Nodup by decide +kernel) rfl (Or.inl rfl)) (fun _ _ _ _ _ _ => pifs_nil) (fun _ _ _ _ _ _ => (pe_callC c__law_is_whole hr rfl (pa_cons (pv 0) pa_nil)))) pa_nil)))) (pss_one (ps_ret pe_bl)) pss_nil) (pss_cons (ps_asg (pv 2) (pg_tup rfl (pgs_cons (pg_name (i := 3) sc__law_is_call.nd rfl (Or.inl rfl)) (pgs_cons (pg_name (i := 4) sc__law_is_call.nd rfl (Or.inl rfl)) (pgs_cons (pg_name (i := 5) sc__law_is_call.nd rfl (Or.inl rfl)) (pgs_cons (pg_name (i := 6) sc__law_is_call.nd rfl (Or.inl rfl)) (pgs_cons (pg_name (i := 7) sc__law_is_call.nd rfl (Or.inl rfl)) pgs_nil))))))) (pss_one (ps_ret (pe_and (pe_chain op_le op_le pe_int (pv 3) pe_int) (pe_and (pe_chain op_le op_lt pe_int (pv 4) (pe_callB call_len_seq rfl B.len b_len (pa_cons (pv 0) pa_nil))) (pe_one (pe_chain op_le op_le pe_int (pv 5) (pv 6))))))))))), ?_⟩
  obtain ⟨rb, rfl, hrb⟩ := id hb
  refine c_test (fun t H' => Grow [] H H' ∧ (t = true → callP b.length d = false) ∧ (t = false → ∃ (r : Addr) (v1 v2 v3 v4 v5 v6 : V) (d1 d2 d3 d4 d5 d6 : PyData), y = .ref r ∧ d = .tuple [d1, d2, d3, d4, d5, d6] ∧ SqT K H r [v1, v2, v3, v4, v5, v6] ∧ Od K m H v1 d1 ∧ Od K m H v2 d2 ∧ Od K m H v4 d4 ∧ Od K m H v5 d5 ∧ Od K m H v6 d6 ∧ deedP d3 = true)) (fun Kk hk => ⟨_, rfl, _, d, m, _, _, rfl, hd, kit_tup72 d, _, rfl, ?_⟩) ?_
  · cases ht : isT72 d with
    | false => exact iteT (hk _ _ ⟨Grow.refl _ _, (fun _ => by cases d <;> first | rfl | cases ht), fun z => nomatch z⟩)
    | true =>
      obtain ⟨r, xs, ds, rfl, rfl, hs, os⟩ := od_tup72 hd ht
      have xl := os.length
      refine iteF ⟨_, rfl, r, _, rfl, .inr hs, rfl, _, rfl, ?_⟩
      by_cases h6 : ds.length = 6
      · match ds, h6, os, xl with
        | [d1, d2, d3, d4, d5, d6], _, os, xl =>
          obtain ⟨v1, v2, v3, v4, v5, v6, rfl, o1, o2, o3, o4, o5, o6⟩ := inv6_71 os
          refine iteF ⟨_, rfl, r, _, _, _, rfl, rfl, hs, atI_nat (j := 2) rfl, _, rfl, d3, m, o3, fun H1 g1 => ⟨_, rfl, hk _ _ ⟨g1, fun z => ?_, fun z => ?_⟩⟩⟩
          · have e : deedP d3 = false := by cases ha : deedP d3 with | false => rfl | true => rw [ha] at z; cases z
            show ((_ && (_ && deedP d3)) && _) = false
            rw [e, Bool.and_false, Bool.and_false]; rfl
          · have e : deedP d3 = true := by cases ha : deedP d3 with | true => rfl | false => rw [ha] at z; cases z
            exact ⟨r, v1, v2, v3, v4, v5, v6, d1, d2, d3, d4, d5, d6, rfl, rfl, hs, o1, o2, o4, o5, o6, e⟩
      · have e : callP b.length (.tuple ds) = false := by
          unfold callP
          split
          · rename_i z; injection z with z; rw [z] at h6; exact absurd rfl h6
          · rfl
        exact iteT' (by rw [decide_eq_false fun w => h6 (by have := V.int.inj w; omega)]; rfl) (hk _ _ ⟨Grow.refl _ _, (fun _ => e), fun z => nomatch z⟩)
  rintro t H1 ⟨g1, h1, h2⟩
  cases t with
  | true => have := q _ g1; rw [h1 rfl] at this; exact iteT this
  | false =>
    obtain ⟨r, v1, v2, v3, v4, v5, v6, d1, d2, d3, d4, d5, d6, rfl, rfl, hs, o1, o2, o4, o5, o6, ea⟩ := h2 rfl
    have e : callP b.length (.tuple [d1, d2, d3, d4, d5, d6]) = ((withinD 0 15 d1 && (withinD 0 ((b.length : Int) - 1) d2 && deedP d3)) && (wholeD d4 && (wholeD d5 && (wholeD d6 && fromTo d4 d5)))) := rfl
    rw [e, ea, Bool.and_true] at q
    refine iteF (c_next ?_)
    have hs1 := g1.sqT hs
    refine c_asg (fun v H' => ∃ t5, v = .ref t5 ∧ SqT K H' t5 [v1, v2, v4, v5, v6] ∧ Grow [] H1 H') (fun Kk hk => ⟨_, rfl, _, rfl, r, _, rfl, hs1, fun p1 H2 g2 h2 => ⟨_, rfl, _, rfl, r, _, rfl, g2.sqT hs1, fun p2 H3 g3 h3 => ⟨p1, p2, _, _, rfl, rfl, g3.sqT h2, h3, le72 (by show 2 + 3 ≤ 5000; decide), fun p3 H4 g4 h4 => hk _ _ ⟨p3, rfl, h4, g2.trans (g3.trans g4)⟩⟩⟩⟩) ?_
    rintro _ H2 ⟨t5, rfl, h5, g2⟩
    have G2 := g1.trans g2
    have o1' := o1.grow (G2.wk (m := m))
    have o2' := o2.grow (G2.wk (m := m))
    have o4' := o4.grow (G2.wk (m := m))
    have o5' := o5.grow (G2.wk (m := m))
    have o6' := o6.grow (G2.wk (m := m))
    have os5 : Ods K m H2 [v1, v2, v4, v5, v6] [d1, d2, d4, d5, d6] := .cons o1' (.cons o2' (.cons o4' (.cons o5' (.cons o6' .nil))))
    refine c_test (fun t H' => t = (!([d1, d2, d4, d5, d6].all wholeD)) ∧ Grow [] H2 H') (fun Kk hk => ⟨_, rfl, t5, rfl, ⟨_, h5⟩, comp_tupP72 (xs := [v1, v2, v4, v5, v6]) (fun i ys H' => ys = (([d1, d2, d4, d5, d6].take i).map wholeD).map V.bl ∧ H' = H2) ⟨rfl, rfl⟩ (fun i ys H' z => by rw [z.2]; exact h5) ?_ ?_⟩) ?_
    · rintro i x ys H' hx ⟨rfl, rfl⟩
      obtain ⟨e, he, oe⟩ := os5.get hx
      have hi := (List.getElem?_eq_some_iff.mp he).1
      have hi5 : i < 5 := hi
      refine ⟨_, rfl, _, rfl, e, m, oe, lt72 (by rw [List.length_map, List.length_map, List.length_take]; omega), ?_, rfl⟩
      rw [List.take_succ, he, List.map_append, List.map_append]; rfl
    · rintro ys H' ⟨rfl, rfl⟩ l hl0
      exact ⟨l, [d1, d2, d4, d5, d6].map wholeD, rfl, SqL.of upd_same, _, rfl, hk _ _ ⟨by rw [List.all_map]; rfl, Grow.new hl0 _⟩⟩
    rintro _ H3 ⟨rfl, g3⟩
    have q' := q _ (G2.trans g3)
    cases hw : [d1, d2, d4, d5, d6].all wholeD with
    | false =>
      have e0 : ((withinD 0 15 d1 && withinD 0 ((b.length : Int) - 1) d2) && (wholeD d4 && (wholeD d5 && (wholeD d6 && fromTo d4 d5)))) = false := notw71 hw
      rw [e0] at q'
      exact iteT q'
    | true =>
      simp only [List.all_cons, List.all_nil, Bool.and_true, Bool.and_eq_true] at hw
      obtain ⟨w1, w2, w4, w5, w6⟩ := hw
      obtain ⟨i1, rfl⟩ := whole_int71 w1
      obtain ⟨i2, rfl⟩ := whole_int71 w2
      obtain ⟨i4, rfl⟩ := whole_int71 w4
      obtain ⟨i5, rfl⟩ := whole_int71 w5
      obtain ⟨i6, rfl⟩ := whole_int71 w6
      obtain rfl := o1'.inv_int
      obtain rfl := o2'.inv_int
      obtain rfl := o4'.inv_int
      obtain rfl := o5'.inv_int
      obtain rfl := o6'.inv_int
      have q2 : Q (.bl (((decide (0 ≤ i1) && decide (i1 ≤ 15)) && (decide (0 ≤ i2) && decide (i2 ≤ (b.length : Int) - 1))) && (decide (0 ≤ i4) && decide (i4 ≤ i5)))) H3 := q'
      refine iteF (c_next ⟨_, rfl, t5, _, rfl, g3.sqT h5, rfl, _, _, rfl, _, _, rfl, _, _, rfl, _, _, rfl, _, _, rfl, rfl, ?_⟩)
      try dsimp only
      refine ⟨_, rfl, _, _, rfl, rfl, _, rfl, ?_⟩
      by_cases a1 : 0 ≤ i1
      · rw [decide_eq_true a1] at q2
        refine iteT' (decide_eq_true a1) ⟨_, _, rfl, rfl, _, rfl, ?_⟩
        by_cases a2 : i1 ≤ 15
        · rw [decide_eq_true a2] at q2
          refine iteT' (decide_eq_true a2) ⟨_, rfl, _, _, rfl, rfl, _, rfl, ?_⟩
          by_cases a3 : 0 ≤ i2
          · rw [decide_eq_true a3] at q2
            refine iteT' (decide_eq_true a3) ⟨_, rfl, rb, _, rfl, .inr ((G2.trans g3).sqT hrb), _, _, rfl, rfl, _, rfl, ?_⟩
            by_cases a4 : i2 ≤ (b.length : Int) - 1
            · rw [decide_eq_true a4] at q2
              refine iteT' (decide_eq_true (by rw [List.length_map]; omega)) ⟨_, rfl, _, _, rfl, rfl, _, rfl, ?_⟩
              by_cases a5 : 0 ≤ i4
              · rw [decide_eq_true a5] at q2
                exact iteT' (decide_eq_true a5) ⟨_, rfl, _, _, rfl, rfl, q2⟩
              · rw [decide_eq_false a5] at q2
                exact iteF' (decide_eq_false a5) q2
            · rw [decide_eq_false a4] at q2
              exact iteF' (decide_eq_false (by rw [List.length_map]; omega)) q2
          · rw [decide_eq_false a3] at q2
            exact iteF' (decide_eq_false a3) ⟨_, rfl, iteF q2⟩
        · rw [decide_eq_false a2] at q2
          exact iteF' (decide_eq_false a2) q2
      · rw [decide_eq_false a1] at q2
        exact iteF' (decide_eq_false a1) ⟨_, rfl, iteF q2⟩
theorem sc__law_are_calls : FnScope ["_law_board", "_law_thing", "_law_boxes"] ["_law_board", "_law_thing"] (defScope (top 42)) := ⟨rfl, rfl, rfl, by decide +kernel, rfl, by decide +kernel, by decide +kernel⟩
set_option maxHeartbeats 0 in
theorem ok__law_are_calls {n : Nat} {f : Addr} {fd : FuncData} (F : Fun K "_law_are_calls" "_law_are_calls" (top 42) f fd) (B : Blt mg) (c__law_is_call : Callee P w K mg base n "_law_is_call" ["_law_board", "_law_thing"] (sp_is_callO K))    :
    FnOk P w K mg base CX0 (n + 1) f fd ["_law_board", "_law_thing"] (sp_lare71 K) := by
  refine F.ok sc__law_are_calls sp2_len (fun cdv A outer s H vs Q E hr h => ?_)
  obtain ⟨x, y, rfl, b, d, m, hb, b16, hd, hl, q⟩ := h
  refine ⟨_, (pss_cons (ps_if (PW.pt (pw_or (pt_not (pt_val (pe_callB (call_isiO (K := K) rfl) rfl B.isinstance b_isinstance (pa_cons (pv 1) (pa_cons (pe_tyn rfl B.tuple b_tuple) pa_nil))))) (pw_or (pt_cmpR op_gt (pe_callB call_len_seq rfl B.len b_len (pa_cons (pv 1) pa_nil)) pe_int (nomark _)) (pw_or1 (pt_not (pt_val (pe_callB (call_allB rfl) rfl B.all b_all (pa_cons (pe_compT (CSc.of (N' := ["_law_one", "_law_board"]) (sub := [none, some 0]) (defScope (top 42)) ["_law_board", "_law_thing", "_law_boxes"] rfl rfl (by decide +kernel) rfl) rfl (pi_tup (pv 1)) (fun _ _ _ _ _ _ => pg_name (i := 0) (show (["_law_one", "_law_board"] : List Str).Nodup by decide +kernel) rfl (Or.inl rfl)) (fun _ _ _ _ _ _ => pifs_nil) (fun _ _ _ _ _ _ => (pe_callC c__law_is_call hr rfl (pa_cons (pv 1) (pa_cons (pv 0) pa_nil))))) pa_nil)))))))) (pss_one (ps_ret pe_bl)) pss_nil) (pss_cons (ps_set (i := 2) sc__law_are_calls.nd rfl (Or.inr rfl) (pe_compT (CSc.of (N' := ["_law_one"]) (sub := [none]) (defScope (top 42)) ["_law_board", "_law_thing", "_law_boxes"] rfl rfl (by decide +kernel) rfl) rfl (pi_tup (pv 1)) (fun _ _ _ _ _ _ => pg_name (i := 0) (show (["_law_one"] : List Str).Nodup by decide +kernel) rfl (Or.inl rfl)) (fun _ _ _ _ _ _ => pifs_nil) (fun _ _ _ _ _ _ => (pe_ix (ix_tupK (K := K) rfl) (pv 0) pe_int (fun _ _ => rfl))))) (pss_one (ps_ret (pe_callB (call_allB rfl) rfl B.all b_all (pa_cons (pe_compT (CSc.of (N' := ["_law_box", "_law_boxes"]) (sub := [none, some 2]) (defScope (top 42)) ["_law_board", "_law_thing", "_law_boxes"] rfl rfl (by decide +kernel) rfl) rfl (pi_range1 rfl B.range (pa_cons (pe_callB call_len_seq rfl B.len b_len (pa_cons (pv 0) pa_nil)) pa_nil)) (fun _ _ _ _ _ _ => pg_name (i := 0) (show (["_law_box", "_law_boxes"] : List Str).Nodup by decide +kernel) rfl (Or.inl rfl)) (fun _ _ _ _ _ _ => pifs_nil) (fun _ _ _ _ _ _ => (pe_cmpR op_le (pe_bmK (K := K) rfl PySem.F.plainAttrs_list PySem.F.slot_list_count PySem.F.type_list_count (mt_count71 (K := K) rfl) (pv 1) (pa_cons (pv 0) pa_nil)) pe_int (nomark _)))) pa_nil)))))), ?_⟩
  obtain ⟨rb, rfl, hrb⟩ := id hb
  refine c_test (fun t H' => Grow [] H H' ∧ (t = true → callsP b.length d = false) ∧ (t = false → ∃ (r : Addr) (xs : List V) (cs : List Call72), y = .ref r ∧ d = .tuple (cs.map callD71) ∧ SqT K H r xs ∧ AllR (CallAt72 K H) xs cs ∧ cs.length ≤ 40 ∧ callsP b.length d = ((List.range b.length).all fun j : Nat => decide (cnt72 (j : Int) cs ≤ 8)))) (fun Kk hk => ⟨_, rfl, _, d, m, _, _, rfl, hd, kit_tup72 d, _, rfl, ?_⟩) ?_
  · cases ht : isT72 d with
    | false => exact iteT (hk _ _ ⟨Grow.refl _ _, (fun _ => by cases d <;> first | rfl | cases ht), fun z => nomatch z⟩)
    | true =>
      obtain ⟨r, xs, ds, rfl, rfl, hs, os⟩ := od_tup72 hd ht
      have xl := os.length
      have e : callsP b.length (.tuple ds) = (decide (ds.length ≤ 40) && (ds.all (callP b.length) && fewP b.length ds)) := rfl
      refine iteF ⟨_, rfl, r, _, rfl, .inr hs, _, _, rfl, rfl, _, rfl, ?_⟩
      by_cases d40 : ds.length ≤ 40
      · refine iteF' (decide_eq_false (by omega)) ⟨_, rfl, r, rfl, ⟨_, hs⟩, comp_tupP72 (xs := xs) (fun i ys H' => ys = ((ds.take i).map (callP b.length)).map V.bl ∧ Grow [] H H') ⟨rfl, Grow.refl _ _⟩ (fun i ys H' ⟨_, g⟩ => g.sqT hs) ?_ ?_⟩
        · rintro i x ys H' hx' ⟨rfl, g'⟩
          obtain ⟨d', hd', od⟩ := os.get hx'
          refine ⟨_, rfl, _, rfl, _, _, rfl, b, d', m, g'.board hb, od.grow (g'.wk (m := m)), fun H2 g2 => ⟨lt72 (by rw [List.length_map, List.length_map, List.length_take]; omega), ?_, g'.trans g2⟩⟩
          rw [List.take_succ, hd', List.map_append, List.map_append]; rfl
        · rintro ys H' ⟨rfl, g'⟩ l hl0
          rw [xl, List.take_length]
          refine ⟨l, ds.map (callP b.length), rfl, SqL.of upd_same, _, rfl, hk _ _ ⟨g'.trans (Grow.new hl0 _), fun z => ?_, fun z => ?_⟩⟩
          · rw [List.all_map] at z
            have : ds.all (callP b.length) = false := by cases ha : ds.all (callP b.length) with | false => rfl | true => rw [show ds.all (id ∘ callP b.length) = ds.all (callP b.length) from rfl, ha] at z; cases z
            rw [e, this, Bool.false_and, Bool.and_false]
          · rw [List.all_map] at z
            have ha : ds.all (callP b.length) = true := by cases ha : ds.all (callP b.length) with | true => rfl | false => rw [show ds.all (id ∘ callP b.length) = ds.all (callP b.length) from rfl, ha] at z; cases z
            rw [ha, decide_eq_true d40, Bool.true_and, Bool.true_and] at e
            obtain ⟨cs, rfl, ok⟩ := calls_of71 ha
            rw [few_cnt71] at e
            exact ⟨r, xs, cs, rfl, rfl, hs, callsAt71 os, by rw [List.length_map] at d40; exact d40, e⟩
      · exact iteT' (decide_eq_true (by omega)) (hk _ _ ⟨Grow.refl _ _, (fun _ => by rw [e, decide_eq_false d40]; rfl), fun z => nomatch z⟩)
  rintro t H1 ⟨g1, h1, h2⟩
  cases t with
  | true => have := q _ g1; rw [h1 rfl] at this; exact iteT this
  | false =>
    obtain ⟨r, xs, cs, rfl, rfl, hs, hall, c40, e⟩ := h2 rfl
    rw [e] at q
    have xl := hall.len
    have hs1 := g1.sqT hs
    have hall1 := g1.callsR hall
    refine iteF (c_next ?_)
    refine c_asg (fun v H' => ∃ l, v = .ref l ∧ H' l = some (.lst ((cs.map fun c => c.box).map V.int)) ∧ Grow [] H1 H') (fun Kk hk => ⟨_, rfl, r, rfl, ⟨_, hs1⟩, comp_tupP72 (xs := xs) (fun i ys H' => ys = ((cs.take i).map fun c => c.box).map V.int ∧ H' = H1) ⟨rfl, rfl⟩ (fun i ys H' z => by rw [z.2]; exact hs1) ?_ ?_⟩) ?_
    · rintro i x ys H' hx ⟨rfl, rfl⟩
      obtain ⟨c, hci, rz, rd, rfl, sz, _⟩ := hall1.get hx
      have hi := (List.getElem?_eq_some_iff.mp hci).1
      refine ⟨_, rfl, rz, _, _, _, rfl, rfl, sz, atI_nat (j := 1) rfl, lt72 (by rw [List.length_map, List.length_map, List.length_take]; omega), ?_, rfl⟩
      rw [List.take_succ, hci, List.map_append, List.map_append]; rfl
    · rintro ys H' ⟨rfl, rfl⟩ l hl0
      rw [xl, List.take_length]
      exact hk _ _ ⟨l, rfl, upd_same, Grow.new hl0 _⟩
    rintro _ H2 ⟨l, rfl, hl2, g2⟩
    have G2 := g1.trans g2
    refine ⟨_, rfl, rb, _, rfl, .inr (G2.sqT hrb), _, rfl, by omega, by rw [List.length_map]; omega, comp_rng (fun i ys H' => ys = ((List.range i).map fun j : Nat => decide (cnt72 (j : Int) cs ≤ 8)).map V.bl ∧ H' = H2) ⟨rfl, rfl⟩ ?_ ?_⟩
    · rintro i ys H' hi ⟨rfl, rfl⟩
      have hi' : i < b.length := by have := hi; rw [List.length_map] at this; omega
      refine ⟨_, rfl, .inl ⟨rfl, _, SqL.of hl2⟩, _, rfl, l, cs.map (fun c => c.box), (i : Int), rfl, by rw [Int.zero_add], SqL.of hl2, _, _, rfl, rfl, lt72 (by rw [List.length_map, List.length_map, List.length_range]; omega), ?_, rfl⟩
      rw [List.range_succ, List.map_append, List.map_append]
      have ec : ((cs.map fun c => c.box).countP fun k => decide (k = (i : Int))) = cnt72 (i : Int) cs := by unfold cnt72; rw [List.countP_map]; rfl
      have e8 : decide ((((cs.map fun c => c.box).countP fun k => decide (k = (i : Int)) : Nat) : Int) ≤ 8) = decide (cnt72 (i : Int) cs ≤ 8) := by rw [ec, decide_eq_decide]; omega
      show _ ++ [V.bl (decide ((((cs.map fun c => c.box).countP fun k => decide (k = (i : Int)) : Nat) : Int) ≤ 8))] = _
      rw [e8]; rfl
    · rintro ys H' ⟨rfl, rfl⟩ l' hl'
      refine ⟨l', _, rfl, SqL.of upd_same, ?_⟩
      rw [List.all_map, show (((b.map V.int).length : Nat) : Int).toNat = b.length from by rw [List.length_map]; omega]
      exact q _ (G2.trans (Grow.new hl' _))
theorem sc__law_others : FnScope ["_law_one", "_law_some_here", "_law_more"] ["_law_one"] (defScope (top 38)) := ⟨rfl, rfl, rfl, by decide +kernel, rfl, by decide +kernel, by decide +kernel⟩
set_option maxHeartbeats 0 in
theorem ok__law_others {n : Nat} {f : Addr} {fd : FuncData} (F : Fun K "_law_others" "_law_others" (top 38) f fd) (B : Blt mg)     :
    FnOk P w K mg base CX0 (n + 1) f fd ["_law_one"] (sp_others71 K) := by
  refine F.ok sc__law_others sp1_len (fun cdv A outer s H vs Q E hr h => ?_)
  obtain ⟨x, rfl, d, m, hd, pl, gd, ld, hm, q⟩ := h
  refine ⟨_, (@pss_cons _ _ _ _ _ (@ps_set _ _ 1 _ _ _ _ sc__law_others.nd rfl (Or.inl rfl) (@po_lst _ K _ _ _ _ (@pos_consT _ _ _ _ _ _ _ po_non (@pos_consT _ _ _ _ _ _ _ po_bl (@pos_consT _ _ _ _ _ _ _ po_bl (@pos_consT _ _ _ _ _ _ _ po_str (@pos_consT _ _ _ _ _ _ _ po_str (@pos_consT _ _ _ _ _ _ _ po_neg (@pos_consT _ _ _ _ _ _ _ po_int (@pos_consT _ _ _ _ _ _ _ po_int (@pos_consT _ _ _ _ _ _ _ po_int (@pos_consT _ _ _ _ _ _ _ po_int (@pos_consT _ _ _ _ _ _ _ po_int (@pos_consT _ _ _ _ _ _ _ (@po_lst _ _ _ _ _ _ pos_nil (by first | rfl | decide | exact Or.inl rfl | exact Or.inr rfl | exact Or.inr (Or.inl rfl) | exact Or.inr (Or.inr rfl) | exact fun _ => rfl | exact Nat.le_of_ble_eq_true rfl)) (@pos_consT _ _ _ _ _ _ _ (@po_tup _ _ _ _ _ _ _ pos_nil (by first | rfl | decide | exact Or.inl rfl | exact Or.inr rfl | exact Or.inr (Or.inl rfl) | exact Or.inr (Or.inr rfl) | exact fun _ => rfl | exact Nat.le_of_ble_eq_true rfl)) (@pos_consT _ _ _ _ _ _ _ (po_dnil (K := K)) (@pos_consT _ _ _ _ _ _ _ (po_pow ⟨by decide, by decide, by decide⟩) pos_nil (by first | rfl | decide | exact Or.inl rfl | exact Or.inr rfl | exact Or.inr (Or.inl rfl) | exact Or.inr (Or.inr rfl) | exact fun _ => rfl | exact Nat.le_of_ble_eq_true rfl)) star_dict) (by first | rfl | decide | exact Or.inl rfl | exact Or.inr rfl | exact Or.inr (Or.inl rfl) | exact Or.inr (Or.inr rfl) | exact fun _ => rfl | exact Nat.le_of_ble_eq_true rfl)) (by first | rfl | decide | exact Or.inl rfl | exact Or.inr rfl | exact Or.inr (Or.inl rfl) | exact Or.inr (Or.inr rfl) | exact fun _ => rfl | exact Nat.le_of_ble_eq_true rfl)) (by first | rfl | decide | exact Or.inl rfl | exact Or.inr rfl | exact Or.inr (Or.inl rfl) | exact Or.inr (Or.inr rfl) | exact fun _ => rfl | exact Nat.le_of_ble_eq_true rfl)) (by first | rfl | decide | exact Or.inl rfl | exact Or.inr rfl | exact Or.inr (Or.inl rfl) | exact Or.inr (Or.inr rfl) | exact fun _ => rfl | exact Nat.le_of_ble_eq_true rfl)) (by first | rfl | decide | exact Or.inl rfl | exact Or.inr rfl | exact Or.inr (Or.inl rfl) | exact Or.inr (Or.inr rfl) | exact fun _ => rfl | exact Nat.le_of_ble_eq_true rfl)) (by first | rfl | decide | exact Or.inl rfl | exact Or.inr rfl | exact Or.inr (Or.inl rfl) | exact Or.inr (Or.inr rfl) | exact fun _ => rfl | exact Nat.le_of_ble_eq_true rfl)) (by first | rfl | decide | exact Or.inl rfl | exact Or.inr rfl | exact Or.inr (Or.inl rfl) | exact Or.inr (Or.inr rfl) | exact fun _ => rfl | exact Nat.le_of_ble_eq_true rfl)) (by first | rfl | decide | exact Or.inl rfl | exact Or.inr rfl | exact Or.inr (Or.inl rfl) | exact Or.inr (Or.inr rfl) | exact fun _ => rfl | exact Nat.le_of_ble_eq_true rfl)) (by first | rfl | decide | exact Or.inl rfl | exact Or.inr rfl | exact Or.inr (Or.inl rfl) | exact Or.inr (Or.inr rfl) | exact fun _ => rfl | exact Nat.le_of_ble_eq_true rfl)) (by first | rfl | decide | exact Or.inl rfl | exact Or.inr rfl | exact Or.inr (Or.inl rfl) | exact Or.inr (Or.inr rfl) | exact fun _ => rfl | exact Nat.le_of_ble_eq_true rfl)) (by first | rfl | decide | exact Or.inl rfl | exact Or.inr rfl | exact Or.inr (Or.inl rfl) | exact Or.inr (Or.inr rfl) | exact fun _ => rfl | exact Nat.le_of_ble_eq_true rfl)) (by first | rfl | decide | exact Or.inl rfl | exact Or.inr rfl | exact Or.inr (Or.inl rfl) | exact Or.inr (Or.inr rfl) | exact fun _ => rfl | exact Nat.le_of_ble_eq_true rfl)) (by first | rfl | decide | exact Or.inl rfl | exact Or.inr rfl | exact Or.inr (Or.inl rfl) | exact Or.inr (Or.inr rfl) | exact fun _ => rfl | exact Nat.le_of_ble_eq_true rfl)) (by first | rfl | decide | exact Or.inl rfl | exact Or.inr rfl | exact Or.inr (Or.inl rfl) | exact Or.inr (Or.inr rfl) | exact fun _ => rfl | exact Nat.le_of_ble_eq_true rfl)) (by first | rfl | decide | exact Or.inl rfl | exact Or.inr rfl | exact Or.inr (Or.inl rfl) | exact Or.inr (Or.inr rfl) | exact fun _ => rfl | exact Nat.le_of_ble_eq_true rfl) (by first | rfl | decide | exact Or.inl rfl | exact Or.inr rfl | exact Or.inr (Or.inl rfl) | exact Or.inr (Or.inr rfl) | exact fun _ => rfl | exact Nat.le_of_ble_eq_true rfl)) (@pss_cons _ _ _ _ _ (@ps_set _ _ 1 _ _ _ _ sc__law_others.nd rfl (Or.inl rfl) (@pe_op _ _ _ _ _ _ _ _ op_cat (pv 1) (@po_lst _ K _ _ _ _ (@pos_consT _ _ _ _ _ _ _ (@po_tup _ _ _ _ _ _ _ (@pos_consT _ _ _ _ _ _ _ po_int (@pos_consT _ _ _ _ _ _ _ po_non (@pos_consT _ _ _ _ _ _ _ po_non pos_nil (by first | rfl | decide | exact Or.inl rfl | exact Or.inr rfl | exact Or.inr (Or.inl rfl) | exact Or.inr (Or.inr rfl) | exact fun _ => rfl | exact Nat.le_of_ble_eq_true rfl)) (by first | rfl | decide | exact Or.inl rfl | exact Or.inr rfl | exact Or.inr (Or.inl rfl) | exact Or.inr (Or.inr rfl) | exact fun _ => rfl | exact Nat.le_of_ble_eq_true rfl)) (by first | rfl | decide | exact Or.inl rfl | exact Or.inr rfl | exact Or.inr (Or.inl rfl) | exact Or.inr (Or.inr rfl) | exact fun _ => rfl | exact Nat.le_of_ble_eq_true rfl)) (by first | rfl | decide | exact Or.inl rfl | exact Or.inr rfl | exact Or.inr (Or.inl rfl) | exact Or.inr (Or.inr rfl) | exact fun _ => rfl | exact Nat.le_of_ble_eq_true rfl)) (@pos_consT _ _ _ _ _ _ _ (@po_tup _ _ _ _ _ _ _ (@pos_consT _ _ _ _ _ _ _ po_int (@pos_consT _ _ _ _ _ _ _ po_int (@pos_consT _ _ _ _ _ _ _ po_int pos_nil (by first | rfl | decide | exact Or.inl rfl | exact Or.inr rfl | exact Or.inr (Or.inl rfl) | exact Or.inr (Or.inr rfl) | exact fun _ => rfl | exact Nat.le_of_ble_eq_true rfl)) (by first | rfl | decide | exact Or.inl rfl | exact Or.inr rfl | exact Or.inr (Or.inl rfl) | exact Or.inr (Or.inr rfl) | exact fun _ => rfl | exact Nat.le_of_ble_eq_true rfl)) (by first | rfl | decide | exact Or.inl rfl | exact Or.inr rfl | exact Or.inr (Or.inl rfl) | exact Or.inr (Or.inr rfl) | exact fun _ => rfl | exact Nat.le_of_ble_eq_true rfl)) (by first | rfl | decide | exact Or.inl rfl | exact Or.inr rfl | exact Or.inr (Or.inl rfl) | exact Or.inr (Or.inr rfl) | exact fun _ => rfl | exact Nat.le_of_ble_eq_true rfl)) (@pos_consT _ _ _ _ _ _ _ (@po_tup _ _ _ _ _ _ _ (@pos_consT _ _ _ _ _ _ _ po_int (@pos_consT _ _ _ _ _ _ _ po_int (@pos_consT _ _ _ _ _ _ _ po_int pos_nil (by first | rfl | decide | exact Or.inl rfl | exact Or.inr rfl | exact Or.inr (Or.inl rfl) | exact Or.inr (Or.inr rfl) | exact fun _ => rfl | exact Nat.le_of_ble_eq_true rfl)) (by first | rfl | decide | exact Or.inl rfl | exact Or.inr rfl | exact Or.inr (Or.inl rfl) | exact Or.inr (Or.inr rfl) | exact fun _ => rfl | exact Nat.le_of_ble_eq_true rfl)) (by first | rfl | decide | exact Or.inl rfl | exact Or.inr rfl | exact Or.inr (Or.inl rfl) | exact Or.inr (Or.inr rfl) | exact fun _ => rfl | exact Nat.le_of_ble_eq_true rfl)) (by first | rfl | decide | exact Or.inl rfl | exact Or.inr rfl | exact Or.inr (Or.inl rfl) | exact Or.inr (Or.inr rfl) | exact fun _ => rfl | exact Nat.le_of_ble_eq_true rfl)) pos_nil (by first | rfl | decide | exact Or.inl rfl | exact Or.inr rfl | exact Or.inr (Or.inl rfl) | exact Or.inr (Or.inr rfl) | exact fun _ => rfl | exact Nat.le_of_ble_eq_true rfl)) (by first | rfl | decide | exact Or.inl rfl | exact Or.inr rfl | exact Or.inr (Or.inl rfl) | exact Or.inr (Or.inr rfl) | exact fun _ => rfl | exact Nat.le_of_ble_eq_true rfl)) (by first | rfl | decide | exact Or.inl rfl | exact Or.inr rfl | exact Or.inr (Or.inl rfl) | exact Or.inr (Or.inr rfl) | exact fun _ => rfl | exact Nat.le_of_ble_eq_true rfl)) (by first | rfl | decide | exact Or.inl rfl | exact Or.inr rfl | exact Or.inr (Or.inl rfl) | exact Or.inr (Or.inr rfl) | exact fun _ => rfl | exact Nat.le_of_ble_eq_true rfl))) (by first | rfl | decide | exact Or.inl rfl | exact Or.inr rfl | exact Or.inr (Or.inl rfl) | exact Or.inr (Or.inr rfl) | exact fun _ => rfl | exact Nat.le_of_ble_eq_true rfl) (by first | rfl | decide | exact Or.inl rfl | exact Or.inr rfl | exact Or.inr (Or.inl rfl) | exact Or.inr (Or.inr rfl) | exact fun _ => rfl | exact Nat.le_of_ble_eq_true rfl)) (@pss_cons _ _ _ _ _ (@ps_if _ _ _ _ _ _ _ _ (@pt_val _ _ _ (@pe_callB _ _ _ _ _ _ _ _ _ (call_isiO (K := K) rfl) rfl B.isinstance b_isinstance (@pa_cons _ _ _ _ _ (pv 0) (@pa_cons _ _ _ _ _ (pe_tyn rfl B.tuple b_tuple) pa_nil (by first | rfl | decide | exact Or.inl rfl | exact Or.inr rfl | exact Or.inr (Or.inl rfl) | exact Or.inr (Or.inr rfl) | exact fun _ => rfl | exact Nat.le_of_ble_eq_true rfl)) (by first | rfl | decide | exact Or.inl rfl | exact Or.inr rfl | exact Or.inr (Or.inl rfl) | exact Or.inr (Or.inr rfl) | exact fun _ => rfl | exact Nat.le_of_ble_eq_true rfl)) (by first | rfl | decide | exact Or.inl rfl | exact Or.inr rfl | exact Or.inr (Or.inl rfl) | exact Or.inr (Or.inr rfl) | exact fun _ => rfl | exact Nat.le_of_ble_eq_true rfl) (by first | rfl | decide | exact Or.inl rfl | exact Or.inr rfl | exact Or.inr (Or.inl rfl) | exact Or.inr (Or.inr rfl) | exact fun _ => rfl | exact Nat.le_of_ble_eq_true rfl) (by first | rfl | decide | exact Or.inl rfl | exact Or.inr rfl | exact Or.inr (Or.inl rfl) | exact Or.inr (Or.inr rfl) | exact fun _ => rfl | exact Nat.le_of_ble_eq_true rfl) (by first | rfl | decide | exact Or.inl rfl | exact Or.inr rfl | exact Or.inr (Or.inl rfl) | exact Or.inr (Or.inr rfl) | exact fun _ => rfl | exact Nat.le_of_ble_eq_true rfl)) (by first | rfl | decide | exact Or.inl rfl | exact Or.inr rfl | exact Or.inr (Or.inl rfl) | exact Or.inr (Or.inr rfl) | exact fun _ => rfl | exact Nat.le_of_ble_eq_true rfl)) (@pss_cons _ _ _ _ _ (@ps_set _ _ 2 _ _ _ _ sc__law_others.nd rfl (Or.inl rfl) (@pe_lst _ _ _ _ (@pa_cons _ _ _ _ _ (@pe_callTy _ _ _ _ _ _ _ _ _ (call_listB (K := K) rfl) rfl B.list b_list (@pa_cons _ _ _ _ _ (pv 0) pa_nil (by first | rfl | decide | exact Or.inl rfl | exact Or.inr rfl | exact Or.inr (Or.inl rfl) | exact Or.inr (Or.inr rfl) | exact fun _ => rfl | exact Nat.le_of_ble_eq_true rfl)) (by first | rfl | decide | exact Or.inl rfl | exact Or.inr rfl | exact Or.inr (Or.inl rfl) | exact Or.inr (Or.inr rfl) | exact fun _ => rfl | exact Nat.le_of_ble_eq_true rfl) (by first | rfl | decide | exact Or.inl rfl | exact Or.inr rfl | exact Or.inr (Or.inl rfl) | exact Or.inr (Or.inr rfl) | exact fun _ => rfl | exact Nat.le_of_ble_eq_true rfl) (by first | rfl | decide | exact Or.inl rfl | exact Or.inr rfl | exact Or.inr (Or.inl rfl) | exact Or.inr (Or.inr rfl) | exact fun _ => rfl | exact Nat.le_of_ble_eq_true rfl) (by first | rfl | decide | exact Or.inl rfl | exact Or.inr rfl | exact Or.inr (Or.inl rfl) | exact Or.inr (Or.inr rfl) | exact fun _ => rfl | exact Nat.le_of_ble_eq_true rfl)) (@pa_cons _ _ _ _ _ (@pe_op _ _ _ _ _ _ _ _ (op_catG (K := K) rfl) (pv 0) (@pe_slice _ _ _ _ _ _ _ _ _ _ (sl_tupG (K := K) rfl) (pv 0) po_none (@po_some _ _ _ pe_int))) (@pa_cons _ _ _ _ _ (@pe_slice _ _ _ _ _ _ _ _ _ _ (sl_tupG (K := K) rfl) (pv 0) po_none (@po_some _ _ _ (@pe_un _ _ _ _ _ _ un_neg pe_int))) (@pa_cons _ _ _ _ _ (@pe_slice _ _ _ _ _ _ _ _ _ _ (sl_tupG (K := K) rfl) (pv 0) (@po_some _ _ _ pe_int) po_none) (@pa_cons _ _ _ _ _ (@pe_op _ _ _ _ _ _ _ _ (op_catG (K := K) rfl) (pv 0) (@pe_tup _ _ _ _ _ (@pa_cons _ _ _ _ _ pe_int pa_nil (by first | rfl | decide | exact Or.inl rfl | exact Or.inr rfl | exact Or.inr (Or.inl rfl) | exact Or.inr (Or.inr rfl) | exact fun _ => rfl | exact Nat.le_of_ble_eq_true rfl)))) (@pa_cons _ _ _ _ _ (pe_revT (K := K) rfl (pv 0)) pa_nil (by first | rfl | decide | exact Or.inl rfl | exact Or.inr rfl | exact Or.inr (Or.inl rfl) | exact Or.inr (Or.inr rfl) | exact fun _ => rfl | exact Nat.le_of_ble_eq_true rfl)) (by first | rfl | decide | exact Or.inl rfl | exact Or.inr rfl | exact Or.inr (Or.inl rfl) | exact Or.inr (Or.inr rfl) | exact fun _ => rfl | exact Nat.le_of_ble_eq_true rfl)) (by first | rfl | decide | exact Or.inl rfl | exact Or.inr rfl | exact Or.inr (Or.inl rfl) | exact Or.inr (Or.inr rfl) | exact fun _ => rfl | exact Nat.le_of_ble_eq_true rfl)) (by first | rfl | decide | exact Or.inl rfl | exact Or.inr rfl | exact Or.inr (Or.inl rfl) | exact Or.inr (Or.inr rfl) | exact fun _ => rfl | exact Nat.le_of_ble_eq_true rfl)) (by first | rfl | decide | exact Or.inl rfl | exact Or.inr rfl | exact Or.inr (Or.inl rfl) | exact Or.inr (Or.inr rfl) | exact fun _ => rfl | exact Nat.le_of_ble_eq_true rfl)) (by first | rfl | decide | exact Or.inl rfl | exact Or.inr rfl | exact Or.inr (Or.inl rfl) | exact Or.inr (Or.inr rfl) | exact fun _ => rfl | exact Nat.le_of_ble_eq_true rfl))) (by first | rfl | decide | exact Or.inl rfl | exact Or.inr rfl | exact Or.inr (Or.inl rfl) | exact Or.inr (Or.inr rfl) | exact fun _ => rfl | exact Nat.le_of_ble_eq_true rfl) (by first | rfl | decide | exact Or.inl rfl | exact Or.inr rfl | exact Or.inr (Or.inl rfl) | exact Or.inr (Or.inr rfl) | exact fun _ => rfl | exact Nat.le_of_ble_eq_true rfl)) (@pss_one _ _ _ (@ps_set _ _ 1 _ _ _ _ sc__law_others.nd rfl (Or.inl rfl) (@pe_op _ _ _ _ _ _ _ _ op_cat (pv 1) (@pe_op _ _ _ _ _ _ _ _ op_rep (@pe_op _ _ _ _ _ _ _ _ op_cat (pv 2) (@pe_lst _ _ _ _ (@pa_cons _ _ _ _ _ (@pe_tup _ _ _ _ _ (@pa_cons _ _ _ _ _ (pv 0) pa_nil (by first | rfl | decide | exact Or.inl rfl | exact Or.inr rfl | exact Or.inr (Or.inl rfl) | exact Or.inr (Or.inr rfl) | exact fun _ => rfl | exact Nat.le_of_ble_eq_true rfl))) (@pa_cons _ _ _ _ _ (@pe_op _ _ _ _ _ _ _ _ (op_catG (K := K) rfl) (pv 0) (@pe_tup _ _ _ _ _ (@pa_cons _ _ _ _ _ pe_non pa_nil (by first | rfl | decide | exact Or.inl rfl | exact Or.inr rfl | exact Or.inr (Or.inl rfl) | exact Or.inr (Or.inr rfl) | exact fun _ => rfl | exact Nat.le_of_ble_eq_true rfl)))) pa_nil (by first | rfl | decide | exact Or.inl rfl | exact Or.inr rfl | exact Or.inr (Or.inl rfl) | exact Or.inr (Or.inr rfl) | exact fun _ => rfl | exact Nat.le_of_ble_eq_true rfl)) (by first | rfl | decide | exact Or.inl rfl | exact Or.inr rfl | exact Or.inr (Or.inl rfl) | exact Or.inr (Or.inr rfl) | exact fun _ => rfl | exact Nat.le_of_ble_eq_true rfl)))) pe_int)) (by first | rfl | decide | exact Or.inl rfl | exact Or.inr rfl | exact Or.inr (Or.inl rfl) | exact Or.inr (Or.inr rfl) | exact fun _ => rfl | exact Nat.le_of_ble_eq_true rfl) (by first | rfl | decide | exact Or.inl rfl | exact Or.inr rfl | exact Or.inr (Or.inl rfl) | exact Or.inr (Or.inr rfl) | exact fun _ => rfl | exact Nat.le_of_ble_eq_true rfl)))) pss_nil) (@pss_cons _ _ _ _ _ (@ps_if _ _ _ _ _ _ _ _ (@pt_val _ _ _ (@pe_callB _ _ _ _ _ _ _ _ _ (call_isiO (K := K) rfl) rfl B.isinstance b_isinstance (@pa_cons _ _ _ _ _ (pv 0) (@pa_cons _ _ _ _ _ (pe_tyn rfl B.int b_int) pa_nil (by first | rfl | decide | exact Or.inl rfl | exact Or.inr rfl | exact Or.inr (Or.inl rfl) | exact Or.inr (Or.inr rfl) | exact fun _ => rfl | exact Nat.le_of_ble_eq_true rfl)) (by first | rfl | decide | exact Or.inl rfl | exact Or.inr rfl | exact Or.inr (Or.inl rfl) | exact Or.inr (Or.inr rfl) | exact fun _ => rfl | exact Nat.le_of_ble_eq_true rfl)) (by first | rfl | decide | exact Or.inl rfl | exact Or.inr rfl | exact Or.inr (Or.inl rfl) | exact Or.inr (Or.inr rfl) | exact fun _ => rfl | exact Nat.le_of_ble_eq_true rfl) (by first | rfl | decide | exact Or.inl rfl | exact Or.inr rfl | exact Or.inr (Or.inl rfl) | exact Or.inr (Or.inr rfl) | exact fun _ => rfl | exact Nat.le_of_ble_eq_true rfl) (by first | rfl | decide | exact Or.inl rfl | exact Or.inr rfl | exact Or.inr (Or.inl rfl) | exact Or.inr (Or.inr rfl) | exact fun _ => rfl | exact Nat.le_of_ble_eq_true rfl) (by first | rfl | decide | exact Or.inl rfl | exact Or.inr rfl | exact Or.inr (Or.inl rfl) | exact Or.inr (Or.inr rfl) | exact fun _ => rfl | exact Nat.le_of_ble_eq_true rfl)) (by first | rfl | decide | exact Or.inl rfl | exact Or.inr rfl | exact Or.inr (Or.inl rfl) | exact Or.inr (Or.inr rfl) | exact fun _ => rfl | exact Nat.le_of_ble_eq_true rfl)) (@pss_one _ _ _ (@ps_set _ _ 1 _ _ _ _ sc__law_others.nd rfl (Or.inl rfl) (@pe_op _ _ _ _ _ _ _ _ op_cat (pv 1) (@pe_lst _ _ _ _ (@pa_cons _ _ _ _ _ (@pe_op _ _ _ _ _ _ _ _ op_add (pv 0) pe_int) (@pa_cons _ _ _ _ _ (@pe_op _ _ _ _ _ _ _ _ op_sub (pv 0) pe_int) (@pa_cons _ _ _ _ _ (@pe_op _ _ _ _ _ _ _ _ op_sub pe_int (pv 0)) (@pa_cons _ _ _ _ _ (@pe_callTy _ _ _ _ _ _ _ _ _ call_str_int rfl B.str b_str (@pa_cons _ _ _ _ _ (pv 0) pa_nil (by first | rfl | decide | exact Or.inl rfl | exact Or.inr rfl | exact Or.inr (Or.inl rfl) | exact Or.inr (Or.inr rfl) | exact fun _ => rfl | exact Nat.le_of_ble_eq_true rfl)) (by first | rfl | decide | exact Or.inl rfl | exact Or.inr rfl | exact Or.inr (Or.inl rfl) | exact Or.inr (Or.inr rfl) | exact fun _ => rfl | exact Nat.le_of_ble_eq_true rfl) (by first | rfl | decide | exact Or.inl rfl | exact Or.inr rfl | exact Or.inr (Or.inl rfl) | exact Or.inr (Or.inr rfl) | exact fun _ => rfl | exact Nat.le_of_ble_eq_true rfl) (by first | rfl | decide | exact Or.inl rfl | exact Or.inr rfl | exact Or.inr (Or.inl rfl) | exact Or.inr (Or.inr rfl) | exact fun _ => rfl | exact Nat.le_of_ble_eq_true rfl) (by first | rfl | decide | exact Or.inl rfl | exact Or.inr rfl | exact Or.inr (Or.inl rfl) | exact Or.inr (Or.inr rfl) | exact fun _ => rfl | exact Nat.le_of_ble_eq_true rfl)) (@pa_cons _ _ _ _ _ (@pe_tup _ _ _ _ _ (@pa_cons _ _ _ _ _ (pv 0) pa_nil (by first | rfl | decide | exact Or.inl rfl | exact Or.inr rfl | exact Or.inr (Or.inl rfl) | exact Or.inr (Or.inr rfl) | exact fun _ => rfl | exact Nat.le_of_ble_eq_true rfl))) (@pa_cons _ _ _ _ _ (@pe_lstB _ _ _ _ (@pa_cons _ _ _ _ _ (pv 0) pa_nil (by first | rfl | decide | exact Or.inl rfl | exact Or.inr rfl | exact Or.inr (Or.inl rfl) | exact Or.inr (Or.inr rfl) | exact fun _ => rfl | exact Nat.le_of_ble_eq_true rfl))) (@pa_cons _ _ _ _ _ (@pe_op _ _ _ _ _ _ _ _ op_add (pv 0) pe_int) (@pa_cons _ _ _ _ _ pe_non pa_nil (by first | rfl | decide | exact Or.inl rfl | exact Or.inr rfl | exact Or.inr (Or.inl rfl) | exact Or.inr (Or.inr rfl) | exact fun _ => rfl | exact Nat.le_of_ble_eq_true rfl)) (by first | rfl | decide | exact Or.inl rfl | exact Or.inr rfl | exact Or.inr (Or.inl rfl) | exact Or.inr (Or.inr rfl) | exact fun _ => rfl | exact Nat.le_of_ble_eq_true rfl)) (by first | rfl | decide | exact Or.inl rfl | exact Or.inr rfl | exact Or.inr (Or.inl rfl) | exact Or.inr (Or.inr rfl) | exact fun _ => rfl | exact Nat.le_of_ble_eq_true rfl)) (by first | rfl | decide | exact Or.inl rfl | exact Or.inr rfl | exact Or.inr (Or.inl rfl) | exact Or.inr (Or.inr rfl) | exact fun _ => rfl | exact Nat.le_of_ble_eq_true rfl)) (by first | rfl | decide | exact Or.inl rfl | exact Or.inr rfl | exact Or.inr (Or.inl rfl) | exact Or.inr (Or.inr rfl) | exact fun _ => rfl | exact Nat.le_of_ble_eq_true rfl)) (by first | rfl | decide | exact Or.inl rfl | exact Or.inr rfl | exact Or.inr (Or.inl rfl) | exact Or.inr (Or.inr rfl) | exact fun _ => rfl | exact Nat.le_of_ble_eq_true rfl)) (by first | rfl | decide | exact Or.inl rfl | exact Or.inr rfl | exact Or.inr (Or.inl rfl) | exact Or.inr (Or.inr rfl) | exact fun _ => rfl | exact Nat.le_of_ble_eq_true rfl)) (by first | rfl | decide | exact Or.inl rfl | exact Or.inr rfl | exact Or.inr (Or.inl rfl) | exact Or.inr (Or.inr rfl) | exact fun _ => rfl | exact Nat.le_of_ble_eq_true rfl)))) (by first | rfl | decide | exact Or.inl rfl | exact Or.inr rfl | exact Or.inr (Or.inl rfl) | exact Or.inr (Or.inr rfl) | exact fun _ => rfl | exact Nat.le_of_ble_eq_true rfl) (by first | rfl | decide | exact Or.inl rfl | exact Or.inr rfl | exact Or.inr (Or.inl rfl) | exact Or.inr (Or.inr rfl) | exact fun _ => rfl | exact Nat.le_of_ble_eq_true rfl))) pss_nil) (@pss_one _ _ _ (@ps_ret _ _ _ _ (pv 1))))))), ?_⟩
  refine ⟨m, trivial, hm, fun x1 H1 g1 o1 => ?_⟩
  obtain ⟨l1, xs1, rfl, hl1, m1, s1, t1⟩ := o1.inv_lst
  refine ⟨_, rfl, m, trivial, grow_none g1 hm, fun x2 H2 g2 o2 => ?_⟩
  obtain ⟨l2, xs2, rfl, hl2, m2, s2, t2⟩ := o2.inv_lst
  have e1 := t1.length
  have e2 := t2.length
  refine ⟨l1, l2, xs1, xs2, rfl, rfl, g2.keep _ _ (by simp) hl1, hl2, leS71 (by rw [e1, e2]; exact Nat.le_of_ble_eq_true rfl), fun l3 hl3 => ?_⟩
  have d3 := Grow.new (m := []) hl3 (.lst (xs1 ++ xs2))
  have G3 := g1.trans (g2.trans d3)
  have t3 : Ods K m _ (xs1 ++ xs2) (L71a ++ L71b) := ((t1.grow g2.wk).append t2).grow (d3.wk (m := m))
  have h3 : upd H2 l3 (.lst (xs1 ++ xs2)) l3 = some (.lst (xs1 ++ xs2)) := upd_same
  have n3 : H l3 = none := (g1.trans g2).free (by simp) hl3
  have hd3 := hd.grow (G3.wk (m := m))
  have gd0 : ∀ e ∈ L71a ++ L71b, okO71 e := fun e he => okB_ok71 (List.all_eq_true.mp L71_ok e he)
  generalize upd H2 l3 (.lst (xs1 ++ xs2)) = H3 at G3 t3 h3 hd3 ⊢
  refine c_name (c_if (fun σ H' => ∃ (l : Addr) (xs : List V) (ds : List PyData) (e2 : Option V), σ = [some x, some (.ref l), e2] ∧ Grow [] H H' ∧ H l = none ∧ H' l = some (.lst xs) ∧ Ods K m H' xs ds ∧ ds.length ≤ 40 ∧ 0 < ds.length ∧ ∀ e ∈ ds, okO71 e) ?_ (fun hR => ?_))
  rotate_left
  · refine ⟨_, rfl, _, d, m, _, _, rfl, hd3, kit_tup72 d, _, rfl, ?_⟩
    cases ht : isT72 d with
    | false => exact iteF (hR _ _ ⟨l3, _, _, _, rfl, G3, n3, h3, t3, Nat.le_of_ble_eq_true rfl, Nat.lt_of_lt_of_le Nat.zero_lt_one (Nat.le_of_ble_eq_true rfl), gd0⟩)
    | true =>
      refine iteT ?_
      obtain ⟨r, ys, ds0, rfl, rfl, hs, os⟩ := od_tup72 hd3 ht
      have yl := os.length
      have ld' : ds0.length ≤ 200 := ld
      have gs : GdS 5 3 900000 ds0 := ⟨gd.le, by have := gd.dp; show PyData.depthAll ds0 ≤ 3; have e : (PyData.tuple ds0).depth = PyData.depthAll ds0 + 1 := rfl; omega, by have := gd.wt; have e : wtO (.tuple ds0) = wtOs ds0 + 3 := rfl; omega⟩
      refine ⟨_, rfl, r, ys, rfl, .inr hs, fun la na sa => ?_⟩
      have k1 := Grow.new (m := []) na (.lst ys)
      have nla : la ∉ m := fun z => grow_none G3 hm la z na
      refine ⟨_, rfl, _, rfl, _, rfl, r, ys, rfl, k1.sqT hs, fun p2 H5 g5 s5 => ⟨r, p2, ys, _, rfl, rfl, (k1.trans g5).sqT hs, s5, leS71 (by have := cutV_length ys (lo := none) (hi := some (1 : Int)); omega), fun p3 H6 g6 s6 => ?_⟩⟩
      have c1 := cutV_length ys (lo := none) (hi := some (1 : Int))
      have K6 := k1.trans (g5.trans g6)
      refine ⟨_, rfl, _, rfl, _, rfl, r, ys, rfl, K6.sqT hs, fun p4 H7 g7 s7 => ⟨_, rfl, _, rfl, r, ys, rfl, (K6.trans g7).sqT hs, fun p5 H8 g8 s8 => ⟨_, rfl, szl rfl, fun t6 n6 => ?_⟩⟩⟩
      have k6 := Grow.new (m := []) n6 (.tup [.int 0])
      have K8 := K6.trans (g7.trans (g8.trans k6))
      refine ⟨r, t6, ys, _, rfl, rfl, K8.sqT hs, SqT.of upd_same, leS71 (by show ys.length + 1 ≤ 7000000; omega), fun p6 H9 g9 s9 => ⟨_, rfl, r, ys, rfl, (K8.trans g9).sqT hs, fun p7 n7 => ⟨szl rfl, fun lm nm => ?_⟩⟩⟩
      have k7 := Grow.new (m := []) n7 (.tup ys.reverse)
      have km := Grow.new (m := []) nm (.lst [.ref la, .ref p3, .ref p4, .ref p5, .ref p6, .ref p7])
      have K9 := K8.trans (g9.trans (k7.trans km))
      refine ⟨_, rfl, _, rfl, _, rfl, szl rfl, fun t8 n8 => ?_⟩
      have k8 := Grow.new (m := []) n8 (.tup [.ref r])
      refine ⟨_, rfl, szl rfl, fun t9 n9 => ?_⟩
      have k9 := Grow.new (m := []) n9 (.tup [V.non])
      have K10 := K9.trans (k8.trans k9)
      refine ⟨r, t9, ys, _, rfl, rfl, K10.sqT hs, SqT.of upd_same, leS71 (by show ys.length + 1 ≤ 7000000; omega), fun p9 H12 g12 s12 => ⟨szl rfl, fun lp np => ?_⟩⟩
      have kp := Grow.new (m := []) np (.lst [.ref t8, .ref p9])
      have hm12 := (k8.trans (k9.trans (g12.trans kp))).keep lm _ (by simp) upd_same
      refine ⟨lm, lp, _, _, rfl, rfl, hm12, upd_same, szl rfl, fun lq nq => ⟨lq, 2, _, rfl, rfl, upd_same, by decide, by decide, szl rfl, fun lr nr => ?_⟩⟩
      have kq := Grow.new (m := []) nq (.lst ([V.ref la, .ref p3, .ref p4, .ref p5, .ref p6, .ref p7] ++ [.ref t8, .ref p9]))
      have kr := Grow.new (m := []) nr (.lst (List.replicate (2 : Int).toNat ([V.ref la, .ref p3, .ref p4, .ref p5, .ref p6, .ref p7] ++ [.ref t8, .ref p9])).flatten)
      have K12 := K10.trans (g12.trans (kp.trans (kq.trans kr)))
      have l3' := t3.length
      have l18 : (L71a ++ L71b).length = 18 := rfl
      refine ⟨l3, lr, _, _, rfl, rfl, K12.keep _ _ (by simp) h3, upd_same, leS71 (by show (xs1 ++ xs2).length + 16 ≤ 7000000; omega), fun ls ns => ?_⟩
      have ks := Grow.new (m := []) ns (.lst ((xs1 ++ xs2) ++ (List.replicate (2 : Int).toNat ([V.ref la, .ref p3, .ref p4, .ref p5, .ref p6, .ref p7] ++ [.ref t8, .ref p9])).flatten))
      have K13 := K12.trans ks
      have T : Grow [] H12 _ := kp.trans (kq.trans (kr.trans ks))
      have o1 := (Od.lst (K := K) (m := m) (upd_same (H := H3) (a := la) (o := .lst ys)) nla sa (os.grow (k1.wk (m := m))))
      have o2 := Od.tup (m := m) s6 ((os.grow (K6.wk (m := m))).append ((os.grow (K6.wk (m := m))).cut (lo := none) (hi := some (1 : Int))))
      have o3 := Od.tup (m := m) s7 ((os.grow ((K6.trans g7).wk (m := m))).cut (lo := none) (hi := some (-1 : Int)))
      have o4 := Od.tup (m := m) s8 ((os.grow ((K6.trans (g7.trans g8)).wk (m := m))).cut (lo := some (1 : Int)) (hi := none))
      have o5 := Od.tup (m := m) s9 ((os.grow ((K8.trans g9).wk (m := m))).append (.cons (.int 0) .nil))
      have o6 := Od.tup (K := K) (m := m) (SqT.of (upd_same (H := H9) (a := p7) (o := .tup ys.reverse))) ((os.grow ((K8.trans (g9.trans k7)).wk (m := m))).rev71)
      have o7 := Od.tup (m := m) (SqT.of (K := K) (upd_same (a := t8) (o := .tup [V.ref r]))) (.cons (.tup ((K9.trans k8).sqT hs) (os.grow ((K9.trans k8).wk (m := m)))) .nil)
      have o8 := Od.tup (m := m) s12 ((os.grow ((K10.trans g12).wk (m := m))).append (.cons .non .nil))
      have O : Ods K m _ [V.ref la, .ref p3, .ref p4, .ref p5, .ref p6, .ref p7, .ref t8, .ref p9] _ :=
        .cons (o1.grow ((g5.trans (g6.trans (g7.trans (g8.trans (k6.trans (g9.trans (k7.trans (km.trans (k8.trans (k9.trans (g12.trans T))))))))))).wk (m := m)))
        (.cons (o2.grow ((g7.trans (g8.trans (k6.trans (g9.trans (k7.trans (km.trans (k8.trans (k9.trans (g12.trans T))))))))).wk (m := m)))
        (.cons (o3.grow ((g8.trans (k6.trans (g9.trans (k7.trans (km.trans (k8.trans (k9.trans (g12.trans T)))))))).wk (m := m)))
        (.cons (o4.grow ((k6.trans (g9.trans (k7.trans (km.trans (k8.trans (k9.trans (g12.trans T))))))).wk (m := m)))
        (.cons (o5.grow ((k7.trans (km.trans (k8.trans (k9.trans (g12.trans T))))).wk (m := m)))
        (.cons (o6.grow ((km.trans (k8.trans (k9.trans (g12.trans T)))).wk (m := m)))
        (.cons (o7.grow ((k9.trans (g12.trans T)).wk (m := m)))
        (.cons (o8.grow (T.wk (m := m))) .nil)))))))
      refine hR _ _ ⟨ls, _, _, _, rfl, G3.trans K13, (G3.trans K12).free (by simp) ns, upd_same, (t3.grow (K13.wk (m := m))).append (show Ods K m _ ([V.ref la, .ref p3, .ref p4, .ref p5, .ref p6, .ref p7, .ref t8, .ref p9] ++ [V.ref la, .ref p3, .ref p4, .ref p5, .ref p6, .ref p7, .ref t8, .ref p9]) _ from O.append O), Nat.le_of_ble_eq_true rfl, Nat.lt_of_lt_of_le Nat.zero_lt_one (Nat.le_of_ble_eq_true rfl), fun e he => ?_⟩
      rcases List.mem_append.mp he with he | he
      · exact gd0 e he
      have z0 : GdS 5 3 1923 [PyData.int 0] := ((num_gd (n := 5) (i := 0) (by omega) (by omega)).one).mono (Nat.le_refl _) (by omega) (by omega)
      have zn : GdS 5 3 1923 [PyData.none] := ⟨rfl, by decide, by decide⟩
      have lc := fun lo hi => len_cut71 (ds := ds0) (lo := lo) (hi := hi)
      replace he := (List.mem_append.mp he).elim id id
      simp only [List.mem_cons, List.not_mem_nil, or_false] at he
      rcases he with rfl | rfl | rfl | rfl | rfl | rfl | rfl | rfl
      · exact ⟨gs.lst.mono (by omega) (by omega) (by omega), Nat.zero_le _⟩
      · exact ok_tup71 (gs.append (gs_cut71 gs)) (by omega) (by omega) (by rw [List.length_append]; have := lc none (some 1); omega)
      · exact ok_tup71 (gs_cut71 gs) (by omega) (by omega) (by have := lc none (some (-1)); omega)
      · exact ok_tup71 (gs_cut71 gs) (by omega) (by omega) (by have := lc (some 1) none; omega)
      · exact ok_tup71 (gs.append z0) (by omega) (by omega) (by rw [List.length_append]; show _ + 1 ≤ 500; omega)
      · exact ok_tup71 (gs_rev71 gs) (by omega) (by omega) (by rw [List.length_reverse]; omega)
      · exact ok_tup71 gd.one (by omega) (by omega) (by show 1 ≤ 500; omega)
      · exact ok_tup71 (gs.append zn) (by omega) (by omega) (by rw [List.length_append]; show _ + 1 ≤ 500; omega)
  rintro σ H4 ⟨l, xs, ds, e2, rfl, g4, n4, h4, t4, len4, pos4, gd4⟩
  have hd4 := hd.grow (g4.wk (m := m))
  refine c_if (fun σ H' => ∃ (l : Addr) (xs : List V) (ds : List PyData) (e2 : Option V), σ = [some x, some (.ref l), e2] ∧ Grow [] H H' ∧ H l = none ∧ H' l = some (.lst xs) ∧ Ods K m H' xs ds ∧ ds.length ≤ 60 ∧ 0 < ds.length ∧ ∀ e ∈ ds, okO71 e) ?_ (fun hR => ?_)
  · rintro σ H5 ⟨l, xs, ds, e2, rfl, g5, n5, h5, t5, len5, pos5, gd5⟩
    have e5 := t5.length
    exact ⟨_, rfl, q l xs H5 g5 n5 h5 (ods_oth71 t5 gd5) (by omega) (by omega)⟩
  · have base := hR [some x, some (.ref l), e2] H4 ⟨l, xs, ds, e2, rfl, g4, n4, h4, t4, by omega, pos4, gd4⟩
    have e4 := t4.length
    refine ⟨_, rfl, _, d, m, _, _, rfl, hd4, kit_int, _, rfl, ?_⟩
    cases d with
    | int v =>
      obtain rfl := hd.inv_int
      have hv : -(10 ^ 30) - (5 : Int) ≤ v ∧ v ≤ 10 ^ 30 + 5 := by
        have z := gd.le
        simp only [leD, Bool.and_eq_true, decide_eq_true_eq] at z
        omega
      have gi : ∀ i : Int, -(10 ^ 30) - (10 : Int) ≤ i → i ≤ 10 ^ 30 + (10 : Int) → okO71 (.int i) := fun i p1 p2 => ⟨(num_gd (n := 10) p1 p2).mono (Nat.le_refl _) (by omega) (by omega), Nat.zero_le _⟩
      have hlog : v.natAbs.log2 < 1920 := of_decide_eq_true (showable_le (Bg_le (n := 5) (by omega)) gd.le)
      have gst : okO71 (.str (toString v)) := ⟨⟨rfl, Nat.zero_le _, by have := digits_repr71 hlog; omega⟩, Nat.zero_le _⟩
      have g1' := gd.one
      refine iteT ⟨_, rfl, _, rfl, _, _, rfl, rfl, _, rfl, _, _, rfl, rfl, _, rfl, _, _, rfl, rfl, _, rfl, v, rfl, hlog, _, rfl, szl rfl, fun t nt => ⟨_, rfl, szl rfl, fun la na sa => ⟨_, rfl, _, _, rfl, rfl, szl rfl, fun lb nb => ?_⟩⟩⟩
      have k1 := Grow.new (m := []) nt (.tup [V.int v])
      have k2 := Grow.new (m := []) na (.lst [V.int v])
      have k3 := Grow.new (m := []) nb (.lst [V.int (v + 1), V.int (v - 1), V.int (0 - v), V.str (toString v), V.ref t, V.ref la, V.int (v + 2), V.non])
      refine ⟨l, lb, _, _, rfl, rfl, (k1.trans (k2.trans k3)).keep _ _ (by simp) h4, upd_same, leS71 (by show xs.length + 8 ≤ 7000000; omega), fun lc nc => ?_⟩
      have k4 := Grow.new (m := []) nc (.lst (xs ++ [V.int (v + 1), V.int (v - 1), V.int (0 - v), V.str (toString v), V.ref t, V.ref la, V.int (v + 2), V.non]))
      have kk := k1.trans (k2.trans (k3.trans k4))
      have nla : la ∉ m := fun z => grow_none (g4.trans k1) hm la z na
      refine hR _ _ ⟨lc, _, ds ++ [.int (v + 1), .int (v - 1), .int (0 - v), .str (toString v), .tuple [.int v], .list [.int v], .int (v + 2), .none], _, rfl, g4.trans kk, (g4.trans (k1.trans (k2.trans k3))).free (by simp) nc, upd_same, (t4.grow kk.wk).append (.cons (.int _) (.cons (.int _) (.cons (.int _) (.cons (.str _) (.cons (.tup ((k2.trans (k3.trans k4)).sqT (SqT.of upd_same)) (.cons (.int _) .nil)) (.cons (.lst ((k3.trans k4).keep _ _ (by simp) upd_same) nla sa (.cons (.int _) .nil)) (.cons (.int _) (.cons .non .nil)))))))), by rw [List.length_append]; show _ + 8 ≤ 60; omega, by rw [List.length_append]; omega, fun e he => ?_⟩
      rcases List.mem_append.mp he with he | he
      · exact gd4 e he
      simp only [List.mem_cons, List.not_mem_nil, or_false] at he
      rcases he with rfl | rfl | rfl | rfl | rfl | rfl | rfl | rfl
      · exact gi _ (by omega) (by omega)
      · exact gi _ (by omega) (by omega)
      · exact gi _ (by omega) (by omega)
      · exact gst
      · exact ⟨g1'.tup.mono (by omega) (by omega) (by omega), by show 1 ≤ 500; omega⟩
      · exact ⟨g1'.lst.mono (by omega) (by omega) (by omega), Nat.zero_le _⟩
      · exact gi _ (by omega) (by omega)
      · exact okB_ok71 (by decide +kernel)
    | none => exact iteF base
    | tuple _ => exact iteF base
    | bool _ => cases (show false = true from pl 0)
    | str _ => cases (show false = true from pl 0)
    | list _ => cases (show false = true from pl 0)
    | dict _ => cases (show false = true from pl 0)
theorem sc__law_right : FnScope ["_law_pot_here", "_law_board", "_law_calls", "_law_turn", "_law_thing", "_law_paths_here", "_law_path", "_law_some_here", "_law_shown", "_law_due", "_law_told"] ["_law_pot_here", "_law_board", "_law_calls"] (defScope (top 46)) := ⟨rfl, rfl, rfl, by decide +kernel, rfl, by decide +kernel, by decide +kernel⟩
set_option maxHeartbeats 0 in
theorem ok__law_right {n : Nat} {f : Addr} {fd : FuncData} (F : Fun K "_law_right" "_law_right" (top 46) f fd) (B : Blt mg) (c__law_word : Callee P w K mg base n "_law_word" ["_law_board", "_law_thing"] (sp_word71 K)) (c__law_take : Callee P w K mg base n "_law_take" ["_law_pot_here", "_law_many"] (sp_take K)) (c__law_no_boards : Callee P w K mg base n "_law_no_boards" ["_law_board"] (sp_nob71 K)) (c__law_is_truth : Callee P w K mg base n "_law_is_truth" ["_law_found", "_law_due"] (sp_truth72 K)) (c__law_are_calls : Callee P w K mg base n "_law_are_calls" ["_law_board", "_law_thing"] (sp_lare71 K)) (c__law_with : Callee P w K mg base n "_law_with" ["_law_thing", "_law_path", "_law_other"] (sp_with71 6 K)) (c__law_others : Callee P w K mg base n "_law_others" ["_law_one"] (sp_others71 K)) (c__law_inner : Callee P w K mg base n "_law_inner" ["_law_thing", "_law_path"] (sp_inner71 K)) (c__law_paths : Callee P w K mg base n "_law_paths" ["_law_thing"] (sp_paths71 6 K))    :
    FnOk P w K mg base CX0 (n + 1) f fd ["_law_pot_here", "_law_board", "_law_calls"] (sp_right71 K) := by
  refine F.ok sc__law_right sp3_len (fun cdv A outer s H vs Q E hr h => ?_)
  obtain ⟨x, y, z, rfl, p, b, cs, rfl, pp, hb, b1, b16, bb, hc, c42, bd, q⟩ := h
  refine ⟨_, (pss_cons (ps_for PassesOwn.never rfl (pi_range1 rfl B.range (pa_cons pe_int pa_nil)) (pg_name (i := 3) sc__law_right.nd rfl (Or.inl rfl)) (pss_cons (ps_set (i := 4) sc__law_right.nd rfl (Or.inl rfl) (pv 2)) (pss_cons (ps_if (pt_cmpR op_gt (pe_callC c__law_take hr rfl (pa_cons (pv 0) (pa_cons pe_int pa_nil))) pe_int (nomark _)) (pss_cons (ps_set (i := 5) sc__law_right.nd rfl (Or.inl rfl) (pe_callC c__law_paths hr rfl (pa_cons (pv 2) pa_nil))) (pss_cons (ps_set (i := 6) sc__law_right.nd rfl (Or.inl rfl) (pe_ix ix_list (pv 5) (pe_callC c__law_take hr rfl (pa_cons (pv 0) (pa_cons (pe_callB call_len_seq rfl B.len b_len (pa_cons (pv 5) pa_nil)) pa_nil))) (fun _ _ => rfl))) (pss_cons (ps_set (i := 7) sc__law_right.nd rfl (Or.inl rfl) (pe_callC c__law_others hr rfl (pa_cons (pe_callC c__law_inner hr rfl (pa_cons (pv 2) (pa_cons (pv 6) pa_nil))) pa_nil))) (pss_one (ps_set (i := 4) sc__law_right.nd rfl (Or.inl rfl) (pe_callC c__law_with hr rfl (pa_cons (pv 2) (pa_cons (pv 6) (pa_cons (pe_ix ix_list (pv 7) (pe_callC c__law_take hr rfl (pa_cons (pv 0) (pa_cons (pe_callB call_len_seq rfl B.len b_len (pa_cons (pv 7) pa_nil)) pa_nil))) (fun _ _ => rfl)) pa_nil))))))))) pss_nil) (pss_cons (ps_set (i := 8) sc__law_right.nd rfl (Or.inl rfl) (pe_callB (call_reprO (K := K) rfl hr) rfl B.repr b_repr (pa_cons (pe_tup (pa_cons (pv 1) (pa_cons (pv 4) pa_nil))) pa_nil))) (pss_cons (ps_set (i := 9) sc__law_right.nd rfl (Or.inr rfl) (pe_callC c__law_are_calls hr rfl (pa_cons (pv 1) (pa_cons (pv 4) pa_nil)))) (pss_cons (ps_set (i := 10) sc__law_right.nd rfl (Or.inl rfl) (pe_lst (pa_cons (pe_callC c__law_word hr rfl (pa_cons (pv 1) (pa_cons (pv 4) pa_nil))) (pa_cons (pe_callC c__law_word hr rfl (pa_cons (pv 1) (pa_cons (pv 4) pa_nil))) pa_nil)))) (pss_one (ps_if (PW.pt (pw_or (pt_not (pt_val (pe_callB (call_allB rfl) rfl B.all b_all (pa_cons (pe_compT (CSc.of (N' := ["_law_found", "_law_due"]) (sub := [none, some 9]) (defScope (top 46)) ["_law_pot_here", "_law_board", "_law_calls", "_law_turn", "_law_thing", "_law_paths_here", "_law_path", "_law_some_here", "_law_shown", "_law_due", "_law_told"] rfl rfl (by decide +kernel) rfl) rfl (pi_list (pv 10)) (fun _ _ _ _ _ _ => pg_name (i := 0) (show (["_law_found", "_law_due"] : List Str).Nodup by decide +kernel) rfl (Or.inl rfl)) (fun _ _ _ _ _ _ => pifs_nil) (fun _ _ _ _ _ _ => (pe_callC c__law_is_truth hr rfl (pa_cons (pv 0) (pa_cons (pv 1) pa_nil))))) pa_nil)))) (pw_or1 (pt_cmpR op_ne (pe_callB (call_reprO (K := K) rfl hr) rfl B.repr b_repr (pa_cons (pe_tup (pa_cons (pv 1) (pa_cons (pv 4) pa_nil))) pa_nil)) (pv 8) (nomark _))))) (pss_one (ps_ret pe_bl)) pss_nil)))))))) (pss_cons (ps_set (i := 7) sc__law_right.nd rfl (Or.inl rfl) (pe_callC c__law_no_boards hr rfl (pa_cons (pv 1) pa_nil))) (pss_one (ps_ret (pe_cmpR (op_eqL hr) (pe_callC c__law_word hr rfl (pa_cons (pe_ix ix_list (pv 7) (pe_callC c__law_take hr rfl (pa_cons (pv 0) (pa_cons (pe_callB call_len_seq rfl B.len b_len (pa_cons (pv 7) pa_nil)) pa_nil))) (fun _ _ => rfl)) (pa_cons (pv 2) pa_nil))) (pe_lst (pa_cons pe_bl (pa_cons pe_bl pa_nil))) (nomark _)))))), ?_⟩
  have gc := gd_calls71 c42 bd
  have plc := pl_dcalls71 (cs := cs) c42
  have bP := boardP_ints71 b1 b16
  have lD : lenD (.tuple (b.map PyData.int)) = b.length := List.length_map ..
  have lC : lenD (.tuple (cs.map callD)) = cs.length := List.length_map ..
  have hw0 := gc.wt
  have hdp0 := gc.dp
  refine ⟨_, rfl, by decide, by decide, for_range (n := 6) (fun i σ H' => ∃ (e3 e4 e5 e6 e7 e8 e9 e10 : Option V), σ = [some (.ref p), some y, some z, e3, e4, e5, e6, e7, e8, e9, e10] ∧ Grow [p] H H' ∧ Pot H' p) ⟨_, _, _, _, _, _, _, _, rfl, Grow.refl _ _, pp⟩ ?_ ?_⟩
  · rintro i σ H1 hi ⟨e3, e4, e5, e6, e7, e8, e9, e10, rfl, g1, pp1⟩
    have hc1 : ∀ H', Grow [p] H1 H' → Od K [p] H' z (.tuple (cs.map callD)) := fun H' g => od_calls72 (g.calls72 (g1.calls72 hc))
    refine c_asg (fun v H' => z = v ∧ H1 = H') (fun Kk hk => ⟨_, rfl, hk _ _ ⟨rfl, rfl⟩⟩) ?_
    rintro _ _ ⟨rfl, rfl⟩
    refine c_if (fun σ' H' => ∃ (v : V) (dt : PyData) (e3 e5 e6 e7 : Option V), σ' = [some (.ref p), some y, some z, e3, some v, e5, e6, e7, e8, e9, e10] ∧ Od K [p] H' v dt ∧ GdD 10 10 3000000 dt ∧ lenD dt ≤ 1000 ∧ Grow [p] H1 H' ∧ Pot H' p) ?_ (fun hk => ?_)
    rotate_left
    · refine ⟨_, rfl, _, _, rfl, p, 4, rfl, rfl, pp1, by decide, by decide, fun t H2 t0 t1 g2 pp2 => ⟨_, _, rfl, rfl, _, rfl, ?_⟩⟩
      by_cases ht : 0 < t
      · refine iteT' (decide_eq_true ht) ?_
        refine c_asg (fun v H' => ∃ (l : Addr) (zs : List V), v = .ref l ∧ l ∉ [p] ∧ H' l = some (.lst zs) ∧ PathsAt K H' (.tuple (cs.map callD)) zs ∧ 0 < zs.length ∧ zs.length ≤ 900001 ∧ Grow [p] H2 H' ∧ Pot H' p) (fun Kk hk => ⟨_, rfl, _, rfl, .tuple (cs.map callD), [p], hc1 _ g2, by omega, by omega, by omega, fun l zs H' g nl hl hp zl z0 => hk _ _ ⟨l, zs, rfl, pot_ne72 pp2 nl, hl, hp, z0, by omega, g.wk, pp2.grow g⟩⟩) ?_
        rintro _ H3 ⟨l, zs, rfl, nl, hl, hp, z0, zl, g3, pp3⟩
        refine c_asg (fun v H' => ∃ (r : Addr) (ks : List Nat) (e : PyData), v = .ref r ∧ SqT K H' r (natsV ks) ∧ inD (.tuple (cs.map callD)) ks = some e ∧ Grow [p] H3 H' ∧ Pot H' p) (fun Kk hk => ⟨_, rfl, _, rfl, _, rfl, l, _, rfl, .inl (SqL.of hl), _, _, rfl, p, _, rfl, rfl, pp3, by omega, by omega, fun j0 H4 u0 u1 g4 pp4 => ?_⟩) ?_
        · obtain ⟨j, rfl⟩ : ∃ j : Nat, j0 = j := ⟨j0.toNat, by omega⟩
          obtain ⟨v, hv⟩ : ∃ v, zs[j]? = some v := ⟨_, List.getElem?_eq_getElem (by omega)⟩
          obtain ⟨r, ks, rfl, hr0, hin⟩ := hp v (List.mem_of_getElem? hv)
          obtain ⟨e, he⟩ := Option.isSome_iff_exists.mp hin
          exact ⟨l, _, j, _, rfl, rfl, SqL.of (g4.keep _ _ nl hl), atI_nat hv, hk _ _ ⟨r, ks, e, rfl, g4.sqT hr0, he, g4, pp4⟩⟩
        rintro _ H4 ⟨r, ks, e, rfl, hr4, he, g4, pp4⟩
        have ple := pl_in71 plc he
        have gde := gd_in71 gc he
        have gx4 := g2.trans (g3.trans g4)
        refine c_asg (fun v H' => ∃ (l : Addr) (zs : List V), v = .ref l ∧ l ∉ [p] ∧ H' l = some (.lst zs) ∧ (∀ z ∈ zs, Oth71 K [p] H' z) ∧ 0 < zs.length ∧ zs.length ≤ 100 ∧ Grow [p] H4 H' ∧ Pot H' p) (fun Kk hk => ⟨_, rfl, _, rfl, _, _, rfl, .tuple (cs.map callD), [p], r, ks, e, hc1 _ gx4, rfl, hr4, he, fun v hv => ⟨_, rfl, e, [p], hv, ple, gde, by have := pl_len71 ple; omega, ?_, fun l zs H' g nl hl ho z0 zl => hk _ _ ⟨l, zs, rfl, pot_ne72 pp4 nl, hl, ho, z0, zl, g.wk, pp4.grow g⟩⟩⟩) ?_
        · intro a ha z
          rw [List.mem_singleton.mp ha] at z
          exact pot_ne72 pp4 z (by simp)
        rintro _ H5 ⟨l5, z5, rfl, n5, h5, o5, p50, p51, g5, pp5⟩
        refine ⟨_, rfl, _, rfl, _, rfl, _, rfl, _, rfl, l5, _, rfl, .inl (SqL.of h5), _, _, rfl, p, _, rfl, rfl, pp5, by omega, by omega, fun j0 H6 u0 u1 g6 pp6 => ?_⟩
        obtain ⟨j, rfl⟩ : ∃ j : Nat, j0 = j := ⟨j0.toNat, by omega⟩
        obtain ⟨w, hw⟩ : ∃ v, z5[j]? = some v := ⟨_, List.getElem?_eq_getElem (by omega)⟩
        obtain ⟨o, oo, go, lo⟩ := o5 w (List.mem_of_getElem? hw)
        have gx6 := gx4.trans (g5.trans g6)
        refine ⟨l5, _, j, _, rfl, rfl, SqL.of (g6.keep _ _ n5 h5), atI_nat hw, _, _, _, rfl, .tuple (cs.map callD), [p], r, ks, o, hc1 _ gx6, rfl, g6.sqT (g5.sqT hr4), by rw [he]; rfl, oo.grow g6, by omega, by omega, fun v H7 g7 o7 => ?_⟩
        have lw := len_wi71 (o := o) he
        exact hk _ _ ⟨v, _, _, _, _, _, rfl, o7, (gd_wi71 go (gc.mono (n' := 10) (by omega) (Nat.le_refl _) (Nat.le_refl _)) he).mono (Nat.le_refl _) (by omega) (by omega), by omega, gx6.trans g7.wk, pp6.grow g7⟩
      · exact iteF' (decide_eq_false ht) (hk _ _ ⟨z, _, _, _, _, _, rfl, hc1 _ g2, gc.mono (by omega) (by omega) (by omega), by omega, g2, pp2⟩)
    rintro _ H2 ⟨v, dt, e3, e5, e6, e7, rfl, ov, gdt, ldt, g2, pp2⟩
    obtain ⟨s1, s2, s3⟩ := shows71 b16 bb gdt
    have gb : ∀ H', Grow [] H2 H' → BoardAt K H' y b := fun H' g => g.board (g2.board (g1.board hb))
    have OD : ∀ (H' : Hp) (t : Addr), Grow [] H2 H' → SqT K H' t [y, v] → Od K [p] H' (.ref t) (whole71 b dt) := fun H' t g ht => .tup ht (.cons (od_board72 (gb _ g)) (.cons (ov.grow g.wk) .nil))
    refine c_asg (fun w H' => w = .str (whole71 b dt).shown ∧ Grow [] H2 H') (fun Kk hk => ⟨_, rfl, _, rfl, szl rfl, fun t ht => ⟨_, whole71 b dt, [p], rfl, OD _ t (Grow.new ht _) (SqT.of upd_same), s1, s2, s3, hk _ _ ⟨rfl, Grow.new ht _⟩⟩⟩) ?_
    rintro _ H3 ⟨rfl, g3⟩
    obtain ⟨tb, htb⟩ : ∃ tb, tb = callsP b.length dt := ⟨_, rfl⟩
    refine c_asg (fun w H' => w = .bl tb ∧ Grow [] H2 H') (fun Kk hk => ⟨_, rfl, _, rfl, _, _, rfl, b, dt, [p], gb _ g3, b16, ov.grow g3.wk, ldt, fun H' g => hk _ _ ⟨by rw [htb], g3.trans g⟩⟩) ?_
    rintro _ H4 ⟨rfl, g4⟩
    have nb : ∀ {P : Prop}, boardP (.tuple (b.map PyData.int)) = false → P := fun z => by rw [bP] at z; cases z
    refine c_asg (fun w H' => ∃ l6, w = .ref l6 ∧ H' l6 = some (.lst [.bl tb, .bl tb]) ∧ Grow [] H2 H') (fun Kk hk => ⟨_, rfl, _, rfl, _, _, rfl, .tuple (b.map PyData.int), dt, [p], od_board72 (gb _ g4), ov.grow g4.wk, by rw [lD]; omega, ldt, (fun _ H5 g5 => ⟨_, rfl, _, rfl, _, _, rfl, .tuple (b.map PyData.int), dt, [p], od_board72 (gb _ (g4.trans g5)), ov.grow (g4.trans g5).wk, by rw [lD]; omega, ldt, (fun _ H6 g6 => ⟨szl rfl, fun l6 hl6 => hk _ _ ⟨l6, rfl, by rw [lD, ← htb]; exact upd_same, g4.trans (g5.trans (g6.trans (Grow.new hl6 _)))⟩⟩), (fun z => nb z)⟩), (fun z => nb z)⟩) ?_
    rintro _ H5 ⟨l6, rfl, h6, g5⟩
    refine ⟨_, rfl, l6, rfl, ⟨_, SqL.of h6⟩, comp_listP (xs := [V.bl tb, V.bl tb]) (fun i ys H' => ys = (List.replicate i true).map V.bl ∧ H' = H5) ⟨rfl, rfl⟩ (fun i ys H' z => by rw [z.2]; exact SqL.of h6) ?_ ?_⟩
    · rintro j w ys H' hw ⟨rfl, rfl⟩
      have hj := (List.getElem?_eq_some_iff.mp hw).1
      have hj2 : j < 2 := hj
      have ew : w = .bl tb := by
        have : j = 0 ∨ j = 1 := by omega
        rcases this with rfl | rfl <;> exact (Option.some.inj hw).symm
      subst ew
      refine ⟨_, rfl, _, rfl, _, _, rfl, tb, tb, rfl, rfl, lt72 (by rw [List.length_map, List.length_replicate]; omega), ?_, rfl⟩
      rw [List.replicate_succ', List.map_append, show (tb == tb) = true from by cases tb <;> rfl]; rfl
    · rintro ys H' ⟨rfl, rfl⟩ l7 hl7
      have g7 := Grow.new (m := []) hl7 (.lst ((List.replicate 2 true).map V.bl))
      refine ⟨l7, List.replicate 2 true, rfl, SqL.of upd_same, _, rfl, ?_⟩
      refine iteF ⟨_, rfl, _, rfl, szl rfl, fun t ht => ⟨_, whole71 b dt, [p], rfl, OD _ t (g5.trans (g7.trans (Grow.new ht _))) (SqT.of upd_same), s1, s2, s3, _, rfl, rfl, _, rfl, ?_⟩⟩
      have G := g5.trans (g7.trans (Grow.new (m := []) ht (.tup [y, v])))
      exact iteF' (by rw [decide_eq_true rfl]; rfl) ⟨_, _, _, _, _, _, _, _, rfl, g1.trans (g2.trans G.wk), pp2.grow G⟩
  · rintro σ H1 ⟨e3, e4, e5, e6, e7, e8, e9, e10, rfl, g1, pp1⟩
    dsimp only
    refine c_asg (fun v H' => ∃ (l : Addr) (zs : List V), v = .ref l ∧ l ∉ [p] ∧ H' l = some (.lst zs) ∧ (∀ z ∈ zs, Nob71 K [p] H' z) ∧ zs.length = 14 ∧ Grow [p] H1 H' ∧ Pot H' p) (fun Kk hk => ⟨_, rfl, _, rfl, b, [p], g1.board hb, b1, b16, ?_, fun l zs H' g nl hl ho zl => hk _ _ ⟨l, zs, rfl, pot_ne72 pp1 nl, hl, ho, zl, g.wk, pp1.grow g⟩⟩) ?_
    · intro a ha z
      rw [List.mem_singleton.mp ha] at z
      exact pot_ne72 pp1 z (by simp)
    rintro _ H2 ⟨l, zs, rfl, nl, hl, ho, zl, g2, pp2⟩
    refine ⟨_, rfl, _, rfl, _, rfl, l, _, rfl, .inl (SqL.of hl), _, _, rfl, p, _, rfl, rfl, pp2, by omega, by omega, fun j0 H3 u0 u1 g3 pp3 => ?_⟩
    obtain ⟨j, rfl⟩ : ∃ j : Nat, j0 = j := ⟨j0.toNat, by omega⟩
    obtain ⟨w, hw⟩ : ∃ v, zs[j]? = some v := ⟨_, List.getElem?_eq_getElem (by omega)⟩
    obtain ⟨o, oo, go, lo⟩ := ho w (List.mem_of_getElem? hw)
    have G3 := g1.trans (g2.trans g3)
    refine ⟨l, _, j, _, rfl, rfl, SqL.of (g3.keep _ _ nl hl), atI_nat hw, _, rfl, _, _, rfl, o, .tuple (cs.map callD), [p], oo.grow g3, od_calls72 (G3.calls72 hc), lo, by omega, (fun z => by rw [go] at z; cases z), fun _ la H4 g4 h4 => ⟨szl rfl, fun lb nb => ?_⟩⟩
    have gb := Grow.new (m := []) nb (.lst [V.bl true, V.bl false])
    exact ⟨la, lb, _, _, rfl, rfl, SqL.of (gb.keep _ _ (by simp) h4), SqL.of upd_same, rfl, rfl, q _ (G3.trans (g4.wk.trans gb.wk)) ((pp3.grow g4).grow gb)⟩
theorem sc__law_number : FnScope ["_law_pot_here", "_law_wide"] ["_law_pot_here", "_law_wide"] (defScope (top 31)) := ⟨rfl, rfl, rfl, by decide +kernel, rfl, by decide +kernel, by decide +kernel⟩
set_option maxHeartbeats 0 in
theorem ok__law_number {n : Nat} {f : Addr} {fd : FuncData} (F : Fun K "_law_number" "_law_number" (top 31) f fd) (B : Blt mg) (c__law_take : Callee P w K mg base n "_law_take" ["_law_pot_here", "_law_many"] (sp_take K))    :
    FnOk P w K mg base CX0 (n + 1) f fd ["_law_pot_here", "_law_wide"] (sp_num72 K) := by
  refine F.ok sc__law_number sp2_len (fun cdv A outer s H vs Q E hr h => ?_)
  obtain ⟨x, y, rfl, p, b, rfl, rfl, pp, q⟩ := h
  refine ⟨_, (pss_cons (ps_if (PW.pt (pw_and (pt_val (pv 1)) (pw_and1 (pt_cmpR op_eq (pe_callC c__law_take hr rfl (pa_cons (pv 0) (pa_cons pe_int pa_nil))) pe_int (nomark _))))) (pss_one (ps_ret (pe_op op_mulG (pe_op op_sub pe_int (pe_op op_mulG pe_int (pe_callC c__law_take hr rfl (pa_cons (pv 0) (pa_cons pe_int pa_nil))))) (pe_callC c__law_take hr rfl (pa_cons (pv 0) (pa_cons (pe_op op_pow pe_int pe_int) pa_nil)))))) pss_nil) (pss_one (ps_ret (pe_op op_sub (pe_callC c__law_take hr rfl (pa_cons (pv 0) (pa_cons pe_int pa_nil))) pe_int)))), ?_⟩
  refine c_test (fun b H' => Grow [p] H H' ∧ Pot H' p) (fun Kk hk => ⟨_, rfl, _, rfl, ?_⟩) ?_
  · cases b with
    | false => exact iteF (hk _ _ ⟨Grow.refl _ _, pp⟩)
    | true => exact iteT ⟨_, rfl, _, _, rfl, p, 3, rfl, rfl, pp, by decide, by decide, fun n H' n0 n1 g pp' => ⟨rfl, _, rfl, hk _ _ ⟨g, pp'⟩⟩⟩
  rintro b1 H1 ⟨g1, pp1⟩
  cases b1 with
  | true =>
    refine iteT ⟨_, rfl, _, _, rfl, p, 2, rfl, rfl, pp1, by decide, by decide, fun n H2 n0 n1 g2 pp2 => ⟨_, _, rfl, rfl, mulOkL ⟨by decide, by decide⟩, _, _, rfl, rfl, _, rfl, _, _, rfl, rfl, ⟨by decide, by decide, by decide⟩, _, _, rfl, p, _, rfl, rfl, pp2, by decide, by decide, fun k H3 k0 k1 g3 pp3 => ⟨_, _, rfl, rfl, mulOkL ⟨by omega, by omega⟩, ?_⟩⟩⟩
    refine q _ _ ?_ (g1.trans (g2.trans g3)) pp3
    have k1' : k < 10 ^ 27 := k1
    have : n = 0 ∨ n = 1 := by omega
    unfold N27
    rcases this with rfl | rfl <;> omega
  | false =>
    refine iteF (c_next ⟨_, rfl, _, _, rfl, p, 7, rfl, rfl, pp1, by decide, by decide, fun n H2 n0 n1 g2 pp2 => ⟨_, _, rfl, rfl, q _ _ ?_ (g1.trans g2) pp2⟩⟩)
    unfold N27; omega
theorem sc__law_deed : FnScope ["_law_pot_here", "_law_wide", "_law_add", "_law_choice", "_law_low"] ["_law_pot_here", "_law_wide"] (defScope (top 32)) := ⟨rfl, rfl, rfl, by decide +kernel, rfl, by decide +kernel, by decide +kernel⟩
set_option maxHeartbeats 0 in
theorem ok__law_deed {n : Nat} {f : Addr} {fd : FuncData} (F : Fun K "_law_deed" "_law_deed" (top 32) f fd) (B : Blt mg) (c__law_take : Callee P w K mg base n "_law_take" ["_law_pot_here", "_law_many"] (sp_take K)) (c__law_number : Callee P w K mg base n "_law_number" ["_law_pot_here", "_law_wide"] (sp_num72 K))    :
    FnOk P w K mg base CX0 (n + 1) f fd ["_law_pot_here", "_law_wide"] (sp_deed72 K) := by
  refine F.ok sc__law_deed sp2_len (fun cdv A outer s H vs Q E hr h => ?_)
  obtain ⟨x, y, rfl, p, b, rfl, rfl, pp, q⟩ := h
  refine ⟨_, (pss_cons (ps_set (i := 2) sc__law_deed.nd rfl (Or.inl rfl) (pe_callC c__law_number hr rfl (pa_cons (pv 0) (pa_cons (pv 1) pa_nil)))) (pss_cons (ps_set (i := 3) sc__law_deed.nd rfl (Or.inl rfl) (pe_callC c__law_take hr rfl (pa_cons (pv 0) (pa_cons pe_int pa_nil)))) (pss_cons (ps_if (pt_cmpR op_lt (pv 3) pe_int (nomark _)) (pss_one (ps_ret (pe_ix ix_list (pe_lst (pa_cons (pe_tup (pa_cons pe_int (pa_cons pe_non (pa_cons pe_non pa_nil)))) (pa_cons (pe_tup (pa_cons (pv 2) (pa_cons pe_non (pa_cons pe_non pa_nil)))) pa_nil))) (pv 3) (fun _ _ => rfl)))) pss_nil) (pss_cons (ps_set (i := 4) sc__law_deed.nd rfl (Or.inl rfl) (pe_callC c__law_number hr rfl (pa_cons (pv 0) (pa_cons (pv 1) pa_nil)))) (pss_cons (ps_if (pt_cmpR op_eq (pv 3) pe_int (nomark _)) (pss_one (ps_ret (pe_tup (pa_cons pe_int (pa_cons (pv 4) (pa_cons (pv 4) pa_nil)))))) pss_nil) (pss_cons (ps_if (pt_cmpR op_lt (pv 3) pe_int (nomark _)) (pss_one (ps_ret (pe_ix ix_list (pe_lst (pa_cons (pe_tup (pa_cons (pv 2) (pa_cons (pv 4) (pa_cons pe_non pa_nil)))) (pa_cons (pe_tup (pa_cons (pv 2) (pa_cons pe_non (pa_cons (pv 4) pa_nil)))) pa_nil))) (pe_op op_sub (pv 3) pe_int) (fun _ _ => rfl)))) pss_nil) (pss_one (ps_ret (pe_tup (pa_cons (pv 2) (pa_cons (pv 4) (pa_cons (pe_op op_add (pe_op op_add (pv 4) pe_int) (pe_callC c__law_take hr rfl (pa_cons (pv 0) (pa_cons pe_int pa_nil)))) pa_nil)))))))))))), ?_⟩
  have Bd3 : ∀ {ad : Int} {lo hi : Option Int}, N27 ad → (∀ l, lo = some l → N27 l) → (∀ u, hi = some u → -(10 ^ 27) ≤ u ∧ u ≤ 10 ^ 27 + 6) → (⟨ad, lo, hi⟩ : Deed).Bd (10 ^ 27 + 6) := fun {ad lo hi} h1 h2 h3 => by
    refine ⟨?_, fun l hl => ?_, fun u hu => ?_⟩
    · have := h1.1; have := h1.2; show -(10 ^ 27 + 6) ≤ ad ∧ ad ≤ 10 ^ 27 + 6; omega
    · have := (h2 l hl).1; have := (h2 l hl).2; exact ⟨by omega, by omega⟩
    · have := h3 u hu; exact ⟨by omega, by omega⟩
  have n27 : N27 0 := ⟨by decide, by decide⟩
  refine c_asg (fun v H' => ∃ ad : Int, v = .int ad ∧ N27 ad ∧ Grow [p] H H' ∧ Pot H' p) (fun Kk hk => ⟨_, rfl, _, rfl, _, _, rfl, p, b, rfl, rfl, pp, fun n H' hn g pp' => hk _ _ ⟨n, rfl, hn, g, pp'⟩⟩) ?_
  rintro _ H1 ⟨ad, rfl, had, g1, pp1⟩
  refine c_asg (fun v H' => ∃ k : Int, v = .int k ∧ 0 ≤ k ∧ k < 6 ∧ Grow [p] H1 H' ∧ Pot H' p) (fun Kk hk => ⟨_, rfl, _, _, rfl, p, 6, rfl, rfl, pp1, by decide, by decide, fun n H' n0 n1 g pp' => hk _ _ ⟨n, rfl, n0, n1, g, pp'⟩⟩) ?_
  rintro _ H2 ⟨k, rfl, k0, k6, g2, pp2⟩
  have G2 := g1.trans g2
  refine ⟨_, rfl, _, _, rfl, rfl, _, rfl, ?_⟩
  by_cases hk2 : k < 2
  · refine iteT' (decide_eq_true hk2) ⟨szl rfl, fun t1 ht1 => ⟨_, rfl, szl rfl, fun t2 ht2 => ⟨szl rfl, fun l hl => ?_⟩⟩⟩
    have gl := (Grow.new (m := []) ht1 (.tup [.int 0, .non, .non])).trans ((Grow.new ht2 (.tup [.int ad, .non, .non])).trans (Grow.new hl (.lst [.ref t1, .ref t2])))
    have s1 : SqT K (upd (upd (upd H2 t1 (.tup [.int 0, .non, .non])) t2 (.tup [.int ad, .non, .non])) l (.lst [.ref t1, .ref t2])) t1 (⟨0, none, none⟩ : Deed).vs := ((Grow.new (m := []) ht2 _).trans (Grow.new hl _)).sqT (SqT.of upd_same)
    have s2 : SqT K (upd (upd (upd H2 t1 (.tup [.int 0, .non, .non])) t2 (.tup [.int ad, .non, .non])) l (.lst [.ref t1, .ref t2])) t2 (⟨ad, none, none⟩ : Deed).vs := (Grow.new (m := []) hl _).sqT (SqT.of upd_same)
    have : k = 0 ∨ k = 1 := by omega
    rcases this with rfl | rfl
    · exact ⟨_, rfl, l, _, 0, _, rfl, rfl, SqL.of upd_same, atI_nat (j := 0) rfl, q ⟨0, none, none⟩ _ _ (fun _ _ z => nomatch z) (Bd3 n27 (fun _ z => nomatch z) fun _ z => nomatch z) (G2.trans gl.wk) (pp2.grow gl) ⟨t1, rfl, s1⟩⟩
    · exact ⟨_, rfl, l, _, 1, _, rfl, rfl, SqL.of upd_same, atI_nat (j := 1) rfl, q ⟨ad, none, none⟩ _ _ (fun _ _ z => nomatch z) (Bd3 had (fun _ z => nomatch z) fun _ z => nomatch z) (G2.trans gl.wk) (pp2.grow gl) ⟨t2, rfl, s2⟩⟩
  refine iteF' (decide_eq_false hk2) (c_next ?_)
  refine c_asg (fun v H' => ∃ lo : Int, v = .int lo ∧ N27 lo ∧ Grow [p] H2 H' ∧ Pot H' p) (fun Kk hk => ⟨_, rfl, _, rfl, _, _, rfl, p, b, rfl, rfl, pp2, fun n H' hn g pp' => hk _ _ ⟨n, rfl, hn, g, pp'⟩⟩) ?_
  rintro _ H3 ⟨lo, rfl, hlo, g3, pp3⟩
  have G3 := G2.trans g3
  have lo6 : -(10 ^ 27) ≤ lo ∧ lo ≤ 10 ^ 27 + 6 := by have := hlo.1; have := hlo.2; omega
  refine ⟨_, rfl, rfl, _, rfl, ?_⟩
  by_cases hk3 : k = 2
  · refine iteT' (decide_eq_true (congrArg V.int hk3)) ⟨_, rfl, _, rfl, szl rfl, fun t ht => q ⟨0, some lo, some lo⟩ _ _ (fun l u h1 h2 => .inr ⟨by cases h1; cases h2; rfl, rfl⟩) (Bd3 n27 (fun l z => by cases z; exact hlo) fun u z => by cases z; exact lo6) (G3.trans (Grow.new ht _)) (pp3.grow (Grow.new ht _)) ⟨t, rfl, SqT.of upd_same⟩⟩
  refine iteF' (decide_eq_false fun z => hk3 (V.int.inj z)) (c_next ?_)
  refine ⟨_, rfl, _, _, rfl, rfl, _, rfl, ?_⟩
  by_cases hk5 : k < 5
  · refine iteT' (decide_eq_true hk5) ⟨_, rfl, _, rfl, szl rfl, fun t1 ht1 => ⟨_, rfl, _, rfl, szl rfl, fun t2 ht2 => ⟨szl rfl, fun l hl => ?_⟩⟩⟩
    have gl := (Grow.new (m := []) ht1 (.tup [.int ad, .int lo, .non])).trans ((Grow.new ht2 (.tup [.int ad, .non, .int lo])).trans (Grow.new hl (.lst [.ref t1, .ref t2])))
    have s1 : SqT K (upd (upd (upd H3 t1 (.tup [.int ad, .int lo, .non])) t2 (.tup [.int ad, .non, .int lo])) l (.lst [.ref t1, .ref t2])) t1 (⟨ad, some lo, none⟩ : Deed).vs := ((Grow.new (m := []) ht2 _).trans (Grow.new hl _)).sqT (SqT.of upd_same)
    have s2 : SqT K (upd (upd (upd H3 t1 (.tup [.int ad, .int lo, .non])) t2 (.tup [.int ad, .non, .int lo])) l (.lst [.ref t1, .ref t2])) t2 (⟨ad, none, some lo⟩ : Deed).vs := (Grow.new (m := []) hl _).sqT (SqT.of upd_same)
    have : k = 3 ∨ k = 4 := by omega
    rcases this with rfl | rfl
    · exact ⟨_, rfl, _, _, rfl, rfl, l, _, 0, _, rfl, rfl, SqL.of upd_same, atI_nat (j := 0) rfl, q ⟨ad, some lo, none⟩ _ _ (fun _ _ _ z => nomatch z) (Bd3 had (fun l z => by cases z; exact hlo) fun _ z => nomatch z) (G3.trans gl.wk) (pp3.grow gl) ⟨t1, rfl, s1⟩⟩
    · exact ⟨_, rfl, _, _, rfl, rfl, l, _, 1, _, rfl, rfl, SqL.of upd_same, atI_nat (j := 1) rfl, q ⟨ad, none, some lo⟩ _ _ (fun _ _ z => nomatch z) (Bd3 had (fun _ z => nomatch z) fun u z => by cases z; exact lo6) (G3.trans gl.wk) (pp3.grow gl) ⟨t2, rfl, s2⟩⟩
  refine iteF' (decide_eq_false hk5) (c_next ?_)
  refine ⟨_, rfl, _, rfl, _, rfl, _, _, rfl, rfl, _, rfl, _, _, rfl, p, 5, rfl, rfl, pp3, by decide, by decide, fun n H4 n0 n1 g4 pp4 => ⟨_, _, rfl, rfl, szl rfl, fun t ht => ?_⟩⟩
  refine q ⟨ad, some lo, some (lo + 1 + n)⟩ _ _ (fun l u h1 h2 => .inl (by cases h1; cases h2; omega)) (Bd3 had (fun l z => by cases z; exact hlo) fun u z => ?_) (G3.trans (g4.trans (Grow.new ht _))) (pp4.grow (Grow.new ht _)) ⟨t, rfl, SqT.of upd_same⟩
  cases z
  have := hlo.1; have := hlo.2
  omega
theorem sc__law_call : FnScope ["_law_pot_here", "_law_box", "_law_wide", "_law_begun", "_law_times"] ["_law_pot_here", "_law_box", "_law_wide"] (defScope (top 33)) := ⟨rfl, rfl, rfl, by decide +kernel, rfl, by decide +kernel, by decide +kernel⟩
set_option maxHeartbeats 0 in
theorem ok__law_call {n : Nat} {f : Addr} {fd : FuncData} (F : Fun K "_law_call" "_law_call" (top 33) f fd) (B : Blt mg) (c__law_deed : Callee P w K mg base n "_law_deed" ["_law_pot_here", "_law_wide"] (sp_deed72 K)) (c__law_take : Callee P w K mg base n "_law_take" ["_law_pot_here", "_law_many"] (sp_take K)) (c__law_number : Callee P w K mg base n "_law_number" ["_law_pot_here", "_law_wide"] (sp_num72 K))    :
    FnOk P w K mg base CX0 (n + 1) f fd ["_law_pot_here", "_law_box", "_law_wide"] (sp_call71 K) := by
  refine F.ok sc__law_call sp3_len (fun cdv A outer s H vs Q E hr h => ?_)
  obtain ⟨x, y, z, rfl, p, j, n, w, rfl, rfl, rfl, pp, jn, n16, q⟩ := h
  refine ⟨_, (pss_cons (ps_set (i := 3) sc__law_call.nd rfl (Or.inl rfl) (pe_callC c__law_take hr rfl (pa_cons (pv 0) (pa_cons (pe_ix ix_list (pe_lst (pa_cons pe_int (pa_cons (pe_op op_pow pe_int pe_int) pa_nil))) (pe_callTy call_int1 rfl B.int b_int (pa_cons (pv 2) pa_nil)) (fun _ _ => rfl)) pa_nil)))) (pss_cons (ps_set (i := 4) sc__law_call.nd rfl (Or.inl rfl) (pe_tup (pa_cons (pv 3) (pa_cons (pe_op op_add (pv 3) (pe_callC c__law_take hr rfl (pa_cons (pv 0) (pa_cons pe_int pa_nil)))) pa_nil)))) (pss_one (ps_ret (pe_op (op_catG (K := K) rfl) (pe_op (op_catG (K := K) rfl) (pe_tup (pa_cons (pe_callC c__law_take hr rfl (pa_cons (pv 0) (pa_cons pe_int pa_nil))) (pa_cons (pv 1) (pa_cons (pe_callC c__law_deed hr rfl (pa_cons (pv 0) (pa_cons (pv 2) pa_nil))) pa_nil)))) (pv 4)) (pe_tup (pa_cons (pe_callC c__law_number hr rfl (pa_cons (pv 0) (pa_cons (pv 2) pa_nil))) pa_nil))))))), ?_⟩
  refine c_asg (fun v H' => ∃ be : Int, v = .int be ∧ 0 ≤ be ∧ be < 10 ^ 28 ∧ Grow [p] H H' ∧ Pot H' p) (fun Kk hk => ⟨_, rfl, _, _, rfl, rfl, ⟨by decide, by decide, by decide⟩, szl rfl, fun l hl => ⟨_, rfl, .inr ⟨w, rfl, ?_⟩⟩⟩) ?_
  · have gl := Grow.new (m := [p]) hl (.lst [V.int 9, V.int (10 ^ (28 : Int).toNat)])
    have pl := pp.grow (Grow.new (m := []) hl (.lst [V.int 9, V.int (10 ^ (28 : Int).toNat)]))
    cases w with
    | false => exact ⟨l, _, 0, _, rfl, rfl, SqL.of upd_same, atI_nat (j := 0) rfl, _, _, rfl, p, 9, rfl, rfl, pl, by decide, by decide, fun n H' n0 n1 g pp' => hk _ _ ⟨n, rfl, n0, by omega, gl.trans g, pp'⟩⟩
    | true => exact ⟨l, _, 1, _, rfl, rfl, SqL.of upd_same, atI_nat (j := 1) rfl, _, _, rfl, p, 10 ^ 28, rfl, rfl, pl, by decide, by decide, fun n H' n0 n1 g pp' => hk _ _ ⟨n, rfl, n0, n1, gl.trans g, pp'⟩⟩
  rintro _ H1 ⟨be, rfl, b0, b1, g1, pp1⟩
  refine c_asg (fun v H' => ∃ (r : Addr) (t : Int), v = .ref r ∧ 0 ≤ t ∧ t < 4 ∧ SqT K H' r [.int be, .int (be + t)] ∧ Grow [p] H1 H' ∧ Pot H' p) (fun Kk hk => ⟨_, rfl, _, rfl, _, rfl, _, _, rfl, p, 4, rfl, rfl, pp1, by decide, by decide, fun t H2 t0 t1 g2 pp2 => ⟨_, _, rfl, rfl, szl rfl, fun r hr => hk _ _ ⟨r, t, rfl, t0, t1, SqT.of upd_same, g2.trans (Grow.new hr _), pp2.grow (Grow.new hr _)⟩⟩⟩) ?_
  rintro _ H2 ⟨r2, t, rfl, t0, t1, s2, g2, pp2⟩
  refine ⟨_, rfl, _, _, rfl, p, 16, rfl, rfl, pp2, by decide, by decide, fun h H3 h0 h1 g3 pp3 => ⟨_, rfl, _, rfl, _, rfl, _, _, rfl, p, w, rfl, rfl, pp3, fun d v H4 ok bd g4 pp4 hd => ⟨szl rfl, fun r3 hr3 => ?_⟩⟩⟩
  obtain ⟨rd, rfl, sd⟩ := hd
  have n3 := Grow.new (m := []) hr3 (.tup [.int h, .int j, .ref rd])
  refine ⟨_, rfl, r3, r2, _, _, rfl, rfl, SqT.of upd_same, n3.sqT (g4.sqT (g3.sqT s2)), le72 (show 5 ≤ 5000 by decide), fun p1 H5 g5 s5 => ?_⟩
  have pp5 := (pp4.grow n3).grow g5
  refine ⟨_, rfl, _, rfl, _, _, rfl, p, w, rfl, rfl, pp5, fun a H6 ha g6 pp6 => ⟨szl rfl, fun r1 hr1 => ⟨p1, r1, _, _, rfl, rfl, (Grow.new (m := []) hr1 (.tup [.int a])).sqT (g6.sqT s5), SqT.of upd_same, le72 (show 6 ≤ 5000 by decide), fun pr H7 g7 s7 => ?_⟩⟩⟩
  have G6 : Grow [p] H4 H7 := n3.wk.trans (g5.wk.trans (g6.trans ((Grow.new (m := []) hr1 (.tup [.int a])).wk.trans g7.wk)))
  have := ha.1; have := ha.2
  exact q ⟨h, j, d, be, be + t, a⟩ _ _ ⟨h0, by show h ≤ 15; omega, Int.natCast_nonneg _, by show (j : Int) < n; omega, ok, b0, by show be ≤ be + t; omega⟩ ⟨⟨by show -(10 ^ 29) ≤ h; omega, by show h ≤ 10 ^ 29; omega⟩, ⟨by show -(10 ^ 29) ≤ (j : Int); omega, by show (j : Int) ≤ 10 ^ 29; omega⟩, bd.mono (by decide), ⟨by show -(10 ^ 29) ≤ be; omega, by show be ≤ 10 ^ 29; omega⟩, ⟨by show -(10 ^ 29) ≤ be + t; omega, by show be + t ≤ 10 ^ 29; omega⟩, ⟨by show -(10 ^ 29) ≤ a; omega, by show a ≤ 10 ^ 29; omega⟩⟩ (g1.trans (g2.trans (g3.trans (g4.trans G6)))) ((pp6.grow (Grow.new hr1 _)).grow g7) ⟨pr, rd, rfl, s7, G6.sqT sd⟩
theorem sc__law_some : FnScope ["_law_pot_here", "_law_choice", "_law_wide", "_law_boxes", "_law_many", "_law_board", "_law_some_here"] ["_law_pot_here"] (defScope (top 34)) := ⟨rfl, rfl, rfl, by decide +kernel, rfl, by decide +kernel, by decide +kernel⟩
set_option maxHeartbeats 0 in
theorem ok__law_some {n : Nat} {f : Addr} {fd : FuncData} (F : Fun K "_law_some" "_law_some" (top 34) f fd) (B : Blt mg) (c__law_call : Callee P w K mg base n "_law_call" ["_law_pot_here", "_law_box", "_law_wide"] (sp_call71 K)) (c__law_take : Callee P w K mg base n "_law_take" ["_law_pot_here", "_law_many"] (sp_take K)) (c__law_number : Callee P w K mg base n "_law_number" ["_law_pot_here", "_law_wide"] (sp_num72 K))    :
    FnOk P w K mg base CX0 (n + 1) f fd ["_law_pot_here"] (sp_some71 K) := by
  refine F.ok sc__law_some sp1_len (fun cdv A outer s H vs Q E hr h => ?_)
  obtain ⟨x, rfl, p, rfl, pp, q⟩ := h
  refine ⟨_, (pss_cons (ps_set (i := 1) sc__law_some.nd rfl (Or.inr rfl) (pe_callC c__law_take hr rfl (pa_cons (pv 0) (pa_cons pe_int pa_nil)))) (pss_cons (ps_set (i := 2) sc__law_some.nd rfl (Or.inr rfl) (pe_cmpR op_eq (pe_callC c__law_take hr rfl (pa_cons (pv 0) (pa_cons pe_int pa_nil))) pe_int (nomark _))) (pss_cons (ps_set (i := 3) sc__law_some.nd rfl (Or.inr rfl) (pe_ix ix_list (pe_lst (pa_cons (pe_op op_add pe_int (pe_callC c__law_take hr rfl (pa_cons (pv 0) (pa_cons pe_int pa_nil)))) (pa_cons (pe_op op_add pe_int (pe_callC c__law_take hr rfl (pa_cons (pv 0) (pa_cons pe_int pa_nil)))) (pa_cons pe_int (pa_cons (pe_op op_add pe_int (pe_callC c__law_take hr rfl (pa_cons (pv 0) (pa_cons pe_int pa_nil)))) pa_nil))))) (pv 1) (fun _ _ => rfl))) (pss_cons (ps_set (i := 4) sc__law_some.nd rfl (Or.inl rfl) (pe_ix ix_list (pe_lst (pa_cons (pe_callC c__law_take hr rfl (pa_cons (pv 0) (pa_cons pe_int pa_nil))) (pa_cons (pe_op op_add pe_int (pe_callC c__law_take hr rfl (pa_cons (pv 0) (pa_cons pe_int pa_nil)))) (pa_cons (pe_op op_add pe_int (pe_callC c__law_take hr rfl (pa_cons (pv 0) (pa_cons pe_int pa_nil)))) (pa_cons (pe_callC c__law_take hr rfl (pa_cons (pv 0) (pa_cons pe_int pa_nil))) pa_nil))))) (pv 1) (fun _ _ => rfl))) (pss_cons (ps_set (i := 5) sc__law_some.nd rfl (Or.inl rfl) (pe_callTy call_tuple_of rfl B.tuple b_tuple (pa_cons (pe_compT (CSc.of (N' := ["_law_box", "_law_pot_here", "_law_wide"]) (sub := [none, some 0, some 2]) (defScope (top 34)) ["_law_pot_here", "_law_choice", "_law_wide", "_law_boxes", "_law_many", "_law_board", "_law_some_here"] rfl rfl (by decide +kernel) rfl) rfl (pi_range1 rfl B.range (pa_cons (pv 3) pa_nil)) (fun _ _ _ _ _ _ => pg_name (i := 0) (show (["_law_box", "_law_pot_here", "_law_wide"] : List Str).Nodup by decide +kernel) rfl (Or.inl rfl)) (fun _ _ _ _ _ _ => pifs_nil) (fun _ _ _ _ _ _ => (pe_callC c__law_number hr rfl (pa_cons (pv 1) (pa_cons (pv 2) pa_nil))))) pa_nil))) (pss_cons (ps_compT (i := 6) sc__law_some.nd rfl rfl (CSc.of (N' := ["_law_k", "_law_pot_here", "_law_boxes", "_law_choice", "_law_wide"]) (sub := [none, some 0, some 3, some 1, some 2]) (defScope (top 34)) ["_law_pot_here", "_law_choice", "_law_wide", "_law_boxes", "_law_many", "_law_board", "_law_some_here"] rfl rfl (by decide +kernel) rfl) rfl (pi_range1 rfl B.range (pa_cons (pv 4) pa_nil)) (fun _ _ _ _ _ _ => pg_name (i := 0) (show (["_law_k", "_law_pot_here", "_law_boxes", "_law_choice", "_law_wide"] : List Str).Nodup by decide +kernel) rfl (Or.inl rfl)) (fun _ _ _ _ _ _ => pifs_nil) (fun _ _ _ _ _ _ => (pe_callC c__law_call hr rfl (pa_cons (pv 1) (pa_cons (pe_ix (ix_listK (K := K) rfl) (pe_lst (pa_cons (pe_callC c__law_take hr rfl (pa_cons (pv 1) (pa_cons (pv 2) pa_nil))) (pa_cons (pe_op op_mod (pv 0) (pv 2)) pa_nil))) (pe_callTy call_int1 rfl B.int b_int (pa_cons (pe_cmpR op_eq (pv 3) pe_int (nomark _)) pa_nil)) (fun _ _ => rfl)) (pa_cons (pv 4) pa_nil)))))) (pss_one (ps_ret (pe_tup (pa_cons (pv 5) (pa_cons (pe_callTy call_tuple_of rfl B.tuple b_tuple (pa_cons (pv 6) pa_nil)) pa_nil))))))))))), ?_⟩
  refine c_asg (fun v H' => ∃ k : Int, v = .int k ∧ 0 ≤ k ∧ k < 4 ∧ Grow [p] H H' ∧ Pot H' p) (fun Kk hk => ⟨_, rfl, _, _, rfl, p, 4, rfl, rfl, pp, by decide, by decide, fun n H' n0 n1 g pp' => hk _ _ ⟨n, rfl, n0, n1, g, pp'⟩⟩) ?_
  rintro _ H1 ⟨k, rfl, k0, k4, g1, pp1⟩
  refine c_asg (fun v H' => ∃ w : Bool, v = .bl w ∧ Grow [p] H1 H' ∧ Pot H' p) (fun Kk hk => ⟨_, rfl, _, _, rfl, p, 2, rfl, rfl, pp1, by decide, by decide, fun n H' n0 n1 g pp' => ⟨rfl, hk _ _ ⟨_, rfl, g, pp'⟩⟩⟩) ?_
  rintro _ H2 ⟨w, rfl, g2, pp2⟩
  refine c_asg (fun v H' => ∃ n : Nat, v = .int n ∧ 1 ≤ n ∧ n ≤ 16 ∧ Grow [p] H2 H' ∧ Pot H' p) (fun Kk hk => ⟨_, rfl, _, _, rfl, p, 16, rfl, rfl, pp2, by decide, by decide, fun n1 Ha a0 a1 ga pa => ⟨_, _, rfl, rfl, _, rfl, _, _, rfl, p, 2, rfl, rfl, pa, by decide, by decide, fun n2 Hb b0 b1 gb pb => ⟨_, _, rfl, rfl, _, rfl, _, _, rfl, p, 6, rfl, rfl, pb, by decide, by decide, fun n3 Hc c0 c1 gc pc => ⟨_, _, rfl, rfl, szl rfl, fun l hl => ⟨_, rfl, ?_⟩⟩⟩⟩⟩) ?_
  · have gl := Grow.new (m := [p]) hl (.lst [V.int (1 + n1), V.int (1 + n2), V.int 6, V.int (1 + n3)])
    have G := ga.trans (gb.trans (gc.trans gl))
    have pl := pc.grow (Grow.new (m := []) hl (.lst [V.int (1 + n1), V.int (1 + n2), V.int 6, V.int (1 + n3)]))
    have : k = 0 ∨ k = 1 ∨ k = 2 ∨ k = 3 := by omega
    rcases this with rfl | rfl | rfl | rfl
    · exact ⟨l, _, 0, _, rfl, rfl, SqL.of upd_same, atI_nat (j := 0) rfl, hk _ _ ⟨(1 + n1).toNat, congrArg V.int (by omega), by omega, by omega, G, pl⟩⟩
    · exact ⟨l, _, 1, _, rfl, rfl, SqL.of upd_same, atI_nat (j := 1) rfl, hk _ _ ⟨(1 + n2).toNat, congrArg V.int (by omega), by omega, by omega, G, pl⟩⟩
    · exact ⟨l, _, 2, _, rfl, rfl, SqL.of upd_same, atI_nat (j := 2) rfl, hk _ _ ⟨6, rfl, by decide, by decide, G, pl⟩⟩
    · exact ⟨l, _, 3, _, rfl, rfl, SqL.of upd_same, atI_nat (j := 3) rfl, hk _ _ ⟨(1 + n3).toNat, congrArg V.int (by omega), by omega, by omega, G, pl⟩⟩
  rintro _ H3 ⟨n, rfl, n1, n16, g3, pp3⟩
  refine c_asg (fun v H' => ∃ m : Nat, v = .int m ∧ m ≤ 42 ∧ Grow [p] H3 H' ∧ Pot H' p) (fun Kk hk => ⟨_, rfl, _, _, rfl, p, 13, rfl, rfl, pp3, by decide, by decide, fun n1 Ha a0 a1 ga pa => ⟨_, rfl, _, _, rfl, p, 5, rfl, rfl, pa, by decide, by decide, fun n2 Hb b0 b1 gb pb => ⟨_, _, rfl, rfl, _, rfl, _, _, rfl, p, 5, rfl, rfl, pb, by decide, by decide, fun n3 Hc c0 c1 gc pc => ⟨_, _, rfl, rfl, _, rfl, _, _, rfl, p, 4, rfl, rfl, pc, by decide, by decide, fun n4 Hd d0 d1 gd pd => ⟨szl rfl, fun l hl => ⟨_, rfl, ?_⟩⟩⟩⟩⟩⟩) ?_
  · have gl := Grow.new (m := [p]) hl (.lst [V.int n1, V.int (6 + n2), V.int (38 + n3), V.int n4])
    have G := ga.trans (gb.trans (gc.trans (gd.trans gl)))
    have pl := pd.grow (Grow.new (m := []) hl (.lst [V.int n1, V.int (6 + n2), V.int (38 + n3), V.int n4]))
    have : k = 0 ∨ k = 1 ∨ k = 2 ∨ k = 3 := by omega
    rcases this with rfl | rfl | rfl | rfl
    · exact ⟨l, _, 0, _, rfl, rfl, SqL.of upd_same, atI_nat (j := 0) rfl, hk _ _ ⟨n1.toNat, congrArg V.int (by omega), by omega, G, pl⟩⟩
    · exact ⟨l, _, 1, _, rfl, rfl, SqL.of upd_same, atI_nat (j := 1) rfl, hk _ _ ⟨(6 + n2).toNat, congrArg V.int (by omega), by omega, G, pl⟩⟩
    · exact ⟨l, _, 2, _, rfl, rfl, SqL.of upd_same, atI_nat (j := 2) rfl, hk _ _ ⟨(38 + n3).toNat, congrArg V.int (by omega), by omega, G, pl⟩⟩
    · exact ⟨l, _, 3, _, rfl, rfl, SqL.of upd_same, atI_nat (j := 3) rfl, hk _ _ ⟨n4.toNat, congrArg V.int (by omega), by omega, G, pl⟩⟩
  rintro _ H4 ⟨m, rfl, m42, g4, pp4⟩
  refine c_asg (fun v H' => ∃ (rb : Addr) (b : List Int), v = .ref rb ∧ SqT K H' rb (b.map V.int) ∧ b.length = n ∧ (∀ v ∈ b, N27 v) ∧ Grow [p] H4 H' ∧ Pot H' p) (fun Kk hk => ⟨_, rfl, _, rfl, by omega, by omega, comp_rng (fun i ys H' => ∃ b : List Int, ys = b.map V.int ∧ b.length = i ∧ (∀ v ∈ b, N27 v) ∧ Grow [p] H4 H' ∧ Pot H' p) ⟨[], rfl, rfl, (fun _ h => nomatch h), Grow.refl _ _, pp4⟩ ?_ ?_⟩) ?_
  · rintro i ys H' hi ⟨b, rfl, bl, bb, g, pp'⟩
    refine ⟨_, rfl, _, rfl, _, _, rfl, p, w, rfl, rfl, pp', fun k H2 hk g2 pp2 => ⟨lt72 (by rw [List.length_map]; omega), b ++ [k], by rw [List.map_append]; rfl, by rw [List.length_append, List.length_singleton, bl], fun v hv => ?_, g.trans g2, pp2⟩⟩
    rcases List.mem_append.mp hv with hv | hv
    · exact bb v hv
    · rw [List.mem_singleton.mp hv]; exact hk
  · rintro ys H' ⟨b, rfl, bl, bb, g, pp'⟩ l hl
    exact ⟨l, _, rfl, .inl ⟨SqL.of upd_same, fun t ht => hk _ _ ⟨t, b, rfl, SqT.of upd_same, by rw [bl]; omega, bb, g.trans ((Grow.new hl _).trans (Grow.new ht _)), pp'.grow ((Grow.new hl _).trans (Grow.new ht _))⟩⟩⟩
  rintro _ H5 ⟨rb, b, rfl, hb5, bl, bb, g5, pp5⟩
  refine c_asg (fun v H' => ∃ (l : Addr) (xs : List V) (cs : List Call72), v = .ref l ∧ SqL K H' l xs ∧ AllR (CallAt72 K H') xs cs ∧ cs.length = m ∧ (∀ c ∈ cs, CallOk72 n c) ∧ (∀ c ∈ cs, Cb72 (10 ^ 29) c) ∧ Grow [p] H5 H' ∧ Pot H' p) (fun Kk hk => ⟨_, rfl, _, rfl, by omega, by omega, comp_rng (fun i ys H' => ∃ cs : List Call72, AllR (CallAt72 K H') ys cs ∧ cs.length = i ∧ (∀ c ∈ cs, CallOk72 n c) ∧ (∀ c ∈ cs, Cb72 (10 ^ 29) c) ∧ Grow [p] H5 H' ∧ Pot H' p) ⟨[], trivial, rfl, (fun _ h => nomatch h), (fun _ h => nomatch h), Grow.refl _ _, pp5⟩ ?_ ?_⟩) ?_
  · rintro i ys H' hi ⟨cs, ac, cl, ok, bd, g, pp'⟩
    have nn : (0 : Int) < (n : Int) := by omega
    refine ⟨_, rfl, _, rfl, _, rfl, _, _, rfl, p, n, rfl, rfl, pp', nn, by omega, fun t Ht t0 t1 gt pt => ⟨_, rfl, _, rfl, _, _, rfl, rfl, nn, szl rfl, fun l hl => ⟨_, rfl, rfl, .inr ⟨_, rfl, ?_⟩⟩⟩⟩
    have gl := Grow.new (m := [p]) hl (.lst [V.int t, V.int ((0 + (i : Int)) % (n : Int))])
    have pl := pt.grow (Grow.new (m := []) hl (.lst [V.int t, V.int ((0 + (i : Int)) % (n : Int))]))
    have fin : ∀ (c : Call72) (v : V) (H2 : Hp), CallOk72 n c → Cb72 (10 ^ 29) c → Grow [p] (upd Ht l (.lst [V.int t, V.int ((0 + (i : Int)) % (n : Int))])) H2 → Pot H2 p → CallAt72 K H2 v c → ys.length < sizeLine ∧ ∃ cs, AllR (CallAt72 K H2) (ys ++ [v]) cs ∧ cs.length = i + 1 ∧ (∀ c ∈ cs, CallOk72 n c) ∧ (∀ c ∈ cs, Cb72 (10 ^ 29) c) ∧ Grow [p] H5 H2 ∧ Pot H2 p := fun c v H2 okc bdc g2 pp2 hc => by
      have G := gt.trans (gl.trans g2)
      refine ⟨lt72 (by rw [ac.len, cl]; omega), cs ++ [c], AllR.app (G.callsR ac) (AllR.one hc), by rw [List.length_append, cl]; rfl, fun x hx => ?_, fun x hx => ?_, g.trans G, pp2⟩
      · rcases List.mem_append.mp hx with hx | hx
        · exact ok x hx
        · rw [List.mem_singleton.mp hx]; exact okc
      · rcases List.mem_append.mp hx with hx | hx
        · exact bd x hx
        · rw [List.mem_singleton.mp hx]; exact bdc
    have e0 := Int.emod_nonneg (0 + (i : Int)) (Int.ne_of_gt nn)
    have e1 := Int.emod_lt_of_pos (0 + (i : Int)) nn
    by_cases hk2 : (V.int k = V.int 2)
    · rw [show (if decide (V.int k = V.int 2) = true then (1 : Int) else 0) = 1 from if_pos (decide_eq_true hk2)]
      exact ⟨l, _, 1, _, rfl, rfl, SqL.of upd_same, atI_nat (j := 1) rfl, _, rfl, _, _, _, rfl, p, ((0 + (i : Int)) % (n : Int)).toNat, n, w, rfl, congrArg V.int (Int.toNat_of_nonneg e0).symm, rfl, pl, by omega, n16, fin⟩
    · rw [show (if decide (V.int k = V.int 2) = true then (1 : Int) else 0) = 0 from if_neg (by rw [decide_eq_false hk2]; decide)]
      exact ⟨l, _, 0, _, rfl, rfl, SqL.of upd_same, atI_nat (j := 0) rfl, _, rfl, _, _, _, rfl, p, t.toNat, n, w, rfl, congrArg V.int (Int.toNat_of_nonneg t0).symm, rfl, pl, by omega, n16, fin⟩
  · rintro ys H' ⟨cs, ac, cl, ok, bd, g, pp'⟩ l hl
    exact hk _ _ ⟨l, ys, cs, rfl, SqL.of upd_same, (Grow.new (m := []) hl _).callsR ac, by rw [cl]; omega, ok, bd, g.trans (Grow.new hl _), pp'.grow (Grow.new hl _)⟩
  rintro _ H6 ⟨l, xs, cs, rfl, sl, ac, cl, ok, bd, g6, pp6⟩
  refine ⟨_, rfl, _, rfl, l, _, rfl, .inl ⟨sl, fun t ht => ⟨szl rfl, fun r hr => ?_⟩⟩⟩
  have nt := Grow.new (m := []) ht (.tup xs)
  have nr := Grow.new (m := []) hr (.tup [.ref rb, .ref t])
  have N := nt.trans nr
  exact q b cs r _ _ _ (by omega) (by omega) bb (by omega) (by rw [bl]; exact ok) bd (g1.trans (g2.trans (g3.trans (g4.trans (g5.trans (g6.trans N.wk)))))) (pp6.grow N) (SqT.of upd_same) ⟨rb, rfl, N.sqT (g6.sqT hb5)⟩ ⟨t, xs, rfl, nr.sqT (SqT.of upd_same), N.callsR ac⟩
theorem sc_law : FnScope ["_law_script", "_law_k", "_law_pot_here", "_law_board", "_law_calls"] ["_law_script"] (defScope (top 49)) := ⟨rfl, rfl, rfl, by decide +kernel, rfl, by decide +kernel, by decide +kernel⟩
set_option maxHeartbeats 0 in
theorem ok_law {n : Nat} {f : Addr} {fd : FuncData} (F : Fun K "law" "law" (top 49) f fd) (B : Blt mg) {A_NoBoard : Addr} (x_NoBoard : ExcC K mg "NoBoard" A_NoBoard) (c__law_truths_told : Callee P w K mg base n "_law_truths_told" ["_law_pot_here"] (sp_ttold71 K)) (c__law_pot : Callee P w K mg base n "_law_pot" ["_law_script", "_law_k"] (sp_pot K)) (c_are_calls : CalleeX P w K mg base n "are_calls" ["board", "thing"] (sp_areX A_NoBoard K)) (c__law_right : Callee P w K mg base n "_law_right" ["_law_pot_here", "_law_board", "_law_calls"] (sp_right71 K)) (c__law_is_truth : Callee P w K mg base n "_law_is_truth" ["_law_found", "_law_due"] (sp_truth72 K)) (c__law_are_calls : Callee P w K mg base n "_law_are_calls" ["_law_board", "_law_thing"] (sp_lare71 K)) (c__law_some : Callee P w K mg base n "_law_some" ["_law_pot_here"] (sp_some71 K))    :
    FnOk P w K mg base CX0 (n + 1) f fd ["_law_script"] (sp_law K) := by
  refine F.ok sc_law sp1_len (fun cdv A outer s H vs Q E hr h => ?_)
  obtain ⟨x, rfl, a, ns, rfl, hs, h63, q⟩ := h
  refine ⟨_, (pss_cons (ps_for PassesOwn.never rfl (pi_range1 rfl B.range (pa_cons (pe_callB (call_max2 rfl) rfl B.max b_max (pa_cons pe_int (pa_cons (pe_callB (call_min2 rfl) rfl B.min b_min (pa_cons pe_int (pa_cons (pe_callB call_len_seq rfl B.len b_len (pa_cons (pv 0) pa_nil)) pa_nil))) pa_nil))) pa_nil)) (pg_name (i := 1) sc_law.nd rfl (Or.inl rfl)) (pss_cons (ps_set (i := 2) sc_law.nd rfl (Or.inl rfl) (pe_callC c__law_pot hr rfl (pa_cons (pv 0) (pa_cons (pv 1) pa_nil)))) (pss_cons (ps_asg (pe_callC c__law_some hr rfl (pa_cons (pv 2) pa_nil)) (pg_tup rfl (pgs_cons (pg_name (i := 3) sc_law.nd rfl (Or.inl rfl)) (pgs_cons (pg_name (i := 4) sc_law.nd rfl (Or.inl rfl)) pgs_nil)))) (pss_cons (ps_if (pt_not (pt_val (pe_callC c__law_is_truth hr rfl (pa_cons (pe_callX c_are_calls pass1 hr rfl (pa_cons (pv 3) (pa_cons (pv 4) pa_nil))) (pa_cons (pe_callC c__law_are_calls hr rfl (pa_cons (pv 3) (pa_cons (pv 4) pa_nil))) pa_nil))))) (pss_one (ps_ret pe_bl)) pss_nil) (pss_one (ps_if (pt_not (pt_val (pe_callC c__law_right hr rfl (pa_cons (pv 2) (pa_cons (pv 3) (pa_cons (pv 4) pa_nil)))))) (pss_one (ps_ret pe_bl)) pss_nil)))))) (pss_one (ps_ret (pe_and (pe_cmpR op_isB (pe_callX c_are_calls pass1 hr rfl (pa_cons (pe_tup (pa_cons pe_int pa_nil)) (pa_cons (pe_tup pa_nil) pa_nil))) pe_bl (nomark _)) (pe_one (pe_callC c__law_truths_told hr rfl (pa_cons (pe_callC c__law_pot hr rfl (pa_cons (pv 0) (pa_cons pe_int pa_nil))) pa_nil))))))), ?_⟩
  have hl : (ns.map V.int).length = ns.length := List.length_map ..
  refine ⟨_, rfl, a, _, rfl, .inl hs.sq, _, _, rfl, _, _, rfl, _, rfl, ?_, ?_, ?_⟩
  · split <;> split <;> omega
  · rw [hl]; split <;> split <;> omega
  refine for_range (fun i σ H' => ∃ (e1 e2 e3 e4 : Option V), σ = [some (.ref a), e1, e2, e3, e4] ∧ Grow [] H H') ⟨_, _, _, _, rfl, Grow.refl _ _⟩ ?_ ?_
  rotate_left
  · rintro σ H1 ⟨e1, e2, e3, e4, rfl, g⟩
    dsimp only
    refine ⟨szl rfl, fun t1 n1 => ⟨szl rfl, fun t2 n2 => ?_⟩⟩
    have k1 := Grow.new (m := []) n1 (.tup [V.int 0])
    have k2 := Grow.new (m := []) n2 (.tup [])
    refine ⟨_, _, rfl, .tuple [.int 0], .tuple [], [], .tup (k2.sqT (SqT.of upd_same)) (.cons (.int 0) .nil), .tup (SqT.of upd_same) .nil, by decide, by decide, ?_⟩
    rw [if_pos (show boardP (.tuple [.int 0]) = true from rfl)]
    intro H' g'
    have e : callsP (lenD (.tuple [.int 0])) (.tuple []) = true := rfl
    rw [e]
    have G := g.trans (k1.trans (k2.trans g'))
    refine ⟨true, true, rfl, rfl, ?_⟩
    refine ⟨_, rfl, iteT ⟨_, rfl, _, _, rfl, a, ns, _, rfl, rfl, G.scr hs, by omega, by omega, fun p H2 hp g2 pp => ⟨_, rfl, p, rfl, pp, fun H3 g3 pp3 => q _⟩⟩⟩
  rintro i σ H1 hi ⟨e1, e2, e3, e4, rfl, g⟩
  have i63 : i < 1000 := by
    have hi' := hi
    revert hi'
    split <;> split <;> omega
  try dsimp only
  refine c_asg (fun v H' => ∃ p, v = .ref p ∧ H1 p = none ∧ Grow [] H1 H' ∧ Pot H' p) (fun Kk hk => ⟨_, rfl, _, rfl, _, _, rfl, a, ns, _, rfl, rfl, g.scr hs, by omega, by omega, fun p H2 hp g2 pp => hk _ _ ⟨p, rfl, hp, g2, pp⟩⟩) ?_
  rintro _ H2 ⟨p, rfl, np, g2, pp2⟩
  refine ⟨_, rfl, _, rfl, p, rfl, pp2, fun b cs r vb vc H3 b1 b16 bb c42 ok bd g3 pp3 hr3 hB hC => ⟨r, _, rfl, hr3, rfl, _, _, rfl, _, _, rfl, rfl, ?_⟩⟩
  try dsimp only
  have bP := boardP_ints71 b1 b16
  have lD : lenD (.tuple (b.map PyData.int)) = b.length := List.length_map ..
  have lC : lenD (.tuple (cs.map callD)) = cs.length := List.length_map ..
  refine ⟨_, rfl, _, rfl, _, _, rfl, .tuple (b.map PyData.int), .tuple (cs.map callD), [], od_board72 hB, od_calls72 hC, by omega, by omega, ?_⟩
  rw [if_pos bP, lD]
  intro H4 g4
  refine ⟨_, rfl, _, rfl, _, _, rfl, b, .tuple (cs.map callD), [], g4.board hB, b16, od_calls72 (g4.calls72 hC), by omega, fun H5 g5 => ⟨_, _, rfl, callsP b.length (.tuple (cs.map callD)), callsP b.length (.tuple (cs.map callD)), rfl, rfl, _, rfl, iteF' (by cases callsP b.length (.tuple (cs.map callD)) <;> rfl) ?_⟩⟩
  have G5 := g4.trans g5
  refine ⟨_, rfl, _, rfl, _, rfl, _, _, _, rfl, p, b, cs, rfl, pp3.grow G5, G5.board hB, b1, b16, bb, G5.calls72 hC, c42, bd, fun H6 g6 pp6 => ⟨_, rfl, iteF ⟨_, _, _, _, rfl, ?_⟩⟩⟩
  exact g.trans (Grow.shrink np (g2.wk.trans (g3.trans (G5.wk.trans g6))))
end
theorem my_len1 : ∀ {us : List Value}, us.length = 1 → ∃ x0, us = [x0]
  | [x0], _ => ⟨x0, rfl⟩
theorem my_len2 : ∀ {us : List Value}, us.length = 2 → ∃ x0, ∃ x1, us = [x0, x1]
  | [x0, x1], _ => ⟨x0, x1, rfl⟩
theorem my_len3 : ∀ {us : List Value}, us.length = 3 → ∃ x0, ∃ x1, ∃ x2, us = [x0, x1, x2]
  | [x0, x1, x2], _ => ⟨x0, x1, x2, rfl⟩
set_option maxHeartbeats 0 in
theorem all_mk {l : PySem.W.OpenLaw} {w : World} {K : PySem.W.Frag} {h : Heap} {mg : Str → Option Value} {fa f1 f2 f3 f4 f5 f6 f7 f8 f9 f10 f11 f12 f13 f14 f15 f16 f17 f18 f19 f20 f21 f22 f23 f24 f25 f26 f27 f28 f29 f30 f31 f32 : Addr} (X : K.In h) (G : h.Ns mainGlobals mg) (hfa : mg "law" = some (.ref fa))
    {od1 an1 od2 an2 od3 an3 od4 an4 od5 an5 od6 an6 od7 an7 od8 an8 od9 an9 od10 an10 od11 an11 od12 an12 od13 an13 od14 an14 od15 an15 od16 an16 od17 an17 od18 an18 od19 an19 od20 an20 od21 an21 od22 an22 od23 an23 od24 an24 od25 an25 od26 an26 od27 an27 od28 an28 od29 an29 od30 an30 od31 an31 od32 an32 : Option Addr} {sl1 sl2 sl3 sl4 sl5 sl6 sl7 sl8 sl9 sl10 sl11 sl12 sl13 sl14 sl15 sl16 sl17 sl18 sl19 sl20 sl21 sl22 sl23 sl24 sl25 sl26 sl27 sl28 sl29 sl30 sl31 sl32 : Array (Option Value)} {oc1 kV1 dc1 pm1 cd1 ct1 oc2 kV2 dc2 pm2 cd2 ct2 oc3 kV3 dc3 pm3 cd3 ct3 oc4 kV4 dc4 pm4 cd4 ct4 oc5 kV5 dc5 pm5 cd5 ct5 oc6 kV6 dc6 pm6 cd6 ct6 oc7 kV7 dc7 pm7 cd7 ct7 oc8 kV8 dc8 pm8 cd8 ct8 oc9 kV9 dc9 pm9 cd9 ct9 oc10 kV10 dc10 pm10 cd10 ct10 oc11 kV11 dc11 pm11 cd11 ct11 oc12 kV12 dc12 pm12 cd12 ct12 oc13 kV13 dc13 pm13 cd13 ct13 oc14 kV14 dc14 pm14 cd14 ct14 oc15 kV15 dc15 pm15 cd15 ct15 oc16 kV16 dc16 pm16 cd16 ct16 oc17 kV17 dc17 pm17 cd17 ct17 oc18 kV18 dc18 pm18 cd18 ct18 oc19 kV19 dc19 pm19 cd19 ct19 oc20 kV20 dc20 pm20 cd20 ct20 oc21 kV21 dc21 pm21 cd21 ct21 oc22 kV22 dc22 pm22 cd22 ct22 oc23 kV23 dc23 pm23 cd23 ct23 oc24 kV24 dc24 pm24 cd24 ct24 oc25 kV25 dc25 pm25 cd25 ct25 oc26 kV26 dc26 pm26 cd26 ct26 oc27 kV27 dc27 pm27 cd27 ct27 oc28 kV28 dc28 pm28 cd28 ct28 oc29 kV29 dc29 pm29 cd29 ct29 oc30 kV30 dc30 pm30 cd30 ct30 oc31 kV31 dc31 pm31 cd31 ct31 oc32 kV32 dc32 pm32 cd32 ct32 : Value}
    {A_AskError : Addr} (ax_AskError : PySem.W.nsIn K mainGlobals "AskError" = some (some (.ref A_AskError)))
    {A_NoAsk : Addr} (ax_NoAsk : PySem.W.nsIn K mainGlobals "NoAsk" = some (some (.ref A_NoAsk)))
    {A_NoBoard : Addr} (ax_NoBoard : PySem.W.nsIn K mainGlobals "NoBoard" = some (some (.ref A_NoBoard)))
    {A_NoCalls : Addr} (ax_NoCalls : PySem.W.nsIn K mainGlobals "NoCalls" = some (some (.ref A_NoCalls)))
    {A_NoDeed : Addr} (ax_NoDeed : PySem.W.nsIn K mainGlobals "NoDeed" = some (some (.ref A_NoDeed)))
    {A_NoNumber : Addr} (ax_NoNumber : PySem.W.nsIn K mainGlobals "NoNumber" = some (some (.ref A_NoNumber)))
    {A_NoOrder : Addr} (ax_NoOrder : PySem.W.nsIn K mainGlobals "NoOrder" = some (some (.ref A_NoOrder)))
    {A_TooMany : Addr} (ax_TooMany : PySem.W.nsIn K mainGlobals "TooMany" = some (some (.ref A_TooMany)))
    (ex_AskError : PySem.W.excIn K A_AskError veM "ValueError.__new__" = true)
    (ex_NoBoard : PySem.W.excIn K A_NoBoard veM "ValueError.__new__" = true)
    (u_NoBoard_AskError : PySem.W.mroIn K A_NoBoard (.ref A_AskError) = some true)
    (kk_NoBoard : ExcK K A_NoBoard)
    (q_NoBoard_NoAsk : PySem.W.kitOne K (.ref A_NoBoard) (.ref A_NoAsk) = some false)
    (q_NoBoard_NoBoard : PySem.W.kitOne K (.ref A_NoBoard) (.ref A_NoBoard) = some true)
    (q_NoBoard_NoCalls : PySem.W.kitOne K (.ref A_NoBoard) (.ref A_NoCalls) = some false)
    (q_NoBoard_NoDeed : PySem.W.kitOne K (.ref A_NoBoard) (.ref A_NoDeed) = some false)
    (q_NoBoard_NoNumber : PySem.W.kitOne K (.ref A_NoBoard) (.ref A_NoNumber) = some false)
    (q_NoBoard_NoOrder : PySem.W.kitOne K (.ref A_NoBoard) (.ref A_NoOrder) = some false)
    (q_NoBoard_TooMany : PySem.W.kitOne K (.ref A_NoBoard) (.ref A_TooMany) = some false)
    (q_NoBoard_ValueError : PySem.W.kitOne K (.ref A_NoBoard) (.type "ValueError") = some true)
    (a1 : PySem.W.nsIn K mainGlobals "_law_paths" = some (some (.ref f1))) (l1 : K.lookup f1 = some ⟨oc1, od1, .func (PySem.W.fnOf "_law_paths" "_law_paths" (defArgs (top 35)) (defBody (top 35)) (defScope (top 35)) .none kV1 dc1 pm1 an1 cd1 ct1), sl1⟩) (c1 : PySem.W.codeIn K cd1 "_law_paths" = true) (k1 : PySem.W.keepIn K (.ref f1) = true)
    (a2 : PySem.W.nsIn K mainGlobals "_law_is_whole" = some (some (.ref f2))) (l2 : K.lookup f2 = some ⟨oc2, od2, .func (PySem.W.fnOf "_law_is_whole" "_law_is_whole" (defArgs (top 39)) (defBody (top 39)) (defScope (top 39)) .none kV2 dc2 pm2 an2 cd2 ct2), sl2⟩) (c2 : PySem.W.codeIn K cd2 "_law_is_whole" = true) (k2 : PySem.W.keepIn K (.ref f2) = true)
    (a3 : PySem.W.nsIn K mainGlobals "_law_with" = some (some (.ref f3))) (l3 : K.lookup f3 = some ⟨oc3, od3, .func (PySem.W.fnOf "_law_with" "_law_with" (defArgs (top 37)) (defBody (top 37)) (defScope (top 37)) .none kV3 dc3 pm3 an3 cd3 ct3), sl3⟩) (c3 : PySem.W.codeIn K cd3 "_law_with" = true) (k3 : PySem.W.keepIn K (.ref f3) = true)
    (a4 : PySem.W.nsIn K mainGlobals "_law_inner" = some (some (.ref f4))) (l4 : K.lookup f4 = some ⟨oc4, od4, .func (PySem.W.fnOf "_law_inner" "_law_inner" (defArgs (top 36)) (defBody (top 36)) (defScope (top 36)) .none kV4 dc4 pm4 an4 cd4 ct4), sl4⟩) (c4 : PySem.W.codeIn K cd4 "_law_inner" = true) (k4 : PySem.W.keepIn K (.ref f4) = true)
    (a5 : PySem.W.nsIn K mainGlobals "_law_truths" = some (some (.ref f5))) (l5 : K.lookup f5 = some ⟨oc5, od5, .func (PySem.W.fnOf "_law_truths" "_law_truths" (defArgs (top 47)) (defBody (top 47)) (defScope (top 47)) .none kV5 dc5 pm5 an5 cd5 ct5), sl5⟩) (c5 : PySem.W.codeIn K cd5 "_law_truths" = true) (k5 : PySem.W.keepIn K (.ref f5) = true)
    (a6 : PySem.W.nsIn K mainGlobals "_law_is_truth" = some (some (.ref f6))) (l6 : K.lookup f6 = some ⟨oc6, od6, .func (PySem.W.fnOf "_law_is_truth" "_law_is_truth" (defArgs (top 45)) (defBody (top 45)) (defScope (top 45)) .none kV6 dc6 pm6 an6 cd6 ct6), sl6⟩) (c6 : PySem.W.codeIn K cd6 "_law_is_truth" = true) (k6 : PySem.W.keepIn K (.ref f6) = true)
    (a7 : PySem.W.nsIn K mainGlobals "by_boxes" = some (some (.ref f7))) (l7 : K.lookup f7 = some ⟨oc7, od7, .func (PySem.W.fnOf "by_boxes" "by_boxes" (defArgs (top 25)) (defBody (top 25)) (defScope (top 25)) .none kV7 dc7 pm7 an7 cd7 ct7), sl7⟩) (c7 : PySem.W.codeIn K cd7 "by_boxes" = true) (k7 : PySem.W.keepIn K (.ref f7) = true)
    (a8 : PySem.W.nsIn K mainGlobals "is_whole" = some (some (.ref f8))) (l8 : K.lookup f8 = some ⟨oc8, od8, .func (PySem.W.fnOf "is_whole" "is_whole" (defArgs (top 10)) (defBody (top 10)) (defScope (top 10)) .none kV8 dc8 pm8 an8 cd8 ct8), sl8⟩) (c8 : PySem.W.codeIn K cd8 "is_whole" = true) (k8 : PySem.W.keepIn K (.ref f8) = true)
    (a9 : PySem.W.nsIn K mainGlobals "is_end" = some (some (.ref f9))) (l9 : K.lookup f9 = some ⟨oc9, od9, .func (PySem.W.fnOf "is_end" "is_end" (defArgs (top 13)) (defBody (top 13)) (defScope (top 13)) .none kV9 dc9 pm9 an9 cd9 ct9), sl9⟩) (c9 : PySem.W.codeIn K cd9 "is_end" = true) (k9 : PySem.W.keepIn K (.ref f9) = true)
    (a10 : PySem.W.nsIn K mainGlobals "is_deed" = some (some (.ref f10))) (l10 : K.lookup f10 = some ⟨oc10, od10, .func (PySem.W.fnOf "is_deed" "is_deed" (defArgs (top 14)) (defBody (top 14)) (defScope (top 14)) .none kV10 dc10 pm10 an10 cd10 ct10), sl10⟩) (c10 : PySem.W.codeIn K cd10 "is_deed" = true) (k10 : PySem.W.keepIn K (.ref f10) = true)
    (a11 : PySem.W.nsIn K mainGlobals "is_within" = some (some (.ref f11))) (l11 : K.lookup f11 = some ⟨oc11, od11, .func (PySem.W.fnOf "is_within" "is_within" (defArgs (top 11)) (defBody (top 11)) (defScope (top 11)) .none kV11 dc11 pm11 an11 cd11 ct11), sl11⟩) (c11 : PySem.W.codeIn K cd11 "is_within" = true) (k11 : PySem.W.keepIn K (.ref f11) = true)
    (a12 : PySem.W.nsIn K mainGlobals "is_ask" = some (some (.ref f12))) (l12 : K.lookup f12 = some ⟨oc12, od12, .func (PySem.W.fnOf "is_ask" "is_ask" (defArgs (top 20)) (defBody (top 20)) (defScope (top 20)) .none kV12 dc12 pm12 an12 cd12 ct12), sl12⟩) (c12 : PySem.W.codeIn K cd12 "is_ask" = true) (k12 : PySem.W.keepIn K (.ref f12) = true)
    (a13 : PySem.W.nsIn K mainGlobals "is_call" = some (some (.ref f13))) (l13 : K.lookup f13 = some ⟨oc13, od13, .func (PySem.W.fnOf "is_call" "is_call" (defArgs (top 24)) (defBody (top 24)) (defScope (top 24)) .none kV13 dc13 pm13 an13 cd13 ct13), sl13⟩) (c13 : PySem.W.codeIn K cd13 "is_call" = true) (k13 : PySem.W.keepIn K (.ref f13) = true)
    (a14 : PySem.W.nsIn K mainGlobals "is_board" = some (some (.ref f14))) (l14 : K.lookup f14 = some ⟨oc14, od14, .func (PySem.W.fnOf "is_board" "is_board" (defArgs (top 18)) (defBody (top 18)) (defScope (top 18)) .none kV14 dc14 pm14 an14 cd14 ct14), sl14⟩) (c14 : PySem.W.codeIn K cd14 "is_board" = true) (k14 : PySem.W.keepIn K (.ref f14) = true)
    (a15 : PySem.W.nsIn K mainGlobals "need_board" = some (some (.ref f15))) (l15 : K.lookup f15 = some ⟨oc15, od15, .func (PySem.W.fnOf "need_board" "need_board" (defArgs (top 19)) (defBody (top 19)) (defScope (top 19)) .none kV15 dc15 pm15 an15 cd15 ct15), sl15⟩) (c15 : PySem.W.codeIn K cd15 "need_board" = true) (k15 : PySem.W.keepIn K (.ref f15) = true)
    (a16 : PySem.W.nsIn K mainGlobals "are_calls" = some (some (.ref f16))) (l16 : K.lookup f16 = some ⟨oc16, od16, .func (PySem.W.fnOf "are_calls" "are_calls" (defArgs (top 26)) (defBody (top 26)) (defScope (top 26)) .none kV16 dc16 pm16 an16 cd16 ct16), sl16⟩) (c16 : PySem.W.codeIn K cd16 "are_calls" = true) (k16 : PySem.W.keepIn K (.ref f16) = true)
    (a17 : PySem.W.nsIn K mainGlobals "_law_word" = some (some (.ref f17))) (l17 : K.lookup f17 = some ⟨oc17, od17, .func (PySem.W.fnOf "_law_word" "_law_word" (defArgs (top 44)) (defBody (top 44)) (defScope (top 44)) .none kV17 dc17 pm17 an17 cd17 ct17), sl17⟩) (c17 : PySem.W.codeIn K cd17 "_law_word" = true) (k17 : PySem.W.keepIn K (.ref f17) = true)
    (a18 : PySem.W.nsIn K mainGlobals "_law_take" = some (some (.ref f18))) (l18 : K.lookup f18 = some ⟨oc18, od18, .func (PySem.W.fnOf "_law_take" "_law_take" (defArgs (top 30)) (defBody (top 30)) (defScope (top 30)) .none kV18 dc18 pm18 an18 cd18 ct18), sl18⟩) (c18 : PySem.W.codeIn K cd18 "_law_take" = true) (k18 : PySem.W.keepIn K (.ref f18) = true)
    (a19 : PySem.W.nsIn K mainGlobals "_law_truths_told" = some (some (.ref f19))) (l19 : K.lookup f19 = some ⟨oc19, od19, .func (PySem.W.fnOf "_law_truths_told" "_law_truths_told" (defArgs (top 48)) (defBody (top 48)) (defScope (top 48)) .none kV19 dc19 pm19 an19 cd19 ct19), sl19⟩) (c19 : PySem.W.codeIn K cd19 "_law_truths_told" = true) (k19 : PySem.W.keepIn K (.ref f19) = true)
    (a20 : PySem.W.nsIn K mainGlobals "_law_at" = some (some (.ref f20))) (l20 : K.lookup f20 = some ⟨oc20, od20, .func (PySem.W.fnOf "_law_at" "_law_at" (defArgs (top 28)) (defBody (top 28)) (defScope (top 28)) .none kV20 dc20 pm20 an20 cd20 ct20), sl20⟩) (c20 : PySem.W.codeIn K cd20 "_law_at" = true) (k20 : PySem.W.keepIn K (.ref f20) = true)
    (a21 : PySem.W.nsIn K mainGlobals "_law_pot" = some (some (.ref f21))) (l21 : K.lookup f21 = some ⟨oc21, od21, .func (PySem.W.fnOf "_law_pot" "_law_pot" (defArgs (top 29)) (defBody (top 29)) (defScope (top 29)) .none kV21 dc21 pm21 an21 cd21 ct21), sl21⟩) (c21 : PySem.W.codeIn K cd21 "_law_pot" = true) (k21 : PySem.W.keepIn K (.ref f21) = true)
    (a22 : PySem.W.nsIn K mainGlobals "_law_no_boards" = some (some (.ref f22))) (l22 : K.lookup f22 = some ⟨oc22, od22, .func (PySem.W.fnOf "_law_no_boards" "_law_no_boards" (defArgs (top 43)) (defBody (top 43)) (defScope (top 43)) .none kV22 dc22 pm22 an22 cd22 ct22), sl22⟩) (c22 : PySem.W.codeIn K cd22 "_law_no_boards" = true) (k22 : PySem.W.keepIn K (.ref f22) = true)
    (a23 : PySem.W.nsIn K mainGlobals "_law_is_deed" = some (some (.ref f23))) (l23 : K.lookup f23 = some ⟨oc23, od23, .func (PySem.W.fnOf "_law_is_deed" "_law_is_deed" (defArgs (top 40)) (defBody (top 40)) (defScope (top 40)) .none kV23 dc23 pm23 an23 cd23 ct23), sl23⟩) (c23 : PySem.W.codeIn K cd23 "_law_is_deed" = true) (k23 : PySem.W.keepIn K (.ref f23) = true)
    (a24 : PySem.W.nsIn K mainGlobals "_law_is_call" = some (some (.ref f24))) (l24 : K.lookup f24 = some ⟨oc24, od24, .func (PySem.W.fnOf "_law_is_call" "_law_is_call" (defArgs (top 41)) (defBody (top 41)) (defScope (top 41)) .none kV24 dc24 pm24 an24 cd24 ct24), sl24⟩) (c24 : PySem.W.codeIn K cd24 "_law_is_call" = true) (k24 : PySem.W.keepIn K (.ref f24) = true)
    (a25 : PySem.W.nsIn K mainGlobals "_law_are_calls" = some (some (.ref f25))) (l25 : K.lookup f25 = some ⟨oc25, od25, .func (PySem.W.fnOf "_law_are_calls" "_law_are_calls" (defArgs (top 42)) (defBody (top 42)) (defScope (top 42)) .none kV25 dc25 pm25 an25 cd25 ct25), sl25⟩) (c25 : PySem.W.codeIn K cd25 "_law_are_calls" = true) (k25 : PySem.W.keepIn K (.ref f25) = true)
    (a26 : PySem.W.nsIn K mainGlobals "_law_others" = some (some (.ref f26))) (l26 : K.lookup f26 = some ⟨oc26, od26, .func (PySem.W.fnOf "_law_others" "_law_others" (defArgs (top 38)) (defBody (top 38)) (defScope (top 38)) .none kV26 dc26 pm26 an26 cd26 ct26), sl26⟩) (c26 : PySem.W.codeIn K cd26 "_law_others" = true) (k26 : PySem.W.keepIn K (.ref f26) = true)
    (a27 : PySem.W.nsIn K mainGlobals "_law_right" = some (some (.ref f27))) (l27 : K.lookup f27 = some ⟨oc27, od27, .func (PySem.W.fnOf "_law_right" "_law_right" (defArgs (top 46)) (defBody (top 46)) (defScope (top 46)) .none kV27 dc27 pm27 an27 cd27 ct27), sl27⟩) (c27 : PySem.W.codeIn K cd27 "_law_right" = true) (k27 : PySem.W.keepIn K (.ref f27) = true)
    (a28 : PySem.W.nsIn K mainGlobals "_law_number" = some (some (.ref f28))) (l28 : K.lookup f28 = some ⟨oc28, od28, .func (PySem.W.fnOf "_law_number" "_law_number" (defArgs (top 31)) (defBody (top 31)) (defScope (top 31)) .none kV28 dc28 pm28 an28 cd28 ct28), sl28⟩) (c28 : PySem.W.codeIn K cd28 "_law_number" = true) (k28 : PySem.W.keepIn K (.ref f28) = true)
    (a29 : PySem.W.nsIn K mainGlobals "_law_deed" = some (some (.ref f29))) (l29 : K.lookup f29 = some ⟨oc29, od29, .func (PySem.W.fnOf "_law_deed" "_law_deed" (defArgs (top 32)) (defBody (top 32)) (defScope (top 32)) .none kV29 dc29 pm29 an29 cd29 ct29), sl29⟩) (c29 : PySem.W.codeIn K cd29 "_law_deed" = true) (k29 : PySem.W.keepIn K (.ref f29) = true)
    (a30 : PySem.W.nsIn K mainGlobals "_law_call" = some (some (.ref f30))) (l30 : K.lookup f30 = some ⟨oc30, od30, .func (PySem.W.fnOf "_law_call" "_law_call" (defArgs (top 33)) (defBody (top 33)) (defScope (top 33)) .none kV30 dc30 pm30 an30 cd30 ct30), sl30⟩) (c30 : PySem.W.codeIn K cd30 "_law_call" = true) (k30 : PySem.W.keepIn K (.ref f30) = true)
    (a31 : PySem.W.nsIn K mainGlobals "_law_some" = some (some (.ref f31))) (l31 : K.lookup f31 = some ⟨oc31, od31, .func (PySem.W.fnOf "_law_some" "_law_some" (defArgs (top 34)) (defBody (top 34)) (defScope (top 34)) .none kV31 dc31 pm31 an31 cd31 ct31), sl31⟩) (c31 : PySem.W.codeIn K cd31 "_law_some" = true) (k31 : PySem.W.keepIn K (.ref f31) = true)
    (a32 : PySem.W.nsIn K mainGlobals "law" = some (some (.ref f32))) (l32 : K.lookup f32 = some ⟨oc32, od32, .func (PySem.W.fnOf "law" "law" (defArgs (top 49)) (defBody (top 49)) (defScope (top 49)) .none kV32 dc32 pm32 an32 cd32 ct32), sl32⟩) (c32 : PySem.W.codeIn K cd32 "law" = true) (k32 : PySem.W.keepIn K (.ref f32) = true)
    {t_LAST_HAND : Tok} (ga_LAST_HAND : PySem.W.nsIn K mainGlobals "LAST_HAND" = some (some (.int 15 t_LAST_HAND)))
    {t_MOST_AT_A_BOX : Tok} (ga_MOST_AT_A_BOX : PySem.W.nsIn K mainGlobals "MOST_AT_A_BOX" = some (some (.int 8 t_MOST_AT_A_BOX)))
    {t_MOST_BOXES : Tok} (ga_MOST_BOXES : PySem.W.nsIn K mainGlobals "MOST_BOXES" = some (some (.int 16 t_MOST_BOXES)))
    {t_MOST_CALLS : Tok} (ga_MOST_CALLS : PySem.W.nsIn K mainGlobals "MOST_CALLS" = some (some (.int 40 t_MOST_CALLS)))
    (ga_ValueError : PySem.W.nsIn K mainGlobals "ValueError" = some none)
    (ga_any : PySem.W.nsIn K mainGlobals "any" = some none)
    (ga_enumerate : PySem.W.nsIn K mainGlobals "enumerate" = some none)
    (ga_zip : PySem.W.nsIn K mainGlobals "zip" = some none)
    (z_abs : PySem.W.nsIn K mainGlobals "abs" = some none)
    (z_len : PySem.W.nsIn K mainGlobals "len" = some none)
    (z_max : PySem.W.nsIn K mainGlobals "max" = some none)
    (z_min : PySem.W.nsIn K mainGlobals "min" = some none)
    (z_divmod : PySem.W.nsIn K mainGlobals "divmod" = some none)
    (z_repr : PySem.W.nsIn K mainGlobals "repr" = some none)
    (z_isinstance : PySem.W.nsIn K mainGlobals "isinstance" = some none)
    (z_all : PySem.W.nsIn K mainGlobals "all" = some none)
    (z_range : PySem.W.nsIn K mainGlobals "range" = some none)
    (z_int : PySem.W.nsIn K mainGlobals "int" = some none)
    (z_bool : PySem.W.nsIn K mainGlobals "bool" = some none)
    (z_str : PySem.W.nsIn K mainGlobals "str" = some none)
    (z_tuple : PySem.W.nsIn K mainGlobals "tuple" = some none)
    (z_list : PySem.W.nsIn K mainGlobals "list" = some none)
    (z_dict : PySem.W.nsIn K mainGlobals "dict" = some none)
    :
    ∃ fd : FuncData, (∀ (s : Shared) (v : Value), BindsTo s fd ⟨[v], []⟩ [("_law_script", v)]) ∧ ∀ base : Heap, K.In base → base.Ns mainGlobals mg → FnOk l.prog w K mg base CX0 9 fa fd ["_law_script"] (sp_law K) := by
  have e := hfa.symm.trans (PySem.W.mg_of X G a32)
  cases e
  have F1 := fun_mk (st := (top 35)) l1 c1 k1
  have F2 := fun_mk (st := (top 39)) l2 c2 k2
  have F3 := fun_mk (st := (top 37)) l3 c3 k3
  have F4 := fun_mk (st := (top 36)) l4 c4 k4
  have F5 := fun_mk (st := (top 47)) l5 c5 k5
  have F6 := fun_mk (st := (top 45)) l6 c6 k6
  have F7 := fun_mk (st := (top 25)) l7 c7 k7
  have F8 := fun_mk (st := (top 10)) l8 c8 k8
  have F9 := fun_mk (st := (top 13)) l9 c9 k9
  have F10 := fun_mk (st := (top 14)) l10 c10 k10
  have F11 := fun_mk (st := (top 11)) l11 c11 k11
  have F12 := fun_mk (st := (top 20)) l12 c12 k12
  have F13 := fun_mk (st := (top 24)) l13 c13 k13
  have F14 := fun_mk (st := (top 18)) l14 c14 k14
  have F15 := fun_mk (st := (top 19)) l15 c15 k15
  have F16 := fun_mk (st := (top 26)) l16 c16 k16
  have F17 := fun_mk (st := (top 44)) l17 c17 k17
  have F18 := fun_mk (st := (top 30)) l18 c18 k18
  have F19 := fun_mk (st := (top 48)) l19 c19 k19
  have F20 := fun_mk (st := (top 28)) l20 c20 k20
  have F21 := fun_mk (st := (top 29)) l21 c21 k21
  have F22 := fun_mk (st := (top 43)) l22 c22 k22
  have F23 := fun_mk (st := (top 40)) l23 c23 k23
  have F24 := fun_mk (st := (top 41)) l24 c24 k24
  have F25 := fun_mk (st := (top 42)) l25 c25 k25
  have F26 := fun_mk (st := (top 38)) l26 c26 k26
  have F27 := fun_mk (st := (top 46)) l27 c27 k27
  have F28 := fun_mk (st := (top 31)) l28 c28 k28
  have F29 := fun_mk (st := (top 32)) l29 c29 k29
  have F30 := fun_mk (st := (top 33)) l30 c30 k30
  have F31 := fun_mk (st := (top 34)) l31 c31 k31
  have F32 := fun_mk (st := (top 49)) l32 c32 k32
  have b1 := F1.binds (ps := ["_law_thing"]) fun _ _ _ _ _ _ us hl => by obtain ⟨_, rfl⟩ := my_len1 hl; rfl
  have b2 := F2.binds (ps := ["_law_thing"]) fun _ _ _ _ _ _ us hl => by obtain ⟨_, rfl⟩ := my_len1 hl; rfl
  have b3 := F3.binds (ps := ["_law_thing", "_law_path", "_law_other"]) fun _ _ _ _ _ _ us hl => by obtain ⟨_, _, _, rfl⟩ := my_len3 hl; rfl
  have b4 := F4.binds (ps := ["_law_thing", "_law_path"]) fun _ _ _ _ _ _ us hl => by obtain ⟨_, _, rfl⟩ := my_len2 hl; rfl
  have b5 := F5.binds (ps := ["_law_thing"]) fun _ _ _ _ _ _ us hl => by obtain ⟨_, rfl⟩ := my_len1 hl; rfl
  have b6 := F6.binds (ps := ["_law_found", "_law_due"]) fun _ _ _ _ _ _ us hl => by obtain ⟨_, _, rfl⟩ := my_len2 hl; rfl
  have b7 := F7.binds (ps := ["board", "calls"]) fun _ _ _ _ _ _ us hl => by obtain ⟨_, _, rfl⟩ := my_len2 hl; rfl
  have b8 := F8.binds (ps := ["thing"]) fun _ _ _ _ _ _ us hl => by obtain ⟨_, rfl⟩ := my_len1 hl; rfl
  have b9 := F9.binds (ps := ["thing"]) fun _ _ _ _ _ _ us hl => by obtain ⟨_, rfl⟩ := my_len1 hl; rfl
  have b10 := F10.binds (ps := ["thing"]) fun _ _ _ _ _ _ us hl => by obtain ⟨_, rfl⟩ := my_len1 hl; rfl
  have b11 := F11.binds (ps := ["thing", "least", "greatest"]) fun _ _ _ _ _ _ us hl => by obtain ⟨_, _, _, rfl⟩ := my_len3 hl; rfl
  have b12 := F12.binds (ps := ["board", "thing"]) fun _ _ _ _ _ _ us hl => by obtain ⟨_, _, rfl⟩ := my_len2 hl; rfl
  have b13 := F13.binds (ps := ["board", "thing"]) fun _ _ _ _ _ _ us hl => by obtain ⟨_, _, rfl⟩ := my_len2 hl; rfl
  have b14 := F14.binds (ps := ["thing"]) fun _ _ _ _ _ _ us hl => by obtain ⟨_, rfl⟩ := my_len1 hl; rfl
  have b15 := F15.binds (ps := ["thing"]) fun _ _ _ _ _ _ us hl => by obtain ⟨_, rfl⟩ := my_len1 hl; rfl
  have b16 := F16.binds (ps := ["board", "thing"]) fun _ _ _ _ _ _ us hl => by obtain ⟨_, _, rfl⟩ := my_len2 hl; rfl
  have b17 := F17.binds (ps := ["_law_board", "_law_thing"]) fun _ _ _ _ _ _ us hl => by obtain ⟨_, _, rfl⟩ := my_len2 hl; rfl
  have b18 := F18.binds (ps := ["_law_pot_here", "_law_many"]) fun _ _ _ _ _ _ us hl => by obtain ⟨_, _, rfl⟩ := my_len2 hl; rfl
  have b19 := F19.binds (ps := ["_law_pot_here"]) fun _ _ _ _ _ _ us hl => by obtain ⟨_, rfl⟩ := my_len1 hl; rfl
  have b20 := F20.binds (ps := ["_law_script", "_law_k"]) fun _ _ _ _ _ _ us hl => by obtain ⟨_, _, rfl⟩ := my_len2 hl; rfl
  have b21 := F21.binds (ps := ["_law_script", "_law_k"]) fun _ _ _ _ _ _ us hl => by obtain ⟨_, _, rfl⟩ := my_len2 hl; rfl
  have b22 := F22.binds (ps := ["_law_board"]) fun _ _ _ _ _ _ us hl => by obtain ⟨_, rfl⟩ := my_len1 hl; rfl
  have b23 := F23.binds (ps := ["_law_thing"]) fun _ _ _ _ _ _ us hl => by obtain ⟨_, rfl⟩ := my_len1 hl; rfl
  have b24 := F24.binds (ps := ["_law_board", "_law_thing"]) fun _ _ _ _ _ _ us hl => by obtain ⟨_, _, rfl⟩ := my_len2 hl; rfl
  have b25 := F25.binds (ps := ["_law_board", "_law_thing"]) fun _ _ _ _ _ _ us hl => by obtain ⟨_, _, rfl⟩ := my_len2 hl; rfl
  have b26 := F26.binds (ps := ["_law_one"]) fun _ _ _ _ _ _ us hl => by obtain ⟨_, rfl⟩ := my_len1 hl; rfl
  have b27 := F27.binds (ps := ["_law_pot_here", "_law_board", "_law_calls"]) fun _ _ _ _ _ _ us hl => by obtain ⟨_, _, _, rfl⟩ := my_len3 hl; rfl
  have b28 := F28.binds (ps := ["_law_pot_here", "_law_wide"]) fun _ _ _ _ _ _ us hl => by obtain ⟨_, _, rfl⟩ := my_len2 hl; rfl
  have b29 := F29.binds (ps := ["_law_pot_here", "_law_wide"]) fun _ _ _ _ _ _ us hl => by obtain ⟨_, _, rfl⟩ := my_len2 hl; rfl
  have b30 := F30.binds (ps := ["_law_pot_here", "_law_box", "_law_wide"]) fun _ _ _ _ _ _ us hl => by obtain ⟨_, _, _, rfl⟩ := my_len3 hl; rfl
  have b31 := F31.binds (ps := ["_law_pot_here"]) fun _ _ _ _ _ _ us hl => by obtain ⟨_, rfl⟩ := my_len1 hl; rfl
  have x_AskError : ExcC K mg "AskError" A_AskError := excC_of (PySem.W.mg_of X G ax_AskError) ex_AskError
  have x_NoBoard : ExcC K mg "NoBoard" A_NoBoard := excC_of (PySem.W.mg_of X G ax_NoBoard) ex_NoBoard
  have v_AskError : mg "AskError" = some (.ref A_AskError) := PySem.W.mg_of X G ax_AskError
  have v_NoAsk : mg "NoAsk" = some (.ref A_NoAsk) := PySem.W.mg_of X G ax_NoAsk
  have v_NoBoard : mg "NoBoard" = some (.ref A_NoBoard) := PySem.W.mg_of X G ax_NoBoard
  have v_NoCalls : mg "NoCalls" = some (.ref A_NoCalls) := PySem.W.mg_of X G ax_NoCalls
  have v_NoDeed : mg "NoDeed" = some (.ref A_NoDeed) := PySem.W.mg_of X G ax_NoDeed
  have v_NoNumber : mg "NoNumber" = some (.ref A_NoNumber) := PySem.W.mg_of X G ax_NoNumber
  have v_NoOrder : mg "NoOrder" = some (.ref A_NoOrder) := PySem.W.mg_of X G ax_NoOrder
  have v_TooMany : mg "TooMany" = some (.ref A_TooMany) := PySem.W.mg_of X G ax_TooMany
  have k_NoBoard := kk_NoBoard
  have B : Blt mg := ⟨PySem.W.mg_none_of X G z_abs, PySem.W.mg_none_of X G z_len, PySem.W.mg_none_of X G z_max, PySem.W.mg_none_of X G z_min, PySem.W.mg_none_of X G z_divmod, PySem.W.mg_none_of X G z_repr, PySem.W.mg_none_of X G z_isinstance, PySem.W.mg_none_of X G z_all, PySem.W.mg_none_of X G z_range, PySem.W.mg_none_of X G z_int, PySem.W.mg_none_of X G z_bool, PySem.W.mg_none_of X G z_str, PySem.W.mg_none_of X G z_tuple, PySem.W.mg_none_of X G z_list, PySem.W.mg_none_of X G z_dict⟩
  refine ⟨PySem.W.fnOf "law" "law" (defArgs (top 49)) (defBody (top 49)) (defScope (top 49)) .none kV32 dc32 pm32 an32 cd32 ct32, fun s v => .of_eq rfl, fun base _ _ => ?_⟩
  have R1 : ∀ N : Nat, FnOk l.prog w K mg base CX0 (0 + N) f1 (PySem.W.fnOf "_law_paths" "_law_paths" (defArgs (top 35)) (defBody (top 35)) (defScope (top 35)) .none kV1 dc1 pm1 an1 cd1 ct1) ["_law_thing"] (sp_paths71 N K) := by
    intro N
    induction N with
    | zero => exact fnok_vac vac_paths71
    | succ N ih => exact ok__law_paths (P := l.prog) (w := w) (base := base) (n := 0 + N) F1 B ⟨_, _, ih, b1, k1, PySem.W.mg_of X G a1⟩ (PySem.W.mg_none_of X G ga_enumerate) 
  have C1 : Callee l.prog w K mg base 6 "_law_paths" ["_law_thing"] (sp_paths71 6 K) := ⟨_, _, R1 6, b1, k1, PySem.W.mg_of X G a1⟩
  have C2 : Callee l.prog w K mg base 1 "_law_is_whole" ["_law_thing"] (sp_is_wholeO K) := ⟨_, _, ok__law_is_whole (P := l.prog) (w := w) (base := base) (n := 0) F2 B      , b2, k2, PySem.W.mg_of X G a2⟩
  have R3 : ∀ N : Nat, FnOk l.prog w K mg base CX0 (0 + N) f3 (PySem.W.fnOf "_law_with" "_law_with" (defArgs (top 37)) (defBody (top 37)) (defScope (top 37)) .none kV3 dc3 pm3 an3 cd3 ct3) ["_law_thing", "_law_path", "_law_other"] (sp_with71 N K) := by
    intro N
    induction N with
    | zero => exact fnok_vac vac_with71
    | succ N ih => exact ok__law_with (P := l.prog) (w := w) (base := base) (n := 0 + N) F3 B ⟨_, _, ih, b3, k3, PySem.W.mg_of X G a3⟩  
  have C3 : Callee l.prog w K mg base 6 "_law_with" ["_law_thing", "_law_path", "_law_other"] (sp_with71 6 K) := ⟨_, _, R3 6, b3, k3, PySem.W.mg_of X G a3⟩
  have C4 : Callee l.prog w K mg base 1 "_law_inner" ["_law_thing", "_law_path"] (sp_inner71 K) := ⟨_, _, ok__law_inner (P := l.prog) (w := w) (base := base) (n := 0) F4 B      , b4, k4, PySem.W.mg_of X G a4⟩
  have C5 : Callee l.prog w K mg base 7 "_law_truths" ["_law_thing"] (sp_truths71 K) := ⟨_, _, ok__law_truths (P := l.prog) (w := w) (base := base) (n := 6) F5 B   (C1.mono (by decide)) (C2.mono (by decide)) (C3.mono (by decide)) (C4.mono (by decide))   , b5, k5, PySem.W.mg_of X G a5⟩
  have C6 : Callee l.prog w K mg base 1 "_law_is_truth" ["_law_found", "_law_due"] (sp_truth72 K) := ⟨_, _, ok__law_is_truth (P := l.prog) (w := w) (base := base) (n := 0) F6 B      , b6, k6, PySem.W.mg_of X G a6⟩
  have C7 : Callee l.prog w K mg base 1 "by_boxes" ["board", "calls"] (sp_byb71 K) := ⟨_, _, ok_by_boxes (P := l.prog) (w := w) (base := base) (n := 0) F7 B    (PySem.W.mg_none_of X G ga_enumerate)  , b7, k7, PySem.W.mg_of X G a7⟩
  have C8 : Callee l.prog w K mg base 1 "is_whole" ["thing"] (sp_is_wholeO K) := ⟨_, _, ok_is_whole (P := l.prog) (w := w) (base := base) (n := 0) F8 B      , b8, k8, PySem.W.mg_of X G a8⟩
  have C9 : Callee l.prog w K mg base 2 "is_end" ["thing"] (sp_is_endO K) := ⟨_, _, ok_is_end (P := l.prog) (w := w) (base := base) (n := 1) F9 B   (C8.mono (by decide))   , b9, k9, PySem.W.mg_of X G a9⟩
  have C10 : Callee l.prog w K mg base 3 "is_deed" ["thing"] (sp_is_deedO K) := ⟨_, _, ok_is_deed (P := l.prog) (w := w) (base := base) (n := 2) F10 B   (C9.mono (by decide)) (C8.mono (by decide))   , b10, k10, PySem.W.mg_of X G a10⟩
  have C11 : Callee l.prog w K mg base 2 "is_within" ["thing", "least", "greatest"] (sp_withinO K) := ⟨_, _, ok_is_within (P := l.prog) (w := w) (base := base) (n := 1) F11 B   (C8.mono (by decide))   , b11, k11, PySem.W.mg_of X G a11⟩
  have C12 : Callee l.prog w K mg base 4 "is_ask" ["board", "thing"] (sp_is_askO K) := ⟨_, _, ok_is_ask (P := l.prog) (w := w) (base := base) (n := 3) F12 B   (C10.mono (by decide)) (C11.mono (by decide))  (PySem.W.mg_of X G ga_LAST_HAND) , b12, k12, PySem.W.mg_of X G a12⟩
  have C13 : Callee l.prog w K mg base 5 "is_call" ["board", "thing"] (sp_is_callO K) := ⟨_, _, ok_is_call (P := l.prog) (w := w) (base := base) (n := 4) F13 B   (C8.mono (by decide)) (C12.mono (by decide))   , b13, k13, PySem.W.mg_of X G a13⟩
  have C14 : Callee l.prog w K mg base 2 "is_board" ["thing"] (sp_is_boardO K) := ⟨_, _, ok_is_board (P := l.prog) (w := w) (base := base) (n := 1) F14 B   (C8.mono (by decide))  (PySem.W.mg_of X G ga_MOST_BOXES) , b14, k14, PySem.W.mg_of X G a14⟩
  have C15 : CalleeX l.prog w K mg base 3 "need_board" ["thing"] (sp_need_boardX A_NoBoard K) := ⟨_, _, ok_need_board (P := l.prog) (w := w) (base := base) (n := 2) F15 B x_NoBoard  (C14.mono (by decide))   , b15, k15, PySem.W.mg_of X G a15⟩
  have C16 : CalleeX l.prog w K mg base 6 "are_calls" ["board", "thing"] (sp_areX A_NoBoard K) := ⟨_, _, ok_are_calls (P := l.prog) (w := w) (base := base) (n := 5) F16 B x_NoBoard  (C7.mono (by decide)) (C13.mono (by decide)) (C15.mono (by decide))  (PySem.W.mg_of X G ga_MOST_AT_A_BOX) (PySem.W.mg_of X G ga_MOST_CALLS) , b16, k16, PySem.W.mg_of X G a16⟩
  have C17 : Callee l.prog w K mg base 7 "_law_word" ["_law_board", "_law_thing"] (sp_word71 K) := ⟨_, _, ok__law_word (P := l.prog) (w := w) (base := base) (n := 6) F17 B x_AskError x_NoBoard v_NoBoard v_NoOrder v_NoCalls v_TooMany v_NoAsk v_NoDeed v_NoNumber u_NoBoard_AskError k_NoBoard q_NoBoard_NoNumber q_NoBoard_NoDeed q_NoBoard_NoAsk q_NoBoard_TooMany q_NoBoard_NoCalls q_NoBoard_NoOrder q_NoBoard_ValueError q_NoBoard_NoBoard (C16.mono (by decide)) (PySem.W.mg_none_of X G ga_any) (PySem.W.mg_none_of X G ga_ValueError)  , b17, k17, PySem.W.mg_of X G a17⟩
  have C18 : Callee l.prog w K mg base 1 "_law_take" ["_law_pot_here", "_law_many"] (sp_take K) := ⟨_, _, ok__law_take (P := l.prog) (w := w) (base := base) (n := 0) F18 B      , b18, k18, PySem.W.mg_of X G a18⟩
  have C19 : Callee l.prog w K mg base 8 "_law_truths_told" ["_law_pot_here"] (sp_ttold71 K) := ⟨_, _, ok__law_truths_told (P := l.prog) (w := w) (base := base) (n := 7) F19 B   (C5.mono (by decide)) (C6.mono (by decide)) (C17.mono (by decide)) (C18.mono (by decide)) (PySem.W.mg_none_of X G ga_zip)  , b19, k19, PySem.W.mg_of X G a19⟩
  have C20 : Callee l.prog w K mg base 1 "_law_at" ["_law_script", "_law_k"] (sp_at72 K) := ⟨_, _, ok__law_at (P := l.prog) (w := w) (base := base) (n := 0) F20 B      , b20, k20, PySem.W.mg_of X G a20⟩
  have C21 : Callee l.prog w K mg base 2 "_law_pot" ["_law_script", "_law_k"] (sp_pot K) := ⟨_, _, ok__law_pot (P := l.prog) (w := w) (base := base) (n := 1) F21 B   (C20.mono (by decide))   , b21, k21, PySem.W.mg_of X G a21⟩
  have C22 : Callee l.prog w K mg base 1 "_law_no_boards" ["_law_board"] (sp_nob71 K) := ⟨_, _, ok__law_no_boards (P := l.prog) (w := w) (base := base) (n := 0) F22 B      , b22, k22, PySem.W.mg_of X G a22⟩
  have C23 : Callee l.prog w K mg base 2 "_law_is_deed" ["_law_thing"] (sp_lis_deed71 K) := ⟨_, _, ok__law_is_deed (P := l.prog) (w := w) (base := base) (n := 1) F23 B   (C2.mono (by decide))   , b23, k23, PySem.W.mg_of X G a23⟩
  have C24 : Callee l.prog w K mg base 3 "_law_is_call" ["_law_board", "_law_thing"] (sp_is_callO K) := ⟨_, _, ok__law_is_call (P := l.prog) (w := w) (base := base) (n := 2) F24 B   (C2.mono (by decide)) (C23.mono (by decide))   , b24, k24, PySem.W.mg_of X G a24⟩
  have C25 : Callee l.prog w K mg base 4 "_law_are_calls" ["_law_board", "_law_thing"] (sp_lare71 K) := ⟨_, _, ok__law_are_calls (P := l.prog) (w := w) (base := base) (n := 3) F25 B   (C24.mono (by decide))   , b25, k25, PySem.W.mg_of X G a25⟩
  have C26 : Callee l.prog w K mg base 1 "_law_others" ["_law_one"] (sp_others71 K) := ⟨_, _, ok__law_others (P := l.prog) (w := w) (base := base) (n := 0) F26 B      , b26, k26, PySem.W.mg_of X G a26⟩
  have C27 : Callee l.prog w K mg base 8 "_law_right" ["_law_pot_here", "_law_board", "_law_calls"] (sp_right71 K) := ⟨_, _, ok__law_right (P := l.prog) (w := w) (base := base) (n := 7) F27 B   (C17.mono (by decide)) (C18.mono (by decide)) (C22.mono (by decide)) (C6.mono (by decide)) (C25.mono (by decide)) (C3.mono (by decide)) (C26.mono (by decide)) (C4.mono (by decide)) (C1.mono (by decide))   , b27, k27, PySem.W.mg_of X G a27⟩
  have C28 : Callee l.prog w K mg base 2 "_law_number" ["_law_pot_here", "_law_wide"] (sp_num72 K) := ⟨_, _, ok__law_number (P := l.prog) (w := w) (base := base) (n := 1) F28 B   (C18.mono (by decide))   , b28, k28, PySem.W.mg_of X G a28⟩
  have C29 : Callee l.prog w K mg base 3 "_law_deed" ["_law_pot_here", "_law_wide"] (sp_deed72 K) := ⟨_, _, ok__law_deed (P := l.prog) (w := w) (base := base) (n := 2) F29 B   (C18.mono (by decide)) (C28.mono (by decide))   , b29, k29, PySem.W.mg_of X G a29⟩
  have C30 : Callee l.prog w K mg base 4 "_law_call" ["_law_pot_here", "_law_box", "_law_wide"] (sp_call71 K) := ⟨_, _, ok__law_call (P := l.prog) (w := w) (base := base) (n := 3) F30 B   (C29.mono (by decide)) (C18.mono (by decide)) (C28.mono (by decide))   , b30, k30, PySem.W.mg_of X G a30⟩
  have C31 : Callee l.prog w K mg base 5 "_law_some" ["_law_pot_here"] (sp_some71 K) := ⟨_, _, ok__law_some (P := l.prog) (w := w) (base := base) (n := 4) F31 B   (C30.mono (by decide)) (C18.mono (by decide)) (C28.mono (by decide))   , b31, k31, PySem.W.mg_of X G a31⟩
  exact ok_law (P := l.prog) (w := w) (base := base) (n := 8) F32 B x_NoBoard  (C19.mono (by decide)) (C21.mono (by decide)) (C16.mono (by decide)) (C27.mono (by decide)) (C6.mono (by decide)) (C25.mono (by decide)) (C31.mono (by decide))   
theorem walk {l : PySem.W.OpenLaw} {q : Program} {loose : List Str} {XP : (Str → Option Value) → Heap → Prop} {YP : World → Heap → Prop} {d : DefRec} {K : Params → PySem.W.Frag} (hn : l.most = some 63) (hdf : d.params.defaults = [])
    (hY : ∀ (w : World) (h : Heap), YP w h → (K w.params).In h)
    (F : ∀ (w : World) (mg : Str → Option Value) (fa : Addr) (h : Heap), (K w.params).In h → h.Ns mainGlobals mg → mg d.name = some (.ref fa) →
      ∃ fd : FuncData, (∀ (s : Shared) (u : Value), BindsTo s fd ⟨[u], []⟩ [("_law_script", u)]) ∧ ∀ base : Heap, (K w.params).In base → base.Ns mainGlobals mg → FnOk l.prog w (K w.params) mg base CX0 9 fa fd ["_law_script"] (sp_law (K w.params))) :
    PySem.W.WalkO q loose XP YP l.row.toRowW d [] (fun f vs => PySem.call f vs) :=
  L2.walk_of (n := 63) (k := 9) (x := "_law_script") (CX := fun _ => CX0) (sp := fun w => sp_law (K w.params)) hn (by decide) hdf ⟨rfl, by decide, by decide, rfl⟩ hY F (fun _ _ a ns hl hO hS => ⟨_, rfl, a, ns, rfl, Scr.of hO hS, hl, fun _ => rfl⟩) fun _ _ _ _ _ z => z
theorem walkX {q : Program} {loose : List Str} {XP : (Str → Option Value) → Heap → Prop} {K : Params → PySem.W.Frag} {as : List Addr} {n t : Nat} {r : PySem.W.RowW} {d : DefRec} {kwd : List (Str × Expr)} {run : Value → List Value → Sem Value}
    (e : ∀ P, as = (K P).map (·.1)) (W : PySem.W.WalkO q loose XP (PySem.W.InK K) r d kwd run) : PySem.W.WalkX q loose XP (PySem.W.X.obsZ as) (PySem.W.X.valZ K n t) r d kwd run :=
  fun w s₀ s₁ mg mb G Y a o pm cd doc dV kV h2 h3 h4 h5 h6 h7 args vals as' L hpre hlay hrd hwl hlo =>
    W w s₀ s₁ mg mb G (PySem.W.InK.keeps w s₀.heap s₁.heap (PySem.W.X.z_facts e Y).2.1 L.keeps) a o pm cd doc dV kV h2 h3 h4 h5 h6 h7 args vals as' hpre hlay hrd hwl hlo
end My
open PySem PySem.W PyProof.Rows
def PySem.W.Fast.tw17926286974545349752 : Unit := ()
def PySem.W.Fast.tw11899308584519582244 : Unit := ()
def PySem.W.Fast.tw2065131144598884927 : Unit := ()
def PySem.W.Fast.tw555459270579139006 : Unit := ()
def PySem.W.Fast.tw7436532979925548886 : Unit := ()
def PySem.W.Fast.tw9521037466978418426 : Unit := ()
def PySem.W.Fast.tw15939439522493668100 : Unit := ()
def PySem.W.Fast.tw15425747435128259561 : Unit := ()
def PySem.W.Fast.tw1316378239325781135 : Unit := ()
def PySem.W.Fast.tw6018458011185257366 : Unit := ()
def PySem.W.Fast.tw11030130266423699316 : Unit := ()
def PySem.W.Fast.tw9623344803132780892 : Unit := ()
def PySem.W.Fast.tw3422448045759327029 : Unit := ()
def PySem.W.Fast.tw15050898933380870927 : Unit := ()
def PySem.W.Fast.tw2302081967450870514 : Unit := ()
def PySem.W.Fast.tw6835164052576877496 : Unit := ()
def PySem.W.Fast.tw9232912805895421198 : Unit := ()
def PySem.W.Fast.tw3288581021406995925 : Unit := ()
def PySem.W.Fast.tw3089270630586226181 : Unit := ()
def PySem.W.Fast.tw17401854013553518067 : Unit := ()
def PySem.W.Fast.tw2637062203879870858 : Unit := ()
def PySem.W.Fast.tw8896868847638113698 : Unit := ()
def PySem.W.Fast.tw6252342173001928745 : Unit := ()
def PySem.W.Fast.tw5548331191483297372 : Unit := ()
def PySem.W.Fast.tw2298691255981642042 : Unit := ()
def PySem.W.Fast.tw2308935587317983079 : Unit := ()
def PySem.W.Fast.tw11910537336881652282 : Unit := ()
def PySem.W.Fast.tw4338422479655985505 : Unit := ()
def PySem.W.Fast.tw13236183225604769912 : Unit := ()
def PySem.W.Fast.tw6890984108922981668 : Unit := ()
def PySem.W.Fast.tw11037344205086742318 : Unit := ()
def PySem.W.Fast.tw10710911998467815483 : Unit := ()
def PySem.W.Fast.tw8407897992119322665 : Unit := ()
def PySem.W.Fast.tw4457310015819836827 : Unit := ()
def PySem.W.Fast.tw10112869393336778751 : Unit := ()
def PySem.W.Fast.tw17032427112541410210 : Unit := ()
def PySem.W.Fast.tw1625729368612859921 : Unit := ()
def PySem.W.Fast.tw14215808652417474921 : Unit := ()
def PySem.W.Fast.tw9257944064936127321 : Unit := ()
def PySem.W.Fast.tw3464313398485145545 : Unit := ()
def PySem.W.Fast.tw9572066579739768802 : Unit := ()
def PySem.W.Fast.tw2304416699391836915 : Unit := ()
def PySem.W.Fast.tw1961414617315370623 : Unit := ()
def PySem.W.Fast.tw2101189278415371361 : Unit := ()
def PySem.W.Fast.tw1738335427123654883 : Unit := ()
def PySem.W.Fast.tw1297856354061953139 : Unit := ()
def PySem.W.Fast.tw14458357906639326575 : Unit := ()
def PySem.W.Fast.tw6019643477248647326 : Unit := ()
def PySem.W.Fast.tw7648018728710482329 : Unit := ()
def PySem.W.Fast.tw9674688380268907946 : Unit := ()
def PySem.W.Fast.tw13192685814270397566 : Unit := ()
def PySem.W.Fast.tw11222244242867274518 : Unit := ()
def PySem.W.Fast.tw14255366327976875686 : Unit := ()
def PySem.W.Fast.tw13807070321644351439 : Unit := ()
def PySem.W.Fast.tw6150171182108196735 : Unit := ()
def PySem.W.Fast.tw9962740834220189748 : Unit := ()
def PySem.W.Fast.tw1434801445027610505 : Unit := ()
def PySem.W.Fast.tw16174540626383673489 : Unit := ()
def PySem.W.Fast.tw13635015226356242179 : Unit := ()
def PySem.W.Fast.tw13198153940337576758 : Unit := ()
def PySem.W.Fast.tw5407727833308347423 : Unit := ()
def PySem.W.Fast.tw810299603426865679 : Unit := ()
def PySem.W.Fast.tw8729614624638783036 : Unit := ()
def PySem.W.Fast.tw9214518921959752841 : Unit := ()
def PySem.W.Fast.tw8650359082332106554 : Unit := ()
def PySem.W.Fast.tw12878596528584260677 : Unit := ()
def PySem.W.Fast.tw16004127690556218697 : Unit := ()
def PySem.W.Fast.tw1969983351504184654 : Unit := ()
def PySem.W.Fast.tw14033975812826394800 : Unit := ()
def PySem.W.Fast.tw10563058808388535442 : Unit := ()
def PySem.W.Fast.tw11658102913875722789 : Unit := ()
def PySem.W.Fast.tw11008605824830866297 : Unit := ()
def PySem.W.Fast.tw7710111306390648776 : Unit := ()
def PySem.W.Fast.tw3291290080354259849 : Unit := ()
def PySem.W.Fast.tw15227628950184846141 : Unit := ()
def PySem.W.Fast.tw9519143719836535472 : Unit := ()
def PySem.W.Fast.tw2157801026482344170 : Unit := ()
def PySem.W.Fast.tw8347026386214671154 : Unit := ()
def PySem.W.Fast.tw13905842054737953089 : Unit := ()
def PySem.W.Fast.tw13643992556301376897 : Unit := ()
def PySem.W.Fast.tw15288275692003853329 : Unit := ()
def PySem.W.Fast.tw16204924154933879373 : Unit := ()
def PySem.W.Fast.tw10646185274628390448 : Unit := ()
def PySem.W.Fast.tw17903627098489383467 : Unit := ()
def PySem.W.Fast.tw9817598690833638317 : Unit := ()
def PySem.W.Fast.tw2576910183198256863 : Unit := ()
def PySem.W.Fast.tw5084401270164776020 : Unit := ()
def PySem.W.Fast.tw17479350022082044868 : Unit := ()
def PySem.W.Fast.tw9354176109666085904 : Unit := ()
def PySem.W.Fast.tw13668549270634613902 : Unit := ()
def PySem.W.Fast.tw16019660098195247158 : Unit := ()
def PySem.W.Fast.tw7090966875190036014 : Unit := ()
def PySem.W.Fast.tw931181059485827511 : Unit := ()
def PySem.W.Fast.tw5347575418363476603 : Unit := ()
def PySem.W.Fast.tw5183262047264635647 : Unit := ()
def PySem.W.Fast.tw41397187305429178 : Unit := ()
def PySem.W.Fast.tw18004136489337369785 : Unit := ()
def PySem.W.Fast.tw321318550129238901 : Unit := ()
def PySem.W.Fast.tw17711537350798433848 : Unit := ()
def PySem.W.Fast.tw48508530284315489 : Unit := ()
def PySem.W.Fast.tw1125492144992808778 : Unit := ()
def PySem.W.Fast.tw11926409540557613320 : Unit := ()
def PySem.W.Fast.tw12362324713819297944 : Unit := ()
def PySem.W.Fast.tw7163737404168662864 : Unit := ()
def PySem.W.Fast.tw6521937429706766404 : Unit := ()
def PySem.W.Fast.tw12591149731722906615 : Unit := ()
def PySem.W.Fast.tw18095438437139268555 : Unit := ()
def PySem.W.Fast.tw7972128410027581349 : Unit := ()
def PySem.W.Fast.tw11624000525603303658 : Unit := ()
def PySem.W.Fast.tw3095246290011177662 : Unit := ()
def PySem.W.Fast.tw9678273896882850409 : Unit := ()
def PySem.W.Fast.tw14593873759842498120 : Unit := ()
def PySem.W.Fast.tw18151915327000952228 : Unit := ()
def PySem.W.Fast.tw8183391563598025600 : Unit := ()
def PySem.W.Fast.tw1358188596803087265 : Unit := ()
def PySem.W.Fast.tw14451605790936724362 : Unit := ()
def PySem.W.Fast.tw14213444793861004775 : Unit := ()
def PySem.W.Fast.tw13658554322413406986 : Unit := ()
def PySem.W.Fast.tw3632779785042279907 : Unit := ()
def PySem.W.Fast.tw17622026969704095697 : Unit := ()
def PySem.W.Fast.tw11404860977918377845 : Unit := ()
def PySem.W.Fast.tw2976096541582555486 : Unit := ()
def PySem.W.Fast.tw737024325809055779 : Unit := ()
def PySem.W.Fast.tw825582344520472410 : Unit := ()
def PySem.W.Fast.tw12533565856177587071 : Unit := ()
def PySem.W.Fast.tw5354937552007807375 : Unit := ()
def PySem.W.Fast.tw1894283576754014628 : Unit := ()
def PySem.W.Fast.tw4019105399496192973 : Unit := ()
def PySem.W.Fast.tw1433437259353946793 : Unit := ()
def PySem.W.Fast.tw3403575367116492832 : Unit := ()
def PySem.W.Fast.tw5455449851868187579 : Unit := ()
def PySem.W.Fast.tw8531303801174942325 : Unit := ()
def PySem.W.Fast.tw11655962228240837213 : Unit := ()
def PySem.W.Fast.tw742950939483378611 : Unit := ()
def PySem.W.Fast.tw5687801703320872172 : Unit := ()
def PySem.W.Fast.tw14339263604488860564 : Unit := ()
def PySem.W.Fast.tw14867245679134112368 : Unit := ()
def PySem.W.Fast.tw16607922242024470907 : Unit := ()
def PySem.W.Fast.tw8405050287126083560 : Unit := ()
def PySem.W.Fast.tw5139628117086201497 : Unit := ()
def PySem.W.Fast.tw12438553754038299005 : Unit := ()
def PySem.W.Fast.tw14865487220201593759 : Unit := ()
def PySem.W.Fast.tw2918615345445444924 : Unit := ()
def PySem.W.Fast.tw8371701243093293615 : Unit := ()
def PySem.W.Fast.tw465024850633472760 : Unit := ()
def PySem.W.Fast.tw1355554161946420605 : Unit := ()
def PySem.W.Fast.tw5195193189104720696 : Unit := ()
def PySem.W.Fast.tw3295737175517763034 : Unit := ()
def PySem.W.Fast.tw18296524253277641214 : Unit := ()
def PySem.W.Fast.tw12751144645324105973 : Unit := ()
def PySem.W.Fast.tw11955218630394336715 : Unit := ()
def PySem.W.Fast.tw14263504040733884497 : Unit := ()
def PySem.W.Fast.tw16879040321575249498 : Unit := ()
set_option maxRecDepth 100000 in
set_option maxHeartbeats 0 in
theorem PySem.Challenge.cw_joinedasks_k71_calls_known_holds : PySem.Challenge.rw_joinedasks_k71_calls_known.Holds := by
  w_on; o_law; z_head; (case hw => w_witness2)
  refine My.walkX (fun _ => by kernel_rfl) (My.walk (l := PySem.Challenge.rw_joinedasks_k71_calls_known) rfl rfl (fun w h Y => Y) ?F)
  case F =>
    intro w mg fa h KX G hmg
    refine' My.all_mk KX G hmg  ?ax_AskError ?ax_NoAsk ?ax_NoBoard ?ax_NoCalls ?ax_NoDeed ?ax_NoNumber ?ax_NoOrder ?ax_TooMany ?ex_AskError ?ex_NoBoard ?u_NoBoard_AskError ?kk_NoBoard ?q_NoBoard_NoAsk ?q_NoBoard_NoBoard ?q_NoBoard_NoCalls ?q_NoBoard_NoDeed ?q_NoBoard_NoNumber ?q_NoBoard_NoOrder ?q_NoBoard_TooMany ?q_NoBoard_ValueError ?a1 ?l1 ?c1 ?k1 ?a2 ?l2 ?c2 ?k2 ?a3 ?l3 ?c3 ?k3 ?a4 ?l4 ?c4 ?k4 ?a5 ?l5 ?c5 ?k5 ?a6 ?l6 ?c6 ?k6 ?a7 ?l7 ?c7 ?k7 ?a8 ?l8 ?c8 ?k8 ?a9 ?l9 ?c9 ?k9 ?a10 ?l10 ?c10 ?k10 ?a11 ?l11 ?c11 ?k11 ?a12 ?l12 ?c12 ?k12 ?a13 ?l13 ?c13 ?k13 ?a14 ?l14 ?c14 ?k14 ?a15 ?l15 ?c15 ?k15 ?a16 ?l16 ?c16 ?k16 ?a17 ?l17 ?c17 ?k17 ?a18 ?l18 ?c18 ?k18 ?a19 ?l19 ?c19 ?k19 ?a20 ?l20 ?c20 ?k20 ?a21 ?l21 ?c21 ?k21 ?a22 ?l22 ?c22 ?k22 ?a23 ?l23 ?c23 ?k23 ?a24 ?l24 ?c24 ?k24 ?a25 ?l25 ?c25 ?k25 ?a26 ?l26 ?c26 ?k26 ?a27 ?l27 ?c27 ?k27 ?a28 ?l28 ?c28 ?k28 ?a29 ?l29 ?c29 ?k29 ?a30 ?l30 ?c30 ?k30 ?a31 ?l31 ?c31 ?k31 ?a32 ?l32 ?c32 ?k32 ?ga_LAST_HAND ?ga_MOST_AT_A_BOX ?ga_MOST_BOXES ?ga_MOST_CALLS ?ga_ValueError ?ga_any ?ga_enumerate ?ga_zip ?z_abs ?z_len ?z_max ?z_min ?z_divmod ?z_repr ?z_isinstance ?z_all ?z_range ?z_int ?z_bool ?z_str ?z_tuple ?z_list ?z_dict
    (case ax_AskError => k_is)
    (case ax_NoAsk => k_is)
    (case ax_NoBoard => k_is)
    (case ax_NoCalls => k_is)
    (case ax_NoDeed => k_is)
    (case ax_NoNumber => k_is)
    (case ax_NoOrder => k_is)
    (case ax_TooMany => k_is)
    (case ex_AskError => kernel_rfl)
    (case ex_NoBoard => kernel_rfl)
    (case u_NoBoard_AskError => kernel_rfl)
    (case kk_NoBoard => exact ⟨by kernel_rfl, by kernel_rfl, by kernel_rfl, by kernel_rfl, by kernel_rfl⟩)
    (case q_NoBoard_NoAsk => kernel_rfl)
    (case q_NoBoard_NoBoard => kernel_rfl)
    (case q_NoBoard_NoCalls => kernel_rfl)
    (case q_NoBoard_NoDeed => kernel_rfl)
    (case q_NoBoard_NoNumber => kernel_rfl)
    (case q_NoBoard_NoOrder => kernel_rfl)
    (case q_NoBoard_TooMany => kernel_rfl)
    (case q_NoBoard_ValueError => kernel_rfl)
    (case a1 => k_is); (case l1 => k_is); (case c1 => k_is); (case k1 => k_is)
    (case a2 => k_is); (case l2 => k_is); (case c2 => k_is); (case k2 => k_is)
    (case a3 => k_is); (case l3 => k_is); (case c3 => k_is); (case k3 => k_is)
    (case a4 => k_is); (case l4 => k_is); (case c4 => k_is); (case k4 => k_is)
    (case a5 => k_is); (case l5 => k_is); (case c5 => k_is); (case k5 => k_is)
    (case a6 => k_is); (case l6 => k_is); (case c6 => k_is); (case k6 => k_is)
    (case a7 => k_is); (case l7 => k_is); (case c7 => k_is); (case k7 => k_is)
    (case a8 => k_is); (case l8 => k_is); (case c8 => k_is); (case k8 => k_is)
    (case a9 => k_is); (case l9 => k_is); (case c9 => k_is); (case k9 => k_is)
    (case a10 => k_is); (case l10 => k_is); (case c10 => k_is); (case k10 => k_is)
    (case a11 => k_is); (case l11 => k_is); (case c11 => k_is); (case k11 => k_is)
    (case a12 => k_is); (case l12 => k_is); (case c12 => k_is); (case k12 => k_is)
    (case a13 => k_is); (case l13 => k_is); (case c13 => k_is); (case k13 => k_is)
    (case a14 => k_is); (case l14 => k_is); (case c14 => k_is); (case k14 => k_is)
    (case a15 => k_is); (case l15 => k_is); (case c15 => k_is); (case k15 => k_is)
    (case a16 => k_is); (case l16 => k_is); (case c16 => k_is); (case k16 => k_is)
    (case a17 => k_is); (case l17 => k_is); (case c17 => k_is); (case k17 => k_is)
    (case a18 => k_is); (case l18 => k_is); (case c18 => k_is); (case k18 => k_is)
    (case a19 => k_is); (case l19 => k_is); (case c19 => k_is); (case k19 => k_is)
    (case a20 => k_is); (case l20 => k_is); (case c20 => k_is); (case k20 => k_is)
    (case a21 => k_is); (case l21 => k_is); (case c21 => k_is); (case k21 => k_is)
    (case a22 => k_is); (case l22 => k_is); (case c22 => k_is); (case k22 => k_is)
    (case a23 => k_is); (case l23 => k_is); (case c23 => k_is); (case k23 => k_is)
    (case a24 => k_is); (case l24 => k_is); (case c24 => k_is); (case k24 => k_is)
    (case a25 => k_is); (case l25 => k_is); (case c25 => k_is); (case k25 => k_is)
    (case a26 => k_is); (case l26 => k_is); (case c26 => k_is); (case k26 => k_is)
    (case a27 => k_is); (case l27 => k_is); (case c27 => k_is); (case k27 => k_is)
    (case a28 => k_is); (case l28 => k_is); (case c28 => k_is); (case k28 => k_is)
    (case a29 => k_is); (case l29 => k_is); (case c29 => k_is); (case k29 => k_is)
    (case a30 => k_is); (case l30 => k_is); (case c30 => k_is); (case k30 => k_is)
    (case a31 => k_is); (case l31 => k_is); (case c31 => k_is); (case k31 => k_is)
    (case a32 => k_is); (case l32 => k_is); (case c32 => k_is); (case k32 => k_is)
    (case ga_LAST_HAND => k_is)
    (case ga_MOST_AT_A_BOX => k_is)
    (case ga_MOST_BOXES => k_is)
    (case ga_MOST_CALLS => k_is)
    (case ga_ValueError => k_is)
    (case ga_any => k_is)
    (case ga_enumerate => k_is)
    (case ga_zip => k_is)
    (case z_abs => k_is); (case z_len => k_is); (case z_max => k_is); (case z_min => k_is); (case z_divmod => k_is); (case z_repr => k_is); (case z_isinstance => k_is); (case z_all => k_is); (case z_range => k_is); (case z_int => k_is); (case z_bool => k_is); (case z_str => k_is); (case z_tuple => k_is); (case z_list => k_is); (case z_dict => k_is)
