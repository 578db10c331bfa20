import PyProof.Rows.All
import Wide.All
import OpenK.AllK
import Wide.FinOn
import Lean
import PyProof.EqAt
import PyProof.EqKinds
import PyProof.TupleCall
import PyProof.NeKinds
import PyProof.ReprRoads
import PyProof.ReprLen
import PyProof.Rows.RegStrFacts
import PyProof.Draws
import PyProof.EnumStmt
import PyProof.ZipIter
import PyProof.ListNew
import PyProof.TupleOfGen
import PyProof.ListRange
import PyProof.Rows.Range3
import PyProof.SumWalkG
import PyProof.Rows.RuleB_lshift
import PyProof.AutoSeq1
import PyProof.Cells
import PyProof.AutoListH
import PyProof.DictTable
import PyProof.RulesAs
import PyProof.NsDelKeeps
import KE.KDictList
import PyProof.IsiH_list
import PyProof.AttrMiss
import KE.KDictOf
import PyProof.StrCalls2
import PyProof.StrBlockL
import PyProof.StrBlockI
import PyProof.SliceStr2
import KE.KIntText
import PyProof.StrLawsTight
import PyProof.StrLawsAffix
import PyProof.Rows.StrSplitJoin
import PyProof.StrWalks
import PySem.Challenge.RW_joinedasks_k19_whole_texts_spoilt
set_option Elab.async false
set_option linter.all false
set_option maxRecDepth 100000
namespace L2
open PySem PySem.Spec PyProof.Rows

abbrev Key := Sum Int Str
def keyIs : Key → Value → Bool
  | .inl k, v => Value.isInt k v
  | .inr x, v => Value.isStrOf x v
def keyH (w : World) : Key → Int
  | .inl k => hashInt k
  | .inr x => hashStr w x
theorem keyIs_shape : ∀ {k : Key} {v : Value}, keyIs k v = true → (∃ i t, k = Sum.inl i ∧ v = Value.int i t) ∨ (∃ x t, k = Sum.inr x ∧ v = Value.str x t)
  | .inl i, v, h => by
    obtain ⟨t, e⟩ := Value.isInt_shape (k := i) (v := v) h
    exact .inl ⟨i, t, rfl, e⟩
  | .inr x, v, h => by
    obtain ⟨t, e⟩ := Value.isStrOf_shape (x := x) (v := v) h
    exact .inr ⟨x, t, rfl, e⟩
theorem keyIs_int (i : Int) (t : Tok) : keyIs (.inl i) (.int i t) = true := by simp [keyIs, Value.isInt]
theorem keyIs_str (x : Str) (t : Tok) : keyIs (.inr x) (.str x t) = true := by simp [keyIs, Value.isStrOf]
theorem key_ll (a b : Int) : decide ((Sum.inl a : Key) = Sum.inl b) = (a == b) := by
  by_cases e : a = b
  · subst e; simp
  · have h : ¬ (Sum.inl a : Key) = Sum.inl b := fun q => e (Sum.inl.inj q)
    rw [decide_eq_false h]
    exact (beq_eq_false_iff_ne.mpr e).symm
theorem key_rr (a b : Str) : decide ((Sum.inr a : Key) = Sum.inr b) = decide (a = b) := by
  by_cases e : a = b
  · subst e; simp
  · have h : ¬ (Sum.inr a : Key) = Sum.inr b := fun q => e (Sum.inr.inj q)
    rw [decide_eq_false h, decide_eq_false e]
theorem key_lr (a : Int) (b : Str) : decide ((Sum.inl a : Key) = Sum.inr b) = false := decide_eq_false (fun q => nomatch q)
theorem key_rl (a : Str) (b : Int) : decide ((Sum.inr a : Key) = Sum.inl b) = false := decide_eq_false (fun q => nomatch q)

def mixKind (prog : Program) (w : World) : PySem.KeyKind prog w Key where
  is := keyIs
  hash := keyH w
  inj := fun v a b ha hb => by
    rcases keyIs_shape ha with ⟨i, t, rfl, rfl⟩ | ⟨x, t, rfl, rfl⟩
    · rcases keyIs_shape hb with ⟨j, u, rfl, e⟩ | ⟨y, u, rfl, e⟩
      · injection e with e1 _; rw [e1]
      · exact nomatch e
    · rcases keyIs_shape hb with ⟨j, u, rfl, e⟩ | ⟨y, u, rfl, e⟩
      · exact nomatch e
      · injection e with e1 _; rw [e1]
  byValue := fun k v h => by
    rcases keyIs_shape h with ⟨i, t, rfl, rfl⟩ | ⟨x, t, rfl, rfl⟩ <;> rfl
  pyHash := fun hv h => by
    rcases keyIs_shape hv with ⟨i, t, rfl, rfl⟩ | ⟨x, t, rfl, rfl⟩
    · exact wpAny_pyHash_int h
    · exact wpAny_pyHash_str h
  eqBool := fun hu hv h => by
    rcases keyIs_shape hu with ⟨i, t, rfl, rfl⟩ | ⟨x, t, rfl, rfl⟩
    · rcases keyIs_shape hv with ⟨j, u, rfl, rfl⟩ | ⟨y, u, rfl, rfl⟩
      · rw [key_ll] at h; exact wpAny_eqBool_int h
      · rw [key_lr] at h; exact SeqAt.EqAt.int_str i t y u _ _ _ _ h
    · rcases keyIs_shape hv with ⟨j, u, rfl, rfl⟩ | ⟨y, u, rfl, rfl⟩
      · rw [key_rl] at h; exact SeqAt.EqAt.str_int x t j u _ _ _ _ h
      · rw [key_rr] at h; exact wpAny_eqBool_str h
  «strs» := fun k x t v h => by
    rcases keyIs_shape h with ⟨i, u, rfl, e⟩ | ⟨y, u, rfl, e⟩
    · exact nomatch e
    · injection e with e1 _
      subst e1
      cases v <;> rfl

theorem mixKind_int (prog : Program) (w : World) (i : Int) (t : Tok) : (mixKind prog w).is (.inl i) (.int i t) = true := keyIs_int i t
theorem mixKind_str (prog : Program) (w : World) (x : Str) (t : Tok) : (mixKind prog w).is (.inr x) (.str x t) = true := keyIs_str x t
end L2

namespace L2
open PySem PySem.Spec PyProof.Rows

inductive V where
  | non | bl (b : Bool) | int (i : Int) | str (x : Str) | byt (b : Array UInt8) | flt (b : UInt64) | ref (a : Addr) | ty (n : String)
  deriving DecidableEq

def RelV : V → Value → Prop
  | .non, u => u = Value.none
  | .bl b, u => u = Value.bool b
  | .int i, u => ∃ t, u = Value.int i t
  | .str x, u => ∃ t, u = Value.str x t
  | .byt b, u => ∃ t, u = Value.bytes b t
  | .flt b, u => ∃ t, u = Value.float b t
  | .ref a, u => u = Value.ref a
  | .ty n, u => u = Value.type n

abbrev Vals : List V → List Value → Prop := Paired RelV
theorem Vals.length {xs : List V} {us : List Value} (r : Vals xs us) : xs.length = us.length := Paired.length r
theorem Vals.get : ∀ {xs : List V} {us : List Value} {i : Nat} {x : V}, Vals xs us → xs[i]? = some x → ∃ u, us[i]? = some u ∧ RelV x u
  | _, _, _, _, .nil, e => by simp at e
  | _, _, 0, _, .cons r _, e => by simp at e; subst e; exact ⟨_, rfl, r⟩
  | _, _, i + 1, x, .cons _ t, e => by
    obtain ⟨u, h1, h2⟩ := Vals.get (i := i) (x := x) t (by simpa using e)
    exact ⟨u, by simpa using h1, h2⟩
theorem Vals.set {x : V} {u : Value} (r : RelV x u) : ∀ {xs : List V} {us : List Value} (i : Nat), Vals xs us → Vals (xs.set i x) (us.set i u)
  | _, _, _, .nil => .nil
  | _, _, 0, .cons _ t => .cons r t
  | _, _, i + 1, .cons q t => .cons q (Vals.set r i t)
theorem Vals.append : ∀ {xs ys : List V} {us ws : List Value}, Vals xs us → Vals ys ws → Vals (xs ++ ys) (us ++ ws)
  | _, _, _, _, .nil, s => s
  | _, _, _, _, .cons r t, s => .cons r (Vals.append t s)
theorem Vals.take : ∀ {xs : List V} {us : List Value} (n : Nat), Vals xs us → Vals (xs.take n) (us.take n)
  | _, _, 0, _ => .nil
  | _, _, _ + 1, .nil => .nil
  | _, _, n + 1, .cons r t => .cons r (Vals.take n t)
theorem Vals.drop : ∀ {xs : List V} {us : List Value} (n : Nat), Vals xs us → Vals (xs.drop n) (us.drop n)
  | _, _, 0, r => r
  | _, _, _ + 1, .nil => .nil
  | _, _, n + 1, .cons _ t => Vals.drop n t

def RelO : Option V → Option Value → Prop
  | some v, some u => RelV v u
  | none, none => True
  | _, _ => False
def KV {κ : Type} : List (κ × V) → List (κ × Value) → Prop := Paired fun (p : κ × V) (q : κ × Value) => p.1 = q.1 ∧ RelV p.2 q.2

def kV : Key → V
  | .inl i => .int i
  | .inr x => .str x

inductive HO where
  /-- a list -/
  | lst (xs : List V)
  /-- a tuple (never changes) -/
  | tup (xs : List V)
  /-- a dict whose keys are ints and texts; one whose keys are tuples of ints and texts (the empty one is both) -/
  | dK (kvs : List (Key × V)) | dT (kvs : List (List Key × V))
  /-- a set of ints: its members, its size -/
  | set (S : Int → Bool) (n : Nat)
  /-- an instance of the class at C, its dict at dx, its attributes -/
  | ins (C dx : Addr) (fs : List (Str × V))
  /-- the dict of the instance at x -/
  | own (x : Addr)
  /-- the dict of an exception -/
  | xd (fs : List (Str × V))
  /-- a bound method, f of x -/
  | met (f x : Addr)
  /-- a range object lo, lo + 1, .. below hi -/
  | rng (lo hi : Int)
  /-- a thing that is known to the object (the script; a dict while a loop walks it): read, never written while it is so -/
  | frz (o : Obj) (u : HO)
  /-- a code object's table -/
  | tbl (ps : Array Value)
  /-- any other thing, by what is true of its one object (a def of one's own: SetO a S n := HO.ext fun h => ..) -/
  | ext (φ : Heap → Prop)

abbrev Hp := Addr → Option HO
def upd (H : Hp) (a : Addr) (o : HO) : Hp := fun b => if b = a then some o else H b
theorem upd_same {H : Hp} {a : Addr} {o : HO} : upd H a o a = some o := by unfold upd; rw [if_pos rfl]
theorem upd_ne {H : Hp} {a b : Addr} {o : HO} (h : b ≠ a) : upd H a o b = H b := by unfold upd; rw [if_neg h]
theorem upd_upd {H : Hp} {a : Addr} {o u : HO} : upd (upd H a o) a u = upd H a u := by
  funext b; unfold upd; split <;> rfl
theorem ne_of {H : Hp} {a b : Addr} {o u : HO} (h : H a = some o) (h' : H b = some u) (d : o ≠ u) : a ≠ b := by
  intro e; subst e; rw [h] at h'; exact d (Option.some.inj h')
theorem ne_of_none {H : Hp} {a b : Addr} {o : HO} (h : H a = some o) (h' : H b = none) : a ≠ b := by
  intro e; subst e; rw [h] at h'; cases h'

section
variable (P : Program) (w : World)
def ObjOk (H : Hp) (h : Heap) (a : Addr) : HO → Prop
  | .lst xs => xs.length ≤ sizeLine ∧ ∃ (its : List Value) (n : Nat), Vals xs its ∧ h.get? a = some { cls := .type "list", data := .seq its.toArray n }
  | .tup xs => xs.length ≤ sizeLine ∧ ∃ its : List Value, Vals xs its ∧ IsTup h a its.toArray
  | .dK kvs => kvs.length ≤ sizeLine ∧ (a == sysModules) = false ∧ ∃ vs, KV kvs vs ∧ h.DictOf (mixKind P w) a vs
  | .dT kvs => kvs.length ≤ sizeLine ∧ (a == sysModules) = false ∧ ∃ xs : List (List Key × Addr × Value),
      Paired (fun (p : List Key × V) (q : List Key × Addr × Value) => p.1 = q.1 ∧ H q.2.1 = some (.tup (p.1.map kV)) ∧ RelV p.2 q.2.2) kvs xs ∧
      ∃ o es ep, h.get? a = some o ∧ o.ExactDict ∧ o.data = .dict es ep ∧ es.toList = xs.map (entryOfKey (tupleKind (mixKind P w))) ∧ (xs.map (·.1)).Nodup
  | .set S n => h.SetOf (intKind P w) a S n
  | .ins C dx fs => H dx = some (.own a) ∧ fs.length ≤ 1000 ∧ dx ≠ a ∧ h.get? a = some (PySem.W.instObj C dx) ∧
      ∃ mA, h.Ns1 dx mA ∧ (∀ f, RelO (fs.lookup f) (mA f)) ∧ PySem.Within mA (fs.map (·.1))
  | .own _ => ∃ o, h.get? a = some o
  | .xd fs => ∃ mA, h.Ns1 a mA ∧ ∀ f, RelO (fs.lookup f) (mA f)
  | .rng lo hi => ∃ t u v, h.get? a = some { cls := .type "range", data := .fields #[.int lo t, .int hi u, .int 1 v] }
  | .frz o u => h.get? a = some o ∧ ObjOk H h a u
  | .tbl ps => h.get? a = some { cls := .none, data := .fields ps }
  | .met f x => h.get? a = some (PySem.W.methodObj (.ref f) (.ref x))
  | .ext φ => φ h ∧ (∃ o, h.get? a = some o) ∧ ∀ h1 h2 : Heap, φ h1 → (∀ o, h1.get? a = some o → h2.get? a = some o) → φ h2
def HOk (H : Hp) (h : Heap) : Prop := ∀ a o, H a = some o → ObjOk P w H h a o
end

section
variable {P : Program} {w : World} {H H' : Hp} {h h' : Heap} {a : Addr} {o : HO}
theorem ObjOk.lt (x : ObjOk P w H h a o) : a < h.objs.size := by
  cases o with
  | lst xs => obtain ⟨_, _, _, _, e⟩ := x; exact Heap.lt_size e
  | tup xs => obtain ⟨_, _, _, p⟩ := x; exact p.lt
  | dK kvs => obtain ⟨_, _, _, _, o, _, _, e, _⟩ := x; exact Heap.lt_size e
  | dT kvs => obtain ⟨_, _, _, _, o, _, _, e, _⟩ := x; exact Heap.lt_size e
  | set S n => obtain ⟨o, _, _, _, e, _⟩ := x; exact Heap.lt_size e
  | ins C dx fs => obtain ⟨_, _, _, e, _⟩ := x; exact Heap.lt_size e
  | own y => obtain ⟨_, e⟩ := x; exact Heap.lt_size e
  | xd fs => obtain ⟨_, ⟨_, _, _, e, _⟩, _⟩ := x; exact Heap.lt_size e
  | rng lo hi => obtain ⟨_, _, _, e⟩ := x; exact Heap.lt_size e
  | frz ob u => obtain ⟨e, _⟩ := x; exact Heap.lt_size e
  | tbl ps => exact Heap.lt_size (show h.get? a = some _ from x)
  | met f y => exact Heap.lt_size (show h.get? a = some _ from x)
  | ext φ => obtain ⟨_, ⟨_, e⟩, _⟩ := x; exact Heap.lt_size e
theorem Paired.mapP {α β : Type} {F G : α → β → Prop} : ∀ {l₁ : List α} {l₂ : List β}, Paired F l₁ l₂ → (∀ a b, F a b → G a b) → Paired G l₁ l₂
  | _, _, .nil, _ => .nil
  | _, _, .cons r t, f => .cons (f _ _ r) (Paired.mapP t f)
theorem ObjOk.stay (x : ObjOk P w H h a o) (k : ∀ b u, (b = a ∨ H b = some (.own a)) → h.get? b = some u → h'.get? b = some u)
    (ho : ∀ b, H b = some (.own a) → H' b = some (.own a)) (ht : ∀ b xs, H b = some (.tup xs) → H' b = some (.tup xs)) : ObjOk P w H' h' a o := by
  induction o with
  | lst xs => obtain ⟨z, its, n, r, e⟩ := x; exact ⟨z, its, n, r, k _ _ (.inl rfl) e⟩
  | tup xs => obtain ⟨z, its, r, ob, e, c⟩ := x; exact ⟨z, its, r, ob, k _ _ (.inl rfl) e, c⟩
  | dK kvs => obtain ⟨z, y, vs, r, ob, es, ep, e, c⟩ := x; exact ⟨z, y, vs, r, ob, es, ep, k _ _ (.inl rfl) e, c⟩
  | dT kvs =>
    obtain ⟨z, y, xs, r, ob, es, ep, e, c⟩ := x
    exact ⟨z, y, xs, Paired.mapP r fun p q z => ⟨z.1, ht _ _ z.2.1, z.2.2⟩, ob, es, ep, k _ _ (.inl rfl) e, c⟩
  | set S n => obtain ⟨ob, es, ep, t, e, c⟩ := x; exact ⟨ob, es, ep, t, k _ _ (.inl rfl) e, c⟩
  | ins C dx fs =>
    obtain ⟨d, z, ne, e, mA, ⟨od, es, ep, e2, c⟩, r⟩ := x
    exact ⟨ho _ d, z, ne, k _ _ (.inl rfl) e, mA, ⟨od, es, ep, k _ _ (.inr d) e2, c⟩, r⟩
  | own y => obtain ⟨ob, e⟩ := x; exact ⟨ob, k _ _ (.inl rfl) e⟩
  | xd fs => obtain ⟨mA, ⟨od, es, ep, e, c⟩, r⟩ := x; exact ⟨mA, ⟨od, es, ep, k _ _ (.inl rfl) e, c⟩, r⟩
  | rng lo hi => obtain ⟨t, u, v, e⟩ := x; exact ⟨t, u, v, k _ _ (.inl rfl) e⟩
  | frz ob u ih => obtain ⟨e, q⟩ := x; exact ⟨k _ _ (.inl rfl) e, ih q⟩
  | tbl ps =>
    have e : h.get? a = some { cls := .none, data := .fields ps } := x
    show h'.get? a = some { cls := .none, data := .fields ps }
    exact k a _ (.inl rfl) e
  | met f y =>
    have e : h.get? a = some (PySem.W.methodObj (.ref f) (.ref y)) := x
    show h'.get? a = some (PySem.W.methodObj (.ref f) (.ref y))
    exact k a _ (.inl rfl) e
  | ext φ => obtain ⟨p, ⟨o, e⟩, st⟩ := x; exact ⟨st _ _ p fun o q => k _ _ (.inl rfl) q, ⟨o, k _ _ (.inl rfl) e⟩, st⟩
theorem HOk.lt (x : HOk P w H h) (e : H a = some o) : a < h.objs.size := (x a o e).lt
theorem HOk.fresh (x : HOk P w H h) (e : h.objs.size ≤ a) : H a = none := by
  cases q : H a with
  | none => rfl
  | some u => exact absurd (Nat.lt_of_lt_of_le (x.lt q) e) (Nat.lt_irrefl _)
theorem HOk.kept (x : HOk P w H h) (k : ∀ b u, h.get? b = some u → h'.get? b = some u) : HOk P w H h' := fun a o e =>
  (x a o e).stay (fun b u _ q => k b u q) (fun _ q => q) fun _ _ q => q
theorem HOk.laid (x : HOk P w H h) (k : ∀ b u, h.get? b = some u → h'.get? b = some u) (hp : h.objs.size ≤ a) (new : ObjOk P w (upd H a o) h' a o) : HOk P w (upd H a o) h' := fun b u e => by
  have hn := x.fresh hp
  by_cases hb : b = a
  · subst hb; rw [upd_same] at e; cases e; exact new
  · rw [upd_ne hb] at e
    exact (x b u e).stay (fun c v _ q => k c v q) (fun c q => by rw [upd_ne (ne_of_none q hn)]; exact q) fun c xs q => by rw [upd_ne (ne_of_none q hn)]; exact q
end

def Rd (H : Hp) (a : Addr) (u : HO) : Prop := H a = some u ∨ ∃ o, H a = some (.frz o u)
theorem Rd.of {H : Hp} {a : Addr} {u : HO} (h : H a = some u) : Rd H a u := .inl h
theorem Rd.ok {P : Program} {w : World} {H : Hp} {h : Heap} {a : Addr} {u : HO} (r : Rd H a u) (x : HOk P w H h) : ObjOk P w H h a u := by
  rcases r with r | ⟨o, r⟩
  · exact x a u r
  · obtain ⟨_, q⟩ := x a _ r
    exact q
def Mut : Option HO → Prop
  | some (.lst _) => True
  | some (.dK _) => True
  | some (.dT _) => True
  | some (.set _ _) => True
  | some (.ins _ _ _) => True
  | some (.ext _) => True
  | _ => False
section
variable {P : Program} {w : World} {H : Hp} {h h' : Heap} {x e : Addr} {o' : HO}
theorem HOk.write (ok : HOk P w H h) (mu : Mut (H x)) (he : e = x ∨ H e = some (.own x)) (k : ∀ b u, b ≠ e → h.get? b = some u → h'.get? b = some u) (heo : ∃ u, h'.get? e = some u)
    (new : ObjOk P w (upd H x o') h' x o') : HOk P w (upd H x o') h' := fun b u q => by
  have nown : ∀ c y, H c = some (.own y) → c ≠ x := fun c y r z => by subst z; rw [r] at mu; exact mu
  have ntup : ∀ c xs, H c = some (.tup xs) → c ≠ x := fun c xs r z => by subst z; rw [r] at mu; exact mu
  by_cases hb : b = x
  · subst hb; rw [upd_same] at q; cases q; exact new
  · rw [upd_ne hb] at q
    by_cases hbe : b = e
    · have q' : H b = some (.own x) := by
        rcases he with z | z
        · exact absurd (hbe.trans z) hb
        · rw [hbe]; exact z
      rw [q] at q'; cases q'
      obtain ⟨v, hv⟩ := heo
      exact ⟨v, by rw [hbe]; exact hv⟩
    · refine (ok b u q).stay (fun c v hc r => k c v ?_ r) (fun c r => by rw [upd_ne (nown c b r)]; exact r) fun c xs r => by rw [upd_ne (ntup c xs r)]; exact r
      rcases hc with rfl | hc
      · exact hbe
      · rintro rfl
        rcases he with z | z
        · exact nown c b hc z
        · rw [hc] at z; cases z; exact hb rfl
end

structure Un (fs ex : List Addr) (H H' : Hp) (h h' : Heap) : Prop where
  keep : ∀ b o, h.get? b = some o → H b = none → b ∉ fs → b ∉ ex → h'.get? b = some o
  slot : ∀ b o, h.get? b = some o → H b = none → b ∈ fs → b ∉ ex → ∃ sl, h'.get? b = some { o with slots := sl }
  free : ∀ b o, h.get? b = some o → H b = none → b ∉ ex → H' b = none
  there : ∀ b o, h.get? b = some o → b ∉ ex → ∃ o', h'.get? b = some o'
  tups : ∀ b xs, H b = some (.tup xs) → H' b = some (.tup xs)
  frzs : ∀ b o u, H b = some (.frz o u) → H' b = some (.frz o u)
  tbls : ∀ b ps, H b = some (.tbl ps) → ∃ more, H' b = some (.tbl (ps ++ more))
section
variable {fs fs' ex ex' : List Addr} {H H1 H2 : Hp} {h h1 h2 h' : Heap} {a x e : Addr} {o : HO}
theorem Un.any (u : Un fs ex H H1 h h1) {b : Addr} {ob : Obj} (q : h.get? b = some ob) (n : H b = none) (hx : b ∉ ex) : ∃ sl, h1.get? b = some { ob with slots := sl } := by
  by_cases hb : b ∈ fs
  · exact u.slot b ob q n hb hx
  · exact ⟨ob.slots, u.keep b ob q n hb hx⟩
theorem Un.trans (a : Un fs ex H H1 h h1) (b : Un fs ex H1 H2 h1 h2) : Un fs ex H H2 h h2 where
  keep := fun c ob q n hc hx => b.keep c ob (a.keep c ob q n hc hx) (a.free c ob q n hx) hc hx
  slot := fun c ob q n hc hx => by
    obtain ⟨sl, e1⟩ := a.slot c ob q n hc hx
    obtain ⟨sl', e2⟩ := b.slot c _ e1 (a.free c ob q n hx) hc hx
    exact ⟨sl', e2⟩
  free := fun c ob q n hx => by
    obtain ⟨o', e1⟩ := a.there c ob q hx
    exact b.free c o' e1 (a.free c ob q n hx) hx
  there := fun c ob q hx => by
    obtain ⟨o', e1⟩ := a.there c ob q hx
    exact b.there c o' e1 hx
  tups := fun c xs q => b.tups c xs (a.tups c xs q)
  frzs := fun c ob xs q => b.frzs c ob xs (a.frzs c ob xs q)
  tbls := fun c ps q => by
    obtain ⟨m1, e1⟩ := a.tbls c ps q
    obtain ⟨m2, e2⟩ := b.tbls c _ e1
    exact ⟨m1 ++ m2, by rw [e2, Array.append_assoc]⟩
theorem Un.kept (k : ∀ b u, h.get? b = some u → h'.get? b = some u) : Un fs ex H H h h' :=
  ⟨fun b ob q _ _ _ => k b ob q, fun b ob q _ _ _ => ⟨ob.slots, k b ob q⟩, fun _ _ _ n _ => n, fun b ob q _ => ⟨ob, k b ob q⟩, fun _ _ q => q, fun _ _ _ q => q, fun _ ps q => ⟨#[], by rw [q]; simp⟩⟩
theorem Un.refl : Un fs ex H H h h := Un.kept fun _ _ q => q
theorem Un.laid (k : ∀ b u, h.get? b = some u → h'.get? b = some u) (hp : h.objs.size ≤ a) (hn : H a = none) : Un fs ex H (upd H a o) h h' where
  keep := fun b u q _ _ _ => k b u q
  slot := fun b u q _ _ _ => ⟨u.slots, k b u q⟩
  free := fun b u q n _ => by rw [upd_ne (Nat.ne_of_lt (Nat.lt_of_lt_of_le (Heap.lt_size q) hp))]; exact n
  there := fun b u q _ => ⟨u, k b u q⟩
  tups := fun b xs q => by rw [upd_ne (ne_of_none q hn)]; exact q
  frzs := fun b u xs q => by rw [upd_ne (ne_of_none q hn)]; exact q
  tbls := fun b ps q => ⟨#[], by rw [upd_ne (ne_of_none q hn), q]; simp⟩
theorem Un.write (mu : Mut (H x)) (he : e = x ∨ H e = some (.own x)) (k : ∀ b u, b ≠ e → h.get? b = some u → h'.get? b = some u) (heo : ∃ u, h'.get? e = some u) : Un fs ex H (upd H x o) h h' := by
  have hx : ∀ b, H b = none → b ≠ x := fun b n z => by subst z; rw [n] at mu; exact mu
  have hb : ∀ b, H b = none → b ≠ e := fun b n z => by
    subst z
    rcases he with r | r
    · exact hx b n r
    · rw [n] at r; cases r
  have hm : ∀ b u, H b = some u → ¬ Mut (some u) → b ≠ x := fun b u q nm z => by subst z; rw [q] at mu; exact nm mu
  refine ⟨fun b u q n _ _ => k b u (hb b n) q, fun b u q n _ _ => ⟨u.slots, k b u (hb b n) q⟩, fun b u q n _ => by rw [upd_ne (hx b n)]; exact n, fun b u q _ => ?_,
    fun b xs q => by rw [upd_ne (hm b _ q fun z => z)]; exact q, fun b u xs q => by rw [upd_ne (hm b _ q fun z => z)]; exact q, fun b ps q => ⟨#[], by rw [upd_ne (hm b _ q fun z => z), q]; simp⟩⟩
  by_cases hbe : b = e
  · subst hbe; exact heo
  · exact ⟨u, k b u hbe q⟩
theorem Un.mono (u : Un fs ex H H1 h h1) (hs : ∀ b ∈ fs, b ∈ fs') (hx : ∀ b ∈ ex, b ∈ ex') : Un fs' ex' H H1 h h1 :=
  ⟨fun b ob q n hb he => u.keep b ob q n (fun z => hb (hs b z)) fun z => he (hx b z), fun _ _ q n _ he => u.any q n fun z => he (hx _ z), fun b ob q n he => u.free b ob q n fun z => he (hx b z), fun b ob q he => u.there b ob q fun z => he (hx b z), u.tups, u.frzs, u.tbls⟩
end

def trk (h : Heap) (H : Hp) : List Addr := (List.range h.objs.size).filter fun a => (H a).isSome
def hidT (h : Heap) (H : Hp) : Heap := PySem.W.hideAll h (trk h H)
theorem hidT_size (h : Heap) (H : Hp) : (hidT h H).objs.size = h.objs.size := PySem.W.hideAll_size _ _
theorem hidT_get {h : Heap} {H : Hp} {b : Addr} {o : Obj} (e : h.get? b = some o) (n : H b = none) : (hidT h H).get? b = some o :=
  PySem.W.hideAll_get _ e fun hm => by
    have q : (H b).isSome = true := (List.mem_filter.mp hm).2
    rw [n] at q; simp at q
theorem of_hidT {h : Heap} {H : Hp} {b : Addr} {o : Obj} (e : (hidT h H).get? b = some o) : h.get? b = some o ∧ H b = none := by
  have e' : h.get? b = some o := PySem.W.of_hideAll (trk h H) e
  refine ⟨e', ?_⟩
  cases q : H b with
  | none => rfl
  | some x =>
    have hm : b ∈ trk h H := List.mem_filter.mpr ⟨List.mem_range.mpr (Heap.lt_size e'), by simp [q]⟩
    have z : (hidT h H).get? b = none := PySem.W.hideAll_none (trk h H) hm
    rw [z] at e; cases e

def allNews (g h : Heap) (L : Addr) : List (Addr × Obj) := (List.range h.objs.size).filterMap fun a => if a = L ∨ (g.get? a).isSome = true then none else (h.get? a).map fun o => (a, o)
def rest (g h : Heap) (L d : Addr) : List (Addr × Obj) := (allNews g h L).filter fun p => decide (p.1 ≠ d)
end L2

namespace L2
open PySem PySem.Spec PyProof.Rows

structure Mod (K : PySem.W.Frag) (mg : Str → Option Value) (base : Heap) : Prop where
  kin : K.In base
  glob : base.Ns mainGlobals mg
  blt : ∃ mb, base.Ns builtinsNs mb ∧ ∀ x : Str, x ≠ "__name__" → mb x = bootBuiltins x
  nolimit : base.NoLimit

structure Cx where
  prog : Program
  w : World
  K : PySem.W.Frag
  mg : Str → Option Value
  base : Heap
  A : Around
  N : List Str
  s₀ : Shared
  H₀ : Hp
  env : Env
  outer : List Env
  stack : List Env
  ex : List Addr
  fn : Str → Bool
  calm : Bool
  pn : List (Addr × Obj)
  xe : Value → Shared → Prop
def frs (l : List Env) : List Addr := l.filterMap (·.frame)
abbrev Cx.fs (X : Cx) : List Addr := frs X.outer

def Vis (sc : Scope) (x : Str) : Prop := sc.names.lookup x = some .local ∨ sc.names.lookup x = some .cell ∨ sc.names.lookup x = some .free
def Loc (sc : Scope) (x : Str) : Prop := sc.names.lookup x = some .local ∨ sc.names.lookup x = some .cell
def Look (env : Env) (h : Heap) (m : Str → Option Value) (x : Str) (u : Value) : Prop :=
  (env.kindOf x = some .local ∧ m x = some u) ∨ ((env.kindOf x = some .cell ∨ env.kindOf x = some .free) ∧ ∃ c, env.cells.lookup x = some c ∧ h.IsCell c (some u))

structure Cx.Ok (X : Cx) : Prop where
  mod : Mod X.K X.mg X.base
  kind : X.env.scope.kind = .function
  glob : X.env.globals = mainGlobals
  blt : X.env.builtins = builtinsNs
  above : X.s₀.heap.objs.size ≤ X.env.locals
  inj : ∀ x y c, X.env.cells.lookup x = some c → X.env.cells.lookup y = some c → x = y
  has : ∀ x, (X.env.kindOf x = some .cell ∨ X.env.kindOf x = some .free) → ∃ c, X.env.cells.lookup x = some c
  cab : ∀ x c, X.fn x = true → X.env.cells.lookup x = some c → X.s₀.heap.objs.size ≤ c
  hd : X.calm = true → X.A.handled = none
  frames : X.A.frames = some X.stack
  stk : X.stack = X.outer ∨ (X.stack = X.env :: X.outer ∧ X.env.frame = some X.env.locals)
  exf : ∀ b ∈ X.ex, b ≠ X.env.locals ∧ ∀ x c, X.env.cells.lookup x = some c → c ≠ b
  bs : ∀ b o, X.base.get? b = some o → X.s₀.heap.get? b = some o ∧ X.H₀ b = none
  bsz : X.base.objs.size ≤ X.s₀.heap.objs.size
  noex : ∀ b o, X.base.get? b = some o → b ∉ X.ex
  exfs : ∀ b ∈ X.ex, b ∉ X.fs
  funs : X.s₀.heap.FunFrames X.base X.outer
  frf : ∀ b ∈ X.fs, X.H₀ b = none

structure Inv (X : Cx) (pins : List (Addr × Obj)) (σ : List (Option V)) (H : Hp) (s : Shared) : Prop where
  ok : X.Ok
  os : s.os = X.s₀.os
  bare : AllBare s.gens
  base : Un X.fs X.ex X.H₀ H X.s₀.heap s.heap
  loc : ∃ m, s.heap.Ns X.env.locals m ∧ ∀ (i : Nat) (x : Str) (v : V), X.N[i]? = some x → σ[i]? = some (some v) → Vis X.env.scope x → ∃ u, RelV v u ∧ Look X.env s.heap m x u
  cell : ∀ x c, X.env.cells.lookup x = some c → ∃ v, s.heap.IsCell c v
  free : H X.env.locals = none
  freeC : ∀ x c, X.env.cells.lookup x = some c → H c = none
  pin : ∀ p ∈ X.pn ++ pins, s.heap.get? p.1 = some p.2 ∧ H p.1 = none ∧ p.1 ≠ X.env.locals ∧ p.1 ∉ X.fs ∧ ∀ v, p.2.data ≠ .cell v
  hok : HOk X.prog X.w H s.heap
  len : σ.length = X.N.length

section
variable {X : Cx} {pins : List (Addr × Obj)} {σ : List (Option V)} {H H' : Hp} {s : Shared} {h' : Heap}

theorem Cx.Ok.nofr (ok : X.Ok) {b : Addr} {o : Obj} (e : X.base.get? b = some o) : b ∉ X.fs := fun hb => by
  have := (ok.funs.mem hb).1
  rw [e] at this; cases this
theorem Inv.bs (I : Inv X pins σ H s) : ∀ b o, X.base.get? b = some o → s.heap.get? b = some o ∧ H b = none := fun b o e =>
  ⟨I.base.keep b o (I.ok.bs b o e).1 (I.ok.bs b o e).2 (I.ok.nofr e) (I.ok.noex b o e), I.base.free b o (I.ok.bs b o e).1 (I.ok.bs b o e).2 (I.ok.noex b o e)⟩
theorem Inv.bk (I : Inv X pins σ H s) : ∀ b o, X.base.get? b = some o → s.heap.get? b = some o := fun b o e => (I.bs b o e).1
theorem Inv.mod (I : Inv X pins σ H s) : Mod X.K X.mg X.base := I.ok.mod
theorem Inv.kIn (I : Inv X pins σ H s) : X.K.In s.heap := I.ok.mod.kin.keeps I.bk
theorem Inv.nolimit (I : Inv X pins σ H s) : s.heap.NoLimit := I.ok.mod.nolimit.keeps I.bk
theorem Inv.fr (I : Inv X pins σ H s) : ∃ m, Fr X.base X.env.locals s.heap m :=
  let ⟨m, hn, _⟩ := I.loc
  ⟨m, hn, I.bk, Nat.le_trans I.ok.bsz I.ok.above⟩
theorem Inv.lt (I : Inv X pins σ H s) : X.env.locals < s.heap.objs.size := let ⟨_, hn, _⟩ := I.loc; hn.lt
theorem Inv.sz (I : Inv X pins σ H s) : X.s₀.heap.objs.size ≤ s.heap.objs.size := Nat.le_trans I.ok.above (Nat.le_of_lt I.lt)
theorem Inv.nofs (I : Inv X pins σ H s) {a : Addr} (h : s.heap.objs.size ≤ a) : a ∉ X.fs := fun hb => by
  obtain ⟨_, o, ho, _⟩ := I.ok.funs.mem hb
  exact absurd (Nat.lt_of_lt_of_le (Heap.lt_size ho) (Nat.le_trans I.sz h)) (Nat.lt_irrefl _)
theorem Inv.cne (I : Inv X pins σ H s) : ∀ x c, X.env.cells.lookup x = some c → c ≠ X.env.locals := fun x c e z => by
  obtain ⟨v, o, ho, hd⟩ := I.cell x c e
  obtain ⟨m, ⟨o', es, ep, ho', hd', _⟩, _⟩ := I.loc
  rw [z, ho'] at ho; cases ho; rw [hd'] at hd; cases hd
theorem Inv.funs (I : Inv X pins σ H s) : s.heap.FunFrames X.base X.outer := by
  have all : ∀ (l : List Env), (∀ b ∈ frs l, b ∈ X.fs) → X.s₀.heap.FunFrames X.base l → s.heap.FunFrames X.base l := by
    intro l
    induction l with
    | nil => intro _ _; trivial
    | cons env r ih =>
      intro hs hl
      obtain ⟨hk, ⟨L, o, hf, hn, ho, hd⟩, hr⟩ := hl
      have hL : L ∈ X.fs := hs L (by unfold frs; rw [List.filterMap_cons, hf]; exact List.mem_cons_self)
      obtain ⟨sl, e⟩ := I.base.slot L o ho (I.ok.frf L hL) hL fun z => I.ok.exfs L z hL
      exact ⟨hk, ⟨L, _, hf, hn, e, hd⟩, ih (fun b hb => hs b (by unfold frs; rw [List.filterMap_cons, hf]; exact List.mem_cons_of_mem _ hb)) hr⟩
  exact all X.outer (fun _ hb => hb) I.ok.funs

theorem Inv.stack (I : Inv X pins σ H s) : s.heap.FunFrames X.base X.stack := by
  rcases I.ok.stk with e | ⟨e, hf⟩
  · rw [e]; exact I.funs
  · rw [e]
    obtain ⟨m, hn, _⟩ := I.loc
    refine .cons (by rw [I.ok.kind]; decide) hf hn ?_ I.funs
    exact Heap.get?_none_of_le (Nat.le_trans I.ok.bsz I.ok.above)
theorem Inv.stkSub (I : Inv X pins σ H s) : ∀ b ∈ frs X.stack, b ∈ X.env.locals :: X.fs := fun b hb => by
  rcases I.ok.stk with e | ⟨e, hf⟩
  · rw [e] at hb; exact List.mem_cons_of_mem _ hb
  · rw [e] at hb
    unfold frs at hb
    rw [List.filterMap_cons, hf] at hb
    exact hb
theorem Inv.stkFree (I : Inv X pins σ H s) : ∀ b ∈ frs X.stack, H b = none := fun b hb => by
  rcases List.mem_cons.mp (I.stkSub b hb) with e | hb
  · rw [e]; exact I.free
  · obtain ⟨_, o, ho, _⟩ := I.ok.funs.mem hb
    exact I.base.free b o ho (I.ok.frf b hb) fun z => I.ok.exfs b z hb

theorem Inv.step {g' : Array GenState} {t' : Nat} {d' : Drawn} {ch : List Addr} (I : Inv X pins σ H s)
    (hch : ∀ b ∈ ch, (b ∈ X.ex ∨ X.s₀.heap.objs.size ≤ b) ∧ b ≠ X.env.locals ∧ (∀ x c, X.env.cells.lookup x = some c → c ≠ b) ∧ ∀ p ∈ X.pn ++ pins, p.1 ≠ b)
    (keep : ∀ b o, b ≠ X.env.locals → b ∉ X.fs → b ∉ ch → s.heap.get? b = some o → H b = none → h'.get? b = some o)
    (slot : ∀ b o, b ≠ X.env.locals → b ∈ X.fs → b ∉ ch → s.heap.get? b = some o → H b = none → ∃ sl, h'.get? b = some { o with slots := sl }) (free : ∀ b o, b ∉ ch → s.heap.get? b = some o → H b = none → H' b = none)
    (there : ∀ b o, b ∉ ch → s.heap.get? b = some o → ∃ o', h'.get? b = some o')
    (tups : ∀ b xs, H b = some (.tup xs) → H' b = some (.tup xs)) (frzs : ∀ b o u, H b = some (.frz o u) → H' b = some (.frz o u)) (tbls : ∀ b ps, H b = some (.tbl ps) → ∃ more, H' b = some (.tbl (ps ++ more)))
    (ns : ∀ m, s.heap.Ns X.env.locals m → h'.Ns X.env.locals m) (hok : HOk X.prog X.w H' h') (hg : AllBare g') :
    Inv X pins σ H' { s with heap := h', gens := g', drawn := d', toks := t' } := by
  have neL : ∀ b o, X.s₀.heap.get? b = some o → b ≠ X.env.locals := fun b o e => Nat.ne_of_lt (Nat.lt_of_lt_of_le (Heap.lt_size e) I.ok.above)
  have neC : ∀ b o, X.s₀.heap.get? b = some o → b ∉ X.ex → b ∉ ch := fun b o e hx hb => by
    rcases (hch b hb).1 with z | z
    · exact hx z
    · exact absurd (Nat.lt_of_lt_of_le (Heap.lt_size e) z) (Nat.lt_irrefl _)
  have cellK : ∀ x c, X.env.cells.lookup x = some c → ∀ v, s.heap.IsCell c v → h'.IsCell c v := fun x c e v ⟨o, ho, hd⟩ => by
    have nch : c ∉ ch := fun z => (hch c z).2.2.1 x c e rfl
    by_cases hc : c ∈ X.fs
    · obtain ⟨sl, q⟩ := slot c o (I.cne x c e) hc nch ho (I.freeC x c e)
      exact ⟨_, q, hd⟩
    · exact ⟨o, keep c o (I.cne x c e) hc nch ho (I.freeC x c e), hd⟩
  refine ⟨I.ok, I.os, hg, ⟨fun b o e n hb hx => ?_, fun b o e n hb hx => ?_, fun b o e n hx => ?_, fun b o e hx => ?_, fun b xs e => tups b xs (I.base.tups b xs e), fun b o xs e => frzs b o xs (I.base.frzs b o xs e), fun b ps e => ?_⟩, ?_, fun x c e => ?_, ?_, fun x c e => ?_, fun p hp => ?_, hok, I.len⟩
  · exact keep b o (neL b o e) hb (neC b o e hx) (I.base.keep b o e n hb hx) (I.base.free b o e n hx)
  · obtain ⟨sl, e1⟩ := I.base.slot b o e n hb hx
    obtain ⟨sl', e2⟩ := slot b _ (neL b o e) hb (neC b o e hx) e1 (I.base.free b o e n hx)
    exact ⟨sl', e2⟩
  · obtain ⟨o', e1⟩ := I.base.there b o e hx
    exact free b o' (neC b o e hx) e1 (I.base.free b o e n hx)
  · obtain ⟨o', e1⟩ := I.base.there b o e hx
    exact there b o' (neC b o e hx) e1
  · obtain ⟨m1, e1⟩ := I.base.tbls b ps e
    obtain ⟨m2, e2⟩ := tbls b _ e1
    exact ⟨m1 ++ m2, by rw [e2, Array.append_assoc]⟩
  · obtain ⟨m, hn, hl⟩ := I.loc
    refine ⟨m, ns m hn, fun i x v e1 e2 e3 => ?_⟩
    obtain ⟨u, r, l⟩ := hl i x v e1 e2 e3
    refine ⟨u, r, ?_⟩
    rcases l with l | ⟨k, c, e, z⟩
    · exact .inl l
    · exact .inr ⟨k, c, e, cellK x c e _ z⟩
  · obtain ⟨v, z⟩ := I.cell x c e
    exact ⟨v, cellK x c e v z⟩
  · obtain ⟨m, ⟨o, _, _, ho, _⟩, _⟩ := I.loc
    exact free _ o (fun z => (hch _ z).2.1 rfl) ho I.free
  · obtain ⟨v, o, ho, hd⟩ := I.cell x c e
    exact free c o (fun z => (hch c z).2.2.1 x c e rfl) ho (I.freeC x c e)
  · obtain ⟨e, n, ne, nf, d⟩ := I.pin p hp
    have nch : p.1 ∉ ch := fun z => (hch p.1 z).2.2.2 p hp rfl
    exact ⟨keep p.1 p.2 ne nf nch e n, free p.1 p.2 nch e n, ne, nf, d⟩
theorem Inv.un {t' : Nat} (I : Inv X pins σ H s) (u : Un X.fs [] H H' s.heap h') (hok : HOk X.prog X.w H' h') : Inv X pins σ H' { s with heap := h', toks := t' } := by
  obtain ⟨m, ⟨o, es, ep, ho, r⟩, _⟩ := id I.loc
  obtain ⟨sl, hL⟩ := u.any ho I.free (by simp)
  exact I.step (g' := s.gens) (d' := s.drawn) (ch := []) (fun _ z => nomatch z) (fun b o _ hb _ e n => u.keep b o e n hb (by simp)) (fun b o _ hb _ e n => u.slot b o e n hb (by simp)) (fun b o _ e n => u.free b o e n (by simp)) (fun b o _ e => u.there b o e (by simp)) u.tups u.frzs u.tbls (fun m' hm => by
    obtain ⟨o', es', ep', ho', r'⟩ := hm
    rw [ho] at ho'; cases ho'
    exact ⟨_, es', ep', hL, r'⟩) hok I.bare
theorem Inv.call {g' : Array GenState} {t' : Nat} {d' : Drawn} {ch : List Addr} (I : Inv X pins σ H s) (u : Un (frs X.stack) ch H H' s.heap h') (hok : HOk X.prog X.w H' h') (hg : AllBare g')
    (hch : ∀ b ∈ ch, (b ∈ X.ex ∨ X.s₀.heap.objs.size ≤ b) ∧ b ≠ X.env.locals ∧ (∀ x c, X.env.cells.lookup x = some c → c ≠ b) ∧ ∀ p ∈ X.pn ++ pins, p.1 ≠ b) :
    Inv X pins σ H' { s with heap := h', gens := g', drawn := d', toks := t' } := by
  obtain ⟨m, ⟨o, es, ep, ho, r⟩, _⟩ := id I.loc
  obtain ⟨sl, hL⟩ := u.any ho I.free fun z => (hch _ z).2.1 rfl
  exact I.step (ch := ch) hch (fun b o hL hb hc e n => u.keep b o e n (fun z => (List.mem_cons.mp (I.stkSub b z)).elim hL hb) hc) (fun b o _ _ hc e n => u.any e n hc) (fun b o hc e n => u.free b o e n hc) (fun b o hc e => u.there b o e hc) u.tups u.frzs u.tbls (fun m' hm => by
    obtain ⟨o', es', ep', ho', r'⟩ := hm
    rw [ho] at ho'; cases ho'
    exact ⟨_, es', ep', hL, r'⟩) hok hg
theorem Inv.turned {t' : Nat} {it : Addr} (I : Inv X pins σ H s) (k : ∀ b o, b ≠ it → s.heap.get? b = some o → h'.get? b = some o) (hn : H it = none) (hL : it ≠ X.env.locals)
    (h1 : it ∈ X.ex ∨ X.s₀.heap.objs.size ≤ it) (h2 : ∀ x c, X.env.cells.lookup x = some c → c ≠ it) (h3 : ∀ p ∈ X.pn ++ pins, p.1 ≠ it) : Inv X pins σ H { s with heap := h', toks := t' } := by
  have nit : ∀ b u, H b = some u → b ≠ it := fun b u e z => by rw [z, hn] at e; cases e
  refine I.step (g' := s.gens) (d' := s.drawn) (ch := [it]) (fun b hb => ?_) (fun b o _ _ hc e _ => k b o (fun z => hc (by simp [z])) e) (fun b o _ _ hc e _ => ⟨o.slots, k b o (fun z => hc (by simp [z])) e⟩) (fun _ _ _ _ n => n)
    (fun b o hc e => ⟨o, k b o (fun z => hc (by simp [z])) e⟩) (fun _ _ e => e) (fun _ _ _ e => e) (fun b ps e => ⟨#[], by rw [e]; simp⟩) (fun m hm => ?_) (fun b u e => ?_) I.bare
  · have e : b = it := by simpa using hb
    subst e
    exact ⟨h1, hL, h2, h3⟩
  · obtain ⟨o, es, ep, ho, r⟩ := hm
    exact ⟨o, es, ep, k _ o (Ne.symm hL) ho, r⟩
  · refine (I.hok b u e).stay (fun c v hc q => k c v ?_ q) (fun _ q => q) fun _ _ q => q
    rcases hc with z | z
    · rw [z]; exact nit b u e
    · exact nit c _ z
theorem Inv.tok (I : Inv X pins σ H s) (t : Nat) : Inv X pins σ H { s with toks := t } := I.un (h' := s.heap) (t' := t) Un.refl I.hok
theorem Inv.kept {t' : Nat} (I : Inv X pins σ H s) (k : ∀ b u, s.heap.get? b = some u → h'.get? b = some u) : Inv X pins σ H { s with heap := h', toks := t' } := I.un (Un.kept k) (I.hok.kept k)
theorem Inv.laid {a : Addr} {o : HO} {t' : Nat} (I : Inv X pins σ H s) (k : ∀ b u, s.heap.get? b = some u → h'.get? b = some u) (hp : s.heap.objs.size ≤ a) (new : ObjOk X.prog X.w (upd H a o) h' a o) :
    Inv X pins σ (upd H a o) { s with heap := h', toks := t' } := I.un (Un.laid k hp (I.hok.fresh hp)) (I.hok.laid k hp new)
theorem Inv.write {x e : Addr} {o : HO} {t' : Nat} (I : Inv X pins σ H s) (mu : Mut (H x)) (he : e = x ∨ H e = some (.own x)) (k : ∀ b u, b ≠ e → s.heap.get? b = some u → h'.get? b = some u) (heo : ∃ u, h'.get? e = some u)
    (new : ObjOk X.prog X.w (upd H x o) h' x o) : Inv X pins σ (upd H x o) { s with heap := h', toks := t' } := I.un (Un.write mu he k heo) (I.hok.write mu he k heo new)
theorem Inv.pins_of {pins' : List (Addr × Obj)} (I : Inv X pins σ H s) (h : ∀ p ∈ pins', s.heap.get? p.1 = some p.2 ∧ H p.1 = none ∧ p.1 ≠ X.env.locals ∧ p.1 ∉ X.fs ∧ ∀ v, p.2.data ≠ .cell v) : Inv X pins' σ H s :=
  ⟨I.ok, I.os, I.bare, I.base, I.loc, I.cell, I.free, I.freeC, fun p hp => (List.mem_append.mp hp).elim (fun z => I.pin p (List.mem_append_left _ z)) (h p), I.hok, I.len⟩

theorem nodup_ix {N : List Str} (hN : N.Nodup) {i j : Nat} {x : Str} (a : N[i]? = some x) (b : N[j]? = some x) : i = j := by
  obtain ⟨h1, e1⟩ := List.getElem?_eq_some_iff.mp a
  obtain ⟨h2, e2⟩ := List.getElem?_eq_some_iff.mp b
  exact (List.getElem_inj hN).mp (e1.trans e2.symm)

theorem store_ok2 {M : Model} {A : Around} {E : Value → Shared → Prop} {i : Nat} {x : Str} {v : V} {u : Value} {Q : Unit → Shared → Prop} (I : Inv X pins σ H s) (hN : X.N.Nodup) (hi : X.N[i]? = some x) (hx : Loc X.env.scope x) (r : RelV v u)
    (h : ∀ s', Inv X pins (σ.set i (some v)) H s' → (∃ a, Heap.SameBut a s.heap s'.heap ∧ (a = X.env.locals ∨ X.env.cells.lookup x = some a)) → Q () s') (hf : X.fn x = true ∨ X.env.scope.names.lookup x = some .local := by first | exact .inl rfl | exact .inr rfl | assumption) : wpAny M A (storeName X.env x u) Q E s := by
  obtain ⟨m, hn, hl⟩ := id I.loc
  have hcls : (X.env.scope.kind == .class || (X.env.scope.kind == .module && X.env.locals != X.env.globals)) = false := by rw [I.ok.kind]; rfl
  have hiσ : i < σ.length := by rw [I.len]; exact (List.getElem?_eq_some_iff.mp hi).1
  have cne := I.cne
  have tracked : ∀ {a : Addr} {h' : Heap}, (∃ o, s.heap.get? a = some o ∧ H a = none) → Heap.SameBut a s.heap h' → HOk X.prog X.w H h' := fun {a h'} ha hs b ob e => by
    obtain ⟨_, _, hfree⟩ := ha
    refine (I.hok b ob e).stay (fun c w' hc q => (hs.2 c ?_).trans q) (fun _ q => q) fun _ _ q => q
    rintro rfl
    rcases hc with rfl | hc
    · rw [hfree] at e; cases e
    · rw [hfree] at hc; cases hc
  rcases hx with hk | hk
  · refine wpAny_storeName_local hk hn (fun h' hn' hs => ?_) hcls
    obtain ⟨oL, _, _, hoL, _⟩ := id hn
    refine h _ ⟨I.ok, I.os, I.bare, ⟨fun b o e n hb hx => ?_, fun b o e n hb hx => ?_, I.base.free, fun b o e hx => ?_, I.base.tups, I.base.frzs, I.base.tbls⟩, ⟨_, hn', fun j y v' e1 e2 e3 => ?_⟩, fun y c e => ?_, I.free, I.freeC, fun p hp => ?_, tracked ⟨oL, hoL, I.free⟩ hs, by simpa using I.len⟩ ⟨_, hs, .inl rfl⟩
    · exact (hs.2 b (Nat.ne_of_lt (Nat.lt_of_lt_of_le (Heap.lt_size e) I.ok.above))).trans (I.base.keep b o e n hb hx)
    · obtain ⟨sl, e1⟩ := I.base.slot b o e n hb hx
      exact ⟨sl, (hs.2 b (Nat.ne_of_lt (Nat.lt_of_lt_of_le (Heap.lt_size e) I.ok.above))).trans e1⟩
    · obtain ⟨o', e1⟩ := I.base.there b o e hx
      exact ⟨o', (hs.2 b (Nat.ne_of_lt (Nat.lt_of_lt_of_le (Heap.lt_size e) I.ok.above))).trans e1⟩
    · by_cases hj : j = i
      · subst hj
        rw [hi] at e1; cases e1
        rw [List.getElem?_set_self hiσ] at e2
        cases e2
        exact ⟨u, r, .inl ⟨hk, by simp⟩⟩
      · rw [List.getElem?_set_ne (Ne.symm hj)] at e2
        obtain ⟨u', r', q⟩ := hl j y v' e1 e2 e3
        refine ⟨u', r', ?_⟩
        rcases q with ⟨k, e⟩ | ⟨k, c, e, z⟩
        · refine .inl ⟨k, ?_⟩
          have : y ≠ x := fun e => hj (nodup_ix hN e1 (e ▸ hi))
          simp [this, e]
        · exact .inr ⟨k, c, e, z.sameBut hs (cne y c e)⟩
    · obtain ⟨w', z⟩ := I.cell y c e
      exact ⟨w', z.sameBut hs (cne y c e)⟩
    · obtain ⟨e, n, ne, nf, d⟩ := I.pin p hp
      exact ⟨(hs.2 p.1 ne).trans e, n, ne, nf, d⟩
  · have hfn : X.fn x = true := by
      rcases hf with z | z
      · exact z
      · rw [z] at hk; cases hk
    obtain ⟨c, hc⟩ := I.ok.has x (.inl hk)
    obtain ⟨w', z⟩ := I.cell x c hc
    refine wpAny_storeName_cell I.ok.kind hk hc z (fun h' hc' hs => ?_)
    obtain ⟨oc, hoc, hocd⟩ := id z
    refine h { s with heap := h' } ⟨I.ok, I.os, I.bare, ⟨fun b o e n hb hx => ?_, fun b o e n hb hx => ?_, I.base.free, fun b o e hx => ?_, I.base.tups, I.base.frzs, I.base.tbls⟩, ⟨m, hn.sameBut hs (Ne.symm (cne x c hc)), fun j y v' e1 e2 e3 => ?_⟩, fun y c' e => ?_, I.free, I.freeC, fun p hp => ?_, tracked ⟨oc, hoc, I.freeC x c hc⟩ hs, by simpa using I.len⟩ ⟨c, hs, .inr hc⟩
    · exact (hs.2 b (Nat.ne_of_lt (Nat.lt_of_lt_of_le (Heap.lt_size e) (I.ok.cab x c hfn hc)))).trans (I.base.keep b o e n hb hx)
    · obtain ⟨sl, e1⟩ := I.base.slot b o e n hb hx
      exact ⟨sl, (hs.2 b (Nat.ne_of_lt (Nat.lt_of_lt_of_le (Heap.lt_size e) (I.ok.cab x c hfn hc)))).trans e1⟩
    · obtain ⟨o', e1⟩ := I.base.there b o e hx
      exact ⟨o', (hs.2 b (Nat.ne_of_lt (Nat.lt_of_lt_of_le (Heap.lt_size e) (I.ok.cab x c hfn hc)))).trans e1⟩
    · by_cases hj : j = i
      · subst hj
        rw [hi] at e1; cases e1
        rw [List.getElem?_set_self hiσ] at e2
        cases e2
        exact ⟨u, r, .inr ⟨.inl hk, c, hc, hc'⟩⟩
      · rw [List.getElem?_set_ne (Ne.symm hj)] at e2
        obtain ⟨u', r', q⟩ := hl j y v' e1 e2 e3
        refine ⟨u', r', ?_⟩
        rcases q with q | ⟨k, c', e, z'⟩
        · exact .inl q
        · refine .inr ⟨k, c', e, z'.sameBut hs ?_⟩
          rintro rfl
          exact hj (nodup_ix hN e1 (I.ok.inj _ _ _ e hc ▸ hi))
    · by_cases hcc : c' = c
      · subst hcc; exact ⟨_, hc'⟩
      · obtain ⟨w2, z2⟩ := I.cell y c' e
        exact ⟨w2, z2.sameBut hs hcc⟩
    · obtain ⟨e, n, ne, nf, d⟩ := I.pin p hp
      refine ⟨(hs.2 p.1 ?_).trans e, n, ne, nf, d⟩
      intro q
      rw [q, hoc] at e
      have q' : oc = p.2 := Option.some.inj e
      exact d w' (by rw [← q']; exact hocd)
theorem store_ok {M : Model} {A : Around} {E : Value → Shared → Prop} {i : Nat} {x : Str} {v : V} {u : Value} {Q : Unit → Shared → Prop} (I : Inv X pins σ H s) (hN : X.N.Nodup) (hi : X.N[i]? = some x) (hx : Loc X.env.scope x) (r : RelV v u)
    (h : ∀ s', Inv X pins (σ.set i (some v)) H s' → Q () s') (hf : X.fn x = true ∨ X.env.scope.names.lookup x = some .local := by first | exact .inl rfl | exact .inr rfl | assumption) : wpAny M A (storeName X.env x u) Q E s :=
  store_ok2 I hN hi hx r (fun s' I' _ => h s' I') hf
theorem Inv.call' {s' : Shared} {ch : List Addr} (I : Inv X pins σ H s) (ho : s'.os = s.os) (u : Un (frs X.stack) ch H H' s.heap s'.heap) (hok : HOk X.prog X.w H' s'.heap) (hg : AllBare s'.gens)
    (hch : ∀ b ∈ ch, (b ∈ X.ex ∨ X.s₀.heap.objs.size ≤ b) ∧ b ≠ X.env.locals ∧ (∀ x c, X.env.cells.lookup x = some c → c ≠ b) ∧ ∀ p ∈ X.pn ++ pins, p.1 ≠ b) : Inv X pins σ H' s' := by
  obtain ⟨h', g', d', t', o'⟩ := s'
  have e : o' = s.os := ho
  subst e
  exact I.call (g' := g') (t' := t') (d' := d') u hok hg hch
end

abbrev XK := Value → Option Addr → Hp → Prop
abbrev St := List (Option V)
abbrev VK := V → Hp → Prop
abbrev TE := St → Hp → VK → Prop
abbrev TT := St → Hp → (Bool → Hp → Prop) → Prop
abbrev TA := St → Hp → (List V → Hp → Prop) → Prop
structure Ends where
  nx : St → Hp → Prop
  rt : VK
  bk : St → Hp → Prop := fun _ _ => False
  ct : St → Hp → Prop := fun _ _ => False
abbrev TS := Ends → St → Hp → Prop

def EP (X : Cx) (pins : List (Addr × Obj)) (σ : St) (Q : VK) (u : Value) (s' : Shared) : Prop := ∃ v H', Inv X pins σ H' s' ∧ RelV v u ∧ Q v H'
def TP (X : Cx) (pins : List (Addr × Obj)) (σ : St) (Q : Bool → Hp → Prop) (b : Bool) (s' : Shared) : Prop := ∃ H', Inv X pins σ H' s' ∧ Q b H'
def AP (X : Cx) (pins : List (Addr × Obj)) (σ : St) (Q : List V → Hp → Prop) (us : List Value) (s' : Shared) : Prop := ∃ vs H', Inv X pins σ H' s' ∧ Vals vs us ∧ Q vs H'
def SP (X : Cx) (pins : List (Addr × Obj)) (D : Ends) (f : Flow) (s' : Shared) : Prop :=
  match f with
  | .next => ∃ σ' H', Inv X pins σ' H' s' ∧ D.nx σ' H'
  | .brk => ∃ σ' H', Inv X pins σ' H' s' ∧ D.bk σ' H'
  | .cont => ∃ σ' H', Inv X pins σ' H' s' ∧ D.ct σ' H'
  | .ret u => ∃ v σ' H', Inv X pins σ' H' s' ∧ RelV v u ∧ D.rt v H'

def PE (X : Cx) (e : Expr) (t : TE) : Prop :=
  ∀ (pins : List (Addr × Obj)) (s : Shared) (σ : St) (H : Hp) (Q : VK), Inv X pins σ H s → t σ H Q → wpAny (model X.prog X.w) X.A (eval e X.env) (EP X pins σ Q) X.xe s
def PT (X : Cx) (e : Expr) (t : TT) : Prop :=
  ∀ (pins : List (Addr × Obj)) (s : Shared) (σ : St) (H : Hp) (Q : Bool → Hp → Prop), Inv X pins σ H s → t σ H Q → wpAny (model X.prog X.w) X.A (isTrue e X.env (eval e X.env)) (TP X pins σ Q) X.xe s
def PW (X : Cx) (e : Expr) (t : TT) : Prop :=
  ∀ (whole : Sem Value) (pins : List (Addr × Obj)) (s : Shared) (σ : St) (H : Hp) (Q : Bool → Hp → Prop), Inv X pins σ H s → t σ H Q → wpAny (model X.prog X.w) X.A (isTrue e X.env whole) (TP X pins σ Q) X.xe s
theorem PW.pt {X : Cx} {e : Expr} {t : TT} (h : PW X e t) : PT X e t := h _
def PA (X : Cx) (es : List Expr) (t : TA) : Prop :=
  ∀ (pos : Pos) (pins : List (Addr × Obj)) (s : Shared) (σ : St) (H : Hp) (Q : List V → Hp → Prop), Inv X pins σ H s → t σ H Q → wpAny (model X.prog X.w) X.A (spliced (backTo pos (starEach es X.env))) (AP X pins σ Q) X.xe s
def PS (X : Cx) (st : Stmt) (t : TS) : Prop :=
  ∀ (pins : List (Addr × Obj)) (s : Shared) (σ : St) (H : Hp) (D : Ends), Inv X pins σ H s → t D σ H → wpAny (model X.prog X.w) X.A (exec st X.env) (SP X pins D) X.xe s
def PSs (X : Cx) (st : List Stmt) (t : TS) : Prop :=
  ∀ (pins : List (Addr × Obj)) (s : Shared) (σ : St) (H : Hp) (D : Ends), Inv X pins σ H s → t D σ H → wpAny (model X.prog X.w) X.A (execs st X.env) (SP X pins D) X.xe s
theorem thn {α : Type} {t : Sem α} {Q Q' : α → Shared → Prop} {M : Model} {A : Around} {E : Value → Shared → Prop} {s : Shared} (h : wpAny M A t Q E s) (hQ : ∀ a s, Q a s → Q' a s) : wpAny M A t Q' E s := wpAny_mono h hQ fun _ _ x => x
end L2

namespace L2
open PySem PySem.Spec PyProof.Rows
section
variable {X : Cx}


def tVar (i : Nat) : TE := fun σ H Q => ∃ v, σ[i]? = some (some v) ∧ Q v H
def tC (v : V) : TE := fun _ H Q => Q v H
theorem pe_var {i : Nat} {x : Str} {pos : Pos} (hN : X.N[i]? = some x) (hv : Vis X.env.scope x) (hd : (x == ("__debug__" : Str)) = false := by decide) (hcd : (x == ("__classdict__" : Str)) = false := by decide) : PE X (.Name x pos) (tVar i) := by
  intro pins s σ H Q I h
  obtain ⟨v, e, h⟩ := h
  obtain ⟨m, hn, hl⟩ := I.loc
  obtain ⟨u, r, l⟩ := hl i x v hN e hv
  have fin : EP X pins σ Q u s := ⟨v, H, I, r, h⟩
  rcases l with ⟨hk, hm⟩ | ⟨hk, c, hc, hcell⟩
  · exact wpAny_Name (wpAny_loadName_local I.ok.kind hk hn hm fin) hd
  · rcases hk with hk | hk
    · exact wpAny_Name (wpAny_loadName_cell I.ok.kind hk hc hcell fin) hd
    · exact wpAny_Name (wpAny_loadName_free I.ok.kind hk hc hcell fin hcd) hd
theorem pe_int {i j pos} : PE X (.Constant (.int i) j pos) (tC (.int i)) := fun _ _ _ H _ I h => wpAny_Constant_int ⟨.int i, H, I.tok _, ⟨_, rfl⟩, h⟩
theorem pe_bl {b j pos} : PE X (.Constant (.bool b) j pos) (tC (.bl b)) := fun _ _ _ H _ I h => Constant_bool ⟨.bl b, H, I, rfl, h⟩
theorem pe_non {j pos} : PE X (.Constant .none j pos) (tC .non) := fun _ _ _ H _ I h => Constant_none ⟨.non, H, I, rfl, h⟩
theorem pe_str {x j pos} : PE X (.Constant (.str x) j pos) (tC (.str x)) := fun _ _ _ H _ I h => Calls.Constant_str ⟨.str x, H, I.tok _, ⟨_, rfl⟩, h⟩

def Gl (X : Cx) (x : Str) : Prop := X.env.kindOf x = some .globalImplicit
theorem ld_glob {E : Value → Shared → Prop} {pins : List (Addr × Obj)} {s : Shared} {σ : St} {H : Hp} {x : Str} {u : Value} {pos : Pos} {Q : Value → Shared → Prop} (I : Inv X pins σ H s) (hg : Gl X x) (hm : X.mg x = some u) (h : Q u s)
    (hd : (x == ("__debug__" : Str)) = false := by decide) : wpAny (model X.prog X.w) X.A (eval (.Name x pos) X.env) Q E s :=
  Calls.Name_function_global I.ok.kind hg (Calls.loadGlobal_global (by rw [I.ok.glob]; exact I.mod.glob.keeps I.bk) hm h) hd
theorem ld_blt {E : Value → Shared → Prop} {pins : List (Addr × Obj)} {s : Shared} {σ : St} {H : Hp} {x : Str} {u : Value} {pos : Pos} {Q : Value → Shared → Prop} (I : Inv X pins σ H s) (hg : Gl X x) (hm : X.mg x = none) (hv : bootBuiltins x = some u) (h : Q u s)
    (hn : x ≠ "__name__" := by decide) (hd : (x == ("__debug__" : Str)) = false := by decide) : wpAny (model X.prog X.w) X.A (eval (.Name x pos) X.env) Q E s := by
  obtain ⟨mb, h1, h2⟩ := I.mod.blt
  exact Calls.Name_function_global I.ok.kind hg (Calls.loadGlobal_builtin (by rw [I.ok.glob]; exact I.mod.glob.keeps I.bk) hm (by rw [I.ok.blt]; exact h1.keeps I.bk) ((h2 x hn).trans hv) h) hd
theorem pe_glob {x : Str} {v : V} {u : Value} {pos : Pos} (hg : Gl X x) (hm : X.mg x = some u) (r : RelV v u) (hd : (x == ("__debug__" : Str)) = false := by decide) : PE X (.Name x pos) (tC v) :=
  fun _ _ _ H _ I h => ld_glob I hg hm ⟨v, H, I, r, h⟩ hd
theorem pe_bltn {x : Str} {v : V} {u : Value} {pos : Pos} (hg : Gl X x) (hm : X.mg x = none) (hv : bootBuiltins x = some u) (r : RelV v u) (hn : x ≠ "__name__" := by decide) (hd : (x == ("__debug__" : Str)) = false := by decide) : PE X (.Name x pos) (tC v) :=
  fun _ _ _ H _ I h => ld_blt I hg hm hv ⟨v, H, I, r, h⟩ hn hd

variable {a b : Expr} {ta tb : TE} {pos : Pos}

def PC (X : Cx) (op : CmpOp) (a b : Expr) (t : TE) : Prop :=
  ∀ (pins : List (Addr × Obj)) (s : Shared) (σ : St) (H : Hp) (Q : VK), Inv X pins σ H s → t σ H Q →
    wpAny (model X.prog X.w) X.A (eval a X.env) (fun v s₁ => wpAny (model X.prog X.w) X.A (eval b X.env) (fun u s₂ => wpAny (model X.prog X.w) X.A (compareOp op v u) (EP X pins σ Q) X.xe s₂) X.xe s₁) X.xe s
theorem nobehind (b : Expr) {op : CmpOp} (h : op ≠ .In) (h2 : op ≠ .NotIn) : behindInMarks op b = false := by
  have e1 : (op == CmpOp.In) = false := by cases op <;> first | rfl | exact absurd rfl h
  have e2 : (op == CmpOp.NotIn) = false := by cases op <;> first | rfl | exact absurd rfl h2
  cases b <;> simp [behindInMarks, e1, e2]
def tIsN (ta : TE) : TE := fun σ H Q => ta σ H fun x H1 => Q (.bl (decide (x = .non))) H1
def tNotN (ta : TE) : TE := fun σ H Q => ta σ H fun x H1 => Q (.bl (!decide (x = .non))) H1
theorem RelV.none_iff {x : V} {v : Value} (r : RelV x v) : (v == Value.none) = decide (x = .non) := by
  cases x with
  | non => cases r; rfl
  | bl _ => cases r; rfl
  | int _ => obtain ⟨t, rfl⟩ := r; rfl
  | str _ => obtain ⟨t, rfl⟩ := r; rfl
  | byt _ => obtain ⟨t, rfl⟩ := r; rfl
  | flt _ => obtain ⟨t, rfl⟩ := r; rfl
  | ref _ => cases r; rfl
  | ty _ => cases r; rfl
theorem pc_isN {j pos'} (ha : PE X a ta) : PC X .Is a (.Constant .none j pos') (tIsN ta) := by
  intro pins s σ H Q I h
  refine thn (ha pins s σ H _ I h) fun v s1 ⟨x, H1, I1, r1, q1⟩ => ?_
  exact Constant_none (is_none_gen ⟨.bl _, H1, I1, by rw [r1.none_iff]; rfl, q1⟩)
theorem pc_notN {j pos'} (ha : PE X a ta) : PC X .IsNot a (.Constant .none j pos') (tNotN ta) := by
  intro pins s σ H Q I h
  refine thn (ha pins s σ H _ I h) fun v s1 ⟨x, H1, I1, r1, q1⟩ => ?_
  exact Constant_none (isnot_none_gen ⟨.bl _, H1, I1, by rw [r1.none_iff]; rfl, q1⟩)
def tB (t : TE) : TT := fun σ H Q => t σ H fun x H1 => ∃ c, x = .bl c ∧ Q c H1
theorem pe_cmp {op : CmpOp} {t : TE} (h : PC X op a b t) (h1 : behindInMarks op b = false := by first | exact nobehind _ (by decide) (by decide) | rfl) : PE X (.Compare a [op] [b] pos) t := fun pins s σ H Q I hw => wpAny_Compare1 (h pins s σ H Q I hw) h1
theorem pt_cmp {op : CmpOp} {t : TE} (h : PC X op a b t) (h1 : behindInMarks op b = false := by first | exact nobehind _ (by decide) (by decide) | rfl) : PT X (.Compare a [op] [b] pos) (tB t) := by
  intro pins s σ H Q I hw
  refine wpAny_isTrue_Compare1 (thn (h pins s σ H _ I hw) fun v s1 h1 => thn h1 fun u s2 h2 => thn h2 fun c s3 ⟨x, H1, I1, r1, q1⟩ => ?_) h1
  obtain ⟨d, rfl, q⟩ := q1
  cases r1
  exact wpAny_truthy_bool ⟨H1, I1, q⟩
theorem pt_val {e : Expr} {t : TE} (h : PE X e t) (he : ∀ whole, isTrue e X.env whole = (do let v ← whole; standAt e.pos; holding [v] (truthy v)) := by intro _; rfl) : PT X e (tB t) := by
  intro pins s σ H Q I hw
  refine isTrue_plain (thn (h pins s σ H _ I hw) fun v s1 ⟨x, H1, I1, r1, q1⟩ => ?_) (he _)
  obtain ⟨d, rfl, q⟩ := q1
  cases r1
  exact wpAny_truthy_bool ⟨H1, I1, q⟩

variable {tA tB' : TT} {rest : List Expr}
def tAnd (t u : TT) : TT := fun σ H Q => t σ H fun c H1 => if c = true then u σ H1 Q else Q false H1
def tOr (t u : TT) : TT := fun σ H Q => t σ H fun c H1 => if c = true then Q true H1 else u σ H1 Q
def tNot (t : TT) : TT := fun σ H Q => t σ H fun c H1 => Q (!c) H1
theorem pw_and1 (ha : PT X a tA) : PW X (.BoolOp .And [a] pos) tA := by
  intro wh pins s σ H Q I h
  refine isTrue_and (thn (ha pins s σ H Q I h) fun c s1 e => ?_)
  cases c with
  | true => exact isTrue_and_nil e
  | false => exact e
theorem pw_or1 (ha : PT X a tA) : PW X (.BoolOp .Or [a] pos) tA := by
  intro wh pins s σ H Q I h
  refine isTrue_or (thn (ha pins s σ H Q I h) fun c s1 e => ?_)
  cases c with
  | false => exact isTrue_or_nil e
  | true => exact e
theorem pw_and (ha : PT X a tA) (hb : PW X (.BoolOp .And (b :: rest) pos) tB') : PW X (.BoolOp .And (a :: b :: rest) pos) (tAnd tA tB') := by
  intro wh pins s σ H Q I h
  refine isTrue_and (thn (ha pins s σ H _ I h) fun c s1 ⟨H1, I1, q1⟩ => ?_)
  cases c with
  | true => exact hb wh pins s1 σ H1 Q I1 q1
  | false => exact ⟨H1, I1, q1⟩
theorem pw_or (ha : PT X a tA) (hb : PW X (.BoolOp .Or (b :: rest) pos) tB') : PW X (.BoolOp .Or (a :: b :: rest) pos) (tOr tA tB') := by
  intro wh pins s σ H Q I h
  refine isTrue_or (thn (ha pins s σ H _ I h) fun c s1 ⟨H1, I1, q1⟩ => ?_)
  cases c with
  | true => exact ⟨H1, I1, q1⟩
  | false => exact hb wh pins s1 σ H1 Q I1 q1
theorem pt_not (ha : PT X a tA) : PT X (.UnaryOp .Not a pos) (tNot tA) := by
  intro pins s σ H Q I h
  exact isTrue_not (ha pins s σ H (fun c H1 => Q (!c) H1) I h)
def tAndV (ta tb : TE) : TE := fun σ H Q => ta σ H fun x H1 => ∃ c, x = .bl c ∧ if c = true then tb σ H1 Q else Q (.bl false) H1
def tOrV (ta tb : TE) : TE := fun σ H Q => ta σ H fun x H1 => ∃ c, x = .bl c ∧ if c = true then Q (.bl true) H1 else tb σ H1 Q
def tNotV (ta : TE) : TE := fun σ H Q => ta σ H fun x H1 => ∃ c, x = .bl c ∧ Q (.bl (!c)) H1
theorem pe_one {op} {t : TE} (h : PE X a t) : PE X (.BoolOp op [a] pos) t := fun pins s σ H Q I hw => BoolOp_one (h pins s σ H Q I hw)
theorem pe_and (ha : PE X a ta) (hb : PE X (.BoolOp .And (b :: rest) pos) tb) : PE X (.BoolOp .And (a :: b :: rest) pos) (tAndV ta tb) := by
  intro pins s σ H Q I h
  refine BoolOp_and (thn (ha pins s σ H _ I h) fun v s1 ⟨x, H1, I1, r1, q1⟩ => ?_)
  obtain ⟨c, rfl, q1⟩ := q1
  cases r1
  refine wpAny_truthy_bool ?_
  cases c with
  | true => exact hb pins s1 σ H1 Q I1 q1
  | false => exact ⟨.bl false, H1, I1, rfl, q1⟩
theorem pe_or (ha : PE X a ta) (hb : PE X (.BoolOp .Or (b :: rest) pos) tb) : PE X (.BoolOp .Or (a :: b :: rest) pos) (tOrV ta tb) := by
  intro pins s σ H Q I h
  refine BoolOp_or (thn (ha pins s σ H _ I h) fun v s1 ⟨x, H1, I1, r1, q1⟩ => ?_)
  obtain ⟨c, rfl, q1⟩ := q1
  cases r1
  refine wpAny_truthy_bool ?_
  cases c with
  | false => exact hb pins s1 σ H1 Q I1 q1
  | true => exact ⟨.bl true, H1, I1, rfl, q1⟩
theorem pe_not (ha : PE X a ta) : PE X (.UnaryOp .Not a pos) (tNotV ta) := by
  intro pins s σ H Q I h
  refine UnaryOp_ (thn (ha pins s σ H _ I h) fun v s1 ⟨x, H1, I1, r1, q1⟩ => ?_)
  obtain ⟨c, rfl, q1⟩ := q1
  cases r1
  exact not_of (wpAny_truthy_bool ⟨.bl (!c), H1, I1, rfl, q1⟩)
def tIf (t : TT) (ta tb : TE) : TE := fun σ H Q => t σ H fun c H1 => if c = true then ta σ H1 Q else tb σ H1 Q
theorem pe_ifExp {c : Expr} (hc : PT X c tA) (ha : PE X a ta) (hb : PE X b tb) : PE X (.IfExp c a b pos) (tIf tA ta tb) := by
  intro pins s σ H Q I h
  refine wpAny_IfExp (thn (hc pins s σ H _ I h) fun d s1 ⟨H1, I1, q1⟩ => ?_)
  cases d with
  | true => exact ha pins s1 σ H1 Q I1 q1
  | false => exact hb pins s1 σ H1 Q I1 q1
end
end L2

namespace L2
open PySem PySem.Spec PyProof.Rows

def SqL (K : PySem.W.Frag) (H : Hp) (a : Addr) (xs : List V) : Prop :=
  Rd H a (.lst xs) ∨
    ∃ (o : Obj) (its : Array Value) (n : Nat), K.lookup a = some o ∧ o.cls = .type "list" ∧ o.dict = none ∧ o.data = .seq its n ∧ its.size ≤ sizeLine ∧ Vals xs its.toList
def SqT (K : PySem.W.Frag) (H : Hp) (a : Addr) (xs : List V) : Prop :=
  Rd H a (.tup xs) ∨
    ∃ (o : Obj) (its : Array Value) (n : Nat), K.lookup a = some o ∧ o.cls = .type "tuple" ∧ o.data = .seq its n ∧ its.size ≤ sizeLine ∧ Vals xs its.toList
def absV : Value → Option V
  | .none => some .non
  | .bool b => some (.bl b)
  | .int i _ => some (.int i)
  | .str x _ => some (.str x)
  | .bytes b _ => some (.byt b)
  | .float b _ => some (.flt b)
  | .ref a => some (.ref a)
  | .type n => some (.ty n)
  | _ => none
theorem RelV.abs {x : V} {u : Value} (r : RelV x u) : absV u = some x := by
  cases x with
  | non => cases r; rfl
  | bl _ => cases r; rfl
  | int _ => obtain ⟨t, rfl⟩ := r; rfl
  | str _ => obtain ⟨t, rfl⟩ := r; rfl
  | byt _ => obtain ⟨t, rfl⟩ := r; rfl
  | flt _ => obtain ⟨t, rfl⟩ := r; rfl
  | ref _ => cases r; rfl
  | ty _ => cases r; rfl
theorem RelV.inj {x y : V} {u : Value} (r : RelV x u) (q : RelV y u) : x = y := Option.some.inj (r.abs.symm.trans q.abs)
theorem Vals.inj : ∀ {xs ys : List V} {us : List Value}, Vals xs us → Vals ys us → xs = ys
  | _, _, _, .nil, .nil => rfl
  | _, _, _, .cons r t, .cons r' t' => by rw [r.inj r', Vals.inj t t']
section
variable {X : Cx} {pins : List (Addr × Obj)} {σ : St} {H : Hp} {s : Shared} {a : Addr} {xs ys : List V}
theorem SqL.of {K : PySem.W.Frag} (h : H a = some (.lst xs)) : SqL K H a xs := .inl (.inl h)
theorem SqT.of {K : PySem.W.Frag} (h : H a = some (.tup xs)) : SqT K H a xs := .inl (.inl h)
theorem Inv.list (I : Inv X pins σ H s) (h : SqL X.K H a xs) : ∃ its : List Value, Vals xs its ∧ PlainL s.heap a its.toArray ∧ xs.length ≤ sizeLine := by
  rcases h with h | ⟨o, its, n, hk, hc, hd, hs, hz, r⟩
  · obtain ⟨z, its, n, r, e⟩ := h.ok I.hok
    exact ⟨its, r, ⟨_, n, e, rfl, rfl, rfl⟩, z⟩
  · refine ⟨its.toList, r, ⟨o, n, I.kIn a o hk, hc, hd, by simpa using hs⟩, ?_⟩
    have e := r.length
    simp only [Array.length_toList] at e
    omega
theorem Inv.tuple (I : Inv X pins σ H s) (h : SqT X.K H a xs) : ∃ its : List Value, Vals xs its ∧ IsTup s.heap a its.toArray ∧ xs.length ≤ sizeLine := by
  rcases h with h | ⟨o, its, n, hk, hc, hs, hz, r⟩
  · obtain ⟨z, its, r, p⟩ := h.ok I.hok
    exact ⟨its, r, p, z⟩
  · refine ⟨its.toList, r, ⟨o, I.kIn a o hk, hc, n, by simpa using hs⟩, ?_⟩
    have e := r.length
    simp only [Array.length_toList] at e
    omega
theorem Inv.list_inj (I : Inv X pins σ H s) (h : SqL X.K H a xs) (h' : SqL X.K H a ys) : xs = ys := by
  obtain ⟨its, r, ⟨o, n, e, _, _, d⟩, _⟩ := I.list h
  obtain ⟨its', r', ⟨o', n', e', _, _, d'⟩, _⟩ := I.list h'
  rw [e] at e'; cases e'
  rw [d] at d'
  injection d' with d1 _
  have : its = its' := by simpa using congrArg Array.toList d1
  subst this
  exact r.inj r'
theorem Inv.tuple_inj (I : Inv X pins σ H s) (h : SqT X.K H a xs) (h' : SqT X.K H a ys) : xs = ys := by
  obtain ⟨its, r, ⟨o, e, _, n, d⟩, _⟩ := I.tuple h
  obtain ⟨its', r', ⟨o', e', _, n', d'⟩, _⟩ := I.tuple h'
  rw [e] at e'; cases e'
  rw [d] at d'
  injection d' with d1 _
  have : its = its' := by simpa using congrArg Array.toList d1
  subst this
  exact r.inj r'
end

abbrev Cx.wish (X : Cx) (E : Value → Shared → Prop) : Cx := { X with xe := E }
abbrev Cx.nox (X : Cx) : Cx := X.wish fun _ _ => False
theorem Cx.Ok.wish {X : Cx} (ok : X.Ok) (E : Value → Shared → Prop) : (X.wish E).Ok :=
  ⟨ok.mod, ok.kind, ok.glob, ok.blt, ok.above, ok.inj, ok.has, ok.cab, ok.hd, ok.frames, ok.stk, ok.exf, ok.bs, ok.bsz, ok.noex, ok.exfs, ok.funs, ok.frf⟩
theorem Cx.Ok.unwish {X : Cx} {E : Value → Shared → Prop} (ok : (X.wish E).Ok) : X.Ok :=
  ⟨ok.mod, ok.kind, ok.glob, ok.blt, ok.above, ok.inj, ok.has, ok.cab, ok.hd, ok.frames, ok.stk, ok.exf, ok.bs, ok.bsz, ok.noex, ok.exfs, ok.funs, ok.frf⟩
section
variable {X : Cx} {pins : List (Addr × Obj)} {σ : St} {H : Hp} {s : Shared} {E : Value → Shared → Prop}
theorem Inv.wish (I : Inv X pins σ H s) (E : Value → Shared → Prop) : Inv (X.wish E) pins σ H s := ⟨I.ok.wish E, I.os, I.bare, I.base, I.loc, I.cell, I.free, I.freeC, I.pin, I.hok, I.len⟩
theorem Inv.unwish (I : Inv (X.wish E) pins σ H s) : Inv X pins σ H s := ⟨I.ok.unwish, I.os, I.bare, I.base, I.loc, I.cell, I.free, I.freeC, I.pin, I.hok, I.len⟩
theorem SP.unwish {D : Ends} {f : Flow} {s' : Shared} (h : SP (X.wish E) pins D f s') : SP X pins D f s' := by
  cases f with
  | next => obtain ⟨σ', H', I, q⟩ := h; exact ⟨σ', H', I.unwish, q⟩
  | brk => obtain ⟨σ', H', I, q⟩ := h; exact ⟨σ', H', I.unwish, q⟩
  | cont => obtain ⟨σ', H', I, q⟩ := h; exact ⟨σ', H', I.unwish, q⟩
  | ret u => obtain ⟨v, σ', H', I, r, q⟩ := h; exact ⟨v, σ', H', I.unwish, r, q⟩
theorem PE.nox {e : Expr} {t : TE} (h : PE X.nox e t) : PE X e t := fun pins s σ H Q I hw =>
  wpAny_mono (h pins s σ H Q (I.wish _) hw) (fun _ _ ⟨v, H', I', r, q⟩ => ⟨v, H', I'.unwish, r, q⟩) fun _ _ z => False.elim z
theorem PT.nox {e : Expr} {t : TT} (h : PT X.nox e t) : PT X e t := fun pins s σ H Q I hw =>
  wpAny_mono (h pins s σ H Q (I.wish _) hw) (fun _ _ ⟨H', I', q⟩ => ⟨H', I'.unwish, q⟩) fun _ _ z => False.elim z
theorem PSs.nox {st : List Stmt} {t : TS} (h : PSs X.nox st t) : PSs X st t := fun pins s σ H D I hw =>
  wpAny_mono (h pins s σ H D (I.wish _) hw) (fun _ _ q => q.unwish) fun _ _ z => False.elim z
end

section
variable {X : Cx} {st : Stmt} {rest : List Stmt} {t u : TS} {e : Expr} {te : TE} {pos : Pos}
def tNext : TS := fun D σ H => D.nx σ H
def tSeq (t u : TS) : TS := fun D σ H => t { D with nx := u D } σ H
theorem pss_nil : PSs X [] tNext := fun _ _ σ H _ I h => wpAny_execs_nil ⟨σ, H, I, h⟩
theorem pss_cons (h1 : PS X st t) (h2 : PSs X rest u) : PSs X (st :: rest) (tSeq t u) := by
  intro pins s σ H D I h
  refine wpAny_execs_cons (thn (h1 pins s σ H { D with nx := u D } I h) fun f s1 q => ?_)
  cases f with
  | next =>
    obtain ⟨σ', H', I', q⟩ := q
    exact h2 pins s1 σ' H' D I' q
  | ret v => exact q
  | brk => exact q
  | cont => exact q
theorem pss_one (h1 : PS X st t) : PSs X [st] t := by
  intro pins s σ H D I h
  refine wpAny_execs_cons (thn (h1 pins s σ H D I h) fun f s1 q => ?_)
  cases f with
  | next => exact wpAny_execs_nil q
  | ret v => exact q
  | brk => exact q
  | cont => exact q
theorem Inv.quiet {pins : List (Addr × Obj)} {σ : St} {H : Hp} {s : Shared} (I : Inv X pins σ H s) : interactive X.env = false := by simp [interactive, I.ok.kind]
def tDrop (te : TE) : TS := fun D σ H => te σ H fun _ H1 => D.nx σ H1
theorem ps_expr (he : PE X e te) (hs : swapsWith e none pos.line X.env = pure false := by rfl) : PS X (.Expr e pos) (tDrop te) := by
  intro pins s σ H D I h
  exact wpAny_Expr_any (thn (he pins s σ H _ I h) fun v s1 ⟨x, H1, I1, r1, q1⟩ => ⟨σ, H1, I1, q1⟩) I.quiet hs
def tRet (te : TE) : TS := fun D σ H => te σ H D.rt
theorem ps_ret (he : PE X e te) : PS X (.Return (some e) pos) (tRet te) := by
  intro pins s σ H D I h
  exact wpAny_Return_some (thn (he pins s σ H _ I h) fun v s1 ⟨x, H1, I1, r1, q1⟩ => ⟨x, σ, H1, I1, r1, q1⟩)
def tIfS (c : TT) (t u : TS) : TS := fun D σ H => c σ H fun b H1 => if b = true then t D σ H1 else u D σ H1
theorem ps_if {c : Expr} {a b : List Stmt} {tc : TT} (hc : PT X c tc) (ha : PSs X a t) (hb : PSs X b u) : PS X (.If c a b pos) (tIfS tc t u) := by
  intro pins s σ H D I h
  refine wpAny_If (thn (hc pins s σ H _ I h) fun d s1 ⟨H1, I1, q1⟩ => ?_)
  cases d with
  | true => exact ha pins s1 σ H1 D I1 q1
  | false => exact hb pins s1 σ H1 D I1 q1
def tNever : TS := fun _ _ _ => False
theorem ps_never : PS X st tNever := fun _ _ _ _ _ _ h => h.elim
end

abbrev TG := V → St → Hp → (St → Hp → Prop) → Prop
abbrev TGs := List V → St → Hp → (St → Hp → Prop) → Prop
def PG (X : Cx) (target : Expr) (t : TG) : Prop :=
  ∀ (pins : List (Addr × Obj)) (s : Shared) (σ : St) (H : Hp) (v : V) (u : Value) (Q : St → Hp → Prop), Inv X pins σ H s → RelV v u → t v σ H Q →
    wpAny (model X.prog X.w) X.A (assign target X.env u) (fun _ s' => ∃ σ' H', Inv X pins σ' H' s' ∧ Q σ' H') X.xe s
def PGs (X : Cx) (ts : List Expr) (t : TGs) : Prop :=
  ∀ (pins : List (Addr × Obj)) (s : Shared) (σ : St) (H : Hp) (vs : List V) (us : List Value) (Q : St → Hp → Prop), Inv X pins σ H s → Vals vs us → t vs σ H Q →
    wpAny (model X.prog X.w) X.A (assignInOrder ((assignEach ts X.env).map (·.2)) us) (fun _ s' => ∃ σ' H', Inv X pins σ' H' s' ∧ Q σ' H') X.xe s
abbrev TSet := V → V → V → Hp → (Hp → Prop) → Prop
def PSet (X : Cx) (t : TSet) : Prop :=
  ∀ (pins : List (Addr × Obj)) (s : Shared) (σ : St) (H : Hp) (o i v : V) (ov iv u : Value) (Q : Hp → Prop), Inv X pins σ H s → RelV o ov → RelV i iv → RelV v u → t o i v H Q →
    wpAny (model X.prog X.w) X.A (setItem ov iv u) (fun _ s' => ∃ H', Inv X pins σ H' s' ∧ Q H') X.xe s
section
variable {X : Cx} {pos : Pos}
def gName (i : Nat) : TG := fun v σ H Q => Q (σ.set i (some v)) H
theorem pg_name {i : Nat} {x : Str} (hN : X.N.Nodup) (hi : X.N[i]? = some x) (hx : Loc X.env.scope x) (hf : X.fn x = true ∨ X.env.scope.names.lookup x = some .local := by first | exact .inl rfl | exact .inr rfl | assumption) : PG X (.Name x pos) (gName i) := by
  intro pins s σ H v u Q I r h
  exact wpAny_assign_Name (store_ok I hN hi hx r (fun s' I' => ⟨_, H, I', h⟩) hf)
def gNil : TGs := fun vs σ H Q => vs = [] ∧ Q σ H
def gCons (t : TG) (u : TGs) : TGs := fun vs σ H Q => ∃ v r, vs = v :: r ∧ t v σ H fun σ' H' => u r σ' H' Q
theorem pgs_nil : PGs X [] gNil := by
  intro pins s σ H vs us Q I r h
  obtain ⟨e, h⟩ := h
  subst e
  cases r
  exact assignInOrder_nil ⟨σ, H, I, h⟩
theorem pgs_cons {e : Expr} {es : List Expr} {t : TG} {u : TGs} (h1 : PG X e t) (h2 : PGs X es u)
    (hs : (assignEach (e :: es) X.env).map (·.2) = assign e X.env :: (assignEach es X.env).map (·.2) := by rfl) : PGs X (e :: es) (gCons t u) := by
  intro pins s σ H vs us Q I r h
  obtain ⟨v, vr, e1, h⟩ := h
  subst e1
  cases r with
  | cons r rr =>
    rw [hs]
    refine assignInOrder_cons (thn (h1 pins s σ H _ _ _ I r h) fun _ s1 ⟨σ1, H1, I1, q1⟩ => ?_)
    exact h2 pins s1 σ1 H1 _ _ Q I1 rr q1
def gTup (K : PySem.W.Frag) (n : Nat) (t : TGs) : TG := fun v σ H Q => ∃ a xs, v = .ref a ∧ SqT K H a xs ∧ xs.length = n ∧ t xs σ H Q
theorem pg_tup {es : List Expr} {k : Nat} {t : TGs} {n : Nat} (hc : X.calm = true) (h : PGs X es t)
    (hn : (assignEach es X.env).length = n := by rfl) (hst : (assignEach es X.env).findIdx? (·.1) = none := by rfl) : PG X (.Tuple es k pos) (gTup X.K n t) := by
  intro pins s σ H v u Q I r hw
  obtain ⟨a, xs, e1, hq, hl, hw⟩ := hw
  subst e1
  cases r
  obtain ⟨its, rv, ht, hz⟩ := I.tuple hq
  refine assign_Tuple_tuple (I.ok.hd hc) ht (by simp [hn, ← hl, rv.length]) hst fun h' hx => ?_
  have I1 : Inv X pins σ H { s with heap := h' } := I.kept (t' := s.toks) fun b o e => hx b o (Nat.ne_of_lt (Heap.lt_size e)) e
  exact h pins _ σ H xs _ Q I1 (by simpa using rv) hw
def gSub (to ti : TE) (t : TSet) : TG := fun v σ H Q => to σ H fun o H1 => ti σ H1 fun i H2 => t o i v H2 fun H3 => Q σ H3
theorem pg_sub {o i : Expr} {to ti : TE} {t : TSet} (ho : PE X o to) (hi : PE X i ti) (hs : PSet X t)
    (ha : ∀ v, assign (.Subscript o i pos) X.env v = (do
      let ov ← holding [v] (eval o X.env)
      let iv ← holding [v, ov] (eval i X.env)
      standAt pos
      holding [v, ov, iv] (setItem ov iv v)
      release [v, ov, iv] []) := by intro _; rfl) : PG X (.Subscript o i pos) (gSub to ti t) := by
  intro pins s σ H v u Q I r h
  rw [ha]
  refine wpAny_bind (wpAny_holding (thn (ho pins s σ H _ I h) fun ov s1 ⟨x, H1, I1, r1, q1⟩ => ?_))
  refine wpAny_bind (wpAny_holding (thn (hi pins s1 σ H1 _ I1 q1) fun iv s2 ⟨y, H2, I2, r2, q2⟩ => ?_))
  refine wpAny_bind (wpAny_standAt (wpAny_bind (wpAny_holding (thn (hs pins s2 σ H2 x y v ov iv u _ I2 r1 r2 r q2) fun _ s3 ⟨H3, I3, q3⟩ => ?_))))
  exact wpAny_release ⟨σ, H3, I3, q3⟩
def tAsg (te : TE) (g : TG) : TS := fun D σ H => te σ H fun x H1 => g x σ H1 D.nx
theorem ps_asg {tg e : Expr} {te : TE} {g : TG} (he : PE X e te) (hg : PG X tg g) (hs : swapsWithSole [tg] e pos.line X.env = pure false := by rfl) (hw : swappedStores [tg] e X.env = pure none := by rfl)
    (h1 : (assignEach [tg] X.env).map (·.2) = [assign tg X.env] := by rfl) : PS X (.Assign [tg] e pos) (tAsg te g) := by
  intro pins s σ H D I h
  refine wpAny_Assign_stores (thn (he pins s σ H _ I h) fun v s1 ⟨x, H1, I1, r1, q1⟩ => ?_) hs hw
  rw [h1]
  exact thn (hg pins s1 σ H1 x v _ I1 r1 q1) fun _ s2 q => q
theorem ps_set {i : Nat} {x : Str} {e : Expr} {te : TE} {pos' : Pos} (hN : X.N.Nodup) (hi : X.N[i]? = some x) (hx : Loc X.env.scope x) (he : PE X e te) (hs : swapsWith e (some (.Name x pos')) pos.line X.env = pure false := by rfl) (hf : X.fn x = true ∨ X.env.scope.names.lookup x = some .local := by first | exact .inl rfl | exact .inr rfl | assumption) :
    PS X (.Assign [.Name x pos'] e pos) (tAsg te (gName i)) := by
  intro pins s σ H D I h
  refine wpAny_Assign_Name (thn (he pins s σ H _ I h) fun v s1 ⟨y, H1, I1, r1, q1⟩ => ?_) hs
  exact store_ok I1 hN hi hx r1 (fun s2 I2 => ⟨_, H1, I2, q1⟩) hf
def tPar (i j : Nat) (ta : TA) : TS := fun D σ H => ta σ H fun vs H1 => ∃ v w, vs = [v, w] ∧ D.nx ((σ.set i (some v)).set j (some w)) H1
theorem ps_par {i j : Nat} {x y : Str} {a b : Expr} {ta : TA} {px py pt : Pos} {kt k2 pt2} (hc : X.calm = true) (hN : X.N.Nodup) (hi : X.N[i]? = some x) (hj : X.N[j]? = some y) (hij : i ≠ j)
    (hx : X.env.scope.names.lookup x = some .local) (hy : X.env.scope.names.lookup y = some .local) (ha : PA X [a, b] ta)
    (hw : swappedStores [.Tuple [.Name x px, .Name y py] kt pt] (.Tuple [a, b] k2 pt2) X.env = pure (some [x, y]))
    (hs : swapsWithSole [.Tuple [.Name x px, .Name y py] kt pt] (.Tuple [a, b] k2 pt2) pos.line X.env = pure false := by rfl) :
    PS X (.Assign [.Tuple [.Name x px, .Name y py] kt pt] (.Tuple [a, b] k2 pt2) pos) (tPar i j ta) := by
  intro pins s σ H D I h
  rw [exec_Assign_arm]
  refine wpAny_bind (wpAny_standAt ?_)
  rw [hs]
  refine wpAny_bind (wpAny_pure ?_)
  rw [if_neg (by decide)]
  refine wpAny_bind (Tuple_ (thn (ha _ pins s σ H _ I h) fun us s1 ⟨vs, H1, I1, r1, q1⟩ => ?_))
  obtain ⟨v, w, e1, q1⟩ := q1
  subst e1
  obtain ⟨u1, u2, rfl, rv, rw'⟩ : ∃ u1 u2, us = [u1, u2] ∧ RelV v u1 ∧ RelV w u2 := by
    cases r1 with
    | cons p q =>
      cases q with
      | cons p' q' =>
        cases q'
        exact ⟨_, _, rfl, p, p'⟩
  refine wpAny_newObj_type ?_ (by show 2 ≤ sizeLine; decide)
  have I2 : Inv X pins σ H1 { s1 with heap := s1.heap.push { cls := .type "tuple", data := .seq [u1, u2].toArray } } := I1.kept (t' := s1.toks) fun b o e => Heap.get?_push_of_some _ e
  rw [hw]
  refine wpAny_bind (wpAny_pure ?_)
  show wpAny (model X.prog X.w) X.A (do rule "assign.swapped-stores"; let items ← unpackItems (.ref s1.heap.objs.size) 2 none; assignInOrder [fun v => bindName X.env y v, fun v => bindName X.env x v] items.reverse; pure Flow.next) _ _ _
  refine wpAny_bind (wpAny_rule (wpAny_bind (unpackItems_tuple (items := #[u1, u2]) (I.ok.hd hc) (IsTup.new s1.heap _) fun h' hx' => ?_)))
  have I3 := I2.kept (h' := h') (t' := s1.toks) fun b o e => hx' b o (Nat.ne_of_lt (Heap.lt_size e)) e
  show wpAny _ _ (assignInOrder [fun v => bindName X.env y v, fun v => bindName X.env x v] [u2, u1] >>= fun _ => pure Flow.next) _ _ _
  refine wpAny_bind (assignInOrder_cons (wpAny_bindName (store_ok I3 hN hj (.inl hy) rw' (fun s2 I4 => ?_) (.inr hy))))
  refine assignInOrder_cons (wpAny_bindName (store_ok I4 hN hi (.inl hx) rv (fun s3 I5 => assignInOrder_nil (wpAny_pure ?_)) (.inr hx)))
  rw [List.set_comm _ _ (Ne.symm hij)] at I5
  exact ⟨_, H1, I5, q1⟩
end

section
variable {X : Cx} {pos : Pos}
def tWhile (c : TT) (tb : TS) : TS := fun D σ H => ∃ W : Nat → St → Hp → Prop, (∃ m, W m σ H) ∧ ∀ m σ H, W m σ H →
  c σ H fun b H1 => if b = true then ∃ N : St → Hp → Prop, (∀ σ' H', N σ' H' → ∃ m', m' < m ∧ W m' σ' H') ∧ tb { D with nx := N, ct := N, bk := D.nx } σ H1 else D.nx σ H1
theorem ps_while {c : Expr} {body : List Stmt} {tc : TT} {tb : TS} (hp : PassesOwn (model X.prog X.w) X.A X.env X.xe) (hc : PT X c tc) (hb : PSs X body tb) : PS X (.While c body [] pos) (tWhile tc tb) := by
  intro pins s σ H D I h
  obtain ⟨W, ⟨m0, w0⟩, turn⟩ := h
  refine wpAny_While (codeAny_whileLoop (fun n s' => ∃ σ' H', Inv X pins σ' H' s' ∧ W n σ' H') ?_ m0 ⟨σ, H, I, w0⟩)
  rintro n s1 ⟨σ1, H1, I1, w1⟩
  refine wpAny_passesOwn hp (thn (hc pins s1 σ1 H1 _ I1 (turn n σ1 H1 w1)) fun b s2 ⟨H2, I2, q2⟩ => ?_)
  cases b with
  | true =>
    obtain ⟨N, hN, q2⟩ := q2
    rw [if_pos rfl]
    refine wpAny_passesOwn hp (thn (hb pins s2 σ1 H2 _ I2 q2) fun f s3 q3 => ?_)
    cases f with
    | next =>
      obtain ⟨σ3, H3, I3, n3⟩ := q3
      obtain ⟨m', hm, w3⟩ := hN σ3 H3 n3
      exact ⟨m', hm, σ3, H3, I3, w3⟩
    | cont =>
      obtain ⟨σ3, H3, I3, n3⟩ := q3
      obtain ⟨m', hm, w3⟩ := hN σ3 H3 n3
      exact ⟨m', hm, σ3, H3, I3, w3⟩
    | brk => exact q3
    | ret v => exact q3
  | false =>
    rw [if_neg Bool.false_ne_true]
    exact wpAny_execs_nil ⟨σ1, H2, I2, q2⟩
end

structure It where
  go : Nat → Hp → Prop
  yld : Nat → Hp → V → Hp → Prop
  stop : Nat → Hp → Prop
def FpOk (X : Cx) (pins : List (Addr × Obj)) (H : Hp) (b : Addr) : Prop :=
  H b = none ∧ b ≠ X.env.locals ∧ b ∉ X.fs ∧ (b ∈ X.ex ∨ X.s₀.heap.objs.size ≤ b) ∧ (∀ x c, X.env.cells.lookup x = some c → c ≠ b) ∧ ∀ p ∈ X.pn ++ pins, p.1 ≠ b
theorem Inv.fpOk {X : Cx} {pins : List (Addr × Obj)} {σ : St} {H H' : Hp} {s : Shared} {b : Addr} (I : Inv X pins σ H s) (hb : s.heap.objs.size ≤ b) (hn : H' b = none) : FpOk X pins H' b := by
  refine ⟨hn, Nat.ne_of_gt (Nat.lt_of_lt_of_le I.lt hb), I.nofs hb, .inr (Nat.le_trans I.sz hb), fun x c e z => ?_, fun p hp z => ?_⟩
  · obtain ⟨v, q⟩ := I.cell x c e
    exact absurd (Nat.lt_of_lt_of_le q.lt (by rw [z]; exact hb)) (Nat.lt_irrefl _)
  · exact absurd (Nat.lt_of_lt_of_le (Heap.lt_size (I.pin p hp).1) (by rw [z]; exact hb)) (Nat.lt_irrefl _)
structure Turn (P : Program) (w : World) (K : PySem.W.Frag) (tg : Expr) (J : It) (fp : List Addr) (it : Addr) (tn : Nat → Heap → Prop) : Prop where
  mem : it ∈ fp
  obj : ∀ i h, tn i h → ∀ b ∈ fp, ∃ o, h.get? b = some o ∧ ∀ v, o.data ≠ .cell v
  keep : ∀ i h h', tn i h → (∀ b ∈ fp, ∀ o, h.get? b = some o → h'.get? b = some o) → tn i h'
  item : ∀ (X : Cx), X.prog = P → X.w = w → X.K = K → X.calm = true → ∀ (i : Nat) (pins : List (Addr × Obj)) (s : Shared) (σ : St) (H : Hp) (E : Value → Shared → Prop), Inv X pins σ H s → (∀ b ∈ fp, FpOk X pins H b) → tn i s.heap → J.go i H →
    wpAny (model P w) X.A (pyNext (.ref it)) (fun r s1 => ∃ u, r = some u ∧
      wpAny (model P w) X.A (letOwnedTupleGo tg (.ref it) u) (fun _ s2 => ∃ x H', Inv X pins σ H' s2 ∧ RelV x u ∧ J.yld i H x H' ∧ tn (i + 1) s2.heap ∧ ∀ b ∈ fp, H' b = none) E s1) E s
  done : ∀ (X : Cx), X.prog = P → X.w = w → X.K = K → X.calm = true → ∀ (i : Nat) (pins : List (Addr × Obj)) (s : Shared) (σ : St) (H : Hp) (E : Value → Shared → Prop), Inv X pins σ H s → (∀ b ∈ fp, FpOk X pins H b) → tn i s.heap → J.stop i H →
    wpAny (model P w) X.A (pyNext (.ref it)) (fun r s1 => r = none ∧ Inv X pins σ H s1) E s
  self : ∀ (A : Around) (i : Nat) (s : Shared) (Q : Value → Shared → Prop) (E : Value → Shared → Prop), tn i s.heap → Q (.ref it) s → wpAny (model P w) A (pyIter (.ref it)) Q E s
abbrev TI := St → Hp → (It → Hp → Prop) → Prop
def PIE (X : Cx) (pins : List (Addr × Obj)) (σ : St) (tg : Expr) (R : It → Hp → Prop) (itv : Value) (s2 : Shared) : Prop :=
  ∃ (it : Addr) (fp : List Addr) (tn : Nat → Heap → Prop) (J : It) (H' : Hp), itv = .ref it ∧ Inv X pins σ H' s2 ∧ Turn X.prog X.w X.K tg J fp it tn ∧ tn 0 s2.heap ∧ (∀ b ∈ fp, FpOk X pins H' b) ∧ R J H'
def PI (X : Cx) (tg iter : Expr) (wi : TI) : Prop :=
  ∀ (pins : List (Addr × Obj)) (s : Shared) (σ : St) (H : Hp) (R : It → Hp → Prop), Inv X pins σ H s → wi σ H R →
    wpAny (model X.prog X.w) X.A (eval iter X.env) (fun v s1 => wpAny (model X.prog X.w) X.A (pyIter v) (PIE X pins σ tg R) X.xe s1) X.xe s

theorem go_of {M : Model} {A : Around} {E : Value → Shared → Prop} {s : Shared} {tg : Expr} {it : Addr} {u : Value} {o : Obj} {n : String} {vs : Array Value} {Q : Unit → Shared → Prop} (ho : s.heap.get? it = some o) (hc : o.cls = .type n) (hd : o.data = .fields vs)
    (hn : ["enumerate", "zip", "dict_itemiterator", "dict_reverseitemiterator", "odict_iterator", "itertools.zip_longest", "itertools.pairwise"].contains n = false) (hQ : Q () s) : wpAny M A (letOwnedTupleGo tg (.ref it) u) Q E s := by
  unfold letOwnedTupleGo
  cases tg <;> first
    | exact wpAny_pure hQ
    | (cases u <;> first
        | exact wpAny_pure hQ
        | (refine wpAny_bind (wpAny_load ho ?_)
           rw [hc, hd]
           show wpAny M A (if (["enumerate", "zip", "dict_itemiterator", "dict_reverseitemiterator", "odict_iterator", "itertools.zip_longest", "itertools.pairwise"].contains n && vs[0]? == some (rawInt _)) = true then _ else _) Q E s
           rw [if_neg (by intro h; rw [hn, Bool.false_and] at h; cases h)]
           exact wpAny_pure hQ))

def Itl (K : PySem.W.Frag) (a : Addr) : It :=
  ⟨fun i H => ∃ xs x, SqL K H a xs ∧ xs[i]? = some x, fun i H x H' => H' = H ∧ ∀ xs, SqL K H a xs → xs[i]? = some x, fun i H => ∃ xs, SqL K H a xs ∧ xs.length ≤ i⟩
def Itr (lo : Int) (n : Nat) : It := ⟨fun i _ => i < n, fun i H x H' => H' = H ∧ x = .int (lo + i), fun i _ => n ≤ i⟩
theorem turn_list {P : Program} {w : World} {K : PySem.W.Frag} {tg : Expr} (a it : Addr) : Turn P w K tg (Itl K a) [it] it (fun i h => h.IsListIter it a i) where
  mem := by simp
  obj := fun i h st b hb => by
    have e : b = it := by simpa using hb
    subst e
    obtain ⟨o, e, c, d⟩ := st
    exact ⟨o, e, fun v z => by rw [d] at z; cases z⟩
  keep := fun i h h' st k => st.at fun o e => k it (by simp) o e
  item := by
    intro X hP hw hK hc i pins s σ H E I hf st hg
    subst hP hw hK
    obtain ⟨xs, x, hq, hx⟩ := hg
    obtain ⟨its, rv, p, hz⟩ := I.list hq
    obtain ⟨u, hu, ru⟩ := rv.get hx
    obtain ⟨f0, f1, f2, f3, f4, f5⟩ := hf it (by simp)
    refine wpAny_pyNext_list_item st p.isList (x := u) (by simpa using hu) fun h' st' sb => ?_
    have I1 : Inv X pins σ H { s with heap := h' } := I.turned (t' := s.toks) (fun b o hb e => (sb.2 b hb).trans e) f0 f1 f3 f4 f5
    obtain ⟨o, e, c, d⟩ := id st'
    exact ⟨u, rfl, go_of (s := { s with heap := h' }) e c d (by decide) ⟨x, H, I1, ru, ⟨rfl, fun ys hy => by rw [I.list_inj hy hq]; exact hx⟩, st', fun b hb => (hf b hb).1⟩⟩
  done := by
    intro X hP hw hK hc i pins s σ H E I hf st hg
    subst hP hw hK
    obtain ⟨xs, hq, hx⟩ := hg
    obtain ⟨its, rv, p, hz⟩ := I.list hq
    obtain ⟨f0, f1, f2, f3, f4, f5⟩ := hf it (by simp)
    have hl := rv.length
    exact wpAny_pyNext_list_end (I.ok.hd hc) st p.isList (by simp; omega) fun h' eb => ⟨rfl, I.turned (t' := s.toks) (fun b o hb e => eb b o hb e) f0 f1 f3 f4 f5⟩
  self := fun _ _ _ _ _ st h => wpAny_pyIter_listiter st h
theorem turn_range {P : Program} {w : World} {K : PySem.W.Frag} {tg : Expr} (it : Addr) (lo : Int) (n : Nat) : Turn P w K tg (Itr lo n) [it] it (fun i h => IsRangeIter h it (lo + (i : Nat) * 1) ((n : Int) - (i : Nat)) 1) where
  mem := by simp
  obj := fun i h st b hb => by
    have e : b = it := by simpa using hb
    subst e
    exact ⟨_, st, fun v z => by
      have z' : Data.fields _ = Data.cell v := z
      cases z'⟩
  keep := fun i h h' st k => k it (by simp) _ st
  item := by
    intro X hP hw hK hc i pins s σ H E I hf st hg
    subst hP hw hK
    obtain ⟨f0, f1, f2, f3, f4, f5⟩ := hf it (by simp)
    have W := Walks.range (prog := X.prog) (w := X.w) (I.ok.hd hc) it lo 1 n
    refine W.item i s _ _ hg st fun v h' tk hv st' kk => ?_
    obtain ⟨t, rfl⟩ := hv
    have I1 : Inv X pins σ H { s with heap := h', toks := tk } := I.turned (fun b o hb e => kk b o (by simpa using hb) e) f0 f1 f3 f4 f5
    refine ⟨_, rfl, go_of (s := { s with heap := h', toks := tk }) (n := "range_iterator") st' rfl rfl (by decide) ⟨.int (lo + i), H, I1, ⟨t, ?_⟩, ⟨rfl, rfl⟩, st', fun b hb => (hf b hb).1⟩⟩
    rw [Int.mul_one]
  done := by
    intro X hP hw hK hc i pins s σ H E I hf st hg
    subst hP hw hK
    obtain ⟨f0, f1, f2, f3, f4, f5⟩ := hf it (by simp)
    exact wpAny_pyNext_range_end (I.ok.hd hc) st (by have : n ≤ i := hg; omega) fun h' eb => ⟨rfl, I.turned (t' := s.toks) (fun b o hb e => eb b o hb e) f0 f1 f3 f4 f5⟩
  self := fun _ _ _ _ _ st h => wpAny_pyIter_rangeiter st h
end L2

namespace L2
open PySem PySem.Spec PyProof.Rows
section
variable {X : Cx} {tg : Expr}
def iList (K : PySem.W.Frag) (tl : TE) : TI := fun σ H R => tl σ H fun x H1 => ∃ a, x = .ref a ∧ (∃ xs, SqL K H1 a xs) ∧ R (Itl K a) H1
theorem pi_list {l : Expr} {tl : TE} (hl : PE X l tl) : PI X tg l (iList X.K tl) := by
  intro pins s σ H R I h
  refine thn (hl pins s σ H _ I h) fun v s1 ⟨x, H1, I1, r1, q1⟩ => ?_
  obtain ⟨a, e, ⟨xs, hq⟩, q⟩ := q1
  subst e
  cases r1
  obtain ⟨its, rv, p, hz⟩ := I1.list hq
  refine wpAny_pyIter_list p.isList ?_
  refine ⟨s1.heap.objs.size, [s1.heap.objs.size], _, _, H1, rfl, I1.kept (t' := s1.toks) fun b o e => Heap.get?_push_of_some _ e, turn_list a _, ⟨_, Heap.get?_push_size _ rfl, rfl, rfl⟩, fun b hb => ?_, q⟩
  have e : b = s1.heap.objs.size := by simpa using hb
  subst e
  exact I1.fpOk (Nat.le_refl _) (I1.hok.fresh (Nat.le_refl _))
theorem range_it {pins : List (Addr × Obj)} {σ : St} {H : Hp} {s : Shared} {R : It → Hp → Prop} {E : Value → Shared → Prop} {lo hi : Int} {t u v : Tok} {tk : Nat} (I : Inv X pins σ H s) (h1 : -(2 ^ 62) ≤ lo) (h2 : lo < 2 ^ 62) (h3 : -(2 ^ 62) ≤ hi) (h4 : hi < 2 ^ 62)
    (q : R (Itr lo (hi - lo).toNat) H) : wpAny (model X.prog X.w) X.A (pyIter (.ref s.heap.objs.size)) (PIE X pins σ tg R) E { s with heap := s.heap.push { cls := .type "range", data := .fields #[.int lo t, .int hi u, .int 1 v] }, toks := tk } := by
  refine wpAny_pyIter_range (IsRange.new ..) (small_one h1 h2 h3 h4) ?_
  have I1 : Inv X pins σ H { s with heap := s.heap.push { cls := .type "range", data := .fields #[.int lo t, .int hi u, .int 1 v] }, toks := tk } := I.kept fun b o e => Heap.get?_push_of_some _ e
  refine ⟨(s.heap.push { cls := .type "range", data := .fields #[.int lo t, .int hi u, .int 1 v] }).objs.size, [(s.heap.push { cls := .type "range", data := .fields #[.int lo t, .int hi u, .int 1 v] }).objs.size], _, _, H, rfl,
    I1.kept (t' := tk) fun b o e => Heap.get?_push_of_some _ e, turn_range _ lo (hi - lo).toNat, ?_, fun b hb => ?_, q⟩
  · have e1 : lo + ((0 : Nat) : Int) * 1 = lo := by simp
    have e2 : (((hi - lo).toNat : Nat) : Int) - ((0 : Nat) : Int) = Builtin.Range.rangeSize lo hi 1 := by rw [rangeSize_one]; split <;> omega
    show IsRangeIter _ _ (lo + ((0 : Nat) : Int) * 1) ((((hi - lo).toNat : Nat) : Int) - ((0 : Nat) : Int)) 1
    rw [e1, e2]
    exact Heap.get?_push_size _ rfl
  · have e : b = (s.heap.push { cls := .type "range", data := .fields #[.int lo t, .int hi u, .int 1 v] }).objs.size := by simpa using hb
    subst e
    exact I1.fpOk (Nat.le_refl _) (I1.hok.fresh (Nat.le_refl _))
def iRng1 (ta : TA) : TI := fun σ H R => ta σ H fun vs H1 => ∃ j : Int, vs = [.int j] ∧ -(2 ^ 62) ≤ j ∧ j < 2 ^ 62 ∧ R (Itr 0 j.toNat) H1
theorem pi_range1 {a : Expr} {ta : TA} {p pos : Pos} (hg : Gl X "range") (hm : X.mg "range" = none) (ha : PA X [a] ta) (hs : starEach [a] X.env = [(false, eval a X.env)] := by rfl) : PI X tg (.Call (.Name "range" p) [a] [] pos) (iRng1 ta) := by
  intro pins s σ H R I h
  refine Call_ (ld_blt I hg hm boot_range (PyProof.Rows.callWith_type1 (thn (ha pos pins s σ H _ I h) fun us s1 ⟨vs, H1, I1, r1, q1⟩ => ?_) hs rfl))
  obtain ⟨j, e, q1, q2, q⟩ := q1
  subst e
  cases r1 with
  | cons r rr =>
    cases rr
    obtain ⟨t, rfl⟩ := r
    exact call_range_1 (range_it I1 (by omega) (by omega) q1 q2 (by simpa using q))

def tFor (wi : TI) (g : TG) (tb : TS) : TS := fun D σ H => wi σ H fun J H1 => ∃ W : Nat → Nat → St → Hp → Prop, (∃ m, W 0 m σ H1) ∧ ∀ i m σ H, W i m σ H →
  (J.stop i H ∧ D.nx σ H) ∨ (J.go i H ∧ ∃ N : St → Hp → Prop, (∀ σ' H', N σ' H' → ∃ m', m' < m ∧ W (i + 1) m' σ' H') ∧ ∀ x H', J.yld i H x H' → g x σ H' fun σ2 H2 => tb { D with nx := N, ct := N, bk := D.nx } σ2 H2)
def pinsAt (fp : List Addr) (h : Heap) : List (Addr × Obj) := fp.filterMap fun b => (h.get? b).map fun o => (b, o)
theorem mem_pinsAt {fp : List Addr} {h : Heap} {b : Addr} {o : Obj} (hb : b ∈ fp) (e : h.get? b = some o) : (b, o) ∈ pinsAt fp h := List.mem_filterMap.mpr ⟨b, hb, by rw [e]; rfl⟩
theorem of_pinsAt {fp : List Addr} {h : Heap} {p : Addr × Obj} (hp : p ∈ pinsAt fp h) : p.1 ∈ fp ∧ h.get? p.1 = some p.2 := by
  obtain ⟨b, hb, e⟩ := List.mem_filterMap.mp hp
  cases q : h.get? b with
  | none => rw [q] at e; cases e
  | some o =>
    rw [q] at e
    have e' : (b, o) = p := Option.some.inj e
    subst e'
    exact ⟨hb, q⟩
theorem Inv.pinned {pins : List (Addr × Obj)} {σ : St} {H : Hp} {s : Shared} {fp : List Addr} (I : Inv X pins σ H s) (hf : ∀ b ∈ fp, FpOk X pins H b) (ho : ∀ b ∈ fp, ∃ o, s.heap.get? b = some o ∧ ∀ v, o.data ≠ .cell v) : Inv X (pins ++ pinsAt fp s.heap) σ H s :=
  I.pins_of fun p hp => (List.mem_append.mp hp).elim (fun z => I.pin p (List.mem_append_right _ z)) fun z => by
    obtain ⟨hb, e⟩ := of_pinsAt z
    obtain ⟨f0, f1, f2, _⟩ := hf p.1 hb
    obtain ⟨o, e', d⟩ := ho p.1 hb
    rw [e] at e'; cases e'
    exact ⟨e, f0, f1, f2, d⟩
theorem Inv.unpinned {pins pl : List (Addr × Obj)} {σ : St} {H : Hp} {s : Shared} (I : Inv X (pins ++ pl) σ H s) : Inv X pins σ H s := I.pins_of fun p hp => I.pin p (List.mem_append_right _ (List.mem_append_left _ hp))
theorem ps_for {iter : Expr} {body : List Stmt} {wi : TI} {g : TG} {tb : TS} {pos : Pos} (hp : PassesOwn (model X.prog X.w) X.A X.env X.xe) (hc : X.calm = true) (hi : PI X tg iter wi) (hg : PG X tg g) (hb : PSs X body tb)
    (hs : ∀ x, foldedSetIterable iter X.env x = pure x := by intro _; rfl) : PS X (.For tg iter body [] pos) (tFor wi g tb) := by
  intro pins s σ H D I h
  refine wpAny_For (thn (hi pins s σ H _ I h) fun v s1 h1 => thn h1 fun itv s2 h2 => ?_) hs
  obtain ⟨it, fp, tn, J, H2, e, I2, T, st2, f2, W, ⟨m0, w0⟩, turn⟩ := h2
  subst e
  -- what stays true of the iterator's objects through the loop
  have stat : ∀ {H' : Hp}, (∀ b ∈ fp, H' b = none) → ∀ b ∈ fp, FpOk X pins H' b := fun hn b hb => ⟨hn b hb, (f2 b hb).2⟩
  refine codeAny_forLoop_any (fun n s' => ∃ i σ' H', Inv X pins σ' H' s' ∧ tn i s'.heap ∧ (∀ b ∈ fp, H' b = none) ∧ W i n σ' H') ?_ m0 ⟨0, σ, H2, I2, st2, fun b hb => (f2 b hb).1, w0⟩
  rintro n s3 ⟨i, σ3, H3, I3, st3, fr3, w3⟩
  rcases turn i n σ3 H3 w3 with ⟨stop, qn⟩ | ⟨go, N, hN, step⟩
  · refine wpAny_passesOwn hp (thn (T.done X rfl rfl rfl hc i pins s3 σ3 H3 X.xe I3 (stat fr3) st3 stop) fun r s4 ⟨hr, I4⟩ => ?_)
    subst hr
    exact wpAny_execs_nil ⟨σ3, H3, I4, qn⟩
  · refine wpAny_passesOwn hp (thn (T.item X rfl rfl rfl hc i pins s3 σ3 H3 X.xe I3 (stat fr3) st3 go) fun r s4 ⟨u, hr, h4⟩ => ?_)
    subst hr
    refine wpAny_passesOwn hp (thn h4 fun _ s5 ⟨x, H5, I5, r5, y5, st5, fr5⟩ => ?_)
    have I5' := I5.pinned (stat fr5) (T.obj _ _ st5)
    refine wpAny_passesOwn hp (thn (hg _ s5 σ3 H5 x u _ I5' r5 (step x H5 y5)) fun _ s6 ⟨σ6, H6, I6, q6⟩ => ?_)
    refine wpAny_passesOwn hp (thn (hb _ s6 σ6 H6 _ I6 q6) fun f s7 q7 => ?_)
    have again : ∀ {σ7 : St} {H7 : Hp}, Inv X (pins ++ pinsAt fp s5.heap) σ7 H7 s7 → N σ7 H7 → ∃ m, m < n ∧ ∃ i σ' H', Inv X pins σ' H' s7 ∧ tn i s7.heap ∧ (∀ b ∈ fp, H' b = none) ∧ W i m σ' H' := fun {σ7 H7} I7 n7 => by
      obtain ⟨m', hm, w7⟩ := hN σ7 H7 n7
      refine ⟨m', hm, i + 1, σ7, H7, I7.unpinned, T.keep _ _ _ st5 fun b hb o e => (I7.pin (b, o) (List.mem_append_right _ (List.mem_append_right _ (mem_pinsAt hb e)))).1, fun b hb => ?_, w7⟩
      obtain ⟨o, e, d⟩ := T.obj _ _ st5 b hb
      exact (I7.pin (b, o) (List.mem_append_right _ (List.mem_append_right _ (mem_pinsAt hb e)))).2.1
    cases f with
    | next => obtain ⟨σ7, H7, I7, n7⟩ := q7; exact again I7 n7
    | cont => obtain ⟨σ7, H7, I7, n7⟩ := q7; exact again I7 n7
    | brk => obtain ⟨σ7, H7, I7, q7⟩ := q7; exact ⟨σ7, H7, I7.unpinned, q7⟩
    | ret v => obtain ⟨x7, σ7, H7, I7, r7, q7⟩ := q7; exact ⟨x7, σ7, H7, I7.unpinned, r7, q7⟩
end

theorem for_list {K : PySem.W.Frag} {a : Addr} {xs : List V} {g : TG} {tb : TS} {D : Ends} {σ : St} {H : Hp} (Pv : Nat → St → Hp → Prop) (h0 : Pv 0 σ H) (hl : ∀ i σ H, i ≤ xs.length → Pv i σ H → SqL K H a xs)
    (hs : ∀ i x σ H, xs[i]? = some x → Pv i σ H → g x σ H fun σ2 H2 => tb { D with nx := Pv (i + 1), ct := Pv (i + 1), bk := D.nx } σ2 H2) (hd : ∀ σ H, Pv xs.length σ H → D.nx σ H) :
    ∃ W : Nat → Nat → St → Hp → Prop, (∃ m, W 0 m σ H) ∧ ∀ i m σ H, W i m σ H →
      ((Itl K a).stop i H ∧ D.nx σ H) ∨ ((Itl K a).go i H ∧ ∃ N : St → Hp → Prop, (∀ σ' H', N σ' H' → ∃ m', m' < m ∧ W (i + 1) m' σ' H') ∧ ∀ x H', (Itl K a).yld i H x H' → g x σ H' fun σ2 H2 => tb { D with nx := N, ct := N, bk := D.nx } σ2 H2) := by
  refine ⟨fun i m σ H => m = xs.length - i ∧ i ≤ xs.length ∧ Pv i σ H, ⟨xs.length, by simp, Nat.zero_le _, h0⟩, ?_⟩
  rintro i m σ H ⟨rfl, hi, p⟩
  have q := hl i σ H hi p
  by_cases hlt : i < xs.length
  · refine .inr ⟨⟨xs, xs[i], q, by simp [hlt]⟩, Pv (i + 1), fun σ' H' p' => ⟨xs.length - (i + 1), by omega, rfl, hlt, p'⟩, fun x H' y => ?_⟩
    obtain ⟨e, y⟩ := y
    subst e
    exact hs i x σ _ (y xs q) p
  · have e : i = xs.length := by omega
    subst e
    exact .inl ⟨⟨xs, q, Nat.le_refl _⟩, hd σ H p⟩
theorem for_range {lo : Int} {n : Nat} {g : TG} {tb : TS} {D : Ends} {σ : St} {H : Hp} (Pv : Nat → St → Hp → Prop) (h0 : Pv 0 σ H)
    (hs : ∀ i σ H, i < n → Pv i σ H → g (.int (lo + i)) σ H fun σ2 H2 => tb { D with nx := Pv (i + 1), ct := Pv (i + 1), bk := D.nx } σ2 H2) (hd : ∀ σ H, Pv n σ H → D.nx σ H) :
    ∃ W : Nat → Nat → St → Hp → Prop, (∃ m, W 0 m σ H) ∧ ∀ i m σ H, W i m σ H →
      ((Itr lo n).stop i H ∧ D.nx σ H) ∨ ((Itr lo n).go i H ∧ ∃ N : St → Hp → Prop, (∀ σ' H', N σ' H' → ∃ m', m' < m ∧ W (i + 1) m' σ' H') ∧ ∀ x H', (Itr lo n).yld i H x H' → g x σ H' fun σ2 H2 => tb { D with nx := N, ct := N, bk := D.nx } σ2 H2) := by
  refine ⟨fun i m σ H => m = n - i ∧ i ≤ n ∧ Pv i σ H, ⟨n, by simp, Nat.zero_le _, h0⟩, ?_⟩
  rintro i m σ H ⟨rfl, hi, p⟩
  by_cases hlt : i < n
  · refine .inr ⟨hlt, Pv (i + 1), fun σ' H' p' => ⟨n - (i + 1), by omega, rfl, hlt, p'⟩, fun x H' y => ?_⟩
    obtain ⟨e, y⟩ := y
    subst e y
    exact hs i σ _ hlt p
  · have e : i = n := by omega
    subst e
    exact .inl ⟨Nat.le_refl _, hd σ H p⟩
end L2

namespace L2
open PySem PySem.Spec PyProof.Rows

abbrev R2 := V → V → Hp → VK → Prop
def OpR (X : Cx) (f : Value → Value → Sem Value) (r : R2) : Prop :=
  ∀ (pins : List (Addr × Obj)) (s : Shared) (σ : St) (H : Hp) (x y : V) (v u : Value) (Q : VK), Inv X pins σ H s → RelV x v → RelV y u → r x y H Q →
    wpAny (model X.prog X.w) X.A (f v u) (EP X pins σ Q) X.xe s
def UnR (X : Cx) (f : Value → Sem Value) (r : V → Hp → VK → Prop) : Prop :=
  ∀ (pins : List (Addr × Obj)) (s : Shared) (σ : St) (H : Hp) (x : V) (v : Value) (Q : VK), Inv X pins σ H s → RelV x v → r x H Q →
    wpAny (model X.prog X.w) X.A (f v) (EP X pins σ Q) X.xe s
def CallR (X : Cx) (f : Value) (r : List V → Hp → VK → Prop) : Prop :=
  ∀ (pins : List (Addr × Obj)) (s : Shared) (σ : St) (H : Hp) (xs : List V) (us : List Value) (Q : VK), Inv X pins σ H s → Vals xs us → r xs H Q →
    wpAny (model X.prog X.w) X.A (call f us) (EP X pins σ Q) X.xe s

def tOp (r : R2) (ta tb : TE) : TE := fun σ H Q => ta σ H fun x H1 => tb σ H1 fun y H2 => r x y H2 Q
def tUn (r : V → Hp → VK → Prop) (ta : TE) : TE := fun σ H Q => ta σ H fun x H1 => r x H1 Q
def rI (C : Int → Int → Prop) (g : Int → Int → V) : R2 := fun x y H Q => ∃ i j, x = .int i ∧ y = .int j ∧ C i j ∧ Q (g i j) H
def rI0 (g : Int → Int → V) : R2 := fun x y H Q => ∃ i j, x = .int i ∧ y = .int j ∧ Q (g i j) H
def rU (g : Int → V) : V → Hp → VK → Prop := fun x H Q => ∃ i, x = .int i ∧ Q (g i) H

section
variable {X : Cx} {a b c : Expr} {ta tb tc : TE} {pos : Pos}

theorem binT (ha : PE X a ta) (hb : PE X b tb) {pins : List (Addr × Obj)} {s : Shared} {σ : St} {H : Hp} {R : V → V → Hp → Prop} (I : Inv X pins σ H s)
    (h : ta σ H fun x H1 => tb σ H1 fun y H2 => R x y H2) {Q : Value → Shared → Prop} {f : Value → Value → Sem Value}
    (hf : ∀ v u s2 x y H2, Inv X pins σ H2 s2 → RelV x v → RelV y u → R x y H2 → wpAny (model X.prog X.w) X.A (f v u) Q X.xe s2) :
    wpAny (model X.prog X.w) X.A (eval a X.env) (fun v s₁ => wpAny (model X.prog X.w) X.A (eval b X.env) (fun u s₂ => wpAny (model X.prog X.w) X.A (f v u) Q X.xe s₂) X.xe s₁) X.xe s := by
  refine thn (ha pins s σ H _ I h) fun v s1 ⟨x, H1, I1, r1, q1⟩ => ?_
  refine thn (hb pins s1 σ H1 _ I1 q1) fun u s2 ⟨y, H2, I2, r2, q2⟩ => ?_
  exact hf v u s2 x y H2 I2 r1 r2 q2

theorem pe_op {op : Operator} {r : R2} (ho : OpR X (binaryOp op) r) (ha : PE X a ta) (hb : PE X b tb) : PE X (.BinOp a op b pos) (tOp r ta tb) := by
  intro pins s σ H Q I h
  exact wpAny_BinOp (binT ha hb I h fun v u s2 x y H2 I2 rx ry q => ho pins s2 σ H2 x y v u Q I2 rx ry q)
theorem pe_un {op : UnaryOp} {r : V → Hp → VK → Prop} (ho : UnR X (unaryOp op) r) (ha : PE X a ta) : PE X (.UnaryOp op a pos) (tUn r ta) := by
  intro pins s σ H Q I h
  exact UnaryOp_ (thn (ha pins s σ H _ I h) fun v s1 ⟨x, H1, I1, r1, q1⟩ => ho pins s1 σ H1 x v Q I1 r1 q1)

theorem opI {f : Value → Value → Sem Value} {C : Int → Int → Prop} {g : Int → Int → Int}
    (rule : ∀ (i j : Int) (t u : Tok) (s : Shared) (Q : Value → Shared → Prop) (E : Value → Shared → Prop), C i j → Q (.int (g i j) s.toks) { s with toks := s.toks + 1 } → wpAny (model X.prog X.w) X.A (f (.int i t) (.int j u)) Q E s) :
    OpR X f (rI C fun i j => .int (g i j)) := by
  intro pins s σ H x y v u Q I rx ry h
  obtain ⟨i, j, rfl, rfl, hc, q⟩ := h
  obtain ⟨t, rfl⟩ := rx
  obtain ⟨t', rfl⟩ := ry
  exact rule i j t t' s _ _ hc ⟨.int (g i j), H, I.tok _, ⟨_, rfl⟩, q⟩
theorem opI0 {f : Value → Value → Sem Value} {g : Int → Int → Int}
    (rule : ∀ (i j : Int) (t u : Tok) (s : Shared) (Q : Value → Shared → Prop) (E : Value → Shared → Prop), Q (.int (g i j) s.toks) { s with toks := s.toks + 1 } → wpAny (model X.prog X.w) X.A (f (.int i t) (.int j u)) Q E s) :
    OpR X f (rI0 fun i j => .int (g i j)) := by
  intro pins s σ H x y v u Q I rx ry h
  obtain ⟨i, j, rfl, rfl, q⟩ := h
  obtain ⟨t, rfl⟩ := rx
  obtain ⟨t', rfl⟩ := ry
  exact rule i j t t' s _ _ ⟨.int (g i j), H, I.tok _, ⟨_, rfl⟩, q⟩
theorem opB0 {f : Value → Value → Sem Value} {g : Int → Int → Bool}
    (rule : ∀ (i j : Int) (t u : Tok) (s : Shared) (Q : Value → Shared → Prop) (E : Value → Shared → Prop), Q (.bool (g i j)) s → wpAny (model X.prog X.w) X.A (f (.int i t) (.int j u)) Q E s) :
    OpR X f (rI0 fun i j => .bl (g i j)) := by
  intro pins s σ H x y v u Q I rx ry h
  obtain ⟨i, j, rfl, rfl, q⟩ := h
  obtain ⟨t, rfl⟩ := rx
  obtain ⟨t', rfl⟩ := ry
  exact rule i j t t' s _ _ ⟨.bl (g i j), H, I, rfl, q⟩

def CPow (i j : Int) : Prop := 0 ≤ j ∧ j ≤ 1000000 ∧ i.natAbs < 2 ^ 64
def CMul (i j : Int) : Prop := (-(2 ^ 64) < i ∧ i < 2 ^ 64) ∨ (-(2 ^ 64) < j ∧ j < 2 ^ 64)
theorem CMul.ok {i j : Int} (h : CMul i j) : IntMulOk i j := by
  rcases h with ⟨h1, h2⟩ | ⟨h1, h2⟩
  · exact .of_left (intBits_le_64 h1 h2)
  · exact .of_right (intBits_le_64 h1 h2)

theorem op_add : OpR X (binaryOp .Add) (rI0 fun i j => .int (i + j)) := opI0 fun _ _ _ _ _ _ _ q => add_int q
theorem op_sub : OpR X (binaryOp .Sub) (rI0 fun i j => .int (i - j)) := opI0 fun _ _ _ _ _ _ _ q => sub_int q
theorem op_mod : OpR X (binaryOp .Mod) (rI (fun _ j => 0 < j) fun i j => .int (i % j)) := opI fun i j _ _ _ _ _ hc q => by
  have h1 : (0 : Int) < j := hc
  exact mod_int' (by omega) (by rw [Int.fmod_eq_emod_of_nonneg i (by omega)]; exact q)
theorem op_pow : OpR X (binaryOp .Pow) (rI CPow fun i j => .int (i ^ j.toNat)) := opI fun _ _ _ _ _ _ _ hc q => pow_int_small hc.1 hc.2.1 hc.2.2 q


theorem unI {f : Value → Sem Value} {g : Int → Int}
    (rule : ∀ (i : Int) (t : Tok) (s : Shared) (Q : Value → Shared → Prop) (E : Value → Shared → Prop), Q (.int (g i) s.toks) { s with toks := s.toks + 1 } → wpAny (model X.prog X.w) X.A (f (.int i t)) Q E s) :
    UnR X f (rU fun i => .int (g i)) := by
  intro pins s σ H x v Q I rx h
  obtain ⟨i, rfl, q⟩ := h
  obtain ⟨t, rfl⟩ := rx
  exact rule i t s _ _ ⟨.int (g i), H, I.tok _, ⟨_, rfl⟩, q⟩
theorem un_neg : UnR X (unaryOp .USub) (rU fun i => .int (-i)) := unI fun _ _ _ _ _ q => neg_int q

end

def scal : V → V → Bool
  | .non, .non => true | .non, .int _ => true | .int _, .non => true | .non, .bl _ => true | .bl _, .non => true | .non, .str _ => true | .str _, .non => true
  | .int _, .int _ => true | .bl _, .bl _ => true | .str _, .str _ => true | .byt _, .byt _ => true
  | .int _, .str _ => true | .str _, .int _ => true | .bl _, .str _ => true | .str _, .bl _ => true
  | _, _ => false
def rEq : R2 := fun x y H Q => scal x y = true ∧ Q (.bl (decide (x = y))) H
def rNe : R2 := fun x y H Q => scal x y = true ∧ Q (.bl (!decide (x = y))) H

theorem dec_int {i j : Int} : decide (V.int i = V.int j) = (i == j) := by
  rw [Bool.eq_iff_iff]
  simp
theorem dec_bl {i j : Bool} : decide (V.bl i = V.bl j) = (i == j) := by
  rw [Bool.eq_iff_iff]
  simp
theorem dec_str {i j : Str} : decide (V.str i = V.str j) = (i == j) := by
  rw [Bool.eq_iff_iff]
  simp
theorem dec_byt {i j : Array UInt8} : decide (V.byt i = V.byt j) = (i.toList == j.toList) := by
  rw [Bool.eq_iff_iff]
  cases i
  cases j
  simp

section
variable {X : Cx} {a b c : Expr} {ta tb tc : TE} {pos : Pos}
theorem fin_bl {pins : List (Addr × Obj)} {σ : St} {H : Hp} {s : Shared} {Q : VK} {k k' : Bool} (I : Inv X pins σ H s) (q : Q (.bl k) H) (e : k = k') : EP X pins σ Q (.bool k') s := by
  subst e
  exact ⟨.bl k, H, I, rfl, q⟩
theorem op_eq : OpR X (compareOp .Eq) rEq := by
  intro pins s σ H x y v u Q I rx ry h
  obtain ⟨hs, q⟩ := h
  cases x with
  | non =>
    cases rx
    cases y with
    | non => cases ry; exact PySem.EqNone.eq_none_none (fin_bl I q (by simp))
    | bl j => cases ry; exact PySem.EqNone.eq_none_bool (fin_bl I q (by simp))
    | int j => obtain ⟨t', rfl⟩ := ry; exact PySem.EqNone.eq_none_int (fin_bl I q (by simp))
    | str j => obtain ⟨t', rfl⟩ := ry; exact PySem.EqNone.eq_none_str (fin_bl I q (by simp))
    | _ => exact absurd (show false = true from hs) Bool.false_ne_true
  | bl i =>
    cases rx
    cases y with
    | non => cases ry; exact PySem.EqNone.eq_bool_none (fin_bl I q (by simp))
    | bl j => cases ry; exact eq_bool (fin_bl I q dec_bl)
    | str j => obtain ⟨t', rfl⟩ := ry; exact PySem.EqMixed.eq_bool_str (fin_bl I q (by simp))
    | _ => exact absurd (show false = true from hs) Bool.false_ne_true
  | int i =>
    obtain ⟨t, rfl⟩ := rx
    cases y with
    | non => cases ry; exact PySem.EqNone.eq_int_none (fin_bl I q (by simp))
    | int j => obtain ⟨t', rfl⟩ := ry; exact eq_int (fin_bl I q dec_int)
    | str j => obtain ⟨t', rfl⟩ := ry; exact PySem.EqMixed.eq_int_str (fin_bl I q (by simp))
    | _ => exact absurd (show false = true from hs) Bool.false_ne_true
  | str i =>
    obtain ⟨t, rfl⟩ := rx
    cases y with
    | non => cases ry; exact PySem.EqNone.eq_str_none (fin_bl I q (by simp))
    | bl j => cases ry; exact PySem.EqMixed.eq_str_bool (fin_bl I q (by simp))
    | int j => obtain ⟨t', rfl⟩ := ry; exact PySem.EqMixed.eq_str_int (fin_bl I q (by simp))
    | str j => obtain ⟨t', rfl⟩ := ry; exact eq_str (fin_bl I q dec_str)
    | _ => exact absurd (show false = true from hs) Bool.false_ne_true
  | byt i =>
    obtain ⟨t, rfl⟩ := rx
    cases y with
    | byt j => obtain ⟨t', rfl⟩ := ry; exact PySem.W.eq_bytes (fin_bl I q dec_byt)
    | _ => exact absurd (show false = true from hs) Bool.false_ne_true
  | _ => cases y <;> exact absurd (show false = true from hs) Bool.false_ne_true
theorem op_ne : OpR X (compareOp .NotEq) rNe := by
  intro pins s σ H x y v u Q I rx ry h
  obtain ⟨hs, q⟩ := h
  cases x with
  | non =>
    cases rx
    cases y with
    | non => cases ry; exact PySem.EqNone.ne_none_none (fin_bl I q (by simp))
    | bl j => cases ry; exact PySem.EqNone.ne_none_bool (fin_bl I q (by simp))
    | int j => obtain ⟨t', rfl⟩ := ry; exact PySem.EqNone.ne_none_int (fin_bl I q (by simp))
    | str j => obtain ⟨t', rfl⟩ := ry; exact PySem.EqNone.ne_none_str (fin_bl I q (by simp))
    | _ => exact absurd (show false = true from hs) Bool.false_ne_true
  | bl i =>
    cases rx
    cases y with
    | non => cases ry; exact PySem.EqNone.ne_bool_none (fin_bl I q (by simp))
    | bl j => cases ry; exact ne_bool (fin_bl I q (congrArg not dec_bl))
    | str j => obtain ⟨t', rfl⟩ := ry; exact PySem.EqMixed.ne_bool_str (fin_bl I q (by simp))
    | _ => exact absurd (show false = true from hs) Bool.false_ne_true
  | int i =>
    obtain ⟨t, rfl⟩ := rx
    cases y with
    | non => cases ry; exact PySem.EqNone.ne_int_none (fin_bl I q (by simp))
    | int j => obtain ⟨t', rfl⟩ := ry; exact ne_int (fin_bl I q (congrArg not dec_int))
    | str j => obtain ⟨t', rfl⟩ := ry; exact PySem.EqMixed.ne_int_str (fin_bl I q (by simp))
    | _ => exact absurd (show false = true from hs) Bool.false_ne_true
  | str i =>
    obtain ⟨t, rfl⟩ := rx
    cases y with
    | non => cases ry; exact PySem.EqNone.ne_str_none (fin_bl I q (by simp))
    | bl j => cases ry; exact PySem.EqMixed.ne_str_bool (fin_bl I q (by simp))
    | int j => obtain ⟨t', rfl⟩ := ry; exact PySem.EqMixed.ne_str_int (fin_bl I q (by simp))
    | str j => obtain ⟨t', rfl⟩ := ry; exact ne_str (fin_bl I q (congrArg not dec_str))
    | _ => exact absurd (show false = true from hs) Bool.false_ne_true
  | byt i =>
    obtain ⟨t, rfl⟩ := rx
    cases y with
    | byt j => obtain ⟨t', rfl⟩ := ry; exact PySem.W.ne_bytes (fin_bl I q (congrArg not dec_byt))
    | _ => exact absurd (show false = true from hs) Bool.false_ne_true
  | _ => cases y <;> exact absurd (show false = true from hs) Bool.false_ne_true

theorem op_lt : OpR X (compareOp .Lt) (rI0 fun i j => .bl (decide (i < j))) := opB0 fun _ _ _ _ _ _ _ q => lt_int q
theorem op_gt : OpR X (compareOp .Gt) (rI0 fun i j => .bl (decide (j < i))) := opB0 fun _ _ _ _ _ _ _ q => gt_int q
theorem op_ge : OpR X (compareOp .GtE) (rI0 fun i j => .bl (decide (j ≤ i))) := opB0 fun _ _ _ _ _ _ _ q => ge_int q
theorem op_in_str : OpR X (compareOp .In) (fun x y H Q => ∃ i j, x = .str i ∧ y = .str j ∧ Q (.bl (!(Builtin.Str.occurrences j i 0 j.length 1).isEmpty)) H) := by
  intro pins s σ H x y v u Q I rx ry h
  obtain ⟨i, j, rfl, rfl, q⟩ := h
  obtain ⟨t, rfl⟩ := rx
  obtain ⟨t', rfl⟩ := ry
  exact in_str (fin_bl I q rfl)




theorem nomark (b : Expr) {op : CmpOp} (h : op ≠ .In := by decide) (h2 : op ≠ .NotIn := by decide) : behindInMarks op b = false := by
  have e1 : (op == CmpOp.In) = false := by cases op <;> first | rfl | exact absurd rfl h
  have e2 : (op == CmpOp.NotIn) = false := by cases op <;> first | rfl | exact absurd rfl h2
  cases b <;> simp [behindInMarks, e1, e2]
theorem pe_cmpR {op : CmpOp} {r : R2} (ho : OpR X (compareOp op) r) (ha : PE X a ta) (hb : PE X b tb) (hm : behindInMarks op b = false) : PE X (.Compare a [op] [b] pos) (tOp r ta tb) := by
  intro pins s σ H Q I h
  exact wpAny_Compare1 (binT ha hb I h fun v u s2 x y H2 I2 rx ry q => ho pins s2 σ H2 x y v u Q I2 rx ry q) hm
def tTest (t : TE) : TT := fun σ H Q => t σ H fun x H' => ∃ k, x = .bl k ∧ Q k H'
theorem pt_cmpR {op : CmpOp} {r : R2} (ho : OpR X (compareOp op) r) (ha : PE X a ta) (hb : PE X b tb) (hm : behindInMarks op b = false) : PT X (.Compare a [op] [b] pos) (tTest (tOp r ta tb)) := by
  intro pins s σ H Q I h
  refine wpAny_isTrue_Compare1 (thn (ha pins s σ H _ I h) fun v s1 ⟨x, H1, I1, r1, q1⟩ => thn (hb pins s1 σ H1 _ I1 q1) fun u s2 ⟨y, H2, I2, r2, q2⟩ =>
    thn (ho pins s2 σ H2 x y v u _ I2 r1 r2 q2) fun c s3 ⟨z, H3, I3, r3, k, e, q3⟩ => ?_) hm
  subst e
  cases r3
  exact wpAny_truthy_bool ⟨H3, I3, q3⟩

theorem line63 : (sizeLine : Nat) < 2 ^ 63 := by rw [sizeLine_eq]; decide

theorem op_add_str : OpR X (binaryOp .Add) (fun x y H Q => ∃ i j, x = .str i ∧ y = .str j ∧ i.length + j.length ≤ sizeLine ∧ Q (.str (i ++ j)) H) := by
  intro pins s σ H x y v u Q I rx ry h
  obtain ⟨i, j, rfl, rfl, hz, q⟩ := h
  obtain ⟨t, rfl⟩ := rx
  obtain ⟨t', rfl⟩ := ry
  exact add_str (fun t' tk => ⟨.str (i ++ j), H, I.tok _, ⟨_, rfl⟩, q⟩) hz


theorem vals1 {x : V} {us : List Value} (r : Vals [x] us) : ∃ u, us = [u] ∧ RelV x u := by
  cases r with
  | cons r1 r2 => cases r2; exact ⟨_, rfl, r1⟩
theorem vals2 {x y : V} {us : List Value} (r : Vals [x, y] us) : ∃ u w', us = [u, w'] ∧ RelV x u ∧ RelV y w' := by
  cases r with
  | cons r1 r2 =>
    cases r2 with
    | cons r3 r4 => cases r4; exact ⟨_, _, rfl, r1, r3⟩
theorem call_abs : CallR X (.builtin "abs") (fun xs H Q => ∃ i, xs = [.int i] ∧ Q (.int (if i < 0 then -i else i)) H) := by
  intro pins s σ H xs us Q I r h
  obtain ⟨i, rfl, q⟩ := h
  obtain ⟨u, rfl, t, rfl⟩ := vals1 r
  exact call_abs_int fun u tk => ⟨.int (if i < 0 then -i else i), H, I.tok _, ⟨_, rfl⟩, q⟩
theorem call_max2 (hc : X.calm = true) : CallR X (.builtin "max") (fun xs H Q => ∃ i j, xs = [.int i, .int j] ∧ Q (.int (if j > i then j else i)) H) := by
  intro pins s σ H xs us Q I r h
  obtain ⟨i, j, rfl, q⟩ := h
  obtain ⟨u, w', rfl, ⟨t, rfl⟩, ⟨t', rfl⟩⟩ := vals2 r
  refine max_two_ints (I.ok.hd hc) fun h' tk k => ⟨_, H, I.kept k, ?_, q⟩
  by_cases hj : j > i
  · rw [if_pos hj, if_pos hj]; exact ⟨_, rfl⟩
  · rw [if_neg hj, if_neg hj]; exact ⟨_, rfl⟩
theorem call_min2 (hc : X.calm = true) : CallR X (.builtin "min") (fun xs H Q => ∃ i j, xs = [.int i, .int j] ∧ Q (.int (if j < i then j else i)) H) := by
  intro pins s σ H xs us Q I r h
  obtain ⟨i, j, rfl, q⟩ := h
  obtain ⟨u, w', rfl, ⟨t, rfl⟩, ⟨t', rfl⟩⟩ := vals2 r
  refine min_two_ints (I.ok.hd hc) fun h' tk k => ⟨_, H, I.kept k, ?_, q⟩
  by_cases hj : j < i
  · rw [if_pos hj, if_pos hj]; exact ⟨_, rfl⟩
  · rw [if_neg hj, if_neg hj]; exact ⟨_, rfl⟩
theorem call_int1 : CallR X (.type "int") (fun xs H Q => (∃ i, xs = [.int i] ∧ Q (.int i) H) ∨ ∃ k, xs = [.bl k] ∧ Q (.int (if k then 1 else 0)) H) := by
  intro pins s σ H xs us Q I r h
  rcases h with ⟨i, rfl, q⟩ | ⟨k, rfl, q⟩
  · obtain ⟨u, rfl, t, rfl⟩ := vals1 r
    exact call_int_int ⟨.int i, H, I, ⟨_, rfl⟩, q⟩
  · obtain ⟨u, rfl, r1⟩ := vals1 r
    cases r1
    exact call_int_bool ⟨.int (if k then 1 else 0), H, I.tok _, ⟨_, rfl⟩, q⟩
theorem call_str_int : CallR X (.type "str") (fun xs H Q => ∃ i, xs = [.int i] ∧ i.natAbs.log2 < 1920 ∧ Q (.str (toString i)) H) := by
  intro pins s σ H xs us Q I r h
  obtain ⟨i, rfl, hz, q⟩ := h
  obtain ⟨u, rfl, t, rfl⟩ := vals1 r
  exact PySem.P.str_of_int hz ⟨.str _, H, I.tok _, ⟨_, rfl⟩, q⟩
end
end L2

namespace L2
open PySem PySem.Spec PyProof.Rows

structure ObjM (h : Heap) (x dx C : Addr) (mA : Str → Option Value) : Prop where
  obj : h.get? x = some (PySem.W.instObj C dx)
  ns : h.Ns1 dx mA
  ne : dx ≠ x

theorem lookIn_ns {h : Heap} {dx : Addr} {mA : Str → Option Value} (n : h.Ns1 dx mA) : ∃ od, h.get? dx = some od ∧ ∀ name, PySem.W.lookIn name od = some (mA name) := by
  obtain ⟨o, es, ep, ho, hd, hk, _, hm⟩ := n
  refine ⟨o, ho, fun name => ?_⟩
  have e := hm name
  unfold nsFind findBy at e
  rw [← Array.find?_toList] at e
  unfold PySem.W.lookIn
  rw [hd]
  dsimp only
  split
  · rename_i y q
    rw [q] at e
    exact congrArg some e
  · rename_i q
    rw [q] at e
    have a : es.toList.any (·.refKey) = false := by
      rw [List.any_eq_false]
      intro y hy
      obtain ⟨z, t, hkey⟩ := hk y (Array.mem_toList_iff.mp hy)
      simp [DictEntry.refKey, hkey]
    have a' : ¬ es.toList.any (·.refKey) = true := by rw [a]; exact Bool.false_ne_true
    rw [if_neg a']
    exact congrArg some e

theorem ObjM.look {h : Heap} {x dx C : Addr} {mA : Str → Option Value} (I : ObjM h x dx C mA) : ∃ od, PySem.W.InstAt h x (PySem.W.instObj C dx) C (some od) ∧ ∀ name, PySem.W.lookIn name od = some (mA name) :=
  let ⟨od, ho, hl⟩ := lookIn_ns I.ns
  ⟨od, ⟨I.obj, rfl, rfl, ho⟩, hl⟩

section
variable {prog : Program} {w : World} {A : Around} {E : Value → Shared → Prop} {s : Shared} {K : PySem.W.Frag} {x dx C f : Addr} {mA : Str → Option Value} {name : Str} {v : Value}





end


theorem RelO.some_of {v : V} {o : Option Value} (r : RelO (some v) o) : ∃ u, o = some u ∧ RelV v u := by
  cases o with
  | none => exact (show False from r).elim
  | some u => exact ⟨u, rfl, r⟩

section
variable {P : Program} {w : World} {H H' : Hp} {h h' : Heap} {a C dx : Addr} {fs fs' : List (Str × V)}
theorem ins_get (hok : HOk P w H h) (e : H a = some (.ins C dx fs)) : ∃ mA, ObjM h a dx C mA ∧ (∀ f, RelO (fs.lookup f) (mA f)) ∧ PySem.Within mA (fs.map (·.1)) ∧ fs.length ≤ 1000 ∧ H dx = some (.own a) := by
  obtain ⟨d, z, ne, ob, mA, n, r, q⟩ := (show ObjOk P w H h a (.ins C dx fs) from hok a _ e)
  exact ⟨mA, ⟨ob, n, ne⟩, r, q, z, d⟩
end

structure Cls (K : PySem.W.Frag) (C : Addr) : Prop where
  pg : PySem.W.plainGet K C Str.empty = true
  hd : PySem.W.hasDictIn K C = true
  po : PySem.W.plainOver K C = true
  sa : PySem.W.findIn K (.ref C) "__setattr__" = some (some (.builtin "object.__setattr__"))
theorem Cls.get {K : PySem.W.Frag} {C : Addr} (c : Cls K C) (f : Str) : PySem.W.plainGet K C f = true := c.pg
def NoAttr (K : PySem.W.Frag) (C : Addr) (f : Str) : Prop := PySem.W.findIn K (.ref C) f = some none
structure Con (K : PySem.W.Frag) (C : Addr) (f : Str) (v : V) (u : Value) : Prop where
  at_ : PySem.W.findIn K (.ref C) f = some (some u)
  rel : RelV v u
  get : PySem.W.specialIn K u "__get__" = some none
  cp : PySem.W.copiedNames.contains f = false
structure Meth (K : PySem.W.Frag) (C : Addr) (m : Str) (f : Addr) : Prop where
  at_ : PySem.W.findIn K (.ref C) m = some (some (.ref f))
  fn : PySem.W.isFn K (.ref f) = true
  kp : PySem.W.keepIn K (.ref f) = true

section
variable {X : Cx} {pins : List (Addr × Obj)} {σ : St} {H : Hp} {s : Shared} {a C dx : Addr} {fs : List (Str × V)} {f : Str} {v : V} {A : Around} {E : Value → Shared → Prop}






end


section
variable {X : Cx} {o e value : Expr} {f : Str} {pos pos' tpos : Pos} {ta tv : TE}

end

section
variable {X : Cx} {pins : List (Addr × Obj)} {σ : St} {H : Hp} {s : Shared} {A : Around} {E : Value → Shared → Prop} {Q : Value → Shared → Prop} {c : Value} {b : Bool}
inductive TyOf (K : PySem.W.Frag) (H : Hp) : V → Value → Prop where
  | non : TyOf K H .non (.type "NoneType")
  | bl (x : Bool) : TyOf K H (.bl x) (.type "bool")
  | int (i : Int) : TyOf K H (.int i) (.type "int")
  | str (x : Str) : TyOf K H (.str x) (.type "str")
  | flt (x : UInt64) : TyOf K H (.flt x) (.type "float")
  | lst {a : Addr} {xs : List V} (e : H a = some (.lst xs)) : TyOf K H (.ref a) (.type "list")
  | frz {a : Addr} {o : Obj} {xs : List V} (e : H a = some (.frz o (.lst xs))) : TyOf K H (.ref a) (.type "list")
  | tup {a : Addr} {xs : List V} (e : H a = some (.tup xs)) : TyOf K H (.ref a) (.type "tuple")
  | dK {a : Addr} {kvs : List (Key × V)} (e : H a = some (.dK kvs)) : TyOf K H (.ref a) (.type "dict")
  | dT {a : Addr} {kvs : List (List Key × V)} (e : H a = some (.dT kvs)) : TyOf K H (.ref a) (.type "dict")
  | ins {a C dx : Addr} {fs : List (Str × V)} (e : H a = some (.ins C dx fs)) (cl : Cls K C) (ha : PySem.W.findIn K (.ref C) "__class__" = some (some (.builtin "object.__class__")))
      (hn : PySem.W.specialIn K (.builtin "object.__class__") "__get__" = some (some (.builtin "getset_descriptor.__get__"))) (htk : PySem.W.takesIn K (.builtin "object.__class__") = some true)
      (hm : PySem.W.mroIn K C (.type "object") = some true) : TyOf K H (.ref a) (.ref C)
theorem isinst_ok {x : V} {u t : Value} (I : Inv X pins σ H s) (rx : RelV x u) (ty : TyOf X.K H x t) (e : PySem.W.kitOne X.K t c = some b) (h : ∀ tk, Q (.bool b) { s with toks := tk }) :
    wpAny (model X.prog X.w) A (call (.builtin "isinstance") [u, c]) Q E s := by
  cases ty with
  | non => cases (show u = Value.none from rx); exact PySem.W.kia_one PySem.W.kitx_none I.kIn True.intro e (fun z => nomatch z) h
  | bl y => cases (show u = Value.bool y from rx); exact PySem.W.kia_one PySem.W.kitx_bool I.kIn True.intro e (fun z => nomatch z) h
  | int i => obtain ⟨t, q⟩ := (show ∃ t, u = Value.int i t from rx); cases q; exact PySem.W.kia_one PySem.W.kitx_int I.kIn True.intro e (fun z => nomatch z) h
  | str y => obtain ⟨t, q⟩ := (show ∃ t, u = Value.str y t from rx); cases q; exact PySem.W.kia_one PySem.W.kitx_str I.kIn True.intro e (fun z => nomatch z) h
  | flt y => obtain ⟨t, q⟩ := (show ∃ t, u = Value.float y t from rx); cases q; exact PySem.W.kia_one PySem.W.kitx_float I.kIn True.intro e (fun z => nomatch z) h
  | @lst a xs ea =>
    cases (show u = Value.ref a from rx)
    obtain ⟨_, _, n, _, h1⟩ := (show ObjOk X.prog X.w H s.heap a (.lst xs) from I.hok a _ ea)
    exact PySem.W.kia_one PySem.W.kitx_list I.kIn ⟨_, h1, rfl⟩ e (fun z => nomatch z) h
  | @frz a ob xs ea =>
    cases (show u = Value.ref a from rx)
    obtain ⟨_, _, _, n, _, h1⟩ := (show ObjOk X.prog X.w H s.heap a (.frz ob (.lst xs)) from I.hok a _ ea)
    exact PySem.W.kia_one PySem.W.kitx_list I.kIn ⟨_, h1, rfl⟩ e (fun z => nomatch z) h
  | @tup a xs ea =>
    cases (show u = Value.ref a from rx)
    obtain ⟨_, _, _, p⟩ := (show ObjOk X.prog X.w H s.heap a (.tup xs) from I.hok a _ ea)
    obtain ⟨o, h1, h2, _⟩ := p
    exact PySem.W.kia_one PySem.W.kitx_tuple I.kIn ⟨o, h1, h2⟩ e (fun z => nomatch z) h
  | @dK a kvs ea =>
    cases (show u = Value.ref a from rx)
    obtain ⟨_, _, vs, _, p⟩ := (show ObjOk X.prog X.w H s.heap a (.dK kvs) from I.hok a _ ea)
    obtain ⟨o, es, ep, h1, h2, _⟩ := p
    exact PySem.W.kia_one PySem.W.kitx_dict I.kIn ⟨o, h1, h2.1⟩ e (fun z => nomatch z) h
  | @dT a kvs ea =>
    cases (show u = Value.ref a from rx)
    obtain ⟨_, _, xs, _, o, es, ep, h1, h2, _⟩ := (show ObjOk X.prog X.w H s.heap a (.dT kvs) from I.hok a _ ea)
    exact PySem.W.kia_one PySem.W.kitx_dict I.kIn ⟨o, h1, h2.1⟩ e (fun z => nomatch z) h
  | @ins a C dx fs ea cl ha hn htk hm =>
    cases (show u = Value.ref a from rx)
    obtain ⟨mA, O, _⟩ := ins_get I.hok ea
    obtain ⟨od, J, _⟩ := O.look
    exact PySem.W.kia_one (PySem.W.kitx_own (cl.get _) cl.hd ha hn htk hm) I.kIn J e (fun z => nomatch z) h
end
end L2

namespace L2
open PySem PySem.Spec PyProof.Rows

structure Room (k : Nat) (A : Around) : Prop where
  hd : A.handled = none
  dp : A.depth + 3 * k + 5 < recursionLimit
  un : A.units + 16 * k + 200 < cLine
  gd : A.guards = some []
theorem Room.mono {j k : Nat} {A : Around} (r : Room k A) (h : j ≤ k) : Room j A := ⟨r.hd, by have := r.dp; omega, by have := r.un; omega, r.gd⟩
theorem Room.deeper {k : Nat} {A : Around} (r : Room (k + 1) A) (env : Env) : Room k (A.deeper env) :=
  ⟨r.hd, by have := r.dp; show A.depth + 1 + 3 * k + 5 < _; omega, by have := r.un; show A.units + 3 + 16 * k + 200 < _; omega, r.gd⟩
theorem Room.in1 {k : Nat} {A : Around} (r : Room (k + 1) A) : Room k A.in1 :=
  ⟨r.hd, by have := r.dp; show A.depth + 3 * k + 5 < _; omega, by have := r.un; show A.units + 1 + 16 * k + 200 < _; omega, r.gd⟩
theorem Room.depth {k : Nat} {A : Around} (r : Room k A) : A.depth < recursionLimit := by have := r.dp; omega
theorem Room.units {k : Nat} {A : Around} (r : Room k A) : A.units + 64 < cLine := by have := r.un; omega
theorem Room.units0 {k : Nat} {A : Around} (r : Room k A) : A.units < cLine := by have := r.un; omega

def tNil : TA := fun _ H Q => Q [] H
def tCons (ta : TE) (tr : TA) : TA := fun σ H Q => ta σ H fun x H1 => tr σ H1 fun xs H2 => Q (x :: xs) H2
section
variable {X : Cx} {e : Expr} {es : List Expr} {te : TE} {t : TA} {pos : Pos}
theorem pa_nil : PA X [] tNil := fun _ _ _ _ H Q I h => Calls.spliced_nil ⟨[], H, I, .nil, h⟩
theorem pa_cons (ha : PE X e te) (hr : PA X es t) (hs : starEach (e :: es) X.env = (false, eval e X.env) :: starEach es X.env := by rfl) : PA X (e :: es) (tCons te t) := by
  intro pos pins s σ H Q I h
  rw [hs]
  show wpAny _ _ (spliced ((false, eval e X.env) :: backTo pos (starEach es X.env))) _ _ s
  refine Calls.spliced_cons (thn (ha pins s σ H _ I h) fun u s1 ⟨x, H1, I1, r1, q1⟩ => ?_)
  exact thn (hr pos pins s1 σ H1 _ I1 q1) fun us s2 ⟨xs, H2, I2, r2, q2⟩ => ⟨x :: xs, H2, I2, .cons r1 r2, q2⟩

def tTup (t : TA) : TE := fun σ H Q => t σ H fun xs H1 => xs.length ≤ sizeLine ∧ ∀ p, H1 p = none → Q (.ref p) (upd H1 p (.tup xs))
def tLst (t : TA) : TE := fun σ H Q => t σ H fun xs H1 => xs.length ≤ sizeLine ∧ ∀ p, H1 p = none → Q (.ref p) (upd H1 p (.lst xs))
theorem pe_tup {x1} (h : PA X es t) : PE X (.Tuple es x1 pos) (tTup t) := by
  intro pins s σ H Q I hq
  refine wpAny_Tuple_spliced (thn (h pos pins s σ H _ I hq) fun us s1 ⟨xs, H1, I1, r, z, q⟩ => ⟨by rw [← r.length]; exact z, ?_⟩)
  have hf : H1 s1.heap.objs.size = none := I1.hok.fresh (Nat.le_refl _)
  refine ⟨.ref s1.heap.objs.size, upd H1 s1.heap.objs.size (.tup xs), I1.laid (t' := s1.toks) (fun b u e => Heap.get?_push_of_some _ e) (Nat.le_refl _) ?_, rfl, q _ hf⟩
  exact ⟨z, us, r, ⟨_, Heap.get?_push_size _ rfl, rfl, _, rfl⟩⟩
theorem pe_lst (h : PA X es t) : PE X (.List es pos) (tLst t) := by
  intro pins s σ H Q I hq
  refine wpAny_List_spliced (thn (h pos pins s σ H _ I hq) fun us s1 ⟨xs, H1, I1, r, z, q⟩ => ⟨by rw [← r.length]; exact z, ?_⟩)
  have hf : H1 s1.heap.objs.size = none := I1.hok.fresh (Nat.le_refl _)
  refine ⟨.ref s1.heap.objs.size, upd H1 s1.heap.objs.size (.lst xs), I1.laid (t' := s1.toks) (fun b u e => Heap.get?_push_of_some _ e) (Nat.le_refl _) ?_, rfl, q _ hf⟩
  exact ⟨z, us, 0, r, Heap.get?_push_size _ rfl⟩
end

abbrev Sp := List V → Hp → VK → XK → Prop
abbrev CXT := List Env → Hp → Shared → XK → Value → Shared → Prop

structure Env0 (P : Program) (w : World) (K : PySem.W.Frag) (mg : Str → Option Value) (base : Heap) (A : Around) (outer : List Env) (s : Shared) (H : Hp) : Prop where
  frames : A.frames = some outer
  mod : Mod K mg base
  bs : ∀ b o, base.get? b = some o → s.heap.get? b = some o ∧ H b = none
  bsz : base.objs.size ≤ s.heap.objs.size
  funs : s.heap.FunFrames base outer
  frf : ∀ b ∈ frs outer, H b = none
  hok : HOk P w H s.heap
  bare : AllBare s.gens
def CE (outer : List Env) (P : Program) (w : World) (H : Hp) (s : Shared) (Q : VK) (u : Value) (s' : Shared) : Prop :=
  ∃ v H', s'.os = s.os ∧ AllBare s'.gens ∧ Un (frs outer) [] H H' s.heap s'.heap ∧ HOk P w H' s'.heap ∧ RelV v u ∧ Q v H'
def CR (CX : CXT) (outer : List Env) (P : Program) (w : World) (H : Hp) (s : Shared) (Q : VK) (E : XK) (r : Result) (s' : Shared) : Prop :=
  match r with
  | .ok (.ret u) => CE outer P w H s Q u s'
  | .ok _ => False
  | .error e => CX outer H s E e s'
structure FnOk (P : Program) (w : World) (K : PySem.W.Frag) (mg : Str → Option Value) (base : Heap) (CX : CXT) (k : Nat) (f : Addr) (fd : FuncData) (ps : List Str) (sp : Sp) : Prop where
  len : ∀ vs H Q E, sp vs H Q E → vs.length = ps.length
  run : ∀ (A : Around) (outer : List Env) (s : Shared) (H : Hp) (args : Args) (us : List Value) (vs : List V) (Q : VK) (E : XK), Room k A → Env0 P w K mg base A outer s H → BindsTo s fd args (ps.zip us) → Vals vs us → sp vs H Q E →
    codeAny (model P w) A (.call (.ref f) args) (CR CX outer P w H s Q E) s
theorem FnOk.mono {P : Program} {w : World} {K : PySem.W.Frag} {mg : Str → Option Value} {base : Heap} {CX : CXT} {j k : Nat} {f : Addr} {fd : FuncData} {ps : List Str} {sp : Sp} (F : FnOk P w K mg base CX j f fd ps sp) (h : j ≤ k) :
    FnOk P w K mg base CX k f fd ps sp := ⟨F.len, fun A outer s H args us vs Q E hr => F.run A outer s H args us vs Q E (hr.mono h)⟩
theorem FnOk.imp {P : Program} {w : World} {K : PySem.W.Frag} {mg : Str → Option Value} {base : Heap} {CX : CXT} {k : Nat} {f : Addr} {fd : FuncData} {ps : List Str} {sp sp' : Sp} (F : FnOk P w K mg base CX k f fd ps sp)
    (h : ∀ vs H Q E, sp' vs H Q E → sp vs H Q E) : FnOk P w K mg base CX k f fd ps sp' :=
  ⟨fun vs H Q E q => F.len vs H Q E (h _ _ _ _ q), fun A outer s H args us vs Q E hr he hb hv hs => F.run A outer s H args us vs Q E hr he hb hv (h _ _ _ _ hs)⟩

theorem Env0.in1 {P : Program} {w : World} {K : PySem.W.Frag} {mg : Str → Option Value} {base : Heap} {A : Around} {outer : List Env} {s : Shared} {H : Hp} (e : Env0 P w K mg base A outer s H) :
    Env0 P w K mg base A.in1 outer s H := ⟨e.frames, e.mod, e.bs, e.bsz, e.funs, e.frf, e.hok, e.bare⟩

section
variable {X : Cx} {pins : List (Addr × Obj)} {σ : St} {H : Hp} {s s' : Shared}
theorem Inv.env0 (I : Inv X pins σ H s) : Env0 X.prog X.w X.K X.mg X.base X.A X.stack s H :=
  ⟨I.ok.frames, I.ok.mod, I.bs, Nat.le_trans I.ok.bsz I.sz, I.stack, I.stkFree, I.hok, I.bare⟩
theorem Inv.after {Q : VK} {u : Value} (I : Inv X pins σ H s) (h : CE X.stack X.prog X.w H s Q u s') : EP X pins σ Q u s' := by
  obtain ⟨v, H', os, bare, un, hok, r, q⟩ := h
  obtain ⟨hh, g, d, t, os'⟩ := s'
  obtain rfl : os' = s.os := os
  exact ⟨v, H', I.call (h' := hh) (g' := g) (d' := d) (t' := t) (ch := []) un hok bare (fun b z => absurd z (by simp)), r, q⟩
end

def tCall (sp : Sp) (dvs : List V) (E : XK) (t : TA) : TE := fun σ H Q => t σ H fun vs H1 => sp (vs ++ dvs) H1 Q E

def Binds (K : PySem.W.Frag) (fd : FuncData) (ps : List Str) (ds : List Value) : Prop :=
  ∀ (s : Shared) (us : List Value), K.In s.heap → (us ++ ds).length = ps.length → BindsTo s fd ⟨us, []⟩ (ps.zip (us ++ ds))
theorem Binds.all {K : PySem.W.Frag} {fd : FuncData} {ps : List Str} (h : ∀ us : List Value, us.length = ps.length → bindArgs fd ⟨us, []⟩ = pure (ps.zip us)) : Binds K fd ps [] := fun s us _ hl => by
  rw [List.append_nil] at hl ⊢
  exact .of_eq (h us hl)

def Passes (CX : CXT) (X : Cx) (E : XK) : Prop := ∀ (pins : List (Addr × Obj)) (σ : St) (H : Hp) (s : Shared) (e : Value) (s' : Shared), Inv X pins σ H s → CX X.stack H s E e s' → X.xe e s'

section
variable {X : Cx} {CX : CXT} {k : Nat} {f C : Addr} {fd : FuncData} {ps : List Str} {sp : Sp} {dvs : List V} {ds : List Value} {E : XK} {x m : Str} {p pos apos : Pos} {e o : Expr} {es : List Expr} {ta : TE} {t : TA}

theorem run_fn {pins : List (Addr × Obj)} {σ : St} {H : Hp} {s : Shared} {Q : VK} {us : List Value} {vs : List V} (F : FnOk X.prog X.w X.K X.mg X.base CX k f fd ps sp) (hr : Room k X.A) (hb : Binds X.K fd ps ds) (hd : Vals dvs ds) (hx : Passes CX X E)
    (I : Inv X pins σ H s) (r : Vals vs us) (h : sp (vs ++ dvs) H Q E) : wpAny (model X.prog X.w) X.A (call (.ref f) us) (EP X pins σ Q) X.xe s := by
  have r2 : Vals (vs ++ dvs) (us ++ ds) := r.append hd
  have hl : (us ++ ds).length = ps.length := by rw [← r2.length]; exact F.len _ _ _ _ h
  refine wpAny_call (codeAny_mono (F.run X.A X.stack s H ⟨us, []⟩ (us ++ ds) (vs ++ dvs) Q E hr I.env0 (hb s us I.kIn hl) r2 h) fun r s' hq => ?_)
  cases r with
  | error e => exact hx pins σ H s e s' I hq
  | ok fl =>
    cases fl with
    | ret u => exact I.after hq
    | next => exact False.elim hq
    | brk => exact False.elim hq
    | cont => exact False.elim hq

theorem pe_call (F : FnOk X.prog X.w X.K X.mg X.base CX k f fd ps sp) (hr : Room k X.A) (hg : Gl X x) (hm : X.mg x = some (.ref f)) (hk : PySem.W.keepIn X.K (.ref f) = true) (hb : Binds X.K fd ps ds) (hd : Vals dvs ds) (hx : Passes CX X E)
    (ha : PA X (e :: es) t) (hdb : (x == ("__debug__" : Str)) = false := by decide) (he : starEach (e :: es) X.env = (false, eval e X.env) :: starEach es X.env := by rfl) (hpl : (backTo pos (starEach es X.env)).any (·.1) = false := by rfl) :
    PE X (.Call (.Name x p) (e :: es) [] pos) (tCall sp dvs E t) := by
  intro pins s σ H Q I h
  refine wpAny_Call_Name_kw (ld_glob I hg hm ?_ hdb)
  refine PySem.W.callWith_K (h₀ := X.base) I.ok.mod.kin hk (thn (ha pos pins s σ H _ I h) fun us s1 ⟨vs, H1, I1, r, q⟩ => ⟨I1.kIn, ?_⟩) he hpl
  exact run_fn F hr hb hd hx I1 r q


structure Mk (K : PySem.W.Frag) (C f : Addr) : Prop where
  makes : PySem.W.makesIn K C = true
  init : PySem.W.findIn K (.ref C) "__init__" = some (some (.ref f))
  fn : PySem.W.isFn K (.ref f) = true
  kp : PySem.W.keepIn K (.ref C) = true

end

section
variable {X : Cx} {CX : CXT} {k : Nat} {f C : Addr} {fd : FuncData} {ps ks : List Str} {sp : Sp} {E : XK} {x m : Str} {p pos apos kpos : Pos} {e o : Expr} {es : List Expr} {kws : List Keyword} {te ta : TE} {t tk : TA} {nm : Option Str}

structure KBinds (K : PySem.W.Frag) (fd : FuncData) (ps ks : List Str) (g : List Value → List Value → List Value) (gV : List V → List V → List V) : Prop where
  to : ∀ (s : Shared) (us ws : List Value), K.In s.heap → (g us ws).length = ps.length → BindsTo s fd ⟨us, ks.zip ws⟩ (ps.zip (g us ws))
  rel : ∀ {vs : List V} {us : List Value} {zs : List V} {ws : List Value}, Vals vs us → Vals zs ws → Vals (gV vs zs) (g us ws)
variable {g : List Value → List Value → List Value} {gV : List V → List V → List V}
end

structure FnScope (N P : List Str) (sc : Scope) : Prop where
  kind : sc.kind = .function
  co : sc.isCoroutine = false
  gen : sc.isGenerator = false
  nd : N.Nodup
  pre : N.take P.length = P
  par : ∀ x ∈ P, sc.names.lookup x = some .local ∨ sc.names.lookup x = some .cell
  nofree : ∀ y ∈ sc.names, y.2 ≠ .free

theorem bindL_out {kindOf : Str → Option NameKind} {x : Str} : ∀ {binds : List (Str × Value)} {m : Str → Option Value}, (∀ v, (x, v) ∉ binds) → bindL kindOf binds m x = m x
  | [], _, _ => rfl
  | (n, v) :: r, m, h => by
    unfold bindL
    rw [bindL_out fun w hw => h w (List.mem_cons_of_mem _ hw)]
    split
    · have : x ≠ n := by rintro rfl; exact h v List.mem_cons_self
      simp [this]
    · rfl
theorem bindC_out {kindOf : Str → Option NameKind} {x : Str} : ∀ {binds : List (Str × Value)} {m : Str → Option Value}, (∀ v, (x, v) ∉ binds) → bindC kindOf binds m x = m x
  | [], _, _ => rfl
  | (n, v) :: r, m, h => by
    unfold bindC
    rw [bindC_out fun w hw => h w (List.mem_cons_of_mem _ hw)]
    split
    · rfl
    · have : x ≠ n := by rintro rfl; exact h v List.mem_cons_self
      simp [this]
theorem bindL_get {kindOf : Str → Option NameKind} {x : Str} {v : Value} : ∀ {P : List Str} {vs : List Value} {i : Nat} {m : Str → Option Value}, P.Nodup → P[i]? = some x → vs[i]? = some v → kindOf x = some .local →
    bindL kindOf (P.zip vs) m x = some v
  | [], _, _, _, _, h, _, _ => by simp at h
  | _ :: _, [], _, _, _, _, h, _ => by simp at h
  | p :: P, w :: vs, 0, m, nd, h1, h2, hk => by
    simp at h1 h2; subst h1; subst h2
    show bindL kindOf ((p, w) :: P.zip vs) m p = _
    unfold bindL
    rw [bindL_out fun v hv => (List.nodup_cons.mp nd).1 (List.of_mem_zip hv).1, if_pos hk]
    simp
  | p :: P, w :: vs, i + 1, m, nd, h1, h2, hk => by
    show bindL kindOf ((p, w) :: P.zip vs) m x = _
    unfold bindL
    exact bindL_get (i := i) (List.nodup_cons.mp nd).2 (by simpa using h1) (by simpa using h2) hk
theorem bindC_get {kindOf : Str → Option NameKind} {x : Str} {v : Value} : ∀ {P : List Str} {vs : List Value} {i : Nat} {m : Str → Option Value}, P.Nodup → P[i]? = some x → vs[i]? = some v → kindOf x ≠ some .local →
    bindC kindOf (P.zip vs) m x = some v
  | [], _, _, _, _, h, _, _ => by simp at h
  | _ :: _, [], _, _, _, _, h, _ => by simp at h
  | p :: P, w :: vs, 0, m, nd, h1, h2, hk => by
    simp at h1 h2; subst h1; subst h2
    show bindC kindOf ((p, w) :: P.zip vs) m p = _
    unfold bindC
    rw [bindC_out fun v hv => (List.nodup_cons.mp nd).1 (List.of_mem_zip hv).1, if_neg hk]
    simp
  | p :: P, w :: vs, i + 1, m, nd, h1, h2, hk => by
    show bindC kindOf ((p, w) :: P.zip vs) m x = _
    unfold bindC
    exact bindC_get (i := i) (List.nodup_cons.mp nd).2 (by simpa using h1) (by simpa using h2) hk

def start (N : List Str) (vs : List V) : St := vs.map some ++ List.replicate (N.length - vs.length) none

def cxOf (CX : CXT) (P : Program) (w : World) (K : PySem.W.Frag) (mg : Str → Option Value) (base : Heap) (N : List Str) (qual : Str) (scope : Scope) (f : Addr) (cd : Value) (A : Around) (outer : List Env) (s : Shared) (H : Hp) (E : XK) : Cx where
  prog := P
  w := w
  K := K
  mg := mg
  base := base
  A := A.deeper (envOfC qual scope s.heap.objs.size f cd)
  N := N
  s₀ := s
  H₀ := H
  env := envOfC qual scope s.heap.objs.size f cd
  outer := outer
  stack := envOfC qual scope s.heap.objs.size f cd :: outer
  ex := []
  calm := true
  fn := fun _ => true
  pn := []
  xe := fun e s' => wpAny (model P w) (A.deeper (envOfC qual scope s.heap.objs.size f cd)) (leaving (envOfC qual scope s.heap.objs.size f cd) e) (fun _ s'' => CX outer H s E e s'') (fun e' s'' => CX outer H s E e' s'') s'

theorem cell_has {sc : Scope} {n : Nat} {x : Str} (h : sc.names.lookup x = some .cell) : ∃ c, (cellsFrom n sc.names []).lookup x = some c := by
  have q := PySem.W.cellsFrom_some sc.names n [] (.inl h)
  exact Option.isSome_iff_exists.mp q

theorem inv_start {CX : CXT} {P : Program} {w : World} {K : PySem.W.Frag} {mg : Str → Option Value} {base : Heap} {N ps : List Str} {qual : Str} {scope : Scope} {f : Addr} {cd : Value} {A : Around} {outer : List Env} {s s1 : Shared} {H : Hp} {E : XK} {us : List Value} {vs : List V}
    (S : FnScope N ps scope) (hd : A.handled = none) (e0 : Env0 P w K mg base A outer s H) (hl : vs.length = ps.length) (r : Vals vs us)
    (x : InCallC s s.heap.objs.size (bindL (envOfC qual scope s.heap.objs.size f cd).kindOf (ps.zip us) fun _ => none) (cellsFrom (s.heap.objs.size + 1) scope.names []) (bindC (envOfC qual scope s.heap.objs.size f cd).kindOf (ps.zip us) fun _ => none) s1) :
    Inv (cxOf CX P w K mg base N qual scope f cd A outer s H E) [] (start N vs) H s1 := by
  have hpl : ps.length ≤ N.length := by have := congrArg List.length S.pre; rw [List.length_take] at this; omega
  obtain ⟨h1, tk, rfl, hk⟩ := x.done
  have noA : ∀ b : Addr, b ∉ (cxOf CX P w K mg base N qual scope f cd A outer s H E).ex := fun b z => absurd (show b ∈ ([] : List Addr) from z) (by simp)
  refine ⟨⟨e0.mod, S.kind, rfl, rfl, Nat.le_refl _, fun y z c h1 h2 => ?_, fun y hy => ?_, fun y c _ h => ?_, fun _ => hd, Around.frames_deeper e0.frames, .inr ⟨rfl, rfl⟩, fun b z => absurd z (noA b), e0.bs, e0.bsz, fun b _ _ => noA b, fun b z => absurd z (noA b), e0.funs, e0.frf⟩,
    rfl, e0.bare, Un.kept hk, ⟨_, x.toInCall.ns, fun i y v h1 h2 h3 => ?_⟩, fun y c h => ⟨_, x.cell y c h⟩, e0.hok.fresh (Nat.le_refl _), fun y c h => ?_, fun p hp => absurd (show p ∈ ([] : List (Addr × Obj)) from hp) (by simp), e0.hok.kept hk, ?_⟩
  · exact name_of_addr x.apart (PySem.mem_of_lookup h1) (PySem.mem_of_lookup h2)
  · have hy : scope.names.lookup y = some .cell ∨ scope.names.lookup y = some .free := hy
    rcases hy with hy | hy
    · exact cell_has hy
    · exact absurd rfl (S.nofree _ (PySem.mem_of_lookup hy))
  · exact Nat.le_of_lt (x.above y c (PySem.mem_of_lookup h))
  · have hi : i < vs.length := by
      unfold start at h2
      by_cases hi : i < vs.length
      · exact hi
      · rw [List.getElem?_append_right (by simpa using hi)] at h2
        rw [List.getElem?_replicate] at h2
        split at h2 <;> cases h2
    have ha : vs[i]? = some v := by
      unfold start at h2
      rw [List.getElem?_append_left (by simpa using hi), List.getElem?_map] at h2
      cases e : vs[i]? with
      | none => rw [e] at h2; cases h2
      | some a => rw [e] at h2; cases h2; rfl
    obtain ⟨u, hu, rv⟩ := r.get ha
    have hp : ps[i]? = some y := by
      rw [← S.pre, List.getElem?_take_of_lt (by omega)]; exact h1
    have ndP : ps.Nodup := by rw [← S.pre]; exact S.nd.sublist (List.take_sublist _ _)
    refine ⟨u, rv, ?_⟩
    rcases S.par y (List.mem_of_getElem? hp) with k | k
    · exact .inl ⟨k, bindL_get ndP hp hu k⟩
    · obtain ⟨c, e⟩ := cell_has (n := s.heap.objs.size + 1) k
      refine .inr ⟨.inl k, c, e, ?_⟩
      have q := x.cell y c e
      rw [bindC_get ndP hp hu (by show scope.names.lookup y ≠ _; rw [k]; decide)] at q
      exact q
  · exact e0.hok.fresh (Nat.le_of_lt (x.above y c (PySem.mem_of_lookup h)))
  · unfold start
    show _ = N.length
    rw [List.length_append, List.length_map, List.length_replicate]
    omega

theorem fn_of {CX : CXT} {P : Program} {w : World} {K : PySem.W.Frag} {mg : Str → Option Value} {base : Heap} {k : Nat} {f : Addr} {name qual : Str} {params : Arguments} {body : List Stmt} {scope : Scope} {dV kV doc pm cdv ct oc : Value} {an od : Option Addr}
    {osl : Array (Option Value)} {N ps : List Str} {sp : Sp} (lk : K.lookup f = some ⟨oc, od, .func (PySem.W.fnOf name qual params body scope dV kV doc pm an cdv ct), osl⟩) (hcd : PySem.W.codeIn K cdv qual = true) (S : FnScope N ps scope)
    (len : ∀ vs H Q E, sp vs H Q E → vs.length = ps.length)
    (hbody : ∀ (A : Around) (outer : List Env) (s : Shared) (H : Hp) (vs : List V) (Q : VK) (E : XK), Room k (A.deeper (envOfC qual scope s.heap.objs.size f cdv)) → sp vs H Q E →
      ∃ t, PSs (cxOf CX P w K mg base N qual scope f cdv A outer s H E) body t ∧ t { nx := fun _ H' => Q .non H', rt := Q } (start N vs) H) :
    FnOk P w K mg base CX (k + 1) f (PySem.W.fnOf name qual params body scope dV kV doc pm an cdv ct) ps sp := by
  refine ⟨len, fun A outer s H args us vs Q E hr e0 hb r hsp => ?_⟩
  have hl := len _ _ _ _ hsp
  have KX : K.In s.heap := e0.mod.kin.keeps fun b o e => (e0.bs b o e).1
  have lim : s.heap.NoLimit := e0.mod.nolimit.keeps fun b o e => (e0.bs b o e).1
  have hkind : ∀ y ∈ ps.zip us, scope.names.lookup y.1 = some .local ∨ (scope.names.lookup y.1 = some .cell ∧ ((cellsFrom (s.heap.objs.size + 1) scope.names []).lookup y.1).isSome = true) := fun ⟨n, v⟩ hy => by
    rcases S.par n (List.of_mem_zip hy).1 with q | q
    · exact .inl q
    · exact .inr ⟨q, PySem.W.cellsFrom_some _ _ _ (.inl q)⟩
  refine codeAny_call_function hr.depth (KX _ _ lk) rfl S.co S.gen rfl (PySem.W.codeRec_of KX hcd) (hb _ _ _ _ ?_)
  refine wpAny_newFunctionEnv_cells S.kind hkind fun env he s1 x => ?_
  subst he
  refine ⟨lim.keeps x.toInCall.keep, codeAny_func ?_⟩
  obtain ⟨t, ht, hq⟩ := hbody A outer s H vs Q E (hr.deeper _) hsp
  have I : Inv (cxOf CX P w K mg base N qual scope f cdv A outer s H E) [] (start N vs) H s1 := inv_start S hr.hd e0 hl r x
  refine wpAny_mono (ht [] s1 (start N vs) H _ I hq) (fun fl s' hs => ?_) fun e s' hs => hs
  have fin : ∀ {σ' : St} {H' : Hp} {v : V} {u : Value}, Inv (cxOf CX P w K mg base N qual scope f cdv A outer s H E) [] σ' H' s' → RelV v u → Q v H' → CE outer P w H s Q u s' :=
    fun {σ' H' v u} J rv q => ⟨v, H', J.os, J.bare, J.base, J.hok, rv, q⟩
  cases fl with
  | ret u =>
    obtain ⟨v, σ', H', J, rv, q⟩ := hs
    exact fin J rv q
  | next =>
    obtain ⟨σ', H', J, q⟩ := hs
    exact fin (v := V.non) (u := Value.none) J rfl q
  | brk =>
    obtain ⟨_, _, _, q⟩ := hs
    exact False.elim q
  | cont =>
    obtain ⟨_, _, _, q⟩ := hs
    exact False.elim q
end L2

namespace L2
open PySem PySem.Spec PyProof.Rows
section
variable {X : Cx} {x : Str} {p pos : Pos} {e : Expr} {es : List Expr} {t : TA} {id T : String} {r : List V → Hp → VK → Prop}

def tCB (r : List V → Hp → VK → Prop) (t : TA) : TE := fun σ H Q => t σ H fun vs H1 => r vs H1 Q
theorem pe_callB (hc : CallR X (.builtin id) r) (hg : Gl X x) (hm : X.mg x = none) (hv : bootBuiltins x = some (.builtin id)) (ha : PA X (e :: es) t) (hn : x ≠ "__name__" := by decide) (hdb : (x == ("__debug__" : Str)) = false := by decide)
    (he : starEach (e :: es) X.env = (false, eval e X.env) :: starEach es X.env := by rfl) (hpl : (backTo pos (starEach es X.env)).any (·.1) = false := by rfl) : PE X (.Call (.Name x p) (e :: es) [] pos) (tCB r t) := by
  intro pins s σ H Q I h
  refine wpAny_Call_Name_kw (ld_blt I hg hm hv ?_ hn hdb)
  exact PyProof.Rows.callWith_builtin1 (thn (ha pos pins s σ H _ I h) fun us s1 ⟨vs, H1, I1, r1, q1⟩ => hc pins s1 σ H1 vs us Q I1 r1 q1) he hpl
theorem pe_callTy (hc : CallR X (.type T) r) (hg : Gl X x) (hm : X.mg x = none) (hv : bootBuiltins x = some (.type T)) (ha : PA X (e :: es) t) (hn : x ≠ "__name__" := by decide) (hdb : (x == ("__debug__" : Str)) = false := by decide)
    (he : starEach (e :: es) X.env = (false, eval e X.env) :: starEach es X.env := by rfl) (hpl : (backTo pos (starEach es X.env)).any (·.1) = false := by rfl) : PE X (.Call (.Name x p) (e :: es) [] pos) (tCB r t) := by
  intro pins s σ H Q I h
  refine wpAny_Call_Name_kw (ld_blt I hg hm hv ?_ hn hdb)
  exact PyProof.Rows.callWith_type1 (thn (ha pos pins s σ H _ I h) fun us s1 ⟨vs, H1, I1, r1, q1⟩ => hc pins s1 σ H1 vs us Q I1 r1 q1) he hpl
end
end L2

namespace HT
open PySem PyProof.Rows



section
open PySem.SeqAt
open PySem.AutoSeq1 (wpAny_loadPart')
open PySem.MeetsSeq PySem.MeetsSeq2 PySem.MeetsSeq3

end

section
variable {prog : Program} {w : World} {A : Around} {E : Value → Shared → Prop} {s : Shared}



def sIx (n d : Nat) : Option Int → Nat
  | none => d
  | some v => if v < 0 then (v + (n : Int)).toNat else min v.toNat n
theorem sIx_none (n d : Nat) : sIx n d none = d := rfl
theorem sIx_nat (n d k : Nat) : sIx n d (some (k : Int)) = min k n := by
  show (if (k : Int) < 0 then ((k : Int) + (n : Int)).toNat else min (k : Int).toNat n) = min k n
  rw [if_neg (by omega), Int.toNat_natCast]

end
end HT

namespace L2
open PySem PySem.Spec PyProof.Rows

abbrev TO := St → Hp → (Option Int → Hp → Prop) → Prop
def PO (X : Cx) (e : Option Expr) (t : TO) : Prop :=
  ∀ (pins : List (Addr × Obj)) (s : Shared) (σ : St) (H : Hp) (Q : Option Int → Hp → Prop), Inv X pins σ H s → t σ H Q →
    wpAny (model X.prog X.w) X.A (evalPart e X.env) (fun u s' => ∃ o H', Inv X pins σ H' s' ∧ IsPart u o ∧ Q o H') X.xe s
def tNoPart : TO := fun _ H Q => Q none H
def tPart (t : TE) : TO := fun σ H Q => t σ H fun x H1 => ∃ i, x = .int i ∧ Q (some i) H1


section
variable {X : Cx} {e : Expr} {te : TE} {lo hi : Option Expr} {tl th : TO} {pos p2 : Pos}

theorem po_none : PO X none tNoPart := by
  intro pins s σ H Q I h
  rw [evalPart_none]
  exact wpAny_pure ⟨none, H, I, .none, h⟩
theorem po_some (h : PE X e te) : PO X (some e) (tPart te) := by
  intro pins s σ H Q I hw
  rw [evalPart_some]
  refine thn (h pins s σ H _ I hw) fun u s1 ⟨x, H1, I1, r1, q1⟩ => ?_
  obtain ⟨i, rfl, q⟩ := q1
  obtain ⟨t, rfl⟩ := r1
  exact ⟨some i, H1, I1, .int i t, q⟩

def SlR (X : Cx) (r : V → Option Int → Option Int → Hp → VK → Prop) : Prop :=
  ∀ (pins : List (Addr × Obj)) (s : Shared) (σ : St) (H : Hp) (x : V) (v vl vu : Value) (lo hi : Option Int) (sl : Addr) (Q : VK), Inv X pins σ H s → RelV x v → s.heap.IsSliceOf sl vl vu .none → IsPart vl lo → IsPart vu hi → r x lo hi H Q →
    ∃ T id, typeLookup (.type T) "__getitem__" = pure (some (.builtin id)) ∧ s.TypeIs v T ∧ wpAny (model X.prog X.w) X.A (getItem v (.ref sl)) (EP X pins σ Q) X.xe s
def tSl (r : V → Option Int → Option Int → Hp → VK → Prop) (te : TE) (tl th : TO) : TE := fun σ H Q => te σ H fun x H1 => tl σ H1 fun l H2 => th σ H2 fun u H3 => r x l u H3 Q
theorem pe_slice {r : V → Option Int → Option Int → Hp → VK → Prop} (hr : SlR X r) (he : PE X e te) (hl : PO X lo tl) (hu : PO X hi th) : PE X (.Subscript e (.Slice lo hi none p2) pos) (tSl r te tl th) := by
  intro pins s σ H Q I h
  refine Subscript_ (thn (he pins s σ H _ I h) fun v s1 ⟨x, H1, I1, r1, q1⟩ => ?_)
  refine wpAny_Slice (thn (hl pins s1 σ H1 _ I1 q1) fun vl s2 ⟨l, H2, I2, pl, q2⟩ => thn (hu pins s2 σ H2 _ I2 q2) fun vu s3 ⟨u, H3, I3, pu, q3⟩ => ?_)
  rw [evalPart_none]
  refine wpAny_pure ?_
  have I4 : Inv X pins σ H3 { s3 with heap := s3.heap.push { cls := .type "slice", data := .fields #[vl, vu, .none] } } := I3.kept (t' := s3.toks) fun b ob q => Heap.get?_push_of_some _ q
  obtain ⟨T, id, hT, ht, hg⟩ := hr pins { s3 with heap := s3.heap.push { cls := .type "slice", data := .fields #[vl, vu, .none] } } σ H3 x v vl vu l u s3.heap.objs.size Q I4 r1 (Heap.IsSliceOf.new ..) pl pu q3
  show wpAny (model X.prog X.w) X.A (subscriptTail e (.Slice lo hi none p2) v (.ref s3.heap.objs.size)) (EP X pins σ Q) X.xe { s3 with heap := s3.heap.push { cls := .type "slice", data := .fields #[vl, vu, .none] } }
  exact tail_any (ops := [.ref s3.heap.objs.size, v]) ht hT hg (by with_unfolding_all rfl)

def cutV (xs : List V) (lo hi : Option Int) : List V := (xs.drop (HT.sIx xs.length 0 lo)).take (HT.sIx xs.length xs.length hi - HT.sIx xs.length 0 lo)
theorem cutV_length (xs : List V) (lo hi : Option Int) : (cutV xs lo hi).length ≤ xs.length := by
  unfold cutV
  rw [List.length_take, List.length_drop]
  omega

end
end L2

namespace L2
open PySem PySem.Spec PyProof.Rows

def ixN (n : Nat) (i : Int) : Option Nat := if 0 ≤ i then (if i < n then some i.toNat else none) else if -(n : Int) ≤ i then some (i + n).toNat else none
def atI {α : Type} (xs : List α) (i : Int) : Option α := (ixN xs.length i).bind fun j => xs[j]?
theorem ixN_seq {n : Nat} {i : Int} {j : Nat} (h : ixN n i = some j) : seqIndex? i n = some j ∧ j < n ∧ -(n : Int) ≤ i ∧ i < n := by
  unfold ixN at h
  by_cases h0 : 0 ≤ i
  · rw [if_pos h0] at h
    by_cases h1 : i < n
    · rw [if_pos h1] at h
      have e : i.toNat = j := Option.some.inj h
      exact ⟨by rw [seqIndex_of h0 h1, e], by omega, by omega, h1⟩
    · rw [if_neg h1] at h; cases h
  · rw [if_neg h0] at h
    by_cases h1 : -(n : Int) ≤ i
    · rw [if_pos h1] at h
      have e : (i + n).toNat = j := Option.some.inj h
      exact ⟨by rw [seqIndex_neg (by omega) h1, e], by omega, h1, by omega⟩
    · rw [if_neg h1] at h; cases h
theorem atI_get {α : Type} {xs : List α} {i : Int} {v : α} (h : atI xs i = some v) : ∃ j, seqIndex? i xs.length = some j ∧ xs[j]? = some v ∧ j < xs.length ∧ -(xs.length : Int) ≤ i ∧ i < xs.length := by
  unfold atI at h
  cases e : ixN xs.length i with
  | none => rw [e] at h; cases h
  | some j =>
    rw [e] at h
    obtain ⟨h1, h2, h3, h4⟩ := ixN_seq e
    exact ⟨j, h1, h, h2, h3, h4⟩
theorem atI_nat {α : Type} {xs : List α} {j : Nat} {v : α} (h : xs[j]? = some v) : atI xs (j : Int) = some v := by
  have hj : j < xs.length := (List.getElem?_eq_some_iff.mp h).1
  have e : ixN xs.length (j : Int) = some j := by
    unfold ixN
    rw [if_pos (by omega), if_pos (by omega)]; simp
  unfold atI; rw [e]; exact h

def PlainIx (b : Expr) : Prop := ∀ o i, subscripted b false o i = operate [o, i] (getItem o i)
def IxR (X : Cx) (r : R2) : Prop :=
  ∀ (value slice : Expr) (pins : List (Addr × Obj)) (s : Shared) (σ : St) (H : Hp) (x y : V) (v u : Value) (Q : VK), Inv X pins σ H s → RelV x v → RelV y u → r x y H Q →
    subscripted slice false v u = operate [v, u] (getItem v u) → wpAny (model X.prog X.w) X.A (subscriptTail value slice v u) (EP X pins σ Q) X.xe s
def MtR (X : Cx) (id : String) (r : V → List V → Hp → VK → Prop) : Prop :=
  ∀ (pins : List (Addr × Obj)) (s : Shared) (σ : St) (H : Hp) (x : V) (xs : List V) (v : Value) (us : List Value) (Q : VK), Inv X pins σ H s → RelV x v → Vals xs us → r x xs H Q →
    wpAny (model X.prog X.w) X.A (call (.builtin id) (v :: us)) (EP X pins σ Q) X.xe s
section
variable {X : Cx} {a b : Expr} {ta tb : TE} {pos : Pos}
theorem pe_ix {r : R2} (hr : IxR X r) (ha : PE X a ta) (hb : PE X b tb) (hs : PlainIx b) : PE X (.Subscript a b pos) (tOp r ta tb) := by
  intro pins s σ H Q I h
  exact Subscript_ (binT ha hb I h fun v u s2 x y H2 I2 rx ry q => hr a b pins s2 σ H2 x y v u Q I2 rx ry q (hs _ _))

def rIxL (K : PySem.W.Frag) : R2 := fun x y H Q => ∃ p xs i v, x = .ref p ∧ y = .int i ∧ SqL K H p xs ∧ atI xs i = some v ∧ Q v H
def rIxS : R2 := fun x y H Q => ∃ z i c, x = .str z ∧ y = .int i ∧ z.length ≤ sizeLine ∧ atI z.cps.toList i = some c ∧ Q (.str ⟨#[c]⟩) H
theorem ix_list : IxR X (rIxL X.K) := by
  intro value slice pins s σ H x y v u Q I rx ry h hs
  obtain ⟨p, xs, i, z, rfl, rfl, hq, he, q⟩ := h
  cases rx
  obtain ⟨t, rfl⟩ := ry
  obtain ⟨its, r, pl, hz⟩ := I.list hq
  obtain ⟨j, h1, h2, h3, h4, h5⟩ := atI_get he
  obtain ⟨w, ew, rw'⟩ := r.get h2
  have hl := r.length
  have hn := line63
  have fin : EP X pins σ Q w s := ⟨z, H, I, rw', q⟩
  by_cases h0 : 0 ≤ i
  · have hj : i.toNat = j := by
      rw [seqIndex_of h0 h5] at h1
      exact Option.some.inj h1
    exact item_listR pl.isList h0 (by omega) (by rw [hj]; simpa using ew) fin hs
  · have hj : (i + (its.toArray.size : Int)).toNat = j := by
      rw [seqIndex_neg (by omega) h4] at h1
      rw [List.size_toArray, ← hl]
      exact Option.some.inj h1
    exact subscriptTail_builtinR (x := w) pl.isList.typeIs slot_list_getitem.lookup
      (wpAny_getItem_list_neg (Q := fun r s' => r = w ∧ EP X pins σ Q r s') pl.isList (by omega) (by rw [List.size_toArray] <;> omega) (by omega) (by rw [hj]; simpa using ew) ⟨rfl, fin⟩) hs
theorem ix_str : IxR X rIxS := by
  intro value slice pins s σ H x y v u Q I rx ry h hs
  obtain ⟨z, i, c, rfl, rfl, hz, he, q⟩ := h
  obtain ⟨t, rfl⟩ := rx
  obtain ⟨t', rfl⟩ := ry
  obtain ⟨j, h1, h2, h3, h4, h5⟩ := atI_get he
  have hl : z.cps.toList.length = z.length := by simp [Str.length]
  rw [hl] at h1 h4 h5
  have hn := line63
  exact tail_any (typeIs_str s z t) slot_str_getitem.lookup (getItem_str (c := c) (by
    have e1 : decide (i < -(2 ^ 63 : Int)) = false := decide_eq_false (by omega)
    have e2 : decide (i ≥ 2 ^ 63) = false := decide_eq_false (by omega)
    rw [e1, e2, Bool.or_false]) (by rw [h1]; simpa using h2) ⟨.str ⟨#[c]⟩, H, I.tok _, ⟨_, rfl⟩, q⟩) hs

theorem mapSeq_set (its : List Value) (n j : Nat) (u : Value) : Obj.mapSeq (·.setIfInBounds j u) { cls := .type "list", data := .seq its.toArray n } = { cls := .type "list", data := .seq (its.set j u).toArray n } := by
  simp [Obj.mapSeq]
theorem Inv.lst {pins : List (Addr × Obj)} {σ : St} {H : Hp} {s : Shared} {p : Addr} {xs : List V} (I : Inv X pins σ H s) (h : H p = some (.lst xs)) :
    ∃ (its : List Value) (n : Nat), Vals xs its ∧ s.heap.get? p = some { cls := .type "list", data := .seq its.toArray n } ∧ xs.length ≤ sizeLine := by
  obtain ⟨z, its, n, r, e⟩ := I.hok p _ h
  exact ⟨its, n, r, e, z⟩
theorem Inv.lstUpd {pins : List (Addr × Obj)} {σ : St} {H : Hp} {s : Shared} {p : Addr} {xs ys : List V} {its its' : List Value} {n n' : Nat} {f : Obj → Obj} (I : Inv X pins σ H s) (h : H p = some (.lst xs))
    (ho : s.heap.get? p = some { cls := .type "list", data := .seq its.toArray n }) (hf : f { cls := .type "list", data := .seq its.toArray n } = { cls := .type "list", data := .seq its'.toArray n' }) (r : Vals ys its') (hz : ys.length ≤ sizeLine) (t : Nat) :
    Inv X pins σ (upd H p (.lst ys)) { s with heap := s.heap.update p f, toks := t } := by
  have e : (s.heap.update p f).get? p = some { cls := .type "list", data := .seq its'.toArray n' } := by
    rw [Heap.get?_update_self f ho (by rw [hf] <;> rfl), hf]
  refine I.write (x := p) (e := p) (by rw [h]; trivial) (.inl rfl) (fun b u hb q => (Heap.get?_update_other _ _ (Ne.symm hb)).trans q) ⟨_, e⟩ ?_
  exact ⟨hz, its', n', r, e⟩
def rSetL : V → V → V → Hp → (Hp → Prop) → Prop := fun o i v H Q => ∃ p xs k j, o = .ref p ∧ i = .int k ∧ H p = some (.lst xs) ∧ ixN xs.length k = some j ∧ Q (upd H p (.lst (xs.set j v)))
theorem set_list : PSet X rSetL := by
  intro pins s σ H o i v ov iv u Q I ro ri rv h
  obtain ⟨p, xs, k, j, rfl, rfl, hp, hj, q⟩ := h
  cases ro
  obtain ⟨t, rfl⟩ := ri
  obtain ⟨its, n, r, ho, hz⟩ := I.lst hp
  obtain ⟨h1, h2, h3, h4⟩ := ixN_seq hj
  have hl := r.length
  have hn := line63
  have I' : Inv X pins σ (upd H p (.lst (xs.set j v))) { s with heap := s.heap.update p (Obj.mapSeq (·.setIfInBounds j u)) } :=
    I.lstUpd hp ho (mapSeq_set its n j u) (r.set rv j) (by rw [List.length_set]; exact hz) s.toks
  by_cases h0 : 0 ≤ k
  · have hk : k.toNat = j := by
      rw [seqIndex_of h0 h4] at h1
      exact Option.some.inj h1
    exact PySem.W.ki_setAt ho h0 (by omega) (by rw [List.size_toArray, ← hl]; exact h4) (by rw [hk]; exact ⟨_, I', q⟩)
  · have hk : (k + (its.toArray.size : Int)).toNat = j := by
      rw [seqIndex_neg (by omega) h3] at h1
      rw [List.size_toArray, ← hl]
      exact Option.some.inj h1
    exact PySem.W.ki_setBack ho (by omega) (by rw [List.size_toArray, ← hl]; exact h3) (by omega) (by rw [hk]; exact ⟨_, I', q⟩)

theorem slice_bounds (lo hi : Option Int) (n : Nat) : (sliceBounds lo hi none n).1 = ((HT.sIx n 0 lo : Nat) : Int) ∧ (sliceBounds lo hi none n).2.1 = ((HT.sIx n n hi : Nat) : Int) ∧ (sliceBounds lo hi none n).2.2 = 1 := by
  refine ⟨?_, ?_, rfl⟩
  · cases lo with
    | none => simp [sliceBounds, HT.sIx]
    | some i =>
      simp only [sliceBounds, HT.sIx, Option.getD_none, show (1 : Int) > 0 by decide, if_true]
      by_cases h : i < 0
      · simp only [h, if_true] <;> omega
      · simp only [h, if_false] <;> omega
  · cases hi with
    | none => simp [sliceBounds, HT.sIx]
    | some i =>
      simp only [sliceBounds, HT.sIx, Option.getD_none, show (1 : Int) > 0 by decide, if_true]
      by_cases h : i < 0
      · simp only [h, if_true] <;> omega
      · simp only [h, if_false] <;> omega
theorem slicePick_cut (its : List Value) (lo hi : Option Int) : slicePick its.toArray lo hi none = ((its.drop (HT.sIx its.length 0 lo)).take (HT.sIx its.length its.length hi - HT.sIx its.length 0 lo)).toArray := by
  obtain ⟨h1, h2, h3⟩ := slice_bounds lo hi its.toArray.size
  unfold slicePick
  rw [h1, h2, h3]
  simp only [sliceRange_one, pick_run, List.size_toArray] <;> rfl
def rSlL (K : PySem.W.Frag) : V → Option Int → Option Int → Hp → VK → Prop := fun x lo hi H Q => ∃ a xs, x = .ref a ∧ SqL K H a xs ∧ ∀ p, H p = none → Q (.ref p) (upd H p (.lst (cutV xs lo hi)))
theorem sl_list : SlR X (rSlL X.K) := by
  intro pins s σ H x v vl vu lo hi sl Q I rx hs pl pu h
  obtain ⟨a, xs, rfl, hx, q⟩ := h
  cases rx
  obtain ⟨its, r, ht, hz⟩ := I.list hx
  have hlen := r.length
  refine ⟨"list", _, slot_list_getitem.lookup, ht.isList.typeIs, ?_⟩
  refine wpAny_getItem_list_slice ht.isList hs pl pu .none (by simp) ?_ (by rw [List.size_toArray] <;> omega)
  rw [slicePick_cut, ← hlen]
  refine ⟨.ref s.heap.objs.size, _, I.laid (t' := s.toks) (o := .lst (cutV xs lo hi)) (fun b ob q => Heap.get?_push_of_some _ q) (Nat.le_refl _) ?_, rfl, q _ (I.hok.fresh (Nat.le_refl _))⟩
  exact ⟨Nat.le_trans (cutV_length xs lo hi) hz, _, 0, (r.drop (HT.sIx xs.length 0 lo)).take (HT.sIx xs.length xs.length hi - HT.sIx xs.length 0 lo), Heap.get?_push_size _ rfl⟩

def flatV : V → Bool
  | .non => true
  | .bl _ => true
  | .int _ => true
  | .str _ => true
  | _ => false
def eqV : V → V → Bool
  | .non, .non => true
  | .bl a, .bl b => a == b
  | .bl a, .int b => (if a then 1 else 0) == b
  | .int a, .bl b => a == (if b then 1 else 0)
  | .int a, .int b => a == b
  | .str a, .str b => a == b
  | _, _ => false
theorem eqAt_V {A : Around} {s : Shared} {y x : V} {u v : Value} (ry : RelV y u) (rx : RelV x v) (fy : flatV y = true) (fx : flatV x = true) : SeqAt.EqAt A s u v (eqV y x) := by
  cases y with
  | non =>
    cases ry
    cases x with
    | non => cases rx; exact SeqAt.EqAt.same _
    | bl b => cases rx; exact SeqAt.EqAt.none_bool b
    | int b => obtain ⟨t, rfl⟩ := rx; exact SeqAt.EqAt.none_int b t
    | str b => obtain ⟨t, rfl⟩ := rx; exact SeqAt.EqAt.none_str b t
    | _ => exact absurd (show false = true from fx) Bool.false_ne_true
  | bl a =>
    cases ry
    cases x with
    | non => cases rx; exact SeqAt.EqAt.bool_none a
    | bl b => cases rx; exact SeqAt.EqAt.bool_bool a b
    | int b => obtain ⟨t, rfl⟩ := rx; exact SeqAt.EqAt.bool_int a b t
    | str b => obtain ⟨t, rfl⟩ := rx; exact SeqAt.EqAt.bool_str a b t
    | _ => exact absurd (show false = true from fx) Bool.false_ne_true
  | int a =>
    obtain ⟨t', rfl⟩ := ry
    cases x with
    | non => cases rx; exact SeqAt.EqAt.int_none a t'
    | bl b => cases rx; exact SeqAt.EqAt.int_bool a t' b
    | int b => obtain ⟨t, rfl⟩ := rx; exact SeqAt.EqAt.int_int a t' b t
    | str b => obtain ⟨t, rfl⟩ := rx; exact SeqAt.EqAt.int_str a t' b t
    | _ => exact absurd (show false = true from fx) Bool.false_ne_true
  | str a =>
    obtain ⟨t', rfl⟩ := ry
    cases x with
    | non => cases rx; exact SeqAt.EqAt.str_none a t'
    | bl b => cases rx; exact SeqAt.EqAt.str_bool a t' b
    | int b => obtain ⟨t, rfl⟩ := rx; exact SeqAt.EqAt.str_int a t' b t
    | str b => obtain ⟨t, rfl⟩ := rx; exact SeqAt.EqAt.str_str a t' b t
    | _ => exact absurd (show false = true from fx) Bool.false_ne_true
  | _ => exact absurd (show false = true from fy) Bool.false_ne_true
def eqU (x : V) (u : Value) : Bool := match u with
  | .none => eqV .non x
  | .bool b => eqV (.bl b) x
  | .int i _ => eqV (.int i) x
  | .str z _ => eqV (.str z) x
  | _ => false
theorem eqU_of {x y : V} {u : Value} (r : RelV y u) (f : flatV y = true) : eqU x u = eqV y x := by
  cases y with
  | non => cases r; rfl
  | bl b => cases r; rfl
  | int i => obtain ⟨t, rfl⟩ := r; rfl
  | str z => obtain ⟨t, rfl⟩ := r; rfl
  | _ => exact absurd (show false = true from f) Bool.false_ne_true
theorem any_eqU {x : V} : ∀ {xs : List V} {us : List Value}, Vals xs us → xs.all flatV = true → us.any (eqU x) = xs.any fun y => eqV y x
  | _, _, .nil, _ => rfl
  | y :: xs, u :: us, .cons r t, f => by
    rw [List.all_cons, Bool.and_eq_true] at f
    rw [List.any_cons, List.any_cons, eqU_of r f.1, any_eqU t f.2]
theorem mem_eqAt {A : Around} {s : Shared} {x : V} {v : Value} (rx : RelV x v) (fx : flatV x = true) : ∀ {xs : List V} {us : List Value}, Vals xs us → xs.all flatV = true → ∀ u ∈ us, SeqAt.EqAt A s u v (eqU x u)
  | _, _, .nil, _ => fun u hu => by cases hu
  | y :: xs, u :: us, .cons r t, f => fun u' hu => by
    rw [List.all_cons, Bool.and_eq_true] at f
    rcases List.mem_cons.mp hu with rfl | hu
    · rw [eqU_of r f.1]; exact eqAt_V r rx f.1 fx
    · exact mem_eqAt rx fx t f.2 u' hu
def inV (x : V) (xs : List V) : Bool := xs.any fun y => eqV y x
def rIn (K : PySem.W.Frag) (neg : Bool) : R2 := fun x y H Q => ∃ p xs, y = .ref p ∧ (SqL K H p xs ∨ SqT K H p xs) ∧ flatV x = true ∧ xs.all flatV = true ∧ Q (.bl (if neg then !inV x xs else inV x xs)) H
theorem op_in_seq : OpR X (compareOp .In) (rIn X.K false) := by
  intro pins s σ H x y v u Q I rx ry h
  obtain ⟨p, xs, rfl, hq, fx, fs, q⟩ := h
  cases ry
  rcases hq with hq | hq
  · obtain ⟨its, r, pl, hz⟩ := I.list hq
    refine SeqAt.in_listAt (eqU x) pl.isList (fun w hw => mem_eqAt rx fx r fs w (by simpa using hw)) ⟨.bl _, H, I, rfl, ?_⟩
    rw [show its.toArray.any (eqU x) = its.any (eqU x) by simp, any_eqU r fs]
    exact q
  · obtain ⟨its, r, pl, hz⟩ := I.tuple hq
    refine SeqAt.in_tupleAt (eqU x) pl (fun w hw => mem_eqAt rx fx r fs w (by simpa using hw)) ⟨.bl _, H, I, rfl, ?_⟩
    rw [show its.toArray.any (eqU x) = its.any (eqU x) by simp, any_eqU r fs]
    exact q
theorem op_notIn_seq : OpR X (compareOp .NotIn) (rIn X.K true) := by
  intro pins s σ H x y v u Q I rx ry h
  obtain ⟨p, xs, rfl, hq, fx, fs, q⟩ := h
  cases ry
  rcases hq with hq | hq
  · obtain ⟨its, r, pl, hz⟩ := I.list hq
    refine SeqAt.notIn_listAt (eqU x) pl.isList (fun w hw => mem_eqAt rx fx r fs w (by simpa using hw)) ⟨.bl _, H, I, rfl, ?_⟩
    rw [show its.toArray.any (eqU x) = its.any (eqU x) by simp, any_eqU r fs]
    exact q
  · obtain ⟨its, r, pl, hz⟩ := I.tuple hq
    refine SeqAt.notIn_tupleAt (eqU x) pl (fun w hw => mem_eqAt rx fx r fs w (by simpa using hw)) ⟨.bl _, H, I, rfl, ?_⟩
    rw [show its.toArray.any (eqU x) = its.any (eqU x) by simp, any_eqU r fs]
    exact q
theorem op_notIn_str : OpR X (compareOp .NotIn) (fun x y H Q => ∃ i j, x = .str i ∧ y = .str j ∧ Q (.bl (!(!(Builtin.Str.occurrences j i 0 j.length 1).isEmpty))) H) := by
  intro pins s σ H x y v u Q I rx ry h
  obtain ⟨i, j, rfl, rfl, q⟩ := h
  obtain ⟨t, rfl⟩ := rx
  obtain ⟨t', rfl⟩ := ry
  exact notIn_str ⟨.bl _, H, I, rfl, q⟩

theorem call_len_seq : CallR X (.builtin "len") (fun xs H Q => ∃ p ys, xs = [.ref p] ∧ (SqL X.K H p ys ∨ SqT X.K H p ys) ∧ Q (.int ys.length) H) := by
  intro pins s σ H xs us Q I r h
  obtain ⟨p, ys, rfl, hq, q⟩ := h
  obtain ⟨u, rfl, rx⟩ := vals1 r
  cases rx
  have hn := line63
  rcases hq with hq | hq
  · obtain ⟨its, r', pl, hz⟩ := I.list hq
    have hlen := r'.length
    exact Calls.call_len_list pl.isList (by simp only [List.size_toArray] <;> omega) ⟨.int ys.length, H, I.tok _, ⟨s.toks + 1, by rw [List.size_toArray, hlen]⟩, q⟩
  · obtain ⟨its, r', pl, hz⟩ := I.tuple hq
    have hlen := r'.length
    exact len_tuple pl (by simp only [List.size_toArray] <;> omega) ⟨.int ys.length, H, I.tok _, ⟨s.toks + 1, by rw [List.size_toArray, hlen]⟩, q⟩
theorem call_len_str : CallR X (.builtin "len") (fun xs H Q => ∃ z, xs = [.str z] ∧ z.length ≤ sizeLine ∧ Q (.int z.length) H) := by
  intro pins s σ H xs us Q I r h
  obtain ⟨z, rfl, hz, q⟩ := h
  obtain ⟨u, rfl, t, rfl⟩ := vals1 r
  have hn := line63
  exact len_str (by omega) ⟨.int z.length, H, I.tok _, ⟨_, rfl⟩, q⟩

def tyV (K : PySem.W.Frag) (T : String) (x : V) (H : Hp) : Prop := match x with
  | .str _ => T = "str"
  | .int _ => T = "int"
  | .ref p => (T = "list" ∧ ∃ xs, SqL K H p xs) ∨ (T = "tuple" ∧ ∃ o, K.lookup p = some o ∧ o.cls = .type "tuple" ∧ o.dict = none) ∨
      (T = "dict" ∧ ((∃ kvs, H p = some (.dK kvs)) ∨ ∃ kvs, H p = some (.dT kvs))) ∨ (T = "set" ∧ ∃ S n, H p = some (.set S n))
  | _ => False
theorem tyV_is {pins : List (Addr × Obj)} {σ : St} {H : Hp} {s : Shared} {T : String} {x : V} {v : Value} (I : Inv X pins σ H s) (r : RelV x v) (ty : tyV X.K T x H) :
    s.TypeIs v T ∧ ∀ a, v = .ref a → ∃ ob, s.heap.get? a = some ob ∧ ob.dict = none := by
  cases x with
  | str z =>
    obtain ⟨t, rfl⟩ := r
    cases (show T = "str" from ty)
    exact ⟨typeIs_str s z t, fun _ e => nomatch e⟩
  | int i =>
    obtain ⟨t, rfl⟩ := r
    cases (show T = "int" from ty)
    exact ⟨typeIs_int s i t, fun _ e => nomatch e⟩
  | ref p =>
    cases r
    rcases ty with ⟨rfl, xs, hq⟩ | ⟨rfl, o, hk, hc, hd⟩ | ⟨rfl, hk⟩ | ⟨rfl, S, n, hk⟩
    · obtain ⟨its, _, pl, _⟩ := I.list hq
      refine ⟨pl.isList.typeIs, fun a e => ?_⟩
      cases e
      obtain ⟨o, n, e, c, hd, _⟩ := pl
      exact ⟨o, e, hd⟩
    · refine ⟨⟨o, I.kIn p o hk, hc⟩, fun a e => ?_⟩
      cases e
      exact ⟨o, I.kIn _ o hk, hd⟩
    · have z : ∃ o, s.heap.get? p = some o ∧ o.ExactDict := by
        rcases hk with ⟨kvs, hk⟩ | ⟨kvs, hk⟩
        · obtain ⟨_, _, _, _, o, _, _, e, ex, _⟩ := I.hok p _ hk
          exact ⟨o, e, ex⟩
        · obtain ⟨_, _, _, _, o, _, _, e, ex, _⟩ := I.hok p _ hk
          exact ⟨o, e, ex⟩
      obtain ⟨o, e, ex⟩ := z
      refine ⟨⟨o, e, ex.1⟩, fun a e2 => ?_⟩
      cases e2
      exact ⟨o, e, ex.2.1⟩
    · obtain ⟨o, _, _, _, e, ex, _⟩ := I.hok p _ hk
      refine ⟨⟨o, e, ex.1⟩, fun a e2 => ?_⟩
      cases e2
      exact ⟨o, e, ex.2.1⟩
  | _ => exact False.elim ty
def tBM0 (K : PySem.W.Frag) (T : String) (r : V → List V → Hp → VK → Prop) (to : TE) : TE := fun σ H Q => to σ H fun x H1 => tyV K T x H1 ∧ r x [] H1 Q
def tBM (K : PySem.W.Frag) (T : String) (r : V → List V → Hp → VK → Prop) (to : TE) (t : TA) : TE := fun σ H Q => to σ H fun x H1 => tyV K T x H1 ∧ t σ H1 fun xs H2 => r x xs H2 Q
variable {o e : Expr} {es : List Expr} {to : TE} {t : TA} {name : Str} {apos cpos : Pos} {T id : String} {r : V → List V → Hp → VK → Prop}
theorem pe_bm0 (pa : PlainAttrs T) (slot : Slot T name id) (hty : typeOf (.builtin id) = pure (.type "method_descriptor")) (hm : MtR X id r) (ho : PE X o to)
    (hbase : attributeBase o name X.env (eval o X.env) = eval o X.env := by rfl) (hline : (apos.endLine == cpos.line) = true := by rfl) : PE X (.Call (.Attribute o name apos) [] [] cpos) (tBM0 X.K T r to) := by
  intro pins s σ H Q I h
  refine wpAny_Call_method0_late hbase hline (thn (ho pins s σ H _ I h) fun v s1 ⟨x, H1, I1, r1, ty, q1⟩ => ?_)
  obtain ⟨h1, h2⟩ := tyV_is I1 r1 ty
  exact ⟨T, id, pa, slot, hty, h1, h2, Calls.callWith_builtin rfl (PySem.evalArgs_none (hm pins s1 σ H1 x [] v [] Q I1 r1 .nil q1))⟩
theorem pe_bm (pa : PlainAttrs T) (slot : Slot T name id) (hty : typeOf (.builtin id) = pure (.type "method_descriptor")) (hm : MtR X id r) (ho : PE X o to) (ha : PA X (e :: es) t)
    (hbase : attributeBase o name X.env (eval o X.env) = eval o X.env := by rfl)
    (hfew : ((backTo cpos (starEach (e :: es) X.env)).all (fun x => !x.1) && (backToKw cpos (keywordEach [] X.env)).all (fun x => x.1.isSome)
      && decide ((e :: es).length + ([] : List Keyword).length + (if ([] : List Keyword).isEmpty then 0 else 1) < 30)) = true := by rfl)
    (hline : (apos.endLine == cpos.line) = true := by rfl) (hs : starEach (e :: es) X.env = (false, eval e X.env) :: starEach es X.env := by rfl) (hplain : (backTo cpos (starEach es X.env)).any (·.1) = false := by rfl) :
    PE X (.Call (.Attribute o name apos) (e :: es) [] cpos) (tBM X.K T r to t) := by
  intro pins s σ H Q I h
  refine wpAny_Call_method_late hbase hfew hline rfl (thn (ho pins s σ H _ I h) fun v s1 ⟨x, H1, I1, r1, ty, q1⟩ => ?_)
  obtain ⟨h1, h2⟩ := tyV_is I1 r1 ty
  refine ⟨T, id, pa, slot, hty, h1, h2, ?_⟩
  have hA := ha cpos pins s1 σ H1 _ I1 q1
  rw [hs] at hA ⊢
  refine Calls.callWith_builtin (by show (false || (backTo cpos (starEach es X.env)).any (·.1)) = false; rw [hplain] <;> rfl) (Calls.evalArgs_plain ?_)
  exact thn hA fun us s2 ⟨vs, H2, I2, r2, q2⟩ => hm pins s2 σ H2 x vs v us Q I2 r1 r2 q2
end
end L2

namespace L2
open PySem PySem.Spec PyProof.Rows

def MtM (X : Cx) (id : String) (r : V → List V → Hp → VK → Prop) : Prop :=
  ∀ (pins : List (Addr × Obj)) (s : Shared) (σ : St) (H : Hp) (x : V) (xs : List V) (v : Value) (us : List Value) (Q : VK), Inv X pins σ H s → RelV x v → Vals xs us → r x xs H Q →
    wpAny (model X.prog X.w) X.A (call (.builtin id) (v :: us)) (EP X pins σ Q) X.xe s

theorem Vals.one : ∀ {x : V} {us : List Value}, Vals [x] us → ∃ u, us = [u] ∧ RelV x u
  | _, _, .cons r .nil => ⟨_, rfl, r⟩
theorem Vals.zero : ∀ {us : List Value}, Vals [] us → us = []
  | _, .nil => rfl
theorem Vals.dropLast {xs : List V} {us : List Value} (h : Vals xs us) : Vals xs.dropLast us.dropLast := by
  induction h with
  | nil => exact .nil
  | cons r t ih =>
    cases t with
    | nil => exact .nil
    | cons q t' => exact .cons r ih
theorem Vals.reverse {xs : List V} {us : List Value} (h : Vals xs us) : Vals xs.reverse us.reverse := by
  induction h with
  | nil => exact .nil
  | cons r t ih => rw [List.reverse_cons, List.reverse_cons]; exact Vals.append ih (.cons r .nil)

section
variable {X : Cx} {pins : List (Addr × Obj)} {σ : St} {H : Hp} {s : Shared} {l b : Addr} {xs ys zs : List V}

theorem Inv.lset {its its' : List Value} {n : Nat} {f : Array Value → Array Value} {t' : Nat} (I : Inv X pins σ H s) (hH : H l = some (.lst xs))
    (e : s.heap.get? l = some { cls := .type "list", data := .seq its.toArray n }) (hf : f its.toArray = its'.toArray) (hv : Vals ys its') (hz : ys.length ≤ sizeLine) :
    Inv X pins σ (upd H l (.lst ys)) { s with heap := s.heap.update l (Obj.mapSeq f), toks := t' } := by
  have q := PySem.IsL.update e f
  rw [hf] at q
  refine I.write (x := l) (e := l) (by rw [hH]; exact trivial) (.inl rfl) (fun b' u hb hu => (Heap.get?_update_other s.heap (Obj.mapSeq f) (Ne.symm hb)).trans hu) ⟨_, q⟩ ?_
  exact ⟨hz, its', _, hv, q⟩
theorem Inv.lnew {its : List Value} {t' : Nat} (I : Inv X pins σ H s) (hv : Vals ys its) (hz : ys.length ≤ sizeLine) :
    Inv X pins σ (upd H s.heap.objs.size (.lst ys)) { s with heap := s.heap.push { cls := .type "list", data := .seq its.toArray }, toks := t' } :=
  I.laid (fun _ _ q => Heap.get?_push_of_some _ q) (Nat.le_refl _) ⟨hz, its, 0, hv, Heap.get?_push_size _ rfl⟩
theorem Inv.fresh (I : Inv X pins σ H s) : H s.heap.objs.size = none := I.hok.fresh (Nat.le_refl _)
theorem Inv.lstM (I : Inv X pins σ H s) (hH : H l = some (.lst xs)) : xs.length ≤ sizeLine ∧ ∃ (its : List Value) (n : Nat), Vals xs its ∧ xs.length = its.length ∧ s.heap.get? l = some { cls := .type "list", data := .seq its.toArray n } := by
  obtain ⟨z, its, n, r, e⟩ := I.hok l _ hH
  exact ⟨z, its, n, r, r.length, e⟩

end

section
variable {X : Cx}

def rAppend : V → List V → Hp → VK → Prop := fun x vs H Q => ∃ l xs y, x = .ref l ∧ vs = [y] ∧ H l = some (.lst xs) ∧ xs.length < sizeLine ∧ Q .non (upd H l (.lst (xs ++ [y])))
theorem mt_append : MtM X "list.append" rAppend := by
  intro pins s σ H x vs v us Q I rx rv h
  obtain ⟨l, xs, y, rfl, rfl, hH, hz, q⟩ := h
  cases rx
  obtain ⟨u, rfl, ru⟩ := rv.one
  obtain ⟨z, its, n, r, hl, e⟩ := I.lstM hH
  refine call_meets F.slot_list_append ⟨_, e, rfl⟩ F.entry_list_append (F.args_list_append_2 _ _) (PySem.list_append l its.toArray n u (by rw [List.size_toArray]; omega)) ⟨e, ?_⟩
  refine ⟨.non, _, I.lset (its' := its ++ [u]) hH e (by simp) (r.append (.cons ru .nil)) ?_, rfl, q⟩
  rw [List.length_append, List.length_singleton]
  omega






def rCat : R2 := fun x y H Q => ∃ l b xs zs, x = .ref l ∧ y = .ref b ∧ H l = some (.lst xs) ∧ H b = some (.lst zs) ∧ xs.length + zs.length ≤ sizeLine ∧ ∀ p, H p = none → Q (.ref p) (upd H p (.lst (xs ++ zs)))
theorem op_cat : OpR X (binaryOp .Add) rCat := by
  intro pins s σ H x y v u Q I rx ry h
  obtain ⟨l, b, xs, zs, rfl, rfl, hH, hB, hz, q⟩ := h
  cases rx
  cases ry
  obtain ⟨z, its, n, r, hl, e⟩ := I.lstM hH
  obtain ⟨z2, its2, n2, r2, hl2, e2⟩ := I.lstM hB
  refine PySem.P.add_list e e2 ?_ (by rw [List.size_toArray, List.size_toArray]; omega)
  have ea : its.toArray ++ its2.toArray = (its ++ its2).toArray := by simp
  rw [ea]
  exact ⟨.ref _, _, I.lnew (t' := s.toks) (r.append r2) (by rw [List.length_append]; omega), rfl, q _ I.fresh⟩

end

section
variable {prog : Program} {w : World} {A : Around} {E : Value → Shared → Prop} {s : Shared}
end

section
variable {X : Cx}
end
end L2

namespace Att
open PySem PySem.W PySem.Calls PyProof.Rows

theorem ints_of_wellAll {P : Params} {h : Heap} : ∀ (ns : List Int) (vs : List Value), WellAll P h vs (ns.map WData.int) → IntsAre vs ns := by
  intro ns
  induction ns with
  | nil =>
    intro vs w
    rw [List.map_nil] at w
    cases w
    exact .nil
  | cons n ns ih =>
    intro vs w
    rw [List.map_cons] at w
    cases w with
    | cons a b =>
      cases a
      exact .cons _ _ (ih _ b)

theorem script_of {l : OpenLaw} {n : Nat} (hn : l.most = some n) {P : Params} {h : Heap} {args : List WData} {vals : List Value}
    (hpre : l.row.toRowW.claim.pre args = true) (hwl : WellAll P h vals args) :
    ∃ a vs ns, vals = [Value.ref a] ∧ args = [WData.list (ns.map WData.int)] ∧ h.get? a = some { cls := .type "list", data := .seq vs.toArray } ∧ IntsAre vs ns ∧ ns.length ≤ n := by
  have hsh : WShape.hasAll [] args [.list .int] = true := (pre_splitW hpre).1
  have hc : l.pre.holds [] { args := args } = true := (pre_splitW hpre).2
  obtain ⟨d, r, rfl, h1, h2⟩ := hasAllW_cons hsh
  obtain rfl := hasAllW_nil h2
  obtain ⟨xs, rfl, h3⟩ := hasW_list h1
  obtain ⟨ns, rfl⟩ := items_int h3
  have hlen : ns.length ≤ n := by
    unfold OpenLaw.pre at hc
    have h4 : (WTm.not (.lt (.lit (.int (n : Int))) (.len (.arg 0)))).holds [] { args := [.list (ns.map .int)] } = true := by
      have h4 := (holds_andW hc).1
      rw [hn] at h4
      exact h4
    have h5 := condW_of h4 (w_not (w_lt w_lit (w_len_list (w_arg rfl))))
    rw [List.length_map] at h5
    refine Nat.le_of_not_lt fun q => ?_
    have q' : (n : Int) < ((ns.length : Nat) : Int) := by omega
    first
      | (rw [decide_eq_true q'] at h5; exact absurd h5 (by decide))
      | (simp at h5; omega)
  cases hwl with
  | cons w1 w2 =>
    cases w2
    cases w1 with
    | list ho hall => exact ⟨_, _, ns, rfl, rfl, ho, ints_of_wellAll ns _ hall, hlen⟩

theorem post_true (l : OpenLaw) (args : List WData) : l.row.toRowW.claim.post args (.bool true) args = true :=
  postW_of (r := l.row.toRowW) (X := (true == true))
    (show WShape.has [] (.bool true) .bool = true by first | rfl | decide | simp [WShape.has, WShape.arms, WShape.armsAll])
    (show (WTm.eq .res (.lit (.bool true))).value [] { args := args, res := some (.bool true), after := args } = some (.bool (true == true)) from w_eq_bool (w_res rfl) w_lit) rfl


theorem attach_call {l : OpenLaw} {n : Nat} {q : Program} {loose : List Str} {XP : (Str → Option Value) → Heap → Prop} {YP : World → Heap → Prop} {d : DefRec}
    (hn : l.most = some n) (hdf : d.params.defaults = [])
    (call : ∀ (w : World) (s₀ s₁ : Shared) (mg mb : Str → Option Value) (fa : Addr) (o : Obj) (pm cd doc : Value) (a : Addr) (vs : List Value) (ns : List Int),
      Ground q loose [] XP w s₀ mg mb s₁.heap → YP w s₁.heap →
      s₁.heap.get? fa = some o → o.data = .func (docDef d.name d.params d.body d.scope pm cd doc) → s₁.heap.CodeRec cd d.name → mg d.name = some (.ref fa) →
      s₁.heap.get? a = some { cls := .type "list", data := .seq vs.toArray } → IntsAre vs ns → ns.length ≤ n → s₁.gens = #[] →
      codeAny (model l.prog w) callerA (.call (.ref fa) ⟨[.ref a], []⟩) (fun r s' => r = .ok (.ret (.bool true)) ∧ OldK s₁.heap s'.heap ∧ s'.os = s₁.os ∧ AllBare s'.gens) s₁) :
    WalkO q loose XP YP l.row.toRowW d [] (fun f vs => PySem.call f vs) := by
  intro w s₀ s₁ mg mb G Y fa o pm cd doc dV kV ho hd hcd hD hmg hg args vals as hpre hlay hrd hwl hlo
  obtain rfl : dV = .none := Dflts.none hD hdf
  obtain rfl : kV = .none := Dflts.noKw hD
  obtain ⟨a, vs, ns, rfl, rfl, hobj, hints, hlen⟩ := script_of hn hpre hwl
  refine enter_call (codeAny_mono (call w s₀ s₁ mg mb fa o pm cd doc a vs ns G Y ho (fd_plain hd) hcd hmg hobj hints hlen hg) fun r s' hq => ?_)
  obtain ⟨rfl, h2, h3, h4⟩ := hq
  exact ⟨.inl ⟨.bool true, .bool true, [], rfl, fun _ => rfl, .bool true, post_true l _, fun _ => ⟨List.Pairwise.nil, fun _ hm => (nomatch hm)⟩⟩, h2, h3, h4⟩


section
variable {prog : Program} {w : World} {A : Around} {E : Value → Shared → Prop} {s : Shared} {K : Frag}






end
end Att

namespace L2
open PySem PySem.Spec PyProof.Rows

theorem vals_ints : ∀ {vs : List Value} {ns : List Int}, IntsAre vs ns → Vals (ns.map V.int) vs
  | _, _, .nil => .nil
  | _, _, .cons n t h => .cons ⟨t, rfl⟩ (vals_ints h)

def Only (H : Hp) : Prop := ∀ b, H b = none ∨ ∃ o xs, H b = some (.frz o (.lst xs))

theorem law_call {P : Program} {w : World} {K : PySem.W.Frag} {mg mb : Str → Option Value} {CX : CXT} {k : Nat} {fa a : Addr} {fd : FuncData} {x : Str} {sp : Sp} {s₁ : Shared} {vs : List Value} {ns : List Int}
    (KX : K.In s₁.heap) (hns : s₁.heap.Ns mainGlobals mg) (hb : s₁.heap.Ns builtinsNs mb) (hbb : ∀ x : Str, x ≠ "__name__" → mb x = bootBuiltins x) (hlim : s₁.heap.NoLimit) (hg : s₁.gens = #[])
    (ha : s₁.heap.get? a = some { cls := .type "list", data := .seq vs.toArray }) (hi : IntsAre vs ns) (hl : ns.length ≤ sizeLine) (hr : Room k callerA)
    (F : ∀ base : Heap, K.In base → base.Ns mainGlobals mg → FnOk P w K mg base CX k fa fd [x] sp) (hbind : ∀ (s : Shared) (u : Value), BindsTo s fd ⟨[u], []⟩ [(x, u)])
    (hsp : ∀ H : Hp, Only H → SqL K H a (ns.map V.int) → sp [.ref a] H (fun v _ => v = .bl true) fun _ _ _ => False)
    (hCX : ∀ H e s', CX [] H s₁ (fun _ _ _ => False) e s' → False) :
    codeAny (model P w) callerA (.call (.ref fa) ⟨[.ref a], []⟩) (fun r s' => r = .ok (.ret (.bool true)) ∧ OldK s₁.heap s'.heap ∧ s'.os = s₁.os ∧ AllBare s'.gens) s₁ := by
  have rv := vals_ints hi
  have lenV := hi.length
  -- from an abstract heap in which nothing but the script may be tracked
  have core : ∀ H : Hp, Only H → SqL K H a (ns.map V.int) → HOk P w H s₁.heap → (∀ b, H b ≠ none → b = a) → (H a ≠ none → K.lookup a = none) →
      codeAny (model P w) callerA (.call (.ref fa) ⟨[.ref a], []⟩) (fun r s' => r = .ok (.ret (.bool true)) ∧ OldK s₁.heap s'.heap ∧ s'.os = s₁.os ∧ AllBare s'.gens) s₁ := by
    intro H hO hS hok hA hK
    have base_of : ∀ {b : Addr} {o : Obj}, s₁.heap.get? b = some o → H b = none → (hidT s₁.heap H).get? b = some o := fun e n => hidT_get e n
    have noA : ∀ {b : Addr} {o : Obj} {es : Array DictEntry} {ep : Nat}, s₁.heap.get? b = some o → o.data = .dict es ep → H b = none := fun {b o es ep} e d => by
      cases q : H b with
      | none => rfl
      | some u =>
        have e' : b = a := hA b (by rw [q]; simp)
        subst e'
        rw [ha] at e; cases e
        have d' : Data.seq vs.toArray _ = Data.dict es ep := d
        cases d'
    have nsK : ∀ {b : Addr} {m : Str → Option Value}, s₁.heap.Ns b m → (hidT s₁.heap H).Ns b m := fun {b m} ⟨o, es, ep, e, d, r⟩ => ⟨o, es, ep, base_of e (noA e d), d, r⟩
    have hKb : K.In (hidT s₁.heap H) := fun b o e => base_of (KX b o e) (by
      cases q : H b with
      | none => rfl
      | some u =>
        have e' : b = a := hA b (by rw [q]; simp)
        subst e'
        rw [hK (by rw [q]; simp)] at e; cases e)
    have hM : Mod K mg (hidT s₁.heap H) := ⟨hKb, nsK hns, ⟨mb, nsK hb, hbb⟩, let ⟨mc, h1, h2⟩ := hlim; ⟨mc, nsK h1, h2⟩⟩
    have e0 : Env0 P w K mg (hidT s₁.heap H) callerA [] s₁ H := ⟨rfl, hM, fun b o e => of_hidT e, Nat.le_of_eq (hidT_size _ _), trivial, fun b hb => absurd (show b ∈ ([] : List Addr) from hb) (by simp), hok, .of_eq hg⟩
    refine codeAny_mono ((F _ hKb (nsK hns)).run callerA [] s₁ H ⟨[.ref a], []⟩ [.ref a] [.ref a] _ _ hr e0 (hbind s₁ (.ref a)) (.cons rfl .nil) (hsp H hO hS)) fun r s' h => ?_
    cases r with
    | error e => exact (hCX H e s' h).elim
    | ok fl =>
      cases fl with
      | next => exact False.elim h
      | brk => exact False.elim h
      | cont => exact False.elim h
      | ret u =>
        obtain ⟨v, H', os, bare, un, hok', r', q⟩ := h
        have q' : v = .bl true := q
        subst q'
        obtain rfl : u = Value.bool true := r'
        refine ⟨rfl, OldK.of_keep fun b o e => ?_, os, bare⟩
        cases q : H b with
        | none => exact un.keep b o e q (by intro z; exact absurd (show b ∈ ([] : List Addr) from z) (by simp)) (by simp)
        | some u =>
          rcases hO b with z | ⟨ob, xs, z⟩
          · rw [q] at z; cases z
          · have z2 := un.frzs b ob _ z
            obtain ⟨e1, _⟩ := hok b _ z
            obtain ⟨e2, _⟩ := hok' b _ z2
            rw [e] at e1; cases e1
            exact e2
  cases hk : K.lookup a with
  | some o =>
    -- the script is one of the module's own objects
    have e := KX a o hk
    rw [ha] at e
    cases e
    refine core (fun _ => none) (fun _ => .inl rfl) (.inr ⟨_, vs.toArray, _, hk, rfl, rfl, rfl, by rw [List.size_toArray, lenV]; exact hl, by simpa using rv⟩) (fun b u z => by have z' : (none : Option HO) = some u := z; cases z') (fun b z => absurd rfl z) fun z => absurd rfl z
  | none =>
    refine core (fun b => if b = a then some (.frz { cls := .type "list", data := .seq vs.toArray } (.lst (ns.map V.int))) else none) (fun b => ?_) (.inl (.inr ⟨{ cls := .type "list", data := .seq vs.toArray }, if_pos rfl⟩)) (fun b u z => ?_) (fun b z => ?_) fun _ => hk
    · by_cases hb : b = a
      · exact .inr ⟨_, _, if_pos hb⟩
      · exact .inl (if_neg hb)
    · by_cases hb : b = a
      · have z' := (if_pos hb).symm.trans z
        cases z'
        subst hb
        exact ⟨ha, by rw [List.length_map]; exact hl, vs, _, rv, ha⟩
      · have z' := (if_neg hb).symm.trans z
        cases z'
    · by_cases hb : b = a
      · exact hb
      · exact absurd (if_neg hb) z
end L2

namespace L2
open PySem PySem.Spec PyProof.Rows


theorem walk_of {l : PySem.W.OpenLaw} {n k : Nat} {q : Program} {loose : List Str} {XP : (Str → Option Value) → Heap → Prop} {YP : World → Heap → Prop} {d : DefRec} {K : Params → PySem.W.Frag} {CX : World → CXT} {sp : World → Sp} {x : Str}
    (hn : l.most = some n) (hn2 : n ≤ sizeLine) (hdf : d.params.defaults = []) (hr : Room k callerA)
    (hY : ∀ (w : World) (h : Heap), YP w h → (K w.params).In h)
    (F : ∀ (w : World) (mg : Str → Option Value) (fa : Addr) (h : Heap), (K w.params).In h → h.Ns mainGlobals mg → mg d.name = some (.ref fa) →
      ∃ fd : FuncData, (∀ (s : Shared) (u : Value), BindsTo s fd ⟨[u], []⟩ [(x, u)]) ∧
        ∀ base : Heap, (K w.params).In base → base.Ns mainGlobals mg → FnOk l.prog w (K w.params) mg base (CX w) k fa fd [x] (sp w))
    (hsp : ∀ (w : World) (H : Hp) (a : Addr) (ns : List Int), ns.length ≤ n → Only H → SqL (K w.params) H a (ns.map V.int) → sp w [.ref a] H (fun v _ => v = .bl true) fun _ _ _ => False)
    (hCX : ∀ (w : World) (H : Hp) (s : Shared) (e : Value) (s' : Shared), CX w [] H s (fun _ _ _ => False) e s' → False) :
    PySem.W.WalkO q loose XP YP l.row.toRowW d [] (fun f vs => PySem.call f vs) := by
  refine Att.attach_call hn hdf fun w s₀ s₁ mg mb fa o pm cd doc a vs ns G Y ho hd hcd hmg hobj hints hlen hg => ?_
  have KX := hY w _ Y
  obtain ⟨fd, hb, hF⟩ := F w mg fa _ KX G.T.g hmg
  exact law_call KX G.T.g G.T.b G.T.builtins G.T.nolimit hg hobj hints (Nat.le_trans hlen hn2) hr hF hb (fun H hO hS => hsp w H a ns hlen hO hS) fun H e s' => hCX w H s₁ e s'
end L2


namespace L2
open PySem PySem.Spec PyProof.Rows

def defArgs (s : Stmt) : Arguments := match s with
  | .FunctionDef _ a _ _ _ _ _ _ _ _ => a
  | _ => { posonlyargs := [], args := [], vararg := none, kwonlyargs := [], kw_defaults := [], kwarg := none, defaults := [] }
def defBody (s : Stmt) : List Stmt := match s with
  | .FunctionDef _ _ b _ _ _ _ _ _ _ => b
  | _ => []
def defScope (s : Stmt) : Scope := match s with
  | .FunctionDef _ _ _ _ _ _ sc _ _ _ => sc
  | _ => { kind := .function, names := [], isGenerator := false, isCoroutine := false }

abbrev CX0 : CXT := fun _ _ _ _ _ _ => False
abbrev E0 : XK := fun _ _ _ => False
theorem pass0 {X : Cx} : Passes CX0 X E0 := fun _ _ _ _ _ _ _ h => h.elim

structure Fun (K : PySem.W.Frag) (x qual : Str) (st : Stmt) (f : Addr) (fd : FuncData) : Prop where
  ex : ∃ (oc : Value) (od : Option Addr) (kV doc pm : Value) (an : Option Addr) (cdv ct : Value) (osl : Array (Option Value)),
    fd = PySem.W.fnOf x qual (defArgs st) (defBody st) (defScope st) .none kV doc pm an cdv ct ∧ K.lookup f = some ⟨oc, od, .func fd, osl⟩ ∧ PySem.W.codeIn K cdv qual = true
  kp : PySem.W.keepIn K (.ref f) = true
section
variable {P : Program} {w : World} {K : PySem.W.Frag} {mg : Str → Option Value} {base : Heap}
theorem Fun.ok {x qual : Str} {st : Stmt} {f : Addr} {fd : FuncData} {N ps : List Str} {k : Nat} {sp : Sp} (F : Fun K x qual st f fd) (S : FnScope N ps (defScope st)) (len : ∀ vs H Q E, sp vs H Q E → vs.length = ps.length)
    (hbody : ∀ (cdv : Value) (A : Around) (outer : List Env) (s : Shared) (H : Hp) (vs : List V) (Q : VK) (E : XK), Room k (A.deeper (envOfC qual (defScope st) s.heap.objs.size f cdv)) → sp vs H Q E →
      ∃ t, PSs (cxOf CX0 P w K mg base N qual (defScope st) f cdv A outer s H E).nox (defBody st) t ∧ t { nx := fun _ H' => Q .non H', rt := Q } (start N vs) H) : FnOk P w K mg base CX0 (k + 1) f fd ps sp := by
  obtain ⟨oc, od, kV, doc, pm, an, cdv, ct, osl, rfl, lk, hcd⟩ := F.ex
  refine fn_of lk hcd S len fun A outer s H vs Q E hr hsp => ?_
  obtain ⟨t, h, q⟩ := hbody cdv A outer s H vs Q E hr hsp
  exact ⟨t, h.nox, q⟩
theorem Fun.binds {x qual : Str} {st : Stmt} {f : Addr} {fd : FuncData} {ps : List Str} (F : Fun K x qual st f fd)
    (h : ∀ (kV doc pm : Value) (an : Option Addr) (cdv ct : Value) (us : List Value), us.length = ps.length → bindArgs (PySem.W.fnOf x qual (defArgs st) (defBody st) (defScope st) .none kV doc pm an cdv ct) ⟨us, []⟩ = pure (ps.zip us)) : Binds K fd ps [] := by
  obtain ⟨oc, od, kV, doc, pm, an, cdv, ct, osl, rfl, lk, hcd⟩ := F.ex
  exact .all (h kV doc pm an cdv ct)
theorem fun_mk {x qual : Str} {st : Stmt} {f : Addr} {oc : Value} {od an : Option Addr} {osl : Array (Option Value)} {kV doc pm cdv ct : Value} (l : K.lookup f = some ⟨oc, od, .func (PySem.W.fnOf x qual (defArgs st) (defBody st) (defScope st) .none kV doc pm an cdv ct), osl⟩)
    (c : PySem.W.codeIn K cdv qual = true) (k : PySem.W.keepIn K (.ref f) = true) : Fun K x qual st f (PySem.W.fnOf x qual (defArgs st) (defBody st) (defScope st) .none kV doc pm an cdv ct) := ⟨⟨oc, od, kV, doc, pm, an, cdv, ct, osl, rfl, l, c⟩, k⟩
end
theorem small1000 {n : Nat} (h : n ≤ 1000) : n < sizeLine := Nat.lt_of_le_of_lt h (by decide)

section
variable {X : Cx}
theorem pv (i : Nat) {x : Str} {pos : Pos} (hN : X.N[i]? = some x := by rfl) (hv : Vis X.env.scope x := by first | exact Or.inl rfl | exact Or.inr (Or.inl rfl) | exact Or.inr (Or.inr rfl)) (hd : (x == ("__debug__" : Str)) = false := by decide)
    (hcd : (x == ("__classdict__" : Str)) = false := by decide) : PE X (.Name x pos) (tVar i) := pe_var hN hv hd hcd
end

theorem iteF {A B : Prop} (h : B) : if false = true then A else B := by
  rw [if_neg Bool.false_ne_true]
  exact h
theorem iteT {A B : Prop} (h : A) : if true = true then A else B := by
  rw [if_pos rfl]
  exact h
theorem ite2 {c A B : Prop} [Decidable c] (h1 : c → A) (h2 : ¬ c → B) : if c then A else B := by
  by_cases h : c
  · rw [if_pos h]
    exact h1 h
  · rw [if_neg h]
    exact h2 h

def Same (H H' : Hp) : Prop := ∀ b o, H b = some o → H' b = some o
theorem Same.refl (H : Hp) : Same H H := fun _ _ h => h
theorem Same.trans {H H1 H2 : Hp} (a : Same H H1) (b : Same H1 H2) : Same H H2 := fun c o h => b c o (a c o h)
theorem Same.free {H H' : Hp} (e : Same H H') {l : Addr} (h : H' l = Option.none) : H l = Option.none := by
  cases q : H l with
  | none => rfl
  | some o =>
    rw [e l o q] at h
    cases h
theorem Same.seq {K : PySem.W.Frag} {H H' : Hp} {a : Addr} {xs : List V} (e : Same H H') (h : SqL K H a xs) : SqL K H' a xs := by
  rcases h with (h | ⟨o, h⟩) | h
  · exact .inl (.inl (e _ _ h))
  · exact .inl (.inr ⟨o, e _ _ h⟩)
  · exact .inr h

end L2

namespace L3
open PySem PySem.Spec PyProof.Rows L2

theorem b_abs : bootBuiltins "abs" = some (.builtin "abs") := by decide +kernel
theorem b_len : bootBuiltins "len" = some (.builtin "len") := by decide +kernel
theorem b_max : bootBuiltins "max" = some (.builtin "max") := by decide +kernel
theorem b_min : bootBuiltins "min" = some (.builtin "min") := by decide +kernel
theorem b_divmod : bootBuiltins "divmod" = some (.builtin "divmod") := by decide +kernel
theorem b_repr : bootBuiltins "repr" = some (.builtin "repr") := by decide +kernel
theorem b_isinstance : bootBuiltins "isinstance" = some (.builtin "isinstance") := by decide +kernel
theorem b_int : bootBuiltins "int" = some (.type "int") := by decide +kernel
theorem b_bool : bootBuiltins "bool" = some (.type "bool") := by decide +kernel
theorem b_str : bootBuiltins "str" = some (.type "str") := by decide +kernel
theorem b_tuple : bootBuiltins "tuple" = some (.type "tuple") := by decide +kernel
theorem b_dict : bootBuiltins "dict" = some (.type "dict") := by decide +kernel

def TyV (K : PySem.W.Frag) (H : Hp) (x : V) (T : String) : Prop := match x with
  | .non => T = "NoneType"
  | .bl _ => T = "bool"
  | .int _ => T = "int"
  | .str _ => T = "str"
  | .ref a => (T = "tuple" ∧ ∃ xs, SqT K H a xs) ∨ (T = "list" ∧ ∃ xs, SqL K H a xs) ∨ (T = "dict" ∧ ∃ kvs, H a = some (.dK kvs))
  | _ => False
section
variable {X : Cx} {a b c : Expr} {ta tb tc : TE} {pos : Pos}
def rIsi (K : PySem.W.Frag) : List V → Hp → VK → Prop := fun xs H Q => ∃ x T t k, xs = [x, .ty T] ∧ TyV K H x t ∧ PySem.W.kitOne K (.type t) (.type T) = some k ∧ Q (.bl k) H
theorem call_isi : CallR X (.builtin "isinstance") (rIsi X.K) := by
  intro pins s σ H xs us Q I r h
  obtain ⟨x, T, t, k, rfl, ty, e, q⟩ := h
  obtain ⟨u, w', rfl, rx, rt⟩ := vals2 r
  cases (show w' = Value.type T from rt)
  have fin : ∀ tk, EP X pins σ Q (.bool k) { s with toks := tk } := fun tk => ⟨.bl k, H, I.tok _, rfl, q⟩
  cases x with
  | non => cases (show t = "NoneType" from ty); exact isinst_ok I rx .non e fin
  | bl y => cases (show t = "bool" from ty); exact isinst_ok I rx (.bl y) e fin
  | int i => cases (show t = "int" from ty); exact isinst_ok I rx (.int i) e fin
  | str y => cases (show t = "str" from ty); exact isinst_ok I rx (.str y) e fin
  | byt y => exact ty.elim
  | flt y => exact ty.elim
  | ty y => exact ty.elim
  | ref a =>
    cases (show u = Value.ref a from rx)
    rcases ty with ⟨rfl, xs, hq⟩ | ⟨rfl, xs, hq⟩ | ⟨rfl, kvs, hq⟩
    · obtain ⟨its, _, ⟨o, h1, h2, _⟩, _⟩ := I.tuple hq
      exact PySem.W.kia_one PySem.W.kitx_tuple I.kIn ⟨o, h1, h2⟩ e (fun z => nomatch z) fin
    · obtain ⟨its, _, pl, _⟩ := I.list hq
      obtain ⟨o, h1, h2, _⟩ := pl.isList
      exact PySem.W.kia_one PySem.W.kitx_list I.kIn ⟨o, h1, h2⟩ e (fun z => nomatch z) fin
    · exact isinst_ok (x := V.ref a) I (show RelV (.ref a) (.ref a) from rfl) (.dK hq) e fin

theorem pe_tyn {x : Str} {T : String} {pos : Pos} (hg : Gl X x) (hm : X.mg x = none) (hv : bootBuiltins x = some (.type T)) (hn : x ≠ "__name__" := by decide) (hd : (x == ("__debug__" : Str)) = false := by decide) : PE X (.Name x pos) (tC (.ty T)) :=
  pe_bltn hg hm hv (show RelV (.ty T) (Value.type T) from rfl) hn hd
theorem op_mulG : OpR X (binaryOp .Mult) (rI IntMulOk fun i j => .int (i * j)) := opI fun _ _ _ _ _ _ _ hc q => mul_int q hc
def CDivL (i j : Int) : Prop := 0 < j ∧ j < 2 ^ 200
theorem CDivL.py {i j : Int} (h : CDivL i j) : Builtin.divisionGoesByPylong i j = false := by
  refine PyProof.noPylong_of_log2 ?_
  obtain ⟨h1, h2⟩ := h
  have h0 : j.natAbs ≠ 0 := by omega
  have h3 : j.natAbs < 2 ^ 200 := by
    have : (j.natAbs : Int) = j := by omega
    have h4 : ((j.natAbs : Nat) : Int) < ((2 ^ 200 : Nat) : Int) := by rw [this]; exact h2
    exact Int.ofNat_lt.mp h4
  exact Nat.lt_of_lt_of_le ((Nat.log2_lt h0).mpr h3) (by decide)
theorem op_fdivL : OpR X (binaryOp .FloorDiv) (rI CDivL fun i j => .int (i / j)) := opI fun i j _ _ _ _ _ hc q => by
  have := hc.1
  refine floordiv_int (by omega) ?_ (.inl hc.py)
  rw [Int.fdiv_eq_ediv_of_nonneg i (by omega)]
  exact q
theorem call_divmodL : CallR X (.builtin "divmod") (fun xs H Q => ∃ i j, xs = [.int i, .int j] ∧ CDivL i j ∧ ∀ p, H p = none → Q (.ref p) (upd H p (.tup [.int (i / j), .int (i % j)]))) := by
  intro pins s σ H xs us Q I r h
  obtain ⟨i, j, rfl, hc, q⟩ := h
  have h1 := hc.1
  obtain ⟨u, w', rfl, ⟨t, rfl⟩, ⟨t', rfl⟩⟩ := vals2 r
  refine divmod_int (by omega) ?_ (.inl hc.py)
  rw [Int.fdiv_eq_ediv_of_nonneg i (by omega), Int.fmod_eq_emod_of_nonneg i (by omega)]
  have hn : H s.heap.objs.size = none := I.hok.fresh (Nat.le_refl _)
  refine ⟨.ref s.heap.objs.size, _, ?_, rfl, q _ hn⟩
  refine I.laid (fun b o e => Heap.get?_push_of_some _ e) (Nat.le_refl _) ⟨by simp only [List.length_cons, List.length_nil]; rw [sizeLine_eq]; decide, [.int (i / j) s.toks, .int (i % j) (s.toks + 1)], .cons ⟨_, rfl⟩ (.cons ⟨_, rfl⟩ .nil), ?_⟩
  exact ⟨_, Heap.get?_push_size s.heap rfl, rfl, 0, rfl⟩
def RepI (i : Int) : Prop := i.natAbs.log2 < 1920
end

def Callee (P : Program) (w : World) (K : PySem.W.Frag) (mg : Str → Option Value) (base : Heap) (k : Nat) (x : Str) (ps : List Str) (sp : Sp) : Prop :=
  ∃ (f : Addr) (fd : FuncData), FnOk P w K mg base CX0 k f fd ps sp ∧ Binds K fd ps [] ∧ PySem.W.keepIn K (.ref f) = true ∧ mg x = some (.ref f)
theorem Callee.mono {P : Program} {w : World} {K : PySem.W.Frag} {mg : Str → Option Value} {base : Heap} {j k : Nat} {x : Str} {ps : List Str} {sp : Sp} (C : Callee P w K mg base j x ps sp) (h : j ≤ k) : Callee P w K mg base k x ps sp := by
  obtain ⟨f, fd, F, b, kp, m⟩ := C
  exact ⟨f, fd, F.mono h, b, kp, m⟩
section
variable {X : Cx} {k : Nat} {ps : List Str} {sp : Sp} {x : Str} {p pos : Pos} {e : Expr} {es : List Expr} {t : TA}
theorem pe_callC (C : Callee X.prog X.w X.K X.mg X.base k x ps sp) (hr : Room k X.A) (hg : Gl X x)
    (ha : PA X (e :: es) t) (hdb : (x == ("__debug__" : Str)) = false := by decide) (he : starEach (e :: es) X.env = (false, eval e X.env) :: starEach es X.env := by rfl) (hpl : (backTo pos (starEach es X.env)).any (·.1) = false := by rfl) :
    PE X (.Call (.Name x p) (e :: es) [] pos) (tCall sp [] E0 t) := by
  obtain ⟨f, fd, F, b, kp, m⟩ := C
  exact pe_call F hr hg m kp b .nil pass0 ha hdb he hpl
end

structure Grow (m : List Addr) (H H' : Hp) : Prop where
  keep : ∀ b o, b ∉ m → H b = some o → H' b = some o
  tup : ∀ b xs, H b = some (.tup xs) → H' b = some (.tup xs)
  frz : ∀ b o u, H b = some (.frz o u) → H' b = some (.frz o u)
theorem Grow.refl (m : List Addr) (H : Hp) : Grow m H H := ⟨fun _ _ _ h => h, fun _ _ h => h, fun _ _ _ h => h⟩
theorem Grow.trans {m : List Addr} {H H1 H2 : Hp} (a : Grow m H H1) (b : Grow m H1 H2) : Grow m H H2 :=
  ⟨fun c o n h => b.keep c o n (a.keep c o n h), fun c xs h => b.tup c xs (a.tup c xs h), fun c o u h => b.frz c o u (a.frz c o u h)⟩
theorem Grow.new {m : List Addr} {H : Hp} {p : Addr} (h : H p = none) (o : HO) : Grow m H (upd H p o) :=
  ⟨fun b u _ q => by rw [upd_ne (ne_of_none q h)]; exact q, fun b xs q => by rw [upd_ne (ne_of_none q h)]; exact q, fun b u v q => by rw [upd_ne (ne_of_none q h)]; exact q⟩
theorem Grow.set {m : List Addr} {H : Hp} {p : Addr} {xs : List V} (h : H p = some (.lst xs)) (hm : p ∈ m) (ys : List V) : Grow m H (upd H p (.lst ys)) :=
  ⟨fun b u hb q => by rw [upd_ne (show b ≠ p from fun z => hb (by rw [z]; exact hm))]; exact q, fun b zs q => by rw [upd_ne (fun z => by subst z; rw [h] at q; cases q)]; exact q, fun b u v q => by rw [upd_ne (fun z => by subst z; rw [h] at q; cases q)]; exact q⟩
theorem Grow.mono {m m' : List Addr} {H H' : Hp} (a : Grow m H H') (h : ∀ b ∈ m, b ∈ m') : Grow m' H H' := ⟨fun b o n q => a.keep b o (fun z => n (h b z)) q, a.tup, a.frz⟩
theorem Grow.same {H H' : Hp} (a : Grow [] H H') : Same H H' := fun b o h => a.keep b o (by simp) h
theorem Grow.sqT {m : List Addr} {H H' : Hp} (g : Grow m H H') {K : PySem.W.Frag} {a : Addr} {xs : List V} (h : SqT K H a xs) : SqT K H' a xs := by
  rcases h with (h | ⟨o, h⟩) | h
  · exact .inl (.inl (g.tup _ _ h))
  · exact .inl (.inr ⟨o, g.frz _ _ _ h⟩)
  · exact .inr h
theorem Grow.free {H H' : Hp} {m : List Addr} (g : Grow m H H') {l : Addr} (hm : l ∉ m) (h : H' l = none) : H l = none := by
  cases q : H l with
  | none => rfl
  | some o => rw [g.keep l o hm q] at h; cases h
def Scr (K : PySem.W.Frag) (H : Hp) (a : Addr) (ns : List Int) : Prop :=
  (∃ o, H a = some (.frz o (.lst (ns.map V.int)))) ∨
    ∃ (o : Obj) (its : Array Value) (n : Nat), K.lookup a = some o ∧ o.cls = .type "list" ∧ o.dict = none ∧ o.data = .seq its n ∧ its.size ≤ sizeLine ∧ Vals (ns.map V.int) its.toList
theorem Scr.sq {K : PySem.W.Frag} {H : Hp} {a : Addr} {ns : List Int} (h : Scr K H a ns) : SqL K H a (ns.map V.int) := by
  rcases h with ⟨o, h⟩ | h
  · exact .inl (.inr ⟨o, h⟩)
  · exact .inr h
theorem Scr.of {K : PySem.W.Frag} {H : Hp} {a : Addr} {ns : List Int} (hO : Only H) (h : SqL K H a (ns.map V.int)) : Scr K H a ns := by
  rcases h with (h | ⟨o, h⟩) | h
  · rcases hO a with z | ⟨o, xs, z⟩
    · rw [h] at z; cases z
    · rw [h] at z; cases z
  · exact .inl ⟨o, h⟩
  · exact .inr h
theorem Grow.scr {m : List Addr} {H H' : Hp} (g : Grow m H H') {K : PySem.W.Frag} {a : Addr} {ns : List Int} (h : Scr K H a ns) : Scr K H' a ns := by
  rcases h with ⟨o, h⟩ | h
  · exact .inl ⟨o, g.frz _ _ _ h⟩
  · exact .inr h
end L3

namespace L3
open PySem PySem.Spec PyProof.Rows L2

structure Blt (mg : Str → Option Value) : Prop where
  abs : mg "abs" = none
  len : mg "len" = none
  max : mg "max" = none
  min : mg "min" = none
  divmod : mg "divmod" = none
  repr : mg "repr" = none
  isinstance : mg "isinstance" = none
  all : mg "all" = none
  range : mg "range" = none
  int : mg "int" = none
  bool : mg "bool" = none
  str : mg "str" = none
  tuple : mg "tuple" = none
  list : mg "list" = none
  dict : mg "dict" = none

def sp1 (b : V → Hp → VK → Prop) : Sp := fun vs H Q _ => ∃ x, vs = [x] ∧ b x H Q
def sp2 (b : V → V → Hp → VK → Prop) : Sp := fun vs H Q _ => ∃ x y, vs = [x, y] ∧ b x y H Q
theorem sp1_len {b : V → Hp → VK → Prop} {p : Str} : ∀ vs H Q E, sp1 b vs H Q E → vs.length = [p].length := fun vs H Q E h => by
  obtain ⟨x, rfl, _⟩ := h; rfl
theorem sp2_len {b : V → V → Hp → VK → Prop} {p q : Str} : ∀ vs H Q E, sp2 b vs H Q E → vs.length = [p, q].length := fun vs H Q E h => by
  obtain ⟨x, y, rfl, _⟩ := h; rfl

def wholeV : V → Bool
  | .int _ => true
  | _ => false
def endV : V → Bool
  | .non => true
  | .int _ => true
  | _ => false
def Kn (K : PySem.W.Frag) (H : Hp) (x : V) : Prop := ∃ T, TyV K H x T
structure Deed where
  add : Int
  lo : Option Int
  hi : Option Int
  deriving DecidableEq
def ov : Option Int → V
  | none => .non
  | some i => .int i
def Deed.vs (d : Deed) : List V := [.int d.add, ov d.lo, ov d.hi]
def Deed.Ok (d : Deed) : Prop := ∀ l h, d.lo = some l → d.hi = some h → l < h ∨ (l = h ∧ d.add = 0)
def clampLo (lo : Option Int) (r : Int) : Int := match lo with
  | none => r
  | some l => if l > r then l else r
def clampHi (hi : Option Int) (r : Int) : Int := match hi with
  | none => r
  | some h => if h < r then h else r
def Deed.mk' (d : Deed) (v : Int) : Int := clampHi d.hi (clampLo d.lo (v + d.add))
def ordV : V → V → V → Bool
  | .int a, .int l, .int h => decide (l < h) || (decide (l = h) && decide (a = 0))
  | _, _, _ => true
def tupDeed : List V → Bool
  | [x, y, z] => wholeV x && (endV y && (endV z && ordV x y z))
  | _ => false
theorem tupDeed_ok {d : Deed} (h : d.Ok) : tupDeed d.vs = true := by
  obtain ⟨a, lo, hi⟩ := d
  cases lo with
  | none => cases hi <;> rfl
  | some l =>
    cases hi with
    | none => rfl
    | some u =>
      have := h l u rfl rfl
      show (decide (l < u) || (decide (l = u) && decide (a = 0))) = true
      rcases this with q | ⟨q, q2⟩
      · simp [q]
      · have q2' : a = 0 := q2
        simp [q, q2']
theorem whole_int {x : V} (h : wholeV x = true) : ∃ i, x = .int i := by
  cases x <;> first | exact ⟨_, rfl⟩ | cases h
theorem end_ov {x : V} (h : endV x = true) : ∃ o, x = ov o := by
  cases x <;> first | exact ⟨none, rfl⟩ | exact ⟨some _, rfl⟩ | cases h
theorem len3 {xs : List V} (h : xs.length = 3) : ∃ x y z, xs = [x, y, z] := by
  match xs, h with
  | [x, y, z], _ => exact ⟨x, y, z, rfl⟩
theorem tupDeed_len {xs : List V} (h : xs.length ≠ 3) : tupDeed xs = false := by
  match xs, h with
  | [], _ => rfl
  | [_], _ => rfl
  | [_, _], _ => rfl
  | [_, _, _], h => exact absurd rfl h
  | _ :: _ :: _ :: _ :: _, _ => rfl
def DeedAt (K : PySem.W.Frag) (H : Hp) (x : V) (d : Deed) : Prop := ∃ a, x = .ref a ∧ SqT K H a d.vs
theorem Grow.deed {m : List Addr} {H H' : Hp} (g : Grow m H H') {K : PySem.W.Frag} {x : V} {d : Deed} (h : DeedAt K H x d) : DeedAt K H' x d := by
  obtain ⟨a, e, h⟩ := h
  exact ⟨a, e, g.sqT h⟩
theorem kn_int {K : PySem.W.Frag} {H : Hp} {i : Int} : Kn K H (.int i) := ⟨"int", rfl⟩
theorem kn_non {K : PySem.W.Frag} {H : Hp} : Kn K H .non := ⟨"NoneType", rfl⟩
theorem kn_ov {K : PySem.W.Frag} {H : Hp} (o : Option Int) : Kn K H (ov o) := by cases o; exact kn_non; exact kn_int

def sp_is_whole (K : PySem.W.Frag) : Sp := sp1 fun x H Q => Kn K H x ∧ Q (.bl (wholeV x)) H
def sp_is_end (K : PySem.W.Frag) : Sp := sp1 fun x H Q => Kn K H x ∧ Q (.bl (endV x)) H
def sp_is_deed (K : PySem.W.Frag) : Sp := sp1 fun x H Q => (∃ T, T ≠ "tuple" ∧ TyV K H x T ∧ Q (.bl false) H) ∨ ∃ a xs, x = .ref a ∧ SqT K H a xs ∧ (∀ y ∈ xs, Kn K H y) ∧ Q (.bl (tupDeed xs)) H
def sp_need_deed (K : PySem.W.Frag) : Sp := sp1 fun x H Q => ∃ d, DeedAt K H x d ∧ d.Ok ∧ Q .non H

def Pot (H : Hp) (a : Addr) : Prop := ∃ p0 p1 : Int, H a = some (.lst [.int p0, .int p1]) ∧ 0 ≤ p0
def Sm (n : Int) : Prop := -(10 ^ 30) < n ∧ n < 10 ^ 30
def Deed.Sm (d : Deed) : Prop := L3.Sm d.add ∧ (∀ l, d.lo = some l → L3.Sm l) ∧ ∀ h, d.hi = some h → L3.Sm h
def sp_pot (K : PySem.W.Frag) : Sp := sp2 fun x y H Q => ∃ a ns k, x = .ref a ∧ y = .int k ∧ Scr K H a ns ∧ 0 ≤ k ∧ k < 1000 ∧ ∀ p H', H p = none → Grow [] H H' → Pot H' p → Q (.ref p) H'
def sp_take (_ : PySem.W.Frag) : Sp := sp2 fun x y H Q => ∃ a m, x = .ref a ∧ y = .int m ∧ Pot H a ∧ 0 < m ∧ m < 2 ^ 200 ∧ ∀ n H', 0 ≤ n → n < m → Grow [a] H H' → Pot H' a → Q (.int n) H'
def sp_number (_ : PySem.W.Frag) : Sp := sp1 fun x H Q => ∃ a, x = .ref a ∧ Pot H a ∧ ∀ n H', -(10 ^ 29) < n → n < 10 ^ 29 → Grow [a] H H' → Pot H' a → Q (.int n) H'
def sp_deed (K : PySem.W.Frag) : Sp := sp1 fun x H Q => ∃ a, x = .ref a ∧ Pot H a ∧ ∀ d y H', d.Ok → d.Sm → Grow [a] H H' → Pot H' a → DeedAt K H' y d → Q y H'
theorem deedFin (A n o : Int) : Deed.Ok ⟨A * (if (!decide (V.int n = V.int o)) = true then 1 else 0), some (if o < n then o else n), some (if o > n then o else n)⟩ := by
  intro l h hl hh
  cases hl; cases hh
  by_cases e : n = o
  · subst e
    right
    refine ⟨by simp, ?_⟩
    show A * (if (!decide (V.int n = V.int n)) = true then 1 else 0) = 0
    rw [decide_eq_true rfl]
    simp
  · left
    split <;> split <;> omega
theorem bool01 (c : Bool) : (if c = true then (1 : Int) else 0) = 0 ∨ (if c = true then (1 : Int) else 0) = 1 := by cases c <;> simp
theorem Sm.of {n : Int} (h1 : -(10 ^ 30) < n) (h2 : n < 10 ^ 30) : Sm n := ⟨h1, h2⟩
theorem deedFinSm {A n o : Int} (hA : Sm A) (hn : Sm n) (ho : Sm o) : Deed.Sm ⟨A * (if (!decide (V.int n = V.int o)) = true then 1 else 0), some (if o < n then o else n), some (if o > n then o else n)⟩ := by
  obtain ⟨a1, a2⟩ := hA
  obtain ⟨b1, b2⟩ := hn
  obtain ⟨c1, c2⟩ := ho
  refine ⟨?_, fun l hl => ?_, fun h hh => ?_⟩
  · show Sm (A * (if (!decide (V.int n = V.int o)) = true then 1 else 0))
    rcases bool01 (!decide (V.int n = V.int o)) with e | e
    · rw [e, Int.mul_zero]; exact ⟨by omega, by omega⟩
    · rw [e, Int.mul_one]; exact ⟨a1, a2⟩
  · cases hl
    exact ⟨by split <;> omega, by split <;> omega⟩
  · cases hh
    exact ⟨by split <;> omega, by split <;> omega⟩
def sp_law (K : PySem.W.Frag) : Sp := sp1 fun x H Q => ∃ a ns, x = .ref a ∧ Scr K H a ns ∧ ns.length ≤ 63 ∧ ∀ H', Q (.bl true) H'
theorem sm_nn {A : Int} (h : Sm A) : Deed.Sm ⟨A, none, none⟩ := ⟨h, (fun l z => by cases z), (fun l z => by cases z)⟩
theorem sm_sn {A l : Int} (h : Sm A) (h2 : Sm l) : Deed.Sm ⟨A, some l, none⟩ := ⟨h, (fun l z => by cases z; exact h2), (fun l z => by cases z)⟩
theorem sm_ns {A l : Int} (h : Sm A) (h2 : Sm l) : Deed.Sm ⟨A, none, some l⟩ := ⟨h, (fun l z => by cases z), (fun l z => by cases z; exact h2)⟩
theorem ok_n {A : Int} {o : Option Int} : Deed.Ok ⟨A, none, o⟩ := fun l h z => by cases z
theorem ok_sn {A l : Int} : Deed.Ok ⟨A, some l, none⟩ := fun l h z z2 => by cases z2
theorem szl {n : Nat} (h : Nat.ble n 1000 = true) : n ≤ sizeLine := Nat.le_of_lt (small1000 (Nat.le_of_ble_eq_true h))
theorem Grow.shrink {H H' : Hp} {l : Addr} (h : H l = none) (g : Grow [l] H H') : Grow [] H H' :=
  ⟨fun b o _ q => g.keep b o (fun z => by rw [List.mem_singleton.mp z] at q; rw [h] at q; cases q) q, g.tup, g.frz⟩
theorem Grow.wk {m : List Addr} {H H' : Hp} (g : Grow [] H H') : Grow m H H' := g.mono (by simp)
theorem Pot.grow {H H' : Hp} {a : Addr} (p : Pot H a) (g : Grow [] H H') : Pot H' a := by
  obtain ⟨u0, u1, hu, hn⟩ := p
  exact ⟨u0, u1, g.keep _ _ (by simp) hu, hn⟩
theorem Pot.new {H : Hp} {a l : Addr} (p : Pot H a) (hl : H l = none) (o : HO) : Pot (upd H l o) a := p.grow (Grow.new hl o)
theorem bits200 {k : Int} (h : -(2 ^ 200) < k ∧ k < 2 ^ 200) : Builtin.Int.intBits k ≤ 200 := PySem.intBits_le_iff.mpr (by
  have h1 : ((k.natAbs : Nat) : Int) < ((2 ^ 200 : Nat) : Int) := by
    have e : ((2 ^ 200 : Nat) : Int) = 2 ^ 200 := rfl
    rw [e]; obtain ⟨a, b⟩ := h; omega
  exact Int.ofNat_lt.mp h1)
theorem mulOk {i j : Int} (h1 : -(2 ^ 200) < i ∧ i < 2 ^ 200) (h2 : -(2 ^ 200) < j ∧ j < 2 ^ 200) : IntMulOk i j := PySem.IntMulOk.of_le (bits200 h1) (bits200 h2) (by decide)
theorem mulOkR {i j : Int} (h2 : -(2 ^ 60) < j ∧ j < 2 ^ 60) : IntMulOk i j := PySem.IntMulOk.of_right (Nat.le_trans ((PySem.intBits_le_iff (m := 60)).mpr (by obtain ⟨a, b⟩ := h2; omega)) (by decide))
end L3

namespace L3
open PySem PySem.Spec PyProof.Rows L2

section
variable {prog : Program} {w : World} {A : Around} {R : Result → Shared → Prop} {s : Shared}
theorem comp_loop {elt target iter : Expr} {ifs : List Expr} {scope : Scope} {pos : Pos} {it acc : Value} {env : Env} (I : Nat → Shared → Prop)
    (turn : ∀ n s, I n s → wpAny (model prog w) A (pyNext it) (fun r s₁ => match r with
      | none => R (.ok .next) s₁
      | some v => wpAny (model prog w) A (letOwnedTupleGo target it v) (fun _ s₂ => wpAny (model prog w) A (assign target env v) (fun _ s₃ =>
          wpAny (model prog w) A (forIn ifs true fun c r => if r = true then do let ok ← isTrue c env (eval c env); pure (ForInStep.yield ok) else pure (ForInStep.yield r)) (fun ok s₄ =>
            if ok = true then wpAny (model prog w) A (eval elt env) (fun x s₅ =>
              wpAny (model prog w) A (call (.builtin "list.append") [acc, x]) (fun _ s₆ => ∃ m, m < n ∧ I m s₆) (fun _ _ => False) s₅) (fun _ _ => False) s₄
            else ∃ m, m < n ∧ I m s₄) (fun _ _ => False) s₃) (fun _ _ => False) s₂) (fun _ _ => False) s₁) (fun _ _ => False) s)
    (n : Nat) (h : I n s) :
    codeAny (model prog w) A (.compLoop (.ListComp elt [⟨target, iter, ifs, 0⟩] scope pos) 0 it acc env) R s := by
  refine codeAny_loop rfl I (fun n s hI => ?_) n h
  show wpAny _ A ((compTurn (.ListComp elt [⟨target, iter, ifs, 0⟩] scope pos) 0 it acc env).onRaise (fun x => do noteFrame x env; theTreesLotGoes x)) _ _ s
  refine wpAny_noted ?_
  rw [compTurn_list]
  have no : ∀ (E : Value → Shared → Prop) (e : Value) (s : Shared), (fun (_ : Value) (_ : Shared) => False) e s → E e s := fun _ _ _ f => f.elim
  refine wpAny_bind (wpAny_standAt (wpAny_bind (wpAny_mono (turn n s hI) (fun r s₁ h₁ => ?_) (no _))))
  cases r with
  | none => exact wpAny_pure h₁
  | some v =>
    refine wpAny_bind (wpAny_mono h₁ (fun _ s₂ h₂ => ?_) (no _))
    refine wpAny_bind (wpAny_mono h₂ (fun _ s₃ h₃ => wpAny_bind (wpAny_mono h₃ (fun ok s₄ h₄ => ?_) (no _))) (no _))
    cases ok with
    | true =>
      simp only [if_true] at h₄ ⊢
      exact wpAny_bind (wpAny_bind (wpAny_mono h₄ (fun x s₅ h₅ => wpAny_bind (wpAny_mono h₅ (fun _ s₆ h₆ => wpAny_pure (wpAny_pure ⟨rfl, h₆⟩)) (no _))) (no _)))
    | false =>
      simp only [Bool.false_eq_true, if_false] at h₄ ⊢
      first
        | exact wpAny_bind (wpAny_pure (wpAny_pure ⟨rfl, h₄⟩))
        | exact wpAny_pure ⟨rfl, h₄⟩
end

theorem closure_ok {scope : Scope} {env : Env} (hfree : ∀ y ∈ scope.names, y.2 = .free → ∃ c, env.cells.lookup y.1 = some c) :
    ∃ cl, closureFor scope env = pure cl ∧ (∀ x c, cl.lookup x = some c → env.cells.lookup x = some c) ∧ ∀ y ∈ scope.names, y.2 = .free → ∃ c, cl.lookup y.1 = some c := by
  have key : ∀ (l : List (Str × NameKind)) (cs : List (Str × Addr)), (∀ y ∈ l, y.2 = .free → ∃ c, env.cells.lookup y.1 = some c) → (∀ x c, cs.lookup x = some c → env.cells.lookup x = some c) →
      ∃ cl, (forIn l cs (fun (x : Str × NameKind) r => do if x.2 == .free then do let c ← cellOf env x.1; pure (ForInStep.yield ((x.1, c) :: r)) else pure (ForInStep.yield r)) : Sem (List (Str × Addr))) = pure cl ∧
        (∀ x c, cl.lookup x = some c → env.cells.lookup x = some c) ∧ (∀ y ∈ l, y.2 = .free → ∃ c, cl.lookup y.1 = some c) ∧ ∀ x c, cs.lookup x = some c → ∃ c', cl.lookup x = some c' := by
    intro l
    induction l with
    | nil => intro cs _ h2; exact ⟨cs, rfl, h2, fun y hy => absurd hy (by simp), fun x c h => ⟨c, h⟩⟩
    | cons y r ih =>
      intro cs h1 h2
      obtain ⟨n, k⟩ := y
      by_cases hk : k = .free
      · subst hk
        obtain ⟨c, hc⟩ := h1 (n, .free) (by simp) rfl
        have hc' : env.cells.lookup n = some c := hc
        have e0 : cellOf env n = pure c := by unfold cellOf; rw [hc']
        obtain ⟨cl, e, p1, p2, p3⟩ := ih ((n, c) :: cs) (fun z hz => h1 z (List.mem_cons_of_mem _ hz)) (fun x d h => by
          by_cases hx : x = n
          · subst hx
            rw [List.lookup_cons_self] at h
            cases h; exact hc'
          · rw [List.lookup_cons, beq_eq_false_iff_ne.mpr hx] at h
            exact h2 x d h)
        refine ⟨cl, ?_, p1, fun z hz => ?_, fun x d h => ?_⟩
        · rw [List.forIn_cons]
          simp only [beq_self_eq_true, if_true, e0, pure_bind]
          exact e
        · rcases List.mem_cons.mp hz with rfl | hz
          · intro _
            exact p3 n c List.lookup_cons_self
          · exact p2 z hz
        · by_cases hx : x = n
          · subst hx; exact p3 x c List.lookup_cons_self
          · exact p3 x d (by rw [List.lookup_cons, beq_eq_false_iff_ne.mpr hx]; exact h)
      · have hb : (k == NameKind.free) = false := beq_eq_false_iff_ne.mpr hk
        obtain ⟨cl, e, p1, p2, p3⟩ := ih cs (fun z hz => h1 z (List.mem_cons_of_mem _ hz)) h2
        refine ⟨cl, ?_, p1, fun z hz => ?_, p3⟩
        · rw [List.forIn_cons]
          simp only [hb, Bool.false_eq_true, if_false, pure_bind]
          exact e
        · rcases List.mem_cons.mp hz with rfl | hz
          · intro h; exact absurd h hk
          · exact p2 z hz
  obtain ⟨cl, e, p1, p2, _⟩ := key scope.names [] hfree (fun x c h => by cases h)
  refine ⟨cl, ?_, p1, p2⟩
  unfold closureFor
  first
    | (rw [show (forIn scope.names [] _ : Sem (List (Str × Addr))) = pure cl from e]; rfl)
    | (simp only [bind_pure]; exact e)
    | exact e
end L3

namespace L3
open PySem PySem.Spec PyProof.Rows L2

def PIfs (X : Cx) (ifs : List Expr) (t : TT) : Prop :=
  ∀ (pins : List (Addr × Obj)) (s : Shared) (σ : L2.St) (H : Hp) (Q : Bool → Hp → Prop), Inv X pins σ H s → t σ H Q →
    wpAny (model X.prog X.w) X.A (forIn ifs true fun c r => if r = true then do let ok ← isTrue c X.env (eval c X.env); pure (ForInStep.yield ok) else pure (ForInStep.yield r)) (TP X pins σ Q) X.xe s
def tTrue : TT := fun _ H Q => Q true H
theorem pifs_nil {X : Cx} : PIfs X [] tTrue := fun pins s σ H Q I h => wpAny_pure ⟨H, I, h⟩
theorem pifs_one {X : Cx} {c : Expr} {t : TT} (hc : PT X c t) : PIfs X [c] t := fun pins s σ H Q I h => wpAny_tests_one (hc pins s σ H Q I h)

abbrev cxC (X : Cx) (N' : List Str) (scope : Scope) (cl : List (Str × Addr)) (C D : Addr) (fp : List Addr) (s : Shared) (H : Hp) : Cx :=
  { X with N := N', s₀ := s, H₀ := H, env := compEnvC scope cl C X.env, outer := X.stack, ex := D :: fp, fn := fun _ => false, xe := fun _ _ => False }
def capt (sub : List (Option Nat)) (σ : L2.St) : L2.St := sub.map fun o => match o with
  | none => none
  | some i => (match σ[i]? with | some v => v | none => none)
def CompW (J : It) (σ0 : L2.St) (H1 : Hp) (g : TG) (tt : TT) (te : TE) (Q : VK) : Prop :=
  ∃ W : Nat → Nat → List V → L2.St → Hp → Prop, (∃ m, W 0 m [] σ0 H1) ∧ ∀ i m ys σ' H', W i m ys σ' H' →
    (J.stop i H' ∧ ∀ l, H' l = none → Q (.ref l) (upd H' l (.lst ys))) ∨
    (J.go i H' ∧ ∃ Nn : List V → L2.St → Hp → Prop, (∀ zs σ2 H2, Nn zs σ2 H2 → ∃ m', m' < m ∧ W (i + 1) m' zs σ2 H2) ∧
      ∀ x H2, J.yld i H' x H2 → g x σ' H2 fun σ2 H3 => tt σ2 H3 fun b H4 => if b = true then te σ2 H4 fun y H5 => ys.length < sizeLine ∧ Nn (ys ++ [y]) σ2 H5 else Nn ys σ2 H4)
def tComp (wi : TI) (sub : List (Option Nat)) (g : TG) (tt : TT) (te : TE) : TE := fun σ H Q => wi σ H fun J H1 => CompW J (capt sub σ) H1 g tt te Q
structure CSc (X : Cx) (scope : Scope) (N' : List Str) (sub : List (Option Nat)) : Prop where
  free : ∀ y ∈ scope.names, y.2 = .free → X.env.kindOf y.1 = some .cell
  nocell : ∀ y ∈ scope.names, y.2 ≠ .cell
  kind : scope.kind = .function
  names : ∀ y ∈ scope.names, y.2 = .local → scope.names.lookup y.1 = some .local
  len : sub.length = N'.length
  cap : ∀ (j : Nat) (y : Str) (i : Nat), N'[j]? = some y → sub[j]? = some (some i) → X.N[i]? = some y ∧ X.env.scope.names.lookup y = some .cell ∧ scope.names.lookup y = some .free

theorem HOk.track {P : Program} {w : World} {H : Hp} {h : Heap} {a : Addr} {o : HO} (x : HOk P w H h) (hn : H a = none) (new : ObjOk P w (upd H a o) h a o) : HOk P w (upd H a o) h := fun b u e => by
  by_cases hb : b = a
  · subst hb; rw [upd_same] at e; cases e; exact new
  · rw [upd_ne hb] at e
    exact (x b u e).stay (fun c v _ q => q) (fun c q => by rw [upd_ne (ne_of_none q hn)]; exact q) fun c xs q => by rw [upd_ne (ne_of_none q hn)]; exact q
theorem relabel_lookup {scope : Scope} {env : Env} {y : Str} {k : NameKind} (h : (relabel scope env).names.lookup y = some k) :
    ∃ k', scope.names.lookup y = some k' ∧ (k = k' ∨ (k = .cell ∧ k' = .free)) := by
  have key : ∀ l : List (Str × NameKind), (l.map fun (n, k) => if (k == NameKind.free && env.scope.kind == .function && env.kindOf n == some .cell) then (n, NameKind.cell) else (n, k)).lookup y = some k →
      ∃ k', l.lookup y = some k' ∧ (k = k' ∨ (k = .cell ∧ k' = .free)) := by
    intro l
    induction l with
    | nil => intro h; cases h
    | cons p r ih =>
      obtain ⟨n, k0⟩ := p
      intro h
      rw [List.map_cons] at h
      by_cases hc : (k0 == NameKind.free && env.scope.kind == .function && env.kindOf n == some .cell) = true
      · have hf : k0 = .free := by
          simp only [Bool.and_eq_true, beq_iff_eq] at hc
          exact hc.1.1
        dsimp only at h
        rw [if_pos hc, List.lookup_cons] at h
        rw [List.lookup_cons]
        cases hx : y == n with
        | true => rw [hx] at h; cases h; exact ⟨k0, rfl, .inr ⟨rfl, hf⟩⟩
        | false => rw [hx] at h; exact ih h
      · dsimp only at h
        rw [if_neg hc, List.lookup_cons] at h
        rw [List.lookup_cons]
        cases hx : y == n with
        | true => rw [hx] at h; cases h; exact ⟨_, rfl, .inl rfl⟩
        | false => rw [hx] at h; exact ih h
  exact key scope.names h
theorem relabel_cell {scope : Scope} {env : Env} {y : Str} (hk : env.scope.kind = .function) (hc : env.kindOf y = some .cell) (h : scope.names.lookup y = some .free) : (relabel scope env).names.lookup y = some .cell := by
  have key : ∀ l : List (Str × NameKind), l.lookup y = some .free → (l.map fun (n, k) => if (k == NameKind.free && env.scope.kind == .function && env.kindOf n == some .cell) then (n, NameKind.cell) else (n, k)).lookup y = some .cell := by
    intro l
    induction l with
    | nil => intro h; cases h
    | cons p r ih =>
      obtain ⟨n, k0⟩ := p
      intro h
      rw [List.map_cons]
      rw [List.lookup_cons] at h
      dsimp only
      cases hx : y == n with
      | true =>
        rw [hx] at h
        cases h
        have e : y = n := by simpa using hx
        subst e
        rw [if_pos (by simp [hk, hc]), List.lookup_cons, hx]
      | false =>
        rw [hx] at h
        by_cases hc2 : (k0 == NameKind.free && env.scope.kind == .function && env.kindOf n == some .cell) = true
        · rw [if_pos hc2, List.lookup_cons, hx]; exact ih h
        · rw [if_neg hc2, List.lookup_cons, hx]; exact ih h
  exact key scope.names h
section
variable {X : Cx} {pins : List (Addr × Obj)} {σ : L2.St} {H2 : Hp} {s₂ : Shared} {it : Addr} {fp : List Addr} {tn : Nat → Heap → Prop} {J : It} {scope : Scope} {cl : List (Str × Addr)} {N' : List Str} {sub : List (Option Nat)}
theorem comp_start {h₁ : Heap} {tk : Nat} (I : Inv X pins σ H2 s₂) (S : CSc X scope N' sub) (hcl1 : ∀ x c, cl.lookup x = some c → X.env.cells.lookup x = some c) (hcl2 : ∀ y ∈ scope.names, y.2 = .free → ∃ c, cl.lookup y.1 = some c)
    (f2 : ∀ b ∈ fp, FpOk X pins H2 b) (hfp : ∀ b ∈ fp, b < s₂.heap.objs.size) {m : Str → Option Value} {ob : Obj}
    (hns : h₁.Ns (s₂.heap.objs.size + 1) m) (hk : ∀ b o, (s₂.heap.push ob).get? b = some o → h₁.get? b = some o) :
    Inv (cxC X N' scope cl (s₂.heap.objs.size + 1) s₂.heap.objs.size fp { s₂ with heap := s₂.heap.push ob } H2) pins (capt sub σ) H2 { s₂ with heap := h₁, toks := tk } := by
  have old : ∀ b o, s₂.heap.get? b = some o → (s₂.heap.push ob).get? b = some o := fun b o e => Heap.get?_push_of_some _ e
  have old2 : ∀ b o, s₂.heap.get? b = some o → h₁.get? b = some o := fun b o e => hk b o (old b o e)
  have sz : (s₂.heap.push ob).objs.size = s₂.heap.objs.size + 1 := Heap.size_push ..
  have cells : ∀ x c, cl.lookup x = some c → c < s₂.heap.objs.size := fun x c e => let ⟨v, q⟩ := I.cell x c (hcl1 x c e); q.lt
  have has : ∀ x, ((relabel scope X.env).names.lookup x = some .cell ∨ (relabel scope X.env).names.lookup x = some .free) → ∃ c, cl.lookup x = some c := fun x hx => by
    rcases hx with hx | hx
    · obtain ⟨k', e, z⟩ := relabel_lookup hx
      rcases z with z | ⟨_, z⟩
      · subst z; exact absurd rfl (S.nocell _ (PySem.mem_of_lookup e))
      · subst z; exact hcl2 _ (PySem.mem_of_lookup e) rfl
    · obtain ⟨k', e, z⟩ := relabel_lookup hx
      rcases z with z | ⟨z, _⟩
      · subst z; exact hcl2 _ (PySem.mem_of_lookup e) rfl
      · cases z
  have frsz : ∀ b ∈ frs X.stack, b < s₂.heap.objs.size := fun b hb => by
    rcases List.mem_cons.mp (I.stkSub b hb) with z | z
    · rw [z]; exact I.lt
    · exact Nat.lt_of_not_le fun q => I.nofs q z
  refine
    { ok :=
      { mod := I.ok.mod, kind := S.kind, glob := I.ok.glob, blt := I.ok.blt
        above := by show (s₂.heap.push ob).objs.size ≤ s₂.heap.objs.size + 1; rw [sz]; exact Nat.le_refl _
        inj := fun x y c h1 h2 => I.ok.inj x y c (hcl1 x c h1) (hcl1 y c h2)
        has := has
        cab := fun x c z => by cases z
        hd := I.ok.hd, frames := I.ok.frames, stk := .inl rfl
        exf := fun b hb => ?exf
        bs := fun b o e => ⟨old b o (I.bk b o e), (I.bs b o e).2⟩
        bsz := by show X.base.objs.size ≤ (s₂.heap.push ob).objs.size; rw [sz]; exact Nat.le_succ_of_le (Nat.le_trans I.ok.bsz I.sz)
        noex := fun b o e hb => ?noex
        exfs := fun b hb => ?exfs
        funs := ?funs
        frf := I.stkFree }
      os := rfl, bare := I.bare, base := Un.kept fun b u e => hk b u e
      loc := ⟨m, hns, ?loc⟩
      cell := fun x c e => ?cell
      free := I.hok.fresh (Nat.le_succ _)
      freeC := fun x c e => I.freeC x c (hcl1 x c e)
      pin := fun p hp => ?pin
      hok := I.hok.kept old2
      len := ?len }
  case exf =>
    rcases List.mem_cons.mp hb with rfl | hb
    · exact ⟨Nat.ne_of_lt (Nat.lt_succ_self _), fun x c e => Nat.ne_of_lt (cells x c e)⟩
    · exact ⟨Nat.ne_of_lt (Nat.lt_succ_of_lt (hfp b hb)), fun x c e => (f2 b hb).2.2.2.2.1 x c (hcl1 x c e)⟩
  case noex =>
    have hl : b < X.s₀.heap.objs.size := Nat.lt_of_lt_of_le (Heap.lt_size e) I.ok.bsz
    rcases List.mem_cons.mp hb with rfl | hb
    · exact absurd (Nat.lt_of_lt_of_le hl I.sz) (Nat.lt_irrefl _)
    · rcases (f2 b hb).2.2.2.1 with z | z
      · exact I.ok.noex b o e z
      · exact absurd (Nat.lt_of_lt_of_le hl z) (Nat.lt_irrefl _)
  case exfs =>
    intro hs
    rcases List.mem_cons.mp hb with rfl | hb
    · exact absurd (frsz _ hs) (Nat.lt_irrefl _)
    · rcases List.mem_cons.mp (I.stkSub b hs) with z | z
      · exact (f2 b hb).2.1 z
      · exact (f2 b hb).2.2.1 z
  case funs => exact Heap.FunFrames.of_keeps (fun b o e _ => ⟨o, old b o e, rfl⟩) I.stack
  case loc =>
    intro j y v hj hv hvis
    obtain ⟨mX, _, lX⟩ := I.loc
    unfold capt at hv
    rw [List.getElem?_map] at hv
    cases hs : sub[j]? with
    | none => rw [hs] at hv; cases hv
    | some o =>
      rw [hs] at hv
      cases o with
      | none => cases hv
      | some i =>
        obtain ⟨hN, hc, hf⟩ := S.cap j y i hj hs
        have hv' : σ[i]? = some (some v) := by
          have z : (match σ[i]? with | some v => v | none => none) = some v := Option.some.inj hv
          cases q : σ[i]? with
          | none => rw [q] at z; cases z
          | some w => rw [q] at z; rw [show w = some v from z]
        obtain ⟨u, ru, hl⟩ := lX i y v hN hv' (.inr (.inl hc))
        refine ⟨u, ru, ?_⟩
        have kc : (relabel scope X.env).names.lookup y = some .cell := relabel_cell I.ok.kind hc hf
        rcases hl with ⟨z, _⟩ | ⟨_, c, e, ic⟩
        · have z' : X.env.scope.names.lookup y = some .local := z
          rw [hc] at z'; cases z'
        · obtain ⟨c', e'⟩ := hcl2 _ (PySem.mem_of_lookup hf) rfl
          have := hcl1 _ _ e'
          rw [e] at this; cases this
          refine .inr ⟨.inl kc, c, e', ?_⟩
          obtain ⟨oc, h1, h2⟩ := ic
          exact ⟨oc, old2 _ _ h1, h2⟩
  case cell =>
    obtain ⟨v, oc, h1, h2⟩ := I.cell x c (hcl1 x c e)
    exact ⟨v, oc, old2 _ _ h1, h2⟩
  case pin =>
    obtain ⟨p1, p2, p3, p4, p5⟩ := I.pin p hp
    refine ⟨old2 _ _ p1, p2, Nat.ne_of_lt (Nat.lt_succ_of_lt (Heap.lt_size p1)), fun hs => ?_, p5⟩
    rcases List.mem_cons.mp (I.stkSub _ hs) with z | z
    · exact p3 z
    · exact p4 z
  case len =>
    show (capt sub σ).length = N'.length
    unfold capt
    rw [List.length_map]; exact S.len
theorem comp_fin {C D : Addr} {s₀ : Shared} {s' : Shared} {σ' : L2.St} {H' : Hp} {ys : List V} {us : List Value} {k : Nat} {oC : Obj} (I : Inv X pins σ H2 s₂)
    (hs₀ : ∀ b o, s₂.heap.get? b = some o → s₀.heap.get? b = some o) (hos : s₀.os = s₂.os) (hD : s₂.heap.objs.size ≤ D) (hC : s₂.heap.objs.size ≤ C) (hDC : D ≠ C) (f2 : ∀ b ∈ fp, FpOk X pins H2 b)
    (I' : Inv (cxC X N' scope cl C D fp s₀ H2) pins σ' H' s') (hn : H' D = none) (hy : s'.heap.get? D = some { cls := .type "list", data := .seq us.toArray k }) (rv : Vals ys us) (hz : ys.length ≤ sizeLine)
    (ho : s'.heap.get? C = some oC) (hd : ∀ v, oC.data ≠ .cell v) : Inv X (pins ++ [(C, oC)]) σ (upd H' D (.lst ys)) s' ∧ FpOk X pins (upd H' D (.lst ys)) C := by
  have neD : ∀ b o, s₂.heap.get? b = some o → b ≠ D := fun b o e => Nat.ne_of_lt (Nat.lt_of_lt_of_le (Heap.lt_size e) hD)
  have nm : ∀ b o, s₂.heap.get? b = some o → b ∉ fp → b ∉ D :: fp := fun b o e h z => (List.mem_cons.mp z).elim (neD b o e) h
  have U := I'.base
  have HC : upd H' D (.lst ys) C = none := by rw [upd_ne (Ne.symm hDC)]; exact I'.free
  have fpc : FpOk X pins (upd H' D (.lst ys)) C := I.fpOk hC HC
  have un : Un (frs X.stack) fp H2 (upd H' D (.lst ys)) s₂.heap s'.heap :=
    { keep := fun b o e n h1 h2 => U.keep b o (hs₀ b o e) n h1 (nm b o e h2)
      slot := fun b o e n h1 h2 => U.slot b o (hs₀ b o e) n h1 (nm b o e h2)
      free := fun b o e n h2 => by rw [upd_ne (neD b o e)]; exact U.free b o (hs₀ b o e) n (nm b o e h2)
      there := fun b o e h2 => U.there b o (hs₀ b o e) (nm b o e h2)
      tups := fun b xs e => by have z := U.tups b xs e; rw [upd_ne (ne_of_none z hn)]; exact z
      frzs := fun b o u e => by have z := U.frzs b o u e; rw [upd_ne (ne_of_none z hn)]; exact z
      tbls := fun b ps e => by obtain ⟨more, z⟩ := U.tbls b ps e; exact ⟨more, by rw [upd_ne (ne_of_none z hn)]; exact z⟩ }
  have hok : HOk X.prog X.w (upd H' D (.lst ys)) s'.heap := HOk.track I'.hok hn ⟨hz, us, k, rv, hy⟩
  have IX : Inv X pins σ (upd H' D (.lst ys)) s' := I.call' (I'.os.trans hos) un hok I'.bare fun b hb => ⟨(f2 b hb).2.2.2.1, (f2 b hb).2.1, (f2 b hb).2.2.2.2.1, (f2 b hb).2.2.2.2.2⟩
  refine ⟨IX.pins_of fun p hp => ?_, fpc⟩
  rcases List.mem_append.mp hp with hp | hp
  · exact IX.pin p (List.mem_append_right _ hp)
  · rw [List.mem_singleton.mp hp]
    exact ⟨ho, HC, fpc.2.1, fpc.2.2.1, hd⟩
end
section
variable {X : Cx} {scope : Scope} {N' : List Str} {sub : List (Option Nat)} {x : Str} {px pos : Pos} {elt iter : Expr} {ifs : List Expr} {wi : TI} {g : TG} {tt : TT} {te : TE}
theorem CSc.clos {pins : List (Addr × Obj)} {σ : L2.St} {H : Hp} {s : Shared} (S : CSc X scope N' sub) (I : Inv X pins σ H s) : ∃ cl, closureFor scope X.env = pure cl ∧ (∀ x c, cl.lookup x = some c → X.env.cells.lookup x = some c) ∧ ∀ y ∈ scope.names, y.2 = .free → ∃ c, cl.lookup y.1 = some c :=
  closure_ok fun y hy hf => I.ok.has y.1 (.inl (S.free y hy hf))
end
end L3

namespace L3
open PySem PySem.Spec PyProof.Rows L2

def eqVs : List V → List V → Bool
  | [], [] => true
  | x :: xs, y :: ys => eqV x y && eqVs xs ys
  | _, _ => false
theorem eqVs_get : ∀ {xs ys : List V}, eqVs xs ys = true ↔ xs.length = ys.length ∧ ∀ (j : Nat) (x y : V), xs[j]? = some x → ys[j]? = some y → eqV x y = true
  | [], [] => by simp [eqVs]
  | x :: xs, y :: ys => by
    show (eqV x y && eqVs xs ys) = true ↔ _
    rw [Bool.and_eq_true, eqVs_get]
    constructor
    · rintro ⟨h1, h2, h3⟩
      refine ⟨by simp [h2], fun j a b ha hb => ?_⟩
      cases j with
      | zero => simp at ha hb; subst ha hb; exact h1
      | succ j => exact h3 j a b (by simpa using ha) (by simpa using hb)
    · rintro ⟨h1, h2⟩
      exact ⟨h2 0 x y rfl rfl, by simpa using h1, fun j a b ha hb => h2 (j + 1) a b (by simpa using ha) (by simpa using hb)⟩
  | [], _ :: _ => by simp [eqVs]
  | _ :: _, [] => by simp [eqVs]
theorem eqVs_range {xs ys : List V} : ((List.range (min xs.length ys.length)).all (fun j => match xs[j]?, ys[j]? with | some x, some y => eqV x y | _, _ => true) && xs.length == ys.length) = eqVs xs ys := by
  rw [Bool.eq_iff_iff, Bool.and_eq_true, List.all_eq_true, beq_iff_eq, eqVs_get]
  constructor
  · rintro ⟨h1, h2⟩
    refine ⟨h2, fun j x y hx hy => ?_⟩
    have hj : j < xs.length := (List.getElem?_eq_some_iff.mp hx).1
    have := h1 j (List.mem_range.mpr (by rw [← h2]; simpa using hj))
    rw [hx, hy] at this
    exact this
  · rintro ⟨h1, h2⟩
    refine ⟨fun j hj => ?_, h1⟩
    have hj' := List.mem_range.mp hj
    have a : j < xs.length := by omega
    have b : j < ys.length := by omega
    rw [List.getElem?_eq_getElem a, List.getElem?_eq_getElem b]
    exact h2 j _ _ (List.getElem?_eq_getElem a) (List.getElem?_eq_getElem b)
theorem vals_at {xs : List V} {us : List Value} (r : Vals xs us) (j : Nat) (h : j < us.length) : ∃ x, xs[j]? = some x ∧ RelV x us[j] := by
  have hl := r.length
  have hx : xs[j]? = some xs[j] := List.getElem?_eq_getElem (by omega)
  obtain ⟨u, e, q⟩ := r.get hx
  rw [List.getElem?_eq_getElem h] at e
  cases e
  exact ⟨_, hx, q⟩
theorem eqs_at {A : Around} {s : Shared} {xs ys : List V} {us ws : List Value} (r1 : Vals xs us) (r2 : Vals ys ws) (f1 : xs.all flatV = true) (f2 : ys.all flatV = true) :
    ∀ j (h1 : j < us.toArray.size) (h2 : j < ws.toArray.size), SeqAt.EqAt A s us.toArray[j] ws.toArray[j] ((fun j => match xs[j]?, ys[j]? with | some x, some y => eqV x y | _, _ => true) j) := by
  intro j h1 h2
  obtain ⟨x, ex, qx⟩ := vals_at r1 j (by simpa using h1)
  obtain ⟨y, ey, qy⟩ := vals_at r2 j (by simpa using h2)
  have fx : flatV x = true := List.all_eq_true.mp f1 x (List.mem_of_getElem? ex)
  have fy : flatV y = true := List.all_eq_true.mp f2 y (List.mem_of_getElem? ey)
  show SeqAt.EqAt A s _ _ (match xs[j]?, ys[j]? with | some x, some y => eqV x y | _, _ => true)
  rw [ex, ey]
  simpa using eqAt_V qx qy fx fy
section
variable {X : Cx}
def rEqT (K : PySem.W.Frag) (neg : Bool) : R2 := fun x y H Q => ∃ a b xs ys, x = .ref a ∧ y = .ref b ∧ SqT K H a xs ∧ SqT K H b ys ∧ xs.all flatV = true ∧ ys.all flatV = true ∧ Q (.bl (if neg then !eqVs xs ys else eqVs xs ys)) H
theorem isTuple_of {h : Heap} {a : Addr} {its : Array Value} (t : IsTup h a its) : h.IsTuple a its := t
theorem op_eqT {k : Nat} (hr : Room k X.A) : OpR X (compareOp .Eq) (rEqT X.K false) := by
  intro pins s σ H x y v u Q I rx ry h
  obtain ⟨a, b, xs, ys, rfl, rfl, ha, hb, f1, f2, q⟩ := h
  cases rx; cases ry
  obtain ⟨us, r1, t1, _⟩ := I.tuple ha
  obtain ⟨ws, r2, t2, _⟩ := I.tuple hb
  refine SeqAt.eq_tupleAt (isTuple_of t1) (isTuple_of t2) hr.units0 (eqs_at r1 r2 f1 f2) ?_
  rw [List.size_toArray, List.size_toArray, ← r1.length, ← r2.length, eqVs_range]
  exact ⟨.bl _, H, I, rfl, q⟩
end
section
variable {X : Cx} {pos : Pos}
end
theorem CSc.of {X : Cx} {scope : Scope} {N' : List Str} {sub : List (Option Nat)} (sc : Scope) (NN : List Str) (e : X.env.scope = sc) (en : X.N = NN)
    (h : ((scope.names.all fun y => (y.2 != .free || sc.names.lookup y.1 == some .cell) && (y.2 != .cell) && (y.2 != .local || scope.names.lookup y.1 == some .local)) && (sub.length == N'.length) &&
      ((N'.zip sub).all fun p => match p.2 with | none => true | some i => NN[i]? == some p.1 && sc.names.lookup p.1 == some .cell && scope.names.lookup p.1 == some .free)) = true)
    (hk : scope.kind = .function) : CSc X scope N' sub := by
  rw [Bool.and_eq_true, Bool.and_eq_true] at h
  obtain ⟨⟨h1, h2⟩, h3⟩ := h
  have k1 := fun y hy => List.all_eq_true.mp h1 y hy
  refine ⟨fun y hy hf => ?_, fun y hy hc => ?_, hk, fun y hy hl => ?_, by simpa using h2, fun j y i hj hs => ?_⟩
  · have := k1 y hy
    simp only [hf, Bool.and_eq_true] at this
    have z := this.1.1
    show X.env.scope.names.lookup y.1 = _
    rw [e]; simpa using z
  · have := k1 y hy
    simp only [hc, Bool.and_eq_true] at this
    simp at this
  · have := k1 y hy
    simp only [hl, Bool.and_eq_true] at this
    simpa using this.2
  · have hm : (y, some i) ∈ N'.zip sub := by
      have : (N'.zip sub)[j]? = some (y, some i) := by
        rw [List.getElem?_zip_eq_some]; exact ⟨hj, hs⟩
      exact List.mem_of_getElem? this
    have := List.all_eq_true.mp h3 _ hm
    simp only [Bool.and_eq_true, beq_iff_eq] at this
    rw [e, en]
    exact ⟨this.1.1, this.1.2, this.2⟩
theorem eqVs_deed (d e : Deed) : eqVs d.vs e.vs = decide (d = e) := by
  obtain ⟨a, l, h⟩ := d
  obtain ⟨a', l', h'⟩ := e
  rw [Bool.eq_iff_iff, decide_eq_true_iff]
  have o : ∀ p q : Option Int, eqV (ov p) (ov q) = true ↔ p = q := fun p q => by
    cases p <;> cases q <;> simp [ov, eqV]
  show (eqV (.int a) (.int a') && (eqV (ov l) (ov l') && (eqV (ov h) (ov h') && true))) = true ↔ _
  rw [Bool.and_eq_true, Bool.and_eq_true, Bool.and_eq_true, o, o]
  simp [eqV]
theorem flat_deed (d : Deed) : d.vs.all flatV = true := by
  obtain ⟨a, l, h⟩ := d
  cases l <;> cases h <;> rfl
end L3

namespace L3
open PySem PySem.Spec PyProof.Rows L2
def tidyD (a : Int) (lo hi : Option Int) : Deed := if lo ≠ none ∧ lo = hi then ⟨0, lo, hi⟩ else ⟨a, lo, hi⟩
def thrO (e : Deed) (o : Option Int) (d : Option Int) : Option Int := match o with
  | none => d
  | some l => some (e.mk' l)
def joinD (d e : Deed) : Deed := tidyD (d.add + e.add) (thrO e d.lo e.lo) (thrO e d.hi e.hi)
def Deed.Bd (B : Int) (d : Deed) : Prop := (-B ≤ d.add ∧ d.add ≤ B) ∧ (∀ l, d.lo = some l → -B ≤ l ∧ l ≤ B) ∧ ∀ h, d.hi = some h → -B ≤ h ∧ h ≤ B
def optA (o : Option Int) : Int := match o with | none => 0 | some i => (i.natAbs : Int)
def Deed.big (d : Deed) : Int := (d.add.natAbs : Int) + optA d.lo + optA d.hi + 1
theorem Deed.Sm.bd {d : Deed} (h : d.Sm) : d.Bd (10 ^ 30) := by
  obtain ⟨⟨a1, a2⟩, h1, h2⟩ := h
  exact ⟨⟨by omega, by omega⟩, fun l e => by have := h1 l e; exact ⟨by have := this.1; omega, by have := this.2; omega⟩, fun l e => by have := h2 l e; exact ⟨by have := this.1; omega, by have := this.2; omega⟩⟩
end L3

namespace L3
open PySem PySem.Spec PyProof.Rows L2
theorem iteF' {c : Bool} {A B : Prop} (e : c = false) (h : B) : if c = true then A else B := by rw [e]; exact iteF h
theorem iteT' {c : Bool} {A B : Prop} (e : c = true) (h : A) : if c = true then A else B := by rw [e]; exact iteT h
theorem comp_list {K : PySem.W.Frag} {a : Addr} {xs : List V} {g : TG} {tt : TT} {te : TE} {Q : VK} {σ : L2.St} {H : Hp} (Pv : Nat → List V → L2.St → Hp → Prop) (h0 : Pv 0 [] σ H) (hl : ∀ i ys σ H, i ≤ xs.length → Pv i ys σ H → SqL K H a xs)
    (hs : ∀ i x ys σ H, xs[i]? = some x → Pv i ys σ H → g x σ H fun σ2 H3 => tt σ2 H3 fun b H4 => if b = true then te σ2 H4 fun y H5 => ys.length < sizeLine ∧ Pv (i + 1) (ys ++ [y]) σ2 H5 else Pv (i + 1) ys σ2 H4)
    (hd : ∀ ys σ H, Pv xs.length ys σ H → ∀ l, H l = none → Q (.ref l) (upd H l (.lst ys))) :
    CompW (Itl K a) σ H g tt te Q := by
  refine ⟨fun i m ys σ H => m = xs.length - i ∧ i ≤ xs.length ∧ Pv i ys σ H, ⟨xs.length, by simp, Nat.zero_le _, h0⟩, ?_⟩
  rintro i m ys σ H ⟨rfl, hi, p⟩
  have q := hl i ys σ H hi p
  by_cases hlt : i < xs.length
  · refine .inr ⟨⟨xs, xs[i], q, by simp [hlt]⟩, Pv (i + 1), fun zs σ' H' p' => ⟨xs.length - (i + 1), by omega, rfl, hlt, p'⟩, fun x H' y => ?_⟩
    obtain ⟨e, y⟩ := y
    subst e
    exact hs i x ys σ _ (y xs q) p
  · have e : i = xs.length := by omega
    subst e
    exact .inl ⟨⟨xs, q, Nat.le_refl _⟩, hd ys σ H p⟩
theorem ix_listK {X : Cx} {K : PySem.W.Frag} (h : X.K = K) : IxR X (rIxL K) := by subst h; exact ix_list
theorem Deed.Bd.mono {d : Deed} {B C : Int} (b : d.Bd B) (h : B ≤ C) : d.Bd C := by
  obtain ⟨⟨b1, b2⟩, b3, b4⟩ := b
  exact ⟨⟨by omega, by omega⟩, fun l e => by have := b3 l e; omega, fun l e => by have := b4 l e; omega⟩
end L3

namespace L3
open PySem PySem.Spec PyProof.Rows L2
theorem look_bd : Deed.Bd 0 ⟨0, none, none⟩ := ⟨⟨by decide, by decide⟩, (fun l z => by cases z), (fun l z => by cases z)⟩
end L3

namespace L3
open PySem PySem.Spec PyProof.Rows L2
section
variable {X : Cx}
end
theorem Grow.sqL {H H' : Hp} (g : Grow [] H H') {K : PySem.W.Frag} {a : Addr} {xs : List V} (h : SqL K H a xs) : SqL K H' a xs := by
  rcases h with (h | ⟨o, h⟩) | h
  · exact .inl (.inl (g.keep _ _ (by simp) h))
  · exact .inl (.inr ⟨o, g.frz _ _ _ h⟩)
  · exact .inr h
section
variable {K : PySem.W.Frag} {a : Addr} {xs : List V} {n : Nat} {tt : TT} {te : TE} {Q : VK} {σ : L2.St} {H : Hp}
end
theorem eqT_deed {K : PySem.W.Frag} {H : Hp} {x y : V} {d e : Deed} {Q : VK} (hx : DeedAt K H x d) (hy : DeedAt K H y e) (q : Q (.bl (decide (d = e))) H) : rEqT K false x y H Q := by
  obtain ⟨a, rfl, ha⟩ := hx
  obtain ⟨b, rfl, hb⟩ := hy
  exact ⟨a, b, _, _, rfl, rfl, ha, hb, flat_deed _, flat_deed _, by rw [eqVs_deed]; exact q⟩
theorem nd {d e : Deed} (h : d = e) : (!decide (d = e)) = false := by rw [decide_eq_true h]; rfl
end L3

namespace L3
open PySem PySem.Spec PyProof.Rows L2
mutual
inductive Dat (K : PySem.W.Frag) (H : Hp) : V → PyData → Prop
  | non : Dat K H .non .none
  | bl (b : Bool) : Dat K H (.bl b) (.bool b)
  | int (i : Int) : Dat K H (.int i) (.int i)
  | tup {a : Addr} {xs : List V} {ds : List PyData} : SqT K H a xs → DatAll K H xs ds → Dat K H (.ref a) (.tuple ds)
  | lst {a : Addr} {xs : List V} {ds : List PyData} : SqL K H a xs → DatAll K H xs ds → Dat K H (.ref a) (.list ds)
inductive DatAll (K : PySem.W.Frag) (H : Hp) : List V → List PyData → Prop
  | nil : DatAll K H [] []
  | cons {x : V} {xs : List V} {d : PyData} {ds : List PyData} : Dat K H x d → DatAll K H xs ds → DatAll K H (x :: xs) (d :: ds)
end
section
variable {X : Cx} {pins : List (Addr × Obj)} {σ : L2.St} {H : Hp} {s : Shared}
mutual
theorem Dat.reads (I : Inv X pins σ H s) : ∀ {x : V} {d : PyData} {u : Value}, Dat X.K H x d → RelV x u → ∃ as, Reads s.heap u d as
  | _, _, u, .non, r => by
    cases (show u = Value.none from r)
    exact ⟨_, .none⟩
  | _, _, u, .bl b, r => by
    cases (show u = Value.bool b from r)
    exact ⟨_, .bool b⟩
  | _, _, u, .int i, r => by
    obtain ⟨t, rfl⟩ := r
    exact ⟨_, .int i t⟩
  | _, _, u, .tup (a := a) hs hd, r => by
    cases (show u = Value.ref a from r)
    obtain ⟨its, r1, ⟨o, e1, e2, n, e3⟩, _⟩ := I.tuple hs
    obtain ⟨as, q⟩ := DatAll.reads I hd r1
    exact ⟨_, .tuple e1 e2 e3 q⟩
  | _, _, u, .lst (a := a) hs hd, r => by
    cases (show u = Value.ref a from r)
    obtain ⟨its, r1, ⟨o, n, e1, e2, _, e3⟩, _⟩ := I.list hs
    obtain ⟨as, q⟩ := DatAll.reads I hd r1
    exact ⟨_, .list e1 e2 e3 q⟩
theorem DatAll.reads (I : Inv X pins σ H s) : ∀ {xs : List V} {ds : List PyData} {us : List Value}, DatAll X.K H xs ds → Vals xs us → ∃ as, ReadsAll s.heap us ds as
  | _, _, _, .nil, .nil => ⟨_, .nil⟩
  | _, _, _, .cons h t, .cons r rs => by
    obtain ⟨as, q⟩ := Dat.reads I h r
    obtain ⟨bs, q2⟩ := DatAll.reads I t rs
    exact ⟨_, .cons q q2⟩
end
end
mutual
/-- a bound of the text's length -/
def wtD : PyData → Nat
  | .list xs | .tuple xs => wtAll xs + 3
  | .int _ => 1921
  | .none | .bool _ => 5
  | _ => 20000000
def wtAll : List PyData → Nat
  | [] => 0
  | x :: xs => wtD x + 2 + wtAll xs
end
mutual
theorem shown_wt : ∀ {d : PyData}, d.showable = true → d.hasDict = false → wtD d ≤ 16777216 → d.shown.length ≤ wtD d
  | .none, _, _, _ => by decide
  | .bool b, _, _, _ => by cases b <;> decide
  | .int i, h, _, _ => int_text_len_1921 (of_decide_eq_true h)
  | .str _, _, _, z => absurd (show 20000000 ≤ 16777216 from z) (by decide)
  | .list xs, h, h2, z => by
    have z' : wtAll xs + 3 ≤ 16777216 := z
    have q := shown_wtAll (xs := xs) h h2 (by omega)
    have l := listText_len_le (PyData.shownAll xs)
    show (listText (PyData.shownAll xs)).length ≤ wtAll xs + 3
    omega
  | .tuple xs, h, h2, z => by
    have z' : wtAll xs + 3 ≤ 16777216 := z
    have q := shown_wtAll (xs := xs) h h2 (by omega)
    have l := tupleText_len_le (PyData.shownAll xs)
    show (tupleText (PyData.shownAll xs)).length ≤ wtAll xs + 3
    omega
  | .dict _, _, h, _ => by cases h
theorem shown_wtAll : ∀ {xs : List PyData}, PyData.showableAll xs = true → PyData.hasDictAll xs = false → wtAll xs ≤ 16777216 → ((PyData.shownAll xs).map (·.length)).sum + 2 * (PyData.shownAll xs).length ≤ wtAll xs
  | [], _, _, _ => by decide
  | x :: xs, h, h2, z => by
    have h' : (x.showable && PyData.showableAll xs) = true := h
    have h2' : (x.hasDict || PyData.hasDictAll xs) = false := h2
    rw [Bool.and_eq_true] at h'
    rw [Bool.or_eq_false_iff] at h2'
    have z' : wtD x + 2 + wtAll xs ≤ 16777216 := z
    have q1 := shown_wt (d := x) h'.1 h2'.1 (by omega)
    have q2 := shown_wtAll (xs := xs) h'.2 h2'.2 (by omega)
    show (x.shown.length :: (PyData.shownAll xs).map (·.length)).sum + 2 * ((PyData.shownAll xs).length + 1) ≤ wtD x + 2 + wtAll xs
    rw [List.sum_cons]
    omega
end
end L3

namespace L3
open PySem PySem.Spec PyProof.Rows L2
section
variable {X : Cx} {a b : Expr} {rest : List Expr} {ta tb : TE} {pos : Pos}
end
def I200 (i : Int) : Prop := -(2 ^ 300) < i ∧ i < 2 ^ 300
theorem repI2 {i : Int} (h : I200 i) : RepI i := by
  show i.natAbs.log2 < 1920
  by_cases h0 : i.natAbs = 0
  · rw [h0]; decide
  · exact Nat.lt_of_lt_of_le ((Nat.log2_lt h0).mpr (show i.natAbs < 2 ^ 300 by obtain ⟨a, b⟩ := h; omega)) (by decide)
def oD : Option Int → PyData
  | none => .none
  | some i => .int i
end L3

namespace L3
open PySem PySem.Spec PyProof.Rows L2
section
variable {K : PySem.W.Frag} {a : Addr} {xs : List V} {lo : Int} {n k : Nat} {te : TE} {Q : VK} {σ : L2.St} {H : Hp}
theorem comp_listP (Pv : Nat → List V → Hp → Prop) (h0 : Pv 0 [] H) (hl : ∀ i ys H', Pv i ys H' → SqL K H' a xs)
    (hs : ∀ i x ys H', xs[i]? = some x → Pv i ys H' → te (σ.set k (some x)) H' fun y H5 => ys.length < sizeLine ∧ Pv (i + 1) (ys ++ [y]) H5)
    (hd : ∀ ys H', Pv xs.length ys H' → ∀ l, H' l = none → Q (.ref l) (upd H' l (.lst ys))) : CompW (Itl K a) σ H (gName k) tTrue te Q := by
  refine comp_list (xs := xs) (fun i ys σ' H' => (σ' = σ ∨ ∃ e, σ' = σ.set k e) ∧ Pv i ys H') ⟨.inl rfl, h0⟩ (fun i ys σ' H' _ p => hl i ys H' p.2) ?_ (fun ys σ' H' p l hl => hd ys H' p.2 l hl)
  rintro i x ys σ' H' hx ⟨hσ, p⟩
  have e : σ'.set k (some x) = σ.set k (some x) := by
    rcases hσ with rfl | ⟨e, rfl⟩
    · rfl
    · rw [List.set_set]
  show if true = true then te (σ'.set k (some x)) H' (fun y H5 => ys.length < sizeLine ∧ ((σ'.set k (some x) = σ ∨ ∃ e, σ'.set k (some x) = σ.set k e) ∧ Pv (i + 1) (ys ++ [y]) H5)) else ((σ'.set k (some x) = σ ∨ ∃ e, σ'.set k (some x) = σ.set k e) ∧ Pv (i + 1) ys H')
  rw [if_pos rfl, e]
  have e2 : (fun (y : V) (H5 : Hp) => ys.length < sizeLine ∧ ((σ.set k (some x) = σ ∨ ∃ e, σ.set k (some x) = σ.set k e) ∧ Pv (i + 1) (ys ++ [y]) H5)) = fun y H5 => ys.length < sizeLine ∧ Pv (i + 1) (ys ++ [y]) H5 := by
    funext y H5
    exact propext ⟨fun z => ⟨z.1, z.2.2⟩, fun z => ⟨z.1, .inr ⟨_, rfl⟩, z.2⟩⟩
  rw [e2]
  exact hs i x ys H' hx p
end
theorem Grow.fresh {m : List Addr} {H H' : Hp} (h : ∀ b ∈ m, H b = none) (g : Grow m H H') : Grow [] H H' :=
  ⟨fun b o _ q => g.keep b o (fun z => by rw [h b z] at q; cases q) q, g.tup, g.frz⟩
theorem Grow.less {m m' : List Addr} {H H' : Hp} (g : Grow m H H') (h : ∀ b ∈ m, b ∈ m' ∨ H b = none) : Grow m' H H' :=
  ⟨fun b o n q => g.keep b o (fun z => by
    rcases h b z with w | w
    · exact n w
    · rw [w] at q; cases q) q, g.tup, g.frz⟩
theorem Pot.ne {H : Hp} {a l : Addr} (p : Pot H a) (h : H l = none) : l ∉ [a] := by
  intro z
  obtain ⟨z0, z1, hz, _⟩ := p
  rw [List.mem_singleton.mp z, hz] at h
  cases h
theorem ixN_nat {n : Nat} {i : Int} (h0 : 0 ≤ i) (h : i.toNat < n) : ixN n i = some i.toNat := by
  unfold ixN; rw [if_pos h0, if_pos (by omega)]
structure Ask where
  hand : Int
  box : Int
  deed : Deed
def AskAt (K : PySem.W.Frag) (H : Hp) (x : V) (k : Ask) : Prop := ∃ r rd, x = .ref r ∧ SqT K H r [.int k.hand, .int k.box, .ref rd] ∧ SqT K H rd k.deed.vs
def AllA (K : PySem.W.Frag) (H : Hp) : List V → List Ask → Prop
  | [], [] => True
  | x :: xs, k :: ks => AskAt K H x k ∧ AllA K H xs ks
  | _, _ => False
def BoardAt (K : PySem.W.Frag) (H : Hp) (x : V) (b : List Int) : Prop := ∃ r, x = .ref r ∧ SqT K H r (b.map V.int)
theorem Grow.board {m : List Addr} {H H' : Hp} (g : Grow m H H') {K : PySem.W.Frag} {x : V} {b : List Int} (h : BoardAt K H x b) : BoardAt K H' x b := by
  obtain ⟨r, e, h1⟩ := h
  exact ⟨r, e, g.sqT h1⟩
theorem AllA.len {K : PySem.W.Frag} {H : Hp} : ∀ {xs : List V} {ks : List Ask}, AllA K H xs ks → xs.length = ks.length
  | [], [], _ => rfl
  | _ :: xs, _ :: ks, ⟨_, t⟩ => congrArg (· + 1) (AllA.len t)
  | [], _ :: _, h => h.elim
  | _ :: _, [], h => h.elim
theorem AllA.get {K : PySem.W.Frag} {H : Hp} : ∀ {xs : List V} {ks : List Ask} {i : Nat} {x : V}, AllA K H xs ks → xs[i]? = some x → ∃ k, ks[i]? = some k ∧ AskAt K H x k
  | _ :: _, k :: _, 0, x, ⟨h, _⟩, e => by
    obtain rfl := Option.some.inj e
    exact ⟨k, rfl, h⟩
  | _ :: _, _ :: _, i + 1, x, ⟨_, t⟩, e => AllA.get (i := i) t e
  | [], [], i, x, _, e => by cases e
  | [], _ :: _, _, _, h, _ => h.elim
  | _ :: _, [], _, _, h, _ => h.elim
theorem AllA.snoc {K : PySem.W.Frag} {H : Hp} : ∀ {xs : List V} {ks : List Ask} {x : V} {k : Ask}, AllA K H xs ks → AskAt K H x k → AllA K H (xs ++ [x]) (ks ++ [k])
  | [], [], _, _, _, h => ⟨h, trivial⟩
  | _ :: _, _ :: _, _, _, ⟨h, t⟩, q => ⟨h, AllA.snoc t q⟩
  | [], _ :: _, _, _, h, _ => h.elim
  | _ :: _, [], _, _, h, _ => h.elim
def InB (B : Int) (xs : List Int) : Prop := ∀ v ∈ xs, -B < v ∧ v < B
def intsD (xs : List Int) : PyData := .tuple (xs.map PyData.int)
def deedD (d : Deed) : PyData := .tuple [.int d.add, oD d.lo, oD d.hi]
def Sh (d : PyData) (w n : Nat) : Prop := d.showable = true ∧ d.hasDict = false ∧ wtD d ≤ w ∧ d.depth ≤ n
theorem Sh.mono {d : PyData} {w w' n n' : Nat} (h : Sh d w n) (h1 : w ≤ w') (h2 : n ≤ n') : Sh d w' n' := ⟨h.1, h.2.1, Nat.le_trans h.2.2.1 h1, Nat.le_trans h.2.2.2 h2⟩
def ShA (ds : List PyData) (w n : Nat) : Prop := PyData.showableAll ds = true ∧ PyData.hasDictAll ds = false ∧ wtAll ds ≤ w ∧ PyData.depthAll ds ≤ n
theorem sha_nil {n : Nat} : ShA [] 0 n := ⟨rfl, rfl, Nat.le_refl _, Nat.zero_le _⟩
theorem sha_cons {d : PyData} {ds : List PyData} {w v n : Nat} (h : Sh d w n) (t : ShA ds v n) : ShA (d :: ds) (w + 2 + v) n := by
  obtain ⟨a1, a2, a3, a4⟩ := h
  obtain ⟨b1, b2, b3, b4⟩ := t
  refine ⟨?_, ?_, ?_, ?_⟩
  · show (d.showable && PyData.showableAll ds) = true
    rw [a1, b1]; rfl
  · show (d.hasDict || PyData.hasDictAll ds) = false
    rw [a2, b2]; rfl
  · show wtD d + 2 + wtAll ds ≤ _; omega
  · show max d.depth (PyData.depthAll ds) ≤ n; omega
theorem sh_tup {ds : List PyData} {w n : Nat} (h : ShA ds w n) : Sh (.tuple ds) (w + 3) (n + 1) := ⟨h.1, h.2.1, Nat.add_le_add_right h.2.2.1 3, Nat.add_le_add_right h.2.2.2 1⟩
theorem sh_int {i : Int} {n : Nat} (h : I200 i) : Sh (.int i) 1921 n := ⟨decide_eq_true (repI2 h), rfl, Nat.le_refl _, Nat.zero_le _⟩
theorem sh_oD {o : Option Int} {n : Nat} (h : ∀ i, o = some i → I200 i) : Sh (oD o) 1921 n := by
  cases o with
  | none => exact ⟨rfl, rfl, (by show (5 : Nat) ≤ 1921; decide), Nat.zero_le _⟩
  | some i => exact sh_int (h i rfl)
theorem sha_map {α : Type} {f : α → PyData} {w n : Nat} : ∀ {xs : List α}, (∀ x ∈ xs, Sh (f x) w n) → ShA (xs.map f) (xs.length * (w + 2)) n
  | [], _ => by rw [show ([] : List α).length * (w + 2) = 0 from Nat.zero_mul _]; exact sha_nil
  | x :: xs, h => by
    have z := sha_cons (h x (by simp)) (sha_map (xs := xs) fun y hy => h y (List.mem_cons_of_mem _ hy))
    rw [show (x :: xs).length * (w + 2) = w + 2 + xs.length * (w + 2) by rw [List.length_cons, Nat.add_mul, Nat.one_mul, Nat.add_comm]]
    exact z
theorem sh_ints {xs : List Int} {n : Nat} (h : InB (2 ^ 300) xs) : Sh (intsD xs) (xs.length * 1923 + 3) (n + 1) := sh_tup (sha_map fun x hx => sh_int (h x hx))
theorem InB.mono {B C : Int} {xs : List Int} (h : InB B xs) (hC : B ≤ C) : InB C xs := fun v hv => by have := h v hv; omega
end L3

namespace L3
open PySem PySem.Spec PyProof.Rows L2
inductive Tr where
  | leaf (n : Int)
  | node (l r : Tr)
def Tr.count : Tr → Int
  | .leaf _ => 1
  | .node l r => l.count + r.count
def Tr.ht : Tr → Nat
  | .leaf _ => 0
  | .node l r => max l.ht r.ht + 1
def trD : Tr → PyData
  | .leaf n => .int n
  | .node l r => .tuple [trD l, trD r]
def Tr.Nums (t : Tr) : Prop := match t with
  | .leaf n => I200 n
  | .node l r => l.Nums ∧ r.Nums
def Tr.wt : Tr → Nat
  | .leaf _ => 1
  | .node l r => l.wt + r.wt + 1
theorem sh_tree : ∀ {t : Tr}, t.Nums → Sh (trD t) (t.wt * 1928) t.ht
  | .leaf n, h => (sh_int h).mono (by show 1921 ≤ 1 * 1928; decide) (Nat.le_refl 0)
  | .node l r, h => by
    have a := (sh_tree (t := l) h.1).mono (Nat.le_refl _) (show l.ht ≤ max l.ht r.ht by omega)
    have b := (sh_tree (t := r) h.2).mono (Nat.le_refl _) (show r.ht ≤ max l.ht r.ht by omega)
    have z := sh_tup (sha_cons a (sha_cons b sha_nil))
    refine z.mono ?_ (Nat.le_refl (max l.ht r.ht + 1))
    show l.wt * 1928 + 2 + (r.wt * 1928 + 2 + 0) + 3 ≤ (l.wt + r.wt + 1) * 1928
    omega
end L3

namespace L3
open PySem PySem.Spec PyProof.Rows L2
def AllR {α : Type} (R : V → α → Prop) : List V → List α → Prop
  | [], [] => True
  | x :: xs, k :: ks => R x k ∧ AllR R xs ks
  | _, _ => False
section
variable {α : Type} {R S : V → α → Prop}
theorem AllR.imp (h : ∀ x k, R x k → S x k) : ∀ {xs : List V} {ks : List α}, AllR R xs ks → AllR S xs ks
  | [], [], _ => trivial
  | _ :: _, _ :: _, ⟨a, t⟩ => ⟨h _ _ a, AllR.imp h t⟩
  | [], _ :: _, z => z.elim
  | _ :: _, [], z => z.elim
theorem AllR.len : ∀ {xs : List V} {ks : List α}, AllR R xs ks → xs.length = ks.length
  | [], [], _ => rfl
  | _ :: xs, _ :: ks, ⟨_, t⟩ => congrArg (· + 1) (AllR.len t)
  | [], _ :: _, h => h.elim
  | _ :: _, [], h => h.elim
theorem AllR.get : ∀ {xs : List V} {ks : List α} {i : Nat} {x : V}, AllR R xs ks → xs[i]? = some x → ∃ k, ks[i]? = some k ∧ R x k
  | _ :: _, k :: _, 0, x, ⟨h, _⟩, e => by
    obtain rfl := Option.some.inj e
    exact ⟨k, rfl, h⟩
  | _ :: _, _ :: _, i + 1, x, ⟨_, t⟩, e => AllR.get (i := i) t e
  | [], [], i, x, _, e => by cases e
  | [], _ :: _, _, _, h, _ => h.elim
  | _ :: _, [], _, _, h, _ => h.elim
theorem AllR.one {x : V} {k : α} (h : R x k) : AllR R [x] [k] := ⟨h, trivial⟩
theorem AllR.take : ∀ {xs : List V} {ks : List α} {n : Nat}, AllR R xs ks → AllR R (xs.take n) (ks.take n)
  | [], [], n, _ => by rw [List.take_nil, List.take_nil]; trivial
  | _ :: _, _ :: _, 0, _ => trivial
  | _ :: _, _ :: _, n + 1, ⟨h, t⟩ => ⟨h, AllR.take t⟩
  | [], _ :: _, _, h => h.elim
  | _ :: _, [], _, h => h.elim
end
def Ordd : Tr → Int → Prop
  | .leaf n, f => n = f
  | .node l r, f => Ordd l f ∧ Ordd r (f + l.count)
def look : Deed := ⟨0, none, none⟩
def AllOk (ds : List Deed) : Prop := ∀ d ∈ ds, d.Ok
def runD (ds : List Deed) : Deed := ds.foldl joinD look
theorem sh_deedB {d : Deed} {n : Nat} (h : d.Bd (2 ^ 299)) : Sh (deedD d) 5772 (n + 1) := by
  have q : ∀ i, -(2 ^ 299) ≤ i → i ≤ 2 ^ 299 → I200 i := fun i a b => by
    have e : (2 : Int) ^ 300 = 2 * 2 ^ 299 := by rw [Int.pow_succ, Int.mul_comm]
    have p : (0 : Int) < 2 ^ 299 := Int.pow_pos (by decide)
    exact ⟨by rw [e]; omega, by rw [e]; omega⟩
  exact sh_tup (sha_cons (sh_int (q _ h.1.1 h.1.2)) (sha_cons (sh_oD fun i e => q i (h.2.1 i e).1 (h.2.1 i e).2) (sha_cons (sh_oD fun i e => q i (h.2.2 i e).1 (h.2.2 i e).2) sha_nil)))
end L3

namespace L3
open PySem PySem.Spec PyProof.Rows L2
theorem wt_count : ∀ t : Tr, (t.wt : Int) = 2 * t.count - 1
  | .leaf _ => rfl
  | .node l r => by
    have a := wt_count l
    have b := wt_count r
    show ((l.wt + r.wt + 1 : Nat) : Int) = 2 * (l.count + r.count) - 1
    omega
theorem AllR.drop {α : Type} {R : V → α → Prop} : ∀ {xs : List V} {ks : List α} {n : Nat}, AllR R xs ks → AllR R (xs.drop n) (ks.drop n)
  | [], [], n, _ => by rw [List.drop_nil, List.drop_nil]; trivial
  | _ :: _, _ :: _, 0, h => h
  | _ :: _, _ :: _, n + 1, ⟨h, t⟩ => AllR.drop (n := n) t
  | [], _ :: _, _, h => h.elim
  | _ :: _, [], _, h => h.elim
def TOk (m : Int) (t : Tr) : Prop := Ordd t 0 ∧ t.count = m ∧ t.ht < 41 ∧ t.Nums
theorem TOk.sh {m : Int} {t : Tr} (h : TOk m t) (hm : m ≤ 40) : Sh (trD t) 154240 40 := by
  obtain ⟨_, h1, h2, h3⟩ := h
  have w := wt_count t
  exact (sh_tree h3).mono (by have : t.wt ≤ 80 := by omega
                              have := Nat.mul_le_mul_right 1928 this
                              omega) (by omega)
end L3

namespace L3
open PySem PySem.Spec PyProof.Rows L2
def RowsAt (K : PySem.W.Frag) (H : Hp) (x : V) (rows : List (List Int)) : Prop := ∃ r xs, x = .ref r ∧ SqT K H r xs ∧ AllR (BoardAt K H) xs rows
theorem Grow.boardsR {m : List Addr} {H H' : Hp} (g : Grow m H H') {K : PySem.W.Frag} {xs : List V} {rows : List (List Int)} (h : AllR (BoardAt K H) xs rows) : AllR (BoardAt K H') xs rows := h.imp fun _ _ z => g.board z
theorem Grow.rows {m : List Addr} {H H' : Hp} (g : Grow m H H') {K : PySem.W.Frag} {x : V} {rows : List (List Int)} (h : RowsAt K H x rows) : RowsAt K H' x rows := by
  obtain ⟨r, xs, e, h1, h2⟩ := h
  exact ⟨r, xs, e, g.sqT h1, g.boardsR h2⟩
def Rng (m : Int) (xs : List Int) : Prop := ∀ v ∈ xs, 0 ≤ v ∧ v < m
def TabOk (R M : Nat) (rows : List (List Int)) : Prop := rows.length = R ∧ ∀ row ∈ rows, row.length = M ∧ Rng M row
structure Fd (R : Nat) (tab : List (List Int)) (ns : List Int) : Prop where
  tab : TabOk R R tab
  ns : Rng R ns
end L3

namespace L3
open PySem PySem.Spec PyProof.Rows L2
section
variable {prog : Program} {w : World} {A : Around} {E : Value → Shared → Prop} {s : Shared}
theorem nx_tup_item {jt t : Addr} {i : Nat} {vs : Array Value} {v : Value} {Q : Value → Shared → Prop} (hit : s.heap.IsTupleIter jt t i) (ht : s.heap.IsTuple t vs) (hv : vs[i]? = some v)
    (hQ : ∀ h', h'.IsTupleIter jt t (i + 1) → Heap.SameBut jt s.heap h' → Q v { s with heap := h' }) : wpAny (model prog w) A (Builtin.SmallTypes.nextOf (.ref jt)) Q E s := by
  obtain ⟨oj, hoj, cj, dj⟩ := id hit
  obtain ⟨ot, hot, _, nt, dt⟩ := ht
  unfold Builtin.SmallTypes.nextOf
  refine wpAny_bind (wpAny_callSpecial?_slot (name := Str.ofString "__next__") hit.typeIs F.slot_tuple_iterator_next (wpAny_call_entry F.slot_tuple_iterator_next hit.typeIs F.entry_tuple_iterator_next ?_ (F.args_tuple_iterator_next_1 _)))
  show wpAny _ _ (field (.ref jt) 0 >>= _) _ _ s
  refine wpAny_bind (wpAny_field hoj dj (x := .ref t) rfl ?_); show wpAny _ _ (if (Value.ref t == Value.none) = true then _ else _) _ _ s
  rw [if_neg (show ¬ ((Value.ref t == Value.none) = true) by exact Bool.false_ne_true)]; show wpAny _ _ (field (.ref jt) 1 >>= _) _ _ s
  refine wpAny_bind (wpAny_field hoj dj (x := .int i 0) rfl ?_); show wpAny _ _ (seqItems? (.ref t) >>= _) _ _ s
  refine wpAny_bind (wpAny_seqItems hot dt ?_); simp only [Int.toNat_natCast, hv]
  refine wpAny_bind (wpAny_setField hoj dj (by simp) (wpAny_pure ⟨v, rfl, wpAny_pure (hQ _ ⟨_, Heap.get?_update_self _ hoj (Obj.isFreed_of_fields (Obj.data_mapFields dj _)), (Obj.cls_mapFields ..).trans cj, by rw [Obj.data_mapFields dj]; simp [rawInt]⟩ (Heap.SameBut.update ..))⟩))
theorem nx_tup_end {jt t : Addr} {i : Nat} {vs : Array Value} {Q : Value → Shared → Prop} (hh : A.handled = none) (hit : s.heap.IsTupleIter jt t i) (ht : s.heap.IsTuple t vs) (hv : vs[i]? = none)
    (hE : ∀ h' e, Heap.ExtBut jt s.heap h' → (∃ o, h'.get? e = some o ∧ o.cls = .type "StopIteration") → E (.ref e) { s with heap := h' }) : wpAny (model prog w) A (Builtin.SmallTypes.nextOf (.ref jt)) Q E s := by
  obtain ⟨oj, hoj, cj, dj⟩ := id hit
  obtain ⟨ot, hot, _, nt, dt⟩ := ht
  unfold Builtin.SmallTypes.nextOf
  refine wpAny_bind (wpAny_callSpecial?_slot (name := Str.ofString "__next__") hit.typeIs F.slot_tuple_iterator_next (wpAny_call_entry F.slot_tuple_iterator_next hit.typeIs F.entry_tuple_iterator_next ?_ (F.args_tuple_iterator_next_1 _)))
  show wpAny _ _ (field (.ref jt) 0 >>= _) _ _ s
  refine wpAny_bind (wpAny_field hoj dj (x := .ref t) rfl ?_); show wpAny _ _ (if (Value.ref t == Value.none) = true then _ else _) _ _ s
  rw [if_neg (show ¬ ((Value.ref t == Value.none) = true) by exact Bool.false_ne_true)]; show wpAny _ _ (field (.ref jt) 1 >>= _) _ _ s
  refine wpAny_bind (wpAny_field hoj dj (x := .int i 0) rfl ?_); show wpAny _ _ (seqItems? (.ref t) >>= _) _ _ s
  refine wpAny_bind (wpAny_seqItems hot dt ?_); simp only [Int.toNat_natCast, hv]
  refine wpAny_bind (wpAny_rule (wpAny_bind (wpAny_setField hoj dj (by simp) ?_))); show wpAny _ _ (newExc (.type "StopIteration") [] >>= _) _ _ _
  refine wpAny_bind ?_; simp only [newExc, newTuple]
  refine wpAny_bind (wpAny_newObj_type ?_ (by size_fits)); refine wpAny_bind (m := firstArgMember _ _) (wpAny_of_eq (a := Value.none) (by first | rfl | (simp only [firstArgMember]; rfl)) ?_)
  refine wpAny_newObj_type ?_ (by size_fits); simp only [raiseNew]
  refine wpAny_bind (wpAny_handled ?_); (first | rw [show A.in1.handled = none from hh] | rw [hh])
  exact wpAny_bind (wpAny_pure (wpAny_throw (hE _ _ (((Heap.SameBut.update ..).extBut.push _).push _) ⟨_, Heap.get?_push_size _ rfl, rfl⟩)))
end
theorem draws_tup {prog : Program} {w : World} {A : Around} (hh : A.handled = none) (jt t : Addr) (hne : t ≠ jt) (vs : Array Value) :
    Draws prog w A jt [jt, t] vs.size (fun i v => vs[i]? = some v) (fun i h => h.IsTupleIter jt t i ∧ h.IsTuple t vs) where
  live := fun _ _ st => let ⟨o, ho, _⟩ := st.1; ⟨o, ho⟩
  frame := fun _ _ _ st hk => ⟨st.1.at (hk jt (by simp)), st.2.at (hk t (by simp))⟩
  item := fun i s Q E hi st hQ => nx_tup_item st.1 st.2 (v := vs[i]) (by simp [hi]) fun h' hit' hs' => hQ _ h' s.toks (by simp [hi]) ⟨hit', st.2.extBut hs'.extBut hne⟩ hs'
  done := fun s Q E st hE => nx_tup_end hh st.1 st.2 (by simp) hE
theorem draws_end {prog : Program} {w : World} {A : Around} (hh : A.handled = none) (jt t : Addr) (vs : Array Value) {i : Nat} (hv : vs[i]? = none) :
    Draws prog w A jt [jt, t] i (fun _ _ => True) (fun j h => j = i ∧ h.IsTupleIter jt t i ∧ h.IsTuple t vs) where
  live := fun _ _ st => let ⟨o, ho, _⟩ := st.2.1; ⟨o, ho⟩
  frame := fun _ _ _ st hk => ⟨st.1, st.2.1.at (hk jt (by simp)), st.2.2.at (hk t (by simp))⟩
  item := fun j s Q E hj st hQ => absurd st.1 (Nat.ne_of_lt hj)
  done := fun s Q E st hE => nx_tup_end hh st.2.1 st.2.2 hv hE
section
variable {prog : Program} {w : World} {A : Around} {E : Value → Shared → Prop} {s : Shared}
open AutoSeq1 (wpAny_loadPart')
end
section
variable {X : Cx} {pins : List (Addr × Obj)} {σ : L2.St} {H : Hp} {s : Shared} {h' : Heap}
theorem turnedL {fp : List Addr} {t' : Nat} (I : Inv X pins σ H s) (k : ∀ b o, b ∉ fp → s.heap.get? b = some o → h'.get? b = some o) (ff : ∀ b ∈ fp, FpOk X pins H b) : Inv X pins σ H { s with heap := h', toks := t' } := by
  have nit : ∀ b u, H b = some u → b ∉ fp := fun b u e z => by rw [(ff b z).1] at e; cases e
  refine I.step (g' := s.gens) (d' := s.drawn) (ch := fp) (fun b hb => ?_) (fun b o _ _ hc e _ => k b o hc e) (fun b o _ _ hc e _ => ⟨o.slots, k b o hc e⟩) (fun _ _ _ _ n => n) (fun b o hc e => ⟨o, k b o hc e⟩) (fun _ _ e => e) (fun _ _ _ e => e) (fun b ps e => ⟨#[], by rw [e]; simp⟩) (fun m hm => ?_) (fun b u e => ?_) I.bare
  · obtain ⟨_, f1, _, f3, f4, f5⟩ := ff b hb
    exact ⟨f3, f1, f4, f5⟩
  · obtain ⟨o, es, ep, ho, r⟩ := hm
    exact ⟨o, es, ep, k _ o (fun z => (ff _ z).2.1 rfl) ho, r⟩
  · refine (I.hok b u e).stay (fun c v hc q => k c v ?_ q) (fun _ q => q) fun _ _ q => q
    rcases hc with z | z
    · rw [z]; exact nit b u e
    · exact nit c _ z
theorem turnLaid {fp : List Addr} {T : Addr} {o : HO} {t' : Nat} (I : Inv X pins σ H s) (k : ∀ b o, b ∉ fp → s.heap.get? b = some o → h'.get? b = some o) (ff : ∀ b ∈ fp, FpOk X pins H b) (hT : s.heap.objs.size ≤ T)
    (new : ObjOk X.prog X.w (upd H T o) h' T o) : Inv X pins σ (upd H T o) { s with heap := h', toks := t' } := by
  have hn : H T = none := I.hok.fresh hT
  have I1 : Inv X pins σ H { s with heap := h', toks := t' } := turnedL I k ff
  have hok : HOk X.prog X.w (upd H T o) h' := HOk.track I1.hok hn new
  refine I.step (g' := s.gens) (d' := s.drawn) (ch := fp) (fun b hb => ?_) (fun b o _ _ hc e _ => k b o hc e) (fun b o _ _ hc e _ => ⟨o.slots, k b o hc e⟩) (fun b u _ e n => by rw [upd_ne (Nat.ne_of_lt (Nat.lt_of_lt_of_le (Heap.lt_size e) hT))]; exact n) (fun b o hc e => ⟨o, k b o hc e⟩)
    (fun b xs e => by rw [upd_ne (ne_of_none e hn)]; exact e) (fun b u xs e => by rw [upd_ne (ne_of_none e hn)]; exact e) (fun b ps e => ⟨#[], by rw [upd_ne (ne_of_none e hn), e]; simp⟩) (fun m hm => ?_) hok I.bare
  · obtain ⟨_, f1, _, f3, f4, f5⟩ := ff b hb
    exact ⟨f3, f1, f4, f5⟩
  · obtain ⟨o, es, ep, ho, r⟩ := hm
    exact ⟨o, es, ep, k _ o (fun z => (ff _ z).2.1 rfl) ho, r⟩
end
section
variable {X : Cx} {elts : List Expr} {kt : Nat} {pt : Pos}
end
end L3

namespace L3
open PySem PySem.Spec PyProof.Rows L2
theorem getDd {ds : List Deed} {i : Nat} (h : i < ds.length) : ds[i]? = some (ds.getD i look) := by
  rw [List.getD_eq_getElem?_getD, List.getElem?_eq_getElem h]; rfl
def atBox (j : Int) (ks : List Ask) : List Deed := (ks.filter fun k => decide (k.box = j)).map Ask.deed
structure GInv (b : List Int) (ks : List Ask) (g : List Deed × List Deed) (p : List Int × List Int) : Prop where
  l1 : g.1.length = b.length
  l2 : g.2.length = ks.length
  p1 : p.1.length = ks.length
  p2 : p.2.length = b.length
  bd1 : ∀ d ∈ g.1, d.Ok ∧ d.Bd (ks.length * 10 ^ 30)
  bd2 : ∀ d ∈ g.2, d.Ok ∧ d.Bd (ks.length * 10 ^ 30)
  run : ∀ j : Nat, j < b.length → g.1.getD j look = runD (atBox j ks)
  val : ∀ j : Nat, j < b.length → p.2.getD j 0 = (g.1.getD j look).mk' (b.getD j 0)
  ans : ∀ i k, ks[i]? = some k → p.1.getD i 0 = (g.2.getD i look).mk' (b.getD k.box.toNat 0)
theorem AllR.set {α : Type} {R : V → α → Prop} {x : V} {k : α} (h : R x k) : ∀ {xs : List V} {ks : List α} {n : Nat}, AllR R xs ks → AllR R (xs.set n x) (ks.set n k)
  | [], [], n, _ => by cases n <;> trivial
  | _ :: _, _ :: _, 0, ⟨_, t⟩ => ⟨h, t⟩
  | _ :: _, _ :: _, n + 1, ⟨a, t⟩ => ⟨a, AllR.set h t⟩
  | [], _ :: _, _, z => z.elim
  | _ :: _, [], _, z => z.elim
section
variable {K : PySem.W.Frag} {a : Addr} {xs : List V} {k : Nat} {tt : TT} {te : TE} {Q : VK} {σ : L2.St} {H : Hp}
end
section
variable {K : PySem.W.Frag} {a : Addr} {xs : List V} {k : Nat} {tt : TT} {te : TE} {Q : VK} {σ : L2.St} {H : Hp}
end
end L3

namespace L3
open PySem PySem.Spec PyProof.Rows L2
def figI (k st l : Int) : Int := Builtin.bitAnd (l / 2 ^ (k - st).toNat) 1
def wfI (k st l w : Int) : Int := Builtin.bitXor l (Builtin.bitXor (figI k st l) w * 2 ^ (k - st).toNat)
def swI (k st l : Int) : Int := Builtin.bitOr (l / 2 ^ (k - st + 1).toNat * 2 ^ (k - st).toNat) (Builtin.bitAnd l (1 * 2 ^ (k - st).toNat - 1))
def figsL (k n : Int) : List Int := (List.range k.toNat).map fun i : Nat => Builtin.bitAnd (n / 2 ^ (k - 1 - (0 + (i : Int))).toNat) 1
def numL (xs : List Int) : Int := xs.foldl (fun f o => 2 * f + o) 0
def lineL (k h g : Int) (n : Nat) : Int := numL ((figsL k g).take n ++ (figsL k h).drop n)
def numsL (k l : Int) (st : Nat) : Int := numL ((figsL k l).take (st - 1) ++ (figsL k l).drop st)
end L3

namespace L3
open PySem PySem.Spec PyProof.Rows L2
section
variable {X : Cx}
end
theorem mulOkL {i j : Int} (h : -(2 ^ 60) < i ∧ i < 2 ^ 60) : IntMulOk i j := PySem.IntMulOk.of_left (Nat.le_trans ((PySem.intBits_le_iff (m := 60)).mpr (by obtain ⟨a, b⟩ := h; omega)) (by decide))
end L3

namespace L3
open PySem PySem.Spec PyProof.Rows L2
section
variable {prog : Program} {w : World} {A : Around} {R : Result → Shared → Prop} {s : Shared}
variable {elt t0 i0 t1 i1 : Expr} {ifs : List Expr} {scope : Scope} {pos : Pos} {it acc : Value} {env : Env}
end
section
variable {Y : Cx} {pins : List (Addr × Obj)} {D it2 : Addr} {fp2 : List Addr} {tn2 : Nat → Heap → Prop} {J2 : It} {y : Str} {py pos : Pos} {elt t0 i0 i1 : Expr} {ifs : List Expr} {scope : Scope} {g1 : TG} {tt : TT} {te : TE} {Out : List V → L2.St → Hp → Prop} {W : Nat → Nat → List V → L2.St → Hp → Prop} {R : Result → Shared → Prop}
end
section
variable {X : Cx} {pins : List (Addr × Obj)} {σ : L2.St} {H2 : Hp} {s₂ : Shared} {it : Addr} {fp : List Addr} {tn : Nat → Heap → Prop} {J : It} {scope : Scope} {cl : List (Str × Addr)} {N' : List Str} {sub : List (Option Nat)}
end
end L3

namespace L3
open PySem PySem.Spec PyProof.Rows L2
section
variable {X : Cx} {pins : List (Addr × Obj)} {σ : L2.St} {H2 : Hp} {s₂ : Shared} {it : Addr} {fp : List Addr} {tn : Nat → Heap → Prop} {J : It} {scope : Scope} {cl : List (Str × Addr)} {N' : List Str} {sub : List (Option Nat)}
end
section
variable {X : Cx} {scope : Scope} {N' : List Str} {sub : List (Option Nat)} {x y : Str} {px py pos : Pos} {elt i0 i1 : Expr} {ifs : List Expr} {wi wi1 : TI} {g0 g1 : TG} {tt : TT} {te : TE}
end
end L3

namespace L3
open PySem PySem.Spec PyProof.Rows L2
section
variable {X : Cx}
end
end L3

namespace L3
open PySem PySem.Spec PyProof.Rows L2
theorem Deed.Sm.bd2 {d : Deed} (h : d.Sm) : d.Bd (2 * 10 ^ 30) := h.bd.mono (by decide)
end L3

namespace L3
open PySem PySem.Spec PyProof.Rows L2
section
variable {X : Cx} {pins : List (Addr × Obj)} {σ : L2.St} {H2 : Hp} {s₂ : Shared} {it : Addr} {fp : List Addr} {tn : Nat → Heap → Prop} {J : It} {scope : Scope} {cl : List (Str × Addr)} {N' : List Str} {sub : List (Option Nat)}
theorem comp_runT {C D : Addr} {s₀ : Shared} {tg : Expr} {pos : Pos} {elt iter : Expr} {ifs : List Expr} {g : TG} {tt : TT} {te : TE} {Q : VK} {RR : Value → Addr → Result → Shared → Prop} {W : Nat → Nat → List V → L2.St → Hp → Prop}
    (I : Inv X pins σ H2 s₂) (hcalm : X.calm = true) (T : Turn X.prog X.w X.K tg J fp it tn) (f2 : ∀ b ∈ fp, FpOk X pins H2 b) (hfp : ∀ b ∈ fp, b < s₂.heap.objs.size)
    (hs₀ : ∀ b o, s₂.heap.get? b = some o → s₀.heap.get? b = some o) (hos : s₀.os = s₂.os) (hD : s₂.heap.objs.size ≤ D) (hC : s₂.heap.objs.size ≤ C) (hDC : D ≠ C)
    (hcl1 : ∀ x c, cl.lookup x = some c → X.env.cells.lookup x = some c)
    (hg : PG (cxC X N' scope cl C D fp s₀ H2) tg g) (ht : PIfs (cxC X N' scope cl C D fp s₀ H2) ifs tt) (he : PE (cxC X N' scope cl C D fp s₀ H2) elt te)
    (turn : ∀ i m ys σ' H', W i m ys σ' H' →
      (J.stop i H' ∧ ∀ l, H' l = none → Q (.ref l) (upd H' l (.lst ys))) ∨
      (J.go i H' ∧ ∃ Nn : List V → L2.St → Hp → Prop, (∀ zs σ2 H2, Nn zs σ2 H2 → ∃ m', m' < m ∧ W (i + 1) m' zs σ2 H2) ∧
        ∀ x H2, J.yld i H' x H2 → g x σ' H2 fun σ2 H3 => tt σ2 H3 fun b H4 => if b = true then te σ2 H4 fun y H5 => ys.length < sizeLine ∧ Nn (ys ++ [y]) σ2 H5 else Nn ys σ2 H4))
    (hRR : ∀ (D C : Addr) (oC : Obj) (m : Str → Option Value) (s' : Shared) (Hf : Hp), Inv X (pins ++ [(C, oC)]) σ Hf s' → s'.heap.Ns C m → FpOk X pins Hf C → Q (.ref D) Hf → RR (.ref D) C (.ok .next) s')
    (n : Nat) (s : Shared) (h : ∃ i ys us k σ' H', Inv (cxC X N' scope cl C D fp s₀ H2) pins σ' H' s ∧ tn i s.heap ∧ (∀ b ∈ fp, H' b = none) ∧ H' D = none ∧
      s.heap.get? D = some { cls := .type "list", data := .seq (us : List Value).toArray k } ∧ Vals ys us ∧ ys.length ≤ sizeLine ∧ W i n ys σ' H') :
    codeAny (model X.prog X.w) X.A (.compLoop (.ListComp elt [⟨tg, iter, ifs, 0⟩] scope pos) 0 (.ref it) (.ref D) (compEnvC scope cl C X.env)) (RR (.ref D) C) s := by
  have frsz : ∀ b ∈ frs X.stack, b < s₂.heap.objs.size := fun b hb => by
    rcases List.mem_cons.mp (I.stkSub b hb) with z | z
    · rw [z]; exact I.lt
    · exact Nat.lt_of_not_le fun q => I.nofs q z
  have cells : ∀ x c, cl.lookup x = some c → c < s₂.heap.objs.size := fun x c e => let ⟨v, q⟩ := I.cell x c (hcl1 x c e); q.lt
  have pinsz : ∀ p ∈ X.pn ++ pins, p.1 < s₂.heap.objs.size := fun p hp => Heap.lt_size (I.pin p hp).1
  refine comp_loop (fun n s => ∃ i ys us k σ' H', Inv (cxC X N' scope cl C D fp s₀ H2) pins σ' H' s ∧ tn i s.heap ∧ (∀ b ∈ fp, H' b = none) ∧ H' D = none ∧
      s.heap.get? D = some { cls := .type "list", data := .seq (us : List Value).toArray k } ∧ Vals ys us ∧ ys.length ≤ sizeLine ∧ W i n ys σ' H') ?_ n h
  rintro n s ⟨i, ys, us, k, σ', H', I', st', fr, hn, hy, rv, hz, w'⟩
  have pD : Inv (cxC X N' scope cl C D fp s₀ H2) (pins ++ [(D, { cls := .type "list", data := .seq us.toArray k })]) σ' H' s := I'.pins_of fun p hp => by
    rcases List.mem_append.mp hp with hp | hp
    · exact I'.pin p (List.mem_append_right _ hp)
    · rw [List.mem_singleton.mp hp]
      exact ⟨hy, hn, hDC, fun z => absurd (Nat.lt_of_lt_of_le (frsz _ z) hD) (Nat.lt_irrefl _), fun v z => by cases z⟩
  have fpok : ∀ {H'' : Hp}, (∀ b ∈ fp, H'' b = none) → ∀ b ∈ fp, FpOk (cxC X N' scope cl C D fp s₀ H2) (pins ++ [(D, { cls := .type "list", data := .seq us.toArray k })]) H'' b := fun hz b hb => by
    refine ⟨hz b hb, Nat.ne_of_lt (Nat.lt_of_lt_of_le (hfp b hb) hC), fun z => ?_, .inl (List.mem_cons_of_mem _ hb), fun x c e => (f2 b hb).2.2.2.2.1 x c (hcl1 x c e), fun p hp => ?_⟩
    · rcases List.mem_cons.mp (I.stkSub b z) with z | z
      · exact (f2 b hb).2.1 z
      · exact (f2 b hb).2.2.1 z
    · rcases List.mem_append.mp hp with hp | hp
      · exact (f2 b hb).2.2.2.2.2 p (List.mem_append_left _ hp)
      · rcases List.mem_append.mp hp with hp | hp
        · exact (f2 b hb).2.2.2.2.2 p (List.mem_append_right _ hp)
        · rw [List.mem_singleton.mp hp]
          exact Nat.ne_of_gt (Nat.lt_of_lt_of_le (hfp b hb) hD)
  rcases turn i n ys σ' H' w' with ⟨stop, q⟩ | ⟨go, Nn, hN, step⟩
  · refine thn (T.done (cxC X N' scope cl C D fp s₀ H2) rfl rfl rfl hcalm i _ s σ' H' (fun _ _ => False) pD (fpok fr) st' stop) fun r s1 ⟨hr, I1⟩ => ?_
    subst hr
    have hy1 := (I1.pin (D, { cls := .type "list", data := .seq us.toArray k }) (by simp)).1
    obtain ⟨m, hm, _⟩ := I1.loc
    obtain ⟨oC, es, ep, hoC, hdC, _⟩ := id hm
    obtain ⟨IX, fpc⟩ := comp_fin I hs₀ hos hD hC hDC f2 I1.unpinned hn hy1 rv hz hoC (by intro v z; rw [hdC] at z; cases z)
    exact hRR D C oC m s1 _ IX hm fpc (q D hn)
  · refine thn (T.item (cxC X N' scope cl C D fp s₀ H2) rfl rfl rfl hcalm i _ s σ' H' (fun _ _ => False) pD (fpok fr) st' go) fun r s1 ⟨u, hr, h4⟩ => ?_
    subst hr
    refine thn h4 fun _ s2 ⟨x5, H5, I5, r5, y5, st5, fr5⟩ => ?_
    have I5' := I5.pinned (fpok fr5) (T.obj _ _ st5)
    refine thn (hg _ s2 σ' H5 x5 u _ I5' r5 (step x5 H5 y5)) fun _ s3 ⟨σ6, H6, I6, q6⟩ => ?_
    refine thn (ht _ s3 σ6 H6 _ I6 q6) fun ok s4 ⟨H7, I7, q7⟩ => ?_
    have stay : ∀ {σ7 : L2.St} {H7 : Hp} {s7 : Shared}, Inv (cxC X N' scope cl C D fp s₀ H2) (pins ++ [(D, { cls := .type "list", data := .seq us.toArray k })] ++ pinsAt fp s2.heap) σ7 H7 s7 →
        (∀ b ∈ fp, ∀ o, s2.heap.get? b = some o → s7.heap.get? b = some o) ∧ (∀ b ∈ fp, H7 b = none) ∧ H7 D = none ∧ s7.heap.get? D = some { cls := .type "list", data := .seq us.toArray k } := fun {σ7 H7 s7} I7 => by
      have d := I7.pin (D, { cls := .type "list", data := .seq us.toArray k }) (by simp)
      refine ⟨fun b hb o e => (I7.pin (b, o) (List.mem_append_right _ (List.mem_append_right _ (mem_pinsAt hb e)))).1, fun b hb => ?_, d.2.1, d.1⟩
      obtain ⟨o, e, _⟩ := T.obj _ _ st5 b hb
      exact (I7.pin (b, o) (List.mem_append_right _ (List.mem_append_right _ (mem_pinsAt hb e)))).2.1
    cases ok with
    | false =>
      rw [if_neg (by decide)] at q7 ⊢
      obtain ⟨k1, k2, k3, k4⟩ := stay I7
      obtain ⟨m', hm, w7⟩ := hN ys σ6 H7 q7
      exact ⟨m', hm, i + 1, ys, us, k, σ6, H7, I7.unpinned.unpinned, T.keep _ _ _ st5 k1, k2, k3, k4, rv, hz, w7⟩
    | true =>
      rw [if_pos rfl] at q7 ⊢
      refine thn (he _ s4 σ6 H7 _ I7 q7) fun v s5 ⟨y, H8, I8, r8, hl8, n8⟩ => ?_
      obtain ⟨k1, k2, k3, k4⟩ := stay I8
      refine wpAny_list_append_plain (l := D) ⟨k, k4⟩ (fun h' pl sb => ?_) (by rw [List.size_toArray, ← rv.length]; exact hz)
      obtain ⟨k', e'⟩ := pl
      obtain ⟨m', hm, w8⟩ := hN _ σ6 H8 n8
      refine ⟨m', hm, i + 1, ys ++ [y], us ++ [v], k', σ6, H8, ?_, T.keep _ _ _ (T.keep _ _ _ st5 k1) fun b hb o e => sb.extBut b o (Nat.ne_of_lt (Nat.lt_of_lt_of_le (hfp b hb) hD)) e, k2, k3, ?_, rv.append (.cons r8 .nil), ?_, w8⟩
      · exact (I8.unpinned.unpinned).turned (it := D) (t' := s5.toks) (h' := h') (fun b o hb e => sb.extBut b o hb e) k3 hDC (.inl (by simp)) (fun x c e => Nat.ne_of_lt (Nat.lt_of_lt_of_le (cells x c e) hD)) (fun p hp => Nat.ne_of_lt (Nat.lt_of_lt_of_le (pinsz p hp) hD))
      · rw [e']; simp
      · rw [List.length_append]; exact hl8
theorem comp_blockT {tg : Expr} {pos : Pos} {elt iter : Expr} {ifs : List Expr} {g : TG} {tt : TT} {te : TE} {E : Value → Shared → Prop} {Q : VK} {RR : Value → Addr → Result → Shared → Prop}
    (I : Inv X pins σ H2 s₂) (hcalm : X.calm = true) (T : Turn X.prog X.w X.K tg J fp it tn) (st : tn 0 s₂.heap) (f2 : ∀ b ∈ fp, FpOk X pins H2 b)
    (S : CSc X scope N' sub) (hcl1 : ∀ x c, cl.lookup x = some c → X.env.cells.lookup x = some c) (hcl2 : ∀ y ∈ scope.names, y.2 = .free → ∃ c, cl.lookup y.1 = some c)
    (hg : ∀ C D fp s H, PG (cxC X N' scope cl C D fp s H) tg g) (ht : ∀ C D fp s H, PIfs (cxC X N' scope cl C D fp s H) ifs tt) (he : ∀ C D fp s H, PE (cxC X N' scope cl C D fp s H) elt te)
    (hW : CompW J (capt sub σ) H2 g tt te Q)
    (hRR : ∀ (D C : Addr) (oC : Obj) (m : Str → Option Value) (s' : Shared) (Hf : Hp), Inv X (pins ++ [(C, oC)]) σ Hf s' → s'.heap.Ns C m → FpOk X pins Hf C → Q (.ref D) Hf → RR (.ref D) C (.ok .next) s') :
    wpAny (model X.prog X.w) X.A (newList []) (fun acc s₃ => wpAny (model X.prog X.w) X.A (newFunctionEnv scope X.env.globals cl [] X.env.qual none .none (some X.env)) (fun cenv s₄ =>
      codeAny (model X.prog X.w) X.A (.compStart (.ListComp elt [⟨tg, iter, ifs, 0⟩] scope pos) 0 (.ref it) acc { cenv with scope := relabel scope X.env }) (RR acc cenv.locals) s₄) E s₃) E s₂ := by
  obtain ⟨W, ⟨m0, w0⟩, turn⟩ := hW
  refine wpAny_newObj_type (wpAny_newFunctionEnv S.nocell (by intro y hy; simp at hy) (fun h₁ hns₁ hsb₁ => ?_) S.kind)
  dsimp only at hns₁ hsb₁ ⊢
  have hC : (s₂.heap.push { cls := .type "list", dict := none, data := .seq ([] : List Value).toArray }).objs.size = s₂.heap.objs.size + 1 := Heap.size_push ..
  rw [hC] at hns₁ hsb₁ ⊢
  have hk : ∀ b o, (s₂.heap.push { cls := .type "list", dict := none, data := .seq ([] : List Value).toArray }).get? b = some o → h₁.get? b = some o := fun b o e =>
    hsb₁.extBut b o (by have := Heap.lt_size e; rw [hC] at this; exact Nat.ne_of_lt this) (Heap.get?_push_of_some _ e)
  have hfp : ∀ b ∈ fp, b < s₂.heap.objs.size := fun b hb => by
    obtain ⟨o, e, _⟩ := T.obj _ _ st b hb
    exact Heap.lt_size e
  have I0 := comp_start (tk := s₂.toks + ([] : List (Str × Value)).length) I S hcl1 hcl2 f2 hfp hns₁ hk
  have hD0 : h₁.get? s₂.heap.objs.size = some { cls := .type "list", data := .seq ([] : List Value).toArray 0 } := hk _ _ (Heap.get?_push_size _ rfl)
  have loop : codeAny (model X.prog X.w) X.A (.compLoop (.ListComp elt [⟨tg, iter, ifs, 0⟩] scope pos) 0 (.ref it) (.ref s₂.heap.objs.size) (compEnvC scope cl (s₂.heap.objs.size + 1) X.env)) (RR (.ref s₂.heap.objs.size) (s₂.heap.objs.size + 1)) { s₂ with heap := h₁, toks := s₂.toks + ([] : List (Str × Value)).length } :=
    comp_runT (s₀ := { s₂ with heap := s₂.heap.push { cls := .type "list", dict := none, data := .seq ([] : List Value).toArray } }) (C := s₂.heap.objs.size + 1) (D := s₂.heap.objs.size) I hcalm T f2 hfp (fun b o e => Heap.get?_push_of_some _ e) rfl (Nat.le_refl _) (Nat.le_succ _) (Nat.ne_of_lt (Nat.lt_succ_self _)) hcl1 (hg _ _ _ _ _) (ht _ _ _ _ _) (he _ _ _ _ _) turn hRR m0 _
      ⟨0, [], [], 0, capt sub σ, H2, I0, T.keep _ _ _ st fun b hb o e => hk b o (Heap.get?_push_of_some _ e), fun b hb => (f2 b hb).1, I.hok.fresh (Nat.le_refl _), hD0, .nil, Nat.zero_le _, w0⟩
  exact codeAny_compStart_list loop (T.self _ _ _ _ _ (T.keep _ _ _ st fun b hb o e => hk b o (Heap.get?_push_of_some _ e)) loop)
end
section
variable {X : Cx} {scope : Scope} {N' : List Str} {sub : List (Option Nat)} {tg : Expr} {pos : Pos} {elt iter : Expr} {ifs : List Expr} {wi : TI} {g : TG} {tt : TT} {te : TE}
theorem pe_compT (S : CSc X scope N' sub) (hcalm : X.calm = true) (hi : PI X tg iter wi)
    (hg : ∀ cl C D fp s H, PG (cxC X N' scope cl C D fp s H) tg g) (ht : ∀ cl C D fp s H, PIfs (cxC X N' scope cl C D fp s H) ifs tt) (he : ∀ cl C D fp s H, PE (cxC X N' scope cl C D fp s H) elt te)
    (hs : ∀ x, foldedSetIterable iter X.env x = pure x := by intro _; rfl) : PE X (.ListComp elt [⟨tg, iter, ifs, 0⟩] scope pos) (tComp wi sub g tt te) := by
  intro pins s σ H Q I h
  obtain ⟨cl, hclos, hcl1, hcl2⟩ := S.clos I
  rw [eval_ListComp]
  refine wpAny_comprehension_free (use := none) rfl hs hclos S.kind S.names (thn (hi pins s σ H _ I h) fun v s1 h1 => thn h1 fun itv s2 h2 => ?_)
  obtain ⟨it, fp, tn, J, H2, e, I2, T, st2, f2, hW⟩ := h2
  subst e
  refine comp_blockT (RR := fun acc C => compPost (model X.prog X.w) X.A X.xe none (EP X pins σ Q) acc C) I2 hcalm T st2 f2 S hcl1 hcl2 (hg cl) (ht cl) (he cl) hW ?_
  intro D C oC m s' Hf IX hm fpc q
  refine ⟨m, hm, fun h' sb => ⟨.ref D, Hf, ?_, rfl, q⟩⟩
  exact (IX.unpinned).turned (it := C) (t' := s'.toks) (h' := h') (fun b o hb e => sb.extBut b o hb e) fpc.1 fpc.2.1 fpc.2.2.2.1 fpc.2.2.2.2.1 fpc.2.2.2.2.2
theorem ps_compT {i : Nat} {y : Str} {py spos : Pos} (hN : X.N.Nodup) (hiN : X.N[i]? = some y) (hy : X.env.scope.names.lookup y = some .local) (S : CSc X scope N' sub) (hcalm : X.calm = true) (hi : PI X tg iter wi)
    (hg : ∀ cl C D fp s H, PG (cxC X N' scope cl C D fp s H) tg g) (ht : ∀ cl C D fp s H, PIfs (cxC X N' scope cl C D fp s H) ifs tt) (he : ∀ cl C D fp s H, PE (cxC X N' scope cl C D fp s H) elt te)
    (hsw : swapsWith (.ListComp elt [⟨tg, iter, ifs, 0⟩] scope pos) (some (.Name y py)) spos.line X.env = pure true := by rfl)
    (hs : ∀ x, foldedSetIterable iter X.env x = pure x := by intro _; rfl) : PS X (.Assign [.Name y py] (.ListComp elt [⟨tg, iter, ifs, 0⟩] scope pos) spos) (tAsg (tComp wi sub g tt te) (gName i)) := by
  intro pins s σ H D I h
  obtain ⟨cl, hclos, hcl1, hcl2⟩ := S.clos I
  rw [exec_Assign_Name_used _ _ _ _ hsw]
  refine wpAny_bind (wpAny_standAt (wpAny_bind ?_))
  show wpAny _ X.A (do let _ ← comprehension (.ListComp elt [⟨tg, iter, ifs, 0⟩] scope pos) scope X.env _ (newList []) false (eval iter X.env) (some (assign (.Name y py) X.env))) _ _ s
  refine wpAny_bind (wpAny_mono (wpAny_comprehension_free (use := some (assign (.Name y py) X.env)) (Q := fun _ s' => SP X pins D .next s') rfl hs hclos S.kind S.names
    (thn (hi pins s σ H _ I h) fun v s1 h1 => thn h1 fun itv s2 h2 => ?_)) (fun _ s' hq => wpAny_pure (wpAny_pure hq)) fun _ _ e => e)
  obtain ⟨it, fp, tn, J, H2, e, I2, T, st2, f2, hW⟩ := h2
  subst e
  refine comp_blockT (Q := fun x H1 => gName i x σ H1 D.nx) (RR := fun acc C => compPost (model X.prog X.w) X.A X.xe (some (assign (.Name y py) X.env)) (fun _ s' => SP X pins D .next s') acc C) I2 hcalm T st2 f2 S hcl1 hcl2 (hg cl) (ht cl) (he cl) hW ?_
  intro L C oC m s' Hf IX hm fpc q
  have st := pg_name (X := X) (pos := py) hN hiN (.inl hy) (.inr hy) _ s' σ Hf (.ref L) (.ref L) D.nx IX rfl q
  refine thn st fun _ s'' ⟨σ2, H2, I2', q2⟩ => ?_
  have p := I2'.pin (C, oC) (by simp)
  have hm' : s''.heap.Ns C m := by
    obtain ⟨o, es, ep, e1, r⟩ := hm
    have z := (IX.pin (C, oC) (by simp)).1
    rw [e1] at z; cases z
    exact ⟨_, es, ep, p.1, r⟩
  refine ⟨m, hm', fun h' sb => ⟨σ2, H2, ?_, q2⟩⟩
  exact (I2'.unpinned).turned (it := C) (t' := s''.toks) (h' := h') (fun b o hb e => sb.extBut b o hb e) p.2.1 fpc.2.1 fpc.2.2.2.1 fpc.2.2.2.2.1 fpc.2.2.2.2.2
end
end L3

namespace L3
open PySem PySem.Spec PyProof.Rows L2
section
variable {prog : Program} {w : World} {A : Around} {E : Value → Shared → Prop} {s : Shared}
theorem pair_0 {h : Heap} {T : Addr} {a b : Value} (hp : IsPair h T a b) (v : Value) : IsPair (h.update T (Obj.mapSeq fun x => x.setIfInBounds 0 v)) T v b ∧ Heap.SameBut T h (h.update T (Obj.mapSeq fun x => x.setIfInBounds 0 v)) :=
  ⟨Heap.get?_update_self _ hp rfl, Heap.SameBut.update ..⟩
theorem pair_1 {h : Heap} {T : Addr} {a b : Value} (hp : IsPair h T a b) (v : Value) : IsPair (h.update T (Obj.mapSeq fun x => x.setIfInBounds 1 v)) T a v ∧ Heap.SameBut T h (h.update T (Obj.mapSeq fun x => x.setIfInBounds 1 v)) :=
  ⟨Heap.get?_update_self _ hp rfl, Heap.SameBut.update ..⟩
end
end L3

namespace L3
open PySem PySem.Spec PyProof.Rows L2
section
variable {prog : Program} {w : World} {A : Around} {E : Value → Shared → Prop} {s : Shared}
theorem stop_next {e : Addr} {Q : Option Value → Shared → Prop} (h : ∃ o, s.heap.get? e = some o ∧ o.cls = .type "StopIteration") (q : Q none s) :
    wpAny (model prog w) A (do if ← isInstance (.ref e) (.type "StopIteration") then pure none else throw (.ref e) : Sem (Option Value)) Q E s := by
  refine wpAny_bind (wpAny_isInstance (T := "StopIteration") (b := true) h (by first | rfl | decide) ?_)
  rw [if_pos rfl]
  exact wpAny_pure q
def SrcAt (h : Heap) (a : Addr) (cn : String) (vs : Array Value) : Prop := (cn = "tuple_iterator" ∧ h.IsTuple a vs) ∨ (cn = "list_iterator" ∧ h.IsList a vs)
theorem SrcAt.iter {a : Addr} {cn : String} {vs : Array Value} {Q : Value → Shared → Prop} (h : SrcAt s.heap a cn vs)
    (q : Q (.ref s.heap.objs.size) { s with heap := s.heap.push { cls := .type cn, data := .fields #[.ref a, .int 0 0] } }) : wpAny (model prog w) A (pyIter (.ref a)) Q E s := by
  rcases h with ⟨rfl, h⟩ | ⟨rfl, h⟩
  · exact wpAny_pyIter_tuple h q
  · exact wpAny_pyIter_list h q
theorem SrcAt.push {h : Heap} {a : Addr} {cn : String} {vs : Array Value} (x : SrcAt h a cn vs) (o : Obj) : SrcAt (h.push o) a cn vs := by
  rcases x with ⟨rfl, x⟩ | ⟨rfl, x⟩
  · exact .inl ⟨rfl, x.push o⟩
  · exact .inr ⟨rfl, x.push o⟩
def zpO (c : String) (a : Addr) : Obj := { cls := .type c, data := .fields #[.ref a, .int 0 0] }
def zpT (a b : Value) : Obj := { cls := .type "tuple", data := .seq #[a, b] }
def zpZ (TI TO : Addr) : Obj := { cls := .type "zip", data := .fields #[.none, .bool false, .bool false, .ref TI, .ref TO] }
def zpN (h : Heap) (c1 : String) (a : Addr) (c2 : String) (b : Addr) : Addr :=
  let h1 := h.push (zpO c1 a)
  let h2 := h1.push (zpO c2 b)
  let h3 := h2.push (zpT (.ref h.objs.size) (.ref h1.objs.size))
  (h3.push (zpT .none .none)).objs.size
def zpH (h : Heap) (c1 : String) (a : Addr) (c2 : String) (b : Addr) : Heap :=
  let h1 := h.push (zpO c1 a)
  let h2 := h1.push (zpO c2 b)
  let h3 := h2.push (zpT (.ref h.objs.size) (.ref h1.objs.size))
  let h4 := h3.push (zpT .none .none)
  h4.push (zpZ h2.objs.size h3.objs.size)
theorem zip_new (a b : Addr) (c1 c2 : String) (xs ys : Array Value) :
    Meets (Builtin.«zip.__new__» ⟨[.type "zip", .ref a, .ref b], []⟩) (fun _ R s => SrcAt s.heap a c1 xs ∧ SrcAt s.heap b c2 ys ∧
      R (.ok (.ret (.ref (zpN s.heap c1 a c2 b)))) { s with heap := zpH s.heap c1 a c2 b }) :=
  .of_wp fun prog w A R s h => by
    obtain ⟨hp, g, d, tk, os⟩ := s; obtain ⟨h1, h2, h⟩ := h
    have hsub := sub_zip
    have h2' : SrcAt (Shared.heap ⟨hp.push { cls := .type c1, data := .fields #[.ref a, .int 0 0] }, g, d, tk, os⟩) b c2 ys := h2.push _
    wp_walk using SrcAt.iter h1, SrcAt.iter h2'
    exact ⟨_, rfl, h⟩
theorem call_zipS {a b : Addr} {c1 c2 : String} {xs ys : Array Value} {Q : Value → Shared → Prop} (ha : SrcAt s.heap a c1 xs) (hb : SrcAt s.heap b c2 ys)
    (h : ∀ h', IsZip h' (s.heap.objs.size + 4) (s.heap.objs.size + 2) (s.heap.objs.size + 3) .none → IsPair h' (s.heap.objs.size + 2) (.ref s.heap.objs.size) (.ref (s.heap.objs.size + 1)) → IsPair h' (s.heap.objs.size + 3) .none .none →
      h'.get? s.heap.objs.size = some (zpO c1 a) → h'.get? (s.heap.objs.size + 1) = some (zpO c2 b) → (∀ c o, s.heap.get? c = some o → h'.get? c = some o) → Q (.ref (s.heap.objs.size + 4)) { s with heap := h' }) :
    wpAny (model prog w) A (call (.type "zip") [.ref a, .ref b]) Q E s := by
  refine callType_new F.called_zip (by decide) (F.typeCall_zip_2 _ _) (F.newCall_zip_2 _ _) (fun obj => F.args_object_init_3 obj _ _) F.entry_zip_new (zip_new a b c1 c2 xs ys) ⟨ha, hb, ?_⟩
  have gs : ∀ (h : Heap) (o : Obj) (m : Nat), o.isFreed = false → h.objs.size = m → (h.push o).get? m = some o ∧ (h.push o).objs.size = m + 1 := fun h o m f e => by
    subst e; exact ⟨Heap.get?_push_size _ f, Heap.size_push ..⟩
  obtain ⟨e1, z1⟩ := gs s.heap (zpO c1 a) _ rfl rfl
  obtain ⟨e2, z2⟩ := gs (s.heap.push (zpO c1 a)) (zpO c2 b) _ rfl z1
  obtain ⟨e3, z3⟩ := gs ((s.heap.push (zpO c1 a)).push (zpO c2 b)) (zpT (.ref s.heap.objs.size) (.ref (s.heap.push (zpO c1 a)).objs.size)) _ rfl z2
  obtain ⟨e4, z4⟩ := gs (((s.heap.push (zpO c1 a)).push (zpO c2 b)).push (zpT (.ref s.heap.objs.size) (.ref (s.heap.push (zpO c1 a)).objs.size))) (zpT .none .none) _ rfl z3
  obtain ⟨e5, z5⟩ := gs ((((s.heap.push (zpO c1 a)).push (zpO c2 b)).push (zpT (.ref s.heap.objs.size) (.ref (s.heap.push (zpO c1 a)).objs.size))).push (zpT .none .none)) (zpZ ((s.heap.push (zpO c1 a)).push (zpO c2 b)).objs.size (((s.heap.push (zpO c1 a)).push (zpO c2 b)).push (zpT (.ref s.heap.objs.size) (.ref (s.heap.push (zpO c1 a)).objs.size))).objs.size) _ rfl z4
  have eN : zpN s.heap c1 a c2 b = s.heap.objs.size + 4 := z4
  have ps : ∀ (h : Heap) (o : Obj) (c : Addr) (q : Obj), h.get? c = some q → (h.push o).get? c = some q := fun h o c q e => Heap.get?_push_of_some _ e
  have f5 : (zpH s.heap c1 a c2 b).get? (s.heap.objs.size + 4) = some (zpZ (s.heap.objs.size + 2) (s.heap.objs.size + 3)) := by
    have := e5
    rw [z2, z3] at this
    unfold zpH
    dsimp only
    rw [z2, z3]
    exact this
  have f3 : (zpH s.heap c1 a c2 b).get? (s.heap.objs.size + 2) = some (zpT (.ref s.heap.objs.size) (.ref (s.heap.objs.size + 1))) := by
    have := ps _ (zpZ ((s.heap.push (zpO c1 a)).push (zpO c2 b)).objs.size (((s.heap.push (zpO c1 a)).push (zpO c2 b)).push (zpT (.ref s.heap.objs.size) (.ref (s.heap.push (zpO c1 a)).objs.size))).objs.size) _ _ (ps _ (zpT .none .none) _ _ e3)
    unfold zpH
    dsimp only
    exact this.trans (by rw [z1])
  have f4 : (zpH s.heap c1 a c2 b).get? (s.heap.objs.size + 3) = some (zpT .none .none) := ps _ _ _ _ e4
  have f1 : (zpH s.heap c1 a c2 b).get? s.heap.objs.size = some (zpO c1 a) := ps _ _ _ _ (ps _ _ _ _ (ps _ _ _ _ (ps _ _ _ _ e1)))
  have f2 : (zpH s.heap c1 a c2 b).get? (s.heap.objs.size + 1) = some (zpO c2 b) := ps _ _ _ _ (ps _ _ _ _ (ps _ _ _ _ e2))
  have fk : ∀ c o, s.heap.get? c = some o → (zpH s.heap c1 a c2 b).get? c = some o := fun c o e => ps _ _ _ _ (ps _ _ _ _ (ps _ _ _ _ (ps _ _ _ _ (ps _ _ _ _ e))))
  show _ ∧ _
  rw [eN]
  exact ⟨⟨_, f5, rfl⟩, h _ f5 f3 f4 f1 f2 fk⟩
end
end L3

namespace L3
open PySem PySem.Spec PyProof.Rows L2
def SqC (c : Bool) (K : PySem.W.Frag) (H : Hp) (a : Addr) (xs : List V) : Prop := match c with
  | true => SqT K H a xs
  | false => SqL K H a xs
def IterC (c : Bool) (h : Heap) (j a : Addr) (i : Nat) : Prop := match c with
  | true => h.IsTupleIter j a i
  | false => h.IsListIter j a i
def SeqC (c : Bool) (h : Heap) (a : Addr) (vs : Array Value) : Prop := match c with
  | true => h.IsTuple a vs
  | false => h.IsList a vs
def cnC (c : Bool) : String := match c with
  | true => "tuple_iterator"
  | false => "list_iterator"
theorem IterC.at {c : Bool} {h h' : Heap} {j a : Addr} {i : Nat} (x : IterC c h j a i) (k : ∀ o, h.get? j = some o → h'.get? j = some o) : IterC c h' j a i := by
  cases c
  · exact Heap.IsListIter.at x k
  · exact Heap.IsTupleIter.at x k
theorem IterC.obj {c : Bool} {h : Heap} {j a : Addr} {i : Nat} (x : IterC c h j a i) : ∃ o, h.get? j = some o ∧ ∀ v, o.data ≠ .cell v := by
  cases c
  · obtain ⟨o, e, _, d⟩ := x
    exact ⟨o, e, fun v z => by rw [d] at z; cases z⟩
  · obtain ⟨o, e, _, d⟩ := x
    exact ⟨o, e, fun v z => by rw [d] at z; cases z⟩
theorem IterC.mk {c : Bool} {h : Heap} {j a : Addr} (e : h.get? j = some (zpO (cnC c) a)) : IterC c h j a 0 := by
  cases c
  · exact ⟨_, e, rfl, rfl⟩
  · exact ⟨_, e, rfl, rfl⟩
theorem SeqC.src {c : Bool} {h : Heap} {a : Addr} {vs : Array Value} (x : SeqC c h a vs) : SrcAt h a (cnC c) vs := by
  cases c
  · exact .inr ⟨rfl, x⟩
  · exact .inl ⟨rfl, x⟩
theorem SeqC.lt {c : Bool} {h : Heap} {a : Addr} {vs : Array Value} (x : SeqC c h a vs) : a < h.objs.size := by
  cases c
  · obtain ⟨_, e, _⟩ := (show h.IsList a vs from x); exact Heap.lt_size e
  · obtain ⟨_, e, _⟩ := (show h.IsTuple a vs from x); exact Heap.lt_size e
theorem drawsC {prog : Program} {w : World} {A : Around} (hh : A.handled = none) (c : Bool) (j t : Addr) (hne : t ≠ j) (vs : Array Value) :
    Draws prog w A j [j, t] vs.size (fun i v => vs[i]? = some v) (fun i h => IterC c h j t i ∧ SeqC c h t vs) := by
  cases c
  · exact Draws.list hh j t hne vs
  · exact draws_tup hh j t hne vs
theorem draws_endL {prog : Program} {w : World} {A : Around} (hh : A.handled = none) (jt t : Addr) (vs : Array Value) {i : Nat} (hv : vs[i]? = none) :
    Draws prog w A jt [jt, t] i (fun _ _ => True) (fun j h => j = i ∧ h.IsListIter jt t i ∧ h.IsList t vs) where
  live := fun _ _ st => let ⟨o, ho, _⟩ := st.2.1; ⟨o, ho⟩
  frame := fun _ _ _ st hk => ⟨st.1, st.2.1.at (hk jt (by simp)), st.2.2.at (hk t (by simp))⟩
  item := fun j s Q E hj st hQ => absurd st.1 (Nat.ne_of_lt hj)
  done := fun s Q E st hE => wpAny_nextOf_list_end hh st.2.1 st.2.2 hv hE
theorem drawsC_end {prog : Program} {w : World} {A : Around} (hh : A.handled = none) (c : Bool) (j t : Addr) (vs : Array Value) {i : Nat} (hv : vs[i]? = none) :
    Draws prog w A j [j, t] i (fun _ _ => True) (fun k h => k = i ∧ IterC c h j t i ∧ SeqC c h t vs) := by
  cases c
  · exact draws_endL hh j t vs hv
  · exact draws_end hh j t vs hv
theorem inv_seqC {X : Cx} {pins : List (Addr × Obj)} {σ : L2.St} {H : Hp} {s : Shared} {c : Bool} {a : Addr} {xs : List V} (I : Inv X pins σ H s) (h : SqC c X.K H a xs) : ∃ its : List Value, Vals xs its ∧ SeqC c s.heap a its.toArray := by
  cases c
  · obtain ⟨its, r, p, _⟩ := I.list h
    exact ⟨its, r, p.isList⟩
  · obtain ⟨its, r, p, _⟩ := I.tuple h
    exact ⟨its, r, p⟩
theorem inv_seqC_inj {X : Cx} {pins : List (Addr × Obj)} {σ : L2.St} {H : Hp} {s : Shared} {c : Bool} {a : Addr} {xs ys : List V} (I : Inv X pins σ H s) (h : SqC c X.K H a xs) (h' : SqC c X.K H a ys) : xs = ys := by
  cases c
  · exact I.list_inj h h'
  · exact I.tuple_inj h h'
theorem nin2 {z j t : Nat} (h1 : z ≠ j) (h2 : z ≠ t) : z ∉ ([j, t] : List Nat) := by simp [h1, h2]
def Itz (K : PySem.W.Frag) (c : Bool) (a : Addr) (d : Bool) (b : Addr) : It :=
  ⟨fun i H => ∃ xs ys x y, SqC c K H a xs ∧ SqC d K H b ys ∧ xs[i]? = some x ∧ ys[i]? = some y,
   fun i H x H' => ∃ T v w, H T = none ∧ x = .ref T ∧ H' = upd H T (.tup [v, w]) ∧ (∀ xs, SqC c K H a xs → xs[i]? = some v) ∧ ∀ ys, SqC d K H b ys → ys[i]? = some w,
   fun i H => ∃ xs ys, SqC c K H a xs ∧ SqC d K H b ys ∧ (xs.length ≤ i ∨ ys.length ≤ i)⟩
theorem nad {n : Nat} (i j : Nat) (h : i ≠ j) : n + i ≠ n + j := fun z => h (Nat.add_left_cancel z)
theorem nad0 {n : Nat} (i : Nat) (h : i ≠ 0) : n + i ≠ n := fun z => h (Nat.add_left_cancel (z.trans (Nat.add_zero n).symm))
section
variable {X : Cx} {elts : List Expr} {kt : Nat} {pt : Pos}
theorem b_zip : bootBuiltins "zip" = some (.type "zip") := by decide +kernel
end
end L3

namespace L3
open PySem PySem.Spec PyProof.Rows L2
section
variable {X : Cx} {elts : List Expr} {kt : Nat} {pt : Pos} {K : PySem.W.Frag}
end
section
variable {K : PySem.W.Frag} {a b : Addr} {c d : Bool} {xs ys : List V} {g : TG} {tt : TT} {te : TE} {tb : TS} {D : Ends} {Q : VK} {σ : L2.St} {H : Hp}
end
section
variable {prog : Program} {w : World} {A : Around} {E : Value → Shared → Prop} {s : Shared}
open AutoSeq1 (wpAny_loadPart')
end
section
variable {X : Cx} {elts : List Expr} {kt : Nat} {pt : Pos} {K : PySem.W.Frag}
end
section
variable {K : PySem.W.Frag} {a : Addr} {c : Bool} {xs : List V} {g : TG} {tt : TT} {te : TE} {tb : TS} {D : Ends} {Q : VK} {σ : L2.St} {H : Hp}
end
end L3

namespace L3
open PySem PySem.Spec PyProof.Rows L2
section
variable {X : Cx}
variable {K : PySem.W.Frag}
end
def InC (C : Int) (xs : List Int) : Prop := ∀ v ∈ xs, -C ≤ v ∧ v ≤ C
theorem InC.mono {B C : Int} {xs : List Int} (h : InC B xs) (hC : B ≤ C) : InC C xs := fun v hv => by have := h v hv; omega
theorem InC.inB {C : Int} {xs : List Int} (h : InC C xs) (hC : C < 2 ^ 300) : InB (2 ^ 300) xs := fun v hv => by have := h v hv; omega
end L3

namespace L3
open PySem PySem.Spec PyProof.Rows L2
theorem Deed.Bd.sh {d : Deed} {B : Int} {n : Nat} (h : d.Bd B) (hB : B ≤ 10 ^ 90) : Sh (deedD d) 5772 (n + 1) := sh_deedB (h.mono (Int.le_trans hB (by decide)))
theorem InC.sh {xs : List Int} {C : Int} {m n : Nat} (h : InC C xs) (hC : C ≤ 10 ^ 90) (l : xs.length ≤ m) : Sh (intsD xs) (m * 1923 + 3) (n + 1) :=
  (sh_ints (n := n) (h.inB (Int.lt_of_le_of_lt hC (by decide)))).mono (by have := Nat.mul_le_mul_right 1923 l; omega) (Nat.le_refl _)
end L3

namespace L3
open PySem PySem.Spec PyProof.Rows L2
theorem vals_ints : ∀ {ns : List Int} {us : List Value}, IntsAre us ns → Vals (ns.map V.int) us := by
  intro ns us h
  induction h with
  | nil => exact .nil
  | cons n t _ ih => exact .cons ⟨t, rfl⟩ ih
section
variable {X : Cx} {K : PySem.W.Frag}
theorem fm_congr {α β : Type} {f g : α → Option β} : ∀ {l : List α}, (∀ x ∈ l, f x = g x) → l.filterMap f = l.filterMap g
  | [], _ => rfl
  | x :: xs, h => by rw [List.filterMap_cons, List.filterMap_cons, h x (by simp), fm_congr fun y hy => h y (List.mem_cons_of_mem _ hy)]
theorem slicePick_rev (its : List Value) : slicePick its.toArray none none (some (-1)) = its.reverse.toArray := by
  have key : ∀ l : List Value, ((List.range l.length).map fun k : Nat => ((l.length : Int) - 1 + -1 * (k : Int)).toNat).filterMap (l.toArray[·]?) = l.reverse := by
    intro l
    refine List.ext_getElem? fun i => ?_
    have e : ((List.range l.length).map fun k : Nat => ((l.length : Int) - 1 + -1 * (k : Int)).toNat).filterMap (l.toArray[·]?) = (List.range l.length).filterMap fun k => l[l.length - 1 - k]? := by
      rw [List.filterMap_map]
      refine fm_congr fun k hk => ?_
      have := List.mem_range.mp hk
      show l.toArray[((l.length : Int) - 1 + -1 * (k : Int)).toNat]? = _
      rw [show ((l.length : Int) - 1 + -1 * (k : Int)).toNat = l.length - 1 - k by omega]; simp
    have e2 : (List.range l.length).filterMap (fun k => l[l.length - 1 - k]?) = (List.range l.length).map fun k => l.getD (l.length - 1 - k) .none := by
      rw [← List.filterMap_eq_map]
      refine fm_congr fun k hk => ?_
      have := List.mem_range.mp hk
      rw [List.getElem?_eq_getElem (by omega)]
      show _ = some (l.getD (l.length - 1 - k) .none)
      rw [List.getD_eq_getElem?_getD, List.getElem?_eq_getElem (by omega)]; rfl
    rw [e, e2, List.getElem?_map]
    by_cases hi : i < l.length
    · rw [List.getElem?_range hi, List.getElem?_reverse hi, List.getElem?_eq_getElem (by omega)]
      show some (l.getD (l.length - 1 - i) .none) = _
      rw [List.getD_eq_getElem?_getD, List.getElem?_eq_getElem (by omega)]; rfl
    · rw [List.getElem?_eq_none (by rw [List.length_range]; omega), List.getElem?_eq_none (by rw [List.length_reverse]; omega)]; rfl
  unfold slicePick
  have b1 : (sliceBounds none none (some (-1)) its.toArray.size).1 = (its.length : Int) - 1 := by simp [sliceBounds]
  have b2 : (sliceBounds none none (some (-1)) its.toArray.size).2.1 = -1 := by simp [sliceBounds]
  have b3 : (sliceBounds none none (some (-1)) its.toArray.size).2.2 = -1 := rfl
  rw [b1, b2, b3]
  have c : sliceRange ((its.length : Int) - 1) (-1) (-1) = (List.range its.length).map fun k : Nat => ((its.length : Int) - 1 + -1 * (k : Int)).toNat := by
    unfold sliceRange
    by_cases h : its.length = 0
    · rw [h]; rfl
    · rw [if_neg (by decide), if_pos (by omega)]
      have : (((its.length : Int) - 1 - -1 - -1 - 1) / (- -1)).toNat = its.length := by
        rw [show ((its.length : Int) - 1 - -1 - -1 - 1) = its.length by omega, show (- -1 : Int) = 1 from rfl, Int.ediv_one]; omega
      dsimp only
      rw [this]
  rw [c, key]
theorem valsRev : ∀ {xs : List V} {us : List Value}, Vals xs us → Vals xs.reverse us.reverse
  | _, _, .nil => .nil
  | _, _, .cons r t => by
    rw [List.reverse_cons, List.reverse_cons]
    exact (valsRev t).append (.cons r .nil)
def tRevL (K : PySem.W.Frag) (te : TE) : TE := fun σ H Q => te σ H fun x H1 => ∃ a xs, x = .ref a ∧ SqL K H1 a xs ∧ ∀ p, H1 p = none → Q (.ref p) (upd H1 p (.lst xs.reverse))
theorem pe_revL {e : Expr} {te : TE} {j : Nat} {pc pu p2 pos : Pos} (hK : X.K = K) (he : PE X e te) : PE X (.Subscript e (.Slice none none (some (.UnaryOp .USub (.Constant (.int 1) j pc) pu)) p2) pos) (tRevL K te) := by
  subst hK
  intro pins s σ H Q I h
  refine Subscript_ (thn (he pins s σ H _ I h) fun v s1 ⟨x, H1, I1, r1, q1⟩ => ?_)
  obtain ⟨a, xs, rfl, hx, q⟩ := q1
  cases (show v = Value.ref a from r1)
  refine wpAny_Slice (thn (po_none pins s1 σ H1 (fun o H2 => o = none ∧ H2 = H1) I1 ⟨rfl, rfl⟩) fun vl s2 ⟨l, H2, I2, pl, q2a, q2⟩ => thn (po_none pins s2 σ H2 (fun o H3 => o = none ∧ H3 = H1) I2 ⟨rfl, q2⟩) fun vu s3 ⟨u, H3, I3, pu', q3a, q3⟩ => ?_)
  subst q2a q3a
  cases pl
  cases pu'
  subst q3
  refine thn (po_some (pe_un un_neg pe_int) pins s3 σ H3 (fun o H4 => o = some (-1) ∧ H4 = H3) I3 ⟨_, rfl, _, rfl, rfl, rfl⟩) fun vs s4 ⟨o, H4, I4, po, q4, q5⟩ => ?_
  subst q4 q5
  have I5 : Inv X pins σ H4 { s4 with heap := s4.heap.push { cls := .type "slice", data := .fields #[.none, .none, vs] } } := I4.kept (t' := s4.toks) fun b ob q => Heap.get?_push_of_some _ q
  show wpAny (model X.prog X.w) X.A (subscriptTail e _ (.ref a) (.ref s4.heap.objs.size)) (EP X pins σ Q) X.xe { s4 with heap := s4.heap.push { cls := .type "slice", data := .fields #[.none, .none, vs] } }
  obtain ⟨its, r, ht, hz⟩ := I5.list hx
  have hlen := r.length
  refine tail_any (ops := [.ref a, .ref s4.heap.objs.size]) ht.isList.typeIs slot_list_getitem.lookup ?_ (by with_unfolding_all rfl)
  refine wpAny_getItem_list_slice ht.isList (Heap.IsSliceOf.new ..) .none .none po (by decide) ?_ (by rw [List.size_toArray] <;> omega)
  rw [slicePick_rev]
  refine ⟨.ref _, _, I5.laid (t' := s4.toks) (o := .lst xs.reverse) (fun b ob q => Heap.get?_push_of_some _ q) (Nat.le_refl _) ?_, rfl, q _ (I5.hok.fresh (Nat.le_refl _))⟩
  exact ⟨by rw [List.length_reverse]; exact hz, _, 0, valsRev r, Heap.get?_push_size _ rfl⟩
end
end L3

namespace L3
open PySem PySem.Spec PyProof.Rows L2
structure Wk (prog : Program) (w : World) (A : Around) (T : String) (I : Addr) (n : Nat) (Fr : Addr → Prop) (J : List Value → Shared → Prop) (Fn : List Value → Shared → Prop) : Prop where
  ty : ∀ acc s, J acc s → s.TypeIs (.ref I) T
  self : ∀ acc s (Q : Value → Shared → Prop) (E : Value → Shared → Prop), J acc s → Q (.ref I) s → wpAny (model prog w) A (pyIter (.ref I)) Q E s
  stay : ∀ acc s (S : Addr) (ob : Obj) (h' : Heap), J acc s → Fr S → s.heap.get? S = some ob → ob.cls = .type "list" → (∀ b o, b ≠ S → s.heap.get? b = some o → h'.get? b = some o) → h'.objs.size = s.heap.objs.size → J acc { s with heap := h' }
  next : ∀ acc s (S : Addr) (ob : Obj) (Q : Option Value → Shared → Prop) (E : Value → Shared → Prop), J acc s → Fr S → s.heap.get? S = some ob → ob.cls = .type "list" →
    (∀ v s', acc.length < n → J (acc ++ [v]) s' → s'.heap.get? S = some ob → Q (some v) s') → (∀ s', Fn acc s' → s'.heap.get? S = some ob → Q none s') → wpAny (model prog w) A (pyNext (.ref I)) Q E s
  push : ∀ acc s (o : Obj), J acc s → J acc { s with heap := s.heap.push o }
section
variable {prog : Program} {w : World} {A : Around} {R : Result → Shared → Prop} {T : String} {I : Addr} {n : Nat} {Fr : Addr → Prop} {J Fn : List Value → Shared → Prop}
end
section
variable {prog : Program} {w : World} {A : Around} {E : Value → Shared → Prop} {s : Shared} {T : String} {I : Addr} {n : Nat} {Fr : Addr → Prop} {J Fn : List Value → Shared → Prop}
end
end L3

namespace L3
open PySem PySem.Spec PyProof.Rows L2
section
variable {prog : Program} {w : World} {A : Around} {E : Value → Shared → Prop} {s : Shared}
end
section
variable {X : Cx} {pins : List (Addr × Obj)} {σ : L2.St} {H : Hp} {s : Shared} {h' : Heap}
end
end L3

namespace L3
open PySem PySem.Spec PyProof.Rows L2
section
variable {X : Cx} {pins : List (Addr × Obj)} {σ : L2.St} {H : Hp} {s0 : Shared} {K : PySem.W.Frag}
end
section
variable {X : Cx} {K : PySem.W.Frag} {a : Expr} {ta : TA} {p p2 pos pos2 : Pos}
end
end L3

namespace L3
open PySem PySem.Spec PyProof.Rows L2
section
variable {X : Cx} {K : PySem.W.Frag}
theorem op_neNil {k : Nat} (hK : X.K = K) (hr : Room k X.A) : OpR X (compareOp .NotEq) (fun x y H Q => ∃ a b xs, x = .ref a ∧ y = .ref b ∧ SqL K H a xs ∧ SqL K H b [] ∧ Q (.bl (!xs.isEmpty)) H) := by
  subst hK
  intro pins s σ H x y v u Q I rx ry h
  obtain ⟨a, b, xs, rfl, rfl, ha, hb, q⟩ := h
  cases rx; cases ry
  obtain ⟨us, r1, t1, _⟩ := I.list ha
  obtain ⟨ws, r2, t2, _⟩ := I.list hb
  have hw : ws.length = 0 := r2.length.symm
  by_cases hl : us.length = ws.length
  · refine SeqAt.RcNeAt.lists (e := fun _ => true) t1.isList t2.isList (by simpa using hl) hr.units0 (fun j h1 h2 => absurd h2 (by simp; omega)) _ _ _ _ ?_
    have e : xs = [] := List.length_eq_zero_iff.mp (by rw [r1.length]; omega)
    subst e
    have e2 : us = [] := List.length_eq_zero_iff.mp (by omega)
    subst e2
    exact ⟨.bl _, H, I, rfl, q⟩
  · refine SeqAt.RcNeAt.lists_lengths t1.isList t2.isList (by simpa using hl) hr.units0 _ _ _ _ ?_
    have e : xs.isEmpty = false := by
      cases xs with
      | nil => exact absurd (by rw [← r1.length, hw]; rfl) hl
      | cons _ _ => rfl
    rw [e] at q
    exact ⟨.bl _, H, I, rfl, q⟩
end
def PurseF (H : Hp) (a : Addr) : Prop := ∃ p0 c t : Int, H a = some (.lst [.int p0, .int c, .int t]) ∧ 0 ≤ p0
theorem PurseF.grow {H H' : Hp} {a : Addr} (p : PurseF H a) (g : Grow [] H H') : PurseF H' a := by
  obtain ⟨x, y, z, h, q⟩ := p
  exact ⟨x, y, z, g.keep _ _ (by simp) h, q⟩
theorem PurseF.new {H : Hp} {a l : Addr} (p : PurseF H a) (hl : H l = none) (o : HO) : PurseF (upd H l o) a := p.grow (Grow.new hl o)
theorem PurseF.ne {H : Hp} {a l : Addr} (p : PurseF H a) (h : H l = none) : l ∉ [a] := by
  intro z
  obtain ⟨x, y, w, hz, _⟩ := p
  rw [List.mem_singleton.mp z, hz] at h
  cases h
def sortI (ns : List Int) : List Int := ns.mergeSort fun a b => decide (a ≤ b)
def dupS : List Int → Option Int
  | a :: b :: r => if a = b then some a else dupS (b :: r)
  | _ => none
def levelL (rows : List (List Int)) (l : Nat) : List Int := rows.map fun r => r.getD l 0
def sharedAt (rows : List (List Int)) (l : Nat) : Option Int := dupS (sortI (levelL rows l))
def SharedIs (k : Nat) (rows : List (List Int)) (o : Option (Nat × Int)) : Prop := match o with
  | none => ∀ l, l ≤ k → sharedAt rows l = none
  | some (l, v) => l ≤ k ∧ sharedAt rows l = some v ∧ ∀ j, j < l → sharedAt rows j = none
theorem SharedIs.one {k : Nat} {rows rows' : List (List Int)} {o o' : Option (Nat × Int)} (e : ∀ l, sharedAt rows l = sharedAt rows' l) (h : SharedIs k rows o) (h' : SharedIs k rows' o') : o = o' := by
  cases o with
  | none =>
    cases o' with
    | none => rfl
    | some p =>
      obtain ⟨l, v⟩ := p
      have z := h l h'.1
      rw [e, h'.2.1] at z; cases z
  | some p =>
    obtain ⟨l, v⟩ := p
    cases o' with
    | none =>
      have z := h' l h.1
      rw [← e, h.2.1] at z; cases z
    | some p' =>
      obtain ⟨l', v'⟩ := p'
      obtain ⟨a1, a2, a3⟩ := h
      obtain ⟨b1, b2, b3⟩ := h'
      by_cases c : l < l'
      · have z := b3 l c
        rw [← e, a2] at z; cases z
      · by_cases c2 : l' < l
        · have z := a3 l' c2
          rw [e, b2] at z; cases z
        · have : l = l' := by omega
          subst this
          rw [e, b2] at a2
          cases a2; rfl
def ClashAt (K : PySem.W.Frag) (H : Hp) (x : V) (o : Option (Nat × Int)) : Prop := match o with
  | none => x = .non
  | some (l, v) => ∃ r, x = .ref r ∧ SqT K H r [.int l, .int v]
theorem Grow.clash {m : List Addr} {H H' : Hp} (g : Grow m H H') {K : PySem.W.Frag} {x : V} {o : Option (Nat × Int)} (h : ClashAt K H x o) : ClashAt K H' x o := by
  cases o with
  | none => exact h
  | some p =>
    obtain ⟨l, v⟩ := p
    obtain ⟨r, e, z⟩ := h
    exact ⟨r, e, g.sqT z⟩
theorem cut_pre {xs : List V} {c : Nat} : cutV xs none (some (c : Int)) = xs.take c := by
  unfold cutV
  rw [HT.sIx_none, HT.sIx_nat, List.drop_zero, Nat.sub_zero]
  by_cases h : c ≤ xs.length
  · rw [Nat.min_eq_left h]
  · rw [Nat.min_eq_right (by omega), List.take_of_length_le (by omega), List.take_of_length_le (by omega)]
theorem cut_suf {xs : List V} {c : Nat} : cutV xs (some (c : Int)) none = xs.drop c := by
  unfold cutV
  rw [HT.sIx_none, HT.sIx_nat]
  by_cases h : c ≤ xs.length
  · rw [Nat.min_eq_left h, List.take_of_length_le (by rw [List.length_drop]; exact Nat.le_refl _)]
  · rw [Nat.min_eq_right (by omega), List.drop_eq_nil_of_le (by omega), List.drop_eq_nil_of_le (by omega)]; simp
end L3

namespace L3
open PySem PySem.Spec PyProof.Rows L2
mutual
inductive Dq (K : PySem.W.Frag) (H : Hp) : V → PyData → Prop
  | non : Dq K H .non .none
  | bl (b : Bool) : Dq K H (.bl b) (.bool b)
  | int (i : Int) : Dq K H (.int i) (.int i)
  | str (x : Str) : Dq K H (.str x) (.str x)
  | tup {a : Addr} {xs : List V} {ds : List PyData} : SqT K H a xs → DqAll K H xs ds → Dq K H (.ref a) (.tuple ds)
  | lst {a : Addr} {xs : List V} {ds : List PyData} : SqL K H a xs → DqAll K H xs ds → Dq K H (.ref a) (.list ds)
inductive DqAll (K : PySem.W.Frag) (H : Hp) : List V → List PyData → Prop
  | nil : DqAll K H [] []
  | cons {x : V} {xs : List V} {d : PyData} {ds : List PyData} : Dq K H x d → DqAll K H xs ds → DqAll K H (x :: xs) (d :: ds)
end
mutual
theorem Dat.dq {K : PySem.W.Frag} {H : Hp} : ∀ {x : V} {d : PyData}, Dat K H x d → Dq K H x d
  | _, _, .non => .non
  | _, _, .bl b => .bl b
  | _, _, .int i => .int i
  | _, _, .tup h t => .tup h (DatAll.dq t)
  | _, _, .lst h t => .lst h (DatAll.dq t)
theorem DatAll.dq {K : PySem.W.Frag} {H : Hp} : ∀ {xs : List V} {ds : List PyData}, DatAll K H xs ds → DqAll K H xs ds
  | _, _, .nil => .nil
  | _, _, .cons h t => .cons (Dat.dq h) (DatAll.dq t)
end
theorem DqAll.len {K : PySem.W.Frag} {H : Hp} : ∀ {xs : List V} {ds : List PyData}, DqAll K H xs ds → xs.length = ds.length
  | _, _, .nil => rfl
  | _, _, .cons _ t => congrArg (· + 1) (DqAll.len t)
theorem all_true (n : Nat) : (List.range n).all (fun _ => true) = true := List.all_eq_true.mpr fun _ _ => rfl
section
variable {X : Cx} {pins : List (Addr × Obj)} {σ : L2.St} {H : Hp} {s : Shared}
mutual
theorem dq_eq (I : Inv X pins σ H s) : ∀ {d : PyData} {x y : V} {u v : Value} {A : Around}, Dq X.K H x d → Dq X.K H y d → RelV x u → RelV y v → A.units + d.depth < cLine → SeqAt.EqAt A s u v true
  | _, _, y, u, v, A, .non, hy, ru, rv, _ => by
    cases hy
    cases (show u = Value.none from ru)
    cases (show v = Value.none from rv)
    exact SeqAt.EqAt.same _
  | _, _, y, u, v, A, .bl b, hy, ru, rv, _ => by
    cases hy
    cases (show u = Value.bool b from ru)
    cases (show v = Value.bool b from rv)
    exact SeqAt.EqAt.same _
  | _, _, y, u, v, A, .int i, hy, ru, rv, _ => by
    cases hy
    obtain ⟨t, rfl⟩ := ru
    obtain ⟨t', rfl⟩ := rv
    have z := SeqAt.EqAt.int_int (A := A) (s := s) i t i t'
    rw [beq_self_eq_true] at z
    exact z
  | _, _, y, u, v, A, .str x, hy, ru, rv, _ => by
    cases hy
    obtain ⟨t, rfl⟩ := ru
    obtain ⟨t', rfl⟩ := rv
    have z := SeqAt.EqAt.str_str (A := A) (s := s) x t x t'
    rw [beq_self_eq_true] at z
    exact z
  | _, _, y, u, v, A, .tup (a := a) (xs := xs) (ds := ds) hs ha, hy, ru, rv, hu => by
    cases hy with
    | tup hs' ha' =>
      rename_i a' xs'
      cases (show u = Value.ref a from ru)
      cases (show v = Value.ref a' from rv)
      obtain ⟨us, r1, t1, _⟩ := I.tuple hs
      obtain ⟨ws, r2, t2, _⟩ := I.tuple hs'
      have hd : A.units + (PyData.depthAll ds + 1) < cLine := hu
      by_cases e : a = a'
      · subst e; exact SeqAt.EqAt.same _
      · have l1 := ha.len
        have l2 := ha'.len
        have q := SeqAt.RcAt.tuples (e := fun _ => true) (isTuple_of t1) (isTuple_of t2) (by omega) (dqs_eq I ha ha' r1 r2 (A := A.in1) (by show A.units + 1 + PyData.depthAll ds < cLine; omega))
        rw [all_true, Bool.true_and, List.size_toArray, List.size_toArray, ← r1.length, ← r2.length, l1, l2, beq_self_eq_true] at q
        exact SeqAt.EqAt.of_refs e q
  | _, _, y, u, v, A, .lst (a := a) (xs := xs) (ds := ds) hs ha, hy, ru, rv, hu => by
    cases hy with
    | lst hs' ha' =>
      rename_i a' xs'
      cases (show u = Value.ref a from ru)
      cases (show v = Value.ref a' from rv)
      obtain ⟨us, r1, t1, _⟩ := I.list hs
      obtain ⟨ws, r2, t2, _⟩ := I.list hs'
      have hd : A.units + (PyData.depthAll ds + 1) < cLine := hu
      by_cases e : a = a'
      · subst e; exact SeqAt.EqAt.same _
      · have l1 := ha.len
        have l2 := ha'.len
        have q := SeqAt.RcAt.lists (e := fun _ => true) t1.isList t2.isList (by rw [List.size_toArray, List.size_toArray, ← r1.length, ← r2.length, l1, l2]) (by omega) (dqs_eq I ha ha' r1 r2 (A := A.in1) (by show A.units + 1 + PyData.depthAll ds < cLine; omega))
        rw [all_true] at q
        exact SeqAt.EqAt.of_refs e q
theorem dqs_eq (I : Inv X pins σ H s) : ∀ {ds : List PyData} {xs ys : List V} {us vs : List Value} {A : Around}, DqAll X.K H xs ds → DqAll X.K H ys ds → Vals xs us → Vals ys vs → A.units + PyData.depthAll ds < cLine →
    ∀ j (h1 : j < us.toArray.size) (h2 : j < vs.toArray.size), SeqAt.EqAt A s us.toArray[j] vs.toArray[j] true
  | _, _, _, _, _, A, .nil, hy, ru, rv, _ => fun j h1 _ => by
    cases ru
    exact absurd h1 (Nat.not_lt_zero j)
  | _, _, _, _, _, A, .cons (d := d) (ds := ds) hx tx, hy, ru, rv, hd => fun j h1 h2 => by
    cases hy with
    | cons hy ty =>
      cases ru with
      | cons r1 rr1 =>
        cases rv with
        | cons r2 rr2 =>
          have hd' : A.units + max d.depth (PyData.depthAll ds) < cLine := hd
          cases j with
          | zero => simpa using dq_eq I hx hy r1 r2 (A := A) (by omega)
          | succ j =>
            have z := dqs_eq I tx ty rr1 rr2 (A := A) (by omega) j (by simpa using h1) (by simpa using h2)
            simpa using z
end
variable {K : PySem.W.Frag}
end
end L3

namespace L3
open PySem PySem.Spec PyProof.Rows L2
def xN (k st a : Nat) : Nat := a ^^^ 2 ^ (k - st)
def nN (k st a : Nat) : Nat := (numsL k a st).toNat
def lN (k h g n : Nat) : Nat := (lineL k h g n).toNat
structure OneF (k st a : Nat) : Prop where
  sw : swI k st a = numsL k a st
  num : numsL k a st = (nN k st a : Int)
  lt : nN k st a < 2 ^ (k - 1)
  nx : nN k st (xN k st a) = nN k st a
  xx : xN k st (xN k st a) = a
  xne : xN k st a ≠ a
  xlt : xN k st a < 2 ^ k
  w0 : wfI k st a (Builtin.bitXor (figI k st a) 0) = (a : Int)
  w1 : wfI k st a (Builtin.bitXor (figI k st a) 1) = (xN k st a : Int)
  c1 : Builtin.bitXor (figI k st a) (figI k st (xN k st a)) = 1
  c0 : Builtin.bitXor (figI k st a) (figI k st a) = 0
  b0 : Builtin.bitXor (figI k st a) 0 = 0 ∨ Builtin.bitXor (figI k st a) 0 = 1
  b1 : Builtin.bitXor (figI k st a) 1 = 0 ∨ Builtin.bitXor (figI k st a) 1 = 1
def plOf (gs : List Nat) : List (Nat × Nat) := (List.range gs.length).map fun h => (h, gs.getD h 0)
def SidesOk (k : Nat) (gs : List Nat) : Prop := gs.length = 2 ^ k ∧ ∀ g ∈ gs, g < 2 ^ k
theorem SidesOk.get {k : Nat} {gs : List Nat} (h : SidesOk k gs) {i : Nat} (hi : i < 2 ^ k) : gs.getD i 0 < 2 ^ k := by
  rw [List.getD_eq_getElem?_getD, List.getElem?_eq_getElem (by rw [h.1]; exact hi)]
  exact h.2 _ (List.getElem_mem _)
def crossI (k st : Nat) (q : Nat × Nat) : Int := Builtin.bitXor (figI k st (lineL k q.1 q.2 (st - 1))) (figI k st (lineL k q.1 q.2 st))
def marksF (k st : Nat) (m : List Int) (q : Nat × Nat) : List Int := m.set (nN k st (lN k q.1 q.2 st)) (crossI k st q)
def marksR (k st : Nat) (pl : List (Nat × Nat)) : List Int := pl.foldl (marksF k st) (List.replicate (2 ^ k / 2) 0)
def setsL (k : Nat) (gs : List Nat) : List (List Int) := (List.range k).map fun n => marksR k (n + 1) (plOf gs)
end L3

namespace L3
open PySem PySem.Spec PyProof.Rows L2
section
variable {X : Cx} {a : Expr} {ta : TA} {p p2 pos pos2 : Pos}
end
end L3

namespace L3
open PySem PySem.Spec PyProof.Rows L2
def AnsAt (K : PySem.W.Frag) (H : Hp) (x : V) (k : Nat) (gs : List Nat) (o : Option (Nat × Int)) : Prop := ∃ (r : Addr) (s : Str) (y : V), x = .ref r ∧ SqT K H r [.str s, y] ∧ match o with
  | none => s = "settings" ∧ RowsAt K H y (setsL k gs)
  | some (l, v) => s = "clash" ∧ ∃ c, y = .ref c ∧ SqT K H c [.int l, .int v]
theorem Grow.ans {m : List Addr} {H H' : Hp} (g : Grow m H H') {K : PySem.W.Frag} {x : V} {k : Nat} {gs : List Nat} {o : Option (Nat × Int)} (h : AnsAt K H x k gs o) : AnsAt K H' x k gs o := by
  obtain ⟨r, s, y, e, z, w⟩ := h
  refine ⟨r, s, y, e, g.sqT z, ?_⟩
  cases o with
  | none => exact ⟨w.1, g.rows w.2⟩
  | some p =>
    obtain ⟨l, v⟩ := p
    obtain ⟨w1, c, e, z⟩ := w
    exact ⟨w1, c, e, g.sqT z⟩
theorem SidesOk.set {k : Nat} {gs : List Nat} (h : SidesOk k gs) {j n : Nat} (hn : n < 2 ^ k) : SidesOk k (gs.set j n) := by
  refine ⟨by rw [List.length_set, h.1], fun g hg => ?_⟩
  rcases List.mem_or_eq_of_mem_set hg with z | rfl
  · exact h.2 g z
  · exact hn
end L3

namespace L3
open PySem PySem.Spec PyProof.Rows L2
section
variable {prog : Program} {w : World} {A : Around} {E : Value → Shared → Prop} {s : Shared}
end
section
variable {X : Cx} {K : PySem.W.Frag}
end
end L3

namespace L3
open PySem PySem.Spec PyProof.Rows L2
section
variable {prog : Program} {w : World} {A : Around} {E : Value → Shared → Prop} {s : Shared}
end
section
variable {X : Cx} {K : PySem.W.Frag}
end
end L3

namespace L3
open PySem PySem.Spec PyProof.Rows L2
def wfN (k s l : Nat) (w : Int) : Nat := (wfI k s l w).toNat
structure WfF (k s l : Nat) (w : Int) : Prop where
  eq : wfI k s l w = (wfN k s l w : Int)
  lt : wfN k s l w < 2 ^ k
  at_ : figI k s (wfN k s l w) = w
  off : ∀ t : Nat, t ≤ k → t ≠ s → figI k t (wfN k s l w) = figI k t l
def mixN (k e x t : Nat) : Nat := (numL ((figsL k e).take (t - 1) ++ (figsL k x).drop t)).toNat
def fstI (rows : List (List Int)) (t n : Nat) : Int := (rows.getD (t - 1) []).getD n 0
def Ahead (k : Nat) (rows : List (List Int)) (e m x y : Nat) : Prop := ∃ t : Nat, m < t ∧ t ≤ k ∧ figI k t x ≠ figI k t y ∧ (∀ u : Nat, t < u → u ≤ k → figI k u x = figI k u y) ∧ figI k t x = fstI rows t (mixN k e x t)
structure OrdF (k : Nat) (rows : List (List Int)) (e n : Nat) (L : List Nat) : Prop where
  len : L.length = 2 ^ n
  mem : ∀ x ∈ L, x < 2 ^ k ∧ ∀ t : Nat, 1 ≤ t → t ≤ k - n → figI k t x = figI k t e
  all : ∀ x : Nat, x < 2 ^ k → (∀ t : Nat, 1 ≤ t → t ≤ k - n → figI k t x = figI k t e) → x ∈ L
  row : L.Pairwise (Ahead k rows e (k - n))
end L3

namespace L3
open PySem PySem.Spec PyProof.Rows L2
section
variable {lo : Int} {n k : Nat} {tt : TT} {te : TE} {Q : VK} {σ : L2.St} {H : Hp}
end
theorem flat_strs {xs : List Str} : (xs.map V.str).all flatV = true := by
  rw [List.all_eq_true]
  intro v hv
  obtain ⟨x, _, rfl⟩ := List.mem_map.mp hv
  rfl
end L3

namespace L3
open PySem PySem.Spec PyProof.Rows L2
def LsR (H : Hp) (x : V) (row : List Int) : Prop := ∃ r, x = .ref r ∧ H r = some (.lst (row.map V.int))
def LsB (H : Hp) (x : V) (rows : List (List Int)) : Prop := ∃ l xs, x = .ref l ∧ H l = some (.lst xs) ∧ AllR (LsR H) xs rows
def LsN (a : Addr) (H : Hp) (x : V) (row : List Int) : Prop := ∃ r, x = .ref r ∧ r ∉ [a] ∧ H r = some (.lst (row.map V.int))
def LsA (a : Addr) (H : Hp) (x : V) (rows : List (List Int)) : Prop := ∃ l xs, x = .ref l ∧ l ∉ [a] ∧ H l = some (.lst xs) ∧ AllR (LsN a H) xs rows
theorem LsA.b {a : Addr} {H : Hp} {x : V} {rows : List (List Int)} (h : LsA a H x rows) : LsB H x rows := by
  obtain ⟨l, xs, e, n, z, w⟩ := h
  exact ⟨l, xs, e, z, w.imp fun _ _ ⟨r, e, _, z⟩ => ⟨r, e, z⟩⟩
end L3

namespace L3
open PySem PySem.Spec PyProof.Rows L2
end L3

namespace L3
open PySem PySem.Spec PyProof.Rows L2
section
variable {X : Cx}
end
end L3
namespace L3
open PySem PySem.Spec PyProof.Rows L2
end L3

namespace L3
open PySem PySem.Spec PyProof.Rows L2
section
variable {X : Cx}
end
end L3

namespace L3
open PySem PySem.Spec PyProof.Rows L2
end L3

namespace L3
open PySem PySem.Spec PyProof.Rows L2
section
variable {X : Cx} {K : PySem.W.Frag}
end
end L3

namespace L3
open PySem PySem.Spec PyProof.Rows L2
abbrev IsZp (h : Heap) (z TI TO : Addr) (f0 f1 : Value) : Prop := h.get? z = some ⟨.type "zip", none, .fields #[f0, f1, .bool false, .ref TI, .ref TO], #[]⟩
def FreeT (h : Heap) (f0 : Value) : Prop := f0 = .none ∨ ∃ a t, f0 = .int a t ∧ h.get? a.toNat = none
def HeldT (h : Heap) (f0 : Value) : Prop := ∃ a t o, f0 = .int a t ∧ h.get? a.toNat = some o
section
variable {prog : Program} {w : World} {A : Around} {E : Value → Shared → Prop} {s : Shared}
theorem zp_f0 {h : Heap} {z TI TO : Addr} {f0 f1 : Value} (hz : IsZp h z TI TO f0 f1) (v : Value) : IsZp (h.update z (Obj.mapFields fun x => x.setIfInBounds 0 v)) z TI TO v f1 ∧ Heap.SameBut z h (h.update z (Obj.mapFields fun x => x.setIfInBounds 0 v)) :=
  ⟨Heap.get?_update_self _ hz rfl, Heap.SameBut.update ..⟩
theorem zp_f1 {h : Heap} {z TI TO : Addr} {f0 f1 : Value} (hz : IsZp h z TI TO f0 f1) (v : Value) : IsZp (h.update z (Obj.mapFields fun x => x.setIfInBounds 1 v)) z TI TO f0 v ∧ Heap.SameBut z h (h.update z (Obj.mapFields fun x => x.setIfInBounds 1 v)) :=
  ⟨Heap.get?_update_self _ hz rfl, Heap.SameBut.update ..⟩
theorem look_alive {M : Model} {a : Addr} {Q : Option Obj → Shared → Prop} (h : Q (s.heap.get? a) s) : wpAny M A (loadIfAlive a) Q E s := fun _ _ _ => h
theorem free_go {z TI TO : Addr} {f0 f1 : Value} {Q : Bool → Shared → Prop} (hz : IsZp s.heap z TI TO f0 f1) (hf : FreeT s.heap f0) (h : Q true s) : wpAny (model prog w) A (Builtin.SmallTypes.ownedTupleIsFree (.ref z)) Q E s := by
  unfold Builtin.SmallTypes.ownedTupleIsFree
  rcases hf with rfl | ⟨a, t, rfl, e⟩
  · exact wpAny_bind (wpAny_field hz rfl (x := .none) rfl (wpAny_pure h))
  · refine wpAny_bind (wpAny_field hz rfl (x := .int a t) rfl ?_)
    refine wpAny_bind (look_alive ?_)
    rw [e]
    exact wpAny_pure h
theorem held_go {z TI TO : Addr} {f0 f1 : Value} {Q : Bool → Shared → Prop} (hz : IsZp s.heap z TI TO f0 f1) (hf : HeldT s.heap f0) (h : ∀ h', IsZp h' z TI TO f0 (.bool true) → Heap.SameBut z s.heap h' → Q false { s with heap := h' }) :
    wpAny (model prog w) A (Builtin.SmallTypes.ownedTupleIsFree (.ref z)) Q E s := by
  unfold Builtin.SmallTypes.ownedTupleIsFree
  obtain ⟨a, t, o, rfl, e⟩ := hf
  refine wpAny_bind (wpAny_field hz rfl (x := .int a t) rfl ?_)
  refine wpAny_bind (look_alive ?_)
  rw [e]
  refine wpAny_bind (wpAny_field hz rfl (x := f1) rfl ?_)
  by_cases c : f1 = .bool true
  · subst c
    exact wpAny_pure (h _ hz ⟨rfl, fun _ _ => rfl⟩)
  · obtain ⟨hz2, sb⟩ := zp_f1 hz (.bool true)
    dsimp only
    rw [if_pos (by simpa using c)]
    exact wpAny_bind (wpAny_setField hz rfl (by show 1 < 5; decide) (wpAny_pure (h _ hz2 sb)))
theorem zip_itemF {z TI TO i1 i2 : Addr} {fp1 fp2 : List Addr} {n1 n2 i : Nat} {P1 P2 : Nat → Value → Prop} {St1 St2 : Nat → Heap → Prop} {a b f0 f1 : Value} {Q : Value → Shared → Prop}
    (D1 : Draws prog w A i1 fp1 n1 P1 St1) (D2 : Draws prog w A i2 fp2 n2 P2 St2)
    (hz : IsZp s.heap z TI TO f0 f1) (hfr : FreeT s.heap f0) (hI : IsPair s.heap TI (.ref i1) (.ref i2)) (hO : IsPair s.heap TO a b) (st1 : St1 i s.heap) (st2 : St2 i s.heap) (l1 : i < n1) (l2 : i < n2)
    (z1 : z ∉ fp1) (z2 : z ∉ fp2) (o1 : TO ∉ fp1) (o2 : TO ∉ fp2) (x12 : i2 ∉ fp1) (x21 : i1 ∉ fp2) (iz1 : i1 ≠ z) (iz2 : i2 ≠ z) (io1 : i1 ≠ TO) (io2 : i2 ≠ TO) (oz : TO ≠ z) (tz : TI ≠ z) (tO : TI ≠ TO) (ti1 : TI ≠ i1) (ti2 : TI ≠ i2)
    (hQ : ∀ x y h' tk, P1 i x → P2 i y → IsZp h' z TI TO (rawInt s.heap.objs.size) (.bool false) → IsPair h' TI (.ref i1) (.ref i2) → IsPair h' TO x y → St1 (i + 1) h' → St2 (i + 1) h' → IsPair h' s.heap.objs.size x y → h'.objs.size = s.heap.objs.size + 1 →
      (∀ c o, c ≠ z → c ≠ TO → c ≠ i1 → c ≠ i2 → s.heap.get? c = some o → h'.get? c = some o) → Q (.ref s.heap.objs.size) { s with heap := h', toks := tk }) :
    wpAny (model prog w) A (Builtin.«zip.__next__» { pos := [.ref z] }) (fun fin s' => ∃ v, fin = Fin.done (Flow.ret v) ∧ Q v s') E s := by
  show wpAny _ _ (field (.ref z) 2 >>= _) _ _ s
  refine wpAny_bind (wpAny_field hz rfl (x := .bool false) rfl ?_)
  show wpAny _ _ (field (.ref z) 3 >>= _) _ _ s
  refine wpAny_bind (wpAny_field hz rfl (x := .ref TI) rfl ?_)
  show wpAny _ _ (seqItems? (.ref TI) >>= _) _ _ s
  refine wpAny_bind (wpAny_seqItems hI rfl ?_)
  show wpAny _ _ (Builtin.SmallTypes.ownedTupleIsFree (.ref z) >>= _) _ _ s
  refine wpAny_bind (free_go hz hfr ?_)
  show wpAny _ _ (rule _ >>= _) _ _ s
  refine wpAny_bind (wpAny_rule ?_)
  show wpAny _ _ (field (.ref z) 4 >>= _) _ _ s
  refine wpAny_bind (wpAny_field hz rfl (x := .ref TO) rfl ?_)
  show wpAny _ _ (setField (.ref z) 0 .ellipsis >>= _) _ _ s
  refine wpAny_bind (wpAny_setField hz rfl (by show 0 < 5; decide) ?_)
  obtain ⟨hz0, sb0⟩ := zp_f0 hz .ellipsis
  revert hz0 sb0
  generalize s.heap.update z (Obj.mapFields fun x => x.setIfInBounds 0 Value.ellipsis) = h0
  intro hz0 sb0
  have no : ∀ b, b ≠ z → ∀ o, s.heap.get? b = some o → h0.get? b = some o := fun b hb o e => (sb0.2 b hb).trans e
  refine wpAny_bind ?_
  show wpAny _ _ (forIn [(Value.ref i1, 0), (Value.ref i2, 1)] (none, ()) _) _ _ _
  rw [List.forIn_cons]
  refine wpAny_bind (wpAny_bind (wpAny_onRaise ?_))
  show wpAny _ _ (Builtin.SmallTypes.nextOf (.ref i1) >>= fun x => pure (some x)) _ _ _
  refine wpAny_bind (D1.item i { s with heap := h0 } _ _ l1 (D1.frame _ _ _ st1 fun b hb o e => no b (fun q => z1 (q ▸ hb)) o e) fun x h1 tk1 p1 st1' sb1 => wpAny_pure ?_)
  have hO1 : IsPair h1 TO a b := (sb1.2 TO (Ne.symm io1)).trans (no TO oz _ hO)
  show wpAny _ _ (seqItems? (.ref TO) >>= _) _ _ _
  refine wpAny_bind (wpAny_seqItems (s := { s with heap := h1, toks := tk1 }) hO1 rfl ?_)
  show wpAny _ _ (updateSeq TO _ >>= _) _ _ _
  refine wpAny_bind (wpAny_updateSeq (s := { s with heap := h1, toks := tk1 }) hO1 rfl ?_)
  obtain ⟨hO2, sb2⟩ := pair_0 hO1 x
  revert hO2 sb2
  show IsPair (h1.update TO (Obj.mapSeq fun q => q.setIfInBounds 0 x)) TO x b → Heap.SameBut TO h1 (h1.update TO (Obj.mapSeq fun q => q.setIfInBounds 0 x)) → wpAny _ _ _ _ _ { s with heap := h1.update TO (Obj.mapSeq fun q => q.setIfInBounds 0 x), toks := tk1 }
  generalize h1.update TO (Obj.mapSeq fun q => q.setIfInBounds 0 x) = h2
  intro hO2 sb2
  refine wpAny_bind (wpAny_letGo (wpAny_pure ?_))
  show wpAny _ _ (forIn [(Value.ref i2, 1)] (none, ()) _) _ _ _
  rw [List.forIn_cons]
  refine wpAny_bind (wpAny_bind (wpAny_onRaise ?_))
  show wpAny _ _ (Builtin.SmallTypes.nextOf (.ref i2) >>= fun x => pure (some x)) _ _ _
  have k2 : ∀ c o, c ≠ z → c ≠ TO → c ≠ i1 → s.heap.get? c = some o → h2.get? c = some o := fun c o c1 c2 c3 e => (sb2.2 c c2).trans ((sb1.2 c c3).trans (no c c1 o e))
  refine wpAny_bind (D2.item i { s with heap := h2, toks := tk1 } _ _ l2 (D2.frame _ _ _ st2 fun c hc o e => k2 c o (fun q => z2 (q ▸ hc)) (fun q => o2 (q ▸ hc)) (fun q => x21 (q ▸ hc)) e) fun y h3 tk3 p2 st2' sb3 => wpAny_pure ?_)
  have hO3 : IsPair h3 TO x b := (sb3.2 TO (Ne.symm io2)).trans hO2
  show wpAny _ _ (seqItems? (.ref TO) >>= _) _ _ _
  refine wpAny_bind (wpAny_seqItems (s := { s with heap := h3, toks := tk3 }) hO3 rfl ?_)
  show wpAny _ _ (updateSeq TO _ >>= _) _ _ _
  refine wpAny_bind (wpAny_updateSeq (s := { s with heap := h3, toks := tk3 }) hO3 rfl ?_)
  obtain ⟨hO4, sb4⟩ := pair_1 hO3 y
  revert hO4 sb4
  show IsPair (h3.update TO (Obj.mapSeq fun q => q.setIfInBounds 1 y)) TO x y → Heap.SameBut TO h3 (h3.update TO (Obj.mapSeq fun q => q.setIfInBounds 1 y)) → wpAny _ _ _ _ _ { s with heap := h3.update TO (Obj.mapSeq fun q => q.setIfInBounds 1 y), toks := tk3 }
  generalize h3.update TO (Obj.mapSeq fun q => q.setIfInBounds 1 y) = h4
  intro hO4 sb4
  refine wpAny_bind (wpAny_letGo (wpAny_pure ?_))
  show wpAny _ _ (forIn [] (none, ()) _) _ _ _
  rw [List.forIn_nil]
  refine wpAny_pure ?_
  show wpAny _ _ (seqItems? (.ref TO) >>= _) _ _ _
  refine wpAny_bind (wpAny_seqItems (s := { s with heap := h4, toks := tk3 }) hO4 rfl ?_)
  show wpAny _ _ (newTuple [x, y] >>= _) _ _ _
  refine wpAny_bind ?_
  simp only [newTuple]
  have k4 : ∀ c o, c ≠ z → c ≠ TO → c ≠ i1 → c ≠ i2 → s.heap.get? c = some o → h4.get? c = some o := fun c o c1 c2 c3 c4 e => (sb4.2 c c2).trans ((sb3.2 c c4).trans (k2 c o c1 c2 c3 e))
  have hz4 : IsZp h4 z TI TO .ellipsis f1 := (sb4.2 z (Ne.symm oz)).trans ((sb3.2 z (Ne.symm iz2)).trans ((sb2.2 z (Ne.symm oz)).trans ((sb1.2 z (Ne.symm iz1)).trans hz0)))
  have s1' : St1 (i + 1) h4 := D1.frame _ _ _ st1' fun c hc o e => (sb4.2 c (fun q => o1 (q ▸ hc))).trans ((sb3.2 c (fun q => x12 (q ▸ hc))).trans ((sb2.2 c (fun q => o1 (q ▸ hc))).trans e))
  have s2' : St2 (i + 1) h4 := D2.frame _ _ _ st2' fun c hc o e => (sb4.2 c (fun q => o2 (q ▸ hc))).trans e
  have sz4 : h4.objs.size = s.heap.objs.size := by rw [sb4.1, sb3.1, sb2.1, sb1.1, sb0.1]
  refine wpAny_newObj_type ?_ (by size_fits)
  have hz5 : IsZp (h4.push { cls := .type "tuple", data := .seq #[x, y] }) z TI TO .ellipsis f1 := Heap.get?_push_of_some _ hz4
  have hT5 : IsPair (h4.push { cls := .type "tuple", data := .seq #[x, y] }) h4.objs.size x y := Heap.get?_push_size _ rfl
  have sz5 : (h4.push { cls := .type "tuple", data := .seq #[x, y] }).objs.size = h4.objs.size + 1 := Heap.size_push ..
  have k5 : ∀ c o, h4.get? c = some o → (h4.push { cls := .type "tuple", data := .seq #[x, y] }).get? c = some o := fun c o e => Heap.get?_push_of_some _ e
  show wpAny _ _ _ _ _ { s with heap := h4.push { cls := .type "tuple", data := .seq #[x, y] }, toks := tk3 }
  revert hz5 hT5 sz5 k5
  generalize h4.push { cls := .type "tuple", data := .seq #[x, y] } = h5
  intro hz5 hT5 sz5 k5
  show wpAny _ _ (Builtin.SmallTypes.ownedTupleHandOut (.ref z) (.ref h4.objs.size) >>= fun _ => pure (Fin.done (Flow.ret (.ref h4.objs.size)))) _ _ _
  rw [sz4] at hT5 sz5 ⊢
  refine wpAny_bind ?_
  show wpAny _ _ (setField (.ref z) 0 (rawInt s.heap.objs.size) >>= fun _ => setField (.ref z) 1 (.bool false)) _ _ _
  refine wpAny_bind (wpAny_setField (s := { s with heap := h5, toks := tk3 }) hz5 rfl (by show 0 < 5; decide) ?_)
  obtain ⟨hz6, sb6⟩ := zp_f0 hz5 (rawInt s.heap.objs.size)
  obtain ⟨hz7, sb7⟩ := zp_f1 hz6 (.bool false)
  refine wpAny_setField hz6 rfl (by show 1 < 5; decide) (wpAny_pure ⟨_, rfl, ?_⟩)
  have k7 : ∀ c o, c ≠ z → h4.get? c = some o → ((h5.update z (Obj.mapFields fun x => x.setIfInBounds 0 (rawInt s.heap.objs.size))).update z (Obj.mapFields fun x => x.setIfInBounds 1 (.bool false))).get? c = some o := fun c o c1 e => (sb7.2 c c1).trans ((sb6.2 c c1).trans (k5 c o e))
  have nT : s.heap.objs.size ≠ z := Nat.ne_of_gt (Heap.lt_size hz)
  exact hQ x y _ tk3 p1 p2 hz7 (k7 TI _ tz (k4 TI _ tz tO ti1 ti2 hI)) (k7 TO _ oz hO4) (D1.frame _ _ _ s1' fun c hc o e => k7 c o (fun q => z1 (q ▸ hc)) e) (D2.frame _ _ _ s2' fun c hc o e => k7 c o (fun q => z2 (q ▸ hc)) e) ((sb7.2 _ nT).trans ((sb6.2 _ nT).trans hT5)) (by rw [sb7.1, sb6.1, sz5]) fun c o c1 c2 c3 c4 e => k7 c o c1 (k4 c o c1 c2 c3 c4 e)
theorem zip_endF1 {z TI TO i1 i2 : Addr} {fp1 : List Addr} {n1 : Nat} {P1 : Nat → Value → Prop} {St1 : Nat → Heap → Prop} {a b f0 f1 : Value} {Q : Fin → Shared → Prop}
    (D1 : Draws prog w A i1 fp1 n1 P1 St1)
    (hz : IsZp s.heap z TI TO f0 f1) (hfr : FreeT s.heap f0) (hI : IsPair s.heap TI (.ref i1) (.ref i2)) (hO : IsPair s.heap TO a b) (st1 : St1 n1 s.heap)
    (z1 : z ∉ fp1) (iz1 : i1 ≠ z)
    (hE : ∀ h' e tk, (∀ c o, c ≠ z → c ≠ TO → c ≠ i1 → c ≠ i2 → s.heap.get? c = some o → h'.get? c = some o) → (∃ o, h'.get? e = some o ∧ o.cls = .type "StopIteration") → E (.ref e) { s with heap := h', toks := tk }) :
    wpAny (model prog w) A (Builtin.«zip.__next__» { pos := [.ref z] }) Q E s := by
  show wpAny _ _ (field (.ref z) 2 >>= _) _ _ s
  refine wpAny_bind (wpAny_field hz rfl (x := .bool false) rfl ?_)
  show wpAny _ _ (field (.ref z) 3 >>= _) _ _ s
  refine wpAny_bind (wpAny_field hz rfl (x := .ref TI) rfl ?_)
  show wpAny _ _ (seqItems? (.ref TI) >>= _) _ _ s
  refine wpAny_bind (wpAny_seqItems hI rfl ?_)
  show wpAny _ _ (Builtin.SmallTypes.ownedTupleIsFree (.ref z) >>= _) _ _ s
  refine wpAny_bind (free_go hz hfr ?_)
  show wpAny _ _ (rule _ >>= _) _ _ s
  refine wpAny_bind (wpAny_rule ?_)
  show wpAny _ _ (field (.ref z) 4 >>= _) _ _ s
  refine wpAny_bind (wpAny_field hz rfl (x := .ref TO) rfl ?_)
  show wpAny _ _ (setField (.ref z) 0 .ellipsis >>= _) _ _ s
  refine wpAny_bind (wpAny_setField hz rfl (by show 0 < 5; decide) ?_)
  obtain ⟨hz0, sb0⟩ := zp_f0 hz .ellipsis
  revert hz0 sb0
  generalize s.heap.update z (Obj.mapFields fun x => x.setIfInBounds 0 Value.ellipsis) = h0
  intro hz0 sb0
  have no : ∀ b, b ≠ z → ∀ o, s.heap.get? b = some o → h0.get? b = some o := fun b hb o e => (sb0.2 b hb).trans e
  refine wpAny_bind ?_
  show wpAny _ _ (forIn [(Value.ref i1, 0), (Value.ref i2, 1)] (none, ()) _) _ _ _
  rw [List.forIn_cons]
  refine wpAny_bind (wpAny_bind (wpAny_onRaise ?_))
  show wpAny _ _ (Builtin.SmallTypes.nextOf (.ref i1) >>= fun x => pure (some x)) _ _ _
  refine wpAny_bind (D1.done { s with heap := h0 } _ _ (D1.frame _ _ _ st1 fun b hb o e => no b (fun q => z1 (q ▸ hb)) o e) fun h1 e xb hs => ?_)
  have hz1 : IsZp h1 z TI TO .ellipsis f1 := xb z _ (Ne.symm iz1) hz0
  obtain ⟨hz2, sb2⟩ := zp_f0 hz1 .none
  refine wpAny_setField (s := { s with heap := h1 }) hz1 rfl (by show 0 < 5; decide) (hE _ e s.toks (fun c o c1 c2 c3 c4 q => (sb2.2 c c1).trans (xb c o c3 (no c c1 o q))) ?_)
  obtain ⟨o, ho, hc⟩ := hs
  refine ⟨o, (sb2.2 e fun q => ?_).trans ho, hc⟩
  rw [q, hz1] at ho
  obtain rfl := Option.some.inj ho
  exact absurd hc (by show ¬ (Value.type "zip" = Value.type "StopIteration"); decide)
theorem zip_endF2 {z TI TO i1 i2 : Addr} {fp1 fp2 : List Addr} {n1 i : Nat} {P1 P2 : Nat → Value → Prop} {St1 St2 : Nat → Heap → Prop} {a b f0 f1 : Value} {Q : Fin → Shared → Prop}
    (D1 : Draws prog w A i1 fp1 n1 P1 St1) (D2 : Draws prog w A i2 fp2 i P2 St2)
    (hz : IsZp s.heap z TI TO f0 f1) (hfr : FreeT s.heap f0) (hI : IsPair s.heap TI (.ref i1) (.ref i2)) (hO : IsPair s.heap TO a b) (st1 : St1 i s.heap) (st2 : St2 i s.heap) (l1 : i < n1)
    (z1 : z ∉ fp1) (z2 : z ∉ fp2) (o2 : TO ∉ fp2) (x21 : i1 ∉ fp2) (iz1 : i1 ≠ z) (iz2 : i2 ≠ z) (io1 : i1 ≠ TO) (oz : TO ≠ z)
    (hE : ∀ h' e tk, (∀ c o, c ≠ z → c ≠ TO → c ≠ i1 → c ≠ i2 → s.heap.get? c = some o → h'.get? c = some o) → (∃ o, h'.get? e = some o ∧ o.cls = .type "StopIteration") → E (.ref e) { s with heap := h', toks := tk }) :
    wpAny (model prog w) A (Builtin.«zip.__next__» { pos := [.ref z] }) Q E s := by
  show wpAny _ _ (field (.ref z) 2 >>= _) _ _ s
  refine wpAny_bind (wpAny_field hz rfl (x := .bool false) rfl ?_)
  show wpAny _ _ (field (.ref z) 3 >>= _) _ _ s
  refine wpAny_bind (wpAny_field hz rfl (x := .ref TI) rfl ?_)
  show wpAny _ _ (seqItems? (.ref TI) >>= _) _ _ s
  refine wpAny_bind (wpAny_seqItems hI rfl ?_)
  show wpAny _ _ (Builtin.SmallTypes.ownedTupleIsFree (.ref z) >>= _) _ _ s
  refine wpAny_bind (free_go hz hfr ?_)
  show wpAny _ _ (rule _ >>= _) _ _ s
  refine wpAny_bind (wpAny_rule ?_)
  show wpAny _ _ (field (.ref z) 4 >>= _) _ _ s
  refine wpAny_bind (wpAny_field hz rfl (x := .ref TO) rfl ?_)
  show wpAny _ _ (setField (.ref z) 0 .ellipsis >>= _) _ _ s
  refine wpAny_bind (wpAny_setField hz rfl (by show 0 < 5; decide) ?_)
  obtain ⟨hz0, sb0⟩ := zp_f0 hz .ellipsis
  revert hz0 sb0
  generalize s.heap.update z (Obj.mapFields fun x => x.setIfInBounds 0 Value.ellipsis) = h0
  intro hz0 sb0
  have no : ∀ b, b ≠ z → ∀ o, s.heap.get? b = some o → h0.get? b = some o := fun b hb o e => (sb0.2 b hb).trans e
  refine wpAny_bind ?_
  show wpAny _ _ (forIn [(Value.ref i1, 0), (Value.ref i2, 1)] (none, ()) _) _ _ _
  rw [List.forIn_cons]
  refine wpAny_bind (wpAny_bind (wpAny_onRaise ?_))
  show wpAny _ _ (Builtin.SmallTypes.nextOf (.ref i1) >>= fun x => pure (some x)) _ _ _
  refine wpAny_bind (D1.item i { s with heap := h0 } _ _ l1 (D1.frame _ _ _ st1 fun b hb o e => no b (fun q => z1 (q ▸ hb)) o e) fun x h1 tk1 p1 st1' sb1 => wpAny_pure ?_)
  have hO1 : IsPair h1 TO a b := (sb1.2 TO (Ne.symm io1)).trans (no TO oz _ hO)
  show wpAny _ _ (seqItems? (.ref TO) >>= _) _ _ _
  refine wpAny_bind (wpAny_seqItems (s := { s with heap := h1, toks := tk1 }) hO1 rfl ?_)
  show wpAny _ _ (updateSeq TO _ >>= _) _ _ _
  refine wpAny_bind (wpAny_updateSeq (s := { s with heap := h1, toks := tk1 }) hO1 rfl ?_)
  obtain ⟨hO2, sb2⟩ := pair_0 hO1 x
  revert hO2 sb2
  show IsPair (h1.update TO (Obj.mapSeq fun q => q.setIfInBounds 0 x)) TO x b → Heap.SameBut TO h1 (h1.update TO (Obj.mapSeq fun q => q.setIfInBounds 0 x)) → wpAny _ _ _ _ _ { s with heap := h1.update TO (Obj.mapSeq fun q => q.setIfInBounds 0 x), toks := tk1 }
  generalize h1.update TO (Obj.mapSeq fun q => q.setIfInBounds 0 x) = h2
  intro hO2 sb2
  refine wpAny_bind (wpAny_letGo (wpAny_pure ?_))
  show wpAny _ _ (forIn [(Value.ref i2, 1)] (none, ()) _) _ _ _
  rw [List.forIn_cons]
  refine wpAny_bind (wpAny_bind (wpAny_onRaise ?_))
  show wpAny _ _ (Builtin.SmallTypes.nextOf (.ref i2) >>= fun x => pure (some x)) _ _ _
  have k2 : ∀ c o, c ≠ z → c ≠ TO → c ≠ i1 → s.heap.get? c = some o → h2.get? c = some o := fun c o c1 c2 c3 e => (sb2.2 c c2).trans ((sb1.2 c c3).trans (no c c1 o e))
  have hz2 : IsZp h2 z TI TO .ellipsis f1 := (sb2.2 z (Ne.symm oz)).trans ((sb1.2 z (Ne.symm iz1)).trans hz0)
  refine wpAny_bind (D2.done { s with heap := h2, toks := tk1 } _ _ (D2.frame _ _ _ st2 fun c hc o e => k2 c o (fun q => z2 (q ▸ hc)) (fun q => o2 (q ▸ hc)) (fun q => x21 (q ▸ hc)) e) fun h3 e xb hs => ?_)
  have hz3 : IsZp h3 z TI TO .ellipsis f1 := xb z _ (Ne.symm iz2) hz2
  obtain ⟨hz4, sb4⟩ := zp_f0 hz3 .none
  refine wpAny_setField (s := { s with heap := h3, toks := tk1 }) hz3 rfl (by show 0 < 5; decide) (hE _ e tk1 (fun c o c1 c2 c3 c4 q => (sb4.2 c c1).trans (xb c o c4 (k2 c o c1 c2 c3 q))) ?_)
  obtain ⟨o, ho, hc⟩ := hs
  refine ⟨o, (sb4.2 e fun q => ?_).trans ho, hc⟩
  rw [q, hz3] at ho
  obtain rfl := Option.some.inj ho
  exact absurd hc (by show ¬ (Value.type "zip" = Value.type "StopIteration"); decide)
theorem zip_itemH {z TI TO i1 i2 : Addr} {fp1 fp2 : List Addr} {n1 n2 i : Nat} {P1 P2 : Nat → Value → Prop} {St1 St2 : Nat → Heap → Prop} {a b f0 f1 : Value} {Q : Value → Shared → Prop}
    (D1 : Draws prog w A i1 fp1 n1 P1 St1) (D2 : Draws prog w A i2 fp2 n2 P2 St2)
    (hz : IsZp s.heap z TI TO f0 f1) (hfr : HeldT s.heap f0) (hI : IsPair s.heap TI (.ref i1) (.ref i2)) (hO : IsPair s.heap TO a b) (st1 : St1 i s.heap) (st2 : St2 i s.heap) (l1 : i < n1) (l2 : i < n2)
    (z1 : z ∉ fp1) (z2 : z ∉ fp2) (x12 : i2 ∉ fp1) (x21 : i1 ∉ fp2) (iz1 : i1 ≠ z) (iz2 : i2 ≠ z) (io1 : i1 ≠ TO) (io2 : i2 ≠ TO) (oz : TO ≠ z) (tz : TI ≠ z) (ti1 : TI ≠ i1) (ti2 : TI ≠ i2)
    (hQ : ∀ x y h' tk, P1 i x → P2 i y → IsZp h' z TI TO f0 (.bool true) → IsPair h' TI (.ref i1) (.ref i2) → IsPair h' TO a b → St1 (i + 1) h' → St2 (i + 1) h' → IsPair h' s.heap.objs.size x y → h'.objs.size = s.heap.objs.size + 1 →
      (∀ c o, c ≠ z → c ≠ i1 → c ≠ i2 → s.heap.get? c = some o → h'.get? c = some o) → Q (.ref s.heap.objs.size) { s with heap := h', toks := tk }) :
    wpAny (model prog w) A (Builtin.«zip.__next__» { pos := [.ref z] }) (fun fin s' => ∃ v, fin = Fin.done (Flow.ret v) ∧ Q v s') E s := by
  show wpAny _ _ (field (.ref z) 2 >>= _) _ _ s
  refine wpAny_bind (wpAny_field hz rfl (x := .bool false) rfl ?_)
  show wpAny _ _ (field (.ref z) 3 >>= _) _ _ s
  refine wpAny_bind (wpAny_field hz rfl (x := .ref TI) rfl ?_)
  show wpAny _ _ (seqItems? (.ref TI) >>= _) _ _ s
  refine wpAny_bind (wpAny_seqItems hI rfl ?_)
  show wpAny _ _ (Builtin.SmallTypes.ownedTupleIsFree (.ref z) >>= _) _ _ s
  refine wpAny_bind (held_go hz hfr fun h0 hz0 sb0 => ?_)
  have no : ∀ b, b ≠ z → ∀ o, s.heap.get? b = some o → h0.get? b = some o := fun b hb o e => (sb0.2 b hb).trans e
  refine wpAny_bind ?_
  show wpAny _ _ (forIn #[Value.ref i1, Value.ref i2] (none, #[]) _) _ _ _
  rw [← Array.forIn_toList]
  show wpAny _ _ (forIn [Value.ref i1, Value.ref i2] (none, #[]) _) _ _ _
  rw [List.forIn_cons]
  refine wpAny_bind (wpAny_bind (wpAny_holding ?_))
  show wpAny _ _ (Builtin.SmallTypes.nextOf (.ref i1) >>= fun x => pure (some x)) _ _ _
  refine wpAny_bind (D1.item i { s with heap := h0 } _ _ l1 (D1.frame _ _ _ st1 fun b hb o e => no b (fun q => z1 (q ▸ hb)) o e) fun x h1 tk1 p1 st1' sb1 => wpAny_pure ?_)
  refine wpAny_pure ?_
  show wpAny _ _ (forIn [Value.ref i2] (none, #[x]) _) _ _ _
  rw [List.forIn_cons]
  refine wpAny_bind (wpAny_bind (wpAny_holding ?_))
  show wpAny _ _ (Builtin.SmallTypes.nextOf (.ref i2) >>= fun x => pure (some x)) _ _ _
  have k1 : ∀ c o, c ≠ z → c ≠ i1 → s.heap.get? c = some o → h1.get? c = some o := fun c o c1 c3 e => (sb1.2 c c3).trans (no c c1 o e)
  refine wpAny_bind (D2.item i { s with heap := h1, toks := tk1 } _ _ l2 (D2.frame _ _ _ st2 fun c hc o e => k1 c o (fun q => z2 (q ▸ hc)) (fun q => x21 (q ▸ hc)) e) fun y h2 tk2 p2 st2' sb2 => wpAny_pure ?_)
  refine wpAny_pure ?_
  show wpAny _ _ (forIn [] (none, #[x, y]) _) _ _ _
  rw [List.forIn_nil]
  refine wpAny_pure ?_
  show wpAny _ _ (newTuple [x, y] >>= fun r => pure (Fin.done (Flow.ret r))) _ _ _
  refine wpAny_bind ?_
  simp only [newTuple]
  refine wpAny_newObj_type ?_ (by size_fits)
  have k2 : ∀ c o, c ≠ z → c ≠ i1 → c ≠ i2 → s.heap.get? c = some o → h2.get? c = some o := fun c o c1 c3 c4 e => (sb2.2 c c4).trans (k1 c o c1 c3 e)
  have sz2 : h2.objs.size = s.heap.objs.size := by rw [sb2.1, sb1.1, sb0.1]
  have hz2 : IsZp h2 z TI TO f0 (.bool true) := (sb2.2 z (Ne.symm iz2)).trans ((sb1.2 z (Ne.symm iz1)).trans hz0)
  have t1 : St1 (i + 1) h2 := D1.frame _ _ _ st1' fun c hc o e => (sb2.2 c (fun q => x12 (q ▸ hc))).trans e
  have hT : IsPair (h2.push { cls := .type "tuple", data := .seq #[x, y] }) h2.objs.size x y := Heap.get?_push_size _ rfl
  have sz3 : (h2.push { cls := .type "tuple", data := .seq #[x, y] }).objs.size = h2.objs.size + 1 := Heap.size_push ..
  rw [sz2] at hT sz3
  show wpAny _ _ (pure (Fin.done (Flow.ret (.ref h2.objs.size)))) _ _ { s with heap := h2.push { cls := .type "tuple", data := .seq #[x, y] }, toks := tk2 }
  rw [sz2]
  exact wpAny_pure ⟨_, rfl, hQ x y _ tk2 p1 p2 (Heap.get?_push_of_some _ hz2) (Heap.get?_push_of_some _ (k2 TI _ tz ti1 ti2 hI)) (Heap.get?_push_of_some _ (k2 TO _ oz (Ne.symm io1) (Ne.symm io2) hO))
    (D1.frame _ _ _ t1 fun c hc o e => Heap.get?_push_of_some _ e) (D2.frame _ _ _ st2' fun c hc o e => Heap.get?_push_of_some _ e) hT sz3 fun c o c1 c3 c4 e => Heap.get?_push_of_some _ (k2 c o c1 c3 c4 e)⟩
theorem zip_endH1 {z TI TO i1 i2 : Addr} {fp1 : List Addr} {n1 : Nat} {P1 : Nat → Value → Prop} {St1 : Nat → Heap → Prop} {f0 f1 : Value} {Q : Fin → Shared → Prop}
    (D1 : Draws prog w A i1 fp1 n1 P1 St1)
    (hz : IsZp s.heap z TI TO f0 f1) (hfr : HeldT s.heap f0) (hI : IsPair s.heap TI (.ref i1) (.ref i2)) (st1 : St1 n1 s.heap) (z1 : z ∉ fp1)
    (hE : ∀ h' e tk, (∀ c o, c ≠ z → c ≠ i1 → c ≠ i2 → s.heap.get? c = some o → h'.get? c = some o) → (∃ o, h'.get? e = some o ∧ o.cls = .type "StopIteration") → E (.ref e) { s with heap := h', toks := tk }) :
    wpAny (model prog w) A (Builtin.«zip.__next__» { pos := [.ref z] }) Q E s := by
  show wpAny _ _ (field (.ref z) 2 >>= _) _ _ s
  refine wpAny_bind (wpAny_field hz rfl (x := .bool false) rfl ?_)
  show wpAny _ _ (field (.ref z) 3 >>= _) _ _ s
  refine wpAny_bind (wpAny_field hz rfl (x := .ref TI) rfl ?_)
  show wpAny _ _ (seqItems? (.ref TI) >>= _) _ _ s
  refine wpAny_bind (wpAny_seqItems hI rfl ?_)
  show wpAny _ _ (Builtin.SmallTypes.ownedTupleIsFree (.ref z) >>= _) _ _ s
  refine wpAny_bind (held_go hz hfr fun h0 hz0 sb0 => ?_)
  have no : ∀ b, b ≠ z → ∀ o, s.heap.get? b = some o → h0.get? b = some o := fun b hb o e => (sb0.2 b hb).trans e
  refine wpAny_bind ?_
  show wpAny _ _ (forIn #[Value.ref i1, Value.ref i2] (none, #[]) _) _ _ _
  rw [← Array.forIn_toList]
  show wpAny _ _ (forIn [Value.ref i1, Value.ref i2] (none, #[]) _) _ _ _
  rw [List.forIn_cons]
  refine wpAny_bind (wpAny_bind (wpAny_holding ?_))
  show wpAny _ _ (Builtin.SmallTypes.nextOf (.ref i1) >>= fun x => pure (some x)) _ _ _
  exact wpAny_bind (D1.done { s with heap := h0 } _ _ (D1.frame _ _ _ st1 fun b hb o e => no b (fun q => z1 (q ▸ hb)) o e) fun h1 e xb hs => hE h1 e s.toks (fun c o c1 c3 c4 q => xb c o c3 (no c c1 o q)) hs)
theorem zip_endH2 {z TI TO i1 i2 : Addr} {fp1 fp2 : List Addr} {n1 i : Nat} {P1 P2 : Nat → Value → Prop} {St1 St2 : Nat → Heap → Prop} {f0 f1 : Value} {Q : Fin → Shared → Prop}
    (D1 : Draws prog w A i1 fp1 n1 P1 St1) (D2 : Draws prog w A i2 fp2 i P2 St2)
    (hz : IsZp s.heap z TI TO f0 f1) (hfr : HeldT s.heap f0) (hI : IsPair s.heap TI (.ref i1) (.ref i2)) (st1 : St1 i s.heap) (st2 : St2 i s.heap) (l1 : i < n1) (z1 : z ∉ fp1) (z2 : z ∉ fp2) (x21 : i1 ∉ fp2)
    (hE : ∀ h' e tk, (∀ c o, c ≠ z → c ≠ i1 → c ≠ i2 → s.heap.get? c = some o → h'.get? c = some o) → (∃ o, h'.get? e = some o ∧ o.cls = .type "StopIteration") → E (.ref e) { s with heap := h', toks := tk }) :
    wpAny (model prog w) A (Builtin.«zip.__next__» { pos := [.ref z] }) Q E s := by
  show wpAny _ _ (field (.ref z) 2 >>= _) _ _ s
  refine wpAny_bind (wpAny_field hz rfl (x := .bool false) rfl ?_)
  show wpAny _ _ (field (.ref z) 3 >>= _) _ _ s
  refine wpAny_bind (wpAny_field hz rfl (x := .ref TI) rfl ?_)
  show wpAny _ _ (seqItems? (.ref TI) >>= _) _ _ s
  refine wpAny_bind (wpAny_seqItems hI rfl ?_)
  show wpAny _ _ (Builtin.SmallTypes.ownedTupleIsFree (.ref z) >>= _) _ _ s
  refine wpAny_bind (held_go hz hfr fun h0 hz0 sb0 => ?_)
  have no : ∀ b, b ≠ z → ∀ o, s.heap.get? b = some o → h0.get? b = some o := fun b hb o e => (sb0.2 b hb).trans e
  refine wpAny_bind ?_
  show wpAny _ _ (forIn #[Value.ref i1, Value.ref i2] (none, #[]) _) _ _ _
  rw [← Array.forIn_toList]
  show wpAny _ _ (forIn [Value.ref i1, Value.ref i2] (none, #[]) _) _ _ _
  rw [List.forIn_cons]
  refine wpAny_bind (wpAny_bind (wpAny_holding ?_))
  show wpAny _ _ (Builtin.SmallTypes.nextOf (.ref i1) >>= fun x => pure (some x)) _ _ _
  refine wpAny_bind (D1.item i { s with heap := h0 } _ _ l1 (D1.frame _ _ _ st1 fun b hb o e => no b (fun q => z1 (q ▸ hb)) o e) fun x h1 tk1 p1 st1' sb1 => wpAny_pure ?_)
  refine wpAny_pure ?_
  show wpAny _ _ (forIn [Value.ref i2] (none, #[x]) _) _ _ _
  rw [List.forIn_cons]
  refine wpAny_bind (wpAny_bind (wpAny_holding ?_))
  show wpAny _ _ (Builtin.SmallTypes.nextOf (.ref i2) >>= fun x => pure (some x)) _ _ _
  have k1 : ∀ c o, c ≠ z → c ≠ i1 → s.heap.get? c = some o → h1.get? c = some o := fun c o c1 c3 e => (sb1.2 c c3).trans (no c c1 o e)
  exact wpAny_bind (D2.done { s with heap := h1, toks := tk1 } _ _ (D2.frame _ _ _ st2 fun c hc o e => k1 c o (fun q => z2 (q ▸ hc)) (fun q => x21 (q ▸ hc)) e) fun h2 e xb hs => hE h2 e tk1 (fun c o c1 c3 c4 q => xb c o c4 (k1 c o c1 c3 q)) hs)
end
end L3

namespace L3
open PySem PySem.Spec PyProof.Rows L2
section
variable {prog : Program} {w : World} {A : Around} {E : Value → Shared → Prop} {s : Shared}
theorem zp_ty {z TI TO : Addr} {f0 f1 : Value} (hz : IsZp s.heap z TI TO f0 f1) : s.TypeIs (.ref z) "zip" := ⟨_, hz, rfl⟩
theorem pn_zp {z TI TO : Addr} {f0 f1 : Value} {Q : Option Value → Shared → Prop} (hz : IsZp s.heap z TI TO f0 f1)
    (h : wpAny (model prog w) A.in1 (Builtin.«zip.__next__» { pos := [.ref z] }) (fun fin s' => ∃ v, fin = Fin.done (Flow.ret v) ∧ Q (some v) s')
      (fun e s' => ∃ a, e = .ref a ∧ (∃ o, s'.heap.get? a = some o ∧ o.cls = .type "StopIteration") ∧ Q none s') s) : wpAny (model prog w) A (pyNext (.ref z)) Q E s := by
  unfold pyNext
  refine wpAny_bind (wpAny_attempt (wpAny_callSpecial?_slot (name := Str.ofString "__next__") (zp_ty hz) F.slot_zip_next (wpAny_call_entry F.slot_zip_next (zp_ty hz) F.entry_zip_next (wpAny_mono h (fun fin s' hq => ?_) (fun e s' hq => ?_)) (F.args_zip_next_1 _))))
  · obtain ⟨v, rfl, q⟩ := hq
    exact ⟨v, rfl, wpAny_pure q⟩
  · obtain ⟨a, rfl, ho, q⟩ := hq
    exact stop_next ho q
theorem it_zp {z TI TO : Addr} {f0 f1 : Value} {Q : Value → Shared → Prop} (hz : IsZp s.heap z TI TO f0 f1) (h : Q (.ref z) s) : wpAny (model prog w) A (pyIter (.ref z)) Q E s := by
  refine wpAny_pyIter_slot (zp_ty hz) F.slot_zip_iter (wpAny_call_entry F.slot_zip_iter (zp_ty hz) F.entry_zip_iter ?_ (F.args_zip_iter_1 _))
  exact wpAny_pure ⟨_, rfl, "zip", _, zp_ty hz, F.slot_zip_next.lookup, h⟩
end
def ZipSN (c d : Bool) (z TI TO i1 i2 a b : Addr) (i : Nat) (h : Heap) : Prop :=
  (∃ f0 f1, IsZp h z TI TO f0 f1 ∧ (f0 = .none ∨ ∃ a t, f0 = Value.int a t)) ∧ IsPair h TI (.ref i1) (.ref i2) ∧ (∃ u v, IsPair h TO u v) ∧ IterC c h i1 a i ∧ IterC d h i2 b i
theorem freeOrHeld {h : Heap} {f0 : Value} (k : f0 = .none ∨ ∃ a t, f0 = Value.int a t) : FreeT h f0 ∨ HeldT h f0 := by
  rcases k with rfl | ⟨a, t, rfl⟩
  · exact .inl (.inl rfl)
  · cases e : h.get? a.toNat with
    | none => exact .inl (.inr ⟨a, t, rfl, e⟩)
    | some o => exact .inr ⟨a, t, o, rfl, e⟩
theorem turn_zipN {P : Program} {w : World} {K : PySem.W.Frag} {nm : Str} {pt : Pos} (c d : Bool) (a b n : Nat) (ha : a < n) (hb : b < n) :
    Turn P w K (.Name nm pt) (Itz K c a d b) [n + 4, n + 3, n + 2, n + 1, n] (n + 4) (ZipSN c d (n + 4) (n + 2) (n + 3) n (n + 1) a b) where
  mem := by simp
  obj := fun i h st q hq => by
    obtain ⟨⟨f0, f1, hz, _⟩, hI, ⟨u, v, hO⟩, s1, s2⟩ := st
    simp only [List.mem_cons, List.mem_nil_iff, or_false] at hq
    rcases hq with rfl | rfl | rfl | rfl | rfl
    · exact ⟨_, hz, fun v z => by cases z⟩
    · exact ⟨_, hO, fun v z => by cases z⟩
    · exact ⟨_, hI, fun v z => by cases z⟩
    · exact s2.obj
    · exact s1.obj
  keep := fun i h h' st k => by
    obtain ⟨⟨f0, f1, hz, hk⟩, hI, ⟨u, v, hO⟩, s1, s2⟩ := st
    exact ⟨⟨f0, f1, k _ (by simp) _ hz, hk⟩, k _ (by simp) _ hI, ⟨u, v, k _ (by simp) _ hO⟩, s1.at (k _ (by simp)), s2.at (k _ (by simp))⟩
  item := by
    intro X hP hw hK hc i pins s σ H E I hf st hg
    subst hP hw hK
    obtain ⟨⟨f0, f1, hz, hk0⟩, hI, ⟨u0, v0, hO⟩, s1, s2⟩ := st
    obtain ⟨xs, ys, x, y, hqa, hqb, hx, hy⟩ := hg
    obtain ⟨ia, ra, pa⟩ := inv_seqC I hqa
    obtain ⟨ib, rb, pb⟩ := inv_seqC I hqb
    obtain ⟨u, hu, ru⟩ := ra.get hx
    obtain ⟨v, hv, rv⟩ := rb.get hy
    have l1 : i < ia.toArray.size := by have := (List.getElem?_eq_some_iff.mp hu).1; simpa using this
    have l2 : i < ib.toArray.size := by have := (List.getElem?_eq_some_iff.mp hv).1; simpa using this
    have an : a ≠ n := Nat.ne_of_lt ha
    have bn : b ≠ n + 1 := by omega
    have zs : n + 4 < s.heap.objs.size := Heap.lt_size hz
    have fin : ∀ p q h1 tk, ia.toArray[i]? = some p → ib.toArray[i]? = some q → (∃ f0 f1, IsZp h1 (n + 4) (n + 2) (n + 3) f0 f1 ∧ (f0 = .none ∨ ∃ a t, f0 = Value.int a t)) → IsPair h1 (n + 2) (.ref n) (.ref (n + 1)) → (∃ u v, IsPair h1 (n + 3) u v) → IterC c h1 n a (i + 1) → IterC d h1 (n + 1) b (i + 1) → IsPair h1 s.heap.objs.size p q →
        (∀ c o, c ≠ n + 4 → c ≠ n + 3 → c ≠ n → c ≠ n + 1 → s.heap.get? c = some o → h1.get? c = some o) →
        ∃ u, some (Value.ref s.heap.objs.size) = some u ∧ wpAny (model X.prog X.w) X.A (letOwnedTupleGo (.Name nm pt) (.ref (n + 4)) u) (fun _ s2 => ∃ x H', Inv X pins σ H' s2 ∧ RelV x u ∧ (Itz X.K c a d b).yld i H x H' ∧ ZipSN c d (n + 4) (n + 2) (n + 3) n (n + 1) a b (i + 1) s2.heap ∧ ∀ b ∈ [n + 4, n + 3, n + 2, n + 1, n], H' b = none) E { s with heap := h1, toks := tk } := by
      intro p q h1 tk hp hq hz1 hI1 hO1 st1 st2 hT hk
      have ep : p = u := by
        have e2 : ia.toArray[i]? = some u := by simpa using hu
        rw [hp] at e2; exact Option.some.inj e2
      have eq' : q = v := by
        have e2 : ib.toArray[i]? = some v := by simpa using hv
        rw [hq] at e2; exact Option.some.inj e2
      subst ep eq'
      refine ⟨_, rfl, wpAny_pure ?_⟩
      have hk2 : ∀ b o, b ∉ [n + 4, n + 3, n + 2, n + 1, n] → s.heap.get? b = some o → h1.get? b = some o := fun b o hb q =>
        hk b o (fun z => hb (by simp [z])) (fun z => hb (by simp [z])) (fun z => hb (by simp [z])) (fun z => hb (by simp [z])) q
      have hn : H s.heap.objs.size = none := I.hok.fresh (Nat.le_refl _)
      have I2 : Inv X pins σ (upd H s.heap.objs.size (.tup [x, y])) { s with heap := h1, toks := tk } := turnLaid (s := s) I hk2 hf (Nat.le_refl _) ⟨by show 2 ≤ sizeLine; decide, [p, q], .cons ru (.cons rv .nil), _, hT, rfl, 0, rfl⟩
      refine ⟨.ref s.heap.objs.size, upd H s.heap.objs.size (.tup [x, y]), I2, rfl, ⟨_, x, y, hn, rfl, rfl, fun zs hz => by rw [inv_seqC_inj I hz hqa]; exact hx, fun zs hz => by rw [inv_seqC_inj I hz hqb]; exact hy⟩, ⟨hz1, hI1, hO1, st1, st2⟩, fun q hq => ?_⟩
      have nb : q ≠ s.heap.objs.size := by
        simp only [List.mem_cons, List.mem_nil_iff, or_false] at hq
        omega
      rw [upd_ne nb]; exact (hf q hq).1
    rcases freeOrHeld (h := s.heap) hk0 with hfr | hfr
    · refine pn_zp hz (zip_itemF (A := X.A.in1) (Q := fun v s1 => ∃ u, some v = some u ∧ wpAny (model X.prog X.w) X.A (letOwnedTupleGo (.Name nm pt) (.ref (n + 4)) u) (fun _ s2 => ∃ x H', Inv X pins σ H' s2 ∧ RelV x u ∧ (Itz X.K c a d b).yld i H x H' ∧ ZipSN c d (n + 4) (n + 2) (n + 3) n (n + 1) a b (i + 1) s2.heap ∧ ∀ b ∈ [n + 4, n + 3, n + 2, n + 1, n], H' b = none) E s1)
        (drawsC (A := X.A.in1) (I.ok.hd hc) c n a an ia.toArray) (drawsC (A := X.A.in1) (I.ok.hd hc) d (n + 1) b bn ib.toArray) hz hfr hI hO ⟨s1, pa⟩ ⟨s2, pb⟩ l1 l2 (nin2 (by first | exact nad _ _ (by decide) | exact nad0 _ (by decide) | exact (nad0 _ (by decide)).symm | omega) (by first | exact nad _ _ (by decide) | exact nad0 _ (by decide) | exact (nad0 _ (by decide)).symm | omega)) (nin2 (by first | exact nad _ _ (by decide) | exact nad0 _ (by decide) | exact (nad0 _ (by decide)).symm | omega) (by first | exact nad _ _ (by decide) | exact nad0 _ (by decide) | exact (nad0 _ (by decide)).symm | omega)) (nin2 (by first | exact nad _ _ (by decide) | exact nad0 _ (by decide) | exact (nad0 _ (by decide)).symm | omega) (by first | exact nad _ _ (by decide) | exact nad0 _ (by decide) | exact (nad0 _ (by decide)).symm | omega)) (nin2 (by first | exact nad _ _ (by decide) | exact nad0 _ (by decide) | exact (nad0 _ (by decide)).symm | omega) (by first | exact nad _ _ (by decide) | exact nad0 _ (by decide) | exact (nad0 _ (by decide)).symm | omega)) (nin2 (by first | exact nad _ _ (by decide) | exact nad0 _ (by decide) | exact (nad0 _ (by decide)).symm | omega) (by first | exact nad _ _ (by decide) | exact nad0 _ (by decide) | exact (nad0 _ (by decide)).symm | omega)) (nin2 (by first | exact nad _ _ (by decide) | exact nad0 _ (by decide) | exact (nad0 _ (by decide)).symm | omega) (by first | exact nad _ _ (by decide) | exact nad0 _ (by decide) | exact (nad0 _ (by decide)).symm | omega)) (by first | exact nad _ _ (by decide) | exact nad0 _ (by decide) | exact (nad0 _ (by decide)).symm | omega) (by first | exact nad _ _ (by decide) | exact nad0 _ (by decide) | exact (nad0 _ (by decide)).symm | omega) (by first | exact nad _ _ (by decide) | exact nad0 _ (by decide) | exact (nad0 _ (by decide)).symm | omega) (by first | exact nad _ _ (by decide) | exact nad0 _ (by decide) | exact (nad0 _ (by decide)).symm | omega) (by first | exact nad _ _ (by decide) | exact nad0 _ (by decide) | exact (nad0 _ (by decide)).symm | omega) (by first | exact nad _ _ (by decide) | exact nad0 _ (by decide) | exact (nad0 _ (by decide)).symm | omega) (by first | exact nad _ _ (by decide) | exact nad0 _ (by decide) | exact (nad0 _ (by decide)).symm | omega) (by first | exact nad _ _ (by decide) | exact nad0 _ (by decide) | exact (nad0 _ (by decide)).symm | omega) (by first | exact nad _ _ (by decide) | exact nad0 _ (by decide) | exact (nad0 _ (by decide)).symm | omega) fun p q h1 tk hp hq hz1 hI1 hO1 st1 st2 hT hsz hk => fin p q h1 tk hp hq ⟨_, _, hz1, .inr ⟨_, _, rfl⟩⟩ hI1 ⟨_, _, hO1⟩ st1.1 st2.1 hT hk)
    · refine pn_zp hz (zip_itemH (A := X.A.in1) (Q := fun v s1 => ∃ u, some v = some u ∧ wpAny (model X.prog X.w) X.A (letOwnedTupleGo (.Name nm pt) (.ref (n + 4)) u) (fun _ s2 => ∃ x H', Inv X pins σ H' s2 ∧ RelV x u ∧ (Itz X.K c a d b).yld i H x H' ∧ ZipSN c d (n + 4) (n + 2) (n + 3) n (n + 1) a b (i + 1) s2.heap ∧ ∀ b ∈ [n + 4, n + 3, n + 2, n + 1, n], H' b = none) E s1)
        (drawsC (A := X.A.in1) (I.ok.hd hc) c n a an ia.toArray) (drawsC (A := X.A.in1) (I.ok.hd hc) d (n + 1) b bn ib.toArray) hz hfr hI hO ⟨s1, pa⟩ ⟨s2, pb⟩ l1 l2 (nin2 (by first | exact nad _ _ (by decide) | exact nad0 _ (by decide) | exact (nad0 _ (by decide)).symm | omega) (by first | exact nad _ _ (by decide) | exact nad0 _ (by decide) | exact (nad0 _ (by decide)).symm | omega)) (nin2 (by first | exact nad _ _ (by decide) | exact nad0 _ (by decide) | exact (nad0 _ (by decide)).symm | omega) (by first | exact nad _ _ (by decide) | exact nad0 _ (by decide) | exact (nad0 _ (by decide)).symm | omega)) (nin2 (by first | exact nad _ _ (by decide) | exact nad0 _ (by decide) | exact (nad0 _ (by decide)).symm | omega) (by first | exact nad _ _ (by decide) | exact nad0 _ (by decide) | exact (nad0 _ (by decide)).symm | omega)) (nin2 (by first | exact nad _ _ (by decide) | exact nad0 _ (by decide) | exact (nad0 _ (by decide)).symm | omega) (by first | exact nad _ _ (by decide) | exact nad0 _ (by decide) | exact (nad0 _ (by decide)).symm | omega)) (by first | exact nad _ _ (by decide) | exact nad0 _ (by decide) | exact (nad0 _ (by decide)).symm | omega) (by first | exact nad _ _ (by decide) | exact nad0 _ (by decide) | exact (nad0 _ (by decide)).symm | omega) (by first | exact nad _ _ (by decide) | exact nad0 _ (by decide) | exact (nad0 _ (by decide)).symm | omega) (by first | exact nad _ _ (by decide) | exact nad0 _ (by decide) | exact (nad0 _ (by decide)).symm | omega) (by first | exact nad _ _ (by decide) | exact nad0 _ (by decide) | exact (nad0 _ (by decide)).symm | omega) (by first | exact nad _ _ (by decide) | exact nad0 _ (by decide) | exact (nad0 _ (by decide)).symm | omega) (by first | exact nad _ _ (by decide) | exact nad0 _ (by decide) | exact (nad0 _ (by decide)).symm | omega) (by first | exact nad _ _ (by decide) | exact nad0 _ (by decide) | exact (nad0 _ (by decide)).symm | omega) fun p q h1 tk hp hq hz1 hI1 hO1 st1 st2 hT hsz hk => fin p q h1 tk hp hq ⟨_, _, hz1, hk0⟩ hI1 ⟨_, _, hO1⟩ st1.1 st2.1 hT fun c o c1 c2 c3 c4 e => hk c o c1 c3 c4 e)
  done := by
    intro X hP hw hK hc i pins s σ H E I hf st hg
    subst hP hw hK
    obtain ⟨⟨f0, f1, hz, hk0⟩, hI, ⟨u0, v0, hO⟩, s1, s2⟩ := st
    obtain ⟨xs, ys, hqa, hqb, hl⟩ := hg
    obtain ⟨ia, ra, pa⟩ := inv_seqC I hqa
    obtain ⟨ib, rb, pb⟩ := inv_seqC I hqb
    have la := ra.length
    have lb := rb.length
    have an : a ≠ n := Nat.ne_of_lt ha
    have fin : ∀ (h' : Heap) (e : Addr) (tk : Nat), (∀ c o, c ≠ n + 4 → c ≠ n + 3 → c ≠ n → c ≠ n + 1 → s.heap.get? c = some o → h'.get? c = some o) → Inv X pins σ H { s with heap := h', toks := tk } := fun h' e tk k =>
      turnedL (fp := [n + 4, n + 3, n + 2, n + 1, n]) I (fun b o hb q => k b o (fun z => hb (by simp [z])) (fun z => hb (by simp [z])) (fun z => hb (by simp [z])) (fun z => hb (by simp [z])) q) hf
    rcases freeOrHeld (h := s.heap) hk0 with hfr | hfr
    · by_cases h1 : xs.length ≤ i
      · exact pn_zp hz (zip_endF1 (A := X.A.in1) (drawsC_end (A := X.A.in1) (I.ok.hd hc) c n a ia.toArray (i := i) (by simp; omega)) hz hfr hI hO ⟨rfl, s1, pa⟩ (nin2 (by first | exact nad _ _ (by decide) | exact nad0 _ (by decide) | exact (nad0 _ (by decide)).symm | omega) (by first | exact nad _ _ (by decide) | exact nad0 _ (by decide) | exact (nad0 _ (by decide)).symm | omega)) (by first | exact nad _ _ (by decide) | exact nad0 _ (by decide) | exact (nad0 _ (by decide)).symm | omega) fun h' e tk k ho => ⟨e, rfl, ho, rfl, fin h' e tk k⟩)
      · have h2 : ys.length ≤ i := by omega
        exact pn_zp hz (zip_endF2 (A := X.A.in1) (drawsC (A := X.A.in1) (I.ok.hd hc) c n a an ia.toArray) (drawsC_end (A := X.A.in1) (I.ok.hd hc) d (n + 1) b ib.toArray (i := i) (by simp; omega)) hz hfr hI hO ⟨s1, pa⟩ ⟨rfl, s2, pb⟩ (by simp; omega) (nin2 (by first | exact nad _ _ (by decide) | exact nad0 _ (by decide) | exact (nad0 _ (by decide)).symm | omega) (by first | exact nad _ _ (by decide) | exact nad0 _ (by decide) | exact (nad0 _ (by decide)).symm | omega)) (nin2 (by first | exact nad _ _ (by decide) | exact nad0 _ (by decide) | exact (nad0 _ (by decide)).symm | omega) (by first | exact nad _ _ (by decide) | exact nad0 _ (by decide) | exact (nad0 _ (by decide)).symm | omega)) (nin2 (by first | exact nad _ _ (by decide) | exact nad0 _ (by decide) | exact (nad0 _ (by decide)).symm | omega) (by first | exact nad _ _ (by decide) | exact nad0 _ (by decide) | exact (nad0 _ (by decide)).symm | omega)) (nin2 (by first | exact nad _ _ (by decide) | exact nad0 _ (by decide) | exact (nad0 _ (by decide)).symm | omega) (by first | exact nad _ _ (by decide) | exact nad0 _ (by decide) | exact (nad0 _ (by decide)).symm | omega)) (by first | exact nad _ _ (by decide) | exact nad0 _ (by decide) | exact (nad0 _ (by decide)).symm | omega) (by first | exact nad _ _ (by decide) | exact nad0 _ (by decide) | exact (nad0 _ (by decide)).symm | omega) (by first | exact nad _ _ (by decide) | exact nad0 _ (by decide) | exact (nad0 _ (by decide)).symm | omega) (by first | exact nad _ _ (by decide) | exact nad0 _ (by decide) | exact (nad0 _ (by decide)).symm | omega) fun h' e tk k ho => ⟨e, rfl, ho, rfl, fin h' e tk k⟩)
    · by_cases h1 : xs.length ≤ i
      · exact pn_zp hz (zip_endH1 (A := X.A.in1) (drawsC_end (A := X.A.in1) (I.ok.hd hc) c n a ia.toArray (i := i) (by simp; omega)) hz hfr hI ⟨rfl, s1, pa⟩ (nin2 (by first | exact nad _ _ (by decide) | exact nad0 _ (by decide) | exact (nad0 _ (by decide)).symm | omega) (by first | exact nad _ _ (by decide) | exact nad0 _ (by decide) | exact (nad0 _ (by decide)).symm | omega)) fun h' e tk k ho => ⟨e, rfl, ho, rfl, fin h' e tk fun c o c1 _ c3 c4 q => k c o c1 c3 c4 q⟩)
      · have h2 : ys.length ≤ i := by omega
        exact pn_zp hz (zip_endH2 (A := X.A.in1) (drawsC (A := X.A.in1) (I.ok.hd hc) c n a an ia.toArray) (drawsC_end (A := X.A.in1) (I.ok.hd hc) d (n + 1) b ib.toArray (i := i) (by simp; omega)) hz hfr hI ⟨s1, pa⟩ ⟨rfl, s2, pb⟩ (by simp; omega) (nin2 (by first | exact nad _ _ (by decide) | exact nad0 _ (by decide) | exact (nad0 _ (by decide)).symm | omega) (by first | exact nad _ _ (by decide) | exact nad0 _ (by decide) | exact (nad0 _ (by decide)).symm | omega)) (nin2 (by first | exact nad _ _ (by decide) | exact nad0 _ (by decide) | exact (nad0 _ (by decide)).symm | omega) (by first | exact nad _ _ (by decide) | exact nad0 _ (by decide) | exact (nad0 _ (by decide)).symm | omega)) (nin2 (by first | exact nad _ _ (by decide) | exact nad0 _ (by decide) | exact (nad0 _ (by decide)).symm | omega) (by first | exact nad _ _ (by decide) | exact nad0 _ (by decide) | exact (nad0 _ (by decide)).symm | omega)) fun h' e tk k ho => ⟨e, rfl, ho, rfl, fin h' e tk fun c o c1 _ c3 c4 q => k c o c1 c3 c4 q⟩)
  self := fun _ _ _ _ _ st h => by obtain ⟨⟨f0, f1, hz, _⟩, _⟩ := st; exact it_zp hz h
section
variable {X : Cx} {nm : Str} {pt : Pos} {K : PySem.W.Frag}
end
end L3

namespace L3
open PySem PySem.Spec PyProof.Rows L2
def evIx (c n : Nat) : List Nat := (List.range ((n + 1 - c) / 2)).map fun k => c + 2 * k
def pickV {α : Type} (ks : List Nat) (xs : List α) : List α := ks.filterMap fun i => xs[i]?
theorem pick_eq {its : List Value} {ks : List Nat} {lo : Option Int} (h : sliceRange (sliceBounds lo none (some 2) its.length).1 (sliceBounds lo none (some 2) its.length).2.1 (sliceBounds lo none (some 2) its.length).2.2 = ks) :
    slicePick its.toArray lo none (some 2) = (pickV ks its).toArray := by
  unfold slicePick pickV
  rw [List.size_toArray, h]
  congr 1
  refine fm_congr fun k _ => ?_
  simp
theorem ix0 (n : Nat) : sliceRange (sliceBounds none none (some 2) n).1 (sliceBounds none none (some 2) n).2.1 (sliceBounds none none (some 2) n).2.2 = evIx 0 n := by
  have b1 : (sliceBounds none none (some 2) n).1 = 0 := by simp [sliceBounds]
  have b2 : (sliceBounds none none (some 2) n).2.1 = n := by simp [sliceBounds]
  have b3 : (sliceBounds none none (some 2) n).2.2 = 2 := rfl
  rw [b1, b2, b3]
  unfold sliceRange evIx
  rw [if_pos (by decide)]
  have : (if (0 : Int) < n then ((n : Int) - 0 + 2 - 1) / 2 else 0).toNat = (n + 1 - 0) / 2 := by split <;> omega
  dsimp only
  rw [this]
  refine List.map_congr_left fun k _ => ?_
  omega
theorem ix1 (n : Nat) : sliceRange (sliceBounds (some 1) none (some 2) n).1 (sliceBounds (some 1) none (some 2) n).2.1 (sliceBounds (some 1) none (some 2) n).2.2 = evIx 1 n := by
  have b1 : (sliceBounds (some 1) none (some 2) n).1 = min 1 (n : Int) := by simp [sliceBounds]; omega
  have b2 : (sliceBounds (some 1) none (some 2) n).2.1 = n := by simp [sliceBounds]
  have b3 : (sliceBounds (some 1) none (some 2) n).2.2 = 2 := rfl
  rw [b1, b2, b3]
  unfold sliceRange evIx
  rw [if_pos (by decide)]
  have : (if min 1 (n : Int) < n then ((n : Int) - min 1 (n : Int) + 2 - 1) / 2 else 0).toNat = (n + 1 - 1) / 2 := by split <;> omega
  dsimp only
  rw [this]
  refine List.map_congr_left fun k hk => ?_
  have := List.mem_range.mp hk
  omega
theorem valsPick {xs : List V} {us : List Value} (r : Vals xs us) : ∀ ks : List Nat, Vals (pickV ks xs) (pickV ks us) := by
  intro ks
  induction ks with
  | nil => exact .nil
  | cons k ks ih =>
    have hl := r.length
    unfold pickV at ih ⊢
    cases e : xs[k]? with
    | none =>
      have e2 : us[k]? = none := by rw [List.getElem?_eq_none_iff] at e ⊢; omega
      rw [List.filterMap_cons_none e, List.filterMap_cons_none e2]; exact ih
    | some x =>
      obtain ⟨u, hu, ru⟩ := r.get e
      rw [List.filterMap_cons_some e, List.filterMap_cons_some hu]; exact .cons ru ih
theorem evIx_len {c n : Nat} (h : c ≤ 1) : (evIx c n).length ≤ n := by unfold evIx; rw [List.length_map, List.length_range]; omega
theorem pick_len {α : Type} {ks : List Nat} {xs : List α} : (pickV ks xs).length ≤ ks.length := List.length_filterMap_le _ _
section
variable {X : Cx} {K : PySem.W.Frag}
def tEvL (K : PySem.W.Frag) (c : Nat) (te : TE) : TE := fun σ H Q => te σ H fun x H1 => ∃ a xs, x = .ref a ∧ SqL K H1 a xs ∧ ∀ p, H1 p = none → Q (.ref p) (upd H1 p (.lst (pickV (evIx c xs.length) xs)))
theorem pe_ev0 {e : Expr} {te : TE} {j : Nat} {pc p2 pos : Pos} (hK : X.K = K) (he : PE X e te) : PE X (.Subscript e (.Slice none none (some (.Constant (.int 2) j pc)) p2) pos) (tEvL K 0 te) := by
  subst hK
  intro pins s σ H Q I h
  refine Subscript_ (thn (he pins s σ H _ I h) fun v s1 ⟨x, H1, I1, r1, q1⟩ => ?_)
  obtain ⟨a, xs, rfl, hx, q⟩ := q1
  cases (show v = Value.ref a from r1)
  refine wpAny_Slice (thn (po_none pins s1 σ H1 (fun o H2 => o = none ∧ H2 = H1) I1 ⟨rfl, rfl⟩) fun vl s2 ⟨l, H2, I2, pl, q2a, q2⟩ => thn (po_none pins s2 σ H2 (fun o H3 => o = none ∧ H3 = H1) I2 ⟨rfl, q2⟩) fun vu s3 ⟨u, H3, I3, pu', q3a, q3⟩ => ?_)
  subst q2a q3a q3
  refine thn (po_some pe_int pins s3 σ H3 (fun o H4 => o = some 2 ∧ H4 = H3) I3 ⟨_, rfl, rfl, rfl⟩) fun vs s4 ⟨o, H4, I4, po, q4, q5⟩ => ?_
  subst q4 q5
  have I5 : Inv X pins σ H4 { s4 with heap := s4.heap.push { cls := .type "slice", data := .fields #[vl, vu, vs] } } := I4.kept (t' := s4.toks) fun b ob q => Heap.get?_push_of_some _ q
  show wpAny (model X.prog X.w) X.A (subscriptTail e _ (.ref a) (.ref s4.heap.objs.size)) (EP X pins σ Q) X.xe { s4 with heap := s4.heap.push { cls := .type "slice", data := .fields #[vl, vu, vs] } }
  obtain ⟨its, r, ht, hz⟩ := I5.list hx
  have hlen := r.length
  refine tail_any (ops := [.ref a, .ref s4.heap.objs.size]) ht.isList.typeIs slot_list_getitem.lookup ?_ (by with_unfolding_all rfl)
  refine wpAny_getItem_list_slice ht.isList (Heap.IsSliceOf.new ..) pl pu' po (by decide) ?_ (by rw [List.size_toArray] <;> omega)
  rw [pick_eq (ix0 _)]
  rw [hlen] at q
  refine ⟨.ref _, _, I5.laid (t' := s4.toks) (o := .lst (pickV (evIx 0 its.length) xs)) (fun b ob q => Heap.get?_push_of_some _ q) (Nat.le_refl _) ?_, rfl, q _ (I5.hok.fresh (Nat.le_refl _))⟩
  exact ⟨Nat.le_trans pick_len (Nat.le_trans (evIx_len (by decide)) (by omega)), _, 0, valsPick r _, Heap.get?_push_size _ rfl⟩
theorem pe_ev1 {e : Expr} {te : TE} {i j : Nat} {pb pc p2 pos : Pos} (hK : X.K = K) (he : PE X e te) : PE X (.Subscript e (.Slice (some (.Constant (.int 1) i pb)) none (some (.Constant (.int 2) j pc)) p2) pos) (tEvL K 1 te) := by
  subst hK
  intro pins s σ H Q I h
  refine Subscript_ (thn (he pins s σ H _ I h) fun v s1 ⟨x, H1, I1, r1, q1⟩ => ?_)
  obtain ⟨a, xs, rfl, hx, q⟩ := q1
  cases (show v = Value.ref a from r1)
  refine wpAny_Slice (thn (po_some pe_int pins s1 σ H1 (fun o H2 => o = some 1 ∧ H2 = H1) I1 ⟨_, rfl, rfl, rfl⟩) fun vl s2 ⟨l, H2, I2, pl, q2a, q2⟩ => thn (po_none pins s2 σ H2 (fun o H3 => o = none ∧ H3 = H1) I2 ⟨rfl, q2⟩) fun vu s3 ⟨u, H3, I3, pu', q3a, q3⟩ => ?_)
  subst q2a q3a q3
  refine thn (po_some pe_int pins s3 σ H3 (fun o H4 => o = some 2 ∧ H4 = H3) I3 ⟨_, rfl, rfl, rfl⟩) fun vs s4 ⟨o, H4, I4, po, q4, q5⟩ => ?_
  subst q4 q5
  have I5 : Inv X pins σ H4 { s4 with heap := s4.heap.push { cls := .type "slice", data := .fields #[vl, vu, vs] } } := I4.kept (t' := s4.toks) fun b ob q => Heap.get?_push_of_some _ q
  show wpAny (model X.prog X.w) X.A (subscriptTail e _ (.ref a) (.ref s4.heap.objs.size)) (EP X pins σ Q) X.xe { s4 with heap := s4.heap.push { cls := .type "slice", data := .fields #[vl, vu, vs] } }
  obtain ⟨its, r, ht, hz⟩ := I5.list hx
  have hlen := r.length
  refine tail_any (ops := [.ref a, .ref s4.heap.objs.size]) ht.isList.typeIs slot_list_getitem.lookup ?_ (by with_unfolding_all rfl)
  refine wpAny_getItem_list_slice ht.isList (Heap.IsSliceOf.new ..) pl pu' po (by decide) ?_ (by rw [List.size_toArray] <;> omega)
  rw [pick_eq (ix1 _)]
  rw [hlen] at q
  refine ⟨.ref _, _, I5.laid (t' := s4.toks) (o := .lst (pickV (evIx 1 its.length) xs)) (fun b ob q => Heap.get?_push_of_some _ q) (Nat.le_refl _) ?_, rfl, q _ (I5.hok.fresh (Nat.le_refl _))⟩
  exact ⟨Nat.le_trans pick_len (Nat.le_trans (evIx_len (by decide)) (by omega)), _, 0, valsPick r _, Heap.get?_push_size _ rfl⟩
end
def ItrS (lo : Int) (n : Nat) : It := ⟨fun i _ => i < n, fun i H x H' => H' = H ∧ x = .int (lo + 2 * i), fun i _ => n ≤ i⟩
theorem turn_rangeS {P : Program} {w : World} {K : PySem.W.Frag} {tg : Expr} (it : Addr) (lo : Int) (n : Nat) : Turn P w K tg (ItrS lo n) [it] it (fun i h => IsRangeIter h it (lo + (i : Nat) * 2) ((n : Int) - (i : Nat)) 2) where
  mem := by simp
  obj := fun i h st b hb => by
    obtain rfl : b = it := by simpa using hb
    refine ⟨_, st, fun v z => ?_⟩
    have z' : Data.fields _ = Data.cell v := z
    cases z'
  keep := fun i h h' st k => k it (by simp) _ st
  item := by
    intro X hP hw hK hc i pins s σ H E I hf st hg
    subst hP hw hK
    obtain ⟨f0, f1, f2, f3, f4, f5⟩ := hf it (by simp)
    have W := Walks.range (prog := X.prog) (w := X.w) (I.ok.hd hc) it lo 2 n
    refine W.item i s _ _ hg st fun v h' tk hv st' kk => ?_
    obtain ⟨t, rfl⟩ := hv
    have J : Inv X pins σ H { s with heap := h', toks := tk } := I.turned (fun b o hb e => kk b o (by simpa using hb) e) f0 f1 f3 f4 f5
    refine ⟨_, rfl, go_of (s := { s with heap := h', toks := tk }) (n := "range_iterator") st' rfl rfl (by decide) ⟨.int (lo + 2 * i), H, J, ⟨t, ?_⟩, ⟨rfl, rfl⟩, st', fun b hb => (hf b hb).1⟩⟩
    rw [Int.mul_comm 2]
  done := by
    intro X hP hw hK hc i pins s σ H E I hf st hg
    subst hP hw hK
    obtain ⟨f0, f1, f2, f3, f4, f5⟩ := hf it (by simp)
    exact wpAny_pyNext_range_end (I.ok.hd hc) st (by have : n ≤ i := hg; omega) fun h' eb => ⟨rfl, I.turned (t' := s.toks) (fun b o hb e => eb b o hb e) f0 f1 f3 f4 f5⟩
  self := fun _ _ _ _ _ st h => wpAny_pyIter_rangeiter st h
theorem sizeS {a b : Int} : Builtin.Range.rangeSize a b 2 = (((b - a + 1) / 2).toNat : Int) := by
  unfold Builtin.Range.rangeSize
  rw [if_pos (by decide)]
  split <;> omega
theorem smallS {a b : Int} (h1 : -1000 ≤ a) (h2 : a ≤ 1000) (h3 : -1000 ≤ b) (h4 : b ≤ 1000) : Builtin.Range.small a b 2 = true := by
  unfold Builtin.Range.small
  rw [sizeS]
  simp only [Builtin.Range.rangeFitsLong, Bool.and_eq_true, Bool.or_eq_true, decide_eq_true_eq, beq_iff_eq, show ((2 : Int) > 0) by decide, if_true]
  omega
section
variable {X : Cx}
def iRngS (ta : TA) : TI := fun σ H R => ta σ H fun vs H1 => ∃ i j : Int, vs = [.int i, .int j, .int 2] ∧ -1000 ≤ i ∧ i ≤ 1000 ∧ -1000 ≤ j ∧ j ≤ 1000 ∧ R (ItrS i ((j - i + 1) / 2).toNat) H1
theorem pi_rangeS {tg a b c : Expr} {ta : TA} {p pos : Pos} (hg : Gl X "range") (hm : X.mg "range" = none) (ha : PA X [a, b, c] ta)
    (hs : starEach [a, b, c] X.env = [(false, eval a X.env), (false, eval b X.env), (false, eval c X.env)] := by rfl) (hs2 : starEach [b, c] X.env = [(false, eval b X.env), (false, eval c X.env)] := by rfl) :
    PI X tg (.Call (.Name "range" p) [a, b, c] [] pos) (iRngS ta) := by
  intro pins s σ H R I h
  refine Call_ (ld_blt I hg hm boot_range (PyProof.Rows.callWith_type1 (thn (ha pos pins s σ H _ I h) fun us s1 ⟨vs, H1, I1, r1, q1⟩ => ?_) (by rw [hs, hs2]) (by rw [hs2]; rfl)))
  obtain ⟨i, j, e, b1, b2, b3, b4, q⟩ := q1
  subst e
  cases r1 with
  | cons r rr =>
    cases rr with
    | cons r' rr =>
      cases rr with
      | cons r'' rr =>
        cases rr
        obtain ⟨t, rfl⟩ := r
        obtain ⟨t', rfl⟩ := r'
        obtain ⟨t'', rfl⟩ := r''
        refine call_range_3 (by decide) ?_ (Or.inl (PyProof.noPylong_small (by omega)))
        refine wpAny_pyIter_range (IsRange.new ..) (smallS b1 b2 b3 b4) ?_
        have I2 : Inv X pins σ H1 { s1 with heap := s1.heap.push { cls := .type "range", data := .fields #[.int i t, .int j t', .int 2 t''] }, toks := s1.toks } := I1.kept fun b o e => Heap.get?_push_of_some _ e
        refine ⟨(s1.heap.push { cls := .type "range", data := .fields #[.int i t, .int j t', .int 2 t''] }).objs.size, [(s1.heap.push { cls := .type "range", data := .fields #[.int i t, .int j t', .int 2 t''] }).objs.size], _, _, H1, rfl,
          I2.kept (t' := s1.toks) fun b o e => Heap.get?_push_of_some _ e, turn_rangeS _ i ((j - i + 1) / 2).toNat, ?_, fun b hb => ?_, q⟩
        · show IsRangeIter _ _ (i + ((0 : Nat) : Int) * 2) (((((j - i + 1) / 2).toNat : Nat) : Int) - ((0 : Nat) : Int)) 2
          rw [show i + ((0 : Nat) : Int) * 2 = i by simp, show ((((j - i + 1) / 2).toNat : Nat) : Int) - ((0 : Nat) : Int) = Builtin.Range.rangeSize i j 2 by rw [sizeS]; simp]
          exact Heap.get?_push_size _ rfl
        · obtain rfl : b = (s1.heap.push { cls := .type "range", data := .fields #[.int i t, .int j t', .int 2 t''] }).objs.size := by simpa using hb
          exact I2.fpOk (Nat.le_refl _) (I2.hok.fresh (Nat.le_refl _))
end
section
variable {lo : Int} {n k : Nat} {te : TE} {Q : VK} {σ : L2.St} {H : Hp}
theorem comp_rngS (Pv : Nat → List V → Hp → Prop) (h0 : Pv 0 [] H)
    (hs : ∀ i ys H', i < n → Pv i ys H' → te (σ.set k (some (.int (lo + 2 * i)))) H' fun y H5 => ys.length < sizeLine ∧ Pv (i + 1) (ys ++ [y]) H5)
    (hd : ∀ ys H', Pv n ys H' → ∀ l, H' l = none → Q (.ref l) (upd H' l (.lst ys))) : CompW (ItrS lo n) σ H (gName k) tTrue te Q := by
  refine ⟨fun i m ys σ' H' => m = n - i ∧ i ≤ n ∧ (σ' = σ ∨ ∃ e, σ' = σ.set k e) ∧ Pv i ys H', ⟨n, by simp, Nat.zero_le _, .inl rfl, h0⟩, ?_⟩
  rintro i m ys σ' H' ⟨rfl, hi, hσ, p⟩
  by_cases hlt : i < n
  · refine .inr ⟨hlt, fun zs σ2 H2 => (σ2 = σ ∨ ∃ e, σ2 = σ.set k e) ∧ Pv (i + 1) zs H2, fun zs σ2 H2 p' => ⟨n - (i + 1), by omega, rfl, hlt, p'.1, p'.2⟩, fun x H2 y => ?_⟩
    obtain ⟨e, y⟩ := y
    subst e y
    have e : σ'.set k (some (V.int (lo + 2 * i))) = σ.set k (some (V.int (lo + 2 * i))) := by
      rcases hσ with rfl | ⟨e, rfl⟩
      · rfl
      · rw [List.set_set]
    show if true = true then te (σ'.set k (some (V.int (lo + 2 * i)))) H2 (fun y H5 => ys.length < sizeLine ∧ ((σ'.set k (some (V.int (lo + 2 * i))) = σ ∨ ∃ e, σ'.set k (some (V.int (lo + 2 * i))) = σ.set k e) ∧ Pv (i + 1) (ys ++ [y]) H5)) else ((σ'.set k (some (V.int (lo + 2 * i))) = σ ∨ ∃ e, σ'.set k (some (V.int (lo + 2 * i))) = σ.set k e) ∧ Pv (i + 1) ys H2)
    rw [if_pos rfl, e]
    have e2 : (fun (y : V) (H5 : Hp) => ys.length < sizeLine ∧ ((σ.set k (some (V.int (lo + 2 * i))) = σ ∨ ∃ e, σ.set k (some (V.int (lo + 2 * i))) = σ.set k e) ∧ Pv (i + 1) (ys ++ [y]) H5)) = fun y H5 => ys.length < sizeLine ∧ Pv (i + 1) (ys ++ [y]) H5 := by
      funext y H5
      exact propext ⟨fun z => ⟨z.1, z.2.2⟩, fun z => ⟨z.1, .inr ⟨_, rfl⟩, z.2⟩⟩
    rw [e2]
    exact hs i ys H2 hlt p
  · have e : i = n := by omega
    subst e
    exact .inl ⟨Nat.le_refl _, hd ys H' p⟩
end
end L3

namespace L3
open PySem PySem.Spec PyProof.Rows L2
def RowsIn (K : PySem.W.Frag) (H : Hp) (f : Addr) (rows : List (List Int)) : Prop := ∃ xs, H f = some (.lst xs) ∧ AllR (BoardAt K H) xs rows
theorem RowsIn.grow {K : PySem.W.Frag} {H H' : Hp} {f : Addr} {rows : List (List Int)} (h : RowsIn K H f rows) (g : Grow [] H H') : RowsIn K H' f rows := by
  obtain ⟨xs, e, a⟩ := h
  exact ⟨xs, g.keep _ _ (by simp) e, g.boardsR a⟩
theorem RowsIn.ne {K : PySem.W.Frag} {H : Hp} {f r : Addr} {rows : List (List Int)} (h : RowsIn K H f rows) (e : H r = none) : r ≠ f := by
  obtain ⟨xs, e', _⟩ := h
  intro z; rw [z, e'] at e; cases e
theorem Grow.shrink2 {H H' : Hp} {f l : Addr} (g : Grow [f, l] H H') (h : H l = none) : Grow [f] H H' :=
  ⟨fun b o hb q => g.keep b o (fun z => by rcases List.mem_cons.mp z with z | z; exact hb (by simp [z]); rw [List.mem_singleton.mp z, h] at q; cases q) q, g.tup, g.frz⟩
end L3
namespace L3
open PySem PySem.Spec PyProof.Rows L2
end L3
namespace L3
open PySem PySem.Spec PyProof.Rows L2
theorem RowsIn.set {K : PySem.W.Frag} {H : Hp} {f : Addr} {rows : List (List Int)} {xs : List V} (e : H f = some (.lst xs)) (a : AllR (BoardAt K H) xs rows) : RowsIn K H f rows := ⟨xs, e, a⟩
end L3
namespace L3
open PySem PySem.Spec PyProof.Rows L2
end L3

namespace L3
open PySem PySem.Spec PyProof.Rows L2
structure CScC (X : Cx) (scope : Scope) (N' : List Str) (sub : List (Option Nat)) : Prop where
  free : ∀ y ∈ scope.names, y.2 = .free → X.env.kindOf y.1 = some .cell
  nd : (scope.names.map (·.1)).Nodup
  kind : scope.kind = .function
  names : ∀ y ∈ scope.names, y.2 = .local → scope.names.lookup y.1 = some .local
  len : sub.length = N'.length
  cap : ∀ (j : Nat) (y : Str) (i : Nat), N'[j]? = some y → sub[j]? = some (some i) → X.N[i]? = some y ∧ X.env.scope.names.lookup y = some .cell ∧ scope.names.lookup y = some .free
section
variable {X : Cx} {pins : List (Addr × Obj)} {σ : L2.St} {H2 : Hp} {s₂ : Shared} {it : Addr} {fp : List Addr} {tn : Nat → Heap → Prop} {J : It} {scope : Scope} {cl : List (Str × Addr)} {N' : List Str} {sub : List (Option Nat)}
end
section
variable {X : Cx} {scope : Scope} {N' : List Str} {sub : List (Option Nat)} {tg : Expr} {pos : Pos} {elt iter : Expr} {ifs : List Expr} {wi : TI} {g : TG} {tt : TT} {te : TE}
theorem CScC.clos {pins : List (Addr × Obj)} {σ : L2.St} {H : Hp} {s : Shared} (S : CScC X scope N' sub) (I : Inv X pins σ H s) : ∃ cl, closureFor scope X.env = pure cl ∧ (∀ x c, cl.lookup x = some c → X.env.cells.lookup x = some c) ∧ ∀ y ∈ scope.names, y.2 = .free → ∃ c, cl.lookup y.1 = some c :=
  closure_ok fun y hy hf => I.ok.has y.1 (.inl (S.free y hy hf))
end
end L3

namespace L3
open PySem PySem.Spec PyProof.Rows L2
theorem CScC.of {X : Cx} {scope : Scope} {N' : List Str} {sub : List (Option Nat)} (sc : Scope) (NN : List Str) (e : X.env.scope = sc) (en : X.N = NN)
    (h : ((scope.names.all fun y => (y.2 != .free || sc.names.lookup y.1 == some .cell) && (y.2 != .local || scope.names.lookup y.1 == some .local)) && (sub.length == N'.length) &&
      ((N'.zip sub).all fun p => match p.2 with | none => true | some i => NN[i]? == some p.1 && sc.names.lookup p.1 == some .cell && scope.names.lookup p.1 == some .free)) = true)
    (nd : (scope.names.map (·.1)).Nodup) (hk : scope.kind = .function) : CScC X scope N' sub := by
  rw [Bool.and_eq_true, Bool.and_eq_true] at h
  obtain ⟨⟨h1, h2⟩, h3⟩ := h
  have k1 := fun y hy => List.all_eq_true.mp h1 y hy
  refine ⟨fun y hy hf => ?_, nd, hk, fun y hy hl => ?_, by simpa using h2, fun j y i hj hs => ?_⟩
  · have := k1 y hy
    simp only [hf, Bool.and_eq_true] at this
    have z := this.1
    show X.env.scope.names.lookup y.1 = _
    rw [e]; simpa using z
  · have := k1 y hy
    simp only [hl, Bool.and_eq_true] at this
    simpa using this.2
  · have hm : (y, some i) ∈ N'.zip sub := by
      have : (N'.zip sub)[j]? = some (y, some i) := by
        rw [List.getElem?_zip_eq_some]; exact ⟨hj, hs⟩
      exact List.mem_of_getElem? this
    have := List.all_eq_true.mp h3 _ hm
    simp only [Bool.and_eq_true, beq_iff_eq] at this
    rw [e, en]
    exact ⟨this.1.1, this.1.2, this.2⟩
end L3

namespace L3
open PySem PySem.Spec PyProof.Rows L2
theorem AllOk.at {ds : List Deed} (h : AllOk ds) {i : Nat} (hi : i < ds.length) : (ds.getD i look).Ok := h _ (List.mem_of_getElem? (getDd hi))
structure MixOk (m : List Nat) : Prop where
  nd : m.Nodup
  lt : ∀ j ∈ m, j < m.length
  has : ∀ j, j < m.length → j ∈ m
theorem MixOk.of {m : List Nat} {n : Nat} (h : m.Perm (List.range n)) : MixOk m ∧ m.length = n := by
  have hl : m.length = n := by rw [h.length_eq, List.length_range]
  refine ⟨⟨(h.nodup_iff).mpr List.nodup_range, fun j hj => ?_, fun j hj => ?_⟩, hl⟩
  · rw [hl]; exact List.mem_range.mp (h.mem_iff.mp hj)
  · exact h.mem_iff.mpr (List.mem_range.mpr (by omega))
theorem MixOk.at {m : List Nat} (h : MixOk m) {j : Nat} (hj : j < m.length) : m.idxOf j < m.length ∧ m.getD (m.idxOf j) 0 = j := by
  have hl := List.idxOf_lt_length_of_mem (h.has j hj)
  refine ⟨hl, ?_⟩
  rw [List.getD_eq_getElem?_getD, List.getElem?_eq_getElem hl]
  exact List.getElem_idxOf hl
end L3

namespace L3
open PySem PySem.Spec PyProof.Rows L2
section
variable {X : Cx} {K : PySem.W.Frag}
end
end L3
namespace L3
open PySem PySem.Spec PyProof.Rows L2
end L3

namespace L3
open PySem PySem.Spec PyProof.Rows L2
abbrev in2 (X : Cx) : Cx := { X with A := X.A.in1.in1 }
theorem inv_in2 {X : Cx} {pins : List (Addr × Obj)} {σ : L2.St} {H : Hp} {s : Shared} (I : Inv X pins σ H s) : Inv (in2 X) pins σ H s :=
  ⟨⟨I.ok.mod, I.ok.kind, I.ok.glob, I.ok.blt, I.ok.above, I.ok.inj, I.ok.has, I.ok.cab, I.ok.hd, I.ok.frames, I.ok.stk, I.ok.exf, I.ok.bs, I.ok.bsz, I.ok.noex, I.ok.exfs, I.ok.funs, I.ok.frf⟩, I.os, I.bare, I.base, I.loc, I.cell, I.free, I.freeC, I.pin, I.hok, I.len⟩
theorem inv_out2 {X : Cx} {pins : List (Addr × Obj)} {σ : L2.St} {H : Hp} {s : Shared} (I : Inv (L3.in2 X) pins σ H s) : Inv X pins σ H s :=
  ⟨⟨I.ok.mod, I.ok.kind, I.ok.glob, I.ok.blt, I.ok.above, I.ok.inj, I.ok.has, I.ok.cab, I.ok.hd, I.ok.frames, I.ok.stk, I.ok.exf, I.ok.bs, I.ok.bsz, I.ok.noex, I.ok.exfs, I.ok.funs, I.ok.frf⟩, I.os, I.bare, I.base, I.loc, I.cell, I.free, I.freeC, I.pin, I.hok, I.len⟩
theorem thn_go {M : Model} {A : Around} {m : Sem (Option Value)} {E E' : Value → Shared → Prop} {s : Shared} {P : Value → Shared → Prop} {Q : Option Value → Shared → Prop} (h : wpAny M A m (fun r s1 => ∃ u, r = some u ∧ wpAny M A (pure ()) (fun _ s2 => P u s2) E' s1) E s)
    (k : ∀ u s1, P u s1 → Q (some u) s1) : wpAny M A m Q E s :=
  fun Γ p hΓ => Sem.wp_mono M Γ m (fun r p' s1 z => by obtain ⟨u, rfl, z⟩ := z; exact k u s1 (z Γ p' hΓ)) (fun _ _ _ e => e) p s (h Γ p hΓ)
structure WkD (prog : Program) (w : World) (A : Around) (T : String) (I : Addr) (n : Nat) (Fr : Addr → Prop) (J : List Value → Shared → Prop) (Fn : List Value → Shared → Prop) : Prop where
  ty : ∀ acc s, J acc s → s.TypeIs (.ref I) T
  self : ∀ acc s (Q : Value → Shared → Prop) (E : Value → Shared → Prop), J acc s → Q (.ref I) s → wpAny (model prog w) A (pyIter (.ref I)) Q E s
  stay : ∀ acc s (S : Addr) (ob : Obj) (h' : Heap), J acc s → Fr S → s.heap.get? S = some ob → (ob.cls = .type "list" ∧ ∀ v, ob.data ≠ .cell v) → (∀ b o, b ≠ S → s.heap.get? b = some o → h'.get? b = some o) → h'.objs.size = s.heap.objs.size → J acc { s with heap := h' }
  next : ∀ acc s (S : Addr) (ob : Obj) (Q : Option Value → Shared → Prop) (E : Value → Shared → Prop), J acc s → Fr S → s.heap.get? S = some ob → (ob.cls = .type "list" ∧ ∀ v, ob.data ≠ .cell v) →
    (∀ v s', acc.length < n → J (acc ++ [v]) s' → s'.heap.get? S = some ob → Q (some v) s') → (∀ s', Fn acc s' → s'.heap.get? S = some ob → Q none s') → wpAny (model prog w) A (pyNext (.ref I)) Q E s
  push : ∀ acc s (o : Obj), J acc s → J acc { s with heap := s.heap.push o }
section
variable {prog : Program} {w : World} {A : Around} {R : Result → Shared → Prop} {T : String} {I : Addr} {n : Nat} {Fr : Addr → Prop} {J Fn : List Value → Shared → Prop}
end
section
variable {prog : Program} {w : World} {A : Around} {E : Value → Shared → Prop} {s : Shared} {T : String} {I : Addr} {n : Nat} {Fr : Addr → Prop} {J Fn : List Value → Shared → Prop}
end
section
variable {X : Cx} {pins : List (Addr × Obj)} {σ : L2.St} {fp : List Addr} {it : Addr} {tn : Nat → Heap → Prop} {Jt : It} {nm : Str} {pt : Pos} {cls : String} {H0 : Hp} {S0 : Addr} {n : Nat}
def WkJ (X : Cx) (pins : List (Addr × Obj)) (σ : L2.St) (fp : List Addr) (tn : Nat → Heap → Prop) (S0 : Addr) (Wv : Nat → List V → Hp → Prop) (acc : List Value) (s : Shared) : Prop :=
  ∃ (H' : Hp) (ys : List V), Inv X pins σ H' s ∧ tn acc.length s.heap ∧ (∀ b ∈ fp, H' b = none) ∧ H' S0 = none ∧ Vals ys acc ∧ Wv acc.length ys H'
def WkF (X : Cx) (pins : List (Addr × Obj)) (σ : L2.St) (S0 : Addr) (Jt : It) (Wv : Nat → List V → Hp → Prop) (acc : List Value) (s : Shared) : Prop :=
  ∃ (H' : Hp) (ys : List V), Inv X pins σ H' s ∧ H' S0 = none ∧ Vals ys acc ∧ Wv acc.length ys H' ∧ Jt.stop acc.length H'
end
section
variable {X : Cx} {K : PySem.W.Frag} {a b : Expr} {ta : TA} {p p2 pos pos2 : Pos}
theorem SqC.grow {c : Bool} {H H' : Hp} {a : Addr} {xs : List V} (g : Grow [] H H') (h : SqC c K H a xs) : SqC c K H' a xs := by
  cases c
  · exact g.sqL h
  · exact g.sqT h
end
end L3

namespace L3
open PySem PySem.Spec PyProof.Rows L2 HT
section
variable {prog : Program} {w : World} {A : Around} {E : Value → Shared → Prop} {s : Shared}
end
section
variable {X : Cx} {K : PySem.W.Frag}
end
end L3

namespace L3
open PySem PySem.Spec PyProof.Rows L2
end L3
namespace L3
open PySem PySem.Spec PyProof.Rows L2
end L3
namespace L3
open PySem PySem.Spec PyProof.Rows L2
end L3

namespace L3
open PySem PySem.Spec PyProof.Rows L2
def MCallee (P : Program) (w : World) (K : PySem.W.Frag) (mg : Str → Option Value) (base : Heap) (C : Addr) (k : Nat) (m : Str) (ps : List Str) (sp : Sp) : Prop :=
  ∃ (f : Addr) (fd : FuncData), FnOk P w K mg base CX0 k f fd ps sp ∧ Binds K fd ps [] ∧ Meth K C m f
def MkCallee (P : Program) (w : World) (K : PySem.W.Frag) (mg : Str → Option Value) (base : Heap) (C : Addr) (k : Nat) (ps : List Str) (sp : Sp) : Prop :=
  ∃ (j : Nat) (f : Addr) (fd : FuncData), j + 1 = k ∧ FnOk P w K mg base CX0 j f fd ps sp ∧ Binds K fd ps [] ∧ Mk K C f
section
variable {P : Program} {w : World} {K : PySem.W.Frag} {mg : Str → Option Value} {base : Heap} {C : Addr} {j k : Nat} {m : Str} {ps : List Str} {sp : Sp}
theorem MCallee.mono (c : MCallee P w K mg base C j m ps sp) (h : j ≤ k) : MCallee P w K mg base C k m ps sp := by
  obtain ⟨f, fd, F, b, mt⟩ := c
  exact ⟨f, fd, F.mono h, b, mt⟩
theorem MkCallee.mono (c : MkCallee P w K mg base C j ps sp) (h : j ≤ k) : MkCallee P w K mg base C k ps sp := by
  obtain ⟨i, f, fd, e, F, b, mt⟩ := c
  exact ⟨k - 1, f, fd, by omega, F.mono (by omega), b, mt⟩
end
section
variable {X : Cx} {K : PySem.W.Frag} {C : Addr} {k : Nat} {m x : Str} {ps : List Str} {sp : Sp} {o e : Expr} {es : List Expr} {ta : TE} {t : TA} {apos pos p : Pos} {f : Str}
end
structure CTxt (K : PySem.W.Frag) (mg : Str → Option Value) (C : Addr) : Prop where
  cl : Cls K C
  n1 : NoAttr K C "depth"
  n2 : NoAttr K C "gates"
  n3 : NoAttr K C "out_lines"
  n4 : NoAttr K C "ups"
  n5 : NoAttr K C "tokens"
  n6 : NoAttr K C "came_out"
  n7 : NoAttr K C "given"
  mgC : mg "Counter" = some (.ref C)
end L3

namespace L3
open PySem PySem.Spec PyProof.Rows L2
section
variable {X : Cx} {K : PySem.W.Frag}
def FrT (H : Hp) (r : Addr) (xs : List V) : Prop := ∃ o : Obj, H r = some (.frz o (.tup xs)) ∧ o.cls = .type "tuple" ∧ o.dict = none
theorem FrT.sqT {H : Hp} {r : Addr} {xs : List V} (h : FrT H r xs) : SqT K H r xs := by
  obtain ⟨o, e, _⟩ := h
  exact .inl (.inr ⟨o, e⟩)
end
end L3

namespace L3
open PySem PySem.Spec PyProof.Rows L2
def Trc (h : Heap) (e T : Addr) (cls : Value) : Prop :=
  ∃ oe vs oT ts, h.get? e = some oe ∧ oe.cls = cls ∧ oe.data = .fields vs ∧ vs[1]? = some (.ref T) ∧ T ≠ e ∧ h.get? T = some oT ∧ oT.data = .fields ts ∧ ts[3]? = some .none
structure Lft (fr : List Addr) (e T0 T : Addr) (cls : Value) (h h' : Heap) : Prop where
  keep : ∀ b o, b ∉ fr → b ≠ e → b ≠ T0 → h.get? b = some o → h'.get? b = some o
  slot : ∀ b o, b ∈ fr → b ≠ e → b ≠ T0 → h.get? b = some o → ∃ sl, h'.get? b = some { o with slots := sl }
  new : h.get? T = none
  trc : Trc h' e T cls
section
variable {M : Model} {A : Around} {E : Value → Shared → Prop} {s : Shared}
theorem entry_exact {base : Heap} {env : Env} {outer : List Env} {L e : Addr} {oe : Obj} {vs : Array Value} {head : Value} {hadNext : Bool} {Q : Unit → Shared → Prop}
    (hfr : A.frames = some (env :: outer)) (hl : s.heap.FunFrames base (env :: outer)) (hf : env.frame = some L)
    (he : s.heap.get? e = some oe) (hd : oe.data = .fields vs) (hsz : 1 < vs.size)
    (h : ∀ h' T, Lft ((env :: outer).filterMap (·.frame)) e e T oe.cls s.heap h' → Q () { s with heap := h' }) :
    wpAny M A (do let a ← frameOf env; let pl ← entryPlaceOf L hadNext; let b ← EntryCells.newEntry head a .none (rawInt L) .none pl; setField (.ref e) 1 b) (fun _ s' => wpAny M A (setFlight (.ref e) none) Q E s') E s := by
  have hne : e ∉ (env :: outer).filterMap (·.frame) := fun hm => by
    obtain ⟨_, o, ho, hnf⟩ := hl.mem hm
    rw [he] at ho
    cases ho
    exact hnf vs hd
  refine wpAny_bind (wpAny_frameOf_fun hfr hl hf fun h1 s1 => ?_)
  refine wpAny_bind (wpAny_entryPlaceOf fun pl hpl => ?_)
  unfold EntryCells.newEntry newFields
  refine wpAny_bind (wpAny_newObj_type ?_ (hpl.sizeOk5 _ _ _ _ _))
  have e1 : h1.get? e = some oe := (s1.2.1 e hne).trans he
  have hTe : h1.objs.size ≠ e := Nat.ne_of_gt (Heap.lt_size e1)
  generalize hT : ({ cls := .type "traceback", dict := none, data := .fields ([head, .ref L, .none, rawInt L, .none] ++ (if pl.isEmpty then List.replicate 6 Value.none else pl)).toArray } : Obj) = oT
  have hTd : oT.data = .fields ([head, .ref L, .none, rawInt L, .none] ++ (if pl.isEmpty then List.replicate 6 Value.none else pl)).toArray := by rw [← hT]
  have hTf : oT.isFreed = false := Obj.isFreed_of_fields hTd
  have e2 := Heap.get?_push_of_some (h := h1) oT e1
  refine wpAny_setField e2 hd hsz ?_
  have d3 := Obj.data_mapFields hd (·.setIfInBounds 1 (Value.ref h1.objs.size))
  have e3 := Heap.get?_update_self (Obj.mapFields (·.setIfInBounds 1 (Value.ref h1.objs.size))) e2 (Obj.isFreed_of_fields d3)
  have t3 : ((h1.push oT).update e (Obj.mapFields (·.setIfInBounds 1 (Value.ref h1.objs.size)))).get? h1.objs.size = some oT := (Heap.get?_update_other _ _ (Ne.symm hTe)).trans (Heap.get?_push_size h1 hTf)
  unfold setFlight
  refine wpAny_bind (wpAny_field e3 d3 (x := .ref h1.objs.size) (by simp [hsz]) ?_)
  rw [if_pos (show (Value.ref h1.objs.size != Value.none) = true from by simp)]
  refine wpAny_setField t3 hTd (by simp only [List.size_toArray, List.length_append, List.length_cons, List.length_nil] <;> omega) (h _ h1.objs.size ?_)
  have keep : ∀ b o, b ≠ e → h1.get? b = some o →
      (((h1.push oT).update e (Obj.mapFields (·.setIfInBounds 1 (Value.ref h1.objs.size)))).update h1.objs.size (Obj.mapFields (·.setIfInBounds 3 ((none : Option Addr).elim Value.none fun f => rawInt f)))).get? b = some o := fun b o hbe hb => by
    rw [Heap.get?_update_other _ _ (Nat.ne_of_gt (Heap.lt_size hb)), Heap.get?_update_other _ _ (Ne.symm hbe)]
    exact Heap.get?_push_of_some _ hb
  refine ⟨fun b o hb hbe _ ho => keep b o hbe ((s1.2.1 b hb).trans ho), fun b o hb hbe _ ho => ?_, ?_, ?_⟩
  · obtain ⟨sl, hs⟩ := s1.2.2 b o ho
    exact ⟨sl, keep b _ hbe hs⟩
  · cases q : s.heap.get? h1.objs.size with
    | none => rfl
    | some o =>
      have := Heap.lt_size q
      rw [s1.1] at this
      exact absurd this (Nat.lt_irrefl _)
  · refine ⟨_, _, _, _, (Heap.get?_update_other _ _ hTe).trans e3, Obj.cls_mapFields _ _, d3, by simp [hsz], hTe, Heap.get?_update_self _ t3 (Obj.isFreed_of_fields (Obj.data_mapFields hTd _)), Obj.data_mapFields hTd _, ?_⟩
    simp only [Array.getElem?_setIfInBounds, if_true]
    rw [if_pos (by simp only [List.size_toArray, List.length_append, List.length_cons, List.length_nil]; omega)]
    rfl
theorem leave_first {base : Heap} {env : Env} {outer : List Env} {L e : Addr} {oe : Obj} {vs : Array Value} {Q : Unit → Shared → Prop}
    (hfr : A.frames = some (env :: outer)) (hl : s.heap.FunFrames base (env :: outer)) (hf : env.frame = some L)
    (he : s.heap.get? e = some oe) (hd : oe.data = .fields vs) (h1 : vs[1]? = some .none)
    (h : ∀ h' T, Lft ((env :: outer).filterMap (·.frame)) e e T oe.cls s.heap h' → Q () { s with heap := h' }) : wpAny M A (leaving env (.ref e)) Q E s := by
  unfold leaving noteFrame
  simp only [hf]
  refine wpAny_bind (wpAny_bind (wpAny_field he hd h1 ?_))
  rw [if_neg (by decide)]
  exact entry_exact hfr hl hf he hd (Array.getElem?_eq_some_iff.mp h1).1 h
end
end L3

namespace L3
open PySem PySem.Spec PyProof.Rows L2
def CX1 (P : Program) (w : World) : CXT := fun outer H s E e s' => ∃ (a T C : Addr) (H' : Hp), e = .ref a ∧ s'.os = s.os ∧ AllBare s'.gens ∧ Un (frs outer) [] H H' s.heap s'.heap ∧ HOk P w H' s'.heap ∧
  Trc s'.heap a T (.ref C) ∧ H' a = none ∧ H' T = none ∧ s.heap.get? a = none ∧ s.heap.get? T = none ∧ E e (some C) H'
theorem ObjOk.at {P : Program} {w : World} {H : Hp} {h : Heap} {a : Addr} {o : HO} (x : ObjOk P w H h a o) : ∃ ob, h.get? a = some ob := by
  induction o with
  | lst xs => obtain ⟨z, its, n, r, e⟩ := x; exact ⟨_, e⟩
  | tup xs => obtain ⟨z, its, r, ob, e, c⟩ := x; exact ⟨_, e⟩
  | dK kvs => obtain ⟨z, y, vs, r, ob, es, ep, e, c⟩ := x; exact ⟨_, e⟩
  | dT kvs => obtain ⟨z, y, xs, r, ob, es, ep, e, c⟩ := x; exact ⟨_, e⟩
  | set S n => obtain ⟨ob, es, ep, t, e, c⟩ := x; exact ⟨_, e⟩
  | ins C dx fs => obtain ⟨d, z, ne, e, _⟩ := x; exact ⟨_, e⟩
  | own y => exact x
  | xd fs => obtain ⟨mA, ⟨od, es, ep, e, c⟩, r⟩ := x; exact ⟨_, e⟩
  | rng lo hi => obtain ⟨t, u, v, e⟩ := x; exact ⟨_, e⟩
  | frz ob u ih => exact ⟨_, x.1⟩
  | tbl ps => exact ⟨_, x⟩
  | met f y => exact ⟨_, x⟩
  | ext φ => exact x.2.1
theorem hok_left {P : Program} {w : World} {H : Hp} {h h' : Heap} {fr : List Addr} {e T0 T : Addr} {cls : Value} (x : HOk P w H h) (l : Lft fr e T0 T cls h h') (hfr : ∀ b ∈ fr, H b = none) (he : H e = none) (h0 : H T0 = none) : HOk P w H h' := fun b u q => by
  refine (x b u q).stay (fun c v hc r => ?_) (fun _ r => r) fun _ _ r => r
  have hn : H c ≠ none := by
    rcases hc with rfl | hc
    · rw [q]; exact fun z => nomatch z
    · rw [hc]; exact fun z => nomatch z
  exact l.keep c v (fun z => hn (hfr c z)) (fun z => hn (by rw [z]; exact he)) (fun z => hn (by rw [z]; exact h0)) r
section
variable {P : Program} {w : World} {K : PySem.W.Frag} {mg : Str → Option Value} {base : Heap} {N : List Str} {qual : Str} {scope : Scope} {f : Addr} {cd : Value} {A : Around} {outer : List Env} {s0 : Shared} {H0 : Hp} {E : XK}
  {pins : List (Addr × Obj)} {σ : L2.St} {H : Hp} {s : Shared}
theorem left_cx {h2 : Heap} {e T0 T C : Addr} (I : Inv (cxOf (CX1 P w) P w K mg base N qual scope f cd A outer s0 H0 E) pins σ H s) (l : Lft ((envOfC qual scope s0.heap.objs.size f cd :: outer).filterMap (·.frame)) e T0 T (.ref C) s.heap h2)
    (new : ∀ b o, s0.heap.get? b = some o → b ≠ e ∧ b ≠ T0) (he0 : H e = none) (ht0 : H T0 = none) (q : E (.ref e) (some C) H) : CX1 P w outer H0 s0 E (.ref e) { s with heap := h2 } := by
  have hfr : ∀ b ∈ (envOfC qual scope s0.heap.objs.size f cd :: outer).filterMap (·.frame), H b = none := I.stkFree
  have hU : Un (frs outer) [] H0 H s0.heap s.heap := I.base
  have newT : ∀ b o, s0.heap.get? b = some o → b ≠ T := fun b o hb z => by
    obtain ⟨o', h1⟩ := hU.there b o hb (by simp)
    have := l.new
    rw [← z, h1] at this; cases this
  have nin : ∀ b o, s0.heap.get? b = some o → b ∉ frs outer → b ∉ (envOfC qual scope s0.heap.objs.size f cd :: outer).filterMap (·.frame) := fun b o hb hn z => by
    rcases List.mem_cons.mp (show b ∈ s0.heap.objs.size :: frs outer from z) with z | z
    · exact Nat.ne_of_lt (Heap.lt_size hb) z
    · exact hn z
  have isin : ∀ b, b ∈ frs outer → b ∈ (envOfC qual scope s0.heap.objs.size f cd :: outer).filterMap (·.frame) := fun b hb => show b ∈ s0.heap.objs.size :: frs outer from List.mem_cons_of_mem _ hb
  refine ⟨e, T, C, H, rfl, I.os, I.bare, ⟨fun b o hb hn hf hx' => ?_, fun b o hb hn hf hx' => ?_, hU.free, fun b o hb hx' => ?_, hU.tups, hU.frzs, hU.tbls⟩, hok_left I.hok l hfr he0 ht0, l.trc, he0, ?_, ?_, ?_, q⟩
  · obtain ⟨n1, n2⟩ := new b o hb
    exact l.keep b o (nin b o hb hf) n1 n2 (hU.keep b o hb hn hf hx')
  · obtain ⟨n1, n2⟩ := new b o hb
    obtain ⟨sl, h1⟩ := hU.slot b o hb hn hf hx'
    obtain ⟨sl', h2⟩ := l.slot b _ (isin b hf) n1 n2 h1
    exact ⟨sl', h2⟩
  · obtain ⟨n1, n2⟩ := new b o hb
    obtain ⟨o', h1⟩ := hU.there b o hb hx'
    by_cases z : b ∈ (envOfC qual scope s0.heap.objs.size f cd :: outer).filterMap (·.frame)
    · obtain ⟨sl, h2⟩ := l.slot b o' z n1 n2 h1
      exact ⟨_, h2⟩
    · exact ⟨o', l.keep b o' z n1 n2 h1⟩
  · cases r : H T with
    | none => rfl
    | some o =>
      obtain ⟨ob, z⟩ := ObjOk.at (I.hok T o r)
      rw [l.new] at z; cases z
  · cases r : s0.heap.get? e with
    | none => rfl
    | some o => exact absurd rfl (new e o r).1
  · cases r : s0.heap.get? T with
    | none => rfl
    | some o => exact absurd rfl (newT T o r)
theorem xe_made {h' : Heap} {e C : Addr} {args : List Value} (I : Inv (cxOf (CX1 P w) P w K mg base N qual scope f cd A outer s0 H0 E) pins σ H s) (hx : Heap.MadeExcOf s.heap h' e (.ref C) args) (q : E (.ref e) (some C) H) :
    (cxOf (CX1 P w) P w K mg base N qual scope f cd A outer s0 H0 E).xe (.ref e) { s with heap := h' } := by
  obtain ⟨t, he, ht, _⟩ := hx.there
  have he0 : H e = none := by
    cases r : H e with
    | none => rfl
    | some o =>
      obtain ⟨ob, z⟩ := ObjOk.at (I.hok e o r)
      rw [hx.new] at z; cases z
  have I1 : Inv (cxOf (CX1 P w) P w K mg base N qual scope f cd A outer s0 H0 E) pins σ H { s with heap := h' } := I.kept (t' := s.toks) hx.keeps
  have new : ∀ b o, s0.heap.get? b = some o → b ≠ e := fun b o hb z => by
    have hU : Un (frs outer) [] H0 H s0.heap s.heap := I.base
    obtain ⟨o', ho'⟩ := hU.there b o hb (by simp)
    rw [z, hx.new] at ho'; cases ho'
  refine leave_first (base := base) (outer := outer) (L := s0.heap.objs.size) I.ok.frames I1.stack rfl he rfl rfl fun h2 T l => ?_
  exact left_cx I1 l (fun b o hb => ⟨new b o hb, new b o hb⟩) he0 he0 q
end
end L3

namespace L3
open PySem PySem.Spec PyProof.Rows L2
abbrev veM : List Value := [.type "ValueError", .type "Exception", .type "BaseException", .type "object"]
def ExcC (K : PySem.W.Frag) (mg : Str → Option Value) (x : Str) (C : Addr) : Prop := ∀ h : Heap, K.In h → OwnCls x C veM "ValueError.__new__" mg h
def Raises (X : Cx) (E : XK) : Prop := ∀ (pins : List (Addr × Obj)) (σ : L2.St) (H : Hp) (s : Shared) (h' : Heap) (e C : Addr) (args : List Value), Inv X pins σ H s → Heap.MadeExcOf s.heap h' e (.ref C) args → E (.ref e) (some C) H → X.xe (.ref e) { s with heap := h' }
def tRaise (C : Addr) (E : XK) (te : TE) : TS := fun _ σ H => te σ H fun _ H1 => ∀ e, E (.ref e) (some C) H1
section
variable {X : Cx} {x : Str} {C : Addr} {np cpos pos : Pos} {e₀ : Expr} {te : TE} {E : XK}
theorem ps_raise (hc : X.calm = true) (O : ExcC X.K X.mg x C) (hg : Gl X x) (hr : Raises X E) (he : PE X e₀ te) (hdb : (x == ("__debug__" : Str)) = false := by decide)
    (hst : starEach [e₀] X.env = [(false, eval e₀ X.env)] := by rfl) : PS X (.Raise (some (.Call (.Name x np) [e₀] [] cpos)) none pos) (tRaise C E te) := by
  intro pins s σ H D I h
  obtain ⟨tl, N, nm, q, bs, hdct, sn, sub, ab, col, dd, k0, k1, k2, k3, k5, mN, hC, hN, hni, T⟩ := (O X.base I.mod.kin).obj
  refine wpAny_Raise_call_subT (C := C) (nm := nm) (q := q) (N := N) (bs := bs) (bm := tl) (hdct := hdct) (sn := sn) (sub := sub) (ab := ab) (col := col) (dd := dd) (k0 := k0) (k1 := k1) (k2 := k2) (k3 := k3) (k5 := k5)
    PySem.F.excBase_ValueError (mN := mN) (T.hasType PySem.F.excBase_ValueError.hasBase) (I.ok.hd hc) (by rw [hst]; rfl) hni (ld_glob I hg (O s.heap I.kIn).bound ⟨rfl, ?_⟩ hdb)
  rw [hst]
  refine Calls.evalArgs_plain ?_
  show wpAny _ _ (spliced [(false, eval e₀ X.env)]) _ _ s
  refine Calls.spliced_cons (thn (he pins s σ H _ I h) fun v s1 ⟨y, H1, I1, r1, q1⟩ => Calls.spliced_nil ?_)
  exact ⟨rfl, szl rfl, I1.bk _ _ hC, hN.keeps I1.bk, T.keeps I1.bk, fun h' e hm => hr pins σ H1 s1 h' e C _ I1 hm (q1 e)⟩
end
section
variable {P : Program} {w : World} {K : PySem.W.Frag} {mg : Str → Option Value} {base : Heap} {N : List Str} {qual : Str} {scope : Scope} {f : Addr} {cd : Value} {A : Around} {outer : List Env} {s0 : Shared} {H0 : Hp} {E : XK}
theorem raises_cx : Raises (cxOf (CX1 P w) P w K mg base N qual scope f cd A outer s0 H0 E) E := fun _ _ _ _ _ _ _ _ I hx q => xe_made I hx q
end
end L3

namespace L3
open PySem PySem.Spec PyProof.Rows L2
section
variable {M : Model} {A : Around} {E : Value → Shared → Prop} {s : Shared}
theorem note_next {base : Heap} {env : Env} {outer : List Env} {L e T0 : Addr} {cls : Value} {Q : Unit → Shared → Prop}
    (hfr : A.frames = some (env :: outer)) (hl : s.heap.FunFrames base (env :: outer)) (hf : env.frame = some L) (ht : Trc s.heap e T0 cls)
    (h : ∀ h' T, Lft ((env :: outer).filterMap (·.frame)) e T0 T cls s.heap h' → Q () { s with heap := h' }) : wpAny M A (noteFrame (.ref e) env) (fun _ s' => wpAny M A (setFlight (.ref e) none) Q E s') E s := by
  obtain ⟨oe, vs, oT, ts, he, hcls, hd, h1, hTe, hT, hdT, h3⟩ := ht
  subst hcls
  unfold noteFrame
  simp only [hf]
  refine wpAny_bind (wpAny_field he hd h1 ?_)
  rw [if_pos (show (Value.ref T0 != Value.none) = true from by simp)]
  refine wpAny_bind (wpAny_field hT hdT h3 ?_)
  rw [if_neg (show ¬ ((Value.none == rawInt L) = true) from by simp [rawInt])]
  refine wpAny_bind (wpAny_setField hT hdT (Array.getElem?_eq_some_iff.mp h3).1 ?_)
  have other : ∀ b, b ≠ T0 → (s.heap.update T0 (Obj.mapFields (·.setIfInBounds 3 Value.none))).get? b = s.heap.get? b := fun b hb => Heap.get?_update_other _ _ (Ne.symm hb)
  have nf : ∀ b o, s.heap.get? b = some o → (∀ vs, o.data ≠ .fields vs) → b ≠ T0 := fun b o hb hnf q => by
    rw [q, hT] at hb
    cases hb
    exact hnf ts hdT
  refine entry_exact hfr (hl.of_keeps fun b o hb hnf => ⟨o, (other b (nf b o hb hnf)).trans hb, rfl⟩) hf ((other e (Ne.symm hTe)).trans he) hd (Array.getElem?_eq_some_iff.mp h1).1 fun h' T x => h h' T ?_
  refine ⟨fun b o hb hbe hb0 ho => x.keep b o hb hbe hbe ((other b hb0).trans ho), fun b o hb hbe hb0 ho => x.slot b o hb hbe hbe ((other b hb0).trans ho), ?_, x.trc⟩
  have := x.new
  by_cases q : T = T0
  · subst q
    have e5 := Heap.get?_update_self (Obj.mapFields (·.setIfInBounds 3 Value.none)) hT (Obj.isFreed_of_fields (Obj.data_mapFields hdT _))
    rw [show (s.heap.update T (Obj.mapFields (·.setIfInBounds 3 Value.none))).get? T = _ from e5] at this
    cases this
  · rw [← other T q]; exact this
theorem flight_end {e T0 : Addr} {cls : Value} {Q : Unit → Shared → Prop} (ht : Trc s.heap e T0 cls)
    (h : ∀ h', (∀ b, b ≠ T0 → h'.get? b = s.heap.get? b) → Trc h' e T0 cls → Q () { s with heap := h' }) : wpAny M A (setFlight (.ref e) none) Q E s := by
  obtain ⟨oe, vs, oT, ts, he, hcls, hd, h1, hTe, hT, hdT, h3⟩ := ht
  unfold setFlight
  refine wpAny_bind (wpAny_field he hd h1 ?_)
  rw [if_pos (show (Value.ref T0 != Value.none) = true from by simp)]
  have other : ∀ b, b ≠ T0 → (s.heap.update T0 (Obj.mapFields (·.setIfInBounds 3 ((none : Option Addr).elim Value.none fun f => rawInt f)))).get? b = s.heap.get? b := fun b hb => Heap.get?_update_other _ _ (Ne.symm hb)
  refine wpAny_setField hT hdT (Array.getElem?_eq_some_iff.mp h3).1 (h _ other ⟨oe, vs, _, _, (other e (Ne.symm hTe)).trans he, hcls, hd, h1, hTe, Heap.get?_update_self _ hT (Obj.isFreed_of_fields (Obj.data_mapFields hdT _)), Obj.data_mapFields hdT _, ?_⟩)
  simp only [Array.getElem?_setIfInBounds, if_true]
  rw [if_pos (Array.getElem?_eq_some_iff.mp h3).1]
  rfl
end
structure ApX (X : Cx) (pins : List (Addr × Obj)) (H : Hp) (a T : Addr) : Prop where
  s0 : ∀ b o, X.s₀.heap.get? b = some o → b ≠ a ∧ b ≠ T
  loc : X.env.locals ≠ a ∧ X.env.locals ≠ T
  cel : ∀ x c, X.env.cells.lookup x = some c → c ≠ a ∧ c ≠ T
  pin : ∀ p ∈ X.pn ++ pins, p.1 ≠ a ∧ p.1 ≠ T
  ha : H a = none
  hT : H T = none
theorem ApX.of {X : Cx} {pins : List (Addr × Obj)} {σ : L2.St} {H H' : Hp} {s : Shared} {a T : Addr} (I : Inv X pins σ H s) (hx : X.ex = []) (na : s.heap.get? a = none) (nT : s.heap.get? T = none) (ha : H' a = none) (hT : H' T = none) : ApX X pins H' a T := by
  have ne : ∀ b o, s.heap.get? b = some o → b ≠ a ∧ b ≠ T := fun b o hb => ⟨fun z => (by rw [z, na] at hb; cases hb), fun z => (by rw [z, nT] at hb; cases hb)⟩
  refine ⟨fun b o hb => ?_, ?_, fun x c hc => ?_, fun p hp => ne _ _ (I.pin p hp).1, ha, hT⟩
  · obtain ⟨o', h1⟩ := I.base.there b o hb (by rw [hx]; simp)
    exact ne b o' h1
  · obtain ⟨m, ⟨o, es, ep, ho, _⟩, _⟩ := I.loc
    exact ne _ _ ho
  · obtain ⟨v, hv⟩ := I.cell x c hc
    obtain ⟨o, ho, _⟩ := hv
    exact ne _ _ ho
end L3

namespace L3
open PySem PySem.Spec PyProof.Rows L2
theorem Inv.leftK {X : Cx} {pins : List (Addr × Obj)} {σ : L2.St} {H : Hp} {s : Shared} {a T0 : Addr} {h2 : Heap} (I : Inv X pins σ H s) (hx : X.ex = []) (ap : ApX X pins H a T0)
    (lk : ∀ b o, b ∉ frs X.stack → b ≠ a → b ≠ T0 → s.heap.get? b = some o → h2.get? b = some o) (ls : ∀ b o, b ∈ frs X.stack → b ≠ a → b ≠ T0 → s.heap.get? b = some o → ∃ sl, h2.get? b = some { o with slots := sl }) : Inv X pins σ H { s with heap := h2 } := by
  have stk : ∀ b, b ∈ frs X.stack → b = X.env.locals ∨ b ∈ X.fs := fun b hb => List.mem_cons.mp (I.stkSub b hb)
  have any : ∀ b o, b ≠ a → b ≠ T0 → s.heap.get? b = some o → ∃ sl, h2.get? b = some { o with slots := sl } := fun b o n1 n2 ho => by
    by_cases z : b ∈ frs X.stack
    · exact ls b o z n1 n2 ho
    · exact ⟨o.slots, lk b o z n1 n2 ho⟩
  have cellK : ∀ x c, X.env.cells.lookup x = some c → ∀ v, s.heap.IsCell c v → h2.IsCell c v := fun x c e v ⟨o, ho, hd⟩ => by
    obtain ⟨n1, n2⟩ := ap.cel x c e
    obtain ⟨sl, h1⟩ := any c o n1 n2 ho
    exact ⟨_, h1, hd⟩
  refine ⟨I.ok, I.os, I.bare, ⟨fun b o hb hn hf hx' => ?_, fun b o hb hn hf hx' => ?_, I.base.free, fun b o hb hx' => ?_, I.base.tups, I.base.frzs, I.base.tbls⟩, ?_, fun x c hc => ?_, I.free, I.freeC, fun p hp => ?_, fun b u q => ?_, I.len⟩
  · obtain ⟨n1, n2⟩ := ap.s0 b o hb
    refine lk b o (fun z => ?_) n1 n2 (I.base.keep b o hb hn hf hx')
    rcases stk b z with z | z
    · exact absurd (Nat.lt_of_lt_of_le (Heap.lt_size hb) I.ok.above) (by rw [z]; exact Nat.lt_irrefl _)
    · exact hf z
  · obtain ⟨n1, n2⟩ := ap.s0 b o hb
    obtain ⟨sl, h1⟩ := I.base.slot b o hb hn hf hx'
    obtain ⟨sl', h3⟩ := any b _ n1 n2 h1
    exact ⟨sl', h3⟩
  · obtain ⟨n1, n2⟩ := ap.s0 b o hb
    obtain ⟨o', h1⟩ := I.base.there b o hb hx'
    obtain ⟨sl, h3⟩ := any b o' n1 n2 h1
    exact ⟨_, h3⟩
  · obtain ⟨m, ⟨o, es, ep, ho, r⟩, hl⟩ := I.loc
    obtain ⟨sl, h1⟩ := any _ o ap.loc.1 ap.loc.2 ho
    refine ⟨m, ⟨_, es, ep, h1, r⟩, fun i x v e1 e2 e3 => ?_⟩
    obtain ⟨u, ru, lk⟩ := hl i x v e1 e2 e3
    refine ⟨u, ru, ?_⟩
    rcases lk with lk | ⟨k1, c, k2, k3⟩
    · exact .inl lk
    · exact .inr ⟨k1, c, k2, cellK x c k2 _ k3⟩
  · obtain ⟨v, hv⟩ := I.cell x c hc
    exact ⟨v, cellK x c hc v hv⟩
  · obtain ⟨p1, p2, p3, p4, p5⟩ := I.pin p hp
    obtain ⟨n1, n2⟩ := ap.pin p hp
    refine ⟨lk _ _ (fun z => ?_) n1 n2 p1, p2, p3, p4, p5⟩
    rcases stk _ z with z | z
    · exact p3 z
    · exact p4 z
  · refine (I.hok b u q).stay (fun c v hc r => ?_) (fun _ r => r) fun _ _ r => r
    have hn : H c ≠ none := by
      rcases hc with rfl | hc
      · rw [q]; exact fun z => nomatch z
      · rw [hc]; exact fun z => nomatch z
    exact lk c v (fun z => hn (I.stkFree c z)) (fun z => hn (by rw [z]; exact ap.ha)) (fun z => hn (by rw [z]; exact ap.hT)) r
theorem Inv.left {X : Cx} {pins : List (Addr × Obj)} {σ : L2.St} {H : Hp} {s : Shared} {a T0 T : Addr} {cls : Value} {h2 : Heap} (I : Inv X pins σ H s) (hx : X.ex = []) (ap : ApX X pins H a T0)
    (l : Lft (frs X.stack) a T0 T cls s.heap h2) : Inv X pins σ H { s with heap := h2 } := Inv.leftK I hx ap l.keep l.slot
end L3

namespace L3
open PySem PySem.Spec PyProof.Rows L2
abbrev pinX (X : Cx) (ps : List (Addr × Obj)) (E : Value → Shared → Prop) : Cx := { X with pn := X.pn ++ ps, xe := E }
def CaughtX (X : Cx) (ps : List (Addr × Obj)) (E : XK) : Value → Shared → Prop := fun e s' => ∃ (a T C : Addr) (σ : L2.St) (H : Hp), e = .ref a ∧ Inv X ps σ H s' ∧ Trc s'.heap a T (.ref C) ∧ ApX X ps H a T ∧ E e (some C) H
section
variable {X : Cx} {ps pins : List (Addr × Obj)} {E : Value → Shared → Prop} {σ : L2.St} {H : Hp} {s : Shared}
theorem Inv.pinX (I : Inv X ps σ H s) : Inv (pinX X ps E) [] σ H s :=
  ⟨⟨I.ok.mod, I.ok.kind, I.ok.glob, I.ok.blt, I.ok.above, I.ok.inj, I.ok.has, I.ok.cab, I.ok.hd, I.ok.frames, I.ok.stk, I.ok.exf, I.ok.bs, I.ok.bsz, I.ok.noex, I.ok.exfs, I.ok.funs, I.ok.frf⟩, I.os, I.bare, I.base, I.loc, I.cell, I.free, I.freeC, fun p hp => I.pin p (by simpa using hp), I.hok, I.len⟩
theorem Inv.unpin (I : Inv (L3.pinX X ps E) pins σ H s) : Inv X ps σ H s :=
  ⟨⟨I.ok.mod, I.ok.kind, I.ok.glob, I.ok.blt, I.ok.above, I.ok.inj, I.ok.has, I.ok.cab, I.ok.hd, I.ok.frames, I.ok.stk, I.ok.exf, I.ok.bs, I.ok.bsz, I.ok.noex, I.ok.exfs, I.ok.funs, I.ok.frf⟩, I.os, I.bare, I.base, I.loc, I.cell, I.free, I.freeC, fun p hp => I.pin p (List.mem_append_left _ hp), I.hok, I.len⟩
end
theorem pass_try {X : Cx} {ps : List (Addr × Obj)} {E : XK} (hx : X.ex = []) : Passes (CX1 X.prog X.w) (pinX X ps (CaughtX X ps E)) E := by
  intro pins σ H s ex s' I hc
  obtain ⟨a, T0, C, H', rfl, os, bare, un, hok, trc, e0, t0, ne, nt, q⟩ := hc
  have I0 : Inv X ps σ H s := Inv.unpin I
  have I1 : Inv X ps σ H' s' := I0.call' (ch := []) os un hok bare (fun b z => absurd z (by simp))
  exact ⟨a, T0, C, σ, H', rfl, I1, trc, ApX.of I0 hx ne nt e0 t0, q⟩
end L3

namespace L3
open PySem PySem.Spec PyProof.Rows L2
abbrev handX (X : Cx) (e : Addr) : Cx := { X with A := X.A.mark (some (.ref e)), calm := false, xe := fun _ _ => False }
section
variable {X : Cx} {pins : List (Addr × Obj)} {σ : L2.St} {H : Hp} {s : Shared} {e : Addr}
theorem Inv.handX (I : Inv X pins σ H s) : Inv (handX X e) pins σ H s :=
  ⟨⟨I.ok.mod, I.ok.kind, I.ok.glob, I.ok.blt, I.ok.above, I.ok.inj, I.ok.has, I.ok.cab, fun z => (nomatch z), I.ok.frames, I.ok.stk, I.ok.exf, I.ok.bs, I.ok.bsz, I.ok.noex, I.ok.exfs, I.ok.funs, I.ok.frf⟩, I.os, I.bare, I.base, I.loc, I.cell, I.free, I.freeC, I.pin, I.hok, I.len⟩
theorem Inv.unhand (ok : X.Ok) (I : Inv (L3.handX X e) pins σ H s) : Inv X pins σ H s := ⟨ok, I.os, I.bare, I.base, I.loc, I.cell, I.free, I.freeC, I.pin, I.hok, I.len⟩
theorem SP.unhand (ok : X.Ok) {D : Ends} {f : Flow} (h : SP (L3.handX X e) pins D f s) : SP X pins D f s := by
  cases f with
  | next => obtain ⟨σ', H', I, q⟩ := h; exact ⟨σ', H', Inv.unhand ok I, q⟩
  | brk => obtain ⟨σ', H', I, q⟩ := h; exact ⟨σ', H', Inv.unhand ok I, q⟩
  | cont => obtain ⟨σ', H', I, q⟩ := h; exact ⟨σ', H', Inv.unhand ok I, q⟩
  | ret u => obtain ⟨v, σ', H', I, r, q⟩ := h; exact ⟨v, σ', H', Inv.unhand ok I, r, q⟩
theorem SP.unpin {ps : List (Addr × Obj)} {E : Value → Shared → Prop} {D : Ends} {f : Flow} (h : SP (L3.pinX X ps E) [] D f s) : SP X ps D f s := by
  cases f with
  | next => obtain ⟨σ', H', I, q⟩ := h; exact ⟨σ', H', Inv.unpin I, q⟩
  | brk => obtain ⟨σ', H', I, q⟩ := h; exact ⟨σ', H', Inv.unpin I, q⟩
  | cont => obtain ⟨σ', H', I, q⟩ := h; exact ⟨σ', H', Inv.unpin I, q⟩
  | ret u => obtain ⟨v, σ', H', I, r, q⟩ := h; exact ⟨v, σ', H', Inv.unpin I, r, q⟩
end
section
variable {X : Cx} {x : Str} {C : Addr} {np hpos pos : Pos} {body suite : List Stmt} {b₀ : Stmt} {tb th : TS} {E : XK}
end
end L3

namespace L3
open PySem PySem.Spec PyProof.Rows L2
open PySem.W in
/-- an exception class as the text's constants show it -/
theorem excC_of {K : PySem.W.Frag} {mg : Str → Option Value} {x : Str} {C : Addr} (b : mg x = some (.ref C)) (q : PySem.W.excIn K C veM "ValueError.__new__" = true) : ExcC K mg x C := by
  intro h X
  refine ⟨b, ?_⟩
  unfold PySem.W.excIn at q
  cases ho : K.lookup C with
  | none => rw [ho] at q; cases q
  | some ob =>
    rw [ho] at q
    obtain ⟨oc, od, oda, osl⟩ := ob
    split at q
    · rename_i dd cd sl e
      obtain ⟨rfl, rfl, rfl, rfl⟩ := Obj.mk.inj (Option.some.inj e)
      split at q
      · rename_i C' bm k0 k1 k2 k3 n k5 hm hs
        simp only [Bool.and_eq_true, beq_iff_eq, Bool.not_eq_true'] at q
        obtain ⟨⟨⟨⟨⟨rfl, rfl⟩, hdel⟩, ht⟩, hok⟩, hni⟩ := q
        obtain ⟨nm, bs, mro, ns, qn, hd, sn, sub, ab, col, del⟩ := cd
        dsimp only at hm hdel hok hni
        subst hm hdel
        obtain ⟨l⟩ := osl
        have hl : l = [k0, k1, k2, k3, some (.builtin "ValueError.__new__"), k5] := hs
        subst hl
        exact ⟨bm, ns, nm, qn, bs, hd, sn, sub, ab, col, od, k0, k1, k2, k3, k5, _, X _ _ ho, .of_isNs (PySem.W.isNs_of_in X hok), PySem.W.nsMap_none_of_in X hok hni, PySem.W.tail_of_in X ht⟩
      · cases q
    · cases q
end L3

namespace L3
open PySem PySem.Spec PyProof.Rows L2
section
variable {P : Program} {w : World} {K : PySem.W.Frag} {mg : Str → Option Value} {base : Heap}
theorem Fun.okX {x qual : Str} {st : Stmt} {f : Addr} {fd : FuncData} {N ps : List Str} {k : Nat} {sp : Sp} (F : Fun K x qual st f fd) (S : FnScope N ps (defScope st)) (len : ∀ vs H Q E, sp vs H Q E → vs.length = ps.length)
    (hbody : ∀ (cdv : Value) (A : Around) (outer : List Env) (s : Shared) (H : Hp) (vs : List V) (Q : VK) (E : XK), Room k (A.deeper (envOfC qual (defScope st) s.heap.objs.size f cdv)) → sp vs H Q E →
      ∃ t, PSs (cxOf (CX1 P w) P w K mg base N qual (defScope st) f cdv A outer s H E) (defBody st) t ∧ t { nx := fun _ H' => Q .non H', rt := Q } (start N vs) H) : FnOk P w K mg base (CX1 P w) (k + 1) f fd ps sp := by
  obtain ⟨oc, od, kV, doc, pm, an, cdv, ct, osl, rfl, lk, hcd⟩ := F.ex
  exact fn_of lk hcd S len fun A outer s H vs Q E hr hsp => hbody cdv A outer s H vs Q E hr hsp
end
def MCalleeX (P : Program) (w : World) (K : PySem.W.Frag) (mg : Str → Option Value) (base : Heap) (C : Addr) (k : Nat) (m : Str) (ps : List Str) (sp : Sp) : Prop :=
  ∃ (f : Addr) (fd : FuncData), FnOk P w K mg base (CX1 P w) k f fd ps sp ∧ Binds K fd ps [] ∧ Meth K C m f
def CalleeX (P : Program) (w : World) (K : PySem.W.Frag) (mg : Str → Option Value) (base : Heap) (k : Nat) (x : Str) (ps : List Str) (sp : Sp) : Prop :=
  ∃ (f : Addr) (fd : FuncData), FnOk P w K mg base (CX1 P w) k f fd ps sp ∧ Binds K fd ps [] ∧ PySem.W.keepIn K (.ref f) = true ∧ mg x = some (.ref f)
section
variable {P : Program} {w : World} {K : PySem.W.Frag} {mg : Str → Option Value} {base : Heap} {C : Addr} {j k : Nat} {m x : Str} {ps : List Str} {sp : Sp}
theorem MCalleeX.mono (c : MCalleeX P w K mg base C j m ps sp) (h : j ≤ k) : MCalleeX P w K mg base C k m ps sp := by
  obtain ⟨f, fd, F, b, mt⟩ := c
  exact ⟨f, fd, F.mono h, b, mt⟩
theorem CalleeX.mono (c : CalleeX P w K mg base j x ps sp) (h : j ≤ k) : CalleeX P w K mg base k x ps sp := by
  obtain ⟨f, fd, F, b, mt⟩ := c
  exact ⟨f, fd, F.mono h, b, mt⟩
end
section
variable {X : Cx} {C : Addr} {k : Nat} {m x : Str} {ps : List Str} {sp : Sp} {o e : Expr} {es : List Expr} {ta : TE} {t : TA} {apos pos p : Pos} {E : XK}
theorem pe_callX (c : CalleeX X.prog X.w X.K X.mg X.base k x ps sp) (hx : Passes (CX1 X.prog X.w) X E) (hr : Room k X.A) (hg : Gl X x)
    (ha : PA X (e :: es) t) (hdb : (x == ("__debug__" : Str)) = false := by decide) (he : starEach (e :: es) X.env = (false, eval e X.env) :: starEach es X.env := by rfl) (hpl : (backTo pos (starEach es X.env)).any (·.1) = false := by rfl) :
    PE X (.Call (.Name x p) (e :: es) [] pos) (tCall sp [] E t) := by
  obtain ⟨f, fd, F, b, kp, m⟩ := c
  exact pe_call F hr hg m kp b .nil hx ha hdb he hpl
end
end L3

namespace L3
open PySem PySem.Spec PyProof.Rows L2 PySem.W
open PySem.Builtin PySem.Builtin.ObjectAttr PySem.Builtin.Getset_descriptor in
theorem exc_class_get {prog : Program} {w : World} {A : Around} {s : Shared} {K : PySem.W.Frag} {a C : Addr} {o : Obj} {R : Result → Shared → Prop} {tp : Value} (X : K.In s.heap) (hx : s.heap.get? a = some o) (hc : o.cls = .ref C) (hm : PySem.W.mroIn K C (.type "object") = some true)
    (h : R (.ok (.ret (.ref C))) s) : codeAny (model prog w) A (.call (.builtin "getset_descriptor.__get__") ⟨[.builtin "object.__class__", .ref a, tp], []⟩) R s := by
  obtain ⟨hh, g, dr, t, os⟩ := s
  have L0 : Looks (model prog w) hh (typeOf (.ref a)) (.ref C) := hc ▸ (Looks.ld hx).andThen .now
  have L1 := looks_mroIn (M := model prog w) X hm
  refine codeAny_call_builtin KF.slot_gs.plain KF.entry_gs (KF.slot_gs.check _ _ _ _ _ _ _ _ KF.type_class (KF.args_gs _ _ _) ?_)
  unfold Builtin.«getset_descriptor.__get__» descrGet
  rw [dga_obj]
  refine wpAny_bind (wpAny_pure ?_)
  unfold descrGetter descrCheckInstance descrNameAndClass isInstance
  simp only [KF.owner_class]
  repeat lk
  refine ⟨Code.quiet_builtin _ (by decide +kernel), codeAny_builtin KF.entry_class ?_⟩
  unfold Builtin.«object.__class__» shownTypeOf
  repeat lk
  exact h
section
variable {prog : Program} {w : World} {A : Around} {E : Value → Shared → Prop} {K : PySem.W.Frag} {a C : Addr} {o : Obj} {h : Heap} {g : Array GenState} {d : Drawn} {t : Nat} {os : OsState}
theorem exc_class_entry {tk : Tok} {Q : PySem.Fin → Shared → Prop} (X : K.In h) (hx : h.get? a = some o) (hc : o.cls = .ref C) (ha : findIn K (.ref C) "__class__" = some (some (.builtin "object.__class__"))) (hm : PySem.W.mroIn K C (.type "object") = some true)
    (hq : Q (.done (.ret (.ref C))) ⟨h, g, d, t, os⟩) : wpAny (model prog w) A (Builtin.«object.__getattribute__» ⟨[.ref a, .str "__class__" tk], []⟩) Q E ⟨h, g, d, t, os⟩ := by
  have L0 : Looks (model prog w) h (typeOf (.ref a)) (.ref C) := hc ▸ (Looks.ld hx).andThen .now
  have L1 := looks_findIn (M := model prog w) X ha
  have f5 := PySem.F.typeOf_object_class
  have f6 := PySem.F.slot_gs_get.lookup
  have f7 := PySem.F.slot_gs_set.lookup
  repeat (any_goals (first | assumption | with_reducible refine L0.at ?_ | with_reducible refine L1.at ?_ | (with_reducible refine wpAny_loadPart_at hx ?_; rw [hc]) | wp_step))
  refine exc_class_get X hx hc hm ?_
  repeat (any_goals (first | assumption | wp_step))
theorem exc_check_ga {M : Model} {nameV : Value} {Q : Unit → Shared → Prop} (X : K.In h) (hx : h.get? a = some o) (hc : o.cls = .ref C) (hb : PySem.W.mroIn K C (.type "BaseException") = some true) (hq : Q () ⟨h, g, d, t, os⟩) :
    wpAny M A (checkBuiltinCall "BaseException.__getattribute__" ⟨[.ref a, nameV], []⟩) Q E ⟨h, g, d, t, os⟩ := by
  have hk : builtinKind "BaseException.__getattribute__" = some .slot := by decide +kernel
  have hsplit : splitId "BaseException.__getattribute__" = some ("BaseException", "__getattribute__") := by decide +kernel
  have L0 : Looks M h (typeOf (.ref a)) (.ref C) := hc ▸ (Looks.ld hx).andThen .now
  have L1 := looks_mroIn (M := M) X hb
  have ha := PySem.F.args_bexc_ga (.ref a) nameV
  simp only [checkBuiltinCall, hk, hsplit]
  refine wpAny_bind ?_
  unfold isInstance
  repeat (first | with_reducible refine L0.at ?_ | with_reducible refine L1.at ?_ | wp_step)
  exact hq
theorem exc_class_call {tk : Tok} {R : Result → Shared → Prop} (X : K.In h) (hx : h.get? a = some o) (hc : o.cls = .ref C) (ha : findIn K (.ref C) "__class__" = some (some (.builtin "object.__class__"))) (hm : PySem.W.mroIn K C (.type "object") = some true) (hb : PySem.W.mroIn K C (.type "BaseException") = some true)
    (hq : R (.ok (.ret (.ref C))) ⟨h, g, d, t, os⟩) : codeAny (model prog w) A (.call (.builtin "BaseException.__getattribute__") ⟨[.ref a, .str "__class__" tk], []⟩) R ⟨h, g, d, t, os⟩ :=
  codeAny_call_builtin (by decide +kernel) PySem.F.entry_bexc_ga (exc_check_ga X hx hc hb (exc_class_entry X hx hc ha hm hq))
theorem exc_class_by {tk : Tok} {Q : Value → Shared → Prop} (X : K.In h) (hx : h.get? a = some o) (hc : o.cls = .ref C) (hga : findIn K (.ref C) "__getattribute__" = some (some (.builtin "BaseException.__getattribute__"))) (hgt : findIn K (.ref C) "__getattr__" = some none)
    (ha : findIn K (.ref C) "__class__" = some (some (.builtin "object.__class__"))) (hm : PySem.W.mroIn K C (.type "object") = some true) (hb : PySem.W.mroIn K C (.type "BaseException") = some true)
    (hq : Q (.ref C) ⟨h, g, d, t, os⟩) : wpAny (model prog w) A (getAttrBy (.ref a) (.str "__class__" tk) false) Q E ⟨h, g, d, t, os⟩ := by
  have L0 : Looks (model prog w) h (typeOf (.ref a)) (.ref C) := hc ▸ (Looks.ld hx).andThen .now
  have L1 := looks_findIn (M := model prog w) X hga
  have L2 := looks_findIn (M := model prog w) X hgt
  have f3 := PySem.F.attr_ValueError.ga.bind (.ref a)
  have hx2 : (Value.builtin "BaseException.__getattribute__" == Value.builtin "object.__getattribute__") = false := by decide +kernel
  have hx1 : (onTheHeap (Value.ref C) && Value.builtin "BaseException.__getattribute__" == Value.builtin "object.__getattribute__") = false := by rw [hx2]; rfl
  repeat (any_goals (first | assumption | with_reducible refine L0.at ?_ | with_reducible refine L1.at ?_ | with_reducible refine L2.at ?_ | (with_reducible refine wpAny_loadPart_at hx ?_; rw [hc]) | wp_step))
  refine exc_class_call X hx hc ha hm hb ?_
  repeat (any_goals (first | assumption | wp_step))
theorem exc_class_attr {Q : Option Value → Shared → Prop} (X : K.In h) (hx : h.get? a = some o) (hc : o.cls = .ref C) (hga : findIn K (.ref C) "__getattribute__" = some (some (.builtin "BaseException.__getattribute__"))) (hgt : findIn K (.ref C) "__getattr__" = some none)
    (ha : findIn K (.ref C) "__class__" = some (some (.builtin "object.__class__"))) (hm : PySem.W.mroIn K C (.type "object") = some true) (hb : PySem.W.mroIn K C (.type "BaseException") = some true)
    (hq : Q (some (.ref C)) ⟨h, g, d, t + 1, os⟩) : wpAny (model prog w) A (getAttr? (.ref a) "__class__") Q E ⟨h, g, d, t, os⟩ := by
  unfold getAttr? getAttrBy?
  repeat (any_goals (first | assumption | with_reducible apply exc_class_by X hx hc hga hgt ha hm hb | wp_step))
end
end L3

namespace L3
open PySem PySem.Spec PyProof.Rows L2 PySem.W
structure ExcK (K : PySem.W.Frag) (C : Addr) : Prop where
  ga : findIn K (.ref C) "__getattribute__" = some (some (.builtin "BaseException.__getattribute__"))
  gt : findIn K (.ref C) "__getattr__" = some none
  cl : findIn K (.ref C) "__class__" = some (some (.builtin "object.__class__"))
  ob : mroIn K C (.type "object") = some true
  be : mroIn K C (.type "BaseException") = some true
theorem mro_cls {K : PySem.W.Frag} {C : Addr} {b : Value} {r : Bool} (e : mroIn K C b = some r) : ∃ cd, clsIn K C = some cd := by
  obtain ⟨cd, a, _⟩ := Option.bind_eq_some_iff.mp e
  exact ⟨cd, a⟩
theorem kitx_exc {K : PySem.W.Frag} {a C : Addr} (F : ExcK K C) : KitX K (.ref a) (.ref C) (fun h => ∃ o, h.get? a = some o ∧ o.cls = .ref C) where
  ty := fun M h _ p => by
    obtain ⟨o, h1, h2⟩ := p
    exact h2 ▸ (Looks.ld h1).andThen .now
  it := fun _ _ X _ => by
    obtain ⟨cdD, hcD⟩ := mro_cls F.ob
    unfold clsIn at hcD
    split at hcD
    · rename_i c' d' cd' sl' ho
      intro A' Q' E' s' k q
      unfold isType loadHead
      exact wpAny_bind (wpAny_loadPart (k _ _ (X _ _ ho)) (wpAny_pure q))
    · cases hcD
  ne := fun h tp dd its n sl X htp => by
    obtain ⟨cdD, hcD⟩ := mro_cls F.ob
    refine Bool.eq_false_iff.mpr fun q => ?_
    have e : C = tp := Value.ref.inj (beq_iff_eq.mp q)
    subst e
    unfold clsIn at hcD
    split at hcD
    · rename_i c' d' cd' sl' ho
      have z := (X _ _ ho).symm.trans htp
      cases z
    · cases hcD
  ca := fun {_ _ _ _ _ s} X p k => by
    obtain ⟨h, g, d, t, os⟩ := s
    obtain ⟨o, h1, h2⟩ := p
    exact exc_class_attr X h1 h2 F.ga F.gt F.cl F.ob F.be k
def ExO (a C : Addr) : HO := .ext fun h => ∃ o, h.get? a = some o ∧ o.cls = .ref C
def rIsiE (K : PySem.W.Frag) : List V → Hp → VK → Prop := fun xs H Q => ∃ (a C : Addr) (y : V) (c : Value) (b : Bool), xs = [.ref a, y] ∧ H a = some (ExO a C) ∧ (∀ u, RelV y u → u = c) ∧ ExcK K C ∧ kitOne K (.ref C) c = some b ∧ Q (.bl b) H
theorem call_isiE {X : Cx} {K : PySem.W.Frag} (hK : X.K = K) : CallR X (.builtin "isinstance") (rIsiE K) := by
  subst hK
  intro pins s σ H xs us Q I r h
  obtain ⟨a, C, y, c, b, rfl, hH, hy, F, e, q⟩ := h
  obtain ⟨u, w', rfl, rx, ry⟩ := vals2 r
  cases (show u = Value.ref a from rx)
  have := hy w' ry
  subst this
  exact kia_one (kitx_exc F) I.kIn (I.hok a _ hH).1 e (fun z => nomatch z) fun tk => ⟨.bl b, H, I.tok _, rfl, q⟩
theorem excMatches_up {M : Model} {A : Around} {E : Value → Shared → Prop} {K : PySem.W.Frag} {h : Heap} {g : Array GenState} {d : Drawn} {t : Nat} {os : OsState} {e C' C N : Addr} {oe : Obj} {Q : Bool → Shared → Prop} {nm q : Str} {bs bm : List Value} {hdct : Bool} {sn : List Str} {sub : List Value} {ab : Bool} {col : Option Bool} {dd : Option Addr} {k0 k1 k2 k3 k5 : Option Value} {newId : String}
    (X : K.In h) (hC : h.get? C = some (excClassObj nm q C N bs bm hdct sn sub ab col dd k0 k1 k2 k3 k5 newId)) (he : h.get? e = some oe) (hcls : oe.cls = .ref C') (hbase : bm.contains (.type "BaseException") = true) (hup : mroIn K C' (.ref C) = some true)
    (hq : Q true ⟨h, g, d, t, os⟩) : wpAny M A (excMatches (.ref e) (.ref C)) Q E ⟨h, g, d, t, os⟩ := by
  have hcB : (Value.ref C :: bm).contains (.type "BaseException") = true := by rw [List.contains_cons, hbase, Bool.or_true]
  have L1 := looks_mroIn (M := M) X hup
  have f := tc_notTuple
  unfold excMatches
  repeat (first | (with_reducible refine wpAny_loadPart_at he ?_; rw [hcls]) | with_reducible refine L1.at ?_ | with_reducible refine wpAny_loadPart_at hC ?_ | (with_reducible refine wpAny_isSubtype_exc hC ?_; rw [hcB]) | wp_step)
  exact hq
end L3

namespace L3
open PySem PySem.Spec PyProof.Rows L2 PySem.W
section
variable {X : Cx} {pins : List (Addr × Obj)} {σ : L2.St} {H : Hp} {s : Shared}
theorem unbind_ok {M : Model} {A : Around} {E : Value → Shared → Prop} {i : Nat} {x : Str} {pos : Pos} {Q : Unit → Shared → Prop} (I : Inv X pins σ H s) (hN : X.N.Nodup) (hi : X.N[i]? = some x) (hx : X.env.kindOf x = some .local) (hx2 : X.env.scope.names.lookup x = some .local)
    (h : ∀ s', Inv X pins (σ.set i none) H s' → Q () s') : wpAny M A (do bindName X.env x .none; unbindBehindTheSuite X.env x pos) Q E s := by
  have hcls : (X.env.scope.kind == .class || (X.env.scope.kind == .module && X.env.locals != X.env.globals)) = false := by rw [I.ok.kind]; rfl
  refine wpAny_bind (wpAny_bindName (store_ok (v := .non) I hN hi (.inl hx2) rfl (fun s1 I1 => ?_) (.inr hx2)))
  unfold unbindBehindTheSuite
  refine wpAny_onRaise ?_
  unfold unbindName
  refine wpAny_bind (wpAny_point (wpAny_bind ?_))
  unfold deleteName
  simp only [hx, hcls]
  rw [if_neg (by decide)]
  obtain ⟨m, hn, hl⟩ := id I1.loc
  refine wpAny_bind (wpAny_nsDel_keeps hn fun h' v hn' hs => ?_)
  have hiσ : i < σ.length := by rw [I.len]; exact (List.getElem?_eq_some_iff.mp hi).1
  have hm : (m x).isSome = true := by
    obtain ⟨u, _, l⟩ := hl i x .non hi (List.getElem?_set_self hiσ) (.inl hx2)
    rcases l with ⟨_, e⟩ | ⟨k, _⟩
    · rw [e]; rfl
    · rcases k with k | k <;> (rw [hx] at k; cases k)
  simp only [hm, if_true, Bool.not_true, Bool.false_eq_true, if_false]
  refine wpAny_pure (wpAny_point (h _ ?_))
  obtain ⟨oL, _, _, hoL, _⟩ := id hn
  have cne := I1.cne
  have tracked : HOk X.prog X.w H h' := fun b ob e => by
    refine (I1.hok b ob e).stay (fun c w' hc q => (hs.2 c ?_).trans q) (fun _ q => q) fun _ _ q => q
    rintro rfl
    have hfree := I1.free
    rcases hc with hc | hc
    · rw [← hc] at e; rw [hfree] at e; cases e
    · rw [hfree] at hc; cases hc
  refine ⟨I1.ok, I1.os, I1.bare, ⟨fun b o e n hb hx => ?_, fun b o e n hb hx => ?_, I1.base.free, fun b o e hx => ?_, I1.base.tups, I1.base.frzs, I1.base.tbls⟩, ⟨_, hn', fun j y v' e1 e2 e3 => ?_⟩, fun y c e => ?_, I1.free, I1.freeC, fun p hp => ?_, tracked, by rw [List.length_set]; exact I.len⟩
  · exact (hs.2 b (Nat.ne_of_lt (Nat.lt_of_lt_of_le (Heap.lt_size e) I1.ok.above))).trans (I1.base.keep b o e n hb hx)
  · obtain ⟨sl, e1⟩ := I1.base.slot b o e n hb hx
    exact ⟨sl, (hs.2 b (Nat.ne_of_lt (Nat.lt_of_lt_of_le (Heap.lt_size e) I1.ok.above))).trans e1⟩
  · obtain ⟨o', e1⟩ := I1.base.there b o e hx
    exact ⟨o', (hs.2 b (Nat.ne_of_lt (Nat.lt_of_lt_of_le (Heap.lt_size e) I1.ok.above))).trans e1⟩
  · have hj : j ≠ i := fun z => by
      subst z
      rw [List.getElem?_set_self hiσ] at e2
      cases e2
    rw [List.getElem?_set_ne (Ne.symm hj)] at e2
    obtain ⟨u', r', q⟩ := hl j y v' e1 (by rw [List.getElem?_set_ne (Ne.symm hj)]; exact e2) e3
    refine ⟨u', r', ?_⟩
    rcases q with ⟨k, e⟩ | ⟨k, c, e, z⟩
    · refine .inl ⟨k, ?_⟩
      have : y ≠ x := fun e => hj (nodup_ix hN e1 (e ▸ hi))
      simp [this, e]
    · exact .inr ⟨k, c, e, z.sameBut hs (cne y c e)⟩
  · obtain ⟨w', z⟩ := I1.cell y c e
    exact ⟨w', z.sameBut hs (cne y c e)⟩
  · obtain ⟨e, n, ne, nf, d⟩ := I1.pin p hp
    exact ⟨(hs.2 p.1 ne).trans e, n, ne, nf, d⟩
end

theorem Inv.trackX {X : Cx} {pins : List (Addr × Obj)} {σ : L2.St} {H : Hp} {s : Shared} {a T C : Addr} {o : Obj} (I : L2.Inv X pins σ H s) (ap : ApX X pins H a T) (he : s.heap.get? a = some o) (hc : o.cls = .ref C) : L2.Inv X pins σ (upd H a (ExO a C)) s := by
  refine ⟨I.ok, I.os, I.bare, ⟨I.base.keep, I.base.slot, fun b o' e n hx => ?_, I.base.there, fun b xs e => ?_, fun b o' u e => ?_, fun b ps e => ?_⟩, I.loc, I.cell, ?_, fun x c e => ?_, fun p hp => ?_, ?_, I.len⟩
  · rw [upd_ne (ap.s0 b o' e).1]; exact I.base.free b o' e n hx
  · have z := I.base.tups b xs e
    rw [upd_ne (ne_of_none z ap.ha)]; exact z
  · have z := I.base.frzs b o' u e
    rw [upd_ne (ne_of_none z ap.ha)]; exact z
  · obtain ⟨more, z⟩ := I.base.tbls b ps e
    exact ⟨more, by rw [upd_ne (ne_of_none z ap.ha)]; exact z⟩
  · rw [upd_ne ap.loc.1]; exact I.free
  · rw [upd_ne (ap.cel x c e).1]; exact I.freeC x c e
  · obtain ⟨p1, p2, p3, p4, p5⟩ := I.pin p hp
    exact ⟨p1, by rw [upd_ne (ap.pin p hp).1]; exact p2, p3, p4, p5⟩
  · refine HOk.track I.hok ap.ha ⟨⟨o, he, hc⟩, ⟨o, he⟩, fun h1 h2 φ k => ?_⟩
    obtain ⟨o', e1, e2⟩ := φ
    exact ⟨o', k _ e1, e2⟩
def asEnds (i : Nat) (D : Ends) : Ends := { nx := fun σ H => D.nx (σ.set i none) H, rt := D.rt, bk := fun σ H => D.bk (σ.set i none) H, ct := fun σ H => D.ct (σ.set i none) H }
def tTryAs (n i : Nat) (K : PySem.W.Frag) (B : Addr) (E : XK) (tb th : TS) : TS := fun D σ H => tb D σ H ∧ ∀ (e C' : Addr) (σ' : L2.St) (H' : Hp), σ'.length = n → H' e = none → E (.ref e) (some C') H' → mroIn K C' (.ref B) = some true ∧ th (asEnds i D) (σ'.set i (some (.ref e))) (upd H' e (ExO e C'))
section
variable {X : Cx} {x y : Str} {C : Addr} {np hpos pos : Pos} {body suite : List Stmt} {b₀ : Stmt} {tb th : TS} {E : XK} {i : Nat} {K : PySem.W.Frag}
theorem ps_tryAs (hK : X.K = K) (hx : X.ex = []) (hstk : X.stack = X.env :: X.outer) (hf : X.env.frame = some X.env.locals) (O : ExcC X.K X.mg x C) (hg : Gl X x) (hN : X.N.Nodup) (hi : X.N[i]? = some y) (hy : X.env.kindOf y = some .local) (hy2 : X.env.scope.names.lookup y = some .local)
    (hB : ∀ ps, PSs (pinX X ps (CaughtX X ps E)) body tb) (hS : ∀ e, PSs (handX X e) (b₀ :: suite) th) (hdb : (x == ("__debug__" : Str)) = false := by decide) :
    PS X (.Try body [.ExceptHandler (some (.Name x np)) (some y) (b₀ :: suite) hpos] [] [] pos) (tTryAs X.N.length i K C E tb th) := by
  subst hK
  intro pins s σ H D I ⟨hb, hh⟩
  refine wpAny_Try_except (wpAny_mono (hB pins [] s σ H D (Inv.pinX I) hb) (fun f s1 h1 => ?_) (fun ex s1 h1 => ?_))
  · have h2 := SP.unpin h1
    cases f with
    | next => exact wpAny_execs_nil h2
    | brk => exact h2
    | cont => exact h2
    | ret u => exact h2
  · obtain ⟨a, T, C', σ', H', rfl, I1, trc, ap, q⟩ := h1
    have hfr : X.A.frames = some (X.env :: X.outer) := by rw [← hstk]; exact I.ok.frames
    have hst : s1.heap.FunFrames X.base (X.env :: X.outer) := by rw [← hstk]; exact I1.stack
    refine note_next (base := X.base) (outer := X.outer) hfr hst hf trc fun h2 T2 l => ?_
    have l' : Lft (frs X.stack) a T T2 (.ref C') s1.heap h2 := by rw [hstk]; exact l
    have I2 := Inv.left I1 hx ap l'
    have I3 : Inv (handX X a) pins σ' H' { s1 with heap := h2 } := Inv.handX I2
    obtain ⟨tl, N, nm, q0, bs, hdct, sn, sub, ab, col, dd, k0, k1, k2, k3, k5, mN, hC, hNs, hni, TL⟩ := (O X.base I.mod.kin).obj
    obtain ⟨oe, vs, oT, ts, he, hcls, _⟩ := id l.trc
    have hn : H' a = none := ap.ha
    obtain ⟨hup, q2⟩ := hh a C' σ' H' I1.len hn q
    refine wpAny_handleBy_cons (codeAny_handlers_test (ld_glob (X := handX X a) I3 hg (O X.base I.mod.kin).bound ?_ hdb)) (by intro q; cases q)
    refine excMatches_up I2.kIn (I2.bk _ _ hC) he hcls (TL.hasType PySem.F.excBase_ValueError.hasBase) hup (codeAny_handlers_suite_as ?_)
    refine flight_end (s := { s1 with heap := h2 }) l.trc fun h3 hk trc3 => ?_
    have hT2 : H' T2 = none := by
      cases r : H' T2 with
      | none => rfl
      | some o =>
        obtain ⟨ob, z⟩ := ObjOk.at (I1.hok T2 o r)
        rw [l.new] at z; cases z
    have ap2 : ApX X pins H' T2 T2 := ApX.of I1 hx l.new l.new hT2 hT2
    have I4 := Inv.leftK I2 hx ap2 (h2 := h3) (fun b o _ n1 _ ho => (hk b n1).trans ho) (fun b o _ n1 _ ho => ⟨o.slots, (hk b n1).trans ho⟩)
    obtain ⟨oe3, vs3, oT3, ts3, he3, hcls3, _⟩ := id trc3
    have I5 := Inv.trackX (C := C') I4 ap he3 hcls3
    have I6 : L2.Inv (handX X a) pins σ' (upd H' a (ExO a C')) { s1 with heap := h3 } := Inv.handX I5
    refine store_ok (X := handX X a) (v := .ref a) I6 hN hi (.inl hy2) rfl (fun s5 I7 => ?_) (.inr hy2)
    refine wpAny_mono (hS a pins s5 _ _ (asEnds i D) I7 q2) (fun f s2 h => ?_) (fun _ _ z => False.elim z)
    cases f with
    | next =>
      obtain ⟨σ2, H2, J, q3⟩ := h
      exact unbind_ok (Inv.unhand I.ok J) hN hi hy hy2 fun s' J' => ⟨_, H2, J', q3⟩
    | brk =>
      obtain ⟨σ2, H2, J, q3⟩ := h
      exact unbind_ok (Inv.unhand I.ok J) hN hi hy hy2 fun s' J' => ⟨_, H2, J', q3⟩
    | cont =>
      obtain ⟨σ2, H2, J, q3⟩ := h
      exact unbind_ok (Inv.unhand I.ok J) hN hi hy hy2 fun s' J' => ⟨_, H2, J', q3⟩
    | ret u =>
      obtain ⟨v, σ2, H2, J, r, q3⟩ := h
      exact unbind_ok (Inv.unhand I.ok J) hN hi hy hy2 fun s' J' => ⟨v, _, H2, J', r, q3⟩
end

theorem b_ValueError : bootBuiltins "ValueError" = some (.type "ValueError") := by kernel_rfl
end L3



namespace L2
open PySem PySem.Spec PyProof.Rows

section
variable {X : Cx} {pins : List (Addr × Obj)} {σ : List (Option V)} {H H' : Hp} {s : Shared} {h' : Heap}

end

end L2

namespace L2
open PySem PySem.Spec PyProof.Rows
section
variable {X : Cx}

variable {a b : Expr} {ta tb : TE} {pos : Pos}
variable {tA tB' : TT} {rest : List Expr}
end
end L2



namespace L2
open PySem PySem.Spec PyProof.Rows

section
variable {X : Cx} {a b c : Expr} {ta tb tc : TE} {pos : Pos}

end

end L2

namespace L2
open PySem PySem.Spec PyProof.Rows

section
variable {prog : Program} {w : World} {A : Around} {E : Value → Shared → Prop} {s : Shared} {K : PySem.W.Frag} {x dx C f : Addr} {mA : Str → Option Value} {name : Str} {v : Value}

end


section
variable {X : Cx} {pins : List (Addr × Obj)} {σ : St} {H : Hp} {s : Shared} {a C dx : Addr} {fs : List (Str × V)} {f : Str} {v : V} {A : Around} {E : Value → Shared → Prop}

end


end L2

namespace L2
open PySem PySem.Spec PyProof.Rows



section
variable {X : Cx} {CX : CXT} {k : Nat} {f C : Addr} {fd : FuncData} {ps : List Str} {sp : Sp} {dvs : List V} {ds : List Value} {E : XK} {x m : Str} {p pos apos : Pos} {e o : Expr} {es : List Expr} {ta : TE} {t : TA}

end


end L2

namespace L2
open PySem PySem.Spec PyProof.Rows
section
variable {X : Cx} {x : Str} {p pos : Pos} {e : Expr} {es : List Expr} {t : TA} {id T : String} {r : List V → Hp → VK → Prop}

end
end L2

namespace L2
open PySem PySem.Spec PyProof.Rows

section
variable {κ : Type} [DecidableEq κ]
def valV (kvs : List (κ × V)) (k : κ) : Option V := (kvs.find? fun kv => decide (kv.1 = k)).map (·.2)
def putK (kvs : List (κ × V)) (k : κ) (v : V) : List (κ × V) :=
  if (kvs.any fun kv => decide (kv.1 = k)) = true then kvs.map (fun kv => if kv.1 = k then (kv.1, v) else kv) else kvs ++ [(k, v)]
def dropK (kvs : List (κ × V)) (k : κ) : List (κ × V) := kvs.filter fun kv => decide (kv.1 ≠ k)

theorem valV_pos {p : κ × V} {r : List (κ × V)} {k : κ} (e : p.1 = k) : valV (p :: r) k = some p.2 := by simp [valV, List.find?_cons, e]
theorem valV_neg {p : κ × V} {r : List (κ × V)} {k : κ} (e : ¬ p.1 = k) : valV (p :: r) k = valV r k := by simp [valV, List.find?_cons, e]
theorem valV_any (k : κ) : ∀ kvs : List (κ × V), (kvs.any fun kv => decide (kv.1 = k)) = (valV kvs k).isSome
  | [] => rfl
  | p :: r => by
    rw [List.any_cons]
    by_cases e : p.1 = k
    · simp only [valV_pos e, decide_eq_true e, Bool.true_or, Option.isSome_some]
    · rw [valV_neg e, decide_eq_false e, Bool.false_or]; exact valV_any k r
theorem valV_map (k j : κ) (y : V) : ∀ kvs : List (κ × V), valV (kvs.map fun kv => if kv.1 = k then (kv.1, y) else kv) j = (valV kvs j).map fun x => if j = k then y else x
  | [] => rfl
  | p :: r => by
    have ih := valV_map k j y r
    rw [List.map_cons]
    by_cases h : p.1 = k
    · rw [if_pos h]
      by_cases e : p.1 = j
      · rw [valV_pos (p := (p.1, y)) e, valV_pos e, Option.map_some, if_pos (e.symm.trans h)]
      · rw [valV_neg (p := (p.1, y)) e, valV_neg e, ih]
    · rw [if_neg h]
      by_cases e : p.1 = j
      · rw [valV_pos (p := p) e, valV_pos e, Option.map_some, if_neg (fun z => h (e.trans z))]
      · rw [valV_neg (p := p) e, valV_neg e, ih]
theorem valV_snoc (k j : κ) (y : V) : ∀ kvs : List (κ × V), valV kvs k = none → valV (kvs ++ [(k, y)]) j = if j = k then some y else valV kvs j
  | [], _ => by
    by_cases e : k = j
    · rw [if_pos e.symm]; exact valV_pos (p := (k, y)) e
    · rw [if_neg (fun z => e z.symm)]; exact valV_neg (p := (k, y)) e
  | p :: r, hn => by
    rw [List.cons_append]
    have hk : ¬ p.1 = k := fun z => by rw [valV_pos z] at hn; cases hn
    rw [valV_neg hk] at hn
    have ih := valV_snoc k j y r hn
    by_cases e : p.1 = j
    · rw [valV_pos e, valV_pos e, if_neg (fun z => hk (e.trans z))]
    · rw [valV_neg e, valV_neg e, ih]
theorem valV_put (kvs : List (κ × V)) (k j : κ) (y : V) : valV (putK kvs k y) j = if j = k then some y else valV kvs j := by
  unfold putK
  by_cases a : (kvs.any fun kv => decide (kv.1 = k)) = true
  · rw [if_pos a, valV_map]
    rw [valV_any] at a
    by_cases e : j = k
    · obtain ⟨x, hx⟩ := Option.isSome_iff_exists.mp a
      rw [if_pos e, e, hx, Option.map_some, if_pos rfl]
    · rw [if_neg e]
      cases valV kvs j with
      | none => rfl
      | some x => rw [Option.map_some, if_neg e]
  · rw [if_neg a]
    refine valV_snoc k j y kvs ?_
    rw [valV_any] at a
    cases q : valV kvs k with
    | none => rfl
    | some x => rw [q] at a; exact (a rfl).elim
theorem length_putK (kvs : List (κ × V)) (k : κ) (v : V) : (putK kvs k v).length ≤ kvs.length + 1 := by
  unfold putK
  split
  · rw [List.length_map]; omega
  · rw [List.length_append, List.length_cons, List.length_nil]; omega

theorem RelO.isSome_eq {o : Option V} {u : Option Value} (r : RelO o u) : o.isSome = u.isSome := by
  cases o with
  | none => cases u with
    | none => rfl
    | some _ => exact (show False from r).elim
  | some _ => cases u with
    | none => exact (show False from r).elim
    | some _ => rfl
theorem RelO.getD {o : Option V} {u : Option Value} {d : V} {d' : Value} (r : RelO o u) (rd : RelV d d') : RelV (o.getD d) (u.getD d') := by
  cases o with
  | none => cases u with
    | none => exact rd
    | some _ => exact (show False from r).elim
  | some _ => cases u with
    | none => exact (show False from r).elim
    | some _ => exact r

theorem KV.val {kvs : List (κ × V)} {vs : List (κ × Value)} (r : KV kvs vs) (k : κ) : RelO (valV kvs k) (valueAt vs k) := by
  unfold KV at r
  induction r with
  | nil => exact True.intro
  | @cons p q ps qs h t ih =>
    obtain ⟨h1, h2⟩ := h
    by_cases e : p.1 = k
    · have e' : q.1 = k := h1.symm.trans e
      have b : valueAt (q :: qs) k = some q.2 := by simp [valueAt, List.find?_cons, e']
      rw [valV_pos e, b]; exact h2
    · have e' : ¬ q.1 = k := fun z => e (h1.trans z)
      have b : valueAt (q :: qs) k = valueAt qs k := by simp [valueAt, List.find?_cons, e']
      rw [valV_neg e, b]; exact ih
theorem KV.any {kvs : List (κ × V)} {vs : List (κ × Value)} (r : KV kvs vs) (k : κ) : (kvs.any fun kv => decide (kv.1 = k)) = vs.any fun kv => decide (kv.1 = k) := by
  unfold KV at r
  induction r with
  | nil => rfl
  | cons h t ih => rw [List.any_cons, List.any_cons, ih, h.1]
theorem KV.repl {kvs : List (κ × V)} {vs : List (κ × Value)} (r : KV kvs vs) (k : κ) {y : V} {u : Value} (ry : RelV y u) :
    KV (kvs.map fun kv => if kv.1 = k then (kv.1, y) else kv) (vs.map fun kv => if kv.1 = k then (kv.1, u) else kv) := by
  unfold KV at r ⊢
  induction r with
  | nil => exact .nil
  | @cons p q ps qs h t ih =>
    rw [List.map_cons, List.map_cons]
    refine .cons ?_ ih
    obtain ⟨h1, h2⟩ := h
    by_cases e : p.1 = k
    · rw [if_pos e, if_pos (h1.symm.trans e)]; exact ⟨h1, ry⟩
    · rw [if_neg e, if_neg (fun z => e (h1.trans z))]; exact ⟨h1, h2⟩
theorem KV.put {kvs : List (κ × V)} {vs : List (κ × Value)} (r : KV kvs vs) (k : κ) {y : V} {u : Value} (ry : RelV y u) : KV (putK kvs k y) (stored vs k u) := by
  unfold putK stored
  rw [r.any k]
  by_cases e : (vs.any fun kv => decide (kv.1 = k)) = true
  · rw [if_pos e, if_pos e]; exact r.repl k ry
  · rw [if_neg e, if_neg e]; exact Paired.snoc r ⟨rfl, ry⟩
theorem KV.drop {kvs : List (κ × V)} {vs : List (κ × Value)} (r : KV kvs vs) (k : κ) : KV (dropK kvs k) (without vs k) := by
  unfold KV at r ⊢
  unfold dropK without
  induction r with
  | nil => exact .nil
  | @cons p q ps qs h t ih =>
    obtain ⟨h1, h2⟩ := h
    rw [List.filter_cons, List.filter_cons]
    by_cases e : p.1 = k
    · have a : ¬ decide (p.1 ≠ k) = true := by simp [e]
      have b : ¬ decide (q.1 ≠ k) = true := by simp [h1.symm.trans e]
      rw [if_neg a, if_neg b]; exact ih
    · have e' : ¬ q.1 = k := fun z => e (h1.trans z)
      have a : decide (p.1 ≠ k) = true := by simp [e]
      have b : decide (q.1 ≠ k) = true := by simp [e']
      rw [if_pos a, if_pos b]; exact .cons ⟨h1, h2⟩ ih
theorem KV.keys {kvs : List (κ × V)} {vs : List (κ × Value)} (r : KV kvs vs) : kvs.map (·.1) = vs.map (·.1) := by
  unfold KV at r
  induction r with
  | nil => rfl
  | cons h t ih => rw [List.map_cons, List.map_cons, ih, h.1]
theorem KV.length {kvs : List (κ × V)} {vs : List (κ × Value)} (r : KV kvs vs) : kvs.length = vs.length := Paired.length r
end


theorem kV_is {P : Program} {w : World} {k : Key} {u : Value} (r : RelV (kV k) u) : (mixKind P w).is k u = true := by
  cases k with
  | inl i => obtain ⟨t, e⟩ := (show ∃ t, u = Value.int i t from r); subst e; exact mixKind_int P w i t
  | inr x => obtain ⟨t, e⟩ := (show ∃ t, u = Value.str x t from r); subst e; exact mixKind_str P w x t
theorem items_are {P : Program} {w : World} : ∀ {ks : List Key} {us : List Value}, Vals (ks.map kV) us → ItemsAre (mixKind P w) ks us
  | [], _, r => by rw [List.map_nil] at r; cases r; exact .nil
  | k :: ks, _, r => by
    rw [List.map_cons] at r
    cases r with
    | cons h t => exact .cons (kV_is h) (items_are t)

abbrev KT (H : Hp) : List (List Key × V) → List (List Key × Addr × Value) → Prop := Paired fun p q => p.1 = q.1 ∧ H q.2.1 = some (.tup (p.1.map kV)) ∧ RelV p.2 q.2.2
theorem KT.val {H : Hp} {kvs : List (List Key × V)} {xs : List (List Key × Addr × Value)} (r : KT H kvs xs) (k : List Key) : RelO (valV kvs k) ((atKey xs k).map (·.2)) := by
  induction r with
  | nil => exact True.intro
  | @cons p q ps qs h t ih =>
    obtain ⟨h1, _, h2⟩ := h
    by_cases e : p.1 = k
    · have e' : q.1 = k := h1.symm.trans e
      have b : atKey (q :: qs) k = some q.2 := by simp [atKey, List.find?_cons, e']
      rw [valV_pos e, b]; exact h2
    · have e' : ¬ q.1 = k := fun z => e (h1.trans z)
      have b : atKey (q :: qs) k = atKey qs k := by simp [atKey, List.find?_cons, e']
      rw [valV_neg e, b]; exact ih
theorem KT.repl {H : Hp} {kvs : List (List Key × V)} {xs : List (List Key × Addr × Value)} (r : KT H kvs xs) (k : List Key) {y : V} {u : Value} (ry : RelV y u) :
    KT H (kvs.map fun kv => if kv.1 = k then (kv.1, y) else kv) (xs.map (putAt k u)) := by
  induction r with
  | nil => exact .nil
  | @cons p q ps qs h t ih =>
    rw [List.map_cons, List.map_cons]
    refine .cons ?_ ih
    obtain ⟨h1, h2, h3⟩ := h
    unfold putAt
    by_cases e : p.1 = k
    · rw [if_pos e, if_pos (h1.symm.trans e)]; exact ⟨h1, h2, ry⟩
    · rw [if_neg e, if_neg (fun z => e (h1.trans z))]; exact ⟨h1, h2, h3⟩
theorem KT.put {H : Hp} {kvs : List (List Key × V)} {xs : List (List Key × Addr × Value)} (r : KT H kvs xs) (k : List Key) {b : Addr} {y : V} {u : Value} (hb : H b = some (.tup (k.map kV))) (ry : RelV y u) :
    KT H (putK kvs k y) (storedH xs k b u) := by
  have e : (kvs.any fun kv => decide (kv.1 = k)) = (atKey xs k).isSome := by
    rw [valV_any, (r.val k).isSome_eq, Option.isSome_map]
  unfold putK storedH
  rw [e]
  by_cases q : (atKey xs k).isSome = true
  · rw [if_pos q, if_pos q]; exact r.repl k ry
  · rw [if_neg q, if_neg q]; exact Paired.snoc r ⟨rfl, hb, ry⟩
theorem KT.keeps {H H' : Hp} {kvs : List (List Key × V)} {xs : List (List Key × Addr × Value)} (r : KT H kvs xs) (ht : ∀ b ys, H b = some (.tup ys) → H' b = some (.tup ys)) : KT H' kvs xs :=
  Paired.mapP r fun _ _ z => ⟨z.1, ht _ _ z.2.1, z.2.2⟩

section
variable {P : Program} {w : World} {H : Hp} {h : Heap} {a : Addr}
theorem rd_of {u : HO} (ok : HOk P w H h) (e : Rd H a u) : ObjOk P w H h a u := e.ok ok
theorem dk_rd {kvs : List (Key × V)} (ok : HOk P w H h) (e : Rd H a (.dK kvs)) : kvs.length ≤ sizeLine ∧ (a == sysModules) = false ∧ ∃ vs, KV kvs vs ∧ h.DictOf (mixKind P w) a vs :=
  show ObjOk P w H h a (.dK kvs) from rd_of ok e
theorem dk_of {kvs : List (Key × V)} (ok : HOk P w H h) (e : H a = some (.dK kvs)) : kvs.length ≤ sizeLine ∧ (a == sysModules) = false ∧ ∃ vs, KV kvs vs ∧ h.DictOf (mixKind P w) a vs := dk_rd ok (.inl e)
theorem key_of {ks : List Key} (ok : HOk P w H h) (e : H a = some (.tup (ks.map kV))) : (tupleKind (mixKind P w)).is h ks a := by
  obtain ⟨_, its, r, o, h1, h2, n, h3⟩ := (show ObjOk P w H h a (.tup (ks.map kV)) from ok a _ e)
  exact ⟨o, its.toArray, n, h1, h2, h3, by simpa using items_are r⟩
theorem dt_rd {kvs : List (List Key × V)} (ok : HOk P w H h) (e : Rd H a (.dT kvs)) : kvs.length ≤ sizeLine ∧ (a == sysModules) = false ∧
    ∃ xs, KT H kvs xs ∧ h.DictOfH (tupleKind (mixKind P w)) a xs := by
  obtain ⟨z, y, xs, r, o, es, ep, h1, h2, h3, h4, h5⟩ := (show ObjOk P w H h a (.dT kvs) from rd_of ok e)
  refine ⟨z, y, xs, r, o, es, ep, h1, h2, h3, h4, fun x hx => ?_, h5⟩
  have all : ∀ {l : List (List Key × V)} {m : List (List Key × Addr × Value)}, KT H l m → ∀ x ∈ m, (tupleKind (mixKind P w)).is h x.1 x.2.1 := by
    intro l m q
    induction q with
    | nil => intro x hx; exact nomatch hx
    | @cons p q ps qs hq t ih =>
      intro x hx
      rcases List.mem_cons.mp hx with e | hx
      · subst e
        exact key_of ok (by rw [← hq.1]; exact hq.2.1)
      · exact ih x hx
  exact all r x hx
theorem dt_of {kvs : List (List Key × V)} (ok : HOk P w H h) (e : H a = some (.dT kvs)) : kvs.length ≤ sizeLine ∧ (a == sysModules) = false ∧
    ∃ xs, KT H kvs xs ∧ h.DictOfH (tupleKind (mixKind P w)) a xs := dt_rd ok (.inl e)
end

def DGet (H : Hp) (a : Addr) (y : V) (r : Option V) : Prop :=
  (∃ kvs k, Rd H a (.dK kvs) ∧ y = kV k ∧ r = valV kvs k) ∨ ∃ kvs k b, Rd H a (.dT kvs) ∧ y = .ref b ∧ H b = some (.tup (k.map kV)) ∧ r = valV kvs k
def DPut (H : Hp) (a : Addr) (y v : V) (H' : Hp) : Prop :=
  (∃ kvs k, H a = some (.dK kvs) ∧ y = kV k ∧ kvs.length < sizeLine ∧ H' = upd H a (.dK (putK kvs k v))) ∨
  ∃ kvs k b, H a = some (.dT kvs) ∧ y = .ref b ∧ H b = some (.tup (k.map kV)) ∧ kvs.length < sizeLine ∧ H' = upd H a (.dT (putK kvs k v))
theorem DGet.k {H : Hp} {a : Addr} {kvs : List (Key × V)} {k : Key} (e : H a = some (.dK kvs)) : DGet H a (kV k) (valV kvs k) := .inl ⟨kvs, k, .inl e, rfl, rfl⟩
theorem DGet.t {H : Hp} {a b : Addr} {kvs : List (List Key × V)} {k : List Key} (e : H a = some (.dT kvs)) (eb : H b = some (.tup (k.map kV))) : DGet H a (.ref b) (valV kvs k) := .inr ⟨kvs, k, b, .inl e, rfl, eb, rfl⟩
theorem DPut.k {H : Hp} {a : Addr} {kvs : List (Key × V)} {k : Key} {v : V} (e : H a = some (.dK kvs)) (hl : kvs.length < sizeLine) : DPut H a (kV k) v (upd H a (.dK (putK kvs k v))) := .inl ⟨kvs, k, e, rfl, hl, rfl⟩
theorem DPut.t {H : Hp} {a b : Addr} {kvs : List (List Key × V)} {k : List Key} {v : V} (e : H a = some (.dT kvs)) (eb : H b = some (.tup (k.map kV))) (hl : kvs.length < sizeLine) :
    DPut H a (.ref b) v (upd H a (.dT (putK kvs k v))) := .inr ⟨kvs, k, b, e, rfl, eb, hl, rfl⟩


section
variable {X : Cx} {pins : List (Addr × Obj)} {σ : St} {H : Hp} {s : Shared} {a : Addr} {y v : V} {u r : Value} {o : Option V} {A : Around} {E : Value → Shared → Prop}

theorem Inv.big (I : Inv X pins σ H s) : sysModules < s.heap.objs.size := by
  have h : mainGlobals < s.heap.objs.size := (I.mod.glob.keeps I.bk).lt
  exact Nat.lt_trans (by decide) h

theorem d_getItem {Q : Value → Shared → Prop} (hu : A.units + 1 < cLine) (I : Inv X pins σ H s) (g : DGet H a y (some v)) (ry : RelV y u) (h : ∀ w' s', Inv X pins σ H s' → RelV v w' → Q w' s') :
    wpAny (model X.prog X.w) A (getItem (.ref a) u) Q E s := by
  rcases g with ⟨kvs, k, e, ey, l⟩ | ⟨kvs, k, b, e, ey, eb, l⟩
  · subst ey
    obtain ⟨z, hd, vs, rel, dd⟩ := dk_rd I.hok e
    obtain ⟨w', hw, rw'⟩ := RelO.some_of (v := v) (o := valueAt vs k) (by rw [l]; exact rel.val k)
    exact wpAny_getItem_of (kV_is ry) dd.mapOf hw (h w' _ (I.tok _) rw')
  · subst ey
    cases (show u = Value.ref b from ry)
    obtain ⟨z, hd, xs, rel, dd⟩ := dt_rd I.hok e
    obtain ⟨w', hw, rw'⟩ := RelO.some_of (v := v) (o := (atKey xs k).map (·.2)) (by rw [l]; exact rel.val k)
    obtain ⟨p, hp, hp2⟩ := Option.map_eq_some_iff.mp hw
    refine wpAny_getItem_heap (tupleKind_room_in1 hu) (key_of I.hok eb) dd hp ?_
    rw [hp2]
    exact h w' _ (I.tok _) rw'
theorem d_write {h' : Heap} {t' : Nat} {ob : HO} (I : Inv X pins σ H s) (mu : Mut (H a)) (hs : Heap.SameBut a s.heap h') (he : ∃ q, h'.get? a = some q) (new : ObjOk X.prog X.w (upd H a ob) h' a ob) :
    Inv X pins σ (upd H a ob) { s with heap := h', toks := t' } :=
  I.write (x := a) (e := a) mu (.inl rfl) (fun b q hb z => (hs.2 b hb).trans z) he new
theorem dk_new {P : Program} {w : World} {H' : Hp} {h' : Heap} {kvs : List (Key × V)} {vs : List (Key × Value)} (z : kvs.length ≤ sizeLine) (hd : (a == sysModules) = false) (rel : KV kvs vs) (dd : h'.DictOf (mixKind P w) a vs) :
    ObjOk P w H' h' a (.dK kvs) := ⟨z, hd, vs, rel, dd⟩
theorem d_setItem {H' : Hp} {Q : Unit → Shared → Prop} (hu : A.units + 1 < cLine) (I : Inv X pins σ H s) (g : DPut H a y v H') (ry : RelV y u) (rv : RelV v r) (h : ∀ s', Inv X pins σ H' s' → Q () s') :
    wpAny (model X.prog X.w) A (setItem (.ref a) u r) Q E s := by
  rcases g with ⟨kvs, k, e, ey, l, eH⟩ | ⟨kvs, k, b, e, ey, eb, l, eH⟩
  · subst ey eH
    obtain ⟨z, hd, vs, rel, dd⟩ := dk_of I.hok e
    have hz : vs.length ≤ sizeLine := by rw [← rel.length]; exact z
    have hl : (putK kvs k v).length ≤ sizeLine := by have := length_putK kvs k v; omega
    refine wpAny_setItem_pairs (hsz := hz) (kV_is ry) dd fun h' dd' hs => h _ ?_
    have he : ∃ q, h'.get? a = some q := let ⟨q, _, _, hq, _⟩ := dd'; ⟨q, hq⟩
    exact d_write I (by rw [e]; exact True.intro) hs he (dk_new hl hd (rel.put k rv) dd')
  · subst ey eH
    cases (show u = Value.ref b from ry)
    obtain ⟨z, hd, xs, rel, dd⟩ := dt_of I.hok e
    have hz : xs.length ≤ sizeLine := by rw [← Paired.length rel]; exact z
    have hl : (putK kvs k v).length ≤ sizeLine := by have := length_putK kvs k v; omega
    refine wpAny_setItem_heap (hsz := hz) (tupleKind_room_in1 hu) (key_of I.hok eb) dd fun h' dd' hs => h _ ?_
    obtain ⟨q, es, ep, hq, h2, h3, h4, _, h5⟩ := dd'
    refine d_write I (by rw [e]; exact True.intro) hs ⟨q, hq⟩ ⟨hl, hd, _, (rel.put k eb rv).keeps fun c ys ec => ?_, q, es, ep, hq, h2, h3, h4, h5⟩
    rw [upd_ne (ne_of ec e (fun z => nomatch z))]
    exact ec
end

section
variable {X : Cx} {pins : List (Addr × Obj)} {σ : St} {H : Hp} {s : Shared} {a : Addr} {kvs : List (Key × V)} {k : Key} {u : Value} {A : Around} {E : Value → Shared → Prop}
end


def NoSl (i : Expr) : Prop := ∀ ov iv, subscripted i false ov iv = operate [ov, iv] (getItem ov iv)
theorem subD_of {prog : Program} {w : World} {A : Around} {E : Value → Shared → Prop} {s : Shared} {env : Env} {value slice : Expr} {pos : Pos} {T id : String} {Q : Value → Shared → Prop}
    (hl : typeLookup (.type T) "__getitem__" = pure (some (.builtin id))) (hs : NoSl slice)
    (h : wpAny (model prog w) A (eval value env) (fun o s₁ => wpAny (model prog w) A (eval slice env) (fun i s₂ => s₂.TypeIs o T ∧ wpAny (model prog w) A (getItem o i) Q E s₂) E s₁) E s) :
    wpAny (model prog w) A (eval (.Subscript value slice pos) env) Q E s := by
  refine Subscript_ (wpAny_mono h (fun o s₁ h₁ => wpAny_mono h₁ (fun i s₂ h₂ => ?_) fun _ _ x => x) fun _ _ x => x)
  obtain ⟨hT, h₂⟩ := h₂
  unfold subscriptTail
  refine wpAny_bind ?_
  rw [getitemInPython_of_ne hT.not_modules]
  refine wpAny_bind (wpAny_specialOf hT hl ?_)
  have fin : wpAny (model prog w) A (subscripted slice false o i) (fun r s₃ => wpAny (model prog w) A (letTemporaryGo value o r >>= fun _ => pure r) Q E s₃) E s₂ := by
    rw [hs o i]
    exact wpAny_operating (wpAny_mono h₂ (fun r s₃ h₃ => wpAny_bind (wpAny_letTemporaryGo (wpAny_pure h₃))) fun _ _ x => x)
  first
    | exact wpAny_pure (wpAny_bind fin)
    | exact wpAny_bind (wpAny_pure (wpAny_bind fin))
    | exact wpAny_bind fin

theorem dict_typeIs {X : Cx} {pins : List (Addr × Obj)} {σ : St} {H : Hp} {s : Shared} {a : Addr} {y : V} {o : Option V} (I : Inv X pins σ H s) (g : DGet H a y o) : s.TypeIs (.ref a) "dict" := by
  rcases g with ⟨kvs, k, e, _, _⟩ | ⟨kvs, k, b, e, _, _, _⟩
  · obtain ⟨_, _, vs, _, dd⟩ := dk_rd I.hok e
    exact dd.typeIs
  · obtain ⟨_, _, xs, _, dd⟩ := dt_rd I.hok e
    exact dd.typeIs

def tDGet (td ty : TE) : TE := fun σ H Q => td σ H fun x H1 => ty σ H1 fun y H2 => ∃ a v, x = .ref a ∧ DGet H2 a y (some v) ∧ Q v H2
def sDPut (td ty tv : TE) : TS := fun D σ H => tv σ H fun v H1 => td σ H1 fun x H2 => ty σ H2 fun y H3 => ∃ a H4, x = .ref a ∧ DPut H3 a y v H4 ∧ D.nx σ H4

section
variable {X : Cx} {o i e value : Expr} {pos pos' tpos : Pos} {td ty tv : TE}
theorem pe_dget (hu : X.A.units + 1 < cLine) (ho : PE X o td) (hi : PE X i ty) (hs : NoSl i) : PE X (.Subscript o i pos) (tDGet td ty) := by
  intro pins s σ H Q I h
  refine subD_of PySem.F.slot_dict_getitem.lookup hs (thn (ho pins s σ H _ I h) fun u s1 ⟨x, H1, I1, rx, q1⟩ => thn (hi pins s1 σ H1 _ I1 q1) fun iv s2 ⟨y, H2, I2, ry, a, v, ex, g, q2⟩ => ?_)
  subst ex
  obtain rfl : u = Value.ref a := rx
  exact ⟨dict_typeIs I2 g, d_getItem hu I2 g ry fun w' s3 I3 rw' => ⟨v, H2, I3, rw', q2⟩⟩
theorem ps_dput (hu : X.A.units + 1 < cLine) (ho : PE X o td) (hi : PE X i ty) (hv : PE X value tv) (hs : swapsWith value (some (.Subscript o i pos')) pos.line X.env = pure false) :
    PS X (.Assign [.Subscript o i pos'] value pos) (sDPut td ty tv) := by
  intro pins s σ H D I h
  refine wpAny_Assign_Subscript (thn (hv pins s σ H _ I h) fun r s1 ⟨v, H1, I1, rv, q1⟩ => thn (ho pins s1 σ H1 _ I1 q1) fun u s2 ⟨x, H2, I2, rx, q2⟩ => thn (hi pins s2 σ H2 _ I2 q2) fun iv s3 ⟨y, H3, I3, ry, a, H4, ex, g, q3⟩ => ?_) hs
  subst ex
  obtain rfl : u = Value.ref a := rx
  exact d_setItem hu I3 g ry rv fun s4 I4 => ⟨σ, H4, I4, q3⟩
end


theorem dk_empty {P : Program} {w : World} {H : Hp} (h : Heap) (hb : sysModules < h.objs.size) : ObjOk P w H (h.push { cls := .type "dict", data := .dict #[] }) h.objs.size (.dK []) :=
  ⟨Nat.zero_le _, beq_eq_false_iff_ne.mpr (Ne.symm (Nat.ne_of_lt hb)), [], .nil, Heap.DictOf.new h⟩
section
variable {X : Cx} {pos : Pos}
end

def tPairs : List (TE × TE) → St → Hp → (List (V × V) → Hp → Prop) → Prop
  | [], _, H, Q => Q [] H
  | (tk, tv) :: r, σ, H, Q => tk σ H fun x H1 => tv σ H1 fun y H2 => tPairs r σ H2 fun ps H3 => Q ((x, y) :: ps) H3
abbrev VV : List (V × V) → List (Value × Value) → Prop := Paired fun p q => RelV p.1 q.1 ∧ RelV p.2 q.2
def PPs (X : Cx) (pos : Pos) (keys : List (Option Expr)) (values : List Expr) (trs : List (TE × TE)) : Prop :=
  ∀ (pins : List (Addr × Obj)) (s : Shared) (σ : St) (H : Hp) (Q : List (V × V) → Hp → Prop), Inv X pins σ H s → tPairs trs σ H Q →
    wpAny (model X.prog X.w) X.A (evalPairs (pairTrees keys values X.env pos)) (fun vs s' => ∃ ps H', Inv X pins σ H' s' ∧ VV ps vs ∧ Q ps H') X.xe s
theorem pps_nil {X : Cx} {pos : Pos} : PPs X pos [] [] [] := fun pins s σ H Q I h => pairTrees_nil_walk ⟨[], H, I, .nil, h⟩
theorem pps_cons {X : Cx} {pos : Pos} {k v : Expr} {ks : List (Option Expr)} {vs : List Expr} {tk tv : TE} {trs : List (TE × TE)} (hk : PE X k tk) (hv : PE X v tv) (hr : PPs X pos ks vs trs) :
    PPs X pos (some k :: ks) (v :: vs) ((tk, tv) :: trs) := fun pins s σ H Q I h =>
  pairTrees_cons_walk (thn (hk pins s σ H _ I h) fun u s1 ⟨x, H1, I1, rx, q1⟩ => thn (hv pins s1 σ H1 _ I1 q1) fun w2 s2 ⟨y, H2, I2, ry, q2⟩ =>
    thn (hr pins s2 σ H2 _ I2 q2) fun ws s3 ⟨ps, H3, I3, rel, q3⟩ => ⟨(x, y) :: ps, H3, I3, .cons ⟨rx, ry⟩ rel, q3⟩)

def mergeK (kvs more : List (Key × V)) : List (Key × V) := more.foldl (fun acc kv => putK acc kv.1 kv.2) kvs
theorem KV.merge : ∀ {more : List (Key × V)} {rs : List (Key × Value)} {kvs : List (Key × V)} {vs : List (Key × Value)}, KV more rs → KV kvs vs → KV (mergeK kvs more) (merged vs rs) := by
  intro more rs kvs vs r
  unfold KV at r
  induction r generalizing kvs vs with
  | nil => intro q; exact q
  | @cons p q ps qs h t ih =>
    intro r0
    have e : KV (putK kvs p.1 p.2) (stored vs q.1 q.2) := by
      have := r0.put p.1 h.2
      rw [← h.1]; exact this
    exact ih e
theorem length_mergeK : ∀ (more kvs : List (Key × V)), (mergeK kvs more).length ≤ kvs.length + more.length
  | [], kvs => by show kvs.length ≤ kvs.length + 0; omega
  | p :: r, kvs => by
    have h1 := length_mergeK r (putK kvs p.1 p.2)
    have h2 := length_putK kvs p.1 p.2
    show (mergeK (putK kvs p.1 p.2) r).length ≤ _
    rw [List.length_cons]; omega
theorem carries_of {P : Program} {w : World} : ∀ {kvs : List (Key × V)} {ws : List (Value × Value)}, VV (kvs.map fun kv => (kV kv.1, kv.2)) ws → ∃ rs, Carries (mixKind P w) ws rs ∧ KV kvs rs
  | [], _, r => by rw [List.map_nil] at r; cases r; exact ⟨[], True.intro, .nil⟩
  | p :: kvs, _, r => by
    rw [List.map_cons] at r
    cases r with
    | @cons a b as bs h t =>
      obtain ⟨rs, c, q⟩ := carries_of (P := P) (w := w) t
      obtain ⟨b1, b2⟩ := b
      exact ⟨(p.1, b2) :: rs, ⟨kV_is h.1, rfl, c⟩, .cons ⟨rfl, h.2⟩ q⟩
def tDisp (trs : List (TE × TE)) : TE := fun σ H Q => ∀ p, H p = none → tPairs trs σ (upd H p (.dK [])) fun ps H2 => H2 p = some (.dK []) ∧ ∃ kvs : List (Key × V), ps = kvs.map (fun kv => (kV kv.1, kv.2)) ∧ kvs.length ≤ 15 ∧ Q (.ref p) (upd H2 p (.dK (mergeK [] kvs)))
theorem pe_disp {X : Cx} {pos : Pos} {keys : List (Option Expr)} {values : List Expr} {trs : List (TE × TE)} (h : PPs X pos keys values trs) (hall : keys.all (·.isSome) = true) (hl : keys.length = values.length) (h0 : keys ≠ [])
    (h15 : keys.length ≤ 15) : PE X (.Dict keys values pos) (tDisp trs) := by
  intro pins s σ H Q I q
  have hn := I.hok.fresh (Nat.le_refl s.heap.objs.size)
  have I1 := I.laid (a := s.heap.objs.size) (o := .dK []) (h' := s.heap.push { cls := .type "dict", data := .dict #[] }) (t' := s.toks) (fun _ _ q => Heap.get?_push_of_some _ q) (Nat.le_refl _) (dk_empty s.heap I.big)
  refine wpAny_Dict_walk (knd := mixKind X.prog X.w) hall hl h0 h15 (thn (h pins _ σ _ _ I1 (q _ hn)) fun ws s2 ⟨ps, H2, I2, rel, e, kvs, ep, lk, q2⟩ => ?_)
  subst ep
  obtain ⟨rs, c, rk⟩ := carries_of (P := X.prog) (w := X.w) rel
  obtain ⟨z, hd, vs0, r0, dd⟩ := dk_of I2.hok e
  cases r0
  refine ⟨rs, c, dd, fun h' dd' hs => ⟨.ref s.heap.objs.size, _, ?_, rfl, q2⟩⟩
  have hz : (mergeK [] kvs).length ≤ sizeLine := by
    have h1 := length_mergeK kvs []
    rw [List.length_nil] at h1
    rw [sizeLine_eq]; omega
  have he : ∃ q, h'.get? s.heap.objs.size = some q := let ⟨q, _, _, hq, _⟩ := dd'; ⟨q, hq⟩
  exact d_write I2 (by rw [e]; exact True.intro) hs he (dk_new hz hd (rk.merge .nil) dd')


structure M1 (X : Cx) (o : Expr) (m : Str) (apos : Pos) (e : Expr) (cpos : Pos) : Prop where
  base : attributeBase o m X.env (eval o X.env) = eval o X.env
  few : ((backTo cpos (starEach [e] X.env)).all (fun x => !x.1) && (backToKw cpos (keywordEach [] X.env)).all (fun x => x.1.isSome)
    && decide (([e] : List Expr).length + ([] : List Keyword).length + (if ([] : List Keyword).isEmpty then 0 else 1) < 30)) = true
  line : (apos.endLine == cpos.line) = true
  trees : backTo cpos (starEach [e] X.env) = [(false, eval e X.env)]
structure M2 (X : Cx) (o : Expr) (m : Str) (apos : Pos) (e f : Expr) (cpos : Pos) : Prop where
  base : attributeBase o m X.env (eval o X.env) = eval o X.env
  few : ((backTo cpos (starEach [e, f] X.env)).all (fun x => !x.1) && (backToKw cpos (keywordEach [] X.env)).all (fun x => x.1.isSome)
    && decide (([e, f] : List Expr).length + ([] : List Keyword).length + (if ([] : List Keyword).isEmpty then 0 else 1) < 30)) = true
  line : (apos.endLine == cpos.line) = true
  trees : backTo cpos (starEach [e, f] X.env) = [(false, eval e X.env), (false, eval f X.env)]

def IsD (H : Hp) (a : Addr) : Prop := (∃ kvs, Rd H a (.dK kvs)) ∨ ∃ kvs, Rd H a (.dT kvs)
theorem isD_at {X : Cx} {pins : List (Addr × Obj)} {σ : St} {H : Hp} {s : Shared} {a : Addr} (I : Inv X pins σ H s) (d : IsD H a) :
    s.TypeIs (.ref a) "dict" ∧ (∀ b, Value.ref a = .ref b → ∃ ob, s.heap.get? b = some ob ∧ ob.dict = none) ∧ (a == sysModules) = false := by
  rcases d with ⟨kvs, e⟩ | ⟨kvs, e⟩
  · obtain ⟨_, hd, vs, _, dd⟩ := dk_rd I.hok e
    refine ⟨dd.typeIs, fun b q => ?_, hd⟩
    cases q
    obtain ⟨ob, _, _, h1, h2, _⟩ := dd
    exact ⟨ob, h1, h2.2.1⟩
  · obtain ⟨_, hd, xs, _, dd⟩ := dt_rd I.hok e
    refine ⟨dd.typeIs, fun b q => ?_, hd⟩
    cases q
    obtain ⟨ob, _, _, h1, h2, _⟩ := dd
    exact ⟨ob, h1, h2.2.1⟩

section
variable {X : Cx} {pins : List (Addr × Obj)} {σ : St} {H : Hp} {s : Shared} {a : Addr} {y d : V} {u r : Value} {o : Option V} {A : Around} {E : Value → Shared → Prop}
theorem d_get1 {Q : Value → Shared → Prop} (hu : A.units + 1 < cLine) (I : Inv X pins σ H s) (g : DGet H a y o) (ry : RelV y u) (h : ∀ w' s', Inv X pins σ H s' → RelV (o.getD .non) w' → Q w' s') :
    wpAny (model X.prog X.w) A (call (.builtin "dict.get") [.ref a, u]) Q E s := by
  rcases g with ⟨kvs, k, e, ey, l⟩ | ⟨kvs, k, b, e, ey, eb, l⟩
  · subst ey
    obtain ⟨z, hd, vs, rel, dd⟩ := dk_rd I.hok e
    refine call_meetsIn PySem.F.slot_dict_get dd.typeIs PySem.F.entry_dict_get (PySem.F.args_dict_get_2 _ _) (meets_dict_get (mixKind X.prog X.w) a (kV_is ry) hd) ⟨_, dd.mapOf, h _ _ (I.tok _) ?_⟩
    rw [l]
    exact (rel.val k).getD rfl
  · subst ey
    cases (show u = Value.ref b from ry)
    obtain ⟨z, hd, xs, rel, dd⟩ := dt_rd I.hok e
    refine call_meetsIn PySem.F.slot_dict_get dd.typeIs PySem.F.entry_dict_get (PySem.F.args_dict_get_2 _ _) (meetsH_dict_get (tupleKind (mixKind X.prog X.w)) a b hd) ⟨tupleKind_room_in1 hu, k, xs, key_of I.hok eb, dd, h _ _ (I.tok _) ?_⟩
    rw [l]
    exact (rel.val k).getD rfl
theorem d_get2 {Q : Value → Shared → Prop} (hu : A.units + 1 < cLine) (I : Inv X pins σ H s) (g : DGet H a y o) (ry : RelV y u) (rd : RelV d r) (h : ∀ w' s', Inv X pins σ H s' → RelV (o.getD d) w' → Q w' s') :
    wpAny (model X.prog X.w) A (call (.builtin "dict.get") [.ref a, u, r]) Q E s := by
  rcases g with ⟨kvs, k, e, ey, l⟩ | ⟨kvs, k, b, e, ey, eb, l⟩
  · subst ey
    obtain ⟨z, hd, vs, rel, dd⟩ := dk_rd I.hok e
    refine call_meetsIn PySem.F.slot_dict_get dd.typeIs PySem.F.entry_dict_get (PySem.F.args_dict_get_3 _ _ _) (meets_dict_get_default (mixKind X.prog X.w) a (kV_is ry) hd r) ⟨_, dd.mapOf, h _ _ (I.tok _) ?_⟩
    rw [l]
    exact (rel.val k).getD rd
  · subst ey
    cases (show u = Value.ref b from ry)
    obtain ⟨z, hd, xs, rel, dd⟩ := dt_rd I.hok e
    refine call_meetsIn PySem.F.slot_dict_get dd.typeIs PySem.F.entry_dict_get (PySem.F.args_dict_get_3 _ _ _) (meetsH_dict_get_default (tupleKind (mixKind X.prog X.w)) a b hd r) ⟨tupleKind_room_in1 hu, k, xs, key_of I.hok eb, dd, h _ _ (I.tok _) ?_⟩
    rw [l]
    exact (rel.val k).getD rd
end

def tDGet1 (td ty : TE) : TE := fun σ H Q => td σ H fun x H1 => ∃ a, x = .ref a ∧ IsD H1 a ∧ ty σ H1 fun y H2 => ∃ o, DGet H2 a y o ∧ Q (o.getD .non) H2
def tDGet2 (td ty tx : TE) : TE := fun σ H Q => td σ H fun x H1 => ∃ a, x = .ref a ∧ IsD H1 a ∧ ty σ H1 fun y H2 => tx σ H2 fun z H3 => ∃ o, DGet H3 a y o ∧ Q (o.getD z) H3
section
variable {X : Cx} {o e f : Expr} {apos cpos : Pos} {td ty tx : TE}
theorem pe_dget1 (hu : X.A.units + 1 < cLine) (ho : PE X o td) (he : PE X e ty) (m : M1 X o "get" apos e cpos) : PE X (.Call (.Attribute o "get" apos) [e] [] cpos) (tDGet1 td ty) := by
  intro pins s σ H Q I h
  refine wpAny_Call_method m.base m.few m.line PySem.F.plainAttrs_dict PySem.F.slot_dict_get PySem.F.type_dict_get (thn (ho pins s σ H _ I h) fun u s1 ⟨x, H1, I1, rx, a, ex, d, q1⟩ => ?_)
  subst ex
  obtain rfl : u = Value.ref a := rx
  obtain ⟨t1, t2, _⟩ := isD_at I1 d
  refine ⟨t1, t2, ?_⟩
  rw [m.trees]
  refine Calls.callWith_builtin rfl (Calls.evalArgs_plain (Calls.spliced_cons (thn (he pins s1 σ H1 _ I1 q1) fun iv s2 ⟨y, H2, I2, ry, ov, g, q2⟩ => Calls.spliced_nil ?_)))
  exact d_get1 hu I2 g ry fun w' s3 I3 rw' => ⟨_, H2, I3, rw', q2⟩
theorem pe_dget2 (hu : X.A.units + 1 < cLine) (ho : PE X o td) (he : PE X e ty) (hf : PE X f tx) (m : M2 X o "get" apos e f cpos) : PE X (.Call (.Attribute o "get" apos) [e, f] [] cpos) (tDGet2 td ty tx) := by
  intro pins s σ H Q I h
  refine wpAny_Call_method m.base m.few m.line PySem.F.plainAttrs_dict PySem.F.slot_dict_get PySem.F.type_dict_get (thn (ho pins s σ H _ I h) fun u s1 ⟨x, H1, I1, rx, a, ex, d, q1⟩ => ?_)
  subst ex
  obtain rfl : u = Value.ref a := rx
  obtain ⟨t1, t2, _⟩ := isD_at I1 d
  refine ⟨t1, t2, ?_⟩
  rw [m.trees]
  refine Calls.callWith_builtin rfl (Calls.evalArgs_plain (Calls.spliced_cons (thn (he pins s1 σ H1 _ I1 q1) fun iv s2 ⟨y, H2, I2, ry, q2⟩ =>
    Calls.spliced_cons (thn (hf pins s2 σ H2 _ I2 q2) fun fv s3 ⟨z, H3, I3, rz, ov, g, q3⟩ => Calls.spliced_nil ?_))))
  exact d_get2 hu I3 g ry rz fun w' s4 I4 rw' => ⟨_, H3, I4, rw', q3⟩
end

section
variable {X : Cx} {pins : List (Addr × Obj)} {σ : St} {H : Hp} {s : Shared} {a : Addr} {kvs : List (Key × V)} {A : Around} {E : Value → Shared → Prop}
end


section
variable {X : Cx} {pins : List (Addr × Obj)} {σ : St} {H : Hp} {s : Shared} {a : Addr} {y : V} {u : Value} {A : Around} {E : Value → Shared → Prop}
end
end L2

namespace Att
open PySem PySem.W PySem.Calls PyProof.Rows

section
variable {prog : Program} {w : World} {A : Around} {E : Value → Shared → Prop} {s : Shared} {K : Frag}

end
end Att



namespace L2
open PySem PySem.Spec PyProof.Rows

section
variable {X : Cx}
end

section
variable {κ : Type} [DecidableEq κ]
end
end L2

namespace L3
open PySem PySem.Spec PyProof.Rows L2
section
variable {prog : Program} {w : World} {κ : Type} [DecidableEq κ] {knd : HeapKind prog w κ} {A : Around} {E : Value → Shared → Prop} {s : Shared}
end
section
variable {X : Cx}
end
section
variable {X : Cx} {pos : Pos} {k v : Expr} {tk tv : TE}
end
end L3

namespace L3
open PySem PySem.Spec PyProof.Rows L2 PySem.W
def EntAt (es : Array DictEntry) (d : Addr) (ep : Nat) (h : Heap) : Prop := ∃ o, h.get? d = some o ∧ o.ExactDict ∧ o.data = .dict es ep
section
variable {prog : Program} {w : World} {A : Around} {E : Value → Shared → Prop} {s : Shared} {es : Array DictEntry} {d it : Addr} {ep i : Nat}
theorem EntAt.typeIs (h : EntAt es d ep s.heap) : s.TypeIs (.ref d) "dict" := let ⟨o, ho, hc, _⟩ := h; ⟨o, ho, hc.1⟩
theorem EntAt.keep {h h' : Heap} (x : EntAt es d ep h) (e : ∀ o, h.get? d = some o → h'.get? d = some o) : EntAt es d ep h' := let ⟨o, ho, r⟩ := x; ⟨o, e o ho, r⟩
end
section
variable {X : Cx}
end
end L3

namespace L3
open PySem PySem.Spec PyProof.Rows L2
section
variable {prog : Program} {w : World} {A : Around} {E : Value → Shared → Prop}
end
end L3

namespace L3
open PySem PySem.Spec PyProof.Rows L2
section
variable {c : TT} {e : TE} {i : Nat} {v v' : V} {t u r : TS} {D : Ends} {σ : L2.St} {H : Hp} {rt : VK} {bk ct : L2.St → Hp → Prop}
theorem c_if (Good : L2.St → Hp → Prop) (hr : ∀ σ' H', Good σ' H' → r D σ' H') (hc : (∀ σ' H', Good σ' H' → r D σ' H') → tIfS c t u { D with nx := r D } σ H) : tSeq (tIfS c t u) r D σ H := hc hr
theorem c_asg (Good : V → Hp → Prop) (hc : ∀ K : VK, (∀ v H', Good v H' → K v H') → e σ H K) (hr : ∀ v H', Good v H' → t D (σ.set i (some v)) H') : tSeq (tAsg e (gName i)) t D σ H := hc _ fun v H' g => hr v H' g
theorem c_next (h : t D σ H) : tNext ({ nx := t D, rt := rt, bk := bk, ct := ct } : Ends) σ H := h
theorem c_test (Good : Bool → Hp → Prop) (hc : ∀ K : Bool → Hp → Prop, (∀ b H', Good b H' → K b H') → c σ H K) (hr : ∀ b H', Good b H' → if b = true then t { D with nx := r D } σ H' else u { D with nx := r D } σ H') : tSeq (tIfS c t u) r D σ H := hc _ hr
end
end L3

namespace L3
open PySem PySem.Spec PyProof.Rows L2
abbrev OKey := Option Key
def okV : OKey → V
  | none => .non
  | some k => kV k
def DcO (a : Addr) (kvs : List (V × V)) : HO := .ext fun h => ∃ o es n, h.get? a = some o ∧ o.cls = .type "dict" ∧ o.data = .dict es n ∧ Vals (kvs.map (·.1)) (es.toList.map (·.key)) ∧ Vals (kvs.map (·.2)) (es.toList.map (·.val))
mutual
/-- nested data, whose lists and dicts are none of m -/
inductive Od (K : PySem.W.Frag) (m : List Addr) (H : Hp) : V → PyData → Prop
  | non : Od K m H .non .none
  | bl (b : Bool) : Od K m H (.bl b) (.bool b)
  | int (i : Int) : Od K m H (.int i) (.int i)
  | str (x : Str) : Od K m H (.str x) (.str x)
  | tup {a : Addr} {xs : List V} {ds : List PyData} : SqT K H a xs → Ods K m H xs ds → Od K m H (.ref a) (.tuple ds)
  | lst {a : Addr} {xs : List V} {ds : List PyData} : H a = some (.lst xs) → a ∉ m → a ≠ sysModules → Ods K m H xs ds → Od K m H (.ref a) (.list ds)
  | dct {a : Addr} {kvs : List (V × V)} {ds : List (PyData × PyData)} : H a = some (DcO a kvs) → a ∉ m → a ≠ sysModules → Ods K m H (kvs.map (·.1)) (ds.map (·.1)) → Ods K m H (kvs.map (·.2)) (ds.map (·.2)) → Od K m H (.ref a) (.dict ds)
inductive Ods (K : PySem.W.Frag) (m : List Addr) (H : Hp) : List V → List PyData → Prop
  | nil : Ods K m H [] []
  | cons {x : V} {xs : List V} {d : PyData} {ds : List PyData} : Od K m H x d → Ods K m H xs ds → Ods K m H (x :: xs) (d :: ds)
end
section
variable {K : PySem.W.Frag} {m : List Addr} {H H' : Hp}
mutual
theorem Od.grow (g : Grow m H H') : ∀ {x : V} {d : PyData}, Od K m H x d → Od K m H' x d
  | _, _, .non => .non
  | _, _, .bl b => .bl b
  | _, _, .int i => .int i
  | _, _, .str x => .str x
  | _, _, .tup h t => .tup (g.sqT h) (Ods.grow g t)
  | _, _, .lst h n b t => .lst (g.keep _ _ n h) n b (Ods.grow g t)
  | _, _, .dct h n b t u => .dct (g.keep _ _ n h) n b (Ods.grow g t) (Ods.grow g u)
theorem Ods.grow (g : Grow m H H') : ∀ {xs : List V} {ds : List PyData}, Ods K m H xs ds → Ods K m H' xs ds
  | _, _, .nil => .nil
  | _, _, .cons h t => .cons (Od.grow g h) (Ods.grow g t)
end
theorem Ods.length : ∀ {xs : List V} {ds : List PyData}, Ods K m H xs ds → xs.length = ds.length
  | _, _, .nil => rfl
  | _, _, .cons _ t => congrArg (· + 1) (Ods.length t)
theorem Ods.get : ∀ {xs : List V} {ds : List PyData} {i : Nat} {x : V}, Ods K m H xs ds → xs[i]? = some x → ∃ d, ds[i]? = some d ∧ Od K m H x d
  | _, _, _, _, .nil, e => by simp at e
  | _, _, 0, _, .cons h _, e => by simp at e; subst e; exact ⟨_, rfl, h⟩
  | _, _, i + 1, x, .cons _ t, e => Ods.get (i := i) t (by simpa using e)
theorem Ods.at : ∀ {xs : List V} {ds : List PyData} {i : Nat} {d : PyData}, Ods K m H xs ds → ds[i]? = some d → ∃ x, xs[i]? = some x ∧ Od K m H x d
  | _, _, _, _, .nil, e => by simp at e
  | _, _, 0, _, .cons h _, e => by simp at e; subst e; exact ⟨_, rfl, h⟩
  | _, _, i + 1, x, .cons _ t, e => Ods.at (i := i) t (by simpa using e)
theorem Ods.append : ∀ {xs ys : List V} {ds es : List PyData}, Ods K m H xs ds → Ods K m H ys es → Ods K m H (xs ++ ys) (ds ++ es)
  | _, _, _, _, .nil, s => s
  | _, _, _, _, .cons r t, s => .cons r (Ods.append t s)
theorem Ods.take : ∀ {xs : List V} {ds : List PyData} (n : Nat), Ods K m H xs ds → Ods K m H (xs.take n) (ds.take n)
  | _, _, 0, _ => .nil
  | _, _, _ + 1, .nil => .nil
  | _, _, n + 1, .cons r t => .cons r (Ods.take n t)
theorem Ods.drop : ∀ {xs : List V} {ds : List PyData} (n : Nat), Ods K m H xs ds → Ods K m H (xs.drop n) (ds.drop n)
  | _, _, 0, r => r
  | _, _, _ + 1, .nil => .nil
  | _, _, n + 1, .cons _ t => Ods.drop n t
end
section
variable {X : Cx} {pins : List (Addr × Obj)} {σ : L2.St} {H : Hp} {s : Shared} {m : List Addr}
theorem inv_big (I : Inv X pins σ H s) : sysModules < s.heap.objs.size := Nat.lt_trans (by decide) (show mainGlobals < s.heap.objs.size from (I.mod.glob.keeps I.bk).lt)
theorem DcO.at (I : Inv X pins σ H s) {a : Addr} {kvs : List (V × V)} (h : H a = some (DcO a kvs)) : ∃ o es n, s.heap.get? a = some o ∧ o.cls = .type "dict" ∧ o.data = .dict es n ∧ Vals (kvs.map (·.1)) (es.toList.map (·.key)) ∧ Vals (kvs.map (·.2)) (es.toList.map (·.val)) := (I.hok a _ h).1
mutual
theorem Od.reads (I : Inv X pins σ H s) : ∀ {x : V} {d : PyData} {u : Value}, Od X.K m H x d → RelV x u → ∃ as, Reads s.heap u d as ∧ sysModules ∉ as
  | _, _, u, .non, r => by
    cases (show u = Value.none from r)
    exact ⟨_, .none, by simp⟩
  | _, _, u, .bl b, r => by
    cases (show u = Value.bool b from r)
    exact ⟨_, .bool b, by simp⟩
  | _, _, u, .int i, r => by
    obtain ⟨t, rfl⟩ := r
    exact ⟨_, .int i t, by simp⟩
  | _, _, u, .str x, r => by
    obtain ⟨t, rfl⟩ := r
    exact ⟨_, .str x t, by simp⟩
  | _, _, u, .tup (a := a) hs hd, r => by
    cases (show u = Value.ref a from r)
    obtain ⟨its, r1, ⟨o, e1, e2, n, e3⟩, _⟩ := I.tuple hs
    obtain ⟨as, q, ns⟩ := Ods.reads I hd r1
    exact ⟨_, .tuple e1 e2 e3 q, ns⟩
  | _, _, u, .lst (a := a) hs _ hb hd, r => by
    cases (show u = Value.ref a from r)
    obtain ⟨its, r1, ⟨o, n, e1, e2, _, e3⟩, _⟩ := I.list (SqL.of hs)
    obtain ⟨as, q, ns⟩ := Ods.reads I hd r1
    exact ⟨_, .list e1 e2 e3 q, fun z => (List.mem_cons.mp z).elim (fun e => hb e.symm) ns⟩
  | _, _, u, .dct (a := a) hs _ hb h1 h2, r => by
    cases (show u = Value.ref a from r)
    obtain ⟨o, es, n, e1, e2, e3, v1, v2⟩ := DcO.at I hs
    obtain ⟨as, q1, n1⟩ := Ods.reads I h1 v1
    obtain ⟨bs, q2, n2⟩ := Ods.reads I h2 v2
    refine ⟨_, .dict e1 e2 e3 q1 q2, fun z => ?_⟩
    rcases List.mem_append.mp z with z | z
    · exact (List.mem_cons.mp z).elim (fun e => hb e.symm) n1
    · exact n2 z
theorem Ods.reads (I : Inv X pins σ H s) : ∀ {xs : List V} {ds : List PyData} {us : List Value}, Ods X.K m H xs ds → Vals xs us → ∃ as, ReadsAll s.heap us ds as ∧ sysModules ∉ as
  | _, _, _, .nil, .nil => ⟨_, .nil, by simp⟩
  | _, _, _, .cons h t, .cons r rs => by
    obtain ⟨as, q, n1⟩ := Od.reads I h r
    obtain ⟨bs, q2, n2⟩ := Ods.reads I t rs
    exact ⟨_, .cons q q2, fun z => (List.mem_append.mp z).elim n1 n2⟩
end
def rReprO (K : PySem.W.Frag) : List V → Hp → VK → Prop := fun xs H Q => ∃ x d m, xs = [x] ∧ Od K m H x d ∧ d.showable = true ∧ d.depth ≤ 60 ∧ d.shown.length ≤ sizeLine ∧ Q (.str d.shown) H
theorem call_reprO {K : PySem.W.Frag} {k : Nat} (hK : X.K = K) (hr : Room k X.A) : CallR X (.builtin "repr") (rReprO K) := by
  subst hK
  intro pins s σ H xs us Q I r h
  obtain ⟨x, d, m, rfl, hd, h1, h3, h4, q⟩ := h
  obtain ⟨u, rfl, rx⟩ := vals1 r
  have key : ∀ a, u = .ref a → wpAny (model X.prog X.w) X.A (call (.builtin "repr") [u]) (EP X pins σ Q) X.xe s := fun a e => by
    subst e
    obtain ⟨as, rd, ns⟩ := Od.reads I hd rx
    exact repr_of_reads' rd h1 (fun _ => ns) hr.gd (by have := hr.un; omega) (fun _ _ e => e) (fun h' t tk hk => ⟨.str _, H, I.kept hk, ⟨_, rfl⟩, q⟩) h4
  cases hd with
  | non =>
    cases (show u = Value.none from rx)
    exact PySem.P.repr_of_none ⟨.str _, H, I.tok _, ⟨_, rfl⟩, q⟩
  | bl b =>
    cases (show u = Value.bool b from rx)
    exact PySem.P.repr_of_bool ⟨.str _, H, I.tok _, ⟨_, rfl⟩, q⟩
  | int i =>
    obtain ⟨t, rfl⟩ := rx
    exact PySem.P.repr_of_int (of_decide_eq_true h1) ⟨.str _, H, I.tok _, ⟨_, rfl⟩, q⟩
  | str x =>
    obtain ⟨t, rfl⟩ := rx
    exact PySem.P.repr_of_str ⟨.str _, H, I.tok _, ⟨_, rfl⟩, q⟩ h4
  | tup hs ha => exact key _ rx
  | lst hs _ _ ha => exact key _ rx
  | dct hs _ _ h1 h2 => exact key _ rx
end
end L3

namespace L3
open PySem PySem.Spec PyProof.Rows L2
section
variable {K : PySem.W.Frag} {m m' : List Addr} {H : Hp}
mutual
theorem Od.more {a : Addr} (h : H a = none) : ∀ {x : V} {d : PyData}, Od K m H x d → Od K (a :: m) H x d
  | _, _, .non => .non
  | _, _, .bl b => .bl b
  | _, _, .int i => .int i
  | _, _, .str x => .str x
  | _, _, .tup q t => .tup q (Ods.more h t)
  | _, _, .lst q n b t => .lst q (fun z => (List.mem_cons.mp z).elim (fun e => by rw [e, h] at q; cases q) n) b (Ods.more h t)
  | _, _, .dct q n b t u => .dct q (fun z => (List.mem_cons.mp z).elim (fun e => by rw [e, h] at q; cases q) n) b (Ods.more h t) (Ods.more h u)
theorem Ods.more {a : Addr} (h : H a = none) : ∀ {xs : List V} {ds : List PyData}, Ods K m H xs ds → Ods K (a :: m) H xs ds
  | _, _, .nil => .nil
  | _, _, .cons q t => .cons (Od.more h q) (Ods.more h t)
end
mutual
theorem Od.less (h : ∀ b ∈ m', b ∈ m) : ∀ {x : V} {d : PyData}, Od K m H x d → Od K m' H x d
  | _, _, .non => .non
  | _, _, .bl b => .bl b
  | _, _, .int i => .int i
  | _, _, .str x => .str x
  | _, _, .tup q t => .tup q (Ods.less h t)
  | _, _, .lst q n b t => .lst q (fun z => n (h _ z)) b (Ods.less h t)
  | _, _, .dct q n b t u => .dct q (fun z => n (h _ z)) b (Ods.less h t) (Ods.less h u)
theorem Ods.less (h : ∀ b ∈ m', b ∈ m) : ∀ {xs : List V} {ds : List PyData}, Ods K m H xs ds → Ods K m' H xs ds
  | _, _, .nil => .nil
  | _, _, .cons q t => .cons (Od.less h q) (Ods.less h t)
end
end
theorem star_dict {ks : List (Option Expr)} {vs es : List Expr} {p : Pos} {env : Env} : starEach (.Dict ks vs p :: es) env = (false, eval (.Dict ks vs p) env) :: starEach es env := by rfl
structure DR where
  p : List Addr → L2.St → Hp → Prop
  mono : ∀ {m σ H H'}, Grow [] H H' → p m σ H → p m σ H'
  more : ∀ {a m σ H}, H a = none → p m σ H → p (a :: m) σ H
def DR.t : DR := ⟨fun _ _ _ => True, fun _ _ => trivial, fun _ _ => trivial⟩
def DR.and (a b : DR) : DR := ⟨fun m σ H => a.p m σ H ∧ b.p m σ H, fun g h => ⟨a.mono g h.1, b.mono g h.2⟩, fun g h => ⟨a.more g h.1, b.more g h.2⟩⟩
def tOd (K : PySem.W.Frag) (R : DR) (D : PyData) : TE := fun σ H Q => ∃ m, R.p m σ H ∧ (∀ b ∈ m, H b ≠ none) ∧ ∀ x H', Grow [] H H' → Od K m H' x D → Q x H'
def tOds (K : PySem.W.Frag) (R : DR) (Ds : List PyData) : TA := fun σ H Q => ∃ m, R.p m σ H ∧ (∀ b ∈ m, H b ≠ none) ∧ ∀ xs H', Grow [] H H' → Ods K m H' xs Ds → Q xs H'
theorem grow_none {H H' : Hp} {m : List Addr} (g : Grow [] H H') (h : ∀ b ∈ m, H b ≠ none) : ∀ b ∈ m, H' b ≠ none := fun b hb z => by
  cases e : H b with
  | none => exact h b hb e
  | some o => rw [g.keep b o (by simp) e] at z; cases z
section
variable {X : Cx} {K : PySem.W.Frag} {R R' : DR} {D : PyData} {Ds : List PyData} {e : Expr} {es : List Expr} {pos : Pos} {j}
theorem po_non : PE X (.Constant .none j pos) (tOd K .t .none) := fun pins s σ H Q I ⟨m, _, _, q⟩ => pe_non pins s σ H Q I (q _ _ (Grow.refl _ _) .non)
theorem po_bl {b : Bool} : PE X (.Constant (.bool b) j pos) (tOd K .t (.bool b)) := fun pins s σ H Q I ⟨m, _, _, q⟩ => pe_bl pins s σ H Q I (q _ _ (Grow.refl _ _) (.bl b))
theorem po_int {i : Int} : PE X (.Constant (.int i) j pos) (tOd K .t (.int i)) := fun pins s σ H Q I ⟨m, _, _, q⟩ => pe_int pins s σ H Q I (q _ _ (Grow.refl _ _) (.int i))
theorem po_str {x : Str} : PE X (.Constant (.str x) j pos) (tOd K .t (.str x)) := fun pins s σ H Q I ⟨m, _, _, q⟩ => pe_str pins s σ H Q I (q _ _ (Grow.refl _ _) (.str x))
theorem pos_nil : PA X [] (tOds K .t []) := fun pos pins s σ H Q I ⟨m, _, _, q⟩ => pa_nil pos pins s σ H Q I (q _ _ (Grow.refl _ _) .nil)
theorem pos_cons (h : PE X e (tOd K R D)) (t : PA X es (tOds K R' Ds)) (hs : starEach (e :: es) X.env = (false, eval e X.env) :: starEach es X.env := by rfl) : PA X (e :: es) (tOds K (.and R R') (D :: Ds)) := fun pos pins s σ H Q I ⟨m, ⟨r1, r2⟩, b, q⟩ =>
  pa_cons h t hs pos pins s σ H Q I ⟨m, r1, b, fun x H1 g1 o1 => ⟨m, R'.mono g1 r2, grow_none g1 b, fun xs H2 g2 o2 => q _ _ (g1.trans g2) (.cons (o1.grow (g2.mono (by simp))) o2)⟩⟩
theorem pos_consT (h : PE X e (tOd K .t D)) (t : PA X es (tOds K R' Ds)) (hs : starEach (e :: es) X.env = (false, eval e X.env) :: starEach es X.env := by rfl) : PA X (e :: es) (tOds K R' (D :: Ds)) := fun pos pins s σ H Q I ⟨m, r2, b, q⟩ =>
  pos_cons h t hs pos pins s σ H Q I ⟨m, ⟨trivial, r2⟩, b, q⟩
theorem po_tup {x1} (h : PA X es (tOds K R Ds)) (hl : Ds.length ≤ 1000 := by decide) : PE X (.Tuple es x1 pos) (tOd K R (.tuple Ds)) := fun pins s σ H Q I ⟨m, r, b, q⟩ =>
  pe_tup h pins s σ H Q I ⟨m, r, b, fun xs H' g o => ⟨by rw [o.length]; exact Nat.le_of_lt (small1000 hl), fun p hp =>
    have g2 := Grow.new (m := []) hp (.tup xs)
    q _ _ (g.trans g2) (.tup (SqT.of upd_same) (o.grow (g2.mono (by simp))))⟩⟩
def tLstB (t : TA) : TE := fun σ H Q => t σ H fun xs H1 => xs.length ≤ sizeLine ∧ ∀ p, H1 p = none → p ≠ sysModules → Q (.ref p) (upd H1 p (.lst xs))
theorem pe_lstB {t : TA} (h : PA X es t) : PE X (.List es pos) (tLstB t) := by
  intro pins s σ H Q I hq
  refine wpAny_List_spliced (thn (h pos pins s σ H _ I hq) fun us s1 ⟨xs, H1, I1, r, z, q⟩ => ⟨by rw [← r.length]; exact z, ?_⟩)
  have hf : H1 s1.heap.objs.size = none := I1.hok.fresh (Nat.le_refl _)
  refine ⟨.ref s1.heap.objs.size, upd H1 s1.heap.objs.size (.lst xs), I1.laid (t' := s1.toks) (fun b u e => Heap.get?_push_of_some _ e) (Nat.le_refl _) ?_, rfl, q _ hf (Nat.ne_of_gt (inv_big I1))⟩
  exact ⟨z, us, 0, r, Heap.get?_push_size _ rfl⟩
theorem notMem {m : List Addr} {H : Hp} {p : Addr} (b : ∀ b ∈ m, H b ≠ none) (h : H p = none) : p ∉ m := fun z => b p z h
theorem po_lst (h : PA X es (tOds K R Ds)) (hl : Ds.length ≤ 1000 := by decide) : PE X (.List es pos) (tOd K R (.list Ds)) := fun pins s σ H Q I ⟨m, r, b, q⟩ =>
  pe_lstB h pins s σ H Q I ⟨m, r, b, fun xs H' g o => ⟨by rw [o.length]; exact Nat.le_of_lt (small1000 hl), fun p hp hn =>
    have g2 := Grow.new (m := []) hp (.lst xs)
    q _ _ (g.trans g2) (.lst upd_same (notMem (grow_none g b) hp) hn (o.grow (g2.mono (by simp))))⟩⟩
end
def KxR (p : OKey × V) (q : Value × Value) : Prop := RelV (okV p.1) q.1 ∧ RelV p.2 q.2
structure PO2 (X : Cx) (ks : List (Option Expr)) (vs : List Expr) (R : DR) (kds : List (OKey × PyData)) : Prop where
  run : ∀ (pos : Pos) (pins : List (Addr × Obj)) (s : Shared) (σ : L2.St) (H : Hp) (m : List Addr) (Q : List (Value × Value) → Shared → Prop), Inv X pins σ H s → R.p m σ H → (∀ b ∈ m, H b ≠ none) →
    (∀ r s' H' (kxs : List (OKey × V)), Inv X pins σ H' s' → Grow [] H H' → Paired KxR kxs r → kxs.map (·.1) = kds.map (·.1) → Ods X.K m H' (kxs.map (·.2)) (kds.map (·.2)) → Q r s') →
    wpAny (model X.prog X.w) X.A (evalPairs (pairTrees ks vs X.env pos)) Q X.xe s
section
variable {X : Cx} {K : PySem.W.Frag} {R R' : DR} {D : PyData} {e k : Expr} {ks : List (Option Expr)} {vs : List Expr} {kds : List (OKey × PyData)} {pos : Pos}
theorem po_dnil : PE X (.Dict [] [] pos) (tOd K .t (.dict [])) := by
  intro pins s σ H Q I ⟨m, _, hb, q⟩
  have hf : H s.heap.objs.size = none := I.hok.fresh (Nat.le_refl _)
  refine wpAny_Dict_empty ?_
  have I1 : Inv X pins σ (upd H s.heap.objs.size (DcO s.heap.objs.size [])) { s with heap := s.heap.push { cls := .type "dict", data := .dict #[] } } :=
    I.laid (t' := s.toks) (fun b u e => Heap.get?_push_of_some _ e) (Nat.le_refl _) ⟨⟨_, _, _, Heap.get?_push_size _ rfl, rfl, rfl, .nil, .nil⟩, ⟨_, Heap.get?_push_size _ rfl⟩, fun h1 h2 hφ hk => by
      obtain ⟨o', es', n', a1, a2⟩ := hφ
      exact ⟨o', es', n', hk _ a1, a2⟩⟩
  exact ⟨.ref s.heap.objs.size, _, I1, rfl, q _ _ (Grow.new hf _) (.dct (kvs := []) (ds := []) upd_same (notMem hb hf) (Nat.ne_of_gt (inv_big I)) .nil .nil)⟩
end
end L3

namespace L3
open PySem PySem.Spec PyProof.Rows L2
def tyD : PyData → String
  | .none => "NoneType"
  | .bool _ => "bool"
  | .int _ => "int"
  | .str _ => "str"
  | .list _ => "list"
  | .tuple _ => "tuple"
  | .dict _ => "dict"
def rIsiO (K : PySem.W.Frag) : List V → Hp → VK → Prop := fun xs H Q => ∃ x d m T k, xs = [x, .ty T] ∧ Od K m H x d ∧ PySem.W.kitOne K (.type (tyD d)) (.type T) = some k ∧ Q (.bl k) H
theorem call_isiO {X : Cx} {K : PySem.W.Frag} (hK : X.K = K) : CallR X (.builtin "isinstance") (rIsiO K) := by
  subst hK
  intro pins s σ H xs us Q I r h
  obtain ⟨x, d, m, T, k, rfl, hd, e, q⟩ := h
  cases hd with
  | non => exact call_isi pins s σ H _ us Q I r ⟨_, T, _, k, rfl, rfl, e, q⟩
  | bl b => exact call_isi pins s σ H _ us Q I r ⟨_, T, _, k, rfl, rfl, e, q⟩
  | int i => exact call_isi pins s σ H _ us Q I r ⟨_, T, _, k, rfl, rfl, e, q⟩
  | str y => exact call_isi pins s σ H _ us Q I r ⟨_, T, _, k, rfl, rfl, e, q⟩
  | tup hs _ => exact call_isi pins s σ H _ us Q I r ⟨_, T, _, k, rfl, .inl ⟨rfl, _, hs⟩, e, q⟩
  | lst hs _ _ _ => exact call_isi pins s σ H _ us Q I r ⟨_, T, _, k, rfl, .inr (.inl ⟨rfl, _, SqL.of hs⟩), e, q⟩
  | @dct a kvs ds hs _ _ _ _ =>
    obtain ⟨u, w', rfl, rx, rt⟩ := vals2 r
    cases (show w' = Value.type T from rt)
    cases (show u = Value.ref a from rx)
    obtain ⟨o, es, n, e1, e2, _⟩ := DcO.at I hs
    exact PySem.W.kia_one PySem.W.kitx_dict I.kIn ⟨o, e1, e2⟩ e (fun z => nomatch z) fun tk => ⟨.bl k, H, I.tok _, rfl, q⟩
end L3

namespace L3
open PySem PySem.Spec PyProof.Rows L2
mutual
def leD (B : Int) : PyData → Bool
  | .int i => decide (-B ≤ i) && decide (i ≤ B)
  | .list xs | .tuple xs => leDs B xs
  | .dict kvs => leDk B kvs
  | .none | .bool _ | .str _ => true
def leDs (B : Int) : List PyData → Bool
  | [] => true
  | x :: xs => leD B x && leDs B xs
def leDk (B : Int) : List (PyData × PyData) → Bool
  | [] => true
  | (k, v) :: r => leD B k && leD B v && leDk B r
end
mutual
def wtO : PyData → Nat
  | .list xs | .tuple xs => wtOs xs + 3
  | .dict kvs => wtOk kvs + 3
  | .int _ => 1921
  | .none | .bool _ => 5
  | .str x => (reprText x).length
def wtOs : List PyData → Nat
  | [] => 0
  | x :: xs => wtO x + 2 + wtOs xs
def wtOk : List (PyData × PyData) → Nat
  | [] => 0
  | (k, v) :: r => wtO k + wtO v + 4 + wtOk r
end
mutual
theorem leD_mono {B B' : Int} (h : B ≤ B') : ∀ {d : PyData}, leD B d = true → leD B' d = true
  | .int i, z => by
    simp only [leD, Bool.and_eq_true, decide_eq_true_eq] at z ⊢
    omega
  | .list xs, z => leDs_mono h (xs := xs) z
  | .tuple xs, z => leDs_mono h (xs := xs) z
  | .dict kvs, z => leDk_mono h (kvs := kvs) z
  | .none, _ => rfl
  | .bool _, _ => rfl
  | .str _, _ => rfl
theorem leDs_mono {B B' : Int} (h : B ≤ B') : ∀ {xs : List PyData}, leDs B xs = true → leDs B' xs = true
  | [], _ => rfl
  | x :: xs, z => by
    have z' := Bool.and_eq_true_iff.mp (show (leD B x && leDs B xs) = true from z)
    show (leD B' x && leDs B' xs) = true
    rw [leD_mono h z'.1, leDs_mono h z'.2]; rfl
theorem leDk_mono {B B' : Int} (h : B ≤ B') : ∀ {kvs : List (PyData × PyData)}, leDk B kvs = true → leDk B' kvs = true
  | [], _ => rfl
  | (k, v) :: r, z => by
    have z' := Bool.and_eq_true_iff.mp (show (leD B k && leD B v && leDk B r) = true from z)
    have z'' := Bool.and_eq_true_iff.mp z'.1
    show (leD B' k && leD B' v && leDk B' r) = true
    rw [leD_mono h z''.1, leD_mono h z''.2, leDk_mono h z'.2]; rfl
end
theorem leDs_iff {B : Int} : ∀ {xs : List PyData}, leDs B xs = true ↔ ∀ x ∈ xs, leD B x = true
  | [] => by simp [leDs]
  | x :: xs => by simp [leDs, leDs_iff (xs := xs)]
theorem wtOs_append : ∀ {xs ys : List PyData}, wtOs (xs ++ ys) = wtOs xs + wtOs ys
  | [], ys => by simp [wtOs]
  | x :: xs, ys => by
    show wtO x + 2 + wtOs (xs ++ ys) = wtO x + 2 + wtOs xs + wtOs ys
    rw [wtOs_append]; omega
def Bg : Int := 2 ^ 1000
mutual
theorem showable_le {B : Int} (hB : B ≤ Bg) : ∀ {d : PyData}, leD B d = true → d.showable = true
  | .int i, z => by
    simp only [leD, Bool.and_eq_true, decide_eq_true_eq] at z
    have hb : Bg = 2 ^ 1000 := rfl
    show decide (i.natAbs.log2 < 1920) = true
    refine decide_eq_true ?_
    by_cases h0 : i.natAbs = 0
    · rw [h0]; decide
    · rw [Nat.log2_lt h0]
      have h1 : (i.natAbs : Int) ≤ Bg := by omega
      have h2 : i.natAbs ≤ 2 ^ 1000 := by rw [hb] at h1; exact_mod_cast h1
      exact Nat.lt_of_le_of_lt h2 (Nat.pow_lt_pow_right (by decide) (by decide))
  | .list xs, z => showableAll_le hB (xs := xs) z
  | .tuple xs, z => showableAll_le hB (xs := xs) z
  | .dict kvs, z => showableKv_le hB (kvs := kvs) z
  | .none, _ => rfl
  | .bool _, _ => rfl
  | .str _, _ => rfl
theorem showableAll_le {B : Int} (hB : B ≤ Bg) : ∀ {xs : List PyData}, leDs B xs = true → PyData.showableAll xs = true
  | [], _ => rfl
  | x :: xs, z => by
    have z' := Bool.and_eq_true_iff.mp (show (leD B x && leDs B xs) = true from z)
    show (x.showable && PyData.showableAll xs) = true
    rw [showable_le hB z'.1, showableAll_le hB z'.2]; rfl
theorem showableKv_le {B : Int} (hB : B ≤ Bg) : ∀ {kvs : List (PyData × PyData)}, leDk B kvs = true → PyData.showableKv kvs = true
  | [], _ => rfl
  | (k, v) :: r, z => by
    have z' := Bool.and_eq_true_iff.mp (show (leD B k && leD B v && leDk B r) = true from z)
    have z'' := Bool.and_eq_true_iff.mp z'.1
    show (k.showable && v.showable && PyData.showableKv r) = true
    rw [showable_le hB z''.1, showable_le hB z''.2, showableKv_le hB z'.2]; rfl
end
mutual
theorem shown_le : ∀ {d : PyData}, d.showable = true → d.shown.length ≤ wtO d
  | .none, _ => by decide
  | .bool b, _ => by cases b <;> decide
  | .int i, h => int_text_len_1921 (of_decide_eq_true h)
  | .str x, _ => Nat.le_refl _
  | .list xs, h => by
    have q := shown_les (xs := xs) h
    have l := listText_len_le (PyData.shownAll xs)
    show (listText (PyData.shownAll xs)).length ≤ wtOs xs + 3
    omega
  | .tuple xs, h => by
    have q := shown_les (xs := xs) h
    have l := tupleText_len_le (PyData.shownAll xs)
    show (tupleText (PyData.shownAll xs)).length ≤ wtOs xs + 3
    omega
  | .dict kvs, h => by
    have q := shown_lek (kvs := kvs) h
    have l := dictText_len_le (PyData.shownKv kvs)
    show (dictText (PyData.shownKv kvs)).length ≤ wtOk kvs + 3
    omega
theorem shown_les : ∀ {xs : List PyData}, PyData.showableAll xs = true → ((PyData.shownAll xs).map (·.length)).sum + 2 * (PyData.shownAll xs).length ≤ wtOs xs
  | [], _ => by decide
  | x :: xs, h => by
    have h' : (x.showable && PyData.showableAll xs) = true := h
    rw [Bool.and_eq_true] at h'
    have q1 := shown_le (d := x) h'.1
    have q2 := shown_les (xs := xs) h'.2
    show (((x.shown :: PyData.shownAll xs).map (·.length)).sum + 2 * (x.shown :: PyData.shownAll xs).length) ≤ wtO x + 2 + wtOs xs
    rw [List.map_cons, List.sum_cons, List.length_cons]
    omega
theorem shown_lek : ∀ {kvs : List (PyData × PyData)}, PyData.showableKv kvs = true → ((PyData.shownKv kvs).map (·.length)).sum + 2 * (PyData.shownKv kvs).length ≤ wtOk kvs
  | [], _ => by decide
  | (k, v) :: r, h => by
    have h' : (k.showable && v.showable && PyData.showableKv r) = true := h
    rw [Bool.and_eq_true, Bool.and_eq_true] at h'
    have q1 := shown_le (d := k) h'.1.1
    have q2 := shown_le (d := v) h'.1.2
    have q3 := shown_lek (kvs := r) h'.2
    have e : (k.shown ++ ": " ++ v.shown).length = k.shown.length + 2 + v.shown.length := by
      rw [strLen_append, strLen_append]; rfl
    show ((((k.shown ++ ": " ++ v.shown) :: PyData.shownKv r).map (·.length)).sum + 2 * ((k.shown ++ ": " ++ v.shown) :: PyData.shownKv r).length) ≤ wtO k + wtO v + 4 + wtOk r
    rw [List.map_cons, List.sum_cons, List.length_cons, e]
    omega
end

structure GdS (n k w : Nat) (ds : List PyData) : Prop where
  le : leDs (10 ^ 30 + n) ds = true
  dp : PyData.depthAll ds ≤ k
  wt : wtOs ds ≤ w
structure GdD (n k w : Nat) (d : PyData) : Prop where
  le : leD (10 ^ 30 + n) d = true
  dp : d.depth ≤ k
  wt : wtO d ≤ w
theorem leDs_append {B : Int} {a b : List PyData} (ha : leDs B a = true) (hb : leDs B b = true) : leDs B (a ++ b) = true := leDs_iff.mpr fun x hx => (List.mem_append.mp hx).elim (leDs_iff.mp ha x) (leDs_iff.mp hb x)
theorem depthAll_le {k : Nat} : ∀ {xs : List PyData}, PyData.depthAll xs ≤ k ↔ ∀ x ∈ xs, x.depth ≤ k
  | [] => by simp [PyData.depthAll]
  | x :: xs => by
    show max x.depth (PyData.depthAll xs) ≤ k ↔ _
    rw [Nat.max_le, depthAll_le (xs := xs)]
    simp
theorem GdS.append {n k w w' : Nat} {a b : List PyData} (ha : GdS n k w a) (hb : GdS n k w' b) : GdS n k (w + w') (a ++ b) :=
  ⟨leDs_append ha.le hb.le, depthAll_le.mpr fun x hx => (List.mem_append.mp hx).elim (depthAll_le.mp ha.dp x) (depthAll_le.mp hb.dp x), by rw [wtOs_append]; have := ha.wt; have := hb.wt; omega⟩
theorem GdS.sub {n k w : Nat} {a b : List PyData} (ha : GdS n k w a) (h : ∀ x ∈ b, x ∈ a) (hw : wtOs b ≤ wtOs a) : GdS n k w b :=
  ⟨leDs_iff.mpr fun x hx => leDs_iff.mp ha.le x (h x hx), depthAll_le.mpr fun x hx => depthAll_le.mp ha.dp x (h x hx), Nat.le_trans hw ha.wt⟩
theorem GdD.one {n k w : Nat} {d : PyData} (h : GdD n k w d) : GdS n k (w + 2) [d] := ⟨by show (leD _ d && true) = true; rw [h.le]; rfl, by show max d.depth 0 ≤ k; have := h.dp; omega, by show wtO d + 2 + 0 ≤ w + 2; have := h.wt; omega⟩
theorem GdS.tup {n k w : Nat} {ds : List PyData} (h : GdS n k w ds) : GdD n (k + 1) (w + 3) (.tuple ds) := ⟨h.le, Nat.succ_le_succ h.dp, Nat.add_le_add_right h.wt 3⟩
theorem GdS.lst {n k w : Nat} {ds : List PyData} (h : GdS n k w ds) : GdD n (k + 1) (w + 3) (.list ds) := ⟨h.le, Nat.succ_le_succ h.dp, Nat.add_le_add_right h.wt 3⟩
theorem GdS.mono {n n' k k' w w' : Nat} {ds : List PyData} (h : GdS n k w ds) (h1 : n ≤ n') (h2 : k ≤ k') (h3 : w ≤ w') : GdS n' k' w' ds := ⟨leDs_mono (by omega) h.le, Nat.le_trans h.dp h2, Nat.le_trans h.wt h3⟩
theorem GdD.mono {n n' k k' w w' : Nat} {d : PyData} (h : GdD n k w d) (h1 : n ≤ n') (h2 : k ≤ k') (h3 : w ≤ w') : GdD n' k' w' d := ⟨leD_mono (by omega) h.le, Nat.le_trans h.dp h2, Nat.le_trans h.wt h3⟩
end L3
namespace L3
open PySem PySem.Spec PyProof.Rows L2
section
variable {K : PySem.W.Frag} {m : List Addr} {H : Hp} {x : V}
theorem Od.inv_lst {ds : List PyData} (h : Od K m H x (.list ds)) : ∃ a xs, x = .ref a ∧ H a = some (.lst xs) ∧ a ∉ m ∧ a ≠ sysModules ∧ Ods K m H xs ds := by
  cases h with
  | lst h1 h2 h3 h4 => exact ⟨_, _, rfl, h1, h2, h3, h4⟩
end
end L3
namespace L3
open PySem PySem.Spec PyProof.Rows L2
end L3

namespace L3
open PySem PySem.Spec PyProof.Rows L2
theorem pss_dead {X : Cx} {st : List Stmt} : PSs X st (fun _ _ _ => False) := fun _ _ _ _ _ _ h => h.elim
section
variable {X : Cx}
theorem mt_isdigit : MtR X "str.isdigit" (fun x xs H Q => ∃ z, x = .str z ∧ xs = [] ∧ Q (.bl (Txt.isdigit z)) H) := by
  intro pins s σ H x xs v us Q I rx r h
  obtain ⟨z, rfl, rfl, q⟩ := h
  obtain ⟨t, rfl⟩ := rx
  cases r
  exact SC.isdigit ⟨.bl _, H, I, rfl, q⟩
theorem mt_isascii : MtR X "str.isascii" (fun x xs H Q => ∃ z, x = .str z ∧ xs = [] ∧ Q (.bl (Txt.isascii z)) H) := by
  intro pins s σ H x xs v us Q I rx r h
  obtain ⟨z, rfl, rfl, q⟩ := h
  obtain ⟨t, rfl⟩ := rx
  cases r
  exact SC.isascii ⟨.bl _, H, I, rfl, q⟩
theorem mt_removeprefix : MtR X "str.removeprefix" (fun x xs H Q => ∃ z y, x = .str z ∧ xs = [.str y] ∧ z.length ≤ sizeLine ∧ Q (.str (Txt.removeprefix z y)) H) := by
  intro pins s σ H x xs v us Q I rx r h
  obtain ⟨z, y, rfl, rfl, hz, q⟩ := h
  obtain ⟨t, rfl⟩ := rx
  obtain ⟨u, rfl, t', rfl⟩ := vals1 r
  exact SC.removeprefix (fun t' k => ⟨.str _, H, I.kept (t' := k) fun b o e => e, ⟨t', rfl⟩, q⟩) hz
theorem vals_strs : ∀ {ts : List Str} {us : List Value}, Vals (ts.map V.str) us → ∃ l : List (Str × Tok), l.map (·.1) = ts ∧ strValues l = us
  | [], _, .nil => ⟨[], rfl, rfl⟩
  | a :: ts, _, .cons r rr => by
    obtain ⟨t, rfl⟩ := r
    obtain ⟨l, h1, h2⟩ := vals_strs rr
    exact ⟨(a, t) :: l, by rw [List.map_cons, h1], by rw [← h2]; rfl⟩
theorem strs_vals : ∀ {l : List (Str × Tok)}, Vals ((l.map (·.1)).map V.str) (strValues l)
  | [] => .nil
  | _ :: _ => .cons ⟨_, rfl⟩ strs_vals
theorem mt_join : MtR X "str.join" (fun x xs H Q => ∃ z a ts, x = .str z ∧ xs = [.ref a] ∧ SqL X.K H a (ts.map V.str) ∧ JoinOk z ts = true ∧ Q (.str (Str.join z ts)) H) := by
  intro pins s σ H x xs v us Q I rx r h
  obtain ⟨z, a, ts, rfl, rfl, hx, ok, q⟩ := h
  obtain ⟨t, rfl⟩ := rx
  obtain ⟨u, rfl, ru⟩ := vals1 r
  cases (show u = Value.ref a from ru)
  obtain ⟨its, rr, pl, hz⟩ := I.list hx
  obtain ⟨l, h1, rfl⟩ := vals_strs rr
  exact SC.join pl.isList h1 ok fun t' k => ⟨.str _, H, I.kept (t' := k) fun b o e => e, ⟨t', by rw [← StrLaws.glued_eq_join]; rfl⟩, q⟩
theorem mt_split : MtR X "str.split" (fun x xs H Q => ∃ z y, x = .str z ∧ xs = [.str y] ∧ (y.length == 0) = false ∧ z.length ≤ sizeLine ∧ (Txt.split z y).length ≤ sizeLine ∧ ∀ p, H p = none → Q (.ref p) (upd H p (.lst ((Txt.split z y).map V.str)))) := by
  intro pins s σ H x xs v us Q I rx r h
  obtain ⟨z, y, rfl, rfl, hy, hz, hn, q⟩ := h
  obtain ⟨t, rfl⟩ := rx
  obtain ⟨u, rfl, t', rfl⟩ := vals1 r
  have fin : ∀ (l : List (Str × Tok)) (m k : Nat), l.map (·.1) = Txt.split z y → EP X pins σ Q (.ref s.heap.objs.size) { s with heap := s.heap.push { cls := .type "list", data := .seq (strValues l).toArray m }, toks := k } := by
    intro l m k hl
    refine ⟨.ref s.heap.objs.size, _, I.laid (t' := k) (o := .lst ((Txt.split z y).map V.str)) (fun b ob e => Heap.get?_push_of_some _ e) (Nat.le_refl _) ?_, rfl, q _ (I.hok.fresh (Nat.le_refl _))⟩
    exact ⟨by rw [List.length_map]; exact hn, _, m, by rw [← hl]; exact strs_vals, Heap.get?_push_size _ rfl⟩
  cases h1 : (decide (z.length < y.length) || decide (Builtin.Str.strKind z < Builtin.Str.strKind y))
  · cases hf : (Builtin.Str.occurrences z y 0 z.length (z.length + 1)).isEmpty
    · have e : Txt.split z y = Builtin.Str.partsBetween z (Builtin.Str.occurrences z y 0 z.length (z.length + 1)) y.length := (if_neg (ne_true_of_eq_false h1)).trans (if_neg (ne_true_of_eq_false hf))
      refine call_meets F.slot_str_split (typeIs_str _ _ _) F.entry_str_split (F.args_str_split_2 _ _) (meets_str_split_sep z y t t' h1 hy hf hz (by rw [← e]; exact hn)) ?_
      show EP X pins σ Q _ { s with toks := _, heap := s.heap.push { cls := .type "list", data := .seq (strsFrom s.toks (Builtin.Str.partsBetween z (Builtin.Str.occurrences z y 0 z.length (z.length + 1)) y.length)).toArray } }
      rw [strsFrom_eq]
      exact fin (numbered s.toks _) _ _ ((numbered_texts _ _).trans e.symm)
    · exact call_meets F.slot_str_split (typeIs_str _ _ _) F.entry_str_split (F.args_str_split_2 _ _) (meets_str_split_not_found z y t t' h1 hy hf)
        (fin [(z, t)] _ _ ((if_neg (ne_true_of_eq_false h1)).trans (if_pos hf)).symm)
  · exact call_meets F.slot_str_split (typeIs_str _ _ _) F.entry_str_split (F.args_str_split_2 _ _) (meets_str_split_cannot_occur z y t t' h1)
      (fin [(z, t)] _ _ (if_pos h1).symm)
theorem sl_str : SlR X (fun x lo hi H Q => ∃ z, x = .str z ∧ z.length ≤ sizeLine ∧ Q (.str (Txt.slice z lo hi)) H) := by
  intro pins s σ H x v vl vu lo hi sl Q I rx hs pl pu h
  obtain ⟨z, rfl, hz, q⟩ := h
  obtain ⟨t, rfl⟩ := rx
  refine ⟨"str", _, F.slot_str_getitem.lookup, typeIs_str _ _ _, ?_⟩
  have fin : ∀ t' k, EP X pins σ Q (.str (Txt.slice z lo hi) t') { s with toks := k } := fun t' k => ⟨.str _, H, I.kept (t' := k) fun b o e => e, ⟨t', rfl⟩, q⟩
  have ok : (Txt.slice z lo hi).length ≤ sizeLine := Nat.le_trans (Txt.slice_le z _ _) hz
  cases pl with
  | none =>
    cases pu with
    | none => exact wpAny_getItem_str_slice (l := none) (u := none) (st := none) hs rfl (post_val_or_str ⟨ok, fin⟩)
    | int j uj => exact wpAny_getItem_str_slice (l := none) (u := some (j, uj)) (st := none) hs rfl (post_val_or_str ⟨ok, fin⟩)
  | int i ui =>
    cases pu with
    | none => exact wpAny_getItem_str_slice (l := some (i, ui)) (u := none) (st := none) hs rfl (post_val_or_str ⟨ok, fin⟩)
    | int j uj => exact wpAny_getItem_str_slice (l := some (i, ui)) (u := some (j, uj)) (st := none) hs rfl (post_val_or_str ⟨ok, fin⟩)
theorem call_intS : CallR X (.type "int") (fun xs H Q => ∃ z n, xs = [.str z] ∧ intText? z = some n ∧ z.length ≤ 640 ∧ Q (.int n) H) := by
  intro pins s σ H xs us Q I r h
  obtain ⟨z, n, rfl, hn, hz, q⟩ := h
  obtain ⟨u, rfl, t, rfl⟩ := vals1 r
  exact PySem.W.KIN.call_text hn hz ⟨.int n, H, I.tok _, ⟨_, rfl⟩, q⟩
end
def It0 : It := ⟨fun _ _ => False, fun _ _ _ _ => False, fun _ _ => True⟩
theorem turn_range0 {P : Program} {w : World} {K : PySem.W.Frag} {tg : Expr} (it : Addr) (n d : Nat) : Turn P w K tg It0 [it] it (fun _ h => IsRangeIter h it (n : Int) 0 d) where
  mem := by simp
  obj := fun i h st b hb => by
    obtain rfl : b = it := by simpa using hb
    refine ⟨_, st, fun v z => ?_⟩
    have z' : Data.fields _ = Data.cell v := z
    cases z'
  keep := fun i h h' st k => k it (by simp) _ st
  item := by
    intro X hP hw hK hc i pins s σ H E I hf st hg
    exact absurd hg (fun z => z)
  done := by
    intro X hP hw hK hc i pins s σ H E I hf st hg
    subst hP hw hK
    obtain ⟨f0, f1, f2, f3, f4, f5⟩ := hf it (by simp)
    exact wpAny_pyNext_range_end (I.ok.hd hc) st (by omega) fun h' eb => ⟨rfl, I.turned (t' := s.toks) (fun b o hb e => eb b o hb e) f0 f1 f3 f4 f5⟩
  self := fun _ _ _ _ _ st h => wpAny_pyIter_rangeiter st h
theorem size0 {n d : Nat} (h : 0 < (d : Int)) : Builtin.Range.rangeSize (n : Int) (n : Int) (d : Int) = 0 := by
  unfold Builtin.Range.rangeSize
  rw [if_pos h]
  split
  · omega
  · rfl
theorem small0 {n d : Nat} (h1 : n ≤ 1000) (h2 : 0 < (d : Int)) (h3 : (d : Int) ≤ 1000) : Builtin.Range.small (n : Int) (n : Int) (d : Int) = true := by
  unfold Builtin.Range.small
  rw [size0 h2]
  simp only [Builtin.Range.rangeFitsLong, Bool.and_eq_true, Bool.or_eq_true, decide_eq_true_eq, beq_iff_eq, h2, if_true]
  omega
def iRng0 (ta : TA) : TI := fun σ H R => ta σ H fun vs H1 => ∃ n d : Nat, vs = [.int n, .int n, .int d] ∧ n ≤ 1000 ∧ 0 < (d : Int) ∧ (d : Int) ≤ 1000 ∧ R It0 H1
section
variable {X : Cx}
theorem pi_range0 {tg a b c : Expr} {ta : TA} {p pos : Pos} (hg : Gl X "range") (hm : X.mg "range" = none) (ha : PA X [a, b, c] ta)
    (hs : starEach [a, b, c] X.env = [(false, eval a X.env), (false, eval b X.env), (false, eval c X.env)] := by rfl) (hs2 : starEach [b, c] X.env = [(false, eval b X.env), (false, eval c X.env)] := by rfl) :
    PI X tg (.Call (.Name "range" p) [a, b, c] [] pos) (iRng0 ta) := by
  intro pins s σ H R I h
  refine Call_ (ld_blt I hg hm boot_range (PyProof.Rows.callWith_type1 (thn (ha pos pins s σ H _ I h) fun us s1 ⟨vs, H1, I1, r1, q1⟩ => ?_) (by rw [hs, hs2]) (by rw [hs2]; rfl)))
  obtain ⟨n, d, e, n1, d1, d2, q⟩ := q1
  subst e
  cases r1 with
  | cons r rr =>
    cases rr with
    | cons r' rr =>
      cases rr with
      | cons r'' rr =>
        cases rr
        obtain ⟨t, rfl⟩ := r
        obtain ⟨t', rfl⟩ := r'
        obtain ⟨t'', rfl⟩ := r''
        refine call_range_3 (by simpa using Int.ne_of_gt d1) ?_ (Or.inl (PyProof.noPylong_small (by omega)))
        refine wpAny_pyIter_range (IsRange.new ..) (small0 n1 d1 d2) ?_
        have I2 : Inv X pins σ H1 { s1 with heap := s1.heap.push { cls := .type "range", data := .fields #[.int (n : Int) t, .int (n : Int) t', .int (d : Int) t''] }, toks := s1.toks } := I1.kept fun b o e => Heap.get?_push_of_some _ e
        refine ⟨(s1.heap.push { cls := .type "range", data := .fields #[.int (n : Int) t, .int (n : Int) t', .int (d : Int) t''] }).objs.size, [(s1.heap.push { cls := .type "range", data := .fields #[.int (n : Int) t, .int (n : Int) t', .int (d : Int) t''] }).objs.size], _, _, H1, rfl,
          I2.kept (t' := s1.toks) fun b o e => Heap.get?_push_of_some _ e, turn_range0 _ n d, ?_, fun b hb => ?_, q⟩
        · show IsRangeIter _ _ (n : Int) 0 d
          have := size0 (n := n) d1
          rw [← this]
          exact Heap.get?_push_size _ rfl
        · obtain rfl : b = (s1.heap.push { cls := .type "range", data := .fields #[.int (n : Int) t, .int (n : Int) t', .int (d : Int) t''] }).objs.size := by simpa using hb
          exact I2.fpOk (Nat.le_refl _) (I2.hok.fresh (Nat.le_refl _))
end
end L3

namespace L3
open PySem PySem.Spec PyProof.Rows L2
theorem lk_zip_keys : typeLookup (.type "zip") "keys" = pure none := by rw [typeLookup_type, builtinLookup_eq_fast]; kernel_rfl
theorem am_zip_getattr_none : typeLookup (.type "zip") "__getattr__" = pure none := by rw [typeLookup_type, builtinLookup_eq_fast]; kernel_rfl
theorem entry_zip_ga : entryFor table "zip.__getattribute__" = some Builtin.«object.__getattribute__» := entryFor_alias (id' := "object.__getattribute__") (by kernel_rfl) (by decide +kernel) (by decide +kernel) (by kernel_rfl)
theorem entry_dulZ : entryFor table "dict.update.loop" = some Builtin.«dict.update.loop» := entryFor_of_tree (by kernel_rfl)
theorem plain_dulZ : plainId "dict.update.loop" = true := by decide +kernel
section
variable {prog : Program} {w : World} {A : Around} {E : Value → Shared → Prop}
theorem keys_meetsZ (a : Addr) (u : Tok) : MeetsIn prog w (Builtin.«object.__getattribute__» ⟨[.ref a, .str "keys" u], []⟩)
    (fun A R s => A.handled = none ∧ (∃ d, s.heap.get? a = some { cls := .type "zip", data := .fields d }) ∧ ∀ h' tk e, Heap.NewAttrErr s.heap h' e (.ref a) "keys" → R (.error (.ref e)) { s with heap := h', toks := tk }) :=
  .of_wp fun A R s ⟨hh, ⟨d, hx⟩, hR⟩ => by
    obtain ⟨h, g, dr, t, os⟩ := s
    have hT : (⟨h, g, dr, t, os⟩ : Shared).TypeIs (.ref a) "zip" := ⟨_, hx, rfl⟩
    have f4 := lk_zip_keys
    unfold Builtin.«object.__getattribute__»
    repeat (any_goals (first | assumption | wp_step))
    exact wpAny_raiseAttrError hh hR (attrMsg_fits (by decide +kernel) (by size_fits))
theorem keys_attr_zip {s : Shared} {a : Addr} {dt : Array Value} {Q : Option Value → Shared → Prop} (hx : s.heap.get? a = some { cls := .type "zip", data := .fields dt }) (hA : A.handled = none)
    (hq : ∀ h' tk, (∀ b o, s.heap.get? b = some o → h'.get? b = some o) → Q none { s with heap := h', toks := tk }) :
    wpAny (model prog w) A (getAttr? (.ref a) "keys") Q E s := by
  obtain ⟨h, g, d, t, os⟩ := s
  have hT : ∀ t', (⟨h, g, d, t', os⟩ : Shared).TypeIs (.ref a) "zip" := fun _ => ⟨_, hx, rfl⟩
  have f1 := sub_AttributeError
  have f3 := F.slot_zip_getattribute.lookup
  have f4 := F.slot_zip_getattribute.bind (.ref a)
  have f5 := am_zip_getattr_none
  unfold getAttr? getAttrBy? getAttrBy
  repeat (any_goals (first | assumption | exact hT _ | ((with_reducible show wpAny _ _ (call (Value.builtin "zip.__getattribute__") _ _) _ _ _); refine call_meetsIn F.slot_zip_getattribute (hT _) entry_zip_ga (F.args_zip_getattribute_2 _ _) (keys_meetsZ a _) ⟨hA, ⟨_, hx⟩, fun h' tk' e hxx => ?_⟩) | wp_step))
  obtain ⟨t', u', he⟩ := hxx.there
  show wpAny _ _ (getattributeRaised _ _ _ _ _ _ _) _ _ _
  unfold getattributeRaised
  have hE : ∀ t2, (⟨h', g, d, t2, os⟩ : Shared).TypeIs (.ref e) "AttributeError" := fun _ => ⟨_, he, rfl⟩
  repeat (any_goals (first | assumption | exact hE _ | wp_step))
  exact hq _ _ hxx.keeps
end
def putsZ (ks : List Str) (zs : List V) : List (Key × V) := (ks.zip zs).foldl (fun d p => putK d (Sum.inr p.1) p.2) []
theorem putsZ_len (ks : List Str) (zs : List V) : (putsZ ks zs).length ≤ ks.length := by
  have go : ∀ (ps : List (Str × V)) (d : List (Key × V)), (ps.foldl (fun d p => putK d (Sum.inr p.1) p.2) d).length ≤ d.length + ps.length := by
    intro ps
    induction ps with
    | nil => intro d; exact Nat.le_refl _
    | cons p ps ih =>
      intro d
      have h1 := ih (putK d (Sum.inr p.1) p.2)
      have h2 := length_putK d (Sum.inr p.1) p.2
      rw [List.foldl_cons, List.length_cons]
      omega
  have := go (ks.zip zs) []
  have h2 : (ks.zip zs).length ≤ ks.length := by rw [List.length_zip]; exact Nat.min_le_left _ _
  rw [List.length_nil, Nat.zero_add] at this
  exact Nat.le_trans this h2
theorem putsZ_snoc {ks : List Str} {zs : List V} {i : Nat} {k : Str} {y : V} (h1 : ks[i]? = some k) (h2 : zs[i]? = some y) : putsZ (ks.take (i + 1)) (zs.take (i + 1)) = putK (putsZ (ks.take i) (zs.take i)) (Sum.inr k) y := by
  have l1 := (List.getElem?_eq_some_iff.mp h1).1
  have l2 := (List.getElem?_eq_some_iff.mp h2).1
  unfold putsZ
  rw [List.take_succ, h1, List.take_succ, h2, Option.toList_some, Option.toList_some, List.zip_append (by rw [List.length_take, List.length_take]; omega), List.foldl_append]
  rfl
structure WkE (prog : Program) (w : World) (A : Around) (T : String) (I : Addr) (n : Nat) (S : Addr) (J : List Value → Shared → Prop) (Fn : List Value → Shared → Prop) : Prop where
  self : ∀ (B : Around) acc s (Q : Value → Shared → Prop) (E : Value → Shared → Prop), J acc s → Q (.ref I) s → wpAny (model prog w) B (pyIter (.ref I)) Q E s
  stay : ∀ acc s (ob : Obj) (h' : Heap) (tk : Nat), J acc s → s.heap.get? S = some ob → (∀ v, ob.data ≠ .cell v) → (∀ b o, b ≠ S → s.heap.get? b = some o → h'.get? b = some o) → J acc { s with heap := h', toks := tk }
  next : ∀ acc s (ob : Obj) (Q : Option Value → Shared → Prop) (E : Value → Shared → Prop), J acc s → s.heap.get? S = some ob → (∀ v, ob.data ≠ .cell v) →
    (∀ v s', acc.length < n → J (acc ++ [v]) s' → s'.heap.get? S = some ob → Q (some v) s') → (∀ s', Fn acc s' → s'.heap.get? S = some ob → Q none s') → wpAny (model prog w) A (pyNext (.ref I)) Q E s
section
variable {X : Cx} {pins : List (Addr × Obj)} {σ : L2.St} {fp : List Addr} {it : Addr} {tn : Nat → Heap → Prop} {Jt : It} {nm : Str} {pt : Pos} {cls : String} {H0 : Hp} {S0 : Addr} {n : Nat}
theorem wk_turnE (hc : X.calm = true) (T : Turn X.prog X.w X.K (.Name nm pt) Jt fp it tn) (f2 : ∀ b ∈ fp, FpOk X pins H0 b) (fS : FpOk X pins H0 S0) (hfS : ∀ b ∈ fp, b ≠ S0)
    (Wv : Nat → List V → Hp → Prop) (step : ∀ i ys H, Wv i ys H → (Jt.go i H ∧ i < n ∧ ∀ x H', Jt.yld i H x H' → Wv (i + 1) (ys ++ [x]) H') ∨ Jt.stop i H) :
    WkE X.prog X.w X.A.in1.in1 cls it n S0 (WkJ X pins σ fp tn S0 Wv) (WkF X pins σ S0 Jt Wv) where
  self := fun B acc s Q E ⟨_, _, _, st, _⟩ q => T.self _ _ _ _ _ st q
  stay := fun acc s ob h' tk j hob hl hk => by
    obtain ⟨H', ys, I, st, fr, hn, rv, w⟩ := j
    refine ⟨H', ys, I.turned (it := S0) (t' := tk) (fun b o hb e => hk b o hb e) hn fS.2.1 fS.2.2.2.1 fS.2.2.2.2.1 fS.2.2.2.2.2, T.keep _ _ _ st fun b hb o e => hk b o (hfS b hb) e, fr, hn, rv, w⟩
  next := fun acc s ob Q E j hob hl hsome hnone => by
    obtain ⟨H', ys, I, st, fr, hn, rv, w⟩ := j
    have pS : Inv (in2 X) (pins ++ [(S0, ob)]) σ H' s := (inv_in2 I).pins_of fun p hp => by
      rcases List.mem_append.mp hp with hp | hp
      · exact I.pin p (List.mem_append_right _ hp)
      · rw [List.mem_singleton.mp hp]
        exact ⟨hob, hn, fS.2.1, fS.2.2.1, hl⟩
    have fpok : ∀ b ∈ fp, FpOk (in2 X) (pins ++ [(S0, ob)]) H' b := fun b hb => by
      obtain ⟨_, z2, z3, z4, z5, z6⟩ := f2 b hb
      refine ⟨fr b hb, z2, z3, z4, z5, fun p hp => ?_⟩
      rcases List.mem_append.mp hp with hp | hp
      · exact z6 p (List.mem_append_left _ hp)
      · rcases List.mem_append.mp hp with hp | hp
        · exact z6 p (List.mem_append_right _ hp)
        · rw [List.mem_singleton.mp hp]; exact (hfS b hb).symm
    rcases step _ _ _ w with ⟨go, hlt, yl⟩ | stop
    · refine thn_go (T.item (in2 X) rfl rfl rfl hc acc.length (pins ++ [(S0, ob)]) s σ H' E pS fpok st go) fun u s1 ⟨x, H2, I2, rx, y, st2, fr2⟩ => ?_
      have p := I2.pin (S0, ob) (by simp)
      refine hsome u s1 hlt ⟨H2, ys ++ [x], (inv_out2 I2).unpinned, ?_, fr2, p.2.1, rv.append (.cons rx .nil), ?_⟩ p.1
      · rw [List.length_append]; exact st2
      · rw [List.length_append]; exact yl x H2 y
    · refine thn (T.done (in2 X) rfl rfl rfl hc acc.length (pins ++ [(S0, ob)]) s σ H' E pS fpok st stop) fun r s1 ⟨hr, I2⟩ => ?_
      subst hr
      exact hnone s1 ⟨H', ys, (inv_out2 I2).unpinned, hn, rv, w, stop⟩ (I2.pin (S0, ob) (by simp)).1
end
section
variable {prog : Program} {w : World} {A : Around} {R : Result → Shared → Prop} {T : String} {I D : Addr} {n : Nat} {J Fn : List Value → Shared → Prop}
theorem dict_loopE {ks : List Str} {zs : List V} (W : WkE prog w A.in1 T I n D J Fn) (hn : n ≤ sizeLine)
    (hJ : ∀ acc v s', J (acc ++ [v]) s' → acc.length < n → ∃ t k y u tk ot m, v = .ref t ∧ t ≠ D ∧ s'.heap.get? t = some ot ∧ ot.cls = .type "tuple" ∧ ot.data = .seq #[.str k tk, u] m ∧ ks[acc.length]? = some k ∧ zs[acc.length]? = some y ∧ RelV y u) :
    ∀ (m : Nat) (s : Shared) (acc : List Value), n - acc.length = m → acc.length ≤ n → J acc s → (∃ vs, KV (putsZ (ks.take acc.length) (zs.take acc.length)) vs ∧ s.heap.DictOf (mixKind prog w) D vs) →
    (∀ s' acc' vs, Fn acc' s' → acc'.length ≤ n → KV (putsZ (ks.take acc'.length) (zs.take acc'.length)) vs → s'.heap.DictOf (mixKind prog w) D vs → R (.ok (.ret .none)) s') →
    codeAny (model prog w) A (.builtin "dict.update.loop" ⟨[.ref D, .ref I, rawInt acc.length, .none], []⟩) R s := by
  intro m
  induction m with
  | zero =>
    intro s acc hm hi hj hS hR
    obtain ⟨vs, rel, o, es, ep, ho, hx, hd, rest⟩ := hS
    refine codeAny_builtin entry_dulZ ?_
    rw [Around.under_plainId plain_dulZ _]
    show wpAny _ A.in1 (pyNext (.ref I) >>= _) _ _ s
    refine wpAny_bind (W.next acc s o _ _ hj ho (fun v z => by rw [hd] at z; cases z) (fun v s' hl => by omega) fun s' hf hS' => ?_)
    show wpAny _ A.in1 (Builtin.Dict.addKeywords D [] >>= fun _ => ret Value.none) _ _ _
    unfold Builtin.Dict.addKeywords
    exact wpAny_bind (wpAny_pure (wpAny_pure (hR s' acc vs hf hi rel ⟨o, es, ep, hS', hx, hd, rest⟩)))
  | succ m ih =>
    intro s acc hm hi hj hS hR
    obtain ⟨vs, rel, o, es, ep, ho, hx, hd, rest⟩ := hS
    refine codeAny_builtin entry_dulZ ?_
    rw [Around.under_plainId plain_dulZ _]
    show wpAny _ A.in1 (pyNext (.ref I) >>= _) _ _ s
    refine wpAny_bind (W.next acc s o _ _ hj ho (fun v z => by rw [hd] at z; cases z) (fun v s' hl hj' hS' => ?_) fun s' hf hS' => ?_)
    · obtain ⟨t, k, y, u, tk, ot, mm, rfl, htD, hot, hct, hdt, hk, hy, ry⟩ := hJ acc v s' hj' hl
      have dd : s'.heap.DictOf (mixKind prog w) D vs := ⟨o, es, ep, hS', hx, hd, rest⟩
      refine wpAny_bind (wpAny_holding ?_)
      show wpAny _ A.in1 ((Builtin.Dict.pairItems (.ref t)).tryCatch _ >>= _) _ _ _
      refine wpAny_bind (wpAny_tryCatch ?_)
      unfold Builtin.Dict.pairItems
      refine wpAny_bind (wpAny_typeOf (T := "tuple") ⟨ot, hot, hct⟩ ?_)
      show wpAny _ _ (if (Value.type "tuple" == Value.type "list" || Value.type "tuple" == Value.type "tuple") = true then _ else _) _ _ _
      rw [if_pos (by decide)]
      refine wpAny_bind (wpAny_seqItems hot hdt (wpAny_pure ?_))
      show wpAny _ _ (holding [Value.str k tk, u] (dictSet D (.str k tk) u)) _ _ _
      refine wpAny_holding ?_
      have hl2 := rel.length
      have hl3 := putsZ_len (ks.take acc.length) (zs.take acc.length)
      have hl4 : (ks.take acc.length).length ≤ acc.length := by rw [List.length_take]; exact Nat.min_le_left _ _
      refine wpAny_dictSet_pairs (knd := mixKind prog w) (k := Sum.inr k) (hsz := by omega) (kV_is (k := Sum.inr k) ⟨tk, rfl⟩) dd fun h2 dd2 sb => ?_
      refine wpAny_pure ⟨plainId_quiet plain_dulZ _, ?_⟩
      have el : (acc ++ [Value.ref t]).length = acc.length + 1 := by rw [List.length_append]; rfl
      have e1 : ((acc.length : Int) + 1) = (((acc ++ [Value.ref t]).length : Nat) : Int) := by rw [el]; omega
      show codeAny (model prog w) A (.builtin "dict.update.loop" ⟨[.ref D, .ref I, rawInt ((acc.length : Int) + 1), .none], []⟩) R _
      rw [e1]
      refine ih _ (acc ++ [Value.ref t]) (by rw [el]; omega) (by rw [el]; omega) (W.stay _ s' o _ _ hj' hS' (fun v z => by rw [hd] at z; cases z) fun b o hb e => sb.extBut b o hb e) ⟨_, ?_, dd2⟩ hR
      rw [el, putsZ_snoc hk hy]
      exact rel.put _ ry
    · show wpAny _ A.in1 (Builtin.Dict.addKeywords D [] >>= fun _ => ret Value.none) _ _ _
      unfold Builtin.Dict.addKeywords
      exact wpAny_bind (wpAny_pure (wpAny_pure (hR s' acc vs hf hi rel ⟨o, es, ep, hS', hx, hd, rest⟩)))
end
end L3

namespace L3
open PySem PySem.Spec PyProof.Rows L2
theorem vals_getZ : ∀ {zs : List V} {us : List Value} {i : Nat} {u : Value}, Vals zs us → us[i]? = some u → ∃ z, zs[i]? = some z ∧ RelV z u
  | _, _, _, _, .nil, h => by cases h
  | _, _, 0, _, .cons r _, h => by cases h; exact ⟨_, rfl, r⟩
  | _, _, i + 1, _, .cons _ t, h => vals_getZ (i := i) t h
section
variable {X : Cx} {K : PySem.W.Frag} {a b : Expr} {ta : TA} {p p2 pos pos2 : Pos}
def tDictZip (K : PySem.W.Frag) (ta : TA) : TE := fun σ H Q => ta σ H fun vs H1 => ∃ (a b : Addr) (ks : List Str) (zs : List V), vs = [.ref a, .ref b] ∧ SqL K H1 a (ks.map V.str) ∧ SqL K H1 b zs ∧ ks.length = zs.length ∧ ks.length ≤ 1000 ∧
  ∀ (r : Addr) (H' : Hp), Grow [] H1 H' → H1 r = none → H' r = some (.dK (putsZ ks zs)) → Q (.ref r) H'
theorem pe_dictZip (hK : X.K = K) (hc : X.calm = true) (hh : X.A.handled = none) (hgl : Gl X "dict") (hml : X.mg "dict" = none) (hge : Gl X "zip") (hme : X.mg "zip" = none) (ha : PA X [a, b] ta)
    (hs : starEach [a, b] X.env = [(false, eval a X.env), (false, eval b X.env)] := by rfl) (hs3 : starEach [b] X.env = [(false, eval b X.env)] := by rfl) (hs2 : starEach [(.Call (.Name "zip" p2) [a, b] [] pos2 : Expr)] X.env = [(false, eval (.Call (.Name "zip" p2) [a, b] [] pos2) X.env)] := by rfl) :
    PE X (.Call (.Name "dict" p) [.Call (.Name "zip" p2) [a, b] [] pos2] [] pos) (tDictZip K ta) := by
  subst hK
  intro pins s σ H Q I h
  refine wpAny_Call_Name_kw (ld_blt I hgl hml b_dict (PyProof.Rows.callWith_type1 ?_ hs2 rfl))
  rw [hs2]
  show wpAny _ _ (spliced [(false, eval (.Call (.Name "zip" p2) [a, b] [] pos2) X.env)]) _ _ s
  refine Calls.spliced_cons ?_
  refine Call_ (ld_blt I hge hme b_zip (PyProof.Rows.callWith_type1 (thn (ha pos2 pins s σ H _ I h) fun us s1 ⟨vs, H1, I1, r1, q1⟩ => ?_) (by rw [hs, hs3]) (by rw [hs3]; rfl)))
  obtain ⟨ra, rb, ks, zs, e, hqa, hqb, hxy, hlen, q⟩ := q1
  subst e
  obtain ⟨u, w', rfl, e1, e2⟩ := vals2 r1
  cases (show u = Value.ref ra from e1)
  cases (show w' = Value.ref rb from e2)
  have hqa' : SqC false X.K H1 ra (ks.map V.str) := hqa
  have hqb' : SqC false X.K H1 rb zs := hqb
  obtain ⟨ia, va, pa⟩ := inv_seqC I1 hqa'
  obtain ⟨ib, vb, pb⟩ := inv_seqC I1 hqb'
  refine call_zipS pa.src pb.src fun h' hz hI hO h1 h2 hk => Calls.spliced_nil ?_
  have I2 : Inv X pins σ H1 { s1 with heap := h' } := I1.kept (t' := s1.toks) hk
  have ez : s1.heap.objs.size + 4 < h'.objs.size := Heap.lt_size hz
  have T := turn_zipN (P := X.prog) (w := X.w) (K := X.K) (nm := "x") (pt := pos) false false ra rb s1.heap.objs.size pa.lt pb.lt
  refine callType_codes (Q₁ := fun obj s₁ => obj = .ref h'.objs.size ∧ s₁ = { { s1 with heap := h' } with heap := h'.push { cls := .type "dict", data := .dict #[] } }) F.kt_called_dict (F.kt_typeCall_dict_1 _) F.entry_dict_init (kt_code_dict_new _ ⟨rfl, rfl⟩) ?_
  rintro obj s₁ ⟨rfl, rfl⟩
  have hT : (h'.push { cls := .type "dict", data := .dict #[] }).get? h'.objs.size = some { cls := .type "dict", data := .dict #[] } := Heap.get?_push_size _ rfl
  refine ⟨⟨_, hT, rfl⟩, F.args_dict_init_2 _ _, ?_⟩
  unfold Builtin.«dict.__init__»
  refine wpAny_bind ?_
  unfold Builtin.Dict.selfAndRest
  refine wpAny_bind (wpAny_notOrdered_dict ⟨_, hT, rfl⟩ (show wpAny _ _ (pure (h'.objs.size, [Value.ref (s1.heap.objs.size + 4)])) _ _ _ from wpAny_pure ?_))
  show wpAny _ _ (Builtin.Dict.updateFrom "dict.__init__" h'.objs.size (.ref (s1.heap.objs.size + 4)) [] .none) _ _ _
  unfold Builtin.Dict.updateFrom
  have hz1 := Heap.get?_push_of_some { cls := .type "dict", data := .dict #[] } hz
  refine wpAny_bind (wpAny_typeOf (T := "zip") ⟨_, hz1, rfl⟩ ?_)
  rw [if_pos (by decide)]
  refine wpAny_bind (keys_attr_zip hz1 hh fun h3 tk3 k3 => ?_)
  rw [if_pos (by rfl)]
  refine wpAny_bind (wpAny_rule ?_)
  have kk : ∀ b o, h'.get? b = some o → h3.get? b = some o := fun b o e => k3 b o (Heap.get?_push_of_some _ e)
  have I3 : Inv X pins σ H1 { s1 with heap := h3, toks := tk3 } := I2.kept (t' := tk3) kk
  have f2 : ∀ b ∈ [s1.heap.objs.size + 4, s1.heap.objs.size + 3, s1.heap.objs.size + 2, s1.heap.objs.size + 1, s1.heap.objs.size], FpOk X pins H1 b := fun b hb => by
    have hle : s1.heap.objs.size ≤ b := by
      simp only [List.mem_cons, List.mem_nil_iff, or_false] at hb
      rcases hb with rfl | rfl | rfl | rfl | rfl <;> first | exact Nat.le_add_right _ _ | exact Nat.le_refl _
    exact I1.fpOk hle (I1.hok.fresh hle)
  have fS : FpOk X pins H1 h'.objs.size := I2.fpOk (Nat.le_refl _) (I2.hok.fresh (Nat.le_refl _))
  have hsM : (h'.objs.size == sysModules) = false := by
    have := Nat.ne_of_gt (inv_big I2)
    exact beq_false_of_ne this
  have W := wk_turnE (cls := "zip") (n := ks.length) hc T f2 fS (fun b hb => by
      simp only [List.mem_cons, List.mem_nil_iff, or_false] at hb
      rcases hb with rfl | rfl | rfl | rfl | rfl <;> exact Nat.ne_of_lt (by omega)) (σ := σ) (fun i vs H' => Grow [] H1 H' ∧ vs.length = i ∧ i ≤ ks.length ∧ ∀ (j : Nat) (x : Str) (y : V), j < i → ks[j]? = some x → zs[j]? = some y → ∃ T, vs[j]? = some (.ref T) ∧ H' T = some (.tup [.str x, y])) (by
    rintro i vs H' ⟨g, hzl, hil, hall⟩
    have qa := SqC.grow g hqa'
    have qb := SqC.grow g hqb'
    by_cases hi : i < ks.length
    · refine .inl ⟨⟨ks.map V.str, zs, .str ks[i], zs[i], qa, qb, by simp, by simp⟩, hi, ?_⟩
      rintro x H2 ⟨T, v, w, hT, rfl, rfl, y1, y2⟩
      have gT := Grow.new (m := []) hT (.tup [v, w])
      refine ⟨g.trans gT, by rw [List.length_append, hzl]; rfl, hi, fun j x y hj ex ey => ?_⟩
      by_cases hji : j < i
      · obtain ⟨T', z1, z2⟩ := hall j x y hji ex ey
        exact ⟨T', by rw [List.getElem?_append_left (by omega)]; exact z1, gT.keep _ _ (by simp) z2⟩
      · have e : j = i := by omega
        subst e
        have y1' := y1 (ks.map V.str) qa
        rw [List.getElem?_map, ex] at y1'
        rw [y2 zs qb] at ey
        cases y1'; cases ey
        exact ⟨T, by rw [List.getElem?_append_right (by omega), hzl, Nat.sub_self]; rfl, upd_same⟩
    · exact .inr ⟨ks.map V.str, zs, qa, qb, .inl (by rw [List.length_map]; omega)⟩)
  have j0 : WkJ X pins σ [s1.heap.objs.size + 4, s1.heap.objs.size + 3, s1.heap.objs.size + 2, s1.heap.objs.size + 1, s1.heap.objs.size] (ZipSN false false (s1.heap.objs.size + 4) (s1.heap.objs.size + 2) (s1.heap.objs.size + 3) s1.heap.objs.size (s1.heap.objs.size + 1) ra rb) h'.objs.size (fun i vs H' => Grow [] H1 H' ∧ vs.length = i ∧ i ≤ ks.length ∧ ∀ (j : Nat) (x : Str) (y : V), j < i → ks[j]? = some x → zs[j]? = some y → ∃ T, vs[j]? = some (.ref T) ∧ H' T = some (.tup [.str x, y])) [] { s1 with heap := h3, toks := tk3 } :=
    ⟨H1, [], I3, T.keep 0 h' h3 ⟨⟨_, _, hz, .inl rfl⟩, hI, ⟨_, _, hO⟩, .mk h1, .mk h2⟩ (fun b _ o e => kk b o e), fun b hb => (f2 b hb).1, fS.1, .nil, Grow.refl _ _, rfl, Nat.zero_le _, fun j x y hj => absurd hj (Nat.not_lt_zero _)⟩
  refine wpAny_bind (W.self _ [] _ _ _ j0 ?_)
  refine wpAny_pure ⟨plainId_quiet plain_dulZ _, ?_⟩
  refine dict_loopE (A := X.A.in1) (ks := ks) (zs := zs) W (Nat.le_of_lt (small1000 hlen)) ?_ _ _ [] rfl (Nat.zero_le _) j0 ⟨[], .nil, ?_⟩ ?_
  · rintro acc v s' ⟨H', ys, J1, st, fr, hn, rv, g, hyl, hil, hall⟩ hlt
    obtain ⟨k, hk'⟩ : ∃ k, ks[acc.length]? = some k := ⟨_, List.getElem?_eq_getElem hlt⟩
    obtain ⟨y, hy⟩ : ∃ y, zs[acc.length]? = some y := ⟨_, List.getElem?_eq_getElem (by omega)⟩
    obtain ⟨t, z1, z2⟩ := hall acc.length k y (by rw [List.length_append]; exact Nat.lt_succ_self _) hk' hy
    obtain ⟨z, hz', rz⟩ := vals_getZ (i := acc.length) (u := v) rv (by rw [List.getElem?_append_right (Nat.le_refl _), Nat.sub_self]; rfl)
    rw [z1] at hz'
    obtain rfl := Option.some.inj hz'
    cases (show v = Value.ref t from rz)
    obtain ⟨_, its, rits, hit⟩ := (show ObjOk X.prog X.w H' s'.heap t (.tup [.str k, y]) from J1.hok t _ z2)
    obtain ⟨u1, uv, rfl, r1', rv'⟩ : ∃ u1 uv, its = [u1, uv] ∧ RelV (.str k) u1 ∧ RelV y uv := by
      cases rits with
      | cons a c => cases c with | cons b d => cases d; exact ⟨_, _, rfl, a, b⟩
    obtain ⟨tk, rfl⟩ := r1'
    obtain ⟨ot, hot, hct, m, hdt⟩ := hit
    exact ⟨t, k, y, uv, tk, ot, m, rfl, ne_of_none z2 hn, hot, hct, hdt, hk', hy, rv'⟩
  · exact ⟨_, #[], 0, k3 _ _ hT, ⟨rfl, rfl, rfl⟩, rfl, fun e he => by simp at he, .nil, List.nodup_nil⟩
  · rintro s' acc vs ⟨H', ys, J1, hn, rv, ⟨g, hyl, hil, hall⟩, stop⟩ hal rel dd
    have hacc : acc.length = ks.length := by
      obtain ⟨xs', ys', za, zb, hl⟩ := stop
      have ea := inv_seqC_inj J1 za (SqC.grow g hqa')
      have eb := inv_seqC_inj J1 zb (SqC.grow g hqb')
      rw [ea, eb, List.length_map] at hl
      omega
    rw [hacc, List.take_length, hxy, List.take_length] at rel
    have un : Un (frs X.stack) [h'.objs.size] H' (upd H' h'.objs.size (.dK (putsZ ks zs))) s'.heap s'.heap :=
      { keep := fun b o e _ _ _ => e
        slot := fun b o e _ _ _ => ⟨o.slots, e⟩
        free := fun b o e n hb => by rw [upd_ne (fun z => hb (by simp [z]))]; exact n
        there := fun b o e _ => ⟨o, e⟩
        tups := fun b xs e => by rw [upd_ne (ne_of_none e hn)]; exact e
        frzs := fun b o u e => by rw [upd_ne (ne_of_none e hn)]; exact e
        tbls := fun b ps e => ⟨#[], by rw [upd_ne (ne_of_none e hn), e]; simp⟩ }
    have hzz : (putsZ ks zs).length ≤ sizeLine := Nat.le_trans (putsZ_len ks zs) (Nat.le_of_lt (small1000 hlen))
    have tracked : Inv X pins σ (upd H' h'.objs.size (.dK (putsZ ks zs))) s' := J1.call' (ch := [h'.objs.size]) rfl un (HOk.track J1.hok hn ⟨hzz, hsM, vs, rel, dd⟩) J1.bare fun b hb => by
      rw [List.mem_singleton.mp hb]
      exact ⟨fS.2.2.2.1, fS.2.1, fS.2.2.2.2.1, fS.2.2.2.2.2⟩
    have gr := Grow.new (m := []) hn (.dK (putsZ ks zs))
    exact ⟨rfl, .ref h'.objs.size, _, tracked, rfl, q _ _ (g.trans gr) (g.free (by simp) hn) upd_same⟩
end
end L3

namespace L3
open PySem PySem.Spec PyProof.Rows L2 PySem.NumText
abbrev cl (x : Str) : List Nat := x.cps.toList
theorem str_ext18 {a b : Str} (h : cl a = cl b) : a = b := Str.ext' (by rw [← Array.toArray_toList (xs := a.cps), ← Array.toArray_toList (xs := b.cps)]; exact congrArg List.toArray h)
theorem cl_app (a b : Str) : cl (a ++ b) = cl a ++ cl b := by show (a.cps ++ b.cps).toList = _; rw [Array.toList_append]
theorem cl_len (a : Str) : a.length = (cl a).length := by show a.cps.size = a.cps.toList.length; rw [Array.length_toList]
def num18 (n : Int) : Str := Str.ofString (toString n)
theorem cl_num (m : Nat) : cl (num18 (m : Int)) = (Nat.toDigits 10 m).map Char.toNat := PySem.W.KIN.signs_num m
theorem cl_neg (m : Nat) : cl (num18 (Int.negSucc m)) = 45 :: (Nat.toDigits 10 (m + 1)).map Char.toNat := by
  unfold num18
  rw [show cl (Str.ofString (toString (Int.negSucc m))) = (toString (Int.negSucc m)).toList.map Char.toNat from signs_ofString _]
  show (("-" ++ Nat.repr (m + 1) : String)).toList.map Char.toNat = _
  rw [String.toList_append, List.map_append, Nat.toList_repr]
  rfl
theorem dig_range {m : Nat} : AllDigits ((Nat.toDigits 10 m).map Char.toNat) := by
  intro c hc
  obtain ⟨ch, hch, e⟩ := List.mem_map.mp hc
  have r := digit_range (Nat.isDigit_of_mem_toDigits (by decide) (by decide) hch)
  rw [← e]
  exact r
theorem dig_ne (m : Nat) : (Nat.toDigits 10 m).map Char.toNat ≠ [] := fun e => by
  have h := toDigits_len_ge 10 m
  rw [List.map_eq_nil_iff.mp e] at h
  exact absurd h (by decide)
theorem abs_neg18 (m : Nat) : (if Int.negSucc m < 0 then -Int.negSucc m else Int.negSucc m) = ((m + 1 : Nat) : Int) := by
  rw [if_pos (Int.negSucc_lt_zero m)]; rfl
theorem num_sign (n : Int) : (if n < 0 then Str.ofString "-" else Str.ofString "") ++ num18 (if n < 0 then -n else n) = num18 n := by
  cases n with
  | ofNat m =>
    have h : ¬ (Int.ofNat m < 0) := by show ¬ ((m : Int) < 0); omega
    rw [if_neg h, if_neg h]
    exact str_ext18 (by rw [cl_app]; rfl)
  | negSucc m =>
    rw [abs_neg18, if_pos (Int.negSucc_lt_zero m)]
    refine str_ext18 ?_
    rw [cl_app, cl_num, cl_neg]; rfl
theorem num_codes {n : Int} {c : Nat} (h : c ∈ cl (num18 n)) : c = 45 ∨ (48 ≤ c ∧ c ≤ 57) := by
  cases n with
  | ofNat m =>
    rw [show Int.ofNat m = (m : Int) from rfl, cl_num] at h
    exact .inr (dig_range c h)
  | negSucc m =>
    rw [cl_neg] at h
    rcases List.mem_cons.mp h with e | h
    · exact .inl e
    · exact .inr (dig_range c h)
theorem num_blank {n : Int} : 32 ∉ cl (num18 n) := fun h => by
  rcases num_codes h with e | ⟨a, _⟩
  · cases e
  · exact absurd a (by decide)
theorem num_first (m : Nat) : ∃ c r, cl (num18 m) = c :: r ∧ 48 ≤ c ∧ c ≤ 57 := by
  have h1 := dig_ne m
  have h2 := @dig_range m
  rw [cl_num]
  match (Nat.toDigits 10 m).map Char.toNat, h1, h2 with
  | [], h1, _ => exact absurd rfl h1
  | c :: r, _, h2 => exact ⟨c, r, rfl, h2 c (List.mem_cons_self ..)⟩
theorem num_strip (n : Int) : Txt.removeprefix (num18 n) (Str.ofString "-") = num18 (if n < 0 then -n else n) := by
  rw [StrLaws.removeprefix_eq]
  cases n with
  | ofNat m =>
    have h : ¬ (Int.ofNat m < 0) := by show ¬ ((m : Int) < 0); omega
    rw [if_neg h, if_neg]
    intro z
    rw [Bool.and_eq_true, StrLaws.subAt_eq] at z
    obtain ⟨c, r, e, c1, c2⟩ := num_first m
    have z2 := z.2
    rw [show (num18 (Int.ofNat m)).cps.toList = c :: r from e] at z2
    have z3 : [c] = [45] := eq_of_beq z2
    have := (List.cons.inj z3).1
    omega
  | negSucc m =>
    rw [abs_neg18]
    have hl : (num18 (Int.negSucc m)).length = (num18 ((m + 1 : Nat) : Int)).length + 1 := by
      rw [cl_len, cl_len, cl_neg, cl_num]; rfl
    rw [if_pos]
    · refine str_ext18 ?_
      rw [cl_num]
      show (List.take ((num18 (Int.negSucc m)).length - 1) (List.drop 1 (cl (num18 (Int.negSucc m))))).toArray.toList = _
      rw [List.toList_toArray, cl_neg, List.drop_one, List.tail_cons, List.take_of_length_le]
      rw [cl_len, cl_neg]; simp
    · rw [Bool.and_eq_true, StrLaws.subAt_eq]
      refine ⟨decide_eq_true ?_, ?_⟩
      · rw [show (Str.ofString "-").length = 1 from by decide, hl]; omega
      · rw [show (num18 (Int.negSucc m)).cps.toList = _ from cl_neg m]; rfl
theorem num_ascii (m : Nat) : Txt.isascii (num18 m) = true := by
  unfold Txt.isascii
  rw [← Array.all_toList, List.all_eq_true]
  intro c hc
  have := (dig_range c (by rw [← cl_num]; exact hc)).2
  exact decide_eq_true (by omega)
theorem num_digit (m : Nat) : Txt.isdigit (num18 m) = true := by
  unfold Txt.isdigit
  rw [Bool.and_eq_true, ← Array.all_toList, List.all_eq_true]
  constructor
  · refine decide_eq_true ?_
    rw [cl_len, cl_num]
    exact List.length_pos_iff.mpr (dig_ne m)
  · intro c hc
    have h := dig_range c (by rw [← cl_num]; exact hc)
    have : ∀ d, d < 10 → Unicode.isDigit (48 + d) = true := by decide +kernel
    have e := this (c - 48) (by omega)
    rwa [show 48 + (c - 48) = c by omega] at e
theorem num_len {m : Nat} (h : m < 10 ^ 62) : (num18 m).length ≤ 62 := by
  rw [cl_len, cl_num, List.length_map]
  have go : ∀ (k m : Nat), 0 < k → m < 10 ^ k → (Nat.toDigits 10 m).length ≤ k := by
    intro k
    induction k with
    | zero => intro m h; omega
    | succ k ih =>
      intro m _ hm
      by_cases h10 : m < 10
      · rw [Nat.toDigits_of_lt_base h10]; simp
      · have hk : 0 < k := by
          rcases Nat.eq_zero_or_pos k with e | e
          · subst e; omega
          · exact e
        have hm' : m / 10 < 10 ^ k := by
          rw [Nat.div_lt_iff_lt_mul (by decide)]
          rw [Nat.pow_succ] at hm; omega
        have t : Nat.toDigits 10 (m / 10) ++ Nat.toDigits 10 (m % 10) = Nat.toDigits 10 (10 * (m / 10) + m % 10) := Nat.toDigits_append_toDigits (by decide) (by omega) (Nat.mod_lt m (by decide))
        rw [Nat.div_add_mod] at t
        rw [← t, List.length_append, Nat.toDigits_of_lt_base (Nat.mod_lt m (by decide))]
        have := ih (m / 10) hk hm'
        simp only [List.length_cons, List.length_nil]
        omega
  exact go 62 m (by decide) h
theorem num_head {m : Nat} (h : 0 < m) : ∃ c r, cl (num18 m) = c :: r ∧ c ≠ 48 := by
  rw [cl_num]
  induction m using Nat.strongRecOn with
  | _ m ih =>
    by_cases h10 : m < 10
    · rw [Nat.toDigits_of_lt_base h10]
      exact ⟨_, [], rfl, (by decide : ∀ m, m < 10 → 0 < m → (Nat.digitChar m).toNat ≠ 48) m h10 h⟩
    · have t : Nat.toDigits 10 (m / 10) ++ Nat.toDigits 10 (m % 10) = Nat.toDigits 10 (10 * (m / 10) + m % 10) := Nat.toDigits_append_toDigits (by decide) (by omega) (Nat.mod_lt m (by decide))
      rw [Nat.div_add_mod] at t
      obtain ⟨c, r, e, hc⟩ := ih (m / 10) (by omega) (by omega)
      rw [← t, List.map_append, e]
      exact ⟨c, _, rfl, hc⟩
theorem num_back {m : Nat} (h : m < 10 ^ 62) : intText? (Str.ofString "0" ++ num18 m) = some (m : Int) := by
  have e0 : cl (Str.ofString "0" ++ num18 m) = 48 :: (Nat.toDigits 10 m).map Char.toNat := by rw [cl_app, cl_num]; rfl
  have hl := num_len h
  have e := intText_digits (x := Str.ofString "0" ++ num18 m) (by
    intro c hc
    rw [show (Str.ofString "0" ++ num18 m).cps.toList = _ from e0] at hc
    rcases List.mem_cons.mp hc with e | hc
    · rw [e]; decide
    · exact dig_range c hc) (by rw [show (Str.ofString "0" ++ num18 m).cps.toList = _ from e0]; simp) (by rw [Str.length_append, show (Str.ofString "0").length = 1 from by decide]; omega)
  rw [e, show (Str.ofString "0" ++ num18 m).cps.toList = _ from e0]
  have : digitsVal (48 :: (Nat.toDigits 10 m).map Char.toNat) = digitsVal ((Nat.toDigits 10 m).map Char.toNat) := rfl
  rw [this, PySem.W.KIN.val_back]
def joinL : List (List Nat) → List Nat
  | [] => []
  | [x] => x
  | x :: y :: r => x ++ 32 :: joinL (y :: r)
theorem cl_join : ∀ ws : List Str, cl (Str.join (Str.ofString " ") ws) = joinL (ws.map cl)
  | [] => rfl
  | [x] => rfl
  | x :: y :: r => by
    show cl (x ++ Str.ofString " " ++ Str.join (Str.ofString " ") (y :: r)) = cl x ++ 32 :: joinL ((y :: r).map cl)
    rw [cl_app, cl_app, cl_join (y :: r), List.append_assoc]
    rfl
theorem cut_inj : ∀ {x y t u : List Nat}, 32 ∉ x → 32 ∉ y → (t = [] ∨ ∃ r, t = 32 :: r) → (u = [] ∨ ∃ r, u = 32 :: r) → x ++ t = y ++ u → x = y ∧ t = u
  | [], [], t, u, _, _, _, _, e => ⟨rfl, e⟩
  | [], b :: y, t, u, _, hy, ht, _, e => by
    rcases ht with rfl | ⟨r, rfl⟩
    · cases e
    · have := (List.cons.inj e).1
      exact absurd (List.mem_cons_self ..) (this ▸ hy)
  | a :: x, [], t, u, hx, _, _, hu, e => by
    rcases hu with rfl | ⟨r, rfl⟩
    · cases e
    · have := (List.cons.inj e).1
      exact absurd (List.mem_cons_self ..) (this ▸ hx)
  | a :: x, b :: y, t, u, hx, hy, ht, hu, e => by
    have e1 := (List.cons.inj e).1
    have e2 := (List.cons.inj e).2
    obtain ⟨h1, h2⟩ := cut_inj (fun z => hx (List.mem_cons_of_mem _ z)) (fun z => hy (List.mem_cons_of_mem _ z)) ht hu e2
    exact ⟨by rw [e1, h1], h2⟩
def tailL : List (List Nat) → List Nat
  | [] => []
  | y :: r => 32 :: joinL (y :: r)
theorem joinL_cons (x : List Nat) : ∀ r, joinL (x :: r) = x ++ tailL r
  | [] => (List.append_nil x).symm
  | _ :: _ => rfl
theorem tailL_is : ∀ r, tailL r = [] ∨ ∃ q, tailL r = 32 :: q
  | [] => .inl rfl
  | _ :: _ => .inr ⟨_, rfl⟩
theorem joinL_inj : ∀ {a b : List (List Nat)}, a ≠ [] → b ≠ [] → (∀ x ∈ a, 32 ∉ x) → (∀ x ∈ b, 32 ∉ x) → joinL a = joinL b → a = b
  | [], _, h, _, _, _, _ => absurd rfl h
  | _, [], _, h, _, _, _ => absurd rfl h
  | x :: a, y :: b, _, _, ha, hb, e => by
    rw [joinL_cons, joinL_cons] at e
    obtain ⟨e1, e2⟩ := cut_inj (ha x (List.mem_cons_self ..)) (hb y (List.mem_cons_self ..)) (tailL_is a) (tailL_is b) e
    match a, b, e2, ha, hb with
    | [], [], _, _, _ => rw [e1]
    | [], _ :: _, e2, _, _ => cases e2
    | _ :: _, [], e2, _, _ => cases e2
    | p :: a, q :: b, e2, ha, hb =>
      have e3 := (List.cons.inj e2).2
      rw [e1, joinL_inj (a := p :: a) (b := q :: b) (by simp) (by simp) (fun z hz => ha z (List.mem_cons_of_mem _ hz)) (fun z hz => hb z (List.mem_cons_of_mem _ hz)) e3]
theorem map_cl_inj : ∀ {a b : List Str}, a.map cl = b.map cl → a = b
  | [], [], _ => rfl
  | [], _ :: _, h => by cases h
  | _ :: _, [], h => by cases h
  | x :: a, y :: b, h => by
    rw [List.map_cons, List.map_cons] at h
    injection h with h1 h2
    rw [str_ext18 h1, map_cl_inj h2]
theorem blank18 : Str.ofString " " = ⟨#[32]⟩ := by decide
theorem split_join18 {ws : List Str} (h0 : ws ≠ []) (h : ∀ w ∈ ws, 32 ∉ cl w) : Txt.split (Str.join (Str.ofString " ") ws) (Str.ofString " ") = ws := by
  have e := StrLaws.join_split (Str.join (Str.ofString " ") ws) (Str.ofString " ")
  have e1 := congrArg cl e
  rw [cl_join, cl_join] at e1
  refine map_cl_inj (joinL_inj ?_ (by simpa using h0) ?_ ?_ e1)
  · intro z
    have := split_pos (Str.join (Str.ofString " ") ws) (Str.ofString " ")
    rw [List.map_eq_nil_iff.mp z] at this
    exact absurd this (by decide)
  · intro x hx
    obtain ⟨p, hp, rfl⟩ := List.mem_map.mp hx
    rw [blank18] at hp
    exact StrLaws.split_free _ 32 p hp
  · intro x hx
    obtain ⟨p, hp, rfl⟩ := List.mem_map.mp hx
    exact h p hp
abbrev S18 (s : String) : Str := Str.ofString s
def prs18 (d : Deed) : List (Str × Int) :=
  if d.lo ≠ none ∧ d.lo = d.hi then [(S18 "set", d.lo.getD 0)] else
  (if d.add = 0 then [] else [(S18 "add", d.add)]) ++ (d.lo.toList.map fun l => (S18 "low", l)) ++ d.hi.toList.map fun u => (S18 "high", u)
def part18 (p : Str × Int) : Str := p.1 ++ S18 " " ++ num18 p.2
def wds18 (ps : List (Str × Int)) : List Str := ps.flatMap fun p => [p.1, num18 p.2]
def txt18 (d : Deed) : Str := if (prs18 d).isEmpty then S18 "look" else Str.join (S18 " ") ((prs18 d).map part18)
theorem wds_join : ∀ ps : List (Str × Int), joinL ((ps.map part18).map cl) = joinL ((wds18 ps).map cl)
  | [] => rfl
  | [p] => by
    show cl (p.1 ++ S18 " " ++ num18 p.2) = cl p.1 ++ 32 :: cl (num18 p.2)
    rw [cl_app, cl_app, List.append_assoc]; rfl
  | p :: q :: r => by
    show cl (p.1 ++ S18 " " ++ num18 p.2) ++ 32 :: joinL (((q :: r).map part18).map cl) = cl p.1 ++ 32 :: (cl (num18 p.2) ++ 32 :: joinL ((wds18 (q :: r)).map cl))
    rw [cl_app, cl_app, wds_join (q :: r), List.append_assoc, List.append_assoc]
    rfl
theorem wds_text (ps : List (Str × Int)) : Str.join (S18 " ") (ps.map part18) = Str.join (S18 " ") (wds18 ps) := str_ext18 (by rw [cl_join, cl_join, wds_join])
theorem prs_keys {d : Deed} {p : Str × Int} (h : p ∈ prs18 d) : p.1 ∈ [S18 "set", S18 "add", S18 "low", S18 "high"] := by
  unfold prs18 at h
  split at h
  · rw [List.mem_singleton.mp h]; simp
  · rcases List.mem_append.mp h with h | h
    · rcases List.mem_append.mp h with h | h
      · split at h
        · cases h
        · rw [List.mem_singleton.mp h]; simp
      · obtain ⟨_, _, rfl⟩ := List.mem_map.mp h; simp
    · obtain ⟨_, _, rfl⟩ := List.mem_map.mp h; simp
theorem wds_free {d : Deed} : ∀ w ∈ wds18 (prs18 d), 32 ∉ cl w := by
  intro w hw
  obtain ⟨p, hp, hw⟩ := List.mem_flatMap.mp hw
  have hk := prs_keys hp
  rcases List.mem_cons.mp hw with rfl | hw
  · have : ∀ k ∈ [S18 "set", S18 "add", S18 "low", S18 "high"], 32 ∉ cl k := by decide
    exact this _ hk
  · rw [List.mem_singleton.mp hw]; exact num_blank
theorem txt_split {d : Deed} (h : (prs18 d).isEmpty = false) : Txt.split (txt18 d) (S18 " ") = wds18 (prs18 d) := by
  unfold txt18
  rw [h, if_neg (by decide), wds_text]
  refine split_join18 ?_ wds_free
  cases hp : prs18 d with
  | nil => rw [hp] at h; cases h
  | cons p r => intro z; cases z
end L3

namespace L3
open PySem PySem.Spec PyProof.Rows L2 PySem.NumText
def sp_written (_ : PySem.W.Frag) : Sp := sp1 fun x H Q => ∃ n : Int, x = .int n ∧ -(10 ^ 61) ≤ n ∧ n ≤ 10 ^ 61 ∧ ∀ H', Grow [] H H' → Q (.str (num18 n)) H'
def sp_dtext (K : PySem.W.Frag) : Sp := sp1 fun x H Q => ∃ d, DeedAt K H x d ∧ d.Ok ∧ d.Bd (10 ^ 61) ∧ ∀ H', Grow [] H H' → Q (.str (txt18 d)) H'
theorem lg18 {n : Int} (h : n.natAbs < 10 ^ 62) : n.natAbs.log2 < 1920 := by
  by_cases h0 : n.natAbs = 0
  · rw [h0]; decide
  · exact (Nat.log2_lt h0).mpr (Nat.lt_trans h (by decide))
theorem abs18 {n : Int} (n0 : -(10 ^ 61) ≤ n) (n1 : n ≤ 10 ^ 61) : ∃ k : Nat, (if n < 0 then -n else n) = (k : Int) ∧ k < 10 ^ 62 := by
  refine ⟨n.natAbs, ?_, ?_⟩
  · split <;> omega
  · omega
theorem len18 {n : Int} (n0 : -(10 ^ 61) ≤ n) (n1 : n ≤ 10 ^ 61) : (num18 n).length ≤ 63 := by
  obtain ⟨k, hk, hk1⟩ := abs18 n0 n1
  have := num_len hk1
  rw [← num_sign n, hk, Str.length_append]
  have h1 : (if n < 0 then Str.ofString "-" else Str.ofString "").length ≤ 1 := by split <;> decide
  omega
theorem joinOk18 {sep : Str} {ts : List Str} (hs : sep.length ≤ 1) (h : ∀ y ∈ ts, y.length ≤ 1000) (hl : ts.length ≤ 10) : JoinOk sep ts = true := by
  unfold JoinOk
  rw [StrLaws.joinFits (B := 1000) h]
  · rfl
  · have : ts.length * 1000 ≤ 10 * 1000 := Nat.mul_le_mul_right _ hl
    have h2 : ts.length * sep.length ≤ 10 * 1 := Nat.mul_le_mul hl hs
    omega
theorem slice_all18 (x : Str) : Txt.slice x none (some (x.length : Int)) = x := by
  unfold Txt.slice
  rw [if_pos]
  rw [Bool.and_eq_true]
  refine ⟨rfl, ?_⟩
  rw [StrLaws.sliceIdx_none_lo]
  have h := StrLaws.strSliceIndices_plain (a := 0) (b := x.length) (len := x.length) (Nat.zero_le _) (Nat.le_refl _)
  rw [show ((0 : Nat) : Int) = 0 from rfl] at h
  rw [h, List.length_map, List.length_range, Nat.sub_zero]
  exact beq_self_eq_true _
theorem word_first (n : Int) : ∃ c, atI (num18 n).cps.toList 0 = some c ∧ (c = 45 ↔ n < 0) := by
  cases n with
  | ofNat m =>
    obtain ⟨c, r, e, c1, c2⟩ := num_first m
    refine ⟨c, by rw [show (num18 (Int.ofNat m)).cps.toList = c :: r from e]; exact atI_nat (j := 0) rfl, fun z => by omega, fun z => ?_⟩
    have : ¬ ((m : Int) < 0) := by omega
    exact absurd z this
  | negSucc m => exact ⟨45, by rw [show (num18 (Int.negSucc m)).cps.toList = _ from cl_neg m]; exact atI_nat (j := 0) rfl, fun _ => Int.negSucc_lt_zero m, fun _ => rfl⟩
theorem fig_first (k : Nat) : ∃ c, atI (num18 k).cps.toList 0 = some c ∧ (c = 48 → k = 0) := by
  obtain ⟨c, r, e, c1, c2⟩ := num_first k
  refine ⟨c, by rw [show (num18 k).cps.toList = c :: r from e]; exact atI_nat (j := 0) rfl, fun z => ?_⟩
  rcases Nat.eq_zero_or_pos k with e0 | e0
  · exact e0
  · obtain ⟨c', r', e', ne⟩ := num_head e0
    rw [e] at e'
    exact absurd ((List.cons.inj e').1 ▸ z) ne
theorem one_str {c : Nat} {z : Str} {b : Nat} (hz : z = ⟨#[b]⟩) : decide (V.str ⟨#[c]⟩ = V.str z) = decide (c = b) := by
  subst hz
  rw [Bool.eq_iff_iff, decide_eq_true_eq, decide_eq_true_eq]
  constructor
  · intro h; injection h with h; injection h with h; simpa using h
  · intro h; rw [h]
theorem Room.u118 {k : Nat} {A : Around} (r : Room k A) : A.units + 1 < cLine := by have := r.un; omega
def p1_18 (d : Deed) : List (Str × Int) := if d.add = 0 then [] else [(S18 "add", d.add)]
def p2_18 (d : Deed) : List (Str × Int) := p1_18 d ++ d.lo.toList.map fun l => (S18 "low", l)
def p3_18 (d : Deed) : List (Str × Int) := p2_18 d ++ d.hi.toList.map fun u => (S18 "high", u)
theorem prs_not {d : Deed} (h : ¬ (d.lo ≠ none ∧ d.lo = d.hi)) : prs18 d = p3_18 d := if_neg h
theorem txt_set {d : Deed} (h : d.lo ≠ none ∧ d.lo = d.hi) : txt18 d = S18 "set " ++ num18 (d.lo.getD 0) := by
  unfold txt18
  have e : prs18 d = [(S18 "set", d.lo.getD 0)] := if_pos h
  rw [e]
  show S18 "set" ++ S18 " " ++ num18 _ = _
  rw [show S18 "set" ++ S18 " " = S18 "set " from by decide]
theorem txt_look : txt18 ⟨0, none, none⟩ = S18 "look" := rfl
theorem p3_nil {d : Deed} (h : d ≠ ⟨0, none, none⟩) : (p3_18 d).isEmpty = false := by
  obtain ⟨ad, lo, hi⟩ := d
  unfold p3_18 p2_18 p1_18
  by_cases ha : ad = 0
  · cases lo with
    | some l => simp [ha]
    | none =>
      cases hi with
      | some u => simp [ha]
      | none => exact absurd (by rw [ha]) h
  · simp [ha]
theorem txt_not {d : Deed} (h : ¬ (d.lo ≠ none ∧ d.lo = d.hi)) (hl : d ≠ ⟨0, none, none⟩) : txt18 d = Str.join (S18 " ") ((p3_18 d).map part18) := by
  unfold txt18
  rw [prs_not h, p3_nil hl, if_neg (by decide)]
theorem p3_len (d : Deed) : (p3_18 d).length ≤ 3 := by
  unfold p3_18 p2_18 p1_18
  rw [List.length_append, List.length_append, List.length_map, List.length_map]
  have h1 : (if d.add = 0 then [] else [(S18 "add", d.add)] : List (Str × Int)).length ≤ 1 := by split <;> simp
  have h2 : d.lo.toList.length ≤ 1 := by cases d.lo <;> simp
  have h3 : d.hi.toList.length ≤ 1 := by cases d.hi <;> simp
  omega
theorem p3_bd {d : Deed} (b : d.Bd (10 ^ 61)) {p : Str × Int} (h : p ∈ p3_18 d) : p.1.length ≤ 4 ∧ -(10 ^ 61) ≤ p.2 ∧ p.2 ≤ 10 ^ 61 := by
  unfold p3_18 p2_18 p1_18 at h
  rcases List.mem_append.mp h with h | h
  · rcases List.mem_append.mp h with h | h
    · split at h
      · cases h
      · rw [List.mem_singleton.mp h]; exact ⟨show (S18 "add").length ≤ 4 by decide, b.1⟩
    · obtain ⟨l, hl, rfl⟩ := List.mem_map.mp h
      exact ⟨show (S18 "low").length ≤ 4 by decide, b.2.1 l (by cases hlo : d.lo with | none => rw [hlo] at hl; cases hl | some z => rw [hlo] at hl; rw [List.mem_singleton.mp hl])⟩
  · obtain ⟨l, hl, rfl⟩ := List.mem_map.mp h
    exact ⟨show (S18 "high").length ≤ 4 by decide, b.2.2 l (by cases hlo : d.hi with | none => rw [hlo] at hl; cases hl | some z => rw [hlo] at hl; rw [List.mem_singleton.mp hl])⟩
theorem part_len {p : Str × Int} (h : p.1.length ≤ 4 ∧ -(10 ^ 61) ≤ p.2 ∧ p.2 ≤ 10 ^ 61) : (part18 p).length ≤ 1000 := by
  unfold part18
  rw [Str.length_append, Str.length_append]
  have := len18 h.2.1 h.2.2
  have e : (S18 " ").length = 1 := by decide
  omega
theorem p3_join {d : Deed} (b : d.Bd (10 ^ 61)) : JoinOk (S18 " ") ((p3_18 d).map part18) = true := by
  refine joinOk18 (by decide) (fun y hy => ?_) (by rw [List.length_map]; have := p3_len d; omega)
  obtain ⟨p, hp, rfl⟩ := List.mem_map.mp hy
  exact part_len (p3_bd b hp)
theorem part_add (l : Int) : Str.ofString "add " ++ num18 l = part18 (S18 "add", l) := congrArg (· ++ num18 l) (show Str.ofString "add " = S18 "add" ++ S18 " " by decide)
theorem part_low (l : Int) : Str.ofString "low " ++ num18 l = part18 (S18 "low", l) := congrArg (· ++ num18 l) (show Str.ofString "low " = S18 "low" ++ S18 " " by decide)
theorem part_high (l : Int) : Str.ofString "high " ++ num18 l = part18 (S18 "high", l) := congrArg (· ++ num18 l) (show Str.ofString "high " = S18 "high" ++ S18 " " by decide)
theorem add_len18 {z : Str} {n : Int} (hz : z.length ≤ 5) (n0 : -(10 ^ 61) ≤ n) (n1 : n ≤ 10 ^ 61) : z.length + (num18 n).length ≤ sizeLine := by
  have := len18 n0 n1
  exact Nat.le_of_lt (small1000 (by omega))
theorem pick1_18 : ∀ {ps : List (Str × Int)}, ps.length ≤ 3 → pickV (evIx 1 ((wds18 ps).map V.str).length) ((wds18 ps).map V.str) = ps.map fun p => V.str (num18 p.2)
  | [], _ => rfl
  | [a], _ => by
    show pickV (evIx 1 2) [V.str a.1, V.str (num18 a.2)] = _
    rw [show evIx 1 2 = [1] from by decide]; rfl
  | [a, b], _ => by
    show pickV (evIx 1 4) [V.str a.1, V.str (num18 a.2), V.str b.1, V.str (num18 b.2)] = _
    rw [show evIx 1 4 = [1, 3] from by decide]; rfl
  | [a, b, c], _ => by
    show pickV (evIx 1 6) [V.str a.1, V.str (num18 a.2), V.str b.1, V.str (num18 b.2), V.str c.1, V.str (num18 c.2)] = _
    rw [show evIx 1 6 = [1, 3, 5] from by decide]; rfl
  | _ :: _ :: _ :: _ :: _, h => by simp only [List.length_cons] at h; omega
theorem pick0_18 : ∀ {ps : List (Str × Int)}, ps.length ≤ 3 → pickV (evIx 0 ((wds18 ps).map V.str).length) ((wds18 ps).map V.str) = (ps.map (·.1)).map V.str
  | [], _ => rfl
  | [a], _ => by
    show pickV (evIx 0 2) [V.str a.1, V.str (num18 a.2)] = _
    rw [show evIx 0 2 = [0] from by decide]; rfl
  | [a, b], _ => by
    show pickV (evIx 0 4) [V.str a.1, V.str (num18 a.2), V.str b.1, V.str (num18 b.2)] = _
    rw [show evIx 0 4 = [0, 2] from by decide]; rfl
  | [a, b, c], _ => by
    show pickV (evIx 0 6) [V.str a.1, V.str (num18 a.2), V.str b.1, V.str (num18 b.2), V.str c.1, V.str (num18 c.2)] = _
    rw [show evIx 0 6 = [0, 2, 4] from by decide]; rfl
  | _ :: _ :: _ :: _ :: _, h => by simp only [List.length_cons] at h; omega
theorem wds_len : ∀ ps : List (Str × Int), (wds18 ps).length = 2 * ps.length
  | [] => rfl
  | p :: ps => by
    show (p.1 :: num18 p.2 :: wds18 ps).length = 2 * (ps.length + 1)
    rw [List.length_cons, List.length_cons, wds_len ps]; omega
theorem prs_len (d : Deed) : (prs18 d).length ≤ 3 := by
  by_cases hs : d.lo ≠ none ∧ d.lo = d.hi
  · have e : prs18 d = [(S18 "set", d.lo.getD 0)] := if_pos hs
    rw [e]; simp
  · rw [prs_not hs]; exact p3_len d
theorem val_nil18 (k : Key) : valV ([] : List (Key × V)) k = none := rfl
theorem kne18 {a b : Str} (h : a ≠ b) : (Sum.inr a : Key) ≠ Sum.inr b := fun z => h (Sum.inr.inj z)
theorem get18 (ad : Int) (lo hi : Option Int) (k : Key) : valV (putsZ ((p3_18 ⟨ad, lo, hi⟩).map (·.1)) ((p3_18 ⟨ad, lo, hi⟩).map fun p => V.int p.2)) k =
    if k = Sum.inr (S18 "high") ∧ hi ≠ none then hi.map V.int else if k = Sum.inr (S18 "low") ∧ lo ≠ none then lo.map V.int else if k = Sum.inr (S18 "add") ∧ ad ≠ 0 then some (.int ad) else none := by
  unfold p3_18 p2_18 p1_18
  by_cases ha : ad = 0
  · rw [if_pos ha]
    cases lo with
    | none =>
      cases hi with
      | none => simp [putsZ, ha, val_nil18]
      | some u =>
        show valV (putK [] (Sum.inr (S18 "high")) (V.int u)) k = _
        rw [valV_put, val_nil18]; simp [ha]
    | some l =>
      cases hi with
      | none =>
        show valV (putK [] (Sum.inr (S18 "low")) (V.int l)) k = _
        rw [valV_put, val_nil18]; simp [ha]
      | some u =>
        show valV (putK (putK [] (Sum.inr (S18 "low")) (V.int l)) (Sum.inr (S18 "high")) (V.int u)) k = _
        rw [valV_put, valV_put, val_nil18]; simp [ha]
  · rw [if_neg ha]
    cases lo with
    | none =>
      cases hi with
      | none =>
        show valV (putK [] (Sum.inr (S18 "add")) (V.int ad)) k = _
        rw [valV_put, val_nil18]; simp [ha]
      | some u =>
        show valV (putK (putK [] (Sum.inr (S18 "add")) (V.int ad)) (Sum.inr (S18 "high")) (V.int u)) k = _
        rw [valV_put, valV_put, val_nil18]; simp [ha]
    | some l =>
      cases hi with
      | none =>
        show valV (putK (putK [] (Sum.inr (S18 "add")) (V.int ad)) (Sum.inr (S18 "low")) (V.int l)) k = _
        rw [valV_put, valV_put, val_nil18]; simp [ha]
      | some u =>
        show valV (putK (putK (putK [] (Sum.inr (S18 "add")) (V.int ad)) (Sum.inr (S18 "low")) (V.int l)) (Sum.inr (S18 "high")) (V.int u)) k = _
        rw [valV_put, valV_put, valV_put, val_nil18]; simp [ha]
theorem get_add (ad : Int) (lo hi : Option Int) : (valV (putsZ ((p3_18 ⟨ad, lo, hi⟩).map (·.1)) ((p3_18 ⟨ad, lo, hi⟩).map fun p => V.int p.2)) (Sum.inr (S18 "add"))).getD (.int 0) = .int ad := by
  rw [get18, if_neg (fun z => kne18 (by decide) z.1), if_neg (fun z => kne18 (by decide) z.1)]
  by_cases ha : ad = 0
  · rw [if_neg (fun z => z.2 ha), ha]; rfl
  · rw [if_pos ⟨rfl, ha⟩]; rfl
theorem get_low (ad : Int) (lo hi : Option Int) : (valV (putsZ ((p3_18 ⟨ad, lo, hi⟩).map (·.1)) ((p3_18 ⟨ad, lo, hi⟩).map fun p => V.int p.2)) (Sum.inr (S18 "low"))).getD .non = ov lo := by
  rw [get18, if_neg (fun z => kne18 (by decide) z.1)]
  cases lo with
  | none => rw [if_neg (fun z => z.2 rfl), if_neg (fun z => kne18 (by decide) z.1)]; rfl
  | some l => rw [if_pos ⟨rfl, by simp⟩]; rfl
theorem get_high (ad : Int) (lo hi : Option Int) : (valV (putsZ ((p3_18 ⟨ad, lo, hi⟩).map (·.1)) ((p3_18 ⟨ad, lo, hi⟩).map fun p => V.int p.2)) (Sum.inr (S18 "high"))).getD .non = ov hi := by
  rw [get18]
  cases hi with
  | none => rw [if_neg (fun z => z.2 rfl), if_neg (fun z => kne18 (by decide) z.1), if_neg (fun z => kne18 (by decide) z.1)]; rfl
  | some l => rw [if_pos ⟨rfl, by simp⟩]; rfl
theorem first_not_set {d : Deed} (h : (p3_18 d).isEmpty = false) : ∃ p r, p3_18 d = p :: r ∧ decide (V.str p.1 = V.str (Str.ofString "set")) = false := by
  have hk : ∀ p ∈ p3_18 d, p.1 ∈ [S18 "add", S18 "low", S18 "high"] := by
    intro p h
    unfold p3_18 p2_18 p1_18 at h
    rcases List.mem_append.mp h with h | h
    · rcases List.mem_append.mp h with h | h
      · split at h
        · cases h
        · rw [List.mem_singleton.mp h]; simp
      · obtain ⟨_, _, rfl⟩ := List.mem_map.mp h; simp
    · obtain ⟨_, _, rfl⟩ := List.mem_map.mp h; simp
  cases hp : p3_18 d with
  | nil => rw [hp] at h; cases h
  | cons p r =>
    refine ⟨p, r, rfl, decide_eq_false fun z => ?_⟩
    have h1 := hk p (by rw [hp]; exact List.mem_cons_self ..)
    have z' : p.1 = Str.ofString "set" := V.str.inj z
    rw [z'] at h1
    exact absurd h1 (by decide)
theorem look_split {d : Deed} (h : (prs18 d).isEmpty = false) : txt18 d ≠ S18 "look" := by
  intro z
  have e := txt_split h
  rw [z] at e
  have e2 := split_join18 (ws := [S18 "look"]) (by simp) (by intro w hw; rw [List.mem_singleton.mp hw]; decide)
  rw [show Str.join (Str.ofString " ") [S18 "look"] = S18 "look" from rfl] at e2
  have e3 : [S18 "look"] = wds18 (prs18 d) := e2.symm.trans e
  have := congrArg List.length e3
  rw [wds_len] at this
  simp only [List.length_cons, List.length_nil] at this
  omega
theorem prs_look {d : Deed} (h : (prs18 d).isEmpty = true) : d = ⟨0, none, none⟩ := by
  by_cases hs : d.lo ≠ none ∧ d.lo = d.hi
  · have e : prs18 d = [(S18 "set", d.lo.getD 0)] := if_pos hs
    rw [e] at h; cases h
  · rw [prs_not hs] at h
    by_cases hl : d = ⟨0, none, none⟩
    · exact hl
    · rw [p3_nil hl] at h; cases h
theorem od_ov18 {K : PySem.W.Frag} {H : Hp} : ∀ {o : Option Int}, Od K [] H (ov o) (oD o)
  | none => .non
  | some _ => .int _
theorem od_deed18 {K : PySem.W.Frag} {H : Hp} {x : V} {d : Deed} (h : DeedAt K H x d) : Od K [] H x (deedD d) := by
  obtain ⟨a, rfl, hs⟩ := h
  exact .tup hs (.cons (.int _) (.cons od_ov18 (.cons od_ov18 .nil)))
theorem show_deed18 {d : Deed} (b : d.Bd (10 ^ 61)) : (deedD d).showable = true ∧ (deedD d).depth ≤ 60 ∧ (deedD d).shown.length ≤ sizeLine := by
  obtain ⟨h1, _, _, h4⟩ := b.sh (n := 0) (by decide)
  refine ⟨h1, Nat.le_trans h4 (by decide), Nat.le_trans (shown_le h1) ?_⟩
  obtain ⟨ad, lo, hi⟩ := d
  have : wtO (deedD ⟨ad, lo, hi⟩) ≤ 6000 := by cases lo <;> cases hi <;> simp [deedD, oD, wtO, wtOs]
  rw [sizeLine_eq]; omega
theorem num_inj18 {n m : Int} (h : num18 n = num18 m) : n = m := by
  have e1 : num18 (if n < 0 then -n else n) = num18 (if m < 0 then -m else m) := by rw [← num_strip, ← num_strip, h]
  have key : ∀ a b : Nat, num18 a = num18 b → a = b := fun a b z => by
    have := congrArg (fun x => digitsVal (cl x)) z
    simp only [cl_num, PySem.W.KIN.val_back] at this
    exact this
  obtain ⟨c, hc, c45⟩ := word_first n
  obtain ⟨c', hc', c45'⟩ := word_first m
  rw [h, hc'] at hc
  have ec : c' = c := Option.some.inj hc
  rw [ec] at c45'
  have hs : n < 0 ↔ m < 0 := c45.symm.trans c45'
  by_cases hn : n < 0
  · have hm := hs.mp hn
    rw [if_pos hn, if_pos hm, show -n = ((-n).toNat : Int) by omega, show -m = ((-m).toNat : Int) by omega] at e1
    have := key _ _ e1
    omega
  · have hm : ¬ m < 0 := fun z => hn (hs.mpr z)
    rw [if_neg hn, if_neg hm, show n = (n.toNat : Int) by omega, show m = (m.toNat : Int) by omega] at e1
    have := key _ _ e1
    omega
theorem mem_joinL {c : Nat} : ∀ {ls : List (List Nat)}, c ∈ joinL ls → c = 32 ∨ ∃ l ∈ ls, c ∈ l
  | [], h => by cases h
  | [x], h => .inr ⟨x, List.mem_cons_self .., h⟩
  | x :: y :: r, h => by
    rcases List.mem_append.mp (show c ∈ x ++ 32 :: joinL (y :: r) from h) with h | h
    · exact .inr ⟨x, List.mem_cons_self .., h⟩
    · rcases List.mem_cons.mp h with h | h
      · exact .inl h
      · rcases mem_joinL h with h | ⟨l, hl, hc⟩
        · exact .inl h
        · exact .inr ⟨l, List.mem_cons_of_mem _ hl, hc⟩
theorem txt_codes {d : Deed} {c : Nat} (h : c ∈ cl (txt18 d)) : c < 128 := by
  unfold txt18 at h
  split at h
  · have : ∀ c ∈ cl (S18 "look"), c < 128 := by decide
    exact this c h
  · rw [wds_text, cl_join] at h
    rcases mem_joinL h with h | ⟨l, hl, hc⟩
    · omega
    · obtain ⟨w, hw, rfl⟩ := List.mem_map.mp hl
      obtain ⟨p, hp, hw⟩ := List.mem_flatMap.mp hw
      rcases List.mem_cons.mp hw with rfl | hw
      · have : ∀ k ∈ [S18 "set", S18 "add", S18 "low", S18 "high"], ∀ c ∈ cl k, c < 128 := by decide
        exact this _ (prs_keys hp) c hc
      · rw [List.mem_singleton.mp hw] at hc
        rcases num_codes hc with e | ⟨_, e⟩ <;> omega
section
variable {K : PySem.W.Frag} {a : Addr} {xs : List V} {k : Nat} {te : TE} {Q : VK} {σ : L2.St} {H : Hp}
end
end L3

namespace L3
open PySem PySem.Spec PyProof.Rows L2
def ItS18 (z : Str) : It := ⟨fun i _ => i < z.cps.size, fun i H y H' => H' = H ∧ ∃ c, z.cps[i]? = some c ∧ y = .str ⟨#[c]⟩, fun i _ => z.cps.size ≤ i⟩
theorem turn_str {P : Program} {w : World} {K : PySem.W.Frag} {tg : Expr} (it : Addr) (z : Str) (t : Tok) : Turn P w K tg (ItS18 z) [it] it (fun i h => h.IsStrIter it "str_ascii_iterator" z t i) where
  mem := by simp
  obj := fun i h st b hb => by
    have e : b = it := by simpa using hb
    subst e
    obtain ⟨o, e, c, d⟩ := st
    exact ⟨o, e, fun v z => by rw [d] at z; cases z⟩
  keep := fun i h h' st k => by
    obtain ⟨o, e, r⟩ := st
    exact ⟨o, k it (by simp) o e, r⟩
  item := by
    intro X hP hw hK hc i pins s σ H E I hf st hg
    subst hP hw hK
    obtain ⟨f0, f1, f2, f3, f4, f5⟩ := hf it (by simp)
    have hg' : i < z.cps.size := hg
    have hx : z.cps[i]? = some z.cps[i] := by simp [hg']
    refine wpAny_pyNext_ascii_item st hx fun h' st' sb => ?_
    have I1 : Inv X pins σ H { s with heap := h', toks := s.toks + 1 } := I.turned (fun b o hb e => sb.extBut b o hb e) f0 f1 f3 f4 f5
    obtain ⟨o, e, c, d⟩ := id st'
    exact ⟨_, rfl, go_of (s := { s with heap := h', toks := s.toks + 1 }) e c d (by decide) ⟨.str ⟨#[z.cps[i]]⟩, H, I1, ⟨_, rfl⟩, ⟨rfl, _, hx, rfl⟩, st', fun b hb => (hf b hb).1⟩⟩
  done := by
    intro X hP hw hK hc i pins s σ H E I hf st hg
    subst hP hw hK
    obtain ⟨f0, f1, f2, f3, f4, f5⟩ := hf it (by simp)
    have hg' : z.cps.size ≤ i := hg
    exact wpAny_pyNext_ascii_end (I.ok.hd hc) st (by simp [hg']) fun h' eb => ⟨rfl, I.turned (t' := s.toks) (fun b o hb e => eb b o hb e) f0 f1 f3 f4 f5⟩
  self := fun _ _ _ _ _ st h => wpAny_pyIter_striter_ascii st h
section
variable {X : Cx} {tg : Expr}
def iStr (tl : TE) : TI := fun σ H R => tl σ H fun x H1 => ∃ z, x = .str z ∧ Txt.isascii z = true ∧ R (ItS18 z) H1
theorem pi_str {l : Expr} {tl : TE} (hl : PE X l tl) : PI X tg l (iStr tl) := by
  intro pins s σ H R I h
  refine thn (hl pins s σ H _ I h) fun v s1 ⟨x, H1, I1, r1, q1⟩ => ?_
  obtain ⟨z, rfl, ha, q⟩ := q1
  obtain ⟨t, rfl⟩ := r1
  refine wpAny_pyIter_ascii ha ?_
  refine ⟨s1.heap.objs.size, [s1.heap.objs.size], _, _, H1, rfl, I1.kept (t' := s1.toks) fun b o e => Heap.get?_push_of_some _ e, turn_str _ z t, ⟨_, Heap.get?_push_size _ rfl, rfl, rfl⟩, fun b hb => ?_, q⟩
  have e : b = s1.heap.objs.size := by simpa using hb
  subst e
  exact I1.fpOk (Nat.le_refl _) (I1.hok.fresh (Nat.le_refl _))
end
theorem comp_str {z : Str} {g : TG} {tt : TT} {te : TE} {Q : VK} {σ : L2.St} {H : Hp} (Pv : Nat → List V → L2.St → Hp → Prop) (h0 : Pv 0 [] σ H)
    (hs : ∀ i c ys σ H, z.cps[i]? = some c → Pv i ys σ H → g (.str ⟨#[c]⟩) σ H fun σ2 H3 => tt σ2 H3 fun b H4 => if b = true then te σ2 H4 fun y H5 => ys.length < sizeLine ∧ Pv (i + 1) (ys ++ [y]) σ2 H5 else Pv (i + 1) ys σ2 H4)
    (hd : ∀ ys σ H, Pv z.cps.size ys σ H → ∀ l, H l = none → Q (.ref l) (upd H l (.lst ys))) : CompW (ItS18 z) σ H g tt te Q := by
  refine ⟨fun i m ys σ H => m = z.cps.size - i ∧ i ≤ z.cps.size ∧ Pv i ys σ H, ⟨z.cps.size, by simp, Nat.zero_le _, h0⟩, ?_⟩
  rintro i m ys σ H ⟨rfl, hi, p⟩
  by_cases hlt : i < z.cps.size
  · refine .inr ⟨hlt, Pv (i + 1), fun zs σ' H' p' => ⟨z.cps.size - (i + 1), by omega, rfl, hlt, p'⟩, fun x H' y => ?_⟩
    obtain ⟨rfl, c, hc, rfl⟩ := y
    exact hs i c ys σ _ hc p
  · have e : i = z.cps.size := by omega
    subst e
    exact .inl ⟨Nat.le_refl _, hd ys σ H p⟩
theorem comp_strPT {z : Str} {k : Nat} {tt : TT} {te : TE} {Q : VK} {σ : L2.St} {H : Hp} (p : Nat → Bool) (Pv : Nat → List V → Hp → Prop) (h0 : Pv 0 [] H)
    (ht : ∀ c H' (R : Bool → Hp → Prop), c ∈ z.cps.toList → R (p c) H' → tt (σ.set k (some (.str ⟨#[c]⟩))) H' R)
    (hs : ∀ i c ys H', z.cps[i]? = some c → Pv i ys H' → p c = true → te (σ.set k (some (.str ⟨#[c]⟩))) H' fun y H5 => ys.length < sizeLine ∧ Pv (i + 1) (ys ++ [y]) H5)
    (hn : ∀ i c ys H', z.cps[i]? = some c → Pv i ys H' → p c = false → Pv (i + 1) ys H')
    (hd : ∀ ys H', Pv z.cps.size ys H' → ∀ l, H' l = none → Q (.ref l) (upd H' l (.lst ys))) : CompW (ItS18 z) σ H (gName k) tt te Q := by
  refine comp_str (fun i ys σ' H' => (σ' = σ ∨ ∃ e, σ' = σ.set k e) ∧ Pv i ys H') ⟨.inl rfl, h0⟩ ?_ (fun ys σ' H' p l hl => hd ys H' p.2 l hl)
  rintro i x ys σ' H' hx ⟨hσ, pv⟩
  have e : σ'.set k (some (.str ⟨#[x]⟩)) = σ.set k (some (.str ⟨#[x]⟩)) := by
    rcases hσ with rfl | ⟨e, rfl⟩
    · rfl
    · rw [List.set_set]
  show tt (σ'.set k (some (.str ⟨#[x]⟩))) H' _
  rw [e]
  refine ht x H' _ (Array.mem_toList_iff.mpr (Array.mem_of_getElem? hx)) ?_
  by_cases c : p x = true
  · rw [if_pos c]
    have e2 : (fun (y : V) (H5 : Hp) => ys.length < sizeLine ∧ ((σ.set k (some (.str ⟨#[x]⟩)) = σ ∨ ∃ e, σ.set k (some (.str ⟨#[x]⟩)) = σ.set k e) ∧ Pv (i + 1) (ys ++ [y]) H5)) = fun y H5 => ys.length < sizeLine ∧ Pv (i + 1) (ys ++ [y]) H5 := by
      funext y H5
      exact propext ⟨fun z => ⟨z.1, z.2.2⟩, fun z => ⟨z.1, .inr ⟨_, rfl⟩, z.2⟩⟩
    have z := hs i x ys H' hx pv c
    rw [← e2] at z
    exact z
  · rw [if_neg c]
    exact ⟨.inr ⟨_, rfl⟩, hn i x ys H' hx pv (by simpa using c)⟩
end L3

namespace L3
open PySem PySem.Spec PyProof.Rows L2 PySem.NumText
theorem dig_of {n : Nat} : ∀ {cs : List Nat}, cs.length = n → AllDigits cs → cs ≠ [] → (cs.head? ≠ some 48 ∨ cs = [48]) → cl (num18 (digitsVal cs : Nat)) = cs := by
  induction n with
  | zero => intro cs hl _ h0 _; exact absurd (List.length_eq_zero_iff.mp hl) h0
  | succ n ih =>
    intro cs hl hd h0 h1
    obtain ⟨ds, c, rfl⟩ : ∃ ds c, cs = ds ++ [c] := ⟨cs.dropLast, cs.getLast h0, (List.dropLast_concat_getLast h0).symm⟩
    have hc := hd c (by simp)
    have hds : AllDigits ds := fun x hx => hd x (List.mem_append_left _ hx)
    have ec : ∀ d, d < 10 → (Nat.digitChar d).toNat = 48 + d := by decide
    rw [cl_num, digitsVal_snoc]
    by_cases e : ds = []
    · subst e
      rw [show digitsVal [] * 10 + (c - 48) = c - 48 from by rw [show digitsVal [] = 0 from rfl]; omega, Nat.toDigits_of_lt_base (by omega)]
      show [(Nat.digitChar (c - 48)).toNat] = [c]
      rw [ec _ (by omega)]
      congr 1; omega
    · have hh : ds.head? ≠ some 48 := by
        rcases h1 with h1 | h1
        · cases ds with
          | nil => exact absurd rfl e
          | cons a r => exact h1
        · have := congrArg List.length h1
          rw [List.length_append] at this
          have := List.length_pos_iff.mpr e
          simp only [List.length_cons, List.length_nil] at *
          omega
      have hl' : ds.length = n := by rw [List.length_append] at hl; simpa using hl
      have i := ih hl' hds e (.inl hh)
      have hp : 0 < digitsVal ds := by
        rcases Nat.eq_zero_or_pos (digitsVal ds) with z | z
        · rw [z] at i
          rw [← i] at hh
          exact absurd (by decide) hh
        · exact z
      have t : Nat.toDigits 10 (digitsVal ds) ++ Nat.toDigits 10 (c - 48) = Nat.toDigits 10 (10 * digitsVal ds + (c - 48)) := Nat.toDigits_append_toDigits (by decide) hp (by omega)
      rw [Nat.mul_comm, ← t, List.map_append, ← cl_num, i, Nat.toDigits_of_lt_base (by omega)]
      show ds ++ [(Nat.digitChar (c - 48)).toNat] = ds ++ [c]
      rw [ec _ (by omega)]
      congr 2; omega
theorem strip19 (w : Str) : (∃ r, cl w = 45 :: r ∧ cl (Txt.removeprefix w (S18 "-")) = r) ∨ ((cl w).head? ≠ some 45 ∧ Txt.removeprefix w (S18 "-") = w) := by
  rw [StrLaws.removeprefix_eq]
  match hw : cl w with
  | [] =>
    refine .inr ⟨by simp, ?_⟩
    rw [if_neg]
    intro z
    rw [Bool.and_eq_true, StrLaws.subAt_eq, show w.cps.toList = [] from hw] at z
    exact absurd z.2 (by decide)
  | c :: r =>
    by_cases h : c = 45
    · subst h
      refine .inl ⟨r, rfl, ?_⟩
      rw [if_pos]
      · show (List.take (w.length - 1) (List.drop 1 (cl w))).toArray.toList = r
        rw [List.toList_toArray, hw, List.drop_one, List.tail_cons, List.take_of_length_le]
        rw [cl_len, hw]; simp
      · rw [Bool.and_eq_true, StrLaws.subAt_eq, show w.cps.toList = 45 :: r from hw]
        refine ⟨decide_eq_true ?_, rfl⟩
        rw [show (S18 "-").length = 1 from by decide, cl_len, hw]; simp
    · refine .inr ⟨by simpa using h, ?_⟩
      rw [if_neg]
      intro z
      rw [Bool.and_eq_true, StrLaws.subAt_eq, show w.cps.toList = c :: r from hw] at z
      have z3 : [c] = [45] := eq_of_beq z.2
      exact h (List.cons.inj z3).1
theorem digs19 {f : Str} (h1 : Txt.isascii f = true) (h2 : Txt.isdigit f = true) : AllDigits (cl f) ∧ cl f ≠ [] := by
  unfold Txt.isascii at h1
  unfold Txt.isdigit at h2
  rw [Bool.and_eq_true, ← Array.all_toList, List.all_eq_true] at h2
  rw [← Array.all_toList, List.all_eq_true] at h1
  constructor
  · intro c hc
    have a := of_decide_eq_true (h1 c hc)
    have b := h2.2 c hc
    have key : ∀ c, c < 128 → Unicode.isDigit c = true → 48 ≤ c ∧ c ≤ 57 := by decide +kernel
    exact key c a b
  · intro e
    have := of_decide_eq_true h2.1
    rw [cl_len, e] at this
    exact absurd this (by decide)
theorem read19 {w : Str} (h1 : Txt.isascii (Txt.removeprefix w (S18 "-")) = true) (h2 : Txt.isdigit (Txt.removeprefix w (S18 "-")) = true) (h3 : (cl (Txt.removeprefix w (S18 "-"))).head? = some 48 → w = S18 "0") :
    w = num18 (if (cl w).head? = some 45 then -((digitsVal (cl (Txt.removeprefix w (S18 "-"))) : Nat) : Int) else (digitsVal (cl (Txt.removeprefix w (S18 "-"))) : Nat)) := by
  obtain ⟨a, b⟩ := digs19 h1 h2
  by_cases h48 : (cl (Txt.removeprefix w (S18 "-"))).head? = some 48
  · have e := h3 h48
    subst e
    decide +kernel
  · have e := dig_of rfl a b (.inl h48)
    rcases strip19 w with ⟨r, hr, hr'⟩ | ⟨hn, hw⟩
    · rw [if_pos (by rw [hr]; rfl)]
      rw [hr'] at e h48 b ⊢
      have hp : 0 < digitsVal r := by
        rcases Nat.eq_zero_or_pos (digitsVal r) with z | z
        · rw [z] at e
          rw [← e] at h48
          exact absurd (by decide) h48
        · exact z
      obtain ⟨m, hm⟩ : ∃ m, digitsVal r = m + 1 := ⟨digitsVal r - 1, by omega⟩
      rw [hm] at e ⊢
      refine str_ext18 ?_
      rw [hr, show -((m + 1 : Nat) : Int) = Int.negSucc m from rfl, cl_neg, ← cl_num, e]
    · rw [if_neg hn]
      rw [hw] at e ⊢
      exact str_ext18 e.symm
theorem abs19 (n : Int) : ∃ k : Nat, (if n < 0 then -n else n) = (k : Int) := ⟨n.natAbs, by split <;> omega⟩
theorem notnum19a {w : Str} (h : (Txt.isascii (Txt.removeprefix w (S18 "-")) && Txt.isdigit (Txt.removeprefix w (S18 "-"))) = false) (n : Int) : w ≠ num18 n := by
  rintro rfl
  obtain ⟨k, hk⟩ := abs19 n
  rw [num_strip, hk, num_ascii, num_digit] at h
  cases h
theorem notnum19b {w : Str} (h : (cl (Txt.removeprefix w (S18 "-"))).head? = some 48) (h0 : w ≠ S18 "0") (n : Int) : w ≠ num18 n := by
  rintro rfl
  obtain ⟨k, hk⟩ := abs19 n
  rw [num_strip, hk] at h
  rcases Nat.eq_zero_or_pos k with z | z
  · have : n = 0 := by split at hk <;> omega
    subst this
    exact h0 (by decide)
  · obtain ⟨c, r, e, hc⟩ := num_head z
    rw [e] at h
    exact hc (Option.some.inj h)
end L3

namespace L3
open PySem PySem.Spec PyProof.Rows L2 PySem.NumText
section
variable {X : Cx}
theorem op_mul01 : OpR X (binaryOp .Mult) (fun x y H Q => ∃ (z : Str) (b : Bool), x = .str z ∧ y = .int (if b then 1 else 0) ∧ z.length = 1 ∧ Q (.str (if b then z else Str.empty)) H) := by
  intro pins s σ H x y v u Q I rx ry h
  obtain ⟨z, b, rfl, rfl, hz, q⟩ := h
  obtain ⟨t1, rfl⟩ := rx
  obtain ⟨t2, rfl⟩ := ry
  have e : Txt.mul z (if b then 1 else 0) = if b then z else Str.empty := by cases b <;> rfl
  refine SB.mul ⟨?_, fun c1 c2 => ?_, fun _ _ => ?_⟩ fun t' k => ⟨.str _, H, I.kept (t' := k) fun b o e => e, ⟨t', by rw [e]⟩, q⟩
  · cases b <;> decide
  · rw [hz]
    cases b
    · first | exact absurd c1 (by decide) | exact absurd c2 (by decide)
    · decide
  · rw [hz]
    have h4 : 100 < sizeLine := by rw [sizeLine_eq]; decide
    cases b
    · exact decide_eq_false (by show ¬ (1 * 0 > sizeLine); omega)
    · exact decide_eq_false (by show ¬ (1 * 1 > sizeLine); omega)
end
end L3

namespace L3
open PySem PySem.Spec PyProof.Rows L2 PySem.NumText
def fig19 (w : Str) : Str := Txt.removeprefix w (S18 "-")
def ok19 (w : Str) : Bool := Txt.isascii (fig19 w) && Txt.isdigit (fig19 w) && (decide ((cl (fig19 w)).head? ≠ some 48) || decide (w = S18 "0"))
def val19 (w : Str) : Int := if (cl w).head? = some 45 then -((digitsVal (cl (fig19 w)) : Nat) : Int) else (digitsVal (cl (fig19 w)) : Nat)
def rd19 (w : Str) : Option Int := if ok19 w = true then some (val19 w) else none
theorem ok_parts {w : Str} (h : ok19 w = true) : Txt.isascii (fig19 w) = true ∧ Txt.isdigit (fig19 w) = true ∧ ((cl (fig19 w)).head? = some 48 → w = S18 "0") := by
  unfold ok19 at h
  rw [Bool.and_eq_true, Bool.and_eq_true, Bool.or_eq_true, decide_eq_true_eq, decide_eq_true_eq] at h
  exact ⟨h.1.1, h.1.2, fun z => h.2.resolve_left fun k => k z⟩
theorem rd_some {w : Str} {n : Int} (h : rd19 w = some n) : w = num18 n := by
  unfold rd19 at h
  split at h
  · rename_i ho
    obtain ⟨a, b, c⟩ := ok_parts ho
    rw [← Option.some.inj h]
    exact read19 a b c
  · cases h
theorem rd_num (n : Int) : rd19 (num18 n) = some n := by
  cases ho : ok19 (num18 n) with
  | true =>
    obtain ⟨a, b, c⟩ := ok_parts ho
    have e := num_inj18 (read19 a b c)
    unfold rd19
    rw [if_pos ho]
    exact congrArg some e.symm
  | false =>
    exfalso
    unfold ok19 at ho
    cases h1 : (Txt.isascii (fig19 (num18 n)) && Txt.isdigit (fig19 (num18 n))) with
    | false => exact notnum19a h1 n rfl
    | true =>
      rw [h1, Bool.true_and, Bool.or_eq_false_iff, decide_eq_false_iff_not, decide_eq_false_iff_not] at ho
      exact notnum19b (Decidable.not_not.mp ho.1) ho.2 n rfl
theorem dv_lt {n : Nat} : ∀ {cs : List Nat}, cs.length = n → AllDigits cs → digitsVal cs < 10 ^ n := by
  induction n with
  | zero => intro cs hl _; rw [List.length_eq_zero_iff.mp hl]; decide
  | succ n ih =>
    intro cs hl hd
    have h0 : cs ≠ [] := fun z => by rw [z] at hl; cases hl
    obtain ⟨ds, c, rfl⟩ : ∃ ds c, cs = ds ++ [c] := ⟨cs.dropLast, cs.getLast h0, (List.dropLast_concat_getLast h0).symm⟩
    have hc := hd c (by simp)
    have hl' : ds.length = n := by rw [List.length_append] at hl; simpa using hl
    have i := ih hl' fun x hx => hd x (List.mem_append_left _ hx)
    rw [digitsVal_snoc, Nat.pow_succ]
    omega
structure W19 (w : Str) : Prop where
  asc : ∀ c ∈ cl w, c < 128
  len : w.length ≤ 1996
  few : AllDigits (cl (fig19 w)) → (fig19 w).length ≤ 30
theorem rd_bd {w : Str} {n : Int} (W : W19 w) (h : rd19 w = some n) : -(10 ^ 61) ≤ n ∧ n ≤ 10 ^ 61 := by
  unfold rd19 at h
  split at h
  · rename_i ho
    obtain ⟨a, b, c⟩ := ok_parts ho
    have hd := (digs19 a b).1
    have h1 := dv_lt rfl hd
    have h2 := W.few hd
    rw [cl_len] at h2
    have h3 : digitsVal (cl (fig19 w)) < 10 ^ 30 := Nat.lt_of_lt_of_le h1 (Nat.pow_le_pow_right (by decide) h2)
    rw [← Option.some.inj h]
    unfold val19
    split <;> omega
  · cases h
def stp19 (s : Nat × Deed) (p : Str × Str) : Option (Nat × Deed) :=
  match rd19 p.2 with
  | none => none
  | some n =>
    if p.1 = S18 "add" then (if s.1 = 0 ∧ n ≠ 0 then some (1, ⟨n, s.2.lo, s.2.hi⟩) else none)
    else if p.1 = S18 "low" then (if s.1 ≤ 1 then some (2, ⟨s.2.add, some n, s.2.hi⟩) else none)
    else if p.1 = S18 "high" then (if s.1 ≤ 2 then some (3, ⟨s.2.add, s.2.lo, some n⟩) else none)
    else none
def run19 : List (Str × Str) → Nat × Deed → Option (Nat × Deed)
  | [], s => some s
  | p :: r, s => match stp19 s p with
    | none => none
    | some s' => run19 r s'
def lt19 : Option Int → Option Int → Bool
  | some l, some h => decide (l < h)
  | _, _ => true
def pr19 (ps : List (Str × Str)) : Option Deed := match run19 ps (0, ⟨0, none, none⟩) with
  | none => none
  | some s => if lt19 s.2.lo s.2.hi = true then some s.2 else none
def pw19 (p : Str × Int) : Str × Str := (p.1, num18 p.2)
theorem stp_inv {j : Nat} {d : Deed} {p : Str × Str} {j' : Nat} {d' : Deed} (h : stp19 (j, d) p = some (j', d')) (i0 : j = 0 → d.add = 0) (i1 : j ≤ 1 → d.lo = none) (i2 : j ≤ 2 → d.hi = none) :
    (j' = 0 → d'.add = 0) ∧ (j' ≤ 1 → d'.lo = none) ∧ (j' ≤ 2 → d'.hi = none) ∧ (p3_18 d').map pw19 = (p3_18 d).map pw19 ++ [p] := by
  unfold stp19 at h
  obtain ⟨ad, lo, hi⟩ := d
  obtain ⟨k, x⟩ := p
  cases hr : rd19 x with
  | none => simp only [hr] at h; cases h
  | some n =>
    simp only [hr] at h
    have ex := rd_some hr
    split at h
    · rename_i hk
      split at h
      · rename_i hc
        cases h
        have e1 : ad = 0 := i0 hc.1
        have e2 : lo = none := i1 (by omega)
        have e3 : hi = none := i2 (by omega)
        subst e1 e2 e3
        refine ⟨fun z => absurd z (by decide), fun _ => rfl, fun _ => rfl, ?_⟩
        unfold p3_18 p2_18 p1_18
        simp only [if_neg hc.2, hk, ex, pw19, Option.toList_none, List.map_nil, List.append_nil, List.map_cons, List.nil_append, if_pos]
      · cases h
    · split at h
      · rename_i hk
        split at h
        · rename_i hc
          cases h
          have e2 : lo = none := i1 hc
          have e3 : hi = none := i2 (by omega)
          subst e2 e3
          refine ⟨fun z => absurd z (by decide), fun z => absurd z (by decide), fun _ => rfl, ?_⟩
          unfold p3_18 p2_18
          simp only [p1_18, hk, ex, pw19, Option.toList_none, Option.toList_some, List.map_nil, List.append_nil, List.map_cons, List.map_append]
        · cases h
      · split at h
        · rename_i hk
          split at h
          · rename_i hc
            cases h
            have e3 : hi = none := i2 hc
            subst e3
            refine ⟨fun z => absurd z (by decide), fun z => absurd z (by decide), fun z => absurd z (by decide), ?_⟩
            unfold p3_18
            simp only [p2_18, p1_18, hk, ex, pw19, Option.toList_none, Option.toList_some, List.map_nil, List.append_nil, List.map_cons, List.map_append]
          · cases h
        · cases h
theorem run_inv : ∀ {ps : List (Str × Str)} {j : Nat} {d : Deed} {j' : Nat} {d' : Deed}, run19 ps (j, d) = some (j', d') → (j = 0 → d.add = 0) → (j ≤ 1 → d.lo = none) → (j ≤ 2 → d.hi = none) → (p3_18 d').map pw19 = (p3_18 d).map pw19 ++ ps
  | [], j, d, j', d', h, _, _, _ => by cases h; rw [List.append_nil]
  | p :: r, j, d, j', d', h, i0, i1, i2 => by
    unfold run19 at h
    cases hs : stp19 (j, d) p with
    | none => simp only [hs] at h; cases h
    | some s =>
      simp only [hs] at h
      obtain ⟨j1, d1⟩ := s
      obtain ⟨a, b, c, e⟩ := stp_inv hs i0 i1 i2
      rw [run_inv h a b c, e, List.append_assoc]; rfl
theorem run_fwd (ad : Int) (lo hi : Option Int) : ∃ j, run19 ((p3_18 ⟨ad, lo, hi⟩).map pw19) (0, ⟨0, none, none⟩) = some (j, ⟨ad, lo, hi⟩) := by
  have n1 : S18 "low" ≠ S18 "add" := by decide
  have n2 : S18 "high" ≠ S18 "add" := by decide
  have n3 : S18 "high" ≠ S18 "low" := by decide
  unfold p3_18 p2_18 p1_18
  by_cases ha : ad = 0
  · subst ha
    cases lo <;> cases hi <;> simp only [if_pos, Option.toList_none, Option.toList_some, List.map_nil, List.append_nil, List.map_cons, List.nil_append, List.map_append, List.cons_append, pw19, run19, stp19, rd_num, n1, n2, n3, if_false, Nat.zero_le, Nat.le_refl, show (2 ≤ 2) from Nat.le_refl 2, reduceIte] <;> exact ⟨_, rfl⟩
  · cases lo <;> cases hi <;> simp only [if_neg ha, Option.toList_none, Option.toList_some, List.map_nil, List.append_nil, List.map_cons, List.nil_append, List.map_append, List.cons_append, pw19, run19, stp19, rd_num, n1, n2, n3, if_false, if_pos, Nat.zero_le, Nat.le_refl, ne_eq, ha, not_false_eq_true, and_self, show (2 ≤ 2) from Nat.le_refl 2, show (1 ≤ 2) from by decide, reduceIte] <;> exact ⟨_, rfl⟩
theorem pr_some {ps : List (Str × Str)} {d : Deed} (h : pr19 ps = some d) : d.Ok ∧ ¬ (d.lo ≠ none ∧ d.lo = d.hi) ∧ ps = (p3_18 d).map pw19 := by
  unfold pr19 at h
  cases hs : run19 ps (0, ⟨0, none, none⟩) with
  | none => simp only [hs] at h; cases h
  | some s =>
    obtain ⟨j, e⟩ := s
    simp only [hs] at h
    split at h
    · rename_i hl
      cases h
      have r := run_inv hs (fun _ => rfl) (fun _ => rfl) (fun _ => rfl)
      have hlt : ∀ l u, d.lo = some l → d.hi = some u → l < u := fun l u h1 h2 => by
        rw [h1, h2] at hl
        exact of_decide_eq_true hl
      refine ⟨fun l u h1 h2 => .inl (hlt l u h1 h2), fun z => ?_, ?_⟩
      · cases hlo : d.lo with
        | none => exact z.1 hlo
        | some l => have := hlt l l hlo (by rw [← z.2, hlo]); omega
      · rw [r]; rfl
    · cases h
theorem pr_fwd {d : Deed} (od : d.Ok) (hn : ¬ (d.lo ≠ none ∧ d.lo = d.hi)) : pr19 ((p3_18 d).map pw19) = some d := by
  obtain ⟨ad, lo, hi⟩ := d
  obtain ⟨j, e⟩ := run_fwd ad lo hi
  unfold pr19
  simp only [e]
  rw [if_pos]
  cases lo with
  | none => rfl
  | some l =>
    cases hi with
    | none => rfl
    | some u =>
      refine decide_eq_true ?_
      rcases od l u rfl rfl with c | ⟨c, _⟩
      · exact c
      · exact absurd ⟨by simp, by rw [c]⟩ hn
def two19 {α : Type} : List α → List (α × α)
  | a :: b :: r => (a, b) :: two19 r
  | _ => []
def lr19 (w : Str) : Option Deed :=
  if w = S18 "look" then some ⟨0, none, none⟩
  else if (Txt.split w (S18 " ")).length % 2 = 1 then none
  else if (Txt.split w (S18 " "))[0]? = some (S18 "set") ∧ (Txt.split w (S18 " ")).length = 2 then ((Txt.split w (S18 " "))[1]?.bind rd19).map fun n => ⟨0, some n, some n⟩
  else pr19 (two19 (Txt.split w (S18 " ")))
theorem two_flat : ∀ {ws : List Str}, ws.length % 2 ≠ 1 → ∀ {ps : List (Str × Int)}, two19 ws = ps.map pw19 → ws = wds18 ps
  | [], _, [], _ => rfl
  | [], _, _ :: _, h => by cases h
  | [_], h, _, _ => absurd rfl h
  | a :: b :: r, h, [], e => by cases e
  | a :: b :: r, h, p :: ps, e => by
    obtain ⟨e1, e2⟩ := List.cons.inj (show (a, b) :: two19 r = pw19 p :: ps.map pw19 from e)
    have := two_flat (ws := r) (by simp only [List.length_cons] at h; omega) e2
    cases e1
    show p.1 :: num18 p.2 :: r = p.1 :: num18 p.2 :: wds18 ps
    rw [this]
theorem two_wds : ∀ ps : List (Str × Int), two19 (wds18 ps) = ps.map pw19
  | [] => rfl
  | p :: ps => by
    show (p.1, num18 p.2) :: two19 (wds18 ps) = _
    rw [two_wds ps]; rfl
theorem txt_wds {d : Deed} {w : Str} (h : Txt.split w (S18 " ") = wds18 (prs18 d)) (he : (prs18 d).isEmpty = false) : txt18 d = w := by
  unfold txt18
  rw [he, if_neg (by decide), wds_text, ← h]
  exact StrLaws.join_split w (S18 " ")
theorem spl_pos (w : Str) : Txt.split w (S18 " ") ≠ [] := fun z => by
  have := split_pos w (S18 " ")
  rw [z] at this
  exact absurd this (by decide)
theorem lr_some {w : Str} {d : Deed} (h : lr19 w = some d) : d.Ok ∧ txt18 d = w := by
  unfold lr19 at h
  split at h
  · rename_i e
    cases h
    exact ⟨fun l h z => (by cases z), by rw [e]; rfl⟩
  · split at h
    · cases h
    · rename_i hev
      split at h
      · rename_i hset
        obtain ⟨n, hn, rfl⟩ := Option.map_eq_some_iff.mp h
        refine ⟨fun l u h1 h2 => .inr ⟨by cases h1; cases h2; rfl, rfl⟩, ?_⟩
        generalize hws : Txt.split w (S18 " ") = ws at hset hn
        match ws, hset, hn with
        | [a, b], hset, hn =>
          have e1 : a = S18 "set" := Option.some.inj hset.1
          have e2 : b = num18 n := rd_some hn
          subst e1 e2
          have hp : prs18 ⟨0, some n, some n⟩ = [(S18 "set", n)] := if_pos ⟨by simp, rfl⟩
          exact txt_wds (by rw [hws, hp]; rfl) (by rw [hp]; rfl)
        | [], hset, _ => exact absurd hset.2 (by decide)
        | [_], hset, _ => exact absurd hset.2 (by simp)
        | _ :: _ :: _ :: _, hset, _ => exact absurd hset.2 (by simp)
      · obtain ⟨ok, hn, hp⟩ := pr_some h
        have e := two_flat hev hp
        refine ⟨ok, txt_wds (by rw [prs_not hn]; exact e) ?_⟩
        rw [prs_not hn]
        cases hq : p3_18 d with
        | nil => rw [hq] at e; exact absurd e (spl_pos w)
        | cons => rfl
theorem lr_txt {d : Deed} (od : d.Ok) : lr19 (txt18 d) = some d := by
  unfold lr19
  cases he : (prs18 d).isEmpty with
  | true => rw [prs_look he]; exact if_pos rfl
  | false =>
    rw [if_neg (look_split he), txt_split he, wds_len, if_neg (by omega)]
    by_cases hset : d.lo ≠ none ∧ d.lo = d.hi
    · have e : prs18 d = [(S18 "set", d.lo.getD 0)] := if_pos hset
      rw [e, if_pos ⟨rfl, rfl⟩]
      show ((rd19 (num18 (d.lo.getD 0))).map _) = _
      rw [rd_num]
      obtain ⟨ad, lo, hi⟩ := d
      cases lo with
      | none => exact absurd rfl hset.1
      | some z =>
        have eh : hi = some z := hset.2.symm
        subst eh
        have ha : ad = 0 := by
          rcases od z z rfl rfl with c | ⟨_, c⟩
          · omega
          · exact c
        subst ha
        rfl
    · rw [prs_not hset] at he ⊢
      obtain ⟨p, r, ep, hne⟩ := first_not_set he
      rw [if_neg, two_wds, pr_fwd od hset]
      rintro ⟨z, _⟩
      rw [ep] at z
      exact (of_decide_eq_false hne) (congrArg V.str (Option.some.inj (show some p.1 = some (S18 "set") from z)))
theorem mem_joinL' {c : Nat} {l : List Nat} (hc : c ∈ l) : ∀ {ls : List (List Nat)}, l ∈ ls → c ∈ joinL ls
  | x :: r, h => by
    rw [joinL_cons]
    rcases List.mem_cons.mp h with rfl | h
    · exact List.mem_append_left _ hc
    · refine List.mem_append_right _ ?_
      cases r with
      | nil => cases h
      | cons y r => exact List.mem_cons_of_mem _ (mem_joinL' hc h)
theorem joinL_cut : ∀ {ls : List (List Nat)} {l : List Nat}, l ∈ ls → ∃ a b, joinL ls = a ++ (l ++ b)
  | x :: r, l, h => by
    rw [joinL_cons]
    rcases List.mem_cons.mp h with rfl | h
    · exact ⟨[], _, rfl⟩
    · cases r with
      | nil => cases h
      | cons y r =>
        obtain ⟨a, b, e⟩ := joinL_cut h
        exact ⟨x ++ 32 :: a, b, by show x ++ 32 :: joinL (y :: r) = _; rw [e, List.append_assoc]; rfl⟩
theorem joinL_run : ∀ {ls : List (List Nat)} {a f b : List Nat}, f ≠ [] → 32 ∉ f → joinL ls = a ++ (f ++ b) → ∃ l ∈ ls, f.length ≤ l.length
  | [], a, f, b, h0, _, e => by
    have := congrArg List.length e
    rw [List.length_append, List.length_append] at this
    have := List.length_pos_iff.mpr h0
    simp only [joinL, List.length_nil] at *
    omega
  | x :: r, a, f, b, h0, hf, e => by
    rw [joinL_cons] at e
    rcases List.append_eq_append_iff.mp e with ⟨c, ea, et⟩ | ⟨c, ex, et⟩
    · cases r with
      | nil =>
        have := congrArg List.length et
        rw [List.length_append, List.length_append] at this
        have := List.length_pos_iff.mpr h0
        simp only [tailL, List.length_nil] at *
        omega
      | cons y r =>
        have et' : 32 :: joinL (y :: r) = c ++ (f ++ b) := et
        cases c with
        | nil =>
          cases f with
          | nil => exact absurd rfl h0
          | cons z f =>
            have := (List.cons.inj (show 32 :: joinL (y :: r) = z :: (f ++ b) from et')).1
            exact absurd (this ▸ List.mem_cons_self ..) hf
        | cons z c =>
          obtain ⟨l, hl, h⟩ := joinL_run (ls := y :: r) h0 hf (List.cons.inj et').2
          exact ⟨l, List.mem_cons_of_mem _ hl, h⟩
    · refine ⟨x, List.mem_cons_self .., ?_⟩
      have key : f.length ≤ c.length := by
        rcases List.append_eq_append_iff.mp et with ⟨k, e1, e2⟩ | ⟨k, e1, e2⟩
        · rw [e1]; simp
        · rcases tailL_is r with z | ⟨q, z⟩
          · rw [z] at e2
            have := (List.append_eq_nil_iff.mp e2.symm).1
            rw [e1, this]; simp
          · rw [z] at e2
            cases k with
            | nil => rw [e1]; simp
            | cons u k =>
              have := (List.cons.inj (show 32 :: q = u :: (k ++ b) from e2)).1
              subst this
              exact absurd (by rw [e1]; simp) hf
      rw [ex, List.length_append]
      omega
theorem cl_split (w : Str) : cl w = joinL ((Txt.split w (S18 " ")).map cl) := by
  rw [← cl_join]
  exact congrArg cl (StrLaws.join_split w (S18 " ")).symm
structure T19 (n : Nat) (w : Str) : Prop where
  asc : ∀ c ∈ cl w, c < 128
  len : w.length ≤ n
theorem joinL_len : ∀ {ls : List (List Nat)} {l : List Nat}, l ∈ ls → l.length ≤ (joinL ls).length := by
  intro ls l h
  obtain ⟨a, b, e⟩ := joinL_cut h
  rw [e, List.length_append, List.length_append]; omega
theorem split_mem {n : Nat} {w p : Str} (h : T19 n w) (hp : p ∈ Txt.split w (S18 " ")) : T19 n p := by
  have hm : cl p ∈ (Txt.split w (S18 " ")).map cl := List.mem_map_of_mem hp
  refine ⟨fun c hc => h.asc c (by rw [cl_split w]; exact mem_joinL' hc hm), ?_⟩
  rw [cl_len]
  refine Nat.le_trans (joinL_len hm) ?_
  rw [← cl_split w, ← cl_len]
  exact h.len
def wt19 (ws : List Str) : Nat := (ws.map fun w => w.length + 1).sum
theorem joinL_wt : ∀ {ls : List (List Nat)}, ls ≠ [] → (joinL ls).length + 1 = (ls.map fun l => l.length + 1).sum
  | [], h => absurd rfl h
  | [x], _ => by simp [joinL]
  | x :: y :: r, _ => by
    have i := joinL_wt (ls := y :: r) (by simp)
    show (x ++ 32 :: joinL (y :: r)).length + 1 = _
    rw [List.map_cons, List.sum_cons, ← i, List.length_append, List.length_cons]; omega
theorem wt_cl (ws : List Str) : ((ws.map cl).map fun l => l.length + 1).sum = wt19 ws := by
  unfold wt19
  rw [List.map_map]
  congr 1
theorem wt_split (w : Str) : wt19 (Txt.split w (S18 " ")) = w.length + 1 := by
  rw [← wt_cl, ← joinL_wt (by simpa using spl_pos w), ← cl_split, ← cl_len]
theorem join_len19 (ws : List Str) : (Str.join (S18 " ") ws).length ≤ wt19 ws := by
  rw [cl_len, cl_join, ← wt_cl]
  cases ws with
  | nil => exact Nat.le_refl _
  | cons a r => rw [← joinL_wt (by simp)]; omega
theorem wt_app (a b : List Str) : wt19 (a ++ b) = wt19 a + wt19 b := by unfold wt19; rw [List.map_append, List.sum_append]
theorem wt_len : ∀ ws : List Str, ws.length ≤ wt19 ws
  | [] => Nat.le_refl _
  | w :: ws => by have := wt_len ws; unfold wt19 at *; rw [List.map_cons, List.sum_cons, List.length_cons]; omega
theorem wt_take (ws : List Str) (i : Nat) : wt19 (ws.take i) + wt19 (ws.drop i) = wt19 ws := by rw [← wt_app, List.take_append_drop]
theorem wt_mem {ws : List Str} {w : Str} (h : w ∈ ws) : w.length + 1 ≤ wt19 ws := by
  obtain ⟨a, b, rfl⟩ := List.append_of_mem h
  rw [wt_app]
  have : wt19 (w :: b) = w.length + 1 + wt19 b := rfl
  omega
theorem wt_set : ∀ {ws : List Str} {i : Nat} {x y : Str}, ws[i]? = some y → wt19 (ws.set i x) + y.length = wt19 ws + x.length
  | [], _, _, _, h => by cases h
  | w :: ws, 0, x, y, h => by
    cases h
    show x.length + 1 + wt19 ws + w.length = w.length + 1 + wt19 ws + x.length
    omega
  | w :: ws, i + 1, x, y, h => by
    have := wt_set (ws := ws) (i := i) (x := x) (y := y) h
    show w.length + 1 + wt19 (ws.set i x) + y.length = w.length + 1 + wt19 ws + x.length
    omega
theorem wt_swap {ws : List Str} {i j : Nat} {x y : Str} (hi : ws[i]? = some x) (hj : ws[j]? = some y) : wt19 ((ws.set i y).set j x) = wt19 ws := by
  have a := wt_set (x := y) hi
  have hj' : (ws.set i y)[j]? = some y := by
    rw [List.getElem?_set]
    split
    · rename_i e
      split
      · rfl
      · rename_i hlt; rw [e] at hlt; exact absurd (List.getElem?_eq_some_iff.mp hj).1 hlt
    · exact hj
  have b := wt_set (x := x) hj'
  omega
structure Ws19 (n : Nat) (ws : List Str) : Prop where
  asc : ∀ w ∈ ws, ∀ c ∈ cl w, c < 128
  len : wt19 ws ≤ n
theorem ws_split {n : Nat} {w : Str} (h : T19 n w) : Ws19 (n + 1) (Txt.split w (S18 " ")) :=
  ⟨fun p hp => (split_mem h hp).asc, by rw [wt_split]; have := h.len; omega⟩
theorem ws_join {n : Nat} {ws : List Str} (h : Ws19 n ws) : T19 n (Str.join (S18 " ") ws) := by
  refine ⟨fun c hc => ?_, Nat.le_trans (join_len19 ws) h.len⟩
  rw [cl_join] at hc
  rcases mem_joinL hc with e | ⟨l, hl, hc⟩
  · omega
  · obtain ⟨w, hw, rfl⟩ := List.mem_map.mp hl
    exact h.asc w hw c hc
theorem join_ok19 {ws : List Str} (h : wt19 ws ≤ 2100) : JoinOk (S18 " ") ws = true := by
  unfold JoinOk
  rw [StrLaws.joinFits (B := 2100) (fun y hy => by have := wt_mem hy; omega)]
  · rfl
  · have h1 := wt_len ws
    have h2 : ws.length * 2100 ≤ 2100 * 2100 := Nat.mul_le_mul_right _ (Nat.le_trans h1 h)
    have h3 : (S18 " ").length = 1 := by decide
    rw [h3]
    omega
theorem fig_len (w : Str) : (fig19 w).length ≤ w.length := by
  rcases strip19 w with ⟨r, h1, h2⟩ | ⟨_, h2⟩
  · rw [cl_len, cl_len, h1, show cl (fig19 w) = r from h2, List.length_cons]; omega
  · rw [show fig19 w = w from h2]; exact Nat.le_refl _
theorem w_short {w p : Str} (h : T19 30 w) (hp : p ∈ Txt.split w (S18 " ")) : W19 p := by
  have t := split_mem h hp
  exact ⟨t.asc, by have := t.len; omega, fun _ => Nat.le_trans (fig_len p) t.len⟩
theorem nlen19 : ∀ (k m : Nat), 0 < k → m < 10 ^ k → (num18 m).length ≤ k := by
  intro k m hk hm
  rcases Nat.lt_or_ge k (num18 m).length with h | h
  · exfalso
    rcases Nat.eq_zero_or_pos m with z | z
    · subst z
      have : (num18 ((0 : Nat) : Int)).length = 1 := by decide
      omega
    · obtain ⟨c, r, e, hc⟩ := num_head z
      have hv : digitsVal (cl (num18 m)) = m := by rw [cl_num]; exact PySem.W.KIN.val_back m
      have hd : AllDigits (cl (num18 m)) := by rw [cl_num]; exact dig_range
      have hl : k ≤ r.length := by rw [cl_len, e, List.length_cons] at h; omega
      have hc9 := hd c (by rw [e]; exact List.mem_cons_self ..)
      have key : ∀ (r : List Nat) (a : Nat), 10 ^ r.length * a ≤ r.foldl (fun x c => x * 10 + (c - 48)) a := by
        intro r
        induction r with
        | nil => intro a; simp
        | cons c r ih =>
          intro a
          refine Nat.le_trans ?_ (ih _)
          rw [List.length_cons, Nat.pow_succ, Nat.mul_assoc]
          exact Nat.mul_le_mul_left _ (show 10 * a ≤ a * 10 + (c - 48) by omega)
      have h1 : 10 ^ r.length * (c - 48) ≤ digitsVal (c :: r) := by
        have := key r (c - 48)
        refine Nat.le_trans this (Nat.le_of_eq ?_)
        show _ = r.foldl _ (0 * 10 + (c - 48))
        rw [Nat.zero_mul, Nat.zero_add]
      rw [← e, hv] at h1
      have h2 : 10 ^ k ≤ 10 ^ r.length := Nat.pow_le_pow_right (by decide) hl
      have h3 : 10 ^ r.length * 1 ≤ 10 ^ r.length * (c - 48) := Nat.mul_le_mul_left _ (by omega)
      omega
  · exact h
theorem nlen31 {n : Int} (h : n.natAbs < 10 ^ 30) : (num18 n).length ≤ 31 := by
  have e : fig19 (num18 n) = num18 (if n < 0 then -n else n) := num_strip n
  have e2 : (if n < 0 then -n else n) = (n.natAbs : Int) := by split <;> omega
  have hl : (fig19 (num18 n)).length ≤ 30 := by rw [e, e2]; exact nlen19 30 _ (by decide) h
  rcases strip19 (num18 n) with ⟨r, h1, h2⟩ | ⟨_, h2⟩
  · have : r.length ≤ 30 := by rw [cl_len, show cl (fig19 (num18 n)) = r from h2] at hl; exact hl
    rw [cl_len, h1, List.length_cons]; omega
  · rw [show fig19 (num18 n) = num18 n from h2] at hl; omega
theorem w_num {n : Int} (h : n.natAbs < 10 ^ 30) : W19 (num18 n) := by
  have e : fig19 (num18 n) = num18 (if n < 0 then -n else n) := num_strip n
  have e2 : (if n < 0 then -n else n) = (n.natAbs : Int) := by split <;> omega
  have hl : (fig19 (num18 n)).length ≤ 30 := by rw [e, e2]; exact nlen19 30 _ (by decide) h
  exact ⟨(fun c hc => by rcases num_codes hc with e | ⟨_, e⟩ <;> omega), (by have := nlen31 h; omega), fun _ => hl⟩
end L3

namespace L3
open PySem PySem.Spec PyProof.Rows L2
def spX1 (f : V → Hp → VK → XK → Prop) : Sp := fun vs H Q E => ∃ x, vs = [x] ∧ f x H Q E
theorem spX1_len {f : V → Hp → VK → XK → Prop} {p : Str} : ∀ vs H Q E, spX1 f vs H Q E → vs.length = [p].length := by rintro vs H Q E ⟨x, rfl, _⟩; rfl
def MkCalleeX (P : Program) (w : World) (K : PySem.W.Frag) (mg : Str → Option Value) (base : Heap) (C : Addr) (k : Nat) (ps : List Str) (sp : Sp) : Prop :=
  ∃ (j : Nat) (f : Addr) (fd : FuncData), j + 1 = k ∧ FnOk P w K mg base (CX1 P w) j f fd ps sp ∧ Binds K fd ps [] ∧ Mk K C f
section
variable {P : Program} {w : World} {K : PySem.W.Frag} {mg : Str → Option Value} {base : Heap} {C : Addr} {j k : Nat} {m : Str} {ps : List Str} {sp : Sp}
theorem MkCalleeX.mono (c : MkCalleeX P w K mg base C j ps sp) (h : j ≤ k) : MkCalleeX P w K mg base C k ps sp := by
  obtain ⟨i, f, fd, e, F, b, mt⟩ := c
  exact ⟨k - 1, f, fd, by omega, F.mono (by omega), b, mt⟩
end
section
variable {X : Cx} {C : Addr} {k : Nat} {x : Str} {ps : List Str} {sp : Sp} {e : Expr} {es : List Expr} {t : TA} {pos p : Pos} {E : XK}
end
end L3

namespace L3
open PySem PySem.Spec PyProof.Rows L2 PySem.NumText
theorem w_key {k : Str} (h : k ∈ [S18 "set", S18 "add", S18 "low", S18 "high"]) : W19 k := by
  have a : ∀ k ∈ [S18 "set", S18 "add", S18 "low", S18 "high"], (∀ c ∈ cl k, c < 128) ∧ k.length ≤ 30 := by decide
  obtain ⟨b, c⟩ := a k h
  exact ⟨b, by omega, fun _ => Nat.le_trans (fig_len k) c⟩
theorem prs_sm {d : Deed} (sm : d.Sm) {q : Str × Int} (hq : q ∈ prs18 d) : L3.Sm q.2 := by
  unfold prs18 at hq
  split at hq
  · rename_i hs
    rw [List.mem_singleton.mp hq]
    cases hl : d.lo with
    | none => exact absurd hl hs.1
    | some l => exact sm.2.1 l hl
  · rcases List.mem_append.mp hq with h | h
    · rcases List.mem_append.mp h with h | h
      · split at h
        · cases h
        · rw [List.mem_singleton.mp h]; exact sm.1
      · obtain ⟨l, hl, rfl⟩ := List.mem_map.mp h
        exact sm.2.1 l (by cases hlo : d.lo with | none => rw [hlo] at hl; cases hl | some z => rw [hlo] at hl; rw [List.mem_singleton.mp hl])
    · obtain ⟨l, hl, rfl⟩ := List.mem_map.mp h
      exact sm.2.2 l (by cases hlo : d.hi with | none => rw [hlo] at hl; cases hl | some z => rw [hlo] at hl; rw [List.mem_singleton.mp hl])
theorem txt_len19 {d : Deed} (sm : d.Sm) : (txt18 d).length ≤ 112 := by
  unfold txt18
  split
  · decide
  · refine Nat.le_trans (StrLaws.join_length_le _ _) ?_
    have h1 : (((prs18 d).map part18).map (·.length)).sum ≤ ((prs18 d).map part18).length * 36 := StrLaws.sumLen_le _ fun y hy => by
      obtain ⟨p, hp, rfl⟩ := List.mem_map.mp hy
      obtain ⟨c2, c3⟩ := prs_sm sm hp
      have c1 : ∀ k ∈ [S18 "set", S18 "add", S18 "low", S18 "high"], k.length ≤ 4 := by decide
      have := c1 _ (prs_keys hp)
      have := nlen31 (n := p.2) (by omega)
      unfold part18
      rw [Str.length_append, Str.length_append]
      have e : (S18 " ").length = 1 := by decide
      omega
    have h2 := prs_len d
    have h3 : ((prs18 d).map part18).length ≤ 3 := by rw [List.length_map]; exact h2
    have h4 : ((prs18 d).map part18).length * (S18 " ").length ≤ 3 := by rw [show (S18 " ").length = 1 from by decide]; omega
    have e : (S18 " ").length = 1 := by decide
    rw [e] at *
    omega
theorem t_txt {d : Deed} (sm : d.Sm) : T19 112 (txt18 d) := ⟨fun c hc => txt_codes hc, txt_len19 sm⟩
theorem T19.mono {n k : Nat} {w : Str} (h : T19 n w) (hk : n ≤ k) : T19 k w := ⟨h.asc, Nat.le_trans h.len hk⟩
theorem w_txt {d : Deed} (sm : d.Sm) : ∀ p ∈ Txt.split (txt18 d) (S18 " "), W19 p := by
  intro p hp
  cases he : (prs18 d).isEmpty with
  | true =>
    have e := prs_look he
    subst e
    exact w_short (w := S18 "look") ⟨by decide, by decide⟩ hp
  | false =>
    rw [txt_split he] at hp
    obtain ⟨q, hq, hp⟩ := List.mem_flatMap.mp hp
    rcases List.mem_cons.mp hp with rfl | hp
    · exact w_key (prs_keys hq)
    · rw [List.mem_singleton.mp hp]
      refine w_num ?_
      have hS := prs_sm sm hq
      have := hS.1; have := hS.2
      omega
theorem le2000 {n : Nat} (h : n ≤ 5000) : n ≤ sizeLine := Nat.le_trans h (by decide)
theorem lt2000 {n : Nat} (h : n ≤ 5000) : n < sizeLine := Nat.lt_of_le_of_lt h (by decide)
theorem atI_head {l : List Nat} {c : Nat} (h : l.head? = some c) : atI l 0 = some c := by
  cases l with
  | nil => cases h
  | cons a r => cases h; exact atI_nat (j := 0) rfl
theorem rd_why {w : Str} (h : (Txt.isascii (fig19 w) && Txt.isdigit (fig19 w)) = true) (hn : rd19 w = none) : (cl (fig19 w)).head? = some 48 ∧ w ≠ S18 "0" := by
  unfold rd19 at hn
  split at hn
  · cases hn
  · rename_i ho
    unfold ok19 at ho
    rw [h, Bool.true_and, Bool.or_eq_true, decide_eq_true_eq, decide_eq_true_eq, not_or] at ho
    exact ⟨Decidable.not_not.mp ho.1, ho.2⟩
def pl19 (c : Nat) : Nat := if 48 ≤ c ∧ c ≤ 57 then c else 32
theorem w_long {w z : Str} (h : T19 994 w) (hz : cl z = (cl w).map pl19) (hs : ∀ q ∈ Txt.split z (S18 " "), q.length ≤ 30) : ∀ p ∈ Txt.split w (S18 " "), W19 p := by
  intro p hp
  have t := split_mem h hp
  refine ⟨t.asc, by have := t.len; omega, fun hd => ?_⟩
  by_cases h0 : cl (fig19 p) = []
  · rw [cl_len, h0]; decide
  · obtain ⟨a, b, e⟩ := joinL_cut (List.mem_map_of_mem (f := cl) hp)
    rw [← cl_split] at e
    obtain ⟨a', e'⟩ : ∃ a', cl p = a' ++ cl (fig19 p) := by
      rcases strip19 p with ⟨r, h1, h2⟩ | ⟨_, h2⟩
      · exact ⟨[45], by rw [h1, show cl (fig19 p) = r from h2]; rfl⟩
      · exact ⟨[], by rw [show fig19 p = p from h2]; rfl⟩
    have hm : (cl (fig19 p)).map pl19 = cl (fig19 p) := by
      conv => rhs; rw [← List.map_id (cl (fig19 p))]
      exact List.map_congr_left fun c hc => if_pos (hd c hc)
    have ez : joinL ((Txt.split z (S18 " ")).map cl) = (a ++ a').map pl19 ++ (cl (fig19 p) ++ b.map pl19) := by
      rw [← cl_split, hz, e, e', List.map_append, List.map_append, List.map_append, List.map_append, hm, List.append_assoc, List.append_assoc]
    obtain ⟨l, hl, hle⟩ := joinL_run h0 (fun z => absurd (hd 32 z).1 (by decide)) ez
    obtain ⟨q, hq, rfl⟩ := List.mem_map.mp hl
    have := hs q hq
    rw [cl_len] at this ⊢
    omega
theorem to1_19 (w : Str) : decide (V.str (Txt.slice w none (some 1)) = V.str (S18 "-")) = decide ((cl w).head? = some 45) := by
  rw [Bool.eq_iff_iff, decide_eq_true_eq, decide_eq_true_eq]
  match hw : cl w with
  | [] =>
    have e : w = S18 "" := str_ext18 (by rw [hw]; rfl)
    subst e
    exact ⟨fun z => absurd (V.str.inj z) (by decide +kernel), fun z => by cases z⟩
  | c :: r =>
    have e : Txt.slice w none (some 1) = ⟨((w.cps.toList.drop 0).take ((1 : Int) - 0).toNat).toArray⟩ := StrLaws.sliceText_to (x := w) (j := 1) ⟨by decide, by rw [show w.cps.toList = c :: r from hw, List.length_cons]; omega⟩
    rw [e, show w.cps.toList = c :: r from hw]
    constructor
    · intro z
      have z2 := congrArg cl (V.str.inj z)
      have z3 : [c] = [45] := z2
      rw [(List.cons.inj z3).1]; rfl
    · intro z
      have : c = 45 := Option.some.inj z
      subst this
      rfl
theorem from1_19 {w : Str} (h : (cl w).head? = some 45) : Txt.slice w (some 1) none = fig19 w := by
  rcases strip19 w with ⟨r, h1, h2⟩ | ⟨h1, _⟩
  · have e : Txt.slice w (some 1) none = ⟨((w.cps.toList.drop (1 : Int).toNat).take ((w.cps.toList.length : Int) - 1).toNat).toArray⟩ := StrLaws.sliceText_from (x := w) (i := 1) ⟨by decide, by rw [show w.cps.toList = 45 :: r from h1, List.length_cons]; omega⟩
    refine str_ext18 ?_
    rw [e, show cl (fig19 w) = r from h2, show w.cps.toList = 45 :: r from h1]
    show (List.take _ r).toArray.toList = r
    rw [List.toList_toArray, List.take_of_length_le]
    rw [List.length_cons]; omega
  · exact absurd h h1
theorem fig_no {w : Str} (h : (cl w).head? ≠ some 45) : fig19 w = w := by
  rcases strip19 w with ⟨r, h1, h2⟩ | ⟨_, h1⟩
  · rw [h1] at h; exact absurd rfl h
  · exact h1
theorem asc_of {w : Str} (h : ∀ c ∈ cl w, c < 128) : Txt.isascii w = true := by
  unfold Txt.isascii
  rw [← Array.all_toList, List.all_eq_true]
  exact fun c hc => decide_eq_true (h c hc)
theorem fig_asc {w : Str} (h : ∀ c ∈ cl w, c < 128) : ∀ c ∈ cl (fig19 w), c < 128 := by
  rcases strip19 w with ⟨r, h1, h2⟩ | ⟨_, h2⟩
  · intro c hc
    rw [show cl (fig19 w) = r from h2] at hc
    exact h c (by rw [h1]; exact List.mem_cons_of_mem _ hc)
  · rw [show fig19 w = w from h2]; exact h
theorem dig_of19 {f : Str} (h : AllDigits (cl f)) (h0 : cl f ≠ []) : Txt.isdigit f = true := by
  unfold Txt.isdigit
  rw [Bool.and_eq_true, ← Array.all_toList, List.all_eq_true]
  constructor
  · refine decide_eq_true ?_
    rw [cl_len]
    exact List.length_pos_iff.mpr h0
  · intro c hc
    have h := h c hc
    have : ∀ d, d < 10 → Unicode.isDigit (48 + d) = true := by decide +kernel
    have e := this (c - 48) (by omega)
    rwa [show 48 + (c - 48) = c by omega] at e
theorem rd_none1 {w : Str} (h : ¬ (AllDigits (cl (fig19 w)) ∧ cl (fig19 w) ≠ [])) : rd19 w = none := by
  unfold rd19
  rw [if_neg]
  intro z
  obtain ⟨a, b, _⟩ := ok_parts z
  exact h (digs19 a b)
theorem rd_none2 {w : Str} (h : w = S18 "-0" ∨ (1 < (fig19 w).length ∧ (cl (fig19 w)).head? = some 48)) : rd19 w = none := by
  rcases h with rfl | ⟨h1, h2⟩
  · decide +kernel
  · unfold rd19
    rw [if_neg]
    intro z
    obtain ⟨_, _, c⟩ := ok_parts z
    have e := c h2
    subst e
    exact absurd h1 (by decide +kernel)
theorem rd_good {w : Str} (W : W19 w) (h1 : AllDigits (cl (fig19 w))) (h0 : cl (fig19 w) ≠ []) (h2 : w ≠ S18 "-0") (h3 : ¬ (1 < (fig19 w).length ∧ (cl (fig19 w)).head? = some 48)) : ∃ n, rd19 w = some n ∧ intText? w = some n ∧ w.length ≤ 31 := by
  have ok : ok19 w = true := by
    unfold ok19
    rw [asc_of (fig_asc W.asc), dig_of19 h1 h0, Bool.true_and, Bool.true_and, Bool.or_eq_true, decide_eq_true_eq, decide_eq_true_eq]
    by_cases h48 : (cl (fig19 w)).head? = some 48
    · refine .inr ?_
      have hl : ¬ 1 < (fig19 w).length := fun z => h3 ⟨z, h48⟩
      rw [cl_len] at hl
      have hf : cl (fig19 w) = [48] := by
        match hq : cl (fig19 w), hl, h48 with
        | [c], _, h48 => rw [Option.some.inj h48]
        | _ :: _ :: _, hl, _ => simp at hl
      rcases strip19 w with ⟨r, e1, e2⟩ | ⟨_, e2⟩
      · exfalso
        rw [show cl (fig19 w) = r from e2] at hf
        subst hf
        exact h2 (str_ext18 (by rw [e1]; rfl))
      · rw [show fig19 w = w from e2] at hf
        exact str_ext18 (by rw [hf]; rfl)
    · exact .inl h48
  have hl := W.few h1
  refine ⟨val19 w, by unfold rd19; rw [if_pos ok], ?_, ?_⟩
  · unfold val19
    rcases strip19 w with ⟨r, e1, e2⟩ | ⟨e1, e2⟩
    · rw [if_pos (by rw [e1]; rfl), show cl (fig19 w) = r from e2]
      rw [show cl (fig19 w) = r from e2] at h1 h0
      exact intText_neg e1 h1 h0 (by have := W.len; omega)
    · rw [if_neg e1, show fig19 w = w from e2]
      rw [show fig19 w = w from e2] at h1 h0
      exact intText_digits h1 h0 (by have := W.len; omega)
  · rcases strip19 w with ⟨r, e1, e2⟩ | ⟨e1, e2⟩
    · rw [cl_len, show cl (fig19 w) = r from e2] at hl
      rw [cl_len, e1, List.length_cons]; omega
    · rw [show fig19 w = w from e2] at hl; omega
theorem lr_bd {w : Str} {d : Deed} (hw : ∀ p ∈ Txt.split w (S18 " "), W19 p) (h : lr19 w = some d) : d.Bd (10 ^ 61) := by
  obtain ⟨od, rfl⟩ := lr_some h
  cases he : (prs18 d).isEmpty with
  | true => rw [prs_look he]; exact ⟨by decide, (fun l z => by cases z), fun l z => by cases z⟩
  | false =>
    rw [txt_split he] at hw
    have hb : ∀ p ∈ prs18 d, -(10 ^ 61) ≤ p.2 ∧ p.2 ≤ 10 ^ 61 := fun p hp => rd_bd (hw (num18 p.2) (List.mem_flatMap.mpr ⟨p, hp, by simp⟩)) (rd_num p.2)
    by_cases hset : d.lo ≠ none ∧ d.lo = d.hi
    · have e : prs18 d = [(S18 "set", d.lo.getD 0)] := if_pos hset
      have hb' := hb (S18 "set", d.lo.getD 0) (by rw [e]; exact List.mem_singleton.mpr rfl)
      obtain ⟨ad, lo, hi⟩ := d
      cases lo with
      | none => exact absurd rfl hset.1
      | some z =>
        have eh : hi = some z := hset.2.symm
        subst eh
        have ha : ad = 0 := by
          rcases od z z rfl rfl with c | ⟨_, c⟩
          · omega
          · exact c
        subst ha
        exact ⟨(show (-(10 ^ 61) : Int) ≤ 0 ∧ (0 : Int) ≤ 10 ^ 61 by decide), (fun l z => by cases z; exact hb'), fun l z => by cases z; exact hb'⟩
    · rw [prs_not hset] at hb
      obtain ⟨ad, lo, hi⟩ := d
      refine ⟨?_, fun l hl => ?_, fun u hu => ?_⟩
      · by_cases ha : ad = 0
        · rw [show (⟨ad, lo, hi⟩ : Deed).add = 0 from ha]; decide
        · exact hb (S18 "add", ad) (List.mem_append_left _ (List.mem_append_left _ (by unfold p1_18; rw [if_neg ha]; exact List.mem_singleton.mpr rfl)))
      · have hl' : lo = some l := hl
        subst hl'
        exact hb (S18 "low", l) (List.mem_append_left _ (List.mem_append_right _ (List.mem_singleton.mpr rfl)))
      · have hu' : hi = some u := hu
        subst hu'
        exact hb (S18 "high", u) (List.mem_append_right _ (List.mem_singleton.mpr rfl))
def rIsiT19 (K : PySem.W.Frag) : List V → Hp → VK → Prop := fun xs H Q => ∃ (a C t : Addr) (cs : List Addr), xs = [.ref a, .ref t] ∧ H a = some (ExO a C) ∧ SqT K H t (cs.map V.ref) ∧ ExcK K C ∧ (∀ c ∈ cs, PySem.W.kitOne K (.ref C) (.ref c) = some false) ∧ Q (.bl false) H
theorem kit_no {K : PySem.W.Frag} {t : Value} : ∀ {cs : List Addr} {us : List Value}, Vals (cs.map V.ref) us → (∀ c ∈ cs, PySem.W.kitOne K t (.ref c) = some false) → PySem.W.kitAny K t us = some false
  | [], _, .nil, _ => rfl
  | c :: cs, u :: us, .cons r rr, h => by
    cases (show u = Value.ref c from r)
    unfold PySem.W.kitAny
    rw [h c (List.mem_cons_self ..)]
    exact kit_no rr fun x hx => h x (List.mem_cons_of_mem _ hx)
theorem call_isiT19 {X : Cx} {K : PySem.W.Frag} (hK : X.K = K) : CallR X (.builtin "isinstance") (rIsiT19 K) := by
  subst hK
  intro pins s σ H xs us Q I r h
  obtain ⟨a, C, t, cs, rfl, hH, ht, F, e, q⟩ := h
  obtain ⟨u, w', rfl, rx, ry⟩ := vals2 r
  cases (show u = Value.ref a from rx)
  cases (show w' = Value.ref t from ry)
  obtain ⟨its, rr, ⟨⟨oc, od, odat, osl⟩, ho, hc, n, hd⟩, _⟩ := I.tuple ht
  cases hc
  cases hd
  exact PySem.W.kia_tup (kitx_exc F) I.kIn (I.hok a _ hH).1 ho (kit_no rr e) (fun z => nomatch z) fun tk => ⟨.bl false, H, I.tok _, rfl, q⟩
theorem mt_indexS19 {X : Cx} {K : PySem.W.Frag} (hK : X.K = K) : MtR X "list.index" (fun x vs H Q => ∃ (l : Addr) (ts : List Str) (j : Str), x = .ref l ∧ vs = [.str j] ∧ SqL K H l (ts.map V.str) ∧ j ∈ ts ∧ ts.length ≤ 1000 ∧ Q (.int (ts.idxOf j : Nat)) H) := by
  subst hK
  intro pins s σ H x vs v us Q I rx rv h
  obtain ⟨l, ts, j, rfl, rfl, hq, hj, hl, q⟩ := h
  cases rx
  obtain ⟨u, rfl, t, rfl⟩ := vals1 rv
  obtain ⟨its, r, ⟨o, n, ho, hc, hdi, hd⟩, hz⟩ := I.list hq
  obtain ⟨oc, od, oda, osl⟩ := o
  cases hc
  cases hd
  have hlen := r.length
  rw [List.length_map] at hlen
  have hp := List.idxOf_lt_length_of_mem hj
  have hjj : ∀ m (hm : m < its.toArray.size) (hb : m < ts.length), ∃ t, its.toArray[m] = .str ts[m] t := fun m hm hb => by
    have hm' : m < its.length := by simpa using hm
    have e1 : (ts.map V.str)[m]? = some (.str ts[m]) := by rw [List.getElem?_map, List.getElem?_eq_getElem hb]; rfl
    obtain ⟨u, hu, t, rfl⟩ := r.get e1
    rw [List.getElem?_eq_getElem hm'] at hu
    exact ⟨t, by simpa using Option.some.inj hu⟩
  have key : ∀ (p : Nat), p = ts.idxOf j → wpAny (model X.prog X.w) X.A (call (.builtin "list.index") (.ref l :: [.str j t])) (EP X pins σ Q) X.xe s := by
    intro p hpp
    have hp' : p < its.toArray.size := by simp; omega
    refine call_meets F.slot_list_index ⟨_, ho, rfl⟩ F.entry_list_index (F.args_list_index_2 _ _)
      (SeqAt.list_indexAt l its.toArray n od osl (.str j t) (fun v => match v with | .str a _ => a == j | _ => false) p hp' (by have := hp'; simp at this; omega) ?_ ?_) ⟨ho, ?_, ?_⟩
    · obtain ⟨t', e⟩ := hjj p hp' (by rw [hpp]; exact hp)
      rw [e]
      show (ts[p]'_ == j) = true
      have : ts[p]'(by rw [hpp]; exact hp) = j := by
        subst hpp
        exact List.getElem_idxOf hp
      rw [this]; exact beq_self_eq_true _
    · intro m hm hlt
      have hm' : m < ts.length := by rw [hlen]; simpa using hm
      obtain ⟨t', e⟩ := hjj m hm hm'
      rw [e]
      show (ts[m] == j) = false
      have := List.not_of_lt_findIdx (p := (· == j)) (xs := ts) (i := m) (by rw [hpp] at hlt; exact hlt)
      simpa using this
    · intro y hy
      obtain ⟨m, hm, rfl⟩ := List.getElem_of_mem (by simpa using hy : y ∈ its)
      obtain ⟨t', e⟩ := hjj m (by simpa using hm) (by omega)
      have e' : its[m] = .str (ts[m]'(by omega)) t' := by simpa using e
      rw [e']
      exact SeqAt.EqAt.str_str _ _ _ _
    · exact ⟨.int (ts.idxOf j : Nat), H, I.tok _, ⟨_, by rw [hpp]⟩, q⟩
  exact key _ rfl
theorem occ19 : ∀ c, c < 128 → (!(!(Builtin.Str.occurrences (Str.ofString "0123456789") ⟨#[c]⟩ 0 (Str.ofString "0123456789").length 1).isEmpty)) = !decide (48 ≤ c ∧ c ≤ 57) := by decide +kernel
theorem take_snoc19 {z : Str} {i c : Nat} (h : z.cps[i]? = some c) : (cl z).take (i + 1) = (cl z).take i ++ [c] := by
  rw [List.take_succ, show (cl z)[i]? = z.cps[i]? from Array.getElem?_toList .., h]; rfl
theorem take_mem19 {z : Str} {i c : Nat} (h : z.cps[i]? = some c) : c ∈ (cl z).take (i + 1) := by rw [take_snoc19 h]; simp
def OutD (K : PySem.W.Frag) (H : Hp) (y : V) : Option Deed → Prop
  | none => y = .non
  | some d => DeedAt K H y d
def Said19 (K : PySem.W.Frag) (H : Hp) (y : V) : Option Deed → Prop
  | none => y = .str (S18 "refused")
  | some d => DeedAt K H y d
def red19 : PyData → Option Deed
  | .str w => lr19 w
  | _ => none
def D19 (dd : PyData) : Prop := ∀ w, dd = .str w → T19 994 w ∧ ∀ p ∈ Txt.split w (S18 " "), W19 p
def Prs19 (K : PySem.W.Frag) (H : Hp) (rs : List V) (ps : List (Str × Str)) : Prop := rs.length = ps.length ∧ ∀ (i : Nat) (p : Str × Str), ps[i]? = some p → ∃ t : Addr, rs[i]? = some (V.ref t) ∧ SqT K H t [V.str p.1, V.str p.2]
def sp_readW19 (_ : PySem.W.Frag) : Sp := sp1 fun x H Q => ∃ w, x = .str w ∧ W19 w ∧ Q (ov (rd19 w)) H
def sp_fig19 (_ : PySem.W.Frag) : Sp := sp1 fun x H Q => ∃ w, x = .str w ∧ W19 w ∧ ∀ H', Grow [] H H' → Q (ov (rd19 w)) H'
def sp_byw19 (K : PySem.W.Frag) : Sp := sp1 fun x H Q => ∃ ws a, x = .ref a ∧ SqL K H a (ws.map V.str) ∧ ws ≠ [] ∧ ws.length ≤ 1997 ∧ (∀ w ∈ ws, W19 w) ∧
  ∀ y H' o, Grow [] H H' → OutD K H' y o → (∀ e, o = some e → e.Bd (10 ^ 61)) → (∀ d : Deed, d.Ok → (prs18 d).isEmpty = false → ws = wds18 (prs18 d) → o = some d) → Q y H'
def sp_parts19 (K : PySem.W.Frag) : Sp := sp1 fun x H Q => ∃ a rs ps, x = .ref a ∧ SqL K H a rs ∧ Prs19 K H rs ps ∧ ps.length ≤ 1000 ∧ (∀ p ∈ ps, W19 p.2) ∧ ∀ y H', Grow [] H H' → OutD K H' y (pr19 ps) → Q y H'
def sp_read19 (K : PySem.W.Frag) : Sp := sp1 fun x H Q => ∃ dd m, Od K m H x dd ∧ D19 dd ∧ ∀ y H', Grow [] H H' → OutD K H' y (red19 dd) → Q y H'
def sp_readD19 (A : Addr) (K : PySem.W.Frag) : Sp := spX1 fun x H Q E => ∃ dd m, Od K m H x dd ∧ D19 dd ∧ (∀ y H' d, red19 dd = some d → Grow [] H H' → DeedAt K H' y d → Q y H') ∧ (red19 dd = none → ∀ e H', Grow [] H H' → E (.ref e) (some A) H')
def sp_said19 (K : PySem.W.Frag) : Sp := sp1 fun x H Q => ∃ dd m, Od K m H x dd ∧ D19 dd ∧ ∀ y H', Grow [] H H' → Said19 K H' y (red19 dd) → Q y H'
def sp_right19 (K : PySem.W.Frag) : Sp := sp1 fun x H Q => ∃ dd m, Od K m H x dd ∧ D19 dd ∧ ∀ H', Grow [] H H' → Q (.bl true) H'
def sp_long19 (_ : PySem.W.Frag) : Sp := sp1 fun x H Q => ∃ w, x = .str w ∧ T19 994 w ∧ ∀ b H', Grow [] H H' → (b = false → ∀ p ∈ Txt.split w (S18 " "), W19 p) → Q (.bl b) H'
def sp_sign19 (_ : PySem.W.Frag) : Sp := sp1 fun x H Q => ∃ a, x = .ref a ∧ Pot H a ∧ ∀ c H', c < 128 → Grow [a] H H' → Pot H' a → Q (.str ⟨#[c]⟩) H'
def sp_wch19 (_ : PySem.W.Frag) : Sp := sp2 fun x y H Q => ∃ a n w, x = .ref a ∧ y = .str w ∧ Pot H a ∧ n ≤ 490 ∧ T19 n w ∧ ∀ w' H', T19 (2 * n + 14) w' → Grow [a] H H' → Pot H' a → Q (.str w') H'
def sp_spoilt19 (_ : PySem.W.Frag) : Sp := sp2 fun x y H Q => ∃ a w, x = .ref a ∧ y = .str w ∧ Pot H a ∧ T19 112 w ∧ ∀ w' H', T19 994 w' → Grow [a] H H' → Pot H' a → Q (.str w') H'
end L3

namespace L3
open PySem PySem.Spec PyProof.Rows L2 PySem.NumText
theorem pick_map19 {α β : Type} (f : α → β) (ks : List Nat) (xs : List α) : pickV ks (xs.map f) = (pickV ks xs).map f := by
  unfold pickV
  induction ks with
  | nil => rfl
  | cons k ks ih =>
    rw [List.filterMap_cons, List.filterMap_cons, List.getElem?_map]
    cases xs[k]? with
    | none => exact ih
    | some x => exact congrArg (f x :: ·) ih
theorem pick_mem19 {α : Type} {ks : List Nat} {xs : List α} {x : α} (h : x ∈ pickV ks xs) : x ∈ xs := by
  obtain ⟨k, _, hk⟩ := List.mem_filterMap.mp h
  exact List.mem_of_getElem? hk
theorem pick_all19 {α : Type} {xs : List α} : ∀ {ks : List Nat}, (∀ k ∈ ks, k < xs.length) → (pickV ks xs).length = ks.length
  | [], _ => rfl
  | k :: ks, h => by
    have i := pick_all19 (xs := xs) (ks := ks) fun j hj => h j (List.mem_cons_of_mem _ hj)
    unfold pickV at i ⊢
    rw [List.filterMap_cons, List.getElem?_eq_getElem (h k (List.mem_cons_self ..))]
    exact congrArg (· + 1) i
def os19 (ws : List Str) : List Str := pickV (evIx 1 ws.length) ws
def es19 (ws : List Str) : List Str := pickV (evIx 0 ws.length) ws
theorem os_len (ws : List Str) : (os19 ws).length = ws.length / 2 := by
  unfold os19
  rw [pick_all19]
  · unfold evIx; rw [List.length_map, List.length_range]; omega
  · intro k hk
    obtain ⟨j, hj, rfl⟩ := List.mem_map.mp hk
    have := List.mem_range.mp hj
    omega
theorem es_len (ws : List Str) : (es19 ws).length = (ws.length + 1) / 2 := by
  unfold es19
  rw [pick_all19]
  · unfold evIx; rw [List.length_map, List.length_range]; omega
  · intro k hk
    obtain ⟨j, hj, rfl⟩ := List.mem_map.mp hk
    have := List.mem_range.mp hj
    omega
theorem os_str (ws : List Str) : pickV (evIx 1 (ws.map V.str).length) (ws.map V.str) = (os19 ws).map V.str := by rw [pick_map19, List.length_map]; rfl
theorem es_str (ws : List Str) : pickV (evIx 0 (ws.map V.str).length) (ws.map V.str) = (es19 ws).map V.str := by rw [pick_map19, List.length_map]; rfl
theorem mapstr_inj : ∀ {a b : List Str}, a.map V.str = b.map V.str → a = b
  | [], [], _ => rfl
  | [], _ :: _, h => by cases h
  | _ :: _, [], h => by cases h
  | x :: a, y :: b, h => by
    obtain ⟨h1, h2⟩ := List.cons.inj h
    rw [V.str.inj h1, mapstr_inj h2]
theorem os_wds {ps : List (Str × Int)} (h : ps.length ≤ 3) : os19 (wds18 ps) = ps.map fun p => num18 p.2 := by
  refine mapstr_inj ?_
  rw [← os_str, pick1_18 h, List.map_map]; rfl
theorem es_wds {ps : List (Str × Int)} (h : ps.length ≤ 3) : es19 (wds18 ps) = ps.map (·.1) := by
  refine mapstr_inj ?_
  rw [← es_str, pick0_18 h]
def ns19 (ws : List Str) : List Int := (os19 ws).map fun w => (rd19 w).getD 0
theorem ns_wds {ps : List (Str × Int)} (h : ps.length ≤ 3) : ns19 (wds18 ps) = ps.map (·.2) := by
  unfold ns19
  rw [os_wds h, List.map_map]
  refine List.map_congr_left fun p _ => ?_
  show (rd19 (num18 p.2)).getD 0 = p.2
  rw [rd_num]; rfl
def bad19 (ws : List Str) : Bool := ((os19 ws).any fun w => (rd19 w).isNone) || !decide (ws.length = 2 * (os19 ws).length)
theorem bad_wds {ps : List (Str × Int)} (h : ps.length ≤ 3) : bad19 (wds18 ps) = false := by
  unfold bad19
  rw [os_wds h, Bool.or_eq_false_iff]
  constructor
  · rw [List.any_map, List.any_eq_false]
    intro p _
    show ¬ (rd19 (num18 p.2)).isNone = true
    rw [rd_num]; intro z; cases z
  · rw [wds_len, List.length_map, decide_eq_true rfl]; rfl
theorem flat_ov19 : ∀ os : List Str, (os.map fun w => ov (rd19 w)).all flatV = true
  | [] => rfl
  | w :: os => by
    rw [List.map_cons, List.all_cons, flat_ov19 os]
    cases rd19 w <;> rfl
theorem in_non19 : ∀ os : List Str, inV .non (os.map fun w => ov (rd19 w)) = os.any fun w => (rd19 w).isNone
  | [] => rfl
  | w :: os => by
    have := in_non19 os
    unfold inV at this ⊢
    rw [List.map_cons, List.any_cons, List.any_cons, this]
    cases rd19 w <;> rfl
theorem ints19 : ∀ {os : List Str}, (os.any fun w => (rd19 w).isNone) = false → (os.map fun w => ov (rd19 w)) = (os.map fun w => (rd19 w).getD 0).map V.int
  | [], _ => rfl
  | w :: os, h => by
    rw [List.any_cons, Bool.or_eq_false_iff] at h
    rw [List.map_cons, ints19 h.2, List.map_cons, List.map_cons]
    cases hw : rd19 w with
    | none => rw [hw] at h; exact absurd h.1 (by decide)
    | some n => rfl
theorem ns_bd {ws : List Str} (h : ∀ w ∈ ws, W19 w) : ∀ n ∈ ns19 ws, -(10 ^ 61) ≤ n ∧ n ≤ 10 ^ 61 := by
  intro n hn
  obtain ⟨w, hw, rfl⟩ := List.mem_map.mp hn
  cases hr : rd19 w with
  | none => exact ⟨by decide, by decide⟩
  | some m => exact rd_bd (h w (pick_mem19 hw)) hr
def gI19 (D : List (Key × V)) (k : Key) : Option Int := match valV D k with
  | some (.int i) => some i
  | _ => none
theorem vz_go {ns : List Int} : ∀ (l : List (Str × V)) (D : List (Key × V)), (∀ p ∈ l, ∃ i ∈ ns, p.2 = V.int i) → (∀ k v, valV D k = some v → ∃ i ∈ ns, v = V.int i) → ∀ k v, valV (l.foldl (fun d p => putK d (Sum.inr p.1) p.2) D) k = some v → ∃ i ∈ ns, v = V.int i
  | [], D, _, hD => hD
  | p :: l, D, hl, hD => by
    refine vz_go l _ (fun q hq => hl q (List.mem_cons_of_mem _ hq)) fun k v h => ?_
    rw [valV_put] at h
    split at h
    · rw [← Option.some.inj h]; exact hl p (List.mem_cons_self ..)
    · exact hD k v h
theorem vz_int {es : List Str} {ns : List Int} {k : Key} {v : V} (h : valV (putsZ es (ns.map V.int)) k = some v) : ∃ i ∈ ns, v = V.int i := by
  refine vz_go (ns := ns) (es.zip (ns.map V.int)) [] (fun p hp => ?_) (fun k v h => by cases h) k v h
  obtain ⟨i, hi, e⟩ := List.mem_map.mp (List.of_mem_zip hp).2
  exact ⟨i, hi, e.symm⟩
theorem gI_val (es : List Str) (ns : List Int) (k : Key) : valV (putsZ es (ns.map V.int)) k = (gI19 (putsZ es (ns.map V.int)) k).map V.int := by
  unfold gI19
  cases h : valV (putsZ es (ns.map V.int)) k with
  | none => rfl
  | some v => obtain ⟨i, _, rfl⟩ := vz_int h; rfl
theorem gI_mem {es : List Str} {ns : List Int} {k : Key} {i : Int} (h : gI19 (putsZ es (ns.map V.int)) k = some i) : i ∈ ns := by
  have e := gI_val es ns k
  rw [h] at e
  obtain ⟨j, hj, z⟩ := vz_int e
  rw [V.int.inj z]; exact hj
def dz19 (es : List Str) (ns : List Int) : Deed := ⟨(gI19 (putsZ es (ns.map V.int)) (Sum.inr (S18 "add"))).getD 0, gI19 (putsZ es (ns.map V.int)) (Sum.inr (S18 "low")), gI19 (putsZ es (ns.map V.int)) (Sum.inr (S18 "high"))⟩
theorem dz_add (es : List Str) (ns : List Int) : (valV (putsZ es (ns.map V.int)) (Sum.inr (S18 "add"))).getD (.int 0) = .int (dz19 es ns).add := by
  rw [gI_val]
  show _ = V.int ((gI19 _ _).getD 0)
  cases gI19 (putsZ es (ns.map V.int)) (Sum.inr (S18 "add")) <;> rfl
theorem dz_low (es : List Str) (ns : List Int) : (valV (putsZ es (ns.map V.int)) (Sum.inr (S18 "low"))).getD .non = ov (dz19 es ns).lo := by
  rw [gI_val]
  show _ = ov (gI19 _ _)
  cases gI19 (putsZ es (ns.map V.int)) (Sum.inr (S18 "low")) <;> rfl
theorem dz_high (es : List Str) (ns : List Int) : (valV (putsZ es (ns.map V.int)) (Sum.inr (S18 "high"))).getD .non = ov (dz19 es ns).hi := by
  rw [gI_val]
  show _ = ov (gI19 _ _)
  cases gI19 (putsZ es (ns.map V.int)) (Sum.inr (S18 "high")) <;> rfl
theorem dz_bd {es : List Str} {ns : List Int} (h : ∀ n ∈ ns, -(10 ^ 61) ≤ n ∧ n ≤ 10 ^ 61) : (dz19 es ns).Bd (10 ^ 61) := by
  refine ⟨?_, fun l hl => h l (gI_mem hl), fun u hu => h u (gI_mem hu)⟩
  show -(10 ^ 61) ≤ (gI19 _ _).getD 0 ∧ (gI19 _ _).getD 0 ≤ 10 ^ 61
  cases hg : gI19 (putsZ es (ns.map V.int)) (Sum.inr (S18 "add")) with
  | none => exact ⟨by decide, by decide⟩
  | some i => exact h i (gI_mem hg)
theorem ov_inj19 {a b : Option Int} (z : ov a = ov b) : a = b := by
  cases a <;> cases b <;> first | rfl | (cases z; rfl) | (cases z; done)
theorem dz_wds (d : Deed) : dz19 ((p3_18 d).map (·.1)) ((p3_18 d).map (·.2)) = d := by
  obtain ⟨ad, lo, hi⟩ := d
  have e : ((p3_18 ⟨ad, lo, hi⟩).map (·.2)).map V.int = (p3_18 ⟨ad, lo, hi⟩).map fun p => V.int p.2 := by rw [List.map_map]; rfl
  have g1 := dz_add ((p3_18 ⟨ad, lo, hi⟩).map (·.1)) ((p3_18 ⟨ad, lo, hi⟩).map (·.2))
  have g2 := dz_low ((p3_18 ⟨ad, lo, hi⟩).map (·.1)) ((p3_18 ⟨ad, lo, hi⟩).map (·.2))
  have g3 := dz_high ((p3_18 ⟨ad, lo, hi⟩).map (·.1)) ((p3_18 ⟨ad, lo, hi⟩).map (·.2))
  rw [e, get_add] at g1
  rw [e, get_low] at g2
  rw [e, get_high] at g3
  have h1 := V.int.inj g1
  have h2 := ov_inj19 g2
  have h3 := ov_inj19 g3
  generalize dz19 _ _ = z at h1 h2 h3 ⊢
  obtain ⟨a, b, c⟩ := z
  rw [h1, h2, h3]
theorem set_wds {d : Deed} (od : d.Ok) (he : (prs18 d).isEmpty = false) (h : (wds18 (prs18 d))[0]? = some (S18 "set")) : ∃ z, d = ⟨0, some z, some z⟩ ∧ prs18 d = [(S18 "set", z)] := by
  by_cases hset : d.lo ≠ none ∧ d.lo = d.hi
  · have e : prs18 d = [(S18 "set", d.lo.getD 0)] := if_pos hset
    obtain ⟨ad, lo, hi⟩ := d
    cases lo with
    | none => exact absurd rfl hset.1
    | some z =>
      have eh : hi = some z := hset.2.symm
      subst eh
      have ha : ad = 0 := by
        rcases od z z rfl rfl with c | ⟨_, c⟩
        · omega
        · exact c
      subst ha
      exact ⟨z, rfl, e⟩
  · exfalso
    rw [prs_not hset] at he h
    obtain ⟨p, r, ep, hne⟩ := first_not_set he
    rw [ep] at h
    exact (of_decide_eq_false hne) (congrArg V.str (Option.some.inj (show some p.1 = some (S18 "set") from h)))
theorem notset_wds {d : Deed} (h : (wds18 (prs18 d))[0]? ≠ some (S18 "set")) : prs18 d = p3_18 d := by
  by_cases hset : d.lo ≠ none ∧ d.lo = d.hi
  · have e : prs18 d = [(S18 "set", d.lo.getD 0)] := if_pos hset
    rw [e] at h
    exact absurd rfl h
  · exact prs_not hset
theorem Grow.setK19 {m : List Addr} {H : Hp} {p : Addr} {xs : List (Key × V)} (h : H p = some (.dK xs)) (hm : p ∈ m) (ys : List (Key × V)) : Grow m H (upd H p (.dK ys)) :=
  ⟨fun b u hb q => by rw [upd_ne (show b ≠ p from fun z => hb (by rw [z]; exact hm))]; exact q, fun b zs q => by rw [upd_ne (fun z => by subst z; rw [h] at q; cases q)]; exact q, fun b u v q => by rw [upd_ne (fun z => by subst z; rw [h] at q; cases q)]; exact q⟩

def dc19 (d : Deed) : List (Key × V) := [(Sum.inr (S18 "add"), .int d.add), (Sum.inr (S18 "low"), ov d.lo), (Sum.inr (S18 "high"), ov d.hi)]
def lf19 (j : Nat) : List Str := [S18 "add", S18 "low", S18 "high"].drop j
def tst19 (j : Nat) (k : Str) (o : Option Int) : Bool := !decide (k ∈ lf19 j) || (o.isNone || (decide (k = S18 "add") && decide (o = some 0)))
theorem inV_str19 {k : Str} {ts : List Str} : inV (V.str k) (ts.map V.str) = decide (k ∈ ts) := by
  unfold inV
  rw [Bool.eq_iff_iff, List.any_eq_true, decide_eq_true_iff]
  constructor
  · rintro ⟨y, hy, e⟩
    obtain ⟨i, hi, rfl⟩ := List.mem_map.mp hy
    have e' : (i == k) = true := e
    rw [← eq_of_beq e']; exact hi
  · intro h
    exact ⟨.str k, List.mem_map.mpr ⟨k, h, rfl⟩, (show (k == k) = true from beq_self_eq_true k)⟩
theorem put_add (n ad : Int) (lo hi : Option Int) : putK (dc19 ⟨ad, lo, hi⟩) (Sum.inr (S18 "add")) (.int n) = dc19 ⟨n, lo, hi⟩ := rfl
theorem put_low (n ad : Int) (lo hi : Option Int) : putK (dc19 ⟨ad, lo, hi⟩) (Sum.inr (S18 "low")) (.int n) = dc19 ⟨ad, some n, hi⟩ := rfl
theorem put_high (n ad : Int) (lo hi : Option Int) : putK (dc19 ⟨ad, lo, hi⟩) (Sum.inr (S18 "high")) (.int n) = dc19 ⟨ad, lo, some n⟩ := rfl
theorem lf_mem {j : Nat} {k : Str} (h : k ∈ lf19 j) : (k = S18 "add" ∧ j = 0) ∨ (k = S18 "low" ∧ j ≤ 1) ∨ (k = S18 "high" ∧ j ≤ 2) := by
  match j, h with
  | 0, h =>
    rcases List.mem_cons.mp h with e | h
    · exact .inl ⟨e, rfl⟩
    rcases List.mem_cons.mp h with e | h
    · exact .inr (.inl ⟨e, by decide⟩)
    exact .inr (.inr ⟨List.mem_singleton.mp h, by decide⟩)
  | 1, h =>
    rcases List.mem_cons.mp h with e | h
    · exact .inr (.inl ⟨e, by decide⟩)
    exact .inr (.inr ⟨List.mem_singleton.mp h, by decide⟩)
  | 2, h => exact .inr (.inr ⟨List.mem_singleton.mp h, by decide⟩)
  | n + 3, h => rw [show lf19 (n + 3) = [] from List.drop_nil] at h; cases h
theorem stp_bad {j : Nat} {d : Deed} {p : Str × Str} (hj : j ≤ 3) (h : tst19 j p.1 (rd19 p.2) = true) : stp19 (j, d) p = none := by
  unfold stp19
  cases hr : rd19 p.2 with
  | none => rfl
  | some n =>
    dsimp only
    rw [hr] at h
    unfold tst19 at h
    rw [Bool.or_eq_true, Bool.not_eq_true', decide_eq_false_iff_not, show ((some n).isNone || (decide (p.1 = S18 "add") && decide (some n = some (0 : Int)))) = (decide (p.1 = S18 "add") && decide (some n = some (0 : Int))) from rfl, Bool.and_eq_true, decide_eq_true_eq, decide_eq_true_eq] at h
    by_cases h1 : p.1 = S18 "add"
    · rw [if_pos h1, if_neg]
      rintro ⟨j0, n0⟩
      have j0' : j = 0 := j0
      subst j0'
      rcases h with h | h
      · exact h (by rw [h1]; decide)
      · exact n0 (Option.some.inj h.2)
    · have hn : p.1 ∉ lf19 j := by
        rcases h with h | h
        · exact h
        · exact absurd h.1 h1
      rw [if_neg h1]
      by_cases h2 : p.1 = S18 "low"
      · rw [if_pos h2, if_neg]
        intro hj1
        have : j = 0 ∨ j = 1 := by have : j ≤ 1 := hj1; omega
        rcases this with e | e <;> subst e <;> exact hn (by rw [h2]; decide)
      · rw [if_neg h2]
        by_cases h3 : p.1 = S18 "high"
        · rw [if_pos h3, if_neg]
          intro hj1
          have : j = 0 ∨ j = 1 ∨ j = 2 := by have : j ≤ 2 := hj1; omega
          rcases this with e | e | e <;> subst e <;> exact hn (by rw [h3]; decide)
        · rw [if_neg h3]
theorem stp_good {j : Nat} {d : Deed} {p : Str × Str} (h : tst19 j p.1 (rd19 p.2) = false) : ∃ n j' d', rd19 p.2 = some n ∧ stp19 (j, d) p = some (j', d') ∧ j' ≤ 3 ∧ p.1 ∈ lf19 j ∧ (lf19 j).drop ((lf19 j).idxOf p.1 + 1) = lf19 j' ∧ putK (dc19 d) (Sum.inr p.1) (.int n) = dc19 d' := by
  unfold tst19 at h
  rw [Bool.or_eq_false_iff, Bool.or_eq_false_iff, Bool.not_eq_false', decide_eq_true_eq] at h
  obtain ⟨hm, hi, ha⟩ := h
  obtain ⟨ad, lo, hi'⟩ := d
  cases hr : rd19 p.2 with
  | none => rw [hr] at hi; cases hi
  | some n =>
    rw [hr] at ha
    unfold stp19
    simp only [hr]
    rcases lf_mem hm with ⟨e, hj⟩ | ⟨e, hj⟩ | ⟨e, hj⟩
    · have n0 : n ≠ 0 := by
        rintro rfl
        rw [decide_eq_true e, decide_eq_true rfl] at ha
        cases ha
      subst hj
      exact ⟨n, 1, _, rfl, by rw [if_pos e, if_pos ⟨rfl, n0⟩], by decide, hm, by rw [e]; decide, by rw [e]; exact put_add n ad lo hi'⟩
    · refine ⟨n, 2, _, rfl, by rw [if_neg (by rw [e]; decide), if_pos e, if_pos hj], by decide, hm, ?_, by rw [e]; exact put_low n ad lo hi'⟩
      have : j = 0 ∨ j = 1 := by omega
      rcases this with e2 | e2 <;> subst e2 <;> rw [e] <;> decide
    · refine ⟨n, 3, _, rfl, by rw [if_neg (by rw [e]; decide), if_neg (by rw [e]; decide), if_pos e, if_pos hj], by decide, hm, ?_, by rw [e]; exact put_high n ad lo hi'⟩
      have : j = 0 ∨ j = 1 ∨ j = 2 := by omega
      rcases this with e2 | e2 | e2 <;> subst e2 <;> rw [e] <;> decide
theorem run_at {ps : List (Str × Str)} {i : Nat} {p : Str × Str} {s : Nat × Deed} (h : ps[i]? = some p) : run19 (ps.drop i) s = match stp19 s p with | none => none | some s' => run19 (ps.drop (i + 1)) s' := by
  have hi := (List.getElem?_eq_some_iff.mp h)
  obtain ⟨hlt, e⟩ := hi
  rw [List.drop_eq_getElem_cons hlt, e]
  rfl
theorem two_len : ∀ ws : List Str, (two19 ws).length = ws.length / 2
  | [] => rfl
  | [_] => by simp [two19]
  | _ :: _ :: r => by
    show (two19 r).length + 1 = (r.length + 1 + 1) / 2
    rw [two_len r]; omega
theorem two_get : ∀ {ws : List Str} {k : Nat}, k < ws.length / 2 → ∃ a b, ws[2 * k]? = some a ∧ ws[2 * k + 1]? = some b ∧ (two19 ws)[k]? = some (a, b)
  | [], _, h => absurd h (by simp)
  | [_], _, h => absurd h (by simp)
  | a :: b :: _, 0, _ => ⟨a, b, rfl, rfl, rfl⟩
  | _ :: _ :: r, k + 1, h => by
    obtain ⟨a, b, h1, h2, h3⟩ := two_get (ws := r) (k := k) (by simp only [List.length_cons] at h; omega)
    exact ⟨a, b, h1, h2, h3⟩
theorem two_mem : ∀ {ws : List Str} {p : Str × Str}, p ∈ two19 ws → p.1 ∈ ws ∧ p.2 ∈ ws
  | a :: b :: r, p, h => by
    rcases List.mem_cons.mp (show p ∈ (a, b) :: two19 r from h) with rfl | h
    · exact ⟨List.mem_cons_self .., List.mem_cons_of_mem _ (List.mem_cons_self ..)⟩
    · obtain ⟨x, y⟩ := two_mem h
      exact ⟨List.mem_cons_of_mem _ (List.mem_cons_of_mem _ x), List.mem_cons_of_mem _ (List.mem_cons_of_mem _ y)⟩
theorem Prs19.grow {K : PySem.W.Frag} {H H' : Hp} {rs : List V} {ps : List (Str × Str)} (h : Prs19 K H rs ps) (g : Grow [] H H') : Prs19 K H' rs ps := ⟨h.1, fun i p hp => by
  obtain ⟨t, a, b⟩ := h.2 i p hp
  exact ⟨t, a, g.sqT b⟩⟩
theorem occ19' : ∀ c, c < 128 → (!(Builtin.Str.occurrences (Str.ofString "0123456789") ⟨#[c]⟩ 0 (Str.ofString "0123456789").length 1).isEmpty) = decide (48 ≤ c ∧ c ≤ 57) := fun c hc => by
  have := occ19 c hc
  revert this
  cases (Builtin.Str.occurrences (Str.ofString "0123456789") ⟨#[c]⟩ 0 (Str.ofString "0123456789").length 1).isEmpty <;> cases decide (48 ≤ c ∧ c ≤ 57) <;> simp
def sg19 (cs : List Nat) : List Str := cs.map fun c => ⟨#[pl19 c]⟩
theorem join_sg : ∀ cs : List Nat, cl (Str.join (S18 "") (sg19 cs)) = cs.map pl19
  | [] => rfl
  | [c] => rfl
  | c :: d :: r => by
    show cl ((⟨#[pl19 c]⟩ : Str) ++ S18 "" ++ Str.join (S18 "") (sg19 (d :: r))) = pl19 c :: (d :: r).map pl19
    rw [cl_app, cl_app, join_sg (d :: r)]; rfl
theorem sg_ok {cs : List Nat} (h : cs.length ≤ 2000) : JoinOk (S18 "") (sg19 cs) = true := by
  unfold JoinOk
  rw [StrLaws.joinFits (B := 1)]
  · rfl
  · intro y hy
    obtain ⟨c, _, rfl⟩ := List.mem_map.mp hy
    exact Nat.le_refl _
  · have e : (S18 "").length = 0 := by decide
    have e2 : (sg19 cs).length = cs.length := List.length_map ..
    rw [e, e2]; omega
def G19 (s : Str) : Prop := s.length ≤ 100 ∧ 0 < s.length ∧ ∀ c ∈ cl s, c < 128
instance {s : Str} : Decidable (G19 s) := by unfold G19; infer_instance
theorem wt_drop_le (l : List Str) (k : Nat) : wt19 (l.drop k) ≤ wt19 l := by have := wt_take l k; omega
theorem wt_take_le (l : List Str) (k : Nat) : wt19 (l.take k) ≤ wt19 l := by have := wt_take l k; omega
theorem Ws19.mono {n k : Nat} {ws : List Str} (h : Ws19 n ws) (hk : n ≤ k) : Ws19 k ws := ⟨h.asc, Nat.le_trans h.len hk⟩
theorem ws_out {n i : Nat} {ws : List Str} (h : Ws19 n ws) : Ws19 n (ws.take i ++ ws.drop (i + 1)) := by
  refine ⟨fun w hw => ?_, ?_⟩
  · rcases List.mem_append.mp hw with h' | h'
    · exact h.asc w (List.mem_of_mem_take h')
    · exact h.asc w (List.mem_of_mem_drop h')
  · rw [wt_app]
    have h1 := wt_take ws i
    have h2 := wt_drop_le (ws.drop i) 1
    rw [List.drop_drop] at h2
    have := h.len
    omega
theorem ws_twice {n i : Nat} {ws : List Str} (h : Ws19 n ws) : Ws19 (2 * n) (ws.take (i + 1) ++ ws.drop i) := by
  refine ⟨fun w hw => ?_, ?_⟩
  · rcases List.mem_append.mp hw with h' | h'
    · exact h.asc w (List.mem_of_mem_take h')
    · exact h.asc w (List.mem_of_mem_drop h')
  · rw [wt_app]
    have h1 := wt_take_le ws (i + 1)
    have h2 := wt_drop_le ws i
    have := h.len
    omega
theorem ws_put {n i : Nat} {ws : List Str} {x : Str} (h : Ws19 n ws) (hx : x.length ≤ 12) (hc : ∀ c ∈ cl x, c < 128) : Ws19 (n + 13) (ws.take i ++ [x] ++ ws.drop (i + 1)) := by
  refine ⟨fun w hw => ?_, ?_⟩
  · rcases List.mem_append.mp hw with h' | h'
    · rcases List.mem_append.mp h' with h' | h'
      · exact h.asc w (List.mem_of_mem_take h')
      · rw [List.mem_singleton.mp h']; exact hc
    · exact h.asc w (List.mem_of_mem_drop h')
  · rw [wt_app, wt_app]
    have h1 := wt_take ws i
    have h2 := wt_drop_le (ws.drop i) 1
    rw [List.drop_drop] at h2
    have h3 : wt19 [x] = x.length + 1 := by unfold wt19; simp
    have := h.len
    omega
theorem ws_swap {n i j : Nat} {ws : List Str} {x y : Str} (h : Ws19 n ws) (hi : ws[i]? = some x) (hj : ws[j]? = some y) : Ws19 n ((ws.set i y).set j x) := by
  refine ⟨fun w hw => ?_, by rw [wt_swap hi hj]; exact h.len⟩
  rcases List.mem_or_eq_of_mem_set hw with h' | rfl
  · rcases List.mem_or_eq_of_mem_set h' with h' | rfl
    · exact h.asc w h'
    · exact h.asc _ (List.mem_of_getElem? hj)
  · exact h.asc _ (List.mem_of_getElem? hi)
theorem cut_out (ws : List Str) (i : Nat) : cutV (ws.map V.str) none (some (i : Int)) ++ cutV (ws.map V.str) (some ((i : Int) + 1)) none = (ws.take i ++ ws.drop (i + 1)).map V.str := by
  rw [show (i : Int) + 1 = ((i + 1 : Nat) : Int) from by omega, cut_pre, cut_suf, List.map_append, List.map_take, List.map_drop]
theorem cut_twice (ws : List Str) (i : Nat) : cutV (ws.map V.str) none (some ((i : Int) + 1)) ++ cutV (ws.map V.str) (some (i : Int)) none = (ws.take (i + 1) ++ ws.drop i).map V.str := by
  rw [show (i : Int) + 1 = ((i + 1 : Nat) : Int) from by omega, cut_pre, cut_suf, List.map_append, List.map_take, List.map_drop]
theorem cut_put (ws : List Str) (i : Nat) (x : Str) : cutV (ws.map V.str) none (some (i : Int)) ++ [V.str x] ++ cutV (ws.map V.str) (some ((i : Int) + 1)) none = (ws.take i ++ [x] ++ ws.drop (i + 1)).map V.str := by
  rw [show (i : Int) + 1 = ((i + 1 : Nat) : Int) from by omega, cut_pre, cut_suf, List.map_append, List.map_append, List.map_take, List.map_drop]; rfl
def so19 : List Str := [S18 "add", S18 "low", S18 "high", S18 "set", S18 "look", S18 "0", S18 "-0", S18 "00", S18 "1", S18 "-1", S18 "+1", S18 "", S18 "add 0", S18 "low 0 high 0", S18 "Add"]
theorem so_ok : ∀ x ∈ so19, x.length ≤ 12 ∧ ∀ c ∈ cl x, c < 128 := by decide +kernel
theorem pot_ne19 {H : Hp} {p r : Addr} (pp : Pot H p) (h : H r = none) : r ∉ [p] := fun z => by
  rw [List.mem_singleton.mp z] at h
  obtain ⟨_, _, e, _⟩ := pp
  rw [e] at h; cases h
def b19 : Nat → Nat
  | 0 => 112
  | n + 1 => 2 * b19 n + 14
theorem slice_mem19 {x : Str} {lo hi : Option Int} {c : Nat} (h : c ∈ cl (Txt.slice x lo hi)) : c ∈ cl x := by
  unfold Txt.slice at h
  split at h
  · exact h
  · have h' := h
    rw [show ∀ l : List Nat, cl ⟨l.toArray⟩ = l from fun l => List.toList_toArray] at h'
    obtain ⟨k, _, hk⟩ := List.mem_filterMap.mp h'
    exact Array.mem_toList_iff.mpr (Array.mem_of_getElem? hk)
theorem t_slice {n : Nat} {x : Str} {lo hi : Option Int} (h : T19 n x) : T19 n (Txt.slice x lo hi) := ⟨fun c hc => h.asc c (slice_mem19 hc), Nat.le_trans (Txt.slice_le x _ _) h.len⟩
theorem t_app {n k : Nat} {x y : Str} (h : T19 n x) (h' : T19 k y) : T19 (n + k) (x ++ y) := by
  refine ⟨fun c hc => ?_, by rw [Str.length_append]; have := h.len; have := h'.len; omega⟩
  rw [cl_app] at hc
  rcases List.mem_append.mp hc with z | z
  · exact h.asc c z
  · exact h'.asc c z
theorem red_some {dd : PyData} {d : Deed} (h : red19 dd = some d) : ∃ w, dd = .str w ∧ lr19 w = some d := by
  cases dd <;> first | exact ⟨_, rfl, h⟩ | cases h
theorem ref_show : (PyData.str (S18 "refused")).showable = true ∧ (PyData.str (S18 "refused")).depth ≤ 60 ∧ (PyData.str (S18 "refused")).shown.length ≤ sizeLine := ⟨rfl, Nat.zero_le _, by decide +kernel⟩
theorem d_lit {w : Str} (h : w.length ≤ 30 ∧ ∀ c ∈ cl w, c < 128) : D19 (.str w) := fun z e => by
  cases e
  exact ⟨(T19.mk h.2 h.1).mono (by decide), fun p hp => w_short ⟨h.2, h.1⟩ hp⟩
def isS19 : PyData → Bool
  | .str _ => true
  | _ => false
theorem kit_str19 {K : PySem.W.Frag} (d : PyData) : PySem.W.kitOne K (.type (tyD d)) (.type "str") = some (isS19 d) := by cases d <;> rfl
theorem is_no {dd : PyData} (h : isS19 dd = false) : red19 dd = none := by
  cases dd <;> first | rfl | cases h
theorem d_odd {d : PyData} (h : isS19 d = false) : D19 d := fun w e => by rw [e] at h; cases h
def odd19 : List PyData := [.none, .int 7, .bool true, .tuple [.str (S18 "look")], .list [.str (S18 "look")], .tuple [.int 0, .none, .none], .int 0, .dict []]
theorem odd_no : ∀ {d : PyData}, d ∈ odd19 → isS19 d = false := by
  intro d h
  simp only [odd19, List.mem_cons, List.mem_nil_iff, or_false] at h
  rcases h with rfl | rfl | rfl | rfl | rfl | rfl | rfl | rfl <;> rfl
theorem pick19 {K : PySem.W.Frag} {p : Addr} {Ha H' : Hp} {x1 : V} {n : Nat} (o : Od K [p] Ha x1 (.list odd19)) (g : Grow [p] Ha H') (hn : n < 8) : ∃ (l : Addr) (ys : List V) (x : V) (d : PyData), x1 = .ref l ∧ SqL K H' l ys ∧ ys[n]? = some x ∧ Od K [p] H' x d ∧ isS19 d = false := by
  obtain ⟨l, ys, rfl, hl, nl, _, os⟩ := o.inv_lst
  have yl := os.length
  have yl' : ys.length = 8 := yl
  obtain ⟨x, hx⟩ : ∃ x, ys[n]? = some x := ⟨_, List.getElem?_eq_getElem (by omega)⟩
  obtain ⟨d, hd, od⟩ := os.get hx
  exact ⟨l, ys, x, d, rfl, SqL.of (g.keep _ _ nl hl), hx, od.grow g, odd_no (List.mem_of_getElem? hd)⟩
theorem od_str {K : PySem.W.Frag} {m : List Addr} {H : Hp} {x : V} {dd : PyData} (h : Od K m H x dd) (hs : isS19 dd = true) : ∃ w, dd = .str w ∧ x = .str w := by
  cases h <;> first | exact ⟨_, rfl, rfl⟩ | cases hs
theorem tup_no {d : Deed} (h : ¬ d.Ok) : tupDeed d.vs = false := by
  cases ht : tupDeed d.vs with
  | false => rfl
  | true =>
    refine absurd (fun l u h1 h2 => ?_) h
    obtain ⟨ad, lo, hi⟩ := d
    have e1 : lo = some l := h1
    have e2 : hi = some u := h2
    subst e1 e2
    have : (decide (l < u) || (decide (l = u) && decide (ad = 0))) = true := ht
    rw [Bool.or_eq_true, Bool.and_eq_true, decide_eq_true_eq, decide_eq_true_eq, decide_eq_true_eq] at this
    exact this
theorem split_len19 {w : Str} {n : Nat} (h : T19 n w) : (Txt.split w (S18 " ")).length ≤ n + 1 := by
  have := wt_len (Txt.split w (S18 " "))
  rw [wt_split] at this
  have := h.len
  omega
theorem kn_vs {K : PySem.W.Frag} {H : Hp} {d : Deed} : ∀ y ∈ d.vs, Kn K H y := by
  intro y hy
  rcases List.mem_cons.mp hy with rfl | hy
  · exact kn_int
  rcases List.mem_cons.mp hy with rfl | hy
  · exact kn_ov _
  rcases List.mem_cons.mp hy with rfl | hy
  · exact kn_ov _
  cases hy
end L3

namespace My
open PySem PySem.Spec PyProof.Rows L2 L3
def top (i : Nat) : Stmt := PySem.Challenge.pw_joinedasks_k19_whole_texts_spoilt.main.body.getD i (.Pass ⟨0, 0, 0, 0⟩)
section
variable {P : Program} {w : World} {K : PySem.W.Frag} {mg : Str → Option Value} {base : Heap}
theorem sc_written : FnScope ["number", "rest", "pieces", "piece", "sign"] ["number"] (defScope (top 10)) := ⟨rfl, rfl, rfl, by decide +kernel, rfl, by decide +kernel, by decide +kernel⟩
set_option maxHeartbeats 0 in
theorem ok_written {n : Nat} {f : Addr} {fd : FuncData} (F : Fun K "written" "written" (top 10) f fd) (B : Blt mg)   {t_PIECE : Tok} (g_PIECE : mg "PIECE" = some (.int 10000000000000000000000000000000000000000000000000000000000000000 t_PIECE))  :
    FnOk P w K mg base CX0 (n + 1) f fd ["number"] (sp_written K) := by
  refine F.ok sc_written sp1_len (fun cdv A outer s H vs Q E hr h => ?_)
  obtain ⟨x, rfl, n, rfl, n0, n1, q⟩ := h
  refine ⟨_, (pss_cons (ps_set (i := 1) sc_written.nd rfl (Or.inl rfl) (pe_callB call_abs rfl B.abs b_abs (pa_cons (pv 0) pa_nil))) (pss_cons (ps_set (i := 2) sc_written.nd rfl (Or.inl rfl) (pe_lst pa_nil)) (pss_cons (ps_while PassesOwn.never (pt_cmpR op_ge (pv 1) (pe_glob rfl g_PIECE (show RelV (.int 10000000000000000000000000000000000000000000000000000000000000000) (.int 10000000000000000000000000000000000000000000000000000000000000000 t_PIECE) from ⟨_, rfl⟩)) (nomark _)) pss_dead) (pss_cons (ps_expr (pe_bm PySem.F.plainAttrs_list PySem.F.slot_list_append PySem.F.type_list_append mt_append (pv 2) (pa_cons (pe_callTy call_str_int rfl B.str b_str (pa_cons (pv 1) pa_nil)) pa_nil))) (pss_cons (ps_set (i := 4) sc_written.nd rfl (Or.inl rfl) (pe_ifExp (pt_cmpR op_lt (pv 0) pe_int (nomark _)) pe_str pe_str)) (pss_one (ps_ret (pe_op op_add_str (pv 4) (pe_bm PySem.F.plainAttrs_str PySem.F.slot_str_join PySem.F.type_str_join mt_join pe_str (pa_cons (pe_revL (K := K) rfl (pv 2)) pa_nil)))))))))), ?_⟩
  obtain ⟨k, hk, hk1⟩ := abs18 n0 n1
  refine ⟨_, rfl, n, rfl, ?_⟩
  rw [hk]
  refine ⟨szl rfl, fun p hp => ?_⟩
  refine ⟨fun _ σ H' => σ = [some (.int n), some (.int k), some (.ref p), none, none] ∧ H' = upd H p (.lst []), ⟨0, rfl, rfl⟩, ?_⟩
  rintro _ σ H' ⟨rfl, rfl⟩
  refine ⟨_, rfl, _, _, rfl, rfl, _, rfl, iteF' (decide_eq_false (by omega)) ?_⟩
  dsimp only
  refine ⟨_, rfl, .inl ⟨rfl, _, SqL.of upd_same⟩, _, rfl, _, rfl, lg18 (by rw [Int.natAbs_natCast]; exact hk1), p, [], _, rfl, rfl, upd_same, by decide, ?_⟩
  dsimp only
  refine c_asg (fun v H' => v = .str (if n < 0 then Str.ofString "-" else Str.ofString "") ∧ H' = upd (upd H p (.lst [])) p (.lst ([] ++ [V.str (num18 k)]))) (fun Kk hk => ⟨_, rfl, _, _, rfl, rfl, _, rfl, ?_⟩) ?_
  · by_cases hn : n < 0
    · exact iteT' (decide_eq_true hn) (hk _ _ ⟨by rw [if_pos hn], rfl⟩)
    · exact iteF' (decide_eq_false hn) (hk _ _ ⟨by rw [if_neg hn], rfl⟩)
  rintro _ _ ⟨rfl, rfl⟩
  refine ⟨_, rfl, rfl, _, rfl, p, _, rfl, SqL.of upd_same, fun r hr' => ⟨_, r, [num18 k], rfl, rfl, SqL.of upd_same, ?_, _, _, rfl, rfl, ?_, ?_⟩⟩
  · exact joinOk18 (by decide) (by intro y hy; rw [List.mem_singleton.mp hy]; have := num_len hk1; omega) (show (1 : Nat) ≤ 10 by decide)
  · have h1 : (if n < 0 then Str.ofString "-" else Str.ofString "").length ≤ 1 := by split <;> decide
    have h2 := num_len hk1
    have h3 : (Str.join (Str.ofString "") [num18 k]) = num18 k := rfl
    rw [h3]
    exact Nat.le_of_lt (small1000 (by omega))
  have h3 : (Str.join (Str.ofString "") [num18 k]) = num18 k := rfl
  have hnum : (if n < 0 then Str.ofString "-" else Str.ofString "") ++ num18 k = num18 n := by rw [← hk]; exact num_sign n
  rw [h3, hnum]
  exact q _ (Grow.shrink hp ((Grow.new hp _).trans ((Grow.set upd_same (by simp) _).trans (Grow.new hr' _))))
theorem sc_is_whole : FnScope ["thing"] ["thing"] (defScope (top 9)) := ⟨rfl, rfl, rfl, by decide +kernel, rfl, by decide +kernel, by decide +kernel⟩
set_option maxHeartbeats 0 in
theorem ok_is_whole {n : Nat} {f : Addr} {fd : FuncData} (F : Fun K "is_whole" "is_whole" (top 9) f fd) (B : Blt mg)     :
    FnOk P w K mg base CX0 (n + 1) f fd ["thing"] (sp_is_whole K) := by
  refine F.ok sc_is_whole sp1_len (fun cdv A outer s H vs Q E hr h => ?_)
  obtain ⟨x, rfl, ⟨T, ty⟩, q⟩ := h
  refine ⟨_, (pss_one (ps_ret (pe_and (pe_callB call_isi rfl B.isinstance b_isinstance (pa_cons (pv 0) (pa_cons (pe_tyn rfl B.int b_int) pa_nil))) (pe_one (pe_not (pe_callB call_isi rfl B.isinstance b_isinstance (pa_cons (pv 0) (pa_cons (pe_tyn rfl B.bool b_bool) pa_nil)))))))), ?_⟩
  cases x with
  | non => cases (show T = "NoneType" from ty); exact ⟨_, rfl, _, _, _, false, rfl, rfl, rfl, _, rfl, iteF q⟩
  | bl y => cases (show T = "bool" from ty); exact ⟨_, rfl, _, _, _, true, rfl, rfl, rfl, _, rfl, iteT ⟨_, rfl, _, _, _, true, rfl, rfl, rfl, _, rfl, q⟩⟩
  | int i => cases (show T = "int" from ty); exact ⟨_, rfl, _, _, _, true, rfl, rfl, rfl, _, rfl, iteT ⟨_, rfl, _, _, _, false, rfl, rfl, rfl, _, rfl, q⟩⟩
  | str y => cases (show T = "str" from ty); exact ⟨_, rfl, _, _, _, false, rfl, rfl, rfl, _, rfl, iteF q⟩
  | byt y => exact ty.elim
  | flt y => exact ty.elim
  | ty y => exact ty.elim
  | ref a =>
    rcases ty with ⟨rfl, xs, hq⟩ | ⟨rfl, xs, hq⟩ | ⟨rfl, kvs, hq⟩
    · exact ⟨_, rfl, _, _, _, false, rfl, .inl ⟨rfl, xs, hq⟩, rfl, _, rfl, iteF q⟩
    · exact ⟨_, rfl, _, _, _, false, rfl, .inr (.inl ⟨rfl, xs, hq⟩), rfl, _, rfl, iteF q⟩
    · exact ⟨_, rfl, _, _, _, false, rfl, .inr (.inr ⟨rfl, kvs, hq⟩), rfl, _, rfl, iteF q⟩
theorem sc_is_end : FnScope ["thing"] ["thing"] (defScope (top 14)) := ⟨rfl, rfl, rfl, by decide +kernel, rfl, by decide +kernel, by decide +kernel⟩
set_option maxHeartbeats 0 in
theorem ok_is_end {n : Nat} {f : Addr} {fd : FuncData} (F : Fun K "is_end" "is_end" (top 14) f fd) (B : Blt mg) (c_is_whole : Callee P w K mg base n "is_whole" ["thing"] (sp_is_whole K))    :
    FnOk P w K mg base CX0 (n + 1) f fd ["thing"] (sp_is_end K) := by
  refine F.ok sc_is_end sp1_len (fun cdv A outer s H vs Q E hr h => ?_)
  obtain ⟨x, rfl, kn, q⟩ := h
  refine ⟨_, (pss_one (ps_ret (pe_or (pe_cmp (pc_isN (pv 0))) (pe_one (pe_callC c_is_whole hr rfl (pa_cons (pv 0) pa_nil)))))), ?_⟩
  refine ⟨x, rfl, _, rfl, ?_⟩
  cases x with
  | non => exact iteT q
  | _ => exact iteF ⟨_, rfl, _, rfl, kn, q⟩
theorem sc_is_deed : FnScope ["thing", "add", "low", "high"] ["thing"] (defScope (top 15)) := ⟨rfl, rfl, rfl, by decide +kernel, rfl, by decide +kernel, by decide +kernel⟩
set_option maxHeartbeats 0 in
theorem ok_is_deed {n : Nat} {f : Addr} {fd : FuncData} (F : Fun K "is_deed" "is_deed" (top 15) f fd) (B : Blt mg) (c_is_end : Callee P w K mg base n "is_end" ["thing"] (sp_is_end K)) (c_is_whole : Callee P w K mg base n "is_whole" ["thing"] (sp_is_whole K))    :
    FnOk P w K mg base CX0 (n + 1) f fd ["thing"] (sp_is_deed K) := by
  refine F.ok sc_is_deed sp1_len (fun cdv A outer s H vs Q E hr h => ?_)
  obtain ⟨x, rfl, h⟩ := h
  refine ⟨_, (pss_cons (ps_if (PW.pt (pw_or (pt_not (pt_val (pe_callB call_isi rfl B.isinstance b_isinstance (pa_cons (pv 0) (pa_cons (pe_tyn rfl B.tuple b_tuple) pa_nil))))) (pw_or1 (pt_cmpR op_ne (pe_callB call_len_seq rfl B.len b_len (pa_cons (pv 0) pa_nil)) pe_int (nomark _))))) (pss_one (ps_ret pe_bl)) pss_nil) (pss_cons (ps_asg (pv 0) (pg_tup rfl (pgs_cons (pg_name (i := 1) sc_is_deed.nd rfl (Or.inl rfl)) (pgs_cons (pg_name (i := 2) sc_is_deed.nd rfl (Or.inl rfl)) (pgs_cons (pg_name (i := 3) sc_is_deed.nd rfl (Or.inl rfl)) pgs_nil))))) (pss_cons (ps_if (pt_not (PW.pt (pw_and (pt_val (pe_callC c_is_whole hr rfl (pa_cons (pv 1) pa_nil))) (pw_and (pt_val (pe_callC c_is_end hr rfl (pa_cons (pv 2) pa_nil))) (pw_and1 (pt_val (pe_callC c_is_end hr rfl (pa_cons (pv 3) pa_nil)))))))) (pss_one (ps_ret pe_bl)) pss_nil) (pss_cons (ps_if (PW.pt (pw_or (pt_cmp (pc_isN (pv 2))) (pw_or1 (pt_cmp (pc_isN (pv 3)))))) (pss_one (ps_ret pe_bl)) pss_nil) (pss_one (ps_ret (pe_or (pe_cmpR op_lt (pv 2) (pv 3) (nomark _)) (pe_one (pe_and (pe_cmpR op_eq (pv 2) (pv 3) (nomark _)) (pe_one (pe_cmpR op_eq (pv 1) pe_int (nomark _)))))))))))), ?_⟩
  rcases h with ⟨T, hT, ty, q⟩ | ⟨a, xs, rfl, hs, hk, q⟩
  · have kt : PySem.W.kitOne K (.type T) (.type "tuple") = some false := by
      cases x with
      | non => cases (show T = "NoneType" from ty); rfl
      | bl y => cases (show T = "bool" from ty); rfl
      | int i => cases (show T = "int" from ty); rfl
      | str y => cases (show T = "str" from ty); rfl
      | byt y => exact ty.elim
      | flt y => exact ty.elim
      | ty y => exact ty.elim
      | ref a =>
        rcases ty with ⟨rfl, xs, hq⟩ | ⟨rfl, xs, hq⟩ | ⟨rfl, kvs, hq⟩
        · exact absurd rfl hT
        · rfl
        · rfl
    exact ⟨_, rfl, _, _, _, false, rfl, ty, kt, _, rfl, iteT (iteT q)⟩
  · refine ⟨_, rfl, _, _, _, true, rfl, .inl ⟨rfl, xs, hs⟩, rfl, _, rfl, iteF ⟨_, rfl, a, xs, rfl, .inr hs, rfl, _, rfl, ?_⟩⟩
    by_cases hl : xs.length = 3
    · obtain ⟨y1, y2, y3, rfl⟩ := len3 hl
      refine iteF ⟨_, rfl, a, _, rfl, hs, rfl, _, _, rfl, _, _, rfl, _, _, rfl, rfl, ?_⟩
      refine ⟨_, rfl, _, rfl, hk y1 (by simp), _, rfl, ?_⟩
      refine ite2 (fun c1 => ?_) (fun c1 => ?_)
      · obtain ⟨i1, rfl⟩ := whole_int c1
        refine ⟨_, rfl, _, rfl, hk y2 (by simp), _, rfl, ?_⟩
        refine ite2 (fun c2 => ?_) (fun c2 => ?_)
        · obtain ⟨o2, rfl⟩ := end_ov c2
          refine ⟨_, rfl, _, rfl, hk y3 (by simp), _, rfl, ?_⟩
          by_cases c3 : endV y3 = true
          · obtain ⟨o3, rfl⟩ := end_ov c3
            rw [c3]
            refine iteF ?_
            cases o2 with
            | none => exact ⟨_, rfl, _, rfl, iteT (iteT (by cases o3 <;> exact q))⟩
            | some l =>
              cases o3 with
              | none => exact ⟨_, rfl, _, rfl, iteF ⟨_, rfl, _, rfl, iteT q⟩⟩
              | some u =>
                refine ⟨_, rfl, _, rfl, iteF ⟨_, rfl, _, rfl, iteF ?_⟩⟩
                refine ⟨_, rfl, _, rfl, _, _, rfl, rfl, _, rfl, ?_⟩
                have q' : Q (.bl (decide (l < u) || (decide (l = u) && decide (i1 = 0)))) H := q
                refine ite2 (fun c => ?_) (fun c => ?_)
                · rw [c] at q'; exact q'
                · rw [Bool.eq_false_iff.mpr c] at q'
                  refine ⟨_, rfl, _, rfl, rfl, _, rfl, ?_⟩
                  refine ite2 (fun d => ?_) (fun d => ?_)
                  · have d' : l = u := V.int.inj (of_decide_eq_true d)
                    refine ⟨_, rfl, rfl, ?_⟩
                    rw [decide_eq_true d'] at q'
                    have e : decide (V.int i1 = V.int 0) = decide (i1 = 0) := by simp
                    rw [e]; exact q'
                  · have d' : ¬ l = u := fun z => d (by rw [z]; simp)
                    rw [decide_eq_false d'] at q'
                    exact q'
          · have e : endV y3 = false := Bool.eq_false_iff.mpr c3
            rw [e]
            refine iteT ?_
            have z : tupDeed [V.int i1, ov o2, y3] = false := by show (true && (endV (ov o2) && (endV y3 && _))) = false; rw [e]; simp
            rw [z] at q; exact q
        · have e : endV y2 = false := Bool.eq_false_iff.mpr c2
          refine iteT ?_
          have z : tupDeed [V.int i1, y2, y3] = false := by show (true && (endV y2 && (endV y3 && _))) = false; rw [e]; simp
          rw [z] at q; exact q
      · have e : wholeV y1 = false := Bool.eq_false_iff.mpr c1
        refine iteT ?_
        have z : tupDeed [y1, y2, y3] = false := by show (wholeV y1 && (endV y2 && (endV y3 && _))) = false; rw [e]; simp
        rw [z] at q; exact q
    · have e : decide (V.int (xs.length : Int) = V.int 3) = false := decide_eq_false fun z => hl (by have := V.int.inj z; omega)
      rw [e]
      refine iteT ?_
      rw [tupDeed_len hl] at q; exact q
theorem sc_need_deed : FnScope ["thing"] ["thing"] (defScope (top 16)) := ⟨rfl, rfl, rfl, by decide +kernel, rfl, by decide +kernel, by decide +kernel⟩
set_option maxHeartbeats 0 in
theorem ok_need_deed {n : Nat} {f : Addr} {fd : FuncData} (F : Fun K "need_deed" "need_deed" (top 16) f fd) (B : Blt mg) (c_is_deed : Callee P w K mg base n "is_deed" ["thing"] (sp_is_deed K))    :
    FnOk P w K mg base CX0 (n + 1) f fd ["thing"] (sp_need_deed K) := by
  refine F.ok sc_need_deed sp1_len (fun cdv A outer s H vs Q E hr h => ?_)
  obtain ⟨x, rfl, d, ⟨a, rfl, hs⟩, hd, q⟩ := h
  refine ⟨_, (pss_one (ps_if (pt_not (pt_val (pe_callC c_is_deed hr rfl (pa_cons (pv 0) pa_nil)))) (pss_one ps_never) pss_nil)), ?_⟩
  have e := tupDeed_ok hd
  refine ⟨_, rfl, _, rfl, .inr ⟨a, _, rfl, hs, ?_, _, rfl, ?_⟩⟩
  · intro y hy
    rcases List.mem_cons.mp hy with rfl | hy
    · exact kn_int
    rcases List.mem_cons.mp hy with rfl | hy
    · exact kn_ov _
    rcases List.mem_cons.mp hy with rfl | hy
    · exact kn_ov _
    cases hy
  · rw [e]; exact iteF q
theorem sc_deed_text : FnScope ["deed", "add", "low", "high", "parts"] ["deed"] (defScope (top 18)) := ⟨rfl, rfl, rfl, by decide +kernel, rfl, by decide +kernel, by decide +kernel⟩
set_option maxHeartbeats 0 in
theorem ok_deed_text {n : Nat} {f : Addr} {fd : FuncData} (F : Fun K "deed_text" "deed_text" (top 18) f fd) (B : Blt mg) (c_written : Callee P w K mg base n "written" ["number"] (sp_written K)) (c_need_deed : Callee P w K mg base n "need_deed" ["thing"] (sp_need_deed K))   {a_LOOK : Addr} (g_LOOK : mg "LOOK" = some (.ref a_LOOK)) (s_LOOK : ∀ H, SqT K H a_LOOK ([V.int 0, V.non, V.non])) :
    FnOk P w K mg base CX0 (n + 1) f fd ["deed"] (sp_dtext K) := by
  refine F.ok sc_deed_text sp1_len (fun cdv A outer s H vs Q E hr h => ?_)
  obtain ⟨x, rfl, d, hd, od, bd, q⟩ := h
  refine ⟨_, (pss_cons (ps_expr (pe_callC c_need_deed hr rfl (pa_cons (pv 0) pa_nil))) (pss_cons (ps_asg (pv 0) (pg_tup rfl (pgs_cons (pg_name (i := 1) sc_deed_text.nd rfl (Or.inl rfl)) (pgs_cons (pg_name (i := 2) sc_deed_text.nd rfl (Or.inl rfl)) (pgs_cons (pg_name (i := 3) sc_deed_text.nd rfl (Or.inl rfl)) pgs_nil))))) (pss_cons (ps_if (pt_cmpR (op_eqT hr) (pv 0) (pe_glob rfl g_LOOK (show RelV (.ref a_LOOK) (.ref a_LOOK) from rfl)) (nomark _)) (pss_one (ps_ret pe_str)) pss_nil) (pss_cons (ps_if (PW.pt (pw_and (pt_cmp (pc_notN (pv 2))) (pw_and1 (pt_cmpR op_eq (pv 2) (pv 3) (nomark _))))) (pss_one (ps_ret (pe_op op_add_str pe_str (pe_callC c_written hr rfl (pa_cons (pv 2) pa_nil))))) pss_nil) (pss_cons (ps_set (i := 4) sc_deed_text.nd rfl (Or.inl rfl) (pe_lst pa_nil)) (pss_cons (ps_if (pt_cmpR op_ne (pv 1) pe_int (nomark _)) (pss_one (ps_expr (pe_bm PySem.F.plainAttrs_list PySem.F.slot_list_append PySem.F.type_list_append mt_append (pv 4) (pa_cons (pe_op op_add_str pe_str (pe_callC c_written hr rfl (pa_cons (pv 1) pa_nil))) pa_nil)))) pss_nil) (pss_cons (ps_if (pt_cmp (pc_notN (pv 2))) (pss_one (ps_expr (pe_bm PySem.F.plainAttrs_list PySem.F.slot_list_append PySem.F.type_list_append mt_append (pv 4) (pa_cons (pe_op op_add_str pe_str (pe_callC c_written hr rfl (pa_cons (pv 2) pa_nil))) pa_nil)))) pss_nil) (pss_cons (ps_if (pt_cmp (pc_notN (pv 3))) (pss_one (ps_expr (pe_bm PySem.F.plainAttrs_list PySem.F.slot_list_append PySem.F.type_list_append mt_append (pv 4) (pa_cons (pe_op op_add_str pe_str (pe_callC c_written hr rfl (pa_cons (pv 3) pa_nil))) pa_nil)))) pss_nil) (pss_one (ps_ret (pe_bm PySem.F.plainAttrs_str PySem.F.slot_str_join PySem.F.type_str_join mt_join pe_str (pa_cons (pv 4) pa_nil)))))))))))), ?_⟩
  refine ⟨_, rfl, _, rfl, d, hd, od, ?_⟩
  obtain ⟨a, rfl, hs⟩ := hd
  obtain ⟨ad, lo, hi⟩ := d
  refine ⟨_, rfl, a, _, rfl, hs, rfl, _, _, rfl, _, _, rfl, _, _, rfl, rfl, ?_⟩
  try dsimp only
  refine c_test (fun b H' => b = decide ((⟨ad, lo, hi⟩ : Deed) = ⟨0, none, none⟩) ∧ H' = H) (fun Kk hk => ⟨_, rfl, ?_⟩) ?_
  · have z := eqT_deed (K := K) (Q := fun v H' => ∃ k, v = V.bl k ∧ Kk k H') (e := ⟨0, none, none⟩) ⟨a, rfl, hs⟩ ⟨a_LOOK, rfl, s_LOOK H⟩ ⟨_, rfl, hk _ _ ⟨rfl, rfl⟩⟩
    exact z
  rintro _ H ⟨rfl, rfl⟩
  by_cases hl : (⟨ad, lo, hi⟩ : Deed) = ⟨0, none, none⟩
  · refine iteT' (decide_eq_true hl) ?_
    have e : txt18 ⟨ad, lo, hi⟩ = S18 "look" := by rw [hl, txt_look]
    rw [e] at q
    exact q _ (Grow.refl _ _)
  refine iteF' (decide_eq_false hl) (c_next ?_)
  refine c_test (fun b H' => b = decide (lo ≠ none ∧ lo = hi) ∧ H' = H) (fun Kk hk => ⟨_, rfl, _, rfl, ?_⟩) ?_
  · cases lo with
    | none => exact iteF (hk _ _ ⟨by simp, rfl⟩)
    | some l =>
      refine iteT ⟨_, rfl, _, rfl, ?_⟩
      cases hi with
      | none => exact ⟨rfl, _, rfl, hk _ _ ⟨by simp [ov], rfl⟩⟩
      | some u => exact ⟨rfl, _, rfl, hk _ _ ⟨by simp [ov], rfl⟩⟩
  rintro _ H ⟨rfl, rfl⟩
  by_cases hset : lo ≠ none ∧ lo = hi
  · refine iteT' (decide_eq_true hset) ?_
    have e := txt_set (d := ⟨ad, lo, hi⟩) hset
    rw [e] at q
    cases lo with
    | none => exact absurd rfl hset.1
    | some l =>
      have b := bd.2.1 l rfl
      exact ⟨_, rfl, _, rfl, l, rfl, b.1, b.2, fun H' g => ⟨_, _, rfl, rfl, add_len18 (by decide) b.1 b.2, q _ g⟩⟩
  refine iteF' (decide_eq_false hset) (c_next ?_)
  refine ⟨szl rfl, fun p hp => ?_⟩
  try dsimp only
  refine c_if (fun σ' H' => σ' = [some (.ref a), some (.int ad), some (ov lo), some (ov hi), some (.ref p)] ∧ H' p = some (.lst (((p1_18 ⟨ad, lo, hi⟩).map part18).map V.str)) ∧ Grow [p] H H') ?_ (fun hk => ?_)
  rotate_left
  · refine ⟨_, rfl, rfl, _, rfl, ?_⟩
    by_cases ha : ad = 0
    · refine iteF' (by rw [ha]; rfl) (hk _ _ ⟨rfl, ?_, Grow.new hp _⟩)
      rw [upd_same]; unfold p1_18; rw [if_pos ha]; rfl
    · refine iteT' (by rw [decide_eq_false (fun z => ha (V.int.inj z))]; rfl) ⟨_, rfl, .inl ⟨rfl, _, SqL.of upd_same⟩, _, rfl, _, rfl, ad, rfl, bd.1.1, bd.1.2, fun H1 g1 => ⟨_, _, rfl, rfl, add_len18 (by decide) bd.1.1 bd.1.2, p, [], _, rfl, rfl, g1.keep _ _ (by simp) upd_same, by decide, hk _ _ ⟨rfl, ?_, ?_⟩⟩⟩
      · rw [upd_same]; unfold p1_18; rw [if_neg ha]; exact congrArg (fun z => some (HO.lst [V.str z])) (part_add ad)
      · exact (Grow.new hp _).trans (g1.wk.trans (Grow.set (g1.keep _ _ (by simp) upd_same) (by simp) _))
  rintro _ H1 ⟨rfl, hp1, G1⟩
  refine c_if (fun σ' H' => σ' = [some (.ref a), some (.int ad), some (ov lo), some (ov hi), some (.ref p)] ∧ H' p = some (.lst (((p2_18 ⟨ad, lo, hi⟩).map part18).map V.str)) ∧ Grow [p] H H') ?_ (fun hk => ?_)
  rotate_left
  · refine ⟨_, rfl, _, rfl, ?_⟩
    cases lo with
    | none => exact iteF (hk _ _ ⟨rfl, by rw [hp1]; unfold p2_18; rw [Option.toList_none, List.map_nil, List.append_nil], G1⟩)
    | some l =>
      have b := bd.2.1 l rfl
      refine iteT ⟨_, rfl, .inl ⟨rfl, _, SqL.of hp1⟩, _, rfl, _, rfl, l, rfl, b.1, b.2, fun H2 g2 => ⟨_, _, rfl, rfl, add_len18 (by decide) b.1 b.2, p, _, _, rfl, rfl, g2.keep _ _ (by simp) hp1, ?_, hk _ _ ⟨rfl, ?_, G1.trans (g2.wk.trans (Grow.set (g2.keep _ _ (by simp) hp1) (by simp) _))⟩⟩⟩
      · rw [List.length_map, List.length_map]; exact small1000 (by have := p3_len ⟨ad, some l, hi⟩; unfold p3_18 p2_18 at this; rw [List.length_append, List.length_append] at this; omega)
      · rw [upd_same]; unfold p2_18; rw [Option.toList_some, List.map_append, List.map_append]; exact congrArg (fun z => some (HO.lst (_ ++ [V.str z]))) (part_low l)
  rintro _ H2 ⟨rfl, hp2, G2⟩
  refine c_if (fun σ' H' => σ' = [some (.ref a), some (.int ad), some (ov lo), some (ov hi), some (.ref p)] ∧ H' p = some (.lst (((p3_18 ⟨ad, lo, hi⟩).map part18).map V.str)) ∧ Grow [p] H H') ?_ (fun hk => ?_)
  rotate_left
  · refine ⟨_, rfl, _, rfl, ?_⟩
    cases hi with
    | none => exact iteF (hk _ _ ⟨rfl, by rw [hp2]; unfold p3_18; rw [Option.toList_none, List.map_nil, List.append_nil], G2⟩)
    | some l =>
      have b := bd.2.2 l rfl
      refine iteT ⟨_, rfl, .inl ⟨rfl, _, SqL.of hp2⟩, _, rfl, _, rfl, l, rfl, b.1, b.2, fun H3 g3 => ⟨_, _, rfl, rfl, add_len18 (by decide) b.1 b.2, p, _, _, rfl, rfl, g3.keep _ _ (by simp) hp2, ?_, hk _ _ ⟨rfl, ?_, G2.trans (g3.wk.trans (Grow.set (g3.keep _ _ (by simp) hp2) (by simp) _))⟩⟩⟩
      · rw [List.length_map, List.length_map]; exact small1000 (by have := p3_len ⟨ad, lo, some l⟩; unfold p3_18 at this; rw [List.length_append] at this; omega)
      · rw [upd_same]; unfold p3_18; rw [Option.toList_some, List.map_append, List.map_append]; exact congrArg (fun z => some (HO.lst (_ ++ [V.str z]))) (part_high l)
  rintro _ H3 ⟨rfl, hp3, G3⟩
  have e := txt_not (d := ⟨ad, lo, hi⟩) hset hl
  rw [e] at q
  exact ⟨rfl, _, rfl, _, p, _, rfl, rfl, SqL.of hp3, p3_join bd, q _ (Grow.shrink hp G3)⟩
theorem sc_read_whole : FnScope ["word", "figures", "first", "number", "at"] ["word"] (defScope (top 11)) := ⟨rfl, rfl, rfl, by decide +kernel, rfl, by decide +kernel, by decide +kernel⟩
set_option maxHeartbeats 0 in
theorem ok_read_whole {n : Nat} {f : Addr} {fd : FuncData} (F : Fun K "read_whole" "read_whole" (top 11) f fd) (B : Blt mg)   {t_AT_ONCE : Tok} (g_AT_ONCE : mg "AT_ONCE" = some (.int 64 t_AT_ONCE))  :
    FnOk P w K mg base CX0 (n + 1) f fd ["word"] (sp_readW19 K) := by
  refine F.ok sc_read_whole sp1_len (fun cdv A outer s H vs Q E hr h => ?_)
  obtain ⟨x, rfl, w, rfl, W, q⟩ := h
  refine ⟨_, (pss_cons (ps_set (i := 1) sc_read_whole.nd rfl (Or.inl rfl) (pe_bm PySem.F.plainAttrs_str PySem.F.slot_str_removeprefix PySem.F.type_str_removeprefix mt_removeprefix (pv 0) (pa_cons pe_str pa_nil))) (pss_cons (ps_if (pt_not (PW.pt (pw_and (pt_val (pe_bm0 PySem.F.plainAttrs_str PySem.F.slot_str_isascii PySem.F.type_str_isascii mt_isascii (pv 1))) (pw_and1 (pt_val (pe_bm0 PySem.F.plainAttrs_str PySem.F.slot_str_isdigit PySem.F.type_str_isdigit mt_isdigit (pv 1))))))) (pss_one (ps_ret pe_non)) pss_nil) (pss_cons (ps_if (PW.pt (pw_and (pt_cmpR op_eq (pe_ix ix_str (pv 1) pe_int (fun _ _ => rfl)) pe_str (nomark _)) (pw_and1 (pt_cmpR op_ne (pv 0) pe_str (nomark _))))) (pss_one (ps_ret pe_non)) pss_nil) (pss_cons (ps_set (i := 2) sc_read_whole.nd rfl (Or.inl rfl) (pe_op op_mod (pe_callB call_len_str rfl B.len b_len (pa_cons (pv 1) pa_nil)) (pe_glob rfl g_AT_ONCE (show RelV (.int 64) (.int 64 t_AT_ONCE) from ⟨_, rfl⟩)))) (pss_cons (ps_set (i := 3) sc_read_whole.nd rfl (Or.inl rfl) (pe_callTy call_intS rfl B.int b_int (pa_cons (pe_op op_add_str pe_str (pe_slice sl_str (pv 1) po_none (po_some (pv 2)))) pa_nil))) (pss_cons (ps_for PassesOwn.never rfl (pi_range0 rfl B.range (pa_cons (pv 2) (pa_cons (pe_callB call_len_str rfl B.len b_len (pa_cons (pv 1) pa_nil)) (pa_cons (pe_glob rfl g_AT_ONCE (show RelV (.int 64) (.int 64 t_AT_ONCE) from ⟨_, rfl⟩)) pa_nil)))) (pg_name (i := 4) sc_read_whole.nd rfl (Or.inl rfl)) pss_dead) (pss_one (ps_ret (pe_ifExp (pt_cmpR op_eq (pe_ix ix_str (pv 0) pe_int (fun _ _ => rfl)) pe_str (nomark _)) (pe_un un_neg (pv 3)) (pv 3)))))))))), ?_⟩
  cases hrd : rd19 w with
  | none =>
    rw [hrd] at q
    have wl := W.len
    have fl := fig_len w
    refine c_asg (fun v H' => v = .str (fig19 w) ∧ H' = H) (fun Kk hk' => ⟨_, rfl, rfl, _, _, rfl, rfl, le2000 (by omega), hk' _ _ ⟨rfl, rfl⟩⟩) ?_
    rintro _ H ⟨rfl, rfl⟩
    refine c_test (fun b H' => b = (!(Txt.isascii (fig19 w) && Txt.isdigit (fig19 w))) ∧ H' = H) (fun Kk hk' => ⟨_, rfl, rfl, _, rfl, rfl, _, rfl, ?_⟩) ?_
    · cases h1 : Txt.isascii (fig19 w) with
      | false => exact iteF (hk' _ _ ⟨by rw [h1]; rfl, rfl⟩)
      | true => exact iteT ⟨_, rfl, rfl, _, rfl, rfl, _, rfl, hk' _ _ ⟨by rw [h1]; rfl, rfl⟩⟩
    rintro _ H ⟨rfl, rfl⟩
    cases h12 : (Txt.isascii (fig19 w) && Txt.isdigit (fig19 w)) with
    | false => exact iteT q
    | true =>
      refine iteF (c_next ?_)
      obtain ⟨h48, hw0⟩ := rd_why h12 hrd
      refine c_test (fun b H' => b = true ∧ H' = H) (fun Kk hk' => ⟨_, rfl, _, 0, 48, rfl, rfl, le2000 (by omega), atI_head h48, rfl, _, rfl, ?_⟩) ?_
      · refine iteT' (by rw [one_str (b := 48) (by decide)]; rfl) ⟨_, rfl, rfl, _, rfl, hk' _ _ ⟨?_, rfl⟩⟩
        rw [decide_eq_false fun z => hw0 (V.str.inj z)]; rfl
      rintro _ H ⟨rfl, rfl⟩
      exact iteT q
  | some n =>
    have ew := rd_some hrd
    obtain ⟨n0, n1⟩ := rd_bd W hrd
    rw [hrd] at q
    subst ew
    obtain ⟨k, hk, hk1⟩ := abs18 n0 n1
    have l1 := num_len hk1
    have l63 := len18 n0 n1
    have lz : (num18 k).length ≤ sizeLine := Nat.le_of_lt (small1000 (by omega))
    refine c_asg (fun v H' => v = .str (num18 k) ∧ H' = H) (fun Kk hk' => ⟨_, rfl, rfl, _, _, rfl, rfl, Nat.le_of_lt (small1000 (by omega)), by rw [num_strip, hk]; exact hk' _ _ ⟨rfl, rfl⟩⟩) ?_
    rintro _ H ⟨rfl, rfl⟩
    have e1 := num_ascii k
    have e2 := num_digit k
    refine c_test (fun b H' => b = false ∧ H' = H) (fun Kk hk' => ⟨_, rfl, rfl, _, rfl, rfl, _, rfl, iteT' e1 ⟨_, rfl, rfl, _, rfl, rfl, _, rfl, by rw [e2]; exact hk' _ _ ⟨rfl, rfl⟩⟩⟩) ?_
    rintro _ H ⟨rfl, rfl⟩
    refine iteF (c_next ?_)
    obtain ⟨c, hc, c48⟩ := fig_first k
    refine c_test (fun b H' => b = false ∧ H' = H) (fun Kk hk' => ⟨_, rfl, _, 0, c, rfl, rfl, lz, hc, rfl, _, rfl, ?_⟩) ?_
    · by_cases h48 : c = 48
      · have k0 := c48 h48
        have n00 : n = 0 := by split at hk <;> omega
        refine iteT' (by rw [one_str (b := 48) (by decide), h48]; rfl) ⟨_, rfl, rfl, _, rfl, hk' _ _ ⟨?_, rfl⟩⟩
        rw [n00]; decide
      · exact iteF' (by rw [one_str (b := 48) (by decide)]; exact decide_eq_false h48) (hk' _ _ ⟨rfl, rfl⟩)
    rintro _ H ⟨rfl, rfl⟩
    refine iteF (c_next ?_)
    refine c_asg (fun v H' => v = .int ((num18 k).length : Int) ∧ H' = H) (fun Kk hk' => ⟨_, rfl, _, rfl, lz, _, _, rfl, rfl, (show (0 : Int) < 64 by decide), hk' _ _ ⟨congrArg V.int (by omega), rfl⟩⟩) ?_
    rintro _ H ⟨rfl, rfl⟩
    refine c_asg (fun v H' => v = .int k ∧ H' = H) (fun Kk hk' => ⟨_, rfl, _, rfl, _, rfl, _, rfl, lz, _, _, rfl, rfl, ?_, _, k, rfl, ?_, ?_, hk' _ _ ⟨rfl, rfl⟩⟩) ?_
    · rw [slice_all18]; exact Nat.le_of_lt (small1000 (by have : (Str.ofString "0").length = 1 := by decide
                                                          omega))
    · rw [slice_all18]; exact num_back hk1
    · rw [slice_all18, Str.length_append]; have : (Str.ofString "0").length = 1 := by decide
      omega
    rintro _ H ⟨rfl, rfl⟩
    refine ⟨_, rfl, _, rfl, _, rfl, lz, (num18 k).length, 64, rfl, by omega, by decide, by decide, fun _ _ σ' H' => σ' = [some (.str (num18 n)), some (.str (num18 k)), some (.int ((num18 k).length : Int)), some (.int k), none] ∧ H' = H, ⟨0, rfl, rfl⟩, ?_⟩
    rintro _ _ σ' H' ⟨rfl, rfl⟩
    refine .inl ⟨trivial, ?_⟩
    obtain ⟨c, hc, c45⟩ := word_first n
    refine ⟨_, rfl, _, 0, c, rfl, rfl, Nat.le_of_lt (small1000 (by omega)), hc, rfl, _, rfl, ?_⟩
    by_cases hn : n < 0
    · refine iteT' (by rw [one_str (b := 45) (by decide)]; exact decide_eq_true (c45.mpr hn)) ⟨_, rfl, _, rfl, ?_⟩
      rw [if_pos hn] at hk
      show Q (V.int (-(k : Int))) _
      rw [← hk, Int.neg_neg]; exact q
    · refine iteF' (by rw [one_str (b := 45) (by decide)]; exact decide_eq_false (fun z => hn (c45.mp z))) ⟨_, rfl, ?_⟩
      rw [if_neg hn] at hk
      rw [← hk]; exact q
theorem sc_deed_by_words : FnScope ["words", "numbers", "parts"] ["words"] (defScope (top 19)) := ⟨rfl, rfl, rfl, by decide +kernel, rfl, by decide +kernel, by decide +kernel⟩
set_option maxHeartbeats 0 in
theorem ok_deed_by_words {n : Nat} {f : Addr} {fd : FuncData} (F : Fun K "deed_by_words" "deed_by_words" (top 19) f fd) (B : Blt mg) (c_read_whole : Callee P w K mg base n "read_whole" ["word"] (sp_readW19 K)) (g_zip : mg "zip" = none)   :
    FnOk P w K mg base CX0 (n + 1) f fd ["words"] (sp_byw19 K) := by
  refine F.ok sc_deed_by_words sp1_len (fun cdv A outer s H vs Q E hr h => ?_)
  obtain ⟨x, rfl, ws, a, rfl, hs, h0, hl, hw, q⟩ := h
  refine ⟨_, (pss_cons (ps_compT (i := 1) sc_deed_by_words.nd rfl rfl (CSc.of (N' := ["word"]) (sub := [none]) (defScope (top 19)) ["words", "numbers", "parts"] rfl rfl (by decide +kernel) rfl) rfl (pi_list (pe_ev1 (K := K) rfl (pv 0))) (fun _ _ _ _ _ _ => pg_name (i := 0) (show (["word"] : List Str).Nodup by decide +kernel) rfl (Or.inl rfl)) (fun _ _ _ _ _ _ => pifs_nil) (fun _ _ _ _ _ _ => (pe_callC c_read_whole hr rfl (pa_cons (pv 0) pa_nil)))) (pss_cons (ps_if (PW.pt (pw_or (pt_cmpR op_in_seq pe_non (pv 1) (by with_unfolding_all rfl)) (pw_or1 (pt_cmpR op_ne (pe_callB call_len_seq rfl B.len b_len (pa_cons (pv 0) pa_nil)) (pe_op op_mulG pe_int (pe_callB call_len_seq rfl B.len b_len (pa_cons (pv 1) pa_nil))) (nomark _))))) (pss_one (ps_ret pe_non)) pss_nil) (pss_cons (ps_if (pt_cmpR op_eq (pe_ix ix_list (pv 0) pe_int (fun _ _ => rfl)) pe_str (nomark _)) (pss_one (ps_ret (pe_tup (pa_cons pe_int (pa_cons (pe_ix ix_list (pv 1) pe_int (fun _ _ => rfl)) (pa_cons (pe_ix ix_list (pv 1) pe_int (fun _ _ => rfl)) pa_nil)))))) pss_nil) (pss_cons (ps_set (i := 2) sc_deed_by_words.nd rfl (Or.inl rfl) (pe_dictZip (K := K) rfl rfl hr.hd rfl B.dict rfl g_zip (pa_cons (pe_ev0 (K := K) rfl (pv 0)) (pa_cons (pv 1) pa_nil)))) (pss_one (ps_ret (pe_tup (pa_cons (pe_dget2 (Room.u118 hr) (pv 2) pe_str pe_int ⟨rfl, rfl, rfl, rfl⟩) (pa_cons (pe_dget1 (Room.u118 hr) (pv 2) pe_str ⟨rfl, rfl, rfl, rfl⟩) (pa_cons (pe_dget1 (Room.u118 hr) (pv 2) pe_str ⟨rfl, rfl, rfl, rfl⟩) pa_nil)))))))))), ?_⟩
  have ol := os_len ws
  have el := es_len ws
  refine c_asg (fun v H' => ∃ l, v = .ref l ∧ H' l = some (.lst ((os19 ws).map fun w => ov (rd19 w))) ∧ Grow [] H H') (fun Kk hk => ?_) ?_
  · refine ⟨_, rfl, a, _, rfl, hs, fun p1 hp1 => ?_⟩
    rw [os_str]
    refine ⟨p1, rfl, ⟨_, SqL.of upd_same⟩, comp_listP (xs := (os19 ws).map V.str) (fun i ys H' => ys = ((os19 ws).take i).map (fun w => ov (rd19 w)) ∧ H' = upd H p1 (.lst ((os19 ws).map V.str))) ⟨rfl, rfl⟩ (fun i ys H' z => by rw [z.2]; exact SqL.of upd_same) ?_ ?_⟩
    · rintro i x ys H' hx ⟨rfl, rfl⟩
      rw [List.getElem?_map] at hx
      obtain ⟨w, hww, rfl⟩ := Option.map_eq_some_iff.mp hx
      refine ⟨_, rfl, _, rfl, w, rfl, hw w (pick_mem19 (List.mem_of_getElem? hww)), lt2000 (by rw [List.length_map, List.length_take]; omega), ?_, rfl⟩
      rw [List.take_succ, hww, List.map_append]; rfl
    · rintro ys H' ⟨rfl, rfl⟩ l hl
      rw [List.length_map, List.take_length]
      exact hk _ _ ⟨l, rfl, upd_same, (Grow.new hp1 _).trans (Grow.new hl _)⟩
  rintro _ H1 ⟨l, rfl, hl', g1⟩
  have hs1 := g1.sqL hs
  refine c_test (fun b H' => b = bad19 ws ∧ H' = H1) (fun Kk hk => ⟨_, rfl, l, _, rfl, .inl (SqL.of hl'), rfl, flat_ov19 _, _, rfl, ?_⟩) ?_
  · cases hn : ((os19 ws).any fun w => (rd19 w).isNone) with
    | true => exact iteT' (by rw [if_neg (by decide), in_non19]; exact hn) (hk _ _ ⟨by unfold bad19; rw [hn]; rfl, rfl⟩)
    | false =>
      refine iteF' (by rw [if_neg (by decide), in_non19]; exact hn) ⟨_, rfl, a, _, rfl, .inl hs1, _, rfl, l, _, rfl, .inl (SqL.of hl'), _, _, rfl, rfl, mulOkL ⟨by decide, by decide⟩, rfl, _, rfl, hk _ _ ⟨?_, rfl⟩⟩
      unfold bad19
      rw [hn, Bool.false_or, List.length_map, List.length_map]
      congr 1
      rw [decide_eq_decide]
      exact ⟨fun z => by have := V.int.inj z; omega, fun z => congrArg V.int (by omega)⟩
  rintro _ H1 ⟨rfl, rfl⟩
  cases hbad : bad19 ws with
  | true =>
    refine iteT (q _ _ none g1 rfl (fun _ z => nomatch z) fun d od he e => ?_)
    rw [e, bad_wds (prs_len d)] at hbad
    cases hbad
  | false =>
    refine iteF (c_next ?_)
    have hbad' := hbad
    unfold bad19 at hbad
    rw [Bool.or_eq_false_iff, Bool.not_eq_false', decide_eq_true_eq] at hbad
    rw [ints19 hbad.1] at hl'
    have hl2 : H1 l = some (.lst ((ns19 ws).map V.int)) := hl'
    have nb := ns_bd hw
    have nl : (ns19 ws).length = (os19 ws).length := List.length_map ..
    obtain ⟨w0, hw0⟩ : ∃ w0, ws[0]? = some w0 := by
      cases ws with
      | nil => exact absurd rfl h0
      | cons w r => exact ⟨w, rfl⟩
    obtain ⟨n0, hn0⟩ : ∃ n0, (ns19 ws)[0]? = some n0 := by
      have := (List.getElem?_eq_some_iff.mp hw0).1
      exact ⟨_, List.getElem?_eq_getElem (by omega)⟩
    have an : atI ((ns19 ws).map V.int) 0 = some (V.int n0) := atI_nat (j := 0) (by rw [List.getElem?_map, hn0]; rfl)
    refine ⟨_, rfl, a, _, 0, V.str w0, rfl, rfl, hs1, atI_nat (j := 0) (by rw [List.getElem?_map, hw0]; rfl), rfl, _, rfl, ?_⟩
    by_cases hset : w0 = S18 "set"
    · refine iteT' (decide_eq_true (congrArg V.str hset)) ⟨_, rfl, l, _, 0, _, rfl, rfl, SqL.of hl2, an, _, rfl, l, _, 0, _, rfl, rfl, SqL.of hl2, an, szl rfl, fun t ht => q _ _ (some ⟨0, some n0, some n0⟩) (g1.trans (Grow.new ht _)) ⟨t, rfl, SqT.of upd_same⟩ ?_ ?_⟩
      · rintro _ ⟨⟩
        have b := nb n0 (List.mem_of_getElem? hn0)
        exact ⟨(show (-(10 ^ 61) : Int) ≤ 0 ∧ (0 : Int) ≤ 10 ^ 61 by decide), (fun l z => by cases z; exact b), fun l z => by cases z; exact b⟩
      · intro d od he e
        rw [e, hset] at hw0
        obtain ⟨z, rfl, ep⟩ := set_wds od he hw0
        rw [e, ns_wds (prs_len _), ep] at hn0
        cases hn0
        rfl
    · refine iteF' (decide_eq_false fun z => hset (V.str.inj z)) (c_next ?_)
      refine c_asg (fun v H' => ∃ r, v = .ref r ∧ H' r = some (.dK (putsZ (es19 ws) ((ns19 ws).map V.int))) ∧ Grow [] H H') (fun Kk hk => ⟨_, rfl, a, _, rfl, hs1, fun p2 hp2 => ?_⟩) ?_
      · rw [es_str]
        refine ⟨_, rfl, p2, l, _, _, rfl, SqL.of upd_same, SqL.of ((Grow.new (m := []) hp2 _).keep _ _ (by simp) hl2), by rw [List.length_map]; omega, by omega, fun r H' g hr0 hr' => hk _ _ ⟨r, rfl, hr', g1.trans ((Grow.new hp2 _).trans g)⟩⟩
      rintro _ H2 ⟨r, rfl, hr', g2⟩
      have isd : IsD H2 r := .inl ⟨_, .inl hr'⟩
      refine ⟨_, rfl, r, rfl, isd, _, DGet.k (k := Sum.inr (S18 "add")) hr', _, rfl, r, rfl, isd, _, DGet.k (k := Sum.inr (S18 "low")) hr', _, rfl, r, rfl, isd, _, DGet.k (k := Sum.inr (S18 "high")) hr', szl rfl, fun t ht => ?_⟩
      rw [dz_add, dz_low, dz_high]
      refine q _ _ (some (dz19 (es19 ws) (ns19 ws))) (g2.trans (Grow.new ht _)) ⟨t, rfl, SqT.of upd_same⟩ ?_ ?_
      · rintro _ ⟨⟩
        exact dz_bd nb
      · intro d od he e
        rw [e] at hw0 ⊢
        have hp := notset_wds (d := d) fun z => hset (Option.some.inj (hw0.symm.trans z))
        rw [es_wds (prs_len d), ns_wds (prs_len d), hp, dz_wds]
theorem sc_read_deed : FnScope ["text", "deed"] ["text"] (defScope (top 20)) := ⟨rfl, rfl, rfl, by decide +kernel, rfl, by decide +kernel, by decide +kernel⟩
set_option maxHeartbeats 0 in
theorem ok_read_deed {n : Nat} {f : Addr} {fd : FuncData} (F : Fun K "read_deed" "read_deed" (top 20) f fd) (B : Blt mg) {A_NoText : Addr} (x_NoText : ExcC K mg "NoText" A_NoText) (c_deed_text : Callee P w K mg base n "deed_text" ["deed"] (sp_dtext K)) (c_is_deed : Callee P w K mg base n "is_deed" ["thing"] (sp_is_deed K)) (c_deed_by_words : Callee P w K mg base n "deed_by_words" ["words"] (sp_byw19 K))   {a_LOOK : Addr} (g_LOOK : mg "LOOK" = some (.ref a_LOOK)) (s_LOOK : ∀ H, SqT K H a_LOOK ([V.int 0, V.non, V.non])) :
    FnOk P w K mg base (CX1 P w) (n + 1) f fd ["text"] (sp_readD19 A_NoText K) := by
  refine Fun.okX F sc_read_deed spX1_len (fun cdv A outer s H vs Q E hr h => ?_)
  obtain ⟨x, rfl, dd, m, hd, D, q1, q2⟩ := h
  refine ⟨_, (pss_cons (ps_if (pt_not (pt_val (pe_callB (call_isiO (K := K) rfl) rfl B.isinstance b_isinstance (pa_cons (pv 0) (pa_cons (pe_tyn rfl B.str b_str) pa_nil))))) (pss_one (ps_raise rfl x_NoText rfl raises_cx pe_str)) pss_nil) (pss_cons (ps_set (i := 1) sc_read_deed.nd rfl (Or.inl rfl) (pe_ifExp (pt_cmpR op_eq (pv 0) pe_str (nomark _)) (pe_glob rfl g_LOOK (show RelV (.ref a_LOOK) (.ref a_LOOK) from rfl)) (pe_callC c_deed_by_words hr rfl (pa_cons (pe_bm PySem.F.plainAttrs_str PySem.F.slot_str_split PySem.F.type_str_split mt_split (pv 0) (pa_cons pe_str pa_nil)) pa_nil)))) (pss_cons (ps_if (PW.pt (pw_or (pt_not (pt_val (pe_callC c_is_deed hr rfl (pa_cons (pv 1) pa_nil)))) (pw_or1 (pt_cmpR op_ne (pe_callC c_deed_text hr rfl (pa_cons (pv 1) pa_nil)) (pv 0) (nomark _))))) (pss_one (ps_raise rfl x_NoText rfl raises_cx pe_str)) pss_nil) (pss_one (ps_ret (pv 1)))))), ?_⟩
  refine c_test (fun b H' => b = (!isS19 dd) ∧ H' = H) (fun Kk hk => ⟨_, rfl, _, dd, m, _, _, rfl, hd, kit_str19 dd, _, rfl, hk _ _ ⟨rfl, rfl⟩⟩) ?_
  rintro _ H ⟨rfl, rfl⟩
  cases hi : isS19 dd with
  | false => exact iteT fun e => q2 (is_no hi) e _ (Grow.refl _ _)
  | true =>
    refine iteF (c_next ?_)
    obtain ⟨w, rfl, rfl⟩ := od_str hd hi
    obtain ⟨T, hw⟩ := D w rfl
    have tl := T.len
    have sl := split_len19 T
    refine c_asg (fun v H' => ∃ o, OutD K H' v o ∧ (∀ e, o = some e → e.Bd (10 ^ 61)) ∧ (∀ d, lr19 w = some d → o = some d) ∧ Grow [] H H') (fun Kk hk => ⟨_, rfl, rfl, _, rfl, ?_⟩) ?_
    · by_cases hlk : w = S18 "look"
      · refine iteT' (decide_eq_true (congrArg V.str hlk)) (hk _ _ ⟨some ⟨0, none, none⟩, ⟨a_LOOK, rfl, s_LOOK H⟩, ?_, ?_, Grow.refl _ _⟩)
        · rintro _ ⟨⟩; exact look_bd.mono (by decide)
        · intro d h
          rw [show lr19 w = some ⟨0, none, none⟩ from if_pos hlk] at h
          exact h
      · refine iteF' (decide_eq_false fun z => hlk (V.str.inj z)) ⟨_, rfl, rfl, _, _, rfl, rfl, by decide, le2000 (by omega), le2000 (Nat.le_trans sl (by omega)), fun p hp => ⟨_, rfl, _, p, rfl, SqL.of upd_same, spl_pos w, Nat.le_trans sl (by omega), hw, fun y H' o g ho hb hf => hk _ _ ⟨o, ho, hb, fun d h => ?_, (Grow.new hp _).trans g⟩⟩⟩
        obtain ⟨od, et⟩ := lr_some h
        have he : (prs18 d).isEmpty = false := by
          cases he : (prs18 d).isEmpty with
          | false => rfl
          | true => rw [prs_look he] at et; exact absurd et.symm hlk
        exact hf d od he (by rw [← et, txt_split he])
    rintro y H1 ⟨o, ho, hb, hf, g1⟩
    refine c_test (fun b H' => b = (lr19 w).isNone ∧ Grow [] H1 H') (fun Kk hk => ?_) ?_
    · cases o with
      | none =>
        have hn : lr19 w = none := by
          cases h : lr19 w with
          | none => rfl
          | some d => exact absurd (hf d h) (by simp)
        have hy : y = .non := ho
        subst hy
        exact ⟨_, rfl, _, rfl, .inl ⟨"NoneType", by decide, rfl, _, rfl, iteT (hk _ _ ⟨by rw [hn]; rfl, Grow.refl _ _⟩)⟩⟩
      | some e =>
        obtain ⟨a, rfl, hs⟩ := id ho
        refine ⟨_, rfl, _, rfl, .inr ⟨a, _, rfl, hs, kn_vs, _, rfl, ?_⟩⟩
        by_cases oe : e.Ok
        · rw [tupDeed_ok oe]
          refine iteF ⟨_, rfl, _, rfl, e, ⟨a, rfl, hs⟩, oe, hb e rfl, fun H' g => ⟨_, rfl, rfl, _, rfl, hk _ _ ⟨?_, g⟩⟩⟩
          by_cases et : txt18 e = w
          · rw [decide_eq_true (congrArg V.str et), ← et, lr_txt oe]; rfl
          · rw [decide_eq_false fun z => et (V.str.inj z)]
            cases h : lr19 w with
            | none => rfl
            | some d => exact absurd ((Option.some.inj (hf d h)) ▸ (lr_some h).2) et
        · rw [tup_no oe]
          refine iteT (hk _ _ ⟨?_, Grow.refl _ _⟩)
          cases h : lr19 w with
          | none => rfl
          | some d => exact absurd ((Option.some.inj (hf d h)) ▸ (lr_some h).1) oe
    rintro _ H2 ⟨rfl, g2⟩
    cases hl : lr19 w with
    | none => exact iteT fun e => q2 hl e _ (g1.trans g2)
    | some d =>
      have := hf d hl
      subst this
      exact iteF (c_next ⟨_, rfl, q1 _ _ d hl (g1.trans g2) (g2.deed ho)⟩)
theorem sc__law_said : FnScope ["_law_text_here", "_law_said_here", "error", "_law_others"] ["_law_text_here"] (defScope (top 33)) := ⟨rfl, rfl, rfl, by decide +kernel, rfl, by decide +kernel, by decide +kernel⟩
set_option maxHeartbeats 0 in
theorem ok__law_said {n : Nat} {f : Addr} {fd : FuncData} (F : Fun K "_law_said" "_law_said" (top 33) f fd) (B : Blt mg) {A_AskError : Addr} {A_NoText : Addr} {A_NoRow : Addr} {A_NoNumber : Addr} {A_NoDeed : Addr} (x_AskError : ExcC K mg "AskError" A_AskError) (x_NoText : ExcC K mg "NoText" A_NoText) (v_NoText : mg "NoText" = some (.ref A_NoText)) (v_NoRow : mg "NoRow" = some (.ref A_NoRow)) (v_NoNumber : mg "NoNumber" = some (.ref A_NoNumber)) (v_NoDeed : mg "NoDeed" = some (.ref A_NoDeed)) (u_NoText : PySem.W.mroIn K A_NoText (.ref A_AskError) = some true) (k_NoText : ExcK K A_NoText) (q_NoText_NoDeed : PySem.W.kitOne K (.ref A_NoText) (.ref A_NoDeed) = some false) (q_NoText_NoNumber : PySem.W.kitOne K (.ref A_NoText) (.ref A_NoNumber) = some false) (q_NoText_NoRow : PySem.W.kitOne K (.ref A_NoText) (.ref A_NoRow) = some false) (q_NoText_ValueError : PySem.W.kitOne K (.ref A_NoText) (.type "ValueError") = some true) (q_NoText_NoText : PySem.W.kitOne K (.ref A_NoText) (.ref A_NoText) = some true) (c_read_deed : CalleeX P w K mg base n "read_deed" ["text"] (sp_readD19 A_NoText K)) (g_ValueError : mg "ValueError" = none)   :
    FnOk P w K mg base CX0 (n + 1) f fd ["_law_text_here"] (sp_said19 K) := by
  refine F.ok sc__law_said sp1_len (fun cdv A outer s H vs Q E hr h => ?_)
  obtain ⟨x, rfl, dd, m, hd, D, q⟩ := h
  refine ⟨_, (pss_cons (ps_set (i := 1) sc__law_said.nd rfl (Or.inl rfl) pe_str) (pss_cons (ps_tryAs (K := K) (i := 2) (E := (fun _ c H' => c = some A_NoText ∧ red19 dd = none ∧ Grow [] H H')) rfl rfl rfl rfl x_AskError rfl sc__law_said.nd rfl rfl rfl (fun ps => (pss_one (ps_set (i := 1) sc__law_said.nd rfl (Or.inl rfl) (pe_callX c_read_deed (pass_try rfl) hr rfl (pa_cons (pv 0) pa_nil))))) (fun e => (pss_cons (ps_set (i := 3) sc__law_said.nd rfl (Or.inl rfl) (pe_or (pe_callB (call_isiT19 (K := K) rfl) rfl B.isinstance b_isinstance (pa_cons (pv 2) (pa_cons (pe_tup (pa_cons (pe_glob rfl v_NoDeed (show RelV (.ref A_NoDeed) (.ref A_NoDeed) from rfl)) (pa_cons (pe_glob rfl v_NoNumber (show RelV (.ref A_NoNumber) (.ref A_NoNumber) from rfl)) (pa_cons (pe_glob rfl v_NoRow (show RelV (.ref A_NoRow) (.ref A_NoRow) from rfl)) pa_nil)))) pa_nil))) (pe_one (pe_not (pe_callB (call_isiE (K := K) rfl) rfl B.isinstance b_isinstance (pa_cons (pv 2) (pa_cons (pe_tyn rfl g_ValueError b_ValueError) pa_nil))))))) (pss_one (ps_set (i := 1) sc__law_said.nd rfl (Or.inl rfl) (pe_ix (ix_listK (K := K) rfl) (pe_lst (pa_cons pe_str (pa_cons pe_str pa_nil))) (pe_callTy call_int1 rfl B.int b_int (pa_cons (pe_and (pe_callB (call_isiE (K := K) rfl) rfl B.isinstance b_isinstance (pa_cons (pv 2) (pa_cons (pe_glob rfl v_NoText (show RelV (.ref A_NoText) (.ref A_NoText) from rfl)) pa_nil))) (pe_one (pe_not (pv 3)))) pa_nil)) (fun _ _ => rfl))))))) (pss_one (ps_ret (pv 1))))), ?_⟩
  refine ⟨?_, fun e C' σ' H' hl' hn hE => ?_⟩
  · refine ⟨_, rfl, _, rfl, dd, m, hd, D, fun y H1 d hd1 g hy => ⟨_, rfl, q _ _ g ?_⟩, fun hn e H1 g => ⟨rfl, hn, g⟩⟩
    rw [hd1]; exact hy
  obtain ⟨hC, hno, g⟩ := hE
  obtain ⟨s0, s1, s2, s3, rfl⟩ : ∃ a b c d, σ' = [a, b, c, d] := by
    match σ', hl' with
    | [a, b, c, d], _ => exact ⟨a, b, c, d, rfl⟩
  obtain rfl : A_NoText = C' := (Option.some.inj hC).symm
  refine ⟨u_NoText, ?_⟩
  have gn := Grow.new (m := []) hn (ExO e A_NoText)
  refine ⟨_, rfl, szl rfl, fun t ht => ?_⟩
  have gt := Grow.new (m := []) ht (.tup [.ref A_NoDeed, .ref A_NoNumber, .ref A_NoRow])
  have he1 := gt.keep e _ (by simp) (upd_same (H := H') (a := e) (o := ExO e A_NoText))
  refine ⟨e, A_NoText, t, [A_NoDeed, A_NoNumber, A_NoRow], rfl, he1, SqT.of upd_same, k_NoText, ?_, ?_⟩
  · intro c hc
    rcases List.mem_cons.mp hc with rfl | hc
    · exact q_NoText_NoDeed
    rcases List.mem_cons.mp hc with rfl | hc
    · exact q_NoText_NoNumber
    rcases List.mem_cons.mp hc with rfl | hc
    · exact q_NoText_NoRow
    cases hc
  refine ⟨_, rfl, iteF ⟨_, rfl, e, _, _, _, _, rfl, he1, (fun _ r => r), k_NoText, q_NoText_ValueError, _, rfl, szl rfl, fun l hl => ?_⟩⟩
  have gl := Grow.new (m := []) hl (.lst [.str "other", .str "refused"])
  refine ⟨_, rfl, e, _, _, _, _, rfl, gl.keep e _ (by simp) he1, (fun _ r => r), k_NoText, q_NoText_NoText, _, rfl, iteT ⟨_, rfl, _, rfl, .inr ⟨true, rfl, l, _, 1, .str (S18 "refused"), rfl, rfl, SqL.of upd_same, atI_nat (j := 1) rfl, ?_⟩⟩⟩
  refine ⟨_, rfl, q _ _ (g.trans (gn.trans (gt.trans gl))) ?_⟩
  rw [hno]; rfl
theorem sc__law_figures : FnScope ["_law_word", "_law_figures_here"] ["_law_word"] (defScope (top 30)) := ⟨rfl, rfl, rfl, by decide +kernel, rfl, by decide +kernel, by decide +kernel⟩
set_option maxHeartbeats 0 in
theorem ok__law_figures {n : Nat} {f : Addr} {fd : FuncData} (F : Fun K "_law_figures" "_law_figures" (top 30) f fd) (B : Blt mg)     :
    FnOk P w K mg base CX0 (n + 1) f fd ["_law_word"] (sp_fig19 K) := by
  refine F.ok sc__law_figures sp1_len (fun cdv A outer s H vs Q E hr h => ?_)
  obtain ⟨x, rfl, w, rfl, W, q⟩ := h
  refine ⟨_, (pss_cons (ps_set (i := 1) sc__law_figures.nd rfl (Or.inl rfl) (pe_ifExp (pt_cmpR op_eq (pe_slice sl_str (pv 0) po_none (po_some pe_int)) pe_str (nomark _)) (pe_slice sl_str (pv 0) (po_some pe_int) po_none) (pv 0))) (pss_cons (ps_if (PW.pt (pw_or (pt_cmpR op_eq (pv 1) pe_str (nomark _)) (pw_or1 (pt_cmpR (op_neNil (K := K) rfl hr) (pe_compT (CSc.of (N' := ["_law_sign_here"]) (sub := [none]) (defScope (top 30)) ["_law_word", "_law_figures_here"] rfl rfl (by decide +kernel) rfl) rfl (pi_str (pv 1)) (fun _ _ _ _ _ _ => pg_name (i := 0) (show (["_law_sign_here"] : List Str).Nodup by decide +kernel) rfl (Or.inl rfl)) (fun _ _ _ _ _ _ => (pifs_one (pt_cmpR op_notIn_str (pv 0) pe_str (by with_unfolding_all rfl)))) (fun _ _ _ _ _ _ => (pv 0))) (pe_lst pa_nil) (nomark _))))) (pss_one (ps_ret pe_non)) pss_nil) (pss_cons (ps_if (PW.pt (pw_or (pt_cmpR op_eq (pv 0) pe_str (nomark _)) (pw_or1 (PW.pt (pw_and (pt_cmpR op_gt (pe_callB call_len_str rfl B.len b_len (pa_cons (pv 1) pa_nil)) pe_int (nomark _)) (pw_and1 (pt_cmpR op_eq (pe_ix ix_str (pv 1) pe_int (fun _ _ => rfl)) pe_str (nomark _)))))))) (pss_one (ps_ret pe_non)) pss_nil) (pss_one (ps_ret (pe_callTy call_intS rfl B.int b_int (pa_cons (pv 0) pa_nil))))))), ?_⟩
  have wl := W.len
  have fl := fig_len w
  refine c_asg (fun v H' => v = .str (fig19 w) ∧ H' = H) (fun Kk hk => ⟨_, rfl, _, rfl, _, rfl, le2000 (by omega), rfl, _, rfl, ?_⟩) ?_
  · by_cases h45 : (cl w).head? = some 45
    · exact iteT' (by rw [to1_19]; exact decide_eq_true h45) ⟨_, rfl, _, rfl, _, rfl, le2000 (by omega), hk _ _ ⟨congrArg V.str (from1_19 h45), rfl⟩⟩
    · exact iteF' (by rw [to1_19]; exact decide_eq_false h45) ⟨_, rfl, hk _ _ ⟨congrArg V.str (fig_no h45).symm, rfl⟩⟩
  rintro _ H ⟨rfl, rfl⟩
  have fa := fig_asc W.asc
  refine c_test (fun b H' => (b = false ↔ PySem.NumText.AllDigits (cl (fig19 w)) ∧ cl (fig19 w) ≠ []) ∧ Grow [] H H') (fun Kk hk => ⟨_, rfl, rfl, _, rfl, ?_⟩) ?_
  · by_cases he : fig19 w = S18 ""
    · exact iteT' (decide_eq_true (congrArg V.str he)) (hk _ _ ⟨⟨(fun z => nomatch z), fun z => absurd (by rw [he]; rfl) z.2⟩, Grow.refl _ _⟩)
    · have hne : cl (fig19 w) ≠ [] := fun z => he (str_ext18 z)
      refine iteF' (decide_eq_false fun z => he (V.str.inj z)) ⟨_, rfl, _, rfl, asc_of fa, comp_strPT (fun c => !decide (48 ≤ c ∧ c ≤ 57)) (fun i ys H' => H' = H ∧ ys.length ≤ i ∧ (ys = [] ↔ ∀ c ∈ (cl (fig19 w)).take i, 48 ≤ c ∧ c ≤ 57)) ⟨rfl, Nat.le_refl _, by simp⟩ ?_ ?_ ?_ ?_⟩
      · intro c H' R hc hR
        refine ⟨_, rfl, _, _, rfl, rfl, _, rfl, ?_⟩
        rw [occ19 c (fa c hc)]
        exact hR
      · rintro i c ys H' hc ⟨rfl, hl, hy⟩ hp
        have hi := (Array.getElem?_eq_some_iff.mp hc).1
        have fl' : (fig19 w).cps.size = (fig19 w).length := rfl
        refine ⟨_, rfl, lt2000 (by omega), rfl, by rw [List.length_append, List.length_singleton]; omega, ⟨fun z => absurd z (by simp), fun z => ?_⟩⟩
        have := z c (take_mem19 hc)
        rw [decide_eq_true this] at hp; cases hp
      · rintro i c ys H' hc ⟨rfl, hl, hy⟩ hp
        refine ⟨rfl, by omega, hy.trans ⟨fun z k hk => ?_, fun z k hk => z k ?_⟩⟩
        · rw [take_snoc19 hc] at hk
          rcases List.mem_append.mp hk with h | h
          · exact z k h
          · rw [List.mem_singleton.mp h]
            cases hd : decide (48 ≤ c ∧ c ≤ 57) with
            | true => exact of_decide_eq_true hd
            | false => rw [hd] at hp; cases hp
        · rw [take_snoc19 hc]; exact List.mem_append_left _ hk
      · rintro ys H' ⟨rfl, hl, hy⟩ l hl'
        rw [show (fig19 w).cps.size = (cl (fig19 w)).length from (Array.length_toList).symm, List.take_length] at hy
        refine ⟨szl rfl, fun b hb => ⟨l, b, ys, rfl, rfl, SqL.of (by rw [upd_ne (ne_of_none upd_same hb)]; exact upd_same), SqL.of upd_same, _, rfl, hk _ _ ⟨?_, (Grow.new hl' _).trans (Grow.new hb _)⟩⟩⟩
        rw [Bool.not_eq_false', List.isEmpty_iff, hy]
        exact ⟨fun z => ⟨z, hne⟩, fun z => z.1⟩
  rintro b H1 ⟨hb, g1⟩
  cases b with
  | true => 
    have e := rd_none1 (w := w) fun z => absurd (hb.mpr z) (by decide)
    rw [e] at q
    exact iteT (q _ g1)
  | false =>
    obtain ⟨hd, h0⟩ := hb.mp rfl
    refine iteF (c_next ?_)
    obtain ⟨c, r, ec⟩ : ∃ c r, cl (fig19 w) = c :: r := by
      cases hc : cl (fig19 w) with
      | nil => exact absurd hc h0
      | cons c r => exact ⟨c, r, rfl⟩
    have hh : (cl (fig19 w)).head? = some c := by rw [ec]; rfl
    refine c_test (fun b H' => b = decide (w = S18 "-0" ∨ (1 < (fig19 w).length ∧ (cl (fig19 w)).head? = some 48)) ∧ H' = H1) (fun Kk hk => ⟨_, rfl, rfl, _, rfl, ?_⟩) ?_
    · by_cases hz : w = S18 "-0"
      · exact iteT' (decide_eq_true (congrArg V.str hz)) (hk _ _ ⟨(decide_eq_true (.inl hz)).symm, rfl⟩)
      · refine iteF' (decide_eq_false fun z => hz (V.str.inj z)) ⟨_, rfl, _, rfl, le2000 (by omega), _, _, rfl, rfl, _, rfl, ?_⟩
        by_cases hl : 1 < (fig19 w).length
        · refine iteT' (decide_eq_true (by omega)) ⟨_, rfl, _, 0, c, rfl, rfl, le2000 (by omega), atI_head hh, rfl, _, rfl, hk _ _ ⟨?_, rfl⟩⟩
          rw [one_str (b := 48) (by decide), hh]
          simp [hz, hl]
        · refine iteF' (decide_eq_false (by omega)) (hk _ _ ⟨(decide_eq_false ?_).symm, rfl⟩)
          rintro (z | z)
          · exact hz z
          · exact hl z.1
    rintro _ H1 ⟨rfl, rfl⟩
    by_cases hn : w = S18 "-0" ∨ (1 < (fig19 w).length ∧ (cl (fig19 w)).head? = some 48)
    · rw [rd_none2 hn] at q
      exact iteT' (decide_eq_true hn) (q _ g1)
    · refine iteF' (decide_eq_false hn) (c_next ?_)
      obtain ⟨n, e1, e2, e3⟩ := rd_good W hd h0 (fun z => hn (.inl z)) (fun z => hn (.inr z))
      rw [e1] at q
      exact ⟨_, rfl, _, n, rfl, e2, by omega, q _ g1⟩
theorem sc__law_parts : FnScope ["_law_row", "_law_found", "_law_left", "_law_part", "_law_word", "_law_number_here", "_law_low", "_law_high"] ["_law_row"] (defScope (top 31)) := ⟨rfl, rfl, rfl, by decide +kernel, rfl, by decide +kernel, by decide +kernel⟩
set_option maxHeartbeats 0 in
theorem ok__law_parts {n : Nat} {f : Addr} {fd : FuncData} (F : Fun K "_law_parts" "_law_parts" (top 31) f fd) (B : Blt mg) (c__law_figures : Callee P w K mg base n "_law_figures" ["_law_word"] (sp_fig19 K))    :
    FnOk P w K mg base CX0 (n + 1) f fd ["_law_row"] (sp_parts19 K) := by
  refine F.ok sc__law_parts sp1_len (fun cdv A outer s H vs Q E hr h => ?_)
  obtain ⟨x, rfl, a, rs, ps, rfl, hs, hp, hl, hw, q⟩ := h
  refine ⟨_, (pss_cons (ps_set (i := 1) sc__law_parts.nd rfl (Or.inl rfl) (pe_disp (pps_cons pe_str pe_int (pps_cons pe_str pe_non (pps_cons pe_str pe_non pps_nil))) rfl rfl (fun z => nomatch z) (by decide))) (pss_cons (ps_set (i := 2) sc__law_parts.nd rfl (Or.inl rfl) (pe_lst (pa_cons pe_str (pa_cons pe_str (pa_cons pe_str pa_nil))))) (pss_cons (ps_for PassesOwn.never rfl (pi_list (pv 0)) (pg_tup rfl (pgs_cons (pg_name (i := 3) sc__law_parts.nd rfl (Or.inl rfl)) (pgs_cons (pg_name (i := 4) sc__law_parts.nd rfl (Or.inl rfl)) pgs_nil))) (pss_cons (ps_set (i := 5) sc__law_parts.nd rfl (Or.inl rfl) (pe_callC c__law_figures hr rfl (pa_cons (pv 4) pa_nil))) (pss_cons (ps_if (PW.pt (pw_or (pt_cmpR op_notIn_seq (pv 3) (pv 2) (by with_unfolding_all rfl)) (pw_or (pt_cmp (pc_isN (pv 5))) (pw_or1 (PW.pt (pw_and (pt_cmpR op_eq (pv 3) pe_str (nomark _)) (pw_and1 (pt_cmpR op_eq (pv 5) pe_int (nomark _))))))))) (pss_one (ps_ret pe_non)) pss_nil) (pss_cons (ps_set (i := 2) sc__law_parts.nd rfl (Or.inl rfl) (pe_slice sl_list (pv 2) (po_some (pe_op op_add (pe_bm PySem.F.plainAttrs_list PySem.F.slot_list_index PySem.F.type_list_index (mt_indexS19 (K := K) rfl) (pv 2) (pa_cons (pv 3) pa_nil)) pe_int)) po_none)) (pss_one (ps_dput (Room.u118 hr) (pv 1) (pv 3) (pv 5) rfl)))))) (pss_cons (ps_par (i := 6) (j := 7) rfl sc__law_parts.nd rfl rfl (by decide) rfl rfl (pa_cons (pe_dget (Room.u118 hr) (pv 1) pe_str (fun _ _ => rfl)) (pa_cons (pe_dget (Room.u118 hr) (pv 1) pe_str (fun _ _ => rfl)) pa_nil)) rfl) (pss_cons (ps_if (PW.pt (pw_and (pt_cmp (pc_notN (pv 6))) (pw_and (pt_cmp (pc_notN (pv 7))) (pw_and1 (pt_not (pt_cmpR op_lt (pv 6) (pv 7) (nomark _))))))) (pss_one (ps_ret pe_non)) pss_nil) (pss_one (ps_ret (pe_tup (pa_cons (pe_dget (Room.u118 hr) (pv 1) pe_str (fun _ _ => rfl)) (pa_cons (pv 6) (pa_cons (pv 7) pa_nil))))))))))), ?_⟩
  refine c_asg (fun v H' => ∃ r, v = .ref r ∧ H r = none ∧ H' = upd H r (.dK (dc19 ⟨0, none, none⟩))) (fun Kk hk => ?_) ?_
  · intro r hr0
    refine ⟨upd_same, [(Sum.inr (S18 "add"), .int 0), (Sum.inr (S18 "low"), .non), (Sum.inr (S18 "high"), .non)], rfl, by decide, ?_⟩
    rw [upd_upd]
    exact hk _ _ ⟨r, rfl, hr0, rfl⟩
  rintro _ _ ⟨r, rfl, hr0, rfl⟩
  have gr := Grow.new (m := [r]) hr0 (.dK (dc19 ⟨0, none, none⟩))
  refine ⟨szl rfl, fun l0 hl0 => ?_⟩
  have gl0 := Grow.new (m := [r]) hl0 (.lst [V.str (S18 "add"), V.str (S18 "low"), V.str (S18 "high")])
  have nr : ∀ {H' : Hp} {l : Addr} {d : Deed}, H' r = some (.dK (dc19 d)) → H' l = none → r ≠ l := fun h1 h2 e => by rw [e, h2] at h1; cases h1
  have G0 := gr.trans gl0
  refine ⟨_, rfl, a, rfl, ⟨rs, (Grow.shrink hr0 G0).sqL hs⟩, for_list (xs := rs) (fun i σ H' => ∃ (l : Addr) (j : Nat) (d : Deed) (e3 e4 e5 e6 e7 : Option V), σ = [some (.ref a), some (.ref r), some (.ref l), e3, e4, e5, e6, e7] ∧ j ≤ 3 ∧ H' r = some (.dK (dc19 d)) ∧ H' l = some (.lst ((lf19 j).map V.str)) ∧ Grow [r] H H' ∧ run19 (ps.drop i) (j, d) = run19 ps (0, ⟨0, none, none⟩)) ⟨l0, 0, ⟨0, none, none⟩, _, _, _, _, _, rfl, by decide, by rw [upd_ne (nr upd_same hl0)]; exact upd_same, upd_same, G0, rfl⟩ (fun i σ H' _ ⟨_, _, _, _, _, _, _, _, _, _, _, _, g, _⟩ => (Grow.shrink hr0 g).sqL hs) ?_ ?_⟩
  · rintro i x σ H1 hx ⟨l, j, d, e3, e4, e5, e6, e7, rfl, hj, hr1, hl1, g1, hrun⟩
    obtain ⟨p, hpi⟩ : ∃ p, ps[i]? = some p := by
      have := (List.getElem?_eq_some_iff.mp hx).1
      exact ⟨_, List.getElem?_eq_getElem (by rw [← hp.1]; exact this)⟩
    obtain ⟨t, ht, st⟩ := hp.2 i p hpi
    obtain rfl : x = .ref t := Option.some.inj (hx.symm.trans ht)
    have W := hw p (List.mem_of_getElem? hpi)
    refine ⟨t, _, rfl, g1.sqT st, rfl, _, _, rfl, _, _, rfl, rfl, ?_⟩
    try dsimp only
    refine c_asg (fun v H' => v = ov (rd19 p.2) ∧ Grow [] H1 H') (fun Kk hk => ⟨_, rfl, _, rfl, _, rfl, W, fun H' g => hk _ _ ⟨rfl, g⟩⟩) ?_
    rintro _ H2 ⟨rfl, g2⟩
    have hr2 := g2.keep _ _ (by simp) hr1
    have hl2 := g2.keep _ _ (by simp) hl1
    refine c_test (fun b H' => b = tst19 j p.1 (rd19 p.2) ∧ H' = H2) (fun Kk hk => ⟨_, rfl, _, rfl, l, _, rfl, .inl (SqL.of hl2), rfl, flat_strs, _, rfl, ?_⟩) ?_
    · by_cases hm : p.1 ∈ lf19 j
      · refine iteF' (by rw [if_pos rfl, inV_str19, decide_eq_true hm]; rfl) ⟨_, rfl, _, rfl, ?_⟩
        cases hrd : rd19 p.2 with
        | none => exact iteT (hk _ _ ⟨by unfold tst19; rw [hrd, decide_eq_true hm]; rfl, rfl⟩)
        | some n =>
          refine iteF ⟨_, rfl, rfl, _, rfl, ?_⟩
          by_cases ha : p.1 = S18 "add"
          · refine iteT' (decide_eq_true (congrArg V.str ha)) ⟨_, rfl, rfl, _, rfl, hk _ _ ⟨?_, rfl⟩⟩
            unfold tst19
            rw [hrd, decide_eq_true hm, decide_eq_true ha]
            show decide (V.int n = V.int 0) = decide (some n = some (0 : Int))
            rw [decide_eq_decide]
            exact ⟨fun z => congrArg some (V.int.inj z), fun z => congrArg V.int (Option.some.inj z)⟩
          · refine iteF' (decide_eq_false fun z => ha (V.str.inj z)) (hk _ _ ⟨?_, rfl⟩)
            unfold tst19
            rw [hrd, decide_eq_true hm, decide_eq_false ha]; rfl
      · exact iteT' (by rw [if_pos rfl, inV_str19, decide_eq_false hm]; rfl) (hk _ _ ⟨by unfold tst19; rw [decide_eq_false hm]; rfl, rfl⟩)
    rintro _ H2 ⟨rfl, rfl⟩
    cases ht9 : tst19 j p.1 (rd19 p.2) with
    | true =>
      have hb := stp_bad (d := d) hj ht9
      rw [run_at hpi, hb] at hrun
      refine iteT (q _ _ (Grow.shrink hr0 (g1.trans g2.wk)) ?_)
      show OutD K _ _ (match run19 ps (0, ⟨0, none, none⟩) with | none => none | some s => if lt19 s.2.lo s.2.hi = true then some s.2 else none)
      rw [← hrun]
      rfl
    | false =>
      obtain ⟨n, j', d', hrd, hst, hj', hm, hdr, hput⟩ := stp_good (d := d) ht9
      refine iteF (c_next ?_)
      have hlen : (lf19 j).length ≤ 3 := by unfold lf19; rw [List.length_drop]; exact Nat.sub_le _ _
      refine c_asg (fun v H' => ∃ l', v = .ref l' ∧ H2 l' = none ∧ H' = upd H2 l' (.lst ((lf19 j').map V.str))) (fun Kk hk => ⟨_, rfl, _, rfl, .inl ⟨rfl, _, SqL.of hl2⟩, _, rfl, l, _, _, rfl, rfl, SqL.of hl2, hm, by omega, _, _, rfl, rfl, _, rfl, l, _, rfl, SqL.of hl2, fun l' hl' => ?_⟩) ?_
      · rw [show (((lf19 j).idxOf p.1 : Nat) : Int) + 1 = (((lf19 j).idxOf p.1 + 1 : Nat) : Int) from by omega, cut_suf, ← List.map_drop, hdr]
        exact hk _ _ ⟨l', rfl, hl', rfl⟩
      rintro _ _ ⟨l', rfl, hl', rfl⟩
      have hr3 : upd H2 l' (.lst ((lf19 j').map V.str)) r = some (.dK (dc19 d)) := by rw [upd_ne (nr hr2 hl')]; exact hr2
      refine ⟨_, rfl, _, rfl, _, rfl, r, _, rfl, DPut.k (k := Sum.inr p.1) hr3 (lt2000 (n := 3) (by decide)), ?_⟩
      rw [hrd]
      refine ⟨l', j', d', _, _, _, _, _, rfl, hj', ?_, ?_, g1.trans (g2.wk.trans ((Grow.new hl' _).trans (Grow.setK19 hr3 (by simp) _))), ?_⟩
      · rw [upd_same]; exact congrArg (fun z => some (HO.dK z)) hput
      · rw [upd_ne (fun z => nr hr2 hl' z.symm)]; exact upd_same
      · rw [run_at hpi, hst] at hrun
        exact hrun
  rintro σ H1 ⟨l, j, d, e3, e4, e5, e6, e7, rfl, hj, hr1, hl1, g1, hrun⟩
  rw [hp.1, List.drop_length] at hrun
  have hpr : pr19 ps = if lt19 d.lo d.hi = true then some d else none := by
    unfold pr19
    rw [← hrun]; rfl
  rw [hpr] at q
  obtain ⟨ad, lo, hi⟩ := d
  have dl : DGet H1 r (.str (S18 "low")) (some (ov lo)) := DGet.k (k := Sum.inr (S18 "low")) hr1
  have dh : DGet H1 r (.str (S18 "high")) (some (ov hi)) := DGet.k (k := Sum.inr (S18 "high")) hr1
  have da : DGet H1 r (.str (S18 "add")) (some (.int ad)) := DGet.k (k := Sum.inr (S18 "add")) hr1
  refine ⟨_, rfl, r, _, rfl, dl, _, rfl, r, _, rfl, dh, _, _, rfl, ?_⟩
  try dsimp only
  refine c_test (fun b H' => b = (!lt19 lo hi) ∧ H' = H1) (fun Kk hk => ⟨_, rfl, _, rfl, ?_⟩) ?_
  · cases lo with
    | none => exact iteF (hk _ _ ⟨rfl, rfl⟩)
    | some l =>
      refine iteT ⟨_, rfl, _, rfl, ?_⟩
      cases hi with
      | none => exact iteF (hk _ _ ⟨rfl, rfl⟩)
      | some u => exact iteT ⟨_, rfl, _, rfl, _, _, rfl, rfl, _, rfl, hk _ _ ⟨rfl, rfl⟩⟩
  rintro _ H1 ⟨rfl, rfl⟩
  cases hlt : lt19 lo hi with
  | false =>
    have q' := q .non _ (Grow.shrink hr0 g1)
    rw [show (⟨ad, lo, hi⟩ : Deed).lo = lo from rfl, show (⟨ad, lo, hi⟩ : Deed).hi = hi from rfl, hlt] at q'
    exact iteT (q' rfl)
  | true =>
    refine iteF (c_next ⟨_, rfl, r, _, rfl, da, _, rfl, _, rfl, szl rfl, fun t ht => q _ _ (Grow.shrink hr0 (g1.trans (Grow.new ht _))) ?_⟩)
    rw [show (⟨ad, lo, hi⟩ : Deed).lo = lo from rfl, show (⟨ad, lo, hi⟩ : Deed).hi = hi from rfl, hlt]
    exact ⟨t, rfl, SqT.of upd_same⟩
theorem sc__law_read : FnScope ["_law_text_here", "_law_row", "_law_pairs", "_law_number_here"] ["_law_text_here"] (defScope (top 32)) := ⟨rfl, rfl, rfl, by decide +kernel, rfl, by decide +kernel, by decide +kernel⟩
set_option maxHeartbeats 0 in
theorem ok__law_read {n : Nat} {f : Addr} {fd : FuncData} (F : Fun K "_law_read" "_law_read" (top 32) f fd) (B : Blt mg) (c__law_parts : Callee P w K mg base n "_law_parts" ["_law_row"] (sp_parts19 K)) (c__law_figures : Callee P w K mg base n "_law_figures" ["_law_word"] (sp_fig19 K))    :
    FnOk P w K mg base CX0 (n + 1) f fd ["_law_text_here"] (sp_read19 K) := by
  refine F.ok sc__law_read sp1_len (fun cdv A outer s H vs Q E hr h => ?_)
  obtain ⟨x, rfl, dd, m, hd, D, q⟩ := h
  refine ⟨_, (pss_cons (ps_if (pt_not (pt_val (pe_callB (call_isiO (K := K) rfl) rfl B.isinstance b_isinstance (pa_cons (pv 0) (pa_cons (pe_tyn rfl B.str b_str) pa_nil))))) (pss_one (ps_ret pe_non)) pss_nil) (pss_cons (ps_if (pt_cmpR op_eq (pv 0) pe_str (nomark _)) (pss_one (ps_ret (pe_tup (pa_cons pe_int (pa_cons pe_non (pa_cons pe_non pa_nil)))))) pss_nil) (pss_cons (ps_set (i := 1) sc__law_read.nd rfl (Or.inr rfl) (pe_bm PySem.F.plainAttrs_str PySem.F.slot_str_split PySem.F.type_str_split mt_split (pv 0) (pa_cons pe_str pa_nil))) (pss_cons (ps_if (pt_cmpR op_eq (pe_op op_mod (pe_callB call_len_seq rfl B.len b_len (pa_cons (pv 1) pa_nil)) pe_int) pe_int (nomark _)) (pss_one (ps_ret pe_non)) pss_nil) (pss_cons (ps_compT (i := 2) sc__law_read.nd rfl rfl (CSc.of (N' := ["_law_k", "_law_row"]) (sub := [none, some 1]) (defScope (top 32)) ["_law_text_here", "_law_row", "_law_pairs", "_law_number_here"] rfl rfl (by decide +kernel) rfl) rfl (pi_rangeS rfl B.range (pa_cons pe_int (pa_cons (pe_callB call_len_seq rfl B.len b_len (pa_cons (pv 1) pa_nil)) (pa_cons pe_int pa_nil)))) (fun _ _ _ _ _ _ => pg_name (i := 0) (show (["_law_k", "_law_row"] : List Str).Nodup by decide +kernel) rfl (Or.inl rfl)) (fun _ _ _ _ _ _ => pifs_nil) (fun _ _ _ _ _ _ => (pe_tup (pa_cons (pe_ix (ix_listK (K := K) rfl) (pv 1) (pv 0) (fun _ _ => rfl)) (pa_cons (pe_ix (ix_listK (K := K) rfl) (pv 1) (pe_op op_add (pv 0) pe_int) (fun _ _ => rfl)) pa_nil))))) (pss_cons (ps_if (PW.pt (pw_and (pt_cmpR op_eq (pe_ix ix_list (pv 1) pe_int (fun _ _ => rfl)) pe_str (nomark _)) (pw_and1 (pt_cmpR op_eq (pe_callB call_len_seq rfl B.len b_len (pa_cons (pv 1) pa_nil)) pe_int (nomark _))))) (pss_cons (ps_set (i := 3) sc__law_read.nd rfl (Or.inl rfl) (pe_callC c__law_figures hr rfl (pa_cons (pe_ix ix_list (pv 1) pe_int (fun _ _ => rfl)) pa_nil))) (pss_one (ps_ret (pe_ifExp (pt_cmp (pc_isN (pv 3))) pe_non (pe_tup (pa_cons pe_int (pa_cons (pv 3) (pa_cons (pv 3) pa_nil)))))))) pss_nil) (pss_one (ps_ret (pe_callC c__law_parts hr rfl (pa_cons (pv 2) pa_nil)))))))))), ?_⟩
  refine c_test (fun b H' => b = (!isS19 dd) ∧ H' = H) (fun Kk hk => ⟨_, rfl, _, dd, m, _, _, rfl, hd, kit_str19 dd, _, rfl, hk _ _ ⟨rfl, rfl⟩⟩) ?_
  rintro _ H ⟨rfl, rfl⟩
  cases hi : isS19 dd with
  | false =>
    rw [is_no hi] at q
    exact iteT (q _ _ (Grow.refl _ _) rfl)
  | true =>
    refine iteF (c_next ?_)
    obtain ⟨w, rfl, rfl⟩ := od_str hd hi
    obtain ⟨T, hw⟩ := D w rfl
    have tl := T.len
    have sl := split_len19 T
    have hred : red19 (.str w) = lr19 w := rfl
    rw [hred] at q
    refine ⟨_, rfl, rfl, _, rfl, ?_⟩
    by_cases hlk : w = S18 "look"
    · refine iteT' (decide_eq_true (congrArg V.str hlk)) ⟨szl rfl, fun t ht => q _ _ (Grow.new ht _) ?_⟩
      rw [show lr19 w = some ⟨0, none, none⟩ from if_pos hlk]
      exact ⟨t, rfl, SqT.of upd_same⟩
    refine iteF' (decide_eq_false fun z => hlk (V.str.inj z)) (c_next ?_)
    refine c_asg (fun v H' => ∃ p, v = .ref p ∧ H' p = some (.lst ((Txt.split w (S18 " ")).map V.str)) ∧ Grow [] H H') (fun Kk hk => ⟨_, rfl, rfl, _, _, rfl, rfl, by decide, le2000 (by omega), le2000 (Nat.le_trans sl (by omega)), fun p hp => hk _ _ ⟨p, rfl, upd_same, Grow.new hp _⟩⟩) ?_
    rintro _ H1 ⟨p, rfl, hp1, g1⟩
    have elr : lr19 w = _ := if_neg hlk
    rw [elr] at q
    have hpos := spl_pos w
    generalize Txt.split w (S18 " ") = ws at hw sl hp1 q hpos
    clear elr hred
    have hlv : (ws.map V.str).length = ws.length := List.length_map ..
    refine ⟨_, rfl, p, _, rfl, .inl (SqL.of hp1), _, _, rfl, rfl, (show (0 : Int) < 2 by decide), rfl, _, rfl, ?_⟩
    by_cases hodd : ws.length % 2 = 1
    · rw [if_pos hodd] at q
      exact iteT' (decide_eq_true (congrArg V.int (by rw [hlv]; omega))) (q _ _ g1 rfl)
    rw [if_neg hodd] at q
    refine iteF' (decide_eq_false fun z => hodd (by have := V.int.inj z; rw [hlv] at this; omega)) (c_next ?_)
    have tn := two_len ws
    refine c_asg (fun v H' => ∃ l rs, v = .ref l ∧ H' l = some (.lst rs) ∧ Prs19 K H' rs (two19 ws) ∧ Grow [] H1 H') (fun Kk hk => ⟨_, rfl, p, _, rfl, .inl (SqL.of hp1), 0, _, rfl, by decide, by decide, by omega, by omega, comp_rngS (fun i ys H' => Grow [] H1 H' ∧ ys.length = i ∧ ∀ (k : Nat) (pr : Str × Str), k < i → (two19 ws)[k]? = some pr → ∃ t : Addr, ys[k]? = some (V.ref t) ∧ SqT K H' t [V.str pr.1, V.str pr.2]) ⟨Grow.refl _ _, rfl, fun k _ h => absurd h (by omega)⟩ ?_ ?_⟩) ?_
    · rintro i ys H' hi' ⟨g', yl, hy⟩
      have hi2 : i < ws.length / 2 := by
        have := hi'
        rw [hlv] at this
        omega
      obtain ⟨a, b, h1, h2, h3⟩ := two_get hi2
      have hp' := g'.keep _ _ (by simp) hp1
      rw [show (0 : Int) + 2 * (i : Int) = ((2 * i : Nat) : Int) from by omega]
      refine ⟨_, rfl, _, rfl, p, _, _, V.str a, rfl, rfl, SqL.of hp', atI_nat (by rw [List.getElem?_map, h1]; rfl), _, rfl, _, rfl, _, _, rfl, rfl, p, _, _, V.str b, rfl, rfl, SqL.of hp', ?_, szl rfl, fun t ht => ⟨lt2000 (by omega), g'.trans (Grow.new ht _), ?_, fun k pr hk' hpr => ?_⟩⟩
      · rw [show ((2 * i : Nat) : Int) + 1 = ((2 * i + 1 : Nat) : Int) from by omega]
        exact atI_nat (by rw [List.getElem?_map, h2]; rfl)
      · rw [List.length_append, List.length_singleton, yl]
      · by_cases hki : k < i
        · obtain ⟨t', e1, e2⟩ := hy k pr hki hpr
          exact ⟨t', by rw [List.getElem?_append_left (by omega)]; exact e1, (Grow.new (m := []) ht _).sqT e2⟩
        · have ek : k = i := by omega
          subst ek
          cases h3.symm.trans hpr
          exact ⟨t, by rw [← yl, List.getElem?_concat_length], SqT.of upd_same⟩
    · rintro ys H' ⟨g', yl, hy⟩ l hl'
      have en : ((((ws.map V.str).length : Int) - 0 + 1) / 2).toNat = ws.length / 2 := by rw [hlv]; omega
      rw [en] at yl hy
      refine hk _ _ ⟨l, ys, rfl, upd_same, ⟨by omega, fun i pr hpr => ?_⟩, g'.trans (Grow.new hl' _)⟩
      obtain ⟨t, e1, e2⟩ := hy i pr (by have := (List.getElem?_eq_some_iff.mp hpr).1; omega) hpr
      exact ⟨t, e1, (Grow.new (m := []) hl' _).sqT e2⟩
    rintro _ H2 ⟨l, rs, rfl, hl2, hprs, g2⟩
    have hp2 := g2.keep _ _ (by simp) hp1
    have G2 := g1.trans g2
    obtain ⟨w0, hw0⟩ : ∃ w0, ws[0]? = some w0 := by
      cases ws with
      | nil => exact absurd rfl hpos
      | cons w r => exact ⟨w, rfl⟩
    refine c_test (fun b H' => b = decide (ws[0]? = some (S18 "set") ∧ ws.length = 2) ∧ H' = H2) (fun Kk hk => ⟨_, rfl, p, _, 0, V.str w0, rfl, rfl, SqL.of hp2, atI_nat (j := 0) (by rw [List.getElem?_map, hw0]; rfl), rfl, _, rfl, ?_⟩) ?_
    · by_cases hset : w0 = S18 "set"
      · refine iteT' (decide_eq_true (congrArg V.str hset)) ⟨_, rfl, p, _, rfl, .inl (SqL.of hp2), rfl, _, rfl, hk _ _ ⟨?_, rfl⟩⟩
        rw [hw0, hset, hlv, decide_eq_decide]
        exact ⟨fun z => ⟨rfl, by have := V.int.inj z; omega⟩, fun z => congrArg V.int (by omega)⟩
      · refine iteF' (decide_eq_false fun z => hset (V.str.inj z)) (hk _ _ ⟨(decide_eq_false fun z => ?_).symm, rfl⟩)
        rw [hw0] at z
        exact hset (Option.some.inj z.1)
    rintro _ H2 ⟨rfl, rfl⟩
    by_cases hset : ws[0]? = some (S18 "set") ∧ ws.length = 2
    · rw [if_pos hset] at q
      refine iteT' (decide_eq_true hset) ?_
      obtain ⟨w1, hw1⟩ : ∃ w1, ws[1]? = some w1 := ⟨_, List.getElem?_eq_getElem (by omega)⟩
      rw [hw1] at q
      refine c_asg (fun v H' => v = ov (rd19 w1) ∧ Grow [] H2 H') (fun Kk hk => ⟨_, rfl, p, _, 1, V.str w1, rfl, rfl, SqL.of hp2, atI_nat (j := 1) (by rw [List.getElem?_map, hw1]; rfl), _, rfl, _, rfl, hw w1 (List.mem_of_getElem? hw1), fun H' g => hk _ _ ⟨rfl, g⟩⟩) ?_
      rintro _ H3 ⟨rfl, g3⟩
      have q' : ∀ y H', Grow [] H H' → OutD K H' y ((rd19 w1).map fun n => ⟨0, some n, some n⟩) → Q y H' := q
      refine ⟨_, rfl, _, rfl, ?_⟩
      cases hrd : rd19 w1 with
      | none =>
        rw [hrd] at q'
        exact iteT (q' _ _ (G2.trans g3) rfl)
      | some n =>
        rw [hrd] at q'
        exact iteF ⟨_, rfl, _, rfl, szl rfl, fun t ht => q' _ _ (G2.trans (g3.trans (Grow.new ht _))) ⟨t, rfl, SqT.of upd_same⟩⟩
    · rw [if_neg hset] at q
      refine iteF' (decide_eq_false hset) (c_next ?_)
      exact ⟨_, rfl, _, rfl, l, rs, two19 ws, rfl, SqL.of hl2, hprs, by omega, (fun pr hpr => hw _ (two_mem hpr).2), fun y H3 g3 ho => q _ _ (G2.trans g3) ho⟩
theorem sc__law_right : FnScope ["_law_text_here", "_law_due"] ["_law_text_here"] (defScope (top 34)) := ⟨rfl, rfl, rfl, by decide +kernel, rfl, by decide +kernel, by decide +kernel⟩
set_option maxHeartbeats 0 in
theorem ok__law_right {n : Nat} {f : Addr} {fd : FuncData} (F : Fun K "_law_right" "_law_right" (top 34) f fd) (B : Blt mg) (c_deed_text : Callee P w K mg base n "deed_text" ["deed"] (sp_dtext K)) (c__law_said : Callee P w K mg base n "_law_said" ["_law_text_here"] (sp_said19 K)) (c__law_read : Callee P w K mg base n "_law_read" ["_law_text_here"] (sp_read19 K))    :
    FnOk P w K mg base CX0 (n + 1) f fd ["_law_text_here"] (sp_right19 K) := by
  refine F.ok sc__law_right sp1_len (fun cdv A outer s H vs Q E hr h => ?_)
  obtain ⟨x, rfl, dd, m, hd, D, q⟩ := h
  refine ⟨_, (pss_cons (ps_set (i := 1) sc__law_right.nd rfl (Or.inl rfl) (pe_callC c__law_read hr rfl (pa_cons (pv 0) pa_nil))) (pss_cons (ps_if (pt_cmpR op_ne (pe_callB (call_reprO (K := K) rfl hr) rfl B.repr b_repr (pa_cons (pe_callC c__law_said hr rfl (pa_cons (pv 0) pa_nil)) pa_nil)) (pe_callB (call_reprO (K := K) rfl hr) rfl B.repr b_repr (pa_cons (pe_ifExp (pt_cmp (pc_isN (pv 1))) pe_str (pv 1)) pa_nil)) (nomark _)) (pss_one (ps_ret pe_bl)) pss_nil) (pss_one (ps_ret (pe_or (pe_cmp (pc_isN (pv 1))) (pe_one (pe_cmpR op_eq (pe_callC c_deed_text hr rfl (pa_cons (pv 1) pa_nil)) (pv 0) (nomark _)))))))), ?_⟩
  refine c_asg (fun v H' => OutD K H' v (red19 dd) ∧ Grow [] H H') (fun Kk hk => ⟨_, rfl, _, rfl, dd, m, hd, D, fun y H' g ho => hk _ _ ⟨ho, g⟩⟩) ?_
  rintro y H1 ⟨ho, g1⟩
  have hd1 := hd.grow g1.wk
  cases hrd : red19 dd with
  | none =>
    rw [hrd] at ho
    have hy : y = .non := ho
    subst hy
    obtain ⟨s1, s2, s3⟩ := ref_show
    refine c_test (fun b H' => b = false ∧ Grow [] H1 H') (fun Kk hk => ⟨_, rfl, _, rfl, dd, m, hd1, D, fun z H2 g2 hz => ?_⟩) ?_
    · rw [hrd] at hz
      have hz' : z = .str (S18 "refused") := hz
      subst hz'
      exact ⟨_, .str (S18 "refused"), [], rfl, .str _, s1, s2, s3, _, rfl, _, rfl, iteT ⟨_, .str (S18 "refused"), [], rfl, .str _, s1, s2, s3, rfl, _, rfl, hk _ _ ⟨by rw [decide_eq_true rfl]; rfl, g2⟩⟩⟩
    rintro _ H2 ⟨rfl, g2⟩
    refine iteF (c_next ?_)
    exact ⟨_, rfl, _, rfl, iteT (q _ (g1.trans g2))⟩
  | some d =>
    rw [hrd] at ho
    have hy : DeedAt K H1 y d := ho
    obtain ⟨w, rfl, hl⟩ := red_some hrd
    obtain ⟨od, et⟩ := lr_some hl
    have bd := lr_bd (D w rfl).2 hl
    obtain ⟨s1, s2, s3⟩ := show_deed18 bd
    obtain ⟨w', e1, rfl⟩ := od_str hd rfl
    cases e1
    obtain ⟨a, rfl, hs⟩ := id hy
    refine c_test (fun b H' => b = false ∧ Grow [] H1 H') (fun Kk hk => ⟨_, rfl, _, rfl, _, m, hd1, D, fun z H2 g2 hz => ?_⟩) ?_
    · rw [hrd] at hz
      have hz' : DeedAt K H2 z d := hz
      exact ⟨_, deedD d, [], rfl, od_deed18 hz', s1, s2, s3, _, rfl, _, rfl, iteF ⟨_, rfl, _, deedD d, [], rfl, od_deed18 (g2.deed hy), s1, s2, s3, rfl, _, rfl, hk _ _ ⟨by rw [decide_eq_true rfl]; rfl, g2⟩⟩⟩
    rintro _ H2 ⟨rfl, g2⟩
    refine iteF (c_next ?_)
    refine ⟨_, rfl, _, rfl, iteF ⟨_, rfl, _, rfl, d, g2.deed hy, od, bd, fun H3 g3 => ⟨_, rfl, rfl, ?_⟩⟩⟩
    rw [et, decide_eq_true rfl]
    exact q _ (g1.trans (g2.trans g3))
theorem sc__law_is_long : FnScope ["_law_text_here", "_law_plain"] ["_law_text_here"] (defScope (top 35)) := ⟨rfl, rfl, rfl, by decide +kernel, rfl, by decide +kernel, by decide +kernel⟩
set_option maxHeartbeats 0 in
theorem ok__law_is_long {n : Nat} {f : Addr} {fd : FuncData} (F : Fun K "_law_is_long" "_law_is_long" (top 35) f fd) (B : Blt mg)     :
    FnOk P w K mg base CX0 (n + 1) f fd ["_law_text_here"] (sp_long19 K) := by
  refine F.ok sc__law_is_long sp1_len (fun cdv A outer s H vs Q E hr h => ?_)
  obtain ⟨x, rfl, w, rfl, T, q⟩ := h
  refine ⟨_, (pss_cons (ps_set (i := 1) sc__law_is_long.nd rfl (Or.inl rfl) (pe_bm PySem.F.plainAttrs_str PySem.F.slot_str_join PySem.F.type_str_join mt_join pe_str (pa_cons (pe_compT (CSc.of (N' := ["_law_sign_here"]) (sub := [none]) (defScope (top 35)) ["_law_text_here", "_law_plain"] rfl rfl (by decide +kernel) rfl) rfl (pi_str (pv 0)) (fun _ _ _ _ _ _ => pg_name (i := 0) (show (["_law_sign_here"] : List Str).Nodup by decide +kernel) rfl (Or.inl rfl)) (fun _ _ _ _ _ _ => pifs_nil) (fun _ _ _ _ _ _ => (pe_ifExp (pt_cmpR op_in_str (pv 0) pe_str (by with_unfolding_all rfl)) (pv 0) pe_str))) pa_nil))) (pss_one (ps_ret (pe_cmpR (op_neNil (K := K) rfl hr) (pe_compT (CSc.of (N' := ["_law_word"]) (sub := [none]) (defScope (top 35)) ["_law_text_here", "_law_plain"] rfl rfl (by decide +kernel) rfl) rfl (pi_list (pe_bm PySem.F.plainAttrs_str PySem.F.slot_str_split PySem.F.type_str_split mt_split (pv 1) (pa_cons pe_str pa_nil))) (fun _ _ _ _ _ _ => pg_name (i := 0) (show (["_law_word"] : List Str).Nodup by decide +kernel) rfl (Or.inl rfl)) (fun _ _ _ _ _ _ => (pifs_one (pt_cmpR op_gt (pe_callB call_len_str rfl B.len b_len (pa_cons (pv 0) pa_nil)) pe_int (nomark _)))) (fun _ _ _ _ _ _ => (pv 0))) (pe_lst pa_nil) (nomark _))))), ?_⟩
  have tl := T.len
  have cw : w.cps.size = (cl w).length := (Array.length_toList).symm
  have cl' : (cl w).length ≤ 994 := by rw [← cl_len]; exact tl
  refine c_asg (fun v H' => ∃ z, v = .str z ∧ cl z = (cl w).map pl19 ∧ Grow [] H H') (fun Kk hk => ⟨rfl, _, rfl, _, rfl, asc_of T.asc, comp_strPT (fun _ => true) (fun i ys H' => H' = H ∧ ys = (sg19 ((cl w).take i)).map V.str) ⟨rfl, rfl⟩ (fun _ _ _ _ h => h) ?_ (fun _ _ _ _ _ _ z => nomatch z) ?_⟩) ?_
  · rintro i c ys H' hc ⟨rfl, rfl⟩ _
    have hlt := T.asc c (Array.mem_toList_iff.mpr (Array.mem_of_getElem? hc))
    have fin : (sg19 ((cl w).take i)).map V.str ++ [V.str ⟨#[pl19 c]⟩] = (sg19 ((cl w).take (i + 1))).map V.str := by
      rw [take_snoc19 hc]; unfold sg19; rw [List.map_append, List.map_append]; rfl
    have hl : ((sg19 ((cl w).take i)).map V.str).length < sizeLine := lt2000 (by unfold sg19; rw [List.length_map, List.length_map, List.length_take]; omega)
    refine ⟨_, rfl, _, _, rfl, rfl, _, rfl, ?_⟩
    rw [occ19' c hlt]
    by_cases hd : 48 ≤ c ∧ c ≤ 57
    · refine iteT' (decide_eq_true hd) ⟨_, rfl, hl, rfl, ?_⟩
      rw [← fin, show pl19 c = c from if_pos hd]
    · refine iteF' (decide_eq_false hd) ⟨hl, rfl, ?_⟩
      rw [← fin, show pl19 c = 32 from if_neg hd, ← blank18]
  · rintro ys H' ⟨rfl, rfl⟩ l hl'
    rw [cw, List.take_length]
    exact ⟨_, l, sg19 (cl w), rfl, rfl, SqL.of upd_same, sg_ok (by omega), hk _ _ ⟨_, rfl, join_sg _, Grow.new hl' _⟩⟩
  rintro _ H1 ⟨z, rfl, hz, g1⟩
  have zl : z.length ≤ 994 := by rw [cl_len, hz, List.length_map]; exact cl'
  have zs : (Txt.split z (S18 " ")).length ≤ 995 := by
    have := wt_len (Txt.split z (S18 " "))
    rw [wt_split] at this
    omega
  have zm : ∀ q ∈ Txt.split z (S18 " "), q.length ≤ 994 := fun q hq => by
    have := wt_mem hq
    rw [wt_split] at this
    omega
  refine ⟨_, rfl, rfl, _, _, rfl, rfl, by decide, le2000 (by omega), le2000 (Nat.le_trans zs (by decide)), fun p hp => ⟨p, rfl, ⟨_, SqL.of upd_same⟩, comp_list (xs := (Txt.split z (S18 " ")).map V.str) (fun i ys σ H' => (∃ e, σ = [e]) ∧ H' = upd H1 p (.lst ((Txt.split z (S18 " ")).map V.str)) ∧ ys.length ≤ i ∧ (ys = [] → ∀ q ∈ (Txt.split z (S18 " ")).take i, q.length ≤ 30)) ⟨⟨_, rfl⟩, rfl, Nat.le_refl _, by simp⟩ (fun i ys σ H' _ z => by rw [z.2.1]; exact SqL.of upd_same) ?_ ?_⟩⟩
  · rintro i x ys σ H' hx ⟨⟨e, rfl⟩, rfl, hl, hy⟩
    rw [List.getElem?_map] at hx
    obtain ⟨q', hq, rfl⟩ := Option.map_eq_some_iff.mp hx
    have hi := (List.getElem?_eq_some_iff.mp hq).1
    have ts : (Txt.split z (S18 " ")).take (i + 1) = (Txt.split z (S18 " ")).take i ++ [q'] := by rw [List.take_succ, hq]; rfl
    have hq' := zm q' (List.mem_of_getElem? hq)
    refine ⟨_, rfl, _, rfl, le2000 (by omega), _, _, rfl, rfl, _, rfl, ?_⟩
    by_cases h30 : 30 < q'.length
    · exact iteT' (decide_eq_true (by omega)) ⟨_, rfl, lt2000 (by omega), ⟨_, rfl⟩, rfl, by rw [List.length_append, List.length_singleton]; omega, fun z => absurd z (by simp)⟩
    · refine iteF' (decide_eq_false (by omega)) ⟨⟨_, rfl⟩, rfl, by omega, fun z k hk => ?_⟩
      rw [ts] at hk
      rcases List.mem_append.mp hk with h | h
      · exact hy z k h
      · rw [List.mem_singleton.mp h]; omega
  · rintro ys σ H' ⟨_, rfl, hl, hy⟩ l hl'
    rw [List.length_map, List.take_length] at hy
    refine ⟨szl rfl, fun b hb => ⟨l, b, ys, rfl, rfl, SqL.of (by rw [upd_ne (ne_of_none upd_same hb)]; exact upd_same), SqL.of upd_same, q _ _ (g1.trans ((Grow.new hp _).trans ((Grow.new hl' _).trans (Grow.new hb _)))) fun e => ?_⟩⟩
    rw [Bool.not_eq_false', List.isEmpty_iff] at e
    exact w_long T hz (hy e)
theorem sc__law_take : FnScope ["_law_pot_here", "_law_many", "_law_digit"] ["_law_pot_here", "_law_many"] (defScope (top 23)) := ⟨rfl, rfl, rfl, by decide +kernel, rfl, by decide +kernel, by decide +kernel⟩
set_option maxHeartbeats 0 in
theorem ok__law_take {n : Nat} {f : Addr} {fd : FuncData} (F : Fun K "_law_take" "_law_take" (top 23) f fd) (B : Blt mg)     :
    FnOk P w K mg base CX0 (n + 1) f fd ["_law_pot_here", "_law_many"] (sp_take K) := by
  refine F.ok sc__law_take sp2_len (fun cdv A outer s H vs Q E hr h => ?_)
  obtain ⟨x, y, rfl, a, m, rfl, rfl, ⟨p0, p1, hp, h0⟩, hm, hm2, q⟩ := h
  refine ⟨_, (pss_cons (ps_if (pt_cmpR op_gt (pe_ix ix_list (pv 0) pe_int (fun _ _ => rfl)) pe_int (nomark _)) (pss_cons (ps_asg (pe_callB call_divmodL rfl B.divmod b_divmod (pa_cons (pe_ix ix_list (pv 0) pe_int (fun _ _ => rfl)) (pa_cons (pv 1) pa_nil))) (pg_tup rfl (pgs_cons (pg_sub (pv 0) pe_int set_list) (pgs_cons (pg_name (i := 2) sc__law_take.nd rfl (Or.inl rfl)) pgs_nil)))) (pss_one (ps_ret (pv 2)))) pss_nil) (pss_cons (ps_asg (pe_op op_mod (pe_op op_add (pe_op op_mulG (pe_ix ix_list (pv 0) pe_int (fun _ _ => rfl)) pe_int) pe_int) pe_int) (pg_sub (pv 0) pe_int set_list)) (pss_one (ps_ret (pe_op op_mod (pe_op op_fdivL (pe_op op_mod (pe_op op_mulG (pe_ix ix_list (pv 0) pe_int (fun _ _ => rfl)) (pe_ix ix_list (pv 0) pe_int (fun _ _ => rfl))) pe_int) pe_int) (pv 1)))))), ?_⟩
  refine ⟨_, rfl, a, _, _, _, rfl, rfl, SqL.of hp, rfl, _, _, rfl, rfl, _, rfl, ?_⟩
  refine ite2 (fun c => ?_) (fun c => ?_)
  · refine ⟨_, rfl, a, _, _, _, rfl, rfl, SqL.of hp, rfl, _, rfl, p0, m, rfl, ⟨hm, hm2⟩, fun t ht => ?_⟩
    have hp' : upd H t (.tup [.int (p0 / m), .int (p0 % m)]) a = some (.lst [.int p0, .int p1]) := by rw [upd_ne (ne_of_none hp ht)]; exact hp
    refine ⟨t, _, rfl, SqT.of upd_same, rfl, _, _, rfl, _, rfl, a, _, 0, 0, rfl, rfl, hp', rfl, _, _, rfl, rfl, ?_⟩
    exact ⟨_, rfl, q _ _ (Int.emod_nonneg _ (by omega)) (Int.emod_lt_of_pos _ hm) ((Grow.new ht _).trans (Grow.set hp' (by simp) _)) ⟨p0 / m, p1, upd_same, Int.ediv_nonneg h0 (by omega)⟩⟩
  · refine ⟨_, rfl, a, _, _, _, rfl, rfl, SqL.of hp, rfl, p1, 48271, rfl, rfl, mulOkR ⟨by decide, by decide⟩, _, _, rfl, rfl, _, _, rfl, rfl, (by show (0 : Int) < 2147483647; decide), _, rfl, a, _, 1, 1, rfl, rfl, hp, rfl, ?_⟩
    have b0 : 0 ≤ (p1 * 48271 + 11) % 2147483647 := Int.emod_nonneg _ (by decide)
    have b1 : (p1 * 48271 + 11) % 2147483647 < 2147483647 := Int.emod_lt_of_pos _ (by decide)
    refine ⟨_, rfl, a, _, _, _, rfl, rfl, SqL.of upd_same, rfl, _, rfl, a, _, _, _, rfl, rfl, SqL.of upd_same, rfl, (p1 * 48271 + 11) % 2147483647, (p1 * 48271 + 11) % 2147483647, rfl, rfl, mulOkR ⟨by omega, by omega⟩, _, _, rfl, rfl, (by show (0 : Int) < 2147483629; decide), _, _, rfl, rfl, ⟨by decide, by decide⟩, _, rfl, _, _, rfl, rfl, hm, ?_⟩
    exact q _ _ (Int.emod_nonneg _ (by omega)) (Int.emod_lt_of_pos _ hm) (Grow.set hp (by simp) _) ⟨p0, (p1 * 48271 + 11) % 2147483647, upd_same, h0⟩
theorem sc__law_words_changed : FnScope ["_law_pot_here", "_law_text_here", "_law_row", "_law_road", "_law_at", "_law_there", "_law_some"] ["_law_pot_here", "_law_text_here"] (defScope (top 28)) := ⟨rfl, rfl, rfl, by decide +kernel, rfl, by decide +kernel, by decide +kernel⟩
set_option maxHeartbeats 0 in
theorem ok__law_words_changed {n : Nat} {f : Addr} {fd : FuncData} (F : Fun K "_law_words_changed" "_law_words_changed" (top 28) f fd) (B : Blt mg) (c__law_take : Callee P w K mg base n "_law_take" ["_law_pot_here", "_law_many"] (sp_take K))    :
    FnOk P w K mg base CX0 (n + 1) f fd ["_law_pot_here", "_law_text_here"] (sp_wch19 K) := by
  refine F.ok sc__law_words_changed sp2_len (fun cdv A outer s H vs Q E hr h => ?_)
  obtain ⟨x, y, rfl, p, n, w, rfl, rfl, pp, n1, T, q⟩ := h
  refine ⟨_, (@pss_cons _ _ _ _ _ (@ps_set _ _ 2 _ _ _ _ sc__law_words_changed.nd rfl (Or.inl rfl) (@pe_bm _ _ _ _ _ _ _ _ _ _ _ _ PySem.F.plainAttrs_str PySem.F.slot_str_split PySem.F.type_str_split mt_split (pv 1) (@pa_cons _ _ _ _ _ pe_str pa_nil (by first | rfl | decide | exact Or.inl rfl | exact Or.inr rfl | exact Or.inr (Or.inl rfl) | exact Or.inr (Or.inr rfl) | exact fun _ => rfl | exact Nat.le_of_ble_eq_true rfl)) (by first | rfl | decide | exact Or.inl rfl | exact Or.inr rfl | exact Or.inr (Or.inl rfl) | exact Or.inr (Or.inr rfl) | exact fun _ => rfl | exact Nat.le_of_ble_eq_true rfl) (by first | rfl | decide | exact Or.inl rfl | exact Or.inr rfl | exact Or.inr (Or.inl rfl) | exact Or.inr (Or.inr rfl) | exact fun _ => rfl | exact Nat.le_of_ble_eq_true rfl) (by first | rfl | decide | exact Or.inl rfl | exact Or.inr rfl | exact Or.inr (Or.inl rfl) | exact Or.inr (Or.inr rfl) | exact fun _ => rfl | exact Nat.le_of_ble_eq_true rfl) (by first | rfl | decide | exact Or.inl rfl | exact Or.inr rfl | exact Or.inr (Or.inl rfl) | exact Or.inr (Or.inr rfl) | exact fun _ => rfl | exact Nat.le_of_ble_eq_true rfl) (by first | rfl | decide | exact Or.inl rfl | exact Or.inr rfl | exact Or.inr (Or.inl rfl) | exact Or.inr (Or.inr rfl) | exact fun _ => rfl | exact Nat.le_of_ble_eq_true rfl)) (by first | rfl | decide | exact Or.inl rfl | exact Or.inr rfl | exact Or.inr (Or.inl rfl) | exact Or.inr (Or.inr rfl) | exact fun _ => rfl | exact Nat.le_of_ble_eq_true rfl) (by first | rfl | decide | exact Or.inl rfl | exact Or.inr rfl | exact Or.inr (Or.inl rfl) | exact Or.inr (Or.inr rfl) | exact fun _ => rfl | exact Nat.le_of_ble_eq_true rfl)) (@pss_cons _ _ _ _ _ (@ps_set _ _ 3 _ _ _ _ sc__law_words_changed.nd rfl (Or.inl rfl) (@pe_callC _ _ _ _ _ _ _ _ _ _ c__law_take hr rfl (@pa_cons _ _ _ _ _ (pv 0) (@pa_cons _ _ _ _ _ pe_int pa_nil (by first | rfl | decide | exact Or.inl rfl | exact Or.inr rfl | exact Or.inr (Or.inl rfl) | exact Or.inr (Or.inr rfl) | exact fun _ => rfl | exact Nat.le_of_ble_eq_true rfl)) (by first | rfl | decide | exact Or.inl rfl | exact Or.inr rfl | exact Or.inr (Or.inl rfl) | exact Or.inr (Or.inr rfl) | exact fun _ => rfl | exact Nat.le_of_ble_eq_true rfl)) (by first | rfl | decide | exact Or.inl rfl | exact Or.inr rfl | exact Or.inr (Or.inl rfl) | exact Or.inr (Or.inr rfl) | exact fun _ => rfl | exact Nat.le_of_ble_eq_true rfl) (by first | rfl | decide | exact Or.inl rfl | exact Or.inr rfl | exact Or.inr (Or.inl rfl) | exact Or.inr (Or.inr rfl) | exact fun _ => rfl | exact Nat.le_of_ble_eq_true rfl) (by first | rfl | decide | exact Or.inl rfl | exact Or.inr rfl | exact Or.inr (Or.inl rfl) | exact Or.inr (Or.inr rfl) | exact fun _ => rfl | exact Nat.le_of_ble_eq_true rfl)) (by first | rfl | decide | exact Or.inl rfl | exact Or.inr rfl | exact Or.inr (Or.inl rfl) | exact Or.inr (Or.inr rfl) | exact fun _ => rfl | exact Nat.le_of_ble_eq_true rfl) (by first | rfl | decide | exact Or.inl rfl | exact Or.inr rfl | exact Or.inr (Or.inl rfl) | exact Or.inr (Or.inr rfl) | exact fun _ => rfl | exact Nat.le_of_ble_eq_true rfl)) (@pss_cons _ _ _ _ _ (@ps_par _ _ 4 5 _ _ _ _ _ _ _ _ _ _ _ rfl sc__law_words_changed.nd rfl rfl (by decide) rfl rfl (@pa_cons _ _ _ _ _ (@pe_callC _ _ _ _ _ _ _ _ _ _ c__law_take hr rfl (@pa_cons _ _ _ _ _ (pv 0) (@pa_cons _ _ _ _ _ (@pe_callB _ _ _ _ _ _ _ _ _ call_len_seq rfl B.len b_len (@pa_cons _ _ _ _ _ (pv 2) pa_nil (by first | rfl | decide | exact Or.inl rfl | exact Or.inr rfl | exact Or.inr (Or.inl rfl) | exact Or.inr (Or.inr rfl) | exact fun _ => rfl | exact Nat.le_of_ble_eq_true rfl)) (by first | rfl | decide | exact Or.inl rfl | exact Or.inr rfl | exact Or.inr (Or.inl rfl) | exact Or.inr (Or.inr rfl) | exact fun _ => rfl | exact Nat.le_of_ble_eq_true rfl) (by first | rfl | decide | exact Or.inl rfl | exact Or.inr rfl | exact Or.inr (Or.inl rfl) | exact Or.inr (Or.inr rfl) | exact fun _ => rfl | exact Nat.le_of_ble_eq_true rfl) (by first | rfl | decide | exact Or.inl rfl | exact Or.inr rfl | exact Or.inr (Or.inl rfl) | exact Or.inr (Or.inr rfl) | exact fun _ => rfl | exact Nat.le_of_ble_eq_true rfl) (by first | rfl | decide | exact Or.inl rfl | exact Or.inr rfl | exact Or.inr (Or.inl rfl) | exact Or.inr (Or.inr rfl) | exact fun _ => rfl | exact Nat.le_of_ble_eq_true rfl)) pa_nil (by first | rfl | decide | exact Or.inl rfl | exact Or.inr rfl | exact Or.inr (Or.inl rfl) | exact Or.inr (Or.inr rfl) | exact fun _ => rfl | exact Nat.le_of_ble_eq_true rfl)) (by first | rfl | decide | exact Or.inl rfl | exact Or.inr rfl | exact Or.inr (Or.inl rfl) | exact Or.inr (Or.inr rfl) | exact fun _ => rfl | exact Nat.le_of_ble_eq_true rfl)) (by first | rfl | decide | exact Or.inl rfl | exact Or.inr rfl | exact Or.inr (Or.inl rfl) | exact Or.inr (Or.inr rfl) | exact fun _ => rfl | exact Nat.le_of_ble_eq_true rfl) (by first | rfl | decide | exact Or.inl rfl | exact Or.inr rfl | exact Or.inr (Or.inl rfl) | exact Or.inr (Or.inr rfl) | exact fun _ => rfl | exact Nat.le_of_ble_eq_true rfl) (by first | rfl | decide | exact Or.inl rfl | exact Or.inr rfl | exact Or.inr (Or.inl rfl) | exact Or.inr (Or.inr rfl) | exact fun _ => rfl | exact Nat.le_of_ble_eq_true rfl)) (@pa_cons _ _ _ _ _ (@pe_callC _ _ _ _ _ _ _ _ _ _ c__law_take hr rfl (@pa_cons _ _ _ _ _ (pv 0) (@pa_cons _ _ _ _ _ (@pe_callB _ _ _ _ _ _ _ _ _ call_len_seq rfl B.len b_len (@pa_cons _ _ _ _ _ (pv 2) pa_nil (by first | rfl | decide | exact Or.inl rfl | exact Or.inr rfl | exact Or.inr (Or.inl rfl) | exact Or.inr (Or.inr rfl) | exact fun _ => rfl | exact Nat.le_of_ble_eq_true rfl)) (by first | rfl | decide | exact Or.inl rfl | exact Or.inr rfl | exact Or.inr (Or.inl rfl) | exact Or.inr (Or.inr rfl) | exact fun _ => rfl | exact Nat.le_of_ble_eq_true rfl) (by first | rfl | decide | exact Or.inl rfl | exact Or.inr rfl | exact Or.inr (Or.inl rfl) | exact Or.inr (Or.inr rfl) | exact fun _ => rfl | exact Nat.le_of_ble_eq_true rfl) (by first | rfl | decide | exact Or.inl rfl | exact Or.inr rfl | exact Or.inr (Or.inl rfl) | exact Or.inr (Or.inr rfl) | exact fun _ => rfl | exact Nat.le_of_ble_eq_true rfl) (by first | rfl | decide | exact Or.inl rfl | exact Or.inr rfl | exact Or.inr (Or.inl rfl) | exact Or.inr (Or.inr rfl) | exact fun _ => rfl | exact Nat.le_of_ble_eq_true rfl)) pa_nil (by first | rfl | decide | exact Or.inl rfl | exact Or.inr rfl | exact Or.inr (Or.inl rfl) | exact Or.inr (Or.inr rfl) | exact fun _ => rfl | exact Nat.le_of_ble_eq_true rfl)) (by first | rfl | decide | exact Or.inl rfl | exact Or.inr rfl | exact Or.inr (Or.inl rfl) | exact Or.inr (Or.inr rfl) | exact fun _ => rfl | exact Nat.le_of_ble_eq_true rfl)) (by first | rfl | decide | exact Or.inl rfl | exact Or.inr rfl | exact Or.inr (Or.inl rfl) | exact Or.inr (Or.inr rfl) | exact fun _ => rfl | exact Nat.le_of_ble_eq_true rfl) (by first | rfl | decide | exact Or.inl rfl | exact Or.inr rfl | exact Or.inr (Or.inl rfl) | exact Or.inr (Or.inr rfl) | exact fun _ => rfl | exact Nat.le_of_ble_eq_true rfl) (by first | rfl | decide | exact Or.inl rfl | exact Or.inr rfl | exact Or.inr (Or.inl rfl) | exact Or.inr (Or.inr rfl) | exact fun _ => rfl | exact Nat.le_of_ble_eq_true rfl)) pa_nil (by first | rfl | decide | exact Or.inl rfl | exact Or.inr rfl | exact Or.inr (Or.inl rfl) | exact Or.inr (Or.inr rfl) | exact fun _ => rfl | exact Nat.le_of_ble_eq_true rfl)) (by first | rfl | decide | exact Or.inl rfl | exact Or.inr rfl | exact Or.inr (Or.inl rfl) | exact Or.inr (Or.inr rfl) | exact fun _ => rfl | exact Nat.le_of_ble_eq_true rfl)) rfl (by first | rfl | decide | exact Or.inl rfl | exact Or.inr rfl | exact Or.inr (Or.inl rfl) | exact Or.inr (Or.inr rfl) | exact fun _ => rfl | exact Nat.le_of_ble_eq_true rfl)) (@pss_cons _ _ _ _ _ (@ps_if _ _ _ _ _ _ _ _ (@pt_cmpR _ _ _ _ _ _ _ _ op_eq (pv 3) pe_int (nomark _)) (@pss_one _ _ _ (@ps_ret _ _ _ _ (@pe_bm _ _ _ _ _ _ _ _ _ _ _ _ PySem.F.plainAttrs_str PySem.F.slot_str_join PySem.F.type_str_join mt_join pe_str (@pa_cons _ _ _ _ _ (@pe_op _ _ _ _ _ _ _ _ op_cat (@pe_slice _ _ _ _ _ _ _ _ _ _ sl_list (pv 2) po_none (@po_some _ _ _ (pv 4))) (@pe_slice _ _ _ _ _ _ _ _ _ _ sl_list (pv 2) (@po_some _ _ _ (@pe_op _ _ _ _ _ _ _ _ op_add (pv 4) pe_int)) po_none)) pa_nil (by first | rfl | decide | exact Or.inl rfl | exact Or.inr rfl | exact Or.inr (Or.inl rfl) | exact Or.inr (Or.inr rfl) | exact fun _ => rfl | exact Nat.le_of_ble_eq_true rfl)) (by first | rfl | decide | exact Or.inl rfl | exact Or.inr rfl | exact Or.inr (Or.inl rfl) | exact Or.inr (Or.inr rfl) | exact fun _ => rfl | exact Nat.le_of_ble_eq_true rfl) (by first | rfl | decide | exact Or.inl rfl | exact Or.inr rfl | exact Or.inr (Or.inl rfl) | exact Or.inr (Or.inr rfl) | exact fun _ => rfl | exact Nat.le_of_ble_eq_true rfl) (by first | rfl | decide | exact Or.inl rfl | exact Or.inr rfl | exact Or.inr (Or.inl rfl) | exact Or.inr (Or.inr rfl) | exact fun _ => rfl | exact Nat.le_of_ble_eq_true rfl) (by first | rfl | decide | exact Or.inl rfl | exact Or.inr rfl | exact Or.inr (Or.inl rfl) | exact Or.inr (Or.inr rfl) | exact fun _ => rfl | exact Nat.le_of_ble_eq_true rfl) (by first | rfl | decide | exact Or.inl rfl | exact Or.inr rfl | exact Or.inr (Or.inl rfl) | exact Or.inr (Or.inr rfl) | exact fun _ => rfl | exact Nat.le_of_ble_eq_true rfl)))) pss_nil) (@pss_cons _ _ _ _ _ (@ps_if _ _ _ _ _ _ _ _ (@pt_cmpR _ _ _ _ _ _ _ _ op_eq (pv 3) pe_int (nomark _)) (@pss_one _ _ _ (@ps_ret _ _ _ _ (@pe_bm _ _ _ _ _ _ _ _ _ _ _ _ PySem.F.plainAttrs_str PySem.F.slot_str_join PySem.F.type_str_join mt_join pe_str (@pa_cons _ _ _ _ _ (@pe_op _ _ _ _ _ _ _ _ op_cat (@pe_slice _ _ _ _ _ _ _ _ _ _ sl_list (pv 2) po_none (@po_some _ _ _ (@pe_op _ _ _ _ _ _ _ _ op_add (pv 4) pe_int))) (@pe_slice _ _ _ _ _ _ _ _ _ _ sl_list (pv 2) (@po_some _ _ _ (pv 4)) po_none)) pa_nil (by first | rfl | decide | exact Or.inl rfl | exact Or.inr rfl | exact Or.inr (Or.inl rfl) | exact Or.inr (Or.inr rfl) | exact fun _ => rfl | exact Nat.le_of_ble_eq_true rfl)) (by first | rfl | decide | exact Or.inl rfl | exact Or.inr rfl | exact Or.inr (Or.inl rfl) | exact Or.inr (Or.inr rfl) | exact fun _ => rfl | exact Nat.le_of_ble_eq_true rfl) (by first | rfl | decide | exact Or.inl rfl | exact Or.inr rfl | exact Or.inr (Or.inl rfl) | exact Or.inr (Or.inr rfl) | exact fun _ => rfl | exact Nat.le_of_ble_eq_true rfl) (by first | rfl | decide | exact Or.inl rfl | exact Or.inr rfl | exact Or.inr (Or.inl rfl) | exact Or.inr (Or.inr rfl) | exact fun _ => rfl | exact Nat.le_of_ble_eq_true rfl) (by first | rfl | decide | exact Or.inl rfl | exact Or.inr rfl | exact Or.inr (Or.inl rfl) | exact Or.inr (Or.inr rfl) | exact fun _ => rfl | exact Nat.le_of_ble_eq_true rfl) (by first | rfl | decide | exact Or.inl rfl | exact Or.inr rfl | exact Or.inr (Or.inl rfl) | exact Or.inr (Or.inr rfl) | exact fun _ => rfl | exact Nat.le_of_ble_eq_true rfl)))) pss_nil) (@pss_cons _ _ _ _ _ (@ps_if _ _ _ _ _ _ _ _ (@pt_cmpR _ _ _ _ _ _ _ _ op_eq (pv 3) pe_int (nomark _)) (@pss_cons _ _ _ _ _ (@ps_asg _ _ _ _ _ _ (@pe_tup _ _ _ _ _ (@pa_cons _ _ _ _ _ (@pe_ix _ _ _ _ _ _ _ ix_list (pv 2) (pv 5) (fun _ _ => rfl)) (@pa_cons _ _ _ _ _ (@pe_ix _ _ _ _ _ _ _ ix_list (pv 2) (pv 4) (fun _ _ => rfl)) pa_nil (by first | rfl | decide | exact Or.inl rfl | exact Or.inr rfl | exact Or.inr (Or.inl rfl) | exact Or.inr (Or.inr rfl) | exact fun _ => rfl | exact Nat.le_of_ble_eq_true rfl)) (by first | rfl | decide | exact Or.inl rfl | exact Or.inr rfl | exact Or.inr (Or.inl rfl) | exact Or.inr (Or.inr rfl) | exact fun _ => rfl | exact Nat.le_of_ble_eq_true rfl))) (pg_tup rfl (pgs_cons (pg_sub (pv 2) (pv 4) set_list) (pgs_cons (pg_sub (pv 2) (pv 5) set_list) pgs_nil))) (by first | rfl | decide | exact Or.inl rfl | exact Or.inr rfl | exact Or.inr (Or.inl rfl) | exact Or.inr (Or.inr rfl) | exact fun _ => rfl | exact Nat.le_of_ble_eq_true rfl) (by first | rfl | decide | exact Or.inl rfl | exact Or.inr rfl | exact Or.inr (Or.inl rfl) | exact Or.inr (Or.inr rfl) | exact fun _ => rfl | exact Nat.le_of_ble_eq_true rfl) (by first | rfl | decide | exact Or.inl rfl | exact Or.inr rfl | exact Or.inr (Or.inl rfl) | exact Or.inr (Or.inr rfl) | exact fun _ => rfl | exact Nat.le_of_ble_eq_true rfl)) (@pss_one _ _ _ (@ps_ret _ _ _ _ (@pe_bm _ _ _ _ _ _ _ _ _ _ _ _ PySem.F.plainAttrs_str PySem.F.slot_str_join PySem.F.type_str_join mt_join pe_str (@pa_cons _ _ _ _ _ (pv 2) pa_nil (by first | rfl | decide | exact Or.inl rfl | exact Or.inr rfl | exact Or.inr (Or.inl rfl) | exact Or.inr (Or.inr rfl) | exact fun _ => rfl | exact Nat.le_of_ble_eq_true rfl)) (by first | rfl | decide | exact Or.inl rfl | exact Or.inr rfl | exact Or.inr (Or.inl rfl) | exact Or.inr (Or.inr rfl) | exact fun _ => rfl | exact Nat.le_of_ble_eq_true rfl) (by first | rfl | decide | exact Or.inl rfl | exact Or.inr rfl | exact Or.inr (Or.inl rfl) | exact Or.inr (Or.inr rfl) | exact fun _ => rfl | exact Nat.le_of_ble_eq_true rfl) (by first | rfl | decide | exact Or.inl rfl | exact Or.inr rfl | exact Or.inr (Or.inl rfl) | exact Or.inr (Or.inr rfl) | exact fun _ => rfl | exact Nat.le_of_ble_eq_true rfl) (by first | rfl | decide | exact Or.inl rfl | exact Or.inr rfl | exact Or.inr (Or.inl rfl) | exact Or.inr (Or.inr rfl) | exact fun _ => rfl | exact Nat.le_of_ble_eq_true rfl) (by first | rfl | decide | exact Or.inl rfl | exact Or.inr rfl | exact Or.inr (Or.inl rfl) | exact Or.inr (Or.inr rfl) | exact fun _ => rfl | exact Nat.le_of_ble_eq_true rfl))))) pss_nil) (@pss_cons _ _ _ _ _ (@ps_set _ _ 6 _ _ _ _ sc__law_words_changed.nd rfl (Or.inl rfl) (@pe_lst _ _ _ _ (@pa_cons _ _ _ _ _ pe_str (@pa_cons _ _ _ _ _ pe_str (@pa_cons _ _ _ _ _ pe_str (@pa_cons _ _ _ _ _ pe_str (@pa_cons _ _ _ _ _ pe_str (@pa_cons _ _ _ _ _ pe_str (@pa_cons _ _ _ _ _ pe_str (@pa_cons _ _ _ _ _ pe_str (@pa_cons _ _ _ _ _ pe_str (@pa_cons _ _ _ _ _ pe_str (@pa_cons _ _ _ _ _ pe_str (@pa_cons _ _ _ _ _ pe_str (@pa_cons _ _ _ _ _ pe_str (@pa_cons _ _ _ _ _ pe_str (@pa_cons _ _ _ _ _ pe_str pa_nil (by first | rfl | decide | exact Or.inl rfl | exact Or.inr rfl | exact Or.inr (Or.inl rfl) | exact Or.inr (Or.inr rfl) | exact fun _ => rfl | exact Nat.le_of_ble_eq_true rfl)) (by first | rfl | decide | exact Or.inl rfl | exact Or.inr rfl | exact Or.inr (Or.inl rfl) | exact Or.inr (Or.inr rfl) | exact fun _ => rfl | exact Nat.le_of_ble_eq_true rfl)) (by first | rfl | decide | exact Or.inl rfl | exact Or.inr rfl | exact Or.inr (Or.inl rfl) | exact Or.inr (Or.inr rfl) | exact fun _ => rfl | exact Nat.le_of_ble_eq_true rfl)) (by first | rfl | decide | exact Or.inl rfl | exact Or.inr rfl | exact Or.inr (Or.inl rfl) | exact Or.inr (Or.inr rfl) | exact fun _ => rfl | exact Nat.le_of_ble_eq_true rfl)) (by first | rfl | decide | exact Or.inl rfl | exact Or.inr rfl | exact Or.inr (Or.inl rfl) | exact Or.inr (Or.inr rfl) | exact fun _ => rfl | exact Nat.le_of_ble_eq_true rfl)) (by first | rfl | decide | exact Or.inl rfl | exact Or.inr rfl | exact Or.inr (Or.inl rfl) | exact Or.inr (Or.inr rfl) | exact fun _ => rfl | exact Nat.le_of_ble_eq_true rfl)) (by first | rfl | decide | exact Or.inl rfl | exact Or.inr rfl | exact Or.inr (Or.inl rfl) | exact Or.inr (Or.inr rfl) | exact fun _ => rfl | exact Nat.le_of_ble_eq_true rfl)) (by first | rfl | decide | exact Or.inl rfl | exact Or.inr rfl | exact Or.inr (Or.inl rfl) | exact Or.inr (Or.inr rfl) | exact fun _ => rfl | exact Nat.le_of_ble_eq_true rfl)) (by first | rfl | decide | exact Or.inl rfl | exact Or.inr rfl | exact Or.inr (Or.inl rfl) | exact Or.inr (Or.inr rfl) | exact fun _ => rfl | exact Nat.le_of_ble_eq_true rfl)) (by first | rfl | decide | exact Or.inl rfl | exact Or.inr rfl | exact Or.inr (Or.inl rfl) | exact Or.inr (Or.inr rfl) | exact fun _ => rfl | exact Nat.le_of_ble_eq_true rfl)) (by first | rfl | decide | exact Or.inl rfl | exact Or.inr rfl | exact Or.inr (Or.inl rfl) | exact Or.inr (Or.inr rfl) | exact fun _ => rfl | exact Nat.le_of_ble_eq_true rfl)) (by first | rfl | decide | exact Or.inl rfl | exact Or.inr rfl | exact Or.inr (Or.inl rfl) | exact Or.inr (Or.inr rfl) | exact fun _ => rfl | exact Nat.le_of_ble_eq_true rfl)) (by first | rfl | decide | exact Or.inl rfl | exact Or.inr rfl | exact Or.inr (Or.inl rfl) | exact Or.inr (Or.inr rfl) | exact fun _ => rfl | exact Nat.le_of_ble_eq_true rfl)) (by first | rfl | decide | exact Or.inl rfl | exact Or.inr rfl | exact Or.inr (Or.inl rfl) | exact Or.inr (Or.inr rfl) | exact fun _ => rfl | exact Nat.le_of_ble_eq_true rfl)) (by first | rfl | decide | exact Or.inl rfl | exact Or.inr rfl | exact Or.inr (Or.inl rfl) | exact Or.inr (Or.inr rfl) | exact fun _ => rfl | exact Nat.le_of_ble_eq_true rfl))) (by first | rfl | decide | exact Or.inl rfl | exact Or.inr rfl | exact Or.inr (Or.inl rfl) | exact Or.inr (Or.inr rfl) | exact fun _ => rfl | exact Nat.le_of_ble_eq_true rfl) (by first | rfl | decide | exact Or.inl rfl | exact Or.inr rfl | exact Or.inr (Or.inl rfl) | exact Or.inr (Or.inr rfl) | exact fun _ => rfl | exact Nat.le_of_ble_eq_true rfl)) (@pss_one _ _ _ (@ps_ret _ _ _ _ (@pe_bm _ _ _ _ _ _ _ _ _ _ _ _ PySem.F.plainAttrs_str PySem.F.slot_str_join PySem.F.type_str_join mt_join pe_str (@pa_cons _ _ _ _ _ (@pe_op _ _ _ _ _ _ _ _ op_cat (@pe_op _ _ _ _ _ _ _ _ op_cat (@pe_slice _ _ _ _ _ _ _ _ _ _ sl_list (pv 2) po_none (@po_some _ _ _ (pv 4))) (@pe_lst _ _ _ _ (@pa_cons _ _ _ _ _ (@pe_ix _ _ _ _ _ _ _ ix_list (pv 6) (@pe_callC _ _ _ _ _ _ _ _ _ _ c__law_take hr rfl (@pa_cons _ _ _ _ _ (pv 0) (@pa_cons _ _ _ _ _ (@pe_callB _ _ _ _ _ _ _ _ _ call_len_seq rfl B.len b_len (@pa_cons _ _ _ _ _ (pv 6) pa_nil (by first | rfl | decide | exact Or.inl rfl | exact Or.inr rfl | exact Or.inr (Or.inl rfl) | exact Or.inr (Or.inr rfl) | exact fun _ => rfl | exact Nat.le_of_ble_eq_true rfl)) (by first | rfl | decide | exact Or.inl rfl | exact Or.inr rfl | exact Or.inr (Or.inl rfl) | exact Or.inr (Or.inr rfl) | exact fun _ => rfl | exact Nat.le_of_ble_eq_true rfl) (by first | rfl | decide | exact Or.inl rfl | exact Or.inr rfl | exact Or.inr (Or.inl rfl) | exact Or.inr (Or.inr rfl) | exact fun _ => rfl | exact Nat.le_of_ble_eq_true rfl) (by first | rfl | decide | exact Or.inl rfl | exact Or.inr rfl | exact Or.inr (Or.inl rfl) | exact Or.inr (Or.inr rfl) | exact fun _ => rfl | exact Nat.le_of_ble_eq_true rfl) (by first | rfl | decide | exact Or.inl rfl | exact Or.inr rfl | exact Or.inr (Or.inl rfl) | exact Or.inr (Or.inr rfl) | exact fun _ => rfl | exact Nat.le_of_ble_eq_true rfl)) pa_nil (by first | rfl | decide | exact Or.inl rfl | exact Or.inr rfl | exact Or.inr (Or.inl rfl) | exact Or.inr (Or.inr rfl) | exact fun _ => rfl | exact Nat.le_of_ble_eq_true rfl)) (by first | rfl | decide | exact Or.inl rfl | exact Or.inr rfl | exact Or.inr (Or.inl rfl) | exact Or.inr (Or.inr rfl) | exact fun _ => rfl | exact Nat.le_of_ble_eq_true rfl)) (by first | rfl | decide | exact Or.inl rfl | exact Or.inr rfl | exact Or.inr (Or.inl rfl) | exact Or.inr (Or.inr rfl) | exact fun _ => rfl | exact Nat.le_of_ble_eq_true rfl) (by first | rfl | decide | exact Or.inl rfl | exact Or.inr rfl | exact Or.inr (Or.inl rfl) | exact Or.inr (Or.inr rfl) | exact fun _ => rfl | exact Nat.le_of_ble_eq_true rfl) (by first | rfl | decide | exact Or.inl rfl | exact Or.inr rfl | exact Or.inr (Or.inl rfl) | exact Or.inr (Or.inr rfl) | exact fun _ => rfl | exact Nat.le_of_ble_eq_true rfl)) (fun _ _ => rfl)) pa_nil (by first | rfl | decide | exact Or.inl rfl | exact Or.inr rfl | exact Or.inr (Or.inl rfl) | exact Or.inr (Or.inr rfl) | exact fun _ => rfl | exact Nat.le_of_ble_eq_true rfl)))) (@pe_slice _ _ _ _ _ _ _ _ _ _ sl_list (pv 2) (@po_some _ _ _ (@pe_op _ _ _ _ _ _ _ _ op_add (pv 4) pe_int)) po_none)) pa_nil (by first | rfl | decide | exact Or.inl rfl | exact Or.inr rfl | exact Or.inr (Or.inl rfl) | exact Or.inr (Or.inr rfl) | exact fun _ => rfl | exact Nat.le_of_ble_eq_true rfl)) (by first | rfl | decide | exact Or.inl rfl | exact Or.inr rfl | exact Or.inr (Or.inl rfl) | exact Or.inr (Or.inr rfl) | exact fun _ => rfl | exact Nat.le_of_ble_eq_true rfl) (by first | rfl | decide | exact Or.inl rfl | exact Or.inr rfl | exact Or.inr (Or.inl rfl) | exact Or.inr (Or.inr rfl) | exact fun _ => rfl | exact Nat.le_of_ble_eq_true rfl) (by first | rfl | decide | exact Or.inl rfl | exact Or.inr rfl | exact Or.inr (Or.inl rfl) | exact Or.inr (Or.inr rfl) | exact fun _ => rfl | exact Nat.le_of_ble_eq_true rfl) (by first | rfl | decide | exact Or.inl rfl | exact Or.inr rfl | exact Or.inr (Or.inl rfl) | exact Or.inr (Or.inr rfl) | exact fun _ => rfl | exact Nat.le_of_ble_eq_true rfl) (by first | rfl | decide | exact Or.inl rfl | exact Or.inr rfl | exact Or.inr (Or.inl rfl) | exact Or.inr (Or.inr rfl) | exact fun _ => rfl | exact Nat.le_of_ble_eq_true rfl))))))))))), ?_⟩
  have tl := T.len
  have sl := split_len19 T
  have hW := ws_split T
  have hpos := spl_pos w
  refine c_asg (fun v H' => ∃ r, v = .ref r ∧ H r = none ∧ H' r = some (.lst ((Txt.split w (S18 " ")).map V.str)) ∧ Grow [] H H') (fun Kk hk => ⟨_, rfl, rfl, _, _, rfl, rfl, by decide, le2000 (by omega), le2000 (Nat.le_trans sl (by omega)), fun r hr0 => hk _ _ ⟨r, rfl, hr0, upd_same, Grow.new hr0 _⟩⟩) ?_
  rintro _ H1 ⟨r, rfl, hr0, hr1, g1⟩
  generalize Txt.split w (S18 " ") = ws at sl hW hpos hr1
  have hlv : (ws.map V.str).length = ws.length := List.length_map ..
  have hl0 : 0 < ws.length := List.length_pos_iff.mpr hpos
  have nrp := pot_ne19 pp hr0
  have b200 : ((ws.map V.str).length : Int) < 2 ^ 200 := Int.lt_of_le_of_lt (b := 1000) (by omega) (by decide)
  refine c_asg (fun v H' => ∃ k : Int, v = .int k ∧ Grow [p] H1 H' ∧ Pot H' p) (fun Kk hk => ⟨_, rfl, _, _, rfl, p, 4, rfl, rfl, pp.grow g1, by decide, by decide, fun n H' n0 n1 g pp' => hk _ _ ⟨_, rfl, g, pp'⟩⟩) ?_
  rintro _ H2 ⟨k, rfl, g2, pp2⟩
  have hr2 := g2.keep _ _ nrp hr1
  refine ⟨_, rfl, _, rfl, r, _, rfl, .inl (SqL.of hr2), _, _, rfl, p, _, rfl, rfl, pp2, by omega, b200, fun i' H3 i0 i1 g3 pp3 => ?_⟩
  have hr3 := g3.keep _ _ nrp hr2
  refine ⟨_, rfl, _, rfl, r, _, rfl, .inl (SqL.of hr3), _, _, rfl, p, _, rfl, rfl, pp3, by omega, b200, fun j' H4 j0 j1 g4 pp4 => ⟨_, _, rfl, ?_⟩⟩
  have hr4 := g4.keep _ _ nrp hr3
  have G4 : Grow [p] H H4 := g1.wk.trans (g2.trans (g3.trans g4))
  obtain ⟨i, rfl⟩ := Int.eq_ofNat_of_zero_le i0
  obtain ⟨j, rfl⟩ := Int.eq_ofNat_of_zero_le j0
  have hi : i < ws.length := by omega
  have hj : j < ws.length := by omega
  have fin : ∀ (H' : Hp) (ts : List Str), Ws19 (2 * n + 14) ts → Grow [p] H H' → Pot H' p → Q (.str (Str.join (S18 " ") ts)) H' := fun H' ts h g pp => q _ _ (ws_join h) g pp
  have jok : ∀ {ts : List Str}, Ws19 (2 * n + 14) ts → JoinOk (S18 " ") ts = true := fun h => join_ok19 (Nat.le_trans h.len (by omega))
  clear g1 g2 g3 g4 hr1 hr2 hr3 pp2 pp3
  have cl1 := cutV_length (ws.map V.str)
  try dsimp only
  refine ⟨_, rfl, rfl, _, rfl, ?_⟩
  by_cases k0 : k = 0
  · have W0 : Ws19 (2 * n + 14) (ws.take i ++ ws.drop (i + 1)) := (ws_out hW).mono (by omega)
    refine iteT' (decide_eq_true (congrArg V.int k0)) ⟨rfl, _, rfl, _, rfl, _, rfl, r, _, rfl, SqL.of hr4, fun p1 hp1 => ?_⟩
    refine ⟨_, rfl, _, rfl, _, _, rfl, rfl, _, rfl, r, _, rfl, SqL.of (by rw [upd_ne (ne_of_none hr4 hp1)]; exact hr4), fun p2 hp2 => ⟨p1, p2, _, _, rfl, rfl, by rw [upd_ne (ne_of_none upd_same hp2)]; exact upd_same, upd_same, ?_, fun p3 hp3 => ?_⟩⟩
    · have h1 := cl1 none (some (i : Int)); have h2 := cl1 (some ((i : Int) + 1)) none; exact le2000 (by omega)
    · have g' := (Grow.new (m := []) hp1 (.lst (cutV (ws.map V.str) none (some (i : Int))))).trans ((Grow.new hp2 (.lst (cutV (ws.map V.str) (some ((i : Int) + 1)) none))).trans (Grow.new hp3 (.lst (cutV (ws.map V.str) none (some (i : Int)) ++ cutV (ws.map V.str) (some ((i : Int) + 1)) none))))
      exact ⟨_, p3, _, rfl, rfl, by rw [cut_out]; exact SqL.of upd_same, jok W0, fin _ _ W0 (G4.trans g'.wk) (pp4.grow g')⟩
  refine iteF' (decide_eq_false fun z => k0 (V.int.inj z)) (c_next ?_)
  refine ⟨_, rfl, rfl, _, rfl, ?_⟩
  by_cases k1 : k = 1
  · have W0 : Ws19 (2 * n + 14) (ws.take (i + 1) ++ ws.drop i) := (ws_twice hW).mono (by omega)
    refine iteT' (decide_eq_true (congrArg V.int k1)) ⟨rfl, _, rfl, _, rfl, _, _, rfl, rfl, _, rfl, r, _, rfl, SqL.of hr4, fun p1 hp1 => ?_⟩
    refine ⟨_, rfl, _, rfl, _, rfl, r, _, rfl, SqL.of (by rw [upd_ne (ne_of_none hr4 hp1)]; exact hr4), fun p2 hp2 => ⟨p1, p2, _, _, rfl, rfl, by rw [upd_ne (ne_of_none upd_same hp2)]; exact upd_same, upd_same, ?_, fun p3 hp3 => ?_⟩⟩
    · have h1 := cl1 none (some ((i : Int) + 1)); have h2 := cl1 (some (i : Int)) none; exact le2000 (by omega)
    · have g' := (Grow.new (m := []) hp1 (.lst (cutV (ws.map V.str) none (some ((i : Int) + 1))))).trans ((Grow.new hp2 (.lst (cutV (ws.map V.str) (some (i : Int)) none))).trans (Grow.new hp3 (.lst (cutV (ws.map V.str) none (some ((i : Int) + 1)) ++ cutV (ws.map V.str) (some (i : Int)) none))))
      exact ⟨_, p3, _, rfl, rfl, by rw [cut_twice]; exact SqL.of upd_same, jok W0, fin _ _ W0 (G4.trans g'.wk) (pp4.grow g')⟩
  refine iteF' (decide_eq_false fun z => k1 (V.int.inj z)) (c_next ?_)
  refine ⟨_, rfl, rfl, _, rfl, ?_⟩
  by_cases k2 : k = 2
  · obtain ⟨wi, hwi⟩ : ∃ wi, ws[i]? = some wi := ⟨_, List.getElem?_eq_getElem hi⟩
    obtain ⟨wj, hwj⟩ : ∃ wj, ws[j]? = some wj := ⟨_, List.getElem?_eq_getElem hj⟩
    have W0 : Ws19 (2 * n + 14) ((ws.set i wj).set j wi) := (ws_swap hW hwi hwj).mono (by omega)
    refine iteT' (decide_eq_true (congrArg V.int k2)) ⟨_, rfl, _, rfl, r, _, _, V.str wj, rfl, rfl, SqL.of hr4, atI_nat (by rw [List.getElem?_map, hwj]; rfl), _, rfl, _, rfl, r, _, _, V.str wi, rfl, rfl, SqL.of hr4, atI_nat (by rw [List.getElem?_map, hwi]; rfl), szl rfl, fun t ht => ?_⟩
    have hr5 : upd H4 t (.tup [V.str wj, V.str wi]) r = some (.lst (ws.map V.str)) := by rw [upd_ne (ne_of_none hr4 ht)]; exact hr4
    refine ⟨t, _, rfl, SqT.of upd_same, rfl, _, _, rfl, _, rfl, _, rfl, r, _, _, i, rfl, rfl, hr5, ixN_nat (i := (i : Int)) (by omega) (by rw [hlv]; exact hi), _, _, rfl, _, rfl, _, rfl, r, _, _, j, rfl, rfl, upd_same, ixN_nat (i := (j : Int)) (by omega) (by rw [List.length_set, hlv]; exact hj), rfl, ?_⟩
    have es : ((ws.map V.str).set i (V.str wj)).set j (V.str wi) = ((ws.set i wj).set j wi).map V.str := by rw [List.map_set, List.map_set]
    refine ⟨rfl, _, rfl, _, r, _, rfl, rfl, by rw [es]; exact SqL.of upd_same, jok W0, fin _ _ W0 (Grow.shrink2 (l := r) ?_ hr0) ?_⟩
    · exact (G4.mono (m' := [p, r]) (by simp)).trans ((Grow.new ht _).trans ((Grow.set hr5 (by simp) _).trans (Grow.set upd_same (by simp) _)))
    · obtain ⟨a, b, e, a0⟩ := pp4
      have np : p ≠ r := fun z => nrp (by rw [z]; simp)
      have nt : p ≠ t := fun z => by rw [← z, e] at ht; cases ht
      exact ⟨a, b, by rw [upd_ne np, upd_ne np, upd_ne nt]; exact e, a0⟩
  refine iteF' (decide_eq_false fun z => k2 (V.int.inj z)) (c_next ?_)
  refine c_asg (fun v H' => ∃ l, v = .ref l ∧ H4 l = none ∧ H' = upd H4 l (.lst (so19.map V.str))) (fun Kk hk => ⟨szl rfl, fun l hl => hk _ _ ⟨l, rfl, hl, rfl⟩⟩) ?_
  rintro _ _ ⟨l, rfl, hl, rfl⟩
  have gl := Grow.new (m := [p]) hl (.lst (so19.map V.str))
  have hr5 : upd H4 l (.lst (so19.map V.str)) r = some (.lst (ws.map V.str)) := by rw [upd_ne (ne_of_none hr4 hl)]; exact hr4
  have pp5 := pp4.grow (Grow.new hl (.lst (so19.map V.str)))
  have hl5 : upd H4 l (.lst (so19.map V.str)) l = some (.lst (so19.map V.str)) := upd_same
  have nlp := pot_ne19 pp4 hl
  generalize upd H4 l (.lst (so19.map V.str)) = H5 at gl hr5 pp5 hl5 ⊢
  refine ⟨rfl, _, rfl, _, rfl, _, rfl, r, _, rfl, SqL.of hr5, fun p1 hp1 => ?_⟩
  have gp1 := Grow.new (m := [p]) hp1 (.lst (cutV (ws.map V.str) none (some (i : Int))))
  have pp6 := pp5.grow (Grow.new hp1 (.lst (cutV (ws.map V.str) none (some (i : Int)))))
  have np1 := pot_ne19 pp5 hp1
  have hl6 : upd H5 p1 (.lst (cutV (ws.map V.str) none (some (i : Int)))) l = some (.lst (so19.map V.str)) := by rw [upd_ne (ne_of_none hl5 hp1)]; exact hl5
  have hr6 : upd H5 p1 (.lst (cutV (ws.map V.str) none (some (i : Int)))) r = some (.lst (ws.map V.str)) := by rw [upd_ne (ne_of_none hr5 hp1)]; exact hr5
  have h16 : upd H5 p1 (.lst (cutV (ws.map V.str) none (some (i : Int)))) p1 = some (.lst (cutV (ws.map V.str) none (some (i : Int)))) := upd_same
  generalize upd H5 p1 (.lst (cutV (ws.map V.str) none (some (i : Int)))) = H6 at gp1 pp6 hl6 hr6 h16 ⊢
  refine ⟨_, rfl, _, rfl, _, rfl, l, _, rfl, .inl (SqL.of hl6), _, _, rfl, p, _, rfl, rfl, pp6, by decide, by decide, fun m' H7 m0 m1 g7 pp7 => ?_⟩
  obtain ⟨m, rfl⟩ := Int.eq_ofNat_of_zero_le m0
  have hm : m < so19.length := by rw [List.length_map] at m1; omega
  obtain ⟨x, hx⟩ : ∃ x, so19[m]? = some x := ⟨_, List.getElem?_eq_getElem hm⟩
  obtain ⟨x12, xc⟩ := so_ok x (List.mem_of_getElem? hx)
  have hl7 := g7.keep _ _ nlp hl6
  have hr7 := g7.keep _ _ nrp hr6
  have h17 := g7.keep _ _ np1 h16
  have W0 : Ws19 (2 * n + 14) (ws.take i ++ [x] ++ ws.drop (i + 1)) := (ws_put hW x12 xc).mono (by omega)
  have G7 := G4.trans (gl.trans (gp1.trans g7))
  refine ⟨l, _, _, V.str x, rfl, rfl, SqL.of hl7, atI_nat (by rw [List.getElem?_map, hx]; rfl), szl rfl, fun p2 hp2 => ⟨p1, p2, _, _, rfl, rfl, by rw [upd_ne (ne_of_none h17 hp2)]; exact h17, upd_same, ?_, fun p3 hp3 => ?_⟩⟩
  · have h1 := cl1 none (some (i : Int)); exact le2000 (by show _ + 1 ≤ 5000; omega)
  have g23 := (Grow.new (m := []) hp2 (.lst [V.str x])).trans (Grow.new hp3 (.lst (cutV (ws.map V.str) none (some (i : Int)) ++ [V.str x])))
  have hr8 := g23.keep _ _ (by simp) hr7
  have h38 : upd (upd H7 p2 (.lst [V.str x])) p3 (.lst (cutV (ws.map V.str) none (some (i : Int)) ++ [V.str x])) p3 = some (.lst (cutV (ws.map V.str) none (some (i : Int)) ++ [V.str x])) := upd_same
  have pp8 := pp7.grow g23
  generalize upd (upd H7 p2 (.lst [V.str x])) p3 (.lst (cutV (ws.map V.str) none (some (i : Int)) ++ [V.str x])) = H8 at g23 hr8 h38 pp8 ⊢
  refine ⟨_, rfl, _, rfl, _, _, rfl, rfl, _, rfl, r, _, rfl, SqL.of hr8, fun p4 hp4 => ⟨p3, p4, _, _, rfl, rfl, by rw [upd_ne (ne_of_none h38 hp4)]; exact h38, upd_same, ?_, fun p5 hp5 => ?_⟩⟩
  · have h1 := cl1 none (some (i : Int)); have h2 := cl1 (some ((i : Int) + 1)) none
    exact le2000 (by rw [List.length_append, List.length_singleton]; omega)
  have g45 := (Grow.new (m := []) hp4 (.lst (cutV (ws.map V.str) (some ((i : Int) + 1)) none))).trans (Grow.new hp5 (.lst (cutV (ws.map V.str) none (some (i : Int)) ++ [V.str x] ++ cutV (ws.map V.str) (some ((i : Int) + 1)) none)))
  exact ⟨_, p5, _, rfl, rfl, by rw [cut_put]; exact SqL.of upd_same, jok W0, fin _ _ W0 (G7.trans (g23.trans g45).wk) (pp8.grow g45)⟩
theorem sc__law_sign : FnScope ["_law_pot_here", "_law_some"] ["_law_pot_here"] (defScope (top 27)) := ⟨rfl, rfl, rfl, by decide +kernel, rfl, by decide +kernel, by decide +kernel⟩
set_option maxHeartbeats 0 in
theorem ok__law_sign {n : Nat} {f : Addr} {fd : FuncData} (F : Fun K "_law_sign" "_law_sign" (top 27) f fd) (B : Blt mg) (c__law_take : Callee P w K mg base n "_law_take" ["_law_pot_here", "_law_many"] (sp_take K))    :
    FnOk P w K mg base CX0 (n + 1) f fd ["_law_pot_here"] (sp_sign19 K) := by
  refine F.ok sc__law_sign sp1_len (fun cdv A outer s H vs Q E hr h => ?_)
  obtain ⟨x, rfl, p, rfl, pp, q⟩ := h
  refine ⟨_, (pss_cons (ps_set (i := 1) sc__law_sign.nd rfl (Or.inl rfl) pe_str) (pss_cons (ps_set (i := 1) sc__law_sign.nd rfl (Or.inl rfl) (pe_ix ix_list (pe_lst (pa_cons pe_str (pa_cons (pv 1) pa_nil))) (pe_callC c__law_take hr rfl (pa_cons (pv 0) (pa_cons pe_int pa_nil))) (fun _ _ => rfl))) (pss_one (ps_ret (pe_ix ix_str (pv 1) (pe_callC c__law_take hr rfl (pa_cons (pv 0) (pa_cons (pe_callB call_len_str rfl B.len b_len (pa_cons (pv 1) pa_nil)) pa_nil))) (fun _ _ => rfl)))))), ?_⟩
  refine c_asg (fun v H' => ∃ s2, v = .str s2 ∧ G19 s2 ∧ H' = H) (fun Kk hk => hk _ _ ⟨_, rfl, by decide +kernel, rfl⟩) ?_
  rintro _ H ⟨s2, rfl, hs2, rfl⟩
  refine c_asg (fun v H' => ∃ s2, v = .str s2 ∧ G19 s2 ∧ Grow [p] H H' ∧ Pot H' p) (fun Kk hk => ⟨_, rfl, szl rfl, fun l hl => ⟨_, rfl, _, _, rfl, p, 2, rfl, rfl, pp.grow (Grow.new hl _), by decide, by decide, fun n H' n0 n1 g pp' => ?_⟩⟩) ?_
  · have hl' : H' l = some (.lst [V.str (S18 " -0123456789adlowhigsetk"), V.str s2]) := g.keep _ _ (by intro z; rw [List.mem_singleton.mp z] at hl; obtain ⟨_, _, e, _⟩ := pp; rw [e] at hl; cases hl) upd_same
    have g' := (Grow.new (m := [p]) hl (.lst [V.str (S18 " -0123456789adlowhigsetk"), V.str s2])).trans g
    have : n = 0 ∨ n = 1 := by omega
    rcases this with rfl | rfl
    · exact ⟨l, _, 0, _, rfl, rfl, SqL.of hl', atI_nat (j := 0) rfl, hk _ _ ⟨_, rfl, by decide +kernel, g', pp'⟩⟩
    · exact ⟨l, _, 1, _, rfl, rfl, SqL.of hl', atI_nat (j := 1) rfl, hk _ _ ⟨_, rfl, hs2, g', pp'⟩⟩
  rintro _ H1 ⟨s3, rfl, ⟨hs3, hs30, hs3c⟩, g1, pp1⟩
  refine ⟨_, rfl, _, rfl, _, rfl, _, rfl, le2000 (by omega), _, _, rfl, p, _, rfl, rfl, pp1, by omega, Int.lt_of_le_of_lt (b := 100) (by omega) (by decide), fun n H' n0 n1 g pp' => ?_⟩
  obtain ⟨k, rfl⟩ := Int.eq_ofNat_of_zero_le n0
  have hk : k < (cl s3).length := by rw [← cl_len]; omega
  exact ⟨s3, _, (cl s3)[k], rfl, rfl, le2000 (by omega), atI_nat (List.getElem?_eq_getElem hk), q _ _ (hs3c _ (List.getElem_mem hk)) (g1.trans g) pp'⟩
theorem sc__law_spoilt : FnScope ["_law_pot_here", "_law_text_here", "_law_turn", "_law_road", "_law_at", "_law_sign_here"] ["_law_pot_here", "_law_text_here"] (defScope (top 29)) := ⟨rfl, rfl, rfl, by decide +kernel, rfl, by decide +kernel, by decide +kernel⟩
set_option maxHeartbeats 0 in
theorem ok__law_spoilt {n : Nat} {f : Addr} {fd : FuncData} (F : Fun K "_law_spoilt" "_law_spoilt" (top 29) f fd) (B : Blt mg) (c__law_take : Callee P w K mg base n "_law_take" ["_law_pot_here", "_law_many"] (sp_take K)) (c__law_words_changed : Callee P w K mg base n "_law_words_changed" ["_law_pot_here", "_law_text_here"] (sp_wch19 K)) (c__law_sign : Callee P w K mg base n "_law_sign" ["_law_pot_here"] (sp_sign19 K))    :
    FnOk P w K mg base CX0 (n + 1) f fd ["_law_pot_here", "_law_text_here"] (sp_spoilt19 K) := by
  refine F.ok sc__law_spoilt sp2_len (fun cdv A outer s H vs Q E hr h => ?_)
  obtain ⟨x, y, rfl, p, w, rfl, rfl, pp, T, q⟩ := h
  refine ⟨_, (pss_cons (ps_for PassesOwn.never rfl (pi_range1 rfl B.range (pa_cons (pe_op op_add pe_int (pe_callC c__law_take hr rfl (pa_cons (pv 0) (pa_cons pe_int pa_nil)))) pa_nil)) (pg_name (i := 2) sc__law_spoilt.nd rfl (Or.inl rfl)) (pss_cons (ps_set (i := 3) sc__law_spoilt.nd rfl (Or.inl rfl) (pe_callC c__law_take hr rfl (pa_cons (pv 0) (pa_cons pe_int pa_nil)))) (pss_cons (ps_set (i := 4) sc__law_spoilt.nd rfl (Or.inl rfl) (pe_callC c__law_take hr rfl (pa_cons (pv 0) (pa_cons (pe_op op_add (pe_callB call_len_str rfl B.len b_len (pa_cons (pv 1) pa_nil)) pe_int) pa_nil)))) (pss_one (ps_if (pt_cmpR op_lt (pv 3) pe_int (nomark _)) (pss_one (ps_set (i := 1) sc__law_spoilt.nd rfl (Or.inl rfl) (pe_callC c__law_words_changed hr rfl (pa_cons (pv 0) (pa_cons (pv 1) pa_nil))))) (pss_cons (ps_set (i := 5) sc__law_spoilt.nd rfl (Or.inl rfl) (pe_op op_mul01 (pe_callC c__law_sign hr rfl (pa_cons (pv 0) pa_nil)) (pe_callTy call_int1 rfl B.int b_int (pa_cons (pe_cmpR op_lt (pv 3) pe_int (nomark _)) pa_nil)))) (pss_one (ps_set (i := 1) sc__law_spoilt.nd rfl (Or.inl rfl) (pe_op op_add_str (pe_op op_add_str (pe_slice sl_str (pv 1) po_none (po_some (pv 4))) (pv 5)) (pe_slice sl_str (pv 1) (po_some (pe_op op_add (pv 4) (pe_callTy call_int1 rfl B.int b_int (pa_cons (pe_cmpR op_gt (pv 3) pe_int (nomark _)) pa_nil)))) po_none)))))))))) (pss_one (ps_ret (pv 1)))), ?_⟩
  refine ⟨_, rfl, _, _, rfl, p, 3, rfl, rfl, pp, by decide, by decide, fun t H0 t0 t1 g0 pp0 => ⟨_, _, rfl, rfl, _, rfl, by omega, by omega, ?_⟩⟩
  refine for_range (fun i σ H' => ∃ (w' : Str) (e2 e3 e4 e5 : Option V), σ = [some (.ref p), some (.str w'), e2, e3, e4, e5] ∧ T19 (b19 i) w' ∧ Grow [p] H H' ∧ Pot H' p) ⟨w, _, _, _, _, rfl, T, g0, pp0⟩ ?_ ?_
  rotate_left
  · rintro σ H1 ⟨w', e2, e3, e4, e5, rfl, T', g1, pp1⟩
    refine ⟨_, rfl, q _ _ (T'.mono ?_) g1 pp1⟩
    have : (1 + t).toNat = 1 ∨ (1 + t).toNat = 2 ∨ (1 + t).toNat = 3 := by omega
    rcases this with e | e | e <;> rw [e] <;> decide
  rintro i σ H1 hi ⟨w', e2, e3, e4, e5, rfl, T', g1, pp1⟩
  have hb : b19 i ≤ 490 := by
    have : i = 0 ∨ i = 1 ∨ i = 2 := by omega
    rcases this with e | e | e <;> rw [e] <;> decide
  have tl := T'.len
  try dsimp only
  refine c_asg (fun v H' => ∃ k : Int, v = .int k ∧ Grow [p] H1 H' ∧ Pot H' p) (fun Kk hk => ⟨_, rfl, _, _, rfl, p, 5, rfl, rfl, pp1, by decide, by decide, fun n H' n0 n1 g pp' => hk _ _ ⟨_, rfl, g, pp'⟩⟩) ?_
  rintro _ H2 ⟨k, rfl, g2, pp2⟩
  refine c_asg (fun v H' => ∃ k : Int, v = .int k ∧ Grow [p] H2 H' ∧ Pot H' p) (fun Kk hk => ⟨_, rfl, _, rfl, _, rfl, le2000 (by omega), _, _, rfl, rfl, _, _, rfl, p, _, rfl, rfl, pp2, by omega, Int.lt_of_le_of_lt (b := 1000) (by omega) (by decide), fun n H' n0 n1 g pp' => hk _ _ ⟨_, rfl, g, pp'⟩⟩) ?_
  rintro _ H3 ⟨at', rfl, g3, pp3⟩
  have G3 := g1.trans (g2.trans g3)
  refine ⟨_, rfl, _, _, rfl, rfl, _, rfl, ?_⟩
  by_cases hk : k < 2
  · refine iteT' (decide_eq_true hk) ⟨_, rfl, _, rfl, _, _, rfl, p, b19 i, w', rfl, rfl, pp3, hb, T', fun w2 H' T2 g pp' => ⟨w2, _, _, _, _, rfl, T2, G3.trans g, pp'⟩⟩
  refine iteF' (decide_eq_false hk) ?_
  refine c_asg (fun v H' => ∃ s, v = .str s ∧ T19 1 s ∧ Grow [p] H3 H' ∧ Pot H' p) (fun Kk hk => ⟨_, rfl, _, rfl, p, rfl, pp3, fun c H' hc g pp' => ⟨_, rfl, _, _, rfl, rfl, .inr ⟨_, rfl, _, decide (k < 4), rfl, rfl, rfl, hk _ _ ⟨_, rfl, ?_, g, pp'⟩⟩⟩⟩) ?_
  · by_cases h4 : k < 4
    · rw [if_pos (decide_eq_true h4)]
      exact ⟨fun d hd => by rw [List.mem_singleton.mp (show d ∈ [c] from hd)]; exact hc, Nat.le_refl _⟩
    · rw [if_neg (by rw [decide_eq_false h4]; decide)]
      exact ⟨(fun d hd => nomatch (show d ∈ ([] : List Nat) from hd)), Nat.zero_le _⟩
  rintro _ H4 ⟨s, rfl, Ts, g4, pp4⟩
  have sl := Ts.len
  have l1 : ∀ lo hi, (Txt.slice w' lo hi).length ≤ 490 := fun lo hi => Nat.le_trans (t_slice T').len hb
  have T5 : T19 (b19 (i + 1)) (Txt.slice w' none (some at') ++ s ++ Txt.slice w' (some (at' + if decide (2 < k) = true then 1 else 0)) none) := (t_app (t_app (t_slice T') Ts) (t_slice T')).mono (show b19 i + 1 + b19 i ≤ 2 * b19 i + 14 by omega)
  refine ⟨_, rfl, _, rfl, _, rfl, _, rfl, le2000 (by omega), _, rfl, _, _, rfl, rfl, le2000 (by have := l1 none (some at'); omega), _, rfl, _, rfl, _, rfl, _, _, rfl, rfl, .inr ⟨_, rfl, _, _, rfl, rfl, _, rfl, _, rfl, le2000 (by omega), _, _, rfl, rfl, le2000 ?_, ⟨_, _, _, _, _, rfl, T5, G3.trans g4, pp4⟩⟩⟩
  have a1 := l1 none (some at')
  have a2 := l1 (some (at' + if decide (2 < k) = true then 1 else 0)) none
  rw [Str.length_append]
  omega
theorem sc__law_text : FnScope ["_law_deed_here", "_law_add", "_law_low", "_law_high", "_law_found"] ["_law_deed_here"] (defScope (top 26)) := ⟨rfl, rfl, rfl, by decide +kernel, rfl, by decide +kernel, by decide +kernel⟩
set_option maxHeartbeats 0 in
theorem ok__law_text {n : Nat} {f : Addr} {fd : FuncData} (F : Fun K "_law_text" "_law_text" (top 26) f fd) (B : Blt mg)     :
    FnOk P w K mg base CX0 (n + 1) f fd ["_law_deed_here"] (sp_dtext K) := by
  refine F.ok sc__law_text sp1_len (fun cdv A outer s H vs Q E hr h => ?_)
  obtain ⟨x, rfl, d, hd, od, bd, q⟩ := h
  refine ⟨_, (pss_cons (ps_asg (pv 0) (pg_tup rfl (pgs_cons (pg_name (i := 1) sc__law_text.nd rfl (Or.inl rfl)) (pgs_cons (pg_name (i := 2) sc__law_text.nd rfl (Or.inl rfl)) (pgs_cons (pg_name (i := 3) sc__law_text.nd rfl (Or.inl rfl)) pgs_nil))))) (pss_cons (ps_if (PW.pt (pw_and (pt_cmp (pc_notN (pv 2))) (pw_and1 (pt_cmpR op_eq (pv 2) (pv 3) (nomark _))))) (pss_one (ps_ret (pe_op op_add_str pe_str (pe_callTy call_str_int rfl B.str b_str (pa_cons (pv 2) pa_nil))))) pss_nil) (pss_cons (ps_set (i := 4) sc__law_text.nd rfl (Or.inl rfl) (pe_lst pa_nil)) (pss_cons (ps_if (pt_cmpR op_ne (pv 1) pe_int (nomark _)) (pss_one (ps_expr (pe_bm PySem.F.plainAttrs_list PySem.F.slot_list_append PySem.F.type_list_append mt_append (pv 4) (pa_cons (pe_op op_add_str pe_str (pe_callTy call_str_int rfl B.str b_str (pa_cons (pv 1) pa_nil))) pa_nil)))) pss_nil) (pss_cons (ps_if (pt_cmp (pc_notN (pv 2))) (pss_one (ps_expr (pe_bm PySem.F.plainAttrs_list PySem.F.slot_list_append PySem.F.type_list_append mt_append (pv 4) (pa_cons (pe_op op_add_str pe_str (pe_callTy call_str_int rfl B.str b_str (pa_cons (pv 2) pa_nil))) pa_nil)))) pss_nil) (pss_cons (ps_if (pt_cmp (pc_notN (pv 3))) (pss_one (ps_expr (pe_bm PySem.F.plainAttrs_list PySem.F.slot_list_append PySem.F.type_list_append mt_append (pv 4) (pa_cons (pe_op op_add_str pe_str (pe_callTy call_str_int rfl B.str b_str (pa_cons (pv 3) pa_nil))) pa_nil)))) pss_nil) (pss_one (ps_ret (pe_ifExp (pt_cmpR (op_neNil (K := K) rfl hr) (pv 4) (pe_lst pa_nil) (nomark _)) (pe_bm PySem.F.plainAttrs_str PySem.F.slot_str_join PySem.F.type_str_join mt_join pe_str (pa_cons (pv 4) pa_nil)) pe_str))))))))), ?_⟩
  have b18 : d.add.natAbs < 10 ^ 62 := by have b1 := bd.1; omega
  obtain ⟨a, rfl, hs⟩ := hd
  obtain ⟨ad, lo, hi⟩ := d
  refine ⟨_, rfl, a, _, rfl, hs, rfl, _, _, rfl, _, _, rfl, _, _, rfl, rfl, ?_⟩
  try dsimp only
  refine c_test (fun b H' => b = decide (lo ≠ none ∧ lo = hi) ∧ H' = H) (fun Kk hk => ⟨_, rfl, _, rfl, ?_⟩) ?_
  · cases lo with
    | none => exact iteF (hk _ _ ⟨by simp, rfl⟩)
    | some l =>
      refine iteT ⟨_, rfl, _, rfl, ?_⟩
      cases hi with
      | none => exact ⟨rfl, _, rfl, hk _ _ ⟨by simp [ov], rfl⟩⟩
      | some u => exact ⟨rfl, _, rfl, hk _ _ ⟨by simp [ov], rfl⟩⟩
  rintro _ H ⟨rfl, rfl⟩
  by_cases hset : lo ≠ none ∧ lo = hi
  · refine iteT' (decide_eq_true hset) ?_
    have e := txt_set (d := ⟨ad, lo, hi⟩) hset
    rw [e] at q
    cases lo with
    | none => exact absurd rfl hset.1
    | some l =>
      have b := bd.2.1 l rfl
      exact ⟨_, rfl, l, rfl, lg18 (by omega), _, _, rfl, rfl, add_len18 (by decide) b.1 b.2, q _ (Grow.refl _ _)⟩
  refine iteF' (decide_eq_false hset) (c_next ?_)
  refine ⟨szl rfl, fun p hp => ?_⟩
  try dsimp only
  refine c_if (fun σ' H' => σ' = [some (.ref a), some (.int ad), some (ov lo), some (ov hi), some (.ref p)] ∧ H' p = some (.lst (((p1_18 ⟨ad, lo, hi⟩).map part18).map V.str)) ∧ Grow [p] H H') ?_ (fun hk => ?_)
  rotate_left
  · refine ⟨_, rfl, rfl, _, rfl, ?_⟩
    by_cases ha : ad = 0
    · refine iteF' (by rw [ha]; rfl) (hk _ _ ⟨rfl, ?_, Grow.new hp _⟩)
      rw [upd_same]; unfold p1_18; rw [if_pos ha]; rfl
    · refine iteT' (by rw [decide_eq_false (fun z => ha (V.int.inj z))]; rfl) ⟨_, rfl, .inl ⟨rfl, _, SqL.of upd_same⟩, _, rfl, ad, rfl, lg18 b18, _, _, rfl, rfl, add_len18 (by decide) bd.1.1 bd.1.2, p, [], _, rfl, rfl, upd_same, by decide, hk _ _ ⟨rfl, ?_, ?_⟩⟩
      · rw [upd_same]; unfold p1_18; rw [if_neg ha]; exact congrArg (fun z => some (HO.lst [V.str z])) (part_add ad)
      · exact (Grow.new hp _).trans (Grow.set upd_same (by simp) _)
  rintro _ H1 ⟨rfl, hp1, G1⟩
  refine c_if (fun σ' H' => σ' = [some (.ref a), some (.int ad), some (ov lo), some (ov hi), some (.ref p)] ∧ H' p = some (.lst (((p2_18 ⟨ad, lo, hi⟩).map part18).map V.str)) ∧ Grow [p] H H') ?_ (fun hk => ?_)
  rotate_left
  · refine ⟨_, rfl, _, rfl, ?_⟩
    cases lo with
    | none => exact iteF (hk _ _ ⟨rfl, by rw [hp1]; unfold p2_18; rw [Option.toList_none, List.map_nil, List.append_nil], G1⟩)
    | some l =>
      have b := bd.2.1 l rfl
      refine iteT ⟨_, rfl, .inl ⟨rfl, _, SqL.of hp1⟩, _, rfl, l, rfl, lg18 (by omega), _, _, rfl, rfl, add_len18 (by decide) b.1 b.2, p, _, _, rfl, rfl, hp1, ?_, hk _ _ ⟨rfl, ?_, G1.trans (Grow.set hp1 (by simp) _)⟩⟩
      · rw [List.length_map, List.length_map]; exact small1000 (by have := p3_len ⟨ad, some l, hi⟩; unfold p3_18 p2_18 at this; rw [List.length_append, List.length_append] at this; omega)
      · rw [upd_same]; unfold p2_18; rw [Option.toList_some, List.map_append, List.map_append]; exact congrArg (fun z => some (HO.lst (_ ++ [V.str z]))) (part_low l)
  rintro _ H2 ⟨rfl, hp2, G2⟩
  refine c_if (fun σ' H' => σ' = [some (.ref a), some (.int ad), some (ov lo), some (ov hi), some (.ref p)] ∧ H' p = some (.lst (((p3_18 ⟨ad, lo, hi⟩).map part18).map V.str)) ∧ Grow [p] H H') ?_ (fun hk => ?_)
  rotate_left
  · refine ⟨_, rfl, _, rfl, ?_⟩
    cases hi with
    | none => exact iteF (hk _ _ ⟨rfl, by rw [hp2]; unfold p3_18; rw [Option.toList_none, List.map_nil, List.append_nil], G2⟩)
    | some l =>
      have b := bd.2.2 l rfl
      refine iteT ⟨_, rfl, .inl ⟨rfl, _, SqL.of hp2⟩, _, rfl, l, rfl, lg18 (by omega), _, _, rfl, rfl, add_len18 (by decide) b.1 b.2, p, _, _, rfl, rfl, hp2, ?_, hk _ _ ⟨rfl, ?_, G2.trans (Grow.set hp2 (by simp) _)⟩⟩
      · rw [List.length_map, List.length_map]; exact small1000 (by have := p3_len ⟨ad, lo, some l⟩; unfold p3_18 at this; rw [List.length_append] at this; omega)
      · rw [upd_same]; unfold p3_18; rw [Option.toList_some, List.map_append, List.map_append]; exact congrArg (fun z => some (HO.lst (_ ++ [V.str z]))) (part_high l)
  rintro _ H3 ⟨rfl, hp3, G3⟩
  refine ⟨_, rfl, szl rfl, fun r hr' => ⟨p, r, _, rfl, rfl, SqL.of (by rw [upd_ne (ne_of_none hp3 hr')]; exact hp3), SqL.of upd_same, _, rfl, ?_⟩⟩
  by_cases hl : (⟨ad, lo, hi⟩ : Deed) = ⟨0, none, none⟩
  · have e : txt18 ⟨ad, lo, hi⟩ = S18 "look" := by rw [hl, txt_look]
    rw [e] at q
    refine iteF' (by rw [hl]; rfl) (q _ (Grow.shrink hp (G3.trans (Grow.new hr' _))))
  · have e := txt_not (d := ⟨ad, lo, hi⟩) hset hl
    rw [e] at q
    have hne := p3_nil hl
    refine iteT' (by rw [List.isEmpty_map, List.isEmpty_map, hne]; rfl) ⟨rfl, _, rfl, _, p, _, rfl, rfl, SqL.of (by rw [upd_ne (ne_of_none hp3 hr')]; exact hp3), p3_join bd, q _ (Grow.shrink hp (G3.trans (Grow.new hr' _)))⟩
theorem sc__law_number : FnScope ["_law_pot_here", "_law_road", "_law_found"] ["_law_pot_here"] (defScope (top 24)) := ⟨rfl, rfl, rfl, by decide +kernel, rfl, by decide +kernel, by decide +kernel⟩
set_option maxHeartbeats 0 in
theorem ok__law_number {n : Nat} {f : Addr} {fd : FuncData} (F : Fun K "_law_number" "_law_number" (top 24) f fd) (B : Blt mg) (c__law_take : Callee P w K mg base n "_law_take" ["_law_pot_here", "_law_many"] (sp_take K))    :
    FnOk P w K mg base CX0 (n + 1) f fd ["_law_pot_here"] (sp_number K) := by
  refine F.ok sc__law_number sp1_len (fun cdv A outer s H vs Q E hr h => ?_)
  obtain ⟨x, rfl, a, rfl, hp, q⟩ := h
  refine ⟨_, (pss_cons (ps_set (i := 1) sc__law_number.nd rfl (Or.inl rfl) (pe_callC c__law_take hr rfl (pa_cons (pv 0) (pa_cons pe_int pa_nil)))) (pss_cons (ps_set (i := 2) sc__law_number.nd rfl (Or.inl rfl) (pe_callC c__law_take hr rfl (pa_cons (pv 0) (pa_cons (pe_ix ix_list (pe_lst (pa_cons pe_int (pa_cons pe_int (pa_cons pe_int (pa_cons (pe_op op_pow pe_int pe_int) (pa_cons (pe_op op_pow pe_int pe_int) pa_nil)))))) (pv 1) (fun _ _ => rfl)) pa_nil)))) (pss_cons (ps_if (pt_cmpR op_gt (pv 1) pe_int (nomark _)) (pss_one (ps_set (i := 2) sc__law_number.nd rfl (Or.inl rfl) (pe_op op_mod (pe_op op_mulG (pv 2) (pe_op op_pow pe_int pe_int)) (pe_op op_pow pe_int pe_int)))) pss_nil) (pss_one (ps_ret (pe_op op_mulG (pv 2) (pe_op op_sub pe_int (pe_op op_mulG pe_int (pe_callC c__law_take hr rfl (pa_cons (pv 0) (pa_cons pe_int pa_nil))))))))))), ?_⟩
  refine ⟨_, rfl, _, _, rfl, a, 5, rfl, rfl, hp, by decide, by decide, fun r H1 r0 r1 g1 hp1 => ?_⟩
  refine ⟨_, rfl, _, _, rfl, rfl, ⟨by decide, by decide, by decide⟩, _, _, rfl, rfl, ⟨by decide, by decide, by decide⟩, by decide, fun l hl => ?_⟩
  obtain ⟨v, hat, v0, v1⟩ : ∃ v : Int, atI [V.int 4, .int 12, .int 1000, .int (10 ^ (9 : Int).toNat), .int (10 ^ (26 : Int).toNat)] r = some (.int v) ∧ 0 < v ∧ v ≤ 10 ^ 26 := by
    have : r = 0 ∨ r = 1 ∨ r = 2 ∨ r = 3 ∨ r = 4 := by omega
    rcases this with rfl | rfl | rfl | rfl | rfl
    · exact ⟨_, rfl, by decide, by decide⟩
    · exact ⟨_, rfl, by decide, by decide⟩
    · exact ⟨_, rfl, by decide, by decide⟩
    · exact ⟨_, rfl, by decide, by decide⟩
    · exact ⟨_, rfl, by decide, by decide⟩
  have hp1' : Pot (upd H1 l (.lst [V.int 4, .int 12, .int 1000, .int (10 ^ (9 : Int).toNat), .int (10 ^ (26 : Int).toNat)])) a := by
    obtain ⟨u0, u1, hu, hn⟩ := hp1
    exact ⟨u0, u1, by rw [upd_ne (ne_of_none hu hl)]; exact hu, hn⟩
  refine ⟨_, rfl, l, _, _, _, rfl, rfl, SqL.of upd_same, hat, _, _, rfl, a, v, rfl, rfl, hp1', v0, by omega, fun f H2 f0 f1 g2 hp2 => ?_⟩
  have gr : Grow [a] H H2 := g1.trans ((Grow.new hl _).trans g2)
  refine ⟨_, rfl, _, _, rfl, rfl, _, rfl, ?_⟩
  refine ite2 (fun c => ?_) (fun c => ?_)
  · refine ⟨_, rfl, _, _, rfl, rfl, ⟨by decide, by decide, by decide⟩, _, _, rfl, rfl, mulOk ⟨by omega, by omega⟩ ⟨by decide, by decide⟩, _, _, rfl, rfl, ⟨by decide, by decide, by decide⟩, _, _, rfl, rfl, (by show (0 : Int) < 10 ^ (26 : Int).toNat; decide), ?_⟩
    have z0 : 0 ≤ f * 982451653 ^ (4 : Int).toNat % 10 ^ (26 : Int).toNat := Int.emod_nonneg _ (by decide)
    have z1 : f * 982451653 ^ (4 : Int).toNat % 10 ^ (26 : Int).toNat < 10 ^ 26 := Int.emod_lt_of_pos _ (by decide)
    refine ⟨_, rfl, _, rfl, _, _, rfl, a, 2, rfl, rfl, hp2, by decide, by decide, fun d H3 d0 d1 g3 hp3 => ?_⟩
    refine ⟨_, _, rfl, rfl, mulOkR ⟨by omega, by omega⟩, _, _, rfl, rfl, _, _, rfl, rfl, mulOkR ⟨by omega, by omega⟩, ?_⟩
    have : d = 0 ∨ d = 1 := by omega
    rcases this with rfl | rfl
    · exact q _ _ (by omega) (by omega) (gr.trans g3) hp3
    · exact q _ _ (by omega) (by omega) (gr.trans g3) hp3
  · refine ⟨_, rfl, _, rfl, _, _, rfl, a, 2, rfl, rfl, hp2, by decide, by decide, fun d H3 d0 d1 g3 hp3 => ?_⟩
    refine ⟨_, _, rfl, rfl, mulOkR ⟨by omega, by omega⟩, _, _, rfl, rfl, _, _, rfl, rfl, mulOkR ⟨by omega, by omega⟩, ?_⟩
    have : d = 0 ∨ d = 1 := by omega
    rcases this with rfl | rfl
    · exact q _ _ (by omega) (by omega) (gr.trans g3) hp3
    · exact q _ _ (by omega) (by omega) (gr.trans g3) hp3
theorem sc__law_deed : FnScope ["_law_pot_here", "_law_road", "_law_add", "_law_one", "_law_other"] ["_law_pot_here"] (defScope (top 25)) := ⟨rfl, rfl, rfl, by decide +kernel, rfl, by decide +kernel, by decide +kernel⟩
set_option maxHeartbeats 0 in
theorem ok__law_deed {n : Nat} {f : Addr} {fd : FuncData} (F : Fun K "_law_deed" "_law_deed" (top 25) f fd) (B : Blt mg) (c__law_number : Callee P w K mg base n "_law_number" ["_law_pot_here"] (sp_number K)) (c__law_take : Callee P w K mg base n "_law_take" ["_law_pot_here", "_law_many"] (sp_take K))    :
    FnOk P w K mg base CX0 (n + 1) f fd ["_law_pot_here"] (sp_deed K) := by
  refine F.ok sc__law_deed sp1_len (fun cdv A outer s H vs Q E hr h => ?_)
  obtain ⟨x, rfl, a, rfl, hp, q⟩ := h
  refine ⟨_, (pss_cons (ps_set (i := 1) sc__law_deed.nd rfl (Or.inl rfl) (pe_callC c__law_take hr rfl (pa_cons (pv 0) (pa_cons pe_int pa_nil)))) (pss_cons (ps_set (i := 2) sc__law_deed.nd rfl (Or.inl rfl) (pe_op op_mulG (pe_callC c__law_number hr rfl (pa_cons (pv 0) pa_nil)) (pe_callTy call_int1 rfl B.int b_int (pa_cons (pe_cmpR op_gt (pe_callC c__law_take hr rfl (pa_cons (pv 0) (pa_cons pe_int pa_nil))) pe_int (nomark _)) pa_nil)))) (pss_cons (ps_set (i := 3) sc__law_deed.nd rfl (Or.inl rfl) (pe_callC c__law_number hr rfl (pa_cons (pv 0) pa_nil))) (pss_cons (ps_if (pt_cmpR op_eq (pv 1) pe_int (nomark _)) (pss_one (ps_ret (pe_tup (pa_cons (pv 2) (pa_cons pe_non (pa_cons pe_non pa_nil)))))) pss_nil) (pss_cons (ps_if (pt_cmpR op_lt (pv 1) pe_int (nomark _)) (pss_one (ps_ret (pe_ix ix_list (pe_lst (pa_cons (pe_tup (pa_cons (pv 2) (pa_cons (pv 3) (pa_cons pe_non pa_nil)))) (pa_cons (pe_tup (pa_cons (pv 2) (pa_cons pe_non (pa_cons (pv 3) pa_nil)))) pa_nil))) (pe_op op_sub (pv 1) pe_int) (fun _ _ => rfl)))) pss_nil) (pss_cons (ps_set (i := 4) sc__law_deed.nd rfl (Or.inl rfl) (pe_op op_add (pv 3) (pe_callC c__law_take hr rfl (pa_cons (pv 0) (pa_cons pe_int pa_nil))))) (pss_cons (ps_if (pt_cmpR op_gt (pv 1) pe_int (nomark _)) (pss_one (ps_set (i := 4) sc__law_deed.nd rfl (Or.inl rfl) (pe_callC c__law_number hr rfl (pa_cons (pv 0) pa_nil)))) pss_nil) (pss_one (ps_ret (pe_tup (pa_cons (pe_op op_mulG (pv 2) (pe_callTy call_int1 rfl B.int b_int (pa_cons (pe_cmpR op_ne (pv 3) (pv 4) (nomark _)) pa_nil))) (pa_cons (pe_callB (call_min2 rfl) rfl B.min b_min (pa_cons (pv 3) (pa_cons (pv 4) pa_nil))) (pa_cons (pe_callB (call_max2 rfl) rfl B.max b_max (pa_cons (pv 3) (pa_cons (pv 4) pa_nil))) pa_nil))))))))))))), ?_⟩
  refine ⟨_, rfl, _, _, rfl, a, 7, rfl, rfl, hp, by decide, by decide, fun r H1 r0 r1 g1 hp1 => ?_⟩
  refine ⟨_, rfl, _, rfl, a, rfl, hp1, fun n1 H2 n10 n11 g2 hp2 => ⟨_, rfl, _, _, rfl, a, 4, rfl, rfl, hp2, by decide, by decide, fun k H3 k0 k1 g3 hp3 => ?_⟩⟩
  have h01 := bool01 (decide (0 < k))
  refine ⟨_, _, rfl, rfl, .inr ⟨_, rfl, _, _, rfl, rfl, mulOkR (by rcases h01 with e | e <;> rw [e] <;> exact ⟨by decide, by decide⟩), ?_⟩⟩
  have sA : Sm (n1 * (if decide (0 < k) = true then 1 else 0)) := by
    rcases h01 with e | e <;> rw [e]
    · rw [Int.mul_zero]; exact ⟨by decide, by decide⟩
    · rw [Int.mul_one]; exact ⟨by omega, by omega⟩
  refine ⟨_, rfl, _, rfl, a, rfl, hp3, fun n2 H4 n20 n21 g4 hp4 => ?_⟩
  have gr : Grow [a] H H4 := g1.trans (g2.trans (g3.trans g4))
  have s2 : Sm n2 := ⟨by omega, by omega⟩
  refine ⟨_, rfl, rfl, _, rfl, ?_⟩
  refine ite2 (fun c => ?_) (fun c => ?_)
  · refine ⟨_, rfl, szl rfl, fun t ht => ?_⟩
    exact q ⟨_, none, none⟩ _ _ ok_n (sm_nn sA) (gr.trans (Grow.new ht _)) (hp4.new ht _) ⟨t, rfl, SqT.of upd_same⟩
  refine ⟨_, rfl, _, _, rfl, rfl, _, rfl, ?_⟩
  refine ite2 (fun c2 => ?_) (fun c2 => ?_)
  · have c2' : r < 3 := of_decide_eq_true c2
    have c' : r ≠ 0 := fun z => c (by rw [z]; rfl)
    refine ⟨_, rfl, _, rfl, szl rfl, fun t1 h1 => ⟨_, rfl, _, rfl, szl rfl, fun t2 h2 => ⟨szl rfl, fun l hl => ?_⟩⟩⟩
    have gA := fun o => gr.trans ((Grow.new h1 _).trans ((Grow.new h2 _).trans (Grow.new hl o)))
    have pA := fun o => ((hp4.new h1 _).new h2 _).new hl o
    have : r = 1 ∨ r = 2 := by omega
    rcases this with rfl | rfl
    · refine ⟨_, rfl, _, _, rfl, rfl, l, _, _, _, rfl, rfl, SqL.of upd_same, rfl, ?_⟩
      exact q ⟨_, some n2, none⟩ _ _ ok_sn (sm_sn sA s2) (gA _) (pA _) ⟨t1, rfl, ((Grow.new (m := []) h2 _).trans (Grow.new hl _)).sqT (SqT.of upd_same)⟩
    · refine ⟨_, rfl, _, _, rfl, rfl, l, _, _, _, rfl, rfl, SqL.of upd_same, rfl, ?_⟩
      exact q ⟨_, none, some n2⟩ _ _ ok_n (sm_ns sA s2) (gA _) (pA _) ⟨t2, rfl, (Grow.new (m := []) hl _).sqT (SqT.of upd_same)⟩
  refine ⟨_, rfl, _, rfl, _, _, rfl, a, 3, rfl, rfl, hp4, by decide, by decide, fun e3 H5 e0 e1 g5 hp5 => ?_⟩
  refine ⟨_, _, rfl, rfl, ?_⟩
  refine ⟨_, rfl, _, _, rfl, rfl, _, rfl, ?_⟩
  refine ite2 (fun c3 => ?_) (fun c3 => ?_)
  · refine ⟨_, rfl, _, rfl, a, rfl, hp5, fun n3 H6 n30 n31 g6 hp6 => ?_⟩
    refine ⟨_, rfl, _, rfl, _, rfl, rfl, .inr ⟨_, rfl, _, _, rfl, rfl, mulOkR ?_, _, rfl, _, rfl, _, _, rfl, _, rfl, _, rfl, _, _, rfl, szl rfl, fun t ht => ?_⟩⟩
    · rcases bool01 (!decide (V.int n2 = V.int (n3))) with e | e <;> rw [e] <;> exact ⟨by decide, by decide⟩
    · exact q ⟨_, _, _⟩ _ _ (deedFin (n1 * (if decide (0 < k) = true then 1 else 0)) n2 (n3)) (deedFinSm sA ⟨by omega, by omega⟩ ⟨by omega, by omega⟩) ((gr.trans (g5.trans g6)).trans (Grow.new ht _)) (hp6.new ht _) ⟨t, rfl, SqT.of upd_same⟩
  · refine ⟨_, rfl, _, rfl, _, rfl, rfl, .inr ⟨_, rfl, _, _, rfl, rfl, mulOkR ?_, _, rfl, _, rfl, _, _, rfl, _, rfl, _, rfl, _, _, rfl, szl rfl, fun t ht => ?_⟩⟩
    · rcases bool01 (!decide (V.int n2 = V.int (n2 + e3))) with e | e <;> rw [e] <;> exact ⟨by decide, by decide⟩
    · exact q ⟨_, _, _⟩ _ _ (deedFin (n1 * (if decide (0 < k) = true then 1 else 0)) n2 (n2 + e3)) (deedFinSm sA ⟨by omega, by omega⟩ ⟨by omega, by omega⟩) ((gr.trans g5).trans (Grow.new ht _)) (hp5.new ht _) ⟨t, rfl, SqT.of upd_same⟩
theorem sc__law_pot : FnScope ["_law_script", "_law_k", "_law_cell", "_law_seed"] ["_law_script", "_law_k"] (defScope (top 22)) := ⟨rfl, rfl, rfl, by decide +kernel, rfl, by decide +kernel, by decide +kernel⟩
set_option maxHeartbeats 0 in
theorem ok__law_pot {n : Nat} {f : Addr} {fd : FuncData} (F : Fun K "_law_pot" "_law_pot" (top 22) f fd) (B : Blt mg)     :
    FnOk P w K mg base CX0 (n + 1) f fd ["_law_script", "_law_k"] (sp_pot K) := by
  refine F.ok sc__law_pot sp2_len (fun cdv A outer s H vs Q E hr h => ?_)
  obtain ⟨x, y, rfl, a, ns, k, rfl, rfl, hs, k0, k1, q⟩ := h
  refine ⟨_, (pss_cons (ps_set (i := 2) sc__law_pot.nd rfl (Or.inl rfl) (pe_ifExp (pt_cmpR op_lt (pv 1) (pe_callB call_len_seq rfl B.len b_len (pa_cons (pv 0) pa_nil)) (nomark _)) (pe_ix ix_list (pv 0) (pv 1) (fun _ _ => rfl)) pe_int)) (pss_cons (ps_set (i := 3) sc__law_pot.nd rfl (Or.inl rfl) (pe_op op_add (pe_op op_add (pe_op op_mulG (pe_op op_mod (pe_callB call_abs rfl B.abs b_abs (pa_cons (pv 2) pa_nil)) pe_int) (pe_ix ix_list (pe_lst (pa_cons pe_int (pa_cons pe_int (pa_cons pe_int (pa_cons pe_int (pa_cons pe_int (pa_cons pe_int (pa_cons pe_int pa_nil)))))))) (pe_op op_mod (pv 1) pe_int) (fun _ _ => rfl))) (pe_op op_mulG pe_int (pv 1))) pe_int)) (pss_one (ps_ret (pe_lst (pa_cons (pe_callB (call_max2 rfl) rfl B.max b_max (pa_cons pe_int (pa_cons (pe_op op_sub (pe_callB call_abs rfl B.abs b_abs (pa_cons (pv 2) pa_nil)) (pe_op op_pow pe_int pe_int)) pa_nil))) (pa_cons (pv 3) pa_nil))))))), ?_⟩
  obtain ⟨v7, hat7, v0, v1⟩ : ∃ v : Int, atI [V.int 3, .int 5, .int 11, .int 17, .int 29, .int 37, .int 41] (k % 7) = some (.int v) ∧ 0 < v ∧ v < 100 := by
    have : k % 7 = 0 ∨ k % 7 = 1 ∨ k % 7 = 2 ∨ k % 7 = 3 ∨ k % 7 = 4 ∨ k % 7 = 5 ∨ k % 7 = 6 := by omega
    rcases this with e | e | e | e | e | e | e <;> rw [e] <;> exact ⟨_, rfl, by decide, by decide⟩
  refine ⟨_, rfl, _, rfl, a, _, rfl, .inl hs.sq, _, _, rfl, rfl, _, rfl, ?_⟩
  refine ite2 (fun c => ?_) (fun c => ?_)
  · have c' : k < ((ns.map V.int).length : Int) := of_decide_eq_true c
    rw [List.length_map] at c'
    have hk : k.toNat < ns.length := by omega
    have ek : k = ((k.toNat : Nat) : Int) := by omega
    have hat : atI (ns.map V.int) k = some (.int ns[k.toNat]) := by
      have z : atI (ns.map V.int) ((k.toNat : Nat) : Int) = some (.int ns[k.toNat]) := atI_nat (by rw [List.getElem?_map, List.getElem?_eq_getElem hk]; rfl)
      rw [← ek] at z; exact z
    refine ⟨_, rfl, _, rfl, a, _, _, _, rfl, rfl, hs.sq, hat, ?_⟩
    refine ⟨_, rfl, _, rfl, _, _, rfl, rfl, (by show (0 : Int) < 2147483629; decide), by decide, fun l hl => ?_⟩
    refine ⟨_, rfl, _, _, rfl, rfl, (by show (0 : Int) < 7; decide), l, _, _, _, rfl, rfl, SqL.of upd_same, hat7, ?_⟩
    refine ⟨_, _, rfl, rfl, mulOkR ⟨by omega, by omega⟩, _, rfl, _, _, rfl, rfl, mulOkR ⟨by omega, by omega⟩, _, _, rfl, rfl, _, _, rfl, rfl, ?_⟩
    refine ⟨_, rfl, _, rfl, _, _, rfl, rfl, ⟨by decide, by decide, by decide⟩, _, _, rfl, rfl, _, _, rfl, _, rfl, szl rfl, fun p hp => ?_⟩
    refine q p _ ((Grow.new (m := []) hl _).free (by simp) hp) ((Grow.new hl _).trans (Grow.new hp _)) ⟨_, _, upd_same, ?_⟩
    split <;> omega
  · refine ⟨_, rfl, _, rfl, _, _, rfl, rfl, (by show (0 : Int) < 2147483629; decide), by decide, fun l hl => ?_⟩
    refine ⟨_, rfl, _, _, rfl, rfl, (by show (0 : Int) < 7; decide), l, _, _, _, rfl, rfl, SqL.of upd_same, hat7, ?_⟩
    refine ⟨_, _, rfl, rfl, mulOkR ⟨by omega, by omega⟩, _, rfl, _, _, rfl, rfl, mulOkR ⟨by omega, by omega⟩, _, _, rfl, rfl, _, _, rfl, rfl, ?_⟩
    refine ⟨_, rfl, _, rfl, _, _, rfl, rfl, ⟨by decide, by decide, by decide⟩, _, _, rfl, rfl, _, _, rfl, _, rfl, szl rfl, fun p hp => ?_⟩
    refine q p _ ((Grow.new (m := []) hl _).free (by simp) hp) ((Grow.new hl _).trans (Grow.new hp _)) ⟨_, _, upd_same, ?_⟩
    split <;> omega
theorem sc_law : FnScope ["_law_script", "_law_k", "_law_pot_here", "_law_odd", "_law_no_text", "_law_text_here", "_law_other"] ["_law_script"] (defScope (top 36)) := ⟨rfl, rfl, rfl, by decide +kernel, rfl, by decide +kernel, by decide +kernel⟩
set_option maxHeartbeats 0 in
theorem ok_law {n : Nat} {f : Addr} {fd : FuncData} (F : Fun K "law" "law" (top 36) f fd) (B : Blt mg) (c__law_right : Callee P w K mg base n "_law_right" ["_law_text_here"] (sp_right19 K)) (c__law_is_long : Callee P w K mg base n "_law_is_long" ["_law_text_here"] (sp_long19 K)) (c__law_spoilt : Callee P w K mg base n "_law_spoilt" ["_law_pot_here", "_law_text_here"] (sp_spoilt19 K)) (c__law_text : Callee P w K mg base n "_law_text" ["_law_deed_here"] (sp_dtext K)) (c__law_deed : Callee P w K mg base n "_law_deed" ["_law_pot_here"] (sp_deed K)) (c__law_take : Callee P w K mg base n "_law_take" ["_law_pot_here", "_law_many"] (sp_take K)) (c__law_pot : Callee P w K mg base n "_law_pot" ["_law_script", "_law_k"] (sp_pot K))    :
    FnOk P w K mg base CX0 (n + 1) f fd ["_law_script"] (sp_law K) := by
  refine F.ok sc_law sp1_len (fun cdv A outer s H vs Q E hr h => ?_)
  obtain ⟨x, rfl, a, ns, rfl, hs, h63, q⟩ := h
  refine ⟨_, (@pss_cons _ _ _ _ _ (@ps_for _ _ _ _ _ _ _ _ PassesOwn.never rfl (@pi_range1 _ _ _ _ _ _ rfl B.range (@pa_cons _ _ _ _ _ (@pe_op _ _ _ _ _ _ _ _ op_add (@pe_callB _ _ _ _ _ _ _ _ _ (call_min2 rfl) rfl B.min b_min (@pa_cons _ _ _ _ _ (@pe_callB _ _ _ _ _ _ _ _ _ call_len_seq rfl B.len b_len (@pa_cons _ _ _ _ _ (pv 0) pa_nil (by first | rfl | decide | exact Or.inl rfl | exact Or.inr rfl | exact Or.inr (Or.inl rfl) | exact Or.inr (Or.inr rfl) | exact fun _ => rfl | exact Nat.le_of_ble_eq_true rfl)) (by first | rfl | decide | exact Or.inl rfl | exact Or.inr rfl | exact Or.inr (Or.inl rfl) | exact Or.inr (Or.inr rfl) | exact fun _ => rfl | exact Nat.le_of_ble_eq_true rfl) (by first | rfl | decide | exact Or.inl rfl | exact Or.inr rfl | exact Or.inr (Or.inl rfl) | exact Or.inr (Or.inr rfl) | exact fun _ => rfl | exact Nat.le_of_ble_eq_true rfl) (by first | rfl | decide | exact Or.inl rfl | exact Or.inr rfl | exact Or.inr (Or.inl rfl) | exact Or.inr (Or.inr rfl) | exact fun _ => rfl | exact Nat.le_of_ble_eq_true rfl) (by first | rfl | decide | exact Or.inl rfl | exact Or.inr rfl | exact Or.inr (Or.inl rfl) | exact Or.inr (Or.inr rfl) | exact fun _ => rfl | exact Nat.le_of_ble_eq_true rfl)) (@pa_cons _ _ _ _ _ pe_int pa_nil (by first | rfl | decide | exact Or.inl rfl | exact Or.inr rfl | exact Or.inr (Or.inl rfl) | exact Or.inr (Or.inr rfl) | exact fun _ => rfl | exact Nat.le_of_ble_eq_true rfl)) (by first | rfl | decide | exact Or.inl rfl | exact Or.inr rfl | exact Or.inr (Or.inl rfl) | exact Or.inr (Or.inr rfl) | exact fun _ => rfl | exact Nat.le_of_ble_eq_true rfl)) (by first | rfl | decide | exact Or.inl rfl | exact Or.inr rfl | exact Or.inr (Or.inl rfl) | exact Or.inr (Or.inr rfl) | exact fun _ => rfl | exact Nat.le_of_ble_eq_true rfl) (by first | rfl | decide | exact Or.inl rfl | exact Or.inr rfl | exact Or.inr (Or.inl rfl) | exact Or.inr (Or.inr rfl) | exact fun _ => rfl | exact Nat.le_of_ble_eq_true rfl) (by first | rfl | decide | exact Or.inl rfl | exact Or.inr rfl | exact Or.inr (Or.inl rfl) | exact Or.inr (Or.inr rfl) | exact fun _ => rfl | exact Nat.le_of_ble_eq_true rfl) (by first | rfl | decide | exact Or.inl rfl | exact Or.inr rfl | exact Or.inr (Or.inl rfl) | exact Or.inr (Or.inr rfl) | exact fun _ => rfl | exact Nat.le_of_ble_eq_true rfl)) pe_int) pa_nil (by first | rfl | decide | exact Or.inl rfl | exact Or.inr rfl | exact Or.inr (Or.inl rfl) | exact Or.inr (Or.inr rfl) | exact fun _ => rfl | exact Nat.le_of_ble_eq_true rfl)) (by first | rfl | decide | exact Or.inl rfl | exact Or.inr rfl | exact Or.inr (Or.inl rfl) | exact Or.inr (Or.inr rfl) | exact fun _ => rfl | exact Nat.le_of_ble_eq_true rfl)) (pg_name (i := 1) sc_law.nd rfl (Or.inl rfl)) (@pss_cons _ _ _ _ _ (@ps_set _ _ 2 _ _ _ _ sc_law.nd rfl (Or.inl rfl) (@pe_callC _ _ _ _ _ _ _ _ _ _ c__law_pot hr rfl (@pa_cons _ _ _ _ _ (pv 0) (@pa_cons _ _ _ _ _ (pv 1) pa_nil (by first | rfl | decide | exact Or.inl rfl | exact Or.inr rfl | exact Or.inr (Or.inl rfl) | exact Or.inr (Or.inr rfl) | exact fun _ => rfl | exact Nat.le_of_ble_eq_true rfl)) (by first | rfl | decide | exact Or.inl rfl | exact Or.inr rfl | exact Or.inr (Or.inl rfl) | exact Or.inr (Or.inr rfl) | exact fun _ => rfl | exact Nat.le_of_ble_eq_true rfl)) (by first | rfl | decide | exact Or.inl rfl | exact Or.inr rfl | exact Or.inr (Or.inl rfl) | exact Or.inr (Or.inr rfl) | exact fun _ => rfl | exact Nat.le_of_ble_eq_true rfl) (by first | rfl | decide | exact Or.inl rfl | exact Or.inr rfl | exact Or.inr (Or.inl rfl) | exact Or.inr (Or.inr rfl) | exact fun _ => rfl | exact Nat.le_of_ble_eq_true rfl) (by first | rfl | decide | exact Or.inl rfl | exact Or.inr rfl | exact Or.inr (Or.inl rfl) | exact Or.inr (Or.inr rfl) | exact fun _ => rfl | exact Nat.le_of_ble_eq_true rfl)) (by first | rfl | decide | exact Or.inl rfl | exact Or.inr rfl | exact Or.inr (Or.inl rfl) | exact Or.inr (Or.inr rfl) | exact fun _ => rfl | exact Nat.le_of_ble_eq_true rfl) (by first | rfl | decide | exact Or.inl rfl | exact Or.inr rfl | exact Or.inr (Or.inl rfl) | exact Or.inr (Or.inr rfl) | exact fun _ => rfl | exact Nat.le_of_ble_eq_true rfl)) (@pss_cons _ _ _ _ _ (@ps_set _ _ 3 _ _ _ _ sc_law.nd rfl (Or.inl rfl) (@pe_ix _ _ _ _ _ _ _ ix_list (@po_lst _ K _ _ _ _ (@pos_consT _ _ _ _ _ _ _ po_non (@pos_consT _ _ _ _ _ _ _ po_int (@pos_consT _ _ _ _ _ _ _ po_bl (@pos_consT _ _ _ _ _ _ _ (@po_tup _ _ _ _ _ _ _ (@pos_consT _ _ _ _ _ _ _ po_str pos_nil (by first | rfl | decide | exact Or.inl rfl | exact Or.inr rfl | exact Or.inr (Or.inl rfl) | exact Or.inr (Or.inr rfl) | exact fun _ => rfl | exact Nat.le_of_ble_eq_true rfl)) (by first | rfl | decide | exact Or.inl rfl | exact Or.inr rfl | exact Or.inr (Or.inl rfl) | exact Or.inr (Or.inr rfl) | exact fun _ => rfl | exact Nat.le_of_ble_eq_true rfl)) (@pos_consT _ _ _ _ _ _ _ (@po_lst _ _ _ _ _ _ (@pos_consT _ _ _ _ _ _ _ po_str pos_nil (by first | rfl | decide | exact Or.inl rfl | exact Or.inr rfl | exact Or.inr (Or.inl rfl) | exact Or.inr (Or.inr rfl) | exact fun _ => rfl | exact Nat.le_of_ble_eq_true rfl)) (by first | rfl | decide | exact Or.inl rfl | exact Or.inr rfl | exact Or.inr (Or.inl rfl) | exact Or.inr (Or.inr rfl) | exact fun _ => rfl | exact Nat.le_of_ble_eq_true rfl)) (@pos_consT _ _ _ _ _ _ _ (@po_tup _ _ _ _ _ _ _ (@pos_consT _ _ _ _ _ _ _ po_int (@pos_consT _ _ _ _ _ _ _ po_non (@pos_consT _ _ _ _ _ _ _ po_non pos_nil (by first | rfl | decide | exact Or.inl rfl | exact Or.inr rfl | exact Or.inr (Or.inl rfl) | exact Or.inr (Or.inr rfl) | exact fun _ => rfl | exact Nat.le_of_ble_eq_true rfl)) (by first | rfl | decide | exact Or.inl rfl | exact Or.inr rfl | exact Or.inr (Or.inl rfl) | exact Or.inr (Or.inr rfl) | exact fun _ => rfl | exact Nat.le_of_ble_eq_true rfl)) (by first | rfl | decide | exact Or.inl rfl | exact Or.inr rfl | exact Or.inr (Or.inl rfl) | exact Or.inr (Or.inr rfl) | exact fun _ => rfl | exact Nat.le_of_ble_eq_true rfl)) (by first | rfl | decide | exact Or.inl rfl | exact Or.inr rfl | exact Or.inr (Or.inl rfl) | exact Or.inr (Or.inr rfl) | exact fun _ => rfl | exact Nat.le_of_ble_eq_true rfl)) (@pos_consT _ _ _ _ _ _ _ po_int (@pos_consT _ _ _ _ _ _ _ po_dnil pos_nil star_dict) (by first | rfl | decide | exact Or.inl rfl | exact Or.inr rfl | exact Or.inr (Or.inl rfl) | exact Or.inr (Or.inr rfl) | exact fun _ => rfl | exact Nat.le_of_ble_eq_true rfl)) (by first | rfl | decide | exact Or.inl rfl | exact Or.inr rfl | exact Or.inr (Or.inl rfl) | exact Or.inr (Or.inr rfl) | exact fun _ => rfl | exact Nat.le_of_ble_eq_true rfl)) (by first | rfl | decide | exact Or.inl rfl | exact Or.inr rfl | exact Or.inr (Or.inl rfl) | exact Or.inr (Or.inr rfl) | exact fun _ => rfl | exact Nat.le_of_ble_eq_true rfl)) (by first | rfl | decide | exact Or.inl rfl | exact Or.inr rfl | exact Or.inr (Or.inl rfl) | exact Or.inr (Or.inr rfl) | exact fun _ => rfl | exact Nat.le_of_ble_eq_true rfl)) (by first | rfl | decide | exact Or.inl rfl | exact Or.inr rfl | exact Or.inr (Or.inl rfl) | exact Or.inr (Or.inr rfl) | exact fun _ => rfl | exact Nat.le_of_ble_eq_true rfl)) (by first | rfl | decide | exact Or.inl rfl | exact Or.inr rfl | exact Or.inr (Or.inl rfl) | exact Or.inr (Or.inr rfl) | exact fun _ => rfl | exact Nat.le_of_ble_eq_true rfl)) (by first | rfl | decide | exact Or.inl rfl | exact Or.inr rfl | exact Or.inr (Or.inl rfl) | exact Or.inr (Or.inr rfl) | exact fun _ => rfl | exact Nat.le_of_ble_eq_true rfl)) (by first | rfl | decide | exact Or.inl rfl | exact Or.inr rfl | exact Or.inr (Or.inl rfl) | exact Or.inr (Or.inr rfl) | exact fun _ => rfl | exact Nat.le_of_ble_eq_true rfl)) (@pe_callC _ _ _ _ _ _ _ _ _ _ c__law_take hr rfl (@pa_cons _ _ _ _ _ (pv 2) (@pa_cons _ _ _ _ _ pe_int pa_nil (by first | rfl | decide | exact Or.inl rfl | exact Or.inr rfl | exact Or.inr (Or.inl rfl) | exact Or.inr (Or.inr rfl) | exact fun _ => rfl | exact Nat.le_of_ble_eq_true rfl)) (by first | rfl | decide | exact Or.inl rfl | exact Or.inr rfl | exact Or.inr (Or.inl rfl) | exact Or.inr (Or.inr rfl) | exact fun _ => rfl | exact Nat.le_of_ble_eq_true rfl)) (by first | rfl | decide | exact Or.inl rfl | exact Or.inr rfl | exact Or.inr (Or.inl rfl) | exact Or.inr (Or.inr rfl) | exact fun _ => rfl | exact Nat.le_of_ble_eq_true rfl) (by first | rfl | decide | exact Or.inl rfl | exact Or.inr rfl | exact Or.inr (Or.inl rfl) | exact Or.inr (Or.inr rfl) | exact fun _ => rfl | exact Nat.le_of_ble_eq_true rfl) (by first | rfl | decide | exact Or.inl rfl | exact Or.inr rfl | exact Or.inr (Or.inl rfl) | exact Or.inr (Or.inr rfl) | exact fun _ => rfl | exact Nat.le_of_ble_eq_true rfl)) (fun _ _ => rfl)) (by first | rfl | decide | exact Or.inl rfl | exact Or.inr rfl | exact Or.inr (Or.inl rfl) | exact Or.inr (Or.inr rfl) | exact fun _ => rfl | exact Nat.le_of_ble_eq_true rfl) (by first | rfl | decide | exact Or.inl rfl | exact Or.inr rfl | exact Or.inr (Or.inl rfl) | exact Or.inr (Or.inr rfl) | exact fun _ => rfl | exact Nat.le_of_ble_eq_true rfl)) (@pss_cons _ _ _ _ _ (@ps_set _ _ 4 _ _ _ _ sc_law.nd rfl (Or.inl rfl) (@pe_cmpR _ _ _ _ _ _ _ _ op_eq (@pe_callC _ _ _ _ _ _ _ _ _ _ c__law_take hr rfl (@pa_cons _ _ _ _ _ (pv 2) (@pa_cons _ _ _ _ _ pe_int pa_nil (by first | rfl | decide | exact Or.inl rfl | exact Or.inr rfl | exact Or.inr (Or.inl rfl) | exact Or.inr (Or.inr rfl) | exact fun _ => rfl | exact Nat.le_of_ble_eq_true rfl)) (by first | rfl | decide | exact Or.inl rfl | exact Or.inr rfl | exact Or.inr (Or.inl rfl) | exact Or.inr (Or.inr rfl) | exact fun _ => rfl | exact Nat.le_of_ble_eq_true rfl)) (by first | rfl | decide | exact Or.inl rfl | exact Or.inr rfl | exact Or.inr (Or.inl rfl) | exact Or.inr (Or.inr rfl) | exact fun _ => rfl | exact Nat.le_of_ble_eq_true rfl) (by first | rfl | decide | exact Or.inl rfl | exact Or.inr rfl | exact Or.inr (Or.inl rfl) | exact Or.inr (Or.inr rfl) | exact fun _ => rfl | exact Nat.le_of_ble_eq_true rfl) (by first | rfl | decide | exact Or.inl rfl | exact Or.inr rfl | exact Or.inr (Or.inl rfl) | exact Or.inr (Or.inr rfl) | exact fun _ => rfl | exact Nat.le_of_ble_eq_true rfl)) pe_int (nomark _)) (by first | rfl | decide | exact Or.inl rfl | exact Or.inr rfl | exact Or.inr (Or.inl rfl) | exact Or.inr (Or.inr rfl) | exact fun _ => rfl | exact Nat.le_of_ble_eq_true rfl) (by first | rfl | decide | exact Or.inl rfl | exact Or.inr rfl | exact Or.inr (Or.inl rfl) | exact Or.inr (Or.inr rfl) | exact fun _ => rfl | exact Nat.le_of_ble_eq_true rfl)) (@pss_cons _ _ _ _ _ (@ps_set _ _ 5 _ _ _ _ sc_law.nd rfl (Or.inl rfl) (@pe_callC _ _ _ _ _ _ _ _ _ _ c__law_text hr rfl (@pa_cons _ _ _ _ _ (@pe_callC _ _ _ _ _ _ _ _ _ _ c__law_deed hr rfl (@pa_cons _ _ _ _ _ (pv 2) pa_nil (by first | rfl | decide | exact Or.inl rfl | exact Or.inr rfl | exact Or.inr (Or.inl rfl) | exact Or.inr (Or.inr rfl) | exact fun _ => rfl | exact Nat.le_of_ble_eq_true rfl)) (by first | rfl | decide | exact Or.inl rfl | exact Or.inr rfl | exact Or.inr (Or.inl rfl) | exact Or.inr (Or.inr rfl) | exact fun _ => rfl | exact Nat.le_of_ble_eq_true rfl) (by first | rfl | decide | exact Or.inl rfl | exact Or.inr rfl | exact Or.inr (Or.inl rfl) | exact Or.inr (Or.inr rfl) | exact fun _ => rfl | exact Nat.le_of_ble_eq_true rfl) (by first | rfl | decide | exact Or.inl rfl | exact Or.inr rfl | exact Or.inr (Or.inl rfl) | exact Or.inr (Or.inr rfl) | exact fun _ => rfl | exact Nat.le_of_ble_eq_true rfl)) pa_nil (by first | rfl | decide | exact Or.inl rfl | exact Or.inr rfl | exact Or.inr (Or.inl rfl) | exact Or.inr (Or.inr rfl) | exact fun _ => rfl | exact Nat.le_of_ble_eq_true rfl)) (by first | rfl | decide | exact Or.inl rfl | exact Or.inr rfl | exact Or.inr (Or.inl rfl) | exact Or.inr (Or.inr rfl) | exact fun _ => rfl | exact Nat.le_of_ble_eq_true rfl) (by first | rfl | decide | exact Or.inl rfl | exact Or.inr rfl | exact Or.inr (Or.inl rfl) | exact Or.inr (Or.inr rfl) | exact fun _ => rfl | exact Nat.le_of_ble_eq_true rfl) (by first | rfl | decide | exact Or.inl rfl | exact Or.inr rfl | exact Or.inr (Or.inl rfl) | exact Or.inr (Or.inr rfl) | exact fun _ => rfl | exact Nat.le_of_ble_eq_true rfl)) (by first | rfl | decide | exact Or.inl rfl | exact Or.inr rfl | exact Or.inr (Or.inl rfl) | exact Or.inr (Or.inr rfl) | exact fun _ => rfl | exact Nat.le_of_ble_eq_true rfl) (by first | rfl | decide | exact Or.inl rfl | exact Or.inr rfl | exact Or.inr (Or.inl rfl) | exact Or.inr (Or.inr rfl) | exact fun _ => rfl | exact Nat.le_of_ble_eq_true rfl)) (@pss_cons _ _ _ _ _ (@ps_set _ _ 6 _ _ _ _ sc_law.nd rfl (Or.inl rfl) (@pe_callC _ _ _ _ _ _ _ _ _ _ c__law_spoilt hr rfl (@pa_cons _ _ _ _ _ (pv 2) (@pa_cons _ _ _ _ _ (pv 5) pa_nil (by first | rfl | decide | exact Or.inl rfl | exact Or.inr rfl | exact Or.inr (Or.inl rfl) | exact Or.inr (Or.inr rfl) | exact fun _ => rfl | exact Nat.le_of_ble_eq_true rfl)) (by first | rfl | decide | exact Or.inl rfl | exact Or.inr rfl | exact Or.inr (Or.inl rfl) | exact Or.inr (Or.inr rfl) | exact fun _ => rfl | exact Nat.le_of_ble_eq_true rfl)) (by first | rfl | decide | exact Or.inl rfl | exact Or.inr rfl | exact Or.inr (Or.inl rfl) | exact Or.inr (Or.inr rfl) | exact fun _ => rfl | exact Nat.le_of_ble_eq_true rfl) (by first | rfl | decide | exact Or.inl rfl | exact Or.inr rfl | exact Or.inr (Or.inl rfl) | exact Or.inr (Or.inr rfl) | exact fun _ => rfl | exact Nat.le_of_ble_eq_true rfl) (by first | rfl | decide | exact Or.inl rfl | exact Or.inr rfl | exact Or.inr (Or.inl rfl) | exact Or.inr (Or.inr rfl) | exact fun _ => rfl | exact Nat.le_of_ble_eq_true rfl)) (by first | rfl | decide | exact Or.inl rfl | exact Or.inr rfl | exact Or.inr (Or.inl rfl) | exact Or.inr (Or.inr rfl) | exact fun _ => rfl | exact Nat.le_of_ble_eq_true rfl) (by first | rfl | decide | exact Or.inl rfl | exact Or.inr rfl | exact Or.inr (Or.inl rfl) | exact Or.inr (Or.inr rfl) | exact fun _ => rfl | exact Nat.le_of_ble_eq_true rfl)) (@pss_cons _ _ _ _ _ (@ps_if _ _ _ _ _ _ _ _ (@pt_val _ _ _ (@pe_callC _ _ _ _ _ _ _ _ _ _ c__law_is_long hr rfl (@pa_cons _ _ _ _ _ (pv 6) pa_nil (by first | rfl | decide | exact Or.inl rfl | exact Or.inr rfl | exact Or.inr (Or.inl rfl) | exact Or.inr (Or.inr rfl) | exact fun _ => rfl | exact Nat.le_of_ble_eq_true rfl)) (by first | rfl | decide | exact Or.inl rfl | exact Or.inr rfl | exact Or.inr (Or.inl rfl) | exact Or.inr (Or.inr rfl) | exact fun _ => rfl | exact Nat.le_of_ble_eq_true rfl) (by first | rfl | decide | exact Or.inl rfl | exact Or.inr rfl | exact Or.inr (Or.inl rfl) | exact Or.inr (Or.inr rfl) | exact fun _ => rfl | exact Nat.le_of_ble_eq_true rfl) (by first | rfl | decide | exact Or.inl rfl | exact Or.inr rfl | exact Or.inr (Or.inl rfl) | exact Or.inr (Or.inr rfl) | exact fun _ => rfl | exact Nat.le_of_ble_eq_true rfl)) (by first | rfl | decide | exact Or.inl rfl | exact Or.inr rfl | exact Or.inr (Or.inl rfl) | exact Or.inr (Or.inr rfl) | exact fun _ => rfl | exact Nat.le_of_ble_eq_true rfl)) (@pss_one _ _ _ (@ps_set _ _ 6 _ _ _ _ sc_law.nd rfl (Or.inl rfl) pe_str (by first | rfl | decide | exact Or.inl rfl | exact Or.inr rfl | exact Or.inr (Or.inl rfl) | exact Or.inr (Or.inr rfl) | exact fun _ => rfl | exact Nat.le_of_ble_eq_true rfl) (by first | rfl | decide | exact Or.inl rfl | exact Or.inr rfl | exact Or.inr (Or.inl rfl) | exact Or.inr (Or.inr rfl) | exact fun _ => rfl | exact Nat.le_of_ble_eq_true rfl))) pss_nil) (@pss_one _ _ _ (@ps_if _ _ _ _ _ _ _ _ (@PW.pt _ _ _ (@pw_or _ _ _ _ _ _ _ (@pt_not _ _ _ _ (@pt_val _ _ _ (@pe_callC _ _ _ _ _ _ _ _ _ _ c__law_right hr rfl (@pa_cons _ _ _ _ _ (pv 5) pa_nil (by first | rfl | decide | exact Or.inl rfl | exact Or.inr rfl | exact Or.inr (Or.inl rfl) | exact Or.inr (Or.inr rfl) | exact fun _ => rfl | exact Nat.le_of_ble_eq_true rfl)) (by first | rfl | decide | exact Or.inl rfl | exact Or.inr rfl | exact Or.inr (Or.inl rfl) | exact Or.inr (Or.inr rfl) | exact fun _ => rfl | exact Nat.le_of_ble_eq_true rfl) (by first | rfl | decide | exact Or.inl rfl | exact Or.inr rfl | exact Or.inr (Or.inl rfl) | exact Or.inr (Or.inr rfl) | exact fun _ => rfl | exact Nat.le_of_ble_eq_true rfl) (by first | rfl | decide | exact Or.inl rfl | exact Or.inr rfl | exact Or.inr (Or.inl rfl) | exact Or.inr (Or.inr rfl) | exact fun _ => rfl | exact Nat.le_of_ble_eq_true rfl)) (by first | rfl | decide | exact Or.inl rfl | exact Or.inr rfl | exact Or.inr (Or.inl rfl) | exact Or.inr (Or.inr rfl) | exact fun _ => rfl | exact Nat.le_of_ble_eq_true rfl))) (@pw_or _ _ _ _ _ _ _ (@pt_not _ _ _ _ (@pt_val _ _ _ (@pe_callC _ _ _ _ _ _ _ _ _ _ c__law_right hr rfl (@pa_cons _ _ _ _ _ (@pe_ifExp _ _ _ _ _ _ _ _ (@pt_val _ _ _ (pv 4) (by first | rfl | decide | exact Or.inl rfl | exact Or.inr rfl | exact Or.inr (Or.inl rfl) | exact Or.inr (Or.inr rfl) | exact fun _ => rfl | exact Nat.le_of_ble_eq_true rfl)) (pv 3) (pv 6)) pa_nil (by first | rfl | decide | exact Or.inl rfl | exact Or.inr rfl | exact Or.inr (Or.inl rfl) | exact Or.inr (Or.inr rfl) | exact fun _ => rfl | exact Nat.le_of_ble_eq_true rfl)) (by first | rfl | decide | exact Or.inl rfl | exact Or.inr rfl | exact Or.inr (Or.inl rfl) | exact Or.inr (Or.inr rfl) | exact fun _ => rfl | exact Nat.le_of_ble_eq_true rfl) (by first | rfl | decide | exact Or.inl rfl | exact Or.inr rfl | exact Or.inr (Or.inl rfl) | exact Or.inr (Or.inr rfl) | exact fun _ => rfl | exact Nat.le_of_ble_eq_true rfl) (by first | rfl | decide | exact Or.inl rfl | exact Or.inr rfl | exact Or.inr (Or.inl rfl) | exact Or.inr (Or.inr rfl) | exact fun _ => rfl | exact Nat.le_of_ble_eq_true rfl)) (by first | rfl | decide | exact Or.inl rfl | exact Or.inr rfl | exact Or.inr (Or.inl rfl) | exact Or.inr (Or.inr rfl) | exact fun _ => rfl | exact Nat.le_of_ble_eq_true rfl))) (@pw_or1 _ _ _ _ (@pt_not _ _ _ _ (@pt_val _ _ _ (@pe_callC _ _ _ _ _ _ _ _ _ _ c__law_right hr rfl (@pa_cons _ _ _ _ _ (pv 5) pa_nil (by first | rfl | decide | exact Or.inl rfl | exact Or.inr rfl | exact Or.inr (Or.inl rfl) | exact Or.inr (Or.inr rfl) | exact fun _ => rfl | exact Nat.le_of_ble_eq_true rfl)) (by first | rfl | decide | exact Or.inl rfl | exact Or.inr rfl | exact Or.inr (Or.inl rfl) | exact Or.inr (Or.inr rfl) | exact fun _ => rfl | exact Nat.le_of_ble_eq_true rfl) (by first | rfl | decide | exact Or.inl rfl | exact Or.inr rfl | exact Or.inr (Or.inl rfl) | exact Or.inr (Or.inr rfl) | exact fun _ => rfl | exact Nat.le_of_ble_eq_true rfl) (by first | rfl | decide | exact Or.inl rfl | exact Or.inr rfl | exact Or.inr (Or.inl rfl) | exact Or.inr (Or.inr rfl) | exact fun _ => rfl | exact Nat.le_of_ble_eq_true rfl)) (by first | rfl | decide | exact Or.inl rfl | exact Or.inr rfl | exact Or.inr (Or.inl rfl) | exact Or.inr (Or.inr rfl) | exact fun _ => rfl | exact Nat.le_of_ble_eq_true rfl))))))) (@pss_one _ _ _ (@ps_ret _ _ _ _ pe_bl)) pss_nil)))))))) (by first | rfl | decide | exact Or.inl rfl | exact Or.inr rfl | exact Or.inr (Or.inl rfl) | exact Or.inr (Or.inr rfl) | exact fun _ => rfl | exact Nat.le_of_ble_eq_true rfl)) (@pss_one _ _ _ (@ps_ret _ _ _ _ (@pe_and _ _ _ _ _ _ _ (@pe_callC _ _ _ _ _ _ _ _ _ _ c__law_right hr rfl (@pa_cons _ _ _ _ _ pe_str pa_nil (by first | rfl | decide | exact Or.inl rfl | exact Or.inr rfl | exact Or.inr (Or.inl rfl) | exact Or.inr (Or.inr rfl) | exact fun _ => rfl | exact Nat.le_of_ble_eq_true rfl)) (by first | rfl | decide | exact Or.inl rfl | exact Or.inr rfl | exact Or.inr (Or.inl rfl) | exact Or.inr (Or.inr rfl) | exact fun _ => rfl | exact Nat.le_of_ble_eq_true rfl) (by first | rfl | decide | exact Or.inl rfl | exact Or.inr rfl | exact Or.inr (Or.inl rfl) | exact Or.inr (Or.inr rfl) | exact fun _ => rfl | exact Nat.le_of_ble_eq_true rfl) (by first | rfl | decide | exact Or.inl rfl | exact Or.inr rfl | exact Or.inr (Or.inl rfl) | exact Or.inr (Or.inr rfl) | exact fun _ => rfl | exact Nat.le_of_ble_eq_true rfl)) (@pe_and _ _ _ _ _ _ _ (@pe_callC _ _ _ _ _ _ _ _ _ _ c__law_right hr rfl (@pa_cons _ _ _ _ _ pe_str pa_nil (by first | rfl | decide | exact Or.inl rfl | exact Or.inr rfl | exact Or.inr (Or.inl rfl) | exact Or.inr (Or.inr rfl) | exact fun _ => rfl | exact Nat.le_of_ble_eq_true rfl)) (by first | rfl | decide | exact Or.inl rfl | exact Or.inr rfl | exact Or.inr (Or.inl rfl) | exact Or.inr (Or.inr rfl) | exact fun _ => rfl | exact Nat.le_of_ble_eq_true rfl) (by first | rfl | decide | exact Or.inl rfl | exact Or.inr rfl | exact Or.inr (Or.inl rfl) | exact Or.inr (Or.inr rfl) | exact fun _ => rfl | exact Nat.le_of_ble_eq_true rfl) (by first | rfl | decide | exact Or.inl rfl | exact Or.inr rfl | exact Or.inr (Or.inl rfl) | exact Or.inr (Or.inr rfl) | exact fun _ => rfl | exact Nat.le_of_ble_eq_true rfl)) (@pe_and _ _ _ _ _ _ _ (@pe_callC _ _ _ _ _ _ _ _ _ _ c__law_right hr rfl (@pa_cons _ _ _ _ _ pe_str pa_nil (by first | rfl | decide | exact Or.inl rfl | exact Or.inr rfl | exact Or.inr (Or.inl rfl) | exact Or.inr (Or.inr rfl) | exact fun _ => rfl | exact Nat.le_of_ble_eq_true rfl)) (by first | rfl | decide | exact Or.inl rfl | exact Or.inr rfl | exact Or.inr (Or.inl rfl) | exact Or.inr (Or.inr rfl) | exact fun _ => rfl | exact Nat.le_of_ble_eq_true rfl) (by first | rfl | decide | exact Or.inl rfl | exact Or.inr rfl | exact Or.inr (Or.inl rfl) | exact Or.inr (Or.inr rfl) | exact fun _ => rfl | exact Nat.le_of_ble_eq_true rfl) (by first | rfl | decide | exact Or.inl rfl | exact Or.inr rfl | exact Or.inr (Or.inl rfl) | exact Or.inr (Or.inr rfl) | exact fun _ => rfl | exact Nat.le_of_ble_eq_true rfl)) (@pe_one _ _ _ _ _ (@pe_callC _ _ _ _ _ _ _ _ _ _ c__law_right hr rfl (@pa_cons _ _ _ _ _ pe_str pa_nil (by first | rfl | decide | exact Or.inl rfl | exact Or.inr rfl | exact Or.inr (Or.inl rfl) | exact Or.inr (Or.inr rfl) | exact fun _ => rfl | exact Nat.le_of_ble_eq_true rfl)) (by first | rfl | decide | exact Or.inl rfl | exact Or.inr rfl | exact Or.inr (Or.inl rfl) | exact Or.inr (Or.inr rfl) | exact fun _ => rfl | exact Nat.le_of_ble_eq_true rfl) (by first | rfl | decide | exact Or.inl rfl | exact Or.inr rfl | exact Or.inr (Or.inl rfl) | exact Or.inr (Or.inr rfl) | exact fun _ => rfl | exact Nat.le_of_ble_eq_true rfl) (by first | rfl | decide | exact Or.inl rfl | exact Or.inr rfl | exact Or.inr (Or.inl rfl) | exact Or.inr (Or.inr rfl) | exact fun _ => rfl | exact Nat.le_of_ble_eq_true rfl))))))))), ?_⟩
  have hl : (ns.map V.int).length = ns.length := List.length_map ..
  refine ⟨_, rfl, a, _, rfl, .inl hs.sq, _, _, rfl, _, _, rfl, rfl, _, rfl, ?_, ?_, ?_⟩
  · split <;> omega
  · rw [hl]; split <;> omega
  refine for_range (fun i σ H' => ∃ (e1 e2 e3 e4 e5 e6 : Option V), σ = [some (.ref a), e1, e2, e3, e4, e5, e6] ∧ Grow [] H H') ⟨_, _, _, _, _, _, rfl, Grow.refl _ _⟩ ?_ ?_
  rotate_left
  · rintro σ H1 ⟨e1, e2, e3, e4, e5, e6, rfl, g⟩
    exact ⟨_, rfl, .str (S18 "look"), [], .str _, d_lit (by decide), fun H2 g2 => ⟨_, rfl, iteT ⟨_, rfl, .str (S18 ""), [], .str _, d_lit (by decide), fun H3 g3 => ⟨_, rfl, iteT ⟨_, rfl, .str (S18 "add 0"), [], .str _, d_lit (by decide), fun H4 g4 => ⟨_, rfl, iteT ⟨_, rfl, .str (S18 "set -1"), [], .str _, d_lit (by decide), fun H5 g5 => q _⟩⟩⟩⟩⟩⟩⟩
  rintro i σ H1 hi ⟨e1, e2, e3, e4, e5, e6, rfl, g⟩
  have i63 : i < 1000 := by
    have hi' := hi
    revert hi'
    split <;> omega
  try dsimp only
  refine c_asg (fun v H' => ∃ p, v = .ref p ∧ H1 p = none ∧ Grow [] H1 H' ∧ Pot H' p) (fun Kk hk => ⟨_, rfl, _, rfl, _, _, rfl, a, ns, _, rfl, rfl, g.scr hs, by omega, by omega, fun p H2 hp g2 pp => hk _ _ ⟨p, rfl, hp, g2, pp⟩⟩) ?_
  rintro _ H2 ⟨p, rfl, np, g2, pp2⟩
  have om : ∀ b ∈ [p], H2 b ≠ none := fun b hb => by
    rw [List.mem_singleton.mp hb]
    obtain ⟨_, _, e, _⟩ := pp2
    rw [e]; simp
  refine c_asg (fun v H' => ∃ d, Od K [p] H' v d ∧ isS19 d = false ∧ Grow [p] H2 H' ∧ Pot H' p) (fun Kk hk => ⟨[p], trivial, om, fun x1 Ha ga oa => ⟨_, rfl, _, _, rfl, p, 8, rfl, rfl, pp2.grow ga, by decide, by decide, fun n H' n0 n1 g pp' => ?_⟩⟩) ?_
  · obtain ⟨j, rfl⟩ : ∃ j : Nat, n = j := ⟨n.toNat, by omega⟩
    obtain ⟨l, ys, x, d, rfl, hl, hx, od, ds⟩ := pick19 (n := j) oa g (by omega)
    exact ⟨l, _, j, x, rfl, rfl, hl, atI_nat hx, hk _ _ ⟨d, od, ds, ga.wk.trans g, pp'⟩⟩
  rintro xo H3 ⟨dd, oo, ds, g3, pp3⟩
  refine c_asg (fun v H' => ∃ b : Bool, v = .bl b ∧ Grow [p] H3 H' ∧ Pot H' p) (fun Kk hk => ⟨_, rfl, _, _, rfl, p, 8, rfl, rfl, pp3, by decide, by decide, fun n H' n0 n1 g pp' => ⟨rfl, hk _ _ ⟨_, rfl, g, pp'⟩⟩⟩) ?_
  rintro _ H4 ⟨b, rfl, g4, pp4⟩
  refine c_asg (fun v H' => ∃ d : Deed, v = .str (txt18 d) ∧ d.Ok ∧ d.Sm ∧ Grow [p] H4 H' ∧ Pot H' p) (fun Kk hk => ⟨_, rfl, _, rfl, p, rfl, pp4, fun d y H' ok sm g pp' hd => ⟨_, rfl, d, hd, ok, sm.bd.mono (by decide), fun H' g' => hk _ _ ⟨d, rfl, ok, sm, g.trans g'.wk, pp'.grow g'⟩⟩⟩) ?_
  rintro _ H5 ⟨d, rfl, od, sm, g5, pp5⟩
  have T := t_txt sm
  have D1 : D19 (.str (txt18 d)) := fun z e => by cases e; exact ⟨T.mono (by decide), w_txt sm⟩
  refine c_asg (fun v H' => ∃ w, v = .str w ∧ T19 994 w ∧ Grow [p] H5 H' ∧ Pot H' p) (fun Kk hk => ⟨_, rfl, _, rfl, _, _, rfl, p, _, rfl, rfl, pp5, T, fun w' H' T' g pp' => hk _ _ ⟨_, rfl, T', g, pp'⟩⟩) ?_
  rintro _ H6 ⟨w, rfl, Tw, g6, pp6⟩
  have G6 : Grow [p] H1 H6 := g2.wk.trans (g3.trans (g4.trans (g5.trans g6)))
  have oo6 := oo.grow (g4.trans (g5.trans g6))
  refine c_if (fun σ' H' => ∃ w, σ' = [some (.ref a), some (.int (0 + (i : Int))), some (.ref p), some xo, some (.bl b), some (.str (txt18 d)), some (.str w)] ∧ D19 (.str w) ∧ Grow [] H6 H') ?_ (fun hk => ?_)
  rotate_left
  · refine ⟨_, rfl, _, rfl, w, rfl, Tw, fun b' H7 g7 hb => ⟨_, rfl, ?_⟩⟩
    cases b' with
    | true => exact iteT (hk _ _ ⟨S18 "look ", rfl, d_lit (by decide), g7⟩)
    | false => exact iteF (hk _ _ ⟨w, rfl, (fun z e => by cases e; exact ⟨Tw, hb rfl⟩), g7⟩)
  rintro _ H7 ⟨w, rfl, Dw, g7⟩
  have oo7 := oo6.grow (g7.wk (m := [p]))
  have fin : ∀ H', Grow [] H7 H' → Grow [] H H' := fun H' g8 => g.trans ((G6.trans (g7.trans g8).wk).shrink np)
  refine ⟨_, rfl, _, rfl, .str (txt18 d), [], .str _, D1, fun H8 g8 => ⟨_, rfl, iteF ?_⟩⟩
  cases b with
  | true => exact ⟨_, rfl, _, rfl, iteT ⟨_, rfl, _, rfl, dd, [p], oo7.grow (g8.wk (m := [p])), d_odd ds, fun H9 g9 => ⟨_, rfl, iteF ⟨_, rfl, _, rfl, .str (txt18 d), [], .str _, D1, fun H10 g10 => ⟨_, rfl, iteF ⟨_, _, _, _, _, _, rfl, fin _ (g8.trans (g9.trans g10))⟩⟩⟩⟩⟩⟩
  | false => exact ⟨_, rfl, _, rfl, iteF ⟨_, rfl, _, rfl, .str w, [], .str _, Dw, fun H9 g9 => ⟨_, rfl, iteF ⟨_, rfl, _, rfl, .str (txt18 d), [], .str _, D1, fun H10 g10 => ⟨_, rfl, iteF ⟨_, _, _, _, _, _, rfl, fin _ (g8.trans (g9.trans g10))⟩⟩⟩⟩⟩⟩
end
theorem my_len1 : ∀ {us : List Value}, us.length = 1 → ∃ x0, us = [x0]
  | [x0], _ => ⟨x0, rfl⟩
theorem my_len2 : ∀ {us : List Value}, us.length = 2 → ∃ x0, ∃ x1, us = [x0, x1]
  | [x0, x1], _ => ⟨x0, x1, rfl⟩
set_option maxHeartbeats 0 in
theorem all_mk {l : PySem.W.OpenLaw} {w : World} {K : PySem.W.Frag} {h : Heap} {mg : Str → Option Value} {fa f1 f2 f3 f4 f5 f6 f7 f8 f9 f10 f11 f12 f13 f14 f15 f16 f17 f18 f19 f20 f21 f22 f23 f24 : Addr} (X : K.In h) (G : h.Ns mainGlobals mg) (hfa : mg "law" = some (.ref fa))
    {od1 an1 od2 an2 od3 an3 od4 an4 od5 an5 od6 an6 od7 an7 od8 an8 od9 an9 od10 an10 od11 an11 od12 an12 od13 an13 od14 an14 od15 an15 od16 an16 od17 an17 od18 an18 od19 an19 od20 an20 od21 an21 od22 an22 od23 an23 od24 an24 : Option Addr} {sl1 sl2 sl3 sl4 sl5 sl6 sl7 sl8 sl9 sl10 sl11 sl12 sl13 sl14 sl15 sl16 sl17 sl18 sl19 sl20 sl21 sl22 sl23 sl24 : Array (Option Value)} {oc1 kV1 dc1 pm1 cd1 ct1 oc2 kV2 dc2 pm2 cd2 ct2 oc3 kV3 dc3 pm3 cd3 ct3 oc4 kV4 dc4 pm4 cd4 ct4 oc5 kV5 dc5 pm5 cd5 ct5 oc6 kV6 dc6 pm6 cd6 ct6 oc7 kV7 dc7 pm7 cd7 ct7 oc8 kV8 dc8 pm8 cd8 ct8 oc9 kV9 dc9 pm9 cd9 ct9 oc10 kV10 dc10 pm10 cd10 ct10 oc11 kV11 dc11 pm11 cd11 ct11 oc12 kV12 dc12 pm12 cd12 ct12 oc13 kV13 dc13 pm13 cd13 ct13 oc14 kV14 dc14 pm14 cd14 ct14 oc15 kV15 dc15 pm15 cd15 ct15 oc16 kV16 dc16 pm16 cd16 ct16 oc17 kV17 dc17 pm17 cd17 ct17 oc18 kV18 dc18 pm18 cd18 ct18 oc19 kV19 dc19 pm19 cd19 ct19 oc20 kV20 dc20 pm20 cd20 ct20 oc21 kV21 dc21 pm21 cd21 ct21 oc22 kV22 dc22 pm22 cd22 ct22 oc23 kV23 dc23 pm23 cd23 ct23 oc24 kV24 dc24 pm24 cd24 ct24 : Value}
    {A_AskError : Addr} (ax_AskError : PySem.W.nsIn K mainGlobals "AskError" = some (some (.ref A_AskError)))
    {A_NoDeed : Addr} (ax_NoDeed : PySem.W.nsIn K mainGlobals "NoDeed" = some (some (.ref A_NoDeed)))
    {A_NoNumber : Addr} (ax_NoNumber : PySem.W.nsIn K mainGlobals "NoNumber" = some (some (.ref A_NoNumber)))
    {A_NoRow : Addr} (ax_NoRow : PySem.W.nsIn K mainGlobals "NoRow" = some (some (.ref A_NoRow)))
    {A_NoText : Addr} (ax_NoText : PySem.W.nsIn K mainGlobals "NoText" = some (some (.ref A_NoText)))
    (ex_AskError : PySem.W.excIn K A_AskError veM "ValueError.__new__" = true)
    (ex_NoText : PySem.W.excIn K A_NoText veM "ValueError.__new__" = true)
    (u_NoText_AskError : PySem.W.mroIn K A_NoText (.ref A_AskError) = some true)
    (kk_NoText : ExcK K A_NoText)
    (q_NoText_NoDeed : PySem.W.kitOne K (.ref A_NoText) (.ref A_NoDeed) = some false)
    (q_NoText_NoNumber : PySem.W.kitOne K (.ref A_NoText) (.ref A_NoNumber) = some false)
    (q_NoText_NoRow : PySem.W.kitOne K (.ref A_NoText) (.ref A_NoRow) = some false)
    (q_NoText_NoText : PySem.W.kitOne K (.ref A_NoText) (.ref A_NoText) = some true)
    (q_NoText_ValueError : PySem.W.kitOne K (.ref A_NoText) (.type "ValueError") = some true)
    (a1 : PySem.W.nsIn K mainGlobals "written" = some (some (.ref f1))) (l1 : K.lookup f1 = some ⟨oc1, od1, .func (PySem.W.fnOf "written" "written" (defArgs (top 10)) (defBody (top 10)) (defScope (top 10)) .none kV1 dc1 pm1 an1 cd1 ct1), sl1⟩) (c1 : PySem.W.codeIn K cd1 "written" = true) (k1 : PySem.W.keepIn K (.ref f1) = true)
    (a2 : PySem.W.nsIn K mainGlobals "is_whole" = some (some (.ref f2))) (l2 : K.lookup f2 = some ⟨oc2, od2, .func (PySem.W.fnOf "is_whole" "is_whole" (defArgs (top 9)) (defBody (top 9)) (defScope (top 9)) .none kV2 dc2 pm2 an2 cd2 ct2), sl2⟩) (c2 : PySem.W.codeIn K cd2 "is_whole" = true) (k2 : PySem.W.keepIn K (.ref f2) = true)
    (a3 : PySem.W.nsIn K mainGlobals "is_end" = some (some (.ref f3))) (l3 : K.lookup f3 = some ⟨oc3, od3, .func (PySem.W.fnOf "is_end" "is_end" (defArgs (top 14)) (defBody (top 14)) (defScope (top 14)) .none kV3 dc3 pm3 an3 cd3 ct3), sl3⟩) (c3 : PySem.W.codeIn K cd3 "is_end" = true) (k3 : PySem.W.keepIn K (.ref f3) = true)
    (a4 : PySem.W.nsIn K mainGlobals "is_deed" = some (some (.ref f4))) (l4 : K.lookup f4 = some ⟨oc4, od4, .func (PySem.W.fnOf "is_deed" "is_deed" (defArgs (top 15)) (defBody (top 15)) (defScope (top 15)) .none kV4 dc4 pm4 an4 cd4 ct4), sl4⟩) (c4 : PySem.W.codeIn K cd4 "is_deed" = true) (k4 : PySem.W.keepIn K (.ref f4) = true)
    (a5 : PySem.W.nsIn K mainGlobals "need_deed" = some (some (.ref f5))) (l5 : K.lookup f5 = some ⟨oc5, od5, .func (PySem.W.fnOf "need_deed" "need_deed" (defArgs (top 16)) (defBody (top 16)) (defScope (top 16)) .none kV5 dc5 pm5 an5 cd5 ct5), sl5⟩) (c5 : PySem.W.codeIn K cd5 "need_deed" = true) (k5 : PySem.W.keepIn K (.ref f5) = true)
    (a6 : PySem.W.nsIn K mainGlobals "deed_text" = some (some (.ref f6))) (l6 : K.lookup f6 = some ⟨oc6, od6, .func (PySem.W.fnOf "deed_text" "deed_text" (defArgs (top 18)) (defBody (top 18)) (defScope (top 18)) .none kV6 dc6 pm6 an6 cd6 ct6), sl6⟩) (c6 : PySem.W.codeIn K cd6 "deed_text" = true) (k6 : PySem.W.keepIn K (.ref f6) = true)
    (a7 : PySem.W.nsIn K mainGlobals "read_whole" = some (some (.ref f7))) (l7 : K.lookup f7 = some ⟨oc7, od7, .func (PySem.W.fnOf "read_whole" "read_whole" (defArgs (top 11)) (defBody (top 11)) (defScope (top 11)) .none kV7 dc7 pm7 an7 cd7 ct7), sl7⟩) (c7 : PySem.W.codeIn K cd7 "read_whole" = true) (k7 : PySem.W.keepIn K (.ref f7) = true)
    (a8 : PySem.W.nsIn K mainGlobals "deed_by_words" = some (some (.ref f8))) (l8 : K.lookup f8 = some ⟨oc8, od8, .func (PySem.W.fnOf "deed_by_words" "deed_by_words" (defArgs (top 19)) (defBody (top 19)) (defScope (top 19)) .none kV8 dc8 pm8 an8 cd8 ct8), sl8⟩) (c8 : PySem.W.codeIn K cd8 "deed_by_words" = true) (k8 : PySem.W.keepIn K (.ref f8) = true)
    (a9 : PySem.W.nsIn K mainGlobals "read_deed" = some (some (.ref f9))) (l9 : K.lookup f9 = some ⟨oc9, od9, .func (PySem.W.fnOf "read_deed" "read_deed" (defArgs (top 20)) (defBody (top 20)) (defScope (top 20)) .none kV9 dc9 pm9 an9 cd9 ct9), sl9⟩) (c9 : PySem.W.codeIn K cd9 "read_deed" = true) (k9 : PySem.W.keepIn K (.ref f9) = true)
    (a10 : PySem.W.nsIn K mainGlobals "_law_said" = some (some (.ref f10))) (l10 : K.lookup f10 = some ⟨oc10, od10, .func (PySem.W.fnOf "_law_said" "_law_said" (defArgs (top 33)) (defBody (top 33)) (defScope (top 33)) .none kV10 dc10 pm10 an10 cd10 ct10), sl10⟩) (c10 : PySem.W.codeIn K cd10 "_law_said" = true) (k10 : PySem.W.keepIn K (.ref f10) = true)
    (a11 : PySem.W.nsIn K mainGlobals "_law_figures" = some (some (.ref f11))) (l11 : K.lookup f11 = some ⟨oc11, od11, .func (PySem.W.fnOf "_law_figures" "_law_figures" (defArgs (top 30)) (defBody (top 30)) (defScope (top 30)) .none kV11 dc11 pm11 an11 cd11 ct11), sl11⟩) (c11 : PySem.W.codeIn K cd11 "_law_figures" = true) (k11 : PySem.W.keepIn K (.ref f11) = true)
    (a12 : PySem.W.nsIn K mainGlobals "_law_parts" = some (some (.ref f12))) (l12 : K.lookup f12 = some ⟨oc12, od12, .func (PySem.W.fnOf "_law_parts" "_law_parts" (defArgs (top 31)) (defBody (top 31)) (defScope (top 31)) .none kV12 dc12 pm12 an12 cd12 ct12), sl12⟩) (c12 : PySem.W.codeIn K cd12 "_law_parts" = true) (k12 : PySem.W.keepIn K (.ref f12) = true)
    (a13 : PySem.W.nsIn K mainGlobals "_law_read" = some (some (.ref f13))) (l13 : K.lookup f13 = some ⟨oc13, od13, .func (PySem.W.fnOf "_law_read" "_law_read" (defArgs (top 32)) (defBody (top 32)) (defScope (top 32)) .none kV13 dc13 pm13 an13 cd13 ct13), sl13⟩) (c13 : PySem.W.codeIn K cd13 "_law_read" = true) (k13 : PySem.W.keepIn K (.ref f13) = true)
    (a14 : PySem.W.nsIn K mainGlobals "_law_right" = some (some (.ref f14))) (l14 : K.lookup f14 = some ⟨oc14, od14, .func (PySem.W.fnOf "_law_right" "_law_right" (defArgs (top 34)) (defBody (top 34)) (defScope (top 34)) .none kV14 dc14 pm14 an14 cd14 ct14), sl14⟩) (c14 : PySem.W.codeIn K cd14 "_law_right" = true) (k14 : PySem.W.keepIn K (.ref f14) = true)
    (a15 : PySem.W.nsIn K mainGlobals "_law_is_long" = some (some (.ref f15))) (l15 : K.lookup f15 = some ⟨oc15, od15, .func (PySem.W.fnOf "_law_is_long" "_law_is_long" (defArgs (top 35)) (defBody (top 35)) (defScope (top 35)) .none kV15 dc15 pm15 an15 cd15 ct15), sl15⟩) (c15 : PySem.W.codeIn K cd15 "_law_is_long" = true) (k15 : PySem.W.keepIn K (.ref f15) = true)
    (a16 : PySem.W.nsIn K mainGlobals "_law_take" = some (some (.ref f16))) (l16 : K.lookup f16 = some ⟨oc16, od16, .func (PySem.W.fnOf "_law_take" "_law_take" (defArgs (top 23)) (defBody (top 23)) (defScope (top 23)) .none kV16 dc16 pm16 an16 cd16 ct16), sl16⟩) (c16 : PySem.W.codeIn K cd16 "_law_take" = true) (k16 : PySem.W.keepIn K (.ref f16) = true)
    (a17 : PySem.W.nsIn K mainGlobals "_law_words_changed" = some (some (.ref f17))) (l17 : K.lookup f17 = some ⟨oc17, od17, .func (PySem.W.fnOf "_law_words_changed" "_law_words_changed" (defArgs (top 28)) (defBody (top 28)) (defScope (top 28)) .none kV17 dc17 pm17 an17 cd17 ct17), sl17⟩) (c17 : PySem.W.codeIn K cd17 "_law_words_changed" = true) (k17 : PySem.W.keepIn K (.ref f17) = true)
    (a18 : PySem.W.nsIn K mainGlobals "_law_sign" = some (some (.ref f18))) (l18 : K.lookup f18 = some ⟨oc18, od18, .func (PySem.W.fnOf "_law_sign" "_law_sign" (defArgs (top 27)) (defBody (top 27)) (defScope (top 27)) .none kV18 dc18 pm18 an18 cd18 ct18), sl18⟩) (c18 : PySem.W.codeIn K cd18 "_law_sign" = true) (k18 : PySem.W.keepIn K (.ref f18) = true)
    (a19 : PySem.W.nsIn K mainGlobals "_law_spoilt" = some (some (.ref f19))) (l19 : K.lookup f19 = some ⟨oc19, od19, .func (PySem.W.fnOf "_law_spoilt" "_law_spoilt" (defArgs (top 29)) (defBody (top 29)) (defScope (top 29)) .none kV19 dc19 pm19 an19 cd19 ct19), sl19⟩) (c19 : PySem.W.codeIn K cd19 "_law_spoilt" = true) (k19 : PySem.W.keepIn K (.ref f19) = true)
    (a20 : PySem.W.nsIn K mainGlobals "_law_text" = some (some (.ref f20))) (l20 : K.lookup f20 = some ⟨oc20, od20, .func (PySem.W.fnOf "_law_text" "_law_text" (defArgs (top 26)) (defBody (top 26)) (defScope (top 26)) .none kV20 dc20 pm20 an20 cd20 ct20), sl20⟩) (c20 : PySem.W.codeIn K cd20 "_law_text" = true) (k20 : PySem.W.keepIn K (.ref f20) = true)
    (a21 : PySem.W.nsIn K mainGlobals "_law_number" = some (some (.ref f21))) (l21 : K.lookup f21 = some ⟨oc21, od21, .func (PySem.W.fnOf "_law_number" "_law_number" (defArgs (top 24)) (defBody (top 24)) (defScope (top 24)) .none kV21 dc21 pm21 an21 cd21 ct21), sl21⟩) (c21 : PySem.W.codeIn K cd21 "_law_number" = true) (k21 : PySem.W.keepIn K (.ref f21) = true)
    (a22 : PySem.W.nsIn K mainGlobals "_law_deed" = some (some (.ref f22))) (l22 : K.lookup f22 = some ⟨oc22, od22, .func (PySem.W.fnOf "_law_deed" "_law_deed" (defArgs (top 25)) (defBody (top 25)) (defScope (top 25)) .none kV22 dc22 pm22 an22 cd22 ct22), sl22⟩) (c22 : PySem.W.codeIn K cd22 "_law_deed" = true) (k22 : PySem.W.keepIn K (.ref f22) = true)
    (a23 : PySem.W.nsIn K mainGlobals "_law_pot" = some (some (.ref f23))) (l23 : K.lookup f23 = some ⟨oc23, od23, .func (PySem.W.fnOf "_law_pot" "_law_pot" (defArgs (top 22)) (defBody (top 22)) (defScope (top 22)) .none kV23 dc23 pm23 an23 cd23 ct23), sl23⟩) (c23 : PySem.W.codeIn K cd23 "_law_pot" = true) (k23 : PySem.W.keepIn K (.ref f23) = true)
    (a24 : PySem.W.nsIn K mainGlobals "law" = some (some (.ref f24))) (l24 : K.lookup f24 = some ⟨oc24, od24, .func (PySem.W.fnOf "law" "law" (defArgs (top 36)) (defBody (top 36)) (defScope (top 36)) .none kV24 dc24 pm24 an24 cd24 ct24), sl24⟩) (c24 : PySem.W.codeIn K cd24 "law" = true) (k24 : PySem.W.keepIn K (.ref f24) = true)
    {t_AT_ONCE : Tok} (ga_AT_ONCE : PySem.W.nsIn K mainGlobals "AT_ONCE" = some (some (.int 64 t_AT_ONCE)))
    {t_LOOK : Tok}
    {a_LOOK : Addr} {v_LOOK : Array (Option Value)} {n_LOOK : Nat} {o_LOOK : Option Addr} (ga_LOOK : PySem.W.nsIn K mainGlobals "LOOK" = some (some (.ref a_LOOK))) (gl_LOOK : K.lookup a_LOOK = some ⟨.type "tuple", o_LOOK, .seq #[.int 0 t_LOOK, .none, .none] n_LOOK, v_LOOK⟩)
    {t_PIECE : Tok} (ga_PIECE : PySem.W.nsIn K mainGlobals "PIECE" = some (some (.int 10000000000000000000000000000000000000000000000000000000000000000 t_PIECE)))
    (ga_ValueError : PySem.W.nsIn K mainGlobals "ValueError" = some none)
    (ga_zip : PySem.W.nsIn K mainGlobals "zip" = some none)
    (z_abs : PySem.W.nsIn K mainGlobals "abs" = some none)
    (z_len : PySem.W.nsIn K mainGlobals "len" = some none)
    (z_max : PySem.W.nsIn K mainGlobals "max" = some none)
    (z_min : PySem.W.nsIn K mainGlobals "min" = some none)
    (z_divmod : PySem.W.nsIn K mainGlobals "divmod" = some none)
    (z_repr : PySem.W.nsIn K mainGlobals "repr" = some none)
    (z_isinstance : PySem.W.nsIn K mainGlobals "isinstance" = some none)
    (z_all : PySem.W.nsIn K mainGlobals "all" = some none)
    (z_range : PySem.W.nsIn K mainGlobals "range" = some none)
    (z_int : PySem.W.nsIn K mainGlobals "int" = some none)
    (z_bool : PySem.W.nsIn K mainGlobals "bool" = some none)
    (z_str : PySem.W.nsIn K mainGlobals "str" = some none)
    (z_tuple : PySem.W.nsIn K mainGlobals "tuple" = some none)
    (z_list : PySem.W.nsIn K mainGlobals "list" = some none)
    (z_dict : PySem.W.nsIn K mainGlobals "dict" = some none)
    :
    ∃ fd : FuncData, (∀ (s : Shared) (v : Value), BindsTo s fd ⟨[v], []⟩ [("_law_script", v)]) ∧ ∀ base : Heap, K.In base → base.Ns mainGlobals mg → FnOk l.prog w K mg base CX0 9 fa fd ["_law_script"] (sp_law K) := by
  have e := hfa.symm.trans (PySem.W.mg_of X G a24)
  cases e
  have F1 := fun_mk (st := (top 10)) l1 c1 k1
  have F2 := fun_mk (st := (top 9)) l2 c2 k2
  have F3 := fun_mk (st := (top 14)) l3 c3 k3
  have F4 := fun_mk (st := (top 15)) l4 c4 k4
  have F5 := fun_mk (st := (top 16)) l5 c5 k5
  have F6 := fun_mk (st := (top 18)) l6 c6 k6
  have F7 := fun_mk (st := (top 11)) l7 c7 k7
  have F8 := fun_mk (st := (top 19)) l8 c8 k8
  have F9 := fun_mk (st := (top 20)) l9 c9 k9
  have F10 := fun_mk (st := (top 33)) l10 c10 k10
  have F11 := fun_mk (st := (top 30)) l11 c11 k11
  have F12 := fun_mk (st := (top 31)) l12 c12 k12
  have F13 := fun_mk (st := (top 32)) l13 c13 k13
  have F14 := fun_mk (st := (top 34)) l14 c14 k14
  have F15 := fun_mk (st := (top 35)) l15 c15 k15
  have F16 := fun_mk (st := (top 23)) l16 c16 k16
  have F17 := fun_mk (st := (top 28)) l17 c17 k17
  have F18 := fun_mk (st := (top 27)) l18 c18 k18
  have F19 := fun_mk (st := (top 29)) l19 c19 k19
  have F20 := fun_mk (st := (top 26)) l20 c20 k20
  have F21 := fun_mk (st := (top 24)) l21 c21 k21
  have F22 := fun_mk (st := (top 25)) l22 c22 k22
  have F23 := fun_mk (st := (top 22)) l23 c23 k23
  have F24 := fun_mk (st := (top 36)) l24 c24 k24
  have b1 := F1.binds (ps := ["number"]) fun _ _ _ _ _ _ us hl => by obtain ⟨_, rfl⟩ := my_len1 hl; rfl
  have b2 := F2.binds (ps := ["thing"]) fun _ _ _ _ _ _ us hl => by obtain ⟨_, rfl⟩ := my_len1 hl; rfl
  have b3 := F3.binds (ps := ["thing"]) fun _ _ _ _ _ _ us hl => by obtain ⟨_, rfl⟩ := my_len1 hl; rfl
  have b4 := F4.binds (ps := ["thing"]) fun _ _ _ _ _ _ us hl => by obtain ⟨_, rfl⟩ := my_len1 hl; rfl
  have b5 := F5.binds (ps := ["thing"]) fun _ _ _ _ _ _ us hl => by obtain ⟨_, rfl⟩ := my_len1 hl; rfl
  have b6 := F6.binds (ps := ["deed"]) fun _ _ _ _ _ _ us hl => by obtain ⟨_, rfl⟩ := my_len1 hl; rfl
  have b7 := F7.binds (ps := ["word"]) fun _ _ _ _ _ _ us hl => by obtain ⟨_, rfl⟩ := my_len1 hl; rfl
  have b8 := F8.binds (ps := ["words"]) fun _ _ _ _ _ _ us hl => by obtain ⟨_, rfl⟩ := my_len1 hl; rfl
  have b9 := F9.binds (ps := ["text"]) fun _ _ _ _ _ _ us hl => by obtain ⟨_, rfl⟩ := my_len1 hl; rfl
  have b10 := F10.binds (ps := ["_law_text_here"]) fun _ _ _ _ _ _ us hl => by obtain ⟨_, rfl⟩ := my_len1 hl; rfl
  have b11 := F11.binds (ps := ["_law_word"]) fun _ _ _ _ _ _ us hl => by obtain ⟨_, rfl⟩ := my_len1 hl; rfl
  have b12 := F12.binds (ps := ["_law_row"]) fun _ _ _ _ _ _ us hl => by obtain ⟨_, rfl⟩ := my_len1 hl; rfl
  have b13 := F13.binds (ps := ["_law_text_here"]) fun _ _ _ _ _ _ us hl => by obtain ⟨_, rfl⟩ := my_len1 hl; rfl
  have b14 := F14.binds (ps := ["_law_text_here"]) fun _ _ _ _ _ _ us hl => by obtain ⟨_, rfl⟩ := my_len1 hl; rfl
  have b15 := F15.binds (ps := ["_law_text_here"]) fun _ _ _ _ _ _ us hl => by obtain ⟨_, rfl⟩ := my_len1 hl; rfl
  have b16 := F16.binds (ps := ["_law_pot_here", "_law_many"]) fun _ _ _ _ _ _ us hl => by obtain ⟨_, _, rfl⟩ := my_len2 hl; rfl
  have b17 := F17.binds (ps := ["_law_pot_here", "_law_text_here"]) fun _ _ _ _ _ _ us hl => by obtain ⟨_, _, rfl⟩ := my_len2 hl; rfl
  have b18 := F18.binds (ps := ["_law_pot_here"]) fun _ _ _ _ _ _ us hl => by obtain ⟨_, rfl⟩ := my_len1 hl; rfl
  have b19 := F19.binds (ps := ["_law_pot_here", "_law_text_here"]) fun _ _ _ _ _ _ us hl => by obtain ⟨_, _, rfl⟩ := my_len2 hl; rfl
  have b20 := F20.binds (ps := ["_law_deed_here"]) fun _ _ _ _ _ _ us hl => by obtain ⟨_, rfl⟩ := my_len1 hl; rfl
  have b21 := F21.binds (ps := ["_law_pot_here"]) fun _ _ _ _ _ _ us hl => by obtain ⟨_, rfl⟩ := my_len1 hl; rfl
  have b22 := F22.binds (ps := ["_law_pot_here"]) fun _ _ _ _ _ _ us hl => by obtain ⟨_, rfl⟩ := my_len1 hl; rfl
  have b23 := F23.binds (ps := ["_law_script", "_law_k"]) fun _ _ _ _ _ _ us hl => by obtain ⟨_, _, rfl⟩ := my_len2 hl; rfl
  have x_AskError : ExcC K mg "AskError" A_AskError := excC_of (PySem.W.mg_of X G ax_AskError) ex_AskError
  have x_NoText : ExcC K mg "NoText" A_NoText := excC_of (PySem.W.mg_of X G ax_NoText) ex_NoText
  have v_AskError : mg "AskError" = some (.ref A_AskError) := PySem.W.mg_of X G ax_AskError
  have v_NoDeed : mg "NoDeed" = some (.ref A_NoDeed) := PySem.W.mg_of X G ax_NoDeed
  have v_NoNumber : mg "NoNumber" = some (.ref A_NoNumber) := PySem.W.mg_of X G ax_NoNumber
  have v_NoRow : mg "NoRow" = some (.ref A_NoRow) := PySem.W.mg_of X G ax_NoRow
  have v_NoText : mg "NoText" = some (.ref A_NoText) := PySem.W.mg_of X G ax_NoText
  have k_NoText := kk_NoText
  have B : Blt mg := ⟨PySem.W.mg_none_of X G z_abs, PySem.W.mg_none_of X G z_len, PySem.W.mg_none_of X G z_max, PySem.W.mg_none_of X G z_min, PySem.W.mg_none_of X G z_divmod, PySem.W.mg_none_of X G z_repr, PySem.W.mg_none_of X G z_isinstance, PySem.W.mg_none_of X G z_all, PySem.W.mg_none_of X G z_range, PySem.W.mg_none_of X G z_int, PySem.W.mg_none_of X G z_bool, PySem.W.mg_none_of X G z_str, PySem.W.mg_none_of X G z_tuple, PySem.W.mg_none_of X G z_list, PySem.W.mg_none_of X G z_dict⟩
  refine ⟨PySem.W.fnOf "law" "law" (defArgs (top 36)) (defBody (top 36)) (defScope (top 36)) .none kV24 dc24 pm24 an24 cd24 ct24, fun s v => .of_eq rfl, fun base _ _ => ?_⟩
  have C1 : Callee l.prog w K mg base 1 "written" ["number"] (sp_written K) := ⟨_, _, ok_written (P := l.prog) (w := w) (base := base) (n := 0) F1 B     (PySem.W.mg_of X G ga_PIECE) , b1, k1, PySem.W.mg_of X G a1⟩
  have C2 : Callee l.prog w K mg base 1 "is_whole" ["thing"] (sp_is_whole K) := ⟨_, _, ok_is_whole (P := l.prog) (w := w) (base := base) (n := 0) F2 B      , b2, k2, PySem.W.mg_of X G a2⟩
  have C3 : Callee l.prog w K mg base 2 "is_end" ["thing"] (sp_is_end K) := ⟨_, _, ok_is_end (P := l.prog) (w := w) (base := base) (n := 1) F3 B   (C2.mono (by decide))   , b3, k3, PySem.W.mg_of X G a3⟩
  have C4 : Callee l.prog w K mg base 3 "is_deed" ["thing"] (sp_is_deed K) := ⟨_, _, ok_is_deed (P := l.prog) (w := w) (base := base) (n := 2) F4 B   (C3.mono (by decide)) (C2.mono (by decide))   , b4, k4, PySem.W.mg_of X G a4⟩
  have C5 : Callee l.prog w K mg base 4 "need_deed" ["thing"] (sp_need_deed K) := ⟨_, _, ok_need_deed (P := l.prog) (w := w) (base := base) (n := 3) F5 B   (C4.mono (by decide))   , b5, k5, PySem.W.mg_of X G a5⟩
  have C6 : Callee l.prog w K mg base 5 "deed_text" ["deed"] (sp_dtext K) := ⟨_, _, ok_deed_text (P := l.prog) (w := w) (base := base) (n := 4) F6 B   (C1.mono (by decide)) (C5.mono (by decide))   (PySem.W.mg_of X G ga_LOOK) (fun H => .inr ⟨_, _, _, gl_LOOK, rfl, rfl, szl rfl, .cons ⟨_, rfl⟩ (.cons rfl (.cons rfl .nil))⟩), b6, k6, PySem.W.mg_of X G a6⟩
  have C7 : Callee l.prog w K mg base 1 "read_whole" ["word"] (sp_readW19 K) := ⟨_, _, ok_read_whole (P := l.prog) (w := w) (base := base) (n := 0) F7 B     (PySem.W.mg_of X G ga_AT_ONCE) , b7, k7, PySem.W.mg_of X G a7⟩
  have C8 : Callee l.prog w K mg base 2 "deed_by_words" ["words"] (sp_byw19 K) := ⟨_, _, ok_deed_by_words (P := l.prog) (w := w) (base := base) (n := 1) F8 B   (C7.mono (by decide)) (PySem.W.mg_none_of X G ga_zip)  , b8, k8, PySem.W.mg_of X G a8⟩
  have C9 : CalleeX l.prog w K mg base 6 "read_deed" ["text"] (sp_readD19 A_NoText K) := ⟨_, _, ok_read_deed (P := l.prog) (w := w) (base := base) (n := 5) F9 B x_NoText  (C6.mono (by decide)) (C4.mono (by decide)) (C8.mono (by decide))   (PySem.W.mg_of X G ga_LOOK) (fun H => .inr ⟨_, _, _, gl_LOOK, rfl, rfl, szl rfl, .cons ⟨_, rfl⟩ (.cons rfl (.cons rfl .nil))⟩), b9, k9, PySem.W.mg_of X G a9⟩
  have C10 : Callee l.prog w K mg base 7 "_law_said" ["_law_text_here"] (sp_said19 K) := ⟨_, _, ok__law_said (P := l.prog) (w := w) (base := base) (n := 6) F10 B x_AskError x_NoText v_NoText v_NoRow v_NoNumber v_NoDeed u_NoText_AskError k_NoText q_NoText_NoDeed q_NoText_NoNumber q_NoText_NoRow q_NoText_ValueError q_NoText_NoText (C9.mono (by decide)) (PySem.W.mg_none_of X G ga_ValueError)  , b10, k10, PySem.W.mg_of X G a10⟩
  have C11 : Callee l.prog w K mg base 1 "_law_figures" ["_law_word"] (sp_fig19 K) := ⟨_, _, ok__law_figures (P := l.prog) (w := w) (base := base) (n := 0) F11 B      , b11, k11, PySem.W.mg_of X G a11⟩
  have C12 : Callee l.prog w K mg base 2 "_law_parts" ["_law_row"] (sp_parts19 K) := ⟨_, _, ok__law_parts (P := l.prog) (w := w) (base := base) (n := 1) F12 B   (C11.mono (by decide))   , b12, k12, PySem.W.mg_of X G a12⟩
  have C13 : Callee l.prog w K mg base 3 "_law_read" ["_law_text_here"] (sp_read19 K) := ⟨_, _, ok__law_read (P := l.prog) (w := w) (base := base) (n := 2) F13 B   (C12.mono (by decide)) (C11.mono (by decide))   , b13, k13, PySem.W.mg_of X G a13⟩
  have C14 : Callee l.prog w K mg base 8 "_law_right" ["_law_text_here"] (sp_right19 K) := ⟨_, _, ok__law_right (P := l.prog) (w := w) (base := base) (n := 7) F14 B   (C6.mono (by decide)) (C10.mono (by decide)) (C13.mono (by decide))   , b14, k14, PySem.W.mg_of X G a14⟩
  have C15 : Callee l.prog w K mg base 1 "_law_is_long" ["_law_text_here"] (sp_long19 K) := ⟨_, _, ok__law_is_long (P := l.prog) (w := w) (base := base) (n := 0) F15 B      , b15, k15, PySem.W.mg_of X G a15⟩
  have C16 : Callee l.prog w K mg base 1 "_law_take" ["_law_pot_here", "_law_many"] (sp_take K) := ⟨_, _, ok__law_take (P := l.prog) (w := w) (base := base) (n := 0) F16 B      , b16, k16, PySem.W.mg_of X G a16⟩
  have C17 : Callee l.prog w K mg base 2 "_law_words_changed" ["_law_pot_here", "_law_text_here"] (sp_wch19 K) := ⟨_, _, ok__law_words_changed (P := l.prog) (w := w) (base := base) (n := 1) F17 B   (C16.mono (by decide))   , b17, k17, PySem.W.mg_of X G a17⟩
  have C18 : Callee l.prog w K mg base 2 "_law_sign" ["_law_pot_here"] (sp_sign19 K) := ⟨_, _, ok__law_sign (P := l.prog) (w := w) (base := base) (n := 1) F18 B   (C16.mono (by decide))   , b18, k18, PySem.W.mg_of X G a18⟩
  have C19 : Callee l.prog w K mg base 3 "_law_spoilt" ["_law_pot_here", "_law_text_here"] (sp_spoilt19 K) := ⟨_, _, ok__law_spoilt (P := l.prog) (w := w) (base := base) (n := 2) F19 B   (C16.mono (by decide)) (C17.mono (by decide)) (C18.mono (by decide))   , b19, k19, PySem.W.mg_of X G a19⟩
  have C20 : Callee l.prog w K mg base 1 "_law_text" ["_law_deed_here"] (sp_dtext K) := ⟨_, _, ok__law_text (P := l.prog) (w := w) (base := base) (n := 0) F20 B      , b20, k20, PySem.W.mg_of X G a20⟩
  have C21 : Callee l.prog w K mg base 2 "_law_number" ["_law_pot_here"] (sp_number K) := ⟨_, _, ok__law_number (P := l.prog) (w := w) (base := base) (n := 1) F21 B   (C16.mono (by decide))   , b21, k21, PySem.W.mg_of X G a21⟩
  have C22 : Callee l.prog w K mg base 3 "_law_deed" ["_law_pot_here"] (sp_deed K) := ⟨_, _, ok__law_deed (P := l.prog) (w := w) (base := base) (n := 2) F22 B   (C21.mono (by decide)) (C16.mono (by decide))   , b22, k22, PySem.W.mg_of X G a22⟩
  have C23 : Callee l.prog w K mg base 1 "_law_pot" ["_law_script", "_law_k"] (sp_pot K) := ⟨_, _, ok__law_pot (P := l.prog) (w := w) (base := base) (n := 0) F23 B      , b23, k23, PySem.W.mg_of X G a23⟩
  exact ok_law (P := l.prog) (w := w) (base := base) (n := 8) F24 B   (C14.mono (by decide)) (C15.mono (by decide)) (C19.mono (by decide)) (C20.mono (by decide)) (C22.mono (by decide)) (C16.mono (by decide)) (C23.mono (by decide))   
theorem walk {l : PySem.W.OpenLaw} {q : Program} {loose : List Str} {XP : (Str → Option Value) → Heap → Prop} {YP : World → Heap → Prop} {d : DefRec} {K : Params → PySem.W.Frag} (hn : l.most = some 63) (hdf : d.params.defaults = [])
    (hY : ∀ (w : World) (h : Heap), YP w h → (K w.params).In h)
    (F : ∀ (w : World) (mg : Str → Option Value) (fa : Addr) (h : Heap), (K w.params).In h → h.Ns mainGlobals mg → mg d.name = some (.ref fa) →
      ∃ fd : FuncData, (∀ (s : Shared) (u : Value), BindsTo s fd ⟨[u], []⟩ [("_law_script", u)]) ∧ ∀ base : Heap, (K w.params).In base → base.Ns mainGlobals mg → FnOk l.prog w (K w.params) mg base CX0 9 fa fd ["_law_script"] (sp_law (K w.params))) :
    PySem.W.WalkO q loose XP YP l.row.toRowW d [] (fun f vs => PySem.call f vs) :=
  L2.walk_of (n := 63) (k := 9) (x := "_law_script") (CX := fun _ => CX0) (sp := fun w => sp_law (K w.params)) hn (by decide) hdf ⟨rfl, by decide, by decide, rfl⟩ hY F (fun _ _ a ns hl hO hS => ⟨_, rfl, a, ns, rfl, Scr.of hO hS, hl, fun _ => rfl⟩) fun _ _ _ _ _ z => z
theorem walkX {q : Program} {loose : List Str} {XP : (Str → Option Value) → Heap → Prop} {K : Params → PySem.W.Frag} {as : List Addr} {n t : Nat} {r : PySem.W.RowW} {d : DefRec} {kwd : List (Str × Expr)} {run : Value → List Value → Sem Value}
    (e : ∀ P, as = (K P).map (·.1)) (W : PySem.W.WalkO q loose XP (PySem.W.InK K) r d kwd run) : PySem.W.WalkX q loose XP (PySem.W.X.obsZ as) (PySem.W.X.valZ K n t) r d kwd run :=
  fun w s₀ s₁ mg mb G Y a o pm cd doc dV kV h2 h3 h4 h5 h6 h7 args vals as' L hpre hlay hrd hwl hlo =>
    W w s₀ s₁ mg mb G (PySem.W.InK.keeps w s₀.heap s₁.heap (PySem.W.X.z_facts e Y).2.1 L.keeps) a o pm cd doc dV kV h2 h3 h4 h5 h6 h7 args vals as' hpre hlay hrd hwl hlo
end My
open PySem PySem.W PyProof.Rows
set_option maxRecDepth 100000 in
set_option maxHeartbeats 0 in
theorem PySem.Challenge.cw_joinedasks_k19_whole_texts_spoilt_holds : PySem.Challenge.rw_joinedasks_k19_whole_texts_spoilt.Holds := by
  w_on; o_law; z_head; (case hw => w_witness2)
  refine My.walkX (fun _ => by kernel_rfl) (My.walk (l := PySem.Challenge.rw_joinedasks_k19_whole_texts_spoilt) rfl rfl (fun w h Y => Y) ?F)
  case F =>
    intro w mg fa h KX G hmg
    refine' My.all_mk KX G hmg  ?ax_AskError ?ax_NoDeed ?ax_NoNumber ?ax_NoRow ?ax_NoText ?ex_AskError ?ex_NoText ?u_NoText_AskError ?kk_NoText ?q_NoText_NoDeed ?q_NoText_NoNumber ?q_NoText_NoRow ?q_NoText_NoText ?q_NoText_ValueError ?a1 ?l1 ?c1 ?k1 ?a2 ?l2 ?c2 ?k2 ?a3 ?l3 ?c3 ?k3 ?a4 ?l4 ?c4 ?k4 ?a5 ?l5 ?c5 ?k5 ?a6 ?l6 ?c6 ?k6 ?a7 ?l7 ?c7 ?k7 ?a8 ?l8 ?c8 ?k8 ?a9 ?l9 ?c9 ?k9 ?a10 ?l10 ?c10 ?k10 ?a11 ?l11 ?c11 ?k11 ?a12 ?l12 ?c12 ?k12 ?a13 ?l13 ?c13 ?k13 ?a14 ?l14 ?c14 ?k14 ?a15 ?l15 ?c15 ?k15 ?a16 ?l16 ?c16 ?k16 ?a17 ?l17 ?c17 ?k17 ?a18 ?l18 ?c18 ?k18 ?a19 ?l19 ?c19 ?k19 ?a20 ?l20 ?c20 ?k20 ?a21 ?l21 ?c21 ?k21 ?a22 ?l22 ?c22 ?k22 ?a23 ?l23 ?c23 ?k23 ?a24 ?l24 ?c24 ?k24 ?ga_AT_ONCE ?ga_LOOK ?gl_LOOK ?ga_PIECE ?ga_ValueError ?ga_zip ?z_abs ?z_len ?z_max ?z_min ?z_divmod ?z_repr ?z_isinstance ?z_all ?z_range ?z_int ?z_bool ?z_str ?z_tuple ?z_list ?z_dict
    (case ax_AskError => k_is)
    (case ax_NoDeed => k_is)
    (case ax_NoNumber => k_is)
    (case ax_NoRow => k_is)
    (case ax_NoText => k_is)
    (case ex_AskError => kernel_rfl)
    (case ex_NoText => kernel_rfl)
    (case u_NoText_AskError => kernel_rfl)
    (case kk_NoText => exact ⟨by kernel_rfl, by kernel_rfl, by kernel_rfl, by kernel_rfl, by kernel_rfl⟩)
    (case q_NoText_NoDeed => kernel_rfl)
    (case q_NoText_NoNumber => kernel_rfl)
    (case q_NoText_NoRow => kernel_rfl)
    (case q_NoText_NoText => kernel_rfl)
    (case q_NoText_ValueError => kernel_rfl)
    (case a1 => k_is); (case l1 => k_is); (case c1 => k_is); (case k1 => k_is)
    (case a2 => k_is); (case l2 => k_is); (case c2 => k_is); (case k2 => k_is)
    (case a3 => k_is); (case l3 => k_is); (case c3 => k_is); (case k3 => k_is)
    (case a4 => k_is); (case l4 => k_is); (case c4 => k_is); (case k4 => k_is)
    (case a5 => k_is); (case l5 => k_is); (case c5 => k_is); (case k5 => k_is)
    (case a6 => k_is); (case l6 => k_is); (case c6 => k_is); (case k6 => k_is)
    (case a7 => k_is); (case l7 => k_is); (case c7 => k_is); (case k7 => k_is)
    (case a8 => k_is); (case l8 => k_is); (case c8 => k_is); (case k8 => k_is)
    (case a9 => k_is); (case l9 => k_is); (case c9 => k_is); (case k9 => k_is)
    (case a10 => k_is); (case l10 => k_is); (case c10 => k_is); (case k10 => k_is)
    (case a11 => k_is); (case l11 => k_is); (case c11 => k_is); (case k11 => k_is)
    (case a12 => k_is); (case l12 => k_is); (case c12 => k_is); (case k12 => k_is)
    (case a13 => k_is); (case l13 => k_is); (case c13 => k_is); (case k13 => k_is)
    (case a14 => k_is); (case l14 => k_is); (case c14 => k_is); (case k14 => k_is)
    (case a15 => k_is); (case l15 => k_is); (case c15 => k_is); (case k15 => k_is)
    (case a16 => k_is); (case l16 => k_is); (case c16 => k_is); (case k16 => k_is)
    (case a17 => k_is); (case l17 => k_is); (case c17 => k_is); (case k17 => k_is)
    (case a18 => k_is); (case l18 => k_is); (case c18 => k_is); (case k18 => k_is)
    (case a19 => k_is); (case l19 => k_is); (case c19 => k_is); (case k19 => k_is)
    (case a20 => k_is); (case l20 => k_is); (case c20 => k_is); (case k20 => k_is)
    (case a21 => k_is); (case l21 => k_is); (case c21 => k_is); (case k21 => k_is)
    (case a22 => k_is); (case l22 => k_is); (case c22 => k_is); (case k22 => k_is)
    (case a23 => k_is); (case l23 => k_is); (case c23 => k_is); (case k23 => k_is)
    (case a24 => k_is); (case l24 => k_is); (case c24 => k_is); (case k24 => k_is)
    (case ga_AT_ONCE => k_is)
    (case ga_LOOK => k_is); (case gl_LOOK => k_is)
    (case ga_PIECE => k_is)
    (case ga_ValueError => k_is)
    (case ga_zip => k_is)
    (case z_abs => k_is); (case z_len => k_is); (case z_max => k_is); (case z_min => k_is); (case z_divmod => k_is); (case z_repr => k_is); (case z_isinstance => k_is); (case z_all => k_is); (case z_range => k_is); (case z_int => k_is); (case z_bool => k_is); (case z_str => k_is); (case z_tuple => k_is); (case z_list => k_is); (case z_dict => k_is)
