import PyProof.Rows.All
import Wide.All
import OpenK.AllK
import Wide.FinOn
import Lean
import PyProof.EqAt
import PyProof.EqKinds
import PyProof.TupleCall
import PyProof.NeKinds
import PyProof.ReprRoads
import PyProof.ReprLen
import PyProof.Rows.RegStrFacts
import PyProof.Draws
import PyProof.EnumStmt
import PyProof.ZipIter
import PyProof.ListNew
import PyProof.TupleOfGen
import PyProof.ListRange
import PyProof.Rows.Range3
import PyProof.SumWalkG
import PyProof.Rows.RuleB_lshift
import PyProof.AutoSeq1
import PyProof.Cells
import PyProof.AutoListH
import PyProof.DictTable
import PyProof.RulesAs
import PyProof.NsDelKeeps
import KE.KDictList
import PyProof.DictCompW
import PyProof.DictItems
import PyProof.Rows.SetFrom
import PyProof.SetRoads
import PyProof.IsiH_list
import PyProof.AttrMiss
import KE.KDictOf
import KE.KSortTup
import PyProof.DictWalks
import PyProof.Rows.CallKw2
import PyProof.DictUpdate
import PySem.Challenge.RW_joinedasks_k55_room_and_kept
set_option Elab.async false
set_option linter.all false
set_option maxRecDepth 100000
set_option maxHeartbeats 0
abbrev FG7:=PySem.W.Frag
abbrev VS7:=PySem.Value -> PySem.Shared -> Prop
namespace L2
open PySem PySem.Spec PyProof.Rows
abbrev Key:=Sum Int Str
def ZL:Key -> Value -> Bool
 | .inl k,v=>Value.isInt k v
 | .inr x,v=>Value.isStrOf x v
def keyH (w:World):Key -> Int
 | .inl k=>hashInt k
 | .inr x=>hashStr w x
theorem yb:∀ {k:Key} {v:Value},ZL k v = true -> (∃ i t,k = Sum.inl i /\ v = Value.int i t) \/ (∃ x t,k = Sum.inr x /\ v = Value.str x t)
 | .inl i,v,h=>by
  obtain ⟨t,e⟩:=Value.isInt_shape (k:=i) (v:=v) h
  exact .inl ⟨i,t,rfl,e⟩
 | .inr x,v,h=>by
  obtain ⟨t,e⟩:=Value.isStrOf_shape (x:=x) (v:=v) h
  exact .inr ⟨x,t,rfl,e⟩
theorem Yz (i:Int) (t:Tok):ZL (.inl i) (.int i t) = true:=by simp [ZL,Value.isInt]
theorem YA (x:Str) (t:Tok):ZL (.inr x) (.str x t) = true:=by simp [ZL,Value.isStrOf]
theorem Us (a b:Int):decide ((Sum.inl a:Key) = Sum.inl b) = (a == b):=by
 by_cases e:a = b
 ·subst e; simp
 ·have h:¬ (Sum.inl a:Key) = Sum.inl b:=fun q=>e (Sum.inl.inj q)
  rw [decide_eq_false h]
  exact (beq_eq_false_iff_ne.mpr e).symm
theorem Ut (a b:Str):decide ((Sum.inr a:Key) = Sum.inr b) = decide (a = b):=by
 by_cases e:a = b
 ·subst e; simp
 ·have h:¬ (Sum.inr a:Key) = Sum.inr b:=fun q=>e (Sum.inr.inj q)
  rw [decide_eq_false h,decide_eq_false e]
theorem Uu (a:Int) (b:Str):decide ((Sum.inl a:Key) = Sum.inr b) = false:=decide_eq_false (fun q=>nomatch q)
theorem Uv (a:Str) (b:Int):decide ((Sum.inr a:Key) = Sum.inl b) = false:=decide_eq_false (fun q=>nomatch q)
def zM (prog:Program) (w:World):PySem.KeyKind prog w Key where
 is:=ZL
 hash:=keyH w
 inj:=fun v a b ha hb=>by
  rcases yb ha with ⟨i,t,rfl,rfl⟩ | ⟨x,t,rfl,rfl⟩
  ·rcases yb hb with ⟨j,u,rfl,e⟩ | ⟨y,u,rfl,e⟩
   ·injection e with e1 _; rw [e1]
   ·exact nomatch e
  ·rcases yb hb with ⟨j,u,rfl,e⟩ | ⟨y,u,rfl,e⟩
   ·exact nomatch e
   ·injection e with e1 _; rw [e1]
 byValue:=fun k v h=>by
  rcases yb h with ⟨i,t,rfl,rfl⟩ | ⟨x,t,rfl,rfl⟩ <;> rfl
 pyHash:=fun hv h=>by
  rcases yb hv with ⟨i,t,rfl,rfl⟩ | ⟨x,t,rfl,rfl⟩
  ·exact wpAny_pyHash_int h
  ·exact wpAny_pyHash_str h
 eqBool:=fun hu hv h=>by
  rcases yb hu with ⟨i,t,rfl,rfl⟩ | ⟨x,t,rfl,rfl⟩
  ·rcases yb hv with ⟨j,u,rfl,rfl⟩ | ⟨y,u,rfl,rfl⟩
   ·rw [Us] at h; exact wpAny_eqBool_int h
   ·rw [Uu] at h; exact SeqAt.EqAt.int_str i t y u _ _ _ _ h
  ·rcases yb hv with ⟨j,u,rfl,rfl⟩ | ⟨y,u,rfl,rfl⟩
   ·rw [Uv] at h; exact SeqAt.EqAt.str_int x t j u _ _ _ _ h
   ·rw [Ut] at h; exact wpAny_eqBool_str h
 «strs»:=fun k x t v h=>by
  rcases yb h with ⟨i,u,rfl,e⟩ | ⟨y,u,rfl,e⟩
  ·exact nomatch e
  ·injection e with e1 _
   subst e1
   cases v <;> rfl
theorem je (prog:Program) (w:World) (i:Int) (t:Tok):(zM prog w).is (.inl i) (.int i t) = true:=Yz i t
theorem jf (prog:Program) (w:World) (x:Str) (t:Tok):(zM prog w).is (.inr x) (.str x t) = true:=YA x t
end L2
namespace L2
open PySem PySem.Spec PyProof.Rows
inductive V where
 | non | bl (b:Bool) | int (i:Int) | str (x:Str) | byt (b:Array UInt8) | flt (b:UInt64) | ref (a:Addr) | ty (n:String)
 deriving DecidableEq
def RelV:V -> Value -> Prop
 | .non,u=>u = Value.none
 | .bl b,u=>u = Value.bool b
 | .int i,u=>∃ t,u = Value.int i t
 | .str x,u=>∃ t,u = Value.str x t
 | .byt b,u=>∃ t,u = Value.bytes b t
 | .flt b,u=>∃ t,u = Value.float b t
 | .ref a,u=>u = Value.ref a
 | .ty n,u=>u = Value.type n
abbrev Vals:List V -> List Value -> Prop:=Paired RelV
theorem Vals.length {xs:List V} {us:List Value} (r:Vals xs us):xs.length = us.length:=Paired.length r
theorem Vals.get:∀ {xs:List V} {us:List Value} {i:Nat} {x:V},Vals xs us -> xs[i]? = some x -> ∃ u,us[i]? = some u /\ RelV x u
 | _,_,_,_,.nil,e=>by simp at e
 | _,_,0,_,.cons r _,e=>by simp at e; subst e; exact ⟨_,rfl,r⟩
 | _,_,i + 1,x,.cons _ t,e=>by
  obtain ⟨u,h1,h2⟩:=Vals.get (i:=i) (x:=x) t (by simpa using e)
  exact ⟨u,by simpa using h1,h2⟩
theorem Vals.set {x:V} {u:Value} (r:RelV x u):∀ {xs:List V} {us:List Value} (i:Nat),Vals xs us -> Vals (xs.set i x) (us.set i u)
 | _,_,_,.nil=>.nil
 | _,_,0,.cons _ t=>.cons r t
 | _,_,i + 1,.cons q t=>.cons q (Vals.set r i t)
theorem Vals.append:∀ {xs ys:List V} {us ws:List Value},Vals xs us -> Vals ys ws -> Vals (xs ++ ys) (us ++ ws)
 | _,_,_,_,.nil,s=>s
 | _,_,_,_,.cons r t,s=>.cons r (Vals.append t s)
theorem Vals.take:∀ {xs:List V} {us:List Value} (n:Nat),Vals xs us -> Vals (xs.take n) (us.take n)
 | _,_,0,_=>.nil
 | _,_,_ + 1,.nil=>.nil
 | _,_,n + 1,.cons r t=>.cons r (Vals.take n t)
theorem Vals.drop:∀ {xs:List V} {us:List Value} (n:Nat),Vals xs us -> Vals (xs.drop n) (us.drop n)
 | _,_,0,r=>r
 | _,_,_ + 1,.nil=>.nil
 | _,_,n + 1,.cons _ t=>Vals.drop n t
def RelO:Option V -> Option Value -> Prop
 | some v,some u=>RelV v u
 | none,none=>True
 | _,_=>False
def KV {κ:Type}:List (κ × V) -> List (κ × Value) -> Prop:=Paired fun (p:κ × V) (q:κ × Value)=>p.1 = q.1 /\ RelV p.2 q.2
def kV:Key -> V
 | .inl i=>.int i
 | .inr x=>.str x
inductive HO where
 /-- a list -/
 | lst (xs:List V)
 /-- a tuple (never changes) -/
 | tup (xs:List V)
 /-- a dict whose keys are ints and texts; one whose keys are tuples of ints and texts (the empty one is both) -/
 | dK (kvs:List (Key × V)) | dT (kvs:List (List Key × V))
 /-- a set of ints: its members,its size -/
 | set (S:Int -> Bool) (n:Nat)
 /-- an instance of the class at C,its dict at dx,its attributes -/
 | ins (C dx:Addr) (fs:List (Str × V))
 /-- the dict of the instance at x -/
 | own (x:Addr)
 /-- the dict of an exception -/
 | xd (fs:List (Str × V))
 /-- a bound method,f of x -/
 | met (f x:Addr)
 /-- a range object lo,lo + 1,.. below hi -/
 | rng (lo hi:Int)
 /-- a thing that is known to the object (the script; a dict while a loop walks it): read,never written while it is so -/
 | frz (o:Obj) (u:HO)
 /-- a code object's table -/
 | tbl (ps:Array Value)
 /-- any other thing,by what is true of its one object (a def of one's own: SetO a S n:=HO.ext fun h=>..) -/
 | ext (φ:Heap -> Prop)
abbrev Hp:=Addr -> Option HO
def upd (H:Hp) (a:Addr) (o:HO):Hp:=fun b=>if b = a then some o else H b
theorem zd {H:Hp} {a:Addr} {o:HO}:upd H a o a = some o:=by unfold upd; rw [if_pos rfl]
theorem zu {H:Hp} {a b:Addr} {o:HO} (h:b ≠ a):upd H a o b = H b:=by unfold upd; rw [if_neg h]
theorem Tr {H:Hp} {a b:Addr} {o u:HO} (h:H a = some o) (h':H b = some u) (d:o ≠ u):a ≠ b:=by
 intro e; subst e; rw [h] at h'; exact d (Option.some.inj h')
theorem zA {H:Hp} {a b:Addr} {o:HO} (h:H a = some o) (h':H b = none):a ≠ b:=by
 intro e; subst e; rw [h] at h'; cases h'
section
variable (P:Program) (w:World)
def yj (H:Hp) (h:Heap) (a:Addr):HO -> Prop
 | .lst xs=>xs.length <= sizeLine /\ ∃ (its:List Value) (n:Nat),Vals xs its /\ h.get? a = some { cls:=.type "list",data:=.seq its.toArray n }
 | .tup xs=>xs.length <= sizeLine /\ ∃ its:List Value,Vals xs its /\ IsTup h a its.toArray
 | .dK kvs=>kvs.length <= sizeLine /\ (a == sysModules) = false /\ ∃ vs,KV kvs vs /\ h.DictOf (zM P w) a vs
 | .dT kvs=>kvs.length <= sizeLine /\ (a == sysModules) = false /\ ∃ xs:List (List Key × Addr × Value),
   Paired (fun (p:List Key × V) (q:List Key × Addr × Value)=>p.1 = q.1 /\ H q.2.1 = some (.tup (p.1.map kV)) /\ RelV p.2 q.2.2) kvs xs ∧
   ∃ o es ep,h.get? a = some o /\ o.ExactDict /\ o.data = .dict es ep /\ es.toList = xs.map (entryOfKey (tupleKind (zM P w))) /\ (xs.map (·.1)).Nodup
 | .set S n=>h.SetOf (intKind P w) a S n
 | .ins C dx fs=>H dx = some (.own a) /\ fs.length <= 1000 /\ dx ≠ a /\ h.get? a = some (PySem.W.instObj C dx) ∧
   ∃ mA,h.Ns1 dx mA /\ (∀ f,RelO (fs.lookup f) (mA f)) /\ PySem.Within mA (fs.map (·.1))
 | .own _=>∃ o,h.get? a = some o
 | .xd fs=>∃ mA,h.Ns1 a mA /\ ∀ f,RelO (fs.lookup f) (mA f)
 | .rng lo hi=>∃ t u v,h.get? a = some { cls:=.type "range",data:=.fields #[.int lo t,.int hi u,.int 1 v] }
 | .frz o u=>h.get? a = some o /\ yj H h a u
 | .tbl ps=>h.get? a = some { cls:=.none,data:=.fields ps }
 | .met f x=>h.get? a = some (PySem.W.methodObj (.ref f) (.ref x))
 | .ext φ=>φ h /\ (∃ o,h.get? a = some o) /\ ∀ h1 h2:Heap,φ h1 -> (∀ o,h1.get? a = some o -> h2.get? a = some o) -> φ h2
def HOk (H:Hp) (h:Heap):Prop:=∀ a o,H a = some o -> yj P w H h a o
end
section
variable {P:Program} {w:World} {H H':Hp} {h h':Heap} {a:Addr} {o:HO}
theorem yj.lt (x:yj P w H h a o):a < h.objs.size:=by
 cases o with
 | lst xs=>obtain ⟨_,_,_,_,e⟩:=x; exact Heap.lt_size e
 | tup xs=>obtain ⟨_,_,_,p⟩:=x; exact p.lt
 | dK kvs=>obtain ⟨_,_,_,_,o,_,_,e,_⟩:=x; exact Heap.lt_size e
 | dT kvs=>obtain ⟨_,_,_,_,o,_,_,e,_⟩:=x; exact Heap.lt_size e
 | set S n=>obtain ⟨o,_,_,_,e,_⟩:=x; exact Heap.lt_size e
 | ins C dx fs=>obtain ⟨_,_,_,e,_⟩:=x; exact Heap.lt_size e
 | own y=>obtain ⟨_,e⟩:=x; exact Heap.lt_size e
 | xd fs=>obtain ⟨_,⟨_,_,_,e,_⟩,_⟩:=x; exact Heap.lt_size e
 | rng lo hi=>obtain ⟨_,_,_,e⟩:=x; exact Heap.lt_size e
 | frz ob u=>obtain ⟨e,_⟩:=x; exact Heap.lt_size e
 | tbl ps=>exact Heap.lt_size (show h.get? a = some _ from x)
 | met f y=>exact Heap.lt_size (show h.get? a = some _ from x)
 | ext φ=>obtain ⟨_,⟨_,e⟩,_⟩:=x; exact Heap.lt_size e
theorem Paired.mapP {α β:Type} {F G:α -> β -> Prop}:∀ {l₁:List α} {l₂:List β},Paired F l₁ l₂ -> (∀ a b,F a b -> G a b) -> Paired G l₁ l₂
 | _,_,.nil,_=>.nil
 | _,_,.cons r t,f=>.cons (f _ _ r) (Paired.mapP t f)
theorem yj.stay (x:yj P w H h a o) (k:∀ b u,(b = a \/ H b = some (.own a)) -> h.get? b = some u -> h'.get? b = some u)
  (ho:∀ b,H b = some (.own a) -> H' b = some (.own a)) (ht:∀ b xs,H b = some (.tup xs) -> H' b = some (.tup xs)):yj P w H' h' a o:=by
 induction o with
 | lst xs=>obtain ⟨z,its,n,r,e⟩:=x; exact ⟨z,its,n,r,k _ _ (.inl rfl) e⟩
 | tup xs=>obtain ⟨z,its,r,ob,e,c⟩:=x; exact ⟨z,its,r,ob,k _ _ (.inl rfl) e,c⟩
 | dK kvs=>obtain ⟨z,y,vs,r,ob,es,ep,e,c⟩:=x; exact ⟨z,y,vs,r,ob,es,ep,k _ _ (.inl rfl) e,c⟩
 | dT kvs =>
  obtain ⟨z,y,xs,r,ob,es,ep,e,c⟩:=x
  exact ⟨z,y,xs,Paired.mapP r fun p q z=>⟨z.1,ht _ _ z.2.1,z.2.2⟩,ob,es,ep,k _ _ (.inl rfl) e,c⟩
 | set S n=>obtain ⟨ob,es,ep,t,e,c⟩:=x; exact ⟨ob,es,ep,t,k _ _ (.inl rfl) e,c⟩
 | ins C dx fs =>
  obtain ⟨d,z,ne,e,mA,⟨od,es,ep,e2,c⟩,r⟩:=x
  exact ⟨ho _ d,z,ne,k _ _ (.inl rfl) e,mA,⟨od,es,ep,k _ _ (.inr d) e2,c⟩,r⟩
 | own y=>obtain ⟨ob,e⟩:=x; exact ⟨ob,k _ _ (.inl rfl) e⟩
 | xd fs=>obtain ⟨mA,⟨od,es,ep,e,c⟩,r⟩:=x; exact ⟨mA,⟨od,es,ep,k _ _ (.inl rfl) e,c⟩,r⟩
 | rng lo hi=>obtain ⟨t,u,v,e⟩:=x; exact ⟨t,u,v,k _ _ (.inl rfl) e⟩
 | frz ob u ih=>obtain ⟨e,q⟩:=x; exact ⟨k _ _ (.inl rfl) e,ih q⟩
 | tbl ps =>
  have e:h.get? a = some { cls:=.none,data:=.fields ps }:=x
  show h'.get? a = some { cls:=.none,data:=.fields ps }
  exact k a _ (.inl rfl) e
 | met f y =>
  have e:h.get? a = some (PySem.W.methodObj (.ref f) (.ref y)):=x
  show h'.get? a = some (PySem.W.methodObj (.ref f) (.ref y))
  exact k a _ (.inl rfl) e
 | ext φ=>obtain ⟨p,⟨o,e⟩,st⟩:=x; exact ⟨st _ _ p fun o q=>k _ _ (.inl rfl) q,⟨o,k _ _ (.inl rfl) e⟩,st⟩
theorem HOk.lt (x:HOk P w H h) (e:H a = some o):a < h.objs.size:=(x a o e).lt
theorem HOk.fresh (x:HOk P w H h) (e:h.objs.size <= a):H a = none:=by
 cases q:H a with
 | none=>rfl
 | some u=>exact absurd (Nat.lt_of_lt_of_le (x.lt q) e) (Nat.lt_irrefl _)
theorem HOk.kept (x:HOk P w H h) (k:∀ b u,h.get? b = some u -> h'.get? b = some u):HOk P w H h':=fun a o e =>
 (x a o e).stay (fun b u _ q=>k b u q) (fun _ q=>q) fun _ _ q=>q
theorem HOk.laid (x:HOk P w H h) (k:∀ b u,h.get? b = some u -> h'.get? b = some u) (hp:h.objs.size <= a) (new:yj P w (upd H a o) h' a o):HOk P w (upd H a o) h':=fun b u e=>by
 have hn:=x.fresh hp
 by_cases hb:b = a
 ·subst hb; rw [zd] at e; cases e; exact new
 ·rw [zu hb] at e
  exact (x b u e).stay (fun c v _ q=>k c v q) (fun c q=>by rw [zu (zA q hn)]; exact q) fun c xs q=>by rw [zu (zA q hn)]; exact q
end
def Rd (H:Hp) (a:Addr) (u:HO):Prop:=H a = some u \/ ∃ o,H a = some (.frz o u)
theorem Rd.ok {P:Program} {w:World} {H:Hp} {h:Heap} {a:Addr} {u:HO} (r:Rd H a u) (x:HOk P w H h):yj P w H h a u:=by
 rcases r with r | ⟨o,r⟩
 ·exact x a u r
 ·obtain ⟨_,q⟩:=x a _ r
  exact q
def Mut:Option HO -> Prop
 | some (.lst _)=>True
 | some (.dK _)=>True
 | some (.dT _)=>True
 | some (.set _ _)=>True
 | some (.ins _ _ _)=>True
 | some (.ext _)=>True
 | _=>False
section
variable {P:Program} {w:World} {H:Hp} {h h':Heap} {x e:Addr} {o':HO}
theorem HOk.write (ok:HOk P w H h) (mu:Mut (H x)) (he:e = x \/ H e = some (.own x)) (k:∀ b u,b ≠ e -> h.get? b = some u -> h'.get? b = some u) (heo:∃ u,h'.get? e = some u)
  (new:yj P w (upd H x o') h' x o'):HOk P w (upd H x o') h':=fun b u q=>by
 have nown:∀ c y,H c = some (.own y) -> c ≠ x:=fun c y r z=>by subst z; rw [r] at mu; exact mu
 have ntup:∀ c xs,H c = some (.tup xs) -> c ≠ x:=fun c xs r z=>by subst z; rw [r] at mu; exact mu
 by_cases hb:b = x
 ·subst hb; rw [zd] at q; cases q; exact new
 ·rw [zu hb] at q
  by_cases hbe:b = e
  ·have q':H b = some (.own x):=by
    rcases he with z | z
    ·exact absurd (hbe.trans z) hb
    ·rw [hbe]; exact z
   rw [q] at q'; cases q'
   obtain ⟨v,hv⟩:=heo
   exact ⟨v,by rw [hbe]; exact hv⟩
  ·refine (ok b u q).stay (fun c v hc r=>k c v ?_ r) (fun c r=>by rw [zu (nown c b r)]; exact r) fun c xs r=>by rw [zu (ntup c xs r)]; exact r
   rcases hc with rfl | hc
   ·exact hbe
   ·rintro rfl
    rcases he with z | z
    ·exact nown c b hc z
    ·rw [hc] at z; cases z; exact hb rfl
end
structure Un (fs ex:List Addr) (H H':Hp) (h h':Heap):Prop where
 keep:∀ b o,h.get? b = some o -> H b = none -> b ∉ fs -> b ∉ ex -> h'.get? b = some o
 slot:∀ b o,h.get? b = some o -> H b = none -> b ∈ fs -> b ∉ ex -> ∃ sl,h'.get? b = some { o with slots:=sl }
 free:∀ b o,h.get? b = some o -> H b = none -> b ∉ ex -> H' b = none
 there:∀ b o,h.get? b = some o -> b ∉ ex -> ∃ o',h'.get? b = some o'
 tups:∀ b xs,H b = some (.tup xs) -> H' b = some (.tup xs)
 frzs:∀ b o u,H b = some (.frz o u) -> H' b = some (.frz o u)
 tbls:∀ b ps,H b = some (.tbl ps) -> ∃ more,H' b = some (.tbl (ps ++ more))
section
variable {fs fs' ex ex':List Addr} {H H1 H2:Hp} {h h1 h2 h':Heap} {a x e:Addr} {o:HO}
theorem Un.any (u:Un fs ex H H1 h h1) {b:Addr} {ob:Obj} (q:h.get? b = some ob) (n:H b = none) (hx:b ∉ ex):∃ sl,h1.get? b = some { ob with slots:=sl }:=by
 by_cases hb:b ∈ fs
 ·exact u.slot b ob q n hb hx
 ·exact ⟨ob.slots,u.keep b ob q n hb hx⟩
theorem Un.kept (k:∀ b u,h.get? b = some u -> h'.get? b = some u):Un fs ex H H h h' :=
 ⟨fun b ob q _ _ _=>k b ob q,fun b ob q _ _ _=>⟨ob.slots,k b ob q⟩,fun _ _ _ n _=>n,fun b ob q _=>⟨ob,k b ob q⟩,fun _ _ q=>q,fun _ _ _ q=>q,fun _ ps q=>⟨#[],by rw [q]; simp⟩⟩
theorem Un.refl:Un fs ex H H h h:=Un.kept fun _ _ q=>q
theorem Un.laid (k:∀ b u,h.get? b = some u -> h'.get? b = some u) (hp:h.objs.size <= a) (hn:H a = none):Un fs ex H (upd H a o) h h' where
 keep:=fun b u q _ _ _=>k b u q
 slot:=fun b u q _ _ _=>⟨u.slots,k b u q⟩
 free:=fun b u q n _=>by rw [zu (Nat.ne_of_lt (Nat.lt_of_lt_of_le (Heap.lt_size q) hp))]; exact n
 there:=fun b u q _=>⟨u,k b u q⟩
 tups:=fun b xs q=>by rw [zu (zA q hn)]; exact q
 frzs:=fun b u xs q=>by rw [zu (zA q hn)]; exact q
 tbls:=fun b ps q=>⟨#[],by rw [zu (zA q hn),q]; simp⟩
theorem Un.write (mu:Mut (H x)) (he:e = x \/ H e = some (.own x)) (k:∀ b u,b ≠ e -> h.get? b = some u -> h'.get? b = some u) (heo:∃ u,h'.get? e = some u):Un fs ex H (upd H x o) h h':=by
 have hx:∀ b,H b = none -> b ≠ x:=fun b n z=>by subst z; rw [n] at mu; exact mu
 have hb:∀ b,H b = none -> b ≠ e:=fun b n z=>by
  subst z
  rcases he with r | r
  ·exact hx b n r
  ·rw [n] at r; cases r
 have hm:∀ b u,H b = some u -> ¬ Mut (some u) -> b ≠ x:=fun b u q nm z=>by subst z; rw [q] at mu; exact nm mu
 refine ⟨fun b u q n _ _=>k b u (hb b n) q,fun b u q n _ _=>⟨u.slots,k b u (hb b n) q⟩,fun b u q n _=>by rw [zu (hx b n)]; exact n,fun b u q _=>?_,
  fun b xs q=>by rw [zu (hm b _ q fun z=>z)]; exact q,fun b u xs q=>by rw [zu (hm b _ q fun z=>z)]; exact q,fun b ps q=>⟨#[],by rw [zu (hm b _ q fun z=>z),q]; simp⟩⟩
 by_cases hbe:b = e
 ·subst hbe; exact heo
 ·exact ⟨u,k b u hbe q⟩
end
def trk (h:Heap) (H:Hp):List Addr:=(List.range h.objs.size).filter fun a=>(H a).isSome
def hidT (h:Heap) (H:Hp):Heap:=PySem.W.hideAll h (trk h H)
theorem YB (h:Heap) (H:Hp):(hidT h H).objs.size = h.objs.size:=PySem.W.hideAll_size _ _
theorem Wb {h:Heap} {H:Hp} {b:Addr} {o:Obj} (e:h.get? b = some o) (n:H b = none):(hidT h H).get? b = some o :=
 PySem.W.hideAll_get _ e fun hm=>by
  have q:(H b).isSome = true:=(List.mem_filter.mp hm).2
  rw [n] at q; simp at q
theorem Vy {h:Heap} {H:Hp} {b:Addr} {o:Obj} (e:(hidT h H).get? b = some o):h.get? b = some o /\ H b = none:=by
 have e':h.get? b = some o:=PySem.W.of_hideAll (trk h H) e
 refine ⟨e',?_⟩
 cases q:H b with
 | none=>rfl
 | some x =>
  have hm:b ∈ trk h H:=List.mem_filter.mpr ⟨List.mem_range.mpr (Heap.lt_size e'),by simp [q]⟩
  have z:(hidT h H).get? b = none:=PySem.W.hideAll_none (trk h H) hm
  rw [z] at e; cases e
end L2
namespace L2
open PySem PySem.Spec PyProof.Rows
structure Mod (K:FG7) (mg:Str -> Option Value) (base:Heap):Prop where
 kin:K.In base
 glob:base.Ns mainGlobals mg
 blt:∃ mb,base.Ns builtinsNs mb /\ ∀ x:Str,x ≠ "__name__" -> mb x = bootBuiltins x
 nolimit:base.NoLimit
structure Cx where
 prog:Program
 w:World
 K:FG7
 mg:Str -> Option Value
 base:Heap
 A:Around
 N:List Str
 s₀:Shared
 H₀:Hp
 env:Env
 outer:List Env
 stack:List Env
 ex:List Addr
 fn:Str -> Bool
 calm:Bool
 pn:List (Addr × Obj)
 xe:VS7
def frs (l:List Env):List Addr:=l.filterMap (·.frame)
abbrev Cx.fs (X:Cx):List Addr:=frs X.outer
def Vis (sc:Scope) (x:Str):Prop:=sc.names.lookup x = some .local \/ sc.names.lookup x = some .cell \/ sc.names.lookup x = some .free
def Loc (sc:Scope) (x:Str):Prop:=sc.names.lookup x = some .local \/ sc.names.lookup x = some .cell
def Look (env:Env) (h:Heap) (m:Str -> Option Value) (x:Str) (u:Value):Prop :=
 (env.kindOf x = some .local /\ m x = some u) \/ ((env.kindOf x = some .cell \/ env.kindOf x = some .free) /\ ∃ c,env.cells.lookup x = some c /\ h.IsCell c (some u))
structure Cx.Ok (X:Cx):Prop where
 mod:Mod X.K X.mg X.base
 kind:X.env.scope.kind = .function
 glob:X.env.globals = mainGlobals
 blt:X.env.builtins = builtinsNs
 above:X.s₀.heap.objs.size <= X.env.locals
 inj:∀ x y c,X.env.cells.lookup x = some c -> X.env.cells.lookup y = some c -> x = y
 has:∀ x,(X.env.kindOf x = some .cell \/ X.env.kindOf x = some .free) -> ∃ c,X.env.cells.lookup x = some c
 cab:∀ x c,X.fn x = true -> X.env.cells.lookup x = some c -> X.s₀.heap.objs.size <= c
 hd:X.calm = true -> X.A.handled = none
 frames:X.A.frames = some X.stack
 stk:X.stack = X.outer \/ (X.stack = X.env :: X.outer /\ X.env.frame = some X.env.locals)
 exf:∀ b ∈ X.ex,b ≠ X.env.locals /\ ∀ x c,X.env.cells.lookup x = some c -> c ≠ b
 bs:∀ b o,X.base.get? b = some o -> X.s₀.heap.get? b = some o /\ X.H₀ b = none
 bsz:X.base.objs.size <= X.s₀.heap.objs.size
 noex:∀ b o,X.base.get? b = some o -> b ∉ X.ex
 exfs:∀ b ∈ X.ex,b ∉ X.fs
 funs:X.s₀.heap.FunFrames X.base X.outer
 frf:∀ b ∈ X.fs,X.H₀ b = none
structure Inv (X:Cx) (pins:List (Addr × Obj)) (σ:List (Option V)) (H:Hp) (s:Shared):Prop where
 ok:X.Ok
 os:s.os = X.s₀.os
 bare:AllBare s.gens
 base:Un X.fs X.ex X.H₀ H X.s₀.heap s.heap
 loc:∃ m,s.heap.Ns X.env.locals m /\ ∀ (i:Nat) (x:Str) (v:V),X.N[i]? = some x -> σ[i]? = some (some v) -> Vis X.env.scope x -> ∃ u,RelV v u /\ Look X.env s.heap m x u
 cell:∀ x c,X.env.cells.lookup x = some c -> ∃ v,s.heap.IsCell c v
 free:H X.env.locals = none
 freeC:∀ x c,X.env.cells.lookup x = some c -> H c = none
 pin:∀ p ∈ X.pn ++ pins,s.heap.get? p.1 = some p.2 /\ H p.1 = none /\ p.1 ≠ X.env.locals /\ p.1 ∉ X.fs /\ ∀ v,p.2.data ≠ .cell v
 hok:HOk X.prog X.w H s.heap
 len:σ.length = X.N.length
section
variable {X:Cx} {pins:List (Addr × Obj)} {σ:List (Option V)} {H H':Hp} {s:Shared} {h':Heap}
theorem Cx.Ok.nofr (ok:X.Ok) {b:Addr} {o:Obj} (e:X.base.get? b = some o):b ∉ X.fs:=fun hb=>by
 have:=(ok.funs.mem hb).1
 rw [e] at this; cases this
theorem Inv.bs (I:Inv X pins σ H s):∀ b o,X.base.get? b = some o -> s.heap.get? b = some o /\ H b = none:=fun b o e =>
 ⟨I.base.keep b o (I.ok.bs b o e).1 (I.ok.bs b o e).2 (I.ok.nofr e) (I.ok.noex b o e),I.base.free b o (I.ok.bs b o e).1 (I.ok.bs b o e).2 (I.ok.noex b o e)⟩
theorem Inv.bk (I:Inv X pins σ H s):∀ b o,X.base.get? b = some o -> s.heap.get? b = some o:=fun b o e=>(I.bs b o e).1
theorem Inv.mod (I:Inv X pins σ H s):Mod X.K X.mg X.base:=I.ok.mod
theorem Inv.kIn (I:Inv X pins σ H s):X.K.In s.heap:=I.ok.mod.kin.keeps I.bk
theorem Inv.lt (I:Inv X pins σ H s):X.env.locals < s.heap.objs.size:=let ⟨_,hn,_⟩:=I.loc; hn.lt
theorem Inv.sz (I:Inv X pins σ H s):X.s₀.heap.objs.size <= s.heap.objs.size:=Nat.le_trans I.ok.above (Nat.le_of_lt I.lt)
theorem Inv.nofs (I:Inv X pins σ H s) {a:Addr} (h:s.heap.objs.size <= a):a ∉ X.fs:=fun hb=>by
 obtain ⟨_,o,ho,_⟩:=I.ok.funs.mem hb
 exact absurd (Nat.lt_of_lt_of_le (Heap.lt_size ho) (Nat.le_trans I.sz h)) (Nat.lt_irrefl _)
theorem Inv.cne (I:Inv X pins σ H s):∀ x c,X.env.cells.lookup x = some c -> c ≠ X.env.locals:=fun x c e z=>by
 obtain ⟨v,o,ho,hd⟩:=I.cell x c e
 obtain ⟨m,⟨o',es,ep,ho',hd',_⟩,_⟩:=I.loc
 rw [z,ho'] at ho; cases ho; rw [hd'] at hd; cases hd
theorem Inv.funs (I:Inv X pins σ H s):s.heap.FunFrames X.base X.outer:=by
 have all:∀ (l:List Env),(∀ b ∈ frs l,b ∈ X.fs) -> X.s₀.heap.FunFrames X.base l -> s.heap.FunFrames X.base l:=by
  intro l
  induction l with
  | nil=>intro _ _; trivial
  | cons env r ih =>
   intro hs hl
   obtain ⟨hk,⟨L,o,hf,hn,ho,hd⟩,hr⟩:=hl
   have hL:L ∈ X.fs:=hs L (by unfold frs; rw [List.filterMap_cons,hf]; exact List.mem_cons_self)
   obtain ⟨sl,e⟩:=I.base.slot L o ho (I.ok.frf L hL) hL fun z=>I.ok.exfs L z hL
   exact ⟨hk,⟨L,_,hf,hn,e,hd⟩,ih (fun b hb=>hs b (by unfold frs; rw [List.filterMap_cons,hf]; exact List.mem_cons_of_mem _ hb)) hr⟩
 exact all X.outer (fun _ hb=>hb) I.ok.funs
theorem Inv.stack (I:Inv X pins σ H s):s.heap.FunFrames X.base X.stack:=by
 rcases I.ok.stk with e | ⟨e,hf⟩
 ·rw [e]; exact I.funs
 ·rw [e]
  obtain ⟨m,hn,_⟩:=I.loc
  refine .cons (by rw [I.ok.kind]; decide) hf hn ?_ I.funs
  exact Heap.get?_none_of_le (Nat.le_trans I.ok.bsz I.ok.above)
theorem Inv.stkSub (I:Inv X pins σ H s):∀ b ∈ frs X.stack,b ∈ X.env.locals :: X.fs:=fun b hb=>by
 rcases I.ok.stk with e | ⟨e,hf⟩
 ·rw [e] at hb; exact List.mem_cons_of_mem _ hb
 ·rw [e] at hb
  unfold frs at hb
  rw [List.filterMap_cons,hf] at hb
  exact hb
theorem Inv.stkFree (I:Inv X pins σ H s):∀ b ∈ frs X.stack,H b = none:=fun b hb=>by
 rcases List.mem_cons.mp (I.stkSub b hb) with e | hb
 ·rw [e]; exact I.free
 ·obtain ⟨_,o,ho,_⟩:=I.ok.funs.mem hb
  exact I.base.free b o ho (I.ok.frf b hb) fun z=>I.ok.exfs b z hb
theorem Inv.step {g':Array GenState} {t':Nat} {d':Drawn} {ch:List Addr} (I:Inv X pins σ H s)
  (hch:∀ b ∈ ch,(b ∈ X.ex \/ X.s₀.heap.objs.size <= b) /\ b ≠ X.env.locals /\ (∀ x c,X.env.cells.lookup x = some c -> c ≠ b) /\ ∀ p ∈ X.pn ++ pins,p.1 ≠ b)
  (keep:∀ b o,b ≠ X.env.locals -> b ∉ X.fs -> b ∉ ch -> s.heap.get? b = some o -> H b = none -> h'.get? b = some o)
  (slot:∀ b o,b ≠ X.env.locals -> b ∈ X.fs -> b ∉ ch -> s.heap.get? b = some o -> H b = none -> ∃ sl,h'.get? b = some { o with slots:=sl }) (free:∀ b o,b ∉ ch -> s.heap.get? b = some o -> H b = none -> H' b = none)
  (there:∀ b o,b ∉ ch -> s.heap.get? b = some o -> ∃ o',h'.get? b = some o')
  (tups:∀ b xs,H b = some (.tup xs) -> H' b = some (.tup xs)) (frzs:∀ b o u,H b = some (.frz o u) -> H' b = some (.frz o u)) (tbls:∀ b ps,H b = some (.tbl ps) -> ∃ more,H' b = some (.tbl (ps ++ more)))
  (ns:∀ m,s.heap.Ns X.env.locals m -> h'.Ns X.env.locals m) (hok:HOk X.prog X.w H' h') (hg:AllBare g') :
  Inv X pins σ H' { s with heap:=h',gens:=g',drawn:=d',toks:=t' }:=by
 have neL:∀ b o,X.s₀.heap.get? b = some o -> b ≠ X.env.locals:=fun b o e=>Nat.ne_of_lt (Nat.lt_of_lt_of_le (Heap.lt_size e) I.ok.above)
 have neC:∀ b o,X.s₀.heap.get? b = some o -> b ∉ X.ex -> b ∉ ch:=fun b o e hx hb=>by
  rcases (hch b hb).1 with z | z
  ·exact hx z
  ·exact absurd (Nat.lt_of_lt_of_le (Heap.lt_size e) z) (Nat.lt_irrefl _)
 have cellK:∀ x c,X.env.cells.lookup x = some c -> ∀ v,s.heap.IsCell c v -> h'.IsCell c v:=fun x c e v ⟨o,ho,hd⟩=>by
  have nch:c ∉ ch:=fun z=>(hch c z).2.2.1 x c e rfl
  by_cases hc:c ∈ X.fs
  ·obtain ⟨sl,q⟩:=slot c o (I.cne x c e) hc nch ho (I.freeC x c e)
   exact ⟨_,q,hd⟩
  ·exact ⟨o,keep c o (I.cne x c e) hc nch ho (I.freeC x c e),hd⟩
 refine ⟨I.ok,I.os,hg,⟨fun b o e n hb hx=>?_,fun b o e n hb hx=>?_,fun b o e n hx=>?_,fun b o e hx=>?_,fun b xs e=>tups b xs (I.base.tups b xs e),fun b o xs e=>frzs b o xs (I.base.frzs b o xs e),fun b ps e=>?_⟩,?_,fun x c e=>?_,?_,fun x c e=>?_,fun p hp=>?_,hok,I.len⟩
 ·exact keep b o (neL b o e) hb (neC b o e hx) (I.base.keep b o e n hb hx) (I.base.free b o e n hx)
 ·obtain ⟨sl,e1⟩:=I.base.slot b o e n hb hx
  obtain ⟨sl',e2⟩:=slot b _ (neL b o e) hb (neC b o e hx) e1 (I.base.free b o e n hx)
  exact ⟨sl',e2⟩
 ·obtain ⟨o',e1⟩:=I.base.there b o e hx
  exact free b o' (neC b o e hx) e1 (I.base.free b o e n hx)
 ·obtain ⟨o',e1⟩:=I.base.there b o e hx
  exact there b o' (neC b o e hx) e1
 ·obtain ⟨m1,e1⟩:=I.base.tbls b ps e
  obtain ⟨m2,e2⟩:=tbls b _ e1
  exact ⟨m1 ++ m2,by rw [e2,Array.append_assoc]⟩
 ·obtain ⟨m,hn,hl⟩:=I.loc
  refine ⟨m,ns m hn,fun i x v e1 e2 e3=>?_⟩
  obtain ⟨u,r,l⟩:=hl i x v e1 e2 e3
  refine ⟨u,r,?_⟩
  rcases l with l | ⟨k,c,e,z⟩
  ·exact .inl l
  ·exact .inr ⟨k,c,e,cellK x c e _ z⟩
 ·obtain ⟨v,z⟩:=I.cell x c e
  exact ⟨v,cellK x c e v z⟩
 ·obtain ⟨m,⟨o,_,_,ho,_⟩,_⟩:=I.loc
  exact free _ o (fun z=>(hch _ z).2.1 rfl) ho I.free
 ·obtain ⟨v,o,ho,hd⟩:=I.cell x c e
  exact free c o (fun z=>(hch c z).2.2.1 x c e rfl) ho (I.freeC x c e)
 ·obtain ⟨e,n,ne,nf,d⟩:=I.pin p hp
  have nch:p.1 ∉ ch:=fun z=>(hch p.1 z).2.2.2 p hp rfl
  exact ⟨keep p.1 p.2 ne nf nch e n,free p.1 p.2 nch e n,ne,nf,d⟩
theorem Inv.un {t':Nat} (I:Inv X pins σ H s) (u:Un X.fs [] H H' s.heap h') (hok:HOk X.prog X.w H' h'):Inv X pins σ H' { s with heap:=h',toks:=t' }:=by
 obtain ⟨m,⟨o,es,ep,ho,r⟩,_⟩:=id I.loc
 obtain ⟨sl,hL⟩:=u.any ho I.free (by simp)
 exact I.step (g':=s.gens) (d':=s.drawn) (ch:=[]) (fun _ z=>nomatch z) (fun b o _ hb _ e n=>u.keep b o e n hb (by simp)) (fun b o _ hb _ e n=>u.slot b o e n hb (by simp)) (fun b o _ e n=>u.free b o e n (by simp)) (fun b o _ e=>u.there b o e (by simp)) u.tups u.frzs u.tbls (fun m' hm=>by
  obtain ⟨o',es',ep',ho',r'⟩:=hm
  rw [ho] at ho'; cases ho'
  exact ⟨_,es',ep',hL,r'⟩) hok I.bare
theorem Inv.call {g':Array GenState} {t':Nat} {d':Drawn} {ch:List Addr} (I:Inv X pins σ H s) (u:Un (frs X.stack) ch H H' s.heap h') (hok:HOk X.prog X.w H' h') (hg:AllBare g')
  (hch:∀ b ∈ ch,(b ∈ X.ex \/ X.s₀.heap.objs.size <= b) /\ b ≠ X.env.locals /\ (∀ x c,X.env.cells.lookup x = some c -> c ≠ b) /\ ∀ p ∈ X.pn ++ pins,p.1 ≠ b) :
  Inv X pins σ H' { s with heap:=h',gens:=g',drawn:=d',toks:=t' }:=by
 obtain ⟨m,⟨o,es,ep,ho,r⟩,_⟩:=id I.loc
 obtain ⟨sl,hL⟩:=u.any ho I.free fun z=>(hch _ z).2.1 rfl
 exact I.step (ch:=ch) hch (fun b o hL hb hc e n=>u.keep b o e n (fun z=>(List.mem_cons.mp (I.stkSub b z)).elim hL hb) hc) (fun b o _ _ hc e n=>u.any e n hc) (fun b o hc e n=>u.free b o e n hc) (fun b o hc e=>u.there b o e hc) u.tups u.frzs u.tbls (fun m' hm=>by
  obtain ⟨o',es',ep',ho',r'⟩:=hm
  rw [ho] at ho'; cases ho'
  exact ⟨_,es',ep',hL,r'⟩) hok hg
theorem Inv.turned {t':Nat} {it:Addr} (I:Inv X pins σ H s) (k:∀ b o,b ≠ it -> s.heap.get? b = some o -> h'.get? b = some o) (hn:H it = none) (hL:it ≠ X.env.locals)
  (h1:it ∈ X.ex \/ X.s₀.heap.objs.size <= it) (h2:∀ x c,X.env.cells.lookup x = some c -> c ≠ it) (h3:∀ p ∈ X.pn ++ pins,p.1 ≠ it):Inv X pins σ H { s with heap:=h',toks:=t' }:=by
 have nit:∀ b u,H b = some u -> b ≠ it:=fun b u e z=>by rw [z,hn] at e; cases e
 refine I.step (g':=s.gens) (d':=s.drawn) (ch:=[it]) (fun b hb=>?_) (fun b o _ _ hc e _=>k b o (fun z=>hc (by simp [z])) e) (fun b o _ _ hc e _=>⟨o.slots,k b o (fun z=>hc (by simp [z])) e⟩) (fun _ _ _ _ n=>n)
  (fun b o hc e=>⟨o,k b o (fun z=>hc (by simp [z])) e⟩) (fun _ _ e=>e) (fun _ _ _ e=>e) (fun b ps e=>⟨#[],by rw [e]; simp⟩) (fun m hm=>?_) (fun b u e=>?_) I.bare
 ·have e:b = it:=by simpa using hb
  subst e
  exact ⟨h1,hL,h2,h3⟩
 ·obtain ⟨o,es,ep,ho,r⟩:=hm
  exact ⟨o,es,ep,k _ o (Ne.symm hL) ho,r⟩
 ·refine (I.hok b u e).stay (fun c v hc q=>k c v ?_ q) (fun _ q=>q) fun _ _ q=>q
  rcases hc with z | z
  ·rw [z]; exact nit b u e
  ·exact nit c _ z
theorem Inv.tok (I:Inv X pins σ H s) (t:Nat):Inv X pins σ H { s with toks:=t }:=I.un (h':=s.heap) (t':=t) Un.refl I.hok
theorem Inv.kept {t':Nat} (I:Inv X pins σ H s) (k:∀ b u,s.heap.get? b = some u -> h'.get? b = some u):Inv X pins σ H { s with heap:=h',toks:=t' }:=I.un (Un.kept k) (I.hok.kept k)
theorem Inv.laid {a:Addr} {o:HO} {t':Nat} (I:Inv X pins σ H s) (k:∀ b u,s.heap.get? b = some u -> h'.get? b = some u) (hp:s.heap.objs.size <= a) (new:yj X.prog X.w (upd H a o) h' a o) :
  Inv X pins σ (upd H a o) { s with heap:=h',toks:=t' }:=I.un (Un.laid k hp (I.hok.fresh hp)) (I.hok.laid k hp new)
theorem Inv.write {x e:Addr} {o:HO} {t':Nat} (I:Inv X pins σ H s) (mu:Mut (H x)) (he:e = x \/ H e = some (.own x)) (k:∀ b u,b ≠ e -> s.heap.get? b = some u -> h'.get? b = some u) (heo:∃ u,h'.get? e = some u)
  (new:yj X.prog X.w (upd H x o) h' x o):Inv X pins σ (upd H x o) { s with heap:=h',toks:=t' }:=I.un (Un.write mu he k heo) (I.hok.write mu he k heo new)
theorem Inv.pins_of {pins':List (Addr × Obj)} (I:Inv X pins σ H s) (h:∀ p ∈ pins',s.heap.get? p.1 = some p.2 /\ H p.1 = none /\ p.1 ≠ X.env.locals /\ p.1 ∉ X.fs /\ ∀ v,p.2.data ≠ .cell v):Inv X pins' σ H s :=
 ⟨I.ok,I.os,I.bare,I.base,I.loc,I.cell,I.free,I.freeC,fun p hp=>(List.mem_append.mp hp).elim (fun z=>I.pin p (List.mem_append_left _ z)) (h p),I.hok,I.len⟩
theorem j4 {N:List Str} (hN:N.Nodup) {i j:Nat} {x:Str} (a:N[i]? = some x) (b:N[j]? = some x):i = j:=by
 obtain ⟨h1,e1⟩:=List.getElem?_eq_some_iff.mp a
 obtain ⟨h2,e2⟩:=List.getElem?_eq_some_iff.mp b
 exact (List.getElem_inj hN).mp (e1.trans e2.symm)
theorem YC {M:Model} {A:Around} {E:VS7} {i:Nat} {x:Str} {v:V} {u:Value} {Q:Unit -> Shared -> Prop} (I:Inv X pins σ H s) (hN:X.N.Nodup) (hi:X.N[i]? = some x) (hx:Loc X.env.scope x) (r:RelV v u)
  (h:∀ s',Inv X pins (σ.set i (some v)) H s' -> (∃ a,Heap.SameBut a s.heap s'.heap /\ (a = X.env.locals \/ X.env.cells.lookup x = some a)) -> Q () s') (hf:X.fn x = true \/ X.env.scope.names.lookup x = some .local :=by first | exact .inl rfl | exact .inr rfl | assumption):wpAny M A (storeName X.env x u) Q E s:=by
 obtain ⟨m,hn,hl⟩:=id I.loc
 have hcls:(X.env.scope.kind == .class || (X.env.scope.kind == .module && X.env.locals != X.env.globals)) = false:=by rw [I.ok.kind]; rfl
 have hiσ:i < σ.length:=by rw [I.len]; exact (List.getElem?_eq_some_iff.mp hi).1
 have cne:=I.cne
 have tracked:∀ {a:Addr} {h':Heap},(∃ o,s.heap.get? a = some o /\ H a = none) -> Heap.SameBut a s.heap h' -> HOk X.prog X.w H h':=fun {a h'} ha hs b ob e=>by
  obtain ⟨_,_,hfree⟩:=ha
  refine (I.hok b ob e).stay (fun c w' hc q=>(hs.2 c ?_).trans q) (fun _ q=>q) fun _ _ q=>q
  rintro rfl
  rcases hc with rfl | hc
  ·rw [hfree] at e; cases e
  ·rw [hfree] at hc; cases hc
 rcases hx with hk | hk
 ·refine wpAny_storeName_local hk hn (fun h' hn' hs=>?_) hcls
  obtain ⟨oL,_,_,hoL,_⟩:=id hn
  refine h _ ⟨I.ok,I.os,I.bare,⟨fun b o e n hb hx=>?_,fun b o e n hb hx=>?_,I.base.free,fun b o e hx=>?_,I.base.tups,I.base.frzs,I.base.tbls⟩,⟨_,hn',fun j y v' e1 e2 e3=>?_⟩,fun y c e=>?_,I.free,I.freeC,fun p hp=>?_,tracked ⟨oL,hoL,I.free⟩ hs,by simpa using I.len⟩ ⟨_,hs,.inl rfl⟩
  ·exact (hs.2 b (Nat.ne_of_lt (Nat.lt_of_lt_of_le (Heap.lt_size e) I.ok.above))).trans (I.base.keep b o e n hb hx)
  ·obtain ⟨sl,e1⟩:=I.base.slot b o e n hb hx
   exact ⟨sl,(hs.2 b (Nat.ne_of_lt (Nat.lt_of_lt_of_le (Heap.lt_size e) I.ok.above))).trans e1⟩
  ·obtain ⟨o',e1⟩:=I.base.there b o e hx
   exact ⟨o',(hs.2 b (Nat.ne_of_lt (Nat.lt_of_lt_of_le (Heap.lt_size e) I.ok.above))).trans e1⟩
  ·by_cases hj:j = i
   ·subst hj
    rw [hi] at e1; cases e1
    rw [List.getElem?_set_self hiσ] at e2
    cases e2
    exact ⟨u,r,.inl ⟨hk,by simp⟩⟩
   ·rw [List.getElem?_set_ne (Ne.symm hj)] at e2
    obtain ⟨u',r',q⟩:=hl j y v' e1 e2 e3
    refine ⟨u',r',?_⟩
    rcases q with ⟨k,e⟩ | ⟨k,c,e,z⟩
    ·refine .inl ⟨k,?_⟩
     have:y ≠ x:=fun e=>hj (j4 hN e1 (e ▸ hi))
     simp [this,e]
    ·exact .inr ⟨k,c,e,z.sameBut hs (cne y c e)⟩
  ·obtain ⟨w',z⟩:=I.cell y c e
   exact ⟨w',z.sameBut hs (cne y c e)⟩
  ·obtain ⟨e,n,ne,nf,d⟩:=I.pin p hp
   exact ⟨(hs.2 p.1 ne).trans e,n,ne,nf,d⟩
 ·have hfn:X.fn x = true:=by
   rcases hf with z | z
   ·exact z
   ·rw [z] at hk; cases hk
  obtain ⟨c,hc⟩:=I.ok.has x (.inl hk)
  obtain ⟨w',z⟩:=I.cell x c hc
  refine wpAny_storeName_cell I.ok.kind hk hc z (fun h' hc' hs=>?_)
  obtain ⟨oc,hoc,hocd⟩:=id z
  refine h { s with heap:=h' } ⟨I.ok,I.os,I.bare,⟨fun b o e n hb hx=>?_,fun b o e n hb hx=>?_,I.base.free,fun b o e hx=>?_,I.base.tups,I.base.frzs,I.base.tbls⟩,⟨m,hn.sameBut hs (Ne.symm (cne x c hc)),fun j y v' e1 e2 e3=>?_⟩,fun y c' e=>?_,I.free,I.freeC,fun p hp=>?_,tracked ⟨oc,hoc,I.freeC x c hc⟩ hs,by simpa using I.len⟩ ⟨c,hs,.inr hc⟩
  ·exact (hs.2 b (Nat.ne_of_lt (Nat.lt_of_lt_of_le (Heap.lt_size e) (I.ok.cab x c hfn hc)))).trans (I.base.keep b o e n hb hx)
  ·obtain ⟨sl,e1⟩:=I.base.slot b o e n hb hx
   exact ⟨sl,(hs.2 b (Nat.ne_of_lt (Nat.lt_of_lt_of_le (Heap.lt_size e) (I.ok.cab x c hfn hc)))).trans e1⟩
  ·obtain ⟨o',e1⟩:=I.base.there b o e hx
   exact ⟨o',(hs.2 b (Nat.ne_of_lt (Nat.lt_of_lt_of_le (Heap.lt_size e) (I.ok.cab x c hfn hc)))).trans e1⟩
  ·by_cases hj:j = i
   ·subst hj
    rw [hi] at e1; cases e1
    rw [List.getElem?_set_self hiσ] at e2
    cases e2
    exact ⟨u,r,.inr ⟨.inl hk,c,hc,hc'⟩⟩
   ·rw [List.getElem?_set_ne (Ne.symm hj)] at e2
    obtain ⟨u',r',q⟩:=hl j y v' e1 e2 e3
    refine ⟨u',r',?_⟩
    rcases q with q | ⟨k,c',e,z'⟩
    ·exact .inl q
    ·refine .inr ⟨k,c',e,z'.sameBut hs ?_⟩
     rintro rfl
     exact hj (j4 hN e1 (I.ok.inj _ _ _ e hc ▸ hi))
  ·by_cases hcc:c' = c
   ·subst hcc; exact ⟨_,hc'⟩
   ·obtain ⟨w2,z2⟩:=I.cell y c' e
    exact ⟨w2,z2.sameBut hs hcc⟩
  ·obtain ⟨e,n,ne,nf,d⟩:=I.pin p hp
   refine ⟨(hs.2 p.1 ?_).trans e,n,ne,nf,d⟩
   intro q
   rw [q,hoc] at e
   have q':oc = p.2:=Option.some.inj e
   exact d w' (by rw [← q']; exact hocd)
theorem j5 {M:Model} {A:Around} {E:VS7} {i:Nat} {x:Str} {v:V} {u:Value} {Q:Unit -> Shared -> Prop} (I:Inv X pins σ H s) (hN:X.N.Nodup) (hi:X.N[i]? = some x) (hx:Loc X.env.scope x) (r:RelV v u)
  (h:∀ s',Inv X pins (σ.set i (some v)) H s' -> Q () s') (hf:X.fn x = true \/ X.env.scope.names.lookup x = some .local :=by first | exact .inl rfl | exact .inr rfl | assumption):wpAny M A (storeName X.env x u) Q E s :=
 YC I hN hi hx r (fun s' I' _=>h s' I') hf
theorem Inv.call' {s':Shared} {ch:List Addr} (I:Inv X pins σ H s) (ho:s'.os = s.os) (u:Un (frs X.stack) ch H H' s.heap s'.heap) (hok:HOk X.prog X.w H' s'.heap) (hg:AllBare s'.gens)
  (hch:∀ b ∈ ch,(b ∈ X.ex \/ X.s₀.heap.objs.size <= b) /\ b ≠ X.env.locals /\ (∀ x c,X.env.cells.lookup x = some c -> c ≠ b) /\ ∀ p ∈ X.pn ++ pins,p.1 ≠ b):Inv X pins σ H' s':=by
 obtain ⟨h',g',d',t',o'⟩:=s'
 have e:o' = s.os:=ho
 subst e
 exact I.call (g':=g') (t':=t') (d':=d') u hok hg hch
end
abbrev XK:=Value -> Option Addr -> Hp -> Prop
abbrev St:=List (Option V)
abbrev VK:=V -> Hp -> Prop
abbrev TE:=St -> Hp -> VK -> Prop
abbrev TT:=St -> Hp -> (Bool -> Hp -> Prop) -> Prop
abbrev TA:=St -> Hp -> (List V -> Hp -> Prop) -> Prop
structure Ends where
 nx:St -> Hp -> Prop
 rt:VK
 bk:St -> Hp -> Prop:=fun _ _=>False
 ct:St -> Hp -> Prop:=fun _ _=>False
abbrev TS:=Ends -> St -> Hp -> Prop
def EP (X:Cx) (pins:List (Addr × Obj)) (σ:St) (Q:VK) (u:Value) (s':Shared):Prop:=∃ v H',Inv X pins σ H' s' /\ RelV v u /\ Q v H'
def TP (X:Cx) (pins:List (Addr × Obj)) (σ:St) (Q:Bool -> Hp -> Prop) (b:Bool) (s':Shared):Prop:=∃ H',Inv X pins σ H' s' /\ Q b H'
def AP (X:Cx) (pins:List (Addr × Obj)) (σ:St) (Q:List V -> Hp -> Prop) (us:List Value) (s':Shared):Prop:=∃ vs H',Inv X pins σ H' s' /\ Vals vs us /\ Q vs H'
def SP (X:Cx) (pins:List (Addr × Obj)) (D:Ends) (f:Flow) (s':Shared):Prop :=
 match f with
 | .next=>∃ σ' H',Inv X pins σ' H' s' /\ D.nx σ' H'
 | .brk=>∃ σ' H',Inv X pins σ' H' s' /\ D.bk σ' H'
 | .cont=>∃ σ' H',Inv X pins σ' H' s' /\ D.ct σ' H'
 | .ret u=>∃ v σ' H',Inv X pins σ' H' s' /\ RelV v u /\ D.rt v H'
def PE (X:Cx) (e:Expr) (t:TE):Prop :=
 ∀ (pins:List (Addr × Obj)) (s:Shared) (σ:St) (H:Hp) (Q:VK),Inv X pins σ H s -> t σ H Q -> wpAny (model X.prog X.w) X.A (eval e X.env) (EP X pins σ Q) X.xe s
def PT (X:Cx) (e:Expr) (t:TT):Prop :=
 ∀ (pins:List (Addr × Obj)) (s:Shared) (σ:St) (H:Hp) (Q:Bool -> Hp -> Prop),Inv X pins σ H s -> t σ H Q -> wpAny (model X.prog X.w) X.A (isTrue e X.env (eval e X.env)) (TP X pins σ Q) X.xe s
def PW (X:Cx) (e:Expr) (t:TT):Prop :=
 ∀ (whole:Sem Value) (pins:List (Addr × Obj)) (s:Shared) (σ:St) (H:Hp) (Q:Bool -> Hp -> Prop),Inv X pins σ H s -> t σ H Q -> wpAny (model X.prog X.w) X.A (isTrue e X.env whole) (TP X pins σ Q) X.xe s
theorem PW.pt {X:Cx} {e:Expr} {t:TT} (h:PW X e t):PT X e t:=h _
def PA (X:Cx) (es:List Expr) (t:TA):Prop :=
 ∀ (pos:Pos) (pins:List (Addr × Obj)) (s:Shared) (σ:St) (H:Hp) (Q:List V -> Hp -> Prop),Inv X pins σ H s -> t σ H Q -> wpAny (model X.prog X.w) X.A (spliced (backTo pos (starEach es X.env))) (AP X pins σ Q) X.xe s
def PS (X:Cx) (st:Stmt) (t:TS):Prop :=
 ∀ (pins:List (Addr × Obj)) (s:Shared) (σ:St) (H:Hp) (D:Ends),Inv X pins σ H s -> t D σ H -> wpAny (model X.prog X.w) X.A (exec st X.env) (SP X pins D) X.xe s
def PSs (X:Cx) (st:List Stmt) (t:TS):Prop :=
 ∀ (pins:List (Addr × Obj)) (s:Shared) (σ:St) (H:Hp) (D:Ends),Inv X pins σ H s -> t D σ H -> wpAny (model X.prog X.w) X.A (execs st X.env) (SP X pins D) X.xe s
theorem thn {α:Type} {t:Sem α} {Q Q':α -> Shared -> Prop} {M:Model} {A:Around} {E:VS7} {s:Shared} (h:wpAny M A t Q E s) (hQ:∀ a s,Q a s -> Q' a s):wpAny M A t Q' E s:=wpAny_mono h hQ fun _ _ x=>x
end L2
namespace L2
open PySem PySem.Spec PyProof.Rows
section
variable {X:Cx}
def tVar (i:Nat):TE:=fun σ H Q=>∃ v,σ[i]? = some (some v) /\ Q v H
def tC (v:V):TE:=fun _ H Q=>Q v H
theorem Uw {i:Nat} {x:Str} {pos:Pos} (hN:X.N[i]? = some x) (hv:Vis X.env.scope x) (hd:(x == ("__debug__":Str)) = false:=by decide) (hcd:(x == ("__classdict__":Str)) = false:=by decide):PE X (.Name x pos) (tVar i):=by
 intro pins s σ H Q I h
 obtain ⟨v,e,h⟩:=h
 obtain ⟨m,hn,hl⟩:=I.loc
 obtain ⟨u,r,l⟩:=hl i x v hN e hv
 have fin:EP X pins σ Q u s:=⟨v,H,I,r,h⟩
 rcases l with ⟨hk,hm⟩ | ⟨hk,c,hc,hcell⟩
 ·exact wpAny_Name (wpAny_loadName_local I.ok.kind hk hn hm fin) hd
 ·rcases hk with hk | hk
  ·exact wpAny_Name (wpAny_loadName_cell I.ok.kind hk hc hcell fin) hd
  ·exact wpAny_Name (wpAny_loadName_free I.ok.kind hk hc hcell fin hcd) hd
theorem ze {i j pos}:PE X (.Constant (.int i) j pos) (tC (.int i)):=fun _ _ _ H _ I h=>wpAny_Constant_int ⟨.int i,H,I.tok _,⟨_,rfl⟩,h⟩
theorem wD {b j pos}:PE X (.Constant (.bool b) j pos) (tC (.bl b)):=fun _ _ _ H _ I h=>Constant_bool ⟨.bl b,H,I,rfl,h⟩
theorem j6 {j pos}:PE X (.Constant .none j pos) (tC .non):=fun _ _ _ H _ I h=>Constant_none ⟨.non,H,I,rfl,h⟩
def Gl (X:Cx) (x:Str):Prop:=X.env.kindOf x = some .globalImplicit
theorem jg {E:VS7} {pins:List (Addr × Obj)} {s:Shared} {σ:St} {H:Hp} {x:Str} {u:Value} {pos:Pos} {Q:VS7} (I:Inv X pins σ H s) (hg:Gl X x) (hm:X.mg x = some u) (h:Q u s)
  (hd:(x == ("__debug__":Str)) = false:=by decide):wpAny (model X.prog X.w) X.A (eval (.Name x pos) X.env) Q E s :=
 Calls.Name_function_global I.ok.kind hg (Calls.loadGlobal_global (by rw [I.ok.glob]; exact I.mod.glob.keeps I.bk) hm h) hd
theorem wN {E:VS7} {pins:List (Addr × Obj)} {s:Shared} {σ:St} {H:Hp} {x:Str} {u:Value} {pos:Pos} {Q:VS7} (I:Inv X pins σ H s) (hg:Gl X x) (hm:X.mg x = none) (hv:bootBuiltins x = some u) (h:Q u s)
  (hn:x ≠ "__name__":=by decide) (hd:(x == ("__debug__":Str)) = false:=by decide):wpAny (model X.prog X.w) X.A (eval (.Name x pos) X.env) Q E s:=by
 obtain ⟨mb,h1,h2⟩:=I.mod.blt
 exact Calls.Name_function_global I.ok.kind hg (Calls.loadGlobal_builtin (by rw [I.ok.glob]; exact I.mod.glob.keeps I.bk) hm (by rw [I.ok.blt]; exact h1.keeps I.bk) ((h2 x hn).trans hv) h) hd
theorem vf {x:Str} {v:V} {u:Value} {pos:Pos} (hg:Gl X x) (hm:X.mg x = some u) (r:RelV v u) (hd:(x == ("__debug__":Str)) = false:=by decide):PE X (.Name x pos) (tC v) :=
 fun _ _ _ H _ I h=>jg I hg hm ⟨v,H,I,r,h⟩ hd
theorem Vz {x:Str} {v:V} {u:Value} {pos:Pos} (hg:Gl X x) (hm:X.mg x = none) (hv:bootBuiltins x = some u) (r:RelV v u) (hn:x ≠ "__name__":=by decide) (hd:(x == ("__debug__":Str)) = false:=by decide):PE X (.Name x pos) (tC v) :=
 fun _ _ _ H _ I h=>wN I hg hm hv ⟨v,H,I,r,h⟩ hn hd
variable {a b:Expr} {ta tb:TE} {pos:Pos}
def PC (X:Cx) (op:CmpOp) (a b:Expr) (t:TE):Prop :=
 ∀ (pins:List (Addr × Obj)) (s:Shared) (σ:St) (H:Hp) (Q:VK),Inv X pins σ H s -> t σ H Q →
  wpAny (model X.prog X.w) X.A (eval a X.env) (fun v s₁=>wpAny (model X.prog X.w) X.A (eval b X.env) (fun u s₂=>wpAny (model X.prog X.w) X.A (compareOp op v u) (EP X pins σ Q) X.xe s₂) X.xe s₁) X.xe s
theorem j7 (b:Expr) {op:CmpOp} (h:op ≠ .In) (h2:op ≠ .NotIn):behindInMarks op b = false:=by
 have e1:(op == CmpOp.In) = false:=by cases op <;> first | rfl | exact absurd rfl h
 have e2:(op == CmpOp.NotIn) = false:=by cases op <;> first | rfl | exact absurd rfl h2
 cases b <;> simp [behindInMarks,e1,e2]
def tIsN (ta:TE):TE:=fun σ H Q=>ta σ H fun x H1=>Q (.bl (decide (x = .non))) H1
def Ts (ta:TE):TE:=fun σ H Q=>ta σ H fun x H1=>Q (.bl (!decide (x = .non))) H1
theorem RelV.none_iff {x:V} {v:Value} (r:RelV x v):(v == Value.none) = decide (x = .non):=by
 cases x with
 | non=>cases r; rfl
 | bl _=>cases r; rfl
 | int _=>obtain ⟨t,rfl⟩:=r; rfl
 | str _=>obtain ⟨t,rfl⟩:=r; rfl
 | byt _=>obtain ⟨t,rfl⟩:=r; rfl
 | flt _=>obtain ⟨t,rfl⟩:=r; rfl
 | ref _=>cases r; rfl
 | ty _=>cases r; rfl
theorem tI {j pos'} (ha:PE X a ta):PC X .Is a (.Constant .none j pos') (tIsN ta):=by
 intro pins s σ H Q I h
 refine thn (ha pins s σ H _ I h) fun v s1 ⟨x,H1,I1,r1,q1⟩=>?_
 exact Constant_none (is_none_gen ⟨.bl _,H1,I1,by rw [r1.none_iff]; rfl,q1⟩)
theorem wE {j pos'} (ha:PE X a ta):PC X .IsNot a (.Constant .none j pos') (Ts ta):=by
 intro pins s σ H Q I h
 refine thn (ha pins s σ H _ I h) fun v s1 ⟨x,H1,I1,r1,q1⟩=>?_
 exact Constant_none (isnot_none_gen ⟨.bl _,H1,I1,by rw [r1.none_iff]; rfl,q1⟩)
def tB (t:TE):TT:=fun σ H Q=>t σ H fun x H1=>∃ c,x = .bl c /\ Q c H1
theorem Ux {op:CmpOp} {t:TE} (h:PC X op a b t) (h1:behindInMarks op b = false:=by first | exact j7 _ (by decide) (by decide) | rfl):PE X (.Compare a [op] [b] pos) t:=fun pins s σ H Q I hw=>wpAny_Compare1 (h pins s σ H Q I hw) h1
theorem xQ {op:CmpOp} {t:TE} (h:PC X op a b t) (h1:behindInMarks op b = false:=by first | exact j7 _ (by decide) (by decide) | rfl):PT X (.Compare a [op] [b] pos) (tB t):=by
 intro pins s σ H Q I hw
 refine wpAny_isTrue_Compare1 (thn (h pins s σ H _ I hw) fun v s1 h1=>thn h1 fun u s2 h2=>thn h2 fun c s3 ⟨x,H1,I1,r1,q1⟩=>?_) h1
 obtain ⟨d,rfl,q⟩:=q1
 cases r1
 exact wpAny_truthy_bool ⟨H1,I1,q⟩
theorem yx {e:Expr} {t:TE} (h:PE X e t) (he:∀ whole,isTrue e X.env whole = (do let v ← whole; standAt e.pos; holding [v] (truthy v)):=by intro _; rfl):PT X e (tB t):=by
 intro pins s σ H Q I hw
 refine isTrue_plain (thn (h pins s σ H _ I hw) fun v s1 ⟨x,H1,I1,r1,q1⟩=>?_) (he _)
 obtain ⟨d,rfl,q⟩:=q1
 cases r1
 exact wpAny_truthy_bool ⟨H1,I1,q⟩
variable {tA tB':TT} {rest:List Expr}
def tAnd (t u:TT):TT:=fun σ H Q=>t σ H fun c H1=>if c = true then u σ H1 Q else Q false H1
def tOr (t u:TT):TT:=fun σ H Q=>t σ H fun c H1=>if c = true then Q true H1 else u σ H1 Q
def tNot (t:TT):TT:=fun σ H Q=>t σ H fun c H1=>Q (!c) H1
theorem xb (ha:PT X a tA):PW X (.BoolOp .And [a] pos) tA:=by
 intro wh pins s σ H Q I h
 refine isTrue_and (thn (ha pins s σ H Q I h) fun c s1 e=>?_)
 cases c with
 | true=>exact isTrue_and_nil e
 | false=>exact e
theorem xW (ha:PT X a tA):PW X (.BoolOp .Or [a] pos) tA:=by
 intro wh pins s σ H Q I h
 refine isTrue_or (thn (ha pins s σ H Q I h) fun c s1 e=>?_)
 cases c with
 | false=>exact isTrue_or_nil e
 | true=>exact e
theorem xR (ha:PT X a tA) (hb:PW X (.BoolOp .And (b :: rest) pos) tB'):PW X (.BoolOp .And (a :: b :: rest) pos) (tAnd tA tB'):=by
 intro wh pins s σ H Q I h
 refine isTrue_and (thn (ha pins s σ H _ I h) fun c s1 ⟨H1,I1,q1⟩=>?_)
 cases c with
 | true=>exact hb wh pins s1 σ H1 Q I1 q1
 | false=>exact ⟨H1,I1,q1⟩
theorem vN (ha:PT X a tA) (hb:PW X (.BoolOp .Or (b :: rest) pos) tB'):PW X (.BoolOp .Or (a :: b :: rest) pos) (tOr tA tB'):=by
 intro wh pins s σ H Q I h
 refine isTrue_or (thn (ha pins s σ H _ I h) fun c s1 ⟨H1,I1,q1⟩=>?_)
 cases c with
 | true=>exact ⟨H1,I1,q1⟩
 | false=>exact hb wh pins s1 σ H1 Q I1 q1
theorem yA (ha:PT X a tA):PT X (.UnaryOp .Not a pos) (tNot tA):=by
 intro pins s σ H Q I h
 exact isTrue_not (ha pins s σ H (fun c H1=>Q (!c) H1) I h)
def Tt (ta tb:TE):TE:=fun σ H Q=>ta σ H fun x H1=>∃ c,x = .bl c /\ if c = true then tb σ H1 Q else Q (.bl false) H1
def tOrV (ta tb:TE):TE:=fun σ H Q=>ta σ H fun x H1=>∃ c,x = .bl c /\ if c = true then Q (.bl true) H1 else tb σ H1 Q
def Tu (ta:TE):TE:=fun σ H Q=>ta σ H fun x H1=>∃ c,x = .bl c /\ Q (.bl (!c)) H1
theorem wv {op} {t:TE} (h:PE X a t):PE X (.BoolOp op [a] pos) t:=fun pins s σ H Q I hw=>BoolOp_one (h pins s σ H Q I hw)
theorem vE (ha:PE X a ta) (hb:PE X (.BoolOp .And (b :: rest) pos) tb):PE X (.BoolOp .And (a :: b :: rest) pos) (Tt ta tb):=by
 intro pins s σ H Q I h
 refine BoolOp_and (thn (ha pins s σ H _ I h) fun v s1 ⟨x,H1,I1,r1,q1⟩=>?_)
 obtain ⟨c,rfl,q1⟩:=q1
 cases r1
 refine wpAny_truthy_bool ?_
 cases c with
 | true=>exact hb pins s1 σ H1 Q I1 q1
 | false=>exact ⟨.bl false,H1,I1,rfl,q1⟩
theorem VA (ha:PE X a ta) (hb:PE X (.BoolOp .Or (b :: rest) pos) tb):PE X (.BoolOp .Or (a :: b :: rest) pos) (tOrV ta tb):=by
 intro pins s σ H Q I h
 refine BoolOp_or (thn (ha pins s σ H _ I h) fun v s1 ⟨x,H1,I1,r1,q1⟩=>?_)
 obtain ⟨c,rfl,q1⟩:=q1
 cases r1
 refine wpAny_truthy_bool ?_
 cases c with
 | false=>exact hb pins s1 σ H1 Q I1 q1
 | true=>exact ⟨.bl true,H1,I1,rfl,q1⟩
theorem Uy (ha:PE X a ta):PE X (.UnaryOp .Not a pos) (Tu ta):=by
 intro pins s σ H Q I h
 refine UnaryOp_ (thn (ha pins s σ H _ I h) fun v s1 ⟨x,H1,I1,r1,q1⟩=>?_)
 obtain ⟨c,rfl,q1⟩:=q1
 cases r1
 exact not_of (wpAny_truthy_bool ⟨.bl (!c),H1,I1,rfl,q1⟩)
def tIf (t:TT) (ta tb:TE):TE:=fun σ H Q=>t σ H fun c H1=>if c = true then ta σ H1 Q else tb σ H1 Q
theorem sA {c:Expr} (hc:PT X c tA) (ha:PE X a ta) (hb:PE X b tb):PE X (.IfExp c a b pos) (tIf tA ta tb):=by
 intro pins s σ H Q I h
 refine wpAny_IfExp (thn (hc pins s σ H _ I h) fun d s1 ⟨H1,I1,q1⟩=>?_)
 cases d with
 | true=>exact ha pins s1 σ H1 Q I1 q1
 | false=>exact hb pins s1 σ H1 Q I1 q1
end
end L2
namespace L2
open PySem PySem.Spec PyProof.Rows
def SqL (K:FG7) (H:Hp) (a:Addr) (xs:List V):Prop :=
 Rd H a (.lst xs) ∨
  ∃ (o:Obj) (its:Array Value) (n:Nat),K.lookup a = some o /\ o.cls = .type "list" /\ o.dict = none /\ o.data = .seq its n /\ its.size <= sizeLine /\ Vals xs its.toList
def SqT (K:FG7) (H:Hp) (a:Addr) (xs:List V):Prop :=
 Rd H a (.tup xs) ∨
  ∃ (o:Obj) (its:Array Value) (n:Nat),K.lookup a = some o /\ o.cls = .type "tuple" /\ o.data = .seq its n /\ its.size <= sizeLine /\ Vals xs its.toList
def absV:Value -> Option V
 | .none=>some .non
 | .bool b=>some (.bl b)
 | .int i _=>some (.int i)
 | .str x _=>some (.str x)
 | .bytes b _=>some (.byt b)
 | .float b _=>some (.flt b)
 | .ref a=>some (.ref a)
 | .type n=>some (.ty n)
 | _=>none
theorem RelV.abs {x:V} {u:Value} (r:RelV x u):absV u = some x:=by
 cases x with
 | non=>cases r; rfl
 | bl _=>cases r; rfl
 | int _=>obtain ⟨t,rfl⟩:=r; rfl
 | str _=>obtain ⟨t,rfl⟩:=r; rfl
 | byt _=>obtain ⟨t,rfl⟩:=r; rfl
 | flt _=>obtain ⟨t,rfl⟩:=r; rfl
 | ref _=>cases r; rfl
 | ty _=>cases r; rfl
theorem RelV.inj {x y:V} {u:Value} (r:RelV x u) (q:RelV y u):x = y:=Option.some.inj (r.abs.symm.trans q.abs)
theorem Vals.inj:∀ {xs ys:List V} {us:List Value},Vals xs us -> Vals ys us -> xs = ys
 | _,_,_,.nil,.nil=>rfl
 | _,_,_,.cons r t,.cons r' t'=>by rw [r.inj r',Vals.inj t t']
section
variable {X:Cx} {pins:List (Addr × Obj)} {σ:St} {H:Hp} {s:Shared} {a:Addr} {xs ys:List V}
theorem SqL.of {K:FG7} (h:H a = some (.lst xs)):SqL K H a xs:=.inl (.inl h)
theorem SqT.of {K:FG7} (h:H a = some (.tup xs)):SqT K H a xs:=.inl (.inl h)
theorem Inv.list (I:Inv X pins σ H s) (h:SqL X.K H a xs):∃ its:List Value,Vals xs its /\ PlainL s.heap a its.toArray /\ xs.length <= sizeLine:=by
 rcases h with h | ⟨o,its,n,hk,hc,hd,hs,hz,r⟩
 ·obtain ⟨z,its,n,r,e⟩:=h.ok I.hok
  exact ⟨its,r,⟨_,n,e,rfl,rfl,rfl⟩,z⟩
 ·refine ⟨its.toList,r,⟨o,n,I.kIn a o hk,hc,hd,by simpa using hs⟩,?_⟩
  have e:=r.length
  simp only [Array.length_toList] at e
  omega
theorem Inv.tuple (I:Inv X pins σ H s) (h:SqT X.K H a xs):∃ its:List Value,Vals xs its /\ IsTup s.heap a its.toArray /\ xs.length <= sizeLine:=by
 rcases h with h | ⟨o,its,n,hk,hc,hs,hz,r⟩
 ·obtain ⟨z,its,r,p⟩:=h.ok I.hok
  exact ⟨its,r,p,z⟩
 ·refine ⟨its.toList,r,⟨o,I.kIn a o hk,hc,n,by simpa using hs⟩,?_⟩
  have e:=r.length
  simp only [Array.length_toList] at e
  omega
theorem Inv.list_inj (I:Inv X pins σ H s) (h:SqL X.K H a xs) (h':SqL X.K H a ys):xs = ys:=by
 obtain ⟨its,r,⟨o,n,e,_,_,d⟩,_⟩:=I.list h
 obtain ⟨its',r',⟨o',n',e',_,_,d'⟩,_⟩:=I.list h'
 rw [e] at e'; cases e'
 rw [d] at d'
 injection d' with d1 _
 have:its = its':=by simpa using congrArg Array.toList d1
 subst this
 exact r.inj r'
theorem Inv.tuple_inj (I:Inv X pins σ H s) (h:SqT X.K H a xs) (h':SqT X.K H a ys):xs = ys:=by
 obtain ⟨its,r,⟨o,e,_,n,d⟩,_⟩:=I.tuple h
 obtain ⟨its',r',⟨o',e',_,n',d'⟩,_⟩:=I.tuple h'
 rw [e] at e'; cases e'
 rw [d] at d'
 injection d' with d1 _
 have:its = its':=by simpa using congrArg Array.toList d1
 subst this
 exact r.inj r'
end
abbrev Cx.wish (X:Cx) (E:VS7):Cx:={ X with xe:=E }
abbrev Cx.nox (X:Cx):Cx:=X.wish fun _ _=>False
theorem Cx.Ok.wish {X:Cx} (ok:X.Ok) (E:VS7):(X.wish E).Ok :=
 ⟨ok.mod,ok.kind,ok.glob,ok.blt,ok.above,ok.inj,ok.has,ok.cab,ok.hd,ok.frames,ok.stk,ok.exf,ok.bs,ok.bsz,ok.noex,ok.exfs,ok.funs,ok.frf⟩
theorem Cx.Ok.unwish {X:Cx} {E:VS7} (ok:(X.wish E).Ok):X.Ok :=
 ⟨ok.mod,ok.kind,ok.glob,ok.blt,ok.above,ok.inj,ok.has,ok.cab,ok.hd,ok.frames,ok.stk,ok.exf,ok.bs,ok.bsz,ok.noex,ok.exfs,ok.funs,ok.frf⟩
section
variable {X:Cx} {pins:List (Addr × Obj)} {σ:St} {H:Hp} {s:Shared} {E:VS7}
theorem Inv.wish (I:Inv X pins σ H s) (E:VS7):Inv (X.wish E) pins σ H s:=⟨I.ok.wish E,I.os,I.bare,I.base,I.loc,I.cell,I.free,I.freeC,I.pin,I.hok,I.len⟩
theorem Inv.unwish (I:Inv (X.wish E) pins σ H s):Inv X pins σ H s:=⟨I.ok.unwish,I.os,I.bare,I.base,I.loc,I.cell,I.free,I.freeC,I.pin,I.hok,I.len⟩
theorem SP.unwish {D:Ends} {f:Flow} {s':Shared} (h:SP (X.wish E) pins D f s'):SP X pins D f s':=by
 cases f with
 | next=>obtain ⟨σ',H',I,q⟩:=h; exact ⟨σ',H',I.unwish,q⟩
 | brk=>obtain ⟨σ',H',I,q⟩:=h; exact ⟨σ',H',I.unwish,q⟩
 | cont=>obtain ⟨σ',H',I,q⟩:=h; exact ⟨σ',H',I.unwish,q⟩
 | ret u=>obtain ⟨v,σ',H',I,r,q⟩:=h; exact ⟨v,σ',H',I.unwish,r,q⟩
theorem PSs.nox {st:List Stmt} {t:TS} (h:PSs X.nox st t):PSs X st t:=fun pins s σ H D I hw =>
 wpAny_mono (h pins s σ H D (I.wish _) hw) (fun _ _ q=>q.unwish) fun _ _ z=>False.elim z
end
section
variable {X:Cx} {st:Stmt} {rest:List Stmt} {t u:TS} {e:Expr} {te:TE} {pos:Pos}
def Uz:TS:=fun D σ H=>D.nx σ H
def tSeq (t u:TS):TS:=fun D σ H=>t { D with nx:=u D } σ H
theorem zv:PSs X [] Uz:=fun _ _ σ H _ I h=>wpAny_execs_nil ⟨σ,H,I,h⟩
theorem zc (h1:PS X st t) (h2:PSs X rest u):PSs X (st :: rest) (tSeq t u):=by
 intro pins s σ H D I h
 refine wpAny_execs_cons (thn (h1 pins s σ H { D with nx:=u D } I h) fun f s1 q=>?_)
 cases f with
 | next =>
  obtain ⟨σ',H',I',q⟩:=q
  exact h2 pins s1 σ' H' D I' q
 | ret v=>exact q
 | brk=>exact q
 | cont=>exact q
theorem zh (h1:PS X st t):PSs X [st] t:=by
 intro pins s σ H D I h
 refine wpAny_execs_cons (thn (h1 pins s σ H D I h) fun f s1 q=>?_)
 cases f with
 | next=>exact wpAny_execs_nil q
 | ret v=>exact q
 | brk=>exact q
 | cont=>exact q
theorem Inv.quiet {pins:List (Addr × Obj)} {σ:St} {H:Hp} {s:Shared} (I:Inv X pins σ H s):interactive X.env = false:=by simp [interactive,I.ok.kind]
def Tv (te:TE):TS:=fun D σ H=>te σ H fun _ H1=>D.nx σ H1
theorem zL (he:PE X e te) (hs:swapsWith e none pos.line X.env = pure false:=by rfl):PS X (.Expr e pos) (Tv te):=by
 intro pins s σ H D I h
 exact wpAny_Expr_any (thn (he pins s σ H _ I h) fun v s1 ⟨x,H1,I1,r1,q1⟩=>⟨σ,H1,I1,q1⟩) I.quiet hs
def tRet (te:TE):TS:=fun D σ H=>te σ H D.rt
theorem zt (he:PE X e te):PS X (.Return (some e) pos) (tRet te):=by
 intro pins s σ H D I h
 exact wpAny_Return_some (thn (he pins s σ H _ I h) fun v s1 ⟨x,H1,I1,r1,q1⟩=>⟨x,σ,H1,I1,r1,q1⟩)
def Tw:TS:=fun D _ H=>D.rt .non H
theorem VB:PS X (.Return none pos) Tw:=fun _ _ σ H _ I h=>wpAny_Return_none ⟨.non,σ,H,I,rfl,h⟩
def tIfS (c:TT) (t u:TS):TS:=fun D σ H=>c σ H fun b H1=>if b = true then t D σ H1 else u D σ H1
theorem z5 {c:Expr} {a b:List Stmt} {tc:TT} (hc:PT X c tc) (ha:PSs X a t) (hb:PSs X b u):PS X (.If c a b pos) (tIfS tc t u):=by
 intro pins s σ H D I h
 refine wpAny_If (thn (hc pins s σ H _ I h) fun d s1 ⟨H1,I1,q1⟩=>?_)
 cases d with
 | true=>exact ha pins s1 σ H1 D I1 q1
 | false=>exact hb pins s1 σ H1 D I1 q1
def UA:TS:=fun _ _ _=>False
theorem y7:PS X st UA:=fun _ _ _ _ _ _ h=>h.elim
end
abbrev TG:=V -> St -> Hp -> (St -> Hp -> Prop) -> Prop
abbrev TGs:=List V -> St -> Hp -> (St -> Hp -> Prop) -> Prop
def PG (X:Cx) (target:Expr) (t:TG):Prop :=
 ∀ (pins:List (Addr × Obj)) (s:Shared) (σ:St) (H:Hp) (v:V) (u:Value) (Q:St -> Hp -> Prop),Inv X pins σ H s -> RelV v u -> t v σ H Q →
  wpAny (model X.prog X.w) X.A (assign target X.env u) (fun _ s'=>∃ σ' H',Inv X pins σ' H' s' /\ Q σ' H') X.xe s
def PGs (X:Cx) (ts:List Expr) (t:TGs):Prop :=
 ∀ (pins:List (Addr × Obj)) (s:Shared) (σ:St) (H:Hp) (vs:List V) (us:List Value) (Q:St -> Hp -> Prop),Inv X pins σ H s -> Vals vs us -> t vs σ H Q →
  wpAny (model X.prog X.w) X.A (assignInOrder ((assignEach ts X.env).map (·.2)) us) (fun _ s'=>∃ σ' H',Inv X pins σ' H' s' /\ Q σ' H') X.xe s
abbrev TSet:=V -> V -> V -> Hp -> (Hp -> Prop) -> Prop
def PSet (X:Cx) (t:TSet):Prop :=
 ∀ (pins:List (Addr × Obj)) (s:Shared) (σ:St) (H:Hp) (o i v:V) (ov iv u:Value) (Q:Hp -> Prop),Inv X pins σ H s -> RelV o ov -> RelV i iv -> RelV v u -> t o i v H Q →
  wpAny (model X.prog X.w) X.A (setItem ov iv u) (fun _ s'=>∃ H',Inv X pins σ H' s' /\ Q H') X.xe s
abbrev TIp:=V -> V -> Hp -> VK -> Prop
def PIp (X:Cx) (op:Operator) (t:TIp):Prop :=
 ∀ (pins:List (Addr × Obj)) (s:Shared) (σ:St) (H:Hp) (x y:V) (v u:Value) (Q:VK),Inv X pins σ H s -> RelV x v -> RelV y u -> t x y H Q →
  wpAny (model X.prog X.w) X.A (inplaceOp op v u) (EP X pins σ Q) X.xe s
section
variable {X:Cx} {pos:Pos}
def wO (i:Nat):TG:=fun v σ H Q=>Q (σ.set i (some v)) H
theorem zj {i:Nat} {x:Str} (hN:X.N.Nodup) (hi:X.N[i]? = some x) (hx:Loc X.env.scope x) (hf:X.fn x = true \/ X.env.scope.names.lookup x = some .local :=by first | exact .inl rfl | exact .inr rfl | assumption):PG X (.Name x pos) (wO i):=by
 intro pins s σ H v u Q I r h
 exact wpAny_assign_Name (j5 I hN hi hx r (fun s' I'=>⟨_,H,I',h⟩) hf)
def gNil:TGs:=fun vs σ H Q=>vs = [] /\ Q σ H
def Tx (t:TG) (u:TGs):TGs:=fun vs σ H Q=>∃ v r,vs = v :: r /\ t v σ H fun σ' H'=>u r σ' H' Q
theorem z7:PGs X [] gNil:=by
 intro pins s σ H vs us Q I r h
 obtain ⟨e,h⟩:=h
 subst e
 cases r
 exact assignInOrder_nil ⟨σ,H,I,h⟩
theorem zm {e:Expr} {es:List Expr} {t:TG} {u:TGs} (h1:PG X e t) (h2:PGs X es u)
  (hs:(assignEach (e :: es) X.env).map (·.2) = assign e X.env :: (assignEach es X.env).map (·.2):=by rfl):PGs X (e :: es) (Tx t u):=by
 intro pins s σ H vs us Q I r h
 obtain ⟨v,vr,e1,h⟩:=h
 subst e1
 cases r with
 | cons r rr =>
  rw [hs]
  refine assignInOrder_cons (thn (h1 pins s σ H _ _ _ I r h) fun _ s1 ⟨σ1,H1,I1,q1⟩=>?_)
  exact h2 pins s1 σ1 H1 _ _ Q I1 rr q1
def gTup (K:FG7) (n:Nat) (t:TGs):TG:=fun v σ H Q=>∃ a xs,v = .ref a /\ SqT K H a xs /\ xs.length = n /\ t xs σ H Q
theorem yT {es:List Expr} {k:Nat} {t:TGs} {n:Nat} (hc:X.calm = true) (h:PGs X es t)
  (hn:(assignEach es X.env).length = n:=by rfl) (hst:(assignEach es X.env).findIdx? (·.1) = none:=by rfl):PG X (.Tuple es k pos) (gTup X.K n t):=by
 intro pins s σ H v u Q I r hw
 obtain ⟨a,xs,e1,hq,hl,hw⟩:=hw
 subst e1
 cases r
 obtain ⟨its,rv,ht,hz⟩:=I.tuple hq
 refine assign_Tuple_tuple (I.ok.hd hc) ht (by simp [hn,← hl,rv.length]) hst fun h' hx=>?_
 have I1:Inv X pins σ H { s with heap:=h' }:=I.kept (t':=s.toks) fun b o e=>hx b o (Nat.ne_of_lt (Heap.lt_size e)) e
 exact h pins _ σ H xs _ Q I1 (by simpa using rv) hw
def gSub (to ti:TE) (t:TSet):TG:=fun v σ H Q=>to σ H fun o H1=>ti σ H1 fun i H2=>t o i v H2 fun H3=>Q σ H3
theorem j8 {o i:Expr} {to ti:TE} {t:TSet} (ho:PE X o to) (hi:PE X i ti) (hs:PSet X t)
  (ha:∀ v,assign (.Subscript o i pos) X.env v = (do
   let ov ← holding [v] (eval o X.env)
   let iv ← holding [v,ov] (eval i X.env)
   standAt pos
   holding [v,ov,iv] (setItem ov iv v)
   release [v,ov,iv] []):=by intro _; rfl):PG X (.Subscript o i pos) (gSub to ti t):=by
 intro pins s σ H v u Q I r h
 rw [ha]
 refine wpAny_bind (wpAny_holding (thn (ho pins s σ H _ I h) fun ov s1 ⟨x,H1,I1,r1,q1⟩=>?_))
 refine wpAny_bind (wpAny_holding (thn (hi pins s1 σ H1 _ I1 q1) fun iv s2 ⟨y,H2,I2,r2,q2⟩=>?_))
 refine wpAny_bind (wpAny_standAt (wpAny_bind (wpAny_holding (thn (hs pins s2 σ H2 x y v ov iv u _ I2 r1 r2 r q2) fun _ s3 ⟨H3,I3,q3⟩=>?_))))
 exact wpAny_release ⟨σ,H3,I3,q3⟩
def tAsg (te:TE) (g:TG):TS:=fun D σ H=>te σ H fun x H1=>g x σ H1 D.nx
theorem xp {tg e:Expr} {te:TE} {g:TG} (he:PE X e te) (hg:PG X tg g) (hs:swapsWithSole [tg] e pos.line X.env = pure false:=by rfl) (hw:swappedStores [tg] e X.env = pure none:=by rfl)
  (h1:(assignEach [tg] X.env).map (·.2) = [assign tg X.env]:=by rfl):PS X (.Assign [tg] e pos) (tAsg te g):=by
 intro pins s σ H D I h
 refine wpAny_Assign_stores (thn (he pins s σ H _ I h) fun v s1 ⟨x,H1,I1,r1,q1⟩=>?_) hs hw
 rw [h1]
 exact thn (hg pins s1 σ H1 x v _ I1 r1 q1) fun _ s2 q=>q
theorem zC {i:Nat} {x:Str} {e:Expr} {te:TE} {pos':Pos} (hN:X.N.Nodup) (hi:X.N[i]? = some x) (hx:Loc X.env.scope x) (he:PE X e te) (hs:swapsWith e (some (.Name x pos')) pos.line X.env = pure false:=by rfl) (hf:X.fn x = true \/ X.env.scope.names.lookup x = some .local :=by first | exact .inl rfl | exact .inr rfl | assumption) :
  PS X (.Assign [.Name x pos'] e pos) (tAsg te (wO i)):=by
 intro pins s σ H D I h
 refine wpAny_Assign_Name (thn (he pins s σ H _ I h) fun v s1 ⟨y,H1,I1,r1,q1⟩=>?_) hs
 exact j5 I1 hN hi hx r1 (fun s2 I2=>⟨_,H1,I2,q1⟩) hf
def ipI (f:Int -> Int -> Int):TIp:=fun x y H Q=>∃ i j,x = .int i /\ y = .int j /\ Q (.int (f i j)) H
theorem Va:PIp X .Add (ipI fun i j=>i + j):=by
 intro pins s σ H x y v u Q I r1 r2 h
 obtain ⟨i,j,e1,e2,q⟩:=h
 subst e1; subst e2
 obtain ⟨t,rfl⟩:=r1
 obtain ⟨t',rfl⟩:=r2
 exact iadd_int ⟨.int _,H,I.tok _,⟨_,rfl⟩,q⟩
theorem UB:PIp X .Sub (ipI fun i j=>i - j):=by
 intro pins s σ H x y v u Q I r1 r2 h
 obtain ⟨i,j,e1,e2,q⟩:=h
 subst e1; subst e2
 obtain ⟨t,rfl⟩:=r1
 obtain ⟨t',rfl⟩:=r2
 exact isub_int ⟨.int _,H,I.tok _,⟨_,rfl⟩,q⟩
end
structure It where
 go:Nat -> Hp -> Prop
 yld:Nat -> Hp -> V -> Hp -> Prop
 stop:Nat -> Hp -> Prop
def FpOk (X:Cx) (pins:List (Addr × Obj)) (H:Hp) (b:Addr):Prop :=
 H b = none /\ b ≠ X.env.locals /\ b ∉ X.fs /\ (b ∈ X.ex \/ X.s₀.heap.objs.size <= b) /\ (∀ x c,X.env.cells.lookup x = some c -> c ≠ b) /\ ∀ p ∈ X.pn ++ pins,p.1 ≠ b
theorem Inv.fpOk {X:Cx} {pins:List (Addr × Obj)} {σ:St} {H H':Hp} {s:Shared} {b:Addr} (I:Inv X pins σ H s) (hb:s.heap.objs.size <= b) (hn:H' b = none):FpOk X pins H' b:=by
 refine ⟨hn,Nat.ne_of_gt (Nat.lt_of_lt_of_le I.lt hb),I.nofs hb,.inr (Nat.le_trans I.sz hb),fun x c e z=>?_,fun p hp z=>?_⟩
 ·obtain ⟨v,q⟩:=I.cell x c e
  exact absurd (Nat.lt_of_lt_of_le q.lt (by rw [z]; exact hb)) (Nat.lt_irrefl _)
 ·exact absurd (Nat.lt_of_lt_of_le (Heap.lt_size (I.pin p hp).1) (by rw [z]; exact hb)) (Nat.lt_irrefl _)
structure Turn (P:Program) (w:World) (K:FG7) (tg:Expr) (J:It) (fp:List Addr) (it:Addr) (tn:Nat -> Heap -> Prop):Prop where
 mem:it ∈ fp
 obj:∀ i h,tn i h -> ∀ b ∈ fp,∃ o,h.get? b = some o /\ ∀ v,o.data ≠ .cell v
 keep:∀ i h h',tn i h -> (∀ b ∈ fp,∀ o,h.get? b = some o -> h'.get? b = some o) -> tn i h'
 item:∀ (X:Cx),X.prog = P -> X.w = w -> X.K = K -> X.calm = true -> ∀ (i:Nat) (pins:List (Addr × Obj)) (s:Shared) (σ:St) (H:Hp) (E:VS7),Inv X pins σ H s -> (∀ b ∈ fp,FpOk X pins H b) -> tn i s.heap -> J.go i H →
  wpAny (model P w) X.A (pyNext (.ref it)) (fun r s1=>∃ u,r = some u ∧
   wpAny (model P w) X.A (letOwnedTupleGo tg (.ref it) u) (fun _ s2=>∃ x H',Inv X pins σ H' s2 /\ RelV x u /\ J.yld i H x H' /\ tn (i + 1) s2.heap /\ ∀ b ∈ fp,H' b = none) E s1) E s
 done:∀ (X:Cx),X.prog = P -> X.w = w -> X.K = K -> X.calm = true -> ∀ (i:Nat) (pins:List (Addr × Obj)) (s:Shared) (σ:St) (H:Hp) (E:VS7),Inv X pins σ H s -> (∀ b ∈ fp,FpOk X pins H b) -> tn i s.heap -> J.stop i H →
  wpAny (model P w) X.A (pyNext (.ref it)) (fun r s1=>r = none /\ Inv X pins σ H s1) E s
 self:∀ (A:Around) (i:Nat) (s:Shared) (Q:VS7) (E:VS7),tn i s.heap -> Q (.ref it) s -> wpAny (model P w) A (pyIter (.ref it)) Q E s
abbrev TI:=St -> Hp -> (It -> Hp -> Prop) -> Prop
def PIE (X:Cx) (pins:List (Addr × Obj)) (σ:St) (tg:Expr) (R:It -> Hp -> Prop) (itv:Value) (s2:Shared):Prop :=
 ∃ (it:Addr) (fp:List Addr) (tn:Nat -> Heap -> Prop) (J:It) (H':Hp),itv = .ref it /\ Inv X pins σ H' s2 /\ Turn X.prog X.w X.K tg J fp it tn /\ tn 0 s2.heap /\ (∀ b ∈ fp,FpOk X pins H' b) /\ R J H'
def PI (X:Cx) (tg iter:Expr) (wi:TI):Prop :=
 ∀ (pins:List (Addr × Obj)) (s:Shared) (σ:St) (H:Hp) (R:It -> Hp -> Prop),Inv X pins σ H s -> wi σ H R →
  wpAny (model X.prog X.w) X.A (eval iter X.env) (fun v s1=>wpAny (model X.prog X.w) X.A (pyIter v) (PIE X pins σ tg R) X.xe s1) X.xe s
theorem Wc {M:Model} {A:Around} {E:VS7} {s:Shared} {tg:Expr} {it:Addr} {u:Value} {o:Obj} {n:String} {vs:Array Value} {Q:Unit -> Shared -> Prop} (ho:s.heap.get? it = some o) (hc:o.cls = .type n) (hd:o.data = .fields vs)
    (hn:["enumerate","zip","dict_itemiterator","dict_reverseitemiterator","odict_iterator","itertools.zip_longest","itertools.pairwise"].contains n = false) (hQ:Q () s):wpAny M A (letOwnedTupleGo tg (.ref it) u) Q E s:=by
  unfold letOwnedTupleGo
  cases tg <;> first
    | exact wpAny_pure hQ
    | (cases u <;> first
        | exact wpAny_pure hQ
        | (refine wpAny_bind (wpAny_load ho ?_)
           rw [hc,hd]
           show wpAny M A (if (["enumerate","zip","dict_itemiterator","dict_reverseitemiterator","odict_iterator","itertools.zip_longest","itertools.pairwise"].contains n && vs[0]? == some (rawInt _)) = true then _ else _) Q E s
           rw [if_neg (by intro h; rw [hn,Bool.false_and] at h; cases h)]
           exact wpAny_pure hQ))
def Itl (K:FG7) (a:Addr):It :=
 ⟨fun i H=>∃ xs x,SqL K H a xs /\ xs[i]? = some x,fun i H x H'=>H' = H /\ ∀ xs,SqL K H a xs -> xs[i]? = some x,fun i H=>∃ xs,SqL K H a xs /\ xs.length <= i⟩
def Itt (K:FG7) (a:Addr):It :=
 ⟨fun i H=>∃ xs x,SqT K H a xs /\ xs[i]? = some x,fun i H x H'=>H' = H /\ ∀ xs,SqT K H a xs -> xs[i]? = some x,fun i H=>∃ xs,SqT K H a xs /\ xs.length <= i⟩
def Itr (lo:Int) (n:Nat):It:=⟨fun i _=>i < n,fun i H x H'=>H' = H /\ x = .int (lo + i),fun i _=>n <= i⟩
theorem rM {P:Program} {w:World} {K:FG7} {tg:Expr} (a it:Addr):Turn P w K tg (Itl K a) [it] it (fun i h=>h.IsListIter it a i) where
 mem:=by simp
 obj:=fun i h st b hb=>by
  have e:b = it:=by simpa using hb
  subst e
  obtain ⟨o,e,c,d⟩:=st
  exact ⟨o,e,fun v z=>by rw [d] at z; cases z⟩
 keep:=fun i h h' st k=>st.at fun o e=>k it (by simp) o e
 item:=by
  intro X hP hw hK hc i pins s σ H E I hf st hg
  subst hP hw hK
  obtain ⟨xs,x,hq,hx⟩:=hg
  obtain ⟨its,rv,p,hz⟩:=I.list hq
  obtain ⟨u,hu,ru⟩:=rv.get hx
  obtain ⟨f0,f1,f2,f3,f4,f5⟩:=hf it (by simp)
  refine wpAny_pyNext_list_item st p.isList (x:=u) (by simpa using hu) fun h' st' sb=>?_
  have I1:Inv X pins σ H { s with heap:=h' }:=I.turned (t':=s.toks) (fun b o hb e=>(sb.2 b hb).trans e) f0 f1 f3 f4 f5
  obtain ⟨o,e,c,d⟩:=id st'
  exact ⟨u,rfl,Wc (s:={ s with heap:=h' }) e c d (by decide) ⟨x,H,I1,ru,⟨rfl,fun ys hy=>by rw [I.list_inj hy hq]; exact hx⟩,st',fun b hb=>(hf b hb).1⟩⟩
 done:=by
  intro X hP hw hK hc i pins s σ H E I hf st hg
  subst hP hw hK
  obtain ⟨xs,hq,hx⟩:=hg
  obtain ⟨its,rv,p,hz⟩:=I.list hq
  obtain ⟨f0,f1,f2,f3,f4,f5⟩:=hf it (by simp)
  have hl:=rv.length
  exact wpAny_pyNext_list_end (I.ok.hd hc) st p.isList (by simp; omega) fun h' eb=>⟨rfl,I.turned (t':=s.toks) (fun b o hb e=>eb b o hb e) f0 f1 f3 f4 f5⟩
 self:=fun _ _ _ _ _ st h=>wpAny_pyIter_listiter st h
theorem tJ {P:Program} {w:World} {K:FG7} {tg:Expr} (a it:Addr):Turn P w K tg (Itt K a) [it] it (fun i h=>h.IsTupleIter it a i) where
 mem:=by simp
 obj:=fun i h st b hb=>by
  have e:b = it:=by simpa using hb
  subst e
  obtain ⟨o,e,c,d⟩:=st
  exact ⟨o,e,fun v z=>by rw [d] at z; cases z⟩
 keep:=fun i h h' st k=>st.at fun o e=>k it (by simp) o e
 item:=by
  intro X hP hw hK hc i pins s σ H E I hf st hg
  subst hP hw hK
  obtain ⟨xs,x,hq,hx⟩:=hg
  obtain ⟨its,rv,p,hz⟩:=I.tuple hq
  obtain ⟨u,hu,ru⟩:=rv.get hx
  obtain ⟨f0,f1,f2,f3,f4,f5⟩:=hf it (by simp)
  refine wpAny_pyNext_tuple_item st (show s.heap.IsTuple a its.toArray from p) (x:=u) (by simpa using hu) fun h' st' sb=>?_
  have I1:Inv X pins σ H { s with heap:=h' }:=I.turned (t':=s.toks) (fun b o hb e=>(sb.2 b hb).trans e) f0 f1 f3 f4 f5
  obtain ⟨o,e,c,d⟩:=id st'
  exact ⟨u,rfl,Wc (s:={ s with heap:=h' }) e c d (by decide) ⟨x,H,I1,ru,⟨rfl,fun ys hy=>by rw [I.tuple_inj hy hq]; exact hx⟩,st',fun b hb=>(hf b hb).1⟩⟩
 done:=by
  intro X hP hw hK hc i pins s σ H E I hf st hg
  subst hP hw hK
  obtain ⟨xs,hq,hx⟩:=hg
  obtain ⟨its,rv,p,hz⟩:=I.tuple hq
  obtain ⟨f0,f1,f2,f3,f4,f5⟩:=hf it (by simp)
  have hl:=rv.length
  exact wpAny_pyNext_tuple_end (I.ok.hd hc) st (show s.heap.IsTuple a its.toArray from p) (by simp; omega) fun h' eb=>⟨rfl,I.turned (t':=s.toks) (fun b o hb e=>eb b o hb e) f0 f1 f3 f4 f5⟩
 self:=fun _ _ _ _ _ st h=>wpAny_pyIter_tupleiter st h
theorem ZM {P:Program} {w:World} {K:FG7} {tg:Expr} (it:Addr) (lo:Int) (n:Nat):Turn P w K tg (Itr lo n) [it] it (fun i h=>IsRangeIter h it (lo + (i:Nat) * 1) ((n:Int) - (i:Nat)) 1) where
 mem:=by simp
 obj:=fun i h st b hb=>by
  have e:b = it:=by simpa using hb
  subst e
  exact ⟨_,st,fun v z=>by
   have z':Data.fields _ = Data.cell v:=z
   cases z'⟩
 keep:=fun i h h' st k=>k it (by simp) _ st
 item:=by
  intro X hP hw hK hc i pins s σ H E I hf st hg
  subst hP hw hK
  obtain ⟨f0,f1,f2,f3,f4,f5⟩:=hf it (by simp)
  have W:=Walks.range (prog:=X.prog) (w:=X.w) (I.ok.hd hc) it lo 1 n
  refine W.item i s _ _ hg st fun v h' tk hv st' kk=>?_
  obtain ⟨t,rfl⟩:=hv
  have I1:Inv X pins σ H { s with heap:=h',toks:=tk }:=I.turned (fun b o hb e=>kk b o (by simpa using hb) e) f0 f1 f3 f4 f5
  refine ⟨_,rfl,Wc (s:={ s with heap:=h',toks:=tk }) (n:="range_iterator") st' rfl rfl (by decide) ⟨.int (lo + i),H,I1,⟨t,?_⟩,⟨rfl,rfl⟩,st',fun b hb=>(hf b hb).1⟩⟩
  rw [Int.mul_one]
 done:=by
  intro X hP hw hK hc i pins s σ H E I hf st hg
  subst hP hw hK
  obtain ⟨f0,f1,f2,f3,f4,f5⟩:=hf it (by simp)
  exact wpAny_pyNext_range_end (I.ok.hd hc) st (by have:n <= i:=hg; omega) fun h' eb=>⟨rfl,I.turned (t':=s.toks) (fun b o hb e=>eb b o hb e) f0 f1 f3 f4 f5⟩
 self:=fun _ _ _ _ _ st h=>wpAny_pyIter_rangeiter st h
end L2
namespace L2
open PySem PySem.Spec PyProof.Rows
section
variable {X:Cx} {tg:Expr}
def Ty (K:FG7) (tl:TE):TI:=fun σ H R=>tl σ H fun x H1=>∃ a,x = .ref a /\ (∃ xs,SqL K H1 a xs) /\ R (Itl K a) H1
def iTup (K:FG7) (tl:TE):TI:=fun σ H R=>tl σ H fun x H1=>∃ a,x = .ref a /\ (∃ xs,SqT K H1 a xs) /\ R (Itt K a) H1
theorem xc {l:Expr} {tl:TE} (hl:PE X l tl):PI X tg l (Ty X.K tl):=by
 intro pins s σ H R I h
 refine thn (hl pins s σ H _ I h) fun v s1 ⟨x,H1,I1,r1,q1⟩=>?_
 obtain ⟨a,e,⟨xs,hq⟩,q⟩:=q1
 subst e
 cases r1
 obtain ⟨its,rv,p,hz⟩:=I1.list hq
 refine wpAny_pyIter_list p.isList ?_
 refine ⟨s1.heap.objs.size,[s1.heap.objs.size],_,_,H1,rfl,I1.kept (t':=s1.toks) fun b o e=>Heap.get?_push_of_some _ e,rM a _,⟨_,Heap.get?_push_size _ rfl,rfl,rfl⟩,fun b hb=>?_,q⟩
 have e:b = s1.heap.objs.size:=by simpa using hb
 subst e
 exact I1.fpOk (Nat.le_refl _) (I1.hok.fresh (Nat.le_refl _))
theorem ww {l:Expr} {tl:TE} (hl:PE X l tl):PI X tg l (iTup X.K tl):=by
 intro pins s σ H R I h
 refine thn (hl pins s σ H _ I h) fun v s1 ⟨x,H1,I1,r1,q1⟩=>?_
 obtain ⟨a,e,⟨xs,hq⟩,q⟩:=q1
 subst e
 cases r1
 obtain ⟨its,rv,p,hz⟩:=I1.tuple hq
 refine wpAny_pyIter_tuple (show s1.heap.IsTuple a its.toArray from p) ?_
 refine ⟨s1.heap.objs.size,[s1.heap.objs.size],_,_,H1,rfl,I1.kept (t':=s1.toks) fun b o e=>Heap.get?_push_of_some _ e,tJ a _,⟨_,Heap.get?_push_size _ rfl,rfl,rfl⟩,fun b hb=>?_,q⟩
 have e:b = s1.heap.objs.size:=by simpa using hb
 subst e
 exact I1.fpOk (Nat.le_refl _) (I1.hok.fresh (Nat.le_refl _))
theorem j9 {pins:List (Addr × Obj)} {σ:St} {H:Hp} {s:Shared} {R:It -> Hp -> Prop} {E:VS7} {lo hi:Int} {t u v:Tok} {tk:Nat} (I:Inv X pins σ H s) (h1:-(2 ^ 62) <= lo) (h2:lo < 2 ^ 62) (h3:-(2 ^ 62) <= hi) (h4:hi < 2 ^ 62)
  (q:R (Itr lo (hi - lo).toNat) H):wpAny (model X.prog X.w) X.A (pyIter (.ref s.heap.objs.size)) (PIE X pins σ tg R) E { s with heap:=s.heap.push { cls:=.type "range",data:=.fields #[.int lo t,.int hi u,.int 1 v] },toks:=tk }:=by
 refine wpAny_pyIter_range (IsRange.new ..) (small_one h1 h2 h3 h4) ?_
 have I1:Inv X pins σ H { s with heap:=s.heap.push { cls:=.type "range",data:=.fields #[.int lo t,.int hi u,.int 1 v] },toks:=tk }:=I.kept fun b o e=>Heap.get?_push_of_some _ e
 refine ⟨(s.heap.push { cls:=.type "range",data:=.fields #[.int lo t,.int hi u,.int 1 v] }).objs.size,[(s.heap.push { cls:=.type "range",data:=.fields #[.int lo t,.int hi u,.int 1 v] }).objs.size],_,_,H,rfl,
  I1.kept (t':=tk) fun b o e=>Heap.get?_push_of_some _ e,ZM _ lo (hi - lo).toNat,?_,fun b hb=>?_,q⟩
 ·have e1:lo + ((0:Nat):Int) * 1 = lo:=by simp
  have e2:(((hi - lo).toNat:Nat):Int) - ((0:Nat):Int) = Builtin.Range.rangeSize lo hi 1:=by rw [rangeSize_one]; split <;> omega
  show IsRangeIter _ _ (lo + ((0:Nat):Int) * 1) ((((hi - lo).toNat:Nat):Int) - ((0:Nat):Int)) 1
  rw [e1,e2]
  exact Heap.get?_push_size _ rfl
 ·have e:b = (s.heap.push { cls:=.type "range",data:=.fields #[.int lo t,.int hi u,.int 1 v] }).objs.size:=by simpa using hb
  subst e
  exact I1.fpOk (Nat.le_refl _) (I1.hok.fresh (Nat.le_refl _))
def Tz (ta:TA):TI:=fun σ H R=>ta σ H fun vs H1=>∃ j:Int,vs = [.int j] /\ -(2 ^ 62) <= j /\ j < 2 ^ 62 /\ R (Itr 0 j.toNat) H1
def TB (ta:TA):TI:=fun σ H R=>ta σ H fun vs H1=>∃ i j:Int,vs = [.int i,.int j] /\ (-(2 ^ 62) <= i /\ i < 2 ^ 62 /\ -(2 ^ 62) <= j /\ j < 2 ^ 62) /\ R (Itr i (j - i).toNat) H1
theorem ye {a:Expr} {ta:TA} {p pos:Pos} (hg:Gl X "range") (hm:X.mg "range" = none) (ha:PA X [a] ta) (hs:starEach [a] X.env = [(false,eval a X.env)]:=by rfl):PI X tg (.Call (.Name "range" p) [a] [] pos) (Tz ta):=by
 intro pins s σ H R I h
 refine Call_ (wN I hg hm boot_range (PyProof.Rows.callWith_type1 (thn (ha pos pins s σ H _ I h) fun us s1 ⟨vs,H1,I1,r1,q1⟩=>?_) hs rfl))
 obtain ⟨j,e,q1,q2,q⟩:=q1
 subst e
 cases r1 with
 | cons r rr =>
  cases rr
  obtain ⟨t,rfl⟩:=r
  exact call_range_1 (j9 I1 (by omega) (by omega) q1 q2 (by simpa using q))
theorem vX {a b:Expr} {ta:TA} {p pos:Pos} (hg:Gl X "range") (hm:X.mg "range" = none) (ha:PA X [a,b] ta) (hs:starEach [a,b] X.env = [(false,eval a X.env),(false,eval b X.env)]:=by rfl) (hs2:starEach [b] X.env = [(false,eval b X.env)]:=by rfl) :
  PI X tg (.Call (.Name "range" p) [a,b] [] pos) (TB ta):=by
 intro pins s σ H R I h
 refine Call_ (wN I hg hm boot_range (PyProof.Rows.callWith_type1 (thn (ha pos pins s σ H _ I h) fun us s1 ⟨vs,H1,I1,r1,q1⟩=>?_) (by rw [hs,hs2]) (by rw [hs2]; rfl)))
 obtain ⟨i,j,e,⟨q1,q2,q3,q4⟩,q⟩:=q1
 subst e
 cases r1 with
 | cons r rr =>
  cases rr with
  | cons r' rr =>
   cases rr
   obtain ⟨t,rfl⟩:=r
   obtain ⟨t',rfl⟩:=r'
   exact call_range_2 (j9 I1 q1 q2 q3 q4 q)
def tFor (wi:TI) (g:TG) (tb:TS):TS:=fun D σ H=>wi σ H fun J H1=>∃ W:Nat -> Nat -> St -> Hp -> Prop,(∃ m,W 0 m σ H1) /\ ∀ i m σ H,W i m σ H →
 (J.stop i H /\ D.nx σ H) \/ (J.go i H /\ ∃ N:St -> Hp -> Prop,(∀ σ' H',N σ' H' -> ∃ m',m' < m /\ W (i + 1) m' σ' H') /\ ∀ x H',J.yld i H x H' -> g x σ H' fun σ2 H2=>tb { D with nx:=N,ct:=N,bk:=D.nx } σ2 H2)
def wP (fp:List Addr) (h:Heap):List (Addr × Obj):=fp.filterMap fun b=>(h.get? b).map fun o=>(b,o)
theorem yD {fp:List Addr} {h:Heap} {b:Addr} {o:Obj} (hb:b ∈ fp) (e:h.get? b = some o):(b,o) ∈ wP fp h:=List.mem_filterMap.mpr ⟨b,hb,by rw [e]; rfl⟩
theorem YD {fp:List Addr} {h:Heap} {p:Addr × Obj} (hp:p ∈ wP fp h):p.1 ∈ fp /\ h.get? p.1 = some p.2:=by
 obtain ⟨b,hb,e⟩:=List.mem_filterMap.mp hp
 cases q:h.get? b with
 | none=>rw [q] at e; cases e
 | some o =>
  rw [q] at e
  have e':(b,o) = p:=Option.some.inj e
  subst e'
  exact ⟨hb,q⟩
theorem Inv.pinned {pins:List (Addr × Obj)} {σ:St} {H:Hp} {s:Shared} {fp:List Addr} (I:Inv X pins σ H s) (hf:∀ b ∈ fp,FpOk X pins H b) (ho:∀ b ∈ fp,∃ o,s.heap.get? b = some o /\ ∀ v,o.data ≠ .cell v):Inv X (pins ++ wP fp s.heap) σ H s :=
 I.pins_of fun p hp=>(List.mem_append.mp hp).elim (fun z=>I.pin p (List.mem_append_right _ z)) fun z=>by
  obtain ⟨hb,e⟩:=YD z
  obtain ⟨f0,f1,f2,_⟩:=hf p.1 hb
  obtain ⟨o,e',d⟩:=ho p.1 hb
  rw [e] at e'; cases e'
  exact ⟨e,f0,f1,f2,d⟩
theorem Inv.unpinned {pins pl:List (Addr × Obj)} {σ:St} {H:Hp} {s:Shared} (I:Inv X (pins ++ pl) σ H s):Inv X pins σ H s:=I.pins_of fun p hp=>I.pin p (List.mem_append_right _ (List.mem_append_left _ hp))
theorem yE {iter:Expr} {body:List Stmt} {wi:TI} {g:TG} {tb:TS} {pos:Pos} (hp:PassesOwn (model X.prog X.w) X.A X.env X.xe) (hc:X.calm = true) (hi:PI X tg iter wi) (hg:PG X tg g) (hb:PSs X body tb)
  (hs:∀ x,foldedSetIterable iter X.env x = pure x:=by intro _; rfl):PS X (.For tg iter body [] pos) (tFor wi g tb):=by
 intro pins s σ H D I h
 refine wpAny_For (thn (hi pins s σ H _ I h) fun v s1 h1=>thn h1 fun itv s2 h2=>?_) hs
 obtain ⟨it,fp,tn,J,H2,e,I2,T,st2,f2,W,⟨m0,w0⟩,turn⟩:=h2
 subst e
 -- what stays true of the iterator's objects through the loop
 have stat:∀ {H':Hp},(∀ b ∈ fp,H' b = none) -> ∀ b ∈ fp,FpOk X pins H' b:=fun hn b hb=>⟨hn b hb,(f2 b hb).2⟩
 refine codeAny_forLoop_any (fun n s'=>∃ i σ' H',Inv X pins σ' H' s' /\ tn i s'.heap /\ (∀ b ∈ fp,H' b = none) /\ W i n σ' H') ?_ m0 ⟨0,σ,H2,I2,st2,fun b hb=>(f2 b hb).1,w0⟩
 rintro n s3 ⟨i,σ3,H3,I3,st3,fr3,w3⟩
 rcases turn i n σ3 H3 w3 with ⟨stop,qn⟩ | ⟨go,N,hN,step⟩
 ·refine wpAny_passesOwn hp (thn (T.done X rfl rfl rfl hc i pins s3 σ3 H3 X.xe I3 (stat fr3) st3 stop) fun r s4 ⟨hr,I4⟩=>?_)
  subst hr
  exact wpAny_execs_nil ⟨σ3,H3,I4,qn⟩
 ·refine wpAny_passesOwn hp (thn (T.item X rfl rfl rfl hc i pins s3 σ3 H3 X.xe I3 (stat fr3) st3 go) fun r s4 ⟨u,hr,h4⟩=>?_)
  subst hr
  refine wpAny_passesOwn hp (thn h4 fun _ s5 ⟨x,H5,I5,r5,y5,st5,fr5⟩=>?_)
  have I5':=I5.pinned (stat fr5) (T.obj _ _ st5)
  refine wpAny_passesOwn hp (thn (hg _ s5 σ3 H5 x u _ I5' r5 (step x H5 y5)) fun _ s6 ⟨σ6,H6,I6,q6⟩=>?_)
  refine wpAny_passesOwn hp (thn (hb _ s6 σ6 H6 _ I6 q6) fun f s7 q7=>?_)
  have again:∀ {σ7:St} {H7:Hp},Inv X (pins ++ wP fp s5.heap) σ7 H7 s7 -> N σ7 H7 -> ∃ m,m < n /\ ∃ i σ' H',Inv X pins σ' H' s7 /\ tn i s7.heap /\ (∀ b ∈ fp,H' b = none) /\ W i m σ' H':=fun {σ7 H7} I7 n7=>by
   obtain ⟨m',hm,w7⟩:=hN σ7 H7 n7
   refine ⟨m',hm,i + 1,σ7,H7,I7.unpinned,T.keep _ _ _ st5 fun b hb o e=>(I7.pin (b,o) (List.mem_append_right _ (List.mem_append_right _ (yD hb e)))).1,fun b hb=>?_,w7⟩
   obtain ⟨o,e,d⟩:=T.obj _ _ st5 b hb
   exact (I7.pin (b,o) (List.mem_append_right _ (List.mem_append_right _ (yD hb e)))).2.1
  cases f with
  | next=>obtain ⟨σ7,H7,I7,n7⟩:=q7; exact again I7 n7
  | cont=>obtain ⟨σ7,H7,I7,n7⟩:=q7; exact again I7 n7
  | brk=>obtain ⟨σ7,H7,I7,q7⟩:=q7; exact ⟨σ7,H7,I7.unpinned,q7⟩
  | ret v=>obtain ⟨x7,σ7,H7,I7,r7,q7⟩:=q7; exact ⟨x7,σ7,H7,I7.unpinned,r7,q7⟩
end
theorem xq {K:FG7} {a:Addr} {xs:List V} {g:TG} {tb:TS} {D:Ends} {σ:St} {H:Hp} (Pv:Nat -> St -> Hp -> Prop) (h0:Pv 0 σ H) (hl:∀ i σ H,i <= xs.length -> Pv i σ H -> SqL K H a xs)
  (hs:∀ i x σ H,xs[i]? = some x -> Pv i σ H -> g x σ H fun σ2 H2=>tb { D with nx:=Pv (i + 1),ct:=Pv (i + 1),bk:=D.nx } σ2 H2) (hd:∀ σ H,Pv xs.length σ H -> D.nx σ H) :
  ∃ W:Nat -> Nat -> St -> Hp -> Prop,(∃ m,W 0 m σ H) /\ ∀ i m σ H,W i m σ H →
   ((Itl K a).stop i H /\ D.nx σ H) \/ ((Itl K a).go i H /\ ∃ N:St -> Hp -> Prop,(∀ σ' H',N σ' H' -> ∃ m',m' < m /\ W (i + 1) m' σ' H') /\ ∀ x H',(Itl K a).yld i H x H' -> g x σ H' fun σ2 H2=>tb { D with nx:=N,ct:=N,bk:=D.nx } σ2 H2):=by
 refine ⟨fun i m σ H=>m = xs.length - i /\ i <= xs.length /\ Pv i σ H,⟨xs.length,by simp,Nat.zero_le _,h0⟩,?_⟩
 rintro i m σ H ⟨rfl,hi,p⟩
 have q:=hl i σ H hi p
 by_cases hlt:i < xs.length
 ·refine .inr ⟨⟨xs,xs[i],q,by simp [hlt]⟩,Pv (i + 1),fun σ' H' p'=>⟨xs.length - (i + 1),by omega,rfl,hlt,p'⟩,fun x H' y=>?_⟩
  obtain ⟨e,y⟩:=y
  subst e
  exact hs i x σ _ (y xs q) p
 ·have e:i = xs.length:=by omega
  subst e
  exact .inl ⟨⟨xs,q,Nat.le_refl _⟩,hd σ H p⟩
theorem vY {K:FG7} {a:Addr} {xs:List V} {g:TG} {tb:TS} {D:Ends} {σ:St} {H:Hp} (Pv:Nat -> St -> Hp -> Prop) (h0:Pv 0 σ H) (hl:∀ i σ H,i <= xs.length -> Pv i σ H -> SqT K H a xs)
  (hs:∀ i x σ H,xs[i]? = some x -> Pv i σ H -> g x σ H fun σ2 H2=>tb { D with nx:=Pv (i + 1),ct:=Pv (i + 1),bk:=D.nx } σ2 H2) (hd:∀ σ H,Pv xs.length σ H -> D.nx σ H) :
  ∃ W:Nat -> Nat -> St -> Hp -> Prop,(∃ m,W 0 m σ H) /\ ∀ i m σ H,W i m σ H →
   ((Itt K a).stop i H /\ D.nx σ H) \/ ((Itt K a).go i H /\ ∃ N:St -> Hp -> Prop,(∀ σ' H',N σ' H' -> ∃ m',m' < m /\ W (i + 1) m' σ' H') /\ ∀ x H',(Itt K a).yld i H x H' -> g x σ H' fun σ2 H2=>tb { D with nx:=N,ct:=N,bk:=D.nx } σ2 H2):=by
 refine ⟨fun i m σ H=>m = xs.length - i /\ i <= xs.length /\ Pv i σ H,⟨xs.length,by simp,Nat.zero_le _,h0⟩,?_⟩
 rintro i m σ H ⟨rfl,hi,p⟩
 have q:=hl i σ H hi p
 by_cases hlt:i < xs.length
 ·refine .inr ⟨⟨xs,xs[i],q,by simp [hlt]⟩,Pv (i + 1),fun σ' H' p'=>⟨xs.length - (i + 1),by omega,rfl,hlt,p'⟩,fun x H' y=>?_⟩
  obtain ⟨e,y⟩:=y
  subst e
  exact hs i x σ _ (y xs q) p
 ·have e:i = xs.length:=by omega
  subst e
  exact .inl ⟨⟨xs,q,Nat.le_refl _⟩,hd σ H p⟩
theorem yU {lo:Int} {n:Nat} {g:TG} {tb:TS} {D:Ends} {σ:St} {H:Hp} (Pv:Nat -> St -> Hp -> Prop) (h0:Pv 0 σ H)
  (hs:∀ i σ H,i < n -> Pv i σ H -> g (.int (lo + i)) σ H fun σ2 H2=>tb { D with nx:=Pv (i + 1),ct:=Pv (i + 1),bk:=D.nx } σ2 H2) (hd:∀ σ H,Pv n σ H -> D.nx σ H) :
  ∃ W:Nat -> Nat -> St -> Hp -> Prop,(∃ m,W 0 m σ H) /\ ∀ i m σ H,W i m σ H →
   ((Itr lo n).stop i H /\ D.nx σ H) \/ ((Itr lo n).go i H /\ ∃ N:St -> Hp -> Prop,(∀ σ' H',N σ' H' -> ∃ m',m' < m /\ W (i + 1) m' σ' H') /\ ∀ x H',(Itr lo n).yld i H x H' -> g x σ H' fun σ2 H2=>tb { D with nx:=N,ct:=N,bk:=D.nx } σ2 H2):=by
 refine ⟨fun i m σ H=>m = n - i /\ i <= n /\ Pv i σ H,⟨n,by simp,Nat.zero_le _,h0⟩,?_⟩
 rintro i m σ H ⟨rfl,hi,p⟩
 by_cases hlt:i < n
 ·refine .inr ⟨hlt,Pv (i + 1),fun σ' H' p'=>⟨n - (i + 1),by omega,rfl,hlt,p'⟩,fun x H' y=>?_⟩
  obtain ⟨e,y⟩:=y
  subst e y
  exact hs i σ _ hlt p
 ·have e:i = n:=by omega
  subst e
  exact .inl ⟨Nat.le_refl _,hd σ H p⟩
end L2
namespace L2
open PySem PySem.Spec PyProof.Rows
abbrev R2:=V -> V -> Hp -> VK -> Prop
def OpR (X:Cx) (f:Value -> Value -> Sem Value) (r:R2):Prop :=
 ∀ (pins:List (Addr × Obj)) (s:Shared) (σ:St) (H:Hp) (x y:V) (v u:Value) (Q:VK),Inv X pins σ H s -> RelV x v -> RelV y u -> r x y H Q →
  wpAny (model X.prog X.w) X.A (f v u) (EP X pins σ Q) X.xe s
def UnR (X:Cx) (f:Value -> Sem Value) (r:V -> Hp -> VK -> Prop):Prop :=
 ∀ (pins:List (Addr × Obj)) (s:Shared) (σ:St) (H:Hp) (x:V) (v:Value) (Q:VK),Inv X pins σ H s -> RelV x v -> r x H Q →
  wpAny (model X.prog X.w) X.A (f v) (EP X pins σ Q) X.xe s
def xV (X:Cx) (f:Value) (r:List V -> Hp -> VK -> Prop):Prop :=
 ∀ (pins:List (Addr × Obj)) (s:Shared) (σ:St) (H:Hp) (xs:List V) (us:List Value) (Q:VK),Inv X pins σ H s -> Vals xs us -> r xs H Q →
  wpAny (model X.prog X.w) X.A (call f us) (EP X pins σ Q) X.xe s
def TruR (X:Cx) (r:V -> Hp -> (Bool -> Hp -> Prop) -> Prop):Prop :=
 ∀ (pins:List (Addr × Obj)) (s:Shared) (σ:St) (H:Hp) (x:V) (v:Value) (Q:Bool -> Hp -> Prop),Inv X pins σ H s -> RelV x v -> r x H Q →
  wpAny (model X.prog X.w) X.A (truthy v) (TP X pins σ Q) X.xe s
def tOp (r:R2) (ta tb:TE):TE:=fun σ H Q=>ta σ H fun x H1=>tb σ H1 fun y H2=>r x y H2 Q
def tUn (r:V -> Hp -> VK -> Prop) (ta:TE):TE:=fun σ H Q=>ta σ H fun x H1=>r x H1 Q
def rI (C:Int -> Int -> Prop) (g:Int -> Int -> V):R2:=fun x y H Q=>∃ i j,x = .int i /\ y = .int j /\ C i j /\ Q (g i j) H
def rI0 (g:Int -> Int -> V):R2:=fun x y H Q=>∃ i j,x = .int i /\ y = .int j /\ Q (g i j) H
def rU (g:Int -> V):V -> Hp -> VK -> Prop:=fun x H Q=>∃ i,x = .int i /\ Q (g i) H
section
variable {X:Cx} {a b c:Expr} {ta tb tc:TE} {pos:Pos}
theorem binT (ha:PE X a ta) (hb:PE X b tb) {pins:List (Addr × Obj)} {s:Shared} {σ:St} {H:Hp} {R:V -> V -> Hp -> Prop} (I:Inv X pins σ H s)
  (h:ta σ H fun x H1=>tb σ H1 fun y H2=>R x y H2) {Q:VS7} {f:Value -> Value -> Sem Value}
  (hf:∀ v u s2 x y H2,Inv X pins σ H2 s2 -> RelV x v -> RelV y u -> R x y H2 -> wpAny (model X.prog X.w) X.A (f v u) Q X.xe s2) :
  wpAny (model X.prog X.w) X.A (eval a X.env) (fun v s₁=>wpAny (model X.prog X.w) X.A (eval b X.env) (fun u s₂=>wpAny (model X.prog X.w) X.A (f v u) Q X.xe s₂) X.xe s₁) X.xe s:=by
 refine thn (ha pins s σ H _ I h) fun v s1 ⟨x,H1,I1,r1,q1⟩=>?_
 refine thn (hb pins s1 σ H1 _ I1 q1) fun u s2 ⟨y,H2,I2,r2,q2⟩=>?_
 exact hf v u s2 x y H2 I2 r1 r2 q2
theorem zo {op:Operator} {r:R2} (ho:OpR X (binaryOp op) r) (ha:PE X a ta) (hb:PE X b tb):PE X (.BinOp a op b pos) (tOp r ta tb):=by
 intro pins s σ H Q I h
 exact wpAny_BinOp (binT ha hb I h fun v u s2 x y H2 I2 rx ry q=>ho pins s2 σ H2 x y v u Q I2 rx ry q)
theorem jh {op:UnaryOp} {r:V -> Hp -> VK -> Prop} (ho:UnR X (unaryOp op) r) (ha:PE X a ta):PE X (.UnaryOp op a pos) (tUn r ta):=by
 intro pins s σ H Q I h
 exact UnaryOp_ (thn (ha pins s σ H _ I h) fun v s1 ⟨x,H1,I1,r1,q1⟩=>ho pins s1 σ H1 x v Q I1 r1 q1)
theorem opI {f:Value -> Value -> Sem Value} {C:Int -> Int -> Prop} {g:Int -> Int -> Int}
  (rule:∀ (i j:Int) (t u:Tok) (s:Shared) (Q:VS7) (E:VS7),C i j -> Q (.int (g i j) s.toks) { s with toks:=s.toks + 1 } -> wpAny (model X.prog X.w) X.A (f (.int i t) (.int j u)) Q E s) :
  OpR X f (rI C fun i j=>.int (g i j)):=by
 intro pins s σ H x y v u Q I rx ry h
 obtain ⟨i,j,rfl,rfl,hc,q⟩:=h
 obtain ⟨t,rfl⟩:=rx
 obtain ⟨t',rfl⟩:=ry
 exact rule i j t t' s _ _ hc ⟨.int (g i j),H,I.tok _,⟨_,rfl⟩,q⟩
theorem opI0 {f:Value -> Value -> Sem Value} {g:Int -> Int -> Int}
  (rule:∀ (i j:Int) (t u:Tok) (s:Shared) (Q:VS7) (E:VS7),Q (.int (g i j) s.toks) { s with toks:=s.toks + 1 } -> wpAny (model X.prog X.w) X.A (f (.int i t) (.int j u)) Q E s) :
  OpR X f (rI0 fun i j=>.int (g i j)):=by
 intro pins s σ H x y v u Q I rx ry h
 obtain ⟨i,j,rfl,rfl,q⟩:=h
 obtain ⟨t,rfl⟩:=rx
 obtain ⟨t',rfl⟩:=ry
 exact rule i j t t' s _ _ ⟨.int (g i j),H,I.tok _,⟨_,rfl⟩,q⟩
theorem opB0 {f:Value -> Value -> Sem Value} {g:Int -> Int -> Bool}
  (rule:∀ (i j:Int) (t u:Tok) (s:Shared) (Q:VS7) (E:VS7),Q (.bool (g i j)) s -> wpAny (model X.prog X.w) X.A (f (.int i t) (.int j u)) Q E s) :
  OpR X f (rI0 fun i j=>.bl (g i j)):=by
 intro pins s σ H x y v u Q I rx ry h
 obtain ⟨i,j,rfl,rfl,q⟩:=h
 obtain ⟨t,rfl⟩:=rx
 obtain ⟨t',rfl⟩:=ry
 exact rule i j t t' s _ _ ⟨.bl (g i j),H,I,rfl,q⟩
def CPow (i j:Int):Prop:=0 <= j /\ j <= 1000000 /\ i.natAbs < 2 ^ 64
theorem ZN (k:Nat):(0:Int) <= 2 ^ k:=by
 rw [two_pow_cast]
 exact Int.natCast_nonneg _
theorem yf:OpR X (binaryOp .Add) (rI0 fun i j=>.int (i + j)):=opI0 fun _ _ _ _ _ _ _ q=>add_int q
theorem yg:OpR X (binaryOp .Sub) (rI0 fun i j=>.int (i - j)):=opI0 fun _ _ _ _ _ _ _ q=>sub_int q
theorem vF:OpR X (binaryOp .Mod) (rI (fun _ j=>0 < j) fun i j=>.int (i % j)):=opI fun i j _ _ _ _ _ hc q=>by
 have h1:(0:Int) < j:=hc
 exact mod_int' (by omega) (by rw [Int.fmod_eq_emod_of_nonneg i (by omega)]; exact q)
theorem rN:OpR X (binaryOp .Pow) (rI CPow fun i j=>.int (i ^ j.toNat)):=opI fun _ _ _ _ _ _ _ hc q=>pow_int_small hc.1 hc.2.1 hc.2.2 q
theorem yH:OpR X (binaryOp .LShift) (rI CPow fun i j=>.int (i * 2 ^ j.toNat)):=opI fun _ _ _ _ _ _ _ hc q=>lshift_int_small hc.1 hc.2.1 hc.2.2 q
theorem YE:OpR X (binaryOp .RShift) (rI (fun _ j=>0 <= j) fun i j=>.int (i / 2 ^ j.toNat)):=opI fun i j _ _ _ _ _ hc q =>
 rshift_int hc (by rw [Int.fdiv_eq_ediv_of_nonneg i (ZN _)]; exact q)
theorem rO:OpR X (binaryOp .BitAnd) (rI0 fun i j=>.int (Builtin.bitAnd i j)):=opI0 fun _ _ _ _ _ _ _ q=>and_int q
theorem VC:OpR X (binaryOp .BitOr) (rI0 fun i j=>.int (Builtin.bitOr i j)):=opI0 fun _ _ _ _ _ _ _ q=>or_int q
theorem Vb:OpR X (binaryOp .BitXor) (rI0 fun i j=>.int (Builtin.bitXor i j)):=opI0 fun _ _ _ _ _ _ _ q=>xor_int q
theorem unI {f:Value -> Sem Value} {g:Int -> Int}
  (rule:∀ (i:Int) (t:Tok) (s:Shared) (Q:VS7) (E:VS7),Q (.int (g i) s.toks) { s with toks:=s.toks + 1 } -> wpAny (model X.prog X.w) X.A (f (.int i t)) Q E s) :
  UnR X f (rU fun i=>.int (g i)):=by
 intro pins s σ H x v Q I rx h
 obtain ⟨i,rfl,q⟩:=h
 obtain ⟨t,rfl⟩:=rx
 exact rule i t s _ _ ⟨.int (g i),H,I.tok _,⟨_,rfl⟩,q⟩
theorem vZ:UnR X (unaryOp .USub) (rU fun i=>.int (-i)):=unI fun _ _ _ _ _ q=>neg_int q
end
def scal:V -> V -> Bool
 | .non,.non=>true | .non,.int _=>true | .int _,.non=>true | .non,.bl _=>true | .bl _,.non=>true | .non,.str _=>true | .str _,.non=>true
 | .int _,.int _=>true | .bl _,.bl _=>true | .str _,.str _=>true | .byt _,.byt _=>true
 | .int _,.str _=>true | .str _,.int _=>true | .bl _,.str _=>true | .str _,.bl _=>true
 | _,_=>false
def rEq:R2:=fun x y H Q=>scal x y = true /\ Q (.bl (decide (x = y))) H
def rNe:R2:=fun x y H Q=>scal x y = true /\ Q (.bl (!decide (x = y))) H
theorem YF {i j:Int}:decide (V.int i = V.int j) = (i == j):=by
 rw [Bool.eq_iff_iff]
 simp
theorem Vc {i j:Bool}:decide (V.bl i = V.bl j) = (i == j):=by
 rw [Bool.eq_iff_iff]
 simp
theorem YG {i j:Str}:decide (V.str i = V.str j) = (i == j):=by
 rw [Bool.eq_iff_iff]
 simp
theorem YH {i j:Array UInt8}:decide (V.byt i = V.byt j) = (i.toList == j.toList):=by
 rw [Bool.eq_iff_iff]
 cases i
 cases j
 simp
section
variable {X:Cx} {a b c:Expr} {ta tb tc:TE} {pos:Pos}
theorem zV {pins:List (Addr × Obj)} {σ:St} {H:Hp} {s:Shared} {Q:VK} {k k':Bool} (I:Inv X pins σ H s) (q:Q (.bl k) H) (e:k = k'):EP X pins σ Q (.bool k') s:=by
 subst e
 exact ⟨.bl k,H,I,rfl,q⟩
theorem wF:OpR X (compareOp .Eq) rEq:=by
 intro pins s σ H x y v u Q I rx ry h
 obtain ⟨hs,q⟩:=h
 cases x with
 | non =>
  cases rx
  cases y with
  | non=>cases ry; exact PySem.EqNone.eq_none_none (zV I q (by simp))
  | bl j=>cases ry; exact PySem.EqNone.eq_none_bool (zV I q (by simp))
  | int j=>obtain ⟨t',rfl⟩:=ry; exact PySem.EqNone.eq_none_int (zV I q (by simp))
  | str j=>obtain ⟨t',rfl⟩:=ry; exact PySem.EqNone.eq_none_str (zV I q (by simp))
  | _=>exact absurd (show false = true from hs) Bool.false_ne_true
 | bl i =>
  cases rx
  cases y with
  | non=>cases ry; exact PySem.EqNone.eq_bool_none (zV I q (by simp))
  | bl j=>cases ry; exact eq_bool (zV I q Vc)
  | str j=>obtain ⟨t',rfl⟩:=ry; exact PySem.EqMixed.eq_bool_str (zV I q (by simp))
  | _=>exact absurd (show false = true from hs) Bool.false_ne_true
 | int i =>
  obtain ⟨t,rfl⟩:=rx
  cases y with
  | non=>cases ry; exact PySem.EqNone.eq_int_none (zV I q (by simp))
  | int j=>obtain ⟨t',rfl⟩:=ry; exact eq_int (zV I q YF)
  | str j=>obtain ⟨t',rfl⟩:=ry; exact PySem.EqMixed.eq_int_str (zV I q (by simp))
  | _=>exact absurd (show false = true from hs) Bool.false_ne_true
 | str i =>
  obtain ⟨t,rfl⟩:=rx
  cases y with
  | non=>cases ry; exact PySem.EqNone.eq_str_none (zV I q (by simp))
  | bl j=>cases ry; exact PySem.EqMixed.eq_str_bool (zV I q (by simp))
  | int j=>obtain ⟨t',rfl⟩:=ry; exact PySem.EqMixed.eq_str_int (zV I q (by simp))
  | str j=>obtain ⟨t',rfl⟩:=ry; exact eq_str (zV I q YG)
  | _=>exact absurd (show false = true from hs) Bool.false_ne_true
 | byt i =>
  obtain ⟨t,rfl⟩:=rx
  cases y with
  | byt j=>obtain ⟨t',rfl⟩:=ry; exact PySem.W.eq_bytes (zV I q YH)
  | _=>exact absurd (show false = true from hs) Bool.false_ne_true
 | _=>cases y <;> exact absurd (show false = true from hs) Bool.false_ne_true
theorem Wd:OpR X (compareOp .NotEq) rNe:=by
 intro pins s σ H x y v u Q I rx ry h
 obtain ⟨hs,q⟩:=h
 cases x with
 | non =>
  cases rx
  cases y with
  | non=>cases ry; exact PySem.EqNone.ne_none_none (zV I q (by simp))
  | bl j=>cases ry; exact PySem.EqNone.ne_none_bool (zV I q (by simp))
  | int j=>obtain ⟨t',rfl⟩:=ry; exact PySem.EqNone.ne_none_int (zV I q (by simp))
  | str j=>obtain ⟨t',rfl⟩:=ry; exact PySem.EqNone.ne_none_str (zV I q (by simp))
  | _=>exact absurd (show false = true from hs) Bool.false_ne_true
 | bl i =>
  cases rx
  cases y with
  | non=>cases ry; exact PySem.EqNone.ne_bool_none (zV I q (by simp))
  | bl j=>cases ry; exact ne_bool (zV I q (congrArg not Vc))
  | str j=>obtain ⟨t',rfl⟩:=ry; exact PySem.EqMixed.ne_bool_str (zV I q (by simp))
  | _=>exact absurd (show false = true from hs) Bool.false_ne_true
 | int i =>
  obtain ⟨t,rfl⟩:=rx
  cases y with
  | non=>cases ry; exact PySem.EqNone.ne_int_none (zV I q (by simp))
  | int j=>obtain ⟨t',rfl⟩:=ry; exact ne_int (zV I q (congrArg not YF))
  | str j=>obtain ⟨t',rfl⟩:=ry; exact PySem.EqMixed.ne_int_str (zV I q (by simp))
  | _=>exact absurd (show false = true from hs) Bool.false_ne_true
 | str i =>
  obtain ⟨t,rfl⟩:=rx
  cases y with
  | non=>cases ry; exact PySem.EqNone.ne_str_none (zV I q (by simp))
  | bl j=>cases ry; exact PySem.EqMixed.ne_str_bool (zV I q (by simp))
  | int j=>obtain ⟨t',rfl⟩:=ry; exact PySem.EqMixed.ne_str_int (zV I q (by simp))
  | str j=>obtain ⟨t',rfl⟩:=ry; exact ne_str (zV I q (congrArg not YG))
  | _=>exact absurd (show false = true from hs) Bool.false_ne_true
 | byt i =>
  obtain ⟨t,rfl⟩:=rx
  cases y with
  | byt j=>obtain ⟨t',rfl⟩:=ry; exact PySem.W.ne_bytes (zV I q (congrArg not YH))
  | _=>exact absurd (show false = true from hs) Bool.false_ne_true
 | _=>cases y <;> exact absurd (show false = true from hs) Bool.false_ne_true
theorem ua:OpR X (compareOp .Lt) (rI0 fun i j=>.bl (decide (i < j))):=opB0 fun _ _ _ _ _ _ _ q=>lt_int q
theorem We:OpR X (compareOp .LtE) (rI0 fun i j=>.bl (decide (i <= j))):=opB0 fun _ _ _ _ _ _ _ q=>le_int q
theorem rP:OpR X (compareOp .Gt) (rI0 fun i j=>.bl (decide (j < i))):=opB0 fun _ _ _ _ _ _ _ q=>gt_int q
theorem zG (b:Expr) {op:CmpOp} (h:op ≠ .In:=by decide) (h2:op ≠ .NotIn:=by decide):behindInMarks op b = false:=by
 have e1:(op == CmpOp.In) = false:=by cases op <;> first | rfl | exact absurd rfl h
 have e2:(op == CmpOp.NotIn) = false:=by cases op <;> first | rfl | exact absurd rfl h2
 cases b <;> simp [behindInMarks,e1,e2]
theorem xf {op:CmpOp} {r:R2} (ho:OpR X (compareOp op) r) (ha:PE X a ta) (hb:PE X b tb) (hm:behindInMarks op b = false):PE X (.Compare a [op] [b] pos) (tOp r ta tb):=by
 intro pins s σ H Q I h
 exact wpAny_Compare1 (binT ha hb I h fun v u s2 x y H2 I2 rx ry q=>ho pins s2 σ H2 x y v u Q I2 rx ry q) hm
def UC (t:TE):TT:=fun σ H Q=>t σ H fun x H'=>∃ k,x = .bl k /\ Q k H'
theorem zD {op:CmpOp} {r:R2} (ho:OpR X (compareOp op) r) (ha:PE X a ta) (hb:PE X b tb) (hm:behindInMarks op b = false):PT X (.Compare a [op] [b] pos) (UC (tOp r ta tb)):=by
 intro pins s σ H Q I h
 refine wpAny_isTrue_Compare1 (thn (ha pins s σ H _ I h) fun v s1 ⟨x,H1,I1,r1,q1⟩=>thn (hb pins s1 σ H1 _ I1 q1) fun u s2 ⟨y,H2,I2,r2,q2⟩ =>
  thn (ho pins s2 σ H2 x y v u _ I2 r1 r2 q2) fun c s3 ⟨z,H3,I3,r3,k,e,q3⟩=>?_) hm
 subst e
 cases r3
 exact wpAny_truthy_bool ⟨H3,I3,q3⟩
def Vd (r r':R2) (ta tb tc:TE):TE:=fun σ H Q=>ta σ H fun x H1=>tb σ H1 fun y H2=>r x y H2 fun z H3=>∃ k,z = .bl k ∧
 (if k = true then tc σ H3 fun w' H4=>r' y w' H4 Q else Q (.bl false) H3)
theorem Wf {op op':CmpOp} {r r':R2} (ho:OpR X (compareOp op) r) (ho':OpR X (compareOp op') r') (ha:PE X a ta) (hb:PE X b tb) (hc:PE X c tc)
  (hm:lastMarks [op,op'] [b,c] = false:=by with_unfolding_all rfl):PE X (.Compare a [op,op'] [b,c] pos) (Vd r r' ta tb tc):=by
 intro pins s σ H Q I h
 refine Compare_chain (thn (ha pins s σ H _ I h) fun v s1 ⟨x,H1,I1,r1,q1⟩=>chain_link (thn (hb pins s1 σ H1 _ I1 q1) fun u s2 ⟨y,H2,I2,r2,q2⟩ =>
  thn (ho pins s2 σ H2 x y v u _ I2 r1 r2 q2) fun d s3 ⟨z,H3,I3,r3,k,e,q3⟩=>?_)) hm
 subst e
 cases r3
 refine wpAny_truthy_bool ?_
 cases k with
 | false=>exact ite_ff ⟨.bl false,H3,I3,rfl,q3⟩
 | true=>exact ite_tt (chain_last (thn (hc pins s3 σ H3 _ I3 q3) fun w' s4 ⟨z',H4,I4,r4,q4⟩=>ho' pins s4 σ H4 y z' u w' Q I4 r2 r4 q4))
theorem Wg {op op':CmpOp} {r r':R2} (ho:OpR X (compareOp op) r) (ho':OpR X (compareOp op') r') (ha:PE X a ta) (hb:PE X b tb) (hc:PE X c tc)
  (hm:lastMarks [op,op'] [b,c] = false:=by with_unfolding_all rfl):PT X (.Compare a [op,op'] [b,c] pos) (UC (Vd r r' ta tb tc)):=by
 intro pins s σ H Q I h
 refine isTrue_chain (thn (ha pins s σ H _ I h) fun v s1 ⟨x,H1,I1,r1,q1⟩=>test_link (thn (hb pins s1 σ H1 _ I1 q1) fun u s2 ⟨y,H2,I2,r2,q2⟩ =>
  thn (ho pins s2 σ H2 x y v u _ I2 r1 r2 q2) fun d s3 ⟨z,H3,I3,r3,k,e,q3⟩=>?_)) hm
 subst e
 cases r3
 refine wpAny_truthy_bool ?_
 cases k with
 | false =>
  obtain ⟨k',e',q'⟩:=q3
  cases e'
  exact ite_ff ⟨H3,I3,q'⟩
 | true =>
  refine ite_tt (test_last (thn (hc pins s3 σ H3 _ I3 q3) fun w' s4 ⟨z',H4,I4,r4,q4⟩=>thn (ho' pins s4 σ H4 y z' u w' _ I4 r2 r4 q4) fun d' s5 ⟨z2,H5,I5,r5,k2,e2,q5⟩=>?_))
  subst e2
  cases r5
  exact wpAny_truthy_bool ⟨H5,I5,q5⟩
def TruV (K:FG7) (x:V) (H:Hp) (k:Bool):Prop :=
 match x with
 | .non=>k = false
 | .bl b=>k = b
 | .int i=>k = (i != 0)
 | .str y=>y.length <= sizeLine /\ k = ((y.length:Int) != 0)
 | .byt y=>y.size <= sizeLine /\ k = ((y.size:Int) != 0)
 | .ref p=>(∃ xs,SqL K H p xs /\ k = !xs.isEmpty) \/ (∃ xs,SqT K H p xs /\ k = !xs.isEmpty) \/ ∃ kvs,H p = some (.dK kvs) /\ k = !kvs.isEmpty
 | _=>False
theorem ZO {κ:Type} {kvs:List (κ × V)} {vs:List (κ × Value)} (r:KV kvs vs):(!vs.isEmpty) = !kvs.isEmpty:=by
 cases r <;> rfl
theorem tK {xs:List V} {its:List Value} (r:Vals xs its):(!its.toArray.isEmpty) = !xs.isEmpty:=by
 cases r <;> simp
theorem rQ:(sizeLine:Nat) < 2 ^ 63:=by rw [sizeLine_eq]; decide
theorem UD:TruR X (fun x H Q=>∃ k,TruV X.K x H k /\ Q k H):=by
 intro pins s σ H x v Q I rx h
 obtain ⟨k,e,q⟩:=h
 have hl:=rQ
 have hs:sizeLine = 16777216:=sizeLine_eq
 cases x with
 | non =>
  cases rx
  have e':k = false:=e
  subst e'
  exact truthy_none ⟨H,I,q⟩
 | bl b =>
  cases rx
  have e':k = b:=e
  subst e'
  exact wpAny_truthy_bool ⟨H,I,q⟩
 | int i =>
  obtain ⟨t,rfl⟩:=rx
  have e':k = (i != 0):=e
  subst e'
  exact PySem.P.truthy_int ⟨H,I,q⟩
 | str y =>
  obtain ⟨t,rfl⟩:=rx
  obtain ⟨hy,e'⟩:y.length <= sizeLine /\ k = ((y.length:Int) != 0):=e
  subst e'
  exact PySem.P.truthy_str (by omega) ⟨H,I.tok _,q⟩
 | byt y =>
  obtain ⟨t,rfl⟩:=rx
  obtain ⟨hy,e'⟩:y.size <= sizeLine /\ k = ((y.size:Int) != 0):=e
  subst e'
  exact PySem.W.truthy_bytes (by omega) ⟨H,I.tok _,q⟩
 | ref p =>
  cases rx
  have e':(∃ xs,SqL X.K H p xs /\ k = !xs.isEmpty) \/ (∃ xs,SqT X.K H p xs /\ k = !xs.isEmpty) \/ ∃ kvs,H p = some (.dK kvs) /\ k = !kvs.isEmpty:=e
  rcases e' with ⟨xs,hx,e'⟩ | ⟨xs,hx,e'⟩ | ⟨kvs,hx,e'⟩
  ·subst e'
   obtain ⟨its,r,pl,hz⟩:=I.list hx
   have hlen:=r.length
   exact wpAny_truthy_list pl.isList (by simp only [List.size_toArray]; omega) ⟨H,I.tok _,by rw [tK r]; exact q⟩
  ·subst e'
   obtain ⟨its,r,pl,hz⟩:=I.tuple hx
   have hlen:=r.length
   exact truthy_tuple pl (by simp only [List.size_toArray]; omega) ⟨H,I.tok _,by rw [tK r]; exact q⟩
  ·subst e'
   obtain ⟨hz,hS,vs,r,m⟩:kvs.length <= sizeLine /\ (p == sysModules) = false /\ ∃ vs,KV kvs vs /\ s.heap.DictOf (zM X.prog X.w) p vs:=I.hok p _ hx
   have hlen:kvs.length = vs.length:=Paired.length r
   exact wpAny_truthy_dict hS m (by omega) ⟨H,I.tok _,by rw [ZO r]; exact q⟩
 | _=>exact (show False from e).elim
theorem sB (ha:PE X a ta) (he:∀ whole,isTrue a X.env whole = (do let v ← whole; standAt a.pos; holding [v] (truthy v))) :
  PT X a (fun σ H Q=>ta σ H fun x H'=>∃ k,TruV X.K x H' k /\ Q k H'):=by
 intro pins s σ H Q I h
 exact isTrue_plain (thn (ha pins s σ H _ I h) fun v s1 ⟨x,H1,I1,r1,q1⟩=>UD pins s1 σ H1 x v Q I1 r1 q1) (he _)
theorem wG {x:V} {us:List Value} (r:Vals [x] us):∃ u,us = [u] /\ RelV x u:=by
 cases r with
 | cons r1 r2=>cases r2; exact ⟨_,rfl,r1⟩
theorem YI {x y:V} {us:List Value} (r:Vals [x,y] us):∃ u w',us = [u,w'] /\ RelV x u /\ RelV y w':=by
 cases r with
 | cons r1 r2 =>
  cases r2 with
  | cons r3 r4=>cases r4; exact ⟨_,_,rfl,r1,r3⟩
theorem ub (hc:X.calm = true):xV X (.builtin "max") (fun xs H Q=>∃ i j,xs = [.int i,.int j] /\ Q (.int (if j > i then j else i)) H):=by
 intro pins s σ H xs us Q I r h
 obtain ⟨i,j,rfl,q⟩:=h
 obtain ⟨u,w',rfl,⟨t,rfl⟩,⟨t',rfl⟩⟩:=YI r
 refine max_two_ints (I.ok.hd hc) fun h' tk k=>⟨_,H,I.kept k,?_,q⟩
 by_cases hj:j > i
 ·rw [if_pos hj,if_pos hj]; exact ⟨_,rfl⟩
 ·rw [if_neg hj,if_neg hj]; exact ⟨_,rfl⟩
theorem rR (hc:X.calm = true):xV X (.builtin "min") (fun xs H Q=>∃ i j,xs = [.int i,.int j] /\ Q (.int (if j < i then j else i)) H):=by
 intro pins s σ H xs us Q I r h
 obtain ⟨i,j,rfl,q⟩:=h
 obtain ⟨u,w',rfl,⟨t,rfl⟩,⟨t',rfl⟩⟩:=YI r
 refine min_two_ints (I.ok.hd hc) fun h' tk k=>⟨_,H,I.kept k,?_,q⟩
 by_cases hj:j < i
 ·rw [if_pos hj,if_pos hj]; exact ⟨_,rfl⟩
 ·rw [if_neg hj,if_neg hj]; exact ⟨_,rfl⟩
theorem wQ:xV X (.type "int") (fun xs H Q=>(∃ i,xs = [.int i] /\ Q (.int i) H) \/ ∃ k,xs = [.bl k] /\ Q (.int (if k then 1 else 0)) H):=by
 intro pins s σ H xs us Q I r h
 rcases h with ⟨i,rfl,q⟩ | ⟨k,rfl,q⟩
 ·obtain ⟨u,rfl,t,rfl⟩:=wG r
  exact call_int_int ⟨.int i,H,I,⟨_,rfl⟩,q⟩
 ·obtain ⟨u,rfl,r1⟩:=wG r
  cases r1
  exact call_int_bool ⟨.int (if k then 1 else 0),H,I.tok _,⟨_,rfl⟩,q⟩
end
end L2
namespace L2
open PySem PySem.Spec PyProof.Rows
structure ObjM (h:Heap) (x dx C:Addr) (mA:Str -> Option Value):Prop where
 obj:h.get? x = some (PySem.W.instObj C dx)
 ns:h.Ns1 dx mA
 ne:dx ≠ x
theorem YJ {h:Heap} {dx:Addr} {mA:Str -> Option Value} (n:h.Ns1 dx mA):∃ od,h.get? dx = some od /\ ∀ name,PySem.W.lookIn name od = some (mA name):=by
 obtain ⟨o,es,ep,ho,hd,hk,_,hm⟩:=n
 refine ⟨o,ho,fun name=>?_⟩
 have e:=hm name
 unfold nsFind findBy at e
 rw [← Array.find?_toList] at e
 unfold PySem.W.lookIn
 rw [hd]
 dsimp only
 split
 ·rename_i y q
  rw [q] at e
  exact congrArg some e
 ·rename_i q
  rw [q] at e
  have a:es.toList.any (·.refKey) = false:=by
   rw [List.any_eq_false]
   intro y hy
   obtain ⟨z,t,hkey⟩:=hk y (Array.mem_toList_iff.mp hy)
   simp [DictEntry.refKey,hkey]
  have a':¬ es.toList.any (·.refKey) = true:=by rw [a]; exact Bool.false_ne_true
  rw [if_neg a']
  exact congrArg some e
theorem ObjM.look {h:Heap} {x dx C:Addr} {mA:Str -> Option Value} (I:ObjM h x dx C mA):∃ od,PySem.W.InstAt h x (PySem.W.instObj C dx) C (some od) /\ ∀ name,PySem.W.lookIn name od = some (mA name) :=
 let ⟨od,ho,hl⟩:=YJ I.ns
 ⟨od,⟨I.obj,rfl,rfl,ho⟩,hl⟩
section
variable {prog:Program} {w:World} {A:Around} {E:VS7} {s:Shared} {K:FG7} {x dx C f:Addr} {mA:Str -> Option Value} {name:Str} {v:Value}
theorem VD {expr:Bool} {Q:VS7} (X:K.In s.heap) (I:ObjM s.heap x dx C mA) (hg:PySem.W.plainGet K C name = true) (hh:PySem.W.hasDictIn K C = true)
  (ha:PySem.W.findIn K (.ref C) name = some none) (hv:mA name = some v) (hv':PySem.W.handedIn v = true) (h:Q v { s with toks:=s.toks + 1 }) :
  wpAny (model prog w) A (getAttr (.ref x) name expr) Q E s:=by
 obtain ⟨od,J,hl⟩:=I.look
 exact PySem.W.get_value X J (PySem.W.plainGet_of hg).1 (PySem.W.findObj_own hh ha rfl (by rw [hl,hv])) hv' h
theorem Wh {pl:Sem Bool} {Q:Value × List Value -> Shared -> Prop} (X:K.In s.heap) (I:ObjM s.heap x dx C mA) (hg:PySem.W.plainGet K C name = true)
  (hf:PySem.W.findIn K (.ref C) name = some (some (.ref f))) (ht:PySem.W.isFn K (.ref f) = true) (hv:mA name = none) (h:Q (.ref f,[.ref x]) s) :
  wpAny (model prog w) A (getMethod (.ref x) name pl) Q E s:=by
 obtain ⟨od,J,hl⟩:=I.look
 exact PySem.W.method_fn X J (PySem.W.plainGet_of hg).1 (PySem.W.plainGet_of hg).2 hf (beq_iff_eq.mp ht) (by show (PySem.W.lookIn name od).map (·.isSome) = some false; rw [hl,hv]; rfl) h
theorem VE {ns:List Str} {Q:Unit -> Shared -> Prop} (X:K.In s.heap) (I:ObjM s.heap x dx C mA)
  (hs:PySem.W.findIn K (.ref C) "__setattr__" = some (some (.builtin "object.__setattr__"))) (hp:PySem.W.plainOver K C = true) (ht:PySem.W.takerIn K C name = some none) (hh:PySem.W.hasDictIn K C = true)
  (hw:PySem.Within mA ns) (hsz:ns.length <= sizeLine)
  (h:∀ h',ObjM h' x dx C (fun y=>if y = name then some v else mA y) -> Heap.SameBut dx s.heap h' -> Q () { s with heap:=h',toks:=s.toks + 2 }) :
  wpAny (model prog w) A (setAttr (.ref x) name v) Q E s:=by
 obtain ⟨od,J,hl⟩:=I.look
 refine PySem.W.set_plain X J hs (PySem.W.osa_open (s:={ s with toks:=s.toks + 1 }) (r:=none) X J hp ht fun b=>?_)
 obtain ⟨cd,hc,hd'⟩:=PySem.W.any_some hh
 have hx:s.heap.get? x = some ⟨.ref C,some dx,.plain,#[]⟩:=I.obj
 refine wpAny_bind (wpAny_pure (wpAny_bind (wpAny_bind (wpAny_loadPart hx (wpAny_bind (PySem.W.Looks.here (s:={ s with toks:=s.toks + 1 }) (PySem.W.looks_clsIn X hc) ?_))))))
 rw [hd']
 refine wpAny_pure (a:=some dx) (wpAny_bind (wpAny_pure (wpAny_bind ?_)))
 refine wpAny_nsSet1 (s:={ s with toks:=s.toks + 1 }) I.ns fun h' hn2 hs2=>?_
 obtain ⟨oD,esD,epD,hoD,hdD,hcD⟩:=hn2.count (PySem.Within.cons name v hw)
 refine wpAny_bind (wpAny_lookBehind hoD (by rw [hdD]; exact pastItsLine_dict (Nat.le_trans hcD (by rw [List.length_cons]; omega))) ?_)
 exact wpAny_pure (h _ ⟨(hs2.2 _ (Ne.symm I.ne)).trans I.obj,hn2,I.ne⟩ hs2)
theorem Wi {R:Result -> Shared -> Prop} {vs:List Value} {kw:List (Str × Value)} (X:K.In s.heap) (hm:PySem.W.makesIn K C = true)
  (hi:PySem.W.findIn K (.ref C) "__init__" = some (some (.ref f))) (hf:PySem.W.typeIn K (.ref f) = some (.type "function"))
  (h:codeAny (model prog w) (A.under (.builtin "type.__call__" ⟨.ref C :: vs,kw⟩)) (.call (.ref f) ⟨.ref (s.heap.objs.size + 1) :: vs,kw⟩) (PySem.W.InitBack (s.heap.objs.size + 1) R)
   { s with heap:=(s.heap.push PySem.W.emptyDict).push (PySem.W.instObj C s.heap.objs.size) }) :
  codeAny (model prog w) A (.call (.ref C) ⟨vs,kw⟩) R s:=by
 obtain ⟨hh,g,d,t,os⟩:=s
 exact PySem.W.make_core (PySem.W.makes_of X hm) (PySem.W.looks_findIn X hi) (fun self=>PySem.W.bind_fn X self hf) (.inl rfl) h
end
def putF (f:Str) (v:V):List (Str × V) -> List (Str × V)
 | []=>[(f,v)]
 | (g,x) :: r=>if g = f then (g,v) :: r else (g,x) :: putF f v r
theorem uc (f g:Str) (v:V):∀ fs:List (Str × V),(putF f v fs).lookup g = if g = f then some v else fs.lookup g
 | []=>by
  show List.lookup g [(f,v)] = _
  by_cases h:g = f
  ·have hb:(g == f) = true:=beq_iff_eq.mpr h
   simp only [List.lookup,hb,if_pos h]
  ·have hb:(g == f) = false:=beq_eq_false_iff_ne.mpr h
   simp only [List.lookup,hb,if_neg h]
 | (k,x) :: r=>by
  have ih:=uc f g v r
  rw [show putF f v ((k,x) :: r) = (if k = f then (k,v) :: r else (k,x) :: putF f v r) from rfl]
  by_cases hk:k = f
  ·rw [if_pos hk]
   by_cases h:g = k
   ·have hb:(g == k) = true:=beq_iff_eq.mpr h
    simp only [List.lookup,hb,if_pos (h.trans hk)]
   ·have hb:(g == k) = false:=beq_eq_false_iff_ne.mpr h
    simp only [List.lookup,hb,if_neg (fun e:g = f=>h (e.trans hk.symm))]
  ·rw [if_neg hk]
   by_cases h:g = k
   ·have hb:(g == k) = true:=beq_iff_eq.mpr h
    simp only [List.lookup,hb,if_neg (fun e:g = f=>hk (h.symm.trans e))]
   ·have hb:(g == k) = false:=beq_eq_false_iff_ne.mpr h
    simp only [List.lookup,hb]
    exact ih
theorem ud (f:Str) (v:V):∀ fs:List (Str × V),f ∈ (putF f v fs).map (·.1) /\ ∀ g,g ∈ fs.map (·.1) -> g ∈ (putF f v fs).map (·.1)
 | []=>⟨by simp [putF],fun g h=>by simp at h⟩
 | (k,x) :: r=>by
  obtain ⟨i1,i2⟩:=ud f v r
  rw [show putF f v ((k,x) :: r) = (if k = f then (k,v) :: r else (k,x) :: putF f v r) from rfl]
  by_cases hk:k = f
  ·rw [if_pos hk]
   subst hk
   exact ⟨by simp,fun g h=>by simpa using h⟩
  ·rw [if_neg hk]
   refine ⟨?_,fun g h=>?_⟩
   ·rw [List.map_cons]
    exact List.mem_cons_of_mem _ i1
   ·rw [List.map_cons] at h ⊢
    rcases List.mem_cons.mp h with e | e
    ·exact List.mem_cons.mpr (.inl e)
    ·exact List.mem_cons_of_mem _ (i2 g e)
theorem ue (f:Str) (v:V):∀ fs:List (Str × V),(putF f v fs).length <= fs.length + 1
 | []=>by simp [putF]
 | (k,x) :: r=>by
  have ih:=ue f v r
  rw [show putF f v ((k,x) :: r) = (if k = f then (k,v) :: r else (k,x) :: putF f v r) from rfl]
  by_cases hk:k = f
  ·rw [if_pos hk,List.length_cons,List.length_cons]; omega
  ·rw [if_neg hk,List.length_cons,List.length_cons]; omega
theorem RelO.some_of {v:V} {o:Option Value} (r:RelO (some v) o):∃ u,o = some u /\ RelV v u:=by
 cases o with
 | none=>exact (show False from r).elim
 | some u=>exact ⟨u,rfl,r⟩
theorem RelO.none_of {o:Option Value} (r:RelO none o):o = none:=by
 cases o with
 | none=>rfl
 | some u=>exact (show False from r).elim
theorem YK {v:V} {u:Value} (r:RelV v u):PySem.W.handedIn u = true:=by
 cases v with
 | non=>cases (show u = Value.none from r); rfl
 | bl b=>cases (show u = Value.bool b from r); rfl
 | int i=>obtain ⟨t,e⟩:=(show ∃ t,u = Value.int i t from r); cases e; rfl
 | str x=>obtain ⟨t,e⟩:=(show ∃ t,u = Value.str x t from r); cases e; rfl
 | byt b=>obtain ⟨t,e⟩:=(show ∃ t,u = Value.bytes b t from r); cases e; rfl
 | flt b=>obtain ⟨t,e⟩:=(show ∃ t,u = Value.float b t from r); cases e; rfl
 | ref a=>cases (show u = Value.ref a from r); rfl
 | ty n=>cases (show u = Value.type n from r); rfl
section
variable {P:Program} {w:World} {H H':Hp} {h h':Heap} {a C dx:Addr} {fs fs':List (Str × V)}
theorem sC (hok:HOk P w H h) (e:H a = some (.ins C dx fs)):∃ mA,ObjM h a dx C mA /\ (∀ f,RelO (fs.lookup f) (mA f)) /\ PySem.Within mA (fs.map (·.1)) /\ fs.length <= 1000 /\ H dx = some (.own a):=by
 obtain ⟨d,z,ne,ob,mA,n,r,q⟩:=(show yj P w H h a (.ins C dx fs) from hok a _ e)
 exact ⟨mA,⟨ob,n,ne⟩,r,q,z,d⟩
end
structure Cls (K:FG7) (C:Addr):Prop where
 pg:PySem.W.plainGet K C Str.empty = true
 hd:PySem.W.hasDictIn K C = true
 po:PySem.W.plainOver K C = true
 sa:PySem.W.findIn K (.ref C) "__setattr__" = some (some (.builtin "object.__setattr__"))
theorem Cls.get {K:FG7} {C:Addr} (c:Cls K C) (f:Str):PySem.W.plainGet K C f = true:=c.pg
def yI (K:FG7) (C:Addr) (f:Str):Prop:=PySem.W.findIn K (.ref C) f = some none
theorem yI.taker {K:FG7} {C:Addr} {f:Str} (n:yI K C f):PySem.W.takerIn K C f = some none:=by
 unfold PySem.W.takerIn
 rw [show PySem.W.findIn K (.ref C) f = some none from n]
 rfl
structure Meth (K:FG7) (C:Addr) (m:Str) (f:Addr):Prop where
 at_:PySem.W.findIn K (.ref C) m = some (some (.ref f))
 fn:PySem.W.isFn K (.ref f) = true
 kp:PySem.W.keepIn K (.ref f) = true
section
variable {X:Cx} {pins:List (Addr × Obj)} {σ:St} {H:Hp} {s:Shared} {a C dx:Addr} {fs:List (Str × V)} {f:Str} {v:V} {A:Around} {E:VS7}
theorem tL {b:Bool} {Q:VS7} (I:Inv X pins σ H s) (e:H a = some (.ins C dx fs)) (c:Cls X.K C) (n:yI X.K C f) (l:fs.lookup f = some v)
  (h:∀ u s',Inv X pins σ H s' -> RelV v u -> Q u s'):wpAny (model X.prog X.w) A (getAttr (.ref a) f b) Q E s:=by
 obtain ⟨mA,O,r,_,_,_⟩:=sC I.hok e
 obtain ⟨u,hu,ru⟩:=RelO.some_of (v:=v) (o:=mA f) (by rw [← l]; exact r f)
 exact VD I.kIn O (c.get f) c.hd n hu (YK ru) (h u _ (I.tok _) ru)
theorem tM {m:Str} {g:Addr} {pl:Sem Bool} {Q:Value × List Value -> Shared -> Prop} (I:Inv X pins σ H s) (e:H a = some (.ins C dx fs)) (c:Cls X.K C) (k:Meth X.K C m g) (l:fs.lookup m = none)
  (h:Q (.ref g,[.ref a]) s):wpAny (model X.prog X.w) A (getMethod (.ref a) m pl) Q E s:=by
 obtain ⟨mA,O,r,_,_,_⟩:=sC I.hok e
 have hn:mA m = none:=RelO.none_of (by rw [← l]; exact r m)
 exact Wh I.kIn O (c.get m) k.at_ k.fn hn h
theorem tN {y:V} {u:Value} {Q:Unit -> Shared -> Prop} (I:Inv X pins σ H s) (e:H a = some (.ins C dx fs)) (c:Cls X.K C) (n:yI X.K C f) (hl:fs.length < 1000) (ry:RelV y u)
  (h:∀ s',Inv X pins σ (upd H a (.ins C dx (putF f y fs))) s' -> Q () s'):wpAny (model X.prog X.w) A (setAttr (.ref a) f u) Q E s:=by
 obtain ⟨mA,O,r,wi,_,ho⟩:=sC I.hok e
 have hz:(fs.map (·.1)).length <= sizeLine:=by rw [List.length_map,sizeLine_eq]; omega
 refine VE I.kIn O c.sa c.po n.taker c.hd wi hz fun h' O' sb=>h _ ?_
 have hd:∃ o,h'.get? dx = some o:=let ⟨o,_,_,e',_⟩:=O'.ns; ⟨o,e'⟩
 refine I.write (x:=a) (e:=dx) (by rw [e]; exact True.intro) (.inr ho) (fun b q hb z=>(sb.2 b hb).trans z) hd ?_
 refine ⟨by rw [zu O.ne]; exact ho,?_,O.ne,O'.obj,_,O'.ns,fun g=>?_,fun g hg=>?_⟩
 ·have:=ue f y fs; omega
 ·show RelO ((putF f y fs).lookup g) (if g = f then some u else mA g)
  rw [uc]
  by_cases q:g = f
  ·rw [if_pos q,if_pos q]; exact ry
  ·rw [if_neg q,if_neg q]; exact r g
 ·by_cases q:g = f
  ·rw [q]; exact (ud f y fs).1
  ·refine (ud f y fs).2 g (wi g fun z=>hg ?_)
   show (if g = f then some u else mA g) = none
   rw [if_neg q]; exact z
theorem Inv.made (I:Inv X pins σ H s):Inv X pins σ (upd (upd H s.heap.objs.size (.own (s.heap.objs.size + 1))) (s.heap.objs.size + 1) (.ins C s.heap.objs.size []))
  { s with heap:=(s.heap.push PySem.W.emptyDict).push (PySem.W.instObj C s.heap.objs.size) }:=by
 have e1:(s.heap.push PySem.W.emptyDict).get? s.heap.objs.size = some PySem.W.emptyDict:=Heap.get?_push_size s.heap rfl
 have e2:((s.heap.push PySem.W.emptyDict).push (PySem.W.instObj C s.heap.objs.size)).get? (s.heap.objs.size + 1) = some (PySem.W.instObj C s.heap.objs.size):=by
  have:=Heap.get?_push_size (s.heap.push PySem.W.emptyDict) (o:=PySem.W.instObj C s.heap.objs.size) rfl
  rwa [Heap.size_push] at this
 have e3:(s.heap.push PySem.W.emptyDict).Ns s.heap.objs.size (fun _=>none):=⟨PySem.W.emptyDict,#[],_,e1,rfl,(fun e he=>absurd he (by simp)),fun _=>rfl⟩
 have I1:=I.laid (a:=s.heap.objs.size) (o:=.own (s.heap.objs.size + 1)) (h':=s.heap.push PySem.W.emptyDict) (t':=s.toks) (fun b u q=>Heap.get?_push_of_some _ q) (Nat.le_refl _) ⟨_,e1⟩
 refine I1.laid (a:=s.heap.objs.size + 1) (o:=.ins C s.heap.objs.size []) (t':=s.toks) (fun b u q=>Heap.get?_push_of_some _ q) (Nat.le_of_eq (Heap.size_push _ _)) ?_
 have ne:s.heap.objs.size ≠ s.heap.objs.size + 1:=Nat.ne_of_lt (Nat.lt_succ_self _)
 refine ⟨by rw [zu ne,zd],Nat.zero_le _,ne,e2,fun _=>none,(Heap.Ns1.of_empty e3).at fun o q=>Heap.get?_push_of_some _ q,fun _=>True.intro,fun y hy=>absurd rfl hy⟩
theorem VF {prog:Program} {w:World} {env:Env} {e:Expr} {f:Str} {pos:Pos} {s:Shared} {Q:VS7} (hb:attributeBase e f env (eval e env) = eval e env)
  (h:wpAny (model prog w) A (eval e env) (fun o s₁=>wpAny (model prog w) A (getAttr o f true) Q E s₁) E s):wpAny (model prog w) A (eval (.Attribute e f pos) env) Q E s :=
 Attribute_any_ h (by rw [arm_eval_Attribute,hb])
end
def tFld (K:FG7) (ta:TE) (f:Str):TE:=fun σ H Q=>ta σ H fun x H1=>∃ a C dx fs v,x = .ref a /\ H1 a = some (.ins C dx fs) /\ Cls K C /\ yI K C f /\ fs.lookup f = some v /\ Q v H1
def sFld (K:FG7) (ta tv:TE) (f:Str):TS:=fun D σ H=>tv σ H fun y H1=>ta σ H1 fun x H2=>∃ a C dx fs,x = .ref a /\ H2 a = some (.ins C dx fs) /\ Cls K C /\ yI K C f /\ fs.length < 1000 ∧
 D.nx σ (upd H2 a (.ins C dx (putF f y fs)))
def InOp (X:Cx) (op:Operator) (rd:V -> V -> Hp -> VK -> Prop):Prop :=
 ∀ (pins:List (Addr × Obj)) (s:Shared) (σ:St) (H:Hp) (x y:V) (u v:Value) (Q:VK),Inv X pins σ H s -> RelV x u -> RelV y v -> rd x y H Q -> wpAny (model X.prog X.w) X.A (inplaceOp op u v) (EP X pins σ Q) X.xe s
def VG (K:FG7) (ta tv:TE) (rd:V -> V -> Hp -> VK -> Prop) (f:Str):TS:=fun D σ H=>ta σ H fun x H1=>∃ a C dx fs v,x = .ref a /\ H1 a = some (.ins C dx fs) /\ Cls K C /\ yI K C f /\ fs.lookup f = some v ∧
 tv σ H1 fun y H2=>rd v y H2 fun z H3=>∃ dx' fs',H3 a = some (.ins C dx' fs') /\ fs'.length < 1000 /\ D.nx σ (upd H3 a (.ins C dx' (putF f z fs')))
section
variable {X:Cx} {o e value:Expr} {f:Str} {pos pos' tpos:Pos} {ta tv:TE}
theorem zE (he:PE X e ta) (hb:attributeBase e f X.env (eval e X.env) = eval e X.env):PE X (.Attribute e f pos) (tFld X.K ta f):=by
 intro pins s σ H Q I h
 refine VF hb (thn (he pins s σ H _ I h) fun u s1 ⟨x,H1,I1,rx,a,C,dx,fs,v,ex,ea,c,n,l,q⟩=>?_)
 subst ex
 obtain rfl:u = Value.ref a:=rx
 exact tL I1 ea c n l fun u' s2 I2 ru=>⟨v,H1,I2,ru,q⟩
theorem xS (ha:PE X o ta) (hv:PE X value tv) (hs:swapsWith value (some (.Attribute o f pos')) pos.line X.env = pure false):PS X (.Assign [.Attribute o f pos'] value pos) (sFld X.K ta tv f):=by
 intro pins s σ H D I h
 refine plainObj_wpAny_Assign_Attribute (thn (hv pins s σ H _ I h) fun u s1 ⟨y,H1,I1,ry,q⟩=>thn (ha pins s1 σ H1 _ I1 q) fun ov s2 ⟨x,H2,I2,rx,a,C,dx,fs,ex,ea,c,n,l,q2⟩=>?_) hs
 subst ex
 obtain rfl:ov = Value.ref a:=rx
 exact tN I2 ea c n l ry fun s3 I3=>⟨σ,_,I3,q2⟩
theorem YL {op:Operator} {rd:V -> V -> Hp -> VK -> Prop} (ha:PE X o ta) (hv:PE X value tv) (hop:InOp X op rd):PS X (.AugAssign (.Attribute o f tpos) op value pos) (VG X.K ta tv rd f):=by
 intro pins s σ H D I h
 refine wpAny_AugAssign_AttributeAny (thn (ha pins s σ H _ I h) fun ov s1 ⟨x,H1,I1,rx,a,C,dx,fs,v,ex,ea,c,n,l,q⟩=>?_)
 subst ex
 obtain rfl:ov = Value.ref a:=rx
 refine tL I1 ea c n l fun u s2 I2 ru=>thn (hv pins s2 σ H1 _ I2 q) fun w3 s3 ⟨y,H2,I3,ry,q3⟩=>thn (hop pins s3 σ H2 v y u w3 _ I3 ru ry q3) fun w4 s4 ⟨z,H3,I4,rz,dx',fs',ea',l',q4⟩=>?_
 exact tN I4 ea' c n l' rz fun s5 I5=>⟨σ,_,I5,q4⟩
end
section
variable {X:Cx} {pins:List (Addr × Obj)} {σ:St} {H:Hp} {s:Shared} {A:Around} {E:VS7} {Q:VS7} {c:Value} {b:Bool}
inductive TyOf (K:FG7) (H:Hp):V -> Value -> Prop where
 | non:TyOf K H .non (.type "NoneType")
 | bl (x:Bool):TyOf K H (.bl x) (.type "bool")
 | int (i:Int):TyOf K H (.int i) (.type "int")
 | str (x:Str):TyOf K H (.str x) (.type "str")
 | flt (x:UInt64):TyOf K H (.flt x) (.type "float")
 | lst {a:Addr} {xs:List V} (e:H a = some (.lst xs)):TyOf K H (.ref a) (.type "list")
 | frz {a:Addr} {o:Obj} {xs:List V} (e:H a = some (.frz o (.lst xs))):TyOf K H (.ref a) (.type "list")
 | tup {a:Addr} {xs:List V} (e:H a = some (.tup xs)):TyOf K H (.ref a) (.type "tuple")
 | dK {a:Addr} {kvs:List (Key × V)} (e:H a = some (.dK kvs)):TyOf K H (.ref a) (.type "dict")
 | dT {a:Addr} {kvs:List (List Key × V)} (e:H a = some (.dT kvs)):TyOf K H (.ref a) (.type "dict")
 | ins {a C dx:Addr} {fs:List (Str × V)} (e:H a = some (.ins C dx fs)) (cl:Cls K C) (ha:PySem.W.findIn K (.ref C) "__class__" = some (some (.builtin "object.__class__")))
   (hn:PySem.W.specialIn K (.builtin "object.__class__") "__get__" = some (some (.builtin "getset_descriptor.__get__"))) (htk:PySem.W.takesIn K (.builtin "object.__class__") = some true)
   (hm:PySem.W.mroIn K C (.type "object") = some true):TyOf K H (.ref a) (.ref C)
theorem xX {x:V} {u t:Value} (I:Inv X pins σ H s) (rx:RelV x u) (ty:TyOf X.K H x t) (e:PySem.W.kitOne X.K t c = some b) (h:∀ tk,Q (.bool b) { s with toks:=tk }) :
  wpAny (model X.prog X.w) A (call (.builtin "isinstance") [u,c]) Q E s:=by
 cases ty with
 | non=>cases (show u = Value.none from rx); exact PySem.W.kia_one PySem.W.kitx_none I.kIn True.intro e (fun z=>nomatch z) h
 | bl y=>cases (show u = Value.bool y from rx); exact PySem.W.kia_one PySem.W.kitx_bool I.kIn True.intro e (fun z=>nomatch z) h
 | int i=>obtain ⟨t,q⟩:=(show ∃ t,u = Value.int i t from rx); cases q; exact PySem.W.kia_one PySem.W.kitx_int I.kIn True.intro e (fun z=>nomatch z) h
 | str y=>obtain ⟨t,q⟩:=(show ∃ t,u = Value.str y t from rx); cases q; exact PySem.W.kia_one PySem.W.kitx_str I.kIn True.intro e (fun z=>nomatch z) h
 | flt y=>obtain ⟨t,q⟩:=(show ∃ t,u = Value.float y t from rx); cases q; exact PySem.W.kia_one PySem.W.kitx_float I.kIn True.intro e (fun z=>nomatch z) h
 | @lst a xs ea =>
  cases (show u = Value.ref a from rx)
  obtain ⟨_,_,n,_,h1⟩:=(show yj X.prog X.w H s.heap a (.lst xs) from I.hok a _ ea)
  exact PySem.W.kia_one PySem.W.kitx_list I.kIn ⟨_,h1,rfl⟩ e (fun z=>nomatch z) h
 | @frz a ob xs ea =>
  cases (show u = Value.ref a from rx)
  obtain ⟨_,_,_,n,_,h1⟩:=(show yj X.prog X.w H s.heap a (.frz ob (.lst xs)) from I.hok a _ ea)
  exact PySem.W.kia_one PySem.W.kitx_list I.kIn ⟨_,h1,rfl⟩ e (fun z=>nomatch z) h
 | @tup a xs ea =>
  cases (show u = Value.ref a from rx)
  obtain ⟨_,_,_,p⟩:=(show yj X.prog X.w H s.heap a (.tup xs) from I.hok a _ ea)
  obtain ⟨o,h1,h2,_⟩:=p
  exact PySem.W.kia_one PySem.W.kitx_tuple I.kIn ⟨o,h1,h2⟩ e (fun z=>nomatch z) h
 | @dK a kvs ea =>
  cases (show u = Value.ref a from rx)
  obtain ⟨_,_,vs,_,p⟩:=(show yj X.prog X.w H s.heap a (.dK kvs) from I.hok a _ ea)
  obtain ⟨o,es,ep,h1,h2,_⟩:=p
  exact PySem.W.kia_one PySem.W.kitx_dict I.kIn ⟨o,h1,h2.1⟩ e (fun z=>nomatch z) h
 | @dT a kvs ea =>
  cases (show u = Value.ref a from rx)
  obtain ⟨_,_,xs,_,o,es,ep,h1,h2,_⟩:=(show yj X.prog X.w H s.heap a (.dT kvs) from I.hok a _ ea)
  exact PySem.W.kia_one PySem.W.kitx_dict I.kIn ⟨o,h1,h2.1⟩ e (fun z=>nomatch z) h
 | @ins a C dx fs ea cl ha hn htk hm =>
  cases (show u = Value.ref a from rx)
  obtain ⟨mA,O,_⟩:=sC I.hok ea
  obtain ⟨od,J,_⟩:=O.look
  exact PySem.W.kia_one (PySem.W.kitx_own (cl.get _) cl.hd ha hn htk hm) I.kIn J e (fun z=>nomatch z) h
end
end L2
namespace L2
open PySem PySem.Spec PyProof.Rows
structure Room (k:Nat) (A:Around):Prop where
 hd:A.handled = none
 dp:A.depth + 3 * k + 5 < recursionLimit
 un:A.units + 16 * k + 200 < cLine
 gd:A.guards = some []
theorem Room.mono {j k:Nat} {A:Around} (r:Room k A) (h:j <= k):Room j A:=⟨r.hd,by have:=r.dp; omega,by have:=r.un; omega,r.gd⟩
theorem Room.deeper {k:Nat} {A:Around} (r:Room (k + 1) A) (env:Env):Room k (A.deeper env) :=
 ⟨r.hd,by have:=r.dp; show A.depth + 1 + 3 * k + 5 < _; omega,by have:=r.un; show A.units + 3 + 16 * k + 200 < _; omega,r.gd⟩
theorem ZP {A:Around} {C:Addr} {us:List Value} {kw:List (Str × Value)}:(A.under (.builtin "type.__call__" ⟨.ref C :: us,kw⟩)).depth = A.depth + 1:=by
 first | rfl | simp [Around.under,Code.weight,Code.isCreation,Code.isGuard,Code.isCaller,Code.frames,Code.isFrame,guardIds]
theorem ZQ {A:Around} {C:Addr} {us:List Value} {kw:List (Str × Value)}:(A.under (.builtin "type.__call__" ⟨.ref C :: us,kw⟩)).units = A.units + 1:=by
 first | rfl | simp [Around.under,Code.cUnits,Code.frames,Code.isFrame]
theorem Room.make {k:Nat} {A:Around} (r:Room (k + 1) A) (C:Addr) (us:List Value) (kw:List (Str × Value)):Room k (A.under (.builtin "type.__call__" ⟨.ref C :: us,kw⟩)) :=
 ⟨r.hd,by have:=r.dp; rw [ZP]; omega,by have:=r.un; rw [ZQ]; omega,r.gd⟩
theorem Room.depth {k:Nat} {A:Around} (r:Room k A):A.depth < recursionLimit:=by have:=r.dp; omega
theorem Room.units0 {k:Nat} {A:Around} (r:Room k A):A.units < cLine:=by have:=r.un; omega
def tNil:TA:=fun _ H Q=>Q [] H
def TC (ta:TE) (tr:TA):TA:=fun σ H Q=>ta σ H fun x H1=>tr σ H1 fun xs H2=>Q (x :: xs) H2
section
variable {X:Cx} {e:Expr} {es:List Expr} {te:TE} {t:TA} {pos:Pos}
theorem zb:PA X [] tNil:=fun _ _ _ _ H Q I h=>Calls.spliced_nil ⟨[],H,I,.nil,h⟩
theorem za (ha:PE X e te) (hr:PA X es t) (hs:starEach (e :: es) X.env = (false,eval e X.env) :: starEach es X.env:=by rfl):PA X (e :: es) (TC te t):=by
 intro pos pins s σ H Q I h
 rw [hs]
 show wpAny _ _ (spliced ((false,eval e X.env) :: backTo pos (starEach es X.env))) _ _ s
 refine Calls.spliced_cons (thn (ha pins s σ H _ I h) fun u s1 ⟨x,H1,I1,r1,q1⟩=>?_)
 exact thn (hr pos pins s1 σ H1 _ I1 q1) fun us s2 ⟨xs,H2,I2,r2,q2⟩=>⟨x :: xs,H2,I2,.cons r1 r2,q2⟩
def tTup (t:TA):TE:=fun σ H Q=>t σ H fun xs H1=>xs.length <= sizeLine /\ ∀ p,H1 p = none -> Q (.ref p) (upd H1 p (.tup xs))
def tLst (t:TA):TE:=fun σ H Q=>t σ H fun xs H1=>xs.length <= sizeLine /\ ∀ p,H1 p = none -> Q (.ref p) (upd H1 p (.lst xs))
theorem zO {x1} (h:PA X es t):PE X (.Tuple es x1 pos) (tTup t):=by
 intro pins s σ H Q I hq
 refine wpAny_Tuple_spliced (thn (h pos pins s σ H _ I hq) fun us s1 ⟨xs,H1,I1,r,z,q⟩=>⟨by rw [← r.length]; exact z,?_⟩)
 have hf:H1 s1.heap.objs.size = none:=I1.hok.fresh (Nat.le_refl _)
 refine ⟨.ref s1.heap.objs.size,upd H1 s1.heap.objs.size (.tup xs),I1.laid (t':=s1.toks) (fun b u e=>Heap.get?_push_of_some _ e) (Nat.le_refl _) ?_,rfl,q _ hf⟩
 exact ⟨z,us,r,⟨_,Heap.get?_push_size _ rfl,rfl,_,rfl⟩⟩
theorem yF (h:PA X es t):PE X (.List es pos) (tLst t):=by
 intro pins s σ H Q I hq
 refine wpAny_List_spliced (thn (h pos pins s σ H _ I hq) fun us s1 ⟨xs,H1,I1,r,z,q⟩=>⟨by rw [← r.length]; exact z,?_⟩)
 have hf:H1 s1.heap.objs.size = none:=I1.hok.fresh (Nat.le_refl _)
 refine ⟨.ref s1.heap.objs.size,upd H1 s1.heap.objs.size (.lst xs),I1.laid (t':=s1.toks) (fun b u e=>Heap.get?_push_of_some _ e) (Nat.le_refl _) ?_,rfl,q _ hf⟩
 exact ⟨z,us,0,r,Heap.get?_push_size _ rfl⟩
end
abbrev Sp:=List V -> Hp -> VK -> XK -> Prop
abbrev CXT:=List Env -> Hp -> Shared -> XK -> Value -> Shared -> Prop
structure Env0 (P:Program) (w:World) (K:FG7) (mg:Str -> Option Value) (base:Heap) (A:Around) (outer:List Env) (s:Shared) (H:Hp):Prop where
 frames:A.frames = some outer
 mod:Mod K mg base
 bs:∀ b o,base.get? b = some o -> s.heap.get? b = some o /\ H b = none
 bsz:base.objs.size <= s.heap.objs.size
 funs:s.heap.FunFrames base outer
 frf:∀ b ∈ frs outer,H b = none
 hok:HOk P w H s.heap
 bare:AllBare s.gens
def CE (outer:List Env) (P:Program) (w:World) (H:Hp) (s:Shared) (Q:VK) (u:Value) (s':Shared):Prop :=
 ∃ v H',s'.os = s.os /\ AllBare s'.gens /\ Un (frs outer) [] H H' s.heap s'.heap /\ HOk P w H' s'.heap /\ RelV v u /\ Q v H'
def CR (CX:CXT) (outer:List Env) (P:Program) (w:World) (H:Hp) (s:Shared) (Q:VK) (E:XK) (r:Result) (s':Shared):Prop :=
 match r with
 | .ok (.ret u)=>CE outer P w H s Q u s'
 | .ok _=>False
 | .error e=>CX outer H s E e s'
structure FnOk (P:Program) (w:World) (K:FG7) (mg:Str -> Option Value) (base:Heap) (CX:CXT) (k:Nat) (f:Addr) (fd:FuncData) (ps:List Str) (sp:Sp):Prop where
 len:∀ vs H Q E,sp vs H Q E -> vs.length = ps.length
 run:∀ (A:Around) (outer:List Env) (s:Shared) (H:Hp) (args:Args) (us:List Value) (vs:List V) (Q:VK) (E:XK),Room k A -> Env0 P w K mg base A outer s H -> BindsTo s fd args (ps.zip us) -> Vals vs us -> sp vs H Q E →
  codeAny (model P w) A (.call (.ref f) args) (CR CX outer P w H s Q E) s
theorem FnOk.mono {P:Program} {w:World} {K:FG7} {mg:Str -> Option Value} {base:Heap} {CX:CXT} {j k:Nat} {f:Addr} {fd:FuncData} {ps:List Str} {sp:Sp} (F:FnOk P w K mg base CX j f fd ps sp) (h:j <= k) :
  FnOk P w K mg base CX k f fd ps sp:=⟨F.len,fun A outer s H args us vs Q E hr=>F.run A outer s H args us vs Q E (hr.mono h)⟩
theorem Env0.make {P:Program} {w:World} {K:FG7} {mg:Str -> Option Value} {base:Heap} {A:Around} {outer:List Env} {s:Shared} {H:Hp} (e:Env0 P w K mg base A outer s H) (C:Addr) (us:List Value) (kw:List (Str × Value)) :
  Env0 P w K mg base (A.under (.builtin "type.__call__" ⟨.ref C :: us,kw⟩)) outer s H:=⟨by first | exact e.frames | (simpa [Around.under,Code.envs,Code.isFrame,pushEnvs] using e.frames),e.mod,e.bs,e.bsz,e.funs,e.frf,e.hok,e.bare⟩
section
variable {X:Cx} {pins:List (Addr × Obj)} {σ:St} {H:Hp} {s s':Shared}
theorem Inv.env0 (I:Inv X pins σ H s):Env0 X.prog X.w X.K X.mg X.base X.A X.stack s H :=
 ⟨I.ok.frames,I.ok.mod,I.bs,Nat.le_trans I.ok.bsz I.sz,I.stack,I.stkFree,I.hok,I.bare⟩
theorem Inv.after {Q:VK} {u:Value} (I:Inv X pins σ H s) (h:CE X.stack X.prog X.w H s Q u s'):EP X pins σ Q u s':=by
 obtain ⟨v,H',os,bare,un,hok,r,q⟩:=h
 obtain ⟨hh,g,d,t,os'⟩:=s'
 obtain rfl:os' = s.os:=os
 exact ⟨v,H',I.call (h':=hh) (g':=g) (d':=d) (t':=t) (ch:=[]) un hok bare (fun b z=>absurd z (by simp)),r,q⟩
end
def UE (sp:Sp) (dvs:List V) (E:XK) (t:TA):TE:=fun σ H Q=>t σ H fun vs H1=>sp (vs ++ dvs) H1 Q E
def Wj (C:Addr) (m:Str) (sp:Sp) (dvs:List V) (E:XK) (ta:TE) (t:TA):TE:=fun σ H Q=>ta σ H fun x H1=>∃ a dx fs,x = .ref a /\ H1 a = some (.ins C dx fs) /\ fs.lookup m = none ∧
 t σ H1 fun vs H2=>sp (x :: (vs ++ dvs)) H2 Q E
def UF (C:Addr) (sp:Sp) (dvs:List V) (E:XK) (t:TA):TE:=fun σ H Q=>t σ H fun vs H1=>∀ x dx,H1 x = none -> H1 dx = none -> dx ≠ x →
 sp (.ref x :: (vs ++ dvs)) (upd (upd H1 dx (.own x)) x (.ins C dx [])) (fun v H2=>v = .non /\ Q (.ref x) H2) E
def xY (K:FG7) (fd:FuncData) (ps:List Str) (ds:List Value):Prop :=
 ∀ (s:Shared) (us:List Value),K.In s.heap -> (us ++ ds).length = ps.length -> BindsTo s fd ⟨us,[]⟩ (ps.zip (us ++ ds))
theorem xY.all {K:FG7} {fd:FuncData} {ps:List Str} (h:∀ us:List Value,us.length = ps.length -> bindArgs fd ⟨us,[]⟩ = pure (ps.zip us)):xY K fd ps []:=fun s us _ hl=>by
 rw [List.append_nil] at hl ⊢
 exact .of_eq (h us hl)
def uf (CX:CXT) (X:Cx) (E:XK):Prop:=∀ (pins:List (Addr × Obj)) (σ:St) (H:Hp) (s:Shared) (e:Value) (s':Shared),Inv X pins σ H s -> CX X.stack H s E e s' -> X.xe e s'
section
variable {X:Cx} {CX:CXT} {k:Nat} {f C:Addr} {fd:FuncData} {ps:List Str} {sp:Sp} {dvs:List V} {ds:List Value} {E:XK} {x m:Str} {p pos apos:Pos} {e o:Expr} {es:List Expr} {ta:TE} {t:TA}
theorem YM {pins:List (Addr × Obj)} {σ:St} {H:Hp} {s:Shared} {Q:VK} {us:List Value} {vs:List V} (F:FnOk X.prog X.w X.K X.mg X.base CX k f fd ps sp) (hr:Room k X.A) (hb:xY X.K fd ps ds) (hd:Vals dvs ds) (hx:uf CX X E)
  (I:Inv X pins σ H s) (r:Vals vs us) (h:sp (vs ++ dvs) H Q E):wpAny (model X.prog X.w) X.A (call (.ref f) us) (EP X pins σ Q) X.xe s:=by
 have r2:Vals (vs ++ dvs) (us ++ ds):=r.append hd
 have hl:(us ++ ds).length = ps.length:=by rw [← r2.length]; exact F.len _ _ _ _ h
 refine wpAny_call (codeAny_mono (F.run X.A X.stack s H ⟨us,[]⟩ (us ++ ds) (vs ++ dvs) Q E hr I.env0 (hb s us I.kIn hl) r2 h) fun r s' hq=>?_)
 cases r with
 | error e=>exact hx pins σ H s e s' I hq
 | ok fl =>
  cases fl with
  | ret u=>exact I.after hq
  | next=>exact False.elim hq
  | brk=>exact False.elim hq
  | cont=>exact False.elim hq
theorem VH (F:FnOk X.prog X.w X.K X.mg X.base CX k f fd ps sp) (hr:Room k X.A) (hg:Gl X x) (hm:X.mg x = some (.ref f)) (hk:PySem.W.keepIn X.K (.ref f) = true) (hb:xY X.K fd ps ds) (hd:Vals dvs ds) (hx:uf CX X E)
  (ha:PA X (e :: es) t) (hdb:(x == ("__debug__":Str)) = false:=by decide) (he:starEach (e :: es) X.env = (false,eval e X.env) :: starEach es X.env:=by rfl) (hpl:(backTo pos (starEach es X.env)).any (·.1) = false:=by rfl) :
  PE X (.Call (.Name x p) (e :: es) [] pos) (UE sp dvs E t):=by
 intro pins s σ H Q I h
 refine wpAny_Call_Name_kw (jg I hg hm ?_ hdb)
 refine PySem.W.callWith_K (h₀:=X.base) I.ok.mod.kin hk (thn (ha pos pins s σ H _ I h) fun us s1 ⟨vs,H1,I1,r,q⟩=>⟨I1.kIn,?_⟩) he hpl
 exact YM F hr hb hd hx I1 r q
theorem VI {pl:Sem Bool} (he:PE X o ta) (c:Cls X.K C) (hm:Meth X.K C m f) (F:FnOk X.prog X.w X.K X.mg X.base CX k f fd ps sp) (hr:Room k X.A) (hb:xY X.K fd ps ds) (hd:Vals dvs ds) (hx:uf CX X E) (ha:PA X (e :: es) t)
  (hst:starEach (e :: es) X.env = (false,eval e X.env) :: starEach es X.env:=by rfl) (hpl:(backTo pos (starEach es X.env)).any (·.1) = false:=by rfl)
  (ht:eval (.Call (.Attribute o m apos) (e :: es) [] pos) X.env = (do
   let ov ← eval o X.env
   standAt apos.atName
   let (f,first) ← holding [ov] (getMethod ov m pl)
   callWith pos f first (backTo pos (starEach (e :: es) X.env)) (backToKw pos (keywordEach [] X.env))):=by rfl) :
  PE X (.Call (.Attribute o m apos) (e :: es) [] pos) (Wj C m sp dvs E ta t):=by
 intro pins s σ H Q I h
 refine PySem.W.methodCall_KW (pl:=pl) (thn (he pins s σ H _ I h) fun u s1 ⟨x,H1,I1,rx,a,dx,fs,ex,ea,l,q⟩=>?_) ht
 subst ex
 obtain rfl:u = Value.ref a:=rx
 refine tM I1 ea c hm l ?_
 refine PySem.W.callWith_K (first:=[.ref a]) (h₀:=X.base) I.ok.mod.kin hm.kp (thn (ha pos pins s1 σ H1 _ I1 q) fun us s2 ⟨vs,H2,I2,r,q2⟩=>⟨I2.kIn,?_⟩) hst hpl
 exact YM (us:=.ref a :: us) (vs:=.ref a :: vs) F hr hb hd hx I2 (.cons rfl r) q2
theorem Wk {pl:Sem Bool} (he:PE X o ta) (c:Cls X.K C) (hm:Meth X.K C m f) (F:FnOk X.prog X.w X.K X.mg X.base CX k f fd ps sp) (hr:Room k X.A) (hb:xY X.K fd ps ds) (hd:Vals dvs ds) (hx:uf CX X E)
  (ht:eval (.Call (.Attribute o m apos) [] [] pos) X.env = (do
   let ov ← eval o X.env
   standAt apos.atName
   let (f,first) ← holding [ov] (getMethod ov m pl)
   callWith pos f first (backTo pos (starEach [] X.env)) (backToKw pos (keywordEach [] X.env))):=by rfl) :
  PE X (.Call (.Attribute o m apos) [] [] pos) (Wj C m sp dvs E ta tNil):=by
 intro pins s σ H Q I h
 refine PySem.W.methodCall_KW (pl:=pl) (thn (he pins s σ H _ I h) fun u s1 ⟨x,H1,I1,rx,a,dx,fs,ex,ea,l,q⟩=>?_) ht
 subst ex
 obtain rfl:u = Value.ref a:=rx
 refine tM I1 ea c hm l ?_
 exact PySem.W.callWith_K0 (first:=[.ref a]) I1.kIn hm.kp (YM (us:=[.ref a]) (vs:=[.ref a]) F hr hb hd hx I1 (.cons rfl .nil) q)
structure Mk (K:FG7) (C f:Addr):Prop where
 makes:PySem.W.makesIn K C = true
 init:PySem.W.findIn K (.ref C) "__init__" = some (some (.ref f))
 fn:PySem.W.isFn K (.ref f) = true
 kp:PySem.W.keepIn K (.ref C) = true
theorem Wl {pins:List (Addr × Obj)} {σ:St} {H:Hp} {s:Shared} {Q:VK} {us:List Value} {vs:List V} (M:Mk X.K C f) (F:FnOk X.prog X.w X.K X.mg X.base CX k f fd ps sp) (hr:Room (k + 1) X.A) (hb:xY X.K fd ps ds) (hd:Vals dvs ds)
  (hx:uf CX X E) (I:Inv X pins σ H s) (r:Vals vs us)
  (h:∀ x dx,H x = none -> H dx = none -> dx ≠ x -> sp (.ref x :: (vs ++ dvs)) (upd (upd H dx (.own x)) x (.ins C dx [])) (fun v H2=>v = .non /\ Q (.ref x) H2) E) :
  wpAny (model X.prog X.w) X.A (call (.ref C) us) (EP X pins σ Q) X.xe s:=by
 have hq:=h (s.heap.objs.size + 1) s.heap.objs.size (I.hok.fresh (Nat.le_succ _)) (I.hok.fresh (Nat.le_refl _)) (Nat.ne_of_lt (Nat.lt_succ_self _))
 have I2:=Inv.made (C:=C) I
 have r2:Vals (V.ref (s.heap.objs.size + 1) :: (vs ++ dvs)) (Value.ref (s.heap.objs.size + 1) :: (us ++ ds)):=.cons rfl (r.append hd)
 have hl:(Value.ref (s.heap.objs.size + 1) :: us ++ ds).length = ps.length:=by
  have e:=r2.length
  rw [F.len _ _ _ _ hq] at e
  exact e.symm
 refine wpAny_call (Wi (f:=f) I.kIn M.makes M.init (beq_iff_eq.mp M.fn) (codeAny_mono (F.run _ X.stack _ _ ⟨Value.ref (s.heap.objs.size + 1) :: us,[]⟩ (Value.ref (s.heap.objs.size + 1) :: (us ++ ds)) _ _ E (hr.make C us [])
  (I2.env0.make C us []) (hb _ (Value.ref (s.heap.objs.size + 1) :: us) I2.kIn hl) r2 hq) fun r s' hq'=>?_))
 cases r with
 | error e=>exact hx pins σ _ _ e s' I2 hq'
 | ok fl =>
  cases fl with
  | ret u =>
   obtain ⟨v,H',I3,rv,ev,q3⟩:=I2.after hq'
   subst ev
   exact ⟨rv,⟨V.ref (s.heap.objs.size + 1),H',I3,rfl,q3⟩⟩
  | next=>exact False.elim hq'
  | brk=>exact False.elim hq'
  | cont=>exact False.elim hq'
theorem VJ (M:Mk X.K C f) (F:FnOk X.prog X.w X.K X.mg X.base CX k f fd ps sp) (hr:Room (k + 1) X.A) (hg:Gl X x) (hm:X.mg x = some (.ref C)) (hb:xY X.K fd ps ds) (hd:Vals dvs ds) (hx:uf CX X E)
  (ha:PA X (e :: es) t) (hdb:(x == ("__debug__":Str)) = false:=by decide) (he:starEach (e :: es) X.env = (false,eval e X.env) :: starEach es X.env:=by rfl) (hpl:(backTo pos (starEach es X.env)).any (·.1) = false:=by rfl) :
  PE X (.Call (.Name x p) (e :: es) [] pos) (UF C sp dvs E t):=by
 intro pins s σ H Q I h
 refine wpAny_Call_Name_kw (jg I hg hm ?_ hdb)
 refine PySem.W.callWith_K (h₀:=X.base) I.ok.mod.kin M.kp (thn (ha pos pins s σ H _ I h) fun us s1 ⟨vs,H1,I1,r,q⟩=>⟨I1.kIn,?_⟩) he hpl
 exact Wl M F hr hb hd hx I1 r q
end
structure FnScope (N P:List Str) (sc:Scope):Prop where
 kind:sc.kind = .function
 co:sc.isCoroutine = false
 gen:sc.isGenerator = false
 nd:N.Nodup
 pre:N.take P.length = P
 par:∀ x ∈ P,sc.names.lookup x = some .local \/ sc.names.lookup x = some .cell
 nofree:∀ y ∈ sc.names,y.2 ≠ .free
theorem rS {kindOf:Str -> Option NameKind} {x:Str}:∀ {binds:List (Str × Value)} {m:Str -> Option Value},(∀ v,(x,v) ∉ binds) -> bindL kindOf binds m x = m x
 | [],_,_=>rfl
 | (n,v) :: r,m,h=>by
  unfold bindL
  rw [rS fun w hw=>h w (List.mem_cons_of_mem _ hw)]
  split
  ·have:x ≠ n:=by rintro rfl; exact h v List.mem_cons_self
   simp [this]
  ·rfl
theorem rT {kindOf:Str -> Option NameKind} {x:Str}:∀ {binds:List (Str × Value)} {m:Str -> Option Value},(∀ v,(x,v) ∉ binds) -> bindC kindOf binds m x = m x
 | [],_,_=>rfl
 | (n,v) :: r,m,h=>by
  unfold bindC
  rw [rT fun w hw=>h w (List.mem_cons_of_mem _ hw)]
  split
  ·rfl
  ·have:x ≠ n:=by rintro rfl; exact h v List.mem_cons_self
   simp [this]
theorem rV {kindOf:Str -> Option NameKind} {x:Str} {v:Value}:∀ {P:List Str} {vs:List Value} {i:Nat} {m:Str -> Option Value},P.Nodup -> P[i]? = some x -> vs[i]? = some v -> kindOf x = some .local →
  bindL kindOf (P.zip vs) m x = some v
 | [],_,_,_,_,h,_,_=>by simp at h
 | _ :: _,[],_,_,_,_,h,_=>by simp at h
 | p :: P,w :: vs,0,m,nd,h1,h2,hk=>by
  simp at h1 h2; subst h1; subst h2
  show bindL kindOf ((p,w) :: P.zip vs) m p = _
  unfold bindL
  rw [rS fun v hv=>(List.nodup_cons.mp nd).1 (List.of_mem_zip hv).1,if_pos hk]
  simp
 | p :: P,w :: vs,i + 1,m,nd,h1,h2,hk=>by
  show bindL kindOf ((p,w) :: P.zip vs) m x = _
  unfold bindL
  exact rV (i:=i) (List.nodup_cons.mp nd).2 (by simpa using h1) (by simpa using h2) hk
theorem rW {kindOf:Str -> Option NameKind} {x:Str} {v:Value}:∀ {P:List Str} {vs:List Value} {i:Nat} {m:Str -> Option Value},P.Nodup -> P[i]? = some x -> vs[i]? = some v -> kindOf x ≠ some .local →
  bindC kindOf (P.zip vs) m x = some v
 | [],_,_,_,_,h,_,_=>by simp at h
 | _ :: _,[],_,_,_,_,h,_=>by simp at h
 | p :: P,w :: vs,0,m,nd,h1,h2,hk=>by
  simp at h1 h2; subst h1; subst h2
  show bindC kindOf ((p,w) :: P.zip vs) m p = _
  unfold bindC
  rw [rT fun v hv=>(List.nodup_cons.mp nd).1 (List.of_mem_zip hv).1,if_neg hk]
  simp
 | p :: P,w :: vs,i + 1,m,nd,h1,h2,hk=>by
  show bindC kindOf ((p,w) :: P.zip vs) m x = _
  unfold bindC
  exact rW (i:=i) (List.nodup_cons.mp nd).2 (by simpa using h1) (by simpa using h2) hk
def sD (N:List Str) (vs:List V):St:=vs.map some ++ List.replicate (N.length - vs.length) none
def cxOf (CX:CXT) (P:Program) (w:World) (K:FG7) (mg:Str -> Option Value) (base:Heap) (N:List Str) (qual:Str) (scope:Scope) (f:Addr) (cd:Value) (A:Around) (outer:List Env) (s:Shared) (H:Hp) (E:XK):Cx where
 prog:=P
 w:=w
 K:=K
 mg:=mg
 base:=base
 A:=A.deeper (envOfC qual scope s.heap.objs.size f cd)
 N:=N
 s₀:=s
 H₀:=H
 env:=envOfC qual scope s.heap.objs.size f cd
 outer:=outer
 stack:=envOfC qual scope s.heap.objs.size f cd :: outer
 ex:=[]
 calm:=true
 fn:=fun _=>true
 pn:=[]
 xe:=fun e s'=>wpAny (model P w) (A.deeper (envOfC qual scope s.heap.objs.size f cd)) (leaving (envOfC qual scope s.heap.objs.size f cd) e) (fun _ s''=>CX outer H s E e s'') (fun e' s''=>CX outer H s E e' s'') s'
theorem Za {sc:Scope} {n:Nat} {x:Str} (h:sc.names.lookup x = some .cell):∃ c,(cellsFrom n sc.names []).lookup x = some c:=by
 have q:=PySem.W.cellsFrom_some sc.names n [] (.inl h)
 exact Option.isSome_iff_exists.mp q
theorem YN {CX:CXT} {P:Program} {w:World} {K:FG7} {mg:Str -> Option Value} {base:Heap} {N ps:List Str} {qual:Str} {scope:Scope} {f:Addr} {cd:Value} {A:Around} {outer:List Env} {s s1:Shared} {H:Hp} {E:XK} {us:List Value} {vs:List V}
  (S:FnScope N ps scope) (hd:A.handled = none) (e0:Env0 P w K mg base A outer s H) (hl:vs.length = ps.length) (r:Vals vs us)
  (x:InCallC s s.heap.objs.size (bindL (envOfC qual scope s.heap.objs.size f cd).kindOf (ps.zip us) fun _=>none) (cellsFrom (s.heap.objs.size + 1) scope.names []) (bindC (envOfC qual scope s.heap.objs.size f cd).kindOf (ps.zip us) fun _=>none) s1) :
  Inv (cxOf CX P w K mg base N qual scope f cd A outer s H E) [] (sD N vs) H s1:=by
 have hpl:ps.length <= N.length:=by have:=congrArg List.length S.pre; rw [List.length_take] at this; omega
 obtain ⟨h1,tk,rfl,hk⟩:=x.done
 have noA:∀ b:Addr,b ∉ (cxOf CX P w K mg base N qual scope f cd A outer s H E).ex:=fun b z=>absurd (show b ∈ ([]:List Addr) from z) (by simp)
 refine ⟨⟨e0.mod,S.kind,rfl,rfl,Nat.le_refl _,fun y z c h1 h2=>?_,fun y hy=>?_,fun y c _ h=>?_,fun _=>hd,Around.frames_deeper e0.frames,.inr ⟨rfl,rfl⟩,fun b z=>absurd z (noA b),e0.bs,e0.bsz,fun b _ _=>noA b,fun b z=>absurd z (noA b),e0.funs,e0.frf⟩,
  rfl,e0.bare,Un.kept hk,⟨_,x.toInCall.ns,fun i y v h1 h2 h3=>?_⟩,fun y c h=>⟨_,x.cell y c h⟩,e0.hok.fresh (Nat.le_refl _),fun y c h=>?_,fun p hp=>absurd (show p ∈ ([]:List (Addr × Obj)) from hp) (by simp),e0.hok.kept hk,?_⟩
 ·exact name_of_addr x.apart (PySem.mem_of_lookup h1) (PySem.mem_of_lookup h2)
 ·have hy:scope.names.lookup y = some .cell \/ scope.names.lookup y = some .free:=hy
  rcases hy with hy | hy
  ·exact Za hy
  ·exact absurd rfl (S.nofree _ (PySem.mem_of_lookup hy))
 ·exact Nat.le_of_lt (x.above y c (PySem.mem_of_lookup h))
 ·have hi:i < vs.length:=by
   unfold sD at h2
   by_cases hi:i < vs.length
   ·exact hi
   ·rw [List.getElem?_append_right (by simpa using hi)] at h2
    rw [List.getElem?_replicate] at h2
    split at h2 <;> cases h2
  have ha:vs[i]? = some v:=by
   unfold sD at h2
   rw [List.getElem?_append_left (by simpa using hi),List.getElem?_map] at h2
   cases e:vs[i]? with
   | none=>rw [e] at h2; cases h2
   | some a=>rw [e] at h2; cases h2; rfl
  obtain ⟨u,hu,rv⟩:=r.get ha
  have hp:ps[i]? = some y:=by
   rw [← S.pre,List.getElem?_take_of_lt (by omega)]; exact h1
  have ndP:ps.Nodup:=by rw [← S.pre]; exact S.nd.sublist (List.take_sublist _ _)
  refine ⟨u,rv,?_⟩
  rcases S.par y (List.mem_of_getElem? hp) with k | k
  ·exact .inl ⟨k,rV ndP hp hu k⟩
  ·obtain ⟨c,e⟩:=Za (n:=s.heap.objs.size + 1) k
   refine .inr ⟨.inl k,c,e,?_⟩
   have q:=x.cell y c e
   rw [rW ndP hp hu (by show scope.names.lookup y ≠ _; rw [k]; decide)] at q
   exact q
 ·exact e0.hok.fresh (Nat.le_of_lt (x.above y c (PySem.mem_of_lookup h)))
 ·unfold sD
  show _ = N.length
  rw [List.length_append,List.length_map,List.length_replicate]
  omega
theorem UG {CX:CXT} {P:Program} {w:World} {K:FG7} {mg:Str -> Option Value} {base:Heap} {k:Nat} {f:Addr} {name qual:Str} {params:Arguments} {body:List Stmt} {scope:Scope} {dV kV doc pm cdv ct oc:Value} {an od:Option Addr}
  {osl:Array (Option Value)} {N ps:List Str} {sp:Sp} (lk:K.lookup f = some ⟨oc,od,.func (PySem.W.fnOf name qual params body scope dV kV doc pm an cdv ct),osl⟩) (hcd:PySem.W.codeIn K cdv qual = true) (S:FnScope N ps scope)
  (len:∀ vs H Q E,sp vs H Q E -> vs.length = ps.length)
  (hbody:∀ (A:Around) (outer:List Env) (s:Shared) (H:Hp) (vs:List V) (Q:VK) (E:XK),Room k (A.deeper (envOfC qual scope s.heap.objs.size f cdv)) -> sp vs H Q E →
   ∃ t,PSs (cxOf CX P w K mg base N qual scope f cdv A outer s H E) body t /\ t { nx:=fun _ H'=>Q .non H',rt:=Q } (sD N vs) H) :
  FnOk P w K mg base CX (k + 1) f (PySem.W.fnOf name qual params body scope dV kV doc pm an cdv ct) ps sp:=by
 refine ⟨len,fun A outer s H args us vs Q E hr e0 hb r hsp=>?_⟩
 have hl:=len _ _ _ _ hsp
 have KX:K.In s.heap:=e0.mod.kin.keeps fun b o e=>(e0.bs b o e).1
 have lim:s.heap.NoLimit:=e0.mod.nolimit.keeps fun b o e=>(e0.bs b o e).1
 have hkind:∀ y ∈ ps.zip us,scope.names.lookup y.1 = some .local \/ (scope.names.lookup y.1 = some .cell /\ ((cellsFrom (s.heap.objs.size + 1) scope.names []).lookup y.1).isSome = true):=fun ⟨n,v⟩ hy=>by
  rcases S.par n (List.of_mem_zip hy).1 with q | q
  ·exact .inl q
  ·exact .inr ⟨q,PySem.W.cellsFrom_some _ _ _ (.inl q)⟩
 refine codeAny_call_function hr.depth (KX _ _ lk) rfl S.co S.gen rfl (PySem.W.codeRec_of KX hcd) (hb _ _ _ _ ?_)
 refine wpAny_newFunctionEnv_cells S.kind hkind fun env he s1 x=>?_
 subst he
 refine ⟨lim.keeps x.toInCall.keep,codeAny_func ?_⟩
 obtain ⟨t,ht,hq⟩:=hbody A outer s H vs Q E (hr.deeper _) hsp
 have I:Inv (cxOf CX P w K mg base N qual scope f cdv A outer s H E) [] (sD N vs) H s1:=YN S hr.hd e0 hl r x
 refine wpAny_mono (ht [] s1 (sD N vs) H _ I hq) (fun fl s' hs=>?_) fun e s' hs=>hs
 have fin:∀ {σ':St} {H':Hp} {v:V} {u:Value},Inv (cxOf CX P w K mg base N qual scope f cdv A outer s H E) [] σ' H' s' -> RelV v u -> Q v H' -> CE outer P w H s Q u s' :=
  fun {σ' H' v u} J rv q=>⟨v,H',J.os,J.bare,J.base,J.hok,rv,q⟩
 cases fl with
 | ret u =>
  obtain ⟨v,σ',H',J,rv,q⟩:=hs
  exact fin J rv q
 | next =>
  obtain ⟨σ',H',J,q⟩:=hs
  exact fin (v:=V.non) (u:=Value.none) J rfl q
 | brk =>
  obtain ⟨_,_,_,q⟩:=hs
  exact False.elim q
 | cont =>
  obtain ⟨_,_,_,q⟩:=hs
  exact False.elim q
end L2
namespace L2
open PySem PySem.Spec PyProof.Rows
section
variable {X:Cx} {x:Str} {p pos:Pos} {e:Expr} {es:List Expr} {t:TA} {id T:String} {r:List V -> Hp -> VK -> Prop}
def tCB (r:List V -> Hp -> VK -> Prop) (t:TA):TE:=fun σ H Q=>t σ H fun vs H1=>r vs H1 Q
theorem zr (hc:xV X (.builtin id) r) (hg:Gl X x) (hm:X.mg x = none) (hv:bootBuiltins x = some (.builtin id)) (ha:PA X (e :: es) t) (hn:x ≠ "__name__":=by decide) (hdb:(x == ("__debug__":Str)) = false:=by decide)
  (he:starEach (e :: es) X.env = (false,eval e X.env) :: starEach es X.env:=by rfl) (hpl:(backTo pos (starEach es X.env)).any (·.1) = false:=by rfl):PE X (.Call (.Name x p) (e :: es) [] pos) (tCB r t):=by
 intro pins s σ H Q I h
 refine wpAny_Call_Name_kw (wN I hg hm hv ?_ hn hdb)
 exact PyProof.Rows.callWith_builtin1 (thn (ha pos pins s σ H _ I h) fun us s1 ⟨vs,H1,I1,r1,q1⟩=>hc pins s1 σ H1 vs us Q I1 r1 q1) he hpl
theorem yh (hc:xV X (.type T) r) (hg:Gl X x) (hm:X.mg x = none) (hv:bootBuiltins x = some (.type T)) (ha:PA X (e :: es) t) (hn:x ≠ "__name__":=by decide) (hdb:(x == ("__debug__":Str)) = false:=by decide)
  (he:starEach (e :: es) X.env = (false,eval e X.env) :: starEach es X.env:=by rfl) (hpl:(backTo pos (starEach es X.env)).any (·.1) = false:=by rfl):PE X (.Call (.Name x p) (e :: es) [] pos) (tCB r t):=by
 intro pins s σ H Q I h
 refine wpAny_Call_Name_kw (wN I hg hm hv ?_ hn hdb)
 exact PyProof.Rows.callWith_type1 (thn (ha pos pins s σ H _ I h) fun us s1 ⟨vs,H1,I1,r1,q1⟩=>hc pins s1 σ H1 vs us Q I1 r1 q1) he hpl
end
end L2
namespace HT
open PySem PyProof.Rows
section
variable {prog:Program} {w:World} {A:Around} {E:VS7} {s:Shared}
theorem cat_tup {t b:Addr} {vs ws:List Value} {Q:VS7} (ht:IsTup s.heap t vs.toArray) (hb:IsTup s.heap b ws.toArray) (hv:vs ≠ [])
  (h1:ws = [] -> Q (.ref t) s) (h2:ws ≠ [] -> Q (.ref s.heap.objs.size) { s with heap:=s.heap.push { cls:=.type "tuple",data:=.seq (vs ++ ws).toArray } })
  (hsz:vs.length + ws.length <= sizeLine):wpAny (model prog w) A (binaryOp .Add (.ref t) (.ref b)) Q E s:=by
 obtain ⟨⟨cls,dd,data,sl⟩,ho,hc,n,hd⟩:=id ht
 obtain ⟨⟨cls2,dd2,data2,sl2⟩,ho2,hc2,n2,hd2⟩:=id hb
 simp only at hc hd hc2 hd2
 subst hc hd hc2 hd2
 have e:vs.toArray ++ ws.toArray = (vs ++ ws).toArray:=by simp
 by_cases hw:ws = []
 ·exact concat_meets ⟨_,ho,rfl⟩ ⟨_,ho2,rfl⟩ noFill_tuple_add seq_tuple_add PySem.F.slot_tuple_add PySem.F.entry_tuple_add (PySem.F.args_tuple_add_2 _ _)
   (tuple_addW1 t b vs.toArray ws.toArray n n2 dd dd2 sl sl2 (by simpa using hv) (by simp [hw])) ⟨ho,ho2,h1 hw⟩
 ·refine concat_meets ⟨_,ho,rfl⟩ ⟨_,ho2,rfl⟩ noFill_tuple_add seq_tuple_add PySem.F.slot_tuple_add PySem.F.entry_tuple_add (PySem.F.args_tuple_add_2 _ _)
   (tuple_addW2 t b vs.toArray ws.toArray n n2 dd dd2 sl sl2 (by simpa using hv) (by simpa using hw) (by rw [List.size_toArray,List.size_toArray]; exact hsz)) ⟨ho,ho2,?_⟩
  rw [e]
  exact h2 hw
def sIx (n d:Nat):Option Int -> Nat
 | none=>d
 | some v=>if v < 0 then (v + (n:Int)).toNat else min v.toNat n
theorem UH (n d:Nat) (hd:d <= n) (o:Option Int):sIx n d o <= n:=by
 cases o with
 | none=>exact hd
 | some v =>
  show (if v < 0 then (v + (n:Int)).toNat else min v.toNat n) <= n
  by_cases hv:v < 0
  ·rw [if_pos hv]; omega
  ·rw [if_neg hv]; exact Nat.min_le_right _ _
theorem YO (v:Int) (n d:Nat):(if v < 0 then max (v + (n:Int)) 0 else min v (n:Int)) = ((sIx n d (some v):Nat):Int):=by
 show (if v < 0 then max (v + (n:Int)) 0 else min v (n:Int)) = (((if v < 0 then (v + (n:Int)).toNat else min v.toNat n):Nat):Int)
 by_cases hv:v < 0
 ·simp only [if_pos hv]; omega
 ·simp only [if_neg hv]; omega
theorem ZR (lo hi:Option Int) (n:Nat):Builtin.Slice.sliceAdjust lo hi 1 (n:Int) = (((sIx n 0 lo:Nat):Int),((sIx n n hi:Nat):Int)):=by
 have h1:¬ ((1:Int) < 0):=by omega
 unfold Builtin.Slice.sliceAdjust
 simp only [h1,if_false]
 refine Prod.ext ?_ ?_
 ·cases lo with
  | none=>rfl
  | some v=>exact YO v n 0
 ·cases hi with
  | none=>rfl
  | some v=>exact YO v n n
theorem ZS (i j:Nat):Builtin.Slice.slicePlaces (i:Int) (j:Int) 1 = j - i:=by
 unfold Builtin.Slice.slicePlaces
 have h1:(1:Int) > 0:=by omega
 simp only [h1,if_true,Int.ediv_one]
 split <;> omega
theorem tO {v:Value} {o:Option Int} {Q:Option Int -> Shared -> Prop} (p:IsPart v o) (h:Q o s):wpAny (model prog w) A (Builtin.Slice.slicePartIndex v) Q E s:=by
 cases p with
 | none=>exact slicePart_none h
 | int i t=>exact slicePart_int h
theorem vO {sl:Addr} {vl vu:Value} {lo hi:Option Int} {n:Nat} {Q:Int × Int × Nat -> Shared -> Prop} (hs:s.heap.IsSliceOf sl vl vu .none) (pl:IsPart vl lo) (pu:IsPart vu hi)
  (h:Q (((sIx n 0 lo:Nat):Int),1,sIx n n hi - sIx n 0 lo) s):wpAny (model prog w) A (Builtin.Slice.sliceApplied (.ref sl) (pure (n:Int))) Q E s:=by
 obtain ⟨os,hos,hcs,hds⟩:=id hs
 unfold Builtin.Slice.sliceApplied Builtin.Slice.sliceFields
 refine wpAny_bind (wpAny_bind (wpAny_field hos hds (x:=vl) rfl (wpAny_bind (wpAny_field hos hds (x:=vu) rfl (wpAny_bind (wpAny_field hos hds (x:=.none) rfl (wpAny_pure ?_)))))))
 refine wpAny_bind (slicePart_none ?_)
 show wpAny _ _ (if ((1:Int) == 0) = true then _ else _) _ _ s
 rw [if_neg (by decide)]
 refine wpAny_bind (tO pl (wpAny_bind (tO pu (wpAny_bind (wpAny_pure ?_)))))
 show wpAny _ _ (match Builtin.Slice.sliceAdjust lo hi 1 (n:Int) with | (lo,hi)=>pure (lo,(1:Int),Builtin.Slice.slicePlaces lo hi 1)) _ _ s
 rw [ZR lo hi n]
 show wpAny _ _ (pure (((sIx n 0 lo:Nat):Int),(1:Int),Builtin.Slice.slicePlaces ((sIx n 0 lo:Nat):Int) ((sIx n n hi:Nat):Int) 1)) _ _ s
 rw [ZS]
 exact wpAny_pure h
theorem Wm (xs:Array Value) (i k:Nat):((List.range k).filterMap fun (m:Nat)=>xs[((i:Int) + (m:Int) * 1).toNat]?).toArray = ((xs.toList.drop i).take k).toArray:=by
 have e:(fun (m:Nat)=>xs[((i:Int) + (m:Int) * 1).toNat]?) = fun m=>xs[i + m]?:=by
  funext m
  have:((i:Int) + (m:Int) * 1).toNat = i + m:=by omega
  rw [this]
 rw [e]
 have:=pick_run xs i k
 rw [List.filterMap_map] at this
 have e2:((fun x=>xs[x]?) ∘ fun x=>i + x) = fun m=>xs[i + m]?:=rfl
 rw [e2] at this
 rw [this]
theorem getItem_tuple_cut {t sl:Addr} {items:Array Value} {vl vu:Value} {lo hi:Option Int} {Q:VS7} (ht:IsTup s.heap t items) (hs:s.heap.IsSliceOf sl vl vu .none) (pl:IsPart vl lo) (pu:IsPart vu hi)
  (hw:¬ (sIx items.size 0 lo = 0 /\ sIx items.size items.size hi = items.size))
  (h:Q (.ref s.heap.objs.size) { s with heap:=s.heap.push { cls:=.type "tuple",data:=.seq ((items.toList.drop (sIx items.size 0 lo)).take (sIx items.size items.size hi - sIx items.size 0 lo)).toArray } })
  (hsz:items.size <= sizeLine):wpAny (model prog w) A (getItem (.ref t) (.ref sl)) Q E s:=by
 have htake:sizeOk (.seq ((items.toList.drop (sIx items.size 0 lo)).take (sIx items.size items.size hi - sIx items.size 0 lo)).toArray):=by
  show ((items.toList.drop (sIx items.size 0 lo)).take (sIx items.size items.size hi - sIx items.size 0 lo)).toArray.size <= sizeLine
  rw [List.size_toArray,List.length_take,List.length_drop,Array.length_toList]
  omega
 have hj:sIx items.size items.size hi <= items.size:=UH _ _ (Nat.le_refl _) hi
 obtain ⟨os,hos,hcs,hds⟩:=id hs
 have hTs:s.TypeIs (.ref sl) "slice":=⟨os,hos,hcs⟩
 unfold getItem
 try with_reducible refine wpAny_holding ?_
 first | refine wpAny_bind (wpAny_pure ?_) | skip
 refine wpAny_bind (wpAny_sequenceKey ht.typeIs (by decide) ?_)
 refine wpAny_bind (wpAny_callSpecial?_slot (name:=Str.ofString "__getitem__") ht.typeIs PyProof.Rows.slot_tuple_getitem
  (wpAny_call_entry PyProof.Rows.slot_tuple_getitem ht.typeIs entry_tuple_getitem ?_ (args_tuple_getitem _ _)))
 show wpAny _ _ (Builtin.Tuple.tupleItemsOf (.ref t) >>= _) _ _ s
 refine wpAny_bind (tupleItemsOf_ ht ?_)
 refine wpAny_bind (wpAny_typeOf hTs ?_)
 rw [if_pos (by decide)]
 refine wpAny_bind (vO hs pl pu ?_)
 have hno:¬ ((((sIx items.size 0 lo:Nat):Int) == 0 && (1:Int) == 1 && (sIx items.size items.size hi - sIx items.size 0 lo) == items.size) = true):=by
  intro q
  rw [Bool.and_eq_true,Bool.and_eq_true] at q
  have q1:((sIx items.size 0 lo:Nat):Int) = 0:=eq_of_beq q.1.1
  have q2:sIx items.size items.size hi - sIx items.size 0 lo = items.size:=eq_of_beq q.2
  exact hw ⟨by omega,by omega⟩
 show wpAny _ _ (if (((sIx items.size 0 lo:Nat):Int) == 0 && (1:Int) == 1 && (sIx items.size items.size hi - sIx items.size 0 lo) == items.size) = true then _ else _) _ _ s
 rw [if_neg hno,Wm]
 first
  | exact wpAny_bind (m:=Builtin.Tuple.tupleExact _) (wpAny_newObj_type (wpAny_pure ⟨_,rfl,wpAny_pure h⟩) htake)
  | exact wpAny_bind (m:=Builtin.Tuple.tupleExact _) (wpAny_newObj_type (wpAny_bind (wpAny_pure (wpAny_pure ⟨_,rfl,wpAny_pure h⟩))) htake)
  | exact wpAny_bind (wpAny_bind (m:=Builtin.Tuple.tupleExact _) (wpAny_newObj_type (wpAny_pure (wpAny_pure ⟨_,rfl,wpAny_pure h⟩)) htake))
  | exact wpAny_bind (wpAny_bind (m:=Builtin.Tuple.tupleExact _) (wpAny_newObj_type (wpAny_pure ⟨_,rfl,wpAny_pure h⟩) htake))
end
end HT
namespace L2
open PySem PySem.Spec PyProof.Rows
abbrev TO:=St -> Hp -> (Option Int -> Hp -> Prop) -> Prop
def PO (X:Cx) (e:Option Expr) (t:TO):Prop :=
 ∀ (pins:List (Addr × Obj)) (s:Shared) (σ:St) (H:Hp) (Q:Option Int -> Hp -> Prop),Inv X pins σ H s -> t σ H Q →
  wpAny (model X.prog X.w) X.A (evalPart e X.env) (fun u s'=>∃ o H',Inv X pins σ H' s' /\ IsPart u o /\ Q o H') X.xe s
def VL:TO:=fun _ H Q=>Q none H
def TF (t:TE):TO:=fun σ H Q=>t σ H fun x H1=>∃ i,x = .int i /\ Q (some i) H1
theorem tP {ns:List Int}:∀ {us:List Value},Vals (ns.map V.int) us -> IntsAre us ns:=by
 induction ns with
 | nil=>intro us r; rw [List.map_nil] at r; cases r; exact .nil
 | cons n ns ih =>
  intro us r
  rw [List.map_cons] at r
  cases r with
  | cons r1 r2 =>
   obtain ⟨t,e⟩:=r1
   subst e
   exact .cons n t (ih r2)
section
variable {X:Cx} {e:Expr} {te:TE} {lo hi:Option Expr} {tl th:TO} {pos p2:Pos}
theorem ji:PO X none VL:=by
 intro pins s σ H Q I h
 rw [evalPart_none]
 exact wpAny_pure ⟨none,H,I,.none,h⟩
theorem jj (h:PE X e te):PO X (some e) (TF te):=by
 intro pins s σ H Q I hw
 rw [evalPart_some]
 refine thn (h pins s σ H _ I hw) fun u s1 ⟨x,H1,I1,r1,q1⟩=>?_
 obtain ⟨i,rfl,q⟩:=q1
 obtain ⟨t,rfl⟩:=r1
 exact ⟨some i,H1,I1,.int i t,q⟩
def SlR (X:Cx) (r:V -> Option Int -> Option Int -> Hp -> VK -> Prop):Prop :=
 ∀ (pins:List (Addr × Obj)) (s:Shared) (σ:St) (H:Hp) (x:V) (v vl vu:Value) (lo hi:Option Int) (sl:Addr) (Q:VK),Inv X pins σ H s -> RelV x v -> s.heap.IsSliceOf sl vl vu .none -> IsPart vl lo -> IsPart vu hi -> r x lo hi H Q →
  ∃ T id,typeLookup (.type T) "__getitem__" = pure (some (.builtin id)) /\ s.TypeIs v T /\ wpAny (model X.prog X.w) X.A (getItem v (.ref sl)) (EP X pins σ Q) X.xe s
def tSl (r:V -> Option Int -> Option Int -> Hp -> VK -> Prop) (te:TE) (tl th:TO):TE:=fun σ H Q=>te σ H fun x H1=>tl σ H1 fun l H2=>th σ H2 fun u H3=>r x l u H3 Q
theorem sE {r:V -> Option Int -> Option Int -> Hp -> VK -> Prop} (hr:SlR X r) (he:PE X e te) (hl:PO X lo tl) (hu:PO X hi th):PE X (.Subscript e (.Slice lo hi none p2) pos) (tSl r te tl th):=by
 intro pins s σ H Q I h
 refine Subscript_ (thn (he pins s σ H _ I h) fun v s1 ⟨x,H1,I1,r1,q1⟩=>?_)
 refine wpAny_Slice (thn (hl pins s1 σ H1 _ I1 q1) fun vl s2 ⟨l,H2,I2,pl,q2⟩=>thn (hu pins s2 σ H2 _ I2 q2) fun vu s3 ⟨u,H3,I3,pu,q3⟩=>?_)
 rw [evalPart_none]
 refine wpAny_pure ?_
 have I4:Inv X pins σ H3 { s3 with heap:=s3.heap.push { cls:=.type "slice",data:=.fields #[vl,vu,.none] } }:=I3.kept (t':=s3.toks) fun b ob q=>Heap.get?_push_of_some _ q
 obtain ⟨T,id,hT,ht,hg⟩:=hr pins { s3 with heap:=s3.heap.push { cls:=.type "slice",data:=.fields #[vl,vu,.none] } } σ H3 x v vl vu l u s3.heap.objs.size Q I4 r1 (Heap.IsSliceOf.new ..) pl pu q3
 show wpAny (model X.prog X.w) X.A (subscriptTail e (.Slice lo hi none p2) v (.ref s3.heap.objs.size)) (EP X pins σ Q) X.xe { s3 with heap:=s3.heap.push { cls:=.type "slice",data:=.fields #[vl,vu,.none] } }
 exact tail_any (ops:=[.ref s3.heap.objs.size,v]) ht hT hg (by with_unfolding_all rfl)
def cutV (xs:List V) (lo hi:Option Int):List V:=(xs.drop (HT.sIx xs.length 0 lo)).take (HT.sIx xs.length xs.length hi - HT.sIx xs.length 0 lo)
theorem ug (xs:List V) (lo hi:Option Int):(cutV xs lo hi).length <= xs.length:=by
 unfold cutV
 rw [List.length_take,List.length_drop]
 omega
def rSlT (K:FG7):V -> Option Int -> Option Int -> Hp -> VK -> Prop:=fun x lo hi H Q=>∃ a xs,x = .ref a /\ SqT K H a xs ∧
 ¬ (HT.sIx xs.length 0 lo = 0 /\ HT.sIx xs.length xs.length hi = xs.length) /\ ∀ p,H p = none -> Q (.ref p) (upd H p (.tup (cutV xs lo hi)))
theorem Ve:SlR X (rSlT X.K):=by
 intro pins s σ H x v vl vu lo hi sl Q I rx hs pl pu h
 obtain ⟨a,xs,rfl,hx,hw,q⟩:=h
 cases rx
 obtain ⟨its,r,ht,hz⟩:=I.tuple hx
 have hlen:its.toArray.size = xs.length:=by rw [List.size_toArray]; exact r.length.symm
 refine ⟨"tuple",_,PyProof.Rows.slot_tuple_getitem.lookup,ht.typeIs,?_⟩
 refine HT.getItem_tuple_cut ht hs pl pu (by rw [hlen]; exact hw) ?_ (by rw [hlen]; exact hz)
 rw [hlen]
 refine ⟨.ref s.heap.objs.size,_,I.laid (t':=s.toks) (o:=.tup (cutV xs lo hi)) (fun b ob q=>Heap.get?_push_of_some _ q) (Nat.le_refl _) ?_,rfl,q _ (I.hok.fresh (Nat.le_refl _))⟩
 exact ⟨Nat.le_trans (ug xs lo hi) hz,_,(r.drop (HT.sIx xs.length 0 lo)).take (HT.sIx xs.length xs.length hi - HT.sIx xs.length 0 lo),IsTup.new _ _⟩
def TH (K:FG7):R2:=fun x y H Q=>∃ a b xs ys,x = .ref a /\ y = .ref b /\ SqT K H a xs /\ SqT K H b ys /\ xs ≠ [] /\ xs.length + ys.length <= sizeLine ∧
 (ys = [] -> Q (.ref a) H) /\ (ys ≠ [] -> ∀ p,H p = none -> Q (.ref p) (upd H p (.tup (xs ++ ys))))
theorem Vals.nil_iff {xs:List V} {us:List Value} (r:Vals xs us):us = [] ↔ xs = []:=by
 cases r with
 | nil=>simp
 | cons _ _=>simp
theorem VM:OpR X (binaryOp .Add) (TH X.K):=by
 intro pins s σ H x y v u Q I rx ry h
 obtain ⟨a,b,xs,ys,rfl,rfl,ha,hb,hx,hz,q1,q2⟩:=h
 cases rx
 cases ry
 obtain ⟨its,r1,p1,_⟩:=I.tuple ha
 obtain ⟨its2,r2,p2,_⟩:=I.tuple hb
 refine HT.cat_tup p1 p2 (fun z=>hx (r1.nil_iff.mp z)) (fun z=>⟨.ref a,H,I,rfl,q1 (r2.nil_iff.mp z)⟩) (fun z=>?_) (by rw [← r1.length,← r2.length]; exact hz)
 refine ⟨.ref s.heap.objs.size,_,I.laid (t':=s.toks) (o:=.tup (xs ++ ys)) (fun b ob q=>Heap.get?_push_of_some _ q) (Nat.le_refl _) ?_,rfl,q2 (fun w=>z (r2.nil_iff.mpr w)) _ (I.hok.fresh (Nat.le_refl _))⟩
 exact ⟨by rw [List.length_append]; exact hz,_,r1.append r2,IsTup.new _ _⟩
end
end L2
namespace L2
open PySem PySem.Spec PyProof.Rows
def ixN (n:Nat) (i:Int):Option Nat:=if 0 <= i then (if i < n then some i.toNat else none) else if -(n:Int) <= i then some (i + n).toNat else none
def atI {α:Type} (xs:List α) (i:Int):Option α:=(ixN xs.length i).bind fun j=>xs[j]?
theorem jk {n:Nat} {i:Int} {j:Nat} (h:ixN n i = some j):seqIndex? i n = some j /\ j < n /\ -(n:Int) <= i /\ i < n:=by
 unfold ixN at h
 by_cases h0:0 <= i
 ·rw [if_pos h0] at h
  by_cases h1:i < n
  ·rw [if_pos h1] at h
   have e:i.toNat = j:=Option.some.inj h
   exact ⟨by rw [seqIndex_of h0 h1,e],by omega,by omega,h1⟩
  ·rw [if_neg h1] at h; cases h
 ·rw [if_neg h0] at h
  by_cases h1:-(n:Int) <= i
  ·rw [if_pos h1] at h
   have e:(i + n).toNat = j:=Option.some.inj h
   exact ⟨by rw [seqIndex_neg (by omega) h1,e],by omega,h1,by omega⟩
  ·rw [if_neg h1] at h; cases h
theorem YQ {α:Type} {xs:List α} {i:Int} {v:α} (h:atI xs i = some v):∃ j,seqIndex? i xs.length = some j /\ xs[j]? = some v /\ j < xs.length /\ -(xs.length:Int) <= i /\ i < xs.length:=by
 unfold atI at h
 cases e:ixN xs.length i with
 | none=>rw [e] at h; cases h
 | some j =>
  rw [e] at h
  obtain ⟨h1,h2,h3,h4⟩:=jk e
  exact ⟨j,h1,h,h2,h3,h4⟩
theorem zy {α:Type} {xs:List α} {j:Nat} {v:α} (h:xs[j]? = some v):atI xs (j:Int) = some v:=by
 have hj:j < xs.length:=(List.getElem?_eq_some_iff.mp h).1
 have e:ixN xs.length (j:Int) = some j:=by
  unfold ixN
  rw [if_pos (by omega),if_pos (by omega)]; simp
 unfold atI; rw [e]; exact h
def VN (b:Expr):Prop:=∀ o i,subscripted b false o i = operate [o,i] (getItem o i)
def IxR (X:Cx) (r:R2):Prop :=
 ∀ (value slice:Expr) (pins:List (Addr × Obj)) (s:Shared) (σ:St) (H:Hp) (x y:V) (v u:Value) (Q:VK),Inv X pins σ H s -> RelV x v -> RelV y u -> r x y H Q →
  subscripted slice false v u = operate [v,u] (getItem v u) -> wpAny (model X.prog X.w) X.A (subscriptTail value slice v u) (EP X pins σ Q) X.xe s
def MtR (X:Cx) (id:String) (r:V -> List V -> Hp -> VK -> Prop):Prop :=
 ∀ (pins:List (Addr × Obj)) (s:Shared) (σ:St) (H:Hp) (x:V) (xs:List V) (v:Value) (us:List Value) (Q:VK),Inv X pins σ H s -> RelV x v -> Vals xs us -> r x xs H Q →
  wpAny (model X.prog X.w) X.A (call (.builtin id) (v :: us)) (EP X pins σ Q) X.xe s
section
variable {X:Cx} {a b:Expr} {ta tb:TE} {pos:Pos}
theorem z6 {r:R2} (hr:IxR X r) (ha:PE X a ta) (hb:PE X b tb) (hs:VN b):PE X (.Subscript a b pos) (tOp r ta tb):=by
 intro pins s σ H Q I h
 exact Subscript_ (binT ha hb I h fun v u s2 x y H2 I2 rx ry q=>hr a b pins s2 σ H2 x y v u Q I2 rx ry q (hs _ _))
def rIxL (K:FG7):R2:=fun x y H Q=>∃ p xs i v,x = .ref p /\ y = .int i /\ SqL K H p xs /\ atI xs i = some v /\ Q v H
def rIxT (K:FG7):R2:=fun x y H Q=>∃ p xs i v,x = .ref p /\ y = .int i /\ SqT K H p xs /\ atI xs i = some v /\ Q v H
theorem zY:IxR X (rIxL X.K):=by
 intro value slice pins s σ H x y v u Q I rx ry h hs
 obtain ⟨p,xs,i,z,rfl,rfl,hq,he,q⟩:=h
 cases rx
 obtain ⟨t,rfl⟩:=ry
 obtain ⟨its,r,pl,hz⟩:=I.list hq
 obtain ⟨j,h1,h2,h3,h4,h5⟩:=YQ he
 obtain ⟨w,ew,rw'⟩:=r.get h2
 have hl:=r.length
 have hn:=rQ
 have fin:EP X pins σ Q w s:=⟨z,H,I,rw',q⟩
 by_cases h0:0 <= i
 ·have hj:i.toNat = j:=by
   rw [seqIndex_of h0 h5] at h1
   exact Option.some.inj h1
  exact item_listR pl.isList h0 (by omega) (by rw [hj]; simpa using ew) fin hs
 ·have hj:(i + (its.toArray.size:Int)).toNat = j:=by
   rw [seqIndex_neg (by omega) h4] at h1
   rw [List.size_toArray,← hl]
   exact Option.some.inj h1
  exact subscriptTail_builtinR (x:=w) pl.isList.typeIs slot_list_getitem.lookup
   (wpAny_getItem_list_neg (Q:=fun r s'=>r = w /\ EP X pins σ Q r s') pl.isList (by omega) (by rw [List.size_toArray] <;> omega) (by omega) (by rw [hj]; simpa using ew) ⟨rfl,fin⟩) hs
theorem yV:IxR X (rIxT X.K):=by
 intro value slice pins s σ H x y v u Q I rx ry h hs
 obtain ⟨p,xs,i,z,rfl,rfl,hq,he,q⟩:=h
 cases rx
 obtain ⟨t,rfl⟩:=ry
 obtain ⟨its,r,pl,hz⟩:=I.tuple hq
 obtain ⟨j,h1,h2,h3,h4,h5⟩:=YQ he
 obtain ⟨w,ew,rw'⟩:=r.get h2
 have hl:=r.length
 have hn:=rQ
 have fin:EP X pins σ Q w s:=⟨z,H,I,rw',q⟩
 exact subscriptTail_builtinR (x:=w) pl.typeIs slot_tuple_getitem.lookup
  (getItem_tuple (j:=j) (Q:=fun r s'=>r = w /\ EP X pins σ Q r s') pl (by omega) (by omega) (by rw [List.size_toArray,← hl]; exact h1) (by simpa using ew) ⟨rfl,fin⟩) hs
theorem ZT (its:List Value) (n j:Nat) (u:Value):Obj.mapSeq (·.setIfInBounds j u) { cls:=.type "list",data:=.seq its.toArray n } = { cls:=.type "list",data:=.seq (its.set j u).toArray n }:=by
 simp [Obj.mapSeq]
theorem Inv.lst {pins:List (Addr × Obj)} {σ:St} {H:Hp} {s:Shared} {p:Addr} {xs:List V} (I:Inv X pins σ H s) (h:H p = some (.lst xs)) :
  ∃ (its:List Value) (n:Nat),Vals xs its /\ s.heap.get? p = some { cls:=.type "list",data:=.seq its.toArray n } /\ xs.length <= sizeLine:=by
 obtain ⟨z,its,n,r,e⟩:=I.hok p _ h
 exact ⟨its,n,r,e,z⟩
theorem Inv.lstUpd {pins:List (Addr × Obj)} {σ:St} {H:Hp} {s:Shared} {p:Addr} {xs ys:List V} {its its':List Value} {n n':Nat} {f:Obj -> Obj} (I:Inv X pins σ H s) (h:H p = some (.lst xs))
  (ho:s.heap.get? p = some { cls:=.type "list",data:=.seq its.toArray n }) (hf:f { cls:=.type "list",data:=.seq its.toArray n } = { cls:=.type "list",data:=.seq its'.toArray n' }) (r:Vals ys its') (hz:ys.length <= sizeLine) (t:Nat) :
  Inv X pins σ (upd H p (.lst ys)) { s with heap:=s.heap.update p f,toks:=t }:=by
 have e:(s.heap.update p f).get? p = some { cls:=.type "list",data:=.seq its'.toArray n' }:=by
  rw [Heap.get?_update_self f ho (by rw [hf] <;> rfl),hf]
 refine I.write (x:=p) (e:=p) (by rw [h]; trivial) (.inl rfl) (fun b u hb q=>(Heap.get?_update_other _ _ (Ne.symm hb)).trans q) ⟨_,e⟩ ?_
 exact ⟨hz,its',n',r,e⟩
def TJ:V -> V -> V -> Hp -> (Hp -> Prop) -> Prop:=fun o i v H Q=>∃ p xs k j,o = .ref p /\ i = .int k /\ H p = some (.lst xs) /\ ixN xs.length k = some j /\ Q (upd H p (.lst (xs.set j v)))
theorem vQ:PSet X TJ:=by
 intro pins s σ H o i v ov iv u Q I ro ri rv h
 obtain ⟨p,xs,k,j,rfl,rfl,hp,hj,q⟩:=h
 cases ro
 obtain ⟨t,rfl⟩:=ri
 obtain ⟨its,n,r,ho,hz⟩:=I.lst hp
 obtain ⟨h1,h2,h3,h4⟩:=jk hj
 have hl:=r.length
 have hn:=rQ
 have I':Inv X pins σ (upd H p (.lst (xs.set j v))) { s with heap:=s.heap.update p (Obj.mapSeq (·.setIfInBounds j u)) } :=
  I.lstUpd hp ho (ZT its n j u) (r.set rv j) (by rw [List.length_set]; exact hz) s.toks
 by_cases h0:0 <= k
 ·have hk:k.toNat = j:=by
   rw [seqIndex_of h0 h4] at h1
   exact Option.some.inj h1
  exact PySem.W.ki_setAt ho h0 (by omega) (by rw [List.size_toArray,← hl]; exact h4) (by rw [hk]; exact ⟨_,I',q⟩)
 ·have hk:(k + (its.toArray.size:Int)).toNat = j:=by
   rw [seqIndex_neg (by omega) h3] at h1
   rw [List.size_toArray,← hl]
   exact Option.some.inj h1
  exact PySem.W.ki_setBack ho (by omega) (by rw [List.size_toArray,← hl]; exact h3) (by omega) (by rw [hk]; exact ⟨_,I',q⟩)
theorem rX (lo hi:Option Int) (n:Nat):(sliceBounds lo hi none n).1 = ((HT.sIx n 0 lo:Nat):Int) /\ (sliceBounds lo hi none n).2.1 = ((HT.sIx n n hi:Nat):Int) /\ (sliceBounds lo hi none n).2.2 = 1:=by
 refine ⟨?_,?_,rfl⟩
 ·cases lo with
  | none=>simp [sliceBounds,HT.sIx]
  | some i =>
   simp only [sliceBounds,HT.sIx,Option.getD_none,show (1:Int) > 0 by decide,if_true]
   by_cases h:i < 0
   ·simp only [h,if_true] <;> omega
   ·simp only [h,if_false] <;> omega
 ·cases hi with
  | none=>simp [sliceBounds,HT.sIx]
  | some i =>
   simp only [sliceBounds,HT.sIx,Option.getD_none,show (1:Int) > 0 by decide,if_true]
   by_cases h:i < 0
   ·simp only [h,if_true] <;> omega
   ·simp only [h,if_false] <;> omega
theorem sF (its:List Value) (lo hi:Option Int):slicePick its.toArray lo hi none = ((its.drop (HT.sIx its.length 0 lo)).take (HT.sIx its.length its.length hi - HT.sIx its.length 0 lo)).toArray:=by
 obtain ⟨h1,h2,h3⟩:=rX lo hi its.toArray.size
 unfold slicePick
 rw [h1,h2,h3]
 simp only [sliceRange_one,pick_run,List.size_toArray] <;> rfl
def rSlL (K:FG7):V -> Option Int -> Option Int -> Hp -> VK -> Prop:=fun x lo hi H Q=>∃ a xs,x = .ref a /\ SqL K H a xs /\ ∀ p,H p = none -> Q (.ref p) (upd H p (.lst (cutV xs lo hi)))
theorem VO:SlR X (rSlL X.K):=by
 intro pins s σ H x v vl vu lo hi sl Q I rx hs pl pu h
 obtain ⟨a,xs,rfl,hx,q⟩:=h
 cases rx
 obtain ⟨its,r,ht,hz⟩:=I.list hx
 have hlen:=r.length
 refine ⟨"list",_,slot_list_getitem.lookup,ht.isList.typeIs,?_⟩
 refine wpAny_getItem_list_slice ht.isList hs pl pu .none (by simp) ?_ (by rw [List.size_toArray] <;> omega)
 rw [sF,← hlen]
 refine ⟨.ref s.heap.objs.size,_,I.laid (t':=s.toks) (o:=.lst (cutV xs lo hi)) (fun b ob q=>Heap.get?_push_of_some _ q) (Nat.le_refl _) ?_,rfl,q _ (I.hok.fresh (Nat.le_refl _))⟩
 exact ⟨Nat.le_trans (ug xs lo hi) hz,_,0,(r.drop (HT.sIx xs.length 0 lo)).take (HT.sIx xs.length xs.length hi - HT.sIx xs.length 0 lo),Heap.get?_push_size _ rfl⟩
def uX:V -> Bool
 | .non=>true
 | .bl _=>true
 | .int _=>true
 | .str _=>true
 | _=>false
def eqV:V -> V -> Bool
 | .non,.non=>true
 | .bl a,.bl b=>a == b
 | .bl a,.int b=>(if a then 1 else 0) == b
 | .int a,.bl b=>a == (if b then 1 else 0)
 | .int a,.int b=>a == b
 | .str a,.str b=>a == b
 | _,_=>false
theorem UI {A:Around} {s:Shared} {y x:V} {u v:Value} (ry:RelV y u) (rx:RelV x v) (fy:uX y = true) (fx:uX x = true):SeqAt.EqAt A s u v (eqV y x):=by
 cases y with
 | non =>
  cases ry
  cases x with
  | non=>cases rx; exact SeqAt.EqAt.same _
  | bl b=>cases rx; exact SeqAt.EqAt.none_bool b
  | int b=>obtain ⟨t,rfl⟩:=rx; exact SeqAt.EqAt.none_int b t
  | str b=>obtain ⟨t,rfl⟩:=rx; exact SeqAt.EqAt.none_str b t
  | _=>exact absurd (show false = true from fx) Bool.false_ne_true
 | bl a =>
  cases ry
  cases x with
  | non=>cases rx; exact SeqAt.EqAt.bool_none a
  | bl b=>cases rx; exact SeqAt.EqAt.bool_bool a b
  | int b=>obtain ⟨t,rfl⟩:=rx; exact SeqAt.EqAt.bool_int a b t
  | str b=>obtain ⟨t,rfl⟩:=rx; exact SeqAt.EqAt.bool_str a b t
  | _=>exact absurd (show false = true from fx) Bool.false_ne_true
 | int a =>
  obtain ⟨t',rfl⟩:=ry
  cases x with
  | non=>cases rx; exact SeqAt.EqAt.int_none a t'
  | bl b=>cases rx; exact SeqAt.EqAt.int_bool a t' b
  | int b=>obtain ⟨t,rfl⟩:=rx; exact SeqAt.EqAt.int_int a t' b t
  | str b=>obtain ⟨t,rfl⟩:=rx; exact SeqAt.EqAt.int_str a t' b t
  | _=>exact absurd (show false = true from fx) Bool.false_ne_true
 | str a =>
  obtain ⟨t',rfl⟩:=ry
  cases x with
  | non=>cases rx; exact SeqAt.EqAt.str_none a t'
  | bl b=>cases rx; exact SeqAt.EqAt.str_bool a t' b
  | int b=>obtain ⟨t,rfl⟩:=rx; exact SeqAt.EqAt.str_int a t' b t
  | str b=>obtain ⟨t,rfl⟩:=rx; exact SeqAt.EqAt.str_str a t' b t
  | _=>exact absurd (show false = true from fx) Bool.false_ne_true
 | _=>exact absurd (show false = true from fy) Bool.false_ne_true
theorem zx:xV X (.builtin "len") (fun xs H Q=>∃ p ys,xs = [.ref p] /\ (SqL X.K H p ys \/ SqT X.K H p ys) /\ Q (.int ys.length) H):=by
 intro pins s σ H xs us Q I r h
 obtain ⟨p,ys,rfl,hq,q⟩:=h
 obtain ⟨u,rfl,rx⟩:=wG r
 cases rx
 have hn:=rQ
 rcases hq with hq | hq
 ·obtain ⟨its,r',pl,hz⟩:=I.list hq
  have hlen:=r'.length
  exact Calls.call_len_list pl.isList (by simp only [List.size_toArray] <;> omega) ⟨.int ys.length,H,I.tok _,⟨s.toks + 1,by rw [List.size_toArray,hlen]⟩,q⟩
 ·obtain ⟨its,r',pl,hz⟩:=I.tuple hq
  have hlen:=r'.length
  exact len_tuple pl (by simp only [List.size_toArray] <;> omega) ⟨.int ys.length,H,I.tok _,⟨s.toks + 1,by rw [List.size_toArray,hlen]⟩,q⟩
theorem vG:xV X (.type "list") (fun xs H Q=>∃ p ys,xs = [.ref p] /\ (SqL X.K H p ys \/ SqT X.K H p ys) /\ ∀ l,H l = none -> Q (.ref l) (upd H l (.lst ys))):=by
 intro pins s σ H xs us Q I r h
 obtain ⟨p,ys,rfl,hq,q⟩:=h
 obtain ⟨u,rfl,rx⟩:=wG r
 cases rx
 have fin:∀ (its:List Value),Vals ys its -> ys.length <= sizeLine -> ∀ (h':Heap) (c':Nat),(∀ b o',s.heap.get? b = some o' -> h'.get? b = some o') →
   h'.get? s.heap.objs.size = some { cls:=.type "list",dict:=none,data:=.seq its.toArray c',slots:=#[] } -> EP X pins σ Q (.ref s.heap.objs.size) { s with heap:=h' }:=fun its r' hz h' c' kp e =>
  ⟨.ref s.heap.objs.size,_,I.laid (t':=s.toks) kp (Nat.le_refl _) (show yj X.prog X.w _ h' _ (.lst ys) from ⟨hz,its,c',r',e⟩),rfl,q _ (I.hok.fresh (Nat.le_refl _))⟩
 rcases hq with hq | hq
 ·obtain ⟨its,r',pl,hz⟩:=I.list hq
  have hlen:=r'.length
  obtain ⟨o,ho,hc,n,hd⟩:=pl.isList
  exact call_list_seq p (.inl rfl) ho hc hd (fun h' c' kp e=>fin its r' hz h' c' kp e) (by simp only [List.size_toArray] <;> omega)
 ·obtain ⟨its,r',pl,hz⟩:=I.tuple hq
  have hlen:=r'.length
  obtain ⟨o,ho,hc,n,hd⟩:=pl
  exact call_list_seq p (.inr rfl) ho hc hd (fun h' c' kp e=>fin its r' hz h' c' kp e) (by simp only [List.size_toArray] <;> omega)
theorem yJ:xV X (.type "tuple") (fun xs H Q=>∃ p ys,xs = [.ref p] /\ ((SqL X.K H p ys /\ ∀ l,H l = none -> Q (.ref l) (upd H l (.tup ys))) \/ (SqT X.K H p ys /\ Q (.ref p) H))):=by
 intro pins s σ H xs us Q I r h
 obtain ⟨p,ys,rfl,h⟩:=h
 obtain ⟨u,rfl,rx⟩:=wG r
 cases rx
 rcases h with ⟨hq,q⟩ | ⟨hq,q⟩
 ·obtain ⟨its,r',pl,hz⟩:=I.list hq
  have hlen:=r'.length
  refine call_tuple_list pl.isList (fun h' kp=>?_) (by simp only [List.size_toArray] <;> omega)
  have I1:Inv X pins σ H { s with heap:=h' }:=I.kept (t':=s.toks) kp
  have I2:Inv X pins σ (upd H h'.objs.size (.tup ys)) { s with heap:=h'.push { cls:=.type "tuple",data:=.seq its.toArray } } :=
   I1.laid (t':=s.toks) (fun b o e=>Heap.get?_push_of_some _ e) (Nat.le_refl _) (show yj X.prog X.w _ _ _ (.tup ys) from ⟨hz,its,r',IsTup.new _ _⟩)
  exact ⟨.ref h'.objs.size,_,I2,rfl,q _ (I1.hok.fresh (Nat.le_refl _))⟩
 ·obtain ⟨its,r',pl,hz⟩:=I.tuple hq
  exact call_tuple_same pl ⟨.ref p,H,I,rfl,q⟩
def tyV (K:FG7) (T:String) (x:V) (H:Hp):Prop:=match x with
 | .str _=>T = "str"
 | .int _=>T = "int"
 | .ref p=>(T = "list" /\ ∃ xs,SqL K H p xs) \/ (T = "tuple" /\ ∃ o,K.lookup p = some o /\ o.cls = .type "tuple" /\ o.dict = none) ∨
   (T = "dict" /\ ((∃ kvs,H p = some (.dK kvs)) \/ ∃ kvs,H p = some (.dT kvs))) \/ (T = "set" /\ ∃ S n,H p = some (.set S n))
 | _=>False
theorem UJ {pins:List (Addr × Obj)} {σ:St} {H:Hp} {s:Shared} {T:String} {x:V} {v:Value} (I:Inv X pins σ H s) (r:RelV x v) (ty:tyV X.K T x H) :
  s.TypeIs v T /\ ∀ a,v = .ref a -> ∃ ob,s.heap.get? a = some ob /\ ob.dict = none:=by
 cases x with
 | str z =>
  obtain ⟨t,rfl⟩:=r
  cases (show T = "str" from ty)
  exact ⟨typeIs_str s z t,fun _ e=>nomatch e⟩
 | int i =>
  obtain ⟨t,rfl⟩:=r
  cases (show T = "int" from ty)
  exact ⟨typeIs_int s i t,fun _ e=>nomatch e⟩
 | ref p =>
  cases r
  rcases ty with ⟨rfl,xs,hq⟩ | ⟨rfl,o,hk,hc,hd⟩ | ⟨rfl,hk⟩ | ⟨rfl,S,n,hk⟩
  ·obtain ⟨its,_,pl,_⟩:=I.list hq
   refine ⟨pl.isList.typeIs,fun a e=>?_⟩
   cases e
   obtain ⟨o,n,e,c,hd,_⟩:=pl
   exact ⟨o,e,hd⟩
  ·refine ⟨⟨o,I.kIn p o hk,hc⟩,fun a e=>?_⟩
   cases e
   exact ⟨o,I.kIn _ o hk,hd⟩
  ·have z:∃ o,s.heap.get? p = some o /\ o.ExactDict:=by
    rcases hk with ⟨kvs,hk⟩ | ⟨kvs,hk⟩
    ·obtain ⟨_,_,_,_,o,_,_,e,ex,_⟩:=I.hok p _ hk
     exact ⟨o,e,ex⟩
    ·obtain ⟨_,_,_,_,o,_,_,e,ex,_⟩:=I.hok p _ hk
     exact ⟨o,e,ex⟩
   obtain ⟨o,e,ex⟩:=z
   refine ⟨⟨o,e,ex.1⟩,fun a e2=>?_⟩
   cases e2
   exact ⟨o,e,ex.2.1⟩
  ·obtain ⟨o,_,_,_,e,ex,_⟩:=I.hok p _ hk
   refine ⟨⟨o,e,ex.1⟩,fun a e2=>?_⟩
   cases e2
   exact ⟨o,e,ex.2.1⟩
 | _=>exact False.elim ty
def tBM (K:FG7) (T:String) (r:V -> List V -> Hp -> VK -> Prop) (to:TE) (t:TA):TE:=fun σ H Q=>to σ H fun x H1=>tyV K T x H1 /\ t σ H1 fun xs H2=>r x xs H2 Q
variable {o e:Expr} {es:List Expr} {to:TE} {t:TA} {name:Str} {apos cpos:Pos} {T id:String} {r:V -> List V -> Hp -> VK -> Prop}
theorem wp (pa:PlainAttrs T) (slot:Slot T name id) (hty:typeOf (.builtin id) = pure (.type "method_descriptor")) (hm:MtR X id r) (ho:PE X o to) (ha:PA X (e :: es) t)
  (hbase:attributeBase o name X.env (eval o X.env) = eval o X.env:=by rfl)
  (hfew:((backTo cpos (starEach (e :: es) X.env)).all (fun x=>!x.1) && (backToKw cpos (keywordEach [] X.env)).all (fun x=>x.1.isSome)
   && decide ((e :: es).length + ([]:List Keyword).length + (if ([]:List Keyword).isEmpty then 0 else 1) < 30)) = true:=by rfl)
  (hline:(apos.endLine == cpos.line) = true:=by rfl) (hs:starEach (e :: es) X.env = (false,eval e X.env) :: starEach es X.env:=by rfl) (hplain:(backTo cpos (starEach es X.env)).any (·.1) = false:=by rfl) :
  PE X (.Call (.Attribute o name apos) (e :: es) [] cpos) (tBM X.K T r to t):=by
 intro pins s σ H Q I h
 refine wpAny_Call_method_late hbase hfew hline rfl (thn (ho pins s σ H _ I h) fun v s1 ⟨x,H1,I1,r1,ty,q1⟩=>?_)
 obtain ⟨h1,h2⟩:=UJ I1 r1 ty
 refine ⟨T,id,pa,slot,hty,h1,h2,?_⟩
 have hA:=ha cpos pins s1 σ H1 _ I1 q1
 rw [hs] at hA ⊢
 refine Calls.callWith_builtin (by show (false || (backTo cpos (starEach es X.env)).any (·.1)) = false; rw [hplain] <;> rfl) (Calls.evalArgs_plain ?_)
 exact thn hA fun us s2 ⟨vs,H2,I2,r2,q2⟩=>hm pins s2 σ H2 x vs v us Q I2 r1 r2 q2
end
end L2
namespace L2
open PySem PySem.Spec PyProof.Rows
def MtM (X:Cx) (id:String) (r:V -> List V -> Hp -> VK -> Prop):Prop :=
 ∀ (pins:List (Addr × Obj)) (s:Shared) (σ:St) (H:Hp) (x:V) (xs:List V) (v:Value) (us:List Value) (Q:VK),Inv X pins σ H s -> RelV x v -> Vals xs us -> r x xs H Q →
  wpAny (model X.prog X.w) X.A (call (.builtin id) (v :: us)) (EP X pins σ Q) X.xe s
theorem Vals.one:∀ {x:V} {us:List Value},Vals [x] us -> ∃ u,us = [u] /\ RelV x u
 | _,_,.cons r .nil=>⟨_,rfl,r⟩
theorem Vals.eraseIdx:∀ {xs:List V} {us:List Value} (i:Nat),Vals xs us -> Vals (xs.eraseIdx i) (us.eraseIdx i)
 | _,_,_,.nil=>.nil
 | _,_,0,.cons _ t=>t
 | _,_,i + 1,.cons r t=>.cons r (Vals.eraseIdx i t)
theorem Vals.rep {xs:List V} {us:List Value} (h:Vals xs us):∀ k:Nat,Vals (List.replicate k xs).flatten (List.replicate k us).flatten
 | 0=>.nil
 | k + 1=>by
  rw [List.replicate_succ,List.replicate_succ,List.flatten_cons,List.flatten_cons]
  exact Vals.append h (Vals.rep h k)
theorem rY {α:Type}:∀ (l:List α) (i:Nat),(l.eraseIdx i).length <= l.length
 | [],_=>Nat.le_refl _
 | _ :: _,0=>Nat.le_succ _
 | _ :: r,i + 1=>Nat.succ_le_succ (rY r i)
theorem rZ (its:List Value):∀ (k:Nat) (acc:List Value),
  List.foldl (fun x1 x2=>x1 ++ x2) acc.toArray (List.replicate k its.toArray) = (acc ++ (List.replicate k its).flatten).toArray
 | 0,acc=>by simp
 | k + 1,acc=>by
  have e:acc.toArray ++ its.toArray = (acc ++ its).toArray:=by simp
  have e2:(acc ++ its) ++ (List.replicate k its).flatten = acc ++ (List.replicate (k + 1) its).flatten:=by
   rw [List.replicate_succ,List.flatten_cons,List.append_assoc]
  rw [← e2,← rZ its k (acc ++ its),← e,List.replicate_succ,List.foldl_cons]
section
variable {X:Cx} {pins:List (Addr × Obj)} {σ:St} {H:Hp} {s:Shared} {l b:Addr} {xs ys zs:List V}
theorem Inv.lset {its its':List Value} {n:Nat} {f:Array Value -> Array Value} {t':Nat} (I:Inv X pins σ H s) (hH:H l = some (.lst xs))
  (e:s.heap.get? l = some { cls:=.type "list",data:=.seq its.toArray n }) (hf:f its.toArray = its'.toArray) (hv:Vals ys its') (hz:ys.length <= sizeLine) :
  Inv X pins σ (upd H l (.lst ys)) { s with heap:=s.heap.update l (Obj.mapSeq f),toks:=t' }:=by
 have q:=PySem.IsL.update e f
 rw [hf] at q
 refine I.write (x:=l) (e:=l) (by rw [hH]; exact trivial) (.inl rfl) (fun b' u hb hu=>(Heap.get?_update_other s.heap (Obj.mapSeq f) (Ne.symm hb)).trans hu) ⟨_,q⟩ ?_
 exact ⟨hz,its',_,hv,q⟩
theorem Inv.lnew {its:List Value} {t':Nat} (I:Inv X pins σ H s) (hv:Vals ys its) (hz:ys.length <= sizeLine) :
  Inv X pins σ (upd H s.heap.objs.size (.lst ys)) { s with heap:=s.heap.push { cls:=.type "list",data:=.seq its.toArray },toks:=t' } :=
 I.laid (fun _ _ q=>Heap.get?_push_of_some _ q) (Nat.le_refl _) ⟨hz,its,0,hv,Heap.get?_push_size _ rfl⟩
theorem Inv.fresh (I:Inv X pins σ H s):H s.heap.objs.size = none:=I.hok.fresh (Nat.le_refl _)
theorem Inv.lstM (I:Inv X pins σ H s) (hH:H l = some (.lst xs)):xs.length <= sizeLine /\ ∃ (its:List Value) (n:Nat),Vals xs its /\ xs.length = its.length /\ s.heap.get? l = some { cls:=.type "list",data:=.seq its.toArray n }:=by
 obtain ⟨z,its,n,r,e⟩:=I.hok l _ hH
 exact ⟨z,its,n,r,r.length,e⟩
theorem sG {n:Nat} (h:n <= sizeLine):Builtin.List.listTooLong n = false:=by
 unfold Builtin.List.listTooLong
 exact decide_eq_false (by omega)
end
section
variable {X:Cx}
def VP:V -> List V -> Hp -> VK -> Prop:=fun x vs H Q=>∃ l xs y,x = .ref l /\ vs = [y] /\ H l = some (.lst xs) /\ xs.length < sizeLine /\ Q .non (upd H l (.lst (xs ++ [y])))
theorem xy:MtM X "list.append" VP:=by
 intro pins s σ H x vs v us Q I rx rv h
 obtain ⟨l,xs,y,rfl,rfl,hH,hz,q⟩:=h
 cases rx
 obtain ⟨u,rfl,ru⟩:=rv.one
 obtain ⟨z,its,n,r,hl,e⟩:=I.lstM hH
 refine call_meets F.slot_list_append ⟨_,e,rfl⟩ F.entry_list_append (F.args_list_append_2 _ _) (PySem.list_append l its.toArray n u (by rw [List.size_toArray]; omega)) ⟨e,?_⟩
 refine ⟨.non,_,I.lset (its':=its ++ [u]) hH e (by simp) (r.append (.cons ru .nil)) ?_,rfl,q⟩
 rw [List.length_append,List.length_singleton]
 omega
def VQ:V -> List V -> Hp -> VK -> Prop:=fun x vs H Q=>∃ l b xs zs,x = .ref l /\ vs = [.ref b] /\ H l = some (.lst xs) /\ H b = some (.lst zs) /\ xs.length + zs.length <= sizeLine /\ Q .non (upd H l (.lst (xs ++ zs)))
theorem xZ:MtM X "list.extend" VQ:=by
 intro pins s σ H x vs v us Q I rx rv h
 obtain ⟨l,b,xs,zs,rfl,rfl,hH,hB,hz,q⟩:=h
 cases rx
 obtain ⟨u,rfl,ru⟩:=rv.one
 cases ru
 obtain ⟨z,its,n,r,hl,e⟩:=I.lstM hH
 obtain ⟨z2,its2,n2,r2,hl2,e2⟩:=I.lstM hB
 have hsz:its.toArray.size + its2.toArray.size <= sizeLine:=by rw [List.size_toArray,List.size_toArray]; omega
 have hlong:¬ (!its.toArray.isEmpty && Builtin.List.listTooLong (its.toArray.size + its2.toArray.size)) = true:=by
  rw [sG hsz,Bool.and_false]
  exact Bool.false_ne_true
 refine call_meets F.slot_list_extend ⟨_,e,rfl⟩ F.entry_list_extend (F.args_list_extend_2 _ _)
  (AutoSeq1.list_extend_list_list_0 l its.toArray n b its2.toArray n2 hlong (by rw [List.size_toArray]; omega) (by omega)) ⟨e,e2,?_⟩
 refine ⟨.non,_,I.lset (its':=its ++ its2) hH e (by simp) (r.append r2) ?_,rfl,q⟩
 rw [List.length_append]
 omega
def UK:V -> List V -> Hp -> VK -> Prop:=fun x vs H Q=>∃ l xs i k y,x = .ref l /\ vs = [.int i] /\ H l = some (.lst xs) /\ -(2 ^ 63) <= i /\ i < 2 ^ 63 /\ seqIndex? i xs.length = some k /\ xs[k]? = some y /\ Q y (upd H l (.lst (xs.eraseIdx k)))
theorem sH:MtM X "list.pop" UK:=by
 intro pins s σ H x vs v us Q I rx rv h
 obtain ⟨l,xs,i,k,y,rfl,rfl,hH,h1,h2,hk,hy,q⟩:=h
 cases rx
 obtain ⟨u,rfl,ru⟩:=rv.one
 obtain ⟨t,rfl⟩:=ru
 obtain ⟨z,its,n,r,hl,e⟩:=I.lstM hH
 obtain ⟨w,hw,rw'⟩:=r.get hy
 refine call_meets F.slot_list_pop ⟨_,e,rfl⟩ F.entry_list_pop (F.args_list_pop_2 _ _)
  (MeetsSeq.list_pop_at l its.toArray n i t k w (fitsIndex_both h1 h2) (by rw [List.size_toArray,← hl]; exact hk) (by rw [← Array.getElem?_toList]; exact hw) (by rw [List.size_toArray]; omega)) ⟨e,?_⟩
 refine ⟨y,_,I.lset (its':=its.eraseIdx k) hH e ?_ (r.eraseIdx k) ?_,rw',q⟩
 ·show its.toArray.eraseIdxIfInBounds k = (its.eraseIdx k).toArray
  rw [List.eraseIdxIfInBounds_toArray]
 ·have:=rY xs k
  omega
def rCat:R2:=fun x y H Q=>∃ l b xs zs,x = .ref l /\ y = .ref b /\ H l = some (.lst xs) /\ H b = some (.lst zs) /\ xs.length + zs.length <= sizeLine /\ ∀ p,H p = none -> Q (.ref p) (upd H p (.lst (xs ++ zs)))
theorem UL:OpR X (binaryOp .Add) rCat:=by
 intro pins s σ H x y v u Q I rx ry h
 obtain ⟨l,b,xs,zs,rfl,rfl,hH,hB,hz,q⟩:=h
 cases rx
 cases ry
 obtain ⟨z,its,n,r,hl,e⟩:=I.lstM hH
 obtain ⟨z2,its2,n2,r2,hl2,e2⟩:=I.lstM hB
 refine PySem.P.add_list e e2 ?_ (by rw [List.size_toArray,List.size_toArray]; omega)
 have ea:its.toArray ++ its2.toArray = (its ++ its2).toArray:=by simp
 rw [ea]
 exact ⟨.ref _,_,I.lnew (t':=s.toks) (r.append r2) (by rw [List.length_append]; omega),rfl,q _ I.fresh⟩
def rRep:R2:=fun x y H Q=>∃ l k xs,x = .ref l /\ y = .int k /\ H l = some (.lst xs) /\ -(2 ^ 63) <= k /\ k < 2 ^ 63 /\ xs.length * k.toNat <= sizeLine ∧
 ∀ p,H p = none -> Q (.ref p) (upd H p (.lst (List.replicate k.toNat xs).flatten))
theorem VR {α:Type} (xs:List α) (k:Nat):(List.replicate k xs).flatten.length = k * xs.length:=by
 induction k with
 | zero=>simp
 | succ k ih=>rw [List.replicate_succ,List.flatten_cons,List.length_append,ih,Nat.succ_mul,Nat.add_comm]
theorem YR:OpR X (binaryOp .Mult) rRep:=by
 intro pins s σ H x y v u Q I rx ry h
 obtain ⟨l,k,xs,rfl,rfl,hH,h1,h2,hz,q⟩:=h
 cases rx
 obtain ⟨t,rfl⟩:=ry
 obtain ⟨z,its,n,r,hl,e⟩:=I.lstM hH
 have hlen:its.toArray.size * k.toNat <= sizeLine:=by rw [List.size_toArray,← hl]; exact hz
 have hcap:¬ its.toArray.size * k.toNat > (2 ^ 63 - 1) / 8:=by
  have:(sizeLine:Nat) <= (2 ^ 63 - 1) / 8:=by decide
  omega
 have hfit:¬ (!Builtin.List.listFitsIndex k) = true:=by
  rw [fitsIndex_both h1 h2]
  exact Bool.false_ne_true
 have hlong:¬ Builtin.List.listTooLong (its.toArray.size * k.toNat) = true:=by
  rw [sG hlen]
  exact Bool.false_ne_true
 have hnew:List.foldl (fun x1 x2=>x1 ++ x2) #[] (List.replicate (if its.toArray.isEmpty = true then 0 else k.toNat) its.toArray) = (List.replicate k.toNat its).flatten.toArray:=by
  have f0:∀ m:Nat,List.foldl (fun x1 x2=>x1 ++ x2) #[] (List.replicate m its.toArray) = (List.replicate m its).flatten.toArray:=fun m=>by
   have:=rZ its m []
   rw [List.nil_append] at this
   exact this
  rw [f0]
  cases its with
  | nil=>simp
  | cons a r'=>rw [if_neg (by simp)]
 refine wpAny_binaryOp_repeat_ref (T:="list") (U:="int") (by decide) ⟨_,e,rfl⟩ (fun s'=>typeIs_int s' k t) noFill_list_mul F.fills_int_mul F.slot_int_rmul repeat_list F.slot_int_index.lookup
  (call_meets F.slot_int_rmul (typeIs_int s k t) F.entry_int_rmul (F.args_int_rmul_2 _ _) (int___rmul___int_list k t l its.toArray n)
   ⟨e,rfl,⟨_,e,rfl⟩,call_meets F.slot_list_mul ⟨_,e,rfl⟩ F.entry_list_mul (F.args_list_mul_2 _ _) (AutoListH.list___mul___list_int_3 l its.toArray n k t hfit hcap hlong) ⟨e,?_⟩⟩)
 rw [hnew]
 exact ⟨.ref _,_,I.lnew (t':=s.toks) (r.rep k.toNat) (by rw [VR,Nat.mul_comm]; exact hz),rfl,q _ I.fresh⟩
end
end L2
namespace Att
open PySem PySem.W PySem.Calls PyProof.Rows
theorem uh {P:Params} {h:Heap}:∀ (ns:List Int) (vs:List Value),WellAll P h vs (ns.map WData.int) -> IntsAre vs ns:=by
 intro ns
 induction ns with
 | nil =>
  intro vs w
  rw [List.map_nil] at w
  cases w
  exact .nil
 | cons n ns ih =>
  intro vs w
  rw [List.map_cons] at w
  cases w with
  | cons a b =>
   cases a
   exact .cons _ _ (ih _ b)
theorem YS {l:OpenLaw} {n:Nat} (hn:l.most = some n) {P:Params} {h:Heap} {args:List WData} {vals:List Value}
  (hpre:l.row.toRowW.claim.pre args = true) (hwl:WellAll P h vals args) :
  ∃ a vs ns,vals = [Value.ref a] /\ args = [WData.list (ns.map WData.int)] /\ h.get? a = some { cls:=.type "list",data:=.seq vs.toArray } /\ IntsAre vs ns /\ ns.length <= n:=by
 have hsh:WShape.hasAll [] args [.list .int] = true:=(pre_splitW hpre).1
 have hc:l.pre.holds [] { args:=args } = true:=(pre_splitW hpre).2
 obtain ⟨d,r,rfl,h1,h2⟩:=hasAllW_cons hsh
 obtain rfl:=hasAllW_nil h2
 obtain ⟨xs,rfl,h3⟩:=hasW_list h1
 obtain ⟨ns,rfl⟩:=items_int h3
 have hlen:ns.length <= n:=by
  unfold OpenLaw.pre at hc
  have h4:(WTm.not (.lt (.lit (.int (n:Int))) (.len (.arg 0)))).holds [] { args:=[.list (ns.map .int)] } = true:=by
   have h4:=(holds_andW hc).1
   rw [hn] at h4
   exact h4
  have h5:=condW_of h4 (w_not (w_lt w_lit (w_len_list (w_arg rfl))))
  rw [List.length_map] at h5
  refine Nat.le_of_not_lt fun q=>?_
  have q':(n:Int) < ((ns.length:Nat):Int):=by omega
  first
   | (rw [decide_eq_true q'] at h5; exact absurd h5 (by decide))
   | (simp at h5; omega)
 cases hwl with
 | cons w1 w2 =>
  cases w2
  cases w1 with
  | list ho hall=>exact ⟨_,_,ns,rfl,rfl,ho,uh ns _ hall,hlen⟩
theorem YT (l:OpenLaw) (args:List WData):l.row.toRowW.claim.post args (.bool true) args = true :=
 postW_of (r:=l.row.toRowW) (X:=(true == true))
  (show WShape.has [] (.bool true) .bool = true by first | rfl | decide | simp [WShape.has,WShape.arms,WShape.armsAll])
  (show (WTm.eq .res (.lit (.bool true))).value [] { args:=args,res:=some (.bool true),after:=args } = some (.bool (true == true)) from w_eq_bool (w_res rfl) w_lit) rfl
theorem attach_call {l:OpenLaw} {n:Nat} {q:Program} {loose:List Str} {XP:(Str -> Option Value) -> Heap -> Prop} {YP:World -> Heap -> Prop} {d:DefRec}
  (hn:l.most = some n) (hdf:d.params.defaults = [])
  (call:∀ (w:World) (s₀ s₁:Shared) (mg mb:Str -> Option Value) (fa:Addr) (o:Obj) (pm cd doc:Value) (a:Addr) (vs:List Value) (ns:List Int),
   Ground q loose [] XP w s₀ mg mb s₁.heap -> YP w s₁.heap →
   s₁.heap.get? fa = some o -> o.data = .func (docDef d.name d.params d.body d.scope pm cd doc) -> s₁.heap.CodeRec cd d.name -> mg d.name = some (.ref fa) →
   s₁.heap.get? a = some { cls:=.type "list",data:=.seq vs.toArray } -> IntsAre vs ns -> ns.length <= n -> s₁.gens = #[] →
   codeAny (model l.prog w) callerA (.call (.ref fa) ⟨[.ref a],[]⟩) (fun r s'=>r = .ok (.ret (.bool true)) /\ OldK s₁.heap s'.heap /\ s'.os = s₁.os /\ AllBare s'.gens) s₁) :
  WalkO q loose XP YP l.row.toRowW d [] (fun f vs=>PySem.call f vs):=by
 intro w s₀ s₁ mg mb G Y fa o pm cd doc dV kV ho hd hcd hD hmg hg args vals as hpre hlay hrd hwl hlo
 obtain rfl:dV = .none:=Dflts.none hD hdf
 obtain rfl:kV = .none:=Dflts.noKw hD
 obtain ⟨a,vs,ns,rfl,rfl,hobj,hints,hlen⟩:=YS hn hpre hwl
 refine enter_call (codeAny_mono (call w s₀ s₁ mg mb fa o pm cd doc a vs ns G Y ho (fd_plain hd) hcd hmg hobj hints hlen hg) fun r s' hq=>?_)
 obtain ⟨rfl,h2,h3,h4⟩:=hq
 exact ⟨.inl ⟨.bool true,.bool true,[],rfl,fun _=>rfl,.bool true,YT l _,fun _=>⟨List.Pairwise.nil,fun _ hm=>(nomatch hm)⟩⟩,h2,h3,h4⟩
end Att
namespace L2
open PySem PySem.Spec PyProof.Rows
theorem xz:∀ {vs:List Value} {ns:List Int},IntsAre vs ns -> Vals (ns.map V.int) vs
 | _,_,.nil=>.nil
 | _,_,.cons n t h=>.cons ⟨t,rfl⟩ (xz h)
def Only (H:Hp):Prop:=∀ b,H b = none \/ ∃ o xs,H b = some (.frz o (.lst xs))
theorem Wn {P:Program} {w:World} {K:FG7} {mg mb:Str -> Option Value} {CX:CXT} {k:Nat} {fa a:Addr} {fd:FuncData} {x:Str} {sp:Sp} {s₁:Shared} {vs:List Value} {ns:List Int}
  (KX:K.In s₁.heap) (hns:s₁.heap.Ns mainGlobals mg) (hb:s₁.heap.Ns builtinsNs mb) (hbb:∀ x:Str,x ≠ "__name__" -> mb x = bootBuiltins x) (hlim:s₁.heap.NoLimit) (hg:s₁.gens = #[])
  (ha:s₁.heap.get? a = some { cls:=.type "list",data:=.seq vs.toArray }) (hi:IntsAre vs ns) (hl:ns.length <= sizeLine) (hr:Room k callerA)
  (F:∀ base:Heap,K.In base -> base.Ns mainGlobals mg -> FnOk P w K mg base CX k fa fd [x] sp) (hbind:∀ (s:Shared) (u:Value),BindsTo s fd ⟨[u],[]⟩ [(x,u)])
  (hsp:∀ H:Hp,Only H -> SqL K H a (ns.map V.int) -> sp [.ref a] H (fun v _=>v = .bl true) fun _ _ _=>False)
  (hCX:∀ H e s',CX [] H s₁ (fun _ _ _=>False) e s' -> False) :
  codeAny (model P w) callerA (.call (.ref fa) ⟨[.ref a],[]⟩) (fun r s'=>r = .ok (.ret (.bool true)) /\ OldK s₁.heap s'.heap /\ s'.os = s₁.os /\ AllBare s'.gens) s₁:=by
 have rv:=xz hi
 have lenV:=hi.length
 -- from an abstract heap in which nothing but the script may be tracked
 have core:∀ H:Hp,Only H -> SqL K H a (ns.map V.int) -> HOk P w H s₁.heap -> (∀ b,H b ≠ none -> b = a) -> (H a ≠ none -> K.lookup a = none) →
   codeAny (model P w) callerA (.call (.ref fa) ⟨[.ref a],[]⟩) (fun r s'=>r = .ok (.ret (.bool true)) /\ OldK s₁.heap s'.heap /\ s'.os = s₁.os /\ AllBare s'.gens) s₁:=by
  intro H hO hS hok hA hK
  have base_of:∀ {b:Addr} {o:Obj},s₁.heap.get? b = some o -> H b = none -> (hidT s₁.heap H).get? b = some o:=fun e n=>Wb e n
  have noA:∀ {b:Addr} {o:Obj} {es:Array DictEntry} {ep:Nat},s₁.heap.get? b = some o -> o.data = .dict es ep -> H b = none:=fun {b o es ep} e d=>by
   cases q:H b with
   | none=>rfl
   | some u =>
    have e':b = a:=hA b (by rw [q]; simp)
    subst e'
    rw [ha] at e; cases e
    have d':Data.seq vs.toArray _ = Data.dict es ep:=d
    cases d'
  have nsK:∀ {b:Addr} {m:Str -> Option Value},s₁.heap.Ns b m -> (hidT s₁.heap H).Ns b m:=fun {b m} ⟨o,es,ep,e,d,r⟩=>⟨o,es,ep,base_of e (noA e d),d,r⟩
  have hKb:K.In (hidT s₁.heap H):=fun b o e=>base_of (KX b o e) (by
   cases q:H b with
   | none=>rfl
   | some u =>
    have e':b = a:=hA b (by rw [q]; simp)
    subst e'
    rw [hK (by rw [q]; simp)] at e; cases e)
  have hM:Mod K mg (hidT s₁.heap H):=⟨hKb,nsK hns,⟨mb,nsK hb,hbb⟩,let ⟨mc,h1,h2⟩:=hlim; ⟨mc,nsK h1,h2⟩⟩
  have e0:Env0 P w K mg (hidT s₁.heap H) callerA [] s₁ H:=⟨rfl,hM,fun b o e=>Vy e,Nat.le_of_eq (YB _ _),trivial,fun b hb=>absurd (show b ∈ ([]:List Addr) from hb) (by simp),hok,.of_eq hg⟩
  refine codeAny_mono ((F _ hKb (nsK hns)).run callerA [] s₁ H ⟨[.ref a],[]⟩ [.ref a] [.ref a] _ _ hr e0 (hbind s₁ (.ref a)) (.cons rfl .nil) (hsp H hO hS)) fun r s' h=>?_
  cases r with
  | error e=>exact (hCX H e s' h).elim
  | ok fl =>
   cases fl with
   | next=>exact False.elim h
   | brk=>exact False.elim h
   | cont=>exact False.elim h
   | ret u =>
    obtain ⟨v,H',os,bare,un,hok',r',q⟩:=h
    have q':v = .bl true:=q
    subst q'
    obtain rfl:u = Value.bool true:=r'
    refine ⟨rfl,OldK.of_keep fun b o e=>?_,os,bare⟩
    cases q:H b with
    | none=>exact un.keep b o e q (by intro z; exact absurd (show b ∈ ([]:List Addr) from z) (by simp)) (by simp)
    | some u =>
     rcases hO b with z | ⟨ob,xs,z⟩
     ·rw [q] at z; cases z
     ·have z2:=un.frzs b ob _ z
      obtain ⟨e1,_⟩:=hok b _ z
      obtain ⟨e2,_⟩:=hok' b _ z2
      rw [e] at e1; cases e1
      exact e2
 cases hk:K.lookup a with
 | some o =>
  -- the script is one of the module's own objects
  have e:=KX a o hk
  rw [ha] at e
  cases e
  refine core (fun _=>none) (fun _=>.inl rfl) (.inr ⟨_,vs.toArray,_,hk,rfl,rfl,rfl,by rw [List.size_toArray,lenV]; exact hl,by simpa using rv⟩) (fun b u z=>by have z':(none:Option HO) = some u:=z; cases z') (fun b z=>absurd rfl z) fun z=>absurd rfl z
 | none =>
  refine core (fun b=>if b = a then some (.frz { cls:=.type "list",data:=.seq vs.toArray } (.lst (ns.map V.int))) else none) (fun b=>?_) (.inl (.inr ⟨{ cls:=.type "list",data:=.seq vs.toArray },if_pos rfl⟩)) (fun b u z=>?_) (fun b z=>?_) fun _=>hk
  ·by_cases hb:b = a
   ·exact .inr ⟨_,_,if_pos hb⟩
   ·exact .inl (if_neg hb)
  ·by_cases hb:b = a
   ·have z':=(if_pos hb).symm.trans z
    cases z'
    subst hb
    exact ⟨ha,by rw [List.length_map]; exact hl,vs,_,rv,ha⟩
   ·have z':=(if_neg hb).symm.trans z
    cases z'
  ·by_cases hb:b = a
   ·exact hb
   ·exact absurd (if_neg hb) z
end L2
namespace L2
open PySem PySem.Spec PyProof.Rows
theorem walk_of {l:PySem.W.OpenLaw} {n k:Nat} {q:Program} {loose:List Str} {XP:(Str -> Option Value) -> Heap -> Prop} {YP:World -> Heap -> Prop} {d:DefRec} {K:Params -> FG7} {CX:World -> CXT} {sp:World -> Sp} {x:Str}
  (hn:l.most = some n) (hn2:n <= sizeLine) (hdf:d.params.defaults = []) (hr:Room k callerA)
  (hY:∀ (w:World) (h:Heap),YP w h -> (K w.params).In h)
  (F:∀ (w:World) (mg:Str -> Option Value) (fa:Addr) (h:Heap),(K w.params).In h -> h.Ns mainGlobals mg -> mg d.name = some (.ref fa) →
   ∃ fd:FuncData,(∀ (s:Shared) (u:Value),BindsTo s fd ⟨[u],[]⟩ [(x,u)]) ∧
    ∀ base:Heap,(K w.params).In base -> base.Ns mainGlobals mg -> FnOk l.prog w (K w.params) mg base (CX w) k fa fd [x] (sp w))
  (hsp:∀ (w:World) (H:Hp) (a:Addr) (ns:List Int),ns.length <= n -> Only H -> SqL (K w.params) H a (ns.map V.int) -> sp w [.ref a] H (fun v _=>v = .bl true) fun _ _ _=>False)
  (hCX:∀ (w:World) (H:Hp) (s:Shared) (e:Value) (s':Shared),CX w [] H s (fun _ _ _=>False) e s' -> False) :
  PySem.W.WalkO q loose XP YP l.row.toRowW d [] (fun f vs=>PySem.call f vs):=by
 refine Att.attach_call hn hdf fun w s₀ s₁ mg mb fa o pm cd doc a vs ns G Y ho hd hcd hmg hobj hints hlen hg=>?_
 have KX:=hY w _ Y
 obtain ⟨fd,hb,hF⟩:=F w mg fa _ KX G.T.g hmg
 exact Wn KX G.T.g G.T.b G.T.builtins G.T.nolimit hg hobj hints (Nat.le_trans hlen hn2) hr hF hb (fun H hO hS=>hsp w H a ns hlen hO hS) fun H e s'=>hCX w H s₁ e s'
end L2
namespace L2
open PySem PySem.Spec PyProof.Rows
def zk (s:Stmt) (j:Nat):Stmt:=match s with
 | .ClassDef _ _ _ body _ _ _ _ _ _ _=>body.getD j (.Pass ⟨0,0,0,0⟩)
 | _=>.Pass ⟨0,0,0,0⟩
def zS (s:Stmt):Arguments:=match s with
 | .FunctionDef _ a _ _ _ _ _ _ _ _=>a
 | _=>{ posonlyargs:=[],args:=[],vararg:=none,kwonlyargs:=[],kw_defaults:=[],kwarg:=none,defaults:=[] }
def zN (s:Stmt):List Stmt:=match s with
 | .FunctionDef _ _ b _ _ _ _ _ _ _=>b
 | _=>[]
def zf (s:Stmt):Scope:=match s with
 | .FunctionDef _ _ _ _ _ _ sc _ _ _=>sc
 | _=>{ kind:=.function,names:=[],isGenerator:=false,isCoroutine:=false }
abbrev CX0:CXT:=fun _ _ _ _ _ _=>False
abbrev E0:XK:=fun _ _ _=>False
theorem Wo {X:Cx}:uf CX0 X E0:=fun _ _ _ _ _ _ _ h=>h.elim
structure Fun (K:FG7) (x qual:Str) (st:Stmt) (f:Addr) (fd:FuncData):Prop where
 ex:∃ (oc:Value) (od:Option Addr) (kV doc pm:Value) (an:Option Addr) (cdv ct:Value) (osl:Array (Option Value)),
  fd = PySem.W.fnOf x qual (zS st) (zN st) (zf st) .none kV doc pm an cdv ct /\ K.lookup f = some ⟨oc,od,.func fd,osl⟩ /\ PySem.W.codeIn K cdv qual = true
 kp:PySem.W.keepIn K (.ref f) = true
section
variable {P:Program} {w:World} {K:FG7} {mg:Str -> Option Value} {base:Heap}
theorem Fun.ok {x qual:Str} {st:Stmt} {f:Addr} {fd:FuncData} {N ps:List Str} {k:Nat} {sp:Sp} (F:Fun K x qual st f fd) (S:FnScope N ps (zf st)) (len:∀ vs H Q E,sp vs H Q E -> vs.length = ps.length)
  (hbody:∀ (cdv:Value) (A:Around) (outer:List Env) (s:Shared) (H:Hp) (vs:List V) (Q:VK) (E:XK),Room k (A.deeper (envOfC qual (zf st) s.heap.objs.size f cdv)) -> sp vs H Q E →
   ∃ t,PSs (cxOf CX0 P w K mg base N qual (zf st) f cdv A outer s H E).nox (zN st) t /\ t { nx:=fun _ H'=>Q .non H',rt:=Q } (sD N vs) H):FnOk P w K mg base CX0 (k + 1) f fd ps sp:=by
 obtain ⟨oc,od,kV,doc,pm,an,cdv,ct,osl,rfl,lk,hcd⟩:=F.ex
 refine UG lk hcd S len fun A outer s H vs Q E hr hsp=>?_
 obtain ⟨t,h,q⟩:=hbody cdv A outer s H vs Q E hr hsp
 exact ⟨t,h.nox,q⟩
theorem Fun.binds {x qual:Str} {st:Stmt} {f:Addr} {fd:FuncData} {ps:List Str} (F:Fun K x qual st f fd)
  (h:∀ (kV doc pm:Value) (an:Option Addr) (cdv ct:Value) (us:List Value),us.length = ps.length -> bindArgs (PySem.W.fnOf x qual (zS st) (zN st) (zf st) .none kV doc pm an cdv ct) ⟨us,[]⟩ = pure (ps.zip us)):xY K fd ps []:=by
 obtain ⟨oc,od,kV,doc,pm,an,cdv,ct,osl,rfl,lk,hcd⟩:=F.ex
 exact .all (h kV doc pm an cdv ct)
theorem fun_mk {x qual:Str} {st:Stmt} {f:Addr} {oc:Value} {od an:Option Addr} {osl:Array (Option Value)} {kV doc pm cdv ct:Value} (l:K.lookup f = some ⟨oc,od,.func (PySem.W.fnOf x qual (zS st) (zN st) (zf st) .none kV doc pm an cdv ct),osl⟩)
  (c:PySem.W.codeIn K cdv qual = true) (k:PySem.W.keepIn K (.ref f) = true):Fun K x qual st f (PySem.W.fnOf x qual (zS st) (zN st) (zf st) .none kV doc pm an cdv ct):=⟨⟨oc,od,kV,doc,pm,an,cdv,ct,osl,rfl,l,c⟩,k⟩
end
theorem zp {n:Nat} (h:n <= 1000):n < sizeLine:=Nat.lt_of_le_of_lt h (by decide)
section
variable {X:Cx}
theorem pv (i:Nat) {x:Str} {pos:Pos} (hN:X.N[i]? = some x:=by rfl) (hv:Vis X.env.scope x:=by first | exact Or.inl rfl | exact Or.inr (Or.inl rfl) | exact Or.inr (Or.inr rfl)) (hd:(x == ("__debug__":Str)) = false:=by decide)
  (hcd:(x == ("__classdict__":Str)) = false:=by decide):PE X (.Name x pos) (tVar i):=Uw hN hv hd hcd
end
theorem iteF {A B:Prop} (h:B):if false = true then A else B:=by
 rw [if_neg Bool.false_ne_true]
 exact h
theorem iteT {A B:Prop} (h:A):if true = true then A else B:=by
 rw [if_pos rfl]
 exact h
theorem ite2 {c A B:Prop} [Decidable c] (h1:c -> A) (h2:¬ c -> B):if c then A else B:=by
 by_cases h:c
 ·rw [if_pos h]
  exact h1 h
 ·rw [if_neg h]
  exact h2 h
end L2
namespace L3
open PySem PySem.Spec PyProof.Rows L2
theorem x6:bootBuiltins "len" = some (.builtin "len"):=by decide +kernel
theorem Wp:bootBuiltins "max" = some (.builtin "max"):=by decide +kernel
theorem UM:bootBuiltins "min" = some (.builtin "min"):=by decide +kernel
theorem Wq:bootBuiltins "divmod" = some (.builtin "divmod"):=by decide +kernel
theorem yp:bootBuiltins "isinstance" = some (.builtin "isinstance"):=by decide +kernel
theorem VS:bootBuiltins "all" = some (.builtin "all"):=by decide +kernel
theorem TK:bootBuiltins "sum" = some (.builtin "sum"):=by decide +kernel
theorem vR:bootBuiltins "sorted" = some (.builtin "sorted"):=by decide +kernel
theorem YU:bootBuiltins "int" = some (.type "int"):=by decide +kernel
theorem UN:bootBuiltins "bool" = some (.type "bool"):=by decide +kernel
theorem xr:bootBuiltins "tuple" = some (.type "tuple"):=by decide +kernel
theorem YV:bootBuiltins "list" = some (.type "list"):=by decide +kernel
theorem UO:bootBuiltins "dict" = some (.type "dict"):=by decide +kernel
def TyV (K:FG7) (H:Hp) (x:V) (T:String):Prop:=match x with
 | .non=>T = "NoneType"
 | .bl _=>T = "bool"
 | .int _=>T = "int"
 | .str _=>T = "str"
 | .ref a=>(T = "tuple" /\ ∃ xs,SqT K H a xs) \/ (T = "list" /\ ∃ xs,SqL K H a xs) \/ (T = "dict" /\ ∃ kvs,H a = some (.dK kvs))
 | _=>False
section
variable {X:Cx} {a b c:Expr} {ta tb tc:TE} {pos:Pos}
def rIsi (K:FG7):List V -> Hp -> VK -> Prop:=fun xs H Q=>∃ x T t k,xs = [x,.ty T] /\ TyV K H x t /\ PySem.W.kitOne K (.type t) (.type T) = some k /\ Q (.bl k) H
theorem xH:xV X (.builtin "isinstance") (rIsi X.K):=by
 intro pins s σ H xs us Q I r h
 obtain ⟨x,T,t,k,rfl,ty,e,q⟩:=h
 obtain ⟨u,w',rfl,rx,rt⟩:=YI r
 cases (show w' = Value.type T from rt)
 have fin:∀ tk,EP X pins σ Q (.bool k) { s with toks:=tk }:=fun tk=>⟨.bl k,H,I.tok _,rfl,q⟩
 cases x with
 | non=>cases (show t = "NoneType" from ty); exact xX I rx .non e fin
 | bl y=>cases (show t = "bool" from ty); exact xX I rx (.bl y) e fin
 | int i=>cases (show t = "int" from ty); exact xX I rx (.int i) e fin
 | str y=>cases (show t = "str" from ty); exact xX I rx (.str y) e fin
 | byt y=>exact ty.elim
 | flt y=>exact ty.elim
 | ty y=>exact ty.elim
 | ref a =>
  cases (show u = Value.ref a from rx)
  rcases ty with ⟨rfl,xs,hq⟩ | ⟨rfl,xs,hq⟩ | ⟨rfl,kvs,hq⟩
  ·obtain ⟨its,_,⟨o,h1,h2,_⟩,_⟩:=I.tuple hq
   exact PySem.W.kia_one PySem.W.kitx_tuple I.kIn ⟨o,h1,h2⟩ e (fun z=>nomatch z) fin
  ·obtain ⟨its,_,pl,_⟩:=I.list hq
   obtain ⟨o,h1,h2,_⟩:=pl.isList
   exact PySem.W.kia_one PySem.W.kitx_list I.kIn ⟨o,h1,h2⟩ e (fun z=>nomatch z) fin
  ·exact xX (x:=V.ref a) I (show RelV (.ref a) (.ref a) from rfl) (.dK hq) e fin
theorem ui {x:Str} {T:String} {pos:Pos} (hg:Gl X x) (hm:X.mg x = none) (hv:bootBuiltins x = some (.type T)) (hn:x ≠ "__name__":=by decide) (hd:(x == ("__debug__":Str)) = false:=by decide):PE X (.Name x pos) (tC (.ty T)) :=
 Vz hg hm hv (show RelV (.ty T) (Value.type T) from rfl) hn hd
theorem xI:OpR X (binaryOp .Mult) (rI IntMulOk fun i j=>.int (i * j)):=opI fun _ _ _ _ _ _ _ hc q=>mul_int q hc
def YW (i j:Int):Prop:=0 < j /\ j < 2 ^ 200
theorem YW.py {i j:Int} (h:YW i j):Builtin.divisionGoesByPylong i j = false:=by
 refine PyProof.noPylong_of_log2 ?_
 obtain ⟨h1,h2⟩:=h
 have h0:j.natAbs ≠ 0:=by omega
 have h3:j.natAbs < 2 ^ 200:=by
  have:(j.natAbs:Int) = j:=by omega
  have h4:((j.natAbs:Nat):Int) < ((2 ^ 200:Nat):Int):=by rw [this]; exact h2
  exact Int.ofNat_lt.mp h4
 exact Nat.lt_of_lt_of_le ((Nat.log2_lt h0).mpr h3) (by decide)
theorem wR:OpR X (binaryOp .FloorDiv) (rI YW fun i j=>.int (i / j)):=opI fun i j _ _ _ _ _ hc q=>by
 have:=hc.1
 refine floordiv_int (by omega) ?_ (.inl hc.py)
 rw [Int.fdiv_eq_ediv_of_nonneg i (by omega)]
 exact q
theorem qa:xV X (.builtin "divmod") (fun xs H Q=>∃ i j,xs = [.int i,.int j] /\ YW i j /\ ∀ p,H p = none -> Q (.ref p) (upd H p (.tup [.int (i / j),.int (i % j)]))):=by
 intro pins s σ H xs us Q I r h
 obtain ⟨i,j,rfl,hc,q⟩:=h
 have h1:=hc.1
 obtain ⟨u,w',rfl,⟨t,rfl⟩,⟨t',rfl⟩⟩:=YI r
 refine divmod_int (by omega) ?_ (.inl hc.py)
 rw [Int.fdiv_eq_ediv_of_nonneg i (by omega),Int.fmod_eq_emod_of_nonneg i (by omega)]
 have hn:H s.heap.objs.size = none:=I.hok.fresh (Nat.le_refl _)
 refine ⟨.ref s.heap.objs.size,_,?_,rfl,q _ hn⟩
 refine I.laid (fun b o e=>Heap.get?_push_of_some _ e) (Nat.le_refl _) ⟨by simp only [List.length_cons,List.length_nil]; rw [sizeLine_eq]; decide,[.int (i / j) s.toks,.int (i % j) (s.toks + 1)],.cons ⟨_,rfl⟩ (.cons ⟨_,rfl⟩ .nil),?_⟩
 exact ⟨_,Heap.get?_push_size s.heap rfl,rfl,0,rfl⟩
end
def zn (P:Program) (w:World) (K:FG7) (mg:Str -> Option Value) (base:Heap) (k:Nat) (x:Str) (ps:List Str) (sp:Sp):Prop :=
 ∃ (f:Addr) (fd:FuncData),FnOk P w K mg base CX0 k f fd ps sp /\ xY K fd ps [] /\ PySem.W.keepIn K (.ref f) = true /\ mg x = some (.ref f)
theorem zn.mono {P:Program} {w:World} {K:FG7} {mg:Str -> Option Value} {base:Heap} {j k:Nat} {x:Str} {ps:List Str} {sp:Sp} (C:zn P w K mg base j x ps sp) (h:j <= k):zn P w K mg base k x ps sp:=by
 obtain ⟨f,fd,F,b,kp,m⟩:=C
 exact ⟨f,fd,F.mono h,b,kp,m⟩
section
variable {X:Cx} {k:Nat} {ps:List Str} {sp:Sp} {x:Str} {p pos:Pos} {e:Expr} {es:List Expr} {t:TA}
theorem zi (C:zn X.prog X.w X.K X.mg X.base k x ps sp) (hr:Room k X.A) (hg:Gl X x)
  (ha:PA X (e :: es) t) (hdb:(x == ("__debug__":Str)) = false:=by decide) (he:starEach (e :: es) X.env = (false,eval e X.env) :: starEach es X.env:=by rfl) (hpl:(backTo pos (starEach es X.env)).any (·.1) = false:=by rfl) :
  PE X (.Call (.Name x p) (e :: es) [] pos) (UE sp [] E0 t):=by
 obtain ⟨f,fd,F,b,kp,m⟩:=C
 exact VH F hr hg m kp b .nil Wo ha hdb he hpl
end
structure Grow (m:List Addr) (H H':Hp):Prop where
 keep:∀ b o,b ∉ m -> H b = some o -> H' b = some o
 tup:∀ b xs,H b = some (.tup xs) -> H' b = some (.tup xs)
 frz:∀ b o u,H b = some (.frz o u) -> H' b = some (.frz o u)
theorem Grow.refl (m:List Addr) (H:Hp):Grow m H H:=⟨fun _ _ _ h=>h,fun _ _ h=>h,fun _ _ _ h=>h⟩
theorem Grow.trans {m:List Addr} {H H1 H2:Hp} (a:Grow m H H1) (b:Grow m H1 H2):Grow m H H2 :=
 ⟨fun c o n h=>b.keep c o n (a.keep c o n h),fun c xs h=>b.tup c xs (a.tup c xs h),fun c o u h=>b.frz c o u (a.frz c o u h)⟩
theorem Grow.new {m:List Addr} {H:Hp} {p:Addr} (h:H p = none) (o:HO):Grow m H (upd H p o) :=
 ⟨fun b u _ q=>by rw [zu (zA q h)]; exact q,fun b xs q=>by rw [zu (zA q h)]; exact q,fun b u v q=>by rw [zu (zA q h)]; exact q⟩
theorem Grow.set {m:List Addr} {H:Hp} {p:Addr} {xs:List V} (h:H p = some (.lst xs)) (hm:p ∈ m) (ys:List V):Grow m H (upd H p (.lst ys)) :=
 ⟨fun b u hb q=>by rw [zu (show b ≠ p from fun z=>hb (by rw [z]; exact hm))]; exact q,fun b zs q=>by rw [zu (fun z=>by subst z; rw [h] at q; cases q)]; exact q,fun b u v q=>by rw [zu (fun z=>by subst z; rw [h] at q; cases q)]; exact q⟩
theorem Grow.mono {m m':List Addr} {H H':Hp} (a:Grow m H H') (h:∀ b ∈ m,b ∈ m'):Grow m' H H':=⟨fun b o n q=>a.keep b o (fun z=>n (h b z)) q,a.tup,a.frz⟩
theorem Grow.sqT {m:List Addr} {H H':Hp} (g:Grow m H H') {K:FG7} {a:Addr} {xs:List V} (h:SqT K H a xs):SqT K H' a xs:=by
 rcases h with (h | ⟨o,h⟩) | h
 ·exact .inl (.inl (g.tup _ _ h))
 ·exact .inl (.inr ⟨o,g.frz _ _ _ h⟩)
 ·exact .inr h
theorem Grow.free {H H':Hp} {m:List Addr} (g:Grow m H H') {l:Addr} (hm:l ∉ m) (h:H' l = none):H l = none:=by
 cases q:H l with
 | none=>rfl
 | some o=>rw [g.keep l o hm q] at h; cases h
def Scr (K:FG7) (H:Hp) (a:Addr) (ns:List Int):Prop :=
 (∃ o,H a = some (.frz o (.lst (ns.map V.int)))) ∨
  ∃ (o:Obj) (its:Array Value) (n:Nat),K.lookup a = some o /\ o.cls = .type "list" /\ o.dict = none /\ o.data = .seq its n /\ its.size <= sizeLine /\ Vals (ns.map V.int) its.toList
theorem Scr.sq {K:FG7} {H:Hp} {a:Addr} {ns:List Int} (h:Scr K H a ns):SqL K H a (ns.map V.int):=by
 rcases h with ⟨o,h⟩ | h
 ·exact .inl (.inr ⟨o,h⟩)
 ·exact .inr h
theorem Scr.of {K:FG7} {H:Hp} {a:Addr} {ns:List Int} (hO:Only H) (h:SqL K H a (ns.map V.int)):Scr K H a ns:=by
 rcases h with (h | ⟨o,h⟩) | h
 ·rcases hO a with z | ⟨o,xs,z⟩
  ·rw [h] at z; cases z
  ·rw [h] at z; cases z
 ·exact .inl ⟨o,h⟩
 ·exact .inr h
theorem Grow.scr {m:List Addr} {H H':Hp} (g:Grow m H H') {K:FG7} {a:Addr} {ns:List Int} (h:Scr K H a ns):Scr K H' a ns:=by
 rcases h with ⟨o,h⟩ | h
 ·exact .inl ⟨o,g.frz _ _ _ h⟩
 ·exact .inr h
structure Blt (mg:Str -> Option Value):Prop where
 abs:mg "abs" = none
 len:mg "len" = none
 max:mg "max" = none
 min:mg "min" = none
 divmod:mg "divmod" = none
 repr:mg "repr" = none
 isinstance:mg "isinstance" = none
 all:mg "all" = none
 range:mg "range" = none
 int:mg "int" = none
 bool:mg "bool" = none
 str:mg "str" = none
 tuple:mg "tuple" = none
 list:mg "list" = none
 dict:mg "dict" = none
def sp1 (b:V -> Hp -> VK -> Prop):Sp:=fun vs H Q _=>∃ x,vs = [x] /\ b x H Q
def sp2 (b:V -> V -> Hp -> VK -> Prop):Sp:=fun vs H Q _=>∃ x y,vs = [x,y] /\ b x y H Q
def sp3 (b:V -> V -> V -> Hp -> VK -> Prop):Sp:=fun vs H Q _=>∃ x y z,vs = [x,y,z] /\ b x y z H Q
theorem yK {b:V -> Hp -> VK -> Prop} {p:Str}:∀ vs H Q E,sp1 b vs H Q E -> vs.length = [p].length:=fun vs H Q E h=>by
 obtain ⟨x,rfl,_⟩:=h; rfl
theorem ym {b:V -> V -> Hp -> VK -> Prop} {p q:Str}:∀ vs H Q E,sp2 b vs H Q E -> vs.length = [p,q].length:=fun vs H Q E h=>by
 obtain ⟨x,y,rfl,_⟩:=h; rfl
theorem yZ {b:V -> V -> V -> Hp -> VK -> Prop} {p q r:Str}:∀ vs H Q E,sp3 b vs H Q E -> vs.length = [p,q,r].length:=fun vs H Q E h=>by
 obtain ⟨x,y,z,rfl,_⟩:=h; rfl
def qb:V -> Bool
 | .int _=>true
 | _=>false
def endV:V -> Bool
 | .non=>true
 | .int _=>true
 | _=>false
def Kn (K:FG7) (H:Hp) (x:V):Prop:=∃ T,TyV K H x T
structure Deed where
 add:Int
 lo:Option Int
 hi:Option Int
 deriving DecidableEq
def ov:Option Int -> V
 | none=>.non
 | some i=>.int i
def Deed.vs (d:Deed):List V:=[.int d.add,ov d.lo,ov d.hi]
def Deed.Ok (d:Deed):Prop:=∀ l h,d.lo = some l -> d.hi = some h -> l < h \/ (l = h /\ d.add = 0)
def zW (lo:Option Int) (r:Int):Int:=match lo with
 | none=>r
 | some l=>if l > r then l else r
def z8 (hi:Option Int) (r:Int):Int:=match hi with
 | none=>r
 | some h=>if h < r then h else r
def Deed.mk' (d:Deed) (v:Int):Int:=z8 d.hi (zW d.lo (v + d.add))
def ordV:V -> V -> V -> Bool
 | .int a,.int l,.int h=>decide (l < h) || (decide (l = h) && decide (a = 0))
 | _,_,_=>true
def vg:List V -> Bool
 | [x,y,z]=>qb x && (endV y && (endV z && ordV x y z))
 | _=>false
theorem ZU {d:Deed} (h:d.Ok):vg d.vs = true:=by
 obtain ⟨a,lo,hi⟩:=d
 cases lo with
 | none=>cases hi <;> rfl
 | some l =>
  cases hi with
  | none=>rfl
  | some u =>
   have:=h l u rfl rfl
   show (decide (l < u) || (decide (l = u) && decide (a = 0))) = true
   rcases this with q | ⟨q,q2⟩
   ·simp [q]
   ·have q2':a = 0:=q2
    simp [q,q2']
theorem YX {x:V} (h:qb x = true):∃ i,x = .int i:=by
 cases x <;> first | exact ⟨_,rfl⟩ | cases h
theorem Vf {x:V} (h:endV x = true):∃ o,x = ov o:=by
 cases x <;> first | exact ⟨none,rfl⟩ | exact ⟨some _,rfl⟩ | cases h
theorem len3 {xs:List V} (h:xs.length = 3):∃ x y z,xs = [x,y,z]:=by
 match xs,h with
 | [x,y,z],_=>exact ⟨x,y,z,rfl⟩
theorem jm {xs:List V} (h:xs.length ≠ 3):vg xs = false:=by
 match xs,h with
 | [],_=>rfl
 | [_],_=>rfl
 | [_,_],_=>rfl
 | [_,_,_],h=>exact absurd rfl h
 | _ :: _ :: _ :: _ :: _,_=>rfl
def qc (K:FG7) (H:Hp) (x:V) (d:Deed):Prop:=∃ a,x = .ref a /\ SqT K H a d.vs
theorem Zb {K:FG7} {H:Hp} {i:Int}:Kn K H (.int i):=⟨"int",rfl⟩
theorem UP {K:FG7} {H:Hp}:Kn K H .non:=⟨"NoneType",rfl⟩
theorem UQ {K:FG7} {H:Hp} (o:Option Int):Kn K H (ov o):=by cases o; exact UP; exact Zb
def xg (K:FG7):Sp:=sp1 fun x H Q=>Kn K H x /\ Q (.bl (qb x)) H
def qd (K:FG7):Sp:=sp1 fun x H Q=>Kn K H x /\ Q (.bl (endV x)) H
def tQ (K:FG7):Sp:=sp1 fun x H Q=>(∃ T,T ≠ "tuple" /\ TyV K H x T /\ Q (.bl false) H) \/ ∃ a xs,x = .ref a /\ SqT K H a xs /\ (∀ y ∈ xs,Kn K H y) /\ Q (.bl (vg xs)) H
def uj (K:FG7):Sp:=sp2 fun x y H Q=>∃ d v,qc K H x d /\ y = .int v /\ Q (.int (d.mk' v)) H
def Pot (H:Hp) (a:Addr):Prop:=∃ p0 p1:Int,H a = some (.lst [.int p0,.int p1]) /\ 0 <= p0
def Vg (K:FG7):Sp:=sp2 fun x y H Q=>∃ a ns k,x = .ref a /\ y = .int k /\ Scr K H a ns /\ 0 <= k /\ k < 1000 /\ ∀ p H',H p = none -> Grow [] H H' -> Pot H' p -> Q (.ref p) H'
def vh (_:FG7):Sp:=sp2 fun x y H Q=>∃ a m,x = .ref a /\ y = .int m /\ Pot H a /\ 0 < m /\ m < 2 ^ 200 /\ ∀ n H',0 <= n -> n < m -> Grow [a] H H' -> Pot H' a -> Q (.int n) H'
def Zc (K:FG7):Sp:=sp1 fun x H Q=>∃ a ns,x = .ref a /\ Scr K H a ns /\ ns.length <= 63 /\ ∀ H',Q (.bl true) H'
theorem szl {n:Nat} (h:Nat.ble n 1000 = true):n <= sizeLine:=Nat.le_of_lt (zp (Nat.le_of_ble_eq_true h))
theorem Grow.wk {m:List Addr} {H H':Hp} (g:Grow [] H H'):Grow m H H':=g.mono (by simp)
theorem Pot.grow {H H':Hp} {a:Addr} (p:Pot H a) (g:Grow [] H H'):Pot H' a:=by
 obtain ⟨u0,u1,hu,hn⟩:=p
 exact ⟨u0,u1,g.keep _ _ (by simp) hu,hn⟩
theorem tR {i j:Int} (h2:-(2 ^ 60) < j /\ j < 2 ^ 60):IntMulOk i j:=PySem.IntMulOk.of_right (Nat.le_trans ((PySem.intBits_le_iff (m:=60)).mpr (by obtain ⟨a,b⟩:=h2; omega)) (by decide))
section
variable {prog:Program} {w:World} {A:Around} {R:Result -> Shared -> Prop} {s:Shared}
theorem YY {elt target iter:Expr} {ifs:List Expr} {scope:Scope} {pos:Pos} {it acc:Value} {env:Env} (I:Nat -> Shared -> Prop)
  (turn:∀ n s,I n s -> wpAny (model prog w) A (pyNext it) (fun r s₁=>match r with
   | none=>R (.ok .next) s₁
   | some v=>wpAny (model prog w) A (letOwnedTupleGo target it v) (fun _ s₂=>wpAny (model prog w) A (assign target env v) (fun _ s₃ =>
     wpAny (model prog w) A (forIn ifs true fun c r=>if r = true then do let ok ← isTrue c env (eval c env); pure (ForInStep.yield ok) else pure (ForInStep.yield r)) (fun ok s₄ =>
      if ok = true then wpAny (model prog w) A (eval elt env) (fun x s₅ =>
       wpAny (model prog w) A (call (.builtin "list.append") [acc,x]) (fun _ s₆=>∃ m,m < n /\ I m s₆) (fun _ _=>False) s₅) (fun _ _=>False) s₄
      else ∃ m,m < n /\ I m s₄) (fun _ _=>False) s₃) (fun _ _=>False) s₂) (fun _ _=>False) s₁) (fun _ _=>False) s)
  (n:Nat) (h:I n s) :
  codeAny (model prog w) A (.compLoop (.ListComp elt [⟨target,iter,ifs,0⟩] scope pos) 0 it acc env) R s:=by
 refine codeAny_loop rfl I (fun n s hI=>?_) n h
 show wpAny _ A ((compTurn (.ListComp elt [⟨target,iter,ifs,0⟩] scope pos) 0 it acc env).onRaise (fun x=>do noteFrame x env; theTreesLotGoes x)) _ _ s
 refine wpAny_noted ?_
 rw [compTurn_list]
 have no:∀ (E:VS7) (e:Value) (s:Shared),(fun (_:Value) (_:Shared)=>False) e s -> E e s:=fun _ _ _ f=>f.elim
 refine wpAny_bind (wpAny_standAt (wpAny_bind (wpAny_mono (turn n s hI) (fun r s₁ h₁=>?_) (no _))))
 cases r with
 | none=>exact wpAny_pure h₁
 | some v =>
  refine wpAny_bind (wpAny_mono h₁ (fun _ s₂ h₂=>?_) (no _))
  refine wpAny_bind (wpAny_mono h₂ (fun _ s₃ h₃=>wpAny_bind (wpAny_mono h₃ (fun ok s₄ h₄=>?_) (no _))) (no _))
  cases ok with
  | true =>
   simp only [if_true] at h₄ ⊢
   exact wpAny_bind (wpAny_bind (wpAny_mono h₄ (fun x s₅ h₅=>wpAny_bind (wpAny_mono h₅ (fun _ s₆ h₆=>wpAny_pure (wpAny_pure ⟨rfl,h₆⟩)) (no _))) (no _)))
  | false =>
   simp only [Bool.false_eq_true,if_false] at h₄ ⊢
   first
    | exact wpAny_bind (wpAny_pure (wpAny_pure ⟨rfl,h₄⟩))
    | exact wpAny_pure ⟨rfl,h₄⟩
end
theorem ZV {scope:Scope} {env:Env} (hfree:∀ y ∈ scope.names,y.2 = .free -> ∃ c,env.cells.lookup y.1 = some c) :
  ∃ cl,closureFor scope env = pure cl /\ (∀ x c,cl.lookup x = some c -> env.cells.lookup x = some c) /\ ∀ y ∈ scope.names,y.2 = .free -> ∃ c,cl.lookup y.1 = some c:=by
 have key:∀ (l:List (Str × NameKind)) (cs:List (Str × Addr)),(∀ y ∈ l,y.2 = .free -> ∃ c,env.cells.lookup y.1 = some c) -> (∀ x c,cs.lookup x = some c -> env.cells.lookup x = some c) →
   ∃ cl,(forIn l cs (fun (x:Str × NameKind) r=>do if x.2 == .free then do let c ← cellOf env x.1; pure (ForInStep.yield ((x.1,c) :: r)) else pure (ForInStep.yield r)):Sem (List (Str × Addr))) = pure cl ∧
    (∀ x c,cl.lookup x = some c -> env.cells.lookup x = some c) /\ (∀ y ∈ l,y.2 = .free -> ∃ c,cl.lookup y.1 = some c) /\ ∀ x c,cs.lookup x = some c -> ∃ c',cl.lookup x = some c':=by
  intro l
  induction l with
  | nil=>intro cs _ h2; exact ⟨cs,rfl,h2,fun y hy=>absurd hy (by simp),fun x c h=>⟨c,h⟩⟩
  | cons y r ih =>
   intro cs h1 h2
   obtain ⟨n,k⟩:=y
   by_cases hk:k = .free
   ·subst hk
    obtain ⟨c,hc⟩:=h1 (n,.free) (by simp) rfl
    have hc':env.cells.lookup n = some c:=hc
    have e0:cellOf env n = pure c:=by unfold cellOf; rw [hc']
    obtain ⟨cl,e,p1,p2,p3⟩:=ih ((n,c) :: cs) (fun z hz=>h1 z (List.mem_cons_of_mem _ hz)) (fun x d h=>by
     by_cases hx:x = n
     ·subst hx
      rw [List.lookup_cons_self] at h
      cases h; exact hc'
     ·rw [List.lookup_cons,beq_eq_false_iff_ne.mpr hx] at h
      exact h2 x d h)
    refine ⟨cl,?_,p1,fun z hz=>?_,fun x d h=>?_⟩
    ·rw [List.forIn_cons]
     simp only [beq_self_eq_true,if_true,e0,pure_bind]
     exact e
    ·rcases List.mem_cons.mp hz with rfl | hz
     ·intro _
      exact p3 n c List.lookup_cons_self
     ·exact p2 z hz
    ·by_cases hx:x = n
     ·subst hx; exact p3 x c List.lookup_cons_self
     ·exact p3 x d (by rw [List.lookup_cons,beq_eq_false_iff_ne.mpr hx]; exact h)
   ·have hb:(k == NameKind.free) = false:=beq_eq_false_iff_ne.mpr hk
    obtain ⟨cl,e,p1,p2,p3⟩:=ih cs (fun z hz=>h1 z (List.mem_cons_of_mem _ hz)) h2
    refine ⟨cl,?_,p1,fun z hz=>?_,p3⟩
    ·rw [List.forIn_cons]
     simp only [hb,Bool.false_eq_true,if_false,pure_bind]
     exact e
    ·rcases List.mem_cons.mp hz with rfl | hz
     ·intro h; exact absurd h hk
     ·exact p2 z hz
 obtain ⟨cl,e,p1,p2,_⟩:=key scope.names [] hfree (fun x c h=>by cases h)
 refine ⟨cl,?_,p1,p2⟩
 unfold closureFor
 first
  | (rw [show (forIn scope.names [] _:Sem (List (Str × Addr))) = pure cl from e]; rfl)
  | (simp only [bind_pure]; exact e)
  | exact e
def PIfs (X:Cx) (ifs:List Expr) (t:TT):Prop :=
 ∀ (pins:List (Addr × Obj)) (s:Shared) (σ:L2.St) (H:Hp) (Q:Bool -> Hp -> Prop),Inv X pins σ H s -> t σ H Q →
  wpAny (model X.prog X.w) X.A (forIn ifs true fun c r=>if r = true then do let ok ← isTrue c X.env (eval c X.env); pure (ForInStep.yield ok) else pure (ForInStep.yield r)) (TP X pins σ Q) X.xe s
def ZW:TT:=fun _ H Q=>Q true H
theorem yc {X:Cx}:PIfs X [] ZW:=fun pins s σ H Q I h=>wpAny_pure ⟨H,I,h⟩
theorem sI {X:Cx} {c:Expr} {t:TT} (hc:PT X c t):PIfs X [c] t:=fun pins s σ H Q I h=>wpAny_tests_one (hc pins s σ H Q I h)
abbrev cxC (X:Cx) (N':List Str) (scope:Scope) (cl:List (Str × Addr)) (C D:Addr) (fp:List Addr) (s:Shared) (H:Hp):Cx :=
 { X with N:=N',s₀:=s,H₀:=H,env:=compEnvC scope cl C X.env,outer:=X.stack,ex:=D :: fp,fn:=fun _=>false,xe:=fun _ _=>False }
def capt (sub:List (Option Nat)) (σ:L2.St):L2.St:=sub.map fun o=>match o with
 | none=>none
 | some i=>(match σ[i]? with | some v=>v | none=>none)
def uY (J:It) (σ0:L2.St) (H1:Hp) (g:TG) (tt:TT) (te:TE) (Q:VK):Prop :=
 ∃ W:Nat -> Nat -> List V -> L2.St -> Hp -> Prop,(∃ m,W 0 m [] σ0 H1) /\ ∀ i m ys σ' H',W i m ys σ' H' →
  (J.stop i H' /\ ∀ l,H' l = none -> Q (.ref l) (upd H' l (.lst ys))) ∨
  (J.go i H' /\ ∃ Nn:List V -> L2.St -> Hp -> Prop,(∀ zs σ2 H2,Nn zs σ2 H2 -> ∃ m',m' < m /\ W (i + 1) m' zs σ2 H2) ∧
   ∀ x H2,J.yld i H' x H2 -> g x σ' H2 fun σ2 H3=>tt σ2 H3 fun b H4=>if b = true then te σ2 H4 fun y H5=>ys.length < sizeLine /\ Nn (ys ++ [y]) σ2 H5 else Nn ys σ2 H4)
def UR (wi:TI) (sub:List (Option Nat)) (g:TG) (tt:TT) (te:TE):TE:=fun σ H Q=>wi σ H fun J H1=>uY J (capt sub σ) H1 g tt te Q
structure CSc (X:Cx) (scope:Scope) (N':List Str) (sub:List (Option Nat)):Prop where
 free:∀ y ∈ scope.names,y.2 = .free -> X.env.kindOf y.1 = some .cell
 nocell:∀ y ∈ scope.names,y.2 ≠ .cell
 kind:scope.kind = .function
 names:∀ y ∈ scope.names,y.2 = .local -> scope.names.lookup y.1 = some .local
 len:sub.length = N'.length
 cap:∀ (j:Nat) (y:Str) (i:Nat),N'[j]? = some y -> sub[j]? = some (some i) -> X.N[i]? = some y /\ X.env.scope.names.lookup y = some .cell /\ scope.names.lookup y = some .free
theorem HOk.track {P:Program} {w:World} {H:Hp} {h:Heap} {a:Addr} {o:HO} (x:HOk P w H h) (hn:H a = none) (new:yj P w (upd H a o) h a o):HOk P w (upd H a o) h:=fun b u e=>by
 by_cases hb:b = a
 ·subst hb; rw [zd] at e; cases e; exact new
 ·rw [zu hb] at e
  exact (x b u e).stay (fun c v _ q=>q) (fun c q=>by rw [zu (zA q hn)]; exact q) fun c xs q=>by rw [zu (zA q hn)]; exact q
theorem wx {scope:Scope} {env:Env} {y:Str} {k:NameKind} (h:(relabel scope env).names.lookup y = some k) :
  ∃ k',scope.names.lookup y = some k' /\ (k = k' \/ (k = .cell /\ k' = .free)):=by
 have key:∀ l:List (Str × NameKind),(l.map fun (n,k)=>if (k == NameKind.free && env.scope.kind == .function && env.kindOf n == some .cell) then (n,NameKind.cell) else (n,k)).lookup y = some k →
   ∃ k',l.lookup y = some k' /\ (k = k' \/ (k = .cell /\ k' = .free)):=by
  intro l
  induction l with
  | nil=>intro h; cases h
  | cons p r ih =>
   obtain ⟨n,k0⟩:=p
   intro h
   rw [List.map_cons] at h
   by_cases hc:(k0 == NameKind.free && env.scope.kind == .function && env.kindOf n == some .cell) = true
   ·have hf:k0 = .free:=by
     simp only [Bool.and_eq_true,beq_iff_eq] at hc
     exact hc.1.1
    dsimp only at h
    rw [if_pos hc,List.lookup_cons] at h
    rw [List.lookup_cons]
    cases hx:y == n with
    | true=>rw [hx] at h; cases h; exact ⟨k0,rfl,.inr ⟨rfl,hf⟩⟩
    | false=>rw [hx] at h; exact ih h
   ·dsimp only at h
    rw [if_neg hc,List.lookup_cons] at h
    rw [List.lookup_cons]
    cases hx:y == n with
    | true=>rw [hx] at h; cases h; exact ⟨_,rfl,.inl rfl⟩
    | false=>rw [hx] at h; exact ih h
 exact key scope.names h
theorem qe {scope:Scope} {env:Env} {y:Str} (hk:env.scope.kind = .function) (hc:env.kindOf y = some .cell) (h:scope.names.lookup y = some .free):(relabel scope env).names.lookup y = some .cell:=by
 have key:∀ l:List (Str × NameKind),l.lookup y = some .free -> (l.map fun (n,k)=>if (k == NameKind.free && env.scope.kind == .function && env.kindOf n == some .cell) then (n,NameKind.cell) else (n,k)).lookup y = some .cell:=by
  intro l
  induction l with
  | nil=>intro h; cases h
  | cons p r ih =>
   obtain ⟨n,k0⟩:=p
   intro h
   rw [List.map_cons]
   rw [List.lookup_cons] at h
   dsimp only
   cases hx:y == n with
   | true =>
    rw [hx] at h
    cases h
    have e:y = n:=by simpa using hx
    subst e
    rw [if_pos (by simp [hk,hc]),List.lookup_cons,hx]
   | false =>
    rw [hx] at h
    by_cases hc2:(k0 == NameKind.free && env.scope.kind == .function && env.kindOf n == some .cell) = true
    ·rw [if_pos hc2,List.lookup_cons,hx]; exact ih h
    ·rw [if_neg hc2,List.lookup_cons,hx]; exact ih h
 exact key scope.names h
section
variable {X:Cx} {pins:List (Addr × Obj)} {σ:L2.St} {H2:Hp} {s₂:Shared} {it:Addr} {fp:List Addr} {tn:Nat -> Heap -> Prop} {J:It} {scope:Scope} {cl:List (Str × Addr)} {N':List Str} {sub:List (Option Nat)}
theorem tS {h₁:Heap} {tk:Nat} (I:Inv X pins σ H2 s₂) (S:CSc X scope N' sub) (hcl1:∀ x c,cl.lookup x = some c -> X.env.cells.lookup x = some c) (hcl2:∀ y ∈ scope.names,y.2 = .free -> ∃ c,cl.lookup y.1 = some c)
    (f2:∀ b ∈ fp,FpOk X pins H2 b) (hfp:∀ b ∈ fp,b < s₂.heap.objs.size) {m:Str -> Option Value} {ob:Obj}
    (hns:h₁.Ns (s₂.heap.objs.size + 1) m) (hk:∀ b o,(s₂.heap.push ob).get? b = some o -> h₁.get? b = some o) :
    Inv (cxC X N' scope cl (s₂.heap.objs.size + 1) s₂.heap.objs.size fp { s₂ with heap:=s₂.heap.push ob } H2) pins (capt sub σ) H2 { s₂ with heap:=h₁,toks:=tk }:=by
  have old:∀ b o,s₂.heap.get? b = some o -> (s₂.heap.push ob).get? b = some o:=fun b o e=>Heap.get?_push_of_some _ e
  have old2:∀ b o,s₂.heap.get? b = some o -> h₁.get? b = some o:=fun b o e=>hk b o (old b o e)
  have sz:(s₂.heap.push ob).objs.size = s₂.heap.objs.size + 1:=Heap.size_push ..
  have cells:∀ x c,cl.lookup x = some c -> c < s₂.heap.objs.size:=fun x c e=>let ⟨v,q⟩:=I.cell x c (hcl1 x c e); q.lt
  have has:∀ x,((relabel scope X.env).names.lookup x = some .cell \/ (relabel scope X.env).names.lookup x = some .free) -> ∃ c,cl.lookup x = some c:=fun x hx=>by
    rcases hx with hx | hx
    · obtain ⟨k',e,z⟩:=wx hx
      rcases z with z | ⟨_,z⟩
      · subst z; exact absurd rfl (S.nocell _ (PySem.mem_of_lookup e))
      · subst z; exact hcl2 _ (PySem.mem_of_lookup e) rfl
    · obtain ⟨k',e,z⟩:=wx hx
      rcases z with z | ⟨z,_⟩
      · subst z; exact hcl2 _ (PySem.mem_of_lookup e) rfl
      · cases z
  have frsz:∀ b ∈ frs X.stack,b < s₂.heap.objs.size:=fun b hb=>by
    rcases List.mem_cons.mp (I.stkSub b hb) with z | z
    · rw [z]; exact I.lt
    · exact Nat.lt_of_not_le fun q=>I.nofs q z
  refine
    { ok :=
      { mod:=I.ok.mod,kind:=S.kind,glob:=I.ok.glob,blt:=I.ok.blt
        above:=by show (s₂.heap.push ob).objs.size <= s₂.heap.objs.size + 1; rw [sz]; exact Nat.le_refl _
        inj:=fun x y c h1 h2=>I.ok.inj x y c (hcl1 x c h1) (hcl1 y c h2)
        has:=has
        cab:=fun x c z=>by cases z
        hd:=I.ok.hd,frames:=I.ok.frames,stk:=.inl rfl
        exf:=fun b hb=>?exf
        bs:=fun b o e=>⟨old b o (I.bk b o e),(I.bs b o e).2⟩
        bsz:=by show X.base.objs.size <= (s₂.heap.push ob).objs.size; rw [sz]; exact Nat.le_succ_of_le (Nat.le_trans I.ok.bsz I.sz)
        noex:=fun b o e hb=>?noex
        exfs:=fun b hb=>?exfs
        funs:=?funs
        frf:=I.stkFree }
      os:=rfl,bare:=I.bare,base:=Un.kept fun b u e=>hk b u e
      loc:=⟨m,hns,?loc⟩
      cell:=fun x c e=>?cell
      free:=I.hok.fresh (Nat.le_succ _)
      freeC:=fun x c e=>I.freeC x c (hcl1 x c e)
      pin:=fun p hp=>?pin
      hok:=I.hok.kept old2
      len:=?len }
  case exf =>
    rcases List.mem_cons.mp hb with rfl | hb
    · exact ⟨Nat.ne_of_lt (Nat.lt_succ_self _),fun x c e=>Nat.ne_of_lt (cells x c e)⟩
    · exact ⟨Nat.ne_of_lt (Nat.lt_succ_of_lt (hfp b hb)),fun x c e=>(f2 b hb).2.2.2.2.1 x c (hcl1 x c e)⟩
  case noex =>
    have hl:b < X.s₀.heap.objs.size:=Nat.lt_of_lt_of_le (Heap.lt_size e) I.ok.bsz
    rcases List.mem_cons.mp hb with rfl | hb
    · exact absurd (Nat.lt_of_lt_of_le hl I.sz) (Nat.lt_irrefl _)
    · rcases (f2 b hb).2.2.2.1 with z | z
      · exact I.ok.noex b o e z
      · exact absurd (Nat.lt_of_lt_of_le hl z) (Nat.lt_irrefl _)
  case exfs =>
    intro hs
    rcases List.mem_cons.mp hb with rfl | hb
    · exact absurd (frsz _ hs) (Nat.lt_irrefl _)
    · rcases List.mem_cons.mp (I.stkSub b hs) with z | z
      · exact (f2 b hb).2.1 z
      · exact (f2 b hb).2.2.1 z
  case funs=>exact Heap.FunFrames.of_keeps (fun b o e _=>⟨o,old b o e,rfl⟩) I.stack
  case loc =>
    intro j y v hj hv hvis
    obtain ⟨mX,_,lX⟩:=I.loc
    unfold capt at hv
    rw [List.getElem?_map] at hv
    cases hs:sub[j]? with
    | none=>rw [hs] at hv; cases hv
    | some o =>
      rw [hs] at hv
      cases o with
      | none=>cases hv
      | some i =>
        obtain ⟨hN,hc,hf⟩:=S.cap j y i hj hs
        have hv':σ[i]? = some (some v):=by
          have z:(match σ[i]? with | some v=>v | none=>none) = some v:=Option.some.inj hv
          cases q:σ[i]? with
          | none=>rw [q] at z; cases z
          | some w=>rw [q] at z; rw [show w = some v from z]
        obtain ⟨u,ru,hl⟩:=lX i y v hN hv' (.inr (.inl hc))
        refine ⟨u,ru,?_⟩
        have kc:(relabel scope X.env).names.lookup y = some .cell:=qe I.ok.kind hc hf
        rcases hl with ⟨z,_⟩ | ⟨_,c,e,ic⟩
        · have z':X.env.scope.names.lookup y = some .local :=z
          rw [hc] at z'; cases z'
        · obtain ⟨c',e'⟩:=hcl2 _ (PySem.mem_of_lookup hf) rfl
          have:=hcl1 _ _ e'
          rw [e] at this; cases this
          refine .inr ⟨.inl kc,c,e',?_⟩
          obtain ⟨oc,h1,h2⟩:=ic
          exact ⟨oc,old2 _ _ h1,h2⟩
  case cell =>
    obtain ⟨v,oc,h1,h2⟩:=I.cell x c (hcl1 x c e)
    exact ⟨v,oc,old2 _ _ h1,h2⟩
  case pin =>
    obtain ⟨p1,p2,p3,p4,p5⟩:=I.pin p hp
    refine ⟨old2 _ _ p1,p2,Nat.ne_of_lt (Nat.lt_succ_of_lt (Heap.lt_size p1)),fun hs=>?_,p5⟩
    rcases List.mem_cons.mp (I.stkSub _ hs) with z | z
    · exact p3 z
    · exact p4 z
  case len =>
    show (capt sub σ).length = N'.length
    unfold capt
    rw [List.length_map]; exact S.len
theorem Wr {C D:Addr} {s₀:Shared} {s':Shared} {σ':L2.St} {H':Hp} {ys:List V} {us:List Value} {k:Nat} {oC:Obj} (I:Inv X pins σ H2 s₂)
    (hs₀:∀ b o,s₂.heap.get? b = some o -> s₀.heap.get? b = some o) (hos:s₀.os = s₂.os) (hD:s₂.heap.objs.size <= D) (hC:s₂.heap.objs.size <= C) (hDC:D ≠ C) (f2:∀ b ∈ fp,FpOk X pins H2 b)
    (I':Inv (cxC X N' scope cl C D fp s₀ H2) pins σ' H' s') (hn:H' D = none) (hy:s'.heap.get? D = some { cls:=.type "list",data:=.seq us.toArray k }) (rv:Vals ys us) (hz:ys.length <= sizeLine)
    (ho:s'.heap.get? C = some oC) (hd:∀ v,oC.data ≠ .cell v):Inv X (pins ++ [(C,oC)]) σ (upd H' D (.lst ys)) s' /\ FpOk X pins (upd H' D (.lst ys)) C:=by
  have neD:∀ b o,s₂.heap.get? b = some o -> b ≠ D:=fun b o e=>Nat.ne_of_lt (Nat.lt_of_lt_of_le (Heap.lt_size e) hD)
  have nm:∀ b o,s₂.heap.get? b = some o -> b ∉ fp -> b ∉ D :: fp:=fun b o e h z=>(List.mem_cons.mp z).elim (neD b o e) h
  have U:=I'.base
  have HC:upd H' D (.lst ys) C = none:=by rw [zu (Ne.symm hDC)]; exact I'.free
  have fpc:FpOk X pins (upd H' D (.lst ys)) C:=I.fpOk hC HC
  have un:Un (frs X.stack) fp H2 (upd H' D (.lst ys)) s₂.heap s'.heap :=
    { keep:=fun b o e n h1 h2=>U.keep b o (hs₀ b o e) n h1 (nm b o e h2)
      slot:=fun b o e n h1 h2=>U.slot b o (hs₀ b o e) n h1 (nm b o e h2)
      free:=fun b o e n h2=>by rw [zu (neD b o e)]; exact U.free b o (hs₀ b o e) n (nm b o e h2)
      there:=fun b o e h2=>U.there b o (hs₀ b o e) (nm b o e h2)
      tups:=fun b xs e=>by have z:=U.tups b xs e; rw [zu (zA z hn)]; exact z
      frzs:=fun b o u e=>by have z:=U.frzs b o u e; rw [zu (zA z hn)]; exact z
      tbls:=fun b ps e=>by obtain ⟨more,z⟩:=U.tbls b ps e; exact ⟨more,by rw [zu (zA z hn)]; exact z⟩ }
  have hok:HOk X.prog X.w (upd H' D (.lst ys)) s'.heap:=HOk.track I'.hok hn ⟨hz,us,k,rv,hy⟩
  have IX:Inv X pins σ (upd H' D (.lst ys)) s':=I.call' (I'.os.trans hos) un hok I'.bare fun b hb=>⟨(f2 b hb).2.2.2.1,(f2 b hb).2.1,(f2 b hb).2.2.2.2.1,(f2 b hb).2.2.2.2.2⟩
  refine ⟨IX.pins_of fun p hp=>?_,fpc⟩
  rcases List.mem_append.mp hp with hp | hp
  · exact IX.pin p (List.mem_append_right _ hp)
  · rw [List.mem_singleton.mp hp]
    exact ⟨ho,HC,fpc.2.1,fpc.2.2.1,hd⟩
end
section
variable {X:Cx} {scope:Scope} {N':List Str} {sub:List (Option Nat)} {x:Str} {px pos:Pos} {elt iter:Expr} {ifs:List Expr} {wi:TI} {g:TG} {tt:TT} {te:TE}
theorem CSc.clos {pins:List (Addr × Obj)} {σ:L2.St} {H:Hp} {s:Shared} (S:CSc X scope N' sub) (I:Inv X pins σ H s):∃ cl,closureFor scope X.env = pure cl /\ (∀ x c,cl.lookup x = some c -> X.env.cells.lookup x = some c) /\ ∀ y ∈ scope.names,y.2 = .free -> ∃ c,cl.lookup y.1 = some c :=
 ZV fun y hy hf=>I.ok.has y.1 (.inl (S.free y hy hf))
end
def eqVs:List V -> List V -> Bool
 | [],[]=>true
 | x :: xs,y :: ys=>eqV x y && eqVs xs ys
 | _,_=>false
theorem sJ:∀ {xs ys:List V},eqVs xs ys = true -> xs.length = ys.length
 | [],[],_=>rfl
 | x :: xs,y :: ys,h=>by
  have h':(eqV x y && eqVs xs ys) = true:=h
  rw [Bool.and_eq_true] at h'
  simp [sJ h'.2]
 | [],_ :: _,h=>by cases h
 | _ :: _,[],h=>by cases h
theorem Zd:∀ {xs ys:List V},eqVs xs ys = true ↔ xs.length = ys.length /\ ∀ (j:Nat) (x y:V),xs[j]? = some x -> ys[j]? = some y -> eqV x y = true
 | [],[]=>by simp [eqVs]
 | x :: xs,y :: ys=>by
  show (eqV x y && eqVs xs ys) = true ↔ _
  rw [Bool.and_eq_true,Zd]
  constructor
  ·rintro ⟨h1,h2,h3⟩
   refine ⟨by simp [h2],fun j a b ha hb=>?_⟩
   cases j with
   | zero=>simp at ha hb; subst ha hb; exact h1
   | succ j=>exact h3 j a b (by simpa using ha) (by simpa using hb)
  ·rintro ⟨h1,h2⟩
   exact ⟨h2 0 x y rfl rfl,by simpa using h1,fun j a b ha hb=>h2 (j + 1) a b (by simpa using ha) (by simpa using hb)⟩
 | [],_ :: _=>by simp [eqVs]
 | _ :: _,[]=>by simp [eqVs]
theorem vj {xs ys:List V}:((List.range (min xs.length ys.length)).all (fun j=>match xs[j]?,ys[j]? with | some x,some y=>eqV x y | _,_=>true) && xs.length == ys.length) = eqVs xs ys:=by
 rw [Bool.eq_iff_iff,Bool.and_eq_true,List.all_eq_true,beq_iff_eq,Zd]
 constructor
 ·rintro ⟨h1,h2⟩
  refine ⟨h2,fun j x y hx hy=>?_⟩
  have hj:j < xs.length:=(List.getElem?_eq_some_iff.mp hx).1
  have:=h1 j (List.mem_range.mpr (by rw [← h2]; simpa using hj))
  rw [hx,hy] at this
  exact this
 ·rintro ⟨h1,h2⟩
  refine ⟨fun j hj=>?_,h1⟩
  have hj':=List.mem_range.mp hj
  have a:j < xs.length:=by omega
  have b:j < ys.length:=by omega
  rw [List.getElem?_eq_getElem a,List.getElem?_eq_getElem b]
  exact h2 j _ _ (List.getElem?_eq_getElem a) (List.getElem?_eq_getElem b)
theorem YZ {xs:List V} {us:List Value} (r:Vals xs us) (j:Nat) (h:j < us.length):∃ x,xs[j]? = some x /\ RelV x us[j]:=by
 have hl:=r.length
 have hx:xs[j]? = some xs[j]:=List.getElem?_eq_getElem (by omega)
 obtain ⟨u,e,q⟩:=r.get hx
 rw [List.getElem?_eq_getElem h] at e
 cases e
 exact ⟨_,hx,q⟩
theorem Y0 {A:Around} {s:Shared} {xs ys:List V} {us ws:List Value} (r1:Vals xs us) (r2:Vals ys ws) (f1:xs.all uX = true) (f2:ys.all uX = true) :
  ∀ j (h1:j < us.toArray.size) (h2:j < ws.toArray.size),SeqAt.EqAt A s us.toArray[j] ws.toArray[j] ((fun j=>match xs[j]?,ys[j]? with | some x,some y=>eqV x y | _,_=>true) j):=by
 intro j h1 h2
 obtain ⟨x,ex,qx⟩:=YZ r1 j (by simpa using h1)
 obtain ⟨y,ey,qy⟩:=YZ r2 j (by simpa using h2)
 have fx:uX x = true:=List.all_eq_true.mp f1 x (List.mem_of_getElem? ex)
 have fy:uX y = true:=List.all_eq_true.mp f2 y (List.mem_of_getElem? ey)
 show SeqAt.EqAt A s _ _ (match xs[j]?,ys[j]? with | some x,some y=>eqV x y | _,_=>true)
 rw [ex,ey]
 simpa using UI qx qy fx fy
section
variable {X:Cx}
theorem yG {h:Heap} {a:Addr} {its:Array Value} (t:IsTup h a its):h.IsTuple a its:=t
end
section
variable {X:Cx} {pos:Pos}
theorem qf:∀ {bs:List Bool} {us:List Value},Vals (bs.map V.bl) us -> LSm.BoolsAre us bs
 | [],_,.nil=>.nil
 | b :: bs,_,.cons r t=>by
  cases r
  exact .cons b (qf t)
theorem uk (hcalm:X.calm = true):xV X (.builtin "all") (fun xs H Q=>∃ (l:Addr) (bs:List Bool),xs = [.ref l] /\ SqL X.K H l (bs.map V.bl) /\ Q (.bl (bs.all id)) H):=by
 intro pins s σ H xs us Q I r h
 obtain ⟨l,bs,rfl,hl,q⟩:=h
 obtain ⟨u,rfl,rx⟩:=wG r
 cases (show u = Value.ref l from rx)
 obtain ⟨vs,rv,pl,_⟩:=I.list hl
 have hl':s.heap.IsList l vs.toArray:=pl.isList
 have hb:LSm.BoolsAre vs bs:=qf rv
 have hlt:l < s.heap.objs.size:=by obtain ⟨_,e,_⟩:=hl'; exact Heap.lt_size e
 refine call_all_walk (wpAny_pyIter_list hl' ?_)
 refine ⟨s.heap.objs.size,[s.heap.objs.size,l],[s.heap.objs.size],vs.toArray.size,_,_,fun i=>(bs[i]?).getD true,rfl,Walks.list (A:=X.A.in1) (I.ok.hd hcalm) _ l (Nat.ne_of_lt hlt) vs.toArray,
  ⟨⟨_,Heap.get?_push_size _ rfl,rfl,rfl⟩,hl'.push _⟩,fun i v s' Q' E' hP hQ=>?_,fun h' tk hk=>?_⟩
 ·obtain ⟨b,e,rfl⟩:=hb.get i v (by simpa using hP)
  simp only [e,Option.getD_some] at hQ
  exact wpAny_truthy_bool hQ
 ·have e:((List.range vs.toArray.size).all fun i=>(bs[i]?).getD true) = bs.all id:=by
   have hlen:bs.length = vs.length:=by rw [← rv.length,List.length_map]
   rw [List.size_toArray,← hlen,Bool.eq_iff_iff,List.all_eq_true,List.all_eq_true]
   constructor
   ·intro z b hb'
    obtain ⟨i,hi,rfl⟩:=List.getElem_of_mem hb'
    have:=z i (List.mem_range.mpr hi)
    simpa [List.getElem?_eq_getElem hi] using this
   ·intro z i hi
    have hi':=List.mem_range.mp hi
    simpa [List.getElem?_eq_getElem hi'] using z _ (List.getElem_mem hi')
  rw [e]
  exact ⟨.bl (bs.all id),H,I.kept (t':=tk) (h':=h') (LSm.kept_iter hk),rfl,q⟩
end
theorem CSc.of {X:Cx} {scope:Scope} {N':List Str} {sub:List (Option Nat)} (sc:Scope) (NN:List Str) (e:X.env.scope = sc) (en:X.N = NN)
  (h:((scope.names.all fun y=>(y.2 != .free || sc.names.lookup y.1 == some .cell) && (y.2 != .cell) && (y.2 != .local || scope.names.lookup y.1 == some .local)) && (sub.length == N'.length) &&
   ((N'.zip sub).all fun p=>match p.2 with | none=>true | some i=>NN[i]? == some p.1 && sc.names.lookup p.1 == some .cell && scope.names.lookup p.1 == some .free)) = true)
  (hk:scope.kind = .function):CSc X scope N' sub:=by
 rw [Bool.and_eq_true,Bool.and_eq_true] at h
 obtain ⟨⟨h1,h2⟩,h3⟩:=h
 have k1:=fun y hy=>List.all_eq_true.mp h1 y hy
 refine ⟨fun y hy hf=>?_,fun y hy hc=>?_,hk,fun y hy hl=>?_,by simpa using h2,fun j y i hj hs=>?_⟩
 ·have:=k1 y hy
  simp only [hf,Bool.and_eq_true] at this
  have z:=this.1.1
  show X.env.scope.names.lookup y.1 = _
  rw [e]; simpa using z
 ·have:=k1 y hy
  simp only [hc,Bool.and_eq_true] at this
  simp at this
 ·have:=k1 y hy
  simp only [hl,Bool.and_eq_true] at this
  simpa using this.2
 ·have hm:(y,some i) ∈ N'.zip sub:=by
   have:(N'.zip sub)[j]? = some (y,some i):=by
    rw [List.getElem?_zip_eq_some]; exact ⟨hj,hs⟩
   exact List.mem_of_getElem? this
  have:=List.all_eq_true.mp h3 _ hm
  simp only [Bool.and_eq_true,beq_iff_eq] at this
  rw [e,en]
  exact ⟨this.1.1,this.1.2,this.2⟩
def vP (a:Int) (lo hi:Option Int):Deed:=if lo ≠ none /\ lo = hi then ⟨0,lo,hi⟩ else ⟨a,lo,hi⟩
def thrO (e:Deed) (o:Option Int) (d:Option Int):Option Int:=match o with
 | none=>d
 | some l=>some (e.mk' l)
def sK (d e:Deed):Deed:=vP (d.add + e.add) (thrO e d.lo e.lo) (thrO e d.hi e.hi)
theorem TL (a l v:Int):(Deed.mk a (some l) none).mk' v = if l > v + a then l else v + a:=rfl
theorem TM (a h v:Int):(Deed.mk a none (some h)).mk' v = if h < v + a then h else v + a:=rfl
theorem Ws (a l h v:Int):(Deed.mk a (some l) (some h)).mk' v = if h < (if l > v + a then l else v + a) then h else (if l > v + a then l else v + a):=rfl
theorem Y1 {a l h:Int} (o:Deed.Ok ⟨a,some l,some h⟩):l < h \/ (l = h /\ a = 0):=o l h rfl rfl
theorem jn {a:Int} {lo hi:Option Int} (h:∀ l u,lo = some l -> hi = some u -> l <= u):(vP a lo hi).Ok:=by
 unfold vP
 split
 ·rename_i c
  intro l u e1 e2
  have e1':lo = some l:=e1
  have e2':hi = some u:=e2
  right
  refine ⟨?_,rfl⟩
  have:=c.2
  rw [e1',e2'] at this
  exact Option.some.inj this
 ·rename_i c
  intro l u e1 e2
  have e1':lo = some l:=e1
  have e2':hi = some u:=e2
  left
  have:=h l u e1' e2'
  have ne:l ≠ u:=fun z=>c ⟨by rw [e1']; simp,by rw [e1',e2',z]⟩
  omega
theorem VT {a:Int} {lo hi:Option Int} (v:Int):(vP a lo hi).mk' v = (Deed.mk a lo hi).mk' v:=by
 unfold vP
 split
 ·rename_i c
  obtain ⟨c1,c2⟩:=c
  subst c2
  cases lo with
  | none=>exact absurd rfl c1
  | some l =>
   rw [Ws,Ws]
   split <;> split <;> split <;> (try split) <;> omega
 ·rfl
theorem uZ (l r:Int):zW (some l) r = max l r:=by
 show (if l > r then l else r) = _
 split <;> omega
theorem vk (h r:Int):z8 (some h) r = min h r:=by
 show (if h < r then h else r) = _
 split <;> omega
theorem Vh (r:Int):zW none r = r:=rfl
theorem Vi (r:Int):z8 none r = r:=rfl
theorem Ze {l x y:Int} (h:x <= y):max l x <= max l y:=by omega
theorem Zf {l x y:Int} (h:x <= y):min l x <= min l y:=by omega
theorem um {d:Deed} {v w:Int} (h:v <= w):d.mk' v <= d.mk' w:=by
 obtain ⟨a,lo,hi⟩:=d
 have h':v + a <= w + a:=Int.add_le_add_right h a
 cases lo with
 | none =>
  cases hi with
  | none=>exact h'
  | some u=>simp only [Deed.mk',vk,Vh]; exact Zf h'
 | some l =>
  cases hi with
  | none=>simp only [Deed.mk',uZ,Vi]; exact Ze h'
  | some u=>simp only [Deed.mk',uZ,vk]; exact Zf (Ze h')
theorem Wu {d e:Deed} (od:d.Ok) (oe:e.Ok):(sK d e).Ok:=by
 refine jn fun l u e1 e2=>?_
 obtain ⟨a,lo,hi⟩:=d
 obtain ⟨a',lo',hi'⟩:=e
 cases lo with
 | none =>
  have e1':lo' = some l:=e1
  subst e1'
  cases hi with
  | none =>
   have e2':hi' = some u:=e2
   subst e2'
   have:=Y1 oe; omega
  | some h =>
   have e2':(Deed.mk a' (some l) hi').mk' h = u:=Option.some.inj e2
   subst e2'
   cases hi' with
   | none=>rw [TL]; split <;> omega
   | some h' =>
    have:=Y1 oe
    rw [Ws]; (repeat' split) <;> omega
 | some l0 =>
  have e1':(Deed.mk a' lo' hi').mk' l0 = l:=Option.some.inj e1
  subst e1'
  cases hi with
  | none =>
   have e2':hi' = some u:=e2
   subst e2'
   cases lo' with
   | none=>rw [TM]; split <;> omega
   | some l' =>
    have:=Y1 oe
    rw [Ws]; (repeat' split) <;> omega
  | some h =>
   have e2':(Deed.mk a' lo' hi').mk' h = u:=Option.some.inj e2
   subst e2'
   have:=Y1 od
   exact um (by omega)
theorem Vj {d:Deed} (x y:Int):d.mk' (max x y) = max (d.mk' x) (d.mk' y):=by
 rcases Int.le_total x y with h | h
 ·rw [Int.max_eq_right h,Int.max_eq_right (um h)]
 ·rw [Int.max_eq_left h,Int.max_eq_left (um h)]
theorem Vk {d:Deed} (x y:Int):d.mk' (min x y) = min (d.mk' x) (d.mk' y):=by
 rcases Int.le_total x y with h | h
 ·rw [Int.min_eq_left h,Int.min_eq_left (um h)]
 ·rw [Int.min_eq_right h,Int.min_eq_right (um h)]
theorem TN {F m W:Int} (h:m <= F):max F W = max F (max m W):=by omega
theorem TQ {F u L:Int} (h:F <= u):min F L = min F (min u L):=by omega
theorem mm_x {F u W:Int} (h:F <= u):min u (max F W) = max F (min u W):=by omega
theorem TR {F G C W:Int} (h:C = W \/ (W < C /\ C <= F) \/ (C < W /\ F <= C /\ G <= C)):min G (max F W) = min G (max F C):=by
 rcases h with rfl | ⟨h1,h2⟩ | ⟨h1,h2,h3⟩
 ·rfl
 ·rw [Int.max_eq_left h2,Int.max_eq_left (Int.le_trans (Int.le_of_lt h1) h2)]
 ·rw [Int.max_eq_right h2,Int.max_eq_right (Int.le_trans h2 (Int.le_of_lt h1)),Int.min_eq_left h3,Int.min_eq_left (Int.le_trans h3 (Int.le_of_lt h1))]
theorem US {a:Int} {lo hi:Option Int} (o:∀ l h,lo = some l -> hi = some h -> l <= h) (W:Int) :
  z8 hi (zW lo W) = W \/ (W < z8 hi (zW lo W) /\ ∀ x,z8 hi (zW lo W) <= (Deed.mk a lo hi).mk' x) \/ (z8 hi (zW lo W) < W /\ ∀ x,(Deed.mk a lo hi).mk' x <= z8 hi (zW lo W)):=by
 cases lo with
 | none =>
  cases hi with
  | none=>exact .inl rfl
  | some h =>
   simp only [Deed.mk',vk,Vh]
   rcases Int.le_total W h with c | c
   ·exact .inl (Int.min_eq_right c)
   ·rw [Int.min_eq_left c]
    rcases Int.lt_or_eq_of_le c with d | d
    ·exact .inr (.inr ⟨d,fun x=>Int.min_le_left _ _⟩)
    ·exact .inl d
 | some l =>
  cases hi with
  | none =>
   simp only [Deed.mk',uZ,Vi]
   rcases Int.le_total l W with c | c
   ·exact .inl (Int.max_eq_right c)
   ·rw [Int.max_eq_left c]
    rcases Int.lt_or_eq_of_le c with d | d
    ·exact .inr (.inl ⟨d,fun x=>Int.le_max_left _ _⟩)
    ·exact .inl d.symm
  | some h =>
   have lh:=o l h rfl rfl
   simp only [Deed.mk',uZ,vk]
   rcases Int.lt_or_le W l with c | c
   ·rw [Int.max_eq_left (Int.le_of_lt c),Int.min_eq_right lh]
    exact .inr (.inl ⟨c,fun x=>Int.le_min.mpr ⟨lh,Int.le_max_left _ _⟩⟩)
   ·rw [Int.max_eq_right c]
    rcases Int.lt_or_le h W with d | d
    ·rw [Int.min_eq_left (Int.le_of_lt d)]
     exact .inr (.inr ⟨d,fun x=>Int.min_le_left _ _⟩)
    ·exact .inl (Int.min_eq_right d)
theorem Wv {d e:Deed} (od:d.Ok) (oe:e.Ok) (v:Int):(sK d e).mk' v = e.mk' (d.mk' v):=by
 unfold sK
 rw [VT]
 obtain ⟨a,lo,hi⟩:=d
 obtain ⟨a',lo',hi'⟩:=e
 have q2:∀ l h,lo' = some l -> hi' = some h -> l <= h:=fun l h e1 e2=>by
  subst e1 e2
  rcases Y1 oe with z | z
  ·exact Int.le_of_lt z
  ·exact Int.le_of_eq z.1
 have ew:v + (a + a') = v + a + a':=(Int.add_assoc v a a').symm
 have ef:∀ w,(Deed.mk a' lo' hi').mk' w = z8 hi' (zW lo' (w + a')):=fun _=>rfl
 have fu:∀ u,hi' = some u -> ∀ w,(Deed.mk a' lo' hi').mk' w <= u:=fun u e w=>by
  rw [ef,e,vk]; exact Int.min_le_left _ _
 have fm:∀ m,lo' = some m -> ∀ w,m <= (Deed.mk a' lo' hi').mk' w:=fun m e w=>by
  rw [ef,e,uZ]
  cases hi' with
  | none=>exact Int.le_max_left _ _
  | some h=>rw [vk]; exact Int.le_min.mpr ⟨q2 m h e rfl,Int.le_max_left _ _⟩
 cases lo with
 | none =>
  cases hi with
  | none =>
   show z8 hi' (zW lo' (v + (a + a'))) = z8 hi' (zW lo' (v + a + a'))
   rw [ew]
  | some h =>
   show z8 (some ((Deed.mk a' lo' hi').mk' h)) (zW lo' (v + (a + a'))) = (Deed.mk a' lo' hi').mk' (z8 (some h) (v + a))
   rw [vk,vk,Vk,ew,ef (v + a)]
   cases hi' with
   | none=>rfl
   | some u=>rw [vk u]; exact TQ (fu u rfl h)
 | some l =>
  cases hi with
  | none =>
   show z8 hi' (zW (some ((Deed.mk a' lo' hi').mk' l)) (v + (a + a'))) = (Deed.mk a' lo' hi').mk' (zW (some l) (v + a))
   rw [uZ,uZ,Vj,ew,ef (v + a)]
   have g:max ((Deed.mk a' lo' hi').mk' l) (v + a + a') = max ((Deed.mk a' lo' hi').mk' l) (zW lo' (v + a + a')):=by
    cases lo' with
    | none=>rfl
    | some m=>rw [uZ]; exact TN (fm m rfl l)
   rw [g]
   cases hi' with
   | none=>rfl
   | some u=>rw [vk,vk]; exact mm_x (fu u rfl l)
  | some h =>
   show z8 (some ((Deed.mk a' lo' hi').mk' h)) (zW (some ((Deed.mk a' lo' hi').mk' l)) (v + (a + a'))) = (Deed.mk a' lo' hi').mk' (z8 (some h) (zW (some l) (v + a)))
   rw [vk,uZ,vk,uZ,Vk,Vj,ew,ef (v + a)]
   refine TR ?_
   rcases US (a:=a') q2 (v + a + a') with z | z | z
   ·exact .inl z
   ·exact .inr (.inl ⟨z.1,z.2 l⟩)
   ·exact .inr (.inr ⟨z.1,z.2 l,z.2 h⟩)
theorem yu {c:Bool} {A B:Prop} (e:c = false) (h:B):if c = true then A else B:=by rw [e]; exact iteF h
theorem yQ {c:Bool} {A B:Prop} (e:c = true) (h:A):if c = true then A else B:=by rw [e]; exact iteT h
theorem Zg {K:FG7} {a:Addr} {xs:List V} {g:TG} {tt:TT} {te:TE} {Q:VK} {σ:L2.St} {H:Hp} (Pv:Nat -> List V -> L2.St -> Hp -> Prop) (h0:Pv 0 [] σ H) (hl:∀ i ys σ H,i <= xs.length -> Pv i ys σ H -> SqT K H a xs)
  (hs:∀ i x ys σ H,xs[i]? = some x -> Pv i ys σ H -> g x σ H fun σ2 H3=>tt σ2 H3 fun b H4=>if b = true then te σ2 H4 fun y H5=>ys.length < sizeLine /\ Pv (i + 1) (ys ++ [y]) σ2 H5 else Pv (i + 1) ys σ2 H4)
  (hd:∀ ys σ H,Pv xs.length ys σ H -> ∀ l,H l = none -> Q (.ref l) (upd H l (.lst ys))) :
  uY (Itt K a) σ H g tt te Q:=by
 refine ⟨fun i m ys σ H=>m = xs.length - i /\ i <= xs.length /\ Pv i ys σ H,⟨xs.length,by simp,Nat.zero_le _,h0⟩,?_⟩
 rintro i m ys σ H ⟨rfl,hi,p⟩
 have q:=hl i ys σ H hi p
 by_cases hlt:i < xs.length
 ·refine .inr ⟨⟨xs,xs[i],q,by simp [hlt]⟩,Pv (i + 1),fun zs σ' H' p'=>⟨xs.length - (i + 1),by omega,rfl,hlt,p'⟩,fun x H' y=>?_⟩
  obtain ⟨e,y⟩:=y
  subst e
  exact hs i x ys σ _ (y xs q) p
 ·have e:i = xs.length:=by omega
  subst e
  exact .inl ⟨⟨xs,q,Nat.le_refl _⟩,hd ys σ H p⟩
theorem uo {K:FG7} {a:Addr} {xs:List V} {g:TG} {tt:TT} {te:TE} {Q:VK} {σ:L2.St} {H:Hp} (Pv:Nat -> List V -> L2.St -> Hp -> Prop) (h0:Pv 0 [] σ H) (hl:∀ i ys σ H,i <= xs.length -> Pv i ys σ H -> SqL K H a xs)
  (hs:∀ i x ys σ H,xs[i]? = some x -> Pv i ys σ H -> g x σ H fun σ2 H3=>tt σ2 H3 fun b H4=>if b = true then te σ2 H4 fun y H5=>ys.length < sizeLine /\ Pv (i + 1) (ys ++ [y]) σ2 H5 else Pv (i + 1) ys σ2 H4)
  (hd:∀ ys σ H,Pv xs.length ys σ H -> ∀ l,H l = none -> Q (.ref l) (upd H l (.lst ys))) :
  uY (Itl K a) σ H g tt te Q:=by
 refine ⟨fun i m ys σ H=>m = xs.length - i /\ i <= xs.length /\ Pv i ys σ H,⟨xs.length,by simp,Nat.zero_le _,h0⟩,?_⟩
 rintro i m ys σ H ⟨rfl,hi,p⟩
 have q:=hl i ys σ H hi p
 by_cases hlt:i < xs.length
 ·refine .inr ⟨⟨xs,xs[i],q,by simp [hlt]⟩,Pv (i + 1),fun zs σ' H' p'=>⟨xs.length - (i + 1),by omega,rfl,hlt,p'⟩,fun x H' y=>?_⟩
  obtain ⟨e,y⟩:=y
  subst e
  exact hs i x ys σ _ (y xs q) p
 ·have e:i = xs.length:=by omega
  subst e
  exact .inl ⟨⟨xs,q,Nat.le_refl _⟩,hd ys σ H p⟩
theorem uq {K:FG7} {a:Addr} {xs:List V} {n:Nat} {te:TE} {Q:VK} {σ:L2.St} {H:Hp} (Pv:Nat -> List V -> L2.St -> Hp -> Prop) (h0:Pv 0 [] σ H) (hl:∀ i ys σ H,i <= xs.length -> Pv i ys σ H -> SqT K H a xs)
  (hs:∀ i x ys σ H,xs[i]? = some x -> Pv i ys σ H -> te (σ.set n (some x)) H fun y H5=>ys.length < sizeLine /\ Pv (i + 1) (ys ++ [y]) (σ.set n (some x)) H5)
  (hd:∀ ys σ H,Pv xs.length ys σ H -> ∀ l,H l = none -> Q (.ref l) (upd H l (.lst ys))):uY (Itt K a) σ H (wO n) ZW te Q :=
 Zg Pv h0 hl (fun i x ys σ H hx p=>by
  show if true = true then te (σ.set n (some x)) H (fun y H5=>ys.length < sizeLine /\ Pv (i + 1) (ys ++ [y]) (σ.set n (some x)) H5) else Pv (i + 1) ys (σ.set n (some x)) H
  rw [if_pos rfl]; exact hs i x ys σ H hx p) hd
theorem vm {K:FG7} {a:Addr} {xs:List V} {n:Nat} {te:TE} {Q:VK} {σ:L2.St} {H:Hp} (Pv:Nat -> List V -> L2.St -> Hp -> Prop) (h0:Pv 0 [] σ H) (hl:∀ i ys σ H,i <= xs.length -> Pv i ys σ H -> SqL K H a xs)
  (hs:∀ i x ys σ H,xs[i]? = some x -> Pv i ys σ H -> te (σ.set n (some x)) H fun y H5=>ys.length < sizeLine /\ Pv (i + 1) (ys ++ [y]) (σ.set n (some x)) H5)
  (hd:∀ ys σ H,Pv xs.length ys σ H -> ∀ l,H l = none -> Q (.ref l) (upd H l (.lst ys))):uY (Itl K a) σ H (wO n) ZW te Q :=
 uo Pv h0 hl (fun i x ys σ H hx p=>by
  show if true = true then te (σ.set n (some x)) H (fun y H5=>ys.length < sizeLine /\ Pv (i + 1) (ys ++ [y]) (σ.set n (some x)) H5) else Pv (i + 1) ys (σ.set n (some x)) H
  rw [if_pos rfl]; exact hs i x ys σ H hx p) hd
theorem ur {X:Cx} {K:FG7} (h:X.K = K):IxR X (rIxT K):=by subst h; exact yV
theorem Ww {X:Cx} {K:FG7} (h:X.K = K):IxR X (rIxL K):=by subst h; exact zY
theorem UT {a:Int} {hi:Option Int}:vP a none hi = ⟨a,none,hi⟩:=by simp [vP]
theorem UU {a l:Int}:vP a (some l) (some l) = ⟨0,some l,some l⟩:=by simp [vP]
theorem Vl {a l:Int} {hi:Option Int} (h:some l ≠ hi):vP a (some l) hi = ⟨a,some l,hi⟩:=by simp [vP,h]
def Y2 (_:FG7):Sp:=sp3 fun x y z H Q=>∃ a lo hi,x = .int a /\ y = ov lo /\ z = ov hi /\ ∀ t,H t = none -> Q (.ref t) (upd H t (.tup (vP a lo hi).vs))
def qg (K:FG7):Sp:=sp2 fun x y H Q=>∃ d e,qc K H x d /\ qc K H y e /\ ∀ t,H t = none -> Q (.ref t) (upd H t (.tup (sK d e).vs))
section
variable {X:Cx}
def rEqL (K:FG7) (neg:Bool):R2:=fun x y H Q=>∃ a b xs ys,x = .ref a /\ y = .ref b /\ SqL K H a xs /\ SqL K H b ys /\ xs.all uX = true /\ ys.all uX = true /\ Q (.bl (if neg then !eqVs xs ys else eqVs xs ys)) H
theorem Vm {k:Nat} (hr:Room k X.A):OpR X (compareOp .NotEq) (rEqL X.K true):=by
 intro pins s σ H x y v u Q I rx ry h
 obtain ⟨a,b,xs,ys,rfl,rfl,ha,hb,f1,f2,q⟩:=h
 cases rx; cases ry
 obtain ⟨us,r1,t1,_⟩:=I.list ha
 obtain ⟨ws,r2,t2,_⟩:=I.list hb
 by_cases hl:us.length = ws.length
 ·refine SeqAt.RcNeAt.lists t1.isList t2.isList (by simpa using hl) hr.units0 (Y0 r1 r2 f1 f2) _ _ _ _ ?_
  have e:=vj (xs:=xs) (ys:=ys)
  have e2:(xs.length == ys.length) = true:=by rw [beq_iff_eq,r1.length,r2.length]; exact hl
  rw [e2,Bool.and_true,show min xs.length ys.length = xs.length by rw [r1.length,r2.length]; omega] at e
  rw [List.size_toArray,← r1.length,e]
  exact ⟨.bl _,H,I,rfl,q⟩
 ·refine SeqAt.RcNeAt.lists_lengths t1.isList t2.isList (by simpa using hl) hr.units0 _ _ _ _ ?_
  have e:eqVs xs ys = false:=by
   cases z:eqVs xs ys with
   | false=>rfl
   | true=>exact absurd (by rw [← r1.length,← r2.length]; exact sJ z) hl
  rw [e] at q
  exact ⟨.bl _,H,I,rfl,q⟩
theorem UV {k:Nat} (hr:Room k X.A):OpR X (compareOp .Eq) (rEqL X.K false):=by
 intro pins s σ H x y v u Q I rx ry h
 obtain ⟨a,b,xs,ys,rfl,rfl,ha,hb,f1,f2,q⟩:=h
 cases rx; cases ry
 obtain ⟨us,r1,t1,_⟩:=I.list ha
 obtain ⟨ws,r2,t2,_⟩:=I.list hb
 by_cases hl:us.length = ws.length
 ·refine SeqAt.eq_listAt t1.isList t2.isList (by simpa using hl) hr.units0 (Y0 r1 r2 f1 f2) ?_
  have e:=vj (xs:=xs) (ys:=ys)
  have e2:(xs.length == ys.length) = true:=by rw [beq_iff_eq,r1.length,r2.length]; exact hl
  rw [e2,Bool.and_true,show min xs.length ys.length = xs.length by rw [r1.length,r2.length]; omega] at e
  rw [List.size_toArray,← r1.length,e]
  exact ⟨.bl _,H,I,rfl,q⟩
 ·refine SeqAt.eq_list_lengthsAt t1.isList t2.isList (by simpa using hl) hr.units0 ?_
  have e:eqVs xs ys = false:=by
   cases z:eqVs xs ys with
   | false=>rfl
   | true=>exact absurd (by rw [← r1.length,← r2.length]; exact sJ z) hl
  rw [e] at q
  exact ⟨.bl _,H,I,rfl,q⟩
end
theorem VU {i j:Int}:eqV (.int i) (.int j) = decide (i = j):=by rw [Bool.eq_iff_iff]; simp [eqV]
theorem wS:∀ {xs ys:List Int},eqVs (xs.map V.int) (ys.map V.int) = decide (xs = ys)
 | [],[]=>rfl
 | x :: xs,y :: ys=>by
  show (eqV (.int x) (.int y) && eqVs (xs.map V.int) (ys.map V.int)) = _
  rw [VU,wS,Bool.eq_iff_iff]
  simp
 | [],_ :: _=>by simp [eqVs]
 | _ :: _,[]=>by simp [eqVs]
section
variable {K:FG7} {a:Addr} {xs:List V} {n:Nat} {tt:TT} {te:TE} {Q:VK} {σ:L2.St} {H:Hp}
theorem qh {p:V -> Bool} {f:V -> V} {i:Nat} {x:V} (hx:xs[i]? = some x):((xs.take (i + 1)).filter p).map f = ((xs.take i).filter p).map f ++ (if p x = true then [f x] else []):=by
 rw [List.take_add_one,hx,List.filter_append,List.map_append]
 congr 1
 show ((([x]:List V)).filter p).map f = _
 by_cases c:p x = true
 ·rw [if_pos c,List.filter_cons_of_pos c]; rfl
 ·rw [if_neg c,List.filter_cons_of_neg c]; rfl
theorem Wx {p:V -> Bool} {f:V -> V} {i:Nat} (h:xs.length <= 1000):(((xs.take i).filter p).map f).length < sizeLine:=by
 rw [List.length_map]
 refine zp ?_
 have:=List.length_filter_le p (xs.take i)
 have:=List.length_take_le i xs
 have:(xs.take i).length <= xs.length:=by rw [List.length_take]; omega
 omega
theorem Wy {p:V -> Bool} {f:V -> V}:((xs.take xs.length).filter p).map f = (xs.filter p).map f:=by rw [List.take_length]
theorem vn (p:V -> Bool) (f:V -> V) (hl:SqT K H a xs) (hlen:xs.length <= 1000)
  (ht:∀ x H' (R:Bool -> Hp -> Prop),x ∈ xs -> Grow [] H H' -> (∀ H2,Grow [] H' H2 -> R (p x) H2) -> tt (σ.set n (some x)) H' R)
  (hs:∀ x H' (R:VK),x ∈ xs -> p x = true -> Grow [] H H' -> (∀ H2,Grow [] H' H2 -> R (f x) H2) -> te (σ.set n (some x)) H' R)
  (hd:∀ H' l,Grow [] H H' -> H' l = none -> Q (.ref l) (upd H' l (.lst ((xs.filter p).map f)))):uY (Itt K a) σ H (wO n) tt te Q:=by
 refine Zg (xs:=xs) (fun i ys σ' H'=>Grow [] H H' /\ (σ' = σ \/ ∃ e,σ' = σ.set n e) /\ ys = ((xs.take i).filter p).map f) ⟨Grow.refl _ _,.inl rfl,rfl⟩ ?_ ?_ ?_
 ·rintro i ys σ' H' _ ⟨g,_⟩
  exact g.sqT hl
 ·rintro i x ys σ' H' hx ⟨g,hσ,rfl⟩
  have e:σ'.set n (some x) = σ.set n (some x):=by
   rcases hσ with rfl | ⟨e,rfl⟩
   ·rfl
   ·rw [List.set_set]
  show tt (σ'.set n (some x)) H' _
  rw [e]
  refine ht x H' _ (List.mem_of_getElem? hx) g fun H2 g2=>?_
  by_cases c:p x = true
  ·rw [if_pos c]
   refine hs x H2 _ (List.mem_of_getElem? hx) c (g.trans g2) fun H3 g3=>⟨Wx hlen,(g.trans g2).trans g3,.inr ⟨_,rfl⟩,?_⟩
   rw [qh hx,if_pos c]
  ·rw [if_neg c]
   refine ⟨g.trans g2,.inr ⟨_,rfl⟩,?_⟩
   rw [qh hx,if_neg c,List.append_nil]
 ·rintro ys σ' H' ⟨g,_,rfl⟩ l hl
  rw [Wy]
  exact hd H' l g hl
theorem Wz {p:V -> Bool} (h:∀ x,p x = true):xs.filter p = xs:=List.filter_eq_self.mpr fun x _=>h x
theorem qi (f:V -> V) (hl:SqT K H a xs) (hlen:xs.length <= 1000)
  (hs:∀ x H' (R:VK),x ∈ xs -> Grow [] H H' -> (∀ H2,Grow [] H' H2 -> R (f x) H2) -> te (σ.set n (some x)) H' R)
  (hd:∀ H' l,Grow [] H H' -> H' l = none -> Q (.ref l) (upd H' l (.lst (xs.map f)))):uY (Itt K a) σ H (wO n) ZW te Q :=
 vn (fun _=>true) f hl hlen (fun x H' R _ _ k=>k H' (Grow.refl _ _)) (fun x H' R hx _ g k=>hs x H' R hx g k) (fun H' l g hl=>by rw [Wz fun _=>rfl]; exact hd H' l g hl)
def vi (f:Int -> Int):V -> V
 | .int i=>.int (f i)
 | v=>v
end
mutual
inductive Dat (K:FG7) (H:Hp):V -> PyData -> Prop
 | non:Dat K H .non .none
 | bl (b:Bool):Dat K H (.bl b) (.bool b)
 | int (i:Int):Dat K H (.int i) (.int i)
 | tup {a:Addr} {xs:List V} {ds:List PyData}:SqT K H a xs -> DatAll K H xs ds -> Dat K H (.ref a) (.tuple ds)
 | lst {a:Addr} {xs:List V} {ds:List PyData}:SqL K H a xs -> DatAll K H xs ds -> Dat K H (.ref a) (.list ds)
inductive DatAll (K:FG7) (H:Hp):List V -> List PyData -> Prop
 | nil:DatAll K H [] []
 | cons {x:V} {xs:List V} {d:PyData} {ds:List PyData}:Dat K H x d -> DatAll K H xs ds -> DatAll K H (x :: xs) (d :: ds)
end
abbrev Span:=Option (Option Int × Option Int)
theorem qj {α:Type} (xs:List α):(xs.map (fun _=>true)).all id = true:=by rw [List.all_eq_true]; intro x hx; obtain ⟨_,_,rfl⟩:=List.mem_map.mp hx; rfl
theorem WA (gs:List Int):(gs.map V.int).map (fun _=>V.bl true) = (gs.map (fun _=>true)).map V.bl:=by rw [List.map_map,List.map_map]; rfl
section
variable {K:FG7} {a:Addr} {xs:List V} {lo:Int} {n k:Nat} {te:TE} {Q:VK} {σ:L2.St} {H:Hp}
theorem sL (Pv:Nat -> List V -> Hp -> Prop) (h0:Pv 0 [] H)
  (hs:∀ i ys H',i < n -> Pv i ys H' -> te (σ.set k (some (.int (lo + i)))) H' fun y H5=>ys.length < sizeLine /\ Pv (i + 1) (ys ++ [y]) H5)
  (hd:∀ ys H',Pv n ys H' -> ∀ l,H' l = none -> Q (.ref l) (upd H' l (.lst ys))):uY (Itr lo n) σ H (wO k) ZW te Q:=by
 refine ⟨fun i m ys σ' H'=>m = n - i /\ i <= n /\ (σ' = σ \/ ∃ e,σ' = σ.set k e) /\ Pv i ys H',⟨n,by simp,Nat.zero_le _,.inl rfl,h0⟩,?_⟩
 rintro i m ys σ' H' ⟨rfl,hi,hσ,p⟩
 by_cases hlt:i < n
 ·refine .inr ⟨hlt,fun zs σ2 H2=>(σ2 = σ \/ ∃ e,σ2 = σ.set k e) /\ Pv (i + 1) zs H2,fun zs σ2 H2 p'=>⟨n - (i + 1),by omega,rfl,hlt,p'.1,p'.2⟩,fun x H2 y=>?_⟩
  obtain ⟨e,y⟩:=y
  subst e y
  have e:σ'.set k (some (V.int (lo + i))) = σ.set k (some (V.int (lo + i))):=by
   rcases hσ with rfl | ⟨e,rfl⟩
   ·rfl
   ·rw [List.set_set]
  show if true = true then te (σ'.set k (some (V.int (lo + i)))) H2 (fun y H5=>ys.length < sizeLine /\ ((σ'.set k (some (V.int (lo + i))) = σ \/ ∃ e,σ'.set k (some (V.int (lo + i))) = σ.set k e) /\ Pv (i + 1) (ys ++ [y]) H5)) else ((σ'.set k (some (V.int (lo + i))) = σ \/ ∃ e,σ'.set k (some (V.int (lo + i))) = σ.set k e) /\ Pv (i + 1) ys H2)
  rw [if_pos rfl,e]
  have e2:(fun (y:V) (H5:Hp)=>ys.length < sizeLine /\ ((σ.set k (some (V.int (lo + i))) = σ \/ ∃ e,σ.set k (some (V.int (lo + i))) = σ.set k e) /\ Pv (i + 1) (ys ++ [y]) H5)) = fun y H5=>ys.length < sizeLine /\ Pv (i + 1) (ys ++ [y]) H5:=by
   funext y H5
   exact propext ⟨fun z=>⟨z.1,z.2.2⟩,fun z=>⟨z.1,.inr ⟨_,rfl⟩,z.2⟩⟩
  rw [e2]
  exact hs i ys H2 hlt p
 ·have e:i = n:=by omega
  subst e
  exact .inl ⟨Nat.le_refl _,hd ys H' p⟩
end
theorem Grow.less {m m':List Addr} {H H':Hp} (g:Grow m H H') (h:∀ b ∈ m,b ∈ m' \/ H b = none):Grow m' H H' :=
 ⟨fun b o n q=>g.keep b o (fun z=>by
  rcases h b z with w | w
  ·exact n w
  ·rw [w] at q; cases q) q,g.tup,g.frz⟩
theorem VV {n:Nat} {i:Int} (h0:0 <= i) (h:i.toNat < n):ixN n i = some i.toNat:=by
 unfold ixN; rw [if_pos h0,if_pos (by omega)]
theorem UW {xs:List V} {i:Int} {j:Nat} {v:V} (h:ixN xs.length i = some j) (hv:xs[j]? = some v):atI xs i = some v:=by
 unfold atI; rw [h]; exact hv
structure Ask where
 hand:Int
 box:Int
 deed:Deed
def xA (K:FG7) (H:Hp) (x:V) (k:Ask):Prop:=∃ r rd,x = .ref r /\ SqT K H r [.int k.hand,.int k.box,.ref rd] /\ SqT K H rd k.deed.vs
def yz (K:FG7) (H:Hp) (x:V) (b:List Int):Prop:=∃ r,x = .ref r /\ SqT K H r (b.map V.int)
def WB (m:Nat) (k:Ask):Prop:=0 <= k.hand /\ k.hand <= 15 /\ 0 <= k.box /\ k.box < m /\ k.deed.Ok
theorem Grow.ask {m:List Addr} {H H':Hp} (g:Grow m H H') {K:FG7} {x:V} {k:Ask} (h:xA K H x k):xA K H' x k:=by
 obtain ⟨r,rd,e,h1,h2⟩:=h
 exact ⟨r,rd,e,g.sqT h1,g.sqT h2⟩
theorem Grow.board {m:List Addr} {H H':Hp} (g:Grow m H H') {K:FG7} {x:V} {b:List Int} (h:yz K H x b):yz K H' x b:=by
 obtain ⟨r,e,h1⟩:=h
 exact ⟨r,e,g.sqT h1⟩
theorem WC {K:FG7} {H:Hp}:∀ xs:List Int,DatAll K H (xs.map V.int) (xs.map PyData.int)
 | []=>.nil
 | x :: xs=>.cons (.int x) (WC xs)
def ya (K:FG7):Sp:=sp3 fun x y z H Q=>∃ i l u,x = .int i /\ y = .int l /\ z = .int u /\ Q (.bl (decide (l <= i) && decide (i <= u))) H
def ut (K:FG7):Sp:=sp1 fun x H Q=>∃ b,yz K H x b /\ 1 <= b.length /\ b.length <= 16 /\ ∀ H',Grow [] H H' -> Q (.bl true) H'
def wT (K:FG7):Sp:=sp1 fun x H Q=>∃ b,yz K H x b /\ 1 <= b.length /\ b.length <= 16 /\ ∀ H',Grow [] H H' -> Q .non H'
def sp4 (b:V -> V -> V -> V -> Hp -> VK -> Prop):Sp:=fun vs H Q _=>∃ x y z u,vs = [x,y,z,u] /\ b x y z u H Q
theorem sM {b:V -> V -> V -> V -> Hp -> VK -> Prop} {p q r s:Str}:∀ vs H Q E,sp4 b vs H Q E -> vs.length = [p,q,r,s].length:=fun vs H Q E h=>by
 obtain ⟨x,y,z,u,rfl,_⟩:=h; rfl
def AllR {α:Type} (R:V -> α -> Prop):List V -> List α -> Prop
 | [],[]=>True
 | x :: xs,k :: ks=>R x k /\ AllR R xs ks
 | _,_=>False
section
variable {α:Type} {R S:V -> α -> Prop}
theorem AllR.imp (h:∀ x k,R x k -> S x k):∀ {xs:List V} {ks:List α},AllR R xs ks -> AllR S xs ks
 | [],[],_=>trivial
 | _ :: _,_ :: _,⟨a,t⟩=>⟨h _ _ a,AllR.imp h t⟩
 | [],_ :: _,z=>z.elim
 | _ :: _,[],z=>z.elim
theorem AllR.len:∀ {xs:List V} {ks:List α},AllR R xs ks -> xs.length = ks.length
 | [],[],_=>rfl
 | _ :: xs,_ :: ks,⟨_,t⟩=>congrArg (· + 1) (AllR.len t)
 | [],_ :: _,h=>h.elim
 | _ :: _,[],h=>h.elim
theorem AllR.get:∀ {xs:List V} {ks:List α} {i:Nat} {x:V},AllR R xs ks -> xs[i]? = some x -> ∃ k,ks[i]? = some k /\ R x k
 | _ :: _,k :: _,0,x,⟨h,_⟩,e=>by
  obtain rfl:=Option.some.inj e
  exact ⟨k,rfl,h⟩
 | _ :: _,_ :: _,i + 1,x,⟨_,t⟩,e=>AllR.get (i:=i) t e
 | [],[],i,x,_,e=>by cases e
 | [],_ :: _,_,_,h,_=>h.elim
 | _ :: _,[],_,_,h,_=>h.elim
theorem AllR.getR:∀ {xs:List V} {ks:List α} {i:Nat} {k:α},AllR R xs ks -> ks[i]? = some k -> ∃ x,xs[i]? = some x /\ R x k
 | x :: _,_ :: _,0,k,⟨h,_⟩,e=>by
  obtain rfl:=Option.some.inj e
  exact ⟨x,rfl,h⟩
 | _ :: _,_ :: _,i + 1,k,⟨_,t⟩,e=>AllR.getR (i:=i) t e
 | [],[],i,k,_,e=>by cases e
 | [],_ :: _,_,_,h,_=>h.elim
 | _ :: _,[],_,_,h,_=>h.elim
theorem AllR.app:∀ {xs ys:List V} {ks js:List α},AllR R xs ks -> AllR R ys js -> AllR R (xs ++ ys) (ks ++ js)
 | [],_,[],_,_,h=>h
 | _ :: _,_,_ :: _,_,⟨h,t⟩,q=>⟨h,AllR.app t q⟩
 | [],_,_ :: _,_,h,_=>h.elim
 | _ :: _,_,[],_,h,_=>h.elim
theorem AllR.one {x:V} {k:α} (h:R x k):AllR R [x] [k]:=⟨h,trivial⟩
end
theorem Y3 {X:Cx} {K:FG7} (h:X.K = K):xV X (.builtin "len") (fun xs H Q=>∃ p ys,xs = [.ref p] /\ (SqL K H p ys \/ SqT K H p ys) /\ Q (.int ys.length) H):=by subst h; exact zx
def sp5 (b:V -> V -> V -> V -> V -> Hp -> VK -> Prop):Sp:=fun vs H Q _=>∃ x y z u w,vs = [x,y,z,u,w] /\ b x y z u w H Q
theorem jo {b:V -> V -> V -> V -> V -> Hp -> VK -> Prop} {p q r s t:Str}:∀ vs H Q E,sp5 b vs H Q E -> vs.length = [p,q,r,s,t].length:=fun vs H Q E h=>by
 obtain ⟨x,y,z,u,w,rfl,_⟩:=h; rfl
section
variable {prog:Program} {w:World} {A:Around} {E:VS7} {s:Shared}
theorem jp {jt t:Addr} {i:Nat} {vs:Array Value} {v:Value} {Q:VS7} (hit:s.heap.IsTupleIter jt t i) (ht:s.heap.IsTuple t vs) (hv:vs[i]? = some v)
  (hQ:∀ h',h'.IsTupleIter jt t (i + 1) -> Heap.SameBut jt s.heap h' -> Q v { s with heap:=h' }):wpAny (model prog w) A (Builtin.SmallTypes.nextOf (.ref jt)) Q E s:=by
 obtain ⟨oj,hoj,cj,dj⟩:=id hit
 obtain ⟨ot,hot,_,nt,dt⟩:=ht
 unfold Builtin.SmallTypes.nextOf
 refine wpAny_bind (wpAny_callSpecial?_slot (name:=Str.ofString "__next__") hit.typeIs F.slot_tuple_iterator_next (wpAny_call_entry F.slot_tuple_iterator_next hit.typeIs F.entry_tuple_iterator_next ?_ (F.args_tuple_iterator_next_1 _)))
 show wpAny _ _ (field (.ref jt) 0 >>= _) _ _ s
 refine wpAny_bind (wpAny_field hoj dj (x:=.ref t) rfl ?_); show wpAny _ _ (if (Value.ref t == Value.none) = true then _ else _) _ _ s
 rw [if_neg (show ¬ ((Value.ref t == Value.none) = true) by exact Bool.false_ne_true)]; show wpAny _ _ (field (.ref jt) 1 >>= _) _ _ s
 refine wpAny_bind (wpAny_field hoj dj (x:=.int i 0) rfl ?_); show wpAny _ _ (seqItems? (.ref t) >>= _) _ _ s
 refine wpAny_bind (wpAny_seqItems hot dt ?_); simp only [Int.toNat_natCast,hv]
 refine wpAny_bind (wpAny_setField hoj dj (by simp) (wpAny_pure ⟨v,rfl,wpAny_pure (hQ _ ⟨_,Heap.get?_update_self _ hoj (Obj.isFreed_of_fields (Obj.data_mapFields dj _)),(Obj.cls_mapFields ..).trans cj,by rw [Obj.data_mapFields dj]; simp [rawInt]⟩ (Heap.SameBut.update ..))⟩))
theorem tT {jt t:Addr} {i:Nat} {vs:Array Value} {Q:VS7} (hh:A.handled = none) (hit:s.heap.IsTupleIter jt t i) (ht:s.heap.IsTuple t vs) (hv:vs[i]? = none)
  (hE:∀ h' e,Heap.ExtBut jt s.heap h' -> (∃ o,h'.get? e = some o /\ o.cls = .type "StopIteration") -> E (.ref e) { s with heap:=h' }):wpAny (model prog w) A (Builtin.SmallTypes.nextOf (.ref jt)) Q E s:=by
 obtain ⟨oj,hoj,cj,dj⟩:=id hit
 obtain ⟨ot,hot,_,nt,dt⟩:=ht
 unfold Builtin.SmallTypes.nextOf
 refine wpAny_bind (wpAny_callSpecial?_slot (name:=Str.ofString "__next__") hit.typeIs F.slot_tuple_iterator_next (wpAny_call_entry F.slot_tuple_iterator_next hit.typeIs F.entry_tuple_iterator_next ?_ (F.args_tuple_iterator_next_1 _)))
 show wpAny _ _ (field (.ref jt) 0 >>= _) _ _ s
 refine wpAny_bind (wpAny_field hoj dj (x:=.ref t) rfl ?_); show wpAny _ _ (if (Value.ref t == Value.none) = true then _ else _) _ _ s
 rw [if_neg (show ¬ ((Value.ref t == Value.none) = true) by exact Bool.false_ne_true)]; show wpAny _ _ (field (.ref jt) 1 >>= _) _ _ s
 refine wpAny_bind (wpAny_field hoj dj (x:=.int i 0) rfl ?_); show wpAny _ _ (seqItems? (.ref t) >>= _) _ _ s
 refine wpAny_bind (wpAny_seqItems hot dt ?_); simp only [Int.toNat_natCast,hv]
 refine wpAny_bind (wpAny_rule (wpAny_bind (wpAny_setField hoj dj (by simp) ?_))); show wpAny _ _ (newExc (.type "StopIteration") [] >>= _) _ _ _
 refine wpAny_bind ?_; simp only [newExc,newTuple]
 refine wpAny_bind (wpAny_newObj_type ?_ (by size_fits)); refine wpAny_bind (m:=firstArgMember _ _) (wpAny_of_eq (a:=Value.none) (by first | rfl | (simp only [firstArgMember]; rfl)) ?_)
 refine wpAny_newObj_type ?_ (by size_fits); simp only [raiseNew]
 refine wpAny_bind (wpAny_handled ?_); (first | rw [show A.in1.handled = none from hh] | rw [hh])
 exact wpAny_bind (wpAny_pure (wpAny_throw (hE _ _ (((Heap.SameBut.update ..).extBut.push _).push _) ⟨_,Heap.get?_push_size _ rfl,rfl⟩)))
end
theorem Y4 {prog:Program} {w:World} {A:Around} (hh:A.handled = none) (jt t:Addr) (hne:t ≠ jt) (vs:Array Value) :
  Draws prog w A jt [jt,t] vs.size (fun i v=>vs[i]? = some v) (fun i h=>h.IsTupleIter jt t i /\ h.IsTuple t vs) where
 live:=fun _ _ st=>let ⟨o,ho,_⟩:=st.1; ⟨o,ho⟩
 frame:=fun _ _ _ st hk=>⟨st.1.at (hk jt (by simp)),st.2.at (hk t (by simp))⟩
 item:=fun i s Q E hi st hQ=>jp st.1 st.2 (v:=vs[i]) (by simp [hi]) fun h' hit' hs'=>hQ _ h' s.toks (by simp [hi]) ⟨hit',st.2.extBut hs'.extBut hne⟩ hs'
 done:=fun s Q E st hE=>tT hh st.1 st.2 (by simp) hE
theorem Y5 {prog:Program} {w:World} {A:Around} (hh:A.handled = none) (jt t:Addr) (vs:Array Value) {i:Nat} (hv:vs[i]? = none) :
  Draws prog w A jt [jt,t] i (fun _ _=>True) (fun j h=>j = i /\ h.IsTupleIter jt t i /\ h.IsTuple t vs) where
 live:=fun _ _ st=>let ⟨o,ho,_⟩:=st.2.1; ⟨o,ho⟩
 frame:=fun _ _ _ st hk=>⟨st.1,st.2.1.at (hk jt (by simp)),st.2.2.at (hk t (by simp))⟩
 item:=fun j s Q E hj st hQ=>absurd st.1 (Nat.ne_of_lt hj)
 done:=fun s Q E st hE=>tT hh st.2.1 st.2.2 hv hE
section
variable {X:Cx} {pins:List (Addr × Obj)} {σ:L2.St} {H:Hp} {s:Shared} {h':Heap}
theorem Y6 {fp:List Addr} {t':Nat} (I:Inv X pins σ H s) (k:∀ b o,b ∉ fp -> s.heap.get? b = some o -> h'.get? b = some o) (ff:∀ b ∈ fp,FpOk X pins H b):Inv X pins σ H { s with heap:=h',toks:=t' }:=by
 have nit:∀ b u,H b = some u -> b ∉ fp:=fun b u e z=>by rw [(ff b z).1] at e; cases e
 refine I.step (g':=s.gens) (d':=s.drawn) (ch:=fp) (fun b hb=>?_) (fun b o _ _ hc e _=>k b o hc e) (fun b o _ _ hc e _=>⟨o.slots,k b o hc e⟩) (fun _ _ _ _ n=>n) (fun b o hc e=>⟨o,k b o hc e⟩) (fun _ _ e=>e) (fun _ _ _ e=>e) (fun b ps e=>⟨#[],by rw [e]; simp⟩) (fun m hm=>?_) (fun b u e=>?_) I.bare
 ·obtain ⟨_,f1,_,f3,f4,f5⟩:=ff b hb
  exact ⟨f3,f1,f4,f5⟩
 ·obtain ⟨o,es,ep,ho,r⟩:=hm
  exact ⟨o,es,ep,k _ o (fun z=>(ff _ z).2.1 rfl) ho,r⟩
 ·refine (I.hok b u e).stay (fun c v hc q=>k c v ?_ q) (fun _ q=>q) fun _ _ q=>q
  rcases hc with z | z
  ·rw [z]; exact nit b u e
  ·exact nit c _ z
theorem WD {fp:List Addr} {T:Addr} {o:HO} {t':Nat} (I:Inv X pins σ H s) (k:∀ b o,b ∉ fp -> s.heap.get? b = some o -> h'.get? b = some o) (ff:∀ b ∈ fp,FpOk X pins H b) (hT:s.heap.objs.size <= T)
  (new:yj X.prog X.w (upd H T o) h' T o):Inv X pins σ (upd H T o) { s with heap:=h',toks:=t' }:=by
 have hn:H T = none:=I.hok.fresh hT
 have I1:Inv X pins σ H { s with heap:=h',toks:=t' }:=Y6 I k ff
 have hok:HOk X.prog X.w (upd H T o) h':=HOk.track I1.hok hn new
 refine I.step (g':=s.gens) (d':=s.drawn) (ch:=fp) (fun b hb=>?_) (fun b o _ _ hc e _=>k b o hc e) (fun b o _ _ hc e _=>⟨o.slots,k b o hc e⟩) (fun b u _ e n=>by rw [zu (Nat.ne_of_lt (Nat.lt_of_lt_of_le (Heap.lt_size e) hT))]; exact n) (fun b o hc e=>⟨o,k b o hc e⟩)
  (fun b xs e=>by rw [zu (zA e hn)]; exact e) (fun b u xs e=>by rw [zu (zA e hn)]; exact e) (fun b ps e=>⟨#[],by rw [zu (zA e hn),e]; simp⟩) (fun m hm=>?_) hok I.bare
 ·obtain ⟨_,f1,_,f3,f4,f5⟩:=ff b hb
  exact ⟨f3,f1,f4,f5⟩
 ·obtain ⟨o,es,ep,ho,r⟩:=hm
  exact ⟨o,es,ep,k _ o (fun z=>(ff _ z).2.1 rfl) ho,r⟩
end
section
variable {X:Cx} {elts:List Expr} {kt:Nat} {pt:Pos}
theorem UX:bootBuiltins "enumerate" = some (.type "enumerate"):=by decide +kernel
end
theorem AllR.set {α:Type} {R:V -> α -> Prop} {x:V} {k:α} (h:R x k):∀ {xs:List V} {ks:List α} {n:Nat},AllR R xs ks -> AllR R (xs.set n x) (ks.set n k)
 | [],[],n,_=>by cases n <;> trivial
 | _ :: _,_ :: _,0,⟨_,t⟩=>⟨h,t⟩
 | _ :: _,_ :: _,n + 1,⟨a,t⟩=>⟨a,AllR.set h t⟩
 | [],_ :: _,_,z=>z.elim
 | _ :: _,[],_,z=>z.elim
def figI (k st l:Int):Int:=Builtin.bitAnd (l / 2 ^ (k - st).toNat) 1
def wfI (k st l w:Int):Int:=Builtin.bitXor l (Builtin.bitXor (figI k st l) w * 2 ^ (k - st).toNat)
def swI (k st l:Int):Int:=Builtin.bitOr (l / 2 ^ (k - st + 1).toNat * 2 ^ (k - st).toNat) (Builtin.bitAnd l (1 * 2 ^ (k - st).toNat - 1))
def UY (k n:Int):List Int:=(List.range k.toNat).map fun i:Nat=>Builtin.bitAnd (n / 2 ^ (k - 1 - (0 + (i:Int))).toNat) 1
def numL (xs:List Int):Int:=xs.foldl (fun f o=>2 * f + o) 0
def Y7 (k l:Int) (st:Nat):Int:=numL ((UY k l).take (st - 1) ++ (UY k l).drop st)
theorem Y8:∀ k:Fin 5,∀ st:Fin 5,st.val <= k.val -> ∀ l:Fin 16,(figI k.val st.val l.val = 0 \/ figI k.val st.val l.val = 1) /\ ∀ w:Fin 2,(Builtin.bitXor (figI k.val st.val l.val) w.val).natAbs < 2:=by
 decide +kernel
theorem Y9 {i j:Int} (h:-(2 ^ 60) < i /\ i < 2 ^ 60):IntMulOk i j:=PySem.IntMulOk.of_left (Nat.le_trans ((PySem.intBits_le_iff (m:=60)).mpr (by obtain ⟨a,b⟩:=h; omega)) (by decide))
theorem xT {k:Nat} (h:k <= 4):CPow 1 (k:Int):=⟨by omega,by omega,by decide⟩
theorem vo {k:Nat} (h:k <= 4):(2:Nat) ^ k <= 16:=Nat.le_trans (Nat.pow_le_pow_right (by decide) h) (by decide)
theorem sN {k:Nat}:(1:Int) * 2 ^ ((k:Int)).toNat = ((2 ^ k:Nat):Int):=by rw [Int.toNat_natCast,Int.one_mul,Int.natCast_pow]; rfl
theorem figF {k st:Nat} {l:Int} (k4:k <= 4) (hs:st <= k) (l0:0 <= l) (l1:l < 16):(figI k st l = 0 \/ figI k st l = 1) /\ ∀ w:Int,w = 0 \/ w = 1 -> (Builtin.bitXor (figI k st l) w).natAbs < 2 ^ 64:=by
 obtain ⟨n,rfl⟩:∃ n:Nat,l = n:=⟨l.toNat,by omega⟩
 have z:=Y8 ⟨k,by omega⟩ ⟨st,by omega⟩ hs ⟨n,by omega⟩
 refine ⟨z.1,fun w hw=>?_⟩
 rcases hw with rfl | rfl
 ·exact Nat.lt_trans (z.2 0) (by decide)
 ·exact Nat.lt_trans (z.2 1) (by decide)
theorem TU {ys:List Int} {v:Int}:atI ((ys ++ [v]).map V.int) (-1) = some (V.int v):=by
 refine UW (j:=ys.length) ?_ ?_
 ·unfold ixN
  rw [List.length_map,List.length_append,if_neg (by decide),if_pos (by show -((ys.length + 1:Nat):Int) <= -1; omega)]
  exact congrArg some (by show (-1 + ((ys.length + 1:Nat):Int)).toNat = ys.length; omega)
 ·rw [List.getElem?_map]; simp
def wf (_:FG7):Sp:=sp2 fun x y H Q=>∃ k l:Nat,x = .int k /\ y = .int l /\ k <= 4 /\ l < 2 ^ k /\ Q (.bl true) H
def uu (_:FG7):Sp:=sp1 fun x H Q=>∃ k:Nat,x = .int k /\ k <= 4 /\ Q .non H
def vH (_:FG7):Sp:=sp2 fun x y H Q=>∃ k l:Nat,x = .int k /\ y = .int l /\ k <= 4 /\ l < 2 ^ k /\ Q .non H
def uw (_:FG7):Sp:=sp3 fun x y z H Q=>∃ (k st:Nat) (l:Int),x = .int k /\ y = .int st /\ z = .int l /\ st <= k /\ Q (.int (figI k st l)) H
def wy (_:FG7):Sp:=sp4 fun x y z u H Q=>∃ (k st:Nat) (l w:Int),x = .int k /\ y = .int st /\ z = .int l /\ u = .int w /\ k <= 4 /\ st <= k /\ 0 <= l /\ l < 16 /\ (w = 0 \/ w = 1) /\ Q (.int (wfI k st l w)) H
def qk (_:FG7):Sp:=sp4 fun x y z u H Q=>∃ (k st:Nat) (l s:Int),x = .int k /\ y = .int st /\ z = .int l /\ u = .int s /\ k <= 4 /\ st <= k /\ 0 <= l /\ l < 16 /\ 0 <= s /\ s < 16 /\ Q (.int (wfI k st l (figI k st s))) H
def vI (_:FG7):Sp:=sp3 fun x y z H Q=>∃ (k st:Nat) (l:Int),x = .int k /\ y = .int st /\ z = .int l /\ k <= 4 /\ st <= k /\ 0 <= l /\ l < 16 /\ Q (.int (swI k st l)) H
section
variable {prog:Program} {w:World} {A:Around} {R:Result -> Shared -> Prop} {s:Shared}
variable {elt t0 i0 t1 i1:Expr} {ifs:List Expr} {scope:Scope} {pos:Pos} {it acc:Value} {env:Env}
def noX:VS7:=fun _ _=>False
end
section
variable {X:Cx}
theorem Xa:∀ {ns:List Int} {us:List Value},Vals (ns.map V.int) us -> ∀ (i:Nat) (v:Value),us[i]? = some v -> ∃ t,v = Value.int ((ns[i]?).getD 0) t
 | [],_,.nil,i,v,e=>by cases e
 | n :: ns,_,.cons r t,0,v,e=>by
  obtain ⟨u,rfl⟩:=r
  obtain rfl:=Option.some.inj e
  exact ⟨u,rfl⟩
 | n :: ns,_,.cons r t,i + 1,v,e=>Xa t i v e
theorem Xb (hcalm:X.calm = true):xV X (.builtin "max") (fun xs H Q=>∃ (l:Addr) (ns:List Int),xs = [.ref l] /\ SqL X.K H l (ns.map V.int) /\ 0 < ns.length /\ ∀ M,M ∈ ns -> (∀ a ∈ ns,a <= M) -> Q (.int M) H):=by
 intro pins s σ H xs us Q I r h
 obtain ⟨l,ns,rfl,hl,h0,q⟩:=h
 obtain ⟨u,rfl,rx⟩:=wG r
 cases (show u = Value.ref l from rx)
 obtain ⟨vs,rv,pl,_⟩:=I.list hl
 have hl':s.heap.IsList l vs.toArray:=pl.isList
 have hb:=Xa rv
 have hlen:ns.length = vs.length:=by rw [← rv.length,List.length_map]
 have hlt:l < s.heap.objs.size:=by obtain ⟨_,e,_⟩:=hl'; exact Heap.lt_size e
 have best:=argBest_gt (fun i=>(ns[i]?).getD 0) (vs.length - 1)
 refine call_max_walk (wpAny_pyIter_list hl' ?_)
 refine ⟨s.heap.objs.size,[s.heap.objs.size,l],[s.heap.objs.size],vs.toArray.size,_,_,fun i j=>decide ((ns[i]?).getD 0 > (ns[j]?).getD 0),rfl,Walks.list (A:=X.A.in1) (I.ok.hd hcalm) _ l (Nat.ne_of_lt hlt) vs.toArray,
  ⟨⟨_,Heap.get?_push_size _ rfl,rfl,rfl⟩,hl'.push _⟩,?_,?_,CmpOf.ints_gt _ (fun i v hP=>hb i v (by simpa using hP)),fun v h' tk hP hk=>?_⟩
 ·intro b hb
  have sz:(s.heap.push { cls:=.type "list_iterator",data:=.fields #[.ref l,.int 0 0] }).objs.size = s.heap.objs.size + 1:=Heap.size_push ..
  rcases List.mem_cons.mp hb with z | z
  ·rw [z]; show _ < (s.heap.push _).objs.size; rw [sz]; omega
  ·rw [List.mem_singleton.mp z]; show _ < (s.heap.push _).objs.size; rw [sz]; exact Nat.lt_succ_of_lt hlt
 ·rw [List.size_toArray]; omega
 ·rw [List.size_toArray] at hP
  obtain ⟨t,rfl⟩:=hb _ v (by simpa using hP)
  have hi:argBest (fun i j=>decide ((ns[i]?).getD 0 > (ns[j]?).getD 0)) (vs.length - 1) < ns.length:=by have:=best.1; omega
  refine ⟨.int ((ns[argBest (fun i j=>decide ((ns[i]?).getD 0 > (ns[j]?).getD 0)) (vs.length - 1)]?).getD 0),H,I.kept (t':=tk) (h':=h') (LSm.kept_iter hk),⟨t,rfl⟩,q _ ?_ ?_⟩
  ·rw [List.getElem?_eq_getElem hi]; exact List.getElem_mem hi
  ·intro a ha
   obtain ⟨j,hj,rfl⟩:=List.getElem_of_mem ha
   have:=best.2 j (by omega)
   rw [List.getElem?_eq_getElem hj] at this
   exact this
end
section
variable {X:Cx} {pins:List (Addr × Obj)} {σ:L2.St} {H2:Hp} {s₂:Shared} {it:Addr} {fp:List Addr} {tn:Nat -> Heap -> Prop} {J:It} {scope:Scope} {cl:List (Str × Addr)} {N':List Str} {sub:List (Option Nat)}
theorem Xc {C D:Addr} {s₀:Shared} {tg:Expr} {pos:Pos} {elt iter:Expr} {ifs:List Expr} {g:TG} {tt:TT} {te:TE} {Q:VK} {RR:Value -> Addr -> Result -> Shared -> Prop} {W:Nat -> Nat -> List V -> L2.St -> Hp -> Prop}
  (I:Inv X pins σ H2 s₂) (hcalm:X.calm = true) (T:Turn X.prog X.w X.K tg J fp it tn) (f2:∀ b ∈ fp,FpOk X pins H2 b) (hfp:∀ b ∈ fp,b < s₂.heap.objs.size)
  (hs₀:∀ b o,s₂.heap.get? b = some o -> s₀.heap.get? b = some o) (hos:s₀.os = s₂.os) (hD:s₂.heap.objs.size <= D) (hC:s₂.heap.objs.size <= C) (hDC:D ≠ C)
  (hcl1:∀ x c,cl.lookup x = some c -> X.env.cells.lookup x = some c)
  (hg:PG (cxC X N' scope cl C D fp s₀ H2) tg g) (ht:PIfs (cxC X N' scope cl C D fp s₀ H2) ifs tt) (he:PE (cxC X N' scope cl C D fp s₀ H2) elt te)
  (turn:∀ i m ys σ' H',W i m ys σ' H' →
   (J.stop i H' /\ ∀ l,H' l = none -> Q (.ref l) (upd H' l (.lst ys))) ∨
   (J.go i H' /\ ∃ Nn:List V -> L2.St -> Hp -> Prop,(∀ zs σ2 H2,Nn zs σ2 H2 -> ∃ m',m' < m /\ W (i + 1) m' zs σ2 H2) ∧
    ∀ x H2,J.yld i H' x H2 -> g x σ' H2 fun σ2 H3=>tt σ2 H3 fun b H4=>if b = true then te σ2 H4 fun y H5=>ys.length < sizeLine /\ Nn (ys ++ [y]) σ2 H5 else Nn ys σ2 H4))
  (hRR:∀ (D C:Addr) (oC:Obj) (m:Str -> Option Value) (s':Shared) (Hf:Hp),Inv X (pins ++ [(C,oC)]) σ Hf s' -> s'.heap.Ns C m -> FpOk X pins Hf C -> Q (.ref D) Hf -> RR (.ref D) C (.ok .next) s')
  (n:Nat) (s:Shared) (h:∃ i ys us k σ' H',Inv (cxC X N' scope cl C D fp s₀ H2) pins σ' H' s /\ tn i s.heap /\ (∀ b ∈ fp,H' b = none) /\ H' D = none ∧
   s.heap.get? D = some { cls:=.type "list",data:=.seq (us:List Value).toArray k } /\ Vals ys us /\ ys.length <= sizeLine /\ W i n ys σ' H') :
  codeAny (model X.prog X.w) X.A (.compLoop (.ListComp elt [⟨tg,iter,ifs,0⟩] scope pos) 0 (.ref it) (.ref D) (compEnvC scope cl C X.env)) (RR (.ref D) C) s:=by
 have frsz:∀ b ∈ frs X.stack,b < s₂.heap.objs.size:=fun b hb=>by
  rcases List.mem_cons.mp (I.stkSub b hb) with z | z
  ·rw [z]; exact I.lt
  ·exact Nat.lt_of_not_le fun q=>I.nofs q z
 have cells:∀ x c,cl.lookup x = some c -> c < s₂.heap.objs.size:=fun x c e=>let ⟨v,q⟩:=I.cell x c (hcl1 x c e); q.lt
 have pinsz:∀ p ∈ X.pn ++ pins,p.1 < s₂.heap.objs.size:=fun p hp=>Heap.lt_size (I.pin p hp).1
 refine YY (fun n s=>∃ i ys us k σ' H',Inv (cxC X N' scope cl C D fp s₀ H2) pins σ' H' s /\ tn i s.heap /\ (∀ b ∈ fp,H' b = none) /\ H' D = none ∧
   s.heap.get? D = some { cls:=.type "list",data:=.seq (us:List Value).toArray k } /\ Vals ys us /\ ys.length <= sizeLine /\ W i n ys σ' H') ?_ n h
 rintro n s ⟨i,ys,us,k,σ',H',I',st',fr,hn,hy,rv,hz,w'⟩
 have pD:Inv (cxC X N' scope cl C D fp s₀ H2) (pins ++ [(D,{ cls:=.type "list",data:=.seq us.toArray k })]) σ' H' s:=I'.pins_of fun p hp=>by
  rcases List.mem_append.mp hp with hp | hp
  ·exact I'.pin p (List.mem_append_right _ hp)
  ·rw [List.mem_singleton.mp hp]
   exact ⟨hy,hn,hDC,fun z=>absurd (Nat.lt_of_lt_of_le (frsz _ z) hD) (Nat.lt_irrefl _),fun v z=>by cases z⟩
 have fpok:∀ {H'':Hp},(∀ b ∈ fp,H'' b = none) -> ∀ b ∈ fp,FpOk (cxC X N' scope cl C D fp s₀ H2) (pins ++ [(D,{ cls:=.type "list",data:=.seq us.toArray k })]) H'' b:=fun hz b hb=>by
  refine ⟨hz b hb,Nat.ne_of_lt (Nat.lt_of_lt_of_le (hfp b hb) hC),fun z=>?_,.inl (List.mem_cons_of_mem _ hb),fun x c e=>(f2 b hb).2.2.2.2.1 x c (hcl1 x c e),fun p hp=>?_⟩
  ·rcases List.mem_cons.mp (I.stkSub b z) with z | z
   ·exact (f2 b hb).2.1 z
   ·exact (f2 b hb).2.2.1 z
  ·rcases List.mem_append.mp hp with hp | hp
   ·exact (f2 b hb).2.2.2.2.2 p (List.mem_append_left _ hp)
   ·rcases List.mem_append.mp hp with hp | hp
    ·exact (f2 b hb).2.2.2.2.2 p (List.mem_append_right _ hp)
    ·rw [List.mem_singleton.mp hp]
     exact Nat.ne_of_gt (Nat.lt_of_lt_of_le (hfp b hb) hD)
 rcases turn i n ys σ' H' w' with ⟨stop,q⟩ | ⟨go,Nn,hN,step⟩
 ·refine thn (T.done (cxC X N' scope cl C D fp s₀ H2) rfl rfl rfl hcalm i _ s σ' H' (fun _ _=>False) pD (fpok fr) st' stop) fun r s1 ⟨hr,I1⟩=>?_
  subst hr
  have hy1:=(I1.pin (D,{ cls:=.type "list",data:=.seq us.toArray k }) (by simp)).1
  obtain ⟨m,hm,_⟩:=I1.loc
  obtain ⟨oC,es,ep,hoC,hdC,_⟩:=id hm
  obtain ⟨IX,fpc⟩:=Wr I hs₀ hos hD hC hDC f2 I1.unpinned hn hy1 rv hz hoC (by intro v z; rw [hdC] at z; cases z)
  exact hRR D C oC m s1 _ IX hm fpc (q D hn)
 ·refine thn (T.item (cxC X N' scope cl C D fp s₀ H2) rfl rfl rfl hcalm i _ s σ' H' (fun _ _=>False) pD (fpok fr) st' go) fun r s1 ⟨u,hr,h4⟩=>?_
  subst hr
  refine thn h4 fun _ s2 ⟨x5,H5,I5,r5,y5,st5,fr5⟩=>?_
  have I5':=I5.pinned (fpok fr5) (T.obj _ _ st5)
  refine thn (hg _ s2 σ' H5 x5 u _ I5' r5 (step x5 H5 y5)) fun _ s3 ⟨σ6,H6,I6,q6⟩=>?_
  refine thn (ht _ s3 σ6 H6 _ I6 q6) fun ok s4 ⟨H7,I7,q7⟩=>?_
  have stay:∀ {σ7:L2.St} {H7:Hp} {s7:Shared},Inv (cxC X N' scope cl C D fp s₀ H2) (pins ++ [(D,{ cls:=.type "list",data:=.seq us.toArray k })] ++ wP fp s2.heap) σ7 H7 s7 →
    (∀ b ∈ fp,∀ o,s2.heap.get? b = some o -> s7.heap.get? b = some o) /\ (∀ b ∈ fp,H7 b = none) /\ H7 D = none /\ s7.heap.get? D = some { cls:=.type "list",data:=.seq us.toArray k }:=fun {σ7 H7 s7} I7=>by
   have d:=I7.pin (D,{ cls:=.type "list",data:=.seq us.toArray k }) (by simp)
   refine ⟨fun b hb o e=>(I7.pin (b,o) (List.mem_append_right _ (List.mem_append_right _ (yD hb e)))).1,fun b hb=>?_,d.2.1,d.1⟩
   obtain ⟨o,e,_⟩:=T.obj _ _ st5 b hb
   exact (I7.pin (b,o) (List.mem_append_right _ (List.mem_append_right _ (yD hb e)))).2.1
  cases ok with
  | false =>
   rw [if_neg (by decide)] at q7 ⊢
   obtain ⟨k1,k2,k3,k4⟩:=stay I7
   obtain ⟨m',hm,w7⟩:=hN ys σ6 H7 q7
   exact ⟨m',hm,i + 1,ys,us,k,σ6,H7,I7.unpinned.unpinned,T.keep _ _ _ st5 k1,k2,k3,k4,rv,hz,w7⟩
  | true =>
   rw [if_pos rfl] at q7 ⊢
   refine thn (he _ s4 σ6 H7 _ I7 q7) fun v s5 ⟨y,H8,I8,r8,hl8,n8⟩=>?_
   obtain ⟨k1,k2,k3,k4⟩:=stay I8
   refine wpAny_list_append_plain (l:=D) ⟨k,k4⟩ (fun h' pl sb=>?_) (by rw [List.size_toArray,← rv.length]; exact hz)
   obtain ⟨k',e'⟩:=pl
   obtain ⟨m',hm,w8⟩:=hN _ σ6 H8 n8
   refine ⟨m',hm,i + 1,ys ++ [y],us ++ [v],k',σ6,H8,?_,T.keep _ _ _ (T.keep _ _ _ st5 k1) fun b hb o e=>sb.extBut b o (Nat.ne_of_lt (Nat.lt_of_lt_of_le (hfp b hb) hD)) e,k2,k3,?_,rv.append (.cons r8 .nil),?_,w8⟩
   ·exact (I8.unpinned.unpinned).turned (it:=D) (t':=s5.toks) (h':=h') (fun b o hb e=>sb.extBut b o hb e) k3 hDC (.inl (by simp)) (fun x c e=>Nat.ne_of_lt (Nat.lt_of_lt_of_le (cells x c e) hD)) (fun p hp=>Nat.ne_of_lt (Nat.lt_of_lt_of_le (pinsz p hp) hD))
   ·rw [e']; simp
   ·rw [List.length_append]; exact hl8
theorem ux {tg:Expr} {pos:Pos} {elt iter:Expr} {ifs:List Expr} {g:TG} {tt:TT} {te:TE} {E:VS7} {Q:VK} {RR:Value -> Addr -> Result -> Shared -> Prop}
  (I:Inv X pins σ H2 s₂) (hcalm:X.calm = true) (T:Turn X.prog X.w X.K tg J fp it tn) (st:tn 0 s₂.heap) (f2:∀ b ∈ fp,FpOk X pins H2 b)
  (S:CSc X scope N' sub) (hcl1:∀ x c,cl.lookup x = some c -> X.env.cells.lookup x = some c) (hcl2:∀ y ∈ scope.names,y.2 = .free -> ∃ c,cl.lookup y.1 = some c)
  (hg:∀ C D fp s H,PG (cxC X N' scope cl C D fp s H) tg g) (ht:∀ C D fp s H,PIfs (cxC X N' scope cl C D fp s H) ifs tt) (he:∀ C D fp s H,PE (cxC X N' scope cl C D fp s H) elt te)
  (hW:uY J (capt sub σ) H2 g tt te Q)
  (hRR:∀ (D C:Addr) (oC:Obj) (m:Str -> Option Value) (s':Shared) (Hf:Hp),Inv X (pins ++ [(C,oC)]) σ Hf s' -> s'.heap.Ns C m -> FpOk X pins Hf C -> Q (.ref D) Hf -> RR (.ref D) C (.ok .next) s') :
  wpAny (model X.prog X.w) X.A (newList []) (fun acc s₃=>wpAny (model X.prog X.w) X.A (newFunctionEnv scope X.env.globals cl [] X.env.qual none .none (some X.env)) (fun cenv s₄ =>
   codeAny (model X.prog X.w) X.A (.compStart (.ListComp elt [⟨tg,iter,ifs,0⟩] scope pos) 0 (.ref it) acc { cenv with scope:=relabel scope X.env }) (RR acc cenv.locals) s₄) E s₃) E s₂:=by
 obtain ⟨W,⟨m0,w0⟩,turn⟩:=hW
 refine wpAny_newObj_type (wpAny_newFunctionEnv S.nocell (by intro y hy; simp at hy) (fun h₁ hns₁ hsb₁=>?_) S.kind)
 dsimp only at hns₁ hsb₁ ⊢
 have hC:(s₂.heap.push { cls:=.type "list",dict:=none,data:=.seq ([]:List Value).toArray }).objs.size = s₂.heap.objs.size + 1:=Heap.size_push ..
 rw [hC] at hns₁ hsb₁ ⊢
 have hk:∀ b o,(s₂.heap.push { cls:=.type "list",dict:=none,data:=.seq ([]:List Value).toArray }).get? b = some o -> h₁.get? b = some o:=fun b o e =>
  hsb₁.extBut b o (by have:=Heap.lt_size e; rw [hC] at this; exact Nat.ne_of_lt this) (Heap.get?_push_of_some _ e)
 have hfp:∀ b ∈ fp,b < s₂.heap.objs.size:=fun b hb=>by
  obtain ⟨o,e,_⟩:=T.obj _ _ st b hb
  exact Heap.lt_size e
 have I0:=tS (tk:=s₂.toks + ([]:List (Str × Value)).length) I S hcl1 hcl2 f2 hfp hns₁ hk
 have hD0:h₁.get? s₂.heap.objs.size = some { cls:=.type "list",data:=.seq ([]:List Value).toArray 0 }:=hk _ _ (Heap.get?_push_size _ rfl)
 have loop:codeAny (model X.prog X.w) X.A (.compLoop (.ListComp elt [⟨tg,iter,ifs,0⟩] scope pos) 0 (.ref it) (.ref s₂.heap.objs.size) (compEnvC scope cl (s₂.heap.objs.size + 1) X.env)) (RR (.ref s₂.heap.objs.size) (s₂.heap.objs.size + 1)) { s₂ with heap:=h₁,toks:=s₂.toks + ([]:List (Str × Value)).length } :=
  Xc (s₀:={ s₂ with heap:=s₂.heap.push { cls:=.type "list",dict:=none,data:=.seq ([]:List Value).toArray } }) (C:=s₂.heap.objs.size + 1) (D:=s₂.heap.objs.size) I hcalm T f2 hfp (fun b o e=>Heap.get?_push_of_some _ e) rfl (Nat.le_refl _) (Nat.le_succ _) (Nat.ne_of_lt (Nat.lt_succ_self _)) hcl1 (hg _ _ _ _ _) (ht _ _ _ _ _) (he _ _ _ _ _) turn hRR m0 _
   ⟨0,[],[],0,capt sub σ,H2,I0,T.keep _ _ _ st fun b hb o e=>hk b o (Heap.get?_push_of_some _ e),fun b hb=>(f2 b hb).1,I.hok.fresh (Nat.le_refl _),hD0,.nil,Nat.zero_le _,w0⟩
 exact codeAny_compStart_list loop (T.self _ _ _ _ _ (T.keep _ _ _ st fun b hb o e=>hk b o (Heap.get?_push_of_some _ e)) loop)
end
section
variable {X:Cx} {scope:Scope} {N':List Str} {sub:List (Option Nat)} {tg:Expr} {pos:Pos} {elt iter:Expr} {ifs:List Expr} {wi:TI} {g:TG} {tt:TT} {te:TE}
theorem yL (S:CSc X scope N' sub) (hcalm:X.calm = true) (hi:PI X tg iter wi)
  (hg:∀ cl C D fp s H,PG (cxC X N' scope cl C D fp s H) tg g) (ht:∀ cl C D fp s H,PIfs (cxC X N' scope cl C D fp s H) ifs tt) (he:∀ cl C D fp s H,PE (cxC X N' scope cl C D fp s H) elt te)
  (hs:∀ x,foldedSetIterable iter X.env x = pure x:=by intro _; rfl):PE X (.ListComp elt [⟨tg,iter,ifs,0⟩] scope pos) (UR wi sub g tt te):=by
 intro pins s σ H Q I h
 obtain ⟨cl,hclos,hcl1,hcl2⟩:=S.clos I
 rw [eval_ListComp]
 refine wpAny_comprehension_free (use:=none) rfl hs hclos S.kind S.names (thn (hi pins s σ H _ I h) fun v s1 h1=>thn h1 fun itv s2 h2=>?_)
 obtain ⟨it,fp,tn,J,H2,e,I2,T,st2,f2,hW⟩:=h2
 subst e
 refine ux (RR:=fun acc C=>compPost (model X.prog X.w) X.A X.xe none (EP X pins σ Q) acc C) I2 hcalm T st2 f2 S hcl1 hcl2 (hg cl) (ht cl) (he cl) hW ?_
 intro D C oC m s' Hf IX hm fpc q
 refine ⟨m,hm,fun h' sb=>⟨.ref D,Hf,?_,rfl,q⟩⟩
 exact (IX.unpinned).turned (it:=C) (t':=s'.toks) (h':=h') (fun b o hb e=>sb.extBut b o hb e) fpc.1 fpc.2.1 fpc.2.2.2.1 fpc.2.2.2.2.1 fpc.2.2.2.2.2
theorem wU {i:Nat} {y:Str} {py spos:Pos} (hN:X.N.Nodup) (hiN:X.N[i]? = some y) (hy:X.env.scope.names.lookup y = some .local) (S:CSc X scope N' sub) (hcalm:X.calm = true) (hi:PI X tg iter wi)
  (hg:∀ cl C D fp s H,PG (cxC X N' scope cl C D fp s H) tg g) (ht:∀ cl C D fp s H,PIfs (cxC X N' scope cl C D fp s H) ifs tt) (he:∀ cl C D fp s H,PE (cxC X N' scope cl C D fp s H) elt te)
  (hsw:swapsWith (.ListComp elt [⟨tg,iter,ifs,0⟩] scope pos) (some (.Name y py)) spos.line X.env = pure true:=by rfl)
  (hs:∀ x,foldedSetIterable iter X.env x = pure x:=by intro _; rfl):PS X (.Assign [.Name y py] (.ListComp elt [⟨tg,iter,ifs,0⟩] scope pos) spos) (tAsg (UR wi sub g tt te) (wO i)):=by
 intro pins s σ H D I h
 obtain ⟨cl,hclos,hcl1,hcl2⟩:=S.clos I
 rw [exec_Assign_Name_used _ _ _ _ hsw]
 refine wpAny_bind (wpAny_standAt (wpAny_bind ?_))
 show wpAny _ X.A (do let _ ← comprehension (.ListComp elt [⟨tg,iter,ifs,0⟩] scope pos) scope X.env _ (newList []) false (eval iter X.env) (some (assign (.Name y py) X.env))) _ _ s
 refine wpAny_bind (wpAny_mono (wpAny_comprehension_free (use:=some (assign (.Name y py) X.env)) (Q:=fun _ s'=>SP X pins D .next s') rfl hs hclos S.kind S.names
  (thn (hi pins s σ H _ I h) fun v s1 h1=>thn h1 fun itv s2 h2=>?_)) (fun _ s' hq=>wpAny_pure (wpAny_pure hq)) fun _ _ e=>e)
 obtain ⟨it,fp,tn,J,H2,e,I2,T,st2,f2,hW⟩:=h2
 subst e
 refine ux (Q:=fun x H1=>wO i x σ H1 D.nx) (RR:=fun acc C=>compPost (model X.prog X.w) X.A X.xe (some (assign (.Name y py) X.env)) (fun _ s'=>SP X pins D .next s') acc C) I2 hcalm T st2 f2 S hcl1 hcl2 (hg cl) (ht cl) (he cl) hW ?_
 intro L C oC m s' Hf IX hm fpc q
 have st:=zj (X:=X) (pos:=py) hN hiN (.inl hy) (.inr hy) _ s' σ Hf (.ref L) (.ref L) D.nx IX rfl q
 refine thn st fun _ s'' ⟨σ2,H2,I2',q2⟩=>?_
 have p:=I2'.pin (C,oC) (by simp)
 have hm':s''.heap.Ns C m:=by
  obtain ⟨o,es,ep,e1,r⟩:=hm
  have z:=(IX.pin (C,oC) (by simp)).1
  rw [e1] at z; cases z
  exact ⟨_,es,ep,p.1,r⟩
 refine ⟨m,hm',fun h' sb=>⟨σ2,H2,?_,q2⟩⟩
 exact (I2'.unpinned).turned (it:=C) (t':=s''.toks) (h':=h') (fun b o hb e=>sb.extBut b o hb e) p.2.1 fpc.2.1 fpc.2.2.2.1 fpc.2.2.2.2.1 fpc.2.2.2.2.2
end
section
variable {prog:Program} {w:World} {A:Around} {E:VS7} {s:Shared}
def ZX (h:Heap) (a:Addr) (cn:String) (vs:Array Value):Prop:=(cn = "tuple_iterator" /\ h.IsTuple a vs) \/ (cn = "list_iterator" /\ h.IsList a vs)
theorem ZX.iter {a:Addr} {cn:String} {vs:Array Value} {Q:VS7} (h:ZX s.heap a cn vs)
  (q:Q (.ref s.heap.objs.size) { s with heap:=s.heap.push { cls:=.type cn,data:=.fields #[.ref a,.int 0 0] } }):wpAny (model prog w) A (pyIter (.ref a)) Q E s:=by
 rcases h with ⟨rfl,h⟩ | ⟨rfl,h⟩
 ·exact wpAny_pyIter_tuple h q
 ·exact wpAny_pyIter_list h q
def zpO (c:String) (a:Addr):Obj:={ cls:=.type c,data:=.fields #[.ref a,.int 0 0] }
end
def SqC (c:Bool) (K:FG7) (H:Hp) (a:Addr) (xs:List V):Prop:=match c with
 | true=>SqT K H a xs
 | false=>SqL K H a xs
def uy (c:Bool) (h:Heap) (j a:Addr) (i:Nat):Prop:=match c with
 | true=>h.IsTupleIter j a i
 | false=>h.IsListIter j a i
def SeqC (c:Bool) (h:Heap) (a:Addr) (vs:Array Value):Prop:=match c with
 | true=>h.IsTuple a vs
 | false=>h.IsList a vs
def cnC (c:Bool):String:=match c with
 | true=>"tuple_iterator"
 | false=>"list_iterator"
theorem uy.at {c:Bool} {h h':Heap} {j a:Addr} {i:Nat} (x:uy c h j a i) (k:∀ o,h.get? j = some o -> h'.get? j = some o):uy c h' j a i:=by
 cases c
 ·exact Heap.IsListIter.at x k
 ·exact Heap.IsTupleIter.at x k
theorem uy.obj {c:Bool} {h:Heap} {j a:Addr} {i:Nat} (x:uy c h j a i):∃ o,h.get? j = some o /\ ∀ v,o.data ≠ .cell v:=by
 cases c
 ·obtain ⟨o,e,_,d⟩:=x
  exact ⟨o,e,fun v z=>by rw [d] at z; cases z⟩
 ·obtain ⟨o,e,_,d⟩:=x
  exact ⟨o,e,fun v z=>by rw [d] at z; cases z⟩
theorem uy.mk {c:Bool} {h:Heap} {j a:Addr} (e:h.get? j = some (zpO (cnC c) a)):uy c h j a 0:=by
 cases c
 ·exact ⟨_,e,rfl,rfl⟩
 ·exact ⟨_,e,rfl,rfl⟩
theorem SeqC.src {c:Bool} {h:Heap} {a:Addr} {vs:Array Value} (x:SeqC c h a vs):ZX h a (cnC c) vs:=by
 cases c
 ·exact .inr ⟨rfl,x⟩
 ·exact .inl ⟨rfl,x⟩
theorem SeqC.lt {c:Bool} {h:Heap} {a:Addr} {vs:Array Value} (x:SeqC c h a vs):a < h.objs.size:=by
 cases c
 ·obtain ⟨_,e,_⟩:=(show h.IsList a vs from x); exact Heap.lt_size e
 ·obtain ⟨_,e,_⟩:=(show h.IsTuple a vs from x); exact Heap.lt_size e
theorem UZ {prog:Program} {w:World} {A:Around} (hh:A.handled = none) (c:Bool) (j t:Addr) (hne:t ≠ j) (vs:Array Value) :
  Draws prog w A j [j,t] vs.size (fun i v=>vs[i]? = some v) (fun i h=>uy c h j t i /\ SeqC c h t vs):=by
 cases c
 ·exact Draws.list hh j t hne vs
 ·exact Y4 hh j t hne vs
theorem ZY {prog:Program} {w:World} {A:Around} (hh:A.handled = none) (jt t:Addr) (vs:Array Value) {i:Nat} (hv:vs[i]? = none) :
  Draws prog w A jt [jt,t] i (fun _ _=>True) (fun j h=>j = i /\ h.IsListIter jt t i /\ h.IsList t vs) where
 live:=fun _ _ st=>let ⟨o,ho,_⟩:=st.2.1; ⟨o,ho⟩
 frame:=fun _ _ _ st hk=>⟨st.1,st.2.1.at (hk jt (by simp)),st.2.2.at (hk t (by simp))⟩
 item:=fun j s Q E hj st hQ=>absurd st.1 (Nat.ne_of_lt hj)
 done:=fun s Q E st hE=>wpAny_nextOf_list_end hh st.2.1 st.2.2 hv hE
theorem ZZ {prog:Program} {w:World} {A:Around} (hh:A.handled = none) (c:Bool) (j t:Addr) (vs:Array Value) {i:Nat} (hv:vs[i]? = none) :
  Draws prog w A j [j,t] i (fun _ _=>True) (fun k h=>k = i /\ uy c h j t i /\ SeqC c h t vs):=by
 cases c
 ·exact ZY hh j t vs hv
 ·exact Y5 hh j t vs hv
theorem sO {X:Cx} {pins:List (Addr × Obj)} {σ:L2.St} {H:Hp} {s:Shared} {c:Bool} {a:Addr} {xs:List V} (I:Inv X pins σ H s) (h:SqC c X.K H a xs):∃ its:List Value,Vals xs its /\ SeqC c s.heap a its.toArray:=by
 cases c
 ·obtain ⟨its,r,p,_⟩:=I.list h
  exact ⟨its,r,p.isList⟩
 ·obtain ⟨its,r,p,_⟩:=I.tuple h
  exact ⟨its,r,p⟩
theorem ql {X:Cx} {pins:List (Addr × Obj)} {σ:L2.St} {H:Hp} {s:Shared} {c:Bool} {a:Addr} {xs ys:List V} (I:Inv X pins σ H s) (h:SqC c X.K H a xs) (h':SqC c X.K H a ys):xs = ys:=by
 cases c
 ·exact I.list_inj h h'
 ·exact I.tuple_inj h h'
section
variable {prog:Program} {w:World} {A:Around} {E:VS7} {s:Shared}
open PySem.AutoSeq1 (wpAny_loadPart')
theorem Xd (t:Addr) (c:Bool) (vs:Array Value) :
  Meets (Builtin.«enumerate.__new__» ⟨[.type "enumerate",.ref t],[]⟩) (fun _ R s=>SeqC c s.heap t vs ∧
   R (.ok (.ret (.ref (s.heap.push (zpO (cnC c) t)).objs.size)))
    { s with heap:=(s.heap.push (zpO (cnC c) t)).push { cls:=.type "enumerate",data:=.fields #[.none,.bool false,.ref s.heap.objs.size,rawInt 0,.none,.none] } }) :=
 .of_wp fun prog w A R s h=>by
  obtain ⟨hp,g,d,tk,os⟩:=s; obtain ⟨hT,h⟩:=h
  have hT':ZX (Shared.heap ⟨hp,g,d,tk,os⟩) t (cnC c) vs:=hT.src
  obtain ⟨ot,hot⟩:∃ o,hp.get? t = some o:=by
   cases c
   ·obtain ⟨o,e,_⟩:=(show hp.IsList t vs from hT); exact ⟨o,e⟩
   ·obtain ⟨o,e,_⟩:=(show hp.IsTuple t vs from hT); exact ⟨o,e⟩
  have hsub:=sub_enumerate
  wp_walk using wpAny_loadPart' hot
  refine wpAny_stack_any fun st=>wpAny_pure ?_
  split
  ·rename_i c' _ _ _ _ _
   cases (c' == Value.type "enumerate") <;> (wp_walk using wpAny_loadPart' hot,ZX.iter hT') <;> exact ⟨_,rfl,h⟩
  ·wp_walk using wpAny_loadPart' hot,ZX.iter hT'
   exact ⟨_,rfl,h⟩
theorem Z0 {t:Addr} {c:Bool} {vs:Array Value} {Q:VS7} (ht:SeqC c s.heap t vs)
  (h:∀ h',IsEnum h' (s.heap.objs.size + 1) s.heap.objs.size 0 .none -> uy c h' s.heap.objs.size t 0 -> h'.objs.size = s.heap.objs.size + 2 -> (∀ b o,s.heap.get? b = some o -> h'.get? b = some o) -> Q (.ref (s.heap.objs.size + 1)) { s with heap:=h' }) :
  wpAny (model prog w) A (call (.type "enumerate") [.ref t]) Q E s:=by
 refine callType_new F.called_enumerate (by decide) (F.typeCall_enumerate_1 _) (F.newCall_enumerate_1 _) (fun obj=>F.args_object_init_2 obj _) F.entry_enumerate_new (Xd t c vs) ⟨ht,?_⟩
 have hz:(s.heap.push (zpO (cnC c) t)).objs.size = s.heap.objs.size + 1:=Heap.size_push ..
 show _ /\ _
 rw [hz]
 have he:IsEnum ((s.heap.push (zpO (cnC c) t)).push { cls:=.type "enumerate",data:=.fields #[.none,.bool false,.ref s.heap.objs.size,rawInt 0,.none,.none] }) (s.heap.objs.size + 1) s.heap.objs.size 0 .none:=by
  have:=Heap.get?_push_size (s.heap.push (zpO (cnC c) t)) (o:={ cls:=.type "enumerate",data:=.fields #[.none,.bool false,.ref s.heap.objs.size,rawInt 0,.none,.none] }) rfl
  rw [hz] at this; exact this
 exact ⟨⟨_,he,rfl⟩,h _ he (.mk (Heap.get?_push_of_some _ (Heap.get?_push_size _ rfl))) (by rw [Heap.size_push,Heap.size_push]) fun b o x=>Heap.get?_push_of_some _ (Heap.get?_push_of_some _ x)⟩
end
def IteC (c:Bool) (K:FG7) (a:Addr):It :=
 ⟨fun i H=>∃ xs x,SqC c K H a xs /\ xs[i]? = some x,fun i H x H'=>∃ T v,H T = none /\ x = .ref T /\ H' = upd H T (.tup [.int i,v]) /\ ∀ xs,SqC c K H a xs -> xs[i]? = some v,fun i H=>∃ xs,SqC c K H a xs /\ xs.length <= i⟩
theorem Z1 {P:Program} {w:World} {K:FG7} {elts:List Expr} {kt:Nat} {pt:Pos} (c:Bool) (a e jt:Addr) (hej:e ≠ jt) (hae:a ≠ e) (haj:a ≠ jt) :
  Turn P w K (.Tuple elts kt pt) (IteC c K a) [e,jt] e (fun i h=>(∃ old,IsEnum h e jt i old) /\ uy c h jt a i) where
 mem:=by simp
 obj:=fun i h st b hb=>by
  obtain ⟨⟨old,he⟩,st⟩:=st
  simp only [List.mem_cons,List.mem_nil_iff,or_false] at hb
  rcases hb with rfl | rfl
  ·exact ⟨_,he,fun v z=>by cases z⟩
  ·exact st.obj
 keep:=fun i h h' st k=>by
  obtain ⟨⟨old,he⟩,st⟩:=st
  exact ⟨⟨old,k e (by simp) _ he⟩,st.at fun o q=>k jt (by simp) o q⟩
 item:=by
  intro X hP hw hK hc i pins s σ H E I hf st hg
  subst hP hw hK
  obtain ⟨⟨old,he⟩,hit⟩:=st
  obtain ⟨xs,x,hq,hx⟩:=hg
  obtain ⟨its,rv,p⟩:=sO I hq
  obtain ⟨u,hu,ru⟩:=rv.get hx
  have hlt:i < its.toArray.size:=by have:=(List.getElem?_eq_some_iff.mp hu).1; simpa using this
  refine wpAny_pyNext_enum_itemD (UZ (A:=X.A.in1) (I.ok.hd hc) c jt a haj its.toArray) he ⟨hit,p⟩ hlt hej (by simp [hej,Ne.symm hae]) fun v h1 tk hv hout hst1 hT hsz hk=>?_
  have hvu:v = u:=by
   have e1:its.toArray[i]? = some v:=hv
   have e2:its.toArray[i]? = some u:=by simpa using hu
   rw [e1] at e2; exact Option.some.inj e2
  subst hvu
  refine ⟨_,rfl,wpAny_letOwnedTupleGo_enum (s:={ s with heap:=h1,toks:=tk + 1 }) hout fun h2 he2 hs2=>?_⟩
  have hk2:∀ b o,b ∉ [e,jt] -> s.heap.get? b = some o -> h2.get? b = some o:=fun b o hb q=>by
   have n1:b ≠ e:=fun z=>hb (by simp [z])
   have n2:b ≠ jt:=fun z=>hb (by simp [z])
   exact (hs2.2 b n1).trans (hk b o n1 n2 q)
  have eT:s.heap.objs.size ≠ e:=Nat.ne_of_gt (Heap.lt_size he)
  have hT2:h2.get? s.heap.objs.size = some { cls:=.type "tuple",data:=.seq #[.int i tk,v] }:=(hs2.2 _ eT).trans hT
  have hn:H s.heap.objs.size = none:=I.hok.fresh (Nat.le_refl _)
  have I2:Inv X pins σ (upd H s.heap.objs.size (.tup [.int i,x])) { s with heap:=h2,toks:=tk + 1 }:=WD (s:=s) I hk2 hf (Nat.le_refl _) ⟨by show 2 <= sizeLine; decide,[.int i tk,v],.cons ⟨_,rfl⟩ (.cons ru .nil),_,hT2,rfl,0,rfl⟩
  refine ⟨.ref s.heap.objs.size,upd H s.heap.objs.size (.tup [.int i,x]),I2,rfl,⟨_,x,hn,rfl,rfl,fun ys hy=>by rw [ql I hy hq]; exact hx⟩,⟨⟨v,by simpa using he2⟩,?_⟩,fun b hb=>?_⟩
  ·exact hst1.1.at fun o q=>(hs2.2 jt (Ne.symm hej)).trans q
  ·have nb:b ≠ s.heap.objs.size:=by
    obtain ⟨oj,hoj,_⟩:=hit.obj
    simp only [List.mem_cons,List.mem_nil_iff,or_false] at hb
    rcases hb with rfl | rfl
    ·exact Ne.symm eT
    ·exact Nat.ne_of_lt (Heap.lt_size hoj)
   rw [zu nb]; exact (hf b hb).1
 done:=by
  intro X hP hw hK hc i pins s σ H E I hf st hg
  subst hP hw hK
  obtain ⟨⟨old,he⟩,hit⟩:=st
  obtain ⟨xs,hq,hx⟩:=hg
  obtain ⟨its,rv,p⟩:=sO I hq
  have hl:=rv.length
  refine wpAny_pyNext_enum_endD (ZZ (A:=X.A.in1) (I.ok.hd hc) c jt a its.toArray (i:=i) (by simp; omega)) he ⟨rfl,hit,p⟩ fun h' eb=>⟨rfl,?_⟩
  exact Y6 (fp:=[e,jt]) (t':=s.toks) I (fun b o hb q=>eb b o (fun z=>hb (by simp [z])) q) hf
 self:=fun _ _ _ _ _ st h=>by
  obtain ⟨⟨old,he⟩,_⟩:=st
  exact wpAny_pyIter_enum he h
section
variable {X:Cx} {elts:List Expr} {kt:Nat} {pt:Pos} {K:FG7}
def U0 (c:Bool) (K:FG7) (ta:TA):TI:=fun σ H R=>ta σ H fun vs H1=>∃ a xs,vs = [.ref a] /\ SqC c K H1 a xs /\ R (IteC c K a) H1
theorem WE {a:Expr} {ta:TA} {p pos:Pos} (c:Bool) (hK:X.K = K) (hg:Gl X "enumerate") (hm:X.mg "enumerate" = none) (ha:PA X [a] ta) (hs:starEach [a] X.env = [(false,eval a X.env)]:=by rfl) :
  PI X (.Tuple elts kt pt) (.Call (.Name "enumerate" p) [a] [] pos) (U0 c K ta):=by
 subst hK
 intro pins s σ H R I h
 refine Call_ (wN I hg hm UX (PyProof.Rows.callWith_type1 (thn (ha pos pins s σ H _ I h) fun us s1 ⟨vs,H1,I1,r1,q1⟩=>?_) hs rfl))
 obtain ⟨t,xs,e,hq,q⟩:=q1
 subst e
 obtain ⟨u,rfl,e1⟩:=wG r1
 cases (show u = Value.ref t from e1)
 obtain ⟨its,rv,p⟩:=sO I1 hq
 refine Z0 p fun h' he hit _ hk=>?_
 refine wpAny_pyIter_enum he ?_
 have lt:t < s1.heap.objs.size:=p.lt
 have I2:Inv X pins σ H1 { s1 with heap:=h' }:=I1.kept (t':=s1.toks) hk
 refine ⟨s1.heap.objs.size + 1,[s1.heap.objs.size + 1,s1.heap.objs.size],_,_,H1,rfl,I2,Z1 c t (s1.heap.objs.size + 1) s1.heap.objs.size (Nat.succ_ne_self _) (Nat.ne_of_lt (Nat.lt_succ_of_lt lt)) (Nat.ne_of_lt lt),⟨⟨_,he⟩,hit⟩,fun b hb=>?_,q⟩
 simp only [List.mem_cons,List.mem_nil_iff,or_false] at hb
 rcases hb with rfl | rfl
 ·exact I1.fpOk (Nat.le_succ _) (I1.hok.fresh (Nat.le_succ _))
 ·exact I1.fpOk (Nat.le_refl _) (I1.hok.fresh (Nat.le_refl _))
end
section
variable {K:FG7} {a:Addr} {c:Bool} {xs:List V} {g:TG} {tt:TT} {te:TE} {tb:TS} {D:Ends} {Q:VK} {σ:L2.St} {H:Hp}
theorem Z2 (Pv:Nat -> List V -> L2.St -> Hp -> Prop) (h0:Pv 0 [] σ H) (hl:∀ i zs σ H,Pv i zs σ H -> SqC c K H a xs)
  (hs:∀ i x zs σ H T,xs[i]? = some x -> Pv i zs σ H -> H T = none -> g (.ref T) σ (upd H T (.tup [.int i,x])) fun σ2 H3=>tt σ2 H3 fun b H4=>if b = true then te σ2 H4 fun y H5=>zs.length < sizeLine /\ Pv (i + 1) (zs ++ [y]) σ2 H5 else Pv (i + 1) zs σ2 H4)
  (hd:∀ zs σ H,Pv xs.length zs σ H -> ∀ l,H l = none -> Q (.ref l) (upd H l (.lst zs))) :
  uY (IteC c K a) σ H g tt te Q:=by
 refine ⟨fun i m zs σ H=>m = xs.length - i /\ i <= xs.length /\ Pv i zs σ H,⟨xs.length,by simp,Nat.zero_le _,h0⟩,?_⟩
 rintro i m zs σ H ⟨rfl,hi,p⟩
 have q:=hl i zs σ H p
 by_cases hlt:i < xs.length
 ·refine .inr ⟨⟨xs,xs[i],q,by simp [hlt]⟩,Pv (i + 1),fun ws σ' H' p'=>⟨xs.length - (i + 1),by omega,rfl,hlt,p'⟩,fun x H' y=>?_⟩
  obtain ⟨T,v,hT,rfl,rfl,y1⟩:=y
  exact hs i v zs σ H T (y1 xs q) p hT
 ·have e:i = xs.length:=by omega
  subst e
  exact .inl ⟨⟨xs,q,Nat.le_refl _⟩,hd zs σ H p⟩
end
section
variable {X:Cx}
variable {K:FG7}
theorem jq {es:List Expr} {k:Nat} {pos:Pos} {t:TGs} (n:Nat) (h0:X.K = K) (hc:X.calm = true) (h:PGs X es t)
  (hn:(assignEach es X.env).length = n) (hst:(assignEach es X.env).findIdx? (·.1) = none):PG X (.Tuple es k pos) (gTup K n t):=by subst h0; exact yT hc h hn hst
end
theorem xz:∀ {ns:List Int} {us:List Value},IntsAre us ns -> Vals (ns.map V.int) us:=by
 intro ns us h
 induction h with
 | nil=>exact .nil
 | cons n t _ ih=>exact .cons ⟨t,rfl⟩ ih
section
variable {X:Cx} {K:FG7}
theorem vJ (hK:X.K = K):xV X (.builtin "sorted") (fun xs H Q=>∃ (l:Addr) (ns:List Int),xs = [.ref l] /\ SqL K H l (ns.map V.int) /\ ns.length < 64 /\ ∀ (p:Addr) (ms:List Int),H p = none -> ms.Perm ns -> ms.Pairwise (· <= ·) -> Q (.ref p) (upd H p (.lst (ms.map V.int)))):=by
 subst hK
 intro pins s σ H xs us Q I r h
 obtain ⟨l,ns,rfl,hl,h64,q⟩:=h
 obtain ⟨u,rfl,rx⟩:=wG r
 cases (show u = Value.ref l from rx)
 obtain ⟨vs,rv,pl,hz⟩:=I.list hl
 have hlen:=rv.length
 rw [List.length_map] at hlen hz
 refine sorted_ints pl.isList (tP rv) (by omega) fun out ms i1 i2 i3=>?_
 obtain ⟨e,he⟩:=sortedAll_at s.heap vs out
 have hn:H (s.heap.objs.size + 1) = none:=I.hok.fresh (Nat.le_succ _)
 have rl:=xz i1
 refine ⟨.ref (s.heap.objs.size + 1),_,?_,rfl,q _ ms hn i2 i3⟩
 refine I.laid (t':=s.toks) (fun b o q=>sortedAll_old q) (Nat.le_succ _) (show yj X.prog X.w _ _ _ (.lst (ms.map V.int)) from ⟨by rw [List.length_map,i2.length_eq]; exact hz,out.toList,e,rl,he⟩)
end
mutual
inductive Dq (K:FG7) (H:Hp):V -> PyData -> Prop
 | non:Dq K H .non .none
 | bl (b:Bool):Dq K H (.bl b) (.bool b)
 | int (i:Int):Dq K H (.int i) (.int i)
 | str (x:Str):Dq K H (.str x) (.str x)
 | tup {a:Addr} {xs:List V} {ds:List PyData}:SqT K H a xs -> DqAll K H xs ds -> Dq K H (.ref a) (.tuple ds)
 | lst {a:Addr} {xs:List V} {ds:List PyData}:SqL K H a xs -> DqAll K H xs ds -> Dq K H (.ref a) (.list ds)
inductive DqAll (K:FG7) (H:Hp):List V -> List PyData -> Prop
 | nil:DqAll K H [] []
 | cons {x:V} {xs:List V} {d:PyData} {ds:List PyData}:Dq K H x d -> DqAll K H xs ds -> DqAll K H (x :: xs) (d :: ds)
end
theorem DqAll.len {K:FG7} {H:Hp}:∀ {xs:List V} {ds:List PyData},DqAll K H xs ds -> xs.length = ds.length
 | _,_,.nil=>rfl
 | _,_,.cons _ t=>congrArg (· + 1) (DqAll.len t)
theorem vS (n:Nat):(List.range n).all (fun _=>true) = true:=List.all_eq_true.mpr fun _ _=>rfl
section
variable {X:Cx} {pins:List (Addr × Obj)} {σ:L2.St} {H:Hp} {s:Shared}
mutual
theorem dq_eq (I:Inv X pins σ H s):∀ {d:PyData} {x y:V} {u v:Value} {A:Around},Dq X.K H x d -> Dq X.K H y d -> RelV x u -> RelV y v -> A.units + d.depth < cLine -> SeqAt.EqAt A s u v true
 | _,_,y,u,v,A,.non,hy,ru,rv,_=>by
  cases hy
  cases (show u = Value.none from ru)
  cases (show v = Value.none from rv)
  exact SeqAt.EqAt.same _
 | _,_,y,u,v,A,.bl b,hy,ru,rv,_=>by
  cases hy
  cases (show u = Value.bool b from ru)
  cases (show v = Value.bool b from rv)
  exact SeqAt.EqAt.same _
 | _,_,y,u,v,A,.int i,hy,ru,rv,_=>by
  cases hy
  obtain ⟨t,rfl⟩:=ru
  obtain ⟨t',rfl⟩:=rv
  have z:=SeqAt.EqAt.int_int (A:=A) (s:=s) i t i t'
  rw [beq_self_eq_true] at z
  exact z
 | _,_,y,u,v,A,.str x,hy,ru,rv,_=>by
  cases hy
  obtain ⟨t,rfl⟩:=ru
  obtain ⟨t',rfl⟩:=rv
  have z:=SeqAt.EqAt.str_str (A:=A) (s:=s) x t x t'
  rw [beq_self_eq_true] at z
  exact z
 | _,_,y,u,v,A,.tup (a:=a) (xs:=xs) (ds:=ds) hs ha,hy,ru,rv,hu=>by
  cases hy with
  | tup hs' ha' =>
   rename_i a' xs'
   cases (show u = Value.ref a from ru)
   cases (show v = Value.ref a' from rv)
   obtain ⟨us,r1,t1,_⟩:=I.tuple hs
   obtain ⟨ws,r2,t2,_⟩:=I.tuple hs'
   have hd:A.units + (PyData.depthAll ds + 1) < cLine:=hu
   by_cases e:a = a'
   ·subst e; exact SeqAt.EqAt.same _
   ·have l1:=ha.len
    have l2:=ha'.len
    have q:=SeqAt.RcAt.tuples (e:=fun _=>true) (yG t1) (yG t2) (by omega) (dqs_eq I ha ha' r1 r2 (A:=A.in1) (by show A.units + 1 + PyData.depthAll ds < cLine; omega))
    rw [vS,Bool.true_and,List.size_toArray,List.size_toArray,← r1.length,← r2.length,l1,l2,beq_self_eq_true] at q
    exact SeqAt.EqAt.of_refs e q
 | _,_,y,u,v,A,.lst (a:=a) (xs:=xs) (ds:=ds) hs ha,hy,ru,rv,hu=>by
  cases hy with
  | lst hs' ha' =>
   rename_i a' xs'
   cases (show u = Value.ref a from ru)
   cases (show v = Value.ref a' from rv)
   obtain ⟨us,r1,t1,_⟩:=I.list hs
   obtain ⟨ws,r2,t2,_⟩:=I.list hs'
   have hd:A.units + (PyData.depthAll ds + 1) < cLine:=hu
   by_cases e:a = a'
   ·subst e; exact SeqAt.EqAt.same _
   ·have l1:=ha.len
    have l2:=ha'.len
    have q:=SeqAt.RcAt.lists (e:=fun _=>true) t1.isList t2.isList (by rw [List.size_toArray,List.size_toArray,← r1.length,← r2.length,l1,l2]) (by omega) (dqs_eq I ha ha' r1 r2 (A:=A.in1) (by show A.units + 1 + PyData.depthAll ds < cLine; omega))
    rw [vS] at q
    exact SeqAt.EqAt.of_refs e q
theorem dqs_eq (I:Inv X pins σ H s):∀ {ds:List PyData} {xs ys:List V} {us vs:List Value} {A:Around},DqAll X.K H xs ds -> DqAll X.K H ys ds -> Vals xs us -> Vals ys vs -> A.units + PyData.depthAll ds < cLine →
  ∀ j (h1:j < us.toArray.size) (h2:j < vs.toArray.size),SeqAt.EqAt A s us.toArray[j] vs.toArray[j] true
 | _,_,_,_,_,A,.nil,hy,ru,rv,_=>fun j h1 _=>by
  cases ru
  exact absurd h1 (Nat.not_lt_zero j)
 | _,_,_,_,_,A,.cons (d:=d) (ds:=ds) hx tx,hy,ru,rv,hd=>fun j h1 h2=>by
  cases hy with
  | cons hy ty =>
   cases ru with
   | cons r1 rr1 =>
    cases rv with
    | cons r2 rr2 =>
     have hd':A.units + max d.depth (PyData.depthAll ds) < cLine:=hd
     cases j with
     | zero=>simpa using dq_eq I hx hy r1 r2 (A:=A) (by omega)
     | succ j =>
      have z:=dqs_eq I tx ty rr1 rr2 (A:=A) (by omega) j (by simpa using h1) (by simpa using h2)
      simpa using z
end
variable {K:FG7}
def TV (K:FG7) (neg:Bool):R2:=fun x y H Q=>∃ d,Dq K H x d /\ Dq K H y d /\ (∃ a,x = .ref a) /\ d.depth <= 100 /\ Q (.bl neg) H
theorem U1 {k:Nat} (hK:X.K = K) (hr:Room k X.A):OpR X (compareOp .Eq) (TV K true):=by
 subst hK
 intro pins s σ H x y u v Q I rx ry h
 obtain ⟨d,hx,hy,⟨a0,e0⟩,hd,q⟩:=h
 have hu:=hr.un
 cases hx with
 | non=>cases e0
 | bl b=>cases e0
 | int i=>cases e0
 | str x=>cases e0
 | tup hs ha =>
  cases hy with
  | tup hs' ha' =>
   rename_i a xs ds a' xs'
   cases (show u = Value.ref a from rx)
   cases (show v = Value.ref a' from ry)
   obtain ⟨us,r1,t1,_⟩:=I.tuple hs
   obtain ⟨ws,r2,t2,_⟩:=I.tuple hs'
   have hd':PyData.depthAll ds + 1 <= 100:=hd
   refine SeqAt.eq_tupleAt (e:=fun _=>true) (yG t1) (yG t2) hr.units0 (dqs_eq I ha ha' r1 r2 (A:=X.A.in1) (by show X.A.units + 1 + PyData.depthAll ds < cLine; omega)) ?_
   rw [vS,Bool.true_and,List.size_toArray,List.size_toArray,← r1.length,← r2.length,ha.len,ha'.len,beq_self_eq_true]
   exact ⟨.bl true,H,I,rfl,q⟩
 | lst hs ha =>
  cases hy with
  | lst hs' ha' =>
   rename_i a xs ds a' xs'
   cases (show u = Value.ref a from rx)
   cases (show v = Value.ref a' from ry)
   obtain ⟨us,r1,t1,_⟩:=I.list hs
   obtain ⟨ws,r2,t2,_⟩:=I.list hs'
   have hd':PyData.depthAll ds + 1 <= 100:=hd
   refine SeqAt.eq_listAt (e:=fun _=>true) t1.isList t2.isList (by rw [List.size_toArray,List.size_toArray,← r1.length,← r2.length,ha.len,ha'.len]) hr.units0 (dqs_eq I ha ha' r1 r2 (A:=X.A.in1) (by show X.A.units + 1 + PyData.depthAll ds < cLine; omega)) ?_
   rw [vS]
   exact ⟨.bl true,H,I,rfl,q⟩
end
def xN (k st a:Nat):Nat:=a ^^^ 2 ^ (k - st)
def nN (k st a:Nat):Nat:=(Y7 k a st).toNat
theorem Xe:∀ k:Fin 5,∀ st:Fin 5,1 <= st.val -> st.val <= k.val -> ∀ a:Fin 16,a.val < 2 ^ k.val →
  (swI k.val st.val a.val = Y7 k.val a.val st.val /\ Y7 k.val a.val st.val = (nN k.val st.val a.val:Int) /\ nN k.val st.val a.val < 2 ^ (k.val - 1) /\ nN k.val st.val (xN k.val st.val a.val) = nN k.val st.val a.val) ∧
  (xN k.val st.val (xN k.val st.val a.val) = a.val /\ xN k.val st.val a.val ≠ a.val /\ xN k.val st.val a.val < 2 ^ k.val) ∧
  (wfI k.val st.val a.val (Builtin.bitXor (figI k.val st.val a.val) 0) = (a.val:Int) /\ wfI k.val st.val a.val (Builtin.bitXor (figI k.val st.val a.val) 1) = (xN k.val st.val a.val:Int)) ∧
  (Builtin.bitXor (figI k.val st.val a.val) (figI k.val st.val (xN k.val st.val a.val)) = 1 /\ Builtin.bitXor (figI k.val st.val a.val) (figI k.val st.val a.val) = 0) ∧
  ((Builtin.bitXor (figI k.val st.val a.val) 0 = 0 \/ Builtin.bitXor (figI k.val st.val a.val) 0 = 1) /\ (Builtin.bitXor (figI k.val st.val a.val) 1 = 0 \/ Builtin.bitXor (figI k.val st.val a.val) 1 = 1)):=by
 decide +kernel
structure OneF (k st a:Nat):Prop where
 sw:swI k st a = Y7 k a st
 num:Y7 k a st = (nN k st a:Int)
 lt:nN k st a < 2 ^ (k - 1)
 nx:nN k st (xN k st a) = nN k st a
 xx:xN k st (xN k st a) = a
 xne:xN k st a ≠ a
 xlt:xN k st a < 2 ^ k
 w0:wfI k st a (Builtin.bitXor (figI k st a) 0) = (a:Int)
 w1:wfI k st a (Builtin.bitXor (figI k st a) 1) = (xN k st a:Int)
 c1:Builtin.bitXor (figI k st a) (figI k st (xN k st a)) = 1
 c0:Builtin.bitXor (figI k st a) (figI k st a) = 0
 b0:Builtin.bitXor (figI k st a) 0 = 0 \/ Builtin.bitXor (figI k st a) 0 = 1
 b1:Builtin.bitXor (figI k st a) 1 = 0 \/ Builtin.bitXor (figI k st a) 1 = 1
theorem oneF {k st a:Nat} (k4:k <= 4) (s1:1 <= st) (s2:st <= k) (ha:a < 2 ^ k):OneF k st a:=by
 have p:=vo k4
 obtain ⟨⟨a1,a2,a3,a4⟩,⟨b1,b2,b3⟩,⟨c1,c2⟩,⟨d1,d2⟩,e1,e2⟩:=Xe ⟨k,by omega⟩ ⟨st,by omega⟩ s1 s2 ⟨a,by omega⟩ ha
 exact ⟨a1,a2,a3,a4,b1,b2,b3,c1,c2,d1,d2,e1,e2⟩
section
variable {X:Cx} {a:Expr} {ta:TA} {p p2 pos pos2:Pos}
def TW (ta:TA):TE:=fun σ H Q=>ta σ H fun vs H1=>∃ n:Nat,vs = [.int n] /\ n <= 1000 /\ ∀ l,H1 l = none -> Q (.ref l) (upd H1 l (.lst ((List.range n).map fun i:Nat=>V.int i)))
theorem qm (hc:X.calm = true) (hgl:Gl X "list") (hml:X.mg "list" = none) (hgr:Gl X "range") (hmr:X.mg "range" = none) (ha:PA X [a] ta)
  (hs:starEach [a] X.env = [(false,eval a X.env)]:=by rfl) (hs2:starEach [(.Call (.Name "range" p2) [a] [] pos2:Expr)] X.env = [(false,eval (.Call (.Name "range" p2) [a] [] pos2) X.env)]:=by rfl) :
  PE X (.Call (.Name "list" p) [.Call (.Name "range" p2) [a] [] pos2] [] pos) (TW ta):=by
 intro pins s σ H Q I h
 refine wpAny_Call_Name_kw (wN I hgl hml YV (PyProof.Rows.callWith_type1 ?_ hs2 rfl))
 rw [hs2]
 show wpAny _ _ (spliced [(false,eval (.Call (.Name "range" p2) [a] [] pos2) X.env)]) _ _ s
 refine Calls.spliced_cons ?_
 refine Call_ (wN I hgr hmr boot_range (PyProof.Rows.callWith_type1 (thn (ha pos2 pins s σ H _ I h) fun us s1 ⟨vs,H1,I1,r1,q1⟩=>?_) hs rfl))
 obtain ⟨n,e,hn,q⟩:=q1
 subst e
 obtain ⟨u,rfl,e1⟩:=wG r1
 obtain ⟨t,rfl⟩:=e1
 refine call_range_1 (Calls.spliced_nil ?_)
 have I2:Inv X pins σ H1 { s1 with heap:=s1.heap.push { cls:=.type "range",data:=.fields #[.int 0 s1.toks,.int n t,.int 1 (s1.toks + 1)] },toks:=s1.toks + 1 + 1 }:=I1.kept fun b o e=>Heap.get?_push_of_some _ e
 refine call_list_range (n:=n) (I.ok.hd hc) (IsRange.new ..) (small_one (by omega) (by omega) (by omega) (by omega)) (by rw [rangeSize_one]; split <;> omega) (by omega) fun h' tk acc c' hk hS hacc=>?_
 have hvr:Vals ((List.range n).map fun i:Nat=>V.int i) acc.toList:=by
  have hlen:acc.toList.length = n:=by rw [Array.length_toList]; exact hacc.1
  have key:∀ (m:Nat) (l:List Value) (j:Nat),l.length = m -> (∀ i v,l[i]? = some v -> ∃ t,v = Value.int ((j + i:Nat):Int) t) -> Vals ((List.range' j m).map fun i:Nat=>V.int i) l:=by
   intro m
   induction m with
   | zero =>
    intro l j hl _
    rw [List.length_eq_zero_iff.mp hl]
    exact .nil
   | succ m ih =>
    intro l j hl hv
    match l,hl,hv with
    | x :: l,hl,hv =>
     refine .cons ?_ (ih l (j + 1) (by simpa using hl) fun i v h=>?_)
     ·obtain ⟨t,e⟩:=hv 0 x rfl
      exact ⟨t,e⟩
     ·obtain ⟨t,e⟩:=hv (i + 1) v (by simpa using h)
      exact ⟨t,by rw [e,show j + (i + 1) = j + 1 + i by omega]⟩
  rw [List.range_eq_range']
  refine key n acc.toList 0 hlen fun i v h=>?_
  obtain ⟨t,e⟩:=hacc.2 i v (by rw [← h]; exact (Array.getElem?_toList).symm)
  exact ⟨t,by rw [e]; congr 1; omega⟩
 refine ⟨.ref (s1.heap.push { cls:=.type "range",data:=.fields #[.int 0 s1.toks,.int n t,.int 1 (s1.toks + 1)] }).objs.size,_,I2.laid (t':=tk) hk (Nat.le_refl _) (show yj X.prog X.w _ h' _ (.lst ((List.range n).map fun i:Nat=>V.int i)) from ⟨by rw [List.length_map,List.length_range]; exact Nat.le_of_lt (zp hn),acc.toList,c',hvr,by simpa using hS⟩),rfl,q _ (I2.hok.fresh (Nat.le_refl _))⟩
end
def zT (gs:List Nat):List V:=gs.map fun g:Nat=>V.int g
theorem Xf {K:FG7} {H:Hp}:∀ (ns:List Int),DqAll K H (ns.map V.int) (ns.map PyData.int)
 | []=>.nil
 | n :: ns=>.cons (.int n) (Xf ns)
def rowD (r:List Int):PyData:=.tuple (r.map PyData.int)
theorem Zh:∀ ns:List Int,PyData.depthAll (ns.map PyData.int) = 0
 | []=>rfl
 | n :: ns=>by
  show max (PyData.depth (.int n)) (PyData.depthAll (ns.map PyData.int)) = 0
  rw [Zh ns]; rfl
theorem Zi:∀ rows:List (List Int),PyData.depthAll (rows.map rowD) <= 1
 | []=>Nat.zero_le _
 | r :: rows=>by
  show max (PyData.depthAll (r.map PyData.int) + 1) (PyData.depthAll (rows.map rowD)) <= 1
  have:=Zi rows
  rw [Zh]; omega
theorem U2 {K:FG7} {H:Hp} {x:V} {r:List Int} (h:yz K H x r):Dq K H x (rowD r):=by
 obtain ⟨a,rfl,h⟩:=h
 exact .tup h (Xf r)
theorem sP {K:FG7} {H:Hp}:∀ {xs:List V} {rows:List (List Int)},AllR (yz K H) xs rows -> DqAll K H xs (rows.map rowD)
 | [],[],_=>.nil
 | _ :: _,_ :: _,⟨h,t⟩=>.cons (U2 h) (sP t)
 | [],_ :: _,h=>h.elim
 | _ :: _,[],h=>h.elim
section
variable {X:Cx} {K:FG7}
def ItrD (lo:Int) (n:Nat):It:=⟨fun i _=>i < n,fun i H x H'=>H' = H /\ x = .int (lo - i),fun i _=>n <= i⟩
theorem jr {P:Program} {w:World} {K:FG7} {tg:Expr} (it:Addr) (lo:Int) (n:Nat):Turn P w K tg (ItrD lo n) [it] it (fun i h=>IsRangeIter h it (lo + (i:Nat) * (-1)) ((n:Int) - (i:Nat)) (-1)) where
 mem:=by simp
 obj:=fun i h st b hb=>by
  obtain rfl:b = it:=by simpa using hb
  refine ⟨_,st,fun v z=>?_⟩
  have z':Data.fields _ = Data.cell v:=z
  cases z'
 keep:=fun i h h' st k=>k it (by simp) _ st
 item:=by
  intro X hP hw hK hc i pins s σ H E I hf st hg
  subst hP hw hK
  obtain ⟨f0,f1,f2,f3,f4,f5⟩:=hf it (by simp)
  have W:=Walks.range (prog:=X.prog) (w:=X.w) (I.ok.hd hc) it lo (-1) n
  refine W.item i s _ _ hg st fun v h' tk hv st' kk=>?_
  obtain ⟨t,rfl⟩:=hv
  have J:Inv X pins σ H { s with heap:=h',toks:=tk }:=I.turned (fun b o hb e=>kk b o (by simpa using hb) e) f0 f1 f3 f4 f5
  refine ⟨_,rfl,Wc (s:={ s with heap:=h',toks:=tk }) (n:="range_iterator") st' rfl rfl (by decide) ⟨.int (lo - i),H,J,⟨t,?_⟩,⟨rfl,rfl⟩,st',fun b hb=>(hf b hb).1⟩⟩
  rw [show lo + (i:Int) * (-1) = lo - i by omega]
 done:=by
  intro X hP hw hK hc i pins s σ H E I hf st hg
  subst hP hw hK
  obtain ⟨f0,f1,f2,f3,f4,f5⟩:=hf it (by simp)
  exact wpAny_pyNext_range_end (I.ok.hd hc) st (by have:n <= i:=hg; omega) fun h' eb=>⟨rfl,I.turned (t':=s.toks) (fun b o hb e=>eb b o hb e) f0 f1 f3 f4 f5⟩
 self:=fun _ _ _ _ _ st h=>wpAny_pyIter_rangeiter st h
theorem U3 (a b:Int):Builtin.Range.rangeSize a b (-1) = ((a - b).toNat:Int):=by
 unfold Builtin.Range.rangeSize
 simp only [show ¬ ((-1:Int) > 0) by decide,if_false,show (- -1:Int) = 1 from rfl,Int.ediv_one]
 split <;> omega
theorem U4 {a b:Int} (h1:-1000 <= a) (h2:a <= 1000) (h3:-1000 <= b) (h4:b <= 1000):Builtin.Range.small a b (-1) = true:=by
 unfold Builtin.Range.small
 rw [U3]
 simp only [Builtin.Range.rangeFitsLong,Bool.and_eq_true,Bool.or_eq_true,decide_eq_true_eq,beq_iff_eq,show ¬ ((-1:Int) > 0) by decide,if_false]
 omega
def TX (ta:TA):TI:=fun σ H R=>ta σ H fun vs H1=>∃ i j:Int,vs = [.int i,.int j,.int (-1)] /\ -1000 <= i /\ i <= 1000 /\ -1000 <= j /\ j <= 1000 /\ R (ItrD i (i - j).toNat) H1
theorem Xg {tg a b c:Expr} {ta:TA} {p pos:Pos} (hg:Gl X "range") (hm:X.mg "range" = none) (ha:PA X [a,b,c] ta)
  (hs:starEach [a,b,c] X.env = [(false,eval a X.env),(false,eval b X.env),(false,eval c X.env)]:=by rfl) (hs2:starEach [b,c] X.env = [(false,eval b X.env),(false,eval c X.env)]:=by rfl) :
  PI X tg (.Call (.Name "range" p) [a,b,c] [] pos) (TX ta):=by
 intro pins s σ H R I h
 refine Call_ (wN I hg hm boot_range (PyProof.Rows.callWith_type1 (thn (ha pos pins s σ H _ I h) fun us s1 ⟨vs,H1,I1,r1,q1⟩=>?_) (by rw [hs,hs2]) (by rw [hs2]; rfl)))
 obtain ⟨i,j,e,b1,b2,b3,b4,q⟩:=q1
 subst e
 cases r1 with
 | cons r rr =>
  cases rr with
  | cons r' rr =>
   cases rr with
   | cons r'' rr =>
    cases rr
    obtain ⟨t,rfl⟩:=r
    obtain ⟨t',rfl⟩:=r'
    obtain ⟨t'',rfl⟩:=r''
    refine call_range_3 (by decide) ?_ (Or.inl (PyProof.noPylong_small (by omega)))
    refine wpAny_pyIter_range (IsRange.new ..) (U4 b1 b2 b3 b4) ?_
    have I2:Inv X pins σ H1 { s1 with heap:=s1.heap.push { cls:=.type "range",data:=.fields #[.int i t,.int j t',.int (-1) t''] },toks:=s1.toks }:=I1.kept fun b o e=>Heap.get?_push_of_some _ e
    refine ⟨(s1.heap.push { cls:=.type "range",data:=.fields #[.int i t,.int j t',.int (-1) t''] }).objs.size,[(s1.heap.push { cls:=.type "range",data:=.fields #[.int i t,.int j t',.int (-1) t''] }).objs.size],_,_,H1,rfl,
     I2.kept (t':=s1.toks) fun b o e=>Heap.get?_push_of_some _ e,jr _ i (i - j).toNat,?_,fun b hb=>?_,q⟩
    ·show IsRangeIter _ _ (i + ((0:Nat):Int) * (-1)) ((((i - j).toNat:Nat):Int) - ((0:Nat):Int)) (-1)
     rw [show i + ((0:Nat):Int) * (-1) = i by simp,show (((i - j).toNat:Nat):Int) - ((0:Nat):Int) = Builtin.Range.rangeSize i j (-1) by rw [U3]; simp]
     exact Heap.get?_push_size _ rfl
    ·obtain rfl:b = (s1.heap.push { cls:=.type "range",data:=.fields #[.int i t,.int j t',.int (-1) t''] }).objs.size:=by simpa using hb
     exact I2.fpOk (Nat.le_refl _) (I2.hok.fresh (Nat.le_refl _))
theorem Z3 {lo:Int} {n:Nat} {g:TG} {tb:TS} {D:Ends} {σ:L2.St} {H:Hp} (Pv:Nat -> L2.St -> Hp -> Prop) (h0:Pv 0 σ H)
  (hs:∀ i σ H,i < n -> Pv i σ H -> g (.int (lo - i)) σ H fun σ2 H2=>tb { D with nx:=Pv (i + 1),ct:=Pv (i + 1),bk:=D.nx } σ2 H2) (hd:∀ σ H,Pv n σ H -> D.nx σ H) :
  ∃ W:Nat -> Nat -> L2.St -> Hp -> Prop,(∃ m,W 0 m σ H) /\ ∀ i m σ H,W i m σ H →
   ((ItrD lo n).stop i H /\ D.nx σ H) \/ ((ItrD lo n).go i H /\ ∃ N:L2.St -> Hp -> Prop,(∀ σ' H',N σ' H' -> ∃ m',m' < m /\ W (i + 1) m' σ' H') /\ ∀ x H',(ItrD lo n).yld i H x H' -> g x σ H' fun σ2 H2=>tb { D with nx:=N,ct:=N,bk:=D.nx } σ2 H2):=by
 refine ⟨fun i m σ H=>m = n - i /\ i <= n /\ Pv i σ H,⟨n,by simp,Nat.zero_le _,h0⟩,?_⟩
 rintro i m σ H ⟨rfl,hi,p⟩
 by_cases c:i < n
 ·refine .inr ⟨c,Pv (i + 1),fun σ' H' p'=>⟨n - (i + 1),by omega,rfl,c,p'⟩,?_⟩
  rintro x H' ⟨rfl,rfl⟩
  exact hs i σ _ c p
 ·obtain rfl:i = n:=by omega
  exact .inl ⟨Nat.le_refl _,hd σ H p⟩
end
def wfN (k s l:Nat) (w:Int):Nat:=(wfI k s l w).toNat
theorem Xh:∀ k:Fin 5,∀ s:Fin 5,1 <= s.val -> s.val <= k.val -> ∀ l:Fin 16,l.val < 2 ^ k.val -> ∀ w:Fin 2,
  (wfI k.val s.val l.val w.val = (wfN k.val s.val l.val w.val:Int) /\ wfN k.val s.val l.val w.val < 2 ^ k.val /\ figI k.val s.val (wfN k.val s.val l.val w.val) = w.val) /\ ∀ t:Fin 5,t.val <= k.val -> t.val ≠ s.val -> figI k.val t.val (wfN k.val s.val l.val w.val) = figI k.val t.val l.val:=by
 decide +kernel
theorem Z4:∀ k:Fin 5,∀ l:Fin 16,l.val < 2 ^ k.val -> (∀ t:Fin 5,figI k.val t.val l.val = 0 \/ figI k.val t.val l.val = 1) /\ ∀ m:Fin 16,m.val < 2 ^ k.val -> (∀ t:Fin 5,1 <= t.val -> t.val <= k.val -> figI k.val t.val l.val = figI k.val t.val m.val) -> l = m:=by
 decide +kernel
structure WfF (k s l:Nat) (w:Int):Prop where
 eq:wfI k s l w = (wfN k s l w:Int)
 lt:wfN k s l w < 2 ^ k
 at_:figI k s (wfN k s l w) = w
 off:∀ t:Nat,t <= k -> t ≠ s -> figI k t (wfN k s l w) = figI k t l
theorem wfF {k s l:Nat} {w:Int} (k4:k <= 4) (s1:1 <= s) (s2:s <= k) (hl:l < 2 ^ k) (hw:w = 0 \/ w = 1):WfF k s l w:=by
 have p:=vo k4
 have z:=Xh ⟨k,by omega⟩ ⟨s,by omega⟩ s1 s2 ⟨l,by omega⟩ hl
 rcases hw with rfl | rfl
 ·exact ⟨(z 0).1.1,(z 0).1.2.1,(z 0).1.2.2,fun t ht hn=>(z 0).2 ⟨t,by omega⟩ ht hn⟩
 ·exact ⟨(z 1).1.1,(z 1).1.2.1,(z 1).1.2.2,fun t ht hn=>(z 1).2 ⟨t,by omega⟩ ht hn⟩
theorem TY {k t l:Nat} (k4:k <= 4) (ht:t <= k) (hl:l < 2 ^ k):figI k t l = 0 \/ figI k t l = 1:=by
 have p:=vo k4
 exact (Z4 ⟨k,by omega⟩ ⟨l,by omega⟩ hl).1 ⟨t,by omega⟩
theorem VW {a b:Nat}:Builtin.bitAnd (a:Int) (b:Int) = ((a &&& b:Nat):Int):=by
 unfold Builtin.bitAnd
 rw [decide_eq_true (Int.natCast_nonneg a),decide_eq_true (Int.natCast_nonneg b)]; rfl
section
variable {X:Cx}
theorem ju (ns:List Int):∀ n,n <= ns.length -> preSum (fun i=>ns.getD i 0) n = (ns.take n).sum:=by
 intro n
 induction n with
 | zero=>intro _; rfl
 | succ n ih =>
  intro h
  show preSum (fun i=>ns.getD i 0) n + ns.getD n 0 = _
  rw [ih (by omega),List.take_succ,List.sum_append,List.getD_eq_getElem?_getD,List.getElem?_eq_getElem (show n < ns.length by omega)]
  simp
theorem Xi (hcalm:X.calm = true):xV X (.builtin "sum") (fun xs H Q=>∃ (l:Addr) (ns:List Int),xs = [.ref l] /\ SqL X.K H l (ns.map V.int) /\ Q (.int ns.sum) H):=by
 intro pins s σ H xs us Q I r h
 obtain ⟨l,ns,rfl,hl,q⟩:=h
 obtain ⟨u,rfl,rx⟩:=wG r
 cases (show u = Value.ref l from rx)
 obtain ⟨vs,rv,pl,_⟩:=I.list hl
 have hl':s.heap.IsList l vs.toArray:=pl.isList
 have hlt:l < s.heap.objs.size:=by obtain ⟨_,e,_⟩:=hl'; exact Heap.lt_size e
 have hlen:ns.length = vs.length:=by rw [← rv.length,List.length_map]
 refine call_sum_walkG (wpAny_pyIter_list hl' ?_)
 refine ⟨s.heap.objs.size,[s.heap.objs.size,l],[s.heap.objs.size],vs.toArray.size,_,_,fun i=>ns.getD i 0,rfl,Walks.list (A:=X.A.in1) (I.ok.hd hcalm) _ l (Nat.ne_of_lt hlt) vs.toArray,
  ⟨⟨_,Heap.get?_push_size _ rfl,rfl,rfl⟩,hl'.push _⟩,fun b hb=>?_,fun i v hP=>?_,fun h' tk t' hk=>?_⟩
 ·rcases List.mem_cons.mp hb with rfl | hb
  ·exact Heap.lt_size (Heap.get?_push_size _ rfl)
  ·rcases List.mem_cons.mp hb with rfl | hb
   ·exact Nat.lt_trans hlt (Heap.lt_size (Heap.get?_push_size _ rfl))
   ·cases hb
 ·have hv:vs[i]? = some v:=by simpa using hP
  have hi:i < ns.length:=by rw [hlen]; exact (List.getElem?_eq_some_iff.mp hv).1
  obtain ⟨u,eu,rxv⟩:=rv.get (show (ns.map V.int)[i]? = some (V.int ns[i]) by rw [List.getElem?_map,List.getElem?_eq_getElem hi]; rfl)
  rw [hv] at eu; cases eu
  obtain ⟨t,rfl⟩:=rxv
  exact ⟨t,by show _ = Value.int (ns.getD i 0) t; rw [List.getD_eq_getElem?_getD,List.getElem?_eq_getElem hi]; rfl⟩
 ·have e:preSum (fun i=>ns.getD i 0) vs.toArray.size = ns.sum:=by
   rw [List.size_toArray,← hlen,ju ns _ (Nat.le_refl _),List.take_length]
  rw [e]
  exact ⟨.int ns.sum,H,I.kept (t':=tk) (h':=h') (LSm.kept_iter hk),⟨_,rfl⟩,q⟩
end
theorem sQ {α:Type} {n:Nat} {x:α}:(List.replicate n [x]).flatten = List.replicate n x:=by
 induction n with
 | zero=>rfl
 | succ n ih=>rw [List.replicate_succ,List.flatten_cons,ih,List.replicate_succ]; rfl
theorem WF (l:Addr) (us:Array Value) (n:Nat) (b:Addr) (ws:Array Value) (m:Nat) (od:Option Addr) (sl:Array (Option Value)) (h0:¬(!us.isEmpty && Builtin.List.listTooLong (us.size + ws.size)) = true) (h1:us.size <= sizeLine) (h2:us.size + ws.size <= sizeLine + 1) :
  Meets (Builtin.«list.extend» ⟨[.ref l,.ref b],[]⟩) (fun _ R s=>s.heap.get? l = some ⟨.type "list",none,.seq us n,#[]⟩ /\ s.heap.get? b = some ⟨.type "tuple",od,.seq ws m,sl⟩ /\ R (.ok (.ret Value.none)) { s with heap:=s.heap.update l (Obj.mapSeq fun x=>x ++ ws),toks:=s.toks }) :=
 .of_wp fun P w A R s h=>by
  obtain ⟨hh,gg,dd,tk,os⟩:=s
  obtain ⟨eL,eT,q⟩:=h
  have k1:=PySem.AutoSeq1.sub_tuple_tuple
  have k2:=PySem.AutoSeq1.sub_list_list
  have k3:=PySem.AutoSeq1.sub_tuple_list
  have k4:=PySem.AutoSeq1.sub_list_tuple
  have zz:(us ++ ws).size <= sizeLine + 1:=by
   rw [Array.size_append]
   exact h2
  wp_walk using (wpAny_updateSeq eL rfl (hz:=h1) (_hz':=zz)),PySem.AutoSeq1.wpAny_loadPart' eL,PySem.AutoSeq1.wpAny_loadPart' eT
  exact ⟨_,rfl,q⟩
section
variable {X:Cx} {K:FG7}
theorem Z5 (hK:X.K = K):MtM X "list.extend" (fun x vs H Q=>∃ l b xs zs,x = .ref l /\ vs = [.ref b] /\ H l = some (.lst xs) /\ SqT K H b zs /\ xs.length + zs.length <= sizeLine /\ Q .non (upd H l (.lst (xs ++ zs)))):=by
 subst hK
 intro pins s σ H x vs v us Q I rx rv h
 obtain ⟨l,b,xs,zs,rfl,rfl,hH,hB,hz,q⟩:=h
 cases rx
 obtain ⟨u,rfl,ru⟩:=rv.one
 cases ru
 obtain ⟨z,its,n,r,hl,e⟩:=I.lstM hH
 obtain ⟨its2,r2,⟨o,e2,oc,n2,od⟩,z2⟩:=I.tuple hB
 have hl2:=r2.length
 have hsz:its.toArray.size + its2.toArray.size <= sizeLine:=by rw [List.size_toArray,List.size_toArray]; omega
 have hlong:¬ (!its.toArray.isEmpty && Builtin.List.listTooLong (its.toArray.size + its2.toArray.size)) = true:=by
  rw [sG hsz,Bool.and_false]
  exact Bool.false_ne_true
 obtain ⟨ocl,odd,oda,osl⟩:=o
 cases oc
 cases od
 refine call_meets F.slot_list_extend ⟨_,e,rfl⟩ F.entry_list_extend (F.args_list_extend_2 _ _)
  (WF l its.toArray n b its2.toArray n2 odd osl hlong (by rw [List.size_toArray]; omega) (by omega)) ⟨e,e2,?_⟩
 refine ⟨.non,_,I.lset (its':=its ++ its2) hH e (by simp) (r.append r2) ?_,rfl,q⟩
 rw [List.length_append]
 omega
end
open PySem PySem.Spec PyProof.Rows L2 HT
section
variable {prog:Program} {w:World} {A:Around} {E:VS7} {s:Shared}
theorem WG (l b:Addr) (us ws:Array Value) (n m:Nat) (d1 d2:Option Addr) (e1 e2:Array (Option Value)) (h0:us.isEmpty = true) :
  Meets (Builtin.«tuple.__add__» ⟨[.ref l,.ref b],[]⟩) (fun _ R s=>s.heap.get? l = some ⟨.type "tuple",d1,.seq us n,e1⟩ /\ s.heap.get? b = some ⟨.type "tuple",d2,.seq ws m,e2⟩ /\ R (.ok (.ret (.ref b))) s) :=
 .of_wp fun P w A R s h=>by
  obtain ⟨hh,gg,dd,tk,os⟩:=s
  obtain ⟨eL,eT,q⟩:=h
  have k1:=PySem.AutoSeq1.sub_tuple_tuple
  wp_walk using PySem.AutoSeq1.wpAny_loadPart' eL,PySem.AutoSeq1.wpAny_loadPart' eT
  exact ⟨_,rfl,q⟩
theorem WH {t b:Addr} {vs ws:List Value} {Q:VS7} (ht:IsTup s.heap t vs.toArray) (hb:IsTup s.heap b ws.toArray) (hv:vs = []) (h1:Q (.ref b) s):wpAny (model prog w) A (binaryOp .Add (.ref t) (.ref b)) Q E s:=by
 obtain ⟨⟨c1,d1,x1,l1⟩,ho,hc,n,hd⟩:=id ht
 obtain ⟨⟨c2,d2,x2,l2⟩,ho2,hc2,m,hd2⟩:=id hb
 cases hc
 cases hd
 cases hc2
 cases hd2
 exact concat_meets ⟨_,ho,rfl⟩ ⟨_,ho2,rfl⟩ noFill_tuple_add seq_tuple_add PySem.F.slot_tuple_add PySem.F.entry_tuple_add (PySem.F.args_tuple_add_2 _ _) (WG t b vs.toArray ws.toArray n m d1 d2 l1 l2 (by simp [hv])) ⟨ho,ho2,h1⟩
end
section
variable {X:Cx} {K:FG7}
def TZ (K:FG7):R2:=fun x y H Q=>∃ a b xs ys,x = .ref a /\ y = .ref b /\ SqT K H a xs /\ SqT K H b ys /\ xs.length + ys.length <= sizeLine /\ ∀ p H',Grow [] H H' -> SqT K H' p (xs ++ ys) -> Q (.ref p) H'
theorem jv (hK:X.K = K):OpR X (binaryOp .Add) (TZ K):=by
 subst hK
 intro pins s σ H x y v u Q I rx ry h
 obtain ⟨a,b,xs,ys,rfl,rfl,ha,hb,hz,q⟩:=h
 by_cases hx:xs = []
 ·cases rx
  cases ry
  obtain ⟨its,r1,p1,_⟩:=I.tuple ha
  obtain ⟨its2,r2,p2,_⟩:=I.tuple hb
  exact WH p1 p2 (r1.nil_iff.mpr hx) ⟨.ref b,H,I,rfl,q b H (Grow.refl _ _) (by rw [hx]; exact hb)⟩
 ·exact VM pins s σ H _ _ v u Q I rx ry ⟨a,b,xs,ys,rfl,rfl,ha,hb,hx,hz,fun e=>q a H (Grow.refl _ _) (by rw [e,List.append_nil]; exact ha),fun _ p hp=>q p _ (Grow.new hp _) (SqT.of zd)⟩
end
def zF (P:Program) (w:World) (K:FG7) (mg:Str -> Option Value) (base:Heap) (C:Addr) (k:Nat) (m:Str) (ps:List Str) (sp:Sp):Prop :=
 ∃ (f:Addr) (fd:FuncData),FnOk P w K mg base CX0 k f fd ps sp /\ xY K fd ps [] /\ Meth K C m f
def xJ (P:Program) (w:World) (K:FG7) (mg:Str -> Option Value) (base:Heap) (C:Addr) (k:Nat) (ps:List Str) (sp:Sp):Prop :=
 ∃ (j:Nat) (f:Addr) (fd:FuncData),j + 1 = k /\ FnOk P w K mg base CX0 j f fd ps sp /\ xY K fd ps [] /\ Mk K C f
section
variable {P:Program} {w:World} {K:FG7} {mg:Str -> Option Value} {base:Heap} {C:Addr} {j k:Nat} {m:Str} {ps:List Str} {sp:Sp}
theorem zF.mono (c:zF P w K mg base C j m ps sp) (h:j <= k):zF P w K mg base C k m ps sp:=by
 obtain ⟨f,fd,F,b,mt⟩:=c
 exact ⟨f,fd,F.mono h,b,mt⟩
theorem xJ.mono (c:xJ P w K mg base C j ps sp) (h:j <= k):xJ P w K mg base C k ps sp:=by
 obtain ⟨i,f,fd,e,F,b,mt⟩:=c
 exact ⟨k - 1,f,fd,by omega,F.mono (by omega),b,mt⟩
theorem zF.make {f0:Addr} (c:zF P w K mg base C k "__init__" ps sp) (mt:Mk K C f0):xJ P w K mg base C (k + 1) ps sp:=by
 obtain ⟨f,fd,F,b,m⟩:=c
 have e:=m.at_
 rw [mt.init] at e
 cases e
 exact ⟨k,f0,fd,rfl,F,b,mt⟩
end
section
variable {X:Cx} {K:FG7} {C:Addr} {k:Nat} {m x:Str} {ps:List Str} {sp:Sp} {o e:Expr} {es:List Expr} {ta:TE} {t:TA} {apos pos p:Pos} {f:Str}
theorem yM {pl:Sem Bool} (c:zF X.prog X.w X.K X.mg X.base C k m ps sp) (cl:Cls X.K C) (hr:Room k X.A) (he:PE X o ta) (ha:PA X (e :: es) t)
  (hst:starEach (e :: es) X.env = (false,eval e X.env) :: starEach es X.env:=by rfl) (hpl:(backTo pos (starEach es X.env)).any (·.1) = false:=by rfl)
  (ht:eval (.Call (.Attribute o m apos) (e :: es) [] pos) X.env = (do
   let ov ← eval o X.env
   standAt apos.atName
   let (f,first) ← holding [ov] (getMethod ov m pl)
   callWith pos f first (backTo pos (starEach (e :: es) X.env)) (backToKw pos (keywordEach [] X.env))):=by rfl) :
  PE X (.Call (.Attribute o m apos) (e :: es) [] pos) (Wj C m sp [] E0 ta t):=by
 obtain ⟨f,fd,F,b,mt⟩:=c
 exact VI he cl mt F hr b .nil Wo ha hst hpl ht
theorem uz {pl:Sem Bool} (c:zF X.prog X.w X.K X.mg X.base C k m ps sp) (cl:Cls X.K C) (hr:Room k X.A) (he:PE X o ta)
  (ht:eval (.Call (.Attribute o m apos) [] [] pos) X.env = (do
   let ov ← eval o X.env
   standAt apos.atName
   let (f,first) ← holding [ov] (getMethod ov m pl)
   callWith pos f first (backTo pos (starEach [] X.env)) (backToKw pos (keywordEach [] X.env))):=by rfl) :
  PE X (.Call (.Attribute o m apos) [] [] pos) (Wj C m sp [] E0 ta tNil):=by
 obtain ⟨f,fd,F,b,mt⟩:=c
 exact Wk he cl mt F hr b .nil Wo ht
theorem WI (c:xJ X.prog X.w X.K X.mg X.base C k ps sp) (hr:Room k X.A) (hg:Gl X x) (hm:X.mg x = some (.ref C))
  (ha:PA X (e :: es) t) (hdb:(x == ("__debug__":Str)) = false:=by decide) (he:starEach (e :: es) X.env = (false,eval e X.env) :: starEach es X.env:=by rfl) (hpl:(backTo pos (starEach es X.env)).any (·.1) = false:=by rfl) :
  PE X (.Call (.Name x p) (e :: es) [] pos) (UF C sp [] E0 t):=by
 obtain ⟨j,f,fd,rfl,F,b,mt⟩:=c
 exact VJ mt F hr hg hm b .nil Wo ha hdb he hpl
theorem VX (hK:X.K = K) (he:PE X e ta) (hb:attributeBase e f X.env (eval e X.env) = eval e X.env):PE X (.Attribute e f pos) (tFld K ta f):=by
 subst hK
 exact zE he hb
end
theorem Grow.setI {m:List Addr} {H:Hp} {p C dx:Addr} {fs:List (Str × V)} (h:H p = some (.ins C dx fs)) (hm:p ∈ m) (o:HO):Grow m H (upd H p o) :=
 ⟨fun b u hb q=>by rw [zu (show b ≠ p from fun z=>hb (by rw [z]; exact hm))]; exact q,fun b zs q=>by rw [zu (fun z=>by subst z; rw [h] at q; cases q)]; exact q,fun b u v q=>by rw [zu (fun z=>by subst z; rw [h] at q; cases q)]; exact q⟩
section
variable {P:Program} {w:World} {K:FG7} {mg:Str -> Option Value} {base:Heap} {N:List Str} {qual:Str} {scope:Scope} {f:Addr} {cd:Value} {A:Around} {outer:List Env} {s0:Shared} {H0:Hp} {E:XK}
 {pins:List (Addr × Obj)} {σ:L2.St} {H:Hp} {s:Shared}
end
abbrev veM:List Value:=[.type "ValueError",.type "Exception",.type "BaseException",.type "object"]
open PySem PySem.Spec PyProof.Rows L2 PySem.W
end L3
namespace L2
open PySem PySem.Spec PyProof.Rows
end L2
namespace L2
open PySem PySem.Spec PyProof.Rows
end L2
namespace L2
open PySem PySem.Spec PyProof.Rows
end L2
namespace L2
open PySem PySem.Spec PyProof.Rows
end L2
namespace L2
open PySem PySem.Spec PyProof.Rows
end L2
namespace L2
open PySem PySem.Spec PyProof.Rows
end L2
namespace L2
open PySem PySem.Spec PyProof.Rows
section
variable {κ:Type} [DecidableEq κ]
def valV (kvs:List (κ × V)) (k:κ):Option V:=(kvs.find? fun kv=>decide (kv.1 = k)).map (·.2)
def putK (kvs:List (κ × V)) (k:κ) (v:V):List (κ × V) :=
 if (kvs.any fun kv=>decide (kv.1 = k)) = true then kvs.map (fun kv=>if kv.1 = k then (kv.1,v) else kv) else kvs ++ [(k,v)]
theorem yv {p:κ × V} {r:List (κ × V)} {k:κ} (e:p.1 = k):valV (p :: r) k = some p.2:=by simp [valV,List.find?_cons,e]
theorem yo {p:κ × V} {r:List (κ × V)} {k:κ} (e:¬ p.1 = k):valV (p :: r) k = valV r k:=by simp [valV,List.find?_cons,e]
theorem wg (k:κ):∀ kvs:List (κ × V),(kvs.any fun kv=>decide (kv.1 = k)) = (valV kvs k).isSome
 | []=>rfl
 | p :: r=>by
  rw [List.any_cons]
  by_cases e:p.1 = k
  ·simp only [yv e,decide_eq_true e,Bool.true_or,Option.isSome_some]
  ·rw [yo e,decide_eq_false e,Bool.false_or]; exact wg k r
theorem Zj (k j:κ) (y:V):∀ kvs:List (κ × V),valV (kvs.map fun kv=>if kv.1 = k then (kv.1,y) else kv) j = (valV kvs j).map fun x=>if j = k then y else x
 | []=>rfl
 | p :: r=>by
  have ih:=Zj k j y r
  rw [List.map_cons]
  by_cases h:p.1 = k
  ·rw [if_pos h]
   by_cases e:p.1 = j
   ·rw [yv (p:=(p.1,y)) e,yv e,Option.map_some,if_pos (e.symm.trans h)]
   ·rw [yo (p:=(p.1,y)) e,yo e,ih]
  ·rw [if_neg h]
   by_cases e:p.1 = j
   ·rw [yv (p:=p) e,yv e,Option.map_some,if_neg (fun z=>h (e.trans z))]
   ·rw [yo (p:=p) e,yo e,ih]
theorem qo (k j:κ) (y:V):∀ kvs:List (κ × V),valV kvs k = none -> valV (kvs ++ [(k,y)]) j = if j = k then some y else valV kvs j
 | [],_=>by
  by_cases e:k = j
  ·rw [if_pos e.symm]; exact yv (p:=(k,y)) e
  ·rw [if_neg (fun z=>e z.symm)]; exact yo (p:=(k,y)) e
 | p :: r,hn=>by
  rw [List.cons_append]
  have hk:¬ p.1 = k:=fun z=>by rw [yv z] at hn; cases hn
  rw [yo hk] at hn
  have ih:=qo k j y r hn
  by_cases e:p.1 = j
  ·rw [yv e,yv e,if_neg (fun z=>hk (e.trans z))]
  ·rw [yo e,yo e,ih]
theorem WJ (kvs:List (κ × V)) (k j:κ) (y:V):valV (putK kvs k y) j = if j = k then some y else valV kvs j:=by
 unfold putK
 by_cases a:(kvs.any fun kv=>decide (kv.1 = k)) = true
 ·rw [if_pos a,Zj]
  rw [wg] at a
  by_cases e:j = k
  ·obtain ⟨x,hx⟩:=Option.isSome_iff_exists.mp a
   rw [if_pos e,e,hx,Option.map_some,if_pos rfl]
  ·rw [if_neg e]
   cases valV kvs j with
   | none=>rfl
   | some x=>rw [Option.map_some,if_neg e]
 ·rw [if_neg a]
  refine qo k j y kvs ?_
  rw [wg] at a
  cases q:valV kvs k with
  | none=>rfl
  | some x=>rw [q] at a; exact (a rfl).elim
theorem xh (kvs:List (κ × V)) (k:κ) (v:V):(putK kvs k v).length <= kvs.length + 1:=by
 unfold putK
 split
 ·rw [List.length_map]; omega
 ·rw [List.length_append,List.length_cons,List.length_nil]; omega
theorem Zk {kvs:List (κ × V)} {k:κ} (v:V) (h:valV kvs k = none):putK kvs k v = kvs ++ [(k,v)]:=by
 unfold putK
 rw [wg,h]
 exact if_neg (by decide)
theorem RelO.isSome_eq {o:Option V} {u:Option Value} (r:RelO o u):o.isSome = u.isSome:=by
 cases o with
 | none=>cases u with
  | none=>rfl
  | some _=>exact (show False from r).elim
 | some _=>cases u with
  | none=>exact (show False from r).elim
  | some _=>rfl
theorem RelO.getD {o:Option V} {u:Option Value} {d:V} {d':Value} (r:RelO o u) (rd:RelV d d'):RelV (o.getD d) (u.getD d'):=by
 cases o with
 | none=>cases u with
  | none=>exact rd
  | some _=>exact (show False from r).elim
 | some _=>cases u with
  | none=>exact (show False from r).elim
  | some _=>exact r
theorem KV.val {kvs:List (κ × V)} {vs:List (κ × Value)} (r:KV kvs vs) (k:κ):RelO (valV kvs k) (valueAt vs k):=by
 unfold KV at r
 induction r with
 | nil=>exact True.intro
 | @cons p q ps qs h t ih =>
  obtain ⟨h1,h2⟩:=h
  by_cases e:p.1 = k
  ·have e':q.1 = k:=h1.symm.trans e
   have b:valueAt (q :: qs) k = some q.2:=by simp [valueAt,List.find?_cons,e']
   rw [yv e,b]; exact h2
  ·have e':¬ q.1 = k:=fun z=>e (h1.trans z)
   have b:valueAt (q :: qs) k = valueAt qs k:=by simp [valueAt,List.find?_cons,e']
   rw [yo e,b]; exact ih
theorem KV.any {kvs:List (κ × V)} {vs:List (κ × Value)} (r:KV kvs vs) (k:κ):(kvs.any fun kv=>decide (kv.1 = k)) = vs.any fun kv=>decide (kv.1 = k):=by
 unfold KV at r
 induction r with
 | nil=>rfl
 | cons h t ih=>rw [List.any_cons,List.any_cons,ih,h.1]
theorem KV.repl {kvs:List (κ × V)} {vs:List (κ × Value)} (r:KV kvs vs) (k:κ) {y:V} {u:Value} (ry:RelV y u) :
  KV (kvs.map fun kv=>if kv.1 = k then (kv.1,y) else kv) (vs.map fun kv=>if kv.1 = k then (kv.1,u) else kv):=by
 unfold KV at r ⊢
 induction r with
 | nil=>exact .nil
 | @cons p q ps qs h t ih =>
  rw [List.map_cons,List.map_cons]
  refine .cons ?_ ih
  obtain ⟨h1,h2⟩:=h
  by_cases e:p.1 = k
  ·rw [if_pos e,if_pos (h1.symm.trans e)]; exact ⟨h1,ry⟩
  ·rw [if_neg e,if_neg (fun z=>e (h1.trans z))]; exact ⟨h1,h2⟩
theorem KV.put {kvs:List (κ × V)} {vs:List (κ × Value)} (r:KV kvs vs) (k:κ) {y:V} {u:Value} (ry:RelV y u):KV (putK kvs k y) (stored vs k u):=by
 unfold putK stored
 rw [r.any k]
 by_cases e:(vs.any fun kv=>decide (kv.1 = k)) = true
 ·rw [if_pos e,if_pos e]; exact r.repl k ry
 ·rw [if_neg e,if_neg e]; exact Paired.snoc r ⟨rfl,ry⟩
theorem KV.length {kvs:List (κ × V)} {vs:List (κ × Value)} (r:KV kvs vs):kvs.length = vs.length:=Paired.length r
end
theorem Xj {P:Program} {w:World} {k:Key} {u:Value} (r:RelV (kV k) u):(zM P w).is k u = true:=by
 cases k with
 | inl i=>obtain ⟨t,e⟩:=(show ∃ t,u = Value.int i t from r); subst e; exact je P w i t
 | inr x=>obtain ⟨t,e⟩:=(show ∃ t,u = Value.str x t from r); subst e; exact jf P w x t
theorem qp {P:Program} {w:World}:∀ {ks:List Key} {us:List Value},Vals (ks.map kV) us -> ItemsAre (zM P w) ks us
 | [],_,r=>by rw [List.map_nil] at r; cases r; exact .nil
 | k :: ks,_,r=>by
  rw [List.map_cons] at r
  cases r with
  | cons h t=>exact .cons (Xj h) (qp t)
abbrev KT (H:Hp):List (List Key × V) -> List (List Key × Addr × Value) -> Prop:=Paired fun p q=>p.1 = q.1 /\ H q.2.1 = some (.tup (p.1.map kV)) /\ RelV p.2 q.2.2
theorem KT.val {H:Hp} {kvs:List (List Key × V)} {xs:List (List Key × Addr × Value)} (r:KT H kvs xs) (k:List Key):RelO (valV kvs k) ((atKey xs k).map (·.2)):=by
 induction r with
 | nil=>exact True.intro
 | @cons p q ps qs h t ih =>
  obtain ⟨h1,_,h2⟩:=h
  by_cases e:p.1 = k
  ·have e':q.1 = k:=h1.symm.trans e
   have b:atKey (q :: qs) k = some q.2:=by simp [atKey,List.find?_cons,e']
   rw [yv e,b]; exact h2
  ·have e':¬ q.1 = k:=fun z=>e (h1.trans z)
   have b:atKey (q :: qs) k = atKey qs k:=by simp [atKey,List.find?_cons,e']
   rw [yo e,b]; exact ih
theorem KT.repl {H:Hp} {kvs:List (List Key × V)} {xs:List (List Key × Addr × Value)} (r:KT H kvs xs) (k:List Key) {y:V} {u:Value} (ry:RelV y u) :
  KT H (kvs.map fun kv=>if kv.1 = k then (kv.1,y) else kv) (xs.map (putAt k u)):=by
 induction r with
 | nil=>exact .nil
 | @cons p q ps qs h t ih =>
  rw [List.map_cons,List.map_cons]
  refine .cons ?_ ih
  obtain ⟨h1,h2,h3⟩:=h
  unfold putAt
  by_cases e:p.1 = k
  ·rw [if_pos e,if_pos (h1.symm.trans e)]; exact ⟨h1,h2,ry⟩
  ·rw [if_neg e,if_neg (fun z=>e (h1.trans z))]; exact ⟨h1,h2,h3⟩
theorem KT.put {H:Hp} {kvs:List (List Key × V)} {xs:List (List Key × Addr × Value)} (r:KT H kvs xs) (k:List Key) {b:Addr} {y:V} {u:Value} (hb:H b = some (.tup (k.map kV))) (ry:RelV y u) :
  KT H (putK kvs k y) (storedH xs k b u):=by
 have e:(kvs.any fun kv=>decide (kv.1 = k)) = (atKey xs k).isSome:=by
  rw [wg,(r.val k).isSome_eq,Option.isSome_map]
 unfold putK storedH
 rw [e]
 by_cases q:(atKey xs k).isSome = true
 ·rw [if_pos q,if_pos q]; exact r.repl k ry
 ·rw [if_neg q,if_neg q]; exact Paired.snoc r ⟨rfl,hb,ry⟩
theorem KT.keeps {H H':Hp} {kvs:List (List Key × V)} {xs:List (List Key × Addr × Value)} (r:KT H kvs xs) (ht:∀ b ys,H b = some (.tup ys) -> H' b = some (.tup ys)):KT H' kvs xs :=
 Paired.mapP r fun _ _ z=>⟨z.1,ht _ _ z.2.1,z.2.2⟩
section
variable {P:Program} {w:World} {H:Hp} {h:Heap} {a:Addr}
theorem U5 {u:HO} (ok:HOk P w H h) (e:Rd H a u):yj P w H h a u:=e.ok ok
theorem Xk {kvs:List (Key × V)} (ok:HOk P w H h) (e:Rd H a (.dK kvs)):kvs.length <= sizeLine /\ (a == sysModules) = false /\ ∃ vs,KV kvs vs /\ h.DictOf (zM P w) a vs :=
 show yj P w H h a (.dK kvs) from U5 ok e
theorem VY {kvs:List (Key × V)} (ok:HOk P w H h) (e:H a = some (.dK kvs)):kvs.length <= sizeLine /\ (a == sysModules) = false /\ ∃ vs,KV kvs vs /\ h.DictOf (zM P w) a vs:=Xk ok (.inl e)
theorem tU {ks:List Key} (ok:HOk P w H h) (e:H a = some (.tup (ks.map kV))):(tupleKind (zM P w)).is h ks a:=by
 obtain ⟨_,its,r,o,h1,h2,n,h3⟩:=(show yj P w H h a (.tup (ks.map kV)) from ok a _ e)
 exact ⟨o,its.toArray,n,h1,h2,h3,by simpa using qp r⟩
theorem Xl {kvs:List (List Key × V)} (ok:HOk P w H h) (e:Rd H a (.dT kvs)):kvs.length <= sizeLine /\ (a == sysModules) = false ∧
  ∃ xs,KT H kvs xs /\ h.DictOfH (tupleKind (zM P w)) a xs:=by
 obtain ⟨z,y,xs,r,o,es,ep,h1,h2,h3,h4,h5⟩:=(show yj P w H h a (.dT kvs) from U5 ok e)
 refine ⟨z,y,xs,r,o,es,ep,h1,h2,h3,h4,fun x hx=>?_,h5⟩
 have all:∀ {l:List (List Key × V)} {m:List (List Key × Addr × Value)},KT H l m -> ∀ x ∈ m,(tupleKind (zM P w)).is h x.1 x.2.1:=by
  intro l m q
  induction q with
  | nil=>intro x hx; exact nomatch hx
  | @cons p q ps qs hq t ih =>
   intro x hx
   rcases List.mem_cons.mp hx with e | hx
   ·subst e
    exact tU ok (by rw [← hq.1]; exact hq.2.1)
   ·exact ih x hx
 exact all r x hx
theorem T0 {kvs:List (List Key × V)} (ok:HOk P w H h) (e:H a = some (.dT kvs)):kvs.length <= sizeLine /\ (a == sysModules) = false ∧
  ∃ xs,KT H kvs xs /\ h.DictOfH (tupleKind (zM P w)) a xs:=Xl ok (.inl e)
end
def DGet (H:Hp) (a:Addr) (y:V) (r:Option V):Prop :=
 (∃ kvs k,Rd H a (.dK kvs) /\ y = kV k /\ r = valV kvs k) \/ ∃ kvs k b,Rd H a (.dT kvs) /\ y = .ref b /\ H b = some (.tup (k.map kV)) /\ r = valV kvs k
def DPut (H:Hp) (a:Addr) (y v:V) (H':Hp):Prop :=
 (∃ kvs k,H a = some (.dK kvs) /\ y = kV k /\ kvs.length < sizeLine /\ H' = upd H a (.dK (putK kvs k v))) ∨
 ∃ kvs k b,H a = some (.dT kvs) /\ y = .ref b /\ H b = some (.tup (k.map kV)) /\ kvs.length < sizeLine /\ H' = upd H a (.dT (putK kvs k v))
theorem DGet.t {H:Hp} {a b:Addr} {kvs:List (List Key × V)} {k:List Key} (e:H a = some (.dT kvs)) (eb:H b = some (.tup (k.map kV))):DGet H a (.ref b) (valV kvs k):=.inr ⟨kvs,k,b,.inl e,rfl,eb,rfl⟩
theorem DPut.t {H:Hp} {a b:Addr} {kvs:List (List Key × V)} {k:List Key} {v:V} (e:H a = some (.dT kvs)) (eb:H b = some (.tup (k.map kV))) (hl:kvs.length < sizeLine) :
  DPut H a (.ref b) v (upd H a (.dT (putK kvs k v))):=.inr ⟨kvs,k,b,e,rfl,eb,hl,rfl⟩
section
variable {X:Cx} {pins:List (Addr × Obj)} {σ:St} {H:Hp} {s:Shared} {a:Addr} {y v:V} {u r:Value} {o:Option V} {A:Around} {E:VS7}
theorem Inv.big (I:Inv X pins σ H s):sysModules < s.heap.objs.size:=by
 have h:mainGlobals < s.heap.objs.size:=(I.mod.glob.keeps I.bk).lt
 exact Nat.lt_trans (by decide) h
theorem qr {Q:VS7} (hu:A.units + 1 < cLine) (I:Inv X pins σ H s) (g:DGet H a y (some v)) (ry:RelV y u) (h:∀ w' s',Inv X pins σ H s' -> RelV v w' -> Q w' s') :
  wpAny (model X.prog X.w) A (getItem (.ref a) u) Q E s:=by
 rcases g with ⟨kvs,k,e,ey,l⟩ | ⟨kvs,k,b,e,ey,eb,l⟩
 ·subst ey
  obtain ⟨z,hd,vs,rel,dd⟩:=Xk I.hok e
  obtain ⟨w',hw,rw'⟩:=RelO.some_of (v:=v) (o:=valueAt vs k) (by rw [l]; exact rel.val k)
  exact wpAny_getItem_of (Xj ry) dd.mapOf hw (h w' _ (I.tok _) rw')
 ·subst ey
  cases (show u = Value.ref b from ry)
  obtain ⟨z,hd,xs,rel,dd⟩:=Xl I.hok e
  obtain ⟨w',hw,rw'⟩:=RelO.some_of (v:=v) (o:=(atKey xs k).map (·.2)) (by rw [l]; exact rel.val k)
  obtain ⟨p,hp,hp2⟩:=Option.map_eq_some_iff.mp hw
  refine wpAny_getItem_heap (tupleKind_room_in1 hu) (tU I.hok eb) dd hp ?_
  rw [hp2]
  exact h w' _ (I.tok _) rw'
theorem jw {h':Heap} {t':Nat} {ob:HO} (I:Inv X pins σ H s) (mu:Mut (H a)) (hs:Heap.SameBut a s.heap h') (he:∃ q,h'.get? a = some q) (new:yj X.prog X.w (upd H a ob) h' a ob) :
  Inv X pins σ (upd H a ob) { s with heap:=h',toks:=t' } :=
 I.write (x:=a) (e:=a) mu (.inl rfl) (fun b q hb z=>(hs.2 b hb).trans z) he new
theorem Vn {P:Program} {w:World} {H':Hp} {h':Heap} {kvs:List (Key × V)} {vs:List (Key × Value)} (z:kvs.length <= sizeLine) (hd:(a == sysModules) = false) (rel:KV kvs vs) (dd:h'.DictOf (zM P w) a vs) :
  yj P w H' h' a (.dK kvs):=⟨z,hd,vs,rel,dd⟩
theorem qt {H':Hp} {Q:Unit -> Shared -> Prop} (hu:A.units + 1 < cLine) (I:Inv X pins σ H s) (g:DPut H a y v H') (ry:RelV y u) (rv:RelV v r) (h:∀ s',Inv X pins σ H' s' -> Q () s') :
  wpAny (model X.prog X.w) A (setItem (.ref a) u r) Q E s:=by
 rcases g with ⟨kvs,k,e,ey,l,eH⟩ | ⟨kvs,k,b,e,ey,eb,l,eH⟩
 ·subst ey eH
  obtain ⟨z,hd,vs,rel,dd⟩:=VY I.hok e
  have hz:vs.length <= sizeLine:=by rw [← rel.length]; exact z
  have hl:(putK kvs k v).length <= sizeLine:=by have:=xh kvs k v; omega
  refine wpAny_setItem_pairs (hsz:=hz) (Xj ry) dd fun h' dd' hs=>h _ ?_
  have he:∃ q,h'.get? a = some q:=let ⟨q,_,_,hq,_⟩:=dd'; ⟨q,hq⟩
  exact jw I (by rw [e]; exact True.intro) hs he (Vn hl hd (rel.put k rv) dd')
 ·subst ey eH
  cases (show u = Value.ref b from ry)
  obtain ⟨z,hd,xs,rel,dd⟩:=T0 I.hok e
  have hz:xs.length <= sizeLine:=by rw [← Paired.length rel]; exact z
  have hl:(putK kvs k v).length <= sizeLine:=by have:=xh kvs k v; omega
  refine wpAny_setItem_heap (hsz:=hz) (tupleKind_room_in1 hu) (tU I.hok eb) dd fun h' dd' hs=>h _ ?_
  obtain ⟨q,es,ep,hq,h2,h3,h4,_,h5⟩:=dd'
  refine jw I (by rw [e]; exact True.intro) hs ⟨q,hq⟩ ⟨hl,hd,_,(rel.put k eb rv).keeps fun c ys ec=>?_,q,es,ep,hq,h2,h3,h4,h5⟩
  rw [zu (Tr ec e (fun z=>nomatch z))]
  exact ec
end
def NoSl (i:Expr):Prop:=∀ ov iv,subscripted i false ov iv = operate [ov,iv] (getItem ov iv)
theorem VZ {prog:Program} {w:World} {A:Around} {E:VS7} {s:Shared} {env:Env} {value slice:Expr} {pos:Pos} {T id:String} {Q:VS7}
  (hl:typeLookup (.type T) "__getitem__" = pure (some (.builtin id))) (hs:NoSl slice)
  (h:wpAny (model prog w) A (eval value env) (fun o s₁=>wpAny (model prog w) A (eval slice env) (fun i s₂=>s₂.TypeIs o T /\ wpAny (model prog w) A (getItem o i) Q E s₂) E s₁) E s) :
  wpAny (model prog w) A (eval (.Subscript value slice pos) env) Q E s:=by
 refine Subscript_ (wpAny_mono h (fun o s₁ h₁=>wpAny_mono h₁ (fun i s₂ h₂=>?_) fun _ _ x=>x) fun _ _ x=>x)
 obtain ⟨hT,h₂⟩:=h₂
 unfold subscriptTail
 refine wpAny_bind ?_
 rw [getitemInPython_of_ne hT.not_modules]
 refine wpAny_bind (wpAny_specialOf hT hl ?_)
 have fin:wpAny (model prog w) A (subscripted slice false o i) (fun r s₃=>wpAny (model prog w) A (letTemporaryGo value o r >>= fun _=>pure r) Q E s₃) E s₂:=by
  rw [hs o i]
  exact wpAny_operating (wpAny_mono h₂ (fun r s₃ h₃=>wpAny_bind (wpAny_letTemporaryGo (wpAny_pure h₃))) fun _ _ x=>x)
 first
  | exact wpAny_pure (wpAny_bind fin)
  | exact wpAny_bind (wpAny_pure (wpAny_bind fin))
  | exact wpAny_bind fin
theorem jx {X:Cx} {pins:List (Addr × Obj)} {σ:St} {H:Hp} {s:Shared} {a:Addr} {y:V} {o:Option V} (I:Inv X pins σ H s) (g:DGet H a y o):s.TypeIs (.ref a) "dict":=by
 rcases g with ⟨kvs,k,e,_,_⟩ | ⟨kvs,k,b,e,_,_,_⟩
 ·obtain ⟨_,_,vs,_,dd⟩:=Xk I.hok e
  exact dd.typeIs
 ·obtain ⟨_,_,xs,_,dd⟩:=Xl I.hok e
  exact dd.typeIs
def T1 (td ty:TE):TE:=fun σ H Q=>td σ H fun x H1=>ty σ H1 fun y H2=>∃ a v,x = .ref a /\ DGet H2 a y (some v) /\ Q v H2
def T3 (td ty tv:TE):TS:=fun D σ H=>tv σ H fun v H1=>td σ H1 fun x H2=>ty σ H2 fun y H3=>∃ a H4,x = .ref a /\ DPut H3 a y v H4 /\ D.nx σ H4
def T4 (td ty tv:TE) (rd:V -> V -> Hp -> VK -> Prop):TS:=fun D σ H=>td σ H fun x H1=>ty σ H1 fun y H2=>∃ a v,x = .ref a /\ DGet H2 a y (some v) ∧
 tv σ H2 fun y2 H3=>rd v y2 H3 fun z H4=>∃ H5,DPut H4 a y z H5 /\ D.nx σ H5
section
variable {X:Cx} {o i e value:Expr} {pos pos' tpos:Pos} {td ty tv:TE}
theorem x8 (hu:X.A.units + 1 < cLine) (ho:PE X o td) (hi:PE X i ty) (hs:NoSl i):PE X (.Subscript o i pos) (T1 td ty):=by
 intro pins s σ H Q I h
 refine VZ PySem.F.slot_dict_getitem.lookup hs (thn (ho pins s σ H _ I h) fun u s1 ⟨x,H1,I1,rx,q1⟩=>thn (hi pins s1 σ H1 _ I1 q1) fun iv s2 ⟨y,H2,I2,ry,a,v,ex,g,q2⟩=>?_)
 subst ex
 obtain rfl:u = Value.ref a:=rx
 exact ⟨jx I2 g,qr hu I2 g ry fun w' s3 I3 rw'=>⟨v,H2,I3,rw',q2⟩⟩
theorem Xm (hu:X.A.units + 1 < cLine) (ho:PE X o td) (hi:PE X i ty) (hv:PE X value tv) (hs:swapsWith value (some (.Subscript o i pos')) pos.line X.env = pure false) :
  PS X (.Assign [.Subscript o i pos'] value pos) (T3 td ty tv):=by
 intro pins s σ H D I h
 refine wpAny_Assign_Subscript (thn (hv pins s σ H _ I h) fun r s1 ⟨v,H1,I1,rv,q1⟩=>thn (ho pins s1 σ H1 _ I1 q1) fun u s2 ⟨x,H2,I2,rx,q2⟩=>thn (hi pins s2 σ H2 _ I2 q2) fun iv s3 ⟨y,H3,I3,ry,a,H4,ex,g,q3⟩=>?_) hs
 subst ex
 obtain rfl:u = Value.ref a:=rx
 exact qt hu I3 g ry rv fun s4 I4=>⟨σ,H4,I4,q3⟩
theorem Xn {op:Operator} {rd:V -> V -> Hp -> VK -> Prop} (hu:X.A.units + 1 < cLine) (ho:PE X o td) (hi:PE X i ty) (hv:PE X value tv) (hop:InOp X op rd)
  (ha:∀ ov iv new,augStore i ov iv new = (do holding [new,ov,iv] (setItem ov iv new); release [new,ov,iv] []; pure .next)):PS X (.AugAssign (.Subscript o i tpos) op value pos) (T4 td ty tv rd):=by
 intro pins s σ H D I h
 refine wpAny_AugAssign_SubscriptAny (thn (ho pins s σ H _ I h) fun u s1 ⟨x,H1,I1,rx,q1⟩=>thn (hi pins s1 σ H1 _ I1 q1) fun iv s2 ⟨y,H2,I2,ry,a,v,ex,g,q2⟩=>?_) ha
 subst ex
 obtain rfl:u = Value.ref a:=rx
 refine qr hu I2 g ry fun w' s3 I3 rw'=>thn (hv pins s3 σ H2 _ I3 q2) fun w2 s4 ⟨y2,H3,I4,ry2,q3⟩=>thn (hop pins s4 σ H3 v y2 w' w2 _ I4 rw' ry2 q3) fun w3 s5 ⟨z,H4,I5,rz,H5,g5,q4⟩=>?_
 exact qt hu I5 g5 ry rz fun s6 I6=>⟨σ,H5,I6,q4⟩
end
theorem WK {P:Program} {w:World} {H:Hp} (h:Heap) (hb:sysModules < h.objs.size):yj P w H (h.push { cls:=.type "dict",data:=.dict #[] }) h.objs.size (.dK []) :=
 ⟨Nat.zero_le _,beq_eq_false_iff_ne.mpr (Ne.symm (Nat.ne_of_lt hb)),[],.nil,Heap.DictOf.new h⟩
theorem WL {P:Program} {w:World} {H:Hp} (h:Heap) (hb:sysModules < h.objs.size):yj P w H (h.push { cls:=.type "dict",data:=.dict #[] }) h.objs.size (.dT []) :=
 ⟨Nat.zero_le _,beq_eq_false_iff_ne.mpr (Ne.symm (Nat.ne_of_lt hb)),[],.nil,_,#[],0,Heap.get?_push_size _ rfl,⟨rfl,rfl,rfl⟩,rfl,rfl,List.nodup_nil⟩
def U6:TE:=fun _ H Q=>∀ p,H p = none -> Q (.ref p) (upd H p (.dK []))
section
variable {X:Cx} {pos:Pos}
theorem sR:PE X (.Dict [] [] pos) U6:=fun pins s σ H Q I h =>
 wpAny_Dict_empty ⟨.ref s.heap.objs.size,_,I.laid (a:=s.heap.objs.size) (o:=.dK []) (t':=s.toks) (fun _ _ q=>Heap.get?_push_of_some _ q) (Nat.le_refl _) (WK s.heap I.big),rfl,h _ (I.hok.fresh (Nat.le_refl _))⟩
end
structure M2 (X:Cx) (o:Expr) (m:Str) (apos:Pos) (e f:Expr) (cpos:Pos):Prop where
 base:attributeBase o m X.env (eval o X.env) = eval o X.env
 few:((backTo cpos (starEach [e,f] X.env)).all (fun x=>!x.1) && (backToKw cpos (keywordEach [] X.env)).all (fun x=>x.1.isSome)
  && decide (([e,f]:List Expr).length + ([]:List Keyword).length + (if ([]:List Keyword).isEmpty then 0 else 1) < 30)) = true
 line:(apos.endLine == cpos.line) = true
 trees:backTo cpos (starEach [e,f] X.env) = [(false,eval e X.env),(false,eval f X.env)]
def IsD (H:Hp) (a:Addr):Prop:=(∃ kvs,Rd H a (.dK kvs)) \/ ∃ kvs,Rd H a (.dT kvs)
theorem U7 {X:Cx} {pins:List (Addr × Obj)} {σ:St} {H:Hp} {s:Shared} {a:Addr} (I:Inv X pins σ H s) (d:IsD H a) :
  s.TypeIs (.ref a) "dict" /\ (∀ b,Value.ref a = .ref b -> ∃ ob,s.heap.get? b = some ob /\ ob.dict = none) /\ (a == sysModules) = false:=by
 rcases d with ⟨kvs,e⟩ | ⟨kvs,e⟩
 ·obtain ⟨_,hd,vs,_,dd⟩:=Xk I.hok e
  refine ⟨dd.typeIs,fun b q=>?_,hd⟩
  cases q
  obtain ⟨ob,_,_,h1,h2,_⟩:=dd
  exact ⟨ob,h1,h2.2.1⟩
 ·obtain ⟨_,hd,xs,_,dd⟩:=Xl I.hok e
  refine ⟨dd.typeIs,fun b q=>?_,hd⟩
  cases q
  obtain ⟨ob,_,_,h1,h2,_⟩:=dd
  exact ⟨ob,h1,h2.2.1⟩
section
variable {X:Cx} {pins:List (Addr × Obj)} {σ:St} {H:Hp} {s:Shared} {a:Addr} {y d:V} {u r:Value} {o:Option V} {A:Around} {E:VS7}
theorem U8 {Q:VS7} (hu:A.units + 1 < cLine) (I:Inv X pins σ H s) (g:DGet H a y o) (ry:RelV y u) (rd:RelV d r) (h:∀ w' s',Inv X pins σ H s' -> RelV (o.getD d) w' -> Q w' s') :
  wpAny (model X.prog X.w) A (call (.builtin "dict.get") [.ref a,u,r]) Q E s:=by
 rcases g with ⟨kvs,k,e,ey,l⟩ | ⟨kvs,k,b,e,ey,eb,l⟩
 ·subst ey
  obtain ⟨z,hd,vs,rel,dd⟩:=Xk I.hok e
  refine call_meetsIn PySem.F.slot_dict_get dd.typeIs PySem.F.entry_dict_get (PySem.F.args_dict_get_3 _ _ _) (meets_dict_get_default (zM X.prog X.w) a (Xj ry) hd r) ⟨_,dd.mapOf,h _ _ (I.tok _) ?_⟩
  rw [l]
  exact (rel.val k).getD rd
 ·subst ey
  cases (show u = Value.ref b from ry)
  obtain ⟨z,hd,xs,rel,dd⟩:=Xl I.hok e
  refine call_meetsIn PySem.F.slot_dict_get dd.typeIs PySem.F.entry_dict_get (PySem.F.args_dict_get_3 _ _ _) (meetsH_dict_get_default (tupleKind (zM X.prog X.w)) a b hd r) ⟨tupleKind_room_in1 hu,k,xs,tU I.hok eb,dd,h _ _ (I.tok _) ?_⟩
  rw [l]
  exact (rel.val k).getD rd
end
def U9 (td ty tx:TE):TE:=fun σ H Q=>td σ H fun x H1=>∃ a,x = .ref a /\ IsD H1 a /\ ty σ H1 fun y H2=>tx σ H2 fun z H3=>∃ o,DGet H3 a y o /\ Q (o.getD z) H3
section
variable {X:Cx} {o e f:Expr} {apos cpos:Pos} {td ty tx:TE}
theorem WM (hu:X.A.units + 1 < cLine) (ho:PE X o td) (he:PE X e ty) (hf:PE X f tx) (m:M2 X o "get" apos e f cpos):PE X (.Call (.Attribute o "get" apos) [e,f] [] cpos) (U9 td ty tx):=by
 intro pins s σ H Q I h
 refine wpAny_Call_method m.base m.few m.line PySem.F.plainAttrs_dict PySem.F.slot_dict_get PySem.F.type_dict_get (thn (ho pins s σ H _ I h) fun u s1 ⟨x,H1,I1,rx,a,ex,d,q1⟩=>?_)
 subst ex
 obtain rfl:u = Value.ref a:=rx
 obtain ⟨t1,t2,_⟩:=U7 I1 d
 refine ⟨t1,t2,?_⟩
 rw [m.trees]
 refine Calls.callWith_builtin rfl (Calls.evalArgs_plain (Calls.spliced_cons (thn (he pins s1 σ H1 _ I1 q1) fun iv s2 ⟨y,H2,I2,ry,q2⟩ =>
  Calls.spliced_cons (thn (hf pins s2 σ H2 _ I2 q2) fun fv s3 ⟨z,H3,I3,rz,ov,g,q3⟩=>Calls.spliced_nil ?_))))
 exact U8 hu I3 g ry rz fun w' s4 I4 rw'=>⟨_,H3,I4,rw',q3⟩
end
end L2
namespace Att
open PySem PySem.W PySem.Calls PyProof.Rows
end Att
namespace L2
open PySem PySem.Spec PyProof.Rows
end L2
namespace L3
open PySem PySem.Spec PyProof.Rows L2
open PySem PySem.Spec PyProof.Rows L2 PySem.W
open PySem PySem.Spec PyProof.Rows L2 HT
theorem Xo:∀ d:List Int,(d.map (Sum.inl:Int -> Key)).map kV = d.map V.int
 | []=>rfl
 | x :: d=>by rw [List.map_cons,List.map_cons,List.map_cons,Xo d]; rfl
abbrev FW:=List (List Int × List Int)
def kI (d:List Int):List Key:=d.map Sum.inl
theorem T6 (d:List Int):(kI d).map kV = d.map V.int:=Xo d
theorem Grow.setDT {m:List Addr} {H:Hp} {p:Addr} {xs:List (List Key × V)} (h:H p = some (.dT xs)) (hm:p ∈ m) (ys:List (List Key × V)):Grow m H (upd H p (.dT ys)) :=
 ⟨fun b u hb q=>by rw [zu (show b ≠ p from fun z=>hb (by rw [z]; exact hm))]; exact q,fun b zs q=>by rw [zu (fun z=>by subst z; rw [h] at q; cases q)]; exact q,fun b u v q=>by rw [zu (fun z=>by subst z; rw [h] at q; cases q)]; exact q⟩
theorem Room.u1F {k:Nat} {A:Around} (r:Room k A):A.units + 1 < cLine:=by have:=r.un; omega
def DRaw (prog:Program) (w:World) (Hb:Hp) (h:Heap) (D:Addr) (o:Obj) (kvs:List (List Key × V)):Prop :=
 kvs.length <= sizeLine /\ (D == sysModules) = false /\ ∃ xs:List (List Key × Addr × Value),KT Hb kvs xs /\ ∃ es ep,h.get? D = some o /\ o.ExactDict /\ o.data = .dict es ep /\ es.toList = xs.map (entryOfKey (tupleKind (zM prog w))) /\ (xs.map (·.1)).Nodup
theorem DRaw.at {prog:Program} {w:World} {Hb:Hp} {h h':Heap} {D:Addr} {o:Obj} {kvs:List (List Key × V)} (r:DRaw prog w Hb h D o kvs) (e:h'.get? D = some o):DRaw prog w Hb h' D o kvs :=
 let ⟨z,y,xs,k,es,ep,_,h2,h3,h4,h5⟩:=r; ⟨z,y,xs,k,es,ep,e,h2,h3,h4,h5⟩
theorem DRaw.obj {prog:Program} {w:World} {Hb H':Hp} {h:Heap} {D:Addr} {o:Obj} {kvs:List (List Key × V)} (r:DRaw prog w Hb h D o kvs) (hk:∀ b xs,Hb b = some (.tup xs) -> H' b = some (.tup xs)):yj prog w H' h D (.dT kvs) :=
 let ⟨z,y,xs,k,es,ep,h1,h2,h3,h4,h5⟩:=r; ⟨z,y,xs,k.keeps hk,o,es,ep,h1,h2,h3,h4,h5⟩
theorem DRaw.nocell {prog:Program} {w:World} {Hb:Hp} {h:Heap} {D:Addr} {o:Obj} {kvs:List (List Key × V)} (r:DRaw prog w Hb h D o kvs) (v:Option Value):o.data ≠ .cell v:=by
 obtain ⟨_,_,_,_,es,ep,_,_,h3,_⟩:=r
 rw [h3]; intro z; cases z
section
variable {X:Cx} {pins:List (Addr × Obj)} {σ:L2.St} {H2:Hp} {s₂:Shared} {it:Addr} {fp:List Addr} {tn:Nat -> Heap -> Prop} {J:It} {scope:Scope} {cl:List (Str × Addr)} {N':List Str} {sub:List (Option Nat)}
theorem Xp {C D:Addr} {s₀:Shared} {s':Shared} {σ':L2.St} {H' Hb:Hp} {kvs:List (List Key × V)} {o oC:Obj} (I:Inv X pins σ H2 s₂)
    (hs₀:∀ b o,s₂.heap.get? b = some o -> s₀.heap.get? b = some o) (hos:s₀.os = s₂.os) (hD:s₂.heap.objs.size <= D) (hC:s₂.heap.objs.size <= C) (hDC:D ≠ C) (f2:∀ b ∈ fp,FpOk X pins H2 b)
    (I':Inv (cxC X N' scope cl C D fp s₀ H2) pins σ' H' s') (hn:H' D = none) (hb:∀ b xs,Hb b = some (.tup xs) -> H' b = some (.tup xs)) (rv:DRaw X.prog X.w Hb s'.heap D o kvs)
    (ho:s'.heap.get? C = some oC) (hd:∀ v,oC.data ≠ .cell v):Inv X (pins ++ [(C,oC)]) σ (upd H' D (.dT kvs)) s' /\ FpOk X pins (upd H' D (.dT kvs)) C:=by
  have neD:∀ b o,s₂.heap.get? b = some o -> b ≠ D:=fun b o e=>Nat.ne_of_lt (Nat.lt_of_lt_of_le (Heap.lt_size e) hD)
  have nm:∀ b o,s₂.heap.get? b = some o -> b ∉ fp -> b ∉ D :: fp:=fun b o e h z=>(List.mem_cons.mp z).elim (neD b o e) h
  have U:=I'.base
  have HC:upd H' D (.dT kvs) C = none:=by rw [zu (Ne.symm hDC)]; exact I'.free
  have fpc:FpOk X pins (upd H' D (.dT kvs)) C:=I.fpOk hC HC
  have tp:∀ b xs,H2 b = some (.tup xs) -> upd H' D (.dT kvs) b = some (.tup xs):=fun b xs e=>by have z:=U.tups b xs e; rw [zu (zA z hn)]; exact z
  have un:Un (frs X.stack) fp H2 (upd H' D (.dT kvs)) s₂.heap s'.heap :=
    { keep:=fun b o e n h1 h2=>U.keep b o (hs₀ b o e) n h1 (nm b o e h2)
      slot:=fun b o e n h1 h2=>U.slot b o (hs₀ b o e) n h1 (nm b o e h2)
      free:=fun b o e n h2=>by rw [zu (neD b o e)]; exact U.free b o (hs₀ b o e) n (nm b o e h2)
      there:=fun b o e h2=>U.there b o (hs₀ b o e) (nm b o e h2)
      tups:=tp
      frzs:=fun b o u e=>by have z:=U.frzs b o u e; rw [zu (zA z hn)]; exact z
      tbls:=fun b ps e=>by obtain ⟨more,z⟩:=U.tbls b ps e; exact ⟨more,by rw [zu (zA z hn)]; exact z⟩ }
  have hok:HOk X.prog X.w (upd H' D (.dT kvs)) s'.heap:=HOk.track I'.hok hn (rv.obj fun b xs e=>by have z:=hb b xs e; rw [zu (zA z hn)]; exact z)
  have IX:Inv X pins σ (upd H' D (.dT kvs)) s':=I.call' (I'.os.trans hos) un hok I'.bare fun b hb=>⟨(f2 b hb).2.2.2.1,(f2 b hb).2.1,(f2 b hb).2.2.2.2.1,(f2 b hb).2.2.2.2.2⟩
  refine ⟨IX.pins_of fun p hp=>?_,fpc⟩
  rcases List.mem_append.mp hp with hp | hp
  · exact IX.pin p (List.mem_append_right _ hp)
  · rw [List.mem_singleton.mp hp]
    exact ⟨ho,HC,fpc.2.1,fpc.2.2.1,hd⟩
end
def outR (k s l b:Nat):Nat:=wfN k s l (figI k s ((b % 2 ^ k:Nat):Int))
section
variable {k:Nat} {rows:List (List Int)}
theorem V0 {b:Nat}:b % 2 ^ k < 2 ^ k:=Nat.mod_lt _ (Nat.two_pow_pos k)
theorem outF {s l b:Nat} (k4:k <= 4) (s1:1 <= s) (sk:s <= k) (hl:l < 2 ^ k):WfF k s l (figI k s ((b % 2 ^ k:Nat):Int)):=wfF k4 s1 sk hl (TY k4 sk V0)
end
section
variable {c:TT} {e:TE} {i:Nat} {v v':V} {t u r:TS} {D:Ends} {σ:L2.St} {H:Hp} {rt:VK} {bk ct:L2.St -> Hp -> Prop}
theorem yy (h:t D (σ.set i (some v)) H):wO i v σ H ({ nx:=t D,rt:=rt,bk:=bk,ct:=ct }:Ends).nx:=h
theorem jy (e:v = v') (h:t D (σ.set i (some v')) H):wO i v σ H ({ nx:=t D,rt:=rt,bk:=bk,ct:=ct }:Ends).nx:=by subst e; exact h
theorem c_if (Good:L2.St -> Hp -> Prop) (hr:∀ σ' H',Good σ' H' -> r D σ' H') (hc:(∀ σ' H',Good σ' H' -> r D σ' H') -> tIfS c t u { D with nx:=r D } σ H):tSeq (tIfS c t u) r D σ H:=hc hr
theorem uA (Good:V -> Hp -> Prop) (hc:∀ K:VK,(∀ v H',Good v H' -> K v H') -> e σ H K) (hr:∀ v H',Good v H' -> t D (σ.set i (some v)) H'):tSeq (tAsg e (wO i)) t D σ H:=hc _ fun v H' g=>hr v H' g
theorem xU (h:t D σ H):Uz ({ nx:=t D,rt:=rt,bk:=bk,ct:=ct }:Ends) σ H:=h
theorem c_nx (h:t D σ H):({ nx:=t D,rt:=rt,bk:=bk,ct:=ct }:Ends).nx σ H:=h
theorem qu (Good:Bool -> Hp -> Prop) (hc:∀ K:Bool -> Hp -> Prop,(∀ b H',Good b H' -> K b H') -> c σ H K) (hr:∀ b H',Good b H' -> if b = true then t { D with nx:=r D } σ H' else u { D with nx:=r D } σ H'):tSeq (tIfS c t u) r D σ H:=hc _ hr
end
theorem Z6:∀ k:Fin 5,∀ b:Fin 16,Builtin.bitAnd (b.val:Int) (1 * 2 ^ ((k.val:Int)).toNat - 1) = ((b.val % 2 ^ k.val:Nat):Int):=by decide +kernel
theorem WN {k b:Nat} (k4:k <= 4) (hb:b < 16):Builtin.bitAnd (b:Int) (1 * 2 ^ ((k:Int)).toNat - 1) = ((b % 2 ^ k:Nat):Int):=Z6 ⟨k,by omega⟩ ⟨b,hb⟩
def qv (_:FG7):Sp:=sp2 fun x y H Q=>∃ (k b:Nat),x = .int k /\ y = .int b /\ k <= 4 /\ b < 16 /\ Q (.int ((b % 2 ^ k:Nat):Int)) H
theorem qw:typeLookup (.type "list") "keys" = pure none:=by rw [typeLookup_type,builtinLookup_eq_fast]; kernel_rfl
theorem wq:typeLookup (.type "list") "__getattr__" = pure none:=by rw [typeLookup_type,builtinLookup_eq_fast]; kernel_rfl
section
variable {prog:Program} {w:World} {A:Around} {E:VS7}
theorem Z7 (a:Addr) (u:Tok):MeetsIn prog w (Builtin.«object.__getattribute__» ⟨[.ref a,.str "keys" u],[]⟩)
  (fun A R s=>A.handled = none /\ (∃ its n,s.heap.get? a = some { cls:=.type "list",data:=.seq its n }) /\ ∀ h' tk e,Heap.NewAttrErr s.heap h' e (.ref a) "keys" -> R (.error (.ref e)) { s with heap:=h',toks:=tk }) :=
 .of_wp fun A R s ⟨hh,⟨its,n,hx⟩,hR⟩=>by
  obtain ⟨h,g,d,t,os⟩:=s
  have hT:(⟨h,g,d,t,os⟩:Shared).TypeIs (.ref a) "list":=⟨_,hx,rfl⟩
  have f4:=qw
  unfold Builtin.«object.__getattribute__»
  repeat (any_goals (first | assumption | wp_step))
  exact wpAny_raiseAttrError hh hR (attrMsg_fits (by decide +kernel) (by size_fits))
theorem u4 {s:Shared} {a:Addr} {its:Array Value} {n:Nat} {Q:Option Value -> Shared -> Prop} (hx:s.heap.get? a = some { cls:=.type "list",data:=.seq its n }) (hA:A.handled = none)
  (hq:∀ h' tk,(∀ b o,s.heap.get? b = some o -> h'.get? b = some o) -> Q none { s with heap:=h',toks:=tk }) :
  wpAny (model prog w) A (getAttr? (.ref a) "keys") Q E s:=by
 obtain ⟨h,g,d,t,os⟩:=s
 have hT:∀ t',(⟨h,g,d,t',os⟩:Shared).TypeIs (.ref a) "list":=fun _=>⟨_,hx,rfl⟩
 have f1:=sub_AttributeError
 have f3:=F.slot_list_getattribute.lookup
 have f4:=F.slot_list_getattribute.bind (.ref a)
 have f5:=wq
 unfold getAttr? getAttrBy? getAttrBy
 repeat (any_goals (first | assumption | exact hT _ | ((with_reducible show wpAny _ _ (call (Value.builtin "list.__getattribute__") _ _) _ _ _); refine call_meetsIn F.slot_list_getattribute (hT _) F.entry_list_ga (F.args_list_getattribute_2 _ _) (Z7 a _) ⟨hA,⟨_,_,hx⟩,fun h' tk' e hxx=>?_⟩) | wp_step))
 obtain ⟨t',u',he⟩:=hxx.there
 show wpAny _ _ (getattributeRaised _ _ _ _ _ _ _) _ _ _
 unfold getattributeRaised
 have hE:∀ t2,(⟨h',g,d,t2,os⟩:Shared).TypeIs (.ref e) "AttributeError":=fun _=>⟨_,he,rfl⟩
 repeat (any_goals (first | assumption | exact hE _ | wp_step))
 exact hq _ _ hxx.keeps
end
def u5 (ps:List (Key × V)):List (Key × V):=ps.foldl (fun d p=>putK d p.1 p.2) []
theorem qz (ps:List (Key × V)):(u5 ps).length <= ps.length:=by
 have go:∀ (ps d:List (Key × V)),(ps.foldl (fun d p=>putK d p.1 p.2) d).length <= d.length + ps.length:=by
  intro ps
  induction ps with
  | nil=>intro d; exact Nat.le_refl _
  | cons p ps ih =>
   intro d
   have h1:=ih (putK d p.1 p.2)
   have h2:=xh d p.1 p.2
   rw [List.foldl_cons,List.length_cons]
   omega
 have:=go ps []
 rw [List.length_nil,Nat.zero_add] at this
 exact this
theorem Z8 {ps:List (Key × V)} {i:Nat} {p:Key × V} (h:ps[i]? = some p):u5 (ps.take (i + 1)) = putK (u5 (ps.take i)) p.1 p.2:=by
 unfold u5
 rw [List.take_succ,h,Option.toList_some,List.foldl_append]
 rfl
theorem tV:entryFor table "dict.update.loop" = some Builtin.«dict.update.loop»:=entryFor_of_tree (by kernel_rfl)
theorem wj:plainId "dict.update.loop" = true:=by decide +kernel
theorem qA:∀ {zs:List V} {us:List Value} {i:Nat} {u:Value},Vals zs us -> us[i]? = some u -> ∃ z,zs[i]? = some z /\ RelV z u
 | _,_,_,_,.nil,h=>by cases h
 | _,_,0,_,.cons r _,h=>by cases h; exact ⟨_,rfl,r⟩
 | _,_,i + 1,_,.cons _ t,h=>qA (i:=i) t h
def jz (H:Hp) (ys:List V) (ps:List (Key × V)):Prop:=ys.length = ps.length /\ ∀ (i:Nat) (p:Key × V),ps[i]? = some p -> ∃ t,ys[i]? = some (V.ref t) /\ H t = some (.tup [kV p.1,p.2])
section
variable {prog:Program} {w:World} {A:Around} {E:VS7} {R:Result -> Shared -> Prop} {I D:Addr} {fp wr:List Addr} {n:Nat} {P:Nat -> Value -> Prop} {St:Nat -> Heap -> Prop} {H:Hp} {s₀:Shared}
theorem Z9 {zs:List V} {ps:List (Key × V)} (ok:HOk prog w H s₀.heap) (W:Walks prog w A.in1 I fp wr n P St) (hDf:D ∉ fp) (hD:s₀.heap.objs.size <= D) (hwr:∀ b ∈ wr,s₀.heap.objs.size <= b)
  (hn:n <= sizeLine) (hpl:ps.length = n) (ha:jz H zs ps) (hP:∀ i v,P i v -> ∃ z,zs[i]? = some z /\ RelV z v) :
  ∀ (k i:Nat) (s:Shared),n - i = k -> i <= n -> St i s.heap -> (∀ b o,b ≠ D -> b ∉ wr -> s₀.heap.get? b = some o -> s.heap.get? b = some o) -> (∃ us,KV (u5 (ps.take i)) us /\ s.heap.DictOf (zM prog w) D us) →
   (∀ h' tk,(∀ b o,b ≠ D -> b ∉ wr -> s₀.heap.get? b = some o -> h'.get? b = some o) -> (∃ us,KV (u5 ps) us /\ h'.DictOf (zM prog w) D us) -> R (.ok (.ret .none)) { s with heap:=h',toks:=tk }) →
   codeAny (model prog w) A (.builtin "dict.update.loop" ⟨[.ref D,.ref I,rawInt i,.none],[]⟩) R s:=by
 have hDw:D ∉ wr:=fun h=>hDf (W.sub _ h)
 have old:∀ b o,s₀.heap.get? b = some o -> b ≠ D /\ b ∉ wr:=fun b o e=>⟨Nat.ne_of_lt (Nat.lt_of_lt_of_le (Heap.lt_size e) hD),fun z=>absurd (Heap.lt_size e) (Nat.not_lt.mpr (hwr b z))⟩
 intro k
 induction k with
 | zero =>
  intro i s hk hi hst kp hS hR
  have hin:i = n:=by omega
  subst hin
  refine codeAny_builtin tV ?_
  rw [Around.under_plainId wj _]
  show wpAny _ A.in1 (pyNext (.ref I) >>= _) _ _ s
  refine wpAny_bind (W.done s _ _ hst fun h' tk hm=>?_)
  show wpAny _ A.in1 (Builtin.Dict.addKeywords D [] >>= fun _=>ret Value.none) _ _ _
  unfold Builtin.Dict.addKeywords
  refine wpAny_bind (wpAny_pure (wpAny_pure (hR h' tk (fun b o h1 h2 e=>hm b o h2 (kp b o h1 h2 e)) ?_)))
  obtain ⟨us,v1,o,es,ep,ho,r⟩:=hS
  rw [← hpl,List.take_length] at v1
  exact ⟨us,v1,o,es,ep,hm D o hDw ho,r⟩
 | succ k ih =>
  intro i s hk hi hst kp hS hR
  have hlt:i < n:=by omega
  refine codeAny_builtin tV ?_
  rw [Around.under_plainId wj _]
  show wpAny _ A.in1 (pyNext (.ref I) >>= _) _ _ s
  refine wpAny_bind (W.item i s _ _ hlt hst fun v h1 tk1 hPv hst1 hk1=>?_)
  obtain ⟨z,hz,rz⟩:=hP i v hPv
  obtain ⟨x,hx⟩:∃ x,ps[i]? = some x:=⟨_,List.getElem?_eq_getElem (by omega)⟩
  obtain ⟨t,hzt,ht⟩:=ha.2 i x hx
  rw [hz] at hzt
  obtain rfl:=Option.some.inj hzt
  cases (show v = Value.ref t from rz)
  have kp1:∀ b o,b ≠ D -> b ∉ wr -> s₀.heap.get? b = some o -> h1.get? b = some o:=fun b o h1 h2 e=>hk1 b o h2 (kp b o h1 h2 e)
  have kps:∀ b o,s₀.heap.get? b = some o -> h1.get? b = some o:=fun b o e=>kp1 b o (old b o e).1 (old b o e).2 e
  obtain ⟨_,its,rits,hit⟩:=(show yj prog w H s₀.heap t (.tup [kV x.1,x.2]) from ok t _ ht)
  obtain ⟨u1,uv,rfl,r1,rv⟩:∃ u1 uv,its = [u1,uv] /\ RelV (kV x.1) u1 /\ RelV x.2 uv:=by
   cases rits with
   | cons a c=>cases c with | cons b d=>cases d; exact ⟨_,_,rfl,a,b⟩
  obtain ⟨ot,hot,hct,m,hdt⟩:=hit
  have hot1:=kps t ot hot
  obtain ⟨us,v1,o,es,ep,ho,r⟩:=hS
  have ul:us.length <= i:=by have:=v1.length; have h2:=qz (ps.take i); rw [List.length_take] at h2; omega
  have dd:h1.DictOf (zM prog w) D us:=⟨o,es,ep,hk1 D o hDw ho,r⟩
  refine wpAny_bind (wpAny_holding ?_)
  show wpAny _ A.in1 ((Builtin.Dict.pairItems (.ref t)).tryCatch _ >>= _) _ _ _
  refine wpAny_bind (wpAny_tryCatch ?_)
  unfold Builtin.Dict.pairItems
  refine wpAny_bind (wpAny_typeOf (T:="tuple") ⟨ot,hot1,hct⟩ ?_)
  show wpAny _ _ (if (Value.type "tuple" == Value.type "list" || Value.type "tuple" == Value.type "tuple") = true then _ else _) _ _ _
  rw [if_pos (by decide)]
  refine wpAny_bind (wpAny_seqItems hot1 hdt (wpAny_pure ?_))
  show wpAny _ _ (holding [u1,uv] (dictSet D u1 uv)) _ _ _
  refine wpAny_holding ?_
  refine wpAny_dictSet_pairs (knd:=zM prog w) (k:=x.1) (hsz:=by omega) (Xj r1) dd fun h2 dd2 sb=>?_
  refine wpAny_pure ⟨plainId_quiet wj _,?_⟩
  have e1:((i:Int) + 1) = ((i + 1:Nat):Int):=by omega
  have kp2:∀ b o,b ≠ D -> b ∉ wr -> s₀.heap.get? b = some o -> h2.get? b = some o:=fun b o hb hw e=>sb.extBut b o hb (kp1 b o hb hw e)
  show codeAny (model prog w) A (.builtin "dict.update.loop" ⟨[.ref D,.ref I,rawInt ((i:Int) + 1),.none],[]⟩) R _
  rw [e1]
  refine ih (i + 1) _ (by omega) hlt (W.frame _ _ _ hst1 fun b hb o e=>sb.extBut b o (fun h=>hDf (h ▸ hb)) e) kp2 ⟨_,?_,dd2⟩ fun h' tk k' d'=>hR h' tk k' d'
  rw [Z8 hx]
  exact v1.put _ rv
end
section
variable {X:Cx}
theorem Ya {k:Nat} (hr:Room k X.A):xV X (.type "dict") (fun xs H Q=>∃ a zs ps,xs = [V.ref a] /\ H a = some (.lst zs) /\ jz H zs ps /\ ∀ l,H l = none -> Q (.ref l) (upd H l (.dK (u5 ps)))):=by
 intro pins s σ H xs us Q I r h
 obtain ⟨a,zs,ps,rfl,ha,hall,q⟩:=h
 obtain ⟨u,rfl,ru⟩:=wG r
 cases ru
 obtain ⟨z,its,m,rits,ea⟩:=(show yj X.prog X.w H s.heap a (.lst zs) from I.hok a _ ha)
 have zl:=hall.1
 have il:=rits.length
 refine callType_codes (Q₁:=fun obj s₁=>obj = .ref s.heap.objs.size /\ s₁ = { s with heap:=s.heap.push { cls:=.type "dict",data:=.dict #[] } }) F.kt_called_dict (F.kt_typeCall_dict_1 _) F.entry_dict_init (kt_code_dict_new _ ⟨rfl,rfl⟩) ?_
 rintro obj s₁ ⟨rfl,rfl⟩
 have hT:(s.heap.push { cls:=.type "dict",data:=.dict #[] }).get? s.heap.objs.size = some { cls:=.type "dict",data:=.dict #[] }:=Heap.get?_push_size _ rfl
 refine ⟨⟨_,hT,rfl⟩,F.args_dict_init_2 _ _,?_⟩
 unfold Builtin.«dict.__init__»
 refine wpAny_bind ?_
 unfold Builtin.Dict.selfAndRest
 refine wpAny_bind (wpAny_notOrdered_dict ⟨_,hT,rfl⟩ (show wpAny _ _ (pure (s.heap.objs.size,[Value.ref a])) _ _ _ from wpAny_pure ?_))
 show wpAny _ _ (Builtin.Dict.updateFrom "dict.__init__" s.heap.objs.size (.ref a) [] .none) _ _ _
 unfold Builtin.Dict.updateFrom
 have ea1:(s.heap.push { cls:=.type "dict",data:=.dict #[] }).get? a = some { cls:=.type "list",data:=.seq its.toArray m }:=Heap.get?_push_of_some _ ea
 refine wpAny_bind (wpAny_typeOf (T:="list") ⟨_,ea1,rfl⟩ ?_)
 rw [if_pos (by decide)]
 refine wpAny_bind (u4 ea1 hr.hd fun h1 tk1 k1=>?_)
 rw [if_pos (by rfl)]
 refine wpAny_bind (wpAny_rule ?_)
 have eah:h1.get? a = some { cls:=.type "list",data:=.seq its.toArray m }:=k1 _ _ ea1
 have hla:h1.IsList a its.toArray:=⟨_,eah,rfl,_,rfl⟩
 have hsz:s.heap.objs.size < h1.objs.size:=Heap.lt_size (k1 _ _ hT)
 have ks:∀ b o,s.heap.get? b = some o -> h1.get? b = some o:=fun b o e=>k1 b o (Heap.get?_push_of_some _ e)
 have alt:a < h1.objs.size:=Heap.lt_size eah
 refine wpAny_bind (wpAny_pyIter_list (l:=a) (items:=its.toArray) hla ?_)
 refine wpAny_pure ⟨plainId_quiet wj _,?_⟩
 refine Z9 (A:=X.A.in1) (H:=H) (s₀:=s) (D:=s.heap.objs.size) (I:=h1.objs.size) I.hok (Walks.list (A:=X.A.in1.in1) hr.hd h1.objs.size a (Nat.ne_of_lt alt) its.toArray) ?_ (Nat.le_refl _) ?_ (by rw [List.size_toArray,← il]; exact z) (by rw [List.size_toArray,← il,zl]) hall ?_ _ 0 _ rfl (Nat.zero_le _) ⟨⟨_,Heap.get?_push_size _ rfl,rfl,rfl⟩,hla.push _⟩ (fun b o _ _ e=>Heap.get?_push_of_some _ (ks b o e)) ⟨[],.nil,_,#[],0,Heap.get?_push_of_some _ (k1 _ _ hT),⟨rfl,rfl,rfl⟩,rfl,fun e he=>by simp at he,.nil,List.nodup_nil⟩ ?_
 ·intro hm
  simp only [List.mem_cons,List.mem_nil_iff,or_false] at hm
  rcases hm with e | e
  ·exact absurd e (Nat.ne_of_lt hsz)
  ·rw [← e] at ea; exact absurd (Heap.lt_size ea) (Nat.lt_irrefl _)
 ·intro b hb
  rw [List.mem_singleton.mp hb]; exact Nat.le_of_lt hsz
 ·intro i v hv
  exact qA rits (show its[i]? = some v by simpa using hv)
 ·rintro h' tk kp' ⟨us,rel,dd⟩
  have hf:H s.heap.objs.size = none:=I.hok.fresh (Nat.le_refl _)
  have hsM:(s.heap.objs.size == sysModules) = false:=beq_false_of_ne (Nat.ne_of_gt I.big)
  have hzz:(u5 ps).length <= sizeLine:=Nat.le_trans (qz ps) (by rw [← zl]; exact z)
  refine ⟨rfl,.ref s.heap.objs.size,_,I.laid (t':=tk) (o:=.dK (u5 ps)) (fun b ob e=>kp' b ob (Nat.ne_of_lt (Heap.lt_size e)) (fun w=>?_) e) (Nat.le_refl _) ⟨hzz,hsM,us,rel,dd⟩,rfl,q _ hf⟩
  have:=Heap.lt_size e
  rw [List.mem_singleton.mp w] at this; exact absurd hsz (Nat.not_lt.mpr (Nat.le_of_lt this))
end
structure OrdB (n:Nat) (lt:Nat -> Nat -> Bool):Prop where
 tr:∀ {i j k:Nat},lt i j = true -> lt j k = true -> lt i k = true
 as:∀ {i j:Nat},lt i j = true -> lt j i = false
 to:∀ {i j:Nat},i < n -> j < n -> i ≠ j -> lt i j = false -> lt j i = true
structure PmA (n:Nat) (p:Array Nat):Prop where
 sz:p.size = n
 pm:p.toList.Perm (List.range n)
theorem PmA.lt {n:Nat} {p:Array Nat} (h:PmA n p) {i:Nat} (hi:i < n):p.getD i 0 < n:=by
 have hi':i < p.toList.length:=by rw [Array.length_toList,h.sz]; exact hi
 have e:p.getD i 0 = p.toList[i]:=by simp [Array.getD,h.sz,hi]
 rw [e]
 exact List.mem_range.mp (h.pm.mem_iff.mp (List.getElem_mem hi'))
theorem PmA.inj {n:Nat} {p:Array Nat} (h:PmA n p) {i j:Nat} (hi:i < n) (hj:j < n) (hne:i ≠ j):p.getD i 0 ≠ p.getD j 0:=by
 have hi':i < p.toList.length:=by rw [Array.length_toList,h.sz]; exact hi
 have hj':j < p.toList.length:=by rw [Array.length_toList,h.sz]; exact hj
 have e:p.getD i 0 = p.toList[i]:=by simp [Array.getD,h.sz,hi]
 have e':p.getD j 0 = p.toList[j]:=by simp [Array.getD,h.sz,hj]
 rw [e,e']
 intro z
 exact hne ((List.getElem_inj (h.pm.nodup_iff.mpr List.nodup_range)).mp z)
theorem PmA.of_perm {n:Nat} {p q:Array Nat} (h:PmA n p) (hq:q.Perm p):PmA n q :=
 ⟨hq.size_eq.trans h.sz,(Array.perm_iff_toList_perm.mp hq).trans h.pm⟩
def Ups (lt:Nat -> Nat -> Bool) (p:Array Nat) (k:Nat):Prop:=∀ i j,i < j -> j < k -> lt (p.getD i 0) (p.getD j 0) = true
def jA (lt:Nat -> Nat -> Bool) (p:Array Nat) (k:Nat):Prop:=∀ i j,i < j -> j < k -> lt (p.getD j 0) (p.getD i 0) = true
theorem Zl {p q:Array Nat} {i j:Nat} (h:p[i]? = q[j]?):p.getD i 0 = q.getD j 0:=by
 rw [Array.getD_eq_getD_getElem?,Array.getD_eq_getD_getElem?,h]
section
variable {n:Nat} {lt:Nat -> Nat -> Bool} {cmp:Nat -> Nat -> (Bool -> Shared -> Prop) -> Shared -> Prop} {s:Shared}
def Says (n:Nat) (lt:Nat -> Nat -> Bool) (cmp:Nat -> Nat -> (Bool -> Shared -> Prop) -> Shared -> Prop) (s:Shared):Prop:=∀ i j (C:Bool -> Shared -> Prop),i < n -> j < n -> C (lt i j) s -> cmp i j C s
theorem Ups.snoc {p:Array Nat} {m:Nat} (o:OrdB n lt) (h1:1 <= m) (u:Ups lt p m) (e:lt (p.getD (m - 1) 0) (p.getD m 0) = true):Ups lt p (m + 1):=by
 intro i j hij hj
 by_cases hjm:j < m
 ·exact u i j hij hjm
 ·obtain rfl:j = m:=by omega
  by_cases hi:i = j - 1
  ·subst hi; exact e
  ·exact o.tr (u i (j - 1) (by omega) (by omega)) e
theorem sS (o:OrdB n lt) (hc:Says n lt cmp s) {p:Array Nat} (hp:PmA n p):∀ (f m:Nat) {Q:Nat -> Shared -> Prop},1 <= m -> m + f = n -> Ups lt p m →
  (∀ k,m <= k -> k <= n -> Ups lt p k -> (k = n \/ lt (p.getD k 0) (p.getD (k - 1) 0) = true) -> Q k s) -> (kas_asc p f m).kasWp cmp Q s
 | 0,m,Q,h1,e,u,q=>q m (Nat.le_refl _) (by omega) u (.inl (by omega))
 | f + 1,m,Q,h1,e,u,q=>by
  refine hc _ _ _ (hp.lt (by omega)) (hp.lt (by omega)) ?_
  cases c:lt (p.getD m 0) (p.getD (m - 1) 0) with
  | true =>
   dsimp only
   rw [if_pos rfl]
   exact q m (Nat.le_refl _) (by omega) u (.inr c)
  | false =>
   dsimp only
   rw [if_neg (by decide)]
   exact sS o hc hp f (m + 1) (by omega) (by omega) (u.snoc o h1 (o.to (hp.lt (by omega)) (hp.lt (by omega)) (hp.inj (by omega) (by omega) (by omega)) c)) fun k hk=>q k (by omega)
theorem jA.snoc {p:Array Nat} {m:Nat} (o:OrdB n lt) (h1:1 <= m) (u:jA lt p m) (e:lt (p.getD m 0) (p.getD (m - 1) 0) = true):jA lt p (m + 1):=by
 intro i j hij hj
 by_cases hjm:j < m
 ·exact u i j hij hjm
 ·obtain rfl:j = m:=by omega
  by_cases hi:i = j - 1
  ·subst hi; exact e
  ·exact o.tr e (u i (j - 1) (by omega) (by omega))
theorem qB (o:OrdB n lt) (hc:Says n lt cmp s) {p:Array Nat} (hp:PmA n p):∀ (f m:Nat) {Q:Array Nat × Nat × Nat -> Shared -> Prop},1 <= m -> m + f = n -> jA lt p m →
  (∀ k,m <= k -> k <= n -> jA lt p k -> Q (p,k,0) s) -> (kas_desc f p m 0).kasWp cmp Q s
 | 0,m,Q,h1,e,u,q=>q m (Nat.le_refl _) (by omega) u
 | f + 1,m,Q,h1,e,u,q=>by
  refine hc _ _ _ (hp.lt (by omega)) (hp.lt (by omega)) ?_
  cases c:lt (p.getD m 0) (p.getD (m - 1) 0) with
  | true =>
   dsimp only
   rw [if_pos rfl,if_neg (by decide)]
   exact qB o hc hp f (m + 1) (by omega) (by omega) (u.snoc o h1 c) fun k hk=>q k (by omega)
  | false =>
   dsimp only
   rw [if_neg (by decide)]
   refine hc _ _ _ (hp.lt (by omega)) (hp.lt (by omega)) ?_
   rw [o.to (hp.lt (by omega)) (hp.lt (by omega)) (hp.inj (by omega) (by omega) (by omega)) c]
   dsimp only
   rw [if_pos rfl]
   exact q m (Nat.le_refl _) (by omega) u
theorem V1 {p:Array Nat} {k:Nat} (hp:PmA n p) (hk:k <= n) (d:jA lt p k):Ups lt (kas_rev p 0 k) k:=by
 intro i j hij hj
 have g:∀ x,x < k -> (kas_rev p 0 k).getD x 0 = p.getD (k - 1 - x) 0:=fun x hx=>by
  refine Zl ?_
  unfold kas_rev
  rw [getElem?_mirror_all (by rw [hp.sz]; exact hk),if_pos (by omega)]
  congr 1; omega
 rw [g i (by omega),g j hj]
 exact d _ _ (by omega) (by omega)
theorem Xq (o:OrdB n lt) (hc:Says n lt cmp s) {p:Array Nat} (hp:PmA n p) {k:Nat} (h1:1 <= k) (hk:k <= n) (d:jA lt p k) {Q:Nat × Array Nat -> Shared -> Prop}
  (q:∀ m p',PmA n p' -> 1 <= m -> m <= n -> Ups lt p' m -> Q (m,p') s):(kas_tail3 k n p).kasWp cmp Q s:=by
 unfold kas_tail3
 rw [KasT.kasWp_bind]
 have hp':PmA n (kas_rev p 0 k):=hp.of_perm (mirror_perm _ _ _ _)
 exact sS o hc hp' (n - k) k h1 (by omega) (V1 hp hk d) fun m hm hm' u _=>q m _ hp' (by omega) hm' u
theorem Xr (o:OrdB n lt) (hc:Says n lt cmp s) {p:Array Nat} (hp:PmA n p) (h2:2 <= n) (c:lt (p.getD 1 0) (p.getD 0 0) = true) {Q:Nat × Array Nat -> Shared -> Prop}
  (q:∀ m p',PmA n p' -> 1 <= m -> m <= n -> Ups lt p' m -> Q (m,p') s):(kas_descPart 1 n p).kasWp cmp Q s:=by
 unfold kas_descPart
 rw [KasT.kasWp_bind]
 refine qB o hc hp (n - 2) 2 (by decide) (by omega) (fun i j hij hj=>?_) fun k hk hk' d=>?_
 ·obtain rfl:i = 0:=by omega
  obtain rfl:j = 1:=by omega
  exact c
 ·dsimp only
  rw [if_neg (by omega)]
  exact Xq o hc hp (by omega) hk' d q
theorem Yb (o:OrdB n lt) (hc:Says n lt cmp s) {p:Array Nat} (hp:PmA n p) (h2:2 <= n) {Q:Nat × Array Nat -> Shared -> Prop}
  (q:∀ m p',PmA n p' -> 1 <= m -> m <= n -> Ups lt p' m -> Q (m,p') s):(kas_count n p).kasWp cmp Q s:=by
 unfold kas_count
 rw [KasT.kasWp_bind]
 refine sS o hc hp (n - 1) 1 (Nat.le_refl _) (by omega) (fun i j hij hj=>by omega) fun k h1 hk u e=>?_
 by_cases hkn:k = n
 ·rw [if_pos (by simpa using hkn)]
  exact q k p hp h1 hk u
 rw [if_neg (by simpa using hkn)]
 have e:=e.resolve_left hkn
 by_cases hg:k > 1
 ·rw [if_pos hg]
  refine hc _ _ _ (hp.lt (by omega)) (hp.lt (by omega)) ?_
  rw [u 0 (k - 1) (by omega) (by omega)]
  dsimp only
  rw [if_pos rfl]
  exact q k p hp h1 hk u
 ·rw [if_neg hg]
  obtain rfl:k = 1:=by omega
  exact Xr o hc hp h2 e q
theorem vp (o:OrdB n lt) (hc:Says n lt cmp s) {p:Array Nat} (hp:PmA n p) {k:Nat} (hk:k < n) (u:Ups lt p k):∀ (f l r:Nat) {Q:Nat -> Shared -> Prop},l <= r -> r <= k -> r - l <= f →
  (∀ i,i < l -> lt (p.getD i 0) (p.getD k 0) = true) -> (∀ i,r <= i -> i < k -> lt (p.getD k 0) (p.getD i 0) = true) →
  (∀ x,x <= k -> (∀ i,i < x -> lt (p.getD i 0) (p.getD k 0) = true) -> (∀ i,x <= i -> i < k -> lt (p.getD k 0) (p.getD i 0) = true) -> Q x s) -> (kas_place p k f l r).kasWp cmp Q s
 | 0,l,r,Q,h1,h2,h3,a,b,q=>q l (by omega) a fun i hi=>b i (by omega)
 | f + 1,l,r,Q,h1,h2,h3,a,b,q=>by
  unfold kas_place
  by_cases hlr:l >= r
  ·rw [if_pos hlr]
   exact q l (by omega) a fun i hi=>b i (by omega)
  rw [if_neg hlr]
  refine hc _ _ _ (hp.lt hk) (hp.lt (by omega)) ?_
  cases c:lt (p.getD k 0) (p.getD ((l + r) / 2) 0) with
  | true =>
   dsimp only
   rw [if_pos rfl]
   refine vp o hc hp hk u f l ((l + r) / 2) (by omega) (by omega) (by omega) a (fun i hi hik=>?_) q
   by_cases e:i = (l + r) / 2
   ·rw [e]; exact c
   ·exact o.tr c (u _ i (by omega) hik)
  | false =>
   dsimp only
   rw [if_neg (by decide)]
   have c':=o.to (hp.lt hk) (hp.lt (by omega)) (hp.inj hk (by omega) (by omega)) c
   refine vp o hc hp hk u f ((l + r) / 2 + 1) r (by omega) h2 (by omega) (fun i hi=>?_) b q
   by_cases e:i = (l + r) / 2
   ·rw [e]; exact c'
   ·exact o.tr (u i _ (by omega) (by omega)) c'
theorem V2 {p:Array Nat} {k x:Nat} (o:OrdB n lt) (hp:PmA n p) (hk:k < n) (u:Ups lt p k) (hx:x <= k) (a:∀ i,i < x -> lt (p.getD i 0) (p.getD k 0) = true) (b:∀ i,x <= i -> i < k -> lt (p.getD k 0) (p.getD i 0) = true):Ups lt (bubble p k (k - x)) (k + 1):=by
 have g:=fun i=>getElem?_bubble (xs:=p) (src:=k) (by rw [hp.sz]; exact hk) (k - x) (by omega) i
 have e:k - (k - x) = x:=by omega
 rw [e] at g
 have g1:∀ i,i < x -> (bubble p k (k - x)).getD i 0 = p.getD i 0:=fun i hi=>Zl (by rw [g,if_neg (by omega),if_neg (by omega)])
 have g2:(bubble p k (k - x)).getD x 0 = p.getD k 0:=Zl (by rw [g,if_pos rfl])
 have g3:∀ i,x < i -> i <= k -> (bubble p k (k - x)).getD i 0 = p.getD (i - 1) 0:=fun i hi hik=>Zl (by rw [g,if_neg (by omega),if_pos ⟨hi,hik⟩])
 intro i j hij hj
 rcases Nat.lt_trichotomy j x with h | h | h
 ·rw [g1 i (by omega),g1 j h]; exact u i j hij (by omega)
 ·subst h; rw [g1 i hij,g2]; exact a i hij
 ·rw [g3 j h (by omega)]
  rcases Nat.lt_trichotomy i x with h' | h' | h'
  ·rw [g1 i h']; exact u i _ (by omega) (by omega)
  ·subst h'; rw [g2]; exact b _ (by omega) (by omega)
  ·rw [g3 i h' (by omega)]; exact u _ _ (by omega) (by omega)
theorem Zm (o:OrdB n lt) (hc:Says n lt cmp s):∀ (f:Nat) (p:Array Nat) (k:Nat) {Q:Array Nat -> Shared -> Prop},PmA n p -> k + f = n -> Ups lt p k -> (∀ p',PmA n p' -> Ups lt p' n -> Q p' s) -> (kas_bin f p k).kasWp cmp Q s
 | 0,p,k,Q,hp,e,u,q=>q p hp (by rw [← show k = n by omega]; exact u)
 | f + 1,p,k,Q,hp,e,u,q=>by
  unfold kas_bin
  rw [KasT.kasWp_bind]
  refine vp o hc hp (by omega) u k 0 k (Nat.zero_le _) (Nat.le_refl _) (by omega) (fun i hi=>by omega) (fun i h1 h2=>by omega) fun x hx a b=>?_
  exact Zm o hc f _ (k + 1) (hp.of_perm (bubble_perm _ _ _)) (by omega) (V2 o hp (by omega) u hx a b) q
theorem Xs (o:OrdB n lt) (hc:Says n lt cmp s) (h2:2 <= n) {Q:Array Nat -> Shared -> Prop} (q:∀ p,PmA n p -> Ups lt p n -> Q p s):(kas_sort n).kasWp cmp Q s:=by
 unfold kas_sort
 rw [KasT.kasWp_bind]
 have h0:PmA n (List.toArray (List.range n)):=⟨by simp,by simp⟩
 refine Yb o hc h0 h2 fun m p hp h1 hm u=>?_
 by_cases hmn:m < n
 ·rw [if_pos hmn]
  have e:max m 1 = m:=by omega
  show (kas_bin (n - max m 1) p (max m 1)).kasWp cmp Q s
  rw [e]
  exact Zm o hc (n - m) p m hp (by omega) u q
 ·rw [if_neg hmn]
  obtain rfl:m = n:=by omega
  exact q p hp u
end
section
variable {prog:Program} {w:World} {A:Around} {E:VS7} {s:Shared}
def Asks (prog:Program) (w:World) (A:Around) (s:Shared) (a:Addr) (vs:List Value) (lt:Nat -> Nat -> Bool):Prop:=∃ κ,∀ h':Heap,(∀ b ob,b ≠ a -> s.heap.get? b = some ob -> h'.get? b = some ob) →
 (∀ (Q:SortKind -> Shared -> Prop) (E':VS7),Q κ { s with heap:=h' } -> wpAny (model prog w) A (keyKind' vs.toArray) Q E' { s with heap:=h' }) /\ Says vs.length lt (kas_ask prog w A κ vs) { s with heap:=h' }
theorem Xt (vs:List Value):((List.range vs.length).map fun i=>vs.getD i Value.none) = vs:=by
 refine List.ext_getElem? fun i=>?_
 rw [List.getElem?_map]
 by_cases h:i < vs.length
 ·rw [List.getElem?_range h]
  show some (vs.getD i Value.none) = _
  rw [List.getD_eq_getElem?_getD,List.getElem?_eq_getElem h]; rfl
 ·rw [List.getElem?_eq_none (by rw [List.length_range]; omega),List.getElem?_eq_none (by omega)]; rfl
theorem Xu {a:Addr} {vs:List Value} {n:Nat} {P:PySem.Fin -> Shared -> Prop} {lt:Nat -> Nat -> Bool} (here:s.heap.get? a = some (seqObj "list" vs.toArray n)) (few:vs.length < 64) (o:OrdB vs.length lt) (asks:2 <= vs.length -> Asks prog w A s a vs lt)
  (fin:∀ p,PmA vs.length p -> Ups lt p vs.length -> P (.done (.ret .none)) { s with heap:=sortedHeap s.heap a vs (List.toArray (p.toList.map fun i=>vs.getD i Value.none)) }) :
  wpAny (model prog w) A (Builtin.«list.sort» ⟨[.ref a],[]⟩) P E s:=by
 have low:a < s.heap.objs.size:=Heap.lt_size here
 obtain ⟨ep,emp⟩:∃ ep,(s.heap.update a (Obj.mapSeq fun _=>(#[]:Array Value))).get? a = some (seqObj "list" #[] ep):=⟨_,get?_update_seq here fun _=>#[]⟩
 have big:sizeLine = sizeLine:=rfl
 have fits:vs.length <= sizeLine:=by have:=sizeLine_eq; omega
 have empty:(((s.heap.update a (Obj.mapSeq fun _=>(#[]:Array Value))).push (seqObj "tuple" vs.toArray 0)).push (seqObj "list" #[] 0)).get? a = some (seqObj "list" #[] ep):=Heap.get?_push_of_some _ (Heap.get?_push_of_some _ emp)
 have old:∀ b ob,b ≠ a -> s.heap.get? b = some ob -> (((s.heap.update a (Obj.mapSeq fun _=>(#[]:Array Value))).push (seqObj "tuple" vs.toArray 0)).push (seqObj "list" #[] 0)).get? b = some ob:=fun b ob ne e =>
  Heap.get?_push_of_some _ (Heap.get?_push_of_some _ (by rw [Heap.get?_update_ne _ _ _ _ ne]; exact e))
 rw [list_sort_plain]
 refine wpAny_bind (listItems_at here rfl (wpAny_bind (listUpdate_at here rfl ?_ (by rw [List.size_toArray]; exact fits) (Nat.zero_le _))))
 refine wpAny_bind (seqEpoch_at emp rfl (wpAny_bind (wpAny_newTuple ?_ (by show vs.length <= _; exact fits))))
 refine wpAny_bind (wpAny_newList (wpAny_holding ?_) (Nat.zero_le _))
 show wpAny (model prog w) A _ P E { s with heap:=((s.heap.update a (Obj.mapSeq fun _=>(#[]:Array Value))).push (seqObj "tuple" vs.toArray 0)).push (seqObj "list" #[] 0),toks:=s.toks }
 have sz:vs.toArray.size = vs.length:=by simp
 by_cases h2:vs.toArray.size < 2
 ·rw [if_pos h2,if_pos h2]
  refine wpAny_bind (wpAny_pure ?_)
  dsimp only
  rw [StateT.run_pure]
  refine wpAny_bind (wpAny_pure (wpAny_bind (seqEpoch_at empty rfl (wpAny_bind (listUpdate_at empty rfl ?_ (Nat.zero_le _) ?_)))))
  ·have f:=fin (List.toArray (List.range vs.length)) ⟨by simp,by simp⟩ (fun i j hij hj=>by omega)
   have e:(List.toArray ((List.toArray (List.range vs.length)).toList.map fun i=>vs.getD i Value.none)) = (vs.toArray.zip vs.toArray).map (·.2):=by
    apply Array.toList_inj.mp
    rw [Array.toList_map]
    show (List.range vs.length).map (fun i=>vs.getD i Value.none) = _
    rw [Xt,Array.toList_zip]
    show vs = (vs.zip vs).map Prod.snd
    rw [List.map_snd_zip (Nat.le_refl _)]
   rw [e] at f
   have ne:(ep != ep) = false:=by simp
   show wpAny _ _ _ P E _
   simp only [ne,Bool.false_eq_true,if_false]
   exact wpAny_pure f
  ·show ((vs.toArray.zip vs.toArray).map (·.2)).size <= _
   rw [Array.size_map,Array.size_zip,sz]; omega
 have h2':2 <= vs.length:=by omega
 obtain ⟨κ,ok⟩:=asks h2'
 obtain ⟨kd,says⟩:=ok _ old
 rw [if_neg h2,if_neg h2]
 refine wpAny_bind (kd _ _ ?_)
 refine wpAny_bind (wpAny_mono (kat_run (ks:=vs) (Q:=fun st' s'=>s' = { s with heap:=((s.heap.update a (Obj.mapSeq fun _=>(#[]:Array Value))).push (seqObj "tuple" vs.toArray 0)).push (seqObj "list" #[] 0) } /\ failedOf st' = none /\ ∃ p,PmA vs.length p /\ Ups lt p vs.length /\ (arrOf st').map (·.2) = List.toArray (p.toList.map fun i=>vs.getD i Value.none)) (G:=fun p s'=>s' = { s with heap:=((s.heap.update a (Obj.mapSeq fun _=>(#[]:Array Value))).push (seqObj "tuple" vs.toArray 0)).push (seqObj "list" #[] 0) } /\ PmA vs.length p /\ Ups lt p vs.length) rfl h2' few
  (fun p st' s' _ har hf g=>⟨g.1,hf,p,g.2.1,g.2.2,kat_snds rfl har⟩) (Xs o says h2' fun p hp u=>⟨rfl,hp,u⟩)) ?_ fun _ _ e=>e)
 rintro ⟨⟨⟩,st'⟩ s' ⟨rfl,hf,p,hp,u,out⟩
 refine wpAny_bind (seqEpoch_at empty rfl (wpAny_bind (listUpdate_at empty rfl ?_ (Nat.zero_le _) ?_)))
 ·have f:=fin p hp u
  rw [← out] at f
  show wpAny _ _ _ P E _
  have ne:(ep != ep) = false:=by simp
  have hf':failedOf st' = none:=hf
  dsimp only
  rw [hf']
  simp only [ne,Bool.false_eq_true,if_false]
  exact wpAny_pure f
 ·show ((arrOf st').map (·.2)).size <= _
  rw [out,List.size_toArray,List.length_map,Array.length_toList,hp.sz]; omega
end
def ltL:List Int -> List Int -> Bool
 | [],[]=>false
 | [],_ :: _=>true
 | _ :: _,[]=>false
 | a :: as,b :: bs=>if a = b then ltL as bs else decide (a < b)
theorem Vo:∀ {a b c:List Int},ltL a b = true -> ltL b c = true -> ltL a c = true
 | [],[],_,h,_=>nomatch h
 | [],_ :: _,[],_,h=>nomatch h
 | [],_ :: _,_ :: _,_,_=>rfl
 | _ :: _,[],_,h,_=>nomatch h
 | _ :: _,_ :: _,[],_,h=>nomatch h
 | a :: as,b :: bs,c :: cs,h,k=>by
  unfold ltL at h k ⊢
  by_cases e:a = b
  ·subst e
   rw [if_pos rfl] at h
   by_cases e':a = c
   ·rw [if_pos e'] at k ⊢; exact Vo h k
   ·rw [if_neg e'] at k ⊢; exact k
  ·rw [if_neg e] at h
   have h:=of_decide_eq_true h
   by_cases e':b = c
   ·subst e'; rw [if_neg e]; exact decide_eq_true h
   ·rw [if_neg e'] at k
    have k:=of_decide_eq_true k
    rw [if_neg (by omega)]; exact decide_eq_true (by omega)
theorem Zn:∀ {a b:List Int},ltL a b = true -> ltL b a = false
 | [],[],h=>nomatch h
 | [],_ :: _,_=>rfl
 | _ :: _,[],h=>nomatch h
 | a :: as,b :: bs,h=>by
  unfold ltL at h ⊢
  by_cases e:a = b
  ·subst e; rw [if_pos rfl] at h ⊢; exact Zn h
  ·rw [if_neg e] at h; rw [if_neg (Ne.symm e)]
   have h:=of_decide_eq_true h
   exact decide_eq_false (by omega)
theorem Vp:∀ {a b:List Int},a ≠ b -> ltL a b = false -> ltL b a = true
 | [],[],h,_=>absurd rfl h
 | [],_ :: _,_,h=>nomatch h
 | _ :: _,[],_,_=>rfl
 | a :: as,b :: bs,n,h=>by
  unfold ltL at h ⊢
  by_cases e:a = b
  ·subst e; rw [if_pos rfl] at h ⊢; exact Vp (fun z=>n (by rw [z])) h
  ·rw [if_neg e] at h; rw [if_neg (Ne.symm e)]
   have h:=of_decide_eq_false h
   exact decide_eq_true (by omega)
theorem V3 {a:List Int}:ltL a a = false:=by
 cases h:ltL a a with
 | false=>rfl
 | true=>have:=Zn h; rw [h] at this; cases this
theorem Zo:∀ {a b:List (List Int)},a.Pairwise (fun x y=>ltL x y = true) -> b.Pairwise (fun x y=>ltL x y = true) -> a.Perm b -> a = b
 | [],b,_,_,p=>(List.Perm.nil_eq p)
 | x :: xs,[],_,_,p=>absurd p.length_eq (by simp)
 | x :: xs,y :: ys,ha,hb,p=>by
  obtain ⟨a1,a2⟩:=List.pairwise_cons.mp ha
  obtain ⟨b1,b2⟩:=List.pairwise_cons.mp hb
  have e:x = y:=by
   by_cases e:x = y
   ·exact e
   ·have hx:x ∈ ys:=(List.mem_cons.mp (p.mem_iff.mp List.mem_cons_self)).resolve_left e
    have hy:y ∈ xs:=(List.mem_cons.mp (p.mem_iff.mpr List.mem_cons_self)).resolve_left (Ne.symm e)
    have:=Zn (a1 y hy)
    rw [b1 x hx] at this; cases this
  subst e
  rw [Zo a2 b2 ((List.perm_cons x).mp p)]
section
variable {prog:Program} {w:World} {A:Around} {E:VS7} {s:Shared} {b fin:Bool} {Q:Bool -> Shared -> Prop}
theorem Zp:∀ {us vs:List Value} {as bs:List Int} (i:Nat),IntsAre us as -> IntsAre vs bs -> fin = decide (as.length < bs.length) -> Q (ltL as bs) s -> KatLex prog w A b fin Q (us.zip vs) i s
 | _,_,_,_,i,.nil,.nil,e,q=>by rw [e]; exact kat_nil q
 | _,_,_,_,i,.nil,.cons _ _ _,e,q=>by rw [e]; exact kat_nil (by simpa [ltL] using q)
 | _,_,_,_,i,.cons _ _ _,.nil,e,q=>by rw [e]; exact kat_nil (by simpa [ltL] using q)
 | _,_,_,_,i,.cons x t hx,.cons y u hy,e,q=>by
  rename_i us as vs bs
  rw [List.zip_cons_cons]
  refine kat_cons (wpAny_eqBool_int (kat_go (fun h=>?_) fun h=>?_))
  ·have h:=eq_of_beq h
   subst h
   refine kat_yes (Zp (i + 1) hx hy (by rw [e]; simp) ?_)
   unfold ltL at q
   rw [if_pos rfl] at q
   exact q
  ·have h:=ne_of_beq_false h
   unfold ltL at q
   rw [if_neg h] at q
   refine kat_no ?_
   cases (b && i == 0) with
   | true=>exact oneLt_int q
   | false=>exact kat_one _ _ (PyProof.Rows.lt_int (show PySem.W.BoolBack Q (.bool (decide (x < y))) s from q))
structure RowAt (h:Heap) (v:Value) (row:List Int) (x:Addr) (ob:Obj) (its:Array Value) (n:Nat):Prop where
 e:v = .ref x
 g:h.get? x = some ob
 c:ob.cls = .type "tuple"
 d:ob.data = .seq its n
 i:IntsAre its.toList row
def Row1 (h:Heap) (v:Value) (row:List Int):Prop:=∃ x ob its n,RowAt h v row x ob its n
inductive Rows (h:Heap):List Value -> List (List Int) -> Prop
 | nil:Rows h [] []
 | cons {v vs row rows}:Row1 h v row -> Rows h vs rows -> Rows h (v :: vs) (row :: rows)
theorem Rows.len {h:Heap}:∀ {vs rows},Rows h vs rows -> vs.length = rows.length
 | _,_,.nil=>rfl
 | _,_,.cons _ t=>congrArg (· + 1) t.len
theorem Rows.get {h:Heap}:∀ {vs rows} {i:Nat},Rows h vs rows -> i < vs.length -> Row1 h (vs.getD i Value.none) (rows.getD i [])
 | _,_,_,.nil,hi=>absurd hi (by simp)
 | _,_,0,.cons r _,_=>r
 | _,_,i + 1,.cons _ t,hi=>by
  have:=t.get (i:=i) (by simpa using hi)
  exact this
theorem Rows.old {h h':Heap} (k:∀ x ob,h.get? x = some ob -> h'.get? x = some ob):∀ {vs rows},Rows h vs rows -> Rows h' vs rows
 | _,_,.nil=>.nil
 | _,_,.cons ⟨x,ob,its,n,r⟩ t=>.cons ⟨x,ob,its,n,r.e,k _ _ r.g,r.c,r.d,r.i⟩ (t.old k)
theorem Rows.tups {h:Heap}:∀ {vs rows},Rows h vs rows -> (∀ r ∈ rows,r ≠ []) -> ∃ fs,KatTups h vs fs /\ fs.length = vs.length /\ ∀ f ∈ fs,∃ n t,f = Value.int n t
 | _,_,.nil,_=>⟨[],.nil,rfl,fun f hf=>absurd hf (by simp)⟩
 | _,_,.cons ⟨x,ob,its,n,r⟩ t,ne=>by
  rename_i v vs row rows
  obtain ⟨fs,k,l,a⟩:=t.tups fun r hr=>ne r (List.mem_cons_of_mem _ hr)
  have hne:=ne row List.mem_cons_self
  obtain ⟨f,hf,n',t',rfl⟩:∃ f,its[0]? = some f /\ ∃ n t,f = Value.int n t:=by
   have hi:=r.i
   rw [← Array.getElem?_toList]
   revert hi
   generalize its.toList = us
   intro hi
   cases hi with
   | nil=>exact absurd rfl hne
   | cons n t _=>exact ⟨_,rfl,n,t,rfl⟩
  obtain rfl:=r.e
  exact ⟨Value.int n' t' :: fs,.cons r.g r.c r.d hf k,congrArg (· + 1) l,fun f hf=>by
   rcases List.mem_cons.mp hf with rfl | hf
   ·exact ⟨n',t',rfl⟩
   ·exact a f hf⟩
theorem Zq {rows:List (List Int)} (nd:rows.Nodup):OrdB rows.length (fun i j=>ltL (rows.getD i []) (rows.getD j [])) where
 tr:=Vo
 as:=Zn
 to:=fun {i j} hi hj hne h=>by
  refine Vp (fun z=>hne ?_) h
  have e:∀ {i:Nat} (h:i < rows.length),rows.getD i [] = rows[i]:=fun h=>by rw [List.getD_eq_getElem?_getD,List.getElem?_eq_getElem h]; rfl
  rw [e hi,e hj] at z
  exact (List.getElem_inj nd).mp z
theorem Xv {vs:List Value} {rows:List (List Int)} {a:Addr} (r:Rows s.heap vs rows) (ne:∀ r ∈ rows,r ≠ []) (ha:∀ x ob,s.heap.get? x = some ob -> (∃ v ∈ vs,v = .ref x) -> x ≠ a) (h2:2 <= vs.length):Asks prog w A s a vs (fun i j=>ltL (rows.getD i []) (rows.getD j [])):=by
 refine ⟨tuples' (Value.type "int" != Value.type "tuple"),fun h' k=>?_⟩
 have r':Rows h' vs rows:=by
  have go:∀ {vs' rows'},Rows s.heap vs' rows' -> (∀ v ∈ vs',v ∈ vs) -> Rows h' vs' rows':=by
   intro vs' rows' q
   induction q with
   | nil=>intro _; exact .nil
   | cons q t ih =>
    intro sub
    obtain ⟨x,ob,its,n,q⟩:=q
    exact .cons ⟨x,ob,its,n,q.e,k x ob (ha x ob q.g ⟨_,sub _ List.mem_cons_self,q.e⟩) q.g,q.c,q.d,q.i⟩ (ih fun v hv=>sub v (List.mem_cons_of_mem _ hv))
  exact go r fun v hv=>hv
 obtain ⟨fs,kt,fl,fi⟩:=r'.tups ne
 refine ⟨fun Q E' q=>kat_kind (s:={ s with heap:=h' }) (T:=.type "int") kt (by omega) (fun v hv=>?_) (by simp) q,fun i j C hi hj c=>?_⟩
 ·obtain ⟨n,t,rfl⟩:=fi v hv
  exact Looks.of_pure rfl
 ·obtain ⟨x,ox,xs,n,p⟩:=r'.get hi
  obtain ⟨y,oy,ys,m,q⟩:=r'.get hj
  unfold kas_ask
  rw [p.e,q.e]
  have l1:xs.toList.length = (rows.getD i []).length:=by have:=(xz p.i).length; rw [List.length_map] at this; exact this.symm
  have l2:ys.toList.length = (rows.getD j []).length:=by have:=(xz q.i).length; rw [List.length_map] at this; exact this.symm
  refine kat_lt (s:={ s with heap:=h' }) p.g p.d q.g q.d (Zp 0 p.i q.i ?_ c)
  rw [← l1,← l2,Array.length_toList,Array.length_toList]
end
section
variable {X:Cx} {K:FG7}
theorem Xw {pins:List (Addr × Obj)} {σ:L2.St} {H:Hp} {s:Shared} (I:Inv X pins σ H s):∀ {zs:List V} {rows:List (List Int)} {vs:List Value},AllR (yz X.K H) zs rows -> Vals zs vs -> Rows s.heap vs rows
 | [],[],_,_,.nil=>.nil
 | z :: zs,row :: rows,_,⟨h,t⟩,.cons r rs=>by
  obtain ⟨b,rfl,hb⟩:=h
  obtain ⟨its,rv,⟨ob,eo,ec,m,ed⟩,_⟩:=I.tuple hb
  refine .cons ⟨b,ob,its.toArray,m,r,eo,ec,ed,?_⟩ (Xw I t rs)
  show IntsAre its row
  exact tP rv
 | [],_ :: _,_,h,_=>h.elim
 | _ :: _,[],_,h,_=>h.elim
theorem qC {α:Type} {l:List α} {d:α} {is:List Nat} (h:is.Perm (List.range l.length)):(is.map fun i=>l.getD i d).Perm l:=by
 refine (h.map _).trans ?_
 have e:(List.range l.length).map (fun i=>l.getD i d) = l:=by
  refine List.ext_getElem? fun i=>?_
  rw [List.getElem?_map]
  by_cases h:i < l.length
  ·rw [List.getElem?_range h]
   show some (l.getD i d) = _
   rw [List.getD_eq_getElem?_getD,List.getElem?_eq_getElem h]; rfl
  ·rw [List.getElem?_eq_none (by rw [List.length_range]; omega),List.getElem?_eq_none (by omega)]; rfl
 rw [e]
end
section
variable {prog:Program} {w:World} {A:Around} {E:VS7} {s:Shared}
theorem Yc {l:Addr} {us:List Value} {Q:List Value -> Shared -> Prop} (tu:s.heap.IsList l us.toArray) (hu:us.length <= sizeLine)
  (q:Q us { s with heap:=(s.heap.push (seqObj "list" #[] 0)).update s.heap.objs.size (Obj.mapSeq (· ++ us.toArray)) }):wpAny (model prog w) A (collect (.ref l)) Q E s:=by
 obtain ⟨ob,eo,ec,m,ed⟩:=id tu
 have eo2:(s.heap.push (seqObj "list" #[] 0)).get? l = some ob:=Heap.get?_push_of_some _ eo
 unfold collect
 refine wpAny_bind (wpAny_runValue (codeAny_builtin entry_proto_collect' (show wpAny _ _ (do again (.builtin "list.__iadd__" ⟨[← newList [],.ref l],[]⟩)) _ _ s from ?_)))
 refine wpAny_bind (wpAny_newList (wpAny_pure ⟨Code.quiet_builtin _ (by decide +kernel),codeAny_builtin entry_list_iadd' (show wpAny _ _ (Builtin.List.listExtendWith (.ref s.heap.objs.size) (.ref l) (.ref s.heap.objs.size)) _ _ { s with heap:=s.heap.push (seqObj "list" #[] 0) } from ?_)⟩))
 unfold Builtin.List.listExtendWith
 refine wpAny_bind (wpAny_typeOf (T:="list") ⟨ob,eo2,ec⟩ ?_)
 have k1:(Value.type "list" == Value.type "list") = true:=rfl
 rw [if_pos (by simp [k1])]
 refine wpAny_bind (listItems_at eo2 ed (wpAny_bind (listItems_at (xs:=#[]) (n:=0) (Heap.get?_push_size _ rfl) rfl ?_)))
 rw [if_neg (by simp)]
 refine wpAny_bind (listUpdate_at (xs:=#[]) (n:=0) (Heap.get?_push_size _ rfl) rfl (wpAny_pure ?_) (Nat.zero_le _) (by show (#[] ++ us.toArray).size <= sizeLine + 1; simp only [Array.size_append,List.size_toArray,List.length_nil]; omega))
 refine wpAny_bind (wpAny_load (get?_update_seq (Heap.get?_push_size _ rfl) _) ?_)
 show wpAny _ _ (pure ((#[]:Array Value) ++ us.toArray).toList) Q E _
 rw [show ((#[]:Array Value) ++ us.toArray).toList = us by simp]
 exact wpAny_pure q
theorem wV {l:Addr} {vs:List Value} {Q:VS7} {lt:Nat -> Nat -> Bool} (tu:s.heap.IsList l vs.toArray) (few:vs.length < 64) (o:OrdB vs.length lt)
  (asks:2 <= vs.length -> ∀ s':Shared,(∀ b ob,s.heap.get? b = some ob -> s'.heap.get? b = some ob /\ b ≠ s.heap.objs.size + 1) -> Asks prog w A.in1.in1 s' (s.heap.objs.size + 1) vs lt)
  (fin:∀ p,PmA vs.length p -> Ups lt p vs.length -> Q (.ref (s.heap.objs.size + 1)) { s with heap:=sortedAll s.heap vs (List.toArray (p.toList.map fun i=>vs.getD i Value.none)) }) :
  wpAny (model prog w) A (call (.builtin "sorted") [.ref l]) Q E s:=by
 refine Calls.call_function_entry kind_sorted plain_sorted entry_sorted (args_sorted1 _) ?_
 unfold Builtin.«sorted»
 refine wpAny_bind (m:=checkCount "sorted" 1 1 _) (wpAny_pure (wpAny_bind (Yc tu (by rw [sizeLine_eq]; omega) (wpAny_bind (wpAny_newList ?_ (by rw [sizeLine_eq]; omega))))))
 have e1:((s.heap.push (seqObj "list" #[] 0)).update s.heap.objs.size (Obj.mapSeq (· ++ vs.toArray))).objs.size = s.heap.objs.size + 1:=by rw [Heap.size_update,size_push']
 have e2:(((s.heap.push (seqObj "list" #[] 0)).update s.heap.objs.size (Obj.mapSeq (· ++ vs.toArray))).push (seqObj "list" vs.toArray 0)).get? (s.heap.objs.size + 1) = some (seqObj "list" vs.toArray 0):=by
  rw [← e1]; exact Heap.get?_push_size _ rfl
 show wpAny _ _ _ _ _ { s with heap:=((s.heap.push (seqObj "list" #[] 0)).update s.heap.objs.size (Obj.mapSeq (· ++ vs.toArray))).push (seqObj "list" vs.toArray 0) }
 rw [e1]
 refine wpAny_bind (wpAny_holding (wpAny_call_entry slot_list_sort ⟨_,e2,rfl⟩ entry_list_sort (Xu (s:={ s with heap:=((s.heap.push (seqObj "list" #[] 0)).update s.heap.objs.size (Obj.mapSeq (· ++ vs.toArray))).push (seqObj "list" vs.toArray 0) }) e2 few o (fun h2=>asks h2 _ fun b ob e=>⟨?_,?_⟩) fun p hp u=>⟨_,rfl,wpAny_pure ⟨_,rfl,fin p hp u⟩⟩) (args_list_sort _)))
 ·have lo:b < s.heap.objs.size:=Heap.lt_size e
  refine Heap.get?_push_of_some _ ?_
  rw [Heap.get?_update_ne _ _ _ _ (Nat.ne_of_lt lo)]
  exact Heap.get?_push_of_some _ e
 ·exact Nat.ne_of_lt (Nat.lt_succ_of_lt (Heap.lt_size e))
end
section
variable {X:Cx} {K:FG7}
def V4 (K:FG7):List V -> Hp -> VK -> Prop:=fun xs H Q=>∃ (l:Addr) (zs:List V) (rows:List (List Int)),xs = [.ref l] /\ SqL K H l zs /\ AllR (yz K H) zs rows /\ rows.Nodup /\ (∀ r ∈ rows,r ≠ []) /\ rows.length < 64 ∧
 ∀ (p:Addr) (zs':List V) (rows':List (List Int)),H p = none -> rows'.Perm rows -> rows'.Pairwise (fun x y=>ltL x y = true) -> AllR (yz K H) zs' rows' -> Q (.ref p) (upd H p (.lst zs'))
theorem jB (hK:X.K = K):xV X (.builtin "sorted") (V4 K):=by
 subst hK
 intro pins s σ H xs us Q I r h
 obtain ⟨l,zs,rows,rfl,hl,hr,nd,ne,few,q⟩:=h
 obtain ⟨u,rfl,rx⟩:=wG r
 cases (show u = Value.ref l from rx)
 obtain ⟨vs,rv,pl,hz⟩:=I.list hl
 have e1:=rv.length
 have e2:=hr.len
 have R:=Xw I hr rv
 have e3:=R.len
 have o:=Zq nd
 rw [← e3] at o
 refine wV pl.isList (by omega) o (fun h2 s' k=>Xv (R.old fun x ob e=>(k x ob e).1) ne (fun x ob e ⟨v,hv,ev⟩=>?_) h2) fun p hp u=>?_
 ·subst ev
  obtain ⟨i,hi,ei⟩:=List.getElem_of_mem hv
  obtain ⟨x',ob',its,n,p⟩:=R.get hi
  have ex:vs.getD i Value.none = .ref x:=by rw [List.getD_eq_getElem?_getD,List.getElem?_eq_getElem hi,ei]; rfl
  rw [ex] at p
  cases p.e
  exact (k _ _ p.g).2
 ·obtain ⟨e,he⟩:=sortedAll_at s.heap vs (List.toArray (p.toList.map fun i=>vs.getD i Value.none))
  have hn:H (s.heap.objs.size + 1) = none:=I.hok.fresh (Nat.le_succ _)
  have mem:∀ i ∈ p.toList,i < vs.length:=fun i hi=>List.mem_range.mp (hp.pm.mem_iff.mp hi)
  have rl:∀ is:List Nat,(∀ i ∈ is,i < vs.length) -> Vals (is.map fun i=>zs.getD i .non) (is.map fun i=>vs.getD i Value.none):=by
   intro is
   induction is with
   | nil=>intro _; exact .nil
   | cons i is ih =>
    intro hm
    have hi:=hm i List.mem_cons_self
    refine .cons ?_ (ih fun j hj=>hm j (List.mem_cons_of_mem _ hj))
    obtain ⟨u,hu,ru⟩:=rv.get (List.getElem?_eq_getElem (show i < zs.length by omega))
    dsimp only
    rw [List.getD_eq_getElem?_getD,List.getD_eq_getElem?_getD,hu,List.getElem?_eq_getElem (show i < zs.length by omega)]
    exact ru
  have al:∀ is:List Nat,(∀ i ∈ is,i < vs.length) -> AllR (yz X.K H) (is.map fun i=>zs.getD i .non) (is.map fun i=>rows.getD i []):=by
   intro is
   induction is with
   | nil=>intro _; trivial
   | cons i is ih =>
    intro hm
    have hi:=hm i List.mem_cons_self
    refine ⟨?_,ih fun j hj=>hm j (List.mem_cons_of_mem _ hj)⟩
    obtain ⟨row,hrow,br⟩:=hr.get (List.getElem?_eq_getElem (show i < zs.length by omega))
    dsimp only
    rw [List.getD_eq_getElem?_getD,List.getD_eq_getElem?_getD,hrow,List.getElem?_eq_getElem (show i < zs.length by omega)]
    exact br
  have hpm:p.toList.Perm (List.range rows.length):=by rw [← e3]; exact hp.pm
  have pw:(p.toList.map fun i=>rows.getD i []).Pairwise (fun x y=>ltL x y = true):=by
   rw [List.pairwise_map,List.pairwise_iff_getElem]
   intro i j hi hj hij
   have g:∀ {i:Nat} (h:i < p.toList.length),p.getD i 0 = p.toList[i]:=fun {i} h=>by
    have h':i < p.size:=by simpa using h
    simp [Array.getD,h']
   have:=u i j hij (by rw [← hp.sz,← Array.length_toList]; exact hj)
   rw [g hi,g hj] at this
   exact this
  refine ⟨.ref (s.heap.objs.size + 1),_,?_,rfl,q _ (p.toList.map fun i=>zs.getD i .non) _ hn (qC hpm) pw (al _ mem)⟩
  refine I.laid (t':=s.toks) (fun b o q=>sortedAll_old q) (Nat.le_succ _) (show yj X.prog X.w _ _ _ (.lst (p.toList.map fun i=>zs.getD i .non)) from ⟨by rw [List.length_map,Array.length_toList,hp.sz]; have:=sizeLine_eq; omega,_,e,rl _ mem,he⟩)
end
section
variable {prog:Program} {w:World} {A:Around} {E:VS7} {s:Shared} {b fin:Bool} {Q:Bool -> Shared -> Prop}
theorem Xx {v:Value} {Q:Bool -> Shared -> Prop} (h:Q true s):wpAny (model prog w) A (eqBool v v) Q E s:=by
 unfold eqBool
 refine wpAny_holding ?_
 rw [if_pos (beq_self_eq_true v)]
 exact wpAny_bind (wpAny_rule (wpAny_pure h))
theorem tW:∀ {us:List Value} (i:Nat),Q fin s -> KatLex prog w A b fin Q (us.zip us) i s
 | [],_,q=>kat_nil q
 | u :: us,i,q=>by
  rw [List.zip_cons_cons]
  exact kat_cons (Xx (kat_yes (tW (i + 1) q)))
theorem qD:∀ {us vs rs ts:List Value} {as bs:List Int} (i:Nat),IntsAre us as -> IntsAre vs bs -> as.length = bs.length -> as ≠ bs -> Q (ltL as bs) s -> KatLex prog w A b fin Q ((us ++ rs).zip (vs ++ ts)) i s
 | _,_,_,_,_,_,i,.nil,.nil,_,ne,_=>absurd rfl ne
 | _,_,_,_,_,_,i,.nil,.cons _ _ _,l,_,_=>absurd l (by simp)
 | _,_,_,_,_,_,i,.cons _ _ _,.nil,l,_,_=>absurd l (by simp)
 | _,_,rs,ts,_,_,i,.cons x t hx,.cons y u hy,l,ne,q=>by
  rename_i us as vs bs
  rw [List.cons_append,List.cons_append,List.zip_cons_cons]
  refine kat_cons (wpAny_eqBool_int (kat_go (fun h=>?_) fun h=>?_))
  ·have h:=eq_of_beq h
   subst h
   refine kat_yes (qD (i + 1) hx hy (by simpa using l) (fun z=>ne (by rw [z])) ?_)
   unfold ltL at q
   rw [if_pos rfl] at q
   exact q
  ·have h:=ne_of_beq_false h
   unfold ltL at q
   rw [if_neg h] at q
   refine kat_no ?_
   cases (b && i == 0) with
   | true=>exact oneLt_int q
   | false=>exact kat_one _ _ (PyProof.Rows.lt_int (show PySem.W.BoolBack Q (.bool (decide (x < y))) s from q))
structure RowAtP (h:Heap) (v:Value) (row:List Int) (x:Addr) (ob:Obj) (its:Array Value) (n:Nat) (us rest:List Value):Prop where
 e:v = .ref x
 g:h.get? x = some ob
 c:ob.cls = .type "tuple"
 d:ob.data = .seq its n
 t:its.toList = us ++ rest
 i:IntsAre us row
def Ta (h:Heap) (v:Value) (row:List Int):Prop:=∃ x ob its n us rest,RowAtP h v row x ob its n us rest
inductive RowsP (h:Heap):List Value -> List (List Int) -> Prop
 | nil:RowsP h [] []
 | cons {v vs row rows}:Ta h v row -> RowsP h vs rows -> RowsP h (v :: vs) (row :: rows)
theorem RowsP.len {h:Heap}:∀ {vs rows},RowsP h vs rows -> vs.length = rows.length
 | _,_,.nil=>rfl
 | _,_,.cons _ t=>congrArg (· + 1) t.len
theorem RowsP.get {h:Heap}:∀ {vs rows} {i:Nat},RowsP h vs rows -> i < vs.length -> Ta h (vs.getD i Value.none) (rows.getD i [])
 | _,_,_,.nil,hi=>absurd hi (by simp)
 | _,_,0,.cons r _,_=>r
 | _,_,i + 1,.cons _ t,hi=>by
  have:=t.get (i:=i) (by simpa using hi)
  exact this
theorem RowsP.old {h h':Heap} (k:∀ x ob,h.get? x = some ob -> h'.get? x = some ob):∀ {vs rows},RowsP h vs rows -> RowsP h' vs rows
 | _,_,.nil=>.nil
 | _,_,.cons ⟨x,ob,its,n,us,rest,r⟩ t=>.cons ⟨x,ob,its,n,us,rest,r.e,k _ _ r.g,r.c,r.d,r.t,r.i⟩ (t.old k)
theorem RowsP.tups {h:Heap}:∀ {vs rows},RowsP h vs rows -> (∀ r ∈ rows,r ≠ []) -> ∃ fs,KatTups h vs fs /\ fs.length = vs.length /\ ∀ f ∈ fs,∃ n t,f = Value.int n t
 | _,_,.nil,_=>⟨[],.nil,rfl,fun f hf=>absurd hf (by simp)⟩
 | _,_,.cons ⟨x,ob,its,n,us,rest,r⟩ t,ne=>by
  rename_i v vs row rows
  obtain ⟨fs,k,l,a⟩:=t.tups fun r hr=>ne r (List.mem_cons_of_mem _ hr)
  have hne:=ne row List.mem_cons_self
  obtain ⟨f,hf,n',t',rfl⟩:∃ f,its[0]? = some f /\ ∃ n t,f = Value.int n t:=by
   have hi:=r.i
   rw [← Array.getElem?_toList,r.t]
   revert hi
   generalize us = us'
   intro hi
   cases hi with
   | nil=>exact absurd rfl hne
   | cons n t _=>exact ⟨_,rfl,n,t,rfl⟩
  obtain rfl:=r.e
  exact ⟨Value.int n' t' :: fs,.cons r.g r.c r.d hf k,congrArg (· + 1) l,fun f hf=>by
   rcases List.mem_cons.mp hf with rfl | hf
   ·exact ⟨n',t',rfl⟩
   ·exact a f hf⟩
theorem Yd {vs:List Value} {rows:List (List Int)} {a:Addr} {m:Nat} (r:RowsP s.heap vs rows) (nd:rows.Nodup) (m1:1 <= m) (hm:∀ r ∈ rows,r.length = m) (ha:∀ x ob,s.heap.get? x = some ob -> (∃ v ∈ vs,v = .ref x) -> x ≠ a) (h2:2 <= vs.length):Asks prog w A s a vs (fun i j=>ltL (rows.getD i []) (rows.getD j [])):=by
 refine ⟨tuples' (Value.type "int" != Value.type "tuple"),fun h' k=>?_⟩
 have ne:∀ r ∈ rows,r ≠ []:=fun r hr z=>by have:=hm r hr; rw [z] at this; have:0 = m:=this; omega
 have r':RowsP h' vs rows:=by
  have go:∀ {vs' rows'},RowsP s.heap vs' rows' -> (∀ v ∈ vs',v ∈ vs) -> RowsP h' vs' rows':=by
   intro vs' rows' q
   induction q with
   | nil=>intro _; exact .nil
   | cons q t ih =>
    intro sub
    obtain ⟨x,ob,its,n,us,rest,q⟩:=q
    exact .cons ⟨x,ob,its,n,us,rest,q.e,k x ob (ha x ob q.g ⟨_,sub _ List.mem_cons_self,q.e⟩) q.g,q.c,q.d,q.t,q.i⟩ (ih fun v hv=>sub v (List.mem_cons_of_mem _ hv))
  exact go r fun v hv=>hv
 have rl:=r'.len
 have get:∀ {i:Nat} (h:i < rows.length),rows.getD i [] = rows[i]:=fun h=>by rw [List.getD_eq_getElem?_getD,List.getElem?_eq_getElem h]; rfl
 obtain ⟨fs,kt,fl,fi⟩:=r'.tups ne
 refine ⟨fun Q E' q=>kat_kind (s:={ s with heap:=h' }) (T:=.type "int") kt (by omega) (fun v hv=>?_) (by simp) q,fun i j C hi hj c=>?_⟩
 ·obtain ⟨n,t,rfl⟩:=fi v hv
  exact Looks.of_pure rfl
 ·obtain ⟨x,ox,xs,n,us,rest,p⟩:=r'.get hi
  obtain ⟨y,oy,ys,m',us',rest',q⟩:=r'.get hj
  unfold kas_ask
  by_cases hij:i = j
  ·subst hij
   rw [p.e]
   refine kat_lt (s:={ s with heap:=h' }) p.g p.d p.g p.d (tW 0 ?_)
   dsimp only at c
   rw [V3] at c
   rw [decide_eq_false (Nat.lt_irrefl _)]; exact c
  ·rw [p.e,q.e]
   refine kat_lt (s:={ s with heap:=h' }) p.g p.d q.g q.d ?_
   rw [p.t,q.t]
   have hi':i < rows.length:=by omega
   have hj':j < rows.length:=by omega
   refine qD 0 p.i q.i ?_ (fun z=>hij ?_) c
   ·rw [get hi',get hj',hm _ (List.getElem_mem hi'),hm _ (List.getElem_mem hj')]
   ·rw [get hi',get hj'] at z
    exact (List.getElem_inj nd).mp z
end
section
variable {X:Cx} {K:FG7}
def Ye (K:FG7) (H:Hp) (z:V) (p:List Int × List V):Prop:=∃ r,z = .ref r /\ SqT K H r (p.1.map V.int ++ p.2)
def Tb (K:FG7):List V -> Hp -> VK -> Prop:=fun xs H Q=>∃ (l:Addr) (zs:List V) (items:List (List Int × List V)) (m:Nat),xs = [.ref l] /\ SqL K H l zs /\ AllR (Ye K H) zs items /\ (items.map (·.1)).Nodup /\ 1 <= m /\ (∀ p ∈ items,p.1.length = m) /\ items.length < 64 ∧
 ∀ (p:Addr) (zs':List V) (items':List (List Int × List V)),H p = none -> items'.Perm items -> items'.Pairwise (fun x y=>ltL x.1 y.1 = true) -> AllR (Ye K H) zs' items' -> Q (.ref p) (upd H p (.lst zs'))
theorem tX:∀ {ns:List Int} {rest:List V} {us:List Value},Vals (ns.map V.int ++ rest) us -> ∃ a b,us = a ++ b /\ IntsAre a ns
 | [],_,us,_=>⟨[],us,rfl,.nil⟩
 | n :: ns,rest,_,.cons r t=>by
  obtain ⟨a,b,rfl,h⟩:=tX (ns:=ns) (rest:=rest) t
  obtain ⟨tk,rfl⟩:=r
  exact ⟨_ :: a,b,rfl,.cons n tk h⟩
theorem Zr {pins:List (Addr × Obj)} {σ:L2.St} {H:Hp} {s:Shared} (I:Inv X pins σ H s):∀ {zs:List V} {items:List (List Int × List V)} {vs:List Value},AllR (Ye X.K H) zs items -> Vals zs vs -> RowsP s.heap vs (items.map (·.1))
 | [],[],_,_,.nil=>.nil
 | z :: zs,it :: items,_,⟨h,t⟩,.cons r rs=>by
  obtain ⟨b,rfl,hb⟩:=h
  obtain ⟨its,rv,⟨ob,eo,ec,m,ed⟩,_⟩:=I.tuple hb
  obtain ⟨a,c,e,hi⟩:=tX rv
  exact .cons ⟨b,ob,its.toArray,m,a,c,r,eo,ec,ed,e,hi⟩ (Zr I t rs)
 | [],_ :: _,_,h,_=>h.elim
 | _ :: _,[],_,h,_=>h.elim
theorem Yf (hK:X.K = K):xV X (.builtin "sorted") (Tb K):=by
 subst hK
 intro pins s σ H xs us Q I r h
 obtain ⟨l,zs,items,m,rfl,hl,hr,nd,m1,hm,few,q⟩:=h
 obtain ⟨rows,hrows⟩:∃ rows,rows = items.map (·.1):=⟨_,rfl⟩
 have rlen:rows.length = items.length:=by rw [hrows,List.length_map]
 rw [← hrows] at nd
 have hm':∀ r ∈ rows,r.length = m:=fun r hr=>by rw [hrows] at hr; obtain ⟨p,hp,rfl⟩:=List.mem_map.mp hr; exact hm p hp
 obtain ⟨u,rfl,rx⟩:=wG r
 cases (show u = Value.ref l from rx)
 obtain ⟨vs,rv,pl,hz⟩:=I.list hl
 have e1:=rv.length
 have e2:=hr.len
 have R:=Zr I hr rv
 rw [← hrows] at R
 have e3:=R.len
 have o:=Zq nd
 rw [← e3] at o
 refine wV pl.isList (by omega) o (fun h2 s' k=>Yd (R.old fun x ob e=>(k x ob e).1) nd m1 hm' (fun x ob e ⟨v,hv,ev⟩=>?_) h2) fun p hp u=>?_
 ·subst ev
  obtain ⟨i,hi,ei⟩:=List.getElem_of_mem hv
  obtain ⟨x',ob',its,n,us,rest,p⟩:=R.get hi
  have ex:vs.getD i Value.none = .ref x:=by rw [List.getD_eq_getElem?_getD,List.getElem?_eq_getElem hi,ei]; rfl
  rw [ex] at p
  cases p.e
  exact (k _ _ p.g).2
 ·obtain ⟨e,he⟩:=sortedAll_at s.heap vs (List.toArray (p.toList.map fun i=>vs.getD i Value.none))
  have hn:H (s.heap.objs.size + 1) = none:=I.hok.fresh (Nat.le_succ _)
  have mem:∀ i ∈ p.toList,i < vs.length:=fun i hi=>List.mem_range.mp (hp.pm.mem_iff.mp hi)
  have rl:∀ is:List Nat,(∀ i ∈ is,i < vs.length) -> Vals (is.map fun i=>zs.getD i .non) (is.map fun i=>vs.getD i Value.none):=by
   intro is
   induction is with
   | nil=>intro _; exact .nil
   | cons i is ih =>
    intro hm
    have hi:=hm i List.mem_cons_self
    refine .cons ?_ (ih fun j hj=>hm j (List.mem_cons_of_mem _ hj))
    obtain ⟨u,hu,ru⟩:=rv.get (List.getElem?_eq_getElem (show i < zs.length by omega))
    dsimp only
    rw [List.getD_eq_getElem?_getD,List.getD_eq_getElem?_getD,hu,List.getElem?_eq_getElem (show i < zs.length by omega)]
    exact ru
  have al:∀ is:List Nat,(∀ i ∈ is,i < vs.length) -> AllR (Ye X.K H) (is.map fun i=>zs.getD i .non) (is.map fun i=>items.getD i ([],[])):=by
   intro is
   induction is with
   | nil=>intro _; trivial
   | cons i is ih =>
    intro hm
    have hi:=hm i List.mem_cons_self
    refine ⟨?_,ih fun j hj=>hm j (List.mem_cons_of_mem _ hj)⟩
    obtain ⟨row,hrow,br⟩:=hr.get (List.getElem?_eq_getElem (show i < zs.length by omega))
    dsimp only
    rw [List.getD_eq_getElem?_getD,List.getD_eq_getElem?_getD,hrow,List.getElem?_eq_getElem (show i < zs.length by omega)]
    exact br
  have hpm:p.toList.Perm (List.range items.length):=by rw [← rlen,← e3]; exact hp.pm
  have pw:(p.toList.map fun i=>items.getD i ([],[])).Pairwise (fun x y=>ltL x.1 y.1 = true):=by
   rw [List.pairwise_map,List.pairwise_iff_getElem]
   intro i j hi hj hij
   have g:∀ {i:Nat} (h:i < p.toList.length),p.getD i 0 = p.toList[i]:=fun {i} h=>by
    have h':i < p.size:=by simpa using h
    simp [Array.getD,h']
   have:=u i j hij (by rw [← hp.sz,← Array.length_toList]; exact hj)
   rw [g hi,g hj] at this
   have gg:∀ n:Nat,rows.getD n [] = (items.getD n ([],[])).1:=fun n=>by
    rw [hrows,List.getD_eq_getElem?_getD,List.getD_eq_getElem?_getD,List.getElem?_map]
    cases items[n]? <;> rfl
   dsimp only at this
   rw [gg,gg] at this
   exact this
  refine ⟨.ref (s.heap.objs.size + 1),_,?_,rfl,q _ (p.toList.map fun i=>zs.getD i .non) _ hn (qC hpm) pw (al _ mem)⟩
  refine I.laid (t':=s.toks) (fun b o q=>sortedAll_old q) (Nat.le_succ _) (show yj X.prog X.w _ _ _ (.lst (p.toList.map fun i=>zs.getD i .non)) from ⟨by rw [List.length_map,Array.length_toList,hp.sz]; have:=sizeLine_eq; omega,_,e,rl _ mem,he⟩)
end
structure Wt where
 box:Nat
 deed:Deed
 nums:List Nat
 met:List (Nat × Nat)
instance:Inhabited Wt:=⟨⟨0,⟨0,none,none⟩,[],[]⟩⟩
instance:Inhabited Ask:=⟨⟨0,0,⟨0,none,none⟩⟩⟩
structure NS where
 k:Nat
 room:Nat
 kept:Nat
 boxes:List Int
 asks:List Ask
 now:Nat
 lines:Nat -> Nat -> List Wt
 keep:Nat -> Nat -> Int
 /-- how many beats are in the table of what was done -/
 nd:Nat
 done:Nat -> List Wt
 log:List Nat
 fnd:List (Nat × Int)
 ans:List (Nat × Int)
def updL {α:Type} (f:Nat -> Nat -> α) (l j:Nat) (v:α):Nat -> Nat -> α:=fun a b=>if a = l /\ b = j then v else f a b
theorem zw {α:Type} {f:Nat -> Nat -> α} {l j:Nat} {v:α}:updL f l j v l j = v:=if_pos ⟨rfl,rfl⟩
theorem zB {α:Type} {f:Nat -> Nat -> α} {l j a b:Nat} {v:α} (h:¬ (a = l /\ b = j)):updL f l j v a b = f a b:=if_neg h
def putN (f:List (Nat × Int)) (n:Nat) (v:Int):List (Nat × Int):=if (f.any fun p=>decide (p.1 = n)) = true then f.map fun p=>if p.1 = n then (n,v) else p else f ++ [(n,v)]
def getN (f:List (Nat × Int)) (n:Nat):Option Int:=(f.find? fun p=>decide (p.1 = n)).map (·.2)
def qE (out:List Wt) (b:Nat):Option Nat:=((List.range out.length).filter fun i=>decide ((out.getD i default).box = b)).getLast?
def xK (sw:Nat × Nat) (w c:Wt):Wt:=⟨w.box,sK w.deed c.deed,w.nums ++ c.nums,w.met ++ c.met ++ [sw]⟩
def addS (ns:NS) (s l:Nat) (c:Wt) (r:List Wt):NS :=
 if (ns.lines s (outR ns.k s l c.box)).length < ns.room then { ns with lines:=updL (updL ns.lines (s - 1) l r) s (outR ns.k s l c.box) (ns.lines s (outR ns.k s l c.box) ++ [c]) } else ns
def wu (ns:NS) (s l:Nat):NS :=
  match ns.lines (s - 1) l with
  | []=>ns
  | c :: r =>
    match qE (ns.lines s (outR ns.k s l c.box)) c.box with
    | none=>addS ns s l c r
    | some i =>
      if ns.keep s (nN ns.k s l) < ns.kept then
        { ns with
          lines:=updL (updL ns.lines (s - 1) l r) s (outR ns.k s l c.box) ((ns.lines s (outR ns.k s l c.box)).set i (xK (s,nN ns.k s l) ((ns.lines s (outR ns.k s l c.box)).getD i default) c))
          keep:=updL ns.keep s (nN ns.k s l) (ns.keep s (nN ns.k s l) + 1) }
      else addS ns s l c r
def inlN (k s n m:Nat):Nat:=(n / 2 ^ (k - s) * 2 + m) * 2 ^ (k - s) + n % 2 ^ (k - s)
def x9 (gone:List (Nat × Nat)) (s:Nat) (ns:NS) (n:Nat):NS :=
 if (s,n) ∈ gone then ns else wu (wu ns s (inlN ns.k s n (ns.now % 2))) s (inlN ns.k s n (1 - ns.now % 2))
def passS (gone:List (Nat × Nat)) (ns:NS) (s:Nat) (i:Nat):NS:=(List.range i).foldl (x9 gone s) ns
def passA (gone:List (Nat × Nat)) (ns:NS) (i:Nat):NS:=(List.range i).foldl (fun ns i=>passS gone ns (ns.k - i) (2 ^ (ns.k - 1))) ns
def qF (gone:List (Nat × Nat)) (k:Nat) (st:List Wt × (Nat -> Nat -> List Wt)) (side:Nat):List Wt × (Nat -> Nat -> List Wt) :=
 match st.2 k side with
 | []=>st
 | w :: r=>if (0,side) ∈ gone then st else (st.1 ++ [w],updL st.2 k side r)
def zP (gone:List (Nat × Nat)) (ns:NS) (i:Nat):List Wt × (Nat -> Nat -> List Wt):=(List.range i).foldl (qF gone ns.k) ([],ns.lines)
def doN (b:Nat) (ns:NS) (n:Nat):NS :=
 { ns with boxes:=ns.boxes.set b ((ns.asks.getD n default).deed.mk' (ns.boxes.getD b 0)),fnd:=putN ns.fnd n (ns.boxes.getD b 0),log:=ns.log ++ [n] }
def doW (ns:NS) (w:Wt):NS:=w.nums.foldl (doN w.box) ns
def updD (f:Nat -> List Wt) (t:Nat) (v:List Wt):Nat -> List Wt:=fun a=>if a = t then v else f a
def gotS (gone:List (Nat × Nat)) (ns:NS):NS :=
 { ns with lines:=(zP gone ns (2 ^ ns.k)).2,nd:=ns.nd + 1,done:=updD ns.done ns.now (zP gone ns (2 ^ ns.k)).1 }
def yB (gone:List (Nat × Nat)) (ns:NS):NS:=(zP gone ns (2 ^ ns.k)).1.foldl doW (gotS gone ns)
def agoS (ns:NS) (many:Nat):List Wt:=if many < ns.now /\ ns.now - many <= ns.nd then ns.done (ns.now - many) else []
def fgM (s:Nat) (kp:Nat -> Nat -> Int) (sw:Nat × Nat):Nat -> Nat -> Int:=if sw.1 = s then updL kp sw.1 sw.2 (kp sw.1 sw.2 - 1) else kp
def fgW (s:Nat) (kp:Nat -> Nat -> Int) (w:Wt):Nat -> Nat -> Int:=w.met.foldl (fgM s) kp
def fgS (ns:NS) (kp:Nat -> Nat -> Int) (s:Nat):Nat -> Nat -> Int:=(agoS ns (ns.k - s + 1)).foldl (fgW s) kp
def zq (ns:NS):NS:={ ns with keep:=(List.range ns.k).foldl (fun kp i=>fgS ns kp (i + 1)) ns.keep }
def u7 (ns:NS) (w:Wt):List (Nat × Int):=w.nums.map fun n=>(n,(getN ns.fnd n).getD 0)
def xt (ns:NS):List (Nat × Int):=(agoS ns ns.k).flatMap (u7 ns)
def qG (l:List (Nat × Int)):List (Nat × Int):=l.foldl (fun f p=>putN f p.1 p.2) []
def Xy (ns:NS):NS:={ ns with ans:=(qG (xt ns)).foldl (fun f p=>putN f p.1 p.2) ns.ans }
def zI (ns:NS):NS:={ ns with now:=ns.now + 1 }
def xu (gone:List (Nat × Nat)) (ns:NS):NS:=passA gone (yB gone (zq (zI ns))) ns.k
def beatS (gone:List (Nat × Nat)) (ns:NS):NS:=Xy (xu gone ns)
def putS (ns:NS) (a:Ask):NS :=
 { ns with asks:=ns.asks ++ [a],lines:=updL ns.lines 0 a.hand.toNat (ns.lines 0 a.hand.toNat ++ [⟨a.box.toNat,a.deed,[ns.asks.length],[]⟩]) }
def newS (k:Nat) (b:List Int) (room kept:Nat):NS:=⟨k,room,kept,b,[],0,fun _ _=>[],fun _ _=>0,0,fun _=>[],[],[],[]⟩
def sumR (n:Nat) (F:Nat -> Nat):Nat:=((List.range n).map F).sum
theorem zQ {n:Nat} {F:Nat -> Nat}:sumR (n + 1) F = sumR n F + F n:=by
 unfold sumR
 rw [List.range_succ,List.map_append,List.sum_append]
 show _ + (F n + 0) = _
 omega
theorem y9:∀ {n:Nat} {F G:Nat -> Nat},(∀ i < n,F i = G i) -> sumR n F = sumR n G
 | 0,_,_,_=>rfl
 | n + 1,F,G,h=>by rw [zQ,zQ,y9 fun i hi=>h i (by omega),h n (by omega)]
theorem sT:∀ {n:Nat} {F G:Nat -> Nat} {i:Nat},i < n -> (∀ j < n,j ≠ i -> G j = F j) -> sumR n G + F i = sumR n F + G i
 | 0,_,_,_,h,_=>absurd h (Nat.not_lt_zero _)
 | n + 1,F,G,i,h,e=>by
  rw [zQ,zQ]
  by_cases c:i = n
  ·subst c
   rw [y9 (F:=G) (G:=F) fun j hj=>e j (by omega) (by omega)]
   omega
  ·have:=sT (n:=n) (F:=F) (G:=G) (i:=i) (by omega) fun j hj=>e j (by omega)
   rw [e n (by omega) (fun z=>c z.symm)]
   omega
theorem jC:∀ {n:Nat} {F:Nat -> Nat} {i:Nat},i < n -> F i <= sumR n F
 | 0,_,_,h=>absurd h (Nat.not_lt_zero _)
 | n + 1,F,i,h=>by
  rw [zQ]
  by_cases c:i = n
  ·subst c; omega
  ·have:=jC (n:=n) (F:=F) (i:=i) (by omega)
   omega
theorem sU:∀ {n:Nat} {F G:Nat -> Nat},sumR n (fun i=>F i + G i) = sumR n F + sumR n G
 | 0,_,_=>rfl
 | n + 1,F,G=>by rw [zQ,zQ,zQ,sU]; omega
theorem xB:∀ {n:Nat} {F:Nat -> Nat},(∀ i < n,F i = 0) -> sumR n F = 0
 | 0,_,_=>rfl
 | n + 1,F,h=>by rw [zQ,xB fun i hi=>h i (by omega),h n (by omega)]
def lsum (g:Wt -> Nat) (ws:List Wt):Nat:=(ws.map g).sum
theorem xL {g:Wt -> Nat}:lsum g [] = 0:=rfl
theorem zH {g:Wt -> Nat} {w:Wt} {ws:List Wt}:lsum g (w :: ws) = g w + lsum g ws:=rfl
theorem xM {g:Wt -> Nat} {a b:List Wt}:lsum g (a ++ b) = lsum g a + lsum g b:=by unfold lsum; rw [List.map_append,List.sum_append]
theorem sV {g:Wt -> Nat}:∀ {ws:List Wt} {i:Nat} {v:Wt},i < ws.length -> lsum g (ws.set i v) + g (ws.getD i default) = lsum g ws + g v
 | [],_,_,h=>absurd h (Nat.not_lt_zero _)
 | w :: ws,0,v,_=>by
  show g v + lsum g ws + g w = g w + lsum g ws + g v
  omega
 | w :: ws,i + 1,v,h=>by
  have:=sV (g:=g) (ws:=ws) (i:=i) (v:=v) (by simpa using h)
  show g w + lsum g (ws.set i v) + g (ws.getD i default) = g w + lsum g ws + g v
  omega
theorem vT {g:Wt -> Nat}:∀ {ws:List Wt} {w:Wt},w ∈ ws -> g w <= lsum g ws
 | a :: ws,w,h=>by
  rw [zH]
  rcases List.mem_cons.mp h with rfl | h
  ·omega
  ·have:=vT (g:=g) h; omega
theorem sW {g:Wt -> Nat}:∀ {ws:List Wt},(∀ w ∈ ws,1 <= g w) -> ws.length <= lsum g ws
 | [],_=>Nat.zero_le _
 | a :: ws,h=>by
  rw [zH]
  have h1:=h a (List.mem_cons_self ..)
  have:=sW (g:=g) (ws:=ws) fun w hw=>h w (List.mem_cons_of_mem _ hw)
  show ws.length + 1 <= _
  omega
def wsN (k:Nat) (f:Nat -> Nat -> List Wt) (g:Wt -> Nat):Nat:=sumR (k + 1) fun l=>sumR (2 ^ k) fun j=>lsum g (f l j)
theorem xj {k l j:Nat} {f:Nat -> Nat -> List Wt} {v:List Wt} {g:Wt -> Nat} (hl:l <= k) (hj:j < 2 ^ k):wsN k (updL f l j v) g + lsum g (f l j) = wsN k f g + lsum g v:=by
 have h1:=sT (n:=k + 1) (i:=l) (F:=fun l=>sumR (2 ^ k) fun j=>lsum g (f l j)) (G:=fun a=>sumR (2 ^ k) fun b=>lsum g (updL f l j v a b)) (by omega) fun a _ ha=>y9 fun b _=>by rw [zB fun z=>ha z.1]
 have h2:=sT (n:=2 ^ k) (i:=j) (F:=fun j=>lsum g (f l j)) (G:=fun b=>lsum g (updL f l j v l b)) hj fun b _ hb=>by
  show lsum g (updL f l j v l b) = lsum g (f l b)
  rw [zB fun z=>hb z.2]
 have e:lsum g (updL f l j v l j) = lsum g v:=by rw [zw]
 have h1':wsN k (updL f l j v) g + sumR (2 ^ k) (fun j=>lsum g (f l j)) = wsN k f g + sumR (2 ^ k) (fun b=>lsum g (updL f l j v l b)):=h1
 have h2':sumR (2 ^ k) (fun b=>lsum g (updL f l j v l b)) + lsum g (f l j) = sumR (2 ^ k) (fun j=>lsum g (f l j)) + lsum g v:=by rw [← e]; exact h2
 omega
theorem Vq {k l j:Nat} {f:Nat -> Nat -> List Wt} {g:Wt -> Nat} (hl:l <= k) (hj:j < 2 ^ k):lsum g (f l j) <= wsN k f g :=
 Nat.le_trans (jC (n:=2 ^ k) (F:=fun j=>lsum g (f l j)) hj) (jC (n:=k + 1) (F:=fun l=>sumR (2 ^ k) fun j=>lsum g (f l j)) (by omega))
theorem V5 {k l j l' j':Nat} {f:Nat -> Nat -> List Wt} {g:Wt -> Nat} (hl:l <= k) (hj:j < 2 ^ k) (hl':l' <= k) (hj':j' < 2 ^ k) (ne:¬ (l' = l /\ j' = j)):lsum g (f l j) + lsum g (f l' j') <= wsN k f g:=by
 have h1:=xj (f:=f) (v:=[]) (g:=g) hl hj
 have h2:=Vq (f:=updL f l j []) (g:=g) hl' hj'
 rw [zB ne] at h2
 rw [xL] at h1
 omega
inductive Ad where
 | p | lb | la | dl | dk | dd | lg | df | da
 | ln (l j:Nat)
 | dn (t:Nat)
deriving DecidableEq
def okA (ns:NS):Ad -> Prop
 | .ln l j=>l <= ns.k /\ j < 2 ^ ns.k
 | .dn t=>1 <= t /\ t <= ns.nd
 | _=>True
def SwAt (H:Hp) (x:V) (q:Nat × Nat):Prop:=∃ r,x = .ref r /\ H r = some (.tup [.int q.1,.int q.2])
def WtAt (K:FG7) (H:Hp) (x:V) (w:Wt):Prop:=∃ r rd rn rm ms,x = .ref r /\ SqT K H r [.int w.box,.ref rd,.ref rn,.ref rm] /\ SqT K H rd w.deed.vs /\ SqT K H rn (zT w.nums) /\ SqT K H rm ms /\ AllR (SwAt H) ms w.met
theorem SwAt.grow {m:List Addr} {H H':Hp} {x:V} {q:Nat × Nat} (h:SwAt H x q) (g:Grow m H H'):SwAt H' x q:=by
 obtain ⟨r,e,h⟩:=h
 exact ⟨r,e,g.tup _ _ h⟩
theorem WtAt.grow {K:FG7} {m:List Addr} {H H':Hp} {x:V} {w:Wt} (h:WtAt K H x w) (g:Grow m H H'):WtAt K H' x w:=by
 obtain ⟨r,rd,rn,rm,ms,e,h1,h2,h3,h4,h5⟩:=h
 exact ⟨r,rd,rn,rm,ms,e,g.sqT h1,g.sqT h2,g.sqT h3,g.sqT h4,h5.imp fun _ _ z=>z.grow g⟩
def zJ (A:Ad -> Addr) (ns:NS):List (Str × V) :=
 [("depth",.int ns.k),("room",.int ns.room),("most_kept",.int ns.kept),("boxes",.ref (A .lb)),("asks",.ref (A .la)),("now",.int ns.now),("lines",.ref (A .dl)),("keeping",.ref (A .dk)),("done_in",.ref (A .dd)),("logged",.ref (A .lg)),("found",.ref (A .df)),("answers",.ref (A .da))]
def xC (A:Ad -> Addr) (k:Nat):List (List Key × V):=(List.range (k + 1)).flatMap fun (l:Nat)=>(List.range (2 ^ k)).map fun (j:Nat)=>(kI [(l:Int),(j:Int)],.ref (A (.ln l j)))
def z9 (k:Nat) (kp:Nat -> Nat -> Int):List (List Key × V):=(List.range k).flatMap fun (s:Nat)=>(List.range (2 ^ (k - 1))).map fun (n:Nat)=>(kI [((s + 1:Nat):Int),(n:Int)],.int (kp (s + 1) n))
def xk (A:Ad -> Addr) (nd:Nat):List (Key × V):=(List.range nd).map fun t=>(.inl ((t + 1:Nat):Int),.ref (A (.dn (t + 1))))
def nKv (f:List (Nat × Int)):List (Key × V):=f.map fun p=>(.inl (p.1:Int),.int p.2)
def ObjA (K:FG7) (C:Addr) (H:Hp) (A:Ad -> Addr) (ns:NS):Ad -> HO -> Prop
 | .p,o=>∃ dx,o = .ins C dx (zJ A ns)
 | .lb,o=>o = .lst (ns.boxes.map V.int)
 | .la,o=>∃ xs,o = .lst xs /\ AllR (xA K H) xs ns.asks
 | .dl,o=>o = .dT (xC A ns.k)
 | .dk,o=>o = .dT (z9 ns.k ns.keep)
 | .dd,o=>o = .dK (xk A ns.nd)
 | .lg,o=>o = .lst (zT ns.log)
 | .df,o=>o = .dK (nKv ns.fnd)
 | .da,o=>o = .dK (nKv ns.ans)
 | .ln l j,o=>∃ ys,o = .lst ys /\ AllR (WtAt K H) ys (ns.lines l j)
 | .dn t,o=>∃ ys,o = .lst ys /\ AllR (WtAt K H) ys (ns.done t)
structure NetAt (K:FG7) (C:Addr) (H:Hp) (A:Ad -> Addr) (ns:NS):Prop where
 at_:∀ a,okA ns a -> ∃ o,H (A a) = some o /\ ObjA K C H A ns a o
 inj:∀ a b,okA ns a -> okA ns b -> A a = A b -> a = b
theorem ObjA.grow {K:FG7} {C:Addr} {m:List Addr} {H H':Hp} {A:Ad -> Addr} {ns:NS} (g:Grow m H H'):∀ {a:Ad} {o:HO},ObjA K C H A ns a o -> ObjA K C H' A ns a o
 | .p,_,h=>h
 | .lb,_,h=>h
 | .la,_,⟨xs,e,h⟩=>⟨xs,e,h.imp fun _ _ z=>g.ask z⟩
 | .dl,_,h=>h
 | .dk,_,h=>h
 | .dd,_,h=>h
 | .lg,_,h=>h
 | .df,_,h=>h
 | .da,_,h=>h
 | .ln _ _,_,⟨xs,e,h⟩=>⟨xs,e,h.imp fun _ _ z=>z.grow g⟩
 | .dn _,_,⟨xs,e,h⟩=>⟨xs,e,h.imp fun _ _ z=>z.grow g⟩
section
variable {K:FG7} {C:Addr} {m:List Addr} {H H':Hp} {A:Ad -> Addr} {ns ns':NS}
theorem NetAt.grow (h:NetAt K C H A ns) (g:Grow m H H') (hm:∀ a,okA ns a -> A a ∉ m):NetAt K C H' A ns :=
 ⟨fun a ha=>by
  obtain ⟨o,h1,h2⟩:=h.at_ a ha
  exact ⟨o,g.keep _ _ (hm a ha) h1,h2.grow g⟩,h.inj⟩
theorem NetAt.grow0 (h:NetAt K C H A ns) (g:Grow [] H H'):NetAt K C H' A ns:=h.grow g fun _ _=>by simp
theorem NetAt.put {c:Ad} {o:HO} (h:NetAt K C H A ns) (hc:okA ns c) (g:Grow [A c] H (upd H (A c) o)) (ho:ObjA K C (upd H (A c) o) A ns' c o) (hk:∀ a,okA ns' a -> okA ns a)
  (hs:∀ a,a ≠ c -> okA ns a -> ∀ o H,ObjA K C H A ns a o -> ObjA K C H A ns' a o):NetAt K C (upd H (A c) o) A ns' :=
 ⟨fun a ha=>by
  by_cases e:a = c
  ·subst e; exact ⟨o,zd,ho⟩
  ·obtain ⟨o',h1,h2⟩:=h.at_ a (hk a ha)
   exact ⟨o',by rw [zu fun z=>e (h.inj _ _ (hk a ha) hc z)]; exact h1,hs a e (hk a ha) _ _ (h2.grow g)⟩,fun a b ha hb=>h.inj a b (hk a ha) (hk b hb)⟩
theorem NetAt.ob (h:NetAt K C H A ns):∃ dx,H (A .p) = some (.ins C dx (zJ A ns)):=by
 obtain ⟨o,h1,dx,rfl⟩:=h.at_ .p trivial
 exact ⟨dx,h1⟩
theorem NetAt.lb (h:NetAt K C H A ns):H (A .lb) = some (.lst (ns.boxes.map V.int)):=by
 obtain ⟨o,h1,h2⟩:=h.at_ .lb trivial
 rw [h1]; exact congrArg some h2
theorem NetAt.la (h:NetAt K C H A ns):∃ xs,H (A .la) = some (.lst xs) /\ AllR (xA K H) xs ns.asks:=by
 obtain ⟨o,h1,xs,rfl,h2⟩:=h.at_ .la trivial
 exact ⟨xs,h1,h2⟩
theorem NetAt.dl (h:NetAt K C H A ns):H (A .dl) = some (.dT (xC A ns.k)):=by
 obtain ⟨o,h1,h2⟩:=h.at_ .dl trivial
 rw [h1]; exact congrArg some h2
theorem NetAt.dk (h:NetAt K C H A ns):H (A .dk) = some (.dT (z9 ns.k ns.keep)):=by
 obtain ⟨o,h1,h2⟩:=h.at_ .dk trivial
 rw [h1]; exact congrArg some h2
theorem NetAt.dd (h:NetAt K C H A ns):H (A .dd) = some (.dK (xk A ns.nd)):=by
 obtain ⟨o,h1,h2⟩:=h.at_ .dd trivial
 rw [h1]; exact congrArg some h2
theorem NetAt.lg (h:NetAt K C H A ns):H (A .lg) = some (.lst (zT ns.log)):=by
 obtain ⟨o,h1,h2⟩:=h.at_ .lg trivial
 rw [h1]; exact congrArg some h2
theorem NetAt.df (h:NetAt K C H A ns):H (A .df) = some (.dK (nKv ns.fnd)):=by
 obtain ⟨o,h1,h2⟩:=h.at_ .df trivial
 rw [h1]; exact congrArg some h2
theorem NetAt.da (h:NetAt K C H A ns):H (A .da) = some (.dK (nKv ns.ans)):=by
 obtain ⟨o,h1,h2⟩:=h.at_ .da trivial
 rw [h1]; exact congrArg some h2
theorem NetAt.ln (h:NetAt K C H A ns) {l j:Nat} (hl:l <= ns.k) (hj:j < 2 ^ ns.k):∃ ys,H (A (.ln l j)) = some (.lst ys) /\ AllR (WtAt K H) ys (ns.lines l j):=by
 obtain ⟨o,h1,xs,rfl,h2⟩:=h.at_ (.ln l j) ⟨hl,hj⟩
 exact ⟨xs,h1,h2⟩
theorem NetAt.dn (h:NetAt K C H A ns) {t:Nat} (h1:1 <= t) (h2:t <= ns.nd):∃ ys,H (A (.dn t)) = some (.lst ys) /\ AllR (WtAt K H) ys (ns.done t):=by
 obtain ⟨o,h1,xs,rfl,h2⟩:=h.at_ (.dn t) ⟨h1,h2⟩
 exact ⟨xs,h1,h2⟩
theorem Grow.setK5 {m:List Addr} {H:Hp} {p:Addr} {xs:List (Key × V)} (h:H p = some (.dK xs)) (hm:p ∈ m) (ys:List (Key × V)):Grow m H (upd H p (.dK ys)) :=
 ⟨fun b u hb q=>by rw [zu (show b ≠ p from fun z=>hb (by rw [z]; exact hm))]; exact q,fun b zs q=>by rw [zu (fun z=>by subst z; rw [h] at q; cases q)]; exact q,fun b u v q=>by rw [zu (fun z=>by subst z; rw [h] at q; cases q)]; exact q⟩
theorem NetAt.setB (h:NetAt K C H A ns) (bs:List Int):NetAt K C (upd H (A .lb) (.lst (bs.map V.int))) A { ns with boxes:=bs } /\ Grow [A .lb] H (upd H (A .lb) (.lst (bs.map V.int))) :=
 have g:=Grow.set (m:=[A .lb]) h.lb (by simp) (bs.map V.int)
 ⟨h.put (c:=.lb) trivial g rfl (fun a h=>by cases a <;> exact h) fun a n _ o H z=>by cases a <;> first | exact z | exact absurd rfl n,g⟩
theorem NetAt.setG (h:NetAt K C H A ns) (l:List Nat):NetAt K C (upd H (A .lg) (.lst (zT l))) A { ns with log:=l } /\ Grow [A .lg] H (upd H (A .lg) (.lst (zT l))) :=
 have g:=Grow.set (m:=[A .lg]) h.lg (by simp) (zT l)
 ⟨h.put (c:=.lg) trivial g rfl (fun a h=>by cases a <;> exact h) fun a n _ o H z=>by cases a <;> first | exact z | exact absurd rfl n,g⟩
theorem NetAt.setF (h:NetAt K C H A ns) (f:List (Nat × Int)):NetAt K C (upd H (A .df) (.dK (nKv f))) A { ns with fnd:=f } /\ Grow [A .df] H (upd H (A .df) (.dK (nKv f))) :=
 have g:=Grow.setK5 (m:=[A .df]) h.df (by simp) (nKv f)
 ⟨h.put (c:=.df) trivial g rfl (fun a h=>by cases a <;> exact h) fun a n _ o H z=>by cases a <;> first | exact z | exact absurd rfl n,g⟩
theorem NetAt.setS (h:NetAt K C H A ns) (f:List (Nat × Int)):NetAt K C (upd H (A .da) (.dK (nKv f))) A { ns with ans:=f } /\ Grow [A .da] H (upd H (A .da) (.dK (nKv f))) :=
 have g:=Grow.setK5 (m:=[A .da]) h.da (by simp) (nKv f)
 ⟨h.put (c:=.da) trivial g rfl (fun a h=>by cases a <;> exact h) fun a n _ o H z=>by cases a <;> first | exact z | exact absurd rfl n,g⟩
theorem NetAt.setK (h:NetAt K C H A ns) (kp:Nat -> Nat -> Int):NetAt K C (upd H (A .dk) (.dT (z9 ns.k kp))) A { ns with keep:=kp } /\ Grow [A .dk] H (upd H (A .dk) (.dT (z9 ns.k kp))) :=
 have g:=Grow.setDT (m:=[A .dk]) h.dk (by simp) (z9 ns.k kp)
 ⟨h.put (c:=.dk) trivial g rfl (fun a h=>by cases a <;> exact h) fun a n _ o H z=>by cases a <;> first | exact z | exact absurd rfl n,g⟩
theorem NetAt.setA (h:NetAt K C H A ns) {xs:List V} {as:List Ask} (hx:AllR (xA K H) xs as):NetAt K C (upd H (A .la) (.lst xs)) A { ns with asks:=as } /\ Grow [A .la] H (upd H (A .la) (.lst xs)) :=
 have ⟨_,e,_⟩:=h.la
 have g:=Grow.set (m:=[A .la]) e (by simp) xs
 ⟨h.put (c:=.la) trivial g ⟨xs,rfl,hx.imp fun _ _ z=>g.ask z⟩ (fun a h=>by cases a <;> exact h) fun a n _ o H z=>by cases a <;> first | exact z | exact absurd rfl n,g⟩
theorem NetAt.setLn (h:NetAt K C H A ns) {l j:Nat} (hl:l <= ns.k) (hj:j < 2 ^ ns.k) {xs:List V} {ws:List Wt} (hx:AllR (WtAt K H) xs ws) :
  NetAt K C (upd H (A (.ln l j)) (.lst xs)) A { ns with lines:=updL ns.lines l j ws } /\ Grow [A (.ln l j)] H (upd H (A (.ln l j)) (.lst xs)) :=
 have ⟨_,e,_⟩:=h.ln hl hj
 have g:=Grow.set (m:=[A (.ln l j)]) e (by simp) xs
 ⟨h.put (c:=.ln l j) ⟨hl,hj⟩ g ⟨xs,rfl,by
  show AllR _ xs (updL ns.lines l j ws l j)
  rw [zw]; exact hx.imp fun _ _ z=>z.grow g⟩ (fun a h=>by cases a <;> exact h) fun a n _ o H z=>by
   cases a with
   | ln l' j' =>
    obtain ⟨ys,e,z⟩:=z
    refine ⟨ys,e,?_⟩
    show AllR _ ys (updL ns.lines l j ws l' j')
    rw [zB fun w=>n (by rw [w.1,w.2])]; exact z
   | _=>exact z,g⟩
theorem Tc {n:Nat}:putF "now" (.int (n:Int)) (zJ A ns) = zJ A { ns with now:=n }:=by
 unfold zJ
 simp only [putF]
 rw [if_neg (by decide +kernel),if_neg (by decide +kernel),if_neg (by decide +kernel),if_neg (by decide +kernel),if_neg (by decide +kernel),if_pos trivial]
theorem NetAt.setNow (h:NetAt K C H A ns) {dx:Addr} (hp:H (A .p) = some (.ins C dx (zJ A ns))) (n:Nat):NetAt K C (upd H (A .p) (.ins C dx (putF "now" (.int (n:Int)) (zJ A ns)))) A { ns with now:=n } /\ Grow [A .p] H (upd H (A .p) (.ins C dx (putF "now" (.int (n:Int)) (zJ A ns)))) :=
 have g:=Grow.setI (m:=[A .p]) hp (by simp) (.ins C dx (putF "now" (.int (n:Int)) (zJ A ns)))
 ⟨h.put (c:=.p) trivial g ⟨dx,by rw [Tc]⟩ (fun a h=>by cases a <;> exact h) fun a n _ o H z=>by cases a <;> first | exact z | exact absurd rfl n,g⟩
end
section
variable {κ:Type} [DecidableEq κ]
theorem wW {k:κ} {v:V}:∀ {kvs:List (κ × V)},(k,v) ∈ kvs -> (∀ v',(k,v') ∈ kvs -> v' = v) -> valV kvs k = some v
 | [],h,_=>by cases h
 | p :: r,h,u=>by
  by_cases e:p.1 = k
  ·rw [yv e,u p.2 (by rw [← e]; exact List.mem_cons_self ..)]
  ·rw [yo e]
   rcases List.mem_cons.mp h with z | z
   ·exact absurd (by rw [← z]) e
   ·exact wW z fun v' h'=>u v' (List.mem_cons_of_mem _ h')
theorem uB {k:κ}:∀ {kvs:List (κ × V)},(∀ v,(k,v) ∉ kvs) -> valV kvs k = none
 | [],_=>rfl
 | p :: r,u=>by
  by_cases e:p.1 = k
  ·exact absurd (by rw [← e]; exact List.mem_cons_self ..) (u p.2)
  ·rw [yo e]; exact uB fun v h=>u v (List.mem_cons_of_mem _ h)
theorem Xz {kvs:List (κ × V)} {k:κ} {v w:V} (h:valV kvs k = some w):putK kvs k v = kvs.map fun kv=>if kv.1 = k then (kv.1,v) else kv:=by
 unfold putK
 rw [wg,h]; exact if_pos rfl
end
theorem vq {a b c d:Int}:kI [a,b] = kI [c,d] ↔ a = c /\ b = d:=by
 constructor
 ·intro h
  have h:([Sum.inl a,Sum.inl b]:List Key) = [Sum.inl c,Sum.inl d]:=h
  injection h with h1 h
  injection h with h2 _
  exact ⟨Sum.inl.inj h1,Sum.inl.inj h2⟩
 ·rintro ⟨rfl,rfl⟩; rfl
theorem tY {A:Ad -> Addr} {k:Nat} {q:List Key} {v:V}:(q,v) ∈ xC A k ↔ ∃ l j:Nat,l <= k /\ j < 2 ^ k /\ q = kI [(l:Int),(j:Int)] /\ v = .ref (A (.ln l j)):=by
 unfold xC
 rw [List.mem_flatMap]
 constructor
 ·rintro ⟨l,hl,h⟩
  obtain ⟨j,hj,e⟩:=List.mem_map.mp h
  cases e
  exact ⟨l,j,by have:=List.mem_range.mp hl; omega,List.mem_range.mp hj,rfl,rfl⟩
 ·rintro ⟨l,j,hl,hj,rfl,rfl⟩
  exact ⟨l,List.mem_range.mpr (by omega),List.mem_map.mpr ⟨j,List.mem_range.mpr hj,rfl⟩⟩
theorem wX {A:Ad -> Addr} {k l j:Nat} (hl:l <= k) (hj:j < 2 ^ k):valV (xC A k) (kI [(l:Int),(j:Int)]) = some (.ref (A (.ln l j))):=by
 refine wW (tY.mpr ⟨l,j,hl,hj,rfl,rfl⟩) fun v h=>?_
 obtain ⟨l',j',_,_,e,rfl⟩:=tY.mp h
 obtain ⟨e1,e2⟩:=vq.mp e
 rw [show l = l' by omega,show j = j' by omega]
theorem tZ {k:Nat} {kp:Nat -> Nat -> Int} {q:List Key} {v:V}:(q,v) ∈ z9 k kp ↔ ∃ s n:Nat,1 <= s /\ s <= k /\ n < 2 ^ (k - 1) /\ q = kI [(s:Int),(n:Int)] /\ v = .int (kp s n):=by
 unfold z9
 rw [List.mem_flatMap]
 constructor
 ·rintro ⟨l,hl,h⟩
  obtain ⟨j,hj,e⟩:=List.mem_map.mp h
  cases e
  exact ⟨l + 1,j,by omega,by have:=List.mem_range.mp hl; omega,List.mem_range.mp hj,rfl,rfl⟩
 ·rintro ⟨s,n,h1,h2,h3,rfl,rfl⟩
  refine ⟨s - 1,List.mem_range.mpr (by omega),List.mem_map.mpr ⟨n,List.mem_range.mpr h3,?_⟩⟩
  show (kI [((s - 1 + 1:Nat):Int),(n:Int)],V.int (kp (s - 1 + 1) n)) = _
  rw [show s - 1 + 1 = s by omega]
theorem wY {k s n:Nat} {kp:Nat -> Nat -> Int} (h1:1 <= s) (h2:s <= k) (h3:n < 2 ^ (k - 1)):valV (z9 k kp) (kI [(s:Int),(n:Int)]) = some (.int (kp s n)):=by
 refine wW (tZ.mpr ⟨s,n,h1,h2,h3,rfl,rfl⟩) fun v h=>?_
 obtain ⟨s',n',_,_,_,e,rfl⟩:=tZ.mp h
 obtain ⟨e1,e2⟩:=vq.mp e
 rw [show s = s' by omega,show n = n' by omega]
theorem Zs {k s n:Nat} {kp:Nat -> Nat -> Int} {v:Int} (h1:1 <= s) (h2:s <= k) (h3:n < 2 ^ (k - 1)):putK (z9 k kp) (kI [(s:Int),(n:Int)]) (.int v) = z9 k (updL kp s n v):=by
 rw [Xz (wY h1 h2 h3)]
 unfold z9
 rw [List.map_flatMap]
 refine congrArg (fun f=>(List.range k).flatMap f) (funext fun a=>?_)
 rw [List.map_map]
 refine List.map_congr_left fun b _=>?_
 show (if kI [((a + 1:Nat):Int),(b:Int)] = kI [(s:Int),(n:Int)] then (kI [((a + 1:Nat):Int),(b:Int)],V.int v) else (kI [((a + 1:Nat):Int),(b:Int)],V.int (kp (a + 1) b))) = (kI [((a + 1:Nat):Int),(b:Int)],V.int (updL kp s n v (a + 1) b))
 by_cases c:a + 1 = s /\ b = n
 ·rw [if_pos (vq.mpr ⟨by omega,by omega⟩),c.1,c.2,zw]
 ·rw [if_neg fun z=>c ⟨by have:=(vq.mp z).1; omega,by have:=(vq.mp z).2; omega⟩,zB c]
theorem Zt {k:Nat} {kp:Nat -> Nat -> Int} (k4:k <= 4):(z9 k kp).length < 1000:=by
 have e:(z9 k kp).length = (z9 k fun _ _=>0).length:=by
  unfold z9
  rw [List.length_flatMap,List.length_flatMap]
  congr 1
  refine List.map_congr_left fun a _=>?_
  rw [List.length_map,List.length_map]
 rw [e]
 rcases (by omega:k = 0 \/ k = 1 \/ k = 2 \/ k = 3 \/ k = 4) with rfl | rfl | rfl | rfl | rfl <;> decide +kernel
theorem vt {A:Ad -> Addr} {nd:Nat} {q:Key} {v:V}:(q,v) ∈ xk A nd ↔ ∃ t:Nat,1 <= t /\ t <= nd /\ q = .inl (t:Int) /\ v = .ref (A (.dn t)):=by
 unfold xk
 rw [List.mem_map]
 constructor
 ·rintro ⟨t,ht,e⟩
  cases e
  exact ⟨t + 1,by omega,by have:=List.mem_range.mp ht; omega,rfl,rfl⟩
 ·rintro ⟨t,h1,h2,rfl,rfl⟩
  refine ⟨t - 1,List.mem_range.mpr (by omega),?_⟩
  show (Sum.inl ((t - 1 + 1:Nat):Int),V.ref (A (.dn (t - 1 + 1)))) = _
  rw [show t - 1 + 1 = t by omega]
theorem WO {A:Ad -> Addr} {nd t:Nat} (h1:1 <= t) (h2:t <= nd):valV (xk A nd) (.inl (t:Int)) = some (.ref (A (.dn t))):=by
 refine wW (vt.mpr ⟨t,h1,h2,rfl,rfl⟩) fun v h=>?_
 obtain ⟨t',_,_,e,rfl⟩:=vt.mp h
 rw [show t = t' by have:=Sum.inl.inj e; omega]
theorem qH {A:Ad -> Addr} {nd:Nat} {t:Int} (h:¬ (1 <= t /\ t <= nd)):valV (xk A nd) (.inl t) = none:=by
 refine uB fun v hv=>?_
 obtain ⟨t',h1,h2,e,_⟩:=vt.mp hv
 have:=Sum.inl.inj e
 exact h ⟨by omega,by omega⟩
theorem WP {A A':Ad -> Addr} {nd:Nat} {q:Addr} (hA:∀ t,1 <= t -> t <= nd -> A' (.dn t) = A (.dn t)) (hq:A' (.dn (nd + 1)) = q):putK (xk A nd) (.inl ((nd + 1:Nat):Int)) (.ref q) = xk A' (nd + 1):=by
 rw [Zk _ (qH (by omega))]
 unfold xk
 rw [List.range_succ,List.map_append]
 congr 1
 ·refine List.map_congr_left fun t ht=>?_
  rw [hA (t + 1) (by omega) (by have:=List.mem_range.mp ht; omega)]
 ·show [(Sum.inl ((nd + 1:Nat):Int),V.ref q)] = [(Sum.inl ((nd + 1:Nat):Int),V.ref (A' (.dn (nd + 1))))]
  rw [hq]
theorem sX {n:Nat}:∀ {f:List (Nat × Int)},valV (nKv f) (.inl (n:Int)) = (getN f n).map V.int
 | []=>rfl
 | p :: r=>by
  show valV ((Sum.inl (p.1:Int),V.int p.2) :: nKv r) _ = _
  unfold getN
  rw [List.find?_cons]
  by_cases e:p.1 = n
  ·rw [yv (by show Sum.inl (p.1:Int) = _; rw [e]),decide_eq_true e]; rfl
  ·rw [yo (fun z=>e (by have:=Sum.inl.inj z; omega)),decide_eq_false e,sX]; rfl
theorem jD {f:List (Nat × Int)} {n:Nat} {v:Int}:putK (nKv f) (.inl (n:Int)) (.int v) = nKv (putN f n v):=by
 unfold putK putN
 have e:((nKv f).any fun kv=>decide (kv.1 = Sum.inl (n:Int))) = (f.any fun p=>decide (p.1 = n)):=by
  unfold nKv
  rw [List.any_map]
  refine congrArg (fun g=>f.any g) (funext fun p=>?_)
  show decide (Sum.inl (p.1:Int) = (Sum.inl (n:Int):Key)) = decide (p.1 = n)
  by_cases c:p.1 = n
  ·rw [decide_eq_true c,decide_eq_true (by rw [c])]
  ·rw [decide_eq_false c,decide_eq_false fun z=>c (by have:=Sum.inl.inj z; omega)]
 rw [e]
 split
 ·unfold nKv
  rw [List.map_map,List.map_map]
  refine List.map_congr_left fun p _=>?_
  show (if Sum.inl (p.1:Int) = (Sum.inl (n:Int):Key) then (Sum.inl (p.1:Int),V.int v) else (Sum.inl (p.1:Int),V.int p.2)) = (Sum.inl ((if p.1 = n then (n,v) else p).1:Int),V.int (if p.1 = n then (n,v) else p).2)
  by_cases c:p.1 = n
  ·rw [if_pos (by rw [c]),if_pos c,c]
  ·rw [if_neg fun z=>c (by have:=Sum.inl.inj z; omega),if_neg c]
 ·unfold nKv; rw [List.map_append]; rfl
theorem Zu {f:List (Nat × Int)} {n:Nat} {v:Int}:(putN f n v).length <= f.length + 1:=by
 unfold putN
 split
 ·rw [List.length_map]; omega
 ·rw [List.length_append]; exact Nat.le_refl _
theorem WQ {n m:Nat} {v:Int} {f:List (Nat × Int)}:getN (putN f n v) m = if m = n then some v else getN f m:=by
 have h:=WJ (nKv f) (.inl (n:Int)) (.inl (m:Int)) (.int v)
 rw [jD,sX,sX] at h
 by_cases c:m = n
 ·rw [if_pos c]
  rw [if_pos (by rw [c])] at h
  cases e:getN (putN f n v) m with
  | none=>rw [e] at h; cases h
  | some x=>rw [e] at h; cases h; rfl
 ·rw [if_neg c]
  rw [if_neg fun z=>c (by have:=Sum.inl.inj z; omega)] at h
  cases e:getN (putN f n v) m with
  | none=>rw [e] at h; cases e2:getN f m with
   | none=>rfl
   | some y=>rw [e2] at h; cases h
  | some x=>rw [e] at h; cases e2:getN f m with
   | none=>rw [e2] at h; cases h
   | some y=>rw [e2] at h; cases h; rfl
section
variable {A:Ad -> Addr} {ns:NS}
theorem lkT5 {f:Str} {v:V} {r:List (Str × V)}:List.lookup f ((f,v) :: r) = some v:=by rw [List.lookup_cons,beq_self_eq_true]
theorem zX:(zJ A ns).lookup ("depth":Str) = some (.int ns.k):=by unfold zJ; repeat first | exact lkT5 | exact rfl | rw [lkF5 (by decide +kernel)]
theorem V6:(zJ A ns).lookup ("room":Str) = some (.int ns.room):=by unfold zJ; repeat first | exact lkT5 | exact rfl | rw [lkF5 (by decide +kernel)]
theorem qI:(zJ A ns).lookup ("most_kept":Str) = some (.int ns.kept):=by unfold zJ; repeat first | exact lkT5 | exact rfl | rw [lkF5 (by decide +kernel)]
theorem vU:(zJ A ns).lookup ("boxes":Str) = some (.ref (A .lb)):=by unfold zJ; repeat first | exact lkT5 | exact rfl | rw [lkF5 (by decide +kernel)]
theorem jE:(zJ A ns).lookup ("asks":Str) = some (.ref (A .la)):=by unfold zJ; repeat first | exact lkT5 | exact rfl | rw [lkF5 (by decide +kernel)]
theorem Zv:(zJ A ns).lookup ("now":Str) = some (.int ns.now):=by unfold zJ; repeat first | exact lkT5 | exact rfl | rw [lkF5 (by decide +kernel)]
theorem wZ:(zJ A ns).lookup ("lines":Str) = some (.ref (A .dl)):=by unfold zJ; repeat first | exact lkT5 | exact rfl | rw [lkF5 (by decide +kernel)]
theorem wn:(zJ A ns).lookup ("keeping":Str) = some (.ref (A .dk)):=by unfold zJ; repeat first | exact lkT5 | exact rfl | rw [lkF5 (by decide +kernel)]
theorem t7:(zJ A ns).lookup ("done_in":Str) = some (.ref (A .dd)):=by unfold zJ; repeat first | exact lkT5 | exact rfl | rw [lkF5 (by decide +kernel)]
theorem qJ:(zJ A ns).lookup ("logged":Str) = some (.ref (A .lg)):=by unfold zJ; repeat first | exact lkT5 | exact rfl | rw [lkF5 (by decide +kernel)]
theorem Zw:(zJ A ns).lookup ("found":Str) = some (.ref (A .df)):=by unfold zJ; repeat first | exact lkT5 | exact rfl | rw [lkF5 (by decide +kernel)]
theorem Yg:(zJ A ns).lookup ("answers":Str) = some (.ref (A .da)):=by unfold zJ; repeat first | exact lkT5 | exact rfl | rw [lkF5 (by decide +kernel)]
theorem Td:(zJ A ns).lookup ("put":Str) = none:=by unfold zJ; repeat first | exact lkT5 | exact rfl | rw [lkF5 (by decide +kernel)]
theorem V7:(zJ A ns).lookup ("beat":Str) = none:=by unfold zJ; repeat first | exact lkT5 | exact rfl | rw [lkF5 (by decide +kernel)]
theorem uC:(zJ A ns).lookup ("done_ago":Str) = none:=by unfold zJ; repeat first | exact lkT5 | exact rfl | rw [lkF5 (by decide +kernel)]
theorem XA:(zJ A ns).lookup ("forget":Str) = none:=by unfold zJ; repeat first | exact lkT5 | exact rfl | rw [lkF5 (by decide +kernel)]
theorem V8:(zJ A ns).lookup ("take":Str) = none:=by unfold zJ; repeat first | exact lkT5 | exact rfl | rw [lkF5 (by decide +kernel)]
theorem Yh:(zJ A ns).lookup ("do_asks":Str) = none:=by unfold zJ; repeat first | exact lkT5 | exact rfl | rw [lkF5 (by decide +kernel)]
theorem Yi:(zJ A ns).lookup ("pass_on":Str) = none:=by unfold zJ; repeat first | exact lkT5 | exact rfl | rw [lkF5 (by decide +kernel)]
theorem se:(zJ A ns).lookup ("hand_on":Str) = none:=by unfold zJ; repeat first | exact lkT5 | exact rfl | rw [lkF5 (by decide +kernel)]
theorem V9:(zJ A ns).lookup ("tell":Str) = none:=by unfold zJ; repeat first | exact lkT5 | exact rfl | rw [lkF5 (by decide +kernel)]
theorem Te:(zJ A ns).lookup ("log":Str) = none:=by unfold zJ; repeat first | exact lkT5 | exact rfl | rw [lkF5 (by decide +kernel)]
theorem Yj:(zJ A ns).lookup ("waiting":Str) = none:=by unfold zJ; repeat first | exact lkT5 | exact rfl | rw [lkF5 (by decide +kernel)]
theorem jF:(zJ A ns).lookup ("joinings":Str) = none:=by unfold zJ; repeat first | exact lkT5 | exact rfl | rw [lkF5 (by decide +kernel)]
end
structure NTxt (K:FG7) (mg:Str -> Option Value) (C:Addr):Prop where
 cl:Cls K C
 n_depth:yI K C "depth"
 n_room:yI K C "room"
 n_most_kept:yI K C "most_kept"
 n_boxes:yI K C "boxes"
 n_asks:yI K C "asks"
 n_now:yI K C "now"
 n_lines:yI K C "lines"
 n_keeping:yI K C "keeping"
 n_done_in:yI K C "done_in"
 n_logged:yI K C "logged"
 n_found:yI K C "found"
 n_answers:yI K C "answers"
 mgC:mg "Net" = some (.ref C)
structure WtOk (k b a:Nat) (w:Wt):Prop where
 bx:w.box < b
 ne:w.nums ≠ []
 nm:∀ n ∈ w.nums,n < a
 mt:∀ q ∈ w.met,1 <= q.1 /\ q.1 <= k /\ q.2 < 2 ^ (k - 1)
 ln:w.met.length + 1 = w.nums.length
def nlen (w:Wt):Nat:=w.nums.length
structure NR (ns:NS):Prop where
 k4:ns.k <= 4
 b16:ns.boxes.length <= 16
 a40:ns.asks.length <= 40
 lw:∀ l j,l <= ns.k -> j < 2 ^ ns.k -> ∀ w ∈ ns.lines l j,WtOk ns.k ns.boxes.length ns.asks.length w
 dw:∀ t,1 <= t -> t <= ns.nd -> ∀ w ∈ ns.done t,WtOk ns.k ns.boxes.length ns.asks.length w
 tot:wsN ns.k ns.lines nlen + ns.log.length = ns.asks.length
 nw:ns.now <= 10000
 nd:ns.nd <= ns.now
 fl:ns.fnd.length <= ns.log.length
def sY (K:FG7) (H:Hp) (x:V) (q:Nat × Nat):Prop:=∃ r,x = .ref r /\ SqT K H r [.int q.1,.int q.2]
def wz (K:FG7) (H:Hp) (y:V) (gone:List (Nat × Nat)):Prop:=∃ r ys,y = .ref r /\ SqT K H r ys /\ AllR (sY K H) ys gone /\ ys.length <= 1000
theorem wz.grow {K:FG7} {m:List Addr} {H H':Hp} {y:V} {gone:List (Nat × Nat)} (h:wz K H y gone) (g:Grow m H H'):wz K H' y gone:=by
 obtain ⟨r,ys,e,h1,h2,h3⟩:=h
 exact ⟨r,ys,e,g.sqT h1,h2.imp fun _ _ ⟨r,e,z⟩=>⟨r,e,g.sqT z⟩,h3⟩
def vK (k:Nat) (q:Nat × Nat):Prop:=(1 <= q.1 /\ q.1 <= k /\ q.2 < 2 ^ (k - 1)) \/ (q.1 = 0 /\ q.2 < 2 ^ k)
def T7 (K:FG7) (H:Hp) (A:Ad -> Addr) (ns:NS) (z:V) (ws:List Wt):Prop:=(∃ t,1 <= t /\ t <= ns.nd /\ z = .ref (A (.dn t)) /\ ws = ns.done t) \/ ∃ a,z = .ref a /\ SqT K H a [] /\ ws = []
def sZ (C:Addr) (K:FG7):Sp:=sp2 fun x y H Q=>∃ (A:Ad -> Addr) (ns:NS) (many:Nat),x = .ref (A .p) /\ y = .int many /\ NetAt K C H A ns /\ ∀ z H',Grow [] H H' -> T7 K H' A ns z (agoS ns many) -> Q z H'
def vw (C:Addr) (K:FG7):Sp:=sp1 fun x H Q=>∃ (A:Ad -> Addr) (ns:NS),x = .ref (A .p) /\ NetAt K C H A ns /\ NR ns /\ ∀ H',Grow [A .dk] H H' -> NetAt K C H' A (zq ns) -> Q .non H'
def vy (C:Addr) (K:FG7):Sp:=sp3 fun x y z H Q=>∃ (A:Ad -> Addr) (ns:NS) (b:Nat) (nums:List Nat) (r:Addr),x = .ref (A .p) /\ y = .int b /\ z = .ref r /\ SqT K H r (zT nums) /\ NetAt K C H A ns /\ b < ns.boxes.length /\ (∀ n ∈ nums,n < ns.asks.length) /\ ns.log.length + nums.length <= 40 /\ ns.fnd.length + nums.length <= 40 ∧
 ∀ H',Grow [A .lb,A .df,A .lg] H H' -> NetAt K C H' A (nums.foldl (doN b) ns) -> Q .non H'
def Ext5 (H:Hp) (A A':Ad -> Addr) (ns:NS):Prop:=(∀ a,okA ns a -> A' a = A a) /\ H (A' (.dn (ns.nd + 1))) = none
def s8 (C:Addr) (K:FG7):Sp:=sp2 fun x y H Q=>∃ (A:Ad -> Addr) (ns:NS) (gone:List (Nat × Nat)) (ms:List Addr),x = .ref (A .p) /\ wz K H y gone /\ NetAt K C H A ns /\ NR ns /\ ns.nd + 1 = ns.now /\ (∀ a,okA ns a -> A a ∈ ms) ∧
 ∀ A' H',Grow ms H H' -> Ext5 H A A' ns -> NetAt K C H' A' (yB gone ns) -> Q .non H'
def re (C:Addr) (K:FG7):Sp:=sp3 fun x y z H Q=>∃ (A:Ad -> Addr) (ns:NS) (s l:Nat) (ms:List Addr),x = .ref (A .p) /\ y = .int s /\ z = .int l /\ 1 <= s /\ s <= ns.k /\ l < 2 ^ ns.k /\ NetAt K C H A ns /\ NR ns /\ (∀ a,okA ns a -> A a ∈ ms) ∧
 ∀ H',Grow ms H H' -> NetAt K C H' A (wu ns s l) -> Q .non H'
def rf (C:Addr) (K:FG7):Sp:=sp3 fun x y z H Q=>∃ (A:Ad -> Addr) (ns:NS) (s:Nat) (gone:List (Nat × Nat)) (ms:List Addr),x = .ref (A .p) /\ y = .int s /\ wz K H z gone /\ 1 <= s /\ s <= ns.k /\ NetAt K C H A ns /\ NR ns /\ (∀ a,okA ns a -> A a ∈ ms) ∧
 ∀ H',Grow ms H H' -> NetAt K C H' A (passS gone ns s (2 ^ (ns.k - 1))) -> Q .non H'
structure NT (ns:NS):Prop where
 nd:((xt ns).map (·.1)).Nodup
 fk:∀ w ∈ agoS ns ns.k,∀ n ∈ w.nums,(getN ns.fnd n).isSome = true
 l40:(xt ns).length <= 40
 al:ns.ans.length <= 400000
def Tf (K:FG7) (H:Hp) (z:V) (l:List (Nat × Int)):Prop:=∃ r ys,z = .ref r /\ SqT K H r ys /\ AllR (fun x (p:Nat × Int)=>yz K H x [(p.1:Int),p.2]) ys l
def rh (C:Addr) (K:FG7):Sp:=sp1 fun x H Q=>∃ (A:Ad -> Addr) (ns:NS) (ms:List Addr),x = .ref (A .p) /\ NetAt K C H A ns /\ NR ns /\ NT ns /\ (∀ a,okA ns a -> A a ∈ ms) ∧
 ∀ z l H',Grow ms H H' -> NetAt K C H' A (Xy ns) -> Tf K H' z l -> l.Perm (xt ns) -> l.Pairwise (fun a b=>a.1 < b.1) -> Q z H'
section
variable {X:Cx} {K:FG7} {tg:Expr}
def T8 (K:FG7) (tl:TE):TI:=fun σ H R=>tl σ H fun x H1=>∃ a,x = .ref a /\ (((∃ xs,SqL K H1 a xs) /\ R (Itl K a) H1) \/ ((∃ xs,SqT K H1 a xs) /\ R (Itt K a) H1))
theorem XB (hK:X.K = K) {l:Expr} {tl:TE} (hl:PE X l tl):PI X tg l (T8 K tl):=by
 subst hK
 intro pins s σ H R I h
 refine thn (hl pins s σ H _ I h) fun v s1 ⟨x,H1,I1,r1,q1⟩=>?_
 obtain ⟨a,e,q⟩:=q1
 subst e
 cases r1
 rcases q with ⟨⟨xs,hq⟩,q⟩ | ⟨⟨xs,hq⟩,q⟩
 ·obtain ⟨its,rv,p,hz⟩:=I1.list hq
  refine wpAny_pyIter_list p.isList ?_
  refine ⟨s1.heap.objs.size,[s1.heap.objs.size],_,_,H1,rfl,I1.kept (t':=s1.toks) fun b o e=>Heap.get?_push_of_some _ e,rM a _,⟨_,Heap.get?_push_size _ rfl,rfl,rfl⟩,fun b hb=>?_,q⟩
  have e:b = s1.heap.objs.size:=by simpa using hb
  subst e
  exact I1.fpOk (Nat.le_refl _) (I1.hok.fresh (Nat.le_refl _))
 ·obtain ⟨its,rv,p,hz⟩:=I1.tuple hq
  refine wpAny_pyIter_tuple (show s1.heap.IsTuple a its.toArray from p) ?_
  refine ⟨s1.heap.objs.size,[s1.heap.objs.size],_,_,H1,rfl,I1.kept (t':=s1.toks) fun b o e=>Heap.get?_push_of_some _ e,tJ a _,⟨_,Heap.get?_push_size _ rfl,rfl,rfl⟩,fun b hb=>?_,q⟩
  have e:b = s1.heap.objs.size:=by simpa using hb
  subst e
  exact I1.fpOk (Nat.le_refl _) (I1.hok.fresh (Nat.le_refl _))
def isP5 (q:Nat × Nat) (h:Heap):Value -> Bool
 | .ref a=>match h.get? a with
  | some o=>match o.data with
   | .seq its _=>match its.toList with
    | [.int i _,.int j _]=>decide (i = q.1) && decide (j = q.2)
    | _=>false
   | _=>false
  | none=>false
 | _=>false
theorem Vr {p q:Nat × Nat}:(decide ((p.1:Int) = q.1) && decide ((p.2:Int) = q.2)) = decide (p = q):=by
 rw [Bool.eq_iff_iff,Bool.and_eq_true,decide_eq_true_eq,decide_eq_true_eq,decide_eq_true_eq]
 constructor
 ·rintro ⟨a,b⟩; exact Prod.ext (by omega) (by omega)
 ·rintro rfl; exact ⟨rfl,rfl⟩
theorem XC {q p:Nat × Nat} {h:Heap} {a:Addr} {us:List Value} (t:IsTup h a us.toArray) (r:Vals [.int p.1,.int p.2] us):isP5 q h (.ref a) = decide (p = q):=by
 obtain ⟨o,e1,_,n,e2⟩:=t
 obtain ⟨u1,u2,rfl,⟨t1,rfl⟩,⟨t2,rfl⟩⟩:=YI r
 show (match h.get? a with | some o=>_ | none=>_) = _
 rw [e1]
 show (match o.data with | .seq its _=>_ | _=>_) = _
 rw [e2]
 exact Vr
theorem WR {a b c d:Int}:eqVs [.int a,.int b] [.int c,.int d] = (decide (a = c) && decide (b = d)):=by
 rw [show [V.int a,V.int b] = [a,b].map V.int from rfl,show [V.int c,V.int d] = [c,d].map V.int from rfl,wS]
 by_cases h1:a = c
 ·by_cases h2:b = d
  ·rw [decide_eq_true h1,decide_eq_true h2,decide_eq_true (by rw [h1,h2])]; rfl
  ·rw [decide_eq_false h2,Bool.and_false,decide_eq_false fun z=>h2 (by injection z with _ z; injection z)]
 ·rw [decide_eq_false h1,Bool.false_and,decide_eq_false fun z=>h1 (by injection z)]
theorem Vs {pins:List (Addr × Obj)} {σ:L2.St} {H:Hp} {s:Shared} (I:Inv X pins σ H s) {r:Addr} {q:Nat × Nat} (hr:A.units < cLine) (hx:SqT X.K H r [.int q.1,.int q.2]):∀ {ys:List V} {us:List Value} {l:List (Nat × Nat)},Vals ys us -> AllR (sY X.K H) ys l →
  (∀ w ∈ us,SeqAt.EqAt A s w (.ref r) (isP5 q s.heap w)) /\ us.any (isP5 q s.heap) = decide (q ∈ l)
 | [],_,[],.nil,_=>⟨(fun w h=>by cases h),rfl⟩
 | y :: ys,_,p :: l,.cons ry rr,⟨⟨a,e,hs⟩,t⟩=>by
  obtain ⟨h1,h2⟩:=Vs I hr hx rr t
  subst e
  cases ry
  obtain ⟨ws,r1,t1,_⟩:=I.tuple hs
  obtain ⟨vs,r2,t2,_⟩:=I.tuple hx
  have key:isP5 q s.heap (.ref a) = decide (p = q):=XC t1 r1
  refine ⟨fun w hw=>?_,?_⟩
  ·rcases List.mem_cons.mp hw with rfl | hw
   ·rw [key]
    by_cases c:a = r
    ·subst c
     have k2:isP5 q s.heap (.ref a) = decide (q = q):=XC t2 r2
     rw [← key,k2,decide_eq_true rfl]
     exact SeqAt.EqAt.same _
    ·refine SeqAt.EqAt.of_refs c ?_
     have z:=SeqAt.RcAt.tuples (A:=A) (yG t1) (yG t2) hr (Y0 r1 r2 rfl rfl)
     rw [List.size_toArray,List.size_toArray,← r1.length,← r2.length,vj,WR] at z
     rw [Vr] at z
     exact z
   ·exact h1 w hw
  ·rw [List.any_cons,h2,key]
   by_cases c:p = q
   ·subst c; rw [decide_eq_true rfl,decide_eq_true (List.mem_cons_self ..)]; rfl
   ·rw [decide_eq_false c,Bool.false_or]
    by_cases d:q ∈ l
    ·rw [decide_eq_true d,decide_eq_true (List.mem_cons_of_mem _ d)]
    ·rw [decide_eq_false d,decide_eq_false fun z=>(List.mem_cons.mp z).elim (fun w=>c w.symm) d]
def T9 (K:FG7) (neg:Bool):R2:=fun x y H Q=>∃ (r p:Addr) (ys:List V) (q:Nat × Nat) (l:List (Nat × Nat)),x = .ref r /\ y = .ref p /\ SqT K H r [.int q.1,.int q.2] /\ SqT K H p ys /\ AllR (sY K H) ys l /\ Q (.bl (if neg then !decide (q ∈ l) else decide (q ∈ l))) H
theorem sf {k:Nat} (hK:X.K = K) (hr:Room k X.A):OpR X (compareOp .NotIn) (T9 K true):=by
 subst hK
 intro pins s σ H x y v u Q I rx ry h
 obtain ⟨r,p,ys,q,l,rfl,rfl,hx,hq,ha,qq⟩:=h
 cases rx; cases ry
 obtain ⟨its,rv,pl,hz⟩:=I.tuple hq
 have key:=fun (A:Around) (h:A.units < cLine)=>Vs (A:=A) I h hx rv ha
 refine SeqAt.notIn_tupleAt (isP5 q s.heap) pl (fun w hw=>(key _ ?_).1 w (by simpa using hw)) ⟨.bl _,H,I,rfl,?_⟩
 ·have:=hr.un; show _ < _; simp; omega
 ·rw [show its.toArray.any (isP5 q s.heap) = its.any (isP5 q s.heap) by simp,(key X.A (by have:=hr.un; omega)).2]
  exact qq
end
theorem KV.merge5:∀ {kws:List (Key × V)} {ws:List (Key × Value)},KV kws ws -> ∀ {kvs:List (Key × V)} {vs:List (Key × Value)},KV kvs vs -> KV (kws.foldl (fun f p=>putK f p.1 p.2) kvs) (merged vs ws)
 | [],_,r,_,_,r0=>by
  cases r
  exact r0
 | p :: kws,_,r,kvs,vs,r0=>by
  cases r with
  | cons h t =>
   rename_i q ws
   obtain ⟨e,rv⟩:=h
   show KV (kws.foldl _ (putK kvs p.1 p.2)) (merged (stored vs q.1 q.2) ws)
   rw [← e]
   exact KV.merge5 t (r0.put p.1 rv)
theorem sg:∀ {kws kvs:List (Key × V)},(kws.foldl (fun f p=>putK f p.1 p.2) kvs).length <= kvs.length + kws.length
 | [],_=>Nat.le_refl _
 | p :: kws,kvs=>by
  have h1:=sg (kws:=kws) (kvs:=putK kvs p.1 p.2)
  have h2:=xh kvs p.1 p.2
  show (kws.foldl _ (putK kvs p.1 p.2)).length <= kvs.length + (kws.length + 1)
  omega
theorem Yk {X:Cx} {K:FG7} (hK:X.K = K):MtR X "dict.update" (fun x vs H Q=>∃ (d o:Addr) (kvs kws:List (Key × V)),x = .ref d /\ vs = [.ref o] /\ H d = some (.dK kvs) /\ H o = some (.dK kws) /\ d ≠ o /\ kvs.length + kws.length <= sizeLine /\ Q .non (upd H d (.dK (kws.foldl (fun f p=>putK f p.1 p.2) kvs)))):=by
 subst hK
 intro pins s σ H x vs v us Q I rx rv h
 obtain ⟨d,o,kvs,kws,rfl,rfl,hd,ho,ne,hl,q⟩:=h
 cases rx
 obtain ⟨u,rfl,ru⟩:=wG rv
 cases ru
 obtain ⟨z1,hd1,vs1,r1,dd1⟩:=VY I.hok hd
 obtain ⟨z2,hd2,vs2,r2,dd2⟩:=VY I.hok ho
 refine call_meetsIn PySem.F.slot_dict_update dd1.typeIs PySem.F.entry_dict_update (PySem.F.args_dict_update_2 _ _) (meets_dict_update (zM X.prog X.w) d o ne hd2) ⟨vs1,vs2,dd1,dd2,by rw [← r1.length,← r2.length]; exact hl,fun h' dd' _ hs=>?_⟩
 have he:∃ q,h'.get? d = some q:=let ⟨q,_,_,hq,_⟩:=dd'; ⟨q,hq⟩
 exact ⟨.non,_,jw I (by rw [hd]; exact True.intro) hs he (Vn (Nat.le_trans sg hl) hd1 (KV.merge5 r2 r1) dd'),rfl,q⟩
theorem vz:∀ {g f:List (Nat × Int)},(nKv g).foldl (fun f p=>putK f p.1 p.2) (nKv f) = nKv (g.foldl (fun f p=>putN f p.1 p.2) f)
 | [],_=>rfl
 | p :: g,f=>by
  show (nKv g).foldl _ (putK (nKv f) (.inl (p.1:Int)) (.int p.2)) = _
  rw [jD]
  exact vz
def XD (_:FG7):Sp:=sp4 fun x y z u H Q=>∃ (k s n m:Nat),x = .int k /\ y = .int s /\ z = .int n /\ u = .int m /\ k <= 4 /\ 1 <= s /\ s <= k /\ n < 2 ^ (k - 1) /\ m < 2 /\ Q (.int (inlN k s n m:Nat)) H
def XE (K:FG7):Sp:=sp3 fun x y z H Q=>∃ (sw:Nat × Nat) (w c:Wt),SwAt H x sw /\ WtAt K H y w /\ WtAt K H z c /\ w.nums.length + c.nums.length <= 40 /\ w.met.length + c.met.length <= 40 /\ ∀ r H',Grow [] H H' -> WtAt K H' r (xK sw w c) -> Q r H'
theorem vA {k s n m:Nat} (k4:k <= 4) (s1:1 <= s) (sk:s <= k) (hn:n < 2 ^ (k - 1)) (hm:m < 2):inlN k s n m < 2 ^ k:=by
 have key:∀ k:Fin 5,∀ s:Fin 5,1 <= s.val -> s.val <= k.val -> ∀ n:Fin 8,n.val < 2 ^ (k.val - 1) -> ∀ m:Fin 2,inlN k.val s.val n.val m.val < 2 ^ k.val:=by decide +kernel
 have n8:n < 8:=Nat.lt_of_lt_of_le hn (Nat.le_trans (Nat.pow_le_pow_right (by decide) (show k - 1 <= 3 by omega)) (by decide))
 exact key ⟨k,by omega⟩ ⟨s,by omega⟩ s1 sk ⟨n,n8⟩ hn ⟨m,hm⟩
theorem xm {α β:Type} {f:β -> α -> β} {a:β} {l:List α} {j:Nat} {w:α} (h:l[j]? = some w):(l.take (j + 1)).foldl f a = f ((l.take j).foldl f a) w:=by
 obtain ⟨hj,e⟩:=List.getElem?_eq_some_iff.mp h
 rw [List.take_succ_eq_append_getElem hj,e,List.foldl_append]; rfl
theorem zR {β:Type} {f:β -> Nat -> β} {a:β} {j:Nat}:(List.range (j + 1)).foldl f a = f ((List.range j).foldl f a) j:=by
 rw [List.range_succ,List.foldl_append]; rfl
theorem Tg {K:FG7} {H:Hp} {r:Addr} {q:Nat × Nat} (h:H r = some (.tup [.int q.1,.int q.2])):SqT K H r [.int q.1,.int q.2]:=SqT.of h
theorem y4 {H:Hp} {r:Addr} {a b:Int} (h:H r = some (.tup [.int a,.int b])):H r = some (.tup ((kI [a,b]).map kV)):=by rw [T6]; exact h
theorem nd5 {a b:Ad} {K:FG7} {C:Addr} {H:Hp} {A:Ad -> Addr} {ns:NS} (h:NetAt K C H A ns) (ha:okA ns a) (hb:okA ns b) (n:a ≠ b):A a ≠ A b:=fun z=>n (h.inj _ _ ha hb z)
theorem xD {b:Nat}:∀ {l:List Nat} {ns:NS},(l.foldl (doN b) ns).boxes.length = ns.boxes.length /\ (l.foldl (doN b) ns).asks = ns.asks /\ (l.foldl (doN b) ns).log = ns.log ++ l /\ (l.foldl (doN b) ns).fnd.length <= ns.fnd.length + l.length
 | [],ns=>⟨rfl,rfl,(List.append_nil _).symm,Nat.le_refl _⟩
 | n :: l,ns=>by
  obtain ⟨h1,h2,h3,h4⟩:=xD (b:=b) (l:=l) (ns:=doN b ns n)
  refine ⟨h1.trans (List.length_set ..),h2,?_,Nat.le_trans h4 ?_⟩
  ·show (l.foldl (doN b) (doN b ns n)).log = _
   rw [h3]
   show (ns.log ++ [n]) ++ l = _
   rw [List.append_assoc]; rfl
  ·have:=Zu (f:=ns.fnd) (n:=n) (v:=ns.boxes.getD b 0)
   show (putN ns.fnd n (ns.boxes.getD b 0)).length + l.length <= ns.fnd.length + (l.length + 1)
   omega
theorem rj {n i:Nat} (h:i < n):ixN n (i:Int) = some i:=by
 have:=VV (n:=n) (i:=(i:Int)) (by omega) (by omega)
 rw [this,Int.toNat_natCast]
theorem Yl {k s n m:Nat} (k4:k <= 4) (s1:1 <= s) (sk:s <= k) (hn:n < 2 ^ (k - 1)) (hm:m < 2):n < 8 /\ CPow ((n:Int) / 2 ^ ((k:Int) - s).toNat) ((k:Int) - s + 1) /\ CPow (m:Int) ((k:Int) - s) /\ CPow 1 ((k:Int) - s) /\ True ∧
  Builtin.bitOr (Builtin.bitOr ((n:Int) / 2 ^ ((k:Int) - s).toNat * 2 ^ ((k:Int) - s + 1).toNat) ((m:Int) * 2 ^ ((k:Int) - s).toNat)) (Builtin.bitAnd (n:Int) (1 * 2 ^ ((k:Int) - s).toNat - 1)) = (inlN k s n m:Nat):=by
 have n8:n < 8:=Nat.lt_of_lt_of_le hn (Nat.le_trans (Nat.pow_le_pow_right (by decide) (show k - 1 <= 3 by omega)) (by decide))
 have e2:(n:Int) / 2 ^ ((k:Int) - s).toNat <= n:=Int.ediv_le_self _ (by omega)
 have e1:(0:Int) <= (n:Int) / 2 ^ ((k:Int) - s).toNat:=Int.ediv_nonneg (by omega) (Int.le_of_lt (Int.pow_pos (by decide)))
 refine ⟨n8,⟨by omega,by omega,by omega⟩,⟨by omega,by omega,by omega⟩,⟨by omega,by omega,by decide⟩,trivial,?_⟩
 have key:∀ k:Fin 5,∀ s:Fin 5,1 <= s.val -> s.val <= k.val -> ∀ n:Fin 8,n.val < 2 ^ (k.val - 1) -> ∀ m:Fin 2,Builtin.bitOr (Builtin.bitOr ((n.val:Int) / 2 ^ ((k.val:Int) - s.val).toNat * 2 ^ ((k.val:Int) - s.val + 1).toNat) ((m.val:Int) * 2 ^ ((k.val:Int) - s.val).toNat)) (Builtin.bitAnd (n.val:Int) (1 * 2 ^ ((k.val:Int) - s.val).toNat - 1)) = (inlN k.val s.val n.val m.val:Nat):=by decide +kernel
 exact key ⟨k,by omega⟩ ⟨s,by omega⟩ s1 sk ⟨n,n8⟩ hn ⟨m,hm⟩
theorem Ua {c:TT} {t u:TS} {D:Ends} {σ:L2.St} {H:Hp} (Good:Bool -> Hp -> Prop) (hc:∀ K:Bool -> Hp -> Prop,(∀ b H',Good b H' -> K b H') -> c σ H K) (hr:∀ b H',Good b H' -> if b = true then t D σ H' else u D σ H'):tIfS c t u D σ H:=hc _ hr
theorem Th {is:List Nat} {i:Nat}:atI (zT (is ++ [i])) (-1) = some (V.int i):=by
 have:=TU (ys:=is.map fun n:Nat=>(n:Int)) (v:=(i:Int))
 unfold zT
 rw [List.map_append,List.map_map] at this
 rw [List.map_append]
 exact this
theorem jG {out:List Wt} {b i:Nat} (h:qE out b = some i):i < out.length /\ (out.getD i default).box = b:=by
 have hm:=List.mem_of_getLast? h
 rw [List.mem_filter] at hm
 exact ⟨List.mem_range.mp hm.1,of_decide_eq_true hm.2⟩
theorem va {ns:NS} (nr:NR ns) {l j:Nat} (hl:l <= ns.k) (hj:j < 2 ^ ns.k):(ns.lines l j).length <= 40 /\ lsum nlen (ns.lines l j) <= 40:=by
 have h1:=Vq (f:=ns.lines) (g:=nlen) hl hj
 have h2:=nr.tot
 have h3:=nr.a40
 have h4:=sW (g:=nlen) (ws:=ns.lines l j) fun w hw=>by
  have:=(nr.lw l j hl hj w hw).ne
  cases e:w.nums with
  | nil=>exact absurd e this
  | cons a r=>show 1 <= w.nums.length; rw [e]; exact Nat.succ_le_succ (Nat.zero_le _)
 omega
theorem Ub {v:V} {r:List V}:seqIndex? 0 (v :: r).length = some 0:=(jk (rj (n:=(v :: r).length) (i:=0) (Nat.succ_pos _))).1
inductive HandC (ns:NS) (s l:Nat):NS -> Prop
 | stay:HandC ns s l ns
 | add (c:Wt) (r:List Wt):ns.lines (s - 1) l = c :: r -> (ns.lines s (outR ns.k s l c.box)).length < ns.room →
   HandC ns s l { ns with lines:=updL (updL ns.lines (s - 1) l r) s (outR ns.k s l c.box) (ns.lines s (outR ns.k s l c.box) ++ [c]) }
 | join (c:Wt) (r:List Wt) (i:Nat):ns.lines (s - 1) l = c :: r -> i < (ns.lines s (outR ns.k s l c.box)).length -> ((ns.lines s (outR ns.k s l c.box)).getD i default).box = c.box -> ns.keep s (nN ns.k s l) < ns.kept →
   HandC ns s l { ns with lines:=updL (updL ns.lines (s - 1) l r) s (outR ns.k s l c.box) ((ns.lines s (outR ns.k s l c.box)).set i (xK (s,nN ns.k s l) ((ns.lines s (outR ns.k s l c.box)).getD i default) c)),keep:=updL ns.keep s (nN ns.k s l) (ns.keep s (nN ns.k s l) + 1) }
theorem addC {ns:NS} {s l:Nat} {c:Wt} {r:List Wt} (h:ns.lines (s - 1) l = c :: r):HandC ns s l (addS ns s l c r):=by
 unfold addS
 split
 ·exact .add c r h (by assumption)
 ·exact .stay
theorem WS (ns:NS) (s l:Nat):HandC ns s l (wu ns s l):=by
 unfold wu
 split
 ·exact .stay
 ·rename_i c r h
  split
  ·exact addC h
  ·rename_i i hi
   split
   ·rename_i hk
    exact .join c r i h (jG hi).1 (jG hi).2 hk
   ·exact addC h
structure Same5 (a b:NS):Prop where
 k:a.k = b.k
 room:a.room = b.room
 kept:a.kept = b.kept
 boxes:a.boxes = b.boxes
 asks:a.asks = b.asks
 now:a.now = b.now
 nd:a.nd = b.nd
 done:a.done = b.done
 log:a.log = b.log
 fnd:a.fnd = b.fnd
 ans:a.ans = b.ans
theorem Same5.refl (a:NS):Same5 a a:=⟨rfl,rfl,rfl,rfl,rfl,rfl,rfl,rfl,rfl,rfl,rfl⟩
theorem Same5.trans {a b c:NS} (h:Same5 a b) (g:Same5 b c):Same5 a c :=
 ⟨h.k.trans g.k,h.room.trans g.room,h.kept.trans g.kept,h.boxes.trans g.boxes,h.asks.trans g.asks,h.now.trans g.now,h.nd.trans g.nd,h.done.trans g.done,h.log.trans g.log,h.fnd.trans g.fnd,h.ans.trans g.ans⟩
theorem HandC.same {ns n':NS} {s l:Nat} (h:HandC ns s l n'):Same5 n' ns:=by
 cases h <;> exact ⟨rfl,rfl,rfl,rfl,rfl,rfl,rfl,rfl,rfl,rfl,rfl⟩
theorem wa (ns:NS) (s l:Nat):Same5 (wu ns s l) ns:=(WS ns s l).same
def Addv (g:Wt -> Nat):Prop:=∀ sw w c,g (xK sw w c) = g w + g c
theorem wb {k s l b:Nat} (k4:k <= 4) (s1:1 <= s) (sk:s <= k) (hl:l < 2 ^ k):outR k s l b < 2 ^ k:=(outF (b:=b) k4 s1 sk hl).lt
section
variable {ns n':NS} {s l:Nat}
theorem HandC.ws (h:HandC ns s l n') {g:Wt -> Nat} (hg:Addv g) (k4:ns.k <= 4) (s1:1 <= s) (sk:s <= ns.k) (hl:l < 2 ^ ns.k):wsN ns.k n'.lines g = wsN ns.k ns.lines g:=by
 cases h with
 | stay=>rfl
 | add c r hc hr =>
  have o:=wb (b:=c.box) k4 s1 sk hl
  have h1:=xj (f:=ns.lines) (v:=r) (g:=g) (show s - 1 <= ns.k by omega) hl
  have h2:=xj (f:=updL ns.lines (s - 1) l r) (v:=ns.lines s (outR ns.k s l c.box) ++ [c]) (g:=g) sk o
  rw [zB (fun z=>by have:=z.1; omega)] at h2
  rw [hc,zH] at h1
  rw [xM,zH,xL] at h2
  show wsN ns.k (updL (updL ns.lines (s - 1) l r) s (outR ns.k s l c.box) (ns.lines s (outR ns.k s l c.box) ++ [c])) g = _
  omega
 | join c r i hc hi hb hk =>
  have o:=wb (b:=c.box) k4 s1 sk hl
  have h1:=xj (f:=ns.lines) (v:=r) (g:=g) (show s - 1 <= ns.k by omega) hl
  have h2:=xj (f:=updL ns.lines (s - 1) l r) (v:=(ns.lines s (outR ns.k s l c.box)).set i (xK (s,nN ns.k s l) ((ns.lines s (outR ns.k s l c.box)).getD i default) c)) (g:=g) sk o
  rw [zB (fun z=>by have:=z.1; omega)] at h2
  have h3:=sV (g:=g) (v:=xK (s,nN ns.k s l) ((ns.lines s (outR ns.k s l c.box)).getD i default) c) hi
  rw [hg] at h3
  rw [hc,zH] at h1
  show wsN ns.k (updL (updL ns.lines (s - 1) l r) s (outR ns.k s l c.box) ((ns.lines s (outR ns.k s l c.box)).set i (xK (s,nN ns.k s l) ((ns.lines s (outR ns.k s l c.box)).getD i default) c))) g = _
  omega
theorem HandC.all (h:HandC ns s l n') {P:Wt -> Prop} (k4:ns.k <= 4) (s1:1 <= s) (sk:s <= ns.k) (hl:l < 2 ^ ns.k) (hp:∀ a b,a <= ns.k -> b < 2 ^ ns.k -> ∀ w ∈ ns.lines a b,P w)
  (hj:∀ w c,P w -> P c -> w.box = c.box -> P (xK (s,nN ns.k s l) w c)):∀ a b,a <= ns.k -> b < 2 ^ ns.k -> ∀ w ∈ n'.lines a b,P w:=by
 have h1:s - 1 <= ns.k:=by omega
 cases h with
 | stay=>exact hp
 | add c r hc hr =>
  intro a b ha hb w hw
  have hw:w ∈ updL (updL ns.lines (s - 1) l r) s (outR ns.k s l c.box) (ns.lines s (outR ns.k s l c.box) ++ [c]) a b:=hw
  by_cases e:a = s /\ b = outR ns.k s l c.box
  ·rw [e.1,e.2,zw] at hw
   rcases List.mem_append.mp hw with z | z
   ·exact hp s _ sk (wb k4 s1 sk hl) w z
   ·rw [List.mem_singleton.mp z]; exact hp (s - 1) l h1 hl c (by rw [hc]; exact List.mem_cons_self ..)
  ·rw [zB e] at hw
   by_cases e2:a = s - 1 /\ b = l
   ·rw [e2.1,e2.2,zw] at hw
    exact hp (s - 1) l h1 hl w (by rw [hc]; exact List.mem_cons_of_mem _ hw)
   ·rw [zB e2] at hw; exact hp a b ha hb w hw
 | join c r i hc hi hb' hk =>
  intro a b ha hb w hw
  have hw:w ∈ updL (updL ns.lines (s - 1) l r) s (outR ns.k s l c.box) ((ns.lines s (outR ns.k s l c.box)).set i (xK (s,nN ns.k s l) ((ns.lines s (outR ns.k s l c.box)).getD i default) c)) a b:=hw
  have o:=wb (b:=c.box) k4 s1 sk hl
  have pc:P c:=hp (s - 1) l h1 hl c (by rw [hc]; exact List.mem_cons_self ..)
  by_cases e:a = s /\ b = outR ns.k s l c.box
  ·rw [e.1,e.2,zw] at hw
   rcases List.mem_or_eq_of_mem_set hw with z | z
   ·exact hp s _ sk o w z
   ·rw [z]
    refine hj _ _ (hp s _ sk o _ ?_) pc hb'
    rw [List.getD_eq_getElem?_getD,List.getElem?_eq_getElem hi]; exact List.getElem_mem hi
  ·rw [zB e] at hw
   by_cases e2:a = s - 1 /\ b = l
   ·rw [e2.1,e2.2,zw] at hw
    exact hp (s - 1) l h1 hl w (by rw [hc]; exact List.mem_cons_of_mem _ hw)
   ·rw [zB e2] at hw; exact hp a b ha hb w hw
theorem WT:Addv nlen:=fun _ w c=>List.length_append ..
theorem Ti {k b a:Nat} {w c:Wt} {sw:Nat × Nat} (hw:WtOk k b a w) (hc:WtOk k b a c) (hs:1 <= sw.1 /\ sw.1 <= k /\ sw.2 < 2 ^ (k - 1)):WtOk k b a (xK sw w c) where
 bx:=hw.bx
 ne:=fun z=>hw.ne (List.append_eq_nil_iff.mp z).1
 nm:=fun n hn=>(List.mem_append.mp hn).elim (hw.nm n) (hc.nm n)
 mt:=fun q hq=>by
  rcases List.mem_append.mp hq with z | z
  ·exact (List.mem_append.mp z).elim (hw.mt q) (hc.mt q)
  ·rw [List.mem_singleton.mp z]; exact hs
 ln:=by
  have h1:=hw.ln
  have h2:=hc.ln
  show (w.met ++ c.met ++ [sw]).length + 1 = (w.nums ++ c.nums).length
  rw [List.length_append,List.length_append,List.length_append]
  show w.met.length + c.met.length + 1 + 1 = _
  omega
theorem NR.hand (nr:NR ns) (s1:1 <= s) (sk:s <= ns.k) (hl:l < 2 ^ ns.k):NR (wu ns s l):=by
 have hc:=WS ns s l
 have sm:=hc.same
 have F1:=oneF nr.k4 s1 sk hl
 have ws:=hc.ws WT nr.k4 s1 sk hl
 have al:=hc.all (P:=WtOk ns.k ns.boxes.length ns.asks.length) nr.k4 s1 sk hl nr.lw fun w c hw hc _=>Ti hw hc ⟨s1,sk,F1.lt⟩
 refine ⟨by rw [sm.k]; exact nr.k4,by rw [sm.boxes]; exact nr.b16,by rw [sm.asks]; exact nr.a40,?_,?_,?_,by rw [sm.now]; exact nr.nw,by rw [sm.nd,sm.now]; exact nr.nd,by rw [sm.fnd,sm.log]; exact nr.fl⟩
 ·rw [sm.k,sm.boxes,sm.asks]; exact al
 ·rw [sm.k,sm.boxes,sm.asks,sm.nd,sm.done]; exact nr.dw
 ·rw [sm.k,sm.log,sm.asks,ws]; exact nr.tot
end
theorem Ym (gone:List (Nat × Nat)) (s:Nat) (ns:NS) (n:Nat):Same5 (x9 gone s ns n) ns:=by
 unfold x9
 split
 ·exact Same5.refl _
 ·exact (wa _ _ _).trans (wa _ _ _)
theorem NR.pass1 {ns:NS} (nr:NR ns) {gone:List (Nat × Nat)} {s n:Nat} (s1:1 <= s) (sk:s <= ns.k) (hn:n < 2 ^ (ns.k - 1)):NR (x9 gone s ns n):=by
 unfold x9
 split
 ·exact nr
 ·have h1:=nr.hand s1 sk (l:=inlN ns.k s n (ns.now % 2)) (vA nr.k4 s1 sk hn (Nat.mod_lt _ (by decide)))
  have sm:=wa ns s (inlN ns.k s n (ns.now % 2))
  exact h1.hand s1 (by rw [sm.k]; exact sk) (by rw [sm.k]; exact vA nr.k4 s1 sk hn (by omega))
theorem xE (gone:List (Nat × Nat)) (ns:NS) (s:Nat):∀ i,Same5 (passS gone ns s i) ns
 | 0=>Same5.refl _
 | i + 1=>by
  unfold passS
  rw [zR]
  exact (Ym _ _ _ _).trans (xE gone ns s i)
theorem NR.passS {ns:NS} (nr:NR ns) {gone:List (Nat × Nat)} {s:Nat} (s1:1 <= s) (sk:s <= ns.k):∀ {i},i <= 2 ^ (ns.k - 1) -> NR (passS gone ns s i)
 | 0,_=>nr
 | i + 1,h=>by
  unfold L3.passS
  rw [zR]
  have sm:=xE gone ns s i
  exact (NR.passS nr s1 sk (gone:=gone) (i:=i) (by omega)).pass1 s1 (by rw [sm.k]; exact sk) (by rw [sm.k]; omega)
theorem xF (gone:List (Nat × Nat)) (ns:NS):∀ i,Same5 (passA gone ns i) ns
 | 0=>Same5.refl _
 | i + 1=>by
  unfold passA
  rw [zR]
  exact (xE _ _ _ _).trans (xF gone ns i)
theorem NR.passA {ns:NS} (nr:NR ns) {gone:List (Nat × Nat)}:∀ {i},i <= ns.k -> NR (passA gone ns i)
 | 0,_=>nr
 | i + 1,h=>by
  unfold L3.passA
  rw [zR]
  have sm:=xF gone ns i
  refine NR.passS (NR.passA nr (gone:=gone) (i:=i) (by omega)) ?_ ?_ ?_
  ·show 1 <= (L3.passA gone ns i).k - i; rw [sm.k]; omega
  ·show (L3.passA gone ns i).k - i <= (L3.passA gone ns i).k; omega
  ·exact Nat.le_refl _
theorem vB {gone:List (Nat × Nat)} {ns:NS} {i:Nat}:zP gone ns (i + 1) = qF gone ns.k (zP gone ns i) i:=by unfold zP; rw [zR]
theorem uD {gone:List (Nat × Nat)} {k i:Nat} {st:List Wt × (Nat -> Nat -> List Wt)} (h:st.2 k i = []):qF gone k st i = st:=by unfold qF; rw [h]
theorem vC {gone:List (Nat × Nat)} {k i:Nat} {st:List Wt × (Nat -> Nat -> List Wt)} (hg:(0,i) ∈ gone):qF gone k st i = st:=by
 unfold qF
 split
 ·rfl
 ·rw [if_pos hg]
theorem rk {gone:List (Nat × Nat)} {k i:Nat} {st:List Wt × (Nat -> Nat -> List Wt)} {w:Wt} {r:List Wt} (h:st.2 k i = w :: r) (hg:(0,i) ∉ gone):qF gone k st i = (st.1 ++ [w],updL st.2 k i r):=by
 unfold qF; rw [h]; exact if_neg hg
structure TakeF (ns:NS) (st:List Wt × (Nat -> Nat -> List Wt)):Prop where
 tk:∀ w ∈ st.1,∃ j,j < 2 ^ ns.k /\ w ∈ ns.lines ns.k j
 ln:∀ l j,∀ w ∈ st.2 l j,w ∈ ns.lines l j
 lo:∀ l j,l ≠ ns.k -> st.2 l j = ns.lines l j
 ws:∀ g:Wt -> Nat,lsum g st.1 + wsN ns.k st.2 g = wsN ns.k ns.lines g
theorem XF {gone:List (Nat × Nat)} {ns:NS}:∀ {i},i <= 2 ^ ns.k -> TakeF ns (zP gone ns i)
 | 0,_=>⟨(fun _ h=>by cases h),fun _ _ _ h=>h,fun _ _ _=>rfl,fun g=>by show 0 + wsN ns.k ns.lines g = _; omega⟩
 | i + 1,h=>by
  have ih:=XF (gone:=gone) (ns:=ns) (i:=i) (by omega)
  rw [vB]
  cases hc:(zP gone ns i).2 ns.k i with
  | nil=>rw [uD hc]; exact ih
  | cons w r =>
   by_cases hg:(0,i) ∈ gone
   ·rw [vC hg]; exact ih
   ·rw [rk hc hg]
    refine ⟨fun x hx=>?_,fun l j x hx=>?_,fun l j hl=>?_,fun g=>?_⟩
    ·rcases List.mem_append.mp hx with z | z
     ·exact ih.tk x z
     ·rw [List.mem_singleton.mp z]
      exact ⟨i,by omega,ih.ln _ _ w (by rw [hc]; exact List.mem_cons_self ..)⟩
    ·have hx:x ∈ updL (zP gone ns i).2 ns.k i r l j:=hx
     by_cases e:l = ns.k /\ j = i
     ·rw [e.1,e.2,zw] at hx
      rw [e.1,e.2]
      exact ih.ln _ _ x (by rw [hc]; exact List.mem_cons_of_mem _ hx)
     ·rw [zB e] at hx; exact ih.ln l j x hx
    ·show updL (zP gone ns i).2 ns.k i r l j = _
     rw [zB fun z=>hl z.1]; exact ih.lo l j hl
    ·have h1:=ih.ws g
     have h2:=xj (f:=(zP gone ns i).2) (v:=r) (g:=g) (Nat.le_refl ns.k) (show i < 2 ^ ns.k by omega)
     rw [hc,zH] at h2
     show lsum g ((zP gone ns i).1 ++ [w]) + wsN ns.k (updL (zP gone ns i).2 ns.k i r) g = _
     rw [xM,zH,xL]
     omega
def zZ (l:List Wt):List Nat:=l.flatMap (·.nums)
theorem vb:∀ {l:List Wt},(zZ l).length = lsum nlen l
 | []=>rfl
 | w :: l=>by
  show (w.nums ++ zZ l).length = w.nums.length + lsum nlen l
  rw [List.length_append,vb]
theorem wH {n:Nat}:∀ {l:List Wt},(zZ l).count n = lsum (fun w=>w.nums.count n) l
 | []=>rfl
 | w :: l=>by
  show (w.nums ++ zZ l).count n = w.nums.count n + lsum (fun w=>w.nums.count n) l
  rw [List.count_append,wH]
structure DoF (ns n':NS) (l:List Wt):Prop where
 k:n'.k = ns.k
 room:n'.room = ns.room
 kept:n'.kept = ns.kept
 bl:n'.boxes.length = ns.boxes.length
 asks:n'.asks = ns.asks
 now:n'.now = ns.now
 lines:n'.lines = ns.lines
 keep:n'.keep = ns.keep
 nd:n'.nd = ns.nd
 done:n'.done = ns.done
 log:n'.log = ns.log ++ zZ l
 fl:n'.fnd.length <= ns.fnd.length + (zZ l).length
 ans:n'.ans = ns.ans
theorem doF1 {b:Nat}:∀ {l:List Nat} {ns:NS},(l.foldl (doN b) ns).k = ns.k /\ (l.foldl (doN b) ns).room = ns.room /\ (l.foldl (doN b) ns).kept = ns.kept /\ (l.foldl (doN b) ns).now = ns.now /\ (l.foldl (doN b) ns).lines = ns.lines /\ (l.foldl (doN b) ns).keep = ns.keep /\ (l.foldl (doN b) ns).nd = ns.nd /\ (l.foldl (doN b) ns).done = ns.done /\ (l.foldl (doN b) ns).ans = ns.ans
 | [],ns=>⟨rfl,rfl,rfl,rfl,rfl,rfl,rfl,rfl,rfl⟩
 | n :: l,ns=>doF1 (b:=b) (l:=l) (ns:=doN b ns n)
theorem doF:∀ {l:List Wt} {ns:NS},DoF ns (l.foldl doW ns) l
 | [],ns=>⟨rfl,rfl,rfl,rfl,rfl,rfl,rfl,rfl,rfl,rfl,(List.append_nil _).symm,Nat.le_refl _,rfl⟩
 | w :: l,ns=>by
  have ih:=doF (l:=l) (ns:=doW ns w)
  obtain ⟨a1,a2,a3,a4,a5,a6,a7,a8,a9⟩:=doF1 (b:=w.box) (l:=w.nums) (ns:=ns)
  obtain ⟨b1,b2,b3,b4⟩:=xD (b:=w.box) (l:=w.nums) (ns:=ns)
  refine ⟨ih.k.trans a1,ih.room.trans a2,ih.kept.trans a3,ih.bl.trans b1,ih.asks.trans b2,ih.now.trans a4,ih.lines.trans a5,ih.keep.trans a6,ih.nd.trans a7,ih.done.trans a8,?_,?_,ih.ans.trans a9⟩
  ·show (l.foldl doW (doW ns w)).log = ns.log ++ (w.nums ++ zZ l)
   rw [ih.log,show (doW ns w).log = ns.log ++ w.nums from b3,List.append_assoc]
  ·have h1:=ih.fl
   have b4:(doW ns w).fnd.length <= ns.fnd.length + w.nums.length:=b4
   show (l.foldl doW (doW ns w)).fnd.length <= ns.fnd.length + (w.nums ++ zZ l).length
   rw [List.length_append]
   omega
theorem big5 {n:Nat} (h:n <= 1000000):n < sizeLine:=Nat.lt_of_le_of_lt h (by decide)
def extA (A:Ad -> Addr) (nd:Nat) (q:Addr):Ad -> Addr:=fun a=>if a = .dn (nd + 1) then q else A a
theorem vc {A:Ad -> Addr} {nd:Nat} {q:Addr}:extA A nd q (.dn (nd + 1)) = q:=if_pos rfl
theorem xO {A:Ad -> Addr} {ns:NS} {q:Addr} {a:Ad} (h:okA ns a):extA A ns.nd q a = A a:=if_neg fun z=>by
 subst z
 have h:1 <= ns.nd + 1 /\ ns.nd + 1 <= ns.nd:=h
 omega
section
variable {K:FG7} {C:Addr} {H:Hp} {A:Ad -> Addr} {ns:NS}
theorem NetAt.setDone (h:NetAt K C H A ns) {q:Addr} {tv:List V} {ws:List Wt} (hq:H q = some (.lst tv)) (hw:AllR (WtAt K H) tv ws) (nq:∀ a,okA ns a -> A a ≠ q) :
  NetAt K C (upd H (A .dd) (.dK (putK (xk A ns.nd) (.inl ((ns.nd + 1:Nat):Int)) (.ref q)))) (extA A ns.nd q) { ns with nd:=ns.nd + 1,done:=updD ns.done (ns.nd + 1) ws } /\ Grow [A .dd] H (upd H (A .dd) (.dK (putK (xk A ns.nd) (.inl ((ns.nd + 1:Nat):Int)) (.ref q)))):=by
 have g:=Grow.setK5 (m:=[A .dd]) h.dd (by simp) (putK (xk A ns.nd) (.inl ((ns.nd + 1:Nat):Int)) (.ref q))
 refine ⟨⟨fun a ha=>?_,fun a b ha hb e=>?_⟩,g⟩
 ·by_cases e:a = .dn (ns.nd + 1)
  ·subst e
   rw [vc]
   refine ⟨_,by rw [zu (fun z=>nq .dd trivial z.symm)]; exact hq,tv,rfl,?_⟩
   show AllR _ tv (updD ns.done (ns.nd + 1) ws (ns.nd + 1))
   rw [show updD ns.done (ns.nd + 1) ws (ns.nd + 1) = ws from if_pos rfl]
   exact hw.imp fun _ _ z=>z.grow g
  ·have ok:okA ns a:=by
    cases a with
    | dn t =>
     have ha:1 <= t /\ t <= ns.nd + 1:=ha
     have:t ≠ ns.nd + 1:=fun z=>e (by rw [z])
     exact ⟨ha.1,by omega⟩
    | _=>exact ha
   rw [xO ok]
   by_cases ed:a = .dd
   ·subst ed
    refine ⟨_,zd,?_⟩
    show HO.dK _ = .dK (xk (extA A ns.nd q) (ns.nd + 1))
    rw [WP (A':=extA A ns.nd q) (fun t h1 h2=>xO (ns:=ns) (a:=.dn t) ⟨h1,h2⟩) vc]
   ·obtain ⟨o,h1,h2⟩:=h.at_ a ok
    refine ⟨o,by rw [zu fun z=>ed (h.inj _ _ ok trivial z)]; exact h1,?_⟩
    have h3:=h2.grow g
    have ef:zJ (extA A ns.nd q) { ns with nd:=ns.nd + 1,done:=updD ns.done (ns.nd + 1) ws } = zJ A ns:=rfl
    have el:xC (extA A ns.nd q) ns.k = xC A ns.k:=by
     unfold xC
     refine congrArg (fun f=>(List.range (ns.k + 1)).flatMap f) (funext fun l=>List.map_congr_left fun j _=>?_)
     rfl
    cases a with
    | p=>obtain ⟨dx,e⟩:=h3; exact ⟨dx,e⟩
    | dl=>exact h3
    | dd=>exact absurd rfl ed
    | dn t =>
     obtain ⟨ys,e1,e2⟩:=h3
     refine ⟨ys,e1,?_⟩
     show AllR _ ys (updD ns.done (ns.nd + 1) ws t)
     rw [show updD ns.done (ns.nd + 1) ws t = ns.done t from if_neg fun z=>e (by rw [z])]
     exact e2
    | _=>exact h3
 ·have key:∀ a,okA ({ ns with nd:=ns.nd + 1,done:=updD ns.done (ns.nd + 1) ws }:NS) a -> a = .dn (ns.nd + 1) \/ okA ns a:=fun a ha=>by
   cases a with
   | dn t =>
    have ha:1 <= t /\ t <= ns.nd + 1:=ha
    by_cases z:t = ns.nd + 1
    ·exact .inl (by rw [z])
    ·exact .inr ⟨ha.1,by omega⟩
   | _=>exact .inr ha
  rcases key a ha with ea | oa
  ·rcases key b hb with eb | ob
   ·rw [ea,eb]
   ·rw [ea,vc,xO ob] at e
    exact absurd e.symm (nq b ob)
  ·rcases key b hb with eb | ob
   ·rw [eb,vc,xO oa] at e
    exact absurd e (nq a oa)
   ·rw [xO oa,xO ob] at e
    exact h.inj a b oa ob e
end
def TpAt (H:Hp) (x:V) (p:Nat × Int):Prop:=∃ r,x = .ref r /\ H r = some (.tup [.int p.1,.int p.2])
theorem TpAt.grow {m:List Addr} {H H':Hp} {x:V} {p:Nat × Int} (h:TpAt H x p) (g:Grow m H H'):TpAt H' x p:=by
 obtain ⟨r,e,h⟩:=h
 exact ⟨r,e,g.tup _ _ h⟩
theorem WU {H:Hp} {zs:List V} {tl:List (Nat × Int)} (h:AllR (TpAt H) zs tl):jz H zs (nKv tl):=by
 refine ⟨by unfold nKv; rw [List.length_map]; exact h.len,fun i p hp=>?_⟩
 unfold nKv at hp
 rw [List.getElem?_map] at hp
 obtain ⟨q,hq,rfl⟩:=Option.map_eq_some_iff.mp hp
 obtain ⟨x,hx,r,rfl,hr⟩:=h.getR hq
 exact ⟨r,hx,hr⟩
theorem WV {tl:List (Nat × Int)}:u5 (nKv tl) = nKv (qG tl):=vz (g:=tl) (f:=[])
def itF (p:Nat × Int):List Int × List V:=([(p.1:Int)],[.int p.2])
def itB (p:List Int × List V):Nat × Int:=((p.1.getD 0 0).toNat,match p.2 with | [.int v]=>v | _=>0)
theorem itBF (p:Nat × Int):itB (itF p) = p:=rfl
theorem Vt {K:FG7} {H:Hp}:∀ {zs:List V} {tl:List (Nat × Int)},AllR (TpAt H) zs tl -> AllR (Ye K H) zs (tl.map itF)
 | [],[],_=>trivial
 | _ :: _,p :: _,⟨⟨r,e,h⟩,t⟩=>⟨⟨r,e,SqT.of h⟩,Vt t⟩
 | [],_ :: _,h=>h.elim
 | _ :: _,[],h=>h.elim
theorem XG {K:FG7} {H:Hp}:∀ {zs:List V} {its:List (List Int × List V)},(∀ q ∈ its,∃ p,q = itF p) -> AllR (Ye K H) zs its -> AllR (fun x (p:Nat × Int)=>yz K H x [(p.1:Int),p.2]) zs (its.map itB)
 | [],[],_,_=>trivial
 | _ :: _,q :: its,hq,⟨⟨r,e,h⟩,t⟩=>by
  obtain ⟨p,rfl⟩:=hq q (List.mem_cons_self ..)
  exact ⟨⟨r,e,h⟩,XG (fun q' h'=>hq q' (List.mem_cons_of_mem _ h')) t⟩
 | [],_ :: _,_,h=>h.elim
 | _ :: _,[],_,h=>h.elim
theorem Uc {its:List (List Int × List V)} {tl:List (Nat × Int)} (h:its.Perm (tl.map itF)):(its.map itB).Perm tl /\ ∀ q ∈ its,∃ p,q = itF p:=by
 refine ⟨?_,fun q hq=>?_⟩
 ·have:=h.map itB
  rw [List.map_map,show itB ∘ itF = id from funext itBF,List.map_id] at this
  exact this
 ·obtain ⟨p,_,e⟩:=List.mem_map.mp (h.mem_iff.mp hq)
  exact ⟨p,e.symm⟩
theorem Sa {its:List (List Int × List V)} (hq:∀ q ∈ its,∃ p,q = itF p) (h:its.Pairwise fun x y=>ltL x.1 y.1 = true):(its.map itB).Pairwise fun a b=>a.1 < b.1:=by
 rw [List.pairwise_map]
 refine h.imp_of_mem fun {x y} hx hy hlt=>?_
 obtain ⟨p,rfl⟩:=hq x hx
 obtain ⟨r,rfl⟩:=hq y hy
 rw [itBF,itBF]
 have e:ltL [(p.1:Int)] [(r.1:Int)] = true:=hlt
 unfold ltL at e
 split at e
 ·rename_i c; simp [ltL] at e
 ·have:=of_decide_eq_true e; omega
theorem Zx {ns:NS} {l:List Wt}:(l.flatMap (u7 ns)).length = lsum nlen l:=by
 induction l with
 | nil=>rfl
 | cons w l ih =>
  show (u7 ns w ++ l.flatMap (u7 ns)).length = w.nums.length + lsum nlen l
  rw [List.length_append,ih]
  show (w.nums.map _).length + _ = _
  rw [List.length_map]
theorem Ud {tl:List (Nat × Int)} (h:(tl.map (·.1)).Nodup):((tl.map itF).map (·.1)).Nodup:=by
 rw [List.map_map]
 have e:((fun x:List Int × List V=>x.1) ∘ itF) = (fun n:Nat=>[(n:Int)]) ∘ (fun p:Nat × Int=>p.1):=rfl
 rw [e,← List.map_map]
 exact List.Nodup.map_on5 h
where
 List.Nodup.map_on5:∀ {l:List Nat},l.Nodup -> (l.map fun n:Nat=>[(n:Int)]).Nodup
 | [],_=>List.nodup_nil
 | n :: l,h=>by
  obtain ⟨h1,h2⟩:=List.nodup_cons.mp h
  refine List.nodup_cons.mpr ⟨fun z=>?_,List.Nodup.map_on5 h2⟩
  obtain ⟨m,hm,e⟩:=List.mem_map.mp z
  have:(m:Int) = n:=by injection e
  exact h1 (by rw [← Int.ofNat_inj.mp this]; exact hm)
theorem sh:∀ {g f:List (Nat × Int)},(g.foldl (fun f p=>putN f p.1 p.2) f).length <= f.length + g.length
 | [],_=>Nat.le_refl _
 | p :: g,f=>by
  have h1:=sh (g:=g) (f:=putN f p.1 p.2)
  have h2:=Zu (f:=f) (n:=p.1) (v:=p.2)
  show (g.foldl _ (putN f p.1 p.2)).length <= f.length + (g.length + 1)
  omega
theorem XH {tl:List (Nat × Int)}:(qG tl).length <= tl.length:=by
 have:=sh (g:=tl) (f:=[])
 show (tl.foldl _ []).length <= _
 simpa using this
theorem Zy {it:TI} {g:TG} {tb r:TS} {D:Ends} {σ:L2.St} {H:Hp} (Good:L2.St -> Hp -> Prop) (hc:∀ D':Ends,(∀ σ' H',Good σ' H' -> D'.nx σ' H') -> tFor it g tb D' σ H) (hr:∀ σ' H',Good σ' H' -> r D σ' H'):tSeq (tFor it g tb) r D σ H:=hc _ hr
abbrev dc2 (kx vx t0 i0 t1 i1:Expr) (ifs:List Expr) (scope:Scope) (pos:Pos):Expr:=.DictComp kx vx [⟨t0,i0,[],0⟩,⟨t1,i1,ifs,0⟩] scope pos
section
variable {prog:Program} {w:World} {A:Around} {R:Result -> Shared -> Prop} {s:Shared}
variable {kx vx t0 i0 t1 i1:Expr} {ifs:List Expr} {scope:Scope} {pos:Pos} {it acc:Value} {env:Env} {D:Addr}
theorem Ue:compTurn (dc2 kx vx t0 i0 t1 i1 ifs scope pos) 0 it acc env = (do
      standAt i0.pos
      match ← pyNext it with
      | none=>pure (.done .next)
      | some u =>
        letOwnedTupleGo t0 it u
        assign t0 env u
        let mut ko:=true
        for d in ([]:List Expr) do
          if ko then ko ← isTrue d env (eval d env)
        if ko then
          let y ← eval i1 env
          standAt i1.pos
          let y ← foldedSetIterable i1 env y
          let _ ← runOwn (.compStart (dc2 kx vx t0 i0 t1 i1 ifs scope pos) 1 (← holding [y] (pyIter y)) acc env) env
        again (.compLoop (dc2 kx vx t0 i0 t1 i1 ifs scope pos) 0 it acc env)):=by rfl
theorem Uf:compTurn (dc2 kx vx t0 i0 t1 i1 ifs scope pos) 1 it (.ref D) env = (do
      standAt i1.pos
      match ← pyNext it with
      | none=>pure (.done .next)
      | some u =>
        letOwnedTupleGo t1 it u
        assign t1 env u
        let mut ko:=true
        for d in ifs do
          if ko then ko ← isTrue d env (eval d env)
        if ko then
          (do
            let kv ← eval kx env
            let vv ← holding [kv] (eval vx env)
            standAt { kx.pos with endLine:=vx.pos.endLine,endCol:=vx.pos.endCol }
            holding [kv,vv] (dictSet D kv vv))
        again (.compLoop (dc2 kx vx t0 i0 t1 i1 ifs scope pos) 1 it (.ref D) env)):=by rfl
theorem Ug (I:Nat -> Shared -> Prop)
  (turn:∀ n s,I n s -> wpAny (model prog w) A (pyNext it) (fun r s₁=>match r with
   | none=>R (.ok .next) s₁
   | some v=>wpAny (model prog w) A (letOwnedTupleGo t1 it v) (fun _ s₂=>wpAny (model prog w) A (assign t1 env v) (fun _ s₃ =>
     wpAny (model prog w) A (forIn ifs true fun c r=>if r = true then do let ok ← isTrue c env (eval c env); pure (ForInStep.yield ok) else pure (ForInStep.yield r)) (fun ok s₄ =>
      if ok = true then wpAny (model prog w) A (eval kx env) (fun kv s₅=>wpAny (model prog w) A (eval vx env) (fun vv s₆ =>
       wpAny (model prog w) A (dictSet D kv vv) (fun _ s₇=>∃ m,m < n /\ I m s₇) noX s₆) noX s₅) noX s₄
      else ∃ m,m < n /\ I m s₄) noX s₃) noX s₂) noX s₁) noX s)
  (n:Nat) (h:I n s):codeAny (model prog w) A (.compLoop (dc2 kx vx t0 i0 t1 i1 ifs scope pos) 1 it (.ref D) env) R s:=by
 refine codeAny_loop rfl I (fun n s hI=>?_) n h
 show wpAny _ A ((compTurn (dc2 kx vx t0 i0 t1 i1 ifs scope pos) 1 it (.ref D) env).onRaise (fun x=>do noteFrame x env; theTreesLotGoes x)) _ _ s
 refine wpAny_noted ?_
 rw [Uf]
 have no:∀ (E:VS7) (e:Value) (s:Shared),noX e s -> E e s:=fun _ _ _ f=>f.elim
 refine wpAny_bind (wpAny_standAt (wpAny_bind (wpAny_mono (turn n s hI) (fun r s₁ h₁=>?_) (no _))))
 cases r with
 | none=>exact wpAny_pure h₁
 | some v =>
  refine wpAny_bind (wpAny_mono h₁ (fun _ s₂ h₂=>?_) (no _))
  refine wpAny_bind (wpAny_mono h₂ (fun _ s₃ h₃=>wpAny_bind (wpAny_mono h₃ (fun ok s₄ h₄=>?_) (no _))) (no _))
  cases ok with
  | false=>exact wpAny_pure ⟨rfl,h₄⟩
  | true =>
   exact wpAny_bind (wpAny_bind (wpAny_mono h₄ (fun kv s₅ h₅=>wpAny_bind (wpAny_holding (wpAny_mono h₅ (fun vv s₆ h₆=>wpAny_bind (wpAny_standAt (wpAny_holding (wpAny_mono h₆ (fun _ s₇ h₇=>wpAny_pure ⟨rfl,h₇⟩) (no _))))) (no _)))) (no _)))
theorem Uh (I:Nat -> Shared -> Prop) (hs:∀ x,foldedSetIterable i1 env x = pure x)
  (turn:∀ n s,I n s -> wpAny (model prog w) A (pyNext it) (fun r s₁=>match r with
   | none=>R (.ok .next) s₁
   | some v=>wpAny (model prog w) A (letOwnedTupleGo t0 it v) (fun _ s₂=>wpAny (model prog w) A (assign t0 env v) (fun _ s₃ =>
     wpAny (model prog w) A (eval i1 env) (fun y s₄=>wpAny (model prog w) A (pyIter y) (fun j s₅ =>
      codeAny (model prog w) A (.compStart (dc2 kx vx t0 i0 t1 i1 ifs scope pos) 1 j acc env) (fun r s'=>match r with | .ok _=>∃ m,m < n /\ I m s' | .error _=>False) s₅) noX s₄) noX s₃) noX s₂) noX s₁) noX s)
  (n:Nat) (h:I n s):codeAny (model prog w) A (.compLoop (dc2 kx vx t0 i0 t1 i1 ifs scope pos) 0 it acc env) R s:=by
 refine codeAny_loop rfl I (fun n s hI=>?_) n h
 show wpAny _ A ((compTurn (dc2 kx vx t0 i0 t1 i1 ifs scope pos) 0 it acc env).onRaise (fun x=>do noteFrame x env; theTreesLotGoes x)) _ _ s
 refine wpAny_noted ?_
 rw [Ue]
 have no:∀ (E:VS7) (e:Value) (s:Shared),noX e s -> E e s:=fun _ _ _ f=>f.elim
 refine wpAny_bind (wpAny_standAt (wpAny_bind (wpAny_mono (turn n s hI) (fun r s₁ h₁=>?_) (no _))))
 cases r with
 | none=>exact wpAny_pure h₁
 | some v =>
  refine wpAny_bind (wpAny_mono h₁ (fun _ s₂ h₂=>?_) (no _))
  refine wpAny_bind (wpAny_mono h₂ (fun _ s₃ h₃=>wpAny_bind (wpAny_pure ?_)) (no _))
  simp only [if_true]
  refine wpAny_bind (wpAny_mono h₃ (fun y s₄ h₄=>wpAny_bind (wpAny_standAt (wpAny_bind (wpAny_of_eq (hs y) (wpAny_bind (wpAny_holding (wpAny_mono h₄ (fun j s₅ h₅=>?_) (no _)))))))) (no _))
  refine wpAny_bind (wpAny_runOwn (codeAny_mono h₅ fun r s' hr=>?_))
  cases r with
  | ok f=>first
    | exact wpAny_pure ⟨rfl,hr⟩
    | exact wpAny_pure (wpAny_pure ⟨rfl,hr⟩)
  | error e=>exact hr.elim
theorem WW (h0:codeAny (model prog w) A (.compLoop (dc2 kx vx t0 i0 t1 i1 ifs scope pos) 1 it acc env) R s)
  (h:wpAny (model prog w) A (pyIter it) (fun it' s'=>codeAny (model prog w) A (.compLoop (dc2 kx vx t0 i0 t1 i1 ifs scope pos) 1 it' acc env) R s') noX s) :
  codeAny (model prog w) A (.compStart (dc2 kx vx t0 i0 t1 i1 ifs scope pos) 1 it acc env) R s:=by
 refine codeAny_of_tree ?_
 show wpAny _ _ ((compStart (dc2 kx vx t0 i0 t1 i1 ifs scope pos) 1 it acc env).onRaise (fun x=>do noteFrame x env; standAt theWindowsPlace)) _ _ s
 refine wpAny_notedAt ?_
 unfold compStart
 show wpAny _ _ (ask >>= _) _ _ s
 have no:∀ (E:VS7) (e:Value) (s:Shared),noX e s -> E e s:=fun _ _ _ f=>f.elim
 refine wpAny_bind (wpAny_askSetting (wpAny_ite ?_))
 split
 ·first
   | exact wpAny_bind (wpAny_pure (wpAny_pure ⟨rfl,h0⟩))
   | exact wpAny_pure ⟨rfl,h0⟩
 ·first
   | exact wpAny_bind (wpAny_rule (wpAny_bind (wpAny_standAt (wpAny_bind (wpAny_mono h (fun jt s' q=>wpAny_pure ⟨rfl,q⟩) (no _))))))
   | (refine wpAny_bind (wpAny_rule ?_); show wpAny _ _ (standAt i1.pos >>= _) _ _ s; exact wpAny_bind (wpAny_standAt (wpAny_bind (wpAny_mono h (fun jt s' q=>wpAny_pure ⟨rfl,q⟩) (no _)))))
end
def InWF (J:It) (kvs0:List (List Key × V)) (Hb0:Hp) (σ0:L2.St) (H1:Hp) (g:TG) (tt:TT) (tk tv:TE) (Out:List (List Key × V) -> Hp -> L2.St -> Hp -> Prop):Prop :=
 ∃ W:Nat -> Nat -> List (List Key × V) -> Hp -> L2.St -> Hp -> Prop,(∃ m,W 0 m kvs0 Hb0 σ0 H1) /\ ∀ i m kvs Hb σ' H',W i m kvs Hb σ' H' →
  (J.stop i H' /\ Out kvs Hb σ' H') ∨
  (J.go i H' /\ ∃ Nn:List (List Key × V) -> Hp -> L2.St -> Hp -> Prop,(∀ zs Hc σ2 H2,Nn zs Hc σ2 H2 -> ∃ m',m' < m /\ W (i + 1) m' zs Hc σ2 H2) ∧
   ∀ x H2,J.yld i H' x H2 -> g x σ' H2 fun σ2 H3=>tt σ2 H3 fun b H4=>if b = true then tk σ2 H4 fun y H5=>tv σ2 H5 fun v H6=>kvs.length < sizeLine /\ ∃ b ks,y = .ref b /\ H6 b = some (.tup (ks.map kV)) /\ (∀ c xs,Hb c = some (.tup xs) -> H6 c = some (.tup xs)) /\ Nn (putK kvs ks v) H6 σ2 H6 else Nn kvs Hb σ2 H4)
def XI (J:It) (σ0:L2.St) (H1:Hp) (g0:TG) (wi1:TI) (g1:TG) (tt:TT) (tk tv:TE) (Q:VK):Prop :=
 ∃ W:Nat -> Nat -> List (List Key × V) -> Hp -> L2.St -> Hp -> Prop,(∃ m,W 0 m [] H1 σ0 H1) /\ ∀ i m kvs Hb σ' H',W i m kvs Hb σ' H' →
  (J.stop i H' /\ (∀ b xs,Hb b = some (.tup xs) -> H' b = some (.tup xs)) /\ ∀ l,H' l = none -> Q (.ref l) (upd H' l (.dT kvs))) ∨
  (J.go i H' /\ ∃ Nn:List (List Key × V) -> Hp -> L2.St -> Hp -> Prop,(∀ zs Hc σ2 H2,Nn zs Hc σ2 H2 -> ∃ m',m' < m /\ W (i + 1) m' zs Hc σ2 H2) ∧
   ∀ x H2,J.yld i H' x H2 -> g0 x σ' H2 fun σ2 H3=>wi1 σ2 H3 fun J2 H4=>InWF J2 kvs Hb σ2 H4 g1 tt tk tv Nn)
def Tj (wi:TI) (sub:List (Option Nat)) (g0:TG) (wi1:TI) (g1:TG) (tt:TT) (tk tv:TE):TE:=fun σ H Q=>wi σ H fun J H1=>XI J (capt sub σ) H1 g0 wi1 g1 tt tk tv Q
section
variable {Y:Cx} {pins:List (Addr × Obj)} {D it2:Addr} {fp2:List Addr} {tn2:Nat -> Heap -> Prop} {J2:It} {y:Str} {py pos:Pos} {kx vx t0 i0 i1:Expr} {ifs:List Expr} {scope:Scope} {g1:TG} {tt:TT} {tk tv:TE} {Out:List (List Key × V) -> Hp -> L2.St -> Hp -> Prop} {W:Nat -> Nat -> List (List Key × V) -> Hp -> L2.St -> Hp -> Prop} {R:Result -> Shared -> Prop}
theorem Tk (hu:Y.A.units + 1 < cLine) (hxe:Y.xe = noX) (hcalm:Y.calm = true) (T:Turn Y.prog Y.w Y.K (.Name y py) J2 fp2 it2 tn2) (hD:∀ H':Hp,H' D = none -> FpOk Y pins H' D) (f2:∀ b ∈ fp2,∀ H':Hp,H' b = none -> FpOk Y pins H' b) (hDf:D ∉ fp2)
  (hg:PG Y (.Name y py) g1) (ht:PIfs Y ifs tt) (hk:PE Y kx tk) (he:PE Y vx tv)
  (turn:∀ i m kvs Hb σ' H',W i m kvs Hb σ' H' -> (J2.stop i H' /\ Out kvs Hb σ' H') ∨
   (J2.go i H' /\ ∃ Nn:List (List Key × V) -> Hp -> L2.St -> Hp -> Prop,(∀ zs Hc σ2 H2,Nn zs Hc σ2 H2 -> ∃ m',m' < m /\ W (i + 1) m' zs Hc σ2 H2) ∧
    ∀ x H2,J2.yld i H' x H2 -> g1 x σ' H2 fun σ2 H3=>tt σ2 H3 fun b H4=>if b = true then tk σ2 H4 fun y H5=>tv σ2 H5 fun v H6=>kvs.length < sizeLine /\ ∃ b ks,y = .ref b /\ H6 b = some (.tup (ks.map kV)) /\ (∀ c xs,Hb c = some (.tup xs) -> H6 c = some (.tup xs)) /\ Nn (putK kvs ks v) H6 σ2 H6 else Nn kvs Hb σ2 H4))
  (hR:∀ (kvs:List (List Key × V)) (Hb:Hp) (o:Obj) (σ':L2.St) (H':Hp) (s':Shared),Inv Y pins σ' H' s' -> H' D = none -> DRaw Y.prog Y.w Hb s'.heap D o kvs -> Out kvs Hb σ' H' -> R (.ok .next) s')
  (n:Nat) (s:Shared) (h:∃ i kvs Hb o σ' H',Inv Y pins σ' H' s /\ tn2 i s.heap /\ (∀ b ∈ fp2,H' b = none) /\ H' D = none /\ DRaw Y.prog Y.w Hb s.heap D o kvs /\ W i n kvs Hb σ' H') :
  codeAny (model Y.prog Y.w) Y.A (.compLoop (dc2 kx vx t0 i0 (.Name y py) i1 ifs scope pos) 1 (.ref it2) (.ref D) Y.env) R s:=by
 refine Ug (fun n s=>∃ i kvs Hb o σ' H',Inv Y pins σ' H' s /\ tn2 i s.heap /\ (∀ b ∈ fp2,H' b = none) /\ H' D = none /\ DRaw Y.prog Y.w Hb s.heap D o kvs /\ W i n kvs Hb σ' H') ?_ n h
 rintro n s ⟨i,kvs,Hb,o,σ',H',I',st',fr,hn,rv,w'⟩
 have hy:s.heap.get? D = some o:=let ⟨_,_,_,_,_,_,e,_⟩:=rv; e
 obtain ⟨_,dL,dF,dE,dC,dP⟩:=hD H' hn
 have pD:Inv Y (pins ++ [(D,o)]) σ' H' s:=I'.pins_of fun p hp=>by
  rcases List.mem_append.mp hp with hp | hp
  ·exact I'.pin p (List.mem_append_right _ hp)
  ·rw [List.mem_singleton.mp hp]
   exact ⟨hy,hn,dL,dF,rv.nocell⟩
 have fpok:∀ {H'':Hp},(∀ b ∈ fp2,H'' b = none) -> ∀ b ∈ fp2,FpOk Y (pins ++ [(D,o)]) H'' b:=fun hz b hb=>by
  obtain ⟨q0,q1,q2,q3,q4,q5⟩:=f2 b hb _ (hz b hb)
  refine ⟨q0,q1,q2,q3,q4,fun p hp=>?_⟩
  rcases List.mem_append.mp hp with hp | hp
  ·exact q5 p (List.mem_append_left _ hp)
  ·rcases List.mem_append.mp hp with hp | hp
   ·exact q5 p (List.mem_append_right _ hp)
   ·rw [List.mem_singleton.mp hp]; exact fun z=>hDf (by rw [show D = b from z]; exact hb)
 rcases turn i n kvs Hb σ' H' w' with ⟨stop,q⟩ | ⟨go,Nn,hN,step⟩
 ·refine thn (T.done Y rfl rfl rfl hcalm i _ s σ' H' noX pD (fpok fr) st' stop) fun r s1 ⟨hr,I1⟩=>?_
  subst hr
  exact hR kvs Hb o σ' H' s1 I1.unpinned hn (rv.at (I1.pin (D,o) (by simp)).1) q
 ·refine thn (T.item Y rfl rfl rfl hcalm i _ s σ' H' noX pD (fpok fr) st' go) fun r s1 ⟨u,hr,h4⟩=>?_
  subst hr
  refine thn h4 fun _ s2 ⟨x5,H5,I5,r5,y5,st5,fr5⟩=>?_
  have I5':=I5.pinned (fpok fr5) (T.obj _ _ st5)
  have hg5:=hg _ s2 σ' H5 x5 u _ I5' r5 (step x5 H5 y5)
  rw [hxe] at hg5
  refine thn hg5 fun _ s3 ⟨σ6,H6,I6,q6⟩=>?_
  have ht6:=ht _ s3 σ6 H6 _ I6 q6
  rw [hxe] at ht6
  refine thn ht6 fun ok s4 ⟨H7,I7,q7⟩=>?_
  have stay:∀ {σ7:L2.St} {H7:Hp} {s7:Shared},Inv Y (pins ++ [(D,o)] ++ wP fp2 s2.heap) σ7 H7 s7 →
    (∀ b ∈ fp2,∀ o,s2.heap.get? b = some o -> s7.heap.get? b = some o) /\ (∀ b ∈ fp2,H7 b = none) /\ H7 D = none /\ s7.heap.get? D = some o:=fun {σ7 H7 s7} I7=>by
   have d:=I7.pin (D,o) (by simp)
   refine ⟨fun b hb o e=>(I7.pin (b,o) (List.mem_append_right _ (List.mem_append_right _ (yD hb e)))).1,fun b hb=>?_,d.2.1,d.1⟩
   obtain ⟨o,e,_⟩:=T.obj _ _ st5 b hb
   exact (I7.pin (b,o) (List.mem_append_right _ (List.mem_append_right _ (yD hb e)))).2.1
  cases ok with
  | false =>
   rw [if_neg (by decide)] at q7 ⊢
   obtain ⟨k1,k2,k3,k4⟩:=stay I7
   obtain ⟨m',hm,w7⟩:=hN kvs Hb σ6 H7 q7
   exact ⟨m',hm,i + 1,kvs,Hb,o,σ6,H7,I7.unpinned.unpinned,T.keep _ _ _ st5 k1,k2,k3,rv.at k4,w7⟩
  | true =>
   rw [if_pos rfl] at q7 ⊢
   have hk7:=hk _ s4 σ6 H7 _ I7 q7
   rw [hxe] at hk7
   refine thn hk7 fun kv s5 ⟨y,H8,I8,ry,q8⟩=>?_
   have he8:=he _ s5 σ6 H8 _ I8 q8
   rw [hxe] at he8
   refine thn he8 fun vv s6 ⟨v,H9,I9,r9,hl9,b,ks,ey,eb,tp,n9⟩=>?_
   subst ey
   cases (show kv = Value.ref b from ry)
   obtain ⟨k1,k2,k3,k4⟩:=stay I9
   obtain ⟨z,hd,xs,rel,es,ep,h1,h2,h3,h4',h5⟩:=rv.at k4
   have dd:s6.heap.DictOfH (tupleKind (zM Y.prog Y.w)) D xs:=by
    refine ⟨o,es,ep,h1,h2,h3,h4',fun x hx=>?_,h5⟩
    have all:∀ {l:List (List Key × V)} {m:List (List Key × Addr × Value)},KT Hb l m -> ∀ x ∈ m,(tupleKind (zM Y.prog Y.w)).is s6.heap x.1 x.2.1:=by
     intro l m q
     induction q with
     | nil=>intro x hx; exact nomatch hx
     | @cons p q ps qs hq t ih =>
      intro x hx
      rcases List.mem_cons.mp hx with e | hx
      ·subst e
       exact tU I9.hok (by rw [← hq.1]; exact tp _ _ hq.2.1)
      ·exact ih x hx
    exact all rel x hx
   have xl:xs.length <= sizeLine:=by rw [← Paired.length rel]; exact z
   refine wpAny_dictSet_heap (hsz:=xl) (show (tupleKind (zM Y.prog Y.w)).room Y.A from Nat.lt_of_succ_lt hu) (tU I9.hok eb) dd fun h' dd' sb=>?_
   obtain ⟨o',es',ep',hq1,hq2,hq3,hq4,_,hq5⟩:=dd'
   obtain ⟨m',hm,w9⟩:=hN _ _ σ6 H9 n9
   have pl:=xh kvs ks v
   refine ⟨m',hm,i + 1,putK kvs ks v,H9,o',σ6,H9,?_,T.keep _ _ _ (T.keep _ _ _ st5 k1) fun b hb o e=>sb.extBut b o (fun z=>hDf (by rw [← z]; exact hb)) e,k2,k3,⟨by omega,hd,_,(KT.keeps rel tp).put ks eb r9,es',ep',hq1,hq2,hq3,hq4,hq5⟩,w9⟩
   exact (I9.unpinned.unpinned).turned (it:=D) (t':=_) (h':=h') (fun b o hb e=>sb.extBut b o hb e) k3 dL dE dC dP
end
section
variable {X:Cx} {pins:List (Addr × Obj)} {σ:L2.St} {H2:Hp} {s₂:Shared} {it:Addr} {fp:List Addr} {tn:Nat -> Heap -> Prop} {J:It} {scope:Scope} {cl:List (Str × Addr)} {N':List Str} {sub:List (Option Nat)}
theorem runF {C D:Addr} {s₀:Shared} {x y:Str} {px py pos:Pos} {kx vx i0 i1:Expr} {ifs:List Expr} {g0 g1:TG} {wi1:TI} {tt:TT} {tk tv:TE} {Q:VK} {RR:Value -> Addr -> Result -> Shared -> Prop} {W:Nat -> Nat -> List (List Key × V) -> Hp -> L2.St -> Hp -> Prop}
  (hu:X.A.units + 1 < cLine) (I:Inv X pins σ H2 s₂) (hcalm:X.calm = true) (T:Turn X.prog X.w X.K (.Name x px) J fp it tn) (f2:∀ b ∈ fp,FpOk X pins H2 b) (hfp:∀ b ∈ fp,b < s₂.heap.objs.size)
  (hs₀:∀ b o,s₂.heap.get? b = some o -> s₀.heap.get? b = some o) (hos:s₀.os = s₂.os) (hD:s₂.heap.objs.size <= D) (hC:s₂.heap.objs.size <= C) (hDC:D ≠ C)
  (hcl1:∀ x c,cl.lookup x = some c -> X.env.cells.lookup x = some c)
  (hg0:PG (cxC X N' scope cl C D fp s₀ H2) (.Name x px) g0) (hi1:PI (cxC X N' scope cl C D fp s₀ H2) (.Name y py) i1 wi1) (hg1:PG (cxC X N' scope cl C D fp s₀ H2) (.Name y py) g1) (ht:PIfs (cxC X N' scope cl C D fp s₀ H2) ifs tt) (hk:PE (cxC X N' scope cl C D fp s₀ H2) kx tk) (he:PE (cxC X N' scope cl C D fp s₀ H2) vx tv)
  (hss:∀ v,foldedSetIterable i1 (compEnvC scope cl C X.env) v = pure v)
  (turn:∀ i m kvs Hb σ' H',W i m kvs Hb σ' H' →
   (J.stop i H' /\ (∀ b xs,Hb b = some (.tup xs) -> H' b = some (.tup xs)) /\ ∀ l,H' l = none -> Q (.ref l) (upd H' l (.dT kvs))) ∨
   (J.go i H' /\ ∃ Nn:List (List Key × V) -> Hp -> L2.St -> Hp -> Prop,(∀ zs Hc σ2 H2,Nn zs Hc σ2 H2 -> ∃ m',m' < m /\ W (i + 1) m' zs Hc σ2 H2) ∧
    ∀ x H2,J.yld i H' x H2 -> g0 x σ' H2 fun σ2 H3=>wi1 σ2 H3 fun J2 H4=>InWF J2 kvs Hb σ2 H4 g1 tt tk tv Nn))
  (hRR:∀ (D C:Addr) (oC:Obj) (m:Str -> Option Value) (s':Shared) (Hf:Hp),Inv X (pins ++ [(C,oC)]) σ Hf s' -> s'.heap.Ns C m -> FpOk X pins Hf C -> Q (.ref D) Hf -> RR (.ref D) C (.ok .next) s')
  (n:Nat) (s:Shared) (h:∃ i kvs Hb o σ' H',Inv (cxC X N' scope cl C D fp s₀ H2) pins σ' H' s /\ tn i s.heap /\ (∀ b ∈ fp,H' b = none) /\ H' D = none ∧
   DRaw X.prog X.w Hb s.heap D o kvs /\ W i n kvs Hb σ' H') :
  codeAny (model X.prog X.w) X.A (.compLoop (dc2 kx vx (.Name x px) i0 (.Name y py) i1 ifs scope pos) 0 (.ref it) (.ref D) (compEnvC scope cl C X.env)) (RR (.ref D) C) s:=by
 have frsz:∀ b ∈ frs X.stack,b < s₂.heap.objs.size:=fun b hb=>by
  rcases List.mem_cons.mp (I.stkSub b hb) with z | z
  ·rw [z]; exact I.lt
  ·exact Nat.lt_of_not_le fun q=>I.nofs q z
 have cells:∀ x c,cl.lookup x = some c -> c < s₂.heap.objs.size:=fun x c e=>let ⟨v,q⟩:=I.cell x c (hcl1 x c e); q.lt
 have pinsz:∀ p ∈ X.pn ++ pins,p.1 < s₂.heap.objs.size:=fun p hp=>Heap.lt_size (I.pin p hp).1
 refine Uh (fun n s=>∃ i kvs Hb o σ' H',Inv (cxC X N' scope cl C D fp s₀ H2) pins σ' H' s /\ tn i s.heap /\ (∀ b ∈ fp,H' b = none) /\ H' D = none ∧
   DRaw X.prog X.w Hb s.heap D o kvs /\ W i n kvs Hb σ' H') hss ?_ n h
 rintro n s ⟨i,kvs,Hb,o,σ',H',I',st',fr,hn,rv,w'⟩
 have hy:s.heap.get? D = some o:=let ⟨_,_,_,_,_,_,e,_⟩:=rv; e
 have pD:Inv (cxC X N' scope cl C D fp s₀ H2) (pins ++ [(D,o)]) σ' H' s:=I'.pins_of fun p hp=>by
  rcases List.mem_append.mp hp with hp | hp
  ·exact I'.pin p (List.mem_append_right _ hp)
  ·rw [List.mem_singleton.mp hp]
   exact ⟨hy,hn,hDC,fun z=>absurd (Nat.lt_of_lt_of_le (frsz _ z) hD) (Nat.lt_irrefl _),rv.nocell⟩
 have fpok:∀ {H'':Hp},(∀ b ∈ fp,H'' b = none) -> ∀ b ∈ fp,FpOk (cxC X N' scope cl C D fp s₀ H2) (pins ++ [(D,o)]) H'' b:=fun hz b hb=>by
  refine ⟨hz b hb,Nat.ne_of_lt (Nat.lt_of_lt_of_le (hfp b hb) hC),fun z=>?_,.inl (List.mem_cons_of_mem _ hb),fun x c e=>(f2 b hb).2.2.2.2.1 x c (hcl1 x c e),fun p hp=>?_⟩
  ·rcases List.mem_cons.mp (I.stkSub b z) with z | z
   ·exact (f2 b hb).2.1 z
   ·exact (f2 b hb).2.2.1 z
  ·rcases List.mem_append.mp hp with hp | hp
   ·exact (f2 b hb).2.2.2.2.2 p (List.mem_append_left _ hp)
   ·rcases List.mem_append.mp hp with hp | hp
    ·exact (f2 b hb).2.2.2.2.2 p (List.mem_append_right _ hp)
    ·rw [List.mem_singleton.mp hp]
     exact Nat.ne_of_gt (Nat.lt_of_lt_of_le (hfp b hb) hD)
 rcases turn i n kvs Hb σ' H' w' with ⟨stop,hbt,q⟩ | ⟨go,Nn,hN,step⟩
 ·refine thn (T.done (cxC X N' scope cl C D fp s₀ H2) rfl rfl rfl hcalm i _ s σ' H' noX pD (fpok fr) st' stop) fun r s1 ⟨hr,I1⟩=>?_
  subst hr
  have hy1:=(I1.pin (D,o) (by simp)).1
  obtain ⟨m,hm,_⟩:=I1.loc
  obtain ⟨oC,es,ep,hoC,hdC,_⟩:=id hm
  obtain ⟨IX,fpc⟩:=Xp I hs₀ hos hD hC hDC f2 I1.unpinned hn hbt (rv.at hy1) hoC (by intro v z; rw [hdC] at z; cases z)
  exact hRR D C oC m s1 _ IX hm fpc (q D hn)
 ·refine thn (T.item (cxC X N' scope cl C D fp s₀ H2) rfl rfl rfl hcalm i _ s σ' H' noX pD (fpok fr) st' go) fun r s1 ⟨u,hr,h4⟩=>?_
  subst hr
  refine thn h4 fun _ s2 ⟨x5,H5,I5,r5,y5,st5,fr5⟩=>?_
  have I5':=I5.pinned (fpok fr5) (T.obj _ _ st5)
  refine thn (hg0 _ s2 σ' H5 x5 u _ I5' r5 (step x5 H5 y5)) fun _ s3 ⟨σ6,H6,I6,q6⟩=>?_
  refine thn (hi1 _ s3 σ6 H6 _ I6 q6) fun v s4 h4'=>?_
  refine thn h4' fun itv s5 ⟨it2,fp2,tn2,J2,H7,e2,I7,T2,st7,f7,W2,⟨m2,w2⟩,turn2⟩=>?_
  subst e2
  have dpin:=I7.pin (D,o) (by simp)
  have I8:Inv (cxC X N' scope cl C D fp s₀ H2) (pins ++ wP fp s2.heap) σ6 H7 s5:=I7.pins_of fun p hp=>I7.pin p (by
   rcases List.mem_append.mp hp with hp | hp
   ·exact List.mem_append_right _ (List.mem_append_left _ (List.mem_append_left _ hp))
   ·exact List.mem_append_right _ (List.mem_append_right _ hp))
  have hDfp2:D ∉ fp2:=fun z=>(f7 D z).2.2.2.2.2 (D,o) (by simp) rfl
  have hDok:∀ H':Hp,H' D = none -> FpOk (cxC X N' scope cl C D fp s₀ H2) (pins ++ wP fp s2.heap) H' D:=fun H' hn'=>by
   refine ⟨hn',hDC,fun z=>absurd (Nat.lt_of_lt_of_le (frsz _ z) hD) (Nat.lt_irrefl _),.inl (by simp),fun x c e=>Nat.ne_of_lt (Nat.lt_of_lt_of_le (cells x c e) hD),fun p hp=>?_⟩
   rcases List.mem_append.mp hp with hp | hp
   ·exact Nat.ne_of_lt (Nat.lt_of_lt_of_le (pinsz p (List.mem_append_left _ hp)) hD)
   ·rcases List.mem_append.mp hp with hp | hp
    ·exact Nat.ne_of_lt (Nat.lt_of_lt_of_le (pinsz p (List.mem_append_right _ hp)) hD)
    ·obtain ⟨b,hb,e⟩:=List.mem_filterMap.mp hp
     have:p.1 = b:=by
      cases q:s2.heap.get? b with
      | none=>rw [q] at e; cases e
      | some o=>rw [q] at e; cases e; rfl
     rw [this]; exact Nat.ne_of_lt (Nat.lt_of_lt_of_le (hfp b hb) hD)
  have f8:∀ b ∈ fp2,∀ H':Hp,H' b = none -> FpOk (cxC X N' scope cl C D fp s₀ H2) (pins ++ wP fp s2.heap) H' b:=fun b hb H' hn'=>by
   obtain ⟨_,q1,q2,q3,q4,q5⟩:=f7 b hb
   refine ⟨hn',q1,q2,q3,q4,fun p hp=>q5 p ?_⟩
   rcases List.mem_append.mp hp with hp | hp
   ·exact List.mem_append_left _ hp
   ·rcases List.mem_append.mp hp with hp | hp
    ·exact List.mem_append_right _ (List.mem_append_left _ (List.mem_append_left _ hp))
    ·exact List.mem_append_right _ (List.mem_append_right _ hp)
  have loop:codeAny (model X.prog X.w) X.A (.compLoop (dc2 kx vx (.Name x px) i0 (.Name y py) i1 ifs scope pos) 1 (.ref it2) (.ref D) (compEnvC scope cl C X.env)) (fun r s'=>match r with
    | .ok _=>∃ m,m < n /\ ∃ i kvs Hb o σ' H',Inv (cxC X N' scope cl C D fp s₀ H2) pins σ' H' s' /\ tn i s'.heap /\ (∀ b ∈ fp,H' b = none) /\ H' D = none ∧
      DRaw X.prog X.w Hb s'.heap D o kvs /\ W i m kvs Hb σ' H'
    | .error _=>False) s5:=by
   refine Tk (Y:=cxC X N' scope cl C D fp s₀ H2) hu rfl hcalm T2 hDok f8 hDfp2 hg1 ht hk he turn2 ?_ m2 s5 ⟨0,kvs,Hb,o,σ6,H7,I8,st7,fun b hb=>(f7 b hb).1,dpin.2.1,rv.at dpin.1,w2⟩
   intro kvs9 Hb9 o9 σ9 H9 s9 I9 hn9 rv9 q9
   obtain ⟨m',hm,w9⟩:=hN kvs9 Hb9 σ9 H9 q9
   refine ⟨m',hm,i + 1,kvs9,Hb9,o9,σ9,H9,I9.unpinned,T.keep _ _ _ st5 fun b hb o e=>(I9.pin (b,o) (List.mem_append_right _ (List.mem_append_right _ (yD hb e)))).1,fun b hb=>?_,hn9,rv9,w9⟩
   obtain ⟨o,e,_⟩:=T.obj _ _ st5 b hb
   exact (I9.pin (b,o) (List.mem_append_right _ (List.mem_append_right _ (yD hb e)))).2.1
  exact WW loop (T2.self _ _ _ _ _ st7 loop)
theorem jH {x y:Str} {px py pos:Pos} {kx vx i0 i1:Expr} {ifs:List Expr} {g0 g1:TG} {wi1:TI} {tt:TT} {tk tv:TE} {E:VS7} {Q:VK} {RR:Value -> Addr -> Result -> Shared -> Prop}
  (hu:X.A.units + 1 < cLine) (I:Inv X pins σ H2 s₂) (hcalm:X.calm = true) (T:Turn X.prog X.w X.K (.Name x px) J fp it tn) (st:tn 0 s₂.heap) (f2:∀ b ∈ fp,FpOk X pins H2 b)
  (S:CSc X scope N' sub) (hcl1:∀ x c,cl.lookup x = some c -> X.env.cells.lookup x = some c) (hcl2:∀ y ∈ scope.names,y.2 = .free -> ∃ c,cl.lookup y.1 = some c)
  (hg0:∀ C D fp s H,PG (cxC X N' scope cl C D fp s H) (.Name x px) g0) (hi1:∀ C D fp s H,PI (cxC X N' scope cl C D fp s H) (.Name y py) i1 wi1) (hg1:∀ C D fp s H,PG (cxC X N' scope cl C D fp s H) (.Name y py) g1) (ht:∀ C D fp s H,PIfs (cxC X N' scope cl C D fp s H) ifs tt) (hk:∀ C D fp s H,PE (cxC X N' scope cl C D fp s H) kx tk) (he:∀ C D fp s H,PE (cxC X N' scope cl C D fp s H) vx tv)
  (hss:∀ C v,foldedSetIterable i1 (compEnvC scope cl C X.env) v = pure v)
  (hW:XI J (capt sub σ) H2 g0 wi1 g1 tt tk tv Q)
  (hRR:∀ (D C:Addr) (oC:Obj) (m:Str -> Option Value) (s':Shared) (Hf:Hp),Inv X (pins ++ [(C,oC)]) σ Hf s' -> s'.heap.Ns C m -> FpOk X pins Hf C -> Q (.ref D) Hf -> RR (.ref D) C (.ok .next) s') :
  wpAny (model X.prog X.w) X.A newDict (fun acc s₃=>wpAny (model X.prog X.w) X.A (newFunctionEnv scope X.env.globals cl [] X.env.qual none .none (some X.env)) (fun cenv s₄ =>
   codeAny (model X.prog X.w) X.A (.compStart (dc2 kx vx (.Name x px) i0 (.Name y py) i1 ifs scope pos) 0 (.ref it) acc { cenv with scope:=relabel scope X.env }) (RR acc cenv.locals) s₄) E s₃) E s₂:=by
 obtain ⟨W,⟨m0,w0⟩,turn⟩:=hW
 refine wpAny_newObj_type (wpAny_newFunctionEnv S.nocell (by intro y hy; simp at hy) (fun h₁ hns₁ hsb₁=>?_) S.kind)
 dsimp only at hns₁ hsb₁ ⊢
 have hC:(s₂.heap.push { cls:=.type "dict",dict:=none,data:=.dict #[] }).objs.size = s₂.heap.objs.size + 1:=Heap.size_push ..
 rw [hC] at hns₁ hsb₁ ⊢
 have hk1:∀ b o,(s₂.heap.push { cls:=.type "dict",dict:=none,data:=.dict #[] }).get? b = some o -> h₁.get? b = some o:=fun b o e =>
  hsb₁.extBut b o (by have:=Heap.lt_size e; rw [hC] at this; exact Nat.ne_of_lt this) (Heap.get?_push_of_some _ e)
 have hfp:∀ b ∈ fp,b < s₂.heap.objs.size:=fun b hb=>by
  obtain ⟨o,e,_⟩:=T.obj _ _ st b hb
  exact Heap.lt_size e
 have I0:=tS (tk:=s₂.toks + ([]:List (Str × Value)).length) I S hcl1 hcl2 f2 hfp hns₁ hk1
 have hD0:h₁.get? s₂.heap.objs.size = some { cls:=.type "dict",data:=.dict #[] }:=hk1 _ _ (Heap.get?_push_size _ rfl)
 obtain ⟨_,hd0,xs0,rel0,o0,es0,ep0,q1,q2,q3,q4,q5⟩:=(WL (P:=X.prog) (w:=X.w) (H:=H2) s₂.heap I.big)
 rw [Heap.get?_push_size _ rfl] at q1
 cases q1
 have loop:codeAny (model X.prog X.w) X.A (.compLoop (dc2 kx vx (.Name x px) i0 (.Name y py) i1 ifs scope pos) 0 (.ref it) (.ref s₂.heap.objs.size) (compEnvC scope cl (s₂.heap.objs.size + 1) X.env)) (RR (.ref s₂.heap.objs.size) (s₂.heap.objs.size + 1)) { s₂ with heap:=h₁,toks:=s₂.toks + ([]:List (Str × Value)).length } :=
  runF (s₀:={ s₂ with heap:=s₂.heap.push { cls:=.type "dict",dict:=none,data:=.dict #[] } }) (C:=s₂.heap.objs.size + 1) (D:=s₂.heap.objs.size) hu I hcalm T f2 hfp (fun b o e=>Heap.get?_push_of_some _ e) rfl (Nat.le_refl _) (Nat.le_succ _) (Nat.ne_of_lt (Nat.lt_succ_self _)) hcl1 (hg0 _ _ _ _ _) (hi1 _ _ _ _ _) (hg1 _ _ _ _ _) (ht _ _ _ _ _) (hk _ _ _ _ _) (he _ _ _ _ _) (hss _) turn hRR m0 _
   ⟨0,[],H2,_,capt sub σ,H2,I0,T.keep _ _ _ st fun b hb o e=>hk1 b o (Heap.get?_push_of_some _ e),fun b hb=>(f2 b hb).1,I.hok.fresh (Nat.le_refl _),⟨Nat.zero_le _,hd0,[],.nil,es0,ep0,hD0,q2,q3,by cases rel0; exact q4,List.nodup_nil⟩,w0⟩
 exact codeAny_compStart_dict loop (T.self _ _ _ _ _ (T.keep _ _ _ st fun b hb o e=>hk1 b o (Heap.get?_push_of_some _ e)) loop)
end
section
variable {X:Cx} {scope:Scope} {N':List Str} {sub:List (Option Nat)} {x y:Str} {px py pos:Pos} {kx vx i0 i1:Expr} {ifs:List Expr} {wi wi1:TI} {g0 g1:TG} {tt:TT} {tk tv:TE}
theorem Zz (hu:X.A.units + 1 < cLine) (S:CSc X scope N' sub) (hcalm:X.calm = true) (hi:PI X (.Name x px) i0 wi)
  (hg0:∀ cl C D fp s H,PG (cxC X N' scope cl C D fp s H) (.Name x px) g0) (hi1:∀ cl C D fp s H,PI (cxC X N' scope cl C D fp s H) (.Name y py) i1 wi1) (hg1:∀ cl C D fp s H,PG (cxC X N' scope cl C D fp s H) (.Name y py) g1) (ht:∀ cl C D fp s H,PIfs (cxC X N' scope cl C D fp s H) ifs tt) (hk:∀ cl C D fp s H,PE (cxC X N' scope cl C D fp s H) kx tk) (he:∀ cl C D fp s H,PE (cxC X N' scope cl C D fp s H) vx tv)
  (hs:∀ x,foldedSetIterable i0 X.env x = pure x:=by intro _; rfl) (hss:∀ cl C v,foldedSetIterable i1 (compEnvC scope cl C X.env) v = pure v:=by intro _ _ _; rfl):PE X (dc2 kx vx (.Name x px) i0 (.Name y py) i1 ifs scope pos) (Tj wi sub g0 wi1 g1 tt tk tv):=by
 intro pins s σ H Q I h
 obtain ⟨cl,hclos,hcl1,hcl2⟩:=S.clos I
 rw [arm_eval_DictComp]
 refine wpAny_comprehension_free (use:=none) rfl hs hclos S.kind S.names (thn (hi pins s σ H _ I h) fun v s1 h1=>thn h1 fun itv s2 h2=>?_)
 obtain ⟨it,fp,tn,J,H2,e,I2,T,st2,f2,hW⟩:=h2
 subst e
 refine jH (RR:=fun acc C=>compPost (model X.prog X.w) X.A X.xe none (EP X pins σ Q) acc C) hu I2 hcalm T st2 f2 S hcl1 hcl2 (hg0 cl) (hi1 cl) (hg1 cl) (ht cl) (hk cl) (he cl) (hss cl) hW ?_
 intro D C oC m s' Hf IX hm fpc q
 refine ⟨m,hm,fun h' sb=>⟨.ref D,Hf,?_,rfl,q⟩⟩
 exact (IX.unpinned).turned (it:=C) (t':=s'.toks) (h':=h') (fun b o hb e=>sb.extBut b o hb e) fpc.1 fpc.2.1 fpc.2.2.2.1 fpc.2.2.2.2.1 fpc.2.2.2.2.2
end
section
variable {v0 v1 v2 v3 v4 v5 v6 v7 v8 v9 v10 v11:V}
theorem XJ:putF "depth" v0 ([]:List (Str × V)) = ([("depth",v0)]:List (Str × V)):=by
 simp only [putF]
theorem WX:putF "room" v1 ([("depth",v0)]:List (Str × V)) = ([("depth",v0),("room",v1)]:List (Str × V)):=by
 simp only [putF]
 repeat rw [if_neg (by decide +kernel)]
theorem rp:putF "most_kept" v2 ([("depth",v0),("room",v1)]:List (Str × V)) = ([("depth",v0),("room",v1),("most_kept",v2)]:List (Str × V)):=by
 simp only [putF]
 repeat rw [if_neg (by decide +kernel)]
theorem XL:putF "boxes" v3 ([("depth",v0),("room",v1),("most_kept",v2)]:List (Str × V)) = ([("depth",v0),("room",v1),("most_kept",v2),("boxes",v3)]:List (Str × V)):=by
 simp only [putF]
 repeat rw [if_neg (by decide +kernel)]
theorem WY:putF "asks" v4 ([("depth",v0),("room",v1),("most_kept",v2),("boxes",v3)]:List (Str × V)) = ([("depth",v0),("room",v1),("most_kept",v2),("boxes",v3),("asks",v4)]:List (Str × V)):=by
 simp only [putF]
 repeat rw [if_neg (by decide +kernel)]
theorem Ui:putF "now" v5 ([("depth",v0),("room",v1),("most_kept",v2),("boxes",v3),("asks",v4)]:List (Str × V)) = ([("depth",v0),("room",v1),("most_kept",v2),("boxes",v3),("asks",v4),("now",v5)]:List (Str × V)):=by
 simp only [putF]
 repeat rw [if_neg (by decide +kernel)]
theorem XM:putF "lines" v6 ([("depth",v0),("room",v1),("most_kept",v2),("boxes",v3),("asks",v4),("now",v5)]:List (Str × V)) = ([("depth",v0),("room",v1),("most_kept",v2),("boxes",v3),("asks",v4),("now",v5),("lines",v6)]:List (Str × V)):=by
 simp only [putF]
 repeat rw [if_neg (by decide +kernel)]
theorem jI:putF "keeping" v7 ([("depth",v0),("room",v1),("most_kept",v2),("boxes",v3),("asks",v4),("now",v5),("lines",v6)]:List (Str × V)) = ([("depth",v0),("room",v1),("most_kept",v2),("boxes",v3),("asks",v4),("now",v5),("lines",v6),("keeping",v7)]:List (Str × V)):=by
 simp only [putF]
 repeat rw [if_neg (by decide +kernel)]
theorem jJ:putF "done_in" v8 ([("depth",v0),("room",v1),("most_kept",v2),("boxes",v3),("asks",v4),("now",v5),("lines",v6),("keeping",v7)]:List (Str × V)) = ([("depth",v0),("room",v1),("most_kept",v2),("boxes",v3),("asks",v4),("now",v5),("lines",v6),("keeping",v7),("done_in",v8)]:List (Str × V)):=by
 simp only [putF]
 repeat rw [if_neg (by decide +kernel)]
theorem Yn:putF "logged" v9 ([("depth",v0),("room",v1),("most_kept",v2),("boxes",v3),("asks",v4),("now",v5),("lines",v6),("keeping",v7),("done_in",v8)]:List (Str × V)) = ([("depth",v0),("room",v1),("most_kept",v2),("boxes",v3),("asks",v4),("now",v5),("lines",v6),("keeping",v7),("done_in",v8),("logged",v9)]:List (Str × V)):=by
 simp only [putF]
 repeat rw [if_neg (by decide +kernel)]
theorem XN:putF "found" v10 ([("depth",v0),("room",v1),("most_kept",v2),("boxes",v3),("asks",v4),("now",v5),("lines",v6),("keeping",v7),("done_in",v8),("logged",v9)]:List (Str × V)) = ([("depth",v0),("room",v1),("most_kept",v2),("boxes",v3),("asks",v4),("now",v5),("lines",v6),("keeping",v7),("done_in",v8),("logged",v9),("found",v10)]:List (Str × V)):=by
 simp only [putF]
 repeat rw [if_neg (by decide +kernel)]
theorem jK:putF "answers" v11 ([("depth",v0),("room",v1),("most_kept",v2),("boxes",v3),("asks",v4),("now",v5),("lines",v6),("keeping",v7),("done_in",v8),("logged",v9),("found",v10)]:List (Str × V)) = ([("depth",v0),("room",v1),("most_kept",v2),("boxes",v3),("asks",v4),("now",v5),("lines",v6),("keeping",v7),("done_in",v8),("logged",v9),("found",v10),("answers",v11)]:List (Str × V)):=by
 simp only [putF]
 repeat rw [if_neg (by decide +kernel)]
end
def prs5 (a m i j:Nat):List (Nat × Nat):=((List.range i).flatMap fun l=>(List.range m).map fun y=>(a + l,y)) ++ (List.range j).map fun y=>(a + i,y)
theorem y8 {a m i j:Nat} {q:Nat × Nat}:q ∈ prs5 a m i j ↔ (a <= q.1 /\ q.1 < a + i /\ q.2 < m) \/ (q.1 = a + i /\ q.2 < j):=by
 unfold prs5
 rw [List.mem_append,List.mem_flatMap,List.mem_map]
 constructor
 ·rintro (⟨l,hl,h⟩ | ⟨y,hy,rfl⟩)
  ·obtain ⟨y,hy,rfl⟩:=List.mem_map.mp h
   have:=List.mem_range.mp hl
   exact .inl ⟨Nat.le_add_right _ _,by show a + l < a + i; omega,List.mem_range.mp hy⟩
  ·exact .inr ⟨rfl,List.mem_range.mp hy⟩
 ·rintro (⟨h1,h2,h3⟩ | ⟨h1,h2⟩)
  ·refine .inl ⟨q.1 - a,List.mem_range.mpr (by omega),List.mem_map.mpr ⟨q.2,List.mem_range.mpr h3,Prod.ext (by show a + (q.1 - a) = q.1; omega) rfl⟩⟩
  ·exact .inr ⟨q.2,List.mem_range.mpr h2,Prod.ext h1.symm rfl⟩
theorem ZA {a m i j:Nat}:prs5 a m i (j + 1) = prs5 a m i j ++ [(a + i,j)]:=by
 unfold prs5
 rw [List.range_succ,List.map_append,List.append_assoc]; rfl
theorem si {a m i:Nat}:prs5 a m i m = prs5 a m (i + 1) 0:=by
 unfold prs5
 rw [List.range_succ,List.flatMap_append]
 simp
def kvP5 (F:Nat -> Nat -> V) (P:List (Nat × Nat)):List (List Key × V):=P.map fun q=>(kI [(q.1:Int),(q.2:Int)],F q.1 q.2)
theorem WZ {F:Nat -> Nat -> V} {P:List (Nat × Nat)} {a b:Nat} {v:V} (h:(a,b) ∉ P):putK (kvP5 F P) (kI [(a:Int),(b:Int)]) v = kvP5 (updL F a b v) (P ++ [(a,b)]):=by
 rw [Zk _ (uB fun w hw=>?_)]
 ·unfold kvP5
  rw [List.map_append]
  congr 1
  ·refine List.map_congr_left fun q hq=>?_
   rw [zB fun z=>h (by rw [← z.1,← z.2]; exact hq)]
  ·show _ = [(kI [(a:Int),(b:Int)],updL F a b v a b)]
   rw [zw]
 ·unfold kvP5 at hw
  obtain ⟨q,hq,e⟩:=List.mem_map.mp hw
  have e1:=congrArg Prod.fst e
  obtain ⟨h1,h2⟩:=vq.mp e1
  exact h (by rw [show (a,b) = q from Prod.ext (by show a = q.1; omega) (by show b = q.2; omega)]; exact hq)
theorem W0 {F:Nat -> Nat -> V} {P:List (Nat × Nat)}:(kvP5 F P).length = P.length:=List.length_map ..
theorem vV {a m i j:Nat} (hm:m <= 16) (hi:i <= 5) (hj:j <= 16):(prs5 a m i j).length < 1000:=by
 have h1:∀ i:Nat,((List.range i).flatMap fun l=>(List.range m).map fun y=>(a + l,y)).length = i * m:=by
  intro i
  induction i with
  | zero=>rw [Nat.zero_mul]; rfl
  | succ i ih=>rw [List.range_succ,List.flatMap_append,List.length_append,ih,Nat.succ_mul]; simp
 unfold prs5
 rw [List.length_append,h1,List.length_map,List.length_range]
 have:=Nat.mul_le_mul hi hm
 omega
theorem Yo {A:Ad -> Addr} {k:Nat}:xC A k = kvP5 (fun l j=>.ref (A (.ln l j))) (prs5 0 (2 ^ k) (k + 1) 0):=by
 unfold xC kvP5 prs5
 rw [List.range_zero,List.map_nil,List.append_nil,List.map_flatMap]
 refine congrArg (fun f=>(List.range (k + 1)).flatMap f) (funext fun l=>?_)
 rw [List.map_map]
 refine List.map_congr_left fun j _=>?_
 show _ = (kI [((0 + l:Nat):Int),(j:Int)],V.ref (A (.ln (0 + l) j)))
 rw [Nat.zero_add]
theorem Yp {k:Nat} {kp:Nat -> Nat -> Int}:z9 k kp = kvP5 (fun s n=>.int (kp s n)) (prs5 1 (2 ^ (k - 1)) k 0):=by
 unfold z9 kvP5 prs5
 rw [List.range_zero,List.map_nil,List.append_nil,List.map_flatMap]
 refine congrArg (fun f=>(List.range k).flatMap f) (funext fun l=>?_)
 rw [List.map_map]
 refine List.map_congr_left fun j _=>?_
 show _ = (kI [((1 + l:Nat):Int),(j:Int)],V.int (kp (1 + l) j))
 rw [Nat.add_comm 1 l]
theorem uE {lo:Int} {n a m:Nat} {σ:L2.St} {H1:Hp} {wi1:TI} {tk tv:TE} {Q:VK} {e2:List (Option V)} (Pv:Nat -> Nat -> (Nat -> Nat -> V) -> Hp -> Prop) (hlo:lo = (a:Int)) (hn5:n <= 5) (hm16:m <= 16)
  (hσ:∃ e0 e1,σ = e0 :: e1 :: e2) (F0:Nat -> Nat -> V) (h0:Pv 0 0 F0 H1)
  (hr:∀ i e1 F H' (R:It -> Hp -> Prop),i < n -> Pv i 0 F H' -> R (Itr 0 m) H' -> wi1 (some (.int ((a + i:Nat):Int)) :: e1 :: e2) H' R)
  (hs:∀ i j F H' (KK:V -> V -> Hp -> Prop),i < n -> j < m -> Pv i j F H' -> (∀ b v H6,H6 b = some (.tup [.int ((a + i:Nat):Int),.int (j:Int)]) -> (∀ c xs,H' c = some (.tup xs) -> H6 c = some (.tup xs)) -> Pv i (j + 1) (updL F (a + i) j v) H6 -> KK (.ref b) v H6) →
   tk (some (.int ((a + i:Nat):Int)) :: some (.int (j:Int)) :: e2) H' fun y H5=>tv (some (.int ((a + i:Nat):Int)) :: some (.int (j:Int)) :: e2) H5 fun v H6=>KK y v H6)
  (hi:∀ i F H',i < n -> Pv i m F H' -> Pv (i + 1) 0 F H')
  (hd:∀ F H',Pv n 0 F H' -> ∀ l,H' l = none -> Q (.ref l) (upd H' l (.dT (kvP5 F (prs5 a m n 0))))) :
  XI (Itr lo n) σ H1 (wO 0) wi1 (wO 1) ZW tk tv Q:=by
 obtain ⟨e0,e1,rfl⟩:=hσ
 refine ⟨fun i x kvs Hb σ' H'=>x = n - i /\ i <= n /\ (∃ e0 e1,σ' = e0 :: e1 :: e2) /\ (∀ c xs,Hb c = some (.tup xs) -> H' c = some (.tup xs)) /\ ∃ F,kvs = kvP5 F (prs5 a m i 0) /\ Pv i 0 F H',⟨n,by simp,Nat.zero_le _,⟨_,_,rfl⟩,fun _ _ h=>h,F0,rfl,h0⟩,?_⟩
 rintro i x kvs Hb σ' H' ⟨rfl,hin,⟨e0,e1,rfl⟩,hb,F,rfl,pv⟩
 by_cases hlt:i < n
 rotate_left
 ·have:i = n:=by omega
  subst this
  exact .inl ⟨by show i <= i; exact Nat.le_refl _,hb,hd F H' pv⟩
 refine .inr ⟨hlt,fun kvs Hc σ2 H2=>(∃ e0 e1,σ2 = e0 :: e1 :: e2) /\ (∀ c xs,Hc c = some (.tup xs) -> H2 c = some (.tup xs)) /\ ∃ F,kvs = kvP5 F (prs5 a m (i + 1) 0) /\ Pv (i + 1) 0 F H2,fun zs Hc σ2 H2 ⟨p1,p2,p3⟩=>⟨n - (i + 1),by omega,rfl,by omega,p1,p2,p3⟩,fun x H2 hx=>?_⟩
 obtain ⟨rfl,rfl⟩:=hx
 have ev:lo + (i:Int) = ((a + i:Nat):Int):=by omega
 show wi1 (some (.int (lo + (i:Int))) :: e1 :: e2) H2 _
 rw [ev]
 refine hr i e1 F H2 _ hlt pv ?_
 refine ⟨fun j x kvs Hb σ' H'=>x = m - j /\ j <= m /\ (∃ e1,σ' = some (.int ((a + i:Nat):Int)) :: e1 :: e2) /\ (∀ c xs,Hb c = some (.tup xs) -> H' c = some (.tup xs)) /\ ∃ F,kvs = kvP5 F (prs5 a m i j) /\ Pv i j F H',⟨m,by simp,Nat.zero_le _,⟨_,rfl⟩,hb,F,rfl,pv⟩,?_⟩
 rintro j x kvs Hb σ' H' ⟨rfl,hjm,⟨e1,rfl⟩,hb,F,rfl,pv⟩
 by_cases hjl:j < m
 rotate_left
 ·have:j = m:=by omega
  subst this
  refine .inl ⟨by show j <= j; exact Nat.le_refl _,⟨_,_,rfl⟩,hb,F,by rw [si],hi i F H' hlt pv⟩
 refine .inr ⟨hjl,fun kvs Hc σ2 H2=>(∃ e1,σ2 = some (.int ((a + i:Nat):Int)) :: e1 :: e2) /\ (∀ c xs,Hc c = some (.tup xs) -> H2 c = some (.tup xs)) /\ ∃ F,kvs = kvP5 F (prs5 a m i (j + 1)) /\ Pv i (j + 1) F H2,fun zs Hc σ2 H2 ⟨p1,p2,p3⟩=>⟨m - (j + 1),by omega,rfl,by omega,p1,p2,p3⟩,fun x H2 hx=>?_⟩
 obtain ⟨rfl,rfl⟩:=hx
 have ej:(0:Int) + (j:Int) = (j:Int):=Int.zero_add _
 rw [ej]
 refine hs i j F H2 (fun y v H6=>(kvP5 F (prs5 a m i j)).length < sizeLine /\ ∃ b ks,y = V.ref b /\ H6 b = some (HO.tup (List.map kV ks)) /\ (∀ c xs,Hb c = some (HO.tup xs) -> H6 c = some (HO.tup xs)) /\ (∃ e1',some (V.int ((a + i:Nat):Int)) :: some (V.int (j:Int)) :: e2 = some (V.int ((a + i:Nat):Int)) :: e1' :: e2) /\ (∀ c xs,H6 c = some (HO.tup xs) -> H6 c = some (HO.tup xs)) /\ ∃ F',putK (kvP5 F (prs5 a m i j)) ks v = kvP5 F' (prs5 a m i (j + 1)) /\ Pv i (j + 1) F' H6) hlt hjl pv fun b v H6 h1 h2 p6=>?_
 refine ⟨?_,b,kI [((a + i:Nat):Int),(j:Int)],rfl,y4 h1,fun c xs hc=>h2 c xs (hb c xs hc),⟨_,rfl⟩,fun c xs h=>h,updL F (a + i) j v,?_,p6⟩
 ·rw [W0]; exact zp (Nat.le_of_lt (vV hm16 (by omega) (by omega)))
 ·rw [WZ (fun z=>by rcases y8.mp z with ⟨_,h,_⟩ | ⟨_,h⟩; exact absurd h (by show ¬ (a + i < a + i); omega); exact absurd h (by show ¬ (j < j); omega)),ZA]
def qK (K:FG7):Sp:=sp2 fun x y H Q=>∃ (room kept:Nat),x = .int room /\ y = .int kept /\ 1 <= room /\ room <= 6 /\ kept <= 6 /\ Q .non H
def XO (K:FG7):Sp:=sp3 fun x y z H Q=>∃ (k s n:Nat),x = .int k /\ y = .int s /\ z = .int n /\ k <= 4 /\ Q (.bl (decide (1 <= s /\ s <= k /\ n < 2 ^ (k - 1)))) H
def ZB (K:FG7):Sp:=sp2 fun x y H Q=>∃ (k:Nat) (q:Nat × Nat),x = .int k /\ sY K H y q /\ k <= 4 /\ vK k q /\ Q (.bl true) H
def qL (K:FG7):Sp:=sp2 fun x y H Q=>∃ (k:Nat) (gone:List (Nat × Nat)),x = .int k /\ wz K H y gone /\ k <= 4 /\ (∀ q ∈ gone,vK k q) /\ ∀ H',Grow [] H H' -> Q .non H'
def qM (K:FG7):Sp:=sp2 fun x y H Q=>∃ (l:Addr) (xs:List V) (k:Ask),x = .ref l /\ SqL K H l xs /\ xA K H y k /\ WB xs.length k /\ Q (.bl true) H
def rq (C:Addr) (K:FG7):Sp:=sp5 fun x y z u w H Q=>∃ (p dx:Addr) (k room kept:Nat) (b:List Int),x = .ref p /\ y = .int k /\ yz K H z b /\ u = .int room /\ w = .int kept /\ k <= 4 /\ 1 <= b.length /\ b.length <= 16 /\ 1 <= room /\ room <= 6 /\ kept <= 6 /\ H p = some (.ins C dx []) ∧
 ∀ A H',Grow [p] H H' -> A .p = p -> (∀ a,okA (newS k b room kept) a -> a ≠ .p -> H (A a) = none) -> NetAt K C H' A (newS k b room kept) -> Q .non H'
def Tl (K:FG7) (H:Hp) (y:V) (gone:List (Nat × Nat)):Prop:=(y = .non /\ gone = []) \/ wz K H y gone
def jL (C:Addr) (K:FG7):Sp:=sp2 fun x y H Q=>∃ (A:Ad -> Addr) (ns:NS) (a:Ask) (ms:List Addr),x = .ref (A .p) /\ xA K H y a /\ NetAt K C H A ns /\ NR ns /\ WB ns.boxes.length a /\ a.hand < (2 ^ ns.k:Nat) /\ ns.asks.length < 40 /\ (∀ a,okA ns a -> A a ∈ ms) ∧
 ∀ H',Grow ms H H' -> NetAt K C H' A (putS ns a) -> Q (.int ns.asks.length) H'
def vW (C:Addr) (K:FG7):Sp:=sp2 fun x y H Q=>∃ (A:Ad -> Addr) (ns:NS) (gone:List (Nat × Nat)) (ms:List Addr),x = .ref (A .p) /\ Tl K H y gone /\ (∀ q ∈ gone,vK ns.k q) /\ NetAt K C H A ns /\ NR ns /\ ns.nd = ns.now /\ ns.now < 10000 /\ NT (xu gone ns) /\ (∀ a,okA ns a -> A a ∈ ms) ∧
 ∀ A' z l H',Grow ms H H' -> Ext5 H A A' ns -> NetAt K C H' A' (beatS gone ns) -> Tf K H' z l -> l.Perm (xt (xu gone ns)) -> l.Pairwise (fun a b=>a.1 < b.1) -> Q z H'
def jM (C:Addr) (K:FG7):Sp:=sp1 fun x H Q=>∃ (A:Ad -> Addr) (ns:NS),x = .ref (A .p) /\ NetAt K C H A ns /\ ns.log.length <= 1000 /\ ∀ z H',Grow [] H H' -> yz K H' z (ns.log.map Int.ofNat) -> Q z H'
def W3At (K:FG7) (H:Hp) (x:V) (w:Wt):Prop:=∃ r rd rn,x = .ref r /\ SqT K H r [.int w.box,.ref rd,.ref rn] /\ SqT K H rd w.deed.vs /\ SqT K H rn (zT w.nums)
def wI (C:Addr) (K:FG7):Sp:=sp3 fun x y z H Q=>∃ (A:Ad -> Addr) (ns:NS) (l j:Nat),x = .ref (A .p) /\ y = .int l /\ z = .int j /\ l <= ns.k /\ j < 2 ^ ns.k /\ ns.k <= 4 /\ (ns.lines l j).length <= 1000 /\ NetAt K C H A ns /\ ∀ u H',Grow [] H H' -> (∃ r ys,u = .ref r /\ SqT K H' r ys /\ AllR (W3At K H') ys (ns.lines l j)) -> Q u H'
def wc (C:Addr) (K:FG7):Sp:=sp3 fun x y z H Q=>∃ (A:Ad -> Addr) (ns:NS) (s n:Nat),x = .ref (A .p) /\ y = .int s /\ z = .int n /\ 1 <= s /\ s <= ns.k /\ n < 2 ^ (ns.k - 1) /\ ns.k <= 4 /\ NetAt K C H A ns /\ ∀ H',Grow [] H H' -> Q (.int (ns.keep s n)) H'
structure Part (K:FG7) (C p:Addr) (H0 H:Hp) (A:Ad -> Addr) (ns:NS) (D:Ad -> Prop):Prop where
 at_:∀ a,D a -> ∃ o,H (A a) = some o /\ ObjA K C H A ns a o
 inj:∀ a b,D a -> D b -> A a = A b -> a = b
 fr:∀ a,D a -> H0 (A a) = none
 hp0:∃ o,H0 p = some o
 hp:∃ o,H p = some o
 g:Grow [p] H0 H
section
variable {K:FG7} {C p l:Addr} {H0 H H':Hp} {A:Ad -> Addr} {ns:NS} {D:Ad -> Prop} {c:Ad} {o:HO}
def updA (A:Ad -> Addr) (c:Ad) (l:Addr):Ad -> Addr:=fun a=>if a = c then l else A a
theorem yN:updA A c l c = l:=if_pos rfl
theorem yO {a:Ad} (h:a ≠ c):updA A c l a = A a:=if_neg h
theorem Part.nil {ns:NS} (h:H0 p = some o):Part K C p H0 H0 A ns fun _=>False:=⟨fun _ h=>h.elim,fun _ _ h=>h.elim,fun _ h=>h.elim,⟨_,h⟩,⟨_,h⟩,Grow.refl _ _⟩
theorem Part.np (h:Part K C p H0 H A ns D) {a:Ad} (ha:D a):A a ≠ p:=fun e=>by
 have h1:=h.fr a ha
 obtain ⟨o,h2⟩:=h.hp0
 rw [e,h2] at h1; cases h1
theorem Part.grow (h:Part K C p H0 H A ns D) (g:Grow [p] H H') (hp:∃ o,H' p = some o):Part K C p H0 H' A ns D :=
 ⟨fun a ha=>by
  obtain ⟨o,h1,h2⟩:=h.at_ a ha
  exact ⟨o,g.keep _ _ (by simpa using h.np ha) h1,h2.grow g⟩,h.inj,h.fr,h.hp0,hp,h.g.trans g⟩
theorem Part.grow0 (h:Part K C p H0 H A ns D) (g:Grow [] H H'):Part K C p H0 H' A ns D :=
 h.grow g.wk (by obtain ⟨o,e⟩:=h.hp; exact ⟨o,g.keep _ _ (by simp) e⟩)
theorem Part.setP {dx:Addr} {fs fs':List (Str × V)} (h:Part K C p H0 H A ns D) (e:H p = some (.ins C dx fs)):Part K C p H0 (upd H p (.ins C dx fs')) A ns D :=
 h.grow (Grow.setI e (by simp) _) ⟨_,zd⟩
theorem Part.add (h:Part K C p H0 H A ns D) (hl:H l = none) (hc:¬ D c) (ho:ObjA K C (upd H l o) (updA A c l) ns c o) (hi:∀ a,D a -> ∀ o H,ObjA K C H A ns a o -> ObjA K C H (updA A c l) ns a o) :
  Part K C p H0 (upd H l o) (updA A c l) ns fun a=>D a \/ a = c:=by
 have g:=Grow.new (m:=[]) hl o
 have nl:∀ a,D a -> A a ≠ l:=fun a ha e=>by
  obtain ⟨o,h1,_⟩:=h.at_ a ha
  rw [e,hl] at h1; cases h1
 have lp:l ≠ p:=fun e=>by
  obtain ⟨o,h1⟩:=h.hp
  rw [← e,hl] at h1; cases h1
 have ne:∀ a,D a -> a ≠ c:=fun a ha e=>hc (e ▸ ha)
 refine ⟨fun a ha=>?_,fun a b ha hb e=>?_,fun a ha=>?_,h.hp0,?_,h.g.trans g.wk⟩
 ·rcases ha with ha | rfl
  ·rw [yO (ne a ha)]
   obtain ⟨o',h1,h2⟩:=h.at_ a ha
   exact ⟨o',g.keep _ _ (by simp) h1,hi a ha _ _ (h2.grow g)⟩
  ·rw [yN]; exact ⟨o,zd,ho⟩
 ·rcases ha with ha | rfl <;> rcases hb with hb | rfl
  ·rw [yO (ne a ha),yO (ne b hb)] at e; exact h.inj a b ha hb e
  ·rw [yO (ne a ha),yN] at e; exact absurd e (nl a ha)
  ·rw [yO (ne b hb),yN] at e; exact absurd e.symm (nl b hb)
  ·rfl
 ·rcases ha with ha | rfl
  ·rw [yO (ne a ha)]; exact h.fr a ha
  ·rw [yN]; exact h.g.free (by simpa using lp) hl
 ·obtain ⟨o,e⟩:=h.hp; exact ⟨o,g.keep _ _ (by simp) e⟩
theorem Part.sub {D':Ad -> Prop} (h:Part K C p H0 H A ns D) (hd:∀ a,D' a -> D a):Part K C p H0 H A ns D':=⟨fun a ha=>h.at_ a (hd a ha),fun a b ha hb=>h.inj a b (hd a ha) (hd b hb),fun a ha=>h.fr a (hd a ha),h.hp0,h.hp,h.g⟩
theorem Part.net {dx:Addr} (h:Part K C p H0 H A ns D) (hd:∀ a,okA ns a -> a ≠ .p -> D a) (hpd:¬ D .p) (e:H p = some (.ins C dx (zJ A ns))):NetAt K C H (updA A .p p) ns:=by
 refine ⟨fun a ha=>?_,fun a b ha hb e=>?_⟩
 ·by_cases c:a = .p
  ·subst c; rw [yN]; exact ⟨_,e,dx,rfl⟩
  ·rw [yO c]
   obtain ⟨o,h1,h2⟩:=h.at_ a (hd a ha c)
   refine ⟨o,h1,?_⟩
   cases a <;> first | exact absurd rfl c | exact h2
 ·by_cases c1:a = .p <;> by_cases c2:b = .p
  ·rw [c1,c2]
  ·subst c1; rw [yN,yO c2] at e; exact absurd e.symm (h.np (hd b hb c2))
  ·subst c2; rw [yN,yO c1] at e; exact absurd e (h.np (hd a ha c1))
  ·rw [yO c1,yO c2] at e; exact h.inj a b (hd a ha c1) (hd b hb c2) e
end
def DL (m i j:Nat) (D:Ad -> Prop):Ad -> Prop
 | .ln l y=>(l,y) ∈ prs5 0 m i j
 | a=>D a
structure LnP (K:FG7) (C p dx:Addr) (fs:List (Str × V)) (H0:Hp) (ns:NS) (D:Ad -> Prop) (A0:Ad -> Addr) (m i j:Nat) (F:Nat -> Nat -> V) (H':Hp):Prop where
 ex:∃ A,Part K C p H0 H' A ns (DL m i j D) /\ (∀ q ∈ prs5 0 m i j,F q.1 q.2 = .ref (A (.ln q.1 q.2))) /\ (∀ a,D a -> (∀ l y,a ≠ .ln l y) -> A a = A0 a)
 e:H' p = some (.ins C dx fs)
section
variable {K:FG7} {C p dx l:Addr} {fs:List (Str × V)} {H0 H H':Hp} {A0:Ad -> Addr} {ns:NS} {D:Ad -> Prop} {m i j:Nat} {F:Nat -> Nat -> V}
theorem LnP.grow (h:LnP K C p dx fs H0 ns D A0 m i j F H) (g:Grow [] H H'):LnP K C p dx fs H0 ns D A0 m i j F H':=by
 obtain ⟨A,h1,h2⟩:=h.ex
 exact ⟨⟨A,h1.grow0 g,h2⟩,g.keep _ _ (by simp) h.e⟩
theorem LnP.row (h:LnP K C p dx fs H0 ns D A0 m i m F H):LnP K C p dx fs H0 ns D A0 m (i + 1) 0 F H:=by
 obtain ⟨A,h1,h2,h3⟩:=h.ex
 exact ⟨⟨A,h1.sub fun a ha=>by
  cases a <;> first | exact ha | (show _ ∈ _; rw [si]; exact ha),by rw [← si]; exact h2,h3⟩,h.e⟩
theorem LnP.step (hD:∀ l y,¬ D (.ln l y)) (hdp:¬ D .p /\ ¬ D .dl) (hns:∀ l j,ns.lines l j = []) (h:LnP K C p dx fs H0 ns D A0 m i j F H) (hl:H l = none):LnP K C p dx fs H0 ns D A0 m i (j + 1) (updL F (0 + i) j (.ref l)) (upd H l (.lst [])):=by
 obtain ⟨A,h1,h2,h3⟩:=h.ex
 have nm:(0 + i,j) ∉ prs5 0 m i j:=fun z=>by
  rcases y8.mp z with ⟨_,h,_⟩ | ⟨_,h⟩
  ·exact absurd h (by show ¬ (0 + i < 0 + i); omega)
  ·exact absurd h (by show ¬ (j < j); omega)
 have z:=h1.add (c:=.ln (0 + i) j) (o:=.lst []) hl nm ⟨[],rfl,by rw [hns]; trivial⟩ fun a ha o H h=>by
  cases a <;> first | exact h | exact absurd ha hdp.1 | exact absurd ha hdp.2
 ·refine ⟨⟨updA A (.ln (0 + i) j) l,z.sub fun a ha=>?_,fun q hq=>?_,fun a ha hn=>?_⟩,?_⟩
  ·cases a with
   | ln x y =>
    have ha:(x,y) ∈ prs5 0 m i (j + 1):=ha
    rw [ZA,List.mem_append] at ha
    rcases ha with ha | ha
    ·exact .inl ha
    ·have:=List.mem_singleton.mp ha
     right
     rw [show x = 0 + i from congrArg Prod.fst this,show y = j from congrArg Prod.snd this]
   | _=>exact .inl ha
  ·rw [ZA,List.mem_append] at hq
   rcases hq with hq | hq
   ·have ne:¬ (q.1 = 0 + i /\ q.2 = j):=fun e=>nm (by rw [show ((0 + i,j):Nat × Nat) = q from Prod.ext e.1.symm e.2.symm]; exact hq)
    rw [zB ne,yO (fun e=>ne (by injection e with a b; exact ⟨a,b⟩))]
    exact h2 q hq
   ·rw [List.mem_singleton.mp hq]
    show updL F (0 + i) j (.ref l) (0 + i) j = _
    rw [zw,yN]
  ·rw [yO (hn _ _)]; exact h3 a ha hn
  ·exact (Grow.new (m:=[]) hl _).keep _ _ (by simp) h.e
end
theorem sj {F G:Nat -> Nat -> V} {P:List (Nat × Nat)} (h:∀ q ∈ P,F q.1 q.2 = G q.1 q.2):kvP5 F P = kvP5 G P:=List.map_congr_left fun q hq=>by rw [h q hq]
theorem shl5 {k:Nat}:(1:Int) * 2 ^ ((k:Int)).toNat = ((2 ^ k:Nat):Int):=sN
theorem NR.tick {ns:NS} (nr:NR ns) (h:ns.now < 10000):NR (zI ns):=⟨nr.k4,nr.b16,nr.a40,nr.lw,nr.dw,nr.tot,h,Nat.le_succ_of_le nr.nd,nr.fl⟩
theorem NR.forget {ns:NS} (nr:NR ns):NR (zq ns):=⟨nr.k4,nr.b16,nr.a40,nr.lw,nr.dw,nr.tot,nr.nw,nr.nd,nr.fl⟩
structure TakeD (gone:List (Nat × Nat)) (ns n':NS):Prop where
 k:n'.k = ns.k
 room:n'.room = ns.room
 kept:n'.kept = ns.kept
 bl:n'.boxes.length = ns.boxes.length
 asks:n'.asks = ns.asks
 now:n'.now = ns.now
 lines:n'.lines = (zP gone ns (2 ^ ns.k)).2
 keep:n'.keep = ns.keep
 nd:n'.nd = ns.nd + 1
 done:n'.done = updD ns.done ns.now (zP gone ns (2 ^ ns.k)).1
 log:n'.log = ns.log ++ zZ (zP gone ns (2 ^ ns.k)).1
 fl:n'.fnd.length <= ns.fnd.length + (zZ (zP gone ns (2 ^ ns.k)).1).length
 ans:n'.ans = ns.ans
theorem W1 (gone:List (Nat × Nat)) (ns:NS):TakeD gone ns (yB gone ns) :=
 have D:=doF (l:=(zP gone ns (2 ^ ns.k)).1) (ns:=gotS gone ns)
 ⟨D.k,D.room,D.kept,D.bl,D.asks,D.now,D.lines,D.keep,D.nd,D.done,D.log,D.fl,D.ans⟩
theorem NR.take {ns:NS} (nr:NR ns) {gone:List (Nat × Nat)} (hnd:ns.nd + 1 = ns.now):NR (yB gone ns):=by
 have D:=W1 gone ns
 have F:=XF (gone:=gone) (ns:=ns) (Nat.le_refl _)
 generalize yB gone ns = n' at D ⊢
 refine ⟨by rw [D.k]; exact nr.k4,by rw [D.bl]; exact nr.b16,by rw [D.asks]; exact nr.a40,?_,?_,?_,by rw [D.now]; exact nr.nw,by rw [D.nd,D.now]; omega,?_⟩
 ·intro l j hl hj w hw
  rw [D.k] at hl hj
  rw [D.lines] at hw
  rw [D.k,D.bl,D.asks]
  exact nr.lw l j hl hj w (F.ln l j w hw)
 ·intro t t1 t2 w hw
  rw [D.nd] at t2
  rw [D.done] at hw
  rw [D.k,D.bl,D.asks]
  unfold updD at hw
  by_cases c:t = ns.now
  ·rw [if_pos c] at hw
   obtain ⟨j,hj,hw⟩:=F.tk w hw
   exact nr.lw ns.k j (Nat.le_refl _) hj w hw
  ·rw [if_neg c] at hw
   exact nr.dw t t1 (by omega) w hw
 ·rw [D.k,D.lines,D.log,D.asks,List.length_append,vb]
  have h1:=F.ws nlen
  have h2:=nr.tot
  omega
 ·have h1:=D.fl
  have h2:=nr.fl
  rw [D.log,List.length_append]
  omega
theorem sn {gone:List (Nat × Nat)} {ns:NS} {i:Nat}:passA gone ns (i + 1) = passS gone (passA gone ns i) ((passA gone ns i).k - i) (2 ^ ((passA gone ns i).k - 1)):=by unfold passA; rw [zR]
theorem ZC {a b:NS} (h:Same5 a b) {c:Ad} (hc:okA a c):okA b c:=by
 cases c <;> first | exact trivial | exact ⟨by rw [← h.k]; exact hc.1,by rw [← h.k]; exact hc.2⟩ | exact ⟨hc.1,by rw [← h.nd]; exact hc.2⟩
theorem jN {ns:NS} {a:Ask} {g:Wt -> Nat} (hh:a.hand.toNat < 2 ^ ns.k):wsN ns.k (putS ns a).lines g = wsN ns.k ns.lines g + g ⟨a.box.toNat,a.deed,[ns.asks.length],[]⟩:=by
 have h:=xj (k:=ns.k) (l:=0) (j:=a.hand.toNat) (f:=ns.lines) (g:=g) (v:=ns.lines 0 a.hand.toNat ++ [⟨a.box.toNat,a.deed,[ns.asks.length],[]⟩]) (Nat.zero_le _) hh
 rw [xM] at h
 have e:lsum g [⟨a.box.toNat,a.deed,[ns.asks.length],[]⟩] = g ⟨a.box.toNat,a.deed,[ns.asks.length],[]⟩:=by rw [zH,xL]; rfl
 rw [e] at h
 show wsN ns.k (updL ns.lines 0 a.hand.toNat _) g = _
 omega
theorem WtOk.more {k b a:Nat} {w:Wt} (h:WtOk k b a w):WtOk k b (a + 1) w:=⟨h.bx,h.ne,fun n hn=>Nat.lt_succ_of_lt (h.nm n hn),h.mt,h.ln⟩
theorem NR.put {ns:NS} (nr:NR ns) {a:Ask} (hh:a.hand.toNat < 2 ^ ns.k) (hb:a.box.toNat < ns.boxes.length) (h40:ns.asks.length < 40):NR (putS ns a):=by
 have el:(putS ns a).asks.length = ns.asks.length + 1:=by show (ns.asks ++ [a]).length = _; rw [List.length_append]; rfl
 refine ⟨nr.k4,nr.b16,by rw [el]; exact h40,?_,?_,?_,nr.nw,nr.nd,nr.fl⟩
 ·intro l j hl hj w hw
  rw [el]
  have hw:w ∈ updL ns.lines 0 a.hand.toNat (ns.lines 0 a.hand.toNat ++ [⟨a.box.toNat,a.deed,[ns.asks.length],[]⟩]) l j:=hw
  by_cases c:l = 0 /\ j = a.hand.toNat
  ·rw [c.1,c.2,zw,List.mem_append] at hw
   rcases hw with hw | hw
   ·exact (nr.lw 0 _ (Nat.zero_le _) hh w hw).more
   ·rw [List.mem_singleton.mp hw]
    exact ⟨hb,by simp,fun n hn=>by rw [List.mem_singleton.mp hn]; exact Nat.lt_succ_self _,fun q hq=>by simp at hq,rfl⟩
  ·rw [zB c] at hw
   exact (nr.lw l j hl hj w hw).more
 ·intro t t1 t2 w hw
  rw [el]
  exact (nr.dw t t1 t2 w hw).more
 ·rw [el]
  have h:=jN (ns:=ns) (a:=a) (g:=nlen) hh
  have h2:=nr.tot
  have e:nlen ⟨a.box.toNat,a.deed,[ns.asks.length],[]⟩ = 1:=rfl
  show wsN ns.k (putS ns a).lines nlen + ns.log.length = _
  omega
section
variable {P:NS -> Prop} {gone:List (Nat × Nat)} (k4:∀ n,P n -> n.k <= 4) (hP:∀ n s l,P n -> 1 <= s -> s <= n.k -> l < 2 ^ n.k -> P (wu n s l))
include k4 hP
theorem XQ {n:NS} {s i:Nat} (h:P n) (s1:1 <= s) (sk:s <= n.k) (hi:i < 2 ^ (n.k - 1)):P (x9 gone s n i):=by
 unfold x9
 split
 ·exact h
 ·have m2:n.now % 2 < 2:=Nat.mod_lt _ (by decide)
  have l1:=vA (k4 n h) s1 sk hi m2
  have l2:=vA (k4 n h) s1 sk hi (show 1 - n.now % 2 < 2 by omega)
  have e:=(wa n s (inlN n.k s i (n.now % 2))).k
  exact hP _ _ _ (hP _ _ _ h s1 sk l1) s1 (by rw [e]; exact sk) (by rw [e]; exact l2)
theorem qN {n:NS} {s:Nat} (h:P n) (s1:1 <= s) (sk:s <= n.k):∀ {i},i <= 2 ^ (n.k - 1) -> P (passS gone n s i)
 | 0,_=>h
 | i + 1,hi=>by
  have ih:=qN h s1 sk (i:=i) (by omega)
  have e:=(xE gone n s i).k
  have es:passS gone n s (i + 1) = x9 gone s (passS gone n s i) i:=by unfold passS; rw [zR]
  rw [es]
  exact XQ k4 hP ih s1 (by rw [e]; exact sk) (by rw [e]; omega)
theorem uF {n:NS} (h:P n):∀ {i},i <= n.k -> P (passA gone n i)
 | 0,_=>h
 | i + 1,hi=>by
  have ih:=uF h (i:=i) (by omega)
  have e:=(xF gone n i).k
  rw [sn]
  exact qN k4 hP ih (by rw [e]; omega) (by omega) (Nat.le_refl _)
end
def gq (q:Nat × Nat) (w:Wt):Nat:=w.met.count q
theorem Uj {q sw:Nat × Nat} {w c:Wt}:gq q (xK sw w c) = gq q w + gq q c + if sw = q then 1 else 0:=by
 show (w.met ++ c.met ++ [sw]).count q = _
 rw [List.count_append,List.count_append,List.count_singleton]
 by_cases h:sw = q
 ·rw [if_pos h,if_pos (by rw [h]; exact beq_self_eq_true _)]; rfl
 ·rw [if_neg h,if_neg (fun z=>h (beq_iff_eq.mp z))]; rfl
theorem Uk {n:Nat}:Addv (fun w=>w.nums.count n):=fun _ w c=>List.count_append ..
theorem HandC.kp {ns n':NS} {s l:Nat} (h:HandC ns s l n') {q:Nat × Nat} (k4:ns.k <= 4) (s1:1 <= s) (sk:s <= ns.k) (hl:l < 2 ^ ns.k) :
  (wsN ns.k n'.lines (gq q):Int) - n'.keep q.1 q.2 = wsN ns.k ns.lines (gq q) - ns.keep q.1 q.2:=by
 cases h with
 | stay=>rfl
 | add c r hc hr =>
  have o:=wb (b:=c.box) k4 s1 sk hl
  have h1:=xj (f:=ns.lines) (v:=r) (g:=gq q) (show s - 1 <= ns.k by omega) hl
  have h2:=xj (f:=updL ns.lines (s - 1) l r) (v:=ns.lines s (outR ns.k s l c.box) ++ [c]) (g:=gq q) sk o
  rw [zB (fun z=>by have:=z.1; omega)] at h2
  rw [hc,zH] at h1
  rw [xM,zH,xL] at h2
  show (wsN ns.k (updL (updL ns.lines (s - 1) l r) s (outR ns.k s l c.box) (ns.lines s (outR ns.k s l c.box) ++ [c])) (gq q):Int) - ns.keep q.1 q.2 = _
  omega
 | join c r i hc hi hb hk =>
  have o:=wb (b:=c.box) k4 s1 sk hl
  have h1:=xj (f:=ns.lines) (v:=r) (g:=gq q) (show s - 1 <= ns.k by omega) hl
  have h2:=xj (f:=updL ns.lines (s - 1) l r) (v:=(ns.lines s (outR ns.k s l c.box)).set i (xK (s,nN ns.k s l) ((ns.lines s (outR ns.k s l c.box)).getD i default) c)) (g:=gq q) sk o
  rw [zB (fun z=>by have:=z.1; omega)] at h2
  have h3:=sV (g:=gq q) (v:=xK (s,nN ns.k s l) ((ns.lines s (outR ns.k s l c.box)).getD i default) c) hi
  rw [Uj] at h3
  rw [hc,zH] at h1
  show (wsN ns.k (updL (updL ns.lines (s - 1) l r) s (outR ns.k s l c.box) ((ns.lines s (outR ns.k s l c.box)).set i (xK (s,nN ns.k s l) ((ns.lines s (outR ns.k s l c.box)).getD i default) c))) (gq q):Int) - updL ns.keep s (nN ns.k s l) (ns.keep s (nN ns.k s l) + 1) q.1 q.2 = _
  by_cases e:(s,nN ns.k s l) = q
  ·rw [if_pos e] at h3
   subst e
   have z:updL ns.keep s (nN ns.k s l) (ns.keep s (nN ns.k s l) + 1) (s,nN ns.k s l).1 (s,nN ns.k s l).2 = ns.keep s (nN ns.k s l) + 1:=zw
   rw [z]
   show _ = _ - ns.keep s (nN ns.k s l)
   omega
  ·rw [if_neg e] at h3
   rw [zB fun z=>e (Prod.ext z.1.symm z.2.symm)]
   omega
structure PassI (n0 n:NS):Prop where
 same:Same5 n n0
 k4:n0.k <= 4
 cnt:∀ g,Addv g -> wsN n0.k n.lines g = wsN n0.k n0.lines g
 kp:∀ q:Nat × Nat,(wsN n0.k n.lines (gq q):Int) - n.keep q.1 q.2 = wsN n0.k n0.lines (gq q) - n0.keep q.1 q.2
theorem Sb {n0:NS} {gone:List (Nat × Nat)} (k4:n0.k <= 4) {i:Nat} (hi:i <= n0.k):PassI n0 (passA gone n0 i):=by
 refine uF (P:=fun n=>PassI n0 n) (fun n h=>by rw [h.same.k]; exact k4) (fun n s l h s1 sk hl=>?_) ⟨Same5.refl _,k4,fun _ _=>rfl,fun _=>rfl⟩ hi
 have C:=WS n s l
 have k4':n.k <= 4:=by rw [h.same.k]; exact k4
 refine ⟨C.same.trans h.same,k4,fun g hg=>?_,fun q=>?_⟩
 ·rw [← h.cnt g hg,← h.same.k]; exact C.ws hg k4' s1 sk hl
 ·rw [← h.kp q,← h.same.k]; exact C.kp k4' s1 sk hl
def logD (d:Nat -> List Wt) (m:Nat):List Nat:=(List.range m).flatMap fun t=>zZ (d (t + 1))
theorem we {d:Nat -> List Wt} {m:Nat}:logD d (m + 1) = logD d m ++ zZ (d (m + 1)):=by
 unfold logD
 rw [List.range_succ,List.flatMap_append]; simp
theorem vD {d d':Nat -> List Wt}:∀ {m:Nat},(∀ t,1 <= t -> t <= m -> d t = d' t) -> logD d m = logD d' m
 | 0,_=>rfl
 | m + 1,h=>by rw [we,we,vD fun t h1 h2=>h t h1 (by omega),h (m + 1) (by omega) (Nat.le_refl _)]
theorem ZD {d:Nat -> List Wt} {m:Nat}:∀ {n:Nat},m <= n -> ∃ r,logD d n = logD d m ++ r
 | 0,h=>⟨[],by rw [List.append_nil,Nat.le_zero.mp h]⟩
 | n + 1,h=>by
  by_cases c:m = n + 1
  ·exact ⟨[],by rw [List.append_nil,c]⟩
  ·obtain ⟨r,e⟩:=ZD (d:=d) (m:=m) (n:=n) (by omega)
   exact ⟨r ++ zZ (d (n + 1)),by rw [we,e,List.append_assoc]⟩
theorem jO {l:List Nat} (h:∀ n,l.count n <= 1):l.Nodup:=by
 induction l with
 | nil=>exact List.nodup_nil
 | cons a l ih =>
  refine List.nodup_cons.mpr ⟨fun z=>?_,ih fun n=>Nat.le_trans (List.count_le_count_cons ..) (h n)⟩
  have h1:=h a
  rw [List.count_cons_self] at h1
  have:=List.count_pos_iff.mpr z
  omega
def winS (now w:Nat) (F:Nat -> Nat):Nat:=sumR w fun i=>if i < now then F (now - i) else 0
theorem sr {F:Nat -> Nat}:∀ {w:Nat},sumR (w + 1) F = F 0 + sumR w fun i=>F (i + 1)
 | 0=>by rw [zQ]; show 0 + F 0 = F 0 + 0; omega
 | w + 1=>by rw [zQ,sr,zQ]; omega
structure NW (ns:NS):Prop where
 nr:NR ns
 nd:ns.nd = ns.now
 r1:1 <= ns.room
 cnt:∀ n,wsN ns.k ns.lines (fun w=>w.nums.count n) + ns.log.count n = if n < ns.asks.length then 1 else 0
 lg:ns.log = logD ns.done ns.now
 fk:∀ n ∈ ns.log,(getN ns.fnd n).isSome = true
 an:ns.ans.map (·.1) = logD ns.done (ns.now - ns.k)
 kp:∀ s n,1 <= s -> s <= ns.k -> n < 2 ^ (ns.k - 1) -> ns.keep s n = ((wsN ns.k ns.lines (gq (s,n)) + winS ns.now (ns.k - s + 1) fun t=>lsum (gq (s,n)) (ns.done t):Nat):Int)
theorem Ul {k:Nat} {f:Nat -> Nat -> List Wt} {g:Wt -> Nat} (h:∀ l j,l <= k -> j < 2 ^ k -> f l j = []):wsN k f g = 0 :=
 xB fun l hl=>xB fun j hj=>by rw [h l j (by omega) hj]; rfl
theorem NW.new {k room kept:Nat} {b:List Int} (k4:k <= 4) (b16:b.length <= 16) (r1:1 <= room):NW (newS k b room kept):=by
 have z:∀ g,wsN k (newS k b room kept).lines g = 0:=fun g=>Ul fun _ _ _ _=>rfl
 refine ⟨⟨k4,b16,Nat.zero_le _,fun l j _ _ w hw=>(by cases hw),fun t h1 h2=>?_,?_,Nat.zero_le _,Nat.le_refl _,Nat.le_refl _⟩,rfl,r1,fun n=>?_,rfl,fun n hn=>(by cases hn),?_,fun s n _ _ _=>?_⟩
 ·have:t <= 0:=h2
  omega
 ·show wsN k _ nlen + 0 = 0
  rw [z]
 ·show wsN k _ _ + 0 = if n < 0 then 1 else 0
  rw [z,if_neg (Nat.not_lt_zero _)]
 ·show [] = logD _ (0 - k)
  rw [Nat.zero_sub]; rfl
 ·show (0:Int) = _
  have:winS 0 (k - s + 1) (fun t=>lsum (gq (s,n)) []) = 0:=xB fun i _=>if_neg (Nat.not_lt_zero _)
  show (0:Int) = ((wsN k _ _ + winS 0 (k - s + 1) (fun t=>lsum (gq (s,n)) []):Nat):Int)
  rw [z,this]; rfl
theorem NW.put {ns:NS} (h:NW ns) {a:Ask} (hh:a.hand.toNat < 2 ^ ns.k) (hb:a.box.toNat < ns.boxes.length) (h40:ns.asks.length < 40):NW (putS ns a):=by
 have el:(putS ns a).asks.length = ns.asks.length + 1:=by show (ns.asks ++ [a]).length = _; rw [List.length_append]; rfl
 refine ⟨h.nr.put hh hb h40,h.nd,h.r1,fun n=>?_,h.lg,h.fk,h.an,fun s n s1 sk hn=>?_⟩
 ·rw [el]
  have h1:=jN (ns:=ns) (a:=a) (g:=fun w=>w.nums.count n) hh
  have h2:=h.cnt n
  show wsN ns.k (putS ns a).lines _ + ns.log.count n = _
  have e:([ns.asks.length]:List Nat).count n = if n = ns.asks.length then 1 else 0:=by
   rw [List.count_singleton]
   by_cases c:n = ns.asks.length
   ·rw [if_pos c,if_pos (by rw [c]; exact beq_self_eq_true _)]
   ·rw [if_neg c,if_neg (fun z=>c (beq_iff_eq.mp z).symm)]
  have h1:wsN ns.k (putS ns a).lines (fun w=>w.nums.count n) = wsN ns.k ns.lines (fun w=>w.nums.count n) + ([ns.asks.length]:List Nat).count n:=h1
  rw [e] at h1
  split at h1 <;> split at h2 <;> split <;> omega
 ·have h1:=jN (ns:=ns) (a:=a) (g:=gq (s,n)) hh
  have e:gq (s,n) ⟨a.box.toNat,a.deed,[ns.asks.length],[]⟩ = 0:=rfl
  rw [e] at h1
  show ns.keep s n = ((wsN ns.k (putS ns a).lines _ + _:Nat):Int)
  rw [h1]
  exact h.kp s n s1 sk hn
theorem Tm {s a b:Nat} {kp:Nat -> Nat -> Int} {sw:Nat × Nat}:fgM s kp sw a b = kp a b - if a = s /\ sw = (a,b) then 1 else 0:=by
 unfold fgM
 by_cases c:sw.1 = s
 ·rw [if_pos c]
  by_cases d:a = sw.1 /\ b = sw.2
  ·rw [if_pos ⟨by rw [d.1,c],Prod.ext d.1.symm d.2.symm⟩,d.1,d.2,zw]
  ·rw [zB d,if_neg fun z=>d ⟨by rw [z.2],by rw [z.2]⟩]; simp
 ·rw [if_neg c,if_neg fun z=>c (by rw [z.2]; exact z.1)]; simp
theorem Vu {s a b:Nat}:∀ {ms:List (Nat × Nat)} {kp:Nat -> Nat -> Int},ms.foldl (fgM s) kp a b = kp a b - if a = s then (ms.count (a,b):Int) else 0
 | [],kp=>by show kp a b = _; split <;> simp
 | m :: ms,kp=>by
  show ms.foldl (fgM s) (fgM s kp m) a b = _
  rw [Vu,Tm,List.count_cons]
  by_cases c:a = s
  ·rw [if_pos c,if_pos c]
   by_cases d:m = (a,b)
   ·rw [if_pos ⟨c,d⟩,if_pos (by rw [d]; exact beq_self_eq_true _)]; push_cast; omega
   ·rw [if_neg fun z=>d z.2,if_neg (fun z=>d (beq_iff_eq.mp z))]; push_cast; omega
  ·rw [if_neg c,if_neg c,if_neg fun z=>c z.1]; omega
theorem Vv {s a b:Nat}:∀ {ws:List Wt} {kp:Nat -> Nat -> Int},ws.foldl (fgW s) kp a b = kp a b - if a = s then (lsum (gq (a,b)) ws:Int) else 0
 | [],kp=>by show kp a b = _; split <;> simp [xL]
 | w :: ws,kp=>by
  show ws.foldl (fgW s) (fgW s kp w) a b = _
  rw [Vv,zH]
  have:fgW s kp w a b = kp a b - if a = s then (gq (a,b) w:Int) else 0:=Vu
  rw [this]
  by_cases c:a = s
  ·rw [if_pos c,if_pos c,if_pos c]; push_cast; omega
  ·rw [if_neg c,if_neg c,if_neg c]; omega
theorem XR {ns:NS} {a b:Nat} {kp:Nat -> Nat -> Int}:∀ {i:Nat},(List.range i).foldl (fun kp i=>fgS ns kp (i + 1)) kp a b = kp a b - if 1 <= a /\ a <= i then (lsum (gq (a,b)) (agoS ns (ns.k - a + 1)):Int) else 0
 | 0=>by rw [if_neg (by omega)]; show kp a b = _; omega
 | i + 1=>by
  rw [zR]
  have:∀ kp,fgS ns kp (i + 1) a b = kp a b - if a = i + 1 then (lsum (gq (a,b)) (agoS ns (ns.k - (i + 1) + 1)):Int) else 0:=fun kp=>Vv
  rw [this,XR (i:=i)]
  by_cases c:a = i + 1
  ·rw [if_neg (show ¬ (1 <= a /\ a <= i) by omega),if_pos c,if_pos (show 1 <= a /\ a <= i + 1 by omega),← c]; omega
  ·rw [if_neg c]
   by_cases d:1 <= a /\ a <= i
   ·rw [if_pos d,if_pos (show 1 <= a /\ a <= i + 1 by omega)]; omega
   ·rw [if_neg d,if_neg (show ¬ (1 <= a /\ a <= i + 1) by omega)]; omega
theorem XS {b:Nat}:∀ {l:List Nat} {ns:NS} {n:Nat},(n ∈ l \/ (getN ns.fnd n).isSome = true) -> (getN (l.foldl (doN b) ns).fnd n).isSome = true
 | [],ns,n,h=>by
  rcases h with h | h
  ·cases h
  ·exact h
 | a :: l,ns,n,h=>by
  refine XS (l:=l) (ns:=doN b ns a) ?_
  have e:(getN (doN b ns a).fnd n) = if n = a then some (ns.boxes.getD b 0) else getN ns.fnd n:=WQ
  rw [e]
  by_cases c:n = a
  ·rw [if_pos c]; exact .inr rfl
  ·rw [if_neg c]
   rcases h with h | h
   ·exact .inl ((List.mem_cons.mp h).resolve_left c)
   ·exact .inr h
theorem Vw:∀ {l:List Wt} {ns:NS} {n:Nat},(n ∈ zZ l \/ (getN ns.fnd n).isSome = true) -> (getN (l.foldl doW ns).fnd n).isSome = true
 | [],ns,n,h=>by
  rcases h with h | h
  ·cases h
  ·exact h
 | w :: l,ns,n,h=>by
  refine Vw (l:=l) (ns:=doW ns w) ?_
  rcases h with h | h
  ·have h:n ∈ w.nums ++ zZ l:=h
   rcases List.mem_append.mp h with h | h
   ·exact .inr (XS (.inl h))
   ·exact .inl h
  ·exact .inr (XS (.inr h))
theorem uG:∀ {l f:List (Nat × Int)},(l.map (·.1)).Nodup -> (∀ p ∈ l,p.1 ∉ f.map (·.1)) -> l.foldl (fun f p=>putN f p.1 p.2) f = f ++ l
 | [],f,_,_=>(List.append_nil _).symm
 | p :: l,f,hn,hf=>by
  have e:putN f p.1 p.2 = f ++ [p]:=by
   unfold putN
   rw [if_neg]
   intro z
   obtain ⟨q,hq,e⟩:=List.any_eq_true.mp z
   exact hf p (List.mem_cons_self ..) (List.mem_map.mpr ⟨q,hq,of_decide_eq_true e⟩)
  show l.foldl _ (putN f p.1 p.2) = _
  have hn:(p.1 :: l.map (·.1)).Nodup:=hn
  obtain ⟨h1,h2⟩:=List.nodup_cons.mp hn
  rw [e,uG h2 fun q hq z=>?_,List.append_assoc]; rfl
  rw [List.map_append,List.mem_append] at z
  rcases z with z | z
  ·exact hf q (List.mem_cons_of_mem _ hq) z
  ·have z:q.1 = p.1:=List.mem_singleton.mp z
   exact h1 (by rw [← z]; exact List.mem_map.mpr ⟨q,hq,rfl⟩)
theorem ZE {ns:NS}:∀ {l:List Wt},(l.flatMap (u7 ns)).map (·.1) = zZ l
 | []=>rfl
 | w :: l=>by
  rw [List.flatMap_cons,List.map_append,ZE]
  show _ = w.nums ++ zZ l
  congr 1
  unfold u7
  rw [List.map_map]
  exact List.map_id _
theorem NW.l40 {ns:NS} (h:NW ns):ns.log.length <= 40:=by
 have h1:=h.nr.tot
 have h2:=h.nr.a40
 omega
structure GoneI (gone:List (Nat × Nat)) (ns n4:NS):Prop where
 nr:NR n4
 k:n4.k = ns.k
 room:n4.room = ns.room
 kept:n4.kept = ns.kept
 bl:n4.boxes.length = ns.boxes.length
 asks:n4.asks = ns.asks
 now:n4.now = ns.now + 1
 nd:n4.nd = ns.now + 1
 done:n4.done = updD ns.done (ns.now + 1) (zP gone (zq (zI ns)) (2 ^ ns.k)).1
 log:n4.log = ns.log ++ zZ (zP gone (zq (zI ns)) (2 ^ ns.k)).1
 ans:n4.ans = ns.ans
 cnt:∀ n,wsN ns.k n4.lines (fun w=>w.nums.count n) + n4.log.count n = if n < ns.asks.length then 1 else 0
 fk:∀ n ∈ n4.log,(getN n4.fnd n).isSome = true
 kp:∀ s n,1 <= s -> s <= ns.k -> n < 2 ^ (ns.k - 1) -> n4.keep s n = ((wsN ns.k n4.lines (gq (s,n)) + winS (ns.now + 1) (ns.k - s + 1) fun t=>lsum (gq (s,n)) (n4.done t):Nat):Int)
theorem XT {ns:NS} (h:NW ns) (nw:ns.now < 10000) (gone:List (Nat × Nat)):GoneI gone ns (xu gone ns):=by
 have k4:=h.nr.k4
 have hnd:(zq (zI ns)).nd + 1 = (zq (zI ns)).now:=by show ns.nd + 1 = ns.now + 1; rw [h.nd]
 have nr2:=(h.nr.tick nw).forget
 have nr3:=nr2.take (gone:=gone) hnd
 have D:=W1 gone (zq (zI ns))
 have F:=XF (gone:=gone) (ns:=zq (zI ns)) (Nat.le_refl _)
 have ek:(yB gone (zq (zI ns))).k = ns.k:=D.k
 have fk3:∀ n,(n ∈ zZ (zP gone (zq (zI ns)) (2 ^ ns.k)).1 \/ (getN ns.fnd n).isSome = true) -> (getN (yB gone (zq (zI ns))).fnd n).isSome = true:=fun n hn=>Vw (ns:=gotS gone (zq (zI ns))) hn
 have I:=Sb (n0:=yB gone (zq (zI ns))) (gone:=gone) (by rw [ek]; exact k4) (i:=ns.k) (by rw [ek]; exact Nat.le_refl _)
 have nr4:=nr3.passA (gone:=gone) (i:=ns.k) (by rw [ek]; exact Nat.le_refl _)
 have eg:xu gone ns = passA gone (yB gone (zq (zI ns))) ns.k:=rfl
 have ews:∀ g,lsum g (zP gone (zq (zI ns)) (2 ^ ns.k)).1 + wsN ns.k (zP gone (zq (zI ns)) (2 ^ ns.k)).2 g = wsN ns.k ns.lines g:=F.ws
 have e2:∀ a b,(zq (zI ns)).keep a b = ns.keep a b - if 1 <= a /\ a <= ns.k then (lsum (gq (a,b)) (agoS (zI ns) (ns.k - a + 1)):Int) else 0:=fun a b=>XR (ns:=zI ns) (i:=ns.k)
 rw [eg]
 have Dl:(yB gone (zq (zI ns))).lines = (zP gone (zq (zI ns)) (2 ^ ns.k)).2:=D.lines
 have Dg:(yB gone (zq (zI ns))).log = ns.log ++ zZ (zP gone (zq (zI ns)) (2 ^ ns.k)).1:=D.log
 have Dd:(yB gone (zq (zI ns))).done = updD ns.done (ns.now + 1) (zP gone (zq (zI ns)) (2 ^ ns.k)).1:=D.done
 have Dk:=D.keep
 have Dnd:(yB gone (zq (zI ns))).nd = ns.now + 1:=by rw [D.nd]; show ns.nd + 1 = _; rw [h.nd]
 have Dnow:(yB gone (zq (zI ns))).now = ns.now + 1:=D.now
 have Da:(yB gone (zq (zI ns))).asks = ns.asks:=D.asks
 have Dr:(yB gone (zq (zI ns))).room = ns.room:=D.room
 have Dq:(yB gone (zq (zI ns))).kept = ns.kept:=D.kept
 have Db:(yB gone (zq (zI ns))).boxes.length = ns.boxes.length:=D.bl
 have Ds:(yB gone (zq (zI ns))).ans = ns.ans:=D.ans
 clear D F eg
 generalize (zP gone (zq (zI ns)) (2 ^ ns.k)).2 = L2' at *
 generalize htk:(zP gone (zq (zI ns)) (2 ^ ns.k)).1 = tk at *
 generalize yB gone (zq (zI ns)) = n3 at *
 generalize passA gone n3 ns.k = n4 at *
 have sm:=I.same
 have cnt4:∀ g,Addv g -> wsN ns.k n4.lines g = wsN ns.k n3.lines g:=fun g hg=>by have:=I.cnt g hg; rw [ek] at this; exact this
 refine ⟨nr4,sm.k.trans ek,sm.room.trans Dr,sm.kept.trans Dq,by rw [sm.boxes]; exact Db,sm.asks.trans Da,sm.now.trans Dnow,sm.nd.trans Dnd,(by rw [htk]; exact sm.done.trans Dd),(by rw [htk]; exact sm.log.trans Dg),sm.ans.trans Ds,fun n=>?_,fun n hn=>?_,fun s n s1 sk hn=>?_⟩
 ·rw [cnt4 _ Uk,Dl,sm.log,Dg,List.count_append,wH]
  have h1:=h.cnt n
  have h2:=ews (fun w=>w.nums.count n)
  rw [← h1]
  omega
 ·rw [sm.fnd]
  rw [sm.log,Dg] at hn
  rcases List.mem_append.mp hn with hn | hn
  ·exact fk3 n (.inr (h.fk n hn))
  ·exact fk3 n (.inl hn)
 ·have h1:=h.kp s n s1 sk hn
  have h2:=I.kp (s,n)
  rw [ek,Dl,Dk,e2 s n,if_pos ⟨s1,sk⟩] at h2
  have h3:=ews (gq (s,n))
  have h4:winS ns.now (ns.k - s + 1) (fun t=>lsum (gq (s,n)) (ns.done t)) = winS ns.now (ns.k - s) (fun t=>lsum (gq (s,n)) (ns.done t)) + lsum (gq (s,n)) (agoS (zI ns) (ns.k - s + 1)):=by
   unfold winS
   rw [zQ]
   congr 1
   unfold agoS
   show (if ns.k - s < ns.now then lsum (gq (s,n)) (ns.done (ns.now - (ns.k - s))) else 0) = lsum (gq (s,n)) (if ns.k - s + 1 < ns.now + 1 /\ ns.now + 1 - (ns.k - s + 1) <= ns.nd then ns.done (ns.now + 1 - (ns.k - s + 1)) else [])
   by_cases c:ns.k - s < ns.now
   ·rw [if_pos c,if_pos ⟨by omega,by rw [h.nd]; omega⟩,show ns.now + 1 - (ns.k - s + 1) = ns.now - (ns.k - s) by omega]
   ·rw [if_neg c,if_neg (by omega)]; rfl
  have h5:winS (ns.now + 1) (ns.k - s + 1) (fun t=>lsum (gq (s,n)) (n4.done t)) = lsum (gq (s,n)) tk + winS ns.now (ns.k - s) (fun t=>lsum (gq (s,n)) (ns.done t)):=by
   unfold winS
   rw [sr,sm.done,Dd]
   congr 1
   ·rw [if_pos (Nat.succ_pos _)]
    show lsum _ (updD ns.done (ns.now + 1) tk (ns.now + 1)) = _
    unfold updD; rw [if_pos rfl]
   ·refine y9 fun i _=>?_
    by_cases c:i < ns.now
    ·rw [if_pos c,if_pos (by omega)]
     show lsum _ (updD ns.done (ns.now + 1) tk (ns.now + 1 - (i + 1))) = _
     unfold updD
     rw [if_neg (by omega),show ns.now + 1 - (i + 1) = ns.now - i by omega]
    ·rw [if_neg c,if_neg (by omega)]
  rw [h5]
  rw [h4] at h1
  have h2:(wsN ns.k n4.lines (gq (s,n)):Int) - n4.keep s n = wsN ns.k L2' (gq (s,n)) - (ns.keep s n - lsum (gq (s,n)) (agoS (zI ns) (ns.k - s + 1))):=h2
  push_cast at h1 ⊢
  omega
theorem NW.beat {ns:NS} (h:NW ns) (nw:ns.now < 10000) (gone:List (Nat × Nat)):NT (xu gone ns) /\ NW (beatS gone ns):=by
 have G:=XT h nw gone
 have eb:beatS gone ns = Xy (xu gone ns):=rfl
 rw [eb]
 generalize xu gone ns = n4 at G ⊢
 have hlg:n4.log = logD n4.done (ns.now + 1):=by
  rw [we,G.log,G.done]
  have e:updD ns.done (ns.now + 1) (zP gone (zq (zI ns)) (2 ^ ns.k)).1 (ns.now + 1) = (zP gone (zq (zI ns)) (2 ^ ns.k)).1:=if_pos rfl
  rw [e,h.lg]
  congr 1
  exact vD fun t t1 t2=>by unfold updD; rw [if_neg (by omega)]
 have hnd:n4.log.Nodup:=jO fun n=>by
  have:=G.cnt n
  split at this <;> omega
 have l40:n4.log.length <= 40:=by
  have h1:=G.nr.tot
  have h2:=G.nr.a40
  omega
 have han:n4.ans.map (·.1) = logD n4.done (ns.now - ns.k):=by
  rw [G.ans,h.an,G.done]
  exact vD fun t t1 t2=>by unfold updD; rw [if_neg (by omega)]
 have hago:logD n4.done (ns.now + 1 - ns.k) = logD n4.done (ns.now - ns.k) ++ zZ (agoS n4 n4.k):=by
  unfold agoS
  rw [G.k,G.now,G.nd]
  by_cases c:ns.k < ns.now + 1
  ·rw [if_pos ⟨c,by omega⟩,show ns.now + 1 - ns.k = (ns.now - ns.k) + 1 by omega,we]
  ·rw [if_neg (by omega),show ns.now + 1 - ns.k = 0 by omega,show ns.now - ns.k = 0 by omega]; rfl
 have hkeys:(xt n4).map (·.1) = zZ (agoS n4 n4.k):=ZE
 obtain ⟨r,hr⟩:=ZD (d:=n4.done) (m:=ns.now + 1 - ns.k) (n:=ns.now + 1) (by omega)
 rw [← hlg] at hr
 have hnd2:(logD n4.done (ns.now - ns.k) ++ zZ (agoS n4 n4.k)).Nodup:=by
  rw [← hago]
  rw [hr] at hnd
  exact (List.nodup_append.mp hnd).1
 obtain ⟨hn1,hn2,hn3⟩:=List.nodup_append.mp hnd2
 have hlen:(logD n4.done (ns.now - ns.k)).length + (zZ (agoS n4 n4.k)).length <= 40:=by
  have:=congrArg List.length hr
  rw [hago,List.length_append,List.length_append] at this
  omega
 have hmem:∀ n ∈ zZ (agoS n4 n4.k),n ∈ n4.log:=fun n hn=>by
  rw [hr,hago]; exact List.mem_append_left _ (List.mem_append_right _ hn)
 have nt:NT n4:=by
  refine ⟨by rw [hkeys]; exact hn2,fun w hw n hn=>G.fk n (hmem n (List.mem_flatMap.mpr ⟨w,hw,hn⟩)),?_,?_⟩
  ·have:=congrArg List.length hkeys
   rw [List.length_map] at this
   omega
  ·have:=congrArg List.length han
   rw [List.length_map] at this
   omega
 have etell:(Xy n4).ans = n4.ans ++ xt n4:=by
  show (qG (xt n4)).foldl (fun f p=>putN f p.1 p.2) n4.ans = _
  have e1:qG (xt n4) = xt n4:=by
   have:=uG (l:=xt n4) (f:=[]) (by rw [hkeys]; exact hn2) (fun p _ z=>by cases z)
   exact this
  rw [e1]
  refine uG (by rw [hkeys]; exact hn2) fun p hp z=>?_
  rw [han] at z
  exact hn3 _ z _ (by rw [← hkeys]; exact List.mem_map.mpr ⟨p,hp,rfl⟩) rfl
 refine ⟨nt,⟨⟨G.nr.k4,G.nr.b16,G.nr.a40,G.nr.lw,G.nr.dw,G.nr.tot,G.nr.nw,G.nr.nd,G.nr.fl⟩,?_,?_,fun n=>?_,?_,G.fk,?_,fun s n s1 sk hn=>?_⟩⟩
 ·show n4.nd = n4.now
  rw [G.nd,G.now]
 ·show 1 <= n4.room
  rw [G.room]; exact h.r1
 ·show wsN n4.k n4.lines _ + n4.log.count n = if n < n4.asks.length then 1 else 0
  rw [G.k,G.asks]; exact G.cnt n
 ·show n4.log = logD n4.done n4.now
  rw [G.now]; exact hlg
 ·rw [etell,List.map_append,han,hkeys,← hago]
  show logD n4.done (ns.now + 1 - ns.k) = logD n4.done (n4.now - n4.k)
  rw [G.now,G.k]
 ·have sk':s <= ns.k:=by rw [← G.k]; exact sk
  have hn':n < 2 ^ (ns.k - 1):=by rw [← G.k]; exact hn
  show n4.keep s n = ((wsN n4.k n4.lines _ + winS n4.now (n4.k - s + 1) fun t=>lsum _ (n4.done t):Nat):Int)
  rw [G.k,G.now]
  exact G.kp s n s1 sk' hn'
section
variable {prog:Program} {w:World} {A:Around} {E:VS7} {s:Shared}
theorem uH {it t:Addr} {items:Array Value} (hne:t ≠ it):∀ (n i:Nat) (s:Shared) (Q:List Value -> Shared -> Prop),s.heap.IsListIter it t i -> s.heap.IsList t items -> i + n <= items.size →
  (∀ h',h'.IsListIter it t (i + n) -> Heap.SameBut it s.heap h' -> Q ((items.toList.drop i).take n) { s with heap:=h' }) -> wpAny (model prog w) A (draw (.ref it) n) Q E s
 | 0,i,s,Q,hit,_,_,hQ=>by
  show wpAny _ _ (pure []) Q E s
  exact wpAny_pure (by simpa using hQ s.heap hit (Heap.SameBut.refl ..))
 | n + 1,i,s,Q,hit,ht,hle,hQ=>by
  have hlt:i < items.size:=by omega
  show wpAny _ _ (pyNext (.ref it) >>= _) Q E s
  refine wpAny_bind (wpAny_pyNext_list_item hit ht (x:=items[i]) (by simp [hlt]) fun h₁ hit₁ hs₁=>?_)
  refine wpAny_bind (wpAny_holding (uH hne n (i + 1) _ _ hit₁ (ht.extBut hs₁.extBut hne) (by omega) fun h₂ hit₂ hs₂=>wpAny_pure ?_))
  have hd:items.toList.drop i = items[i] :: items.toList.drop (i + 1):=by simp [List.drop_eq_getElem_cons,hlt]
  have:=hQ h₂ (by rw [show i + (n + 1) = i + 1 + n by omega]; exact hit₂) (hs₁.trans hs₂)
  rw [hd,List.take_succ_cons] at this
  exact this
theorem vd {t:Addr} {items:Array Value} {Q:List Value -> Shared -> Prop} (hh:A.handled = none) (ht:s.heap.IsList t items)
  (hQ:∀ h',Heap.ExtBut s.heap.objs.size s.heap h' -> Q items.toList { s with heap:=h' }):wpAny (model prog w) A (unpackItems (.ref t) items.size none) Q E s:=by
 have hlt:t ≠ s.heap.objs.size:=by obtain ⟨o,ho,_⟩:=ht; exact Nat.ne_of_lt (Heap.lt_size ho)
 unfold unpackItems
 refine wpAny_bind ?_
 ·unfold notIterableAtAll
  refine wpAny_bind (wpAny_specialOf ht.typeIs F.slot_list_iter.lookup ?_)
  refine wpAny_pure ?_
  simp only [Bool.false_eq_true,if_false]
  refine wpAny_bind (wpAny_holding (wpAny_pyIter_list ht ?_))
  refine wpAny_bind (wpAny_holding (uH hlt items.size 0 _ _ ⟨_,Heap.get?_push_size _ rfl,rfl,rfl⟩ (ht.push _) (by omega) fun h₁ hit₁ hs₁=>?_))
  have hall:List.take items.size (List.drop 0 items.toList) = items.toList:=by
   rw [List.drop_zero]; exact List.take_of_length_le (by simp)
  rw [hall]
  rw [if_neg (by simp)]
  have ht₁:h₁.IsList t items:=(ht.push _).extBut hs₁.extBut hlt
  refine wpAny_bind (wpAny_holding (wpAny_pyNext_list_end hh hit₁ ht₁ (by simp) fun h₂ he₂=>?_))
  simp only [Option.isSome_none,Bool.false_eq_true,if_false]
  refine wpAny_pure (hQ h₂ fun b o hb e=>he₂ b o hb (hs₁.extBut b o hb (Heap.get?_push_of_some _ e)))
theorem wJ {env:Env} {elts:List Expr} {x1} {pos:Pos} {t:Addr} {items:Array Value} {Q:Unit -> Shared -> Prop} (hh:A.handled = none) (ht:s.heap.IsList t items)
  (hn:(assignEach elts env).length = items.size) (hstar:(assignEach elts env).findIdx? (·.1) = none)
  (h:∀ h',Heap.ExtBut s.heap.objs.size s.heap h' -> wpAny (model prog w) A (assignInOrder ((assignEach elts env).map (·.2)) items.toList) Q E { s with heap:=h' }) :
  wpAny (model prog w) A (assign (.Tuple elts x1 pos) env (.ref t)) Q E s:=by
 rw [assign_Tuple]
 refine wpAny_bind (wpAny_standAt ?_)
 unfold unpack
 rw [hn,hstar]
 exact wpAny_bind (wpAny_holding (vd hh ht h))
end
section
variable {X:Cx} {pos:Pos}
def Tn (K:FG7) (n:Nat) (t:TGs):TG:=fun v σ H Q=>∃ a xs,v = .ref a /\ SqL K H a xs /\ xs.length = n /\ t xs σ H Q
theorem W3 {es:List Expr} {k:Nat} {t:TGs} {n:Nat} (hc:X.calm = true) (h:PGs X es t)
  (hn:(assignEach es X.env).length = n:=by rfl) (hst:(assignEach es X.env).findIdx? (·.1) = none:=by rfl):PG X (.Tuple es k pos) (Tn X.K n t):=by
 intro pins s σ H v u Q I r hw
 obtain ⟨a,xs,e1,hq,hl,hw⟩:=hw
 subst e1
 cases r
 obtain ⟨its,rv,ht,hz⟩:=I.list hq
 refine wJ (I.ok.hd hc) ht.isList (by simp [hn,← hl,rv.length]) hst fun h' hx=>?_
 have I1:Inv X pins σ H { s with heap:=h' }:=I.kept (t':=s.toks) fun b o e=>hx b o (Nat.ne_of_lt (Heap.lt_size e)) e
 exact h pins _ σ H xs _ Q I1 (by simpa using rv) hw
end
def jP (_:FG7):Sp:=sp1 fun x H Q=>∃ a,x = .ref a /\ Pot H a /\ ∀ n H',-(10 ^ 29) <= n -> n <= 10 ^ 29 -> Grow [a] H H' -> Pot H' a -> Q (.int n) H'
def ZF (K:FG7):Sp:=sp1 fun x H Q=>∃ a,x = .ref a /\ Pot H a /\ ∀ d y H',d.Ok -> Grow [a] H H' -> Pot H' a -> qc K H' y d -> Q y H'
def XU (K:FG7):Sp:=sp4 fun x y z u H Q=>∃ (p l:Addr) (k many:Nat) (sm:List Int),x = .ref p /\ y = .int k /\ z = .int many /\ u = .ref l /\ Pot H p /\ k <= 4 /\ 1 <= many /\ many <= 16 /\ H l = some (.lst (sm.map V.int)) /\ p ≠ l /\ 1 <= sm.length /\ sm.length <= 1000 /\ (∀ b ∈ sm,0 <= b /\ b < many) ∧
 ∀ a y H',WB many a -> a.hand < (2 ^ k:Nat) -> Grow [p] H H' -> Pot H' p -> xA K H' y a -> Q y H'
def ZG (K:FG7):Sp:=sp2 fun x y H Q=>∃ (p:Addr) (k:Nat),x = .ref p /\ y = .int k /\ Pot H p /\ k <= 4 /\ ∀ gone z H',(∀ q ∈ gone,vK k q) -> Grow [p] H H' -> Pot H' p -> wz K H' z gone -> Q z H'
def Sc (K:FG7) (H:Hp) (x:V) (qs:List (Nat × Nat)):Prop:=∃ r ys,x = .ref r /\ H r = some (.lst ys) /\ AllR (sY K H) ys qs
theorem Yq {X:Cx} {K:FG7} {k:Nat} (hK:X.K = K) (hr:Room k X.A):OpR X (compareOp .Eq) (fun x y H Q=>∃ a b xs,x = .ref a /\ y = .ref b /\ SqT K H a xs /\ SqT K H b [] /\ Q (.bl xs.isEmpty) H):=by
 subst hK
 intro pins s σ H x y v u Q I rx ry h
 obtain ⟨a,b,xs,rfl,rfl,ha,hb,q⟩:=h
 cases rx; cases ry
 obtain ⟨us,r1,t1,_⟩:=I.tuple ha
 obtain ⟨ws,r2,t2,_⟩:=I.tuple hb
 have hw:ws.length = 0:=r2.length.symm
 refine SeqAt.eq_tupleAt (e:=fun _=>true) (yG t1) (yG t2) hr.units0 (fun j h1 h2=>absurd h2 (by simp; omega)) ?_
 have e:((List.range (min us.toArray.size ws.toArray.size)).all (fun _=>true) && us.toArray.size == ws.toArray.size) = xs.isEmpty:=by
  rw [List.size_toArray,List.size_toArray,hw,← r1.length]
  cases xs with
  | nil=>rfl
  | cons a r=>simp
 rw [e]
 exact ⟨.bl _,H,I,rfl,q⟩
structure FunD (K:FG7) (x qual:Str) (st:Stmt) (f:Addr) (fd:FuncData):Prop where
 ex:∃ (oc:Value) (od:Option Addr) (dV kV doc pm:Value) (an:Option Addr) (cdv ct:Value) (osl:Array (Option Value)),
  fd = PySem.W.fnOf x qual (zS st) (zN st) (zf st) dV kV doc pm an cdv ct /\ K.lookup f = some ⟨oc,od,.func fd,osl⟩ /\ PySem.W.codeIn K cdv qual = true
 kp:PySem.W.keepIn K (.ref f) = true
def W4 (P:Program) (w:World) (K:FG7) (mg:Str -> Option Value) (base:Heap) (C:Addr) (k:Nat) (m:Str) (ps:List Str) (ds:List Value) (sp:Sp):Prop :=
 ∃ (f:Addr) (fd:FuncData),FnOk P w K mg base CX0 k f fd ps sp /\ xY K fd ps ds /\ Meth K C m f
section
variable {P:Program} {w:World} {K:FG7} {mg:Str -> Option Value} {base:Heap}
theorem FunD.ok {x qual:Str} {st:Stmt} {f:Addr} {fd:FuncData} {N ps:List Str} {k:Nat} {sp:Sp} (F:FunD K x qual st f fd) (S:FnScope N ps (zf st)) (len:∀ vs H Q E,sp vs H Q E -> vs.length = ps.length)
  (hbody:∀ (cdv:Value) (A:Around) (outer:List Env) (s:Shared) (H:Hp) (vs:List V) (Q:VK) (E:XK),Room k (A.deeper (envOfC qual (zf st) s.heap.objs.size f cdv)) -> sp vs H Q E →
   ∃ t,PSs (cxOf CX0 P w K mg base N qual (zf st) f cdv A outer s H E).nox (zN st) t /\ t { nx:=fun _ H'=>Q .non H',rt:=Q } (sD N vs) H):FnOk P w K mg base CX0 (k + 1) f fd ps sp:=by
 obtain ⟨oc,od,dV,kV,doc,pm,an,cdv,ct,osl,rfl,lk,hcd⟩:=F.ex
 refine UG lk hcd S len fun A outer s H vs Q E hr hsp=>?_
 obtain ⟨t,h,q⟩:=hbody cdv A outer s H vs Q E hr hsp
 exact ⟨t,h.nox,q⟩
theorem Um {x qual:Str} {st:Stmt} {f:Addr} {oc:Value} {od an:Option Addr} {osl:Array (Option Value)} {dV kV doc pm cdv ct:Value} (l:K.lookup f = some ⟨oc,od,.func (PySem.W.fnOf x qual (zS st) (zN st) (zf st) dV kV doc pm an cdv ct),osl⟩)
  (c:PySem.W.codeIn K cdv qual = true) (k:PySem.W.keepIn K (.ref f) = true):FunD K x qual st f (PySem.W.fnOf x qual (zS st) (zN st) (zf st) dV kV doc pm an cdv ct):=⟨⟨oc,od,dV,kV,doc,pm,an,cdv,ct,osl,rfl,l,c⟩,k⟩
theorem ss {fd:FuncData} {ps:List Str} {T:Addr} {o:Obj} {items:Array Value} {n:Nat} {ds:List Value} (hd:fd.defaults = .ref T) (hT:K.lookup T = some o) (hs:o.data = .seq items n)
  (h:∀ us:List Value,(us ++ ds).length = ps.length -> ∃ k,bindArgs fd ⟨us,[]⟩ = seqItems? fd.defaults >>= k /\ k (some items) = pure (ps.zip (us ++ ds))):xY K fd ps ds:=fun s us X hl=>by
 obtain ⟨k,h1,h2⟩:=h us hl
 exact BindsTo.of_defaults hd (X _ _ hT) hs h1 h2
end
theorem XV {xs:List V} {lo hi:Option Int} {v:V} (h:v ∈ cutV xs lo hi):v ∈ xs:=by
 unfold cutV at h
 first
 | exact List.mem_of_mem_take (List.mem_of_mem_drop h)
 | exact List.mem_of_mem_drop (List.mem_of_mem_take h)
theorem qO {β:Type} {R:V -> β -> Prop} {x:V} {y:β} (h:R x y):∀ {n:Nat},AllR R (List.replicate n x) (List.replicate n y)
 | 0=>trivial
 | _ + 1=>⟨h,qO h⟩
def adL (ns:NS):List Ad:=[.p,.lb,.la,.dl,.dk,.dd,.lg,.df,.da] ++ ((List.range (ns.k + 1)).flatMap fun l=>(List.range (2 ^ ns.k)).map fun j=>Ad.ln l j) ++ (List.range ns.nd).map fun t=>Ad.dn (t + 1)
theorem rA {ns:NS} {a:Ad}:a ∈ adL ns ↔ okA ns a:=by
 unfold adL
 rw [List.mem_append,List.mem_append,List.mem_flatMap,List.mem_map]
 constructor
 ·rintro ((h | ⟨l,hl,h⟩) | ⟨t,ht,rfl⟩)
  ·simp only [List.mem_cons,List.not_mem_nil,or_false] at h
   rcases h with rfl | rfl | rfl | rfl | rfl | rfl | rfl | rfl | rfl <;> trivial
  ·obtain ⟨j,hj,rfl⟩:=List.mem_map.mp h
   exact ⟨Nat.le_of_lt_succ (List.mem_range.mp hl),List.mem_range.mp hj⟩
  ·exact ⟨Nat.succ_le_succ (Nat.zero_le _),List.mem_range.mp ht⟩
 ·intro h
  cases a with
  | ln l j=>exact .inl (.inr ⟨l,List.mem_range.mpr (Nat.lt_succ_of_le h.1),List.mem_map.mpr ⟨j,List.mem_range.mpr h.2,rfl⟩⟩)
  | dn t=>exact .inr ⟨t - 1,List.mem_range.mpr (by have h1:1 <= t:=h.1; have h2:t <= ns.nd:=h.2; omega),by have h1:1 <= t:=h.1; rw [Nat.sub_add_cancel h1]⟩
  | _=>exact .inl (.inl (by simp))
structure LI5 (K:FG7) (C p l:Addr) (H:Hp) (A:Ad -> Addr) (ns:NS) (k many:Nat) (sm:List Int):Prop where
 net:NetAt K C H A ns
 nw:NW ns
 pot:Pot H p
 ls:H l = some (.lst (sm.map V.int))
 pl:p ≠ l
 ap:∀ a,okA ns a -> A a ≠ p /\ A a ≠ l
 ek:ns.k = k
 bl:ns.boxes.length = many
section
variable {K:FG7} {C p l:Addr} {H H':Hp} {A A':Ad -> Addr} {ns:NS} {k many:Nat} {sm:List Int}
def msA (A:Ad -> Addr) (ns:NS):List Addr:=(adL ns).map A
theorem XW {a:Ad} (h:okA ns a):A a ∈ msA A ns:=List.mem_map.mpr ⟨a,rA.mpr h,rfl⟩
theorem LI5.npm (h:LI5 K C p l H A ns k many sm):p ∉ msA A ns /\ l ∉ msA A ns:=by
 refine ⟨fun z=>?_,fun z=>?_⟩ <;> obtain ⟨a,ha,e⟩:=List.mem_map.mp z
 ·exact (h.ap a (rA.mp ha)).1 e
 ·exact (h.ap a (rA.mp ha)).2 e
theorem LI5.potS (h:LI5 K C p l H A ns k many sm) (g:Grow [p] H H') (pp:Pot H' p):LI5 K C p l H' A ns k many sm :=
 ⟨h.net.grow g fun a ha=>by simpa using (h.ap a ha).1,h.nw,pp,g.keep _ _ (by simpa using h.pl.symm) h.ls,h.pl,h.ap,h.ek,h.bl⟩
theorem LI5.grow0 (h:LI5 K C p l H A ns k many sm) (g:Grow [] H H'):LI5 K C p l H' A ns k many sm :=
 ⟨h.net.grow0 g,h.nw,h.pot.grow g,g.keep _ _ (by simp) h.ls,h.pl,h.ap,h.ek,h.bl⟩
theorem LI5.putS (h:LI5 K C p l H A ns k many sm) {a:Ask} (g:Grow (msA A ns) H H') (hn:NetAt K C H' A (putS ns a)) (hh:a.hand.toNat < 2 ^ k) (hb:a.box.toNat < many) (h40:ns.asks.length < 40):LI5 K C p l H' A (putS ns a) k many sm:=by
 obtain ⟨n1,n2⟩:=h.npm
 refine ⟨hn,h.nw.put (by rw [h.ek]; exact hh) (by rw [h.bl]; exact hb) h40,?_,g.keep _ _ n2 h.ls,h.pl,fun a ha=>h.ap a (by cases a <;> exact ha),h.ek,h.bl⟩
 obtain ⟨p0,p1,z,z0⟩:=h.pot
 exact ⟨p0,p1,g.keep _ _ n1 z,z0⟩
theorem uI {gone:List (Nat × Nat)} (h:NW ns) (nw:ns.now < 10000):(beatS gone ns).k = ns.k /\ (beatS gone ns).boxes.length = ns.boxes.length /\ (beatS gone ns).asks = ns.asks /\ (beatS gone ns).now = ns.now + 1 /\ (beatS gone ns).nd = ns.nd + 1:=by
 have G:=XT h nw gone
 exact ⟨G.k,G.bl,G.asks,G.now,by show (xu gone ns).nd = _; rw [G.nd,h.nd]⟩
theorem LI5.beatS (h:LI5 K C p l H A ns k many sm) {gone:List (Nat × Nat)} (nw:ns.now < 10000) (g:Grow (msA A ns) H H') (ex:Ext5 H A A' ns) (hn:NetAt K C H' A' (L3.beatS gone ns)):LI5 K C p l H' A' (L3.beatS gone ns) k many sm:=by
 obtain ⟨n1,n2⟩:=h.npm
 obtain ⟨s1,s2,s3,s4,s5⟩:=uI (gone:=gone) h.nw nw
 refine ⟨hn,(h.nw.beat nw gone).2,?_,g.keep _ _ n2 h.ls,h.pl,fun a ha=>?_,s1.trans h.ek,s2.trans h.bl⟩
 ·obtain ⟨p0,p1,z,z0⟩:=h.pot
  exact ⟨p0,p1,g.keep _ _ n1 z,z0⟩
 ·by_cases c:a = .dn (ns.nd + 1)
  ·rw [c]
   refine ⟨fun e=>?_,fun e=>?_⟩
   ·obtain ⟨p0,p1,z,_⟩:=h.pot
    have:=ex.2
    rw [e,z] at this; cases this
   ·have:=ex.2
    rw [e,h.ls] at this; cases this
  ·have ho:okA ns a:=by
    cases a with
    | ln x y=>exact ⟨by rw [← s1]; exact ha.1,by rw [← s1]; exact ha.2⟩
    | dn t =>
     have h2:t <= (L3.beatS gone ns).nd:=ha.2
     rw [s5] at h2
     have:t ≠ ns.nd + 1:=fun e=>c (by rw [e])
     exact ⟨ha.1,by omega⟩
    | _=>trivial
   rw [ex.1 a ho]; exact h.ap a ho
end
section
variable {ns n':NS} {s l:Nat}
theorem HandC.allP (h:HandC ns s l n') {P:Nat -> Nat -> Wt -> Prop} (k4:ns.k <= 4) (s1:1 <= s) (sk:s <= ns.k) (hl:l < 2 ^ ns.k) (hp:∀ a b,a <= ns.k -> b < 2 ^ ns.k -> ∀ w ∈ ns.lines a b,P a b w)
  (hm:∀ c,P (s - 1) l c -> P s (outR ns.k s l c.box) c) (hj:∀ o w c,P s o w -> P s o c -> w.box = c.box -> P s o (xK (s,nN ns.k s l) w c)):∀ a b,a <= ns.k -> b < 2 ^ ns.k -> ∀ w ∈ n'.lines a b,P a b w:=by
 have h1:s - 1 <= ns.k:=by omega
 cases h with
 | stay=>exact hp
 | add c r hc hr =>
  intro a b ha hb w hw
  have hw:w ∈ updL (updL ns.lines (s - 1) l r) s (outR ns.k s l c.box) (ns.lines s (outR ns.k s l c.box) ++ [c]) a b:=hw
  by_cases e:a = s /\ b = outR ns.k s l c.box
  ·rw [e.1,e.2,zw] at hw
   rw [e.1,e.2]
   rcases List.mem_append.mp hw with z | z
   ·exact hp s _ sk (wb k4 s1 sk hl) w z
   ·rw [List.mem_singleton.mp z]; exact hm c (hp (s - 1) l h1 hl c (by rw [hc]; exact List.mem_cons_self ..))
  ·rw [zB e] at hw
   by_cases e2:a = s - 1 /\ b = l
   ·rw [e2.1,e2.2,zw] at hw
    rw [e2.1,e2.2]
    exact hp (s - 1) l h1 hl w (by rw [hc]; exact List.mem_cons_of_mem _ hw)
   ·rw [zB e2] at hw; exact hp a b ha hb w hw
 | join c r i hc hi hb' hk =>
  intro a b ha hb w hw
  have hw:w ∈ updL (updL ns.lines (s - 1) l r) s (outR ns.k s l c.box) ((ns.lines s (outR ns.k s l c.box)).set i (xK (s,nN ns.k s l) ((ns.lines s (outR ns.k s l c.box)).getD i default) c)) a b:=hw
  have o:=wb (b:=c.box) k4 s1 sk hl
  have pc:P s (outR ns.k s l c.box) c:=hm c (hp (s - 1) l h1 hl c (by rw [hc]; exact List.mem_cons_self ..))
  by_cases e:a = s /\ b = outR ns.k s l c.box
  ·rw [e.1,e.2,zw] at hw
   rw [e.1,e.2]
   rcases List.mem_or_eq_of_mem_set hw with z | z
   ·exact hp s _ sk o w z
   ·rw [z]
    refine hj _ _ _ (hp s _ sk o _ ?_) pc hb'
    rw [List.getD_eq_getElem?_getD,List.getElem?_eq_getElem hi]; exact List.getElem_mem hi
  ·rw [zB e] at hw
   by_cases e2:a = s - 1 /\ b = l
   ·rw [e2.1,e2.2,zw] at hw
    rw [e2.1,e2.2]
    exact hp (s - 1) l h1 hl w (by rw [hc]; exact List.mem_cons_of_mem _ hw)
   ·rw [zB e2] at hw; exact hp a b ha hb w hw
theorem HandC.len (h:HandC ns s l n') (s1:1 <= s) (hr:∀ a b,1 <= a -> (ns.lines a b).length <= ns.room):∀ a b,1 <= a -> (n'.lines a b).length <= ns.room:=by
 cases h with
 | stay=>exact hr
 | add c r hc hl =>
  intro a b ha
  show (updL _ s _ _ a b:List Wt).length <= _
  by_cases e:a = s /\ b = outR ns.k s l c.box
  ·rw [e.1,e.2,zw,List.length_append]; exact hl
  ·rw [zB e]
   by_cases e2:a = s - 1 /\ b = l
   ·rw [e2.1,e2.2,zw]
    have:=hr (s - 1) l (by omega)
    rw [hc] at this
    exact Nat.le_of_succ_le this
   ·rw [zB e2]; exact hr a b ha
 | join c r i hc hi hb hk =>
  intro a b ha
  show (updL _ s _ _ a b:List Wt).length <= _
  by_cases e:a = s /\ b = outR ns.k s l c.box
  ·rw [e.1,e.2,zw,List.length_set]; exact hr s _ s1
  ·rw [zB e]
   by_cases e2:a = s - 1 /\ b = l
   ·rw [e2.1,e2.2,zw]
    have:=hr (s - 1) l (by omega)
    rw [hc] at this
    exact Nat.le_of_succ_le this
   ·rw [zB e2]; exact hr a b ha
theorem HandC.kl (h:HandC ns s l n') (hk:∀ a b,ns.keep a b <= ns.kept):∀ a b,n'.keep a b <= ns.kept:=by
 cases h with
 | stay=>exact hk
 | add c r hc hl=>exact hk
 | join c r i hc hi hb hlt =>
  intro a b
  show updL ns.keep s (nN ns.k s l) (ns.keep s (nN ns.k s l) + 1) a b <= _
  by_cases e:a = s /\ b = nN ns.k s l
  ·rw [e.1,e.2,zw]; omega
  ·rw [zB e]; exact hk a b
def Low0 (f:Nat -> Nat -> List Wt):Prop:=∀ j,(∀ w ∈ f 0 j,w.nums.length = 1) /\ (f 0 j).Pairwise fun v w=>v.nums.headD 0 < w.nums.headD 0
theorem HandC.low (h:HandC ns s l n') (s1:1 <= s) (hl:Low0 ns.lines):Low0 n'.lines:=by
 have key:∀ c r (v:List Wt) o,ns.lines (s - 1) l = c :: r -> Low0 (updL (updL ns.lines (s - 1) l r) s o v):=fun c r v o hc j=>by
  rw [zB (fun z=>by have:=z.1; omega)]
  by_cases e:0 = s - 1 /\ j = l
  ·obtain ⟨h1,h2⟩:=hl l
   rw [e.1] at h1 h2
   rw [hc] at h1 h2
   rw [e.1,e.2,zw]
   exact ⟨fun w hw=>h1 w (List.mem_cons_of_mem _ hw),(List.pairwise_cons.mp h2).2⟩
  ·rw [zB e]; exact hl j
 cases h with
 | stay=>exact hl
 | add c r hc hr=>exact key c r _ _ hc
 | join c r i hc hi hb hk=>exact key c r _ _ hc
end
structure Ent (k:Nat) (asks:List Ask) (l j:Nat) (w:Wt):Prop where
 ok:w.deed.Ok
 dd:∀ v,w.deed.mk' v = w.nums.foldl (fun v n=>(asks.getD n default).deed.mk' v) v
 bx:∀ n ∈ w.nums,(asks.getD n default).box = w.box
 hd:∀ n ∈ w.nums,(asks.getD n default).hand.toNat % 2 ^ (k - l) = j % 2 ^ (k - l)
 sd:j / 2 ^ (k - l) = w.box % 2 ^ k / 2 ^ (k - l)
theorem Uo {k s l b:Nat} (k4:k <= 4) (s1:1 <= s) (sk:s <= k) (hl:l < 2 ^ k):outR k s l b % 2 ^ (k - s) = l % 2 ^ (k - s) /\ (l / 2 ^ (k - (s - 1)) = b % 2 ^ k / 2 ^ (k - (s - 1)) -> outR k s l b / 2 ^ (k - s) = b % 2 ^ k / 2 ^ (k - s)):=by
 have key:∀ k:Fin 5,∀ s:Fin 5,1 <= s.val -> s.val <= k.val -> ∀ l:Fin 16,l.val < 2 ^ k.val -> ∀ b:Fin 16,b.val < 2 ^ k.val -> outR k.val s.val l.val b.val % 2 ^ (k.val - s.val) = l.val % 2 ^ (k.val - s.val) /\ (l.val / 2 ^ (k.val - (s.val - 1)) = b.val / 2 ^ (k.val - (s.val - 1)) -> outR k.val s.val l.val b.val / 2 ^ (k.val - s.val) = b.val / 2 ^ (k.val - s.val)):=by decide +kernel
 have p16:=vo k4
 have hb:b % 2 ^ k < 2 ^ k:=Nat.mod_lt _ (Nat.two_pow_pos k)
 have e:outR k s l (b % 2 ^ k) = outR k s l b:=by unfold outR; rw [Nat.mod_mod]
 have:=key ⟨k,by omega⟩ ⟨s,by omega⟩ s1 sk ⟨l,by omega⟩ hl ⟨b % 2 ^ k,by omega⟩ hb
 rw [e] at this
 exact this
theorem W5 {a b x y:Nat} (h:x % 2 ^ (a + b) = y % 2 ^ (a + b)):x % 2 ^ a = y % 2 ^ a:=by
 have e:∀ z,z % 2 ^ (a + b) % 2 ^ a = z % 2 ^ a:=fun z=>Nat.mod_mod_of_dvd _ ⟨2 ^ b,by rw [Nat.pow_add]⟩
 rw [← e x,← e y,h]
theorem Ent.up {k:Nat} {asks:List Ask} {s l:Nat} {w:Wt} (k4:k <= 4) (s1:1 <= s) (sk:s <= k) (hl:l < 2 ^ k) (h:Ent k asks (s - 1) l w):Ent k asks s (outR k s l w.box) w:=by
 obtain ⟨m1,m2⟩:=Uo (b:=w.box) k4 s1 sk hl
 refine ⟨h.ok,h.dd,h.bx,fun n hn=>?_,m2 h.sd⟩
 rw [m1]
 have:=h.hd n hn
 rw [show k - (s - 1) = (k - s) + 1 by omega] at this
 exact W5 this
theorem Ent.join {k:Nat} {asks:List Ask} {l j:Nat} {w c:Wt} {sw:Nat × Nat} (hw:Ent k asks l j w) (hc:Ent k asks l j c) (e:w.box = c.box):Ent k asks l j (xK sw w c):=by
 refine ⟨Wu hw.ok hc.ok,fun v=>?_,fun n hn=>?_,fun n hn=>?_,hw.sd⟩
 ·show (sK w.deed c.deed).mk' v = (w.nums ++ c.nums).foldl _ v
  rw [Wv hw.ok hc.ok,List.foldl_append,← hw.dd,← hc.dd]
 ·rcases List.mem_append.mp hn with hn | hn
  ·exact hw.bx n hn
  ·rw [hc.bx n hn]; show (c.box:Int) = w.box; rw [e]
 ·rcases List.mem_append.mp hn with hn | hn
  ·exact hw.hd n hn
  ·exact hc.hd n hn
structure NX (ns:NS):Prop where
 nw:NW ns
 en:∀ l j,l <= ns.k -> j < 2 ^ ns.k -> ∀ w ∈ ns.lines l j,Ent ns.k ns.asks l j w
 rm:∀ a b,1 <= a -> (ns.lines a b).length <= ns.room
 kl:∀ a b,ns.keep a b <= ns.kept
 lo:Low0 ns.lines
theorem NX.new {k room kept:Nat} {b:List Int} (k4:k <= 4) (b16:b.length <= 16) (r1:1 <= room):NX (newS k b room kept) :=
 ⟨NW.new k4 b16 r1,fun _ _ _ _ w hw=>(by cases hw),fun _ _ _=>Nat.zero_le _,fun _ _=>Int.natCast_nonneg _,fun _=>⟨fun w hw=>(by cases hw),.nil⟩⟩
theorem rB {as:List Ask} {a:Ask} {n:Nat} (h:n < as.length):(as ++ [a]).getD n default = as.getD n default:=by
 rw [List.getD_eq_getElem?_getD,List.getD_eq_getElem?_getD,List.getElem?_append_left h]
theorem rC {as:List Ask} {a:Ask}:(as ++ [a]).getD as.length default = a:=by
 rw [List.getD_eq_getElem?_getD,List.getElem?_append_right (Nat.le_refl _),Nat.sub_self]; rfl
theorem uJ {α β:Type} {f g:β -> α -> β}:∀ {l:List α} {b:β},(∀ a ∈ l,∀ b,f b a = g b a) -> l.foldl f b = l.foldl g b
 | [],_,_=>rfl
 | a :: l,b,h=>by
  show l.foldl f (f b a) = l.foldl g (g b a)
  rw [h a (List.mem_cons_self ..)]
  exact uJ fun x hx=>h x (List.mem_cons_of_mem _ hx)
theorem Ent.more {k l j:Nat} {asks:List Ask} {a:Ask} {w:Wt} (h:Ent k asks l j w) (hn:∀ n ∈ w.nums,n < asks.length):Ent k (asks ++ [a]) l j w :=
 ⟨h.ok,fun v=>by rw [h.dd]; exact uJ fun n hm b=>by rw [rB (hn n hm)],fun n hm=>by rw [rB (hn n hm)]; exact h.bx n hm,fun n hm=>by rw [rB (hn n hm)]; exact h.hd n hm,h.sd⟩
theorem NX.put {ns:NS} (h:NX ns) {a:Ask} (ok:a.deed.Ok) (hb0:0 <= a.box) (hh:a.hand.toNat < 2 ^ ns.k) (hb:a.box.toNat < ns.boxes.length) (h40:ns.asks.length < 40):NX (putS ns a):=by
 have nr:=h.nw.nr
 refine ⟨h.nw.put hh hb h40,fun l j hl hj w hw=>?_,fun x y hx=>?_,h.kl,fun j=>?_⟩
 ·have hw:w ∈ updL ns.lines 0 a.hand.toNat (ns.lines 0 a.hand.toNat ++ [⟨a.box.toNat,a.deed,[ns.asks.length],[]⟩]) l j:=hw
  show Ent ns.k (ns.asks ++ [a]) l j w
  by_cases c:l = 0 /\ j = a.hand.toNat
  ·rw [c.1,c.2,zw,List.mem_append] at hw
   rw [c.1,c.2]
   rcases hw with hw | hw
   ·exact (h.en 0 _ (Nat.zero_le _) hh w hw).more (nr.lw 0 _ (Nat.zero_le _) hh w hw).nm
   ·rw [List.mem_singleton.mp hw]
    refine ⟨ok,fun v=>?_,fun n hn=>?_,fun n hn=>?_,?_⟩
    ·show a.deed.mk' v = ((ns.asks ++ [a]).getD ns.asks.length default).deed.mk' v
     rw [rC]
    ·rw [List.mem_singleton.mp hn,rC]; show a.box = ((a.box.toNat:Nat):Int); omega
    ·rw [List.mem_singleton.mp hn,rC]
    ·show a.hand.toNat / 2 ^ ns.k = a.box.toNat % 2 ^ ns.k / 2 ^ ns.k
     rw [Nat.div_eq_of_lt hh,Nat.div_eq_of_lt (Nat.mod_lt _ (Nat.two_pow_pos _))]
  ·rw [zB c] at hw
   exact (h.en l j hl hj w hw).more (nr.lw l j hl hj w hw).nm
 ·show (updL ns.lines 0 _ _ x y:List Wt).length <= _
  rw [zB (fun z=>by have:=z.1; omega)]; exact h.rm x y hx
 ·show (∀ w ∈ updL ns.lines 0 a.hand.toNat (ns.lines 0 a.hand.toNat ++ [⟨a.box.toNat,a.deed,[ns.asks.length],[]⟩]) 0 j,_) /\ (updL ns.lines 0 a.hand.toNat (ns.lines 0 a.hand.toNat ++ [⟨a.box.toNat,a.deed,[ns.asks.length],[]⟩]) 0 j).Pairwise _
  by_cases c:0 = 0 /\ j = a.hand.toNat
  ·rw [c.2,zw]
   obtain ⟨h1,h2⟩:=h.lo a.hand.toNat
   refine ⟨fun w hw=>?_,List.pairwise_append.mpr ⟨h2,List.pairwise_singleton _ _,fun v hv w hw=>?_⟩⟩
   ·rcases List.mem_append.mp hw with hw | hw
    ·exact h1 w hw
    ·rw [List.mem_singleton.mp hw]; rfl
   ·rw [List.mem_singleton.mp hw]
    show v.nums.headD 0 < ns.asks.length
    have W:=nr.lw 0 _ (Nat.zero_le _) hh v hv
    cases e:v.nums with
    | nil=>exact absurd e W.ne
    | cons x r=>exact W.nm x (by rw [e]; exact List.mem_cons_self ..)
  ·rw [zB c]; exact h.lo j
theorem ZH {gone:List (Nat × Nat)} {ns:NS} {l j:Nat}:∀ {i},((zP gone ns i).2 l j).Sublist (ns.lines l j)
 | 0=>List.Sublist.refl _
 | i + 1=>by
  have ih:=ZH (gone:=gone) (ns:=ns) (l:=l) (j:=j) (i:=i)
  rw [vB]
  cases hc:(zP gone ns i).2 ns.k i with
  | nil=>rw [uD hc]; exact ih
  | cons w r =>
   by_cases hg:(0,i) ∈ gone
   ·rw [vC hg]; exact ih
   ·rw [rk hc hg]
    show (updL (zP gone ns i).2 ns.k i r l j).Sublist _
    by_cases e:l = ns.k /\ j = i
    ·rw [e.1,e.2,zw]
     rw [e.1,e.2,hc] at ih
     exact (List.sublist_cons_self w r).trans ih
    ·rw [zB e]; exact ih
structure PassX (n0 n:NS):Prop where
 same:Same5 n n0
 en:∀ l j,l <= n0.k -> j < 2 ^ n0.k -> ∀ w ∈ n.lines l j,Ent n0.k n0.asks l j w
 rm:∀ a b,1 <= a -> (n.lines a b).length <= n0.room
 kl:∀ a b,n.keep a b <= n0.kept
 lo:Low0 n.lines
theorem Sd {n0:NS} {gone:List (Nat × Nat)} (k4:n0.k <= 4) (h:PassX n0 n0) {i:Nat} (hi:i <= n0.k):PassX n0 (passA gone n0 i):=by
 refine uF (P:=fun n=>PassX n0 n) (fun n h=>by rw [h.same.k]; exact k4) (fun n s l h s1 sk hl=>?_) h hi
 have C:=WS n s l
 have ek:=h.same.k
 have k4':n.k <= 4:=by rw [ek]; exact k4
 refine ⟨C.same.trans h.same,?_,?_,?_,C.low s1 h.lo⟩
 ·have:=C.allP (P:=fun a b w=>Ent n0.k n0.asks a b w) k4' s1 sk hl (by rw [ek]; exact h.en) (fun c hc=>by rw [ek] at sk hl ⊢; exact hc.up k4 s1 sk hl) fun o w c hw hc e=>hw.join hc e
  rw [ek] at this; exact this
 ·have:=C.len s1 (by rw [h.same.room]; exact h.rm)
  rw [h.same.room] at this; exact this
 ·have:=C.kl (by rw [h.same.kept]; exact h.kl)
  rw [h.same.kept] at this; exact this
theorem NX.beat {ns:NS} (h:NX ns) (nw:ns.now < 10000) (gone:List (Nat × Nat)):NX (beatS gone ns):=by
 have B:=(h.nw.beat nw gone).2
 have G:=XT h.nw nw gone
 have D:=W1 gone (zq (zI ns))
 have ek:(yB gone (zq (zI ns))).k = ns.k:=D.k
 have ea:(yB gone (zq (zI ns))).asks = ns.asks:=D.asks
 have er:(yB gone (zq (zI ns))).room = ns.room:=D.room
 have eq:(yB gone (zq (zI ns))).kept = ns.kept:=D.kept
 have sub:∀ l j,((yB gone (zq (zI ns))).lines l j).Sublist (ns.lines l j):=fun l j=>by rw [D.lines]; exact ZH (ns:=zq (zI ns))
 have X:=Sd (n0:=yB gone (zq (zI ns))) (gone:=gone) (by rw [ek]; exact h.nw.nr.k4) (i:=ns.k) ⟨Same5.refl _,fun l j hl hj w hw=>by
  rw [ek] at hl hj ⊢
  rw [ea]
  exact h.en l j hl hj w ((sub l j).mem hw),fun a b ha=>by
  rw [er]; exact Nat.le_trans (sub a b).length_le (h.rm a b ha),fun a b=>by
  rw [eq,D.keep]
  have e:(zq (zI ns)).keep a b = ns.keep a b - if 1 <= a /\ a <= ns.k then (lsum (gq (a,b)) (agoS (zI ns) (ns.k - a + 1)):Int) else 0:=XR (ns:=zI ns) (i:=ns.k)
  have:=h.kl a b
  rw [e]
  split <;> omega,fun j=>by
  obtain ⟨h1,h2⟩:=h.lo j
  exact ⟨fun w hw=>h1 w ((sub 0 j).mem hw),h2.sublist (sub 0 j)⟩⟩ (by rw [ek]; exact Nat.le_refl _)
 have eg:xu gone ns = passA gone (yB gone (zq (zI ns))) ns.k:=rfl
 rw [← eg] at X
 refine ⟨B,?_,?_,?_,X.lo⟩
 ·show ∀ l j,l <= (xu gone ns).k -> j < 2 ^ (xu gone ns).k -> ∀ w ∈ (xu gone ns).lines l j,Ent (xu gone ns).k (xu gone ns).asks l j w
  have:=X.en
  rw [ek,ea] at this
  rw [G.k,G.asks]; exact this
 ·show ∀ a b,1 <= a -> ((xu gone ns).lines a b).length <= (xu gone ns).room
  rw [G.room,← er]; exact X.rm
 ·show ∀ a b,(xu gone ns).keep a b <= (xu gone ns).kept
  rw [G.kept,← eq]; exact X.kl
theorem ZI {g h:Wt -> Nat}:∀ {ws:List Wt},lsum (fun w=>g w + h w) ws = lsum g ws + lsum h ws
 | []=>rfl
 | w :: ws=>by rw [zH,zH,zH,ZI]; omega
theorem Up {k:Nat} {f:Nat -> Nat -> List Wt} {g h:Wt -> Nat}:wsN k f (fun w=>g w + h w) = wsN k f g + wsN k f h:=by
 unfold wsN
 rw [← sU]
 refine y9 fun l _=>?_
 rw [← sU]
 exact y9 fun j _=>ZI
theorem XX {g h:Wt -> Nat}:∀ {ws:List Wt},(∀ w ∈ ws,g w <= h w) -> lsum g ws <= lsum h ws
 | [],_=>Nat.le_refl _
 | w :: ws,e=>by
  rw [zH,zH]
  exact Nat.add_le_add (e w (List.mem_cons_self ..)) (XX fun v hv=>e v (List.mem_cons_of_mem _ hv))
theorem uK:∀ {n:Nat} {F G:Nat -> Nat},(∀ i < n,F i <= G i) -> sumR n F <= sumR n G
 | 0,_,_,_=>Nat.le_refl _
 | n + 1,F,G,h=>by rw [zQ,zQ]; exact Nat.add_le_add (uK fun i hi=>h i (by omega)) (h n (by omega))
theorem To {k:Nat} {f:Nat -> Nat -> List Wt} {g h:Wt -> Nat} (e:∀ l j,l <= k -> j < 2 ^ k -> ∀ w ∈ f l j,g w <= h w):wsN k f g <= wsN k f h :=
 uK fun l hl=>uK fun j hj=>XX (e l j (by omega) hj)
def sumQ (P:List (Nat × Nat)) (F:Nat × Nat -> Nat):Nat:=(P.map F).sum
theorem W6 {k:Nat} {f:Nat -> Nat -> List Wt}:wsN k f (fun _=>0) = 0:=xB fun _ _=>xB fun j _=>by
 generalize f _ j = ws
 induction ws with
 | nil=>rfl
 | cons w ws ih=>rw [zH,ih]
theorem ZJ {k:Nat} {f:Nat -> Nat -> List Wt}:∀ {P:List (Nat × Nat)},sumQ P (fun q=>wsN k f (gq q)) = wsN k f fun w=>sumQ P fun q=>gq q w
 | []=>W6.symm
 | q :: P=>by
  show wsN k f (gq q) + sumQ P (fun q=>wsN k f (gq q)) = wsN k f fun w=>gq q w + sumQ P fun q=>gq q w
  rw [ZJ,Up]
theorem W7 {P:List (Nat × Nat)} {m:Nat × Nat} (h:m ∈ P):1 <= sumQ P fun q=>if m = q then 1 else 0:=by
 induction P with
 | nil=>cases h
 | cons a P ih =>
  show 1 <= (if m = a then 1 else 0) + sumQ P fun q=>if m = q then 1 else 0
  by_cases c:m = a
  ·rw [if_pos c]; omega
  ·have:=ih ((List.mem_cons.mp h).resolve_left c)
   omega
theorem ZK {F G:Nat × Nat -> Nat}:∀ {P:List (Nat × Nat)},sumQ P (fun q=>F q + G q) = sumQ P F + sumQ P G
 | []=>rfl
 | q :: P=>by
  show F q + G q + sumQ P (fun q=>F q + G q) = F q + sumQ P F + (G q + sumQ P G)
  rw [ZK]; omega
theorem Vx {P:List (Nat × Nat)}:∀ {ms:List (Nat × Nat)},(∀ m ∈ ms,m ∈ P) -> ms.length <= sumQ P fun q=>ms.count q
 | [],_=>Nat.zero_le _
 | m :: ms,h=>by
  have ih:=Vx (P:=P) (ms:=ms) fun x hx=>h x (List.mem_cons_of_mem _ hx)
  have h1:=W7 (h m (List.mem_cons_self ..))
  have e:(sumQ P fun q=>(m :: ms).count q) = (sumQ P fun q=>ms.count q) + sumQ P fun q=>if m = q then 1 else 0:=by
   rw [← ZK]
   refine congrArg (fun F=>sumQ P F) (funext fun q=>?_)
   rw [List.count_cons]
   by_cases c:m = q
   ·rw [if_pos c,if_pos (by rw [c]; exact beq_self_eq_true _)]
   ·rw [if_neg c,if_neg (fun z=>c (beq_iff_eq.mp z))]
  rw [e]
  show ms.length + 1 <= _
  omega
theorem W8 {ns:NS} (h:NW ns):(wsN ns.k ns.lines (fun w=>nlen w - 1):Int) <= ((prs5 1 (2 ^ (ns.k - 1)) ns.k 0).map fun q=>ns.keep q.1 q.2).sum:=by
 have h1:wsN ns.k ns.lines (fun w=>nlen w - 1) <= sumQ (prs5 1 (2 ^ (ns.k - 1)) ns.k 0) fun q=>wsN ns.k ns.lines (gq q):=by
  rw [ZJ]
  refine To fun l j hl hj w hw=>?_
  have W:=h.nr.lw l j hl hj w hw
  have:=W.ln
  refine Nat.le_trans ?_ (Vx fun m hm=>y8.mpr (.inl ?_))
  ·show w.nums.length - 1 <= w.met.length
   omega
  ·have:=W.mt m hm
   exact ⟨this.1,by omega,this.2.2⟩
 have h2:∀ {P:List (Nat × Nat)},(∀ q ∈ P,(wsN ns.k ns.lines (gq q):Int) <= ns.keep q.1 q.2) -> ((sumQ P fun q=>wsN ns.k ns.lines (gq q):Nat):Int) <= (P.map fun q=>ns.keep q.1 q.2).sum:=by
  intro P
  induction P with
  | nil=>intro _; exact Int.le_refl _
  | cons q P ih =>
   intro hq
   have i1:=ih fun x hx=>hq x (List.mem_cons_of_mem _ hx)
   have i2:=hq q (List.mem_cons_self ..)
   show ((wsN ns.k ns.lines (gq q) + sumQ P (fun q=>wsN ns.k ns.lines (gq q)):Nat):Int) <= ns.keep q.1 q.2 + (P.map fun q=>ns.keep q.1 q.2).sum
   push_cast
   omega
 refine Int.le_trans (Int.ofNat_le.mpr h1) (h2 fun q hq=>?_)
 rcases y8.mp hq with ⟨a1,a2,a3⟩ | ⟨_,a3⟩
 ·rw [h.kp q.1 q.2 a1 (by omega) a3]
  push_cast
  have:(0:Int) <= (winS ns.now (ns.k - q.1 + 1) fun t=>lsum (gq (q.1,q.2)) (ns.done t):Nat):=Int.natCast_nonneg _
  show (wsN ns.k ns.lines (gq (q.1,q.2)):Int) <= _
  omega
 ·exact absurd a3 (Nat.not_lt_zero _)
def uL (K:FG7):Sp:=sp1 fun x H Q=>∃ (r:Addr) (xs:List V) (as:List Ask),x = .ref r /\ H r = some (.lst xs) /\ AllR (xA K H) xs as /\ as.length <= 40 /\ ∀ l (vs:List Int) H',Grow [] H H' -> H' l = some (.lst (vs.map V.int)) -> vs.length <= 1000 -> Q (.ref l) H'
def uM (K:FG7):Sp:=sp2 fun x y H Q=>∃ (d:Deed) (r:Addr) (xs:List V) (as:List Ask),qc K H x d /\ y = .ref r /\ H r = some (.lst xs) /\ AllR (xA K H) xs as /\ as.length <= 40 /\ (∀ v,d.mk' v = as.foldl (fun v a=>a.deed.mk' v) v) /\ ∀ H',Grow [] H H' -> Q (.bl true) H'
def su (K:FG7):Sp:=sp5 fun x y z u w H Q=>∃ (k l j:Nat) (r:Addr) (xs:List V) (as:List Ask) (wt:Wt),x = .int k /\ y = .int l /\ z = .int j /\ W3At K H u wt /\ w = .ref r /\ H r = some (.lst xs) /\ AllR (xA K H) xs as /\ as.length <= 40 /\ Ent k as l j wt /\ (wt.nums ≠ [] /\ (∀ n ∈ wt.nums,n < as.length /\ 0 <= (as.getD n default).hand) /\ wt.nums.length <= 40) /\ (k <= 4 /\ l <= k) /\ ∀ H',Grow [] H H' -> Q (.bl true) H'
def sv (K:FG7):Sp:=sp1 fun x H Q=>∃ (r:Addr) (ys:List V) (ws:List Wt),x = .ref r /\ SqT K H r ys /\ AllR (W3At K H) ys ws /\ ws.length <= 40 /\ (∀ w ∈ ws,w.nums.length = 1) /\ (ws.Pairwise fun v w=>v.nums.headD 0 < w.nums.headD 0) /\ ∀ H',Grow [] H H' -> Q (.bl true) H'
def uN (C:Addr) (K:FG7):Sp:=sp5 fun x y z u w H Q=>∃ (A:Ad -> Addr) (ns:NS) (r:Addr) (xs:List V),x = .ref (A .p) /\ y = .int ns.k /\ z = .int ns.room /\ u = .int ns.kept /\ w = .ref r /\ H r = some (.lst xs) /\ AllR (xA K H) xs ns.asks /\ NetAt K C H A ns /\ NX ns /\ (∀ a ∈ ns.asks,0 <= a.hand) /\ ∀ H',Grow [] H H' -> Q (.bl true) H'
theorem XY {a m i:Nat}:prs5 a m (i + 1) 0 = prs5 a m i 0 ++ (List.range m).map fun y=>(a + i,y):=by
 rw [← si]; unfold prs5; simp
theorem jQ {k:Nat} {f:Nat -> Nat -> List Wt} {g:Wt -> Nat}:wsN k f g = sumQ (prs5 0 (2 ^ k) (k + 1) 0) fun q=>lsum g (f q.1 q.2):=by
 have app:∀ (A B:List (Nat × Nat)) (F:Nat × Nat -> Nat),sumQ (A ++ B) F = sumQ A F + sumQ B F:=fun A B F=>by unfold sumQ; rw [List.map_append,List.sum_append]
 have key:∀ i,sumR i (fun l=>sumR (2 ^ k) fun j=>lsum g (f l j)) = sumQ (prs5 0 (2 ^ k) i 0) fun q=>lsum g (f q.1 q.2):=fun i=>by
  induction i with
  | zero=>rfl
  | succ i ih =>
   rw [zQ,ih,XY,app]
   congr 1
   unfold sumQ sumR
   rw [List.map_map]
   refine congrArg List.sum (List.map_congr_left fun j _=>?_)
   show _ = lsum g (f (0 + i) j)
   rw [Nat.zero_add]
 exact key (k + 1)
def nmQ (ns:NS) (P:List (Nat × Nat)):List Nat:=P.flatMap fun q=>zZ (ns.lines q.1 q.2)
def moQ (ns:NS) (P:List (Nat × Nat)):Nat:=sumQ P fun q=>lsum (fun w=>nlen w - 1) (ns.lines q.1 q.2)
theorem qP {ns:NS} {n:Nat}:∀ {P:List (Nat × Nat)},(nmQ ns P).count n = sumQ P fun q=>lsum (fun w=>w.nums.count n) (ns.lines q.1 q.2)
 | []=>rfl
 | q :: P=>by
  show (zZ (ns.lines q.1 q.2) ++ nmQ ns P).count n = lsum _ (ns.lines q.1 q.2) + sumQ P _
  rw [List.count_append,wH,qP]
theorem Yr {L:List Nat} {N:Nat} (h:∀ n,L.count n = if n < N then 1 else 0) {ms:List Int} (pm:ms.Perm (L.map Int.ofNat)) (pw:ms.Pairwise (· <= ·)):ms.map V.int = (List.range N).map fun i:Nat=>V.int i:=by
 have e:L.Perm (List.range N):=by
  rw [List.perm_iff_count]
  intro n
  rw [h n]
  by_cases c:n < N
  ·rw [if_pos c]
   have h2:=List.count_pos_iff.mpr (List.mem_range.mpr c)
   have h3:(List.range N).count n <= 1:=List.nodup_iff_count.mp List.nodup_range n
   omega
  ·rw [if_neg c]
   exact (List.count_eq_zero.mpr fun z=>c (List.mem_range.mp z)).symm
 have e2:ms = (List.range N).map Int.ofNat:=by
  refine List.Perm.eq_of_pairwise (le:=(· <= ·)) (fun _ _ _ _ h1 h2=>Int.le_antisymm h1 h2) pw ?_ (pm.trans (e.map _))
  exact List.pairwise_map.mpr ((List.pairwise_lt_range (n:=N)).imp fun h=>Int.ofNat_le.mpr (Nat.le_of_lt h))
 rw [e2,List.map_map]; rfl
theorem XZ {ns:NS} (h:NW ns):∀ n,(ns.log ++ nmQ ns (prs5 0 (2 ^ ns.k) (ns.k + 1) 0)).count n = if n < ns.asks.length then 1 else 0:=fun n=>by
 rw [List.count_append,qP,← jQ,Nat.add_comm]; exact h.cnt n
theorem W9 {ns:NS} (h:NW ns):(moQ ns (prs5 0 (2 ^ ns.k) (ns.k + 1) 0):Int) <= ((prs5 1 (2 ^ (ns.k - 1)) ns.k 0).map fun q=>ns.keep q.1 q.2).sum:=by
 unfold moQ
 rw [← jQ]; exact W8 h
theorem X1 {ns:NS} (h:NW ns):(ns.log ++ nmQ ns (prs5 0 (2 ^ ns.k) (ns.k + 1) 0)).length = ns.asks.length:=by
 have len:∀ P:List (Nat × Nat),(nmQ ns P).length = sumQ P fun q=>lsum nlen (ns.lines q.1 q.2):=fun P=>by
  induction P with
  | nil=>rfl
  | cons q P ih =>
   show (zZ (ns.lines q.1 q.2) ++ nmQ ns P).length = lsum nlen _ + sumQ P _
   rw [List.length_append,vb,ih]
 rw [List.length_append,len,← jQ,Nat.add_comm]; exact h.nr.tot
def sx (K:FG7):Sp:=sp3 fun x y z H Q=>∃ (a k m:Nat),x = .int a /\ y = .int k /\ z = .int m /\ a <= 1 /\ k <= 4 /\ m <= 16 /\ ∀ r H',Grow [] H H' -> H r = none -> Sc K H' (.ref r) (prs5 a m (k + 1 - a) 0) -> Q (.ref r) H'
structure LX5 (K:FG7) (C p l lq:Addr) (H:Hp) (A:Ad -> Addr) (ns:NS) (k many:Nat) (sm:List Int) (xs:List V):Prop where
 li:LI5 K C p l H A ns k many sm
 nx:NX ns
 hq:H lq = some (.lst xs)
 al:AllR (xA K H) xs ns.asks
 np:lq ≠ p /\ lq ≠ l
 aq:∀ a,okA ns a -> A a ≠ lq
 hd:∀ a ∈ ns.asks,0 <= a.hand
section
variable {K:FG7} {C p l lq:Addr} {H H':Hp} {A A':Ad -> Addr} {ns:NS} {k many:Nat} {sm:List Int} {xs:List V}
theorem LX5.potS (h:LX5 K C p l lq H A ns k many sm xs) (g:Grow [p] H H') (pp:Pot H' p):LX5 K C p l lq H' A ns k many sm xs :=
 ⟨h.li.potS g pp,h.nx,g.keep _ _ (by simpa using h.np.1) h.hq,h.al.imp fun _ _ z=>g.ask z,h.np,h.aq,h.hd⟩
theorem LX5.grow0 (h:LX5 K C p l lq H A ns k many sm xs) (g:Grow [] H H'):LX5 K C p l lq H' A ns k many sm xs :=
 ⟨h.li.grow0 g,h.nx,g.keep _ _ (by simp) h.hq,h.al.imp fun _ _ z=>g.ask z,h.np,h.aq,h.hd⟩
theorem LX5.app (h:LX5 K C p l lq H A ns k many sm xs) (y:V):LI5 K C p l (upd H lq (.lst (xs ++ [y]))) A ns k many sm /\ Grow [lq] H (upd H lq (.lst (xs ++ [y]))):=by
 have g:=Grow.set (m:=[lq]) h.hq (by simp) (xs ++ [y])
 have L:=h.li
 refine ⟨⟨L.net.grow g fun a ha=>by simpa using h.aq a ha,L.nw,?_,g.keep _ _ (by simpa using h.np.2.symm) L.ls,L.pl,L.ap,L.ek,L.bl⟩,g⟩
 obtain ⟨p0,p1,z,z0⟩:=L.pot
 exact ⟨p0,p1,g.keep _ _ (by simpa using h.np.1.symm) z,z0⟩
theorem LX5.nqm (h:LX5 K C p l lq H A ns k many sm xs):lq ∉ msA A ns:=fun z=>by
 obtain ⟨a,ha,e⟩:=List.mem_map.mp z
 exact h.aq a (rA.mp ha) e
theorem LX5.putS (h:LX5 K C p l lq H A ns k many sm xs) {a:Ask} {y:V} (ha:xA K H y a) (ok:WB many a) (g:Grow (msA A ns) (upd H lq (.lst (xs ++ [y]))) H') (hn:NetAt K C H' A (putS ns a)) (hh:a.hand.toNat < 2 ^ k) (h40:ns.asks.length < 40):LX5 K C p l lq H' A (putS ns a) k many sm (xs ++ [y]):=by
 obtain ⟨L1,g1⟩:=h.app y
 obtain ⟨k1,k2,k3,k5,k6⟩:=ok
 have hb:a.box.toNat < many:=by omega
 refine ⟨L1.putS g hn hh hb h40,h.nx.put k6 k3 (by rw [h.li.ek]; exact hh) (by rw [h.li.bl]; exact hb) h40,g.keep _ _ h.nqm zd,?_,h.np,fun c hc=>h.aq c (by cases c <;> exact hc),fun b hb=>?_⟩
 ·exact (h.al.imp fun _ _ z=>g.ask (g1.ask z)).app (.one (g.ask (g1.ask ha)))
 ·rcases List.mem_append.mp hb with z | z
  ·exact h.hd b z
  ·rw [List.mem_singleton.mp z]; exact k1
theorem LX5.beatS (h:LX5 K C p l lq H A ns k many sm xs) {gone:List (Nat × Nat)} (nw:ns.now < 10000) (g:Grow (msA A ns) H H') (ex:Ext5 H A A' ns) (hn:NetAt K C H' A' (L3.beatS gone ns)):LX5 K C p l lq H' A' (L3.beatS gone ns) k many sm xs:=by
 obtain ⟨s1,s2,s3,s4,s5⟩:=uI (gone:=gone) h.nx.nw nw
 refine ⟨h.li.beatS nw g ex hn,h.nx.beat nw gone,g.keep _ _ h.nqm h.hq,by rw [s3]; exact h.al.imp fun _ _ z=>g.ask z,h.np,fun a ha=>?_,by rw [s3]; exact h.hd⟩
 by_cases c:a = .dn (ns.nd + 1)
 ·rw [c]
  intro e
  have:=ex.2
  rw [e,h.hq] at this; cases this
 ·have ho:okA ns a:=by
   cases a with
   | ln x y=>exact ⟨by rw [← s1]; exact ha.1,by rw [← s1]; exact ha.2⟩
   | dn t =>
    have h2:t <= (L3.beatS gone ns).nd:=ha.2
    rw [s5] at h2
    have:t ≠ ns.nd + 1:=fun e=>c (by rw [e])
    exact ⟨ha.1,by omega⟩
   | _=>trivial
  rw [ex.1 a ho]; exact h.aq a ho
end
theorem Tp {xs:List V} {y:V}:atI (xs ++ [y]) (-1) = some y:=by
 refine UW (j:=xs.length) ?_ ?_
 ·unfold ixN
  rw [List.length_append,if_neg (by decide),if_pos (by show -((xs.length + 1:Nat):Int) <= -1; omega)]
  exact congrArg some (by show (-1 + ((xs.length + 1:Nat):Int)).toNat = xs.length; omega)
 ·rw [List.getElem?_append_right (Nat.le_refl _),Nat.sub_self]; rfl
end L3
namespace My
open PySem PySem.Spec PyProof.Rows L2 L3
def top (i:Nat):Stmt:=PySem.Challenge.pw_joinedasks_k55_room_and_kept.main.body.getD i (.Pass ⟨0,0,0,0⟩)
section
variable {P:Program} {w:World} {K:FG7} {mg:Str -> Option Value} {base:Heap} {n:Nat} {f:Addr} {fd:FuncData}
theorem xP:FnScope ["_law_first","_law_k","_law_many","_law_found","_law_level"] ["_law_first","_law_k","_law_many"] (zf (top 58)):=⟨rfl,rfl,rfl,by decide +kernel,rfl,by decide +kernel,by decide +kernel⟩
theorem rD (F:Fun K "_law_spots" "_law_spots" (top 58) f fd) (B:Blt mg)      :
  FnOk P w K mg base CX0 (n + 1) f fd ["_law_first","_law_k","_law_many"] (sx K):=by
 refine F.ok xP yZ (fun cdv A outer s H vs Q E hr h=>?_)
 obtain ⟨x,y,z,rfl,a,k,m,rfl,rfl,rfl,a1,k4,m16,q⟩:=h
 refine ⟨_,(zc (zC (i:=3) xP.nd rfl (Or.inl rfl) (yF zb)) (zc (yE PassesOwn.never rfl (vX rfl B.range (za (pv 0) (za (zo yf (pv 1) ze) zb))) (zj (i:=4) xP.nd rfl (Or.inr rfl)) (zh (zL (wp PySem.F.plainAttrs_list PySem.F.slot_list_extend PySem.F.type_list_extend xZ (pv 3) (za (yL (CSc.of (N':=["_law_line","_law_level"]) (sub:=[none,some 4]) (zf (top 58)) ["_law_first","_law_k","_law_many","_law_found","_law_level"] rfl rfl (by decide +kernel) rfl) rfl (ye rfl B.range (za (pv 2) zb)) (fun _ _ _ _ _ _=>zj (i:=0) (show (["_law_line","_law_level"]:List Str).Nodup by decide +kernel) rfl (Or.inl rfl)) (fun _ _ _ _ _ _=>yc) (fun _ _ _ _ _ _=>(zO (za (pv 1) (za (pv 0) zb))))) zb))))) (zh (zt (pv 3))))),?_⟩
 refine ⟨szl rfl,fun lt hlt=>yy ?_⟩
 have g0:=Grow.new (m:=[]) hlt (.lst [])
 have hlt0:=zd (H:=H) (a:=lt) (o:=.lst [])
 generalize upd H lt (.lst []) = H0 at g0 hlt0 ⊢
 have en:((k:Int) + 1 - a).toNat = k + 1 - a:=by omega
 refine ⟨_,rfl,_,rfl,_,_,rfl,rfl,_,_,rfl,⟨by omega,by omega,by omega,by omega⟩,yU (fun i σ H'=>∃ e4 ys,σ = [some (.int a),some (.int k),some (.int m),some (.ref lt),e4] /\ Grow [lt] H0 H' /\ H' lt = some (.lst ys) /\ AllR (sY K H') ys (prs5 a m i 0)) ⟨_,[],rfl,Grow.refl _ _,hlt0,by unfold prs5; exact trivial⟩ ?_ ?_⟩
 rotate_left
 ·rintro σ H' ⟨e4,ys,rfl,g,hy,hr⟩
  rw [en] at hr
  refine ⟨_,rfl,q _ _ ?_ hlt ⟨lt,ys,rfl,hy,hr⟩⟩
  exact ((g0.wk (m:=[lt])).trans g).less fun b hb=>.inr (by rw [List.mem_singleton.mp hb]; exact hlt)
 rintro i σ H1 hi ⟨e4,ys,rfl,g1,hy,hr⟩
 rw [en] at hi
 have ea:(a:Int) + (i:Int) = ((a + i:Nat):Int):=by omega
 have yl:ys.length <= 100:=by
  have:=hr.len
  have h2:=vV (a:=a) (m:=m) (i:=i) (j:=0) m16 (by omega) (by omega)
  unfold prs5 at this
  have e:∀ i:Nat,((List.range i).flatMap fun l=>(List.range m).map fun y=>(a + l,y)).length = i * m:=by
   intro i
   induction i with
   | zero=>rw [Nat.zero_mul]; rfl
   | succ i ih=>rw [List.range_succ,List.flatMap_append,List.length_append,ih,Nat.succ_mul]; simp
  rw [List.length_append,e] at this
  have:=Nat.mul_le_mul (show i <= 5 by omega) m16
  simp at *
  omega
 refine ⟨_,rfl,.inl ⟨rfl,_,SqL.of hy⟩,_,rfl,_,rfl,by omega,by omega,sL (fun j vs H'=>Grow [] H1 H' /\ vs.length = j /\ AllR (sY K H') vs ((List.range j).map fun y=>(a + i,y))) ⟨Grow.refl _ _,rfl,trivial⟩ ?_ ?_⟩
 ·rintro j vs H2 hj ⟨g2,vl,hv⟩
  rw [Int.toNat_natCast] at hj
  refine ⟨_,rfl,_,rfl,szl rfl,fun t ht=>?_⟩
  have gt:=Grow.new (m:=[]) ht (.tup [.int ((a:Int) + i),.int (0 + (j:Int))])
  refine ⟨zp (by omega),g2.trans gt,by rw [List.length_append,vl]; rfl,?_⟩
  rw [List.range_succ,List.map_append]
  exact (hv.imp fun _ _ ⟨r,e,z⟩=>⟨r,e,gt.sqT z⟩).app (.one ⟨t,rfl,SqT.of (by rw [zd,ea,Int.zero_add])⟩)
 rintro vs H2 ⟨g2,vl,hv⟩ l3 hl3
 rw [Int.toNat_natCast] at hv vl
 have g4:=Grow.new (m:=[]) hl3 (.lst vs)
 have g34:=g2.trans g4
 have hy4:=g34.keep _ _ (by simp) hy
 have g5:=Grow.set (m:=[lt]) hy4 (by simp) (ys ++ vs)
 refine ⟨lt,l3,ys,vs,rfl,rfl,hy4,zd,Nat.le_of_lt (zp (by omega)),?_⟩
 refine ⟨_,ys ++ vs,rfl,g1.trans ((g34.wk (m:=[lt])).trans g5),zd,?_⟩
 have ep:prs5 a m (i + 1) 0 = prs5 a m i 0 ++ (List.range m).map fun y=>(a + i,y):=by
  rw [← si]; unfold prs5; simp
 rw [ep]
 exact (hr.imp fun _ _ ⟨r,e,z⟩=>⟨r,e,g5.sqT (g34.sqT z)⟩).app (hv.imp fun _ _ ⟨r,e,z⟩=>⟨r,e,g5.sqT (g4.sqT z)⟩)
theorem yC:FnScope ["_law_asks","_law_found","_law_hand","_law_box","_law_deed_here"] ["_law_asks"] (zf (top 55)):=⟨rfl,rfl,rfl,by decide +kernel,rfl,by decide +kernel,by decide +kernel⟩
theorem u9 (F:Fun K "_law_values" "_law_values" (top 55) f fd) (B:Blt mg)      :
  FnOk P w K mg base CX0 (n + 1) f fd ["_law_asks"] (uL K):=by
 refine F.ok yC yK (fun cdv A outer s H vs Q E hr h=>?_)
 obtain ⟨x,rfl,r,xs,as,rfl,hx5,ha,al,q⟩:=h
 refine ⟨_,(zc (zC (i:=1) yC.nd rfl (Or.inl rfl) (yF (za ze (za ze (za (jh vZ ze) (za (zo rN ze ze) (za (jh vZ (zo rN ze ze)) zb))))))) (zc (yE PassesOwn.never rfl (xc (pv 0)) (yT rfl (zm (zj (i:=2) yC.nd rfl (Or.inl rfl)) (zm (zj (i:=3) yC.nd rfl (Or.inl rfl)) (zm (zj (i:=4) yC.nd rfl (Or.inr rfl)) z7)))) (zc (zL (wp PySem.F.plainAttrs_list PySem.F.slot_list_extend PySem.F.type_list_extend xZ (pv 1) (za (yL (CSc.of (N':=["_law_end"]) (sub:=[none]) (zf (top 55)) ["_law_asks","_law_found","_law_hand","_law_box","_law_deed_here"] rfl rfl (by decide +kernel) rfl) rfl (ww (sE Ve (pv 4) (jj ze) ji)) (fun _ _ _ _ _ _=>zj (i:=0) (show (["_law_end"]:List Str).Nodup by decide +kernel) rfl (Or.inl rfl)) (fun _ _ _ _ _ _=>(sI (xQ (wE (pv 0))))) (fun _ _ _ _ _ _=>(pv 0))) zb))) (zh (zL (wp PySem.F.plainAttrs_list PySem.F.slot_list_extend PySem.F.type_list_extend xZ (pv 1) (za (yL (CSc.of (N':=["_law_end","_law_deed_here"]) (sub:=[none,some 4]) (zf (top 55)) ["_law_asks","_law_found","_law_hand","_law_box","_law_deed_here"] rfl rfl (by decide +kernel) rfl) rfl (ww (sE Ve (pv 4) (jj ze) ji)) (fun _ _ _ _ _ _=>zj (i:=0) (show (["_law_end","_law_deed_here"]:List Str).Nodup by decide +kernel) rfl (Or.inl rfl)) (fun _ _ _ _ _ _=>(sI (xQ (wE (pv 0))))) (fun _ _ _ _ _ _=>(zo yg (pv 0) (z6 (ur (K:=K) rfl) (pv 1) ze (fun _ _=>rfl))))) zb)))))) (zh (zt (pv 1))))),?_⟩
 have xl:=ha.len
 refine ⟨_,rfl,_,_,rfl,rfl,⟨by decide,by decide,by decide⟩,_,_,rfl,rfl,⟨by decide,by decide,by decide⟩,_,rfl,szl rfl,fun lt hlt=>yy ?_⟩
 obtain ⟨v0,hv0,v5⟩:∃ v0:List Int,[V.int 0,V.int 1,(fun i=>V.int (-i)) 1,(fun i j=>V.int (i ^ Int.toNat j)) 10 31,(fun i=>V.int (-i)) (10 ^ Int.toNat 31)] = v0.map V.int /\ v0.length = 5:=⟨[0,1,_,_,_],rfl,rfl⟩
 have g0:=Grow.new (m:=[]) hlt (.lst [V.int 0,V.int 1,(fun i=>V.int (-i)) 1,(fun i j=>V.int (i ^ Int.toNat j)) 10 31,(fun i=>V.int (-i)) (10 ^ Int.toNat 31)])
 have hlt0:=zd (H:=H) (a:=lt) (o:=.lst [V.int 0,V.int 1,(fun i=>V.int (-i)) 1,(fun i j=>V.int (i ^ Int.toNat j)) 10 31,(fun i=>V.int (-i)) (10 ^ Int.toNat 31)])
 have nrl:r ≠ lt:=fun e=>by rw [e,hlt] at hx5; cases hx5
 have hx0:=g0.keep _ _ (by simp) hx5
 have ha0:=ha.imp fun _ _ z=>g0.ask z
 generalize upd H lt _ = H0 at g0 hlt0 hx0 ha0 ⊢
 rw [hv0] at hlt0
 refine ⟨_,rfl,r,rfl,⟨_,SqL.of hx0⟩,xq (xs:=xs) (fun j σ H'=>∃ e2 e3 e4,∃ vs:List Int,σ = [some (.ref r),some (.ref lt),e2,e3,e4] /\ Grow [lt] H0 H' /\ H' lt = some (.lst (vs.map V.int)) /\ vs.length <= 5 + 4 * j) ⟨_,_,_,v0,rfl,Grow.refl _ _,hlt0,by omega⟩ (fun j σ H' _ ⟨_,_,_,_,_,g,_⟩=>SqL.of (g.keep _ _ (by simpa using nrl) hx0)) ?_ ?_⟩
 rotate_left
 ·rintro σ H' ⟨e2,e3,e4,vs,rfl,g,hv,vl⟩
  refine ⟨_,rfl,q _ vs _ ?_ hv (by omega)⟩
  exact ((g0.wk (m:=[lt])).trans g).less fun b hb=>.inr (by rw [List.mem_singleton.mp hb]; exact hlt)
 rintro j x σ H1 hx ⟨e2,e3,e4,vs,rfl,g1,hv,vl⟩
 have jl:=(List.getElem?_eq_some_iff.mp hx).1
 obtain ⟨⟨hd5,bx5,⟨ad,lo,hi⟩⟩,ha5,r5,rd5,rfl,h5,h6⟩:=(ha0.imp fun _ _ z=>g1.ask z).get hx
 refine ⟨r5,_,rfl,h5,rfl,_,_,rfl,_,_,rfl,_,_,rfl,rfl,?_⟩
 have ecut:cutV (⟨ad,lo,hi⟩:Deed).vs (some 1) none = [ov lo,ov hi]:=rfl
 have hint:∀ (f:Int -> Int),∃ us:List Int,(([ov lo,ov hi].filter fun x=>!decide (x = .non)).map (vi f)) = us.map V.int /\ us.length <= 2:=fun f=>by
  cases lo <;> cases hi
  ·exact ⟨[],rfl,by decide⟩
  ·exact ⟨[_],rfl,by show (1:Nat) <= 2; decide⟩
  ·exact ⟨[_],rfl,by show (1:Nat) <= 2; decide⟩
  ·exact ⟨[_,_],rfl,by show (2:Nat) <= 2; decide⟩
 refine ⟨_,rfl,.inl ⟨rfl,_,SqL.of hv⟩,_,rfl,_,rfl,rd5,_,rfl,h6,by intro z; exact absurd z.1 (by show ¬ (HT.sIx 3 0 (some 1) = 0); decide),fun t ht=>?_⟩
 rw [ecut]
 have gt:=Grow.new (m:=[]) ht (.tup [ov lo,ov hi])
 refine ⟨t,rfl,⟨_,SqT.of zd⟩,vn (fun x=>!decide (x = .non)) (vi id) (SqT.of zd) (by show (2:Nat) <= 1000; decide) (fun x H' R hx g k=>⟨_,rfl,_,rfl,k _ (Grow.refl _ _)⟩) (fun x H' R hx hp g k=>⟨_,rfl,?_⟩) fun H2 l2 g2 hl2=>?_⟩
 ·have ex:vi id x = x:=by cases x <;> rfl
  have:=k _ (Grow.refl _ _)
  rw [ex] at this; exact this
 obtain ⟨u1,hu1,ul1⟩:=hint id
 rw [hu1]
 have g3:=Grow.new (m:=[]) hl2 (.lst (u1.map V.int))
 have G3:=gt.trans (g2.trans g3)
 have hv3:=G3.keep _ _ (by simp) hv
 have g4:=Grow.set (m:=[lt]) hv3 (by simp) (vs.map V.int ++ u1.map V.int)
 refine ⟨lt,l2,_,_,rfl,rfl,hv3,zd,Nat.le_of_lt (zp (by rw [List.length_map,List.length_map]; omega)),?_⟩
 have hv4:upd (upd H2 l2 (.lst (u1.map V.int))) lt (.lst (vs.map V.int ++ u1.map V.int)) lt = some (.lst ((vs ++ u1).map V.int)):=by rw [zd,List.map_append]
 have G4:Grow [lt] H1 _:=G3.wk.trans g4
 have h64:=G4.sqT h6
 generalize upd (upd H2 l2 _) lt _ = H4 at hv4 G4 h64 ⊢
 refine ⟨_,rfl,.inl ⟨rfl,_,SqL.of hv4⟩,_,rfl,_,rfl,rd5,_,rfl,h64,by intro z; exact absurd z.1 (by show ¬ (HT.sIx 3 0 (some 1) = 0); decide),fun t5 ht5=>?_⟩
 rw [ecut]
 have gt5:=Grow.new (m:=[]) ht5 (.tup [ov lo,ov hi])
 refine ⟨t5,rfl,⟨_,SqT.of zd⟩,vn (fun x=>!decide (x = .non)) (vi fun i=>i - ad) (SqT.of zd) (by show (2:Nat) <= 1000; decide) (fun x H' R hx g k=>⟨_,rfl,_,rfl,k _ (Grow.refl _ _)⟩) (fun x H' R hx hp g k=>?_) fun H6 l6 g6 hl6=>?_⟩
 ·have hov:∃ i:Int,x = .int i:=by
   simp only [List.mem_cons,List.not_mem_nil,or_false] at hx
   rcases hx with rfl | rfl
   ·cases lo with
    | none=>exact absurd hp (by decide)
    | some l=>exact ⟨l,rfl⟩
   ·cases hi with
    | none=>exact absurd hp (by decide)
    | some l=>exact ⟨l,rfl⟩
  obtain ⟨i,rfl⟩:=hov
  exact ⟨_,rfl,_,rfl,rd5,_,_,_,rfl,rfl,(gt5.trans g).sqT h64,zy (j:=0) rfl,_,_,rfl,rfl,k _ (Grow.refl _ _)⟩
 obtain ⟨u2,hu2,ul2⟩:=hint fun i=>i - ad
 rw [hu2]
 have g7:=Grow.new (m:=[]) hl6 (.lst (u2.map V.int))
 have G7:=gt5.trans (g6.trans g7)
 have hv7:=G7.keep _ _ (by simp) hv4
 have g8:=Grow.set (m:=[lt]) hv7 (by simp) ((vs ++ u1).map V.int ++ u2.map V.int)
 refine ⟨lt,l6,_,_,rfl,rfl,hv7,zd,Nat.le_of_lt (zp (by rw [List.length_map,List.length_map,List.length_append]; omega)),?_⟩
 exact ⟨_,_,_,vs ++ u1 ++ u2,rfl,g1.trans (G4.trans (G7.wk.trans g8)),by rw [zd,List.map_append (l₁:=vs ++ u1)],by rw [List.length_append,List.length_append]; omega⟩
theorem yq:FnScope ["_law_deed_here","_law_value","_law_add","_law_low","_law_high","_law_found"] ["_law_deed_here","_law_value"] (zf (top 52)):=⟨rfl,rfl,rfl,by decide +kernel,rfl,by decide +kernel,by decide +kernel⟩
theorem qQ (F:Fun K "_law_done" "_law_done" (top 52) f fd) (B:Blt mg)      :
  FnOk P w K mg base CX0 (n + 1) f fd ["_law_deed_here","_law_value"] (uj K):=by
 refine F.ok yq ym (fun cdv A outer s H vs Q E hr h=>?_)
 obtain ⟨x,y,rfl,d,v,⟨a,rfl,hs⟩,rfl,q⟩:=h
 refine ⟨_,(zc (xp (pv 0) (yT rfl (zm (zj (i:=2) yq.nd rfl (Or.inl rfl)) (zm (zj (i:=3) yq.nd rfl (Or.inl rfl)) (zm (zj (i:=4) yq.nd rfl (Or.inl rfl)) z7))))) (zc (zC (i:=5) yq.nd rfl (Or.inl rfl) (zo yf (pv 1) (pv 2))) (zc (z5 (PW.pt (xR (xQ (wE (pv 3))) (xb (zD ua (pv 5) (pv 3) (zG _))))) (zh (zC (i:=5) yq.nd rfl (Or.inl rfl) (pv 3))) zv) (zc (z5 (PW.pt (xR (xQ (wE (pv 4))) (xb (zD rP (pv 5) (pv 4) (zG _))))) (zh (zC (i:=5) yq.nd rfl (Or.inl rfl) (pv 4))) zv) (zh (zt (pv 5))))))),?_⟩
 obtain ⟨ad,lo,hi⟩:=d
 refine ⟨_,rfl,a,_,rfl,hs,rfl,_,_,rfl,_,_,rfl,_,_,rfl,rfl,?_⟩
 refine ⟨_,rfl,_,rfl,_,_,rfl,rfl,yy ?_⟩
 have q0:Q (.int (z8 hi (zW lo (v + ad)))) H:=q
 refine c_if (fun σ' H'=>σ' = [some (.ref a),some (.int v),some (.int ad),some (ov lo),some (ov hi),some (.int (zW lo (v + ad)))] /\ H' = H) ?_ ?_
 rotate_left
 ·intro hr2
  cases lo with
  | none=>exact ⟨_,rfl,_,rfl,iteF (iteF (hr2 _ _ ⟨rfl,rfl⟩))⟩
  | some l =>
   refine ⟨_,rfl,_,rfl,iteT ⟨_,rfl,_,rfl,_,_,rfl,rfl,_,rfl,?_⟩⟩
   by_cases c:v + ad < l
   ·have e:zW (some l) (v + ad) = l:=if_pos c
    exact yQ (decide_eq_true c) ⟨_,rfl,hr2 _ _ ⟨by rw [e]; rfl,rfl⟩⟩
   ·have e:zW (some l) (v + ad) = v + ad:=if_neg c
    exact yu (decide_eq_false c) (hr2 _ _ ⟨by rw [e]; rfl,rfl⟩)
 rintro σ' H' ⟨rfl,rfl⟩
 generalize zW lo (v + ad) = r at q0 ⊢
 cases hi with
 | none=>exact ⟨_,rfl,_,rfl,iteF (iteF (xU ⟨_,rfl,q0⟩))⟩
 | some u =>
  refine ⟨_,rfl,_,rfl,iteT ⟨_,rfl,_,rfl,_,_,rfl,rfl,_,rfl,?_⟩⟩
  by_cases c:u < r
  ·have e:z8 (some u) r = u:=if_pos c
   rw [e] at q0
   exact yQ (decide_eq_true c) ⟨_,rfl,_,rfl,q0⟩
  ·have e:z8 (some u) r = r:=if_neg c
   rw [e] at q0
   exact yu (decide_eq_false c) (xU ⟨_,rfl,q0⟩)
theorem zU:FnScope ["_law_deed_here","_law_asks","_law_value","_law_due","_law_hand","_law_box","_law_own"] ["_law_deed_here","_law_asks"] (zf (top 56)):=⟨rfl,rfl,rfl,by decide +kernel,rfl,by decide +kernel,by decide +kernel⟩
theorem uO (F:Fun K "_law_deed_is" "_law_deed_is" (top 56) f fd) (B:Blt mg) (qc0:zn P w K mg base n "_law_values" ["_law_asks"] (uL K)) (qc1:zn P w K mg base n "_law_done" ["_law_deed_here","_law_value"] (uj K))     :
  FnOk P w K mg base CX0 (n + 1) f fd ["_law_deed_here","_law_asks"] (uM K):=by
 refine F.ok zU ym (fun cdv A outer s H vs Q E hr h=>?_)
 obtain ⟨x,y,rfl,d,r,xs,as,hd,rfl,hx5,ha,al,hdd,q⟩:=h
 refine ⟨_,(zc (yE PassesOwn.never rfl (xc (zi qc0 hr rfl (za (pv 1) zb))) (zj (i:=2) zU.nd rfl (Or.inl rfl)) (zc (zC (i:=3) zU.nd rfl (Or.inl rfl) (pv 2)) (zc (yE PassesOwn.never rfl (xc (pv 1)) (yT rfl (zm (zj (i:=4) zU.nd rfl (Or.inl rfl)) (zm (zj (i:=5) zU.nd rfl (Or.inl rfl)) (zm (zj (i:=6) zU.nd rfl (Or.inl rfl)) z7)))) (zh (zC (i:=3) zU.nd rfl (Or.inl rfl) (zi qc1 hr rfl (za (pv 6) (za (pv 3) zb)))))) (zh (z5 (zD Wd (zi qc1 hr rfl (za (pv 0) (za (pv 2) zb))) (pv 3) (zG _)) (zh (zt wD)) zv))))) (zh (zt wD))),?_⟩
 have xl:=ha.len
 refine ⟨_,rfl,_,rfl,r,xs,as,rfl,hx5,ha,al,fun l vs H1 g1 hl vl=>?_⟩
 have hx1:=g1.keep _ _ (by simp) hx5
 have ha1:=ha.imp fun _ _ z=>g1.ask z
 obtain ⟨rd,rfl,hrd⟩:=hd
 have hrd1:=g1.sqT hrd
 refine ⟨l,rfl,⟨_,SqL.of hl⟩,xq (xs:=vs.map V.int) (fun i σ H'=>(∃ e2 e3 e4 e5 e6,σ = [some (.ref rd),some (.ref r),e2,e3,e4,e5,e6]) /\ H' = H1) ⟨⟨_,_,_,_,_,rfl⟩,rfl⟩ (fun i σ H' _ ⟨_,e⟩=>e ▸ SqL.of hl) ?_ ?_⟩
 rotate_left
 ·rintro σ H' ⟨_,rfl⟩
  exact q _ g1
 rintro i x σ H2 hx ⟨⟨e2,e3,e4,e5,e6,rfl⟩,rfl⟩
 obtain ⟨v,_,rfl⟩:=List.mem_map.mp (List.mem_of_getElem? hx)
 refine ⟨_,rfl,yy ?_⟩
 refine Zy (fun σ' H'=>(∃ e4 e5 e6,σ' = [some (.ref rd),some (.ref r),some (.int v),some (.int (as.foldl (fun v a=>a.deed.mk' v) v)),e4,e5,e6]) /\ H' = H2) (fun D hD=>⟨_,rfl,r,rfl,⟨_,SqL.of hx1⟩,xq (xs:=xs) (fun j σ' H'=>(∃ e4 e5 e6,σ' = [some (.ref rd),some (.ref r),some (.int v),some (.int ((as.take j).foldl (fun v a=>a.deed.mk' v) v)),e4,e5,e6]) /\ H' = H2) ⟨⟨_,_,_,rfl⟩,rfl⟩ (fun i σ H' _ ⟨_,e⟩=>e ▸ SqL.of hx1) ?_ ?_⟩) ?_
 ·rintro j x σ H3 hx ⟨⟨e4,e5,e6,rfl⟩,rfl⟩
  obtain ⟨a5,ha5,r5,rd5,rfl,h5,h6⟩:=ha1.get hx
  rw [xm ha5]
  exact ⟨r5,_,rfl,h5,rfl,_,_,rfl,_,_,rfl,_,_,rfl,rfl,_,rfl,_,rfl,_,_,rfl,a5.deed,_,⟨rd5,rfl,h6⟩,rfl,⟨_,_,_,rfl⟩,rfl⟩
 ·rintro σ H' ⟨⟨e4,e5,e6,rfl⟩,rfl⟩
  rw [xl,List.take_length]
  exact hD _ _ ⟨⟨_,_,_,rfl⟩,rfl⟩
 rintro σ H3 ⟨⟨e4,e5,e6,rfl⟩,rfl⟩
 refine ⟨_,rfl,_,rfl,_,_,rfl,d,v,⟨rd,rfl,hrd1⟩,rfl,_,rfl,rfl,_,rfl,yu (by rw [hdd v,decide_eq_true rfl]; rfl) ⟨⟨_,_,_,_,_,rfl⟩,rfl⟩⟩
theorem yw:FnScope ["_law_k","_law_level","_law_line","_law_one","_law_asks","_law_box","_law_deed_here","_law_numbers","_law_some","_law_rest"] ["_law_k","_law_level","_law_line","_law_one","_law_asks"] (zf (top 57)):=⟨rfl,rfl,rfl,by decide +kernel,rfl,by decide +kernel,by decide +kernel⟩
theorem rE (F:Fun K "_law_entry" "_law_entry" (top 57) f fd) (B:Blt mg) (qc0:zn P w K mg base n "_law_deed_is" ["_law_deed_here","_law_asks"] (uM K))     :
  FnOk P w K mg base CX0 (n + 1) f fd ["_law_k","_law_level","_law_line","_law_one","_law_asks"] (su K):=by
 refine F.ok yw jo (fun cdv A outer s H vs Q E hr h=>?_)
 obtain ⟨x,y,z,u,w,rfl,k,l,j,r,xs,as,wt,rfl,rfl,rfl,hu,rfl,hx5,ha,al,he,⟨hne,hnm,hnl⟩,⟨k4,lk⟩,q⟩:=h
 refine ⟨_,(zc (xp (pv 3) (yT rfl (zm (zj (i:=5) yw.nd rfl (Or.inl rfl)) (zm (zj (i:=6) yw.nd rfl (Or.inl rfl)) (zm (zj (i:=7) yw.nd rfl (Or.inl rfl)) z7))))) (zc (wU (i:=8) yw.nd rfl rfl (CSc.of (N':=["_law_number_here","_law_asks"]) (sub:=[none,some 4]) (zf (top 57)) ["_law_k","_law_level","_law_line","_law_one","_law_asks","_law_box","_law_deed_here","_law_numbers","_law_some","_law_rest"] rfl rfl (by decide +kernel) rfl) rfl (ww (pv 7)) (fun _ _ _ _ _ _=>zj (i:=0) (show (["_law_number_here","_law_asks"]:List Str).Nodup by decide +kernel) rfl (Or.inl rfl)) (fun _ _ _ _ _ _=>yc) (fun _ _ _ _ _ _=>(z6 (Ww (K:=K) rfl) (pv 1) (pv 0) (fun _ _=>rfl)))) (zc (z5 (PW.pt (vN (zD (Yq (K:=K) rfl hr) (pv 7) (zO zb) (zG _)) (vN (zD (Vm hr) (yL (CSc.of (N':=["_law_ask_here"]) (sub:=[none]) (zf (top 57)) ["_law_k","_law_level","_law_line","_law_one","_law_asks","_law_box","_law_deed_here","_law_numbers","_law_some","_law_rest"] rfl rfl (by decide +kernel) rfl) rfl (xc (pv 8)) (fun _ _ _ _ _ _=>zj (i:=0) (show (["_law_ask_here"]:List Str).Nodup by decide +kernel) rfl (Or.inl rfl)) (fun _ _ _ _ _ _=>yc) (fun _ _ _ _ _ _=>(z6 (ur (K:=K) rfl) (pv 0) ze (fun _ _=>rfl)))) (zo YR (yF (za (pv 5) zb)) (zr zx rfl B.len x6 (za (pv 8) zb))) (zG _)) (xW (yA (yx (zi qc0 hr rfl (za (pv 6) (za (pv 8) zb))))))))) (zh (zt wD)) zv) (zc (zC (i:=9) yw.nd rfl (Or.inr rfl) (zo yH ze (zo yg (pv 0) (pv 1)))) (zc (z5 (zD (Vm hr) (yL (CSc.of (N':=["_law_ask_here","_law_rest"]) (sub:=[none,some 9]) (zf (top 57)) ["_law_k","_law_level","_law_line","_law_one","_law_asks","_law_box","_law_deed_here","_law_numbers","_law_some","_law_rest"] rfl rfl (by decide +kernel) rfl) rfl (xc (pv 8)) (fun _ _ _ _ _ _=>zj (i:=0) (show (["_law_ask_here","_law_rest"]:List Str).Nodup by decide +kernel) rfl (Or.inl rfl)) (fun _ _ _ _ _ _=>yc) (fun _ _ _ _ _ _=>(zo vF (z6 (ur (K:=K) rfl) (pv 0) ze (fun _ _=>rfl)) (pv 1)))) (zo YR (yF (za (zo vF (pv 2) (pv 9)) zb)) (zr zx rfl B.len x6 (za (pv 8) zb))) (zG _)) (zh (zt wD)) zv) (zh (zt (xf wF (zo wR (pv 2) (pv 9)) (zo wR (zo vF (pv 5) (zo yH ze (pv 0))) (pv 9)) (zG _))))))))),?_⟩
 obtain ⟨r3,rd,rn,rfl,h1,h2,h3⟩:=hu
 have xl:=ha.len
 obtain ⟨bx,wd,nums,wmet⟩:=wt
 have hnl:nums.length <= 40:=hnl
 refine ⟨_,rfl,r3,_,rfl,h1,rfl,_,_,rfl,_,_,rfl,_,_,rfl,rfl,c_nx ?_⟩
 have nl:(zT nums).length = nums.length:=List.length_map ..
 refine uA (fun v H'=>∃ ls ys,v = .ref ls /\ H' ls = some (.lst ys) /\ AllR (xA K H') ys (nums.map fun n=>as.getD n default) /\ Grow [] H H') (fun Kk hk=>⟨_,rfl,rn,rfl,⟨_,h3⟩,uq (xs:=zT nums) (fun i vs σ' H'=>(∃ e0,σ' = [e0,some (.ref r)]) /\ H' = H /\ AllR (xA K H) vs ((nums.take i).map fun n=>as.getD n default)) ⟨⟨_,rfl⟩,rfl,trivial⟩ (fun i vs σ' H' _ ⟨_,e,_⟩=>e ▸ h3) ?_ ?_⟩) ?_
 ·rintro i x vs σ' H1 hx ⟨⟨e0,rfl⟩,rfl,hvs⟩
  rw [show (zT nums)[i]? = (nums[i]?).map fun n:Nat=>V.int n from List.getElem?_map ..] at hx
  obtain ⟨n5,hi,rfl⟩:=Option.map_eq_some_iff.mp hx
  have n5l:=(hnm n5 (List.mem_of_getElem? hi)).1
  have il:=(List.getElem?_eq_some_iff.mp hi).1
  obtain ⟨y5,hy5⟩:∃ y5,xs[n5]? = some y5:=⟨_,List.getElem?_eq_getElem (by omega)⟩
  obtain ⟨a5,ha5,hay⟩:=ha.get hy5
  have eg:as.getD n5 default = a5:=by rw [List.getD_eq_getElem?_getD,ha5]; rfl
  refine ⟨_,rfl,_,rfl,r,_,_,_,rfl,rfl,SqL.of hx5,zy hy5,?_,⟨_,rfl⟩,rfl,?_⟩
  ·rw [hvs.len,List.length_map,List.length_take]; exact zp (by omega)
  ·obtain ⟨hj,e⟩:=List.getElem?_eq_some_iff.mp hi
   rw [List.take_succ_eq_append_getElem hj,e,List.map_append]
   exact hvs.app (.one (by show xA K _ y5 (as.getD n5 default); rw [eg]; exact hay))
 ·rintro vs σ' H1 ⟨_,rfl,hvs⟩ l3 hl3
  rw [nl,List.take_length] at hvs
  have g:=Grow.new (m:=[]) hl3 (.lst vs)
  exact hk _ _ ⟨l3,vs,rfl,zd,hvs.imp fun _ _ z=>g.ask z,g⟩
 rintro _ H1 ⟨ls,ys,rfl,hls,hya,g1⟩
 have yl:=hya.len
 rw [List.length_map] at yl
 have h21:=g1.sqT h2
 have h31:=g1.sqT h3
 have edd:∀ v,wd.mk' v = (nums.map fun n=>as.getD n default).foldl (fun v a=>a.deed.mk' v) v:=fun v=>by rw [List.foldl_map]; exact he.dd v
 have hem:(zT nums).isEmpty = false:=by
  cases nums with
  | nil=>exact absurd rfl hne
  | cons a b=>rfl
 have fin:∀ (n:Nat) (x:Int),eqVs (List.replicate n (V.int x)) (List.replicate n (V.int x)) = true:=fun n x=>by
  rw [show List.replicate n (V.int x) = (List.replicate n x).map V.int by rw [List.map_replicate],wS,decide_eq_true rfl]
 have flt:∀ (n:Nat) (x:Int),(List.replicate n (V.int x)).all uX = true:=fun n x=>List.all_eq_true.mpr fun v hv=>by rw [(List.mem_replicate.mp hv).2]; rfl
 have yget:∀ {i:Nat} {x:V},ys[i]? = some x -> ∃ n,n ∈ nums /\ xA K H1 x (as.getD n default):=fun {i x} hx=>by
  obtain ⟨a5,ha5,hay⟩:=hya.get hx
  obtain ⟨n5,hn5,rfl⟩:=List.mem_map.mp (List.mem_of_getElem? ha5)
  exact ⟨n5,hn5,hay⟩
 refine qu (fun b H'=>b = false /\ Grow [] H1 H') (fun Kk hk=>?_) ?_
 ·refine ⟨_,rfl,szl rfl,fun t ht=>⟨rn,t,_,rfl,rfl,(Grow.new (m:=[]) ht _).sqT h31,SqT.of zd,_,rfl,yu hem ?_⟩⟩
  have gt:=Grow.new (m:=[]) ht (.tup [])
  have hls2:=gt.keep _ _ (by simp) hls
  generalize upd H1 t _ = H2 at gt hls2 ⊢
  refine ⟨_,rfl,ls,rfl,⟨_,SqL.of hls2⟩,vm (xs:=ys) (fun i vs σ' H'=>(∃ e0,σ' = [e0]) /\ H' = H2 /\ vs = List.replicate i (.int bx)) ⟨⟨_,rfl⟩,rfl,rfl⟩ (fun i vs σ' H' _ ⟨_,e,_⟩=>e ▸ SqL.of hls2) ?_ ?_⟩
  ·rintro i x vs σ' H3 hx ⟨⟨e0,rfl⟩,rfl,rfl⟩
   have il:=(List.getElem?_eq_some_iff.mp hx).1
   obtain ⟨n5,hn5,r5,rd5,rfl,h5,h6⟩:=yget hx
   have eb:(as.getD n5 default).box = bx:=he.bx n5 hn5
   refine ⟨_,rfl,r5,_,1,_,rfl,rfl,gt.sqT h5,zy (j:=1) rfl,zp (by rw [List.length_replicate]; omega),⟨_,rfl⟩,rfl,?_⟩
   rw [List.replicate_succ',eb]
  rintro vs σ' H3 ⟨_,rfl,rfl⟩ l3 hl3
  have g3:=Grow.new (m:=[]) hl3 (.lst (List.replicate ys.length (V.int bx)))
  refine ⟨_,rfl,szl rfl,fun l4 hl4=>?_⟩
  have g4:=Grow.new (m:=[]) hl4 (.lst [V.int bx])
  have g34:=g3.trans g4
  refine ⟨_,rfl,ls,_,rfl,.inl (SqL.of (g34.keep _ _ (by simp) hls2)),l4,_,_,rfl,rfl,zd,by omega,by omega,by rw [Int.toNat_natCast]; exact Nat.le_of_lt (zp (by show 1 * ys.length <= 1000; omega)),fun l5 hl5=>?_⟩
  rw [Int.toNat_natCast,sQ]
  have g5:=Grow.new (m:=[]) hl5 (.lst (List.replicate ys.length (V.int bx)))
  refine ⟨l3,l5,_,_,rfl,rfl,SqL.of ((g4.trans g5).keep _ _ (by simp) zd),SqL.of zd,flt _ _,flt _ _,_,rfl,yu (by show (!eqVs _ _) = false; rw [fin]; rfl) ?_⟩
  have G5:=gt.trans (g3.trans (g4.trans g5))
  exact ⟨_,rfl,_,rfl,_,_,rfl,wd,ls,ys,_,⟨rd,rfl,G5.sqT h21⟩,rfl,G5.keep _ _ (by simp) hls,hya.imp fun _ _ z=>G5.ask z,by rw [List.length_map]; exact hnl,edd,fun H6 g6=>⟨_,rfl,hk _ _ ⟨rfl,G5.trans g6⟩⟩⟩
 rintro b H2 ⟨rfl,g2⟩
 refine iteF (xU ?_)
 have hls2:=g2.keep _ _ (by simp) hls
 have ekl:(k:Int) - l = ((k - l:Nat):Int):=by omega
 have p16:=vo (show k - l <= 4 by omega)
 refine ⟨_,rfl,_,rfl,_,_,rfl,rfl,1,((k - l:Nat):Int),rfl,congrArg V.int ekl,xT (by omega),jy (congrArg V.int shl5) ?_⟩
 have pp:=Nat.two_pow_pos (k - l)
 have pI:(0:Int) < ((2 ^ (k - l):Nat):Int):=Int.ofNat_lt.mpr pp
 refine qu (fun b H'=>b = false /\ Grow [] H2 H') (fun Kk hk=>?_) ?_
 ·refine ⟨_,rfl,ls,rfl,⟨_,SqL.of hls2⟩,vm (xs:=ys) (fun i vs σ' H'=>(∃ e0,σ' = [e0,some (.int ((2 ^ (k - l):Nat):Int))]) /\ H' = H2 /\ vs = List.replicate i (.int ((j % 2 ^ (k - l):Nat):Int))) ⟨⟨_,rfl⟩,rfl,rfl⟩ (fun i vs σ' H' _ ⟨_,e,_⟩=>e ▸ SqL.of hls2) ?_ ?_⟩
  ·rintro i x vs σ' H3 hx ⟨⟨e0,rfl⟩,rfl,rfl⟩
   have il:=(List.getElem?_eq_some_iff.mp hx).1
   obtain ⟨n5,hn5,r5,rd5,rfl,h5,h6⟩:=yget hx
   have ehd:=he.hd n5 hn5
   have h0:=(hnm n5 hn5).2
   have ev:(as.getD n5 default).hand % ((2 ^ (k - l):Nat):Int) = ((j % 2 ^ (k - l):Nat):Int):=by
    rw [← ehd,Int.natCast_emod,Int.toNat_of_nonneg h0]
   refine ⟨_,rfl,r5,_,0,_,rfl,rfl,g2.sqT h5,zy (j:=0) rfl,_,rfl,_,_,rfl,rfl,pI,zp (by rw [List.length_replicate]; omega),⟨_,rfl⟩,rfl,?_⟩
   dsimp only
   rw [List.replicate_succ',ev]
  rintro vs σ' H3 ⟨_,rfl,rfl⟩ l3 hl3
  have g3:=Grow.new (m:=[]) hl3 (.lst (List.replicate ys.length (V.int ((j % 2 ^ (k - l):Nat):Int))))
  refine ⟨_,rfl,_,rfl,_,_,rfl,rfl,pI,szl rfl,fun l4 hl4=>?_⟩
  have ej:(j:Int) % ((2 ^ (k - l):Nat):Int) = ((j % 2 ^ (k - l):Nat):Int):=(Int.natCast_emod _ _).symm
  dsimp only
  rw [ej]
  have g4:=Grow.new (m:=[]) hl4 (.lst [V.int ((j % 2 ^ (k - l):Nat):Int)])
  have g34:=g3.trans g4
  refine ⟨_,rfl,ls,_,rfl,.inl (SqL.of (g34.keep _ _ (by simp) hls2)),l4,_,_,rfl,rfl,zd,by omega,by omega,by rw [Int.toNat_natCast]; exact Nat.le_of_lt (zp (by show 1 * ys.length <= 1000; omega)),fun l5 hl5=>?_⟩
  rw [Int.toNat_natCast,sQ]
  have g5:=Grow.new (m:=[]) hl5 (.lst (List.replicate ys.length (V.int ((j % 2 ^ (k - l):Nat):Int))))
  exact ⟨l3,l5,_,_,rfl,rfl,SqL.of ((g4.trans g5).keep _ _ (by simp) zd),SqL.of zd,flt _ _,flt _ _,_,rfl,hk _ _ ⟨by show (!eqVs _ _) = false; rw [fin]; rfl,g3.trans (g4.trans g5)⟩⟩
 rintro b H3 ⟨rfl,g3⟩
 refine iteF (xU ?_)
 have p16k:=vo k4
 have cd:YW (j:Int) ((2 ^ (k - l):Nat):Int):=⟨pI,Int.lt_of_le_of_lt (Int.ofNat_le.mpr p16) (by decide)⟩
 refine ⟨_,rfl,_,rfl,_,_,rfl,rfl,⟨pI,Int.lt_of_le_of_lt (Int.ofNat_le.mpr p16) (by decide)⟩,_,rfl,_,rfl,_,_,rfl,rfl,xT k4,_,_,rfl,rfl,by rw [shl5]; exact Int.ofNat_lt.mpr (Nat.two_pow_pos k),_,rfl,_,_,rfl,rfl,⟨pI,Int.lt_of_le_of_lt (Int.ofNat_le.mpr p16) (by decide)⟩,rfl,?_⟩
 have esd:V.int ((j:Int) / ((2 ^ (k - l):Nat):Int)) = V.int ((bx:Int) % (1 * 2 ^ ((k:Int)).toNat) / ((2 ^ (k - l):Nat):Int)):=by
  rw [shl5,← Int.natCast_emod,← Int.natCast_ediv,← Int.natCast_ediv,he.sd]
 rw [decide_eq_true esd]
 exact q _ (g1.trans (g2.trans g3))
theorem wA:FnScope ["_law_row","_law_numbers"] ["_law_row"] (zf (top 59)):=⟨rfl,rfl,rfl,by decide +kernel,rfl,by decide +kernel,by decide +kernel⟩
theorem tf (F:Fun K "_law_as_put" "_law_as_put" (top 59) f fd) (B:Blt mg)   (g_sorted:mg "sorted" = none)   :
  FnOk P w K mg base CX0 (n + 1) f fd ["_law_row"] (sv K):=by
 refine F.ok wA yK (fun cdv A outer s H vs Q E hr h=>?_)
 obtain ⟨x,rfl,r,ys,ws,rfl,hx5,ha,al,hw1,hw2,q⟩:=h
 refine ⟨_,(zc (wU (i:=1) wA.nd rfl rfl (CSc.of (N':=["_law_one"]) (sub:=[none]) (zf (top 59)) ["_law_row","_law_numbers"] rfl rfl (by decide +kernel) rfl) rfl (ww (pv 0)) (fun _ _ _ _ _ _=>zj (i:=0) (show (["_law_one"]:List Str).Nodup by decide +kernel) rfl (Or.inl rfl)) (fun _ _ _ _ _ _=>yc) (fun _ _ _ _ _ _=>(z6 (ur (K:=K) rfl) (pv 0) ze (fun _ _=>rfl)))) (zh (zt (vE (xf (U1 (K:=K) rfl hr) (pv 1) (zr (jB (K:=K) rfl) rfl g_sorted vR (za (pv 1) zb)) (zG _)) (wv (zr (uk rfl) rfl B.all VS (za (yL (CSc.of (N':=["_law_some"]) (sub:=[none]) (zf (top 59)) ["_law_row","_law_numbers"] rfl rfl (by decide +kernel) rfl) rfl (xc (pv 1)) (fun _ _ _ _ _ _=>zj (i:=0) (show (["_law_some"]:List Str).Nodup by decide +kernel) rfl (Or.inl rfl)) (fun _ _ _ _ _ _=>yc) (fun _ _ _ _ _ _=>(xf wF (zr (Y3 (K:=K) rfl) rfl B.len x6 (za (pv 0) zb)) ze (zG _)))) zb))))))),?_⟩
 have yl:=ha.len
 refine uA (fun v H'=>∃ ln zs,v = .ref ln /\ H' ln = some (.lst zs) /\ AllR (yz K H') zs (ws.map fun w=>w.nums.map Int.ofNat) /\ Grow [] H H') (fun Kk hk=>⟨_,rfl,r,rfl,⟨_,hx5⟩,uq (xs:=ys) (fun i vs σ' H'=>(∃ e0,σ' = [e0]) /\ H' = H /\ AllR (yz K H) vs ((ws.take i).map fun w=>w.nums.map Int.ofNat)) ⟨⟨_,rfl⟩,rfl,trivial⟩ (fun i vs σ' H' _ ⟨_,e,_⟩=>e ▸ hx5) ?_ ?_⟩) ?_
 ·rintro i x vs σ' H1 hx ⟨⟨e0,rfl⟩,rfl,hvs⟩
  obtain ⟨w5,hw5,r3,rd,rn,rfl,h1,h2,h3⟩:=ha.get hx
  have il:=(List.getElem?_eq_some_iff.mp hx).1
  refine ⟨_,rfl,r3,_,2,_,rfl,rfl,h1,zy (j:=2) rfl,?_,⟨_,rfl⟩,rfl,?_⟩
  ·rw [hvs.len,List.length_map,List.length_take]; exact zp (by omega)
  ·obtain ⟨hj,e⟩:=List.getElem?_eq_some_iff.mp hw5
   rw [List.take_succ_eq_append_getElem hj,e,List.map_append]
   exact hvs.app (.one ⟨rn,rfl,by rw [List.map_map]; exact h3⟩)
 ·rintro vs σ' H1 ⟨_,rfl,hvs⟩ l3 hl3
  rw [yl,List.take_length] at hvs
  have g:=Grow.new (m:=[]) hl3 (.lst vs)
  exact hk _ _ ⟨l3,vs,rfl,zd,hvs.imp fun _ _ z=>g.board z,g⟩
 rintro _ H1 ⟨ln,zs,rfl,hln,hz,g1⟩
 have zl:=hz.len
 rw [List.length_map] at zl
 have pw:(ws.map fun w=>w.nums.map Int.ofNat).Pairwise (fun x y=>ltL x y = true):=by
  refine List.pairwise_map.mpr (hw2.imp_of_mem fun {v w} hv hw h=>?_)
  have e1:=hw1 v hv
  have e2:=hw1 w hw
  obtain ⟨n1,en1⟩:=List.length_eq_one_iff.mp e1
  obtain ⟨n2,en2⟩:=List.length_eq_one_iff.mp e2
  rw [en1,en2] at h ⊢
  have h:n1 < n2:=h
  show ltL [(n1:Int)] [(n2:Int)] = true
  have h3:(n1:Int) < n2:=by omega
  have h4:¬ (n1:Int) = n2:=by omega
  simp [ltL,h3,h4]
 have nd:(ws.map fun w=>w.nums.map Int.ofNat).Nodup:=pw.imp fun {x y} h e=>by
  rw [e] at h
  have:∀ l:List Int,ltL l l = false:=fun l=>by
   induction l with
   | nil=>rfl
   | cons a l ih=>show (if a = a then ltL l l else _) = false; rw [if_pos rfl]; exact ih
  rw [this] at h; cases h
 have nem:∀ r ∈ ws.map fun w=>w.nums.map Int.ofNat,r ≠ []:=fun r hr=>by
  obtain ⟨w,hw,rfl⟩:=List.mem_map.mp hr
  intro z
  have:=congrArg List.length z
  rw [List.length_map,hw1 w hw] at this
  cases this
 refine ⟨_,rfl,_,rfl,ln,zs,_,rfl,SqL.of hln,hz,nd,nem,by rw [List.length_map]; omega,fun p zs' rows' hp pm pw' hz'=>?_⟩
 have er:=Zo pw' pw pm
 subst er
 have gp:=Grow.new (m:=[]) hp (.lst zs')
 have hln2:=gp.keep _ _ (by simp) hln
 refine ⟨_,.lst (SqL.of hln2) (sP (hz.imp fun _ _ z=>gp.board z)),.lst (SqL.of zd) (sP (hz'.imp fun _ _ z=>gp.board z)),⟨_,rfl⟩,Nat.le_trans (Nat.succ_le_succ (Zi _)) (by decide),_,rfl,iteT ?_⟩
 have hz2:=hz.imp fun _ _ z=>gp.board z
 generalize upd H1 p (.lst zs') = H2 at gp hln2 hz2 ⊢
 refine ⟨_,rfl,ln,rfl,⟨_,SqL.of hln2⟩,vm (xs:=zs) (fun i vs σ' H'=>(∃ e0,σ' = [e0]) /\ H' = H2 /\ vs = (List.replicate i true).map V.bl) ⟨⟨_,rfl⟩,rfl,rfl⟩ (fun i vs σ' H' _ ⟨_,e,_⟩=>e ▸ SqL.of hln2) ?_ ?_⟩
 ·rintro i x vs σ' H3 hx ⟨⟨e0,rfl⟩,rfl,rfl⟩
  have il:=(List.getElem?_eq_some_iff.mp hx).1
  obtain ⟨row,hrow,r5,rfl,h5⟩:=hz2.get hx
  obtain ⟨w,hw,rfl⟩:=List.mem_map.mp (List.mem_of_getElem? hrow)
  have e1:((w.nums.map Int.ofNat).map V.int).length = 1:=by rw [List.length_map,List.length_map,hw1 w hw]
  refine ⟨_,rfl,r5,_,rfl,.inr h5,rfl,zp (by rw [List.length_map,List.length_replicate]; omega),⟨_,rfl⟩,rfl,?_⟩
  rw [e1,List.replicate_succ',List.map_append]; rfl
 rintro vs σ' H3 ⟨_,rfl,rfl⟩ l hl
 refine ⟨l,_,rfl,SqL.of zd,?_⟩
 rw [show (List.replicate zs.length true).all id = true from by rw [List.all_eq_true]; intro b hb; rw [(List.mem_replicate.mp hb).2]; rfl]
 exact q _ (g1.trans (gp.trans (Grow.new hl _)))
theorem jR:FnScope ["thing"] ["thing"] (zf (top 11)):=⟨rfl,rfl,rfl,by decide +kernel,rfl,by decide +kernel,by decide +kernel⟩
theorem jS (F:Fun K "is_whole" "is_whole" (top 11) f fd) (B:Blt mg)      :
  FnOk P w K mg base CX0 (n + 1) f fd ["thing"] (xg K):=by
 refine F.ok jR yK (fun cdv A outer s H vs Q E hr h=>?_)
 obtain ⟨x,rfl,⟨T,ty⟩,q⟩:=h
 refine ⟨_,(zh (zt (vE (zr xH rfl B.isinstance yp (za (pv 0) (za (ui rfl B.int YU) zb))) (wv (Uy (zr xH rfl B.isinstance yp (za (pv 0) (za (ui rfl B.bool UN) zb)))))))),?_⟩
 cases x with
 | non=>cases (show T = "NoneType" from ty); exact ⟨_,rfl,_,_,_,false,rfl,rfl,rfl,_,rfl,iteF q⟩
 | bl y=>cases (show T = "bool" from ty); exact ⟨_,rfl,_,_,_,true,rfl,rfl,rfl,_,rfl,iteT ⟨_,rfl,_,_,_,true,rfl,rfl,rfl,_,rfl,q⟩⟩
 | int i=>cases (show T = "int" from ty); exact ⟨_,rfl,_,_,_,true,rfl,rfl,rfl,_,rfl,iteT ⟨_,rfl,_,_,_,false,rfl,rfl,rfl,_,rfl,q⟩⟩
 | str y=>cases (show T = "str" from ty); exact ⟨_,rfl,_,_,_,false,rfl,rfl,rfl,_,rfl,iteF q⟩
 | byt y=>exact ty.elim
 | flt y=>exact ty.elim
 | ty y=>exact ty.elim
 | ref a =>
  rcases ty with ⟨rfl,xs,hq⟩ | ⟨rfl,xs,hq⟩ | ⟨rfl,kvs,hq⟩
  ·exact ⟨_,rfl,_,_,_,false,rfl,.inl ⟨rfl,xs,hq⟩,rfl,_,rfl,iteF q⟩
  ·exact ⟨_,rfl,_,_,_,false,rfl,.inr (.inl ⟨rfl,xs,hq⟩),rfl,_,rfl,iteF q⟩
  ·exact ⟨_,rfl,_,_,_,false,rfl,.inr (.inr ⟨rfl,kvs,hq⟩),rfl,_,rfl,iteF q⟩
theorem qR:FnScope ["thing","least","greatest"] ["thing","least","greatest"] (zf (top 12)):=⟨rfl,rfl,rfl,by decide +kernel,rfl,by decide +kernel,by decide +kernel⟩
theorem qS (F:Fun K "is_within" "is_within" (top 12) f fd) (B:Blt mg) (qc0:zn P w K mg base n "is_whole" ["thing"] (xg K))     :
  FnOk P w K mg base CX0 (n + 1) f fd ["thing","least","greatest"] (ya K):=by
 refine F.ok qR yZ (fun cdv A outer s H vs Q E hr h=>?_)
 obtain ⟨x,y,z,rfl,i,l,u,rfl,rfl,rfl,q⟩:=h
 refine ⟨_,(zh (zt (vE (zi qc0 hr rfl (za (pv 0) zb)) (wv (Wf We We (pv 1) (pv 0) (pv 2)))))),?_⟩
 refine ⟨_,rfl,_,rfl,Zb,_,rfl,iteT ⟨_,rfl,_,rfl,_,_,rfl,rfl,_,rfl,?_⟩⟩
 by_cases c:l <= i
 ·refine yQ (decide_eq_true c) ⟨_,rfl,_,_,rfl,rfl,?_⟩
  rw [decide_eq_true c] at q; exact q
 ·refine yu (decide_eq_false c) ?_
  rw [decide_eq_false c] at q; exact q
theorem qT:FnScope ["k","stage","number"] ["k","stage","number"] (zf (top 29)):=⟨rfl,rfl,rfl,by decide +kernel,rfl,by decide +kernel,by decide +kernel⟩
theorem qU (F:Fun K "is_switch" "is_switch" (top 29) f fd) (B:Blt mg) (qc0:zn P w K mg base n "is_within" ["thing","least","greatest"] (ya K))     :
  FnOk P w K mg base CX0 (n + 1) f fd ["k","stage","number"] (XO K):=by
 refine F.ok qT yZ (fun cdv A outer s H vs Q E hr h=>?_)
 obtain ⟨x,y,z,rfl,k,s5,n5,rfl,rfl,rfl,k4,q⟩:=h
 refine ⟨_,(zh (zt (vE (zi qc0 hr rfl (za (pv 1) (za ze (za (pv 0) zb)))) (wv (zi qc0 hr rfl (za (pv 2) (za ze (za (zo yg (zo yH ze (zo yg (pv 0) ze)) ze) zb)))))))),?_⟩
 refine ⟨_,rfl,_,rfl,_,_,_,rfl,_,_,_,rfl,rfl,rfl,_,rfl,?_⟩
 by_cases c:1 <= s5 /\ s5 <= k
 ·obtain ⟨c1,c2⟩:=c
  have ek:(k:Int) - 1 = ((k - 1:Nat):Int):=by omega
  refine yQ (by rw [decide_eq_true (show (1:Int) <= s5 by omega),decide_eq_true (show (s5:Int) <= k by omega)]; rfl) ?_
  refine ⟨_,rfl,_,rfl,_,_,rfl,rfl,1,((k - 1:Nat):Int),rfl,congrArg V.int ek,xT (by omega),_,_,rfl,rfl,_,_,_,rfl,_,_,_,rfl,rfl,rfl,?_⟩
  rw [shl5]
  have e:(decide ((0:Int) <= n5) && decide ((n5:Int) <= ((2 ^ (k - 1):Nat):Int) - 1)) = decide (1 <= s5 /\ s5 <= k /\ n5 < 2 ^ (k - 1)):=by
   rw [decide_eq_true (show (0:Int) <= n5 by omega),Bool.true_and]
   exact decide_eq_decide.mpr ⟨fun h=>⟨c1,c2,by omega⟩,fun h=>by omega⟩
  rw [e]; exact q
 ·refine yu (by
   by_cases c1:1 <= s5
   ·rw [decide_eq_false (show ¬ (s5:Int) <= k by omega),Bool.and_false]
   ·rw [decide_eq_false (show ¬ (1:Int) <= s5 by omega),Bool.false_and]) ?_
  rw [decide_eq_false (fun h=>c ⟨h.1,h.2.1⟩)] at q
  exact q
theorem uP:FnScope ["self","stage","number"] ["self","stage","number"] (zf (zk (top 46) 16)):=⟨rfl,rfl,rfl,by decide +kernel,rfl,by decide +kernel,by decide +kernel⟩
theorem uQ (F:Fun K "joinings" "Net.joinings" (zk (top 46) 16) f fd) (B:Blt mg) {C:Addr} (T:NTxt K mg C) (qc0:zn P w K mg base n "is_switch" ["k","stage","number"] (XO K))     :
  FnOk P w K mg base CX0 (n + 1) f fd ["self","stage","number"] (wc C K):=by
 refine F.ok uP yZ (fun cdv A outer s H vs Q E hr h=>?_)
 obtain ⟨x,y,z,rfl,A5,ns,s5,n5,rfl,rfl,rfl,s1,sk,hn5,k4,hn,q⟩:=h
 refine ⟨_,(zc (z5 (yA (yx (zi qc0 hr rfl (za (zE (pv 0) rfl) (za (pv 1) (za (pv 2) zb)))))) (zh y7) zv) (zh (zt (x8 (Room.u1F hr) (zE (pv 0) rfl) (zO (za (pv 1) (za (pv 2) zb))) (fun _ _=>rfl))))),?_⟩
 refine ⟨_,rfl,_,C,_,_,_,rfl,hn.ob.choose_spec,T.cl,T.n_depth,zX,_,rfl,_,rfl,_,_,_,rfl,ns.k,s5,n5,rfl,rfl,rfl,k4,_,rfl,yu (by rw [decide_eq_true ⟨s1,sk,hn5⟩]; rfl) ?_⟩
 refine ⟨_,rfl,_,C,_,_,_,rfl,hn.ob.choose_spec,T.cl,T.n_keeping,wn,_,rfl,_,rfl,szl rfl,fun t ht=>?_⟩
 have gt:=Grow.new (m:=[]) ht (.tup [.int s5,.int n5])
 have kt:upd H t (.tup [.int s5,.int n5]) t = some (.tup [.int s5,.int n5]):=zd
 have hn2:=hn.grow0 gt
 exact ⟨_,_,rfl,(wY (kp:=ns.keep) s1 sk hn5) ▸ DGet.t hn2.dk (y4 kt),q _ gt⟩
theorem Ys:FnScope ["k","thing"] ["k","thing"] (zf (top 28)):=⟨rfl,rfl,rfl,by decide +kernel,rfl,by decide +kernel,by decide +kernel⟩
theorem Yt (F:Fun K "is_line" "is_line" (top 28) f fd) (B:Blt mg) (qc0:zn P w K mg base n "is_within" ["thing","least","greatest"] (ya K))     :
  FnOk P w K mg base CX0 (n + 1) f fd ["k","thing"] (wf K):=by
 refine F.ok Ys ym (fun cdv A outer s H vs Q E hr h=>?_)
 obtain ⟨x,y,rfl,k,l,rfl,rfl,k4,hl,q⟩:=h
 refine ⟨_,(zh (zt (zi qc0 hr rfl (za (pv 1) (za ze (za (zo yg (zo yH ze (pv 0)) ze) zb)))))),?_⟩
 refine ⟨_,rfl,_,rfl,_,_,rfl,rfl,xT k4,_,_,rfl,rfl,_,_,_,rfl,_,_,_,rfl,rfl,rfl,?_⟩
 rw [decide_eq_true (show (0:Int) <= l by omega),decide_eq_true (show (l:Int) <= 1 * 2 ^ ((k:Int)).toNat - 1 by rw [sN]; omega)]
 exact q
theorem tj:FnScope ["self","level","line"] ["self","level","line"] (zf (zk (top 46) 15)):=⟨rfl,rfl,rfl,by decide +kernel,rfl,by decide +kernel,by decide +kernel⟩
theorem tm (F:Fun K "waiting" "Net.waiting" (zk (top 46) 15) f fd) (B:Blt mg) {C:Addr} (T:NTxt K mg C) (qc0:zn P w K mg base n "is_line" ["k","thing"] (wf K)) (qc1:zn P w K mg base n "is_within" ["thing","least","greatest"] (ya K))     :
  FnOk P w K mg base CX0 (n + 1) f fd ["self","level","line"] (wI C K):=by
 refine F.ok tj yZ (fun cdv A outer s H vs Q E hr h=>?_)
 obtain ⟨x,y,z,rfl,A5,ns,l,j,rfl,rfl,rfl,hl,hj,k4,hlen,hn,q⟩:=h
 refine ⟨_,(zc (z5 (yA (PW.pt (xR (yx (zi qc1 hr rfl (za (pv 1) (za ze (za (zE (pv 0) rfl) zb))))) (xb (yx (zi qc0 hr rfl (za (zE (pv 0) rfl) (za (pv 2) zb)))))))) (zh y7) zv) (zh (zt (yh yJ rfl B.tuple xr (za (yL (CSc.of (N':=["box","deed","numbers","met"]) (sub:=[none,none,none,none]) (zf (zk (top 46) 15)) ["self","level","line"] rfl rfl (by decide +kernel) rfl) rfl (xc (x8 (Room.u1F hr) (zE (pv 0) rfl) (zO (za (pv 1) (za (pv 2) zb))) (fun _ _=>rfl))) (fun _ _ _ _ _ _=>jq (K:=K) 4 rfl rfl (zm (zj (i:=0) (show (["box","deed","numbers","met"]:List Str).Nodup by decide +kernel) rfl (Or.inl rfl) (Or.inr rfl)) (zm (zj (i:=1) (show (["box","deed","numbers","met"]:List Str).Nodup by decide +kernel) rfl (Or.inl rfl) (Or.inr rfl)) (zm (zj (i:=2) (show (["box","deed","numbers","met"]:List Str).Nodup by decide +kernel) rfl (Or.inl rfl) (Or.inr rfl)) (zm (zj (i:=3) (show (["box","deed","numbers","met"]:List Str).Nodup by decide +kernel) rfl (Or.inl rfl) (Or.inr rfl)) z7)))) rfl rfl) (fun _ _ _ _ _ _=>yc) (fun _ _ _ _ _ _=>(zO (za (pv 0) (za (pv 1) (za (pv 2) zb)))))) zb))))),?_⟩
 refine ⟨_,rfl,_,rfl,_,C,_,_,_,rfl,hn.ob.choose_spec,T.cl,T.n_depth,zX,_,_,_,rfl,_,_,_,rfl,rfl,rfl,_,rfl,yQ (by rw [decide_eq_true (show (0:Int) <= l by omega),decide_eq_true (show (l:Int) <= ns.k by omega)]; rfl) ?_⟩
 refine ⟨_,rfl,_,C,_,_,_,rfl,hn.ob.choose_spec,T.cl,T.n_depth,zX,_,rfl,_,_,rfl,ns.k,j,rfl,rfl,k4,hj,_,rfl,iteF ?_⟩
 refine ⟨_,rfl,_,C,_,_,_,rfl,hn.ob.choose_spec,T.cl,T.n_lines,wZ,_,rfl,_,rfl,szl rfl,fun t ht=>?_⟩
 have gt:=Grow.new (m:=[]) ht (.tup [.int l,.int j])
 have kt:upd H t (.tup [.int l,.int j]) t = some (.tup [.int l,.int j]):=zd
 have hn2:=hn.grow0 gt
 refine ⟨_,_,rfl,(wX (A:=A5) hl hj) ▸ DGet.t hn2.dl (y4 kt),?_⟩
 obtain ⟨ys,hys,hw⟩:=hn2.ln hl hj
 have el:=hw.len
 generalize upd H t _ = H2 at gt kt hn2 hys hw ⊢
 refine ⟨_,rfl,⟨_,SqL.of hys⟩,uo (xs:=ys) (fun i vs σ' H'=>(∃ e0 e1 e2 e3,σ' = [e0,e1,e2,e3]) /\ Grow [] H2 H' /\ vs.length = i /\ AllR (W3At K H') vs ((ns.lines l j).take i)) ⟨⟨_,_,_,_,rfl⟩,Grow.refl _ _,rfl,trivial⟩ (fun i vs σ' H' _ ⟨_,g,_⟩=>SqL.of (g.keep _ _ (by simp) hys)) ?_ ?_⟩
 ·rintro i x vs σ' H3 hx ⟨⟨e0,e1,e2,e3,rfl⟩,g3,hvl,hvs⟩
  obtain ⟨w5,hw5,r,rd,rn,rm,mv,rfl,w1,w2,w3,w4,w6⟩:=hw.get hx
  have il:=(List.getElem?_eq_some_iff.mp hw5).1
  have etk:(ns.lines l j).take (i + 1) = (ns.lines l j).take i ++ [w5]:=by
   obtain ⟨hi,e⟩:=List.getElem?_eq_some_iff.mp hw5
   rw [List.take_succ_eq_append_getElem hi,e]
  refine ⟨r,_,rfl,g3.sqT w1,rfl,_,_,rfl,_,_,rfl,_,_,rfl,_,_,rfl,rfl,?_⟩
  refine ⟨_,rfl,_,rfl,_,rfl,szl rfl,fun t3 ht3=>?_⟩
  have g4:=Grow.new (m:=[]) ht3 (.tup [.int w5.box,.ref rd,.ref rn])
  have G4:=g3.trans g4
  refine ⟨zp (by omega),⟨_,_,_,_,rfl⟩,G4,by simp [hvl],?_⟩
  rw [etk]
  exact (hvs.imp fun _ _ ⟨a,b,c,e,z1,z2,z3⟩=>⟨a,b,c,e,g4.sqT z1,g4.sqT z2,g4.sqT z3⟩).app (.one ⟨t3,rd,rn,rfl,SqT.of zd,G4.sqT w2,G4.sqT w3⟩)
 rintro vs σ' H3 ⟨_,g3,hvl,hvs⟩ p hp
 rw [el,List.take_length] at hvs
 have g4:=Grow.new (m:=[]) hp (.lst vs)
 refine ⟨_,_,rfl,.inl ⟨SqL.of zd,fun t4 ht4=>?_⟩⟩
 have g5:=Grow.new (m:=[]) ht4 (.tup vs)
 have g45:=g4.trans g5
 exact q _ _ (gt.trans (g3.trans g45)) ⟨t4,vs,rfl,SqT.of zd,hvs.imp fun _ _ ⟨a,b,c,e,z1,z2,z3⟩=>⟨a,b,c,e,g45.sqT z1,g45.sqT z2,g45.sqT z3⟩⟩
theorem Yu:FnScope ["self"] ["self"] (zf (zk (top 46) 12)):=⟨rfl,rfl,rfl,by decide +kernel,rfl,by decide +kernel,by decide +kernel⟩
theorem Yv (F:Fun K "log" "Net.log" (zk (top 46) 12) f fd) (B:Blt mg) {C:Addr} (T:NTxt K mg C)      :
  FnOk P w K mg base CX0 (n + 1) f fd ["self"] (jM C K):=by
 refine F.ok Yu yK (fun cdv A outer s H vs Q E hr h=>?_)
 obtain ⟨x,rfl,A5,ns,rfl,hn,hl,q⟩:=h
 refine ⟨_,(zh (zt (yh yJ rfl B.tuple xr (za (zE (pv 0) rfl) zb)))),?_⟩
 have e:zT ns.log = (ns.log.map Int.ofNat).map V.int:=by rw [List.map_map]; rfl
 exact ⟨_,rfl,_,C,_,_,_,rfl,hn.ob.choose_spec,T.cl,T.n_logged,qJ,_,_,rfl,.inl ⟨SqL.of hn.lg,fun l hl=>q _ _ (Grow.new hl _) ⟨l,rfl,by rw [← e]; exact SqT.of zd⟩⟩⟩
theorem zK:FnScope ["_law_net","_law_k","_law_room","_law_kept","_law_asks","_law_found","_law_more","_law_level","_law_line","_law_row","_law_one","_law_pairs"] ["_law_net","_law_k","_law_room","_law_kept","_law_asks"] (zf (top 60)):=⟨rfl,rfl,rfl,by decide +kernel,rfl,by decide +kernel,by decide +kernel⟩
theorem tq (F:Fun K "_law_bounds" "_law_bounds" (top 60) f fd) (B:Blt mg) {C:Addr} (T:NTxt K mg C) (mc_joinings:zF P w K mg base C n "joinings" ["self","stage","number"] (wc C K)) (mc_waiting:zF P w K mg base C n "waiting" ["self","level","line"] (wI C K)) (mc_log:zF P w K mg base C n "log" ["self"] (jM C K)) (qc0:zn P w K mg base n "_law_spots" ["_law_first","_law_k","_law_many"] (sx K)) (qc1:zn P w K mg base n "_law_entry" ["_law_k","_law_level","_law_line","_law_one","_law_asks"] (su K)) (qc2:zn P w K mg base n "_law_as_put" ["_law_row"] (sv K))  (g_sorted:mg "sorted" = none) (g_sum:mg "sum" = none)   :
  FnOk P w K mg base CX0 (n + 1) f fd ["_law_net","_law_k","_law_room","_law_kept","_law_asks"] (uN C K):=by
 refine F.ok zK jo (fun cdv A outer s H vs Q E hr h=>?_)
 obtain ⟨x,y,z,u,w,rfl,A5,ns,r,xs,rfl,rfl,rfl,rfl,rfl,hx5,ha,hn,nx,hnn,q⟩:=h
 refine ⟨_,(zc (zC (i:=5) zK.nd rfl (Or.inl rfl) (yh vG rfl B.list YV (za (uz mc_log T.cl hr (pv 0)) zb))) (zc (zC (i:=6) zK.nd rfl (Or.inl rfl) ze) (zc (yE PassesOwn.never rfl (xc (zi qc0 hr rfl (za ze (za (pv 1) (za (zo yH ze (pv 1)) zb))))) (yT rfl (zm (zj (i:=7) zK.nd rfl (Or.inl rfl)) (zm (zj (i:=8) zK.nd rfl (Or.inl rfl)) z7))) (zc (zC (i:=9) zK.nd rfl (Or.inl rfl) (yM mc_waiting T.cl hr (pv 0) (za (pv 7) (za (pv 8) zb)))) (zc (z5 (PW.pt (vN (PW.pt (xR (zD rP (pv 7) ze (zG _)) (xb (zD rP (zr zx rfl B.len x6 (za (pv 9) zb)) (pv 2) (zG _))))) (xW (PW.pt (xR (zD wF (pv 7) ze (zG _)) (xb (yA (yx (zi qc2 hr rfl (za (pv 9) zb)))))))))) (zh (zt wD)) zv) (zh (yE PassesOwn.never rfl (ww (pv 9)) (zj (i:=10) zK.nd rfl (Or.inl rfl)) (zc (z5 (yA (yx (zi qc1 hr rfl (za (pv 1) (za (pv 7) (za (pv 8) (za (pv 10) (za (pv 4) zb)))))))) (zh (zt wD)) zv) (zc (zL (wp PySem.F.plainAttrs_list PySem.F.slot_list_extend PySem.F.type_list_extend (Z5 (K:=K) rfl) (pv 5) (za (z6 yV (pv 10) ze (fun _ _=>rfl)) zb))) (zh (zC (i:=6) zK.nd rfl (Or.inl rfl) (zo yg (zo yf (pv 6) (zr zx rfl B.len x6 (za (z6 yV (pv 10) ze (fun _ _=>rfl)) zb))) ze)))))))))) (zc (wU (i:=11) zK.nd rfl rfl (CSc.of (N':=["_law_stage","_law_number_here","_law_net"]) (sub:=[none,none,some 0]) (zf (top 60)) ["_law_net","_law_k","_law_room","_law_kept","_law_asks","_law_found","_law_more","_law_level","_law_line","_law_row","_law_one","_law_pairs"] rfl rfl (by decide +kernel) rfl) rfl (xc (zi qc0 hr rfl (za ze (za (pv 1) (za (zo wR (zo yH ze (pv 1)) ze) zb))))) (fun _ _ _ _ _ _=>jq (K:=K) 2 rfl rfl (zm (zj (i:=0) (show (["_law_stage","_law_number_here","_law_net"]:List Str).Nodup by decide +kernel) rfl (Or.inl rfl) (Or.inr rfl)) (zm (zj (i:=1) (show (["_law_stage","_law_number_here","_law_net"]:List Str).Nodup by decide +kernel) rfl (Or.inl rfl) (Or.inr rfl)) z7)) rfl rfl) (fun _ _ _ _ _ _=>yc) (fun _ _ _ _ _ _=>(yM mc_joinings T.cl hr (pv 2) (za (pv 0) (za (pv 1) zb))))) (zc (z5 (PW.pt (vN (zD rP (zr (Xb rfl) rfl B.max Wp (za (zo UL (pv 11) (yF (za ze zb))) zb)) (pv 3) (zG _)) (xW (zD ua (zr (Xi rfl) rfl g_sum TK (za (pv 11) zb)) (pv 6) (zG _))))) (zh (zt wD)) zv) (zh (zt (xf (UV hr) (zr (vJ (K:=K) rfl) rfl g_sorted vR (za (pv 5) zb)) (qm rfl rfl B.list rfl B.range (za (zr zx rfl B.len x6 (za (pv 4) zb)) zb)) (zG _))))))))),?_⟩
 have nw:=nx.nw
 have nr:=nw.nr
 have k4:=nr.k4
 have p16:=vo k4
 have a40:=nr.a40
 have l40:=nw.l40
 have flen:=X1 nw
 have xl:=ha.len
 refine ⟨_,rfl,_,_,_,rfl,hn.ob.choose_spec,Te,_,rfl,A5,ns,rfl,hn,by omega,fun z H1 g1 hz=>?_⟩
 obtain ⟨rz,rfl,hrz⟩:=hz
 refine ⟨rz,_,rfl,.inr hrz,fun lf hlf=>yy (yy ?_)⟩
 have g2:=Grow.new (m:=[]) hlf (.lst ((ns.log.map Int.ofNat).map V.int))
 have hlf2:upd H1 lf (.lst ((ns.log.map Int.ofNat).map V.int)) lf = some (.lst (zT ns.log)):=by rw [zd,List.map_map]; rfl
 have G2:=g1.trans g2
 have nrl:r ≠ lf:=fun e=>by
  have z:=g1.keep _ _ (by simp) hx5
  rw [e,hlf] at z; cases z
 have nql:∀ a,okA ns a -> A5 a ∉ [lf]:=fun a ha z=>by
  obtain ⟨o,h1,_⟩:=(hn.grow0 g1).at_ a ha
  rw [List.mem_singleton.mp z,hlf] at h1; cases h1
 have hn2:=hn.grow0 G2
 have hx2:=G2.keep _ _ (by simp) hx5
 have ha2:=ha.imp fun _ _ z=>G2.ask z
 generalize upd H1 lf _ = H2 at g2 hlf2 G2 hn2 hx2 ha2 ⊢
 refine Zy (fun σ' H'=>∃ e7 e8 e9 e10 e11,σ' = [some (.ref (A5 .p)),some (.int ns.k),some (.int ns.room),some (.int ns.kept),some (.ref r),some (.ref lf),some (.int (moQ ns (prs5 0 (2 ^ ns.k) (ns.k + 1) 0):Nat)),e7,e8,e9,e10,e11] /\ Grow [lf] H2 H' /\ H' lf = some (.lst (zT (ns.log ++ nmQ ns (prs5 0 (2 ^ ns.k) (ns.k + 1) 0))))) (fun D hD=>?_) ?_
 ·refine ⟨_,rfl,_,rfl,_,_,rfl,rfl,xT k4,_,_,_,rfl,0,ns.k,2 ^ ns.k,rfl,rfl,congrArg V.int shl5,by decide,k4,p16,fun r3 H3 g3 fr3 hsp=>?_⟩
  obtain ⟨r3',ys,e3,hr3,hp⟩:=hsp
  cases e3
  have n3:r3 ∉ [lf]:=fun z=>by rw [List.mem_singleton.mp z,hlf2] at fr3; cases fr3
  have hlf3:=g3.keep _ _ (by simp) hlf2
  rw [Nat.sub_zero] at hp
  have hPm:∀ q ∈ prs5 0 (2 ^ ns.k) (ns.k + 1) 0,q.1 <= ns.k /\ q.2 < 2 ^ ns.k:=fun q hq=>by
   rcases y8.mp hq with ⟨_,h1,h2⟩ | ⟨_,h2⟩
   ·exact ⟨by omega,h2⟩
   ·exact absurd h2 (Nat.not_lt_zero _)
  have hPl:(ns.log ++ nmQ ns (prs5 0 (2 ^ ns.k) (ns.k + 1) 0)).length <= 40:=by omega
  generalize prs5 0 (2 ^ ns.k) (ns.k + 1) 0 = P at hp hPm hPl hD
  have pl:=hp.len
  refine ⟨r3,rfl,⟨_,SqL.of hr3⟩,xq (xs:=ys) (fun i σ' H'=>∃ e7 e8 e9 e10 e11,σ' = [some (.ref (A5 .p)),some (.int ns.k),some (.int ns.room),some (.int ns.kept),some (.ref r),some (.ref lf),some (.int (moQ ns (P.take i):Nat)),e7,e8,e9,e10,e11] /\ Grow [lf] H3 H' /\ H' lf = some (.lst (zT (ns.log ++ nmQ ns (P.take i))))) ⟨_,_,_,_,_,rfl,Grow.refl _ _,by rw [List.take_zero]; show _ = some (HO.lst (zT (ns.log ++ []))); rw [List.append_nil]; exact hlf3⟩ (fun i σ H' _ ⟨_,_,_,_,_,_,g,_⟩=>SqL.of (g.keep _ _ n3 hr3)) ?_ ?_⟩
  rotate_left
  ·rintro σ H' ⟨e7,e8,e9,e10,e11,rfl,g,hv⟩
   rw [pl,List.take_length] at hv
   refine hD _ _ ⟨_,_,_,_,_,by rw [pl,List.take_length],(g3.wk (m:=[lf])).trans g,hv⟩
  rintro i x σ H4 hx ⟨e7,e8,e9,e10,e11,rfl,g4,hv4⟩
  obtain ⟨q5,hq5,r2,rfl,hr2⟩:=hp.get hx
  obtain ⟨q1,q2⟩:=hPm q5 (List.mem_of_getElem? hq5)
  have etk:P.take (i + 1) = P.take i ++ [q5]:=by
   obtain ⟨hi,e⟩:=List.getElem?_eq_some_iff.mp hq5
   rw [List.take_succ_eq_append_getElem hi,e]
  have enm:nmQ ns (P.take (i + 1)) = nmQ ns (P.take i) ++ zZ (ns.lines q5.1 q5.2):=by
   rw [etk]; unfold nmQ; rw [List.flatMap_append]; simp
  have emo:moQ ns (P.take (i + 1)) = moQ ns (P.take i) + lsum (fun w=>nlen w - 1) (ns.lines q5.1 q5.2):=by
   rw [etk]; unfold moQ sumQ; rw [List.map_append,List.sum_append]; simp
  have lenm:(ns.log ++ nmQ ns (P.take i)).length + (zZ (ns.lines q5.1 q5.2)).length <= 40:=by
   have e:P = P.take (i + 1) ++ P.drop (i + 1):=(List.take_append_drop _ _).symm
   rw [e] at hPl
   unfold nmQ at hPl
   rw [List.flatMap_append] at hPl
   have e2:(P.take (i + 1)).flatMap (fun q=>zZ (ns.lines q.1 q.2)) = nmQ ns (P.take (i + 1)):=rfl
   rw [e2,enm,List.length_append,List.length_append,List.length_append] at hPl
   rw [List.length_append]
   omega
  have G34:Grow [lf] H2 H4:=(g3.wk (m:=[lf])).trans g4
  have hn4:=hn2.grow G34 nql
  have LL:=(va nr q1 q2).1
  refine ⟨r2,_,rfl,g4.sqT hr2,rfl,_,_,rfl,_,_,rfl,rfl,?_⟩
  refine uA (fun v H'=>∃ rw zs,v = .ref rw /\ SqT K H' rw zs /\ AllR (W3At K H') zs (ns.lines q5.1 q5.2) /\ Grow [] H4 H') (fun Kk hk=>⟨_,rfl,_,_,_,rfl,hn4.ob.choose_spec,Yj,_,rfl,_,rfl,_,_,_,rfl,A5,ns,q5.1,q5.2,rfl,rfl,rfl,q1,q2,k4,by omega,hn4,fun u H5 g5 ⟨rw,zs,e,h1,h2⟩=>hk _ _ ⟨rw,zs,e,h1,h2,g5⟩⟩) ?_
  rintro _ H5 ⟨rw5,zs,rfl,hrw,hzs,g5⟩
  have zl:=hzs.len
  refine qu (fun b H'=>b = false /\ Grow [] H5 H') (fun Kk hk=>?_) ?_
  ·by_cases c0:q5.1 = 0
   ·obtain ⟨w1,w2⟩:=nx.lo q5.2
    have w1:∀ w ∈ ns.lines q5.1 q5.2,w.nums.length = 1:=by rw [c0]; exact w1
    have w2:(ns.lines q5.1 q5.2).Pairwise (fun v w=>v.nums.headD 0 < w.nums.headD 0):=by rw [c0]; exact w2
    refine ⟨_,rfl,_,_,rfl,rfl,_,rfl,yu (decide_eq_false (by omega)) (iteF ⟨_,rfl,rfl,_,rfl,yQ (decide_eq_true (congrArg V.int (by omega))) ⟨_,rfl,_,rfl,rw5,zs,_,rfl,hrw,hzs,by omega,w1,w2,fun H6 g6=>⟨_,rfl,hk _ _ ⟨rfl,g6⟩⟩⟩⟩)⟩
   ·have rm:=nx.rm q5.1 q5.2 (by omega)
    refine ⟨_,rfl,_,_,rfl,rfl,_,rfl,yQ (decide_eq_true (by omega)) ⟨_,rfl,rw5,zs,rfl,.inr hrw,_,rfl,_,_,rfl,rfl,_,rfl,yu (decide_eq_false (by omega)) ⟨_,rfl,rfl,_,rfl,yu (decide_eq_false fun z=>c0 (by have:=V.int.inj z; omega)) (hk _ _ ⟨rfl,Grow.refl _ _⟩)⟩⟩⟩
  rintro b H6 ⟨rfl,g6⟩
  refine iteF (xU ?_)
  have G46:=g5.trans g6
  have hrw6:=g6.sqT hrw
  have hzs6:=hzs.imp fun _ _ (⟨a1,a2,a3,e,z1,z2,z3⟩:W3At K H5 _ _)=>(⟨a1,a2,a3,e,g6.sqT z1,g6.sqT z2,g6.sqT z3⟩:W3At K H6 _ _)
  have hv6:=G46.keep _ _ (by simp) hv4
  have hx6:=(G34.trans (G46.wk (m:=[lf]))).keep _ _ (by simpa using nrl) hx2
  have ha6:=ha2.imp fun _ _ z=>(G34.trans (G46.wk (m:=[lf]))).ask z
  refine ⟨_,rfl,rw5,rfl,⟨_,hrw6⟩,vY (xs:=zs) (fun j σ' H'=>∃ (e10 e11:Option V) (c:Int),σ' = [some (.ref (A5 .p)),some (.int ns.k),some (.int ns.room),some (.int ns.kept),some (.ref r),some (.ref lf),some (.int c),some (.int q5.1),some (.int q5.2),some (.ref rw5),e10,e11] /\ c = ((moQ ns (P.take i) + lsum (fun w=>nlen w - 1) ((ns.lines q5.1 q5.2).take j):Nat):Int) /\ Grow [lf] H6 H' /\ H' lf = some (.lst (zT (ns.log ++ nmQ ns (P.take i) ++ zZ ((ns.lines q5.1 q5.2).take j))))) ⟨_,_,_,rfl,by rw [List.take_zero]; rfl,Grow.refl _ _,by rw [List.take_zero]; show _ = some (HO.lst (zT (ns.log ++ nmQ ns (P.take i) ++ []))); rw [List.append_nil]; exact hv6⟩ (fun j σ H' _ ⟨_,_,_,_,_,g,_⟩=>g.sqT hrw6) ?_ ?_⟩
  rotate_left
  ·rintro σ H' ⟨e10,e11,c,rfl,ec,g,hv⟩
   rw [zl,List.take_length] at hv ec
   refine ⟨_,_,_,_,_,by rw [emo,← ec],g4.trans ((G46.wk (m:=[lf])).trans g),?_⟩
   rw [enm,← List.append_assoc]; exact hv
  rintro j x σ H7 hx7 ⟨e10,e11,c,rfl,ec,g7,hv7⟩
  obtain ⟨w5,hw5,r5,rd5,rn5,rfl,h1,h2,h3⟩:=hzs6.get hx7
  have wm:=List.mem_of_getElem? hw5
  have W:=nr.lw q5.1 q5.2 q1 q2 w5 wm
  have wl:w5.nums.length <= 40:=Nat.le_trans (vT (g:=nlen) wm) (va nr q1 q2).2
  have ejt:(ns.lines q5.1 q5.2).take (j + 1) = (ns.lines q5.1 q5.2).take j ++ [w5]:=by
   obtain ⟨hj,e⟩:=List.getElem?_eq_some_iff.mp hw5
   rw [List.take_succ_eq_append_getElem hj,e]
  have enj:zZ ((ns.lines q5.1 q5.2).take (j + 1)) = zZ ((ns.lines q5.1 q5.2).take j) ++ w5.nums:=by
   rw [ejt]; unfold zZ; rw [List.flatMap_append]; simp
  have emj:lsum (fun w=>nlen w - 1) ((ns.lines q5.1 q5.2).take (j + 1)) = lsum (fun w=>nlen w - 1) ((ns.lines q5.1 q5.2).take j) + (w5.nums.length - 1):=by
   rw [ejt,xM,zH,xL]; rfl
  have lj:(zZ ((ns.lines q5.1 q5.2).take j)).length + w5.nums.length <= (zZ (ns.lines q5.1 q5.2)).length:=by
   have e:=congrArg (fun l=>(zZ l).length) (List.take_append_drop (j + 1) (ns.lines q5.1 q5.2)).symm
   unfold zZ at e
   rw [List.flatMap_append,List.length_append] at e
   have e2:((ns.lines q5.1 q5.2).take (j + 1)).flatMap (·.nums) = zZ ((ns.lines q5.1 q5.2).take (j + 1)):=rfl
   rw [e2,enj,List.length_append] at e
   unfold zZ at e ⊢
   omega
  have n1:1 <= w5.nums.length:=by
   cases e:w5.nums with
   | nil=>exact absurd e W.ne
   | cons a b=>exact Nat.succ_le_succ (Nat.zero_le _)
  refine ⟨_,rfl,_,rfl,_,rfl,_,rfl,_,rfl,_,_,_,_,_,rfl,ns.k,q5.1,q5.2,r,xs,ns.asks,w5,rfl,rfl,rfl,⟨r5,rd5,rn5,rfl,g7.sqT h1,g7.sqT h2,g7.sqT h3⟩,rfl,g7.keep _ _ (by simpa using nrl) hx6,ha6.imp fun _ _ z=>g7.ask z,a40,nx.en _ _ q1 q2 w5 wm,⟨W.ne,fun n hn'=>⟨W.nm n hn',?_⟩,wl⟩,⟨k4,q1⟩,fun H8 g8=>⟨_,rfl,iteF (xU ?_)⟩⟩
  ·have hl:=W.nm n hn'
   rw [List.getD_eq_getElem?_getD,List.getElem?_eq_getElem hl]
   exact hnn _ (List.getElem_mem hl)
  have hv8:=g8.keep _ _ (by simp) hv7
  have G78:=g7.trans (g8.wk (m:=[lf]))
  have nn:(zT w5.nums).length = w5.nums.length:=List.length_map ..
  have nn2:∀ l:List Nat,(zT l).length = l.length:=fun l=>List.length_map ..
  refine ⟨_,rfl,.inl ⟨rfl,_,SqL.of hv8⟩,_,rfl,r5,_,2,_,rfl,rfl,G78.sqT h1,zy (j:=2) rfl,lf,rn5,_,_,rfl,rfl,hv8,G78.sqT h3,Nat.le_of_lt (zp (by rw [nn,nn2,List.length_append]; omega)),?_⟩
  have g9:=Grow.set (m:=[lf]) hv8 (by simp) (zT (ns.log ++ nmQ ns (P.take i) ++ zZ ((ns.lines q5.1 q5.2).take j)) ++ zT w5.nums)
  have G79:=G78.trans g9
  refine ⟨_,rfl,_,rfl,r5,_,2,_,rfl,rfl,G79.sqT h1,zy (j:=2) rfl,rn5,_,rfl,.inr (G79.sqT h3),_,_,rfl,rfl,_,_,rfl,rfl,⟨_,_,_,rfl,?_,G79,?_⟩⟩
  ·rw [emj,nn,ec]; omega
  ·rw [zd,enj,← List.append_assoc]; unfold zT; rw [List.map_append (l₁:=ns.log ++ nmQ ns (P.take i) ++ zZ ((ns.lines q5.1 q5.2).take j))]
 rintro σ H3 ⟨e7,e8,e9,e10,e11,rfl,g3,hv3⟩
 have hn3:=hn2.grow g3 nql
 have hx3:=g3.keep _ _ (by simpa using nrl) hx2
 have eP:prs5 1 (2 ^ ns.k / 2) (ns.k + 1 - 1) 0 = prs5 1 (2 ^ (ns.k - 1)) ns.k 0:=by
  rw [Nat.add_sub_cancel]
  cases hk0:ns.k with
  | zero=>rfl
  | succ m=>rw [show 2 ^ (m + 1) / 2 = 2 ^ (m + 1 - 1) by rw [Nat.pow_succ,Nat.mul_div_cancel _ (by decide)]; rfl]
 refine uA (fun v H'=>∃ lp,v = .ref lp /\ H' lp = some (.lst (((prs5 1 (2 ^ (ns.k - 1)) ns.k 0).map fun q=>ns.keep q.1 q.2).map V.int)) /\ Grow [] H3 H') (fun Kk hk=>⟨_,rfl,_,rfl,_,_,rfl,rfl,xT k4,_,_,rfl,rfl,⟨by decide,by decide⟩,_,_,_,rfl,1,ns.k,2 ^ ns.k / 2,rfl,rfl,congrArg V.int (by rw [shl5]; rfl),by decide,k4,by omega,fun r5 H4 g4 fr5 hsp=>?_⟩) ?_
 ·obtain ⟨r5',ys,e5,hr5,hp⟩:=hsp
  cases e5
  rw [eP] at hp
  have hPm:∀ q ∈ prs5 1 (2 ^ (ns.k - 1)) ns.k 0,1 <= q.1 /\ q.1 <= ns.k /\ q.2 < 2 ^ (ns.k - 1):=fun q hq=>by
   rcases y8.mp hq with ⟨h0,h1,h2⟩ | ⟨_,h2⟩
   ·exact ⟨h0,by omega,h2⟩
   ·exact absurd h2 (Nat.not_lt_zero _)
  have p8:2 ^ (ns.k - 1) <= 16:=Nat.le_trans (Nat.pow_le_pow_right (by decide) (by omega)) p16
  have yl:ys.length <= 1000:=by rw [hp.len]; exact Nat.le_of_lt (vV p8 (by omega) (by omega))
  generalize prs5 1 (2 ^ (ns.k - 1)) ns.k 0 = P1 at hp hPm hk
  have pl:=hp.len
  refine ⟨r5,rfl,⟨_,SqL.of hr5⟩,uo (xs:=ys) (fun i vs σ' H'=>(∃ e0 e1,σ' = [e0,e1,some (.ref (A5 .p))]) /\ Grow [] H4 H' /\ vs = ((P1.take i).map fun q=>ns.keep q.1 q.2).map V.int) ⟨⟨_,_,rfl⟩,Grow.refl _ _,rfl⟩ (fun i vs σ' H' _ ⟨_,g,_⟩=>SqL.of (g.keep _ _ (by simp) hr5)) ?_ ?_⟩
  ·rintro i x vs σ' H5 hx ⟨⟨e0,e1,rfl⟩,g5,rfl⟩
   obtain ⟨q5,hq5,r2,rfl,hr2⟩:=hp.get hx
   have il:=(List.getElem?_eq_some_iff.mp hx).1
   obtain ⟨q0,q1,q2⟩:=hPm q5 (List.mem_of_getElem? hq5)
   have hn5:=hn3.grow0 (g4.trans g5)
   refine ⟨r2,_,rfl,g5.sqT hr2,rfl,_,_,rfl,_,_,rfl,rfl,?_⟩
   refine ⟨_,rfl,_,_,_,rfl,hn5.ob.choose_spec,jF,_,rfl,_,rfl,_,_,_,rfl,A5,ns,q5.1,q5.2,rfl,rfl,rfl,q0,q1,q2,k4,hn5,fun H6 g6=>?_⟩
   refine ⟨zp (by rw [List.length_map,List.length_map,List.length_take]; omega),⟨_,_,rfl⟩,g5.trans g6,?_⟩
   obtain ⟨hi,e⟩:=List.getElem?_eq_some_iff.mp hq5
   rw [List.take_succ_eq_append_getElem hi,e,List.map_append,List.map_append]; rfl
  ·rintro vs σ' H5 ⟨_,g5,rfl⟩ l hl
   rw [pl,List.take_length]
   exact hk _ _ ⟨l,rfl,zd,g4.trans (g5.trans (Grow.new hl _))⟩
 rintro _ H4 ⟨lp,rfl,hlp,g4⟩
 have hv4:=g4.keep _ _ (by simp) hv3
 have hx4:=g4.keep _ _ (by simp) hx3
 have more:=W9 nw
 have cnts:=XZ nw
 have klim:∀ v ∈ (prs5 1 (2 ^ (ns.k - 1)) ns.k 0).map fun q=>ns.keep q.1 q.2,v <= ns.kept:=fun v hv=>by
  obtain ⟨q,_,rfl⟩:=List.mem_map.mp hv
  exact nx.kl _ _
 have pll:((prs5 1 (2 ^ (ns.k - 1)) ns.k 0).map fun q=>ns.keep q.1 q.2).length <= 999:=by
  have p8:2 ^ (ns.k - 1) <= 16:=Nat.le_trans (Nat.pow_le_pow_right (by decide) (by omega)) p16
  rw [List.length_map]
  have:=vV (a:=1) (m:=2 ^ (ns.k - 1)) (i:=ns.k) (j:=0) p8 (by omega) (by omega)
  omega
 generalize ((prs5 1 (2 ^ (ns.k - 1)) ns.k 0).map fun q=>ns.keep q.1 q.2) = kl at hlp more klim pll
 refine qu (fun b H'=>b = false /\ Grow [] H4 H') (fun Kk hk=>?_) ?_
 ·refine ⟨_,rfl,szl rfl,fun l0 hl0=>?_⟩
  have g0:=Grow.new (m:=[]) hl0 (.lst [V.int 0])
  refine ⟨lp,l0,_,_,rfl,rfl,g0.keep _ _ (by simp) hlp,zd,Nat.le_of_lt (zp (by rw [List.length_map]; show kl.length + 1 <= 1000; omega)),fun l1 hl1=>?_⟩
  have g1':=Grow.new (m:=[]) hl1 (.lst (kl.map V.int ++ [V.int 0]))
  refine ⟨l1,kl ++ [0],rfl,by rw [List.map_append]; exact SqL.of zd,by simp,fun M hM hMx=>?_⟩
  have hMk:M <= ns.kept:=by
   rcases List.mem_append.mp hM with z | z
   ·exact klim M z
   ·rw [List.mem_singleton.mp z]; exact Int.natCast_nonneg _
  refine ⟨_,rfl,_,_,rfl,rfl,_,rfl,yu (decide_eq_false (by omega)) ?_⟩
  exact ⟨_,rfl,lp,kl,rfl,SqL.of ((g0.trans g1').keep _ _ (by simp) hlp),_,rfl,_,_,rfl,rfl,_,rfl,hk _ _ ⟨decide_eq_false (by omega),g0.trans g1'⟩⟩
 rintro b H5 ⟨rfl,g5⟩
 refine iteF (xU ?_)
 have hv5:=g5.keep _ _ (by simp) hv4
 have hx6:=g5.keep _ _ (by simp) hx4
 refine ⟨_,rfl,lf,(ns.log ++ nmQ ns (prs5 0 (2 ^ ns.k) (ns.k + 1) 0)).map Int.ofNat,rfl,by rw [List.map_map]; exact SqL.of hv5,by rw [List.length_map]; omega,fun ps ms hps pm pw=>?_⟩
 have gp:=Grow.new (m:=[]) hps (.lst (ms.map V.int))
 refine ⟨_,rfl,r,xs,rfl,.inl (SqL.of (gp.keep _ _ (by simp) hx6)),xs.length,rfl,by omega,fun lr hlr=>?_⟩
 have gr:=Grow.new (m:=[]) hlr (.lst ((List.range xs.length).map fun i:Nat=>V.int i))
 have hsl:=Yr cnts pm pw
 rw [← xl] at hsl
 have hx':((List.range xs.length).map fun i:Nat=>V.int i) = ((List.range xs.length).map Int.ofNat).map V.int:=by rw [List.map_map]; rfl
 have hall:(((List.range xs.length).map fun i:Nat=>V.int i)).all uX = true:=List.all_eq_true.mpr fun v hv=>by
  obtain ⟨i,_,rfl⟩:=List.mem_map.mp hv; rfl
 refine ⟨ps,lr,_,_,rfl,rfl,SqL.of (gr.keep _ _ (by simp) zd),SqL.of zd,by rw [hsl]; exact hall,hall,?_⟩
 have ee:eqVs (ms.map V.int) ((List.range xs.length).map fun i:Nat=>V.int i) = true:=by rw [hsl,hx',wS,decide_eq_true rfl]
 show Q (.bl (eqVs _ _)) _
 rw [ee]
 refine q _ ?_
 exact (G2.wk (m:=[lf])).trans (g3.trans ((g4.trans (g5.trans (gp.trans gr))).wk)) |>.less fun b hb=>.inr (by rw [List.mem_singleton.mp hb]; exact g1.free (by simp) hlf)
theorem vL:FnScope ["_law_pot_here","_law_many","_law_digit"] ["_law_pot_here","_law_many"] (zf (top 49)):=⟨rfl,rfl,rfl,by decide +kernel,rfl,by decide +kernel,by decide +kernel⟩
theorem qV (F:Fun K "_law_take" "_law_take" (top 49) f fd) (B:Blt mg)      :
  FnOk P w K mg base CX0 (n + 1) f fd ["_law_pot_here","_law_many"] (vh K):=by
 refine F.ok vL ym (fun cdv A outer s H vs Q E hr h=>?_)
 obtain ⟨x,y,rfl,a,m,rfl,rfl,⟨p0,p1,hp,h0⟩,hm,hm2,q⟩:=h
 refine ⟨_,(zc (z5 (zD rP (z6 zY (pv 0) ze (fun _ _=>rfl)) ze (zG _)) (zc (xp (zr qa rfl B.divmod Wq (za (z6 zY (pv 0) ze (fun _ _=>rfl)) (za (pv 1) zb))) (yT rfl (zm (j8 (pv 0) ze vQ) (zm (zj (i:=2) vL.nd rfl (Or.inl rfl)) z7)))) (zh (zt (pv 2)))) zv) (zc (xp (zo vF (zo yf (zo xI (z6 zY (pv 0) ze (fun _ _=>rfl)) ze) ze) ze) (j8 (pv 0) ze vQ)) (zh (zt (zo vF (zo wR (zo vF (zo xI (z6 zY (pv 0) ze (fun _ _=>rfl)) (z6 zY (pv 0) ze (fun _ _=>rfl))) ze) ze) (pv 1)))))),?_⟩
 refine ⟨_,rfl,a,_,_,_,rfl,rfl,SqL.of hp,rfl,_,_,rfl,rfl,_,rfl,?_⟩
 refine ite2 (fun c=>?_) (fun c=>?_)
 ·refine ⟨_,rfl,a,_,_,_,rfl,rfl,SqL.of hp,rfl,_,rfl,p0,m,rfl,⟨hm,hm2⟩,fun t ht=>?_⟩
  have hp':upd H t (.tup [.int (p0 / m),.int (p0 % m)]) a = some (.lst [.int p0,.int p1]):=by rw [zu (zA hp ht)]; exact hp
  refine ⟨t,_,rfl,SqT.of zd,rfl,_,_,rfl,_,rfl,a,_,0,0,rfl,rfl,hp',rfl,_,_,rfl,rfl,?_⟩
  exact ⟨_,rfl,q _ _ (Int.emod_nonneg _ (by omega)) (Int.emod_lt_of_pos _ hm) ((Grow.new ht _).trans (Grow.set hp' (by simp) _)) ⟨p0 / m,p1,zd,Int.ediv_nonneg h0 (by omega)⟩⟩
 ·refine ⟨_,rfl,a,_,_,_,rfl,rfl,SqL.of hp,rfl,p1,39373,rfl,rfl,tR ⟨by decide,by decide⟩,_,_,rfl,rfl,_,_,rfl,rfl,(by show (0:Int) < 2147483629; decide),_,rfl,a,_,1,1,rfl,rfl,hp,rfl,?_⟩
  have b0:0 <= (p1 * 39373 + 7919) % 2147483629:=Int.emod_nonneg _ (by decide)
  have b1:(p1 * 39373 + 7919) % 2147483629 < 2147483629:=Int.emod_lt_of_pos _ (by decide)
  refine ⟨_,rfl,a,_,_,_,rfl,rfl,SqL.of zd,rfl,_,rfl,a,_,_,_,rfl,rfl,SqL.of zd,rfl,(p1 * 39373 + 7919) % 2147483629,(p1 * 39373 + 7919) % 2147483629,rfl,rfl,tR ⟨by omega,by omega⟩,_,_,rfl,rfl,(by show (0:Int) < 2147483563; decide),_,_,rfl,rfl,⟨by decide,by decide⟩,_,rfl,_,_,rfl,rfl,hm,?_⟩
  exact q _ _ (Int.emod_nonneg _ (by omega)) (Int.emod_lt_of_pos _ hm) (Grow.set hp (by simp) _) ⟨p0,(p1 * 39373 + 7919) % 2147483629,zd,h0⟩
theorem yW:FnScope ["_law_pot_here","_law_k","_law_found","_law_turn","_law_stage","_law_number_here"] ["_law_pot_here","_law_k"] (zf (top 54)):=⟨rfl,rfl,rfl,by decide +kernel,rfl,by decide +kernel,by decide +kernel⟩
theorem qW (F:Fun K "_law_lost" "_law_lost" (top 54) f fd) (B:Blt mg) (qc0:zn P w K mg base n "_law_take" ["_law_pot_here","_law_many"] (vh K))     :
  FnOk P w K mg base CX0 (n + 1) f fd ["_law_pot_here","_law_k"] (ZG K):=by
 refine F.ok yW ym (fun cdv A outer s H vs Q E hr h=>?_)
 obtain ⟨x,y,rfl,p,k,rfl,rfl,pp,k4,q⟩:=h
 refine ⟨_,(zc (zC (i:=2) yW.nd rfl (Or.inl rfl) (yF zb)) (zc (z5 (zD wF (zi qc0 hr rfl (za (pv 0) (za ze zb))) ze (zG _)) (zh (yE PassesOwn.never rfl (ye rfl B.range (za (zo yf ze (zi qc0 hr rfl (za (pv 0) (za ze zb)))) zb)) (zj (i:=3) yW.nd rfl (Or.inl rfl)) (zc (zC (i:=4) yW.nd rfl (Or.inl rfl) (zi qc0 hr rfl (za (pv 0) (za (zo yf (pv 1) ze) zb)))) (zc (zC (i:=5) yW.nd rfl (Or.inl rfl) (zi qc0 hr rfl (za (pv 0) (za (zr (ub rfl) rfl B.max Wp (za ze (za (zo wR (zo yH ze (pv 1)) (zo yf ze (yh wQ rfl B.int YU (za (xf rP (pv 4) ze (zG _)) zb)))) zb))) zb)))) (zh (zL (wp PySem.F.plainAttrs_list PySem.F.slot_list_extend PySem.F.type_list_extend xZ (pv 2) (za (zo YR (yF (za (zO (za (pv 4) (za (pv 5) zb))) zb)) (zo yf ze (yh wQ rfl B.int YU (za (xf wF (zi qc0 hr rfl (za (pv 0) (za ze zb))) ze (zG _)) zb)))) zb)))))))) zv) (zh (zt (yh yJ rfl B.tuple xr (za (pv 2) zb)))))),?_⟩
 have p16:=vo k4
 refine ⟨szl rfl,fun lt hlt=>yy ?_⟩
 have g0:=Grow.new (m:=[]) hlt (.lst [])
 have hlt0:=zd (H:=H) (a:=lt) (o:=.lst [])
 have pp0:=pp.grow g0
 have nlp:lt ≠ p:=fun e=>by
  obtain ⟨p0,p1,z,_⟩:=pp
  rw [← e,hlt] at z; cases z
 generalize upd H lt (.lst []) = H0 at g0 hlt0 pp0 ⊢
 refine c_if (fun σ' H'=>∃ e3 e4 e5 ys gone,σ' = [some (.ref p),some (.int k),some (.ref lt),e3,e4,e5] /\ Grow [lt,p] H0 H' /\ Pot H' p /\ H' lt = some (.lst ys) /\ AllR (sY K H') ys gone /\ (∀ q ∈ gone,vK k q) /\ ys.length <= 1000) ?_ ?_
 ·rintro σ' H1 ⟨e3,e4,e5,ys,gone,rfl,g1,pp1,hy,hr,ok,yl⟩
  refine ⟨_,rfl,lt,ys,rfl,.inl ⟨SqL.of hy,fun t ht=>?_⟩⟩
  have gt:=Grow.new (m:=[]) ht (.tup ys)
  refine q gone _ _ ok ?_ (pp1.grow gt) ⟨t,ys,rfl,SqT.of zd,hr.imp fun _ _ ⟨r,e,z⟩=>⟨r,e,gt.sqT z⟩,yl⟩
  exact ((g0.wk (m:=[lt,p])).trans (g1.trans gt.wk)).less fun b hb=>by
   simp only [List.mem_cons,List.not_mem_nil,or_false] at hb
   rcases hb with rfl | rfl
   ·exact .inr hlt
   ·exact .inl (by simp)
 intro hr2
 refine ⟨_,rfl,_,_,rfl,p,3,rfl,rfl,pp0,by decide,by decide,fun n1 H1 l1 u1 g1 pp1=>⟨rfl,_,rfl,?_⟩⟩
 have hlt1:=g1.keep _ _ (by simpa using nlp) hlt0
 have G1:Grow [lt,p] H0 H1:=g1.mono (by simp)
 by_cases c:n1 = 0
 rotate_left
 ·exact yu (decide_eq_false fun z=>c (V.int.inj z)) (hr2 _ _ ⟨_,_,_,[],[],rfl,G1,pp1,hlt1,trivial,by simp,by decide⟩)
 refine yQ (decide_eq_true (congrArg V.int c)) ?_
 refine ⟨_,rfl,_,_,rfl,p,5,rfl,rfl,pp1,by decide,by decide,fun n2 H2 l2 u2 g2 pp2=>⟨_,_,rfl,rfl,_,rfl,by omega,by omega,?_⟩⟩
 have hlt2:=g2.keep _ _ (by simpa using nlp) hlt1
 have G2:Grow [lt,p] H0 H2:=G1.trans (g2.mono (by simp))
 refine yU (fun i σ H'=>∃ e3 e4 e5 ys gone,σ = [some (.ref p),some (.int k),some (.ref lt),e3,e4,e5] /\ Grow [lt,p] H0 H' /\ Pot H' p /\ H' lt = some (.lst ys) /\ AllR (sY K H') ys gone /\ (∀ q ∈ gone,vK k q) /\ ys.length <= 2 * i) ⟨_,_,_,[],[],rfl,G2,pp2,hlt2,trivial,by simp,by decide⟩ ?_ ?_
 rotate_left
 ·rintro σ H' ⟨e3,e4,e5,ys,gone,rfl,g,pp',hy,hr,ok,yl⟩
  exact hr2 _ _ ⟨_,_,_,ys,gone,rfl,g,pp',hy,hr,ok,by omega⟩
 rintro i σ H3 hi ⟨e3,e4,e5,ys,gone,rfl,g3,pp3,hy,hr,ok,yl⟩
 refine ⟨_,rfl,_,rfl,_,_,rfl,rfl,_,_,rfl,p,_,rfl,rfl,pp3,by omega,by omega,fun st H4 s0 s1 g4 pp4=>yy ?_⟩
 have hy4:=g4.keep _ _ (by simpa using nlp) hy
 have hdv:∃ mx:Int,(if (1 * 2 ^ ((k:Int)).toNat) / (1 + (if decide ((0:Int) < st) = true then 1 else 0)) > (1:Int) then (1 * 2 ^ ((k:Int)).toNat) / (1 + (if decide ((0:Int) < st) = true then 1 else 0)) else (1:Int)) = mx /\ 0 < mx /\ mx <= 16 /\ ∀ n:Int,0 <= n -> n < mx -> vK k (st.toNat,n.toNat):=by
  rw [shl5]
  refine ⟨_,rfl,?_⟩
  by_cases c0:0 < st
  ·rw [decide_eq_true c0,show ((1:Int) + if true = true then 1 else 0) = 1 + 1 from rfl]
   have hk:1 <= k:=by omega
   have e2:((2 ^ k:Nat):Int) / (1 + 1) = ((2 ^ (k - 1):Nat):Int):=by
    have:2 ^ k = 2 ^ (k - 1) * 2:=by rw [← Nat.pow_succ]; congr 1; omega
    rw [this]; omega
   rw [e2]
   have hp1:=Nat.two_pow_pos (k - 1)
   have hp2:2 ^ (k - 1) <= 16:=Nat.le_trans (Nat.pow_le_pow_right (by decide) (by omega)) p16
   refine ⟨by split <;> omega,by split <;> omega,fun n n0 n1=>.inl ⟨by show 1 <= st.toNat; omega,by show st.toNat <= k; omega,?_⟩⟩
   show n.toNat < 2 ^ (k - 1)
   split at n1 <;> omega
  ·rw [decide_eq_false c0,show ((1:Int) + if false = true then 1 else 0) = 1 from rfl,Int.ediv_one]
   have hp1:=Nat.two_pow_pos k
   refine ⟨by split <;> omega,by split <;> omega,fun n n0 n1=>.inr ⟨by show st.toNat = 0; omega,?_⟩⟩
   show n.toNat < 2 ^ k
   split at n1 <;> omega
 obtain ⟨mx,emx,m0,m16,mok⟩:=hdv
 refine ⟨_,rfl,_,rfl,_,_,rfl,rfl,xT k4,_,rfl,_,_,rfl,rfl,.inr ⟨_,rfl,_,_,rfl,rfl,_,_,rfl,rfl,⟨by split <;> decide,by split <;> decide⟩,_,_,rfl,_,_,rfl,p,mx,rfl,congrArg V.int emx,pp4,m0,by omega,fun nn H5 n0 n1' g5 pp5=>yy ?_⟩⟩
 have hy5:=g5.keep _ _ (by simpa using nlp) hy4
 refine ⟨_,rfl,.inl ⟨rfl,_,SqL.of hy5⟩,_,rfl,_,rfl,szl rfl,fun t ht=>⟨szl rfl,fun l3 hl3=>?_⟩⟩
 have f1:=Grow.new (m:=[]) ht (.tup [.int st,.int nn])
 have f2:=Grow.new (m:=[]) hl3 (.lst [.ref t])
 have s1:upd (upd H5 t (.tup [.int st,.int nn])) l3 (.lst [.ref t]) t = some (.tup [.int st,.int nn]):=f2.tup _ _ zd
 have s2:upd (upd H5 t (.tup [.int st,.int nn])) l3 (.lst [.ref t]) l3 = some (.lst [.ref t]):=zd
 have F:=f1.trans f2
 have pp6:=pp5.grow F
 have hy6:=F.keep _ _ (by simp) hy5
 generalize upd (upd H5 t _) l3 _ = H6 at F s1 s2 pp6 hy6 ⊢
 have nl3:l3 ≠ p:=fun e=>by
  obtain ⟨p0,p1,z,_⟩:=pp6
  rw [← e,s2] at z; cases z
 refine ⟨_,rfl,_,_,rfl,p,6,rfl,rfl,pp6,by decide,by decide,fun n6 H7 l6 u6 g7 pp7=>⟨rfl,?_⟩⟩
 have s27:=g7.keep _ _ (by simpa using nl3) s2
 have hy7:=g7.keep _ _ (by simpa using nlp) hy6
 obtain ⟨cn,hcn,c1,c2⟩:∃ cn:Nat,((1:Int) + if decide (V.int n6 = V.int 0) = true then 1 else 0) = (cn:Int) /\ 1 <= cn /\ cn <= 2:=by
  by_cases z:V.int n6 = V.int 0
  ·rw [decide_eq_true z,if_pos rfl]; exact ⟨2,rfl,by decide,by decide⟩
  ·rw [decide_eq_false z,if_neg (by decide)]; exact ⟨1,rfl,by decide,by decide⟩
 refine .inr ⟨_,rfl,_,_,rfl,rfl,l3,(cn:Int),_,rfl,congrArg V.int hcn,s27,by omega,by omega,by rw [Int.toNat_natCast]; exact Nat.le_of_lt (zp (by show 1 * cn <= 1000; omega)),fun l4 hl4=>?_⟩
 rw [Int.toNat_natCast,sQ]
 have g8:=Grow.new (m:=[]) hl4 (.lst (List.replicate cn (.ref t)))
 have hy8:=g8.keep _ _ (by simp) hy7
 have g9:=Grow.set (m:=[lt]) hy8 (by simp) (ys ++ List.replicate cn (.ref t))
 refine ⟨lt,l4,ys,_,rfl,rfl,hy8,zd,by rw [List.length_replicate]; exact Nat.le_of_lt (zp (by omega)),?_⟩
 have G5:Grow [lt,p] H3 _:=(g4.mono (m':=[lt,p]) (by simp)).trans ((g5.mono (m':=[lt,p]) (by simp)).trans (F.wk.trans ((g7.mono (m':=[lt,p]) (by simp)).trans (g8.wk.trans (g9.mono (m':=[lt,p]) (by simp))))))
 have est:((st.toNat:Nat):Int) = st:=Int.toNat_of_nonneg s0
 have enn:((nn.toNat:Nat):Int) = nn:=Int.toNat_of_nonneg n0
 have plt:p ∉ [lt]:=by simpa using nlp.symm
 have pp9:Pot (upd (upd H7 l4 (.lst (List.replicate cn (.ref t)))) lt (.lst (ys ++ List.replicate cn (.ref t)))) p:=by
  obtain ⟨p0,p1,z,z0⟩:=pp7.grow g8
  exact ⟨p0,p1,g9.keep _ _ plt z,z0⟩
 refine ⟨_,_,_,ys ++ List.replicate cn (.ref t),gone ++ List.replicate cn (st.toNat,nn.toNat),rfl,g3.trans G5,pp9,zd,?_,?_,by rw [List.length_append,List.length_replicate]; omega⟩
 ·refine (hr.imp fun _ _ ⟨r,e,z⟩=>⟨r,e,G5.sqT z⟩).app (qO ⟨t,rfl,?_⟩)
  show SqT K _ t [.int ((st.toNat:Nat):Int),.int ((nn.toNat:Nat):Int)]
  rw [est,enn]
  exact SqT.of (g9.tup _ _ (g8.tup _ _ (g7.tup _ _ s1)))
 ·intro q hq
  rcases List.mem_append.mp hq with hq | hq
  ·exact ok q hq
  ·rw [(List.mem_replicate.mp hq).2]; exact mok nn n0 n1'
theorem wB:FnScope ["_law_pot_here","_law_menu"] ["_law_pot_here"] (zf (top 50)):=⟨rfl,rfl,rfl,by decide +kernel,rfl,by decide +kernel,by decide +kernel⟩
theorem tw (F:Fun K "_law_number" "_law_number" (top 50) f fd) (B:Blt mg) (qc0:zn P w K mg base n "_law_take" ["_law_pot_here","_law_many"] (vh K))     :
  FnOk P w K mg base CX0 (n + 1) f fd ["_law_pot_here"] (jP K):=by
 refine F.ok wB yK (fun cdv A outer s H vs Q E hr h=>?_)
 obtain ⟨x,rfl,a,rfl,pp,q⟩:=h
 refine ⟨_,(zc (zC (i:=1) wB.nd rfl (Or.inl rfl) (zi qc0 hr rfl (za (pv 0) (za ze zb)))) (zc (z5 (zD ua (pv 1) ze (zG _)) (zh (zt (zo yg (zi qc0 hr rfl (za (pv 0) (za ze zb))) ze))) zv) (zc (z5 (zD wF (pv 1) ze (zG _)) (zh (zt (zo yg (zi qc0 hr rfl (za (pv 0) (za (zo xI ze (zo rN ze ze)) zb))) (zo rN ze ze)))) zv) (zh (zt (z6 zY (yF (za ze (za ze (za (jh vZ ze) (za (zo yg ze (zi qc0 hr rfl (za (pv 0) (za ze zb)))) zb))))) (zi qc0 hr rfl (za (pv 0) (za ze zb))) (fun _ _=>rfl))))))),?_⟩
 refine ⟨_,rfl,_,_,rfl,a,5,rfl,rfl,pp,by decide,by decide,fun c0 H1 l0 u0 g1 pp1=>⟨_,rfl,_,_,rfl,rfl,_,rfl,?_⟩⟩
 by_cases c:c0 < 2
 ·refine yQ (decide_eq_true c) ⟨_,rfl,_,_,rfl,a,9,rfl,rfl,pp1,by decide,by decide,fun n1 H2 l1 u1 g2 pp2=>⟨_,_,rfl,rfl,q _ _ ?_ ?_ (g1.trans g2) pp2⟩⟩
  ·show -(10 ^ 29) <= n1 - 4
   omega
  ·show n1 - 4 <= 10 ^ 29
   omega
 refine yu (decide_eq_false c) (xU ⟨_,rfl,rfl,_,rfl,?_⟩)
 by_cases c4:c0 = 4
 ·refine yQ (decide_eq_true (congrArg V.int c4)) ⟨_,rfl,_,_,rfl,rfl,⟨by decide,by decide,by decide⟩,_,_,rfl,rfl,Y9 ⟨by decide,by decide⟩,_,_,rfl,a,2 * 10 ^ 29,rfl,rfl,pp1,by decide,by decide,fun n1 H2 l1 u1 g2 pp2=>⟨_,_,rfl,rfl,⟨by decide,by decide,by decide⟩,_,_,rfl,rfl,q _ _ ?_ ?_ (g1.trans g2) pp2⟩⟩
  ·show -(10 ^ 29) <= n1 - 10 ^ 29
   omega
  ·show n1 - 10 ^ 29 <= 10 ^ 29
   omega
 refine yu (decide_eq_false fun z=>c4 (V.int.inj z)) (xU ?_)
 refine ⟨_,rfl,_,rfl,_,_,rfl,a,200,rfl,rfl,pp1,by decide,by decide,fun n1 H2 l1 u1 g2 pp2=>⟨_,_,rfl,rfl,szl rfl,fun t ht=>?_⟩⟩
 have gt:=Grow.new (m:=[]) ht (.lst [V.int 0,.int 1,.int (-1),.int (100 - n1)])
 refine ⟨_,rfl,_,_,rfl,a,4,rfl,rfl,pp2.grow gt,by decide,by decide,fun n2 H3 l2 u2 g3 pp3=>?_⟩
 have nat:t ≠ a:=fun e=>by
  obtain ⟨p0,p1,z,_⟩:=pp2
  rw [← e,ht] at z; cases z
 have ht3:H3 t = some (.lst [V.int 0,.int 1,.int (-1),.int (100 - n1)]):=g3.keep _ _ (by simpa using nat) zd
 have G:Grow [a] H H3:=g1.trans (g2.trans (gt.wk.trans g3))
 obtain h | h | h | h:n2 = 0 \/ n2 = 1 \/ n2 = 2 \/ n2 = 3:=by omega
 ·subst h; exact ⟨t,_,0,_,rfl,rfl,SqL.of ht3,zy (j:=0) rfl,q _ _ (by decide) (by decide) G pp3⟩
 ·subst h; exact ⟨t,_,1,_,rfl,rfl,SqL.of ht3,zy (j:=1) rfl,q _ _ (by decide) (by decide) G pp3⟩
 ·subst h; exact ⟨t,_,2,_,rfl,rfl,SqL.of ht3,zy (j:=2) rfl,q _ _ (by decide) (by decide) G pp3⟩
 ·subst h; exact ⟨t,_,3,_,rfl,rfl,SqL.of ht3,zy (j:=3) rfl,q _ _ (by show -(10 ^ 29) <= 100 - n1; omega) (by show 100 - n1 <= 10 ^ 29; omega) G pp3⟩
theorem yX:FnScope ["_law_pot_here","_law_menu","_law_low","_law_high","_law_add"] ["_law_pot_here"] (zf (top 51)):=⟨rfl,rfl,rfl,by decide +kernel,rfl,by decide +kernel,by decide +kernel⟩
theorem qX (F:Fun K "_law_deed" "_law_deed" (top 51) f fd) (B:Blt mg) (qc0:zn P w K mg base n "_law_take" ["_law_pot_here","_law_many"] (vh K)) (qc1:zn P w K mg base n "_law_number" ["_law_pot_here"] (jP K))  (g_sorted:mg "sorted" = none)   :
  FnOk P w K mg base CX0 (n + 1) f fd ["_law_pot_here"] (ZF K):=by
 refine F.ok yX yK (fun cdv A outer s H vs Q E hr h=>?_)
 obtain ⟨x,rfl,a,rfl,pp,q⟩:=h
 refine ⟨_,(zc (zC (i:=1) yX.nd rfl (Or.inl rfl) (zi qc0 hr rfl (za (pv 0) (za ze zb)))) (zc (z5 (zD ua (pv 1) ze (zG _)) (zh (zt (zO (za (z6 zY (yF (za ze (za (zi qc1 hr rfl (za (pv 0) zb)) (za ze zb)))) (pv 1) (fun _ _=>rfl)) (za j6 (za j6 zb)))))) zv) (zc (xp (zr (vJ (K:=K) rfl) rfl g_sorted vR (za (yF (za (zi qc1 hr rfl (za (pv 0) zb)) (za (zi qc1 hr rfl (za (pv 0) zb)) zb))) zb)) (W3 rfl (zm (zj (i:=2) yX.nd rfl (Or.inl rfl)) (zm (zj (i:=3) yX.nd rfl (Or.inl rfl)) z7)))) (zc (z5 (PW.pt (vN (zD wF (pv 1) ze (zG _)) (xW (zD wF (pv 2) (pv 3) (zG _))))) (zh (zt (zO (za ze (za (pv 2) (za (pv 2) zb)))))) zv) (zc (zC (i:=4) yX.nd rfl (Or.inl rfl) (zo xI (zi qc1 hr rfl (za (pv 0) zb)) (yh wQ rfl B.int YU (za (xf rP (pv 1) ze (zG _)) zb)))) (zh (zt (z6 zY (yF (za (zO (za (pv 4) (za (pv 2) (za j6 zb)))) (za (zO (za (pv 4) (za j6 (za (pv 3) zb)))) (za (zO (za (pv 4) (za (pv 2) (za (pv 3) zb)))) zb)))) (zi qc0 hr rfl (za (pv 0) (za ze zb))) (fun _ _=>rfl))))))))),?_⟩
 refine ⟨_,rfl,_,_,rfl,a,8,rfl,rfl,pp,by decide,by decide,fun c0 H1 l0 u0 g1 pp1=>⟨_,rfl,_,_,rfl,rfl,_,rfl,?_⟩⟩
 by_cases c:c0 < 3
 ·refine yQ (decide_eq_true c) ⟨_,rfl,_,rfl,a,rfl,pp1,fun n1 H2 _ _ g2 pp2=>⟨szl rfl,fun t ht=>?_⟩⟩
  have gt:=Grow.new (m:=[]) ht (.lst [V.int 1,.int n1,.int 0])
  have fin:∀ (v:Int) (t2:Addr),upd H2 t (.lst [V.int 1,.int n1,.int 0]) t2 = none -> Q (.ref t2) (upd (upd H2 t (.lst [V.int 1,.int n1,.int 0])) t2 (.tup [.int v,.non,.non])):=fun v t2 ht2=>q ⟨v,none,none⟩ _ _ (fun _ _ z=>nomatch z) (g1.trans (g2.trans (gt.wk.trans (Grow.new ht2 _)))) ((pp2.grow gt).grow (Grow.new ht2 _)) ⟨t2,rfl,SqT.of zd⟩
  obtain h | h | h:c0 = 0 \/ c0 = 1 \/ c0 = 2:=by omega
  ·subst h; exact ⟨_,rfl,t,_,0,_,rfl,rfl,SqL.of zd,zy (j:=0) rfl,szl rfl,fin 1⟩
  ·subst h; exact ⟨_,rfl,t,_,1,_,rfl,rfl,SqL.of zd,zy (j:=1) rfl,szl rfl,fin n1⟩
  ·subst h; exact ⟨_,rfl,t,_,2,_,rfl,rfl,SqL.of zd,zy (j:=2) rfl,szl rfl,fin 0⟩
 refine yu (decide_eq_false c) (xU ?_)
 refine ⟨_,rfl,_,rfl,a,rfl,pp1,fun n1 H2 _ _ g2 pp2=>⟨_,rfl,_,rfl,a,rfl,pp2,fun n2 H3 _ _ g3 pp3=>⟨szl rfl,fun t ht=>?_⟩⟩⟩
 have gt:=Grow.new (m:=[]) ht (.lst [V.int n1,.int n2])
 refine ⟨t,[n1,n2],rfl,SqL.of zd,by show (2:Nat) < 64; decide,fun p ms hp pm pw=>?_⟩
 obtain ⟨lo,hi,rfl⟩:∃ lo hi,ms = [lo,hi]:=by
  have:=pm.length_eq
  match ms,this with
  | [x,y],_=>exact ⟨x,y,rfl⟩
 have lh:lo <= hi:=by simpa using pw
 have gp:=Grow.new (m:=[]) hp (.lst ([lo,hi].map V.int))
 have G4:Grow [a] H _:=g1.trans (g2.trans (g3.trans ((gt.trans gp).wk (m:=[a]))))
 have pp4:=(pp3.grow gt).grow gp
 refine ⟨p,_,rfl,SqL.of zd,rfl,_,_,rfl,_,_,rfl,rfl,?_⟩
 refine c_nx ?_
 generalize upd (upd H3 t _) p _ = H4 at G4 pp4 ⊢
 have eqv:∀ H5 t5,Grow [a] H H5 -> Pot H5 a -> SqT K H5 t5 [.int 0,.int lo,.int lo] -> Q (.ref t5) H5:=fun H5 t5 g5 p5 h5=>q ⟨0,some lo,some lo⟩ _ _ (fun l u h1 h2=>.inr ⟨by cases h1; cases h2; rfl,rfl⟩) g5 p5 ⟨t5,rfl,h5⟩
 refine qu (fun b H'=>H' = H4 /\ (b = false -> lo < hi)) (fun Kk hk=>⟨_,rfl,rfl,_,rfl,?_⟩) ?_
 ·by_cases c3:c0 = 3
  ·exact yQ (decide_eq_true (congrArg V.int c3)) (hk _ _ ⟨rfl,nofun⟩)
  ·refine yu (decide_eq_false fun z=>c3 (V.int.inj z)) ⟨_,rfl,_,rfl,rfl,_,rfl,hk _ _ ⟨rfl,fun h=>?_⟩⟩
   have:¬ (V.int lo = V.int hi):=of_decide_eq_false h
   have:lo ≠ hi:=fun e=>this (congrArg V.int e)
   omega
 rintro b H5 ⟨rfl,hb⟩
 cases b with
 | true =>
  refine iteT ⟨_,rfl,_,rfl,szl rfl,fun t5 ht5=>eqv _ _ (G4.trans (Grow.new ht5 _)) (pp4.grow (Grow.new ht5 _)) (SqT.of zd)⟩
 | false =>
 have lt:=hb rfl
 refine iteF (xU ?_)
 refine uA (fun v H'=>∃ ad:Int,v = .int ad /\ Grow [a] H H' /\ Pot H' a) (fun Kk hk=>⟨_,rfl,_,rfl,a,rfl,pp4,fun n3 H6 l3 u3 g6 pp6=>⟨_,rfl,_,_,rfl,rfl,.inr ⟨_,rfl,_,_,rfl,rfl,tR ?_,hk _ _ ⟨_,rfl,G4.trans g6,pp6⟩⟩⟩⟩) ?_
 ·split <;> exact ⟨by decide,by decide⟩
 rintro _ H6 ⟨ad,rfl,G6,pp6⟩
 refine ⟨_,rfl,_,rfl,szl rfl,fun t1 ht1=>⟨_,rfl,_,rfl,szl rfl,fun t2 ht2=>⟨_,rfl,_,rfl,_,rfl,szl rfl,fun t3 ht3=>⟨szl rfl,fun tl htl=>?_⟩⟩⟩⟩
 have f1:=Grow.new (m:=[]) ht1 (.tup [.int ad,.int lo,.non])
 have f2:=Grow.new (m:=[]) ht2 (.tup [.int ad,.non,.int hi])
 have f3:=Grow.new (m:=[]) ht3 (.tup [.int ad,.int lo,.int hi])
 have f4:=Grow.new (m:=[]) htl (.lst [.ref t1,.ref t2,.ref t3])
 have F:=f1.trans (f2.trans (f3.trans f4))
 have s1:upd H6 t1 (.tup [.int ad,.int lo,.non]) t1 = some (.tup [.int ad,.int lo,.non]):=zd
 have s2:upd (upd H6 t1 (.tup [.int ad,.int lo,.non])) t2 (.tup [.int ad,.non,.int hi]) t2 = some (.tup [.int ad,.non,.int hi]):=zd
 have s3:upd (upd (upd H6 t1 (.tup [.int ad,.int lo,.non])) t2 (.tup [.int ad,.non,.int hi])) t3 (.tup [.int ad,.int lo,.int hi]) t3 = some (.tup [.int ad,.int lo,.int hi]):=zd
 replace s1:=(f2.trans (f3.trans f4)).tup _ _ s1
 replace s2:=(f3.trans f4).tup _ _ s2
 replace s3:=f4.tup _ _ s3
 have s4:upd (upd (upd (upd H6 t1 (.tup [.int ad,.int lo,.non])) t2 (.tup [.int ad,.non,.int hi])) t3 (.tup [.int ad,.int lo,.int hi])) tl (.lst [.ref t1,.ref t2,.ref t3]) tl = some (.lst [.ref t1,.ref t2,.ref t3]):=zd
 have pp7:=pp6.grow F
 have G7:=G6.trans (F.wk (m:=[a]))
 generalize upd (upd (upd (upd H6 t1 _) t2 _) t3 _) tl _ = H7 at s1 s2 s3 s4 pp7 G7 ⊢
 refine ⟨_,rfl,_,_,rfl,a,3,rfl,rfl,pp7,by decide,by decide,fun n8 H8 l8 u8 g8 pp8=>?_⟩
 have nta:tl ≠ a:=fun e=>by
  obtain ⟨p0,p1,z,_⟩:=pp7
  rw [← e,s4] at z; cases z
 have s48:=g8.keep _ _ (by simpa using nta) s4
 have G8:=G7.trans g8
 obtain h | h | h:n8 = 0 \/ n8 = 1 \/ n8 = 2:=by omega
 ·subst h; exact ⟨tl,_,0,_,rfl,rfl,SqL.of s48,zy (j:=0) rfl,q ⟨ad,some lo,none⟩ _ _ (fun _ _ _ z=>nomatch z) G8 pp8 ⟨t1,rfl,SqT.of (g8.tup _ _ s1)⟩⟩
 ·subst h; exact ⟨tl,_,1,_,rfl,rfl,SqL.of s48,zy (j:=1) rfl,q ⟨ad,none,some hi⟩ _ _ (fun _ _ z=>nomatch z) G8 pp8 ⟨t2,rfl,SqT.of (g8.tup _ _ s2)⟩⟩
 ·subst h; exact ⟨tl,_,2,_,rfl,rfl,SqL.of s48,zy (j:=2) rfl,q ⟨ad,some lo,some hi⟩ _ _ (fun l u h1 h2=>.inl (by cases h1; cases h2; exact lt)) G8 pp8 ⟨t3,rfl,SqT.of (g8.tup _ _ s3)⟩⟩
theorem wK:FnScope ["_law_pot_here","_law_k","_law_many","_law_some","_law_box"] ["_law_pot_here","_law_k","_law_many","_law_some"] (zf (top 53)):=⟨rfl,rfl,rfl,by decide +kernel,rfl,by decide +kernel,by decide +kernel⟩
theorem jT (F:Fun K "_law_ask" "_law_ask" (top 53) f fd) (B:Blt mg) (qc0:zn P w K mg base n "_law_deed" ["_law_pot_here"] (ZF K)) (qc1:zn P w K mg base n "_law_take" ["_law_pot_here","_law_many"] (vh K))     :
  FnOk P w K mg base CX0 (n + 1) f fd ["_law_pot_here","_law_k","_law_many","_law_some"] (XU K):=by
 refine F.ok wK sM (fun cdv A outer s H vs Q E hr h=>?_)
 obtain ⟨x,y,z,u,rfl,p,l,k,many,sm,rfl,rfl,rfl,rfl,pp,k4,m1,m16,hl,npl,sm1,smL,smb,q⟩:=h
 refine ⟨_,(zc (zC (i:=4) wK.nd rfl (Or.inl rfl) (z6 zY (pv 3) (zi qc1 hr rfl (za (pv 0) (za (zr zx rfl B.len x6 (za (pv 3) zb)) zb))) (fun _ _=>rfl))) (zc (z5 (zD wF (zi qc1 hr rfl (za (pv 0) (za ze zb))) ze (zG _)) (zh (zC (i:=4) wK.nd rfl (Or.inl rfl) (zi qc1 hr rfl (za (pv 0) (za (pv 2) zb))))) zv) (zh (zt (zO (za (zi qc1 hr rfl (za (pv 0) (za (zo yH ze (pv 1)) zb))) (za (pv 4) (za (zi qc0 hr rfl (za (pv 0) zb)) zb)))))))),?_⟩
 have p16:=vo k4
 have el:(sm.map V.int).length = sm.length:=List.length_map ..
 refine ⟨_,rfl,_,rfl,_,rfl,l,_,rfl,.inl (SqL.of hl),_,_,rfl,p,_,rfl,rfl,pp,by omega,by omega,fun n1 H1 l1 u1 g1 pp1=>?_⟩
 have hl1:=g1.keep _ _ (by simpa using npl.symm) hl
 have hj:n1.toNat < sm.length:=by omega
 have hv:(sm.map V.int)[n1.toNat]? = some (V.int sm[n1.toNat]):=by rw [List.getElem?_map,List.getElem?_eq_getElem hj]; rfl
 have hat:=zy hv
 rw [Int.toNat_of_nonneg l1] at hat
 have hb0:=smb _ (List.getElem_mem hj)
 generalize sm[n1.toNat] = b0 at hat hb0
 refine ⟨l,_,n1,_,rfl,rfl,SqL.of hl1,hat,yy ?_⟩
 refine c_if (fun σ' H'=>∃ (b:Int),σ' = [some (.ref p),some (.int k),some (.int many),some (.ref l),some (.int b)] /\ 0 <= b /\ b < many /\ Grow [p] H H' /\ Pot H' p) ?_ ?_
 rotate_left
 ·intro hr2
  refine ⟨_,rfl,_,_,rfl,p,5,rfl,rfl,pp1,by decide,by decide,fun n2 H2 l2 u2 g2 pp2=>⟨rfl,_,rfl,?_⟩⟩
  by_cases c:n2 = 0
  ·refine yQ (decide_eq_true (congrArg V.int c)) ⟨_,rfl,_,rfl,_,_,rfl,p,many,rfl,rfl,pp2,by omega,by omega,fun n3 H3 l3 u3 g3 pp3=>hr2 _ _ ⟨n3,rfl,l3,u3,g1.trans (g2.trans g3),pp3⟩⟩
  ·exact yu (decide_eq_false fun z=>c (V.int.inj z)) (hr2 _ _ ⟨b0,rfl,hb0.1,hb0.2,g1.trans g2,pp2⟩)
 rintro σ' H2 ⟨b,rfl,bl,bu,g2,pp2⟩
 refine ⟨_,rfl,_,rfl,_,_,rfl,rfl,xT k4,_,_,rfl,p,_,rfl,rfl,pp2,by rw [shl5]; exact Int.ofNat_lt.mpr (Nat.two_pow_pos k),by rw [shl5]; exact Int.lt_of_le_of_lt (Int.ofNat_le.mpr p16) (by decide),fun n3 H3 l3 u3 g3 pp3=>?_⟩
 rw [shl5] at u3
 refine ⟨_,rfl,_,rfl,_,rfl,p,rfl,pp3,fun d y H4 dok g4 pp4 hd=>⟨szl rfl,fun t ht=>?_⟩⟩
 obtain ⟨rd,rfl,hrd⟩:=hd
 have gt:=Grow.new (m:=[]) ht (.tup [.int n3,.int b,.ref rd])
 exact q ⟨n3,b,d⟩ _ _ ⟨l3,by show n3 <= 15; have:=Int.ofNat_le.mpr p16; omega,bl,bu,dok⟩ u3 (g2.trans (g3.trans (g4.trans gt.wk))) (pp4.grow gt) ⟨t,rd,rfl,SqT.of zd,gt.sqT hrd⟩
theorem yR:FnScope ["_law_script","_law_k","_law_seed","_law_cell","_law_number_here"] ["_law_script","_law_k"] (zf (top 48)):=⟨rfl,rfl,rfl,by decide +kernel,rfl,by decide +kernel,by decide +kernel⟩
theorem jU (F:Fun K "_law_pot" "_law_pot" (top 48) f fd) (B:Blt mg)      :
  FnOk P w K mg base CX0 (n + 1) f fd ["_law_script","_law_k"] (Vg K):=by
 refine F.ok yR ym (fun cdv A outer s H vs Q E hr h=>?_)
 obtain ⟨x,y,rfl,a,ns,k,rfl,rfl,hs,k0,k1,q⟩:=h
 refine ⟨_,(zc (zC (i:=2) yR.nd rfl (Or.inl rfl) (zo yf ze (zo xI ze (pv 1)))) (zc (yE PassesOwn.never rfl (xc (sE VO (pv 0) ji (jj ze))) (zj (i:=3) yR.nd rfl (Or.inl rfl)) (zh (zC (i:=2) yR.nd rfl (Or.inl rfl) (zo vF (zo yf (zo xI (pv 2) ze) (pv 3)) ze)))) (zc (zC (i:=4) yR.nd rfl (Or.inl rfl) ze) (zc (z5 (zD ua (pv 1) (zr zx rfl B.len x6 (za (pv 0) zb)) (zG _)) (zh (zC (i:=4) yR.nd rfl (Or.inl rfl) (z6 zY (pv 0) (pv 1) (fun _ _=>rfl)))) zv) (zh (zt (yF (za (zr (ub rfl) rfl B.max Wp (za ze (za (zo yg (pv 4) (zo rN ze ze)) zb))) (za (zo yf (zo vF (zo yf (zo xI (pv 2) (pv 2)) (zo xI ze (pv 1))) ze) ze) zb))))))))),?_⟩
 have hl:(ns.map V.int).length = ns.length:=List.length_map ..
 refine ⟨_,rfl,_,_,rfl,rfl,Y9 ⟨by decide,by decide⟩,_,_,rfl,rfl,yy ?_⟩
 refine ⟨_,rfl,_,rfl,a,_,rfl,hs.sq,fun t ht=>?_⟩
 have gt:=Grow.new (m:=[]) ht (.lst (cutV (ns.map V.int) none (some 40)))
 have ht1:=zd (H:=H) (a:=t) (o:=.lst (cutV (ns.map V.int) none (some 40)))
 have hs1:=gt.scr hs
 have hint:∀ v ∈ cutV (ns.map V.int) none (some 40),∃ i:Int,v = .int i:=fun v hv=>by
  obtain ⟨i,_,e⟩:=List.mem_map.mp (XV hv)
  exact ⟨i,e.symm⟩
 generalize cutV (ns.map V.int) none (some 40) = cs at gt ht1 hs1 hint ⊢
 generalize upd H t (.lst cs) = H1 at gt ht1 hs1 ⊢
 refine ⟨t,rfl,⟨_,SqL.of ht1⟩,xq (xs:=cs) (fun j σ H'=>∃ (e3:Option V) (sd:Int),σ = [some (.ref a),some (.int k),some (.int sd),e3,none] /\ H' = H1 /\ ((-(2 ^ 50) < sd /\ sd < 2 ^ 50))) ⟨_,_,rfl,rfl,by omega,by omega⟩ (fun j σ H' _ ⟨_,_,_,e,_⟩=>e ▸ SqL.of ht1) ?_ ?_⟩
 ·rintro j x σ H2 hx ⟨e3,sd,rfl,rfl,_,_⟩
  obtain ⟨i,rfl⟩:=hint x (List.mem_of_getElem? hx)
  refine ⟨_,rfl,_,_,rfl,rfl,tR ⟨by decide,by decide⟩,_,rfl,_,_,rfl,rfl,_,_,rfl,rfl,(by show (0:Int) < 2147483647; decide),?_⟩
  have b0:0 <= (sd * 48271 + i) % 2147483647:=Int.emod_nonneg _ (by decide)
  have b1:(sd * 48271 + i) % 2147483647 < 2147483647:=Int.emod_lt_of_pos _ (by decide)
  exact ⟨_,_,rfl,rfl,by omega,by omega⟩
 rintro σ H2 ⟨e3,sd,rfl,rfl,s0,s1⟩
 refine c_nx (yy ?_)
 refine c_if (fun σ' H'=>∃ (n:Int),σ' = [some (.ref a),some (.int k),some (.int sd),e3,some (.int n)] /\ H' = H2) ?_ ?_
 ·rintro σ' H' ⟨n,rfl,rfl⟩
  refine ⟨_,rfl,_,_,rfl,rfl,⟨by decide,by decide,by decide⟩,_,_,rfl,rfl,_,_,rfl,_,rfl,_,rfl,_,_,rfl,rfl,tR ⟨by omega,by omega⟩,_,rfl,_,_,rfl,rfl,Y9 ⟨by decide,by decide⟩,_,_,rfl,rfl,_,_,rfl,rfl,(by show (0:Int) < 2147483563; decide),_,_,rfl,rfl,szl rfl,fun p hp=>?_⟩
  refine q p _ (gt.free (by simp) hp) (gt.trans (Grow.new hp _)) ⟨_,_,zd,?_⟩
  split <;> omega
 intro hr2
 refine ⟨_,rfl,_,rfl,a,_,rfl,.inl hs1.sq,_,_,rfl,rfl,_,rfl,?_⟩
 by_cases c:k < ((ns.map V.int).length:Int)
 ·refine yQ (decide_eq_true c) ?_
  have hj:k.toNat < ns.length:=by omega
  refine ⟨_,rfl,_,rfl,a,_,_,V.int ns[k.toNat],rfl,rfl,hs1.sq,?_,?_⟩
  ·have hv:(ns.map V.int)[k.toNat]? = some (V.int ns[k.toNat]):=by rw [List.getElem?_map,List.getElem?_eq_getElem hj]; rfl
   have:=zy hv
   rw [Int.toNat_of_nonneg k0] at this; exact this
  ·exact hr2 _ _ ⟨_,rfl,rfl⟩
 ·exact yu (decide_eq_false c) (hr2 _ _ ⟨_,rfl,rfl⟩)
theorem xv:FnScope ["k","thing","stage","number"] ["k","thing"] (zf (top 43)):=⟨rfl,rfl,rfl,by decide +kernel,rfl,by decide +kernel,by decide +kernel⟩
theorem tz (F:Fun K "may_be_lost" "may_be_lost" (top 43) f fd) (B:Blt mg) (qc0:zn P w K mg base n "is_line" ["k","thing"] (wf K)) (qc1:zn P w K mg base n "is_within" ["thing","least","greatest"] (ya K)) (qc2:zn P w K mg base n "is_switch" ["k","stage","number"] (XO K))     :
  FnOk P w K mg base CX0 (n + 1) f fd ["k","thing"] (ZB K):=by
 refine F.ok xv ym (fun cdv A outer s H vs Q E hr h=>?_)
 obtain ⟨x,y,rfl,k,q5,rfl,⟨r,rfl,hr5⟩,k4,ok,q⟩:=h
 refine ⟨_,(zc (z5 (PW.pt (vN (yA (yx (zr xH rfl B.isinstance yp (za (pv 1) (za (ui rfl B.tuple xr) zb))))) (xW (zD Wd (zr zx rfl B.len x6 (za (pv 1) zb)) ze (zG _))))) (zh (zt wD)) zv) (zc (xp (pv 1) (yT rfl (zm (zj (i:=2) xv.nd rfl (Or.inl rfl)) (zm (zj (i:=3) xv.nd rfl (Or.inl rfl)) z7)))) (zh (zt (VA (zi qc2 hr rfl (za (pv 0) (za (pv 2) (za (pv 3) zb)))) (wv (vE (zi qc1 hr rfl (za (pv 2) (za ze (za ze zb)))) (wv (zi qc0 hr rfl (za (pv 0) (za (pv 3) zb))))))))))),?_⟩
 refine ⟨_,rfl,_,_,_,true,rfl,.inl ⟨rfl,_,hr5⟩,rfl,_,rfl,iteF ⟨_,rfl,r,_,rfl,.inr hr5,rfl,_,rfl,iteF ?_⟩⟩
 refine ⟨_,rfl,r,_,rfl,hr5,rfl,_,_,rfl,_,_,rfl,rfl,?_⟩
 refine ⟨_,rfl,_,rfl,_,rfl,_,_,_,rfl,k,q5.1,q5.2,rfl,rfl,rfl,k4,_,rfl,?_⟩
 rcases ok with ok | ⟨o1,o2⟩
 ·rw [decide_eq_true ok]; exact iteT q
 ·rw [decide_eq_false (fun h=>by omega)]
  refine iteF ⟨_,rfl,_,_,_,rfl,_,_,_,rfl,rfl,rfl,_,rfl,yQ (by rw [o1]; rfl) ?_⟩
  exact ⟨_,rfl,_,rfl,_,_,rfl,k,q5.2,rfl,rfl,k4,o2,q⟩
theorem qY:FnScope ["k","thing"] ["k","thing"] (zf (top 44)):=⟨rfl,rfl,rfl,by decide +kernel,rfl,by decide +kernel,by decide +kernel⟩
theorem qZ (F:Fun K "need_lost" "need_lost" (top 44) f fd) (B:Blt mg) (qc0:zn P w K mg base n "may_be_lost" ["k","thing"] (ZB K))     :
  FnOk P w K mg base CX0 (n + 1) f fd ["k","thing"] (qL K):=by
 refine F.ok qY ym (fun cdv A outer s H vs Q E hr h=>?_)
 obtain ⟨x,y,rfl,k,gone,rfl,⟨r,ys,rfl,hr5,ha,hl⟩,k4,ok,q⟩:=h
 refine ⟨_,(zh (z5 (PW.pt (vN (yA (yx (zr xH rfl B.isinstance yp (za (pv 1) (za (ui rfl B.tuple xr) zb))))) (xW (yA (yx (zr (uk rfl) rfl B.all VS (za (yL (CSc.of (N':=["part","k"]) (sub:=[none,some 0]) (zf (top 44)) ["k","thing"] rfl rfl (by decide +kernel) rfl) rfl (ww (pv 1)) (fun _ _ _ _ _ _=>zj (i:=0) (show (["part","k"]:List Str).Nodup by decide +kernel) rfl (Or.inl rfl)) (fun _ _ _ _ _ _=>yc) (fun _ _ _ _ _ _=>(zi qc0 hr rfl (za (pv 1) (za (pv 0) zb))))) zb))))))) (zh y7) zv)),?_⟩
 refine ⟨_,rfl,_,_,_,true,rfl,.inl ⟨rfl,_,hr5⟩,rfl,_,rfl,iteF ?_⟩
 refine ⟨_,rfl,r,rfl,⟨_,hr5⟩,qi (fun _=>V.bl true) hr5 hl ?_ ?_⟩
 ·intro x H1 R hx g k'
  obtain ⟨i,hi⟩:=List.mem_iff_getElem?.mp hx
  obtain ⟨p5,hp5,hpr⟩:=ha.get hi
  obtain ⟨r2,rfl,hr2⟩:=hpr
  exact ⟨_,rfl,_,rfl,_,_,rfl,k,p5,rfl,⟨r2,rfl,g.sqT hr2⟩,k4,ok p5 (List.mem_of_getElem? hp5),k' _ (Grow.refl _ _)⟩
 ·intro H1 p g hp
  refine ⟨p,ys.map (fun _=>true),rfl,SqL.of (by rw [zd,List.map_map]; rfl),?_⟩
  rw [qj]
  exact ⟨_,rfl,iteF (q _ (g.trans (Grow.new hp _)))⟩
theorem uR:FnScope ["self","many"] ["self","many"] (zf (zk (top 46) 3)):=⟨rfl,rfl,rfl,by decide +kernel,rfl,by decide +kernel,by decide +kernel⟩
theorem uS (F:Fun K "done_ago" "Net.done_ago" (zk (top 46) 3) f fd) (B:Blt mg) {C:Addr} (T:NTxt K mg C)      :
  FnOk P w K mg base CX0 (n + 1) f fd ["self","many"] (sZ C K):=by
 refine F.ok uR ym (fun cdv A outer s H vs Q E hr h=>?_)
 obtain ⟨x,y,rfl,A5,ns,many,rfl,rfl,hn,q⟩:=h
 refine ⟨_,(zh (zt (WM (Room.u1F hr) (zE (pv 0) rfl) (zo yg (zE (pv 0) rfl) (pv 1)) (zO zb) ⟨rfl,rfl,rfl,rfl⟩))),?_⟩
 refine ⟨_,rfl,_,C,_,_,_,rfl,hn.ob.choose_spec,T.cl,T.n_done_in,t7,_,rfl,.inl ⟨_,.inl hn.dd⟩,⟨_,rfl,_,C,_,_,_,rfl,hn.ob.choose_spec,T.cl,T.n_now,Zv,_,rfl,_,_,rfl,rfl,szl rfl,fun t ht=>?_⟩⟩
 have g:=Grow.new (m:=[]) ht (.tup [])
 have dd:=g.keep _ _ (by simp) hn.dd
 by_cases c:many < ns.now /\ ns.now - many <= ns.nd
 ·refine ⟨some (.ref (A5 (.dn (ns.now - many)))),.inl ⟨_,.inl ((ns.now:Int) - many),.inl dd,rfl,?_⟩,q _ _ g (.inl ⟨ns.now - many,by omega,c.2,rfl,if_pos c⟩)⟩
  rw [show ((ns.now:Int) - many) = ((ns.now - many:Nat):Int) by omega,WO (by omega) c.2]
 ·exact ⟨none,.inl ⟨_,.inl ((ns.now:Int) - many),.inl dd,rfl,(qH (by omega)).symm⟩,q _ _ g (.inr ⟨t,rfl,SqT.of zd,if_neg c⟩)⟩
theorem yS:FnScope ["self","told","box","deed","numbers","met"] ["self"] (zf (zk (top 46) 9)):=⟨rfl,rfl,rfl,by decide +kernel,rfl,by decide +kernel,by decide +kernel⟩
theorem jV (F:Fun K "tell" "Net.tell" (zk (top 46) 9) f fd) (B:Blt mg) {C:Addr} (T:NTxt K mg C) (mc_done_ago:zF P w K mg base C n "done_ago" ["self","many"] (sZ C K))   (g_sorted:mg "sorted" = none)   :
  FnOk P w K mg base CX0 (n + 1) f fd ["self"] (rh C K):=by
 refine F.ok yS yK (fun cdv A outer s H vs Q E hr h=>?_)
 obtain ⟨x,rfl,A5,ns,ms,rfl,hn,nr,nt,hm,q⟩:=h
 refine ⟨_,(zc (zC (i:=1) yS.nd rfl (Or.inl rfl) (yF zb)) (zc (yE PassesOwn.never rfl (XB (K:=K) rfl (yM mc_done_ago T.cl hr (pv 0) (za (zE (pv 0) rfl) zb))) (yT rfl (zm (zj (i:=2) yS.nd rfl (Or.inl rfl)) (zm (zj (i:=3) yS.nd rfl (Or.inl rfl)) (zm (zj (i:=4) yS.nd rfl (Or.inl rfl)) (zm (zj (i:=5) yS.nd rfl (Or.inl rfl)) z7))))) (zh (zL (wp PySem.F.plainAttrs_list PySem.F.slot_list_extend PySem.F.type_list_extend xZ (pv 1) (za (yL (CSc.of (N':=["number","self"]) (sub:=[none,some 0]) (zf (zk (top 46) 9)) ["self","told","box","deed","numbers","met"] rfl rfl (by decide +kernel) rfl) rfl (ww (pv 4)) (fun _ _ _ _ _ _=>zj (i:=0) (show (["number","self"]:List Str).Nodup by decide +kernel) rfl (Or.inl rfl)) (fun _ _ _ _ _ _=>yc) (fun _ _ _ _ _ _=>(zO (za (pv 0) (za (x8 (Room.u1F hr) (VX (K:=K) rfl (pv 1) rfl) (pv 0) (fun _ _=>rfl)) zb))))) zb))))) (zc (zL (wp PySem.F.plainAttrs_dict PySem.F.slot_dict_update PySem.F.type_dict_update (Yk (K:=K) rfl) (zE (pv 0) rfl) (za (yh (Ya hr) rfl B.dict UO (za (pv 1) zb)) zb))) (zh (zt (yh yJ rfl B.tuple xr (za (zr (Yf (K:=K) rfl) rfl g_sorted vR (za (pv 1) zb)) zb))))))),?_⟩
 refine ⟨szl rfl,fun lt hlt=>?_⟩
 have g0:=Grow.new (m:=[]) hlt (.lst [])
 have hlt0:=zd (H:=H) (a:=lt) (o:=.lst [])
 have hn0:=hn.grow0 g0
 have nq0:∀ a,okA ns a -> A5 a ≠ lt:=fun a ha z=>by
  obtain ⟨o,h1,_⟩:=hn.at_ a ha
  rw [z,hlt] at h1; cases h1
 have nql:∀ a,okA ns a -> A5 a ∉ [lt]:=fun a ha z=>nq0 a ha (List.mem_singleton.mp z)
 generalize upd H lt (.lst []) = H0 at g0 hlt0 hn0 ⊢
 have l40:lsum nlen (agoS ns ns.k) <= 40:=by have:=nt.l40; unfold xt at this; rw [Zx] at this; exact this
 refine yy (Zy (fun σ H'=>∃ e2 e3 e4 e5 tv,σ = [some (.ref (A5 .p)),some (.ref lt),e2,e3,e4,e5] /\ Grow [lt] H0 H' /\ H' lt = some (.lst tv) /\ AllR (TpAt H') tv (xt ns) /\ NetAt K C H' A5 ns) ?_ ?_)
 ·intro D hD
  refine ⟨_,rfl,_,_,_,rfl,hn0.ob.choose_spec,uC,_,rfl,_,C,_,_,_,rfl,hn0.ob.choose_spec,T.cl,T.n_depth,zX,_,_,rfl,A5,ns,ns.k,rfl,rfl,hn0,fun z H1 g1 hz=>?_⟩
  have hn1:=hn0.grow0 g1
  have hlt1:=g1.keep _ _ (by simp) hlt0
  rcases hz with ⟨t,t1,t2,rfl,ews⟩ | ⟨a,rfl,sa,ews⟩
  rotate_left
  ·have et:xt ns = []:=by unfold xt; rw [ews]; rfl
   exact ⟨a,rfl,.inr ⟨⟨_,sa⟩,vY (xs:=[]) (fun j σ H'=>∃ e2 e3 e4 e5,σ = [some (.ref (A5 .p)),some (.ref lt),e2,e3,e4,e5] /\ H' = H1) ⟨_,_,_,_,rfl,rfl⟩ (fun j σ H' _ ⟨_,_,_,_,_,e⟩=>e ▸ sa) (fun j x σ H' hx=>by simp at hx) (fun σ H' ⟨e2,e3,e4,e5,e,eH⟩=>hD _ _ ⟨e2,e3,e4,e5,[],e,eH ▸ g1.wk,eH ▸ hlt1,by rw [et]; trivial,eH ▸ hn1⟩)⟩⟩
  obtain ⟨ys,hys,hw⟩:=hn1.dn (t:=t) t1 t2
  have kmem:A5 (.dn t) ∉ [lt]:=nql (.dn t) ⟨t1,t2⟩
  refine ⟨_,rfl,.inl ⟨⟨_,SqL.of hys⟩,xq (xs:=ys) (fun j σ H'=>∃ e2 e3 e4 e5 tv,σ = [some (.ref (A5 .p)),some (.ref lt),e2,e3,e4,e5] /\ Grow [lt] H1 H' /\ H' lt = some (.lst tv) /\ AllR (TpAt H') tv (((ns.done t).take j).flatMap (u7 ns)) /\ NetAt K C H' A5 ns) ⟨_,_,_,_,[],rfl,Grow.refl _ _,hlt1,trivial,hn1⟩ (fun j σ H' _ ⟨_,_,_,_,_,_,g,_⟩=>SqL.of (g.keep _ _ kmem hys)) ?_ ?_⟩⟩
  rotate_left
  ·rintro σ H' ⟨e2,e3,e4,e5,tv,rfl,g,htv,hta,hn'⟩
   rw [hw.len,List.take_length] at hta
   exact hD _ _ ⟨_,_,_,_,tv,rfl,(g1.wk (m:=[lt])).trans g,htv,by unfold xt; rw [ews]; exact hta,hn'⟩
  rintro j x σ H2 hx ⟨e2,e3,e4,e5,tv,rfl,g2,htv,hta,hn2⟩
  obtain ⟨w5,hw5,r,rd,rn,rm,mv,rfl,w1,w2,w3,w4,w6⟩:=hw.get hx
  have wm:=List.mem_of_getElem? hw5
  have fk:∀ n ∈ w5.nums,(getN ns.fnd n).isSome = true:=nt.fk w5 (by rw [ews]; exact wm)
  have esnoc:((ns.done t).take (j + 1)).flatMap (u7 ns) = ((ns.done t).take j).flatMap (u7 ns) ++ u7 ns w5:=by
   obtain ⟨hj,e⟩:=List.getElem?_eq_some_iff.mp hw5
   rw [List.take_succ_eq_append_getElem hj,e,List.flatMap_append]
   simp
  have tvl:tv.length + w5.nums.length <= 40:=by
   have h1:=hta.len
   rw [Zx] at h1
   rw [ews] at l40
   have e:ns.done t = (ns.done t).take j ++ w5 :: (ns.done t).drop (j + 1):=by
    obtain ⟨hj,e⟩:=List.getElem?_eq_some_iff.mp hw5
    rw [← e,← List.drop_eq_getElem_cons hj,List.take_append_drop]
   have:=congrArg (lsum nlen) e
   rw [xM,zH] at this
   have e2:nlen w5 = w5.nums.length:=rfl
   omega
  rw [esnoc]
  have nl:(zT w5.nums).length = w5.nums.length:=List.length_map ..
  refine ⟨r,_,rfl,g2.sqT w1,rfl,_,_,rfl,_,_,rfl,_,_,rfl,_,_,rfl,rfl,?_⟩
  refine ⟨_,rfl,.inl ⟨rfl,_,SqL.of htv⟩,_,rfl,rn,rfl,⟨_,g2.sqT w3⟩,uq (xs:=zT w5.nums) (fun i vs σ' H'=>(∃ e0,σ' = [e0,some (.ref (A5 .p))]) /\ Grow [] H2 H' /\ AllR (TpAt H') vs ((w5.nums.take i).map fun n=>(n,(getN ns.fnd n).getD 0))) ⟨⟨_,rfl⟩,Grow.refl _ _,trivial⟩ (fun i vs σ' H' _ ⟨_,g,_⟩=>(g2.trans (g.wk (m:=[lt]))).sqT w3) ?_ ?_⟩
  ·rintro i x vs σ' H3 hx ⟨⟨e0,rfl⟩,g3,hvs⟩
   rw [show (zT w5.nums)[i]? = (w5.nums[i]?).map fun n:Nat=>V.int n from List.getElem?_map ..] at hx
   obtain ⟨n5,hi,rfl⟩:=Option.map_eq_some_iff.mp hx
   have il:=(List.getElem?_eq_some_iff.mp hi).1
   obtain ⟨v5,hv5⟩:=Option.isSome_iff_exists.mp (fk n5 (List.mem_of_getElem? hi))
   have hn3:=hn2.grow0 g3
   have ev:valV (nKv ns.fnd) (.inl (n5:Int)) = some (.int v5):=by rw [sX,hv5]; rfl
   refine ⟨_,rfl,_,rfl,_,C,_,_,_,rfl,hn3.ob.choose_spec,T.cl,T.n_found,Zw,_,rfl,_,_,rfl,.inl ⟨_,.inl (n5:Int),.inl hn3.df,rfl,ev.symm⟩,szl rfl,fun t3 ht3=>?_⟩
   have g4:=Grow.new (m:=[]) ht3 (.tup [.int n5,.int v5])
   refine ⟨?_,⟨_,rfl⟩,g3.trans g4,?_⟩
   ·rw [hvs.len,List.length_map,List.length_take]; exact zp (by omega)
   ·obtain ⟨hj,e⟩:=List.getElem?_eq_some_iff.mp hi
    rw [List.take_succ_eq_append_getElem hj,e,List.map_append]
    exact (hvs.imp fun _ _ z=>z.grow g4).app (.one ⟨t3,rfl,by rw [zd]; show _ = some (HO.tup [.int n5,.int ((getN ns.fnd n5).getD 0)]); rw [hv5]; rfl⟩)
  rintro vs σ' H3 ⟨_,g3,hvs⟩ l3 hl3
  rw [nl,List.take_length] at hvs
  have g4:=Grow.new (m:=[]) hl3 (.lst vs)
  have htv4:=(g3.trans g4).keep _ _ (by simp) htv
  have vl:=hvs.len
  rw [List.length_map] at vl
  refine ⟨lt,l3,tv,vs,rfl,rfl,htv4,zd,Nat.le_of_lt (zp (by omega)),?_⟩
  have g34:=g3.trans g4
  have g5:=Grow.set (m:=[lt]) htv4 (by simp) (tv ++ vs)
  refine ⟨_,_,_,_,tv ++ vs,rfl,g2.trans ((g34.wk (m:=[lt])).trans g5),zd,?_,?_⟩
  ·exact (hta.imp fun _ _ z=>(z.grow g34).grow g5).app (hvs.imp fun _ _ z=>(z.grow g4).grow g5)
  ·exact (hn2.grow0 g34).grow g5 nql
 rintro σ H1 ⟨e2,e3,e4,e5,tv,rfl,g1,htv,hta,hn1⟩
 refine ⟨_,rfl,_,C,_,_,_,rfl,hn1.ob.choose_spec,T.cl,T.n_answers,Yg,.inr (.inr (.inl ⟨rfl,.inl ⟨_,hn1.da⟩⟩)),_,rfl,lt,tv,_,rfl,htv,WU hta,fun ld hld=>?_⟩
 rw [WV]
 have g2:=Grow.new (m:=[]) hld (.dK (nKv (qG (xt ns))))
 have hn2:=hn1.grow0 g2
 have htv2:=g2.keep _ _ (by simp) htv
 have hta2:=hta.imp fun _ _ z=>z.grow g2
 have hld2:=zd (H:=H1) (a:=ld) (o:=.dK (nKv (qG (xt ns))))
 have nld:A5 .da ≠ ld:=fun z=>by
  have:=hn1.da
  rw [z,hld] at this; cases this
 generalize upd H1 ld _ = H2 at g2 hn2 htv2 hta2 hld2 ⊢
 refine ⟨A5 .da,ld,_,_,rfl,rfl,hn2.da,hld2,nld,?_,?_⟩
 ·have h1:=nt.al
  have h2:=nt.l40
  have h3:=XH (tl:=xt ns)
  unfold nKv
  rw [List.length_map,List.length_map]
  exact Nat.le_of_lt (big5 (by omega))
 rw [vz]
 obtain ⟨hn3,g3⟩:=hn2.setS ((qG (xt ns)).foldl (fun f p=>putN f p.1 p.2) ns.ans)
 have htv3:=g3.keep _ _ (show lt ∉ [A5 .da] from fun z=>nq0 .da trivial (List.mem_singleton.mp z).symm) htv2
 have hta3:=hta2.imp fun _ _ z=>z.grow g3
 generalize upd H2 (A5 .da) _ = H3 at hn3 g3 htv3 hta3 ⊢
 refine ⟨_,rfl,lt,tv,(xt ns).map itF,1,rfl,SqL.of htv3,Vt hta3,Ud nt.nd,Nat.le_refl 1,?_,?_,fun p4 zs4 its hp4 pm pw hp=>?_⟩
 ·intro p hp
  obtain ⟨q,_,rfl⟩:=List.mem_map.mp hp
  rfl
 ·rw [List.length_map]; have:=nt.l40; omega
 have g4:=Grow.new (m:=[]) hp4 (.lst zs4)
 obtain ⟨pm',hF⟩:=Uc pm
 refine ⟨p4,zs4,rfl,.inl ⟨SqL.of zd,fun r5 hr5=>?_⟩⟩
 have g5:=Grow.new (m:=[]) hr5 (.tup zs4)
 have g45:=g4.trans g5
 refine q _ (its.map itB) _ ?_ (hn3.grow0 g45) ⟨r5,zs4,rfl,SqT.of zd,(XG hF hp).imp fun _ _ z=>g45.board z⟩ pm' (Sa hF pw)
 have G:Grow (lt :: ms) H _:=(g0.wk (m:=lt :: ms)).trans ((g1.mono (m':=lt :: ms) (by simp)).trans ((g2.wk (m:=lt :: ms)).trans ((g3.mono (m':=lt :: ms) fun b hb=>by rw [List.mem_singleton.mp hb]; exact List.mem_cons_of_mem _ (hm .da trivial)).trans (g45.wk (m:=lt :: ms)))))
 exact G.less fun b hb=>by
  rcases List.mem_cons.mp hb with rfl | hb
  ·exact .inr hlt
  ·exact .inl hb
theorem sy:FnScope ["k","stage","number","mark","behind"] ["k","stage","number","mark"] (zf (top 35)):=⟨rfl,rfl,rfl,by decide +kernel,rfl,by decide +kernel,by decide +kernel⟩
theorem Yw (F:Fun K "in_line" "in_line" (top 35) f fd) (B:Blt mg)      :
  FnOk P w K mg base CX0 (n + 1) f fd ["k","stage","number","mark"] (XD K):=by
 refine F.ok sy sM (fun cdv A outer s H vs Q E hr h=>?_)
 obtain ⟨x,y,z,u,rfl,k,s5,n5,m5,rfl,rfl,rfl,rfl,k4,s1,sk,hn5,hm5,q⟩:=h
 refine ⟨_,(zc (zC (i:=4) sy.nd rfl (Or.inl rfl) (zo yg (pv 0) (pv 1))) (zh (zt (zo VC (zo VC (zo yH (zo YE (pv 2) (pv 4)) (zo yf (pv 4) ze)) (zo yH (pv 3) (pv 4))) (zo rO (pv 2) (zo yg (zo yH ze (pv 4)) ze)))))),?_⟩
 obtain ⟨n8,c1,c2,c3,c4,e⟩:=Yl k4 s1 sk hn5 hm5
 have b0:(0:Int) <= (k:Int) - s5:=by omega
 refine ⟨_,rfl,_,rfl,_,_,rfl,rfl,_,rfl,_,rfl,_,_,rfl,rfl,b0,_,rfl,_,_,rfl,rfl,_,_,rfl,rfl,c1,_,rfl,_,rfl,_,_,rfl,rfl,c2,_,_,rfl,rfl,_,rfl,_,rfl,_,_,rfl,rfl,c3,_,_,rfl,rfl,_,_,rfl,rfl,_,_,rfl,rfl,?_⟩
 show Q (.int (Builtin.bitOr (Builtin.bitOr ((n5:Int) / 2 ^ ((k:Int) - s5).toNat * 2 ^ ((k:Int) - s5 + 1).toNat) ((m5:Int) * 2 ^ ((k:Int) - s5).toNat)) (Builtin.bitAnd (n5:Int) (1 * 2 ^ ((k:Int) - s5).toNat - 1)))) H
 rw [e]
 exact q
theorem Uq:FnScope ["add","low","high"] ["add","low","high"] (zf (top 17)):=⟨rfl,rfl,rfl,by decide +kernel,rfl,by decide +kernel,by decide +kernel⟩
theorem jn (F:Fun K "tidy" "tidy" (top 17) f fd) (B:Blt mg)      :
  FnOk P w K mg base CX0 (n + 1) f fd ["add","low","high"] (Y2 K):=by
 refine F.ok Uq yZ (fun cdv A outer s H vs Q E hr h=>?_)
 obtain ⟨x,y,z,rfl,a,lo,hi,rfl,rfl,rfl,q⟩:=h
 refine ⟨_,(zc (z5 (PW.pt (xR (xQ (wE (pv 1))) (xb (zD wF (pv 1) (pv 2) (zG _))))) (zh (zt (zO (za ze (za (pv 1) (za (pv 2) zb)))))) zv) (zh (zt (zO (za (pv 0) (za (pv 1) (za (pv 2) zb))))))),?_⟩
 cases lo with
 | none =>
  refine ⟨_,rfl,_,rfl,iteF (iteF ⟨_,rfl,_,rfl,_,rfl,szl rfl,fun t ht=>?_⟩)⟩
  have:=q t ht
  rw [UT] at this; exact this
 | some l =>
  cases hi with
  | none =>
   refine ⟨_,rfl,_,rfl,iteT ⟨_,rfl,_,rfl,rfl,_,rfl,iteF ⟨_,rfl,_,rfl,_,rfl,szl rfl,fun t ht=>?_⟩⟩⟩
   have:=q t ht
   rw [Vl (by simp)] at this; exact this
  | some u =>
   refine ⟨_,rfl,_,rfl,iteT ⟨_,rfl,_,rfl,rfl,_,rfl,?_⟩⟩
   refine ite2 (fun c=>?_) (fun c=>?_)
   ·have c':l = u:=V.int.inj (of_decide_eq_true c)
    subst c'
    refine ⟨_,rfl,_,rfl,szl rfl,fun t ht=>?_⟩
    have:=q t ht
    rw [UU] at this; exact this
   ·have c':l ≠ u:=fun z=>c (by rw [z]; simp)
    refine ⟨_,rfl,_,rfl,_,rfl,szl rfl,fun t ht=>?_⟩
    have:=q t ht
    rw [Vl (fun z=>c' (Option.some.inj z))] at this; exact this
theorem wL:FnScope ["deed","value","add","low","high","result"] ["deed","value"] (zf (top 16)):=⟨rfl,rfl,rfl,by decide +kernel,rfl,by decide +kernel,by decide +kernel⟩
theorem Ur (F:Fun K "made" "made" (top 16) f fd) (B:Blt mg)      :
  FnOk P w K mg base CX0 (n + 1) f fd ["deed","value"] (uj K):=by
 refine F.ok wL ym (fun cdv A outer s H vs Q E hr h=>?_)
 obtain ⟨x,y,rfl,d,v,⟨a,rfl,hs⟩,rfl,q⟩:=h
 refine ⟨_,(zc (xp (pv 0) (yT rfl (zm (zj (i:=2) wL.nd rfl (Or.inl rfl)) (zm (zj (i:=3) wL.nd rfl (Or.inl rfl)) (zm (zj (i:=4) wL.nd rfl (Or.inl rfl)) z7))))) (zc (zC (i:=5) wL.nd rfl (Or.inl rfl) (zo yf (pv 1) (pv 2))) (zc (z5 (PW.pt (xR (xQ (wE (pv 3))) (xb (zD rP (pv 3) (pv 5) (zG _))))) (zh (zC (i:=5) wL.nd rfl (Or.inl rfl) (pv 3))) zv) (zc (z5 (PW.pt (xR (xQ (wE (pv 4))) (xb (zD ua (pv 4) (pv 5) (zG _))))) (zh (zC (i:=5) wL.nd rfl (Or.inl rfl) (pv 4))) zv) (zh (zt (pv 5))))))),?_⟩
 obtain ⟨ad,lo,hi⟩:=d
 refine ⟨_,rfl,a,_,rfl,hs,rfl,_,_,rfl,_,_,rfl,_,_,rfl,rfl,?_⟩
 refine ⟨_,rfl,_,rfl,_,_,rfl,rfl,?_⟩
 cases lo with
 | none =>
  refine ⟨_,rfl,_,rfl,iteF (iteF ?_)⟩
  cases hi with
  | none=>exact ⟨_,rfl,_,rfl,iteF (iteF ⟨_,rfl,q⟩)⟩
  | some u =>
   refine ⟨_,rfl,_,rfl,iteT ⟨_,rfl,_,rfl,_,_,rfl,rfl,_,rfl,?_⟩⟩
   have q':Q (.int (if u < v + ad then u else v + ad)) H:=q
   refine ite2 (fun c=>?_) (fun c=>?_)
   ·have c':u < v + ad:=of_decide_eq_true c
    rw [if_pos c'] at q'
    exact ⟨_,rfl,_,rfl,q'⟩
   ·have c':¬ u < v + ad:=fun z=>c (decide_eq_true z)
    rw [if_neg c'] at q'
    exact ⟨_,rfl,q'⟩
 | some l =>
  refine ⟨_,rfl,_,rfl,iteT ⟨_,rfl,_,rfl,_,_,rfl,rfl,_,rfl,?_⟩⟩
  have q0:Q (.int (z8 hi (if l > v + ad then l else v + ad))) H:=q
  clear q
  refine ite2 (fun c=>?_) (fun c=>?_)
  ·have c':l > v + ad:=of_decide_eq_true c
   rw [if_pos c'] at q0
   have q:=q0
   refine ⟨_,rfl,?_⟩
   cases hi with
   | none=>exact ⟨_,rfl,_,rfl,iteF (iteF ⟨_,rfl,q⟩)⟩
   | some u =>
    refine ⟨_,rfl,_,rfl,iteT ⟨_,rfl,_,rfl,_,_,rfl,rfl,_,rfl,?_⟩⟩
    have q':Q (.int (if u < l then u else l)) H:=q
    refine ite2 (fun c=>?_) (fun c=>?_)
    ·have c':u < l:=of_decide_eq_true c
     rw [if_pos c'] at q'
     exact ⟨_,rfl,_,rfl,q'⟩
    ·have c':¬ u < l:=fun z=>c (decide_eq_true z)
     rw [if_neg c'] at q'
     exact ⟨_,rfl,q'⟩
  ·have c':¬ l > v + ad:=fun z=>c (decide_eq_true z)
   rw [if_neg c'] at q0
   have q:=q0
   cases hi with
   | none=>exact ⟨_,rfl,_,rfl,iteF (iteF ⟨_,rfl,q⟩)⟩
   | some u =>
    refine ⟨_,rfl,_,rfl,iteT ⟨_,rfl,_,rfl,_,_,rfl,rfl,_,rfl,?_⟩⟩
    have q':Q (.int (if u < v + ad then u else v + ad)) H:=q
    refine ite2 (fun c=>?_) (fun c=>?_)
    ·have c':u < v + ad:=of_decide_eq_true c
     rw [if_pos c'] at q'
     exact ⟨_,rfl,_,rfl,q'⟩
    ·have c':¬ u < v + ad:=fun z=>c (decide_eq_true z)
     rw [if_neg c'] at q'
     exact ⟨_,rfl,q'⟩
theorem uT:FnScope ["one","other","low","high"] ["one","other"] (zf (top 18)):=⟨rfl,rfl,rfl,by decide +kernel,rfl,by decide +kernel,by decide +kernel⟩
theorem X2 (F:Fun K "joined" "joined" (top 18) f fd) (B:Blt mg) (qc0:zn P w K mg base n "tidy" ["add","low","high"] (Y2 K)) (qc1:zn P w K mg base n "made" ["deed","value"] (uj K))     :
  FnOk P w K mg base CX0 (n + 1) f fd ["one","other"] (qg K):=by
 refine F.ok uT ym (fun cdv A outer s H vs Q E hr h=>?_)
 obtain ⟨x,y,rfl,d,e,⟨a,rfl,hsa⟩,⟨b,rfl,hsb⟩,q⟩:=h
 refine ⟨_,(zc (zC (i:=2) uT.nd rfl (Or.inl rfl) (sA (xQ (tI (z6 yV (pv 0) ze (fun _ _=>rfl)))) (z6 yV (pv 1) ze (fun _ _=>rfl)) (zi qc1 hr rfl (za (pv 1) (za (z6 yV (pv 0) ze (fun _ _=>rfl)) zb))))) (zc (zC (i:=3) uT.nd rfl (Or.inl rfl) (sA (xQ (tI (z6 yV (pv 0) ze (fun _ _=>rfl)))) (z6 yV (pv 1) ze (fun _ _=>rfl)) (zi qc1 hr rfl (za (pv 1) (za (z6 yV (pv 0) ze (fun _ _=>rfl)) zb))))) (zh (zt (zi qc0 hr rfl (za (zo yf (z6 yV (pv 0) ze (fun _ _=>rfl)) (z6 yV (pv 1) ze (fun _ _=>rfl))) (za (pv 2) (za (pv 3) zb)))))))),?_⟩
 obtain ⟨da,lo,hi⟩:=d
 obtain ⟨ea,elo,ehi⟩:=e
 refine ⟨_,rfl,a,_,_,_,rfl,rfl,hsa,rfl,_,rfl,?_⟩
 cases lo with
 | none =>
  refine iteT ⟨_,rfl,b,_,_,_,rfl,rfl,hsb,rfl,?_⟩
  refine ⟨_,rfl,a,_,_,_,rfl,rfl,hsa,rfl,_,rfl,?_⟩
  cases hi with
  | none =>
   refine iteT ⟨_,rfl,b,_,_,_,rfl,rfl,hsb,rfl,?_⟩
   exact ⟨_,rfl,a,_,_,_,rfl,rfl,hsa,rfl,_,rfl,b,_,_,_,rfl,rfl,hsb,rfl,_,_,rfl,rfl,_,rfl,_,rfl,_,_,_,rfl,_,elo,ehi,rfl,rfl,rfl,q⟩
  | some u =>
   refine iteF ⟨_,rfl,_,rfl,a,_,_,_,rfl,rfl,hsa,rfl,_,_,rfl,⟨ea,elo,ehi⟩,u,⟨b,rfl,hsb⟩,rfl,?_⟩
   exact ⟨_,rfl,a,_,_,_,rfl,rfl,hsa,rfl,_,rfl,b,_,_,_,rfl,rfl,hsb,rfl,_,_,rfl,rfl,_,rfl,_,rfl,_,_,_,rfl,_,elo,some ((Deed.mk ea elo ehi).mk' u),rfl,rfl,rfl,q⟩
 | some l =>
  refine iteF ⟨_,rfl,_,rfl,a,_,_,_,rfl,rfl,hsa,rfl,_,_,rfl,⟨ea,elo,ehi⟩,l,⟨b,rfl,hsb⟩,rfl,?_⟩
  refine ⟨_,rfl,a,_,_,_,rfl,rfl,hsa,rfl,_,rfl,?_⟩
  cases hi with
  | none =>
   refine iteT ⟨_,rfl,b,_,_,_,rfl,rfl,hsb,rfl,?_⟩
   exact ⟨_,rfl,a,_,_,_,rfl,rfl,hsa,rfl,_,rfl,b,_,_,_,rfl,rfl,hsb,rfl,_,_,rfl,rfl,_,rfl,_,rfl,_,_,_,rfl,_,(some ((Deed.mk ea elo ehi).mk' l)),ehi,rfl,rfl,rfl,q⟩
  | some u =>
   refine iteF ⟨_,rfl,_,rfl,a,_,_,_,rfl,rfl,hsa,rfl,_,_,rfl,⟨ea,elo,ehi⟩,u,⟨b,rfl,hsb⟩,rfl,?_⟩
   exact ⟨_,rfl,a,_,_,_,rfl,rfl,hsa,rfl,_,rfl,b,_,_,_,rfl,rfl,hsb,rfl,_,_,rfl,rfl,_,rfl,_,rfl,_,_,_,rfl,_,(some ((Deed.mk ea elo ehi).mk' l)),some ((Deed.mk ea elo ehi).mk' u),rfl,rfl,rfl,q⟩
theorem yY:FnScope ["switch","waiter","comer","box","deed","numbers","met"] ["switch","waiter","comer"] (zf (top 45)):=⟨rfl,rfl,rfl,by decide +kernel,rfl,by decide +kernel,by decide +kernel⟩
theorem ja (F:Fun K "joined_at" "joined_at" (top 45) f fd) (B:Blt mg) (qc0:zn P w K mg base n "joined" ["one","other"] (qg K))     :
  FnOk P w K mg base CX0 (n + 1) f fd ["switch","waiter","comer"] (XE K):=by
 refine F.ok yY yZ (fun cdv A outer s H vs Q E hr h=>?_)
 obtain ⟨x,y,z,rfl,sw,w5,c5,hx,hy,hz,l1,l2,q⟩:=h
 refine ⟨_,(zc (xp (pv 1) (yT rfl (zm (zj (i:=3) yY.nd rfl (Or.inl rfl)) (zm (zj (i:=4) yY.nd rfl (Or.inl rfl)) (zm (zj (i:=5) yY.nd rfl (Or.inl rfl)) (zm (zj (i:=6) yY.nd rfl (Or.inl rfl)) z7)))))) (zh (zt (zO (za (pv 3) (za (zi qc0 hr rfl (za (pv 4) (za (z6 yV (pv 2) ze (fun _ _=>rfl)) zb))) (za (zo (jv (K:=K) rfl) (pv 5) (z6 yV (pv 2) ze (fun _ _=>rfl))) (za (zo (jv (K:=K) rfl) (zo (jv (K:=K) rfl) (pv 6) (z6 yV (pv 2) ze (fun _ _=>rfl))) (zO (za (pv 0) zb))) zb)))))))),?_⟩
 obtain ⟨r,rd,rn,rm,ms,rfl,h1,h2,h3,h4,h5⟩:=hy
 obtain ⟨r',rd',rn',rm',ms',rfl,h1',h2',h3',h4',h5'⟩:=hz
 obtain ⟨rs,rfl,hs⟩:=hx
 refine ⟨_,rfl,r,_,rfl,h1,rfl,_,_,rfl,_,_,rfl,_,_,rfl,_,_,rfl,rfl,?_⟩
 refine ⟨_,rfl,_,rfl,_,rfl,r',_,1,_,rfl,rfl,h1',zy (j:=1) rfl,_,_,rfl,w5.deed,c5.deed,⟨rd,rfl,h2⟩,⟨rd',rfl,h2'⟩,fun t ht=>?_⟩
 have g1:=Grow.new (m:=[]) ht (.tup (sK w5.deed c5.deed).vs)
 have s1:SqT K (upd H t (.tup (sK w5.deed c5.deed).vs)) t (sK w5.deed c5.deed).vs:=SqT.of zd
 generalize upd H t _ = H1 at g1 s1 ⊢
 have ml:=h5.len
 have ml':=h5'.len
 have nl:(zT w5.nums).length = w5.nums.length:=List.length_map ..
 have nl':(zT c5.nums).length = c5.nums.length:=List.length_map ..
 refine ⟨_,rfl,_,rfl,r',_,2,_,rfl,rfl,g1.sqT h1',zy (j:=2) rfl,rn,rn',_,_,rfl,rfl,g1.sqT h3,g1.sqT h3',Nat.le_of_lt (zp (by omega)),fun p2 H2 g2 s2=>?_⟩
 refine ⟨_,rfl,_,rfl,r',_,3,_,rfl,rfl,(g1.trans g2).sqT h1',zy (j:=3) rfl,rm,rm',_,_,rfl,rfl,(g1.trans g2).sqT h4,(g1.trans g2).sqT h4',Nat.le_of_lt (zp (by omega)),fun p3 H3 g3 s3=>?_⟩
 refine ⟨_,rfl,szl rfl,fun p4 hp4=>?_⟩
 have g4:=Grow.new (m:=[]) hp4 (.tup [.ref rs])
 refine ⟨p3,p4,_,_,rfl,rfl,g4.sqT s3,SqT.of zd,Nat.le_of_lt (zp (by rw [List.length_append]; show _ + 1 <= 1000; omega)),fun p5 H5 g5 s5=>⟨szl rfl,fun p6 hp6=>?_⟩⟩
 have g6:=Grow.new (m:=[]) hp6 (.tup [.int w5.box,.ref t,.ref p2,.ref p5])
 have G26:=g3.trans (g4.trans (g5.trans g6))
 have G:=g1.trans (g2.trans G26)
 refine q _ _ G ⟨p6,t,p2,p5,_,rfl,SqT.of zd,(g2.trans G26).sqT s1,G26.sqT (by unfold zT; rw [show (xK sw w5 c5).nums = w5.nums ++ c5.nums from rfl,List.map_append]; exact s2),g6.sqT s5,?_⟩
 exact (((h5.imp fun _ _ z=>z.grow G).app (h5'.imp fun _ _ z=>z.grow G)).app (.one ⟨rs,rfl,G.tup _ _ hs⟩))
theorem vM:FnScope ["k","stage","line","behind"] ["k","stage","line"] (zf (top 34)):=⟨rfl,rfl,rfl,by decide +kernel,rfl,by decide +kernel,by decide +kernel⟩
theorem jb (F:Fun K "switch_at" "switch_at" (top 34) f fd) (B:Blt mg)      :
  FnOk P w K mg base CX0 (n + 1) f fd ["k","stage","line"] (vI K):=by
 refine F.ok vM yZ (fun cdv A outer s H vs Q E hr h=>?_)
 obtain ⟨x,y,z,rfl,k,st,l,rfl,rfl,rfl,k4,hs,l0,l1,q⟩:=h
 refine ⟨_,(zc (zC (i:=3) vM.nd rfl (Or.inl rfl) (zo yg (pv 0) (pv 1))) (zh (zt (zo VC (zo yH (zo YE (pv 2) (zo yf (pv 3) ze)) (pv 3)) (zo rO (pv 2) (zo yg (zo yH ze (pv 3)) ze)))))),?_⟩
 have e1:(0:Int) <= l / 2 ^ ((k:Int) - st + 1).toNat:=Int.ediv_nonneg l0 (Int.le_of_lt (Int.pow_pos (by decide)))
 have e2:l / 2 ^ ((k:Int) - st + 1).toNat <= l:=Int.ediv_le_self _ l0
 refine ⟨_,rfl,_,rfl,_,_,rfl,rfl,_,rfl,_,rfl,_,_,rfl,rfl,_,_,rfl,rfl,(by show (0:Int) <= (k:Int) - st + 1; omega),_,rfl,_,_,rfl,rfl,⟨by show (0:Int) <= (k:Int) - st; omega,by show (k:Int) - st <= 1000000; omega,by show (l / 2 ^ ((k:Int) - st + 1).toNat).natAbs < 2 ^ 64; omega⟩,?_⟩
 exact ⟨_,rfl,_,rfl,_,_,rfl,rfl,⟨by show (0:Int) <= (k:Int) - st; omega,by show (k:Int) - st <= 1000000; omega,by decide⟩,_,_,rfl,rfl,_,_,rfl,rfl,_,_,rfl,rfl,q⟩
theorem X3:FnScope ["k","stage","line"] ["k","stage","line"] (zf (top 31)):=⟨rfl,rfl,rfl,by decide +kernel,rfl,by decide +kernel,by decide +kernel⟩
theorem X4 (F:Fun K "figure" "figure" (top 31) f fd) (B:Blt mg)      :
  FnOk P w K mg base CX0 (n + 1) f fd ["k","stage","line"] (uw K):=by
 refine F.ok X3 yZ (fun cdv A outer s H vs Q E hr h=>?_)
 obtain ⟨x,y,z,rfl,k,st,l,rfl,rfl,rfl,hs,q⟩:=h
 refine ⟨_,(zh (zt (zo rO (zo YE (pv 2) (zo yg (pv 0) (pv 1))) ze))),?_⟩
 exact ⟨_,rfl,_,rfl,_,rfl,_,_,rfl,rfl,_,_,rfl,rfl,(by show (0:Int) <= (k:Int) - st; omega),_,_,rfl,rfl,q⟩
theorem tD:FnScope ["k","stage","line","wanted"] ["k","stage","line","wanted"] (zf (top 32)):=⟨rfl,rfl,rfl,by decide +kernel,rfl,by decide +kernel,by decide +kernel⟩
theorem tE (F:Fun K "with_figure" "with_figure" (top 32) f fd) (B:Blt mg) (qc0:zn P w K mg base n "figure" ["k","stage","line"] (uw K))     :
  FnOk P w K mg base CX0 (n + 1) f fd ["k","stage","line","wanted"] (wy K):=by
 refine F.ok tD sM (fun cdv A outer s H vs Q E hr h=>?_)
 obtain ⟨x,y,z,u,rfl,k,st,l,w,rfl,rfl,rfl,rfl,k4,hs,l0,l1,hw,q⟩:=h
 refine ⟨_,(zh (zt (zo Vb (pv 2) (zo yH (zo Vb (zi qc0 hr rfl (za (pv 0) (za (pv 1) (za (pv 2) zb)))) (pv 3)) (zo yg (pv 0) (pv 1)))))),?_⟩
 have F:=figF k4 hs l0 l1
 refine ⟨_,rfl,_,rfl,_,rfl,_,rfl,_,_,_,rfl,k,st,l,rfl,rfl,rfl,hs,_,rfl,_,_,rfl,rfl,_,rfl,_,rfl,_,_,rfl,rfl,_,_,rfl,rfl,⟨by show (0:Int) <= (k:Int) - st; omega,by show (k:Int) - st <= 1000000; omega,F.2 w hw⟩,_,_,rfl,rfl,q⟩
theorem X5:FnScope ["k","stage","line","side"] ["k","stage","line","side"] (zf (top 33)):=⟨rfl,rfl,rfl,by decide +kernel,rfl,by decide +kernel,by decide +kernel⟩
theorem X6 (F:Fun K "onward" "onward" (top 33) f fd) (B:Blt mg) (qc0:zn P w K mg base n "with_figure" ["k","stage","line","wanted"] (wy K)) (qc1:zn P w K mg base n "figure" ["k","stage","line"] (uw K))     :
  FnOk P w K mg base CX0 (n + 1) f fd ["k","stage","line","side"] (qk K):=by
 refine F.ok X5 sM (fun cdv A outer s H vs Q E hr h=>?_)
 obtain ⟨x,y,z,u,rfl,k,st,l,s,rfl,rfl,rfl,rfl,k4,hs,l0,l1,s0,s1,q⟩:=h
 refine ⟨_,(zh (zt (zi qc0 hr rfl (za (pv 0) (za (pv 1) (za (pv 2) (za (zi qc1 hr rfl (za (pv 0) (za (pv 1) (za (pv 3) zb)))) zb))))))),?_⟩
 have F:=figF k4 hs s0 s1
 exact ⟨_,rfl,_,rfl,_,rfl,_,rfl,_,rfl,_,rfl,_,_,_,rfl,k,st,s,rfl,rfl,rfl,hs,_,_,_,_,rfl,k,st,l,_,rfl,rfl,rfl,rfl,k4,hs,l0,l1,F.1,q⟩
theorem jW:FnScope ["k","box"] ["k","box"] (zf (top 37)):=⟨rfl,rfl,rfl,by decide +kernel,rfl,by decide +kernel,by decide +kernel⟩
theorem jX (F:Fun K "side_for" "side_for" (top 37) f fd) (B:Blt mg)      :
  FnOk P w K mg base CX0 (n + 1) f fd ["k","box"] (qv K):=by
 refine F.ok jW ym (fun cdv A outer s H vs Q E hr h=>?_)
 obtain ⟨x,y,rfl,k,b,rfl,rfl,k4,b16,q⟩:=h
 refine ⟨_,(zh (zt (zo rO (pv 1) (zo yg (zo yH ze (pv 0)) ze)))),?_⟩
 refine ⟨_,rfl,_,rfl,_,_,rfl,rfl,xT k4,_,_,rfl,rfl,_,_,rfl,rfl,?_⟩
 have e:=WN k4 b16
 show Q (.int (Builtin.bitAnd (b:Int) (1 * 2 ^ ((k:Int)).toNat - 1))) H
 rw [e]
 exact q
theorem yi:FnScope ["self","stage","line","coming","box","out","switch","alike"] ["self","stage","line"] (zf (zk (top 46) 8)):=⟨rfl,rfl,rfl,by decide +kernel,rfl,by decide +kernel,by decide +kernel⟩
theorem tF (F:Fun K "hand_on" "Net.hand_on" (zk (top 46) 8) f fd) (B:Blt mg) {C:Addr} (T:NTxt K mg C) (qc0:zn P w K mg base n "joined_at" ["switch","waiter","comer"] (XE K)) (qc1:zn P w K mg base n "switch_at" ["k","stage","line"] (vI K)) (qc2:zn P w K mg base n "onward" ["k","stage","line","side"] (qk K)) (qc3:zn P w K mg base n "side_for" ["k","box"] (qv K))  (g_enumerate:mg "enumerate" = none)   :
  FnOk P w K mg base CX0 (n + 1) f fd ["self","stage","line"] (re C K):=by
 refine F.ok yi yZ (fun cdv A outer s H vs Q E hr h=>?_)
 obtain ⟨x,y,z,rfl,A5,ns,s5,l,ms,rfl,rfl,rfl,s1,sk,hl,hn,nr,hm,q⟩:=h
 refine ⟨_,(zc (zC (i:=3) yi.nd rfl (Or.inl rfl) (x8 (Room.u1F hr) (zE (pv 0) rfl) (zO (za (zo yg (pv 1) ze) (za (pv 2) zb))) (fun _ _=>rfl))) (zc (z5 (yA (sB (pv 3) (fun _=>rfl))) (zh VB) zv) (zc (zC (i:=4) yi.nd rfl (Or.inr rfl) (z6 yV (z6 zY (pv 3) ze (fun _ _=>rfl)) ze (fun _ _=>rfl))) (zc (zC (i:=5) yi.nd rfl (Or.inl rfl) (x8 (Room.u1F hr) (zE (pv 0) rfl) (zO (za (pv 1) (za (zi qc2 hr rfl (za (zE (pv 0) rfl) (za (pv 1) (za (pv 2) (za (zi qc3 hr rfl (za (zE (pv 0) rfl) (za (pv 4) zb))) zb))))) zb))) (fun _ _=>rfl))) (zc (zC (i:=6) yi.nd rfl (Or.inl rfl) (zO (za (pv 1) (za (zi qc1 hr rfl (za (zE (pv 0) rfl) (za (pv 1) (za (pv 2) zb)))) zb)))) (zc (wU (i:=7) yi.nd rfl rfl (CSc.of (N':=["place","waiter","box"]) (sub:=[none,none,some 4]) (zf (zk (top 46) 8)) ["self","stage","line","coming","box","out","switch","alike"] rfl rfl (by decide +kernel) rfl) rfl (WE false (K:=K) rfl rfl g_enumerate (za (pv 5) zb)) (fun _ _ _ _ _ _=>jq (K:=K) 2 rfl rfl (zm (zj (i:=0) (show (["place","waiter","box"]:List Str).Nodup by decide +kernel) rfl (Or.inl rfl) (Or.inr rfl)) (zm (zj (i:=1) (show (["place","waiter","box"]:List Str).Nodup by decide +kernel) rfl (Or.inl rfl) (Or.inr rfl)) z7)) rfl rfl) (fun _ _ _ _ _ _=>(sI (zD wF (z6 (ur (K:=K) rfl) (pv 1) ze (fun _ _=>rfl)) (pv 2) (zG _)))) (fun _ _ _ _ _ _=>(pv 0))) (zh (z5 (PW.pt (xR (sB (pv 7) (fun _=>rfl)) (xb (zD ua (x8 (Room.u1F hr) (zE (pv 0) rfl) (pv 6) (fun _ _=>rfl)) (zE (pv 0) rfl) (zG _))))) (zc (xp (zi qc0 hr rfl (za (pv 6) (za (z6 zY (pv 5) (z6 zY (pv 7) (jh vZ ze) (fun _ _=>rfl)) (fun _ _=>rfl)) (za (wp PySem.F.plainAttrs_list PySem.F.slot_list_pop PySem.F.type_list_pop sH (pv 3) (za ze zb)) zb)))) (j8 (pv 5) (z6 zY (pv 7) (jh vZ ze) (fun _ _=>rfl)) vQ)) (zh (Xn (Room.u1F hr) (zE (pv 0) rfl) (pv 6) ze Va (fun _ _ _=>rfl)))) (zh (z5 (zD ua (zr zx rfl B.len x6 (za (pv 5) zb)) (zE (pv 0) rfl) (zG _)) (zh (zL (wp PySem.F.plainAttrs_list PySem.F.slot_list_append PySem.F.type_list_append xy (pv 5) (za (wp PySem.F.plainAttrs_list PySem.F.slot_list_pop PySem.F.type_list_pop sH (pv 3) (za ze zb)) zb)))) zv)))))))))),?_⟩
 have k4:=nr.k4
 have p16:=vo k4
 have es:(s5:Int) - 1 = ((s5 - 1:Nat):Int):=by omega
 have sk1:s5 - 1 <= ns.k:=by omega
 refine ⟨_,rfl,_,C,_,_,_,rfl,hn.ob.choose_spec,T.cl,T.n_lines,wZ,_,rfl,_,_,rfl,rfl,_,rfl,szl rfl,fun t1 ht1=>?_⟩
 have g1:=Grow.new (m:=[]) ht1 (.tup [.int ((s5:Int) - 1),.int l])
 have k1:upd H t1 (.tup [.int ((s5:Int) - 1),.int l]) t1 = some (.tup [.int ((s5 - 1:Nat):Int),.int l]):=by rw [zd,es]
 have hn1:=hn.grow0 g1
 generalize upd H t1 _ = H1 at g1 k1 hn1 ⊢
 refine ⟨_,_,rfl,(wX (A:=A5) sk1 hl) ▸ DGet.t hn1.dl (y4 k1),?_⟩
 obtain ⟨ys,hys,hw⟩:=hn1.ln (l:=s5 - 1) (j:=l) sk1 hl
 refine yy ⟨_,rfl,_,.inl ⟨_,SqL.of hys,rfl⟩,?_⟩
 cases hlin:ns.lines (s5 - 1) l with
 | nil =>
  rw [hlin] at hw
  have e:ys = []:=List.eq_nil_of_length_eq_zero (by rw [hw.len]; rfl)
  subst e
  exact yQ rfl (q _ (g1.mono (by simp)) (by unfold wu; rw [hlin]; exact hn1))
 | cons c r =>
 rw [hlin] at hw
 cases ys with
 | nil=>exact hw.elim
 | cons y0 yr =>
 obtain ⟨hc,hyr⟩:=hw
 have hc0:=hc
 obtain ⟨rc,rd,rn,rm,mv,rfl,c1,c2,c3,c4,c5⟩:=hc
 have wok:=nr.lw (s5 - 1) l sk1 hl c (by rw [hlin]; exact List.mem_cons_self ..)
 have cb:c.box < 16:=Nat.lt_of_lt_of_le wok.bx nr.b16
 have sd:c.box % 2 ^ ns.k < 2 ^ ns.k:=Nat.mod_lt _ (Nat.two_pow_pos _)
 refine yu rfl (xU ⟨_,rfl,_,_,0,_,rfl,rfl,SqL.of hys,zy (j:=0) rfl,rc,_,0,_,rfl,rfl,c1,zy (j:=0) rfl,?_⟩)
 have OF:=outF (b:=c.box) k4 s1 sk hl
 refine yy ⟨_,rfl,_,C,_,_,_,rfl,hn1.ob.choose_spec,T.cl,T.n_lines,wZ,_,rfl,_,rfl,_,C,_,_,_,rfl,hn1.ob.choose_spec,T.cl,T.n_depth,zX,_,rfl,_,rfl,_,rfl,_,C,_,_,_,rfl,hn1.ob.choose_spec,T.cl,T.n_depth,zX,_,rfl,_,_,rfl,ns.k,c.box,rfl,rfl,k4,cb,_,_,_,_,rfl,ns.k,s5,(l:Int),((c.box % 2 ^ ns.k:Nat):Int),rfl,rfl,rfl,rfl,k4,sk,by omega,by omega,by omega,by omega,szl rfl,fun t2 ht2=>?_⟩
 have g2:=Grow.new (m:=[]) ht2 (.tup [.int s5,.int (wfI ns.k s5 l (figI ns.k s5 ((c.box % 2 ^ ns.k:Nat):Int)))])
 have k2:upd H1 t2 (.tup [.int s5,.int (wfI ns.k s5 l (figI ns.k s5 ((c.box % 2 ^ ns.k:Nat):Int)))]) t2 = some (.tup [.int s5,.int (outR ns.k s5 l c.box:Nat)]):=by rw [zd,OF.eq]; rfl
 have olt:outR ns.k s5 l c.box < 2 ^ ns.k:=OF.lt
 have hn2:=hn1.grow0 g2
 have hys2:=g2.keep _ _ (by simp) hys
 have hyr2:=hyr.imp fun _ _ z=>z.grow g2
 have hc2:=hc0.grow g2
 generalize upd H1 t2 _ = H2 at g2 k2 hn2 hys2 hyr2 hc2 ⊢
 refine ⟨_,_,rfl,(wX (A:=A5) sk olt) ▸ DGet.t hn2.dl (y4 k2),?_⟩
 have F1:=oneF k4 s1 sk hl
 refine yy ⟨_,rfl,_,rfl,_,C,_,_,_,rfl,hn2.ob.choose_spec,T.cl,T.n_depth,zX,_,rfl,_,rfl,_,_,_,rfl,ns.k,s5,(l:Int),rfl,rfl,rfl,k4,sk,by omega,by omega,szl rfl,fun t3 ht3=>?_⟩
 have g3:=Grow.new (m:=[]) ht3 (.tup [.int s5,.int (swI ns.k s5 l)])
 have k3:upd H2 t3 (.tup [.int s5,.int (swI ns.k s5 l)]) t3 = some (.tup [.int s5,.int (nN ns.k s5 l:Nat)]):=by rw [zd,F1.sw,F1.num]
 have hn3:=hn2.grow0 g3
 have hys3:=g3.keep _ _ (by simp) hys2
 have hyr3:=hyr2.imp fun _ _ z=>z.grow g3
 have hc3:=hc2.grow g3
 generalize upd H2 t3 _ = H3 at g3 k3 hn3 hys3 hyr3 hc3 ⊢
 have G3:=g1.trans (g2.trans g3)
 obtain ⟨zs,hzs,hz⟩:=hn3.ln (l:=s5) (j:=outR ns.k s5 l c.box) sk olt
 have zl:=hz.len
 have l40:=va nr sk olt
 refine yy ⟨_,rfl,_,zs,rfl,SqL.of hzs,Z2 (xs:=zs) (fun i vs σ H'=>(∃ e0 e1,σ = [e0,e1,some (.int c.box)]) /\ Grow [] H3 H' /\ vs = zT ((List.range i).filter fun j=>decide (((ns.lines s5 (outR ns.k s5 l c.box)).getD j default).box = c.box))) ⟨⟨_,_,rfl⟩,Grow.refl _ _,rfl⟩ (fun i vs σ H' ⟨_,g,_⟩=>SqL.of (g.keep _ _ (by simp) hzs)) ?_ ?_⟩
 ·rintro i x vs σ H' T5 hx ⟨⟨e0,e1,rfl⟩,g,rfl⟩ hT5
  obtain ⟨wi,hwi,ri,rdi,rni,rmi,mvi,rfl,w1,w2,w3,w4,w6⟩:=hz.get hx
  have gT:=Grow.new (m:=[]) hT5 (.tup [.int i,.ref ri])
  have ew:(ns.lines s5 (outR ns.k s5 l c.box)).getD i default = wi:=by rw [List.getD_eq_getElem?_getD,hwi]; rfl
  have il:=(List.getElem?_eq_some_iff.mp hwi).1
  have er:(List.range (i + 1)).filter (fun j=>decide (((ns.lines s5 (outR ns.k s5 l c.box)).getD j default).box = c.box)) = (List.range i).filter (fun j=>decide (((ns.lines s5 (outR ns.k s5 l c.box)).getD j default).box = c.box)) ++ (if wi.box = c.box then [i] else []):=by
   rw [List.range_succ,List.filter_append]
   congr 1
   rw [List.filter_cons,ew]
   by_cases z:wi.box = c.box
   ·rw [if_pos z,if_pos (decide_eq_true z)]; rfl
   ·rw [if_neg z,if_neg (by rw [decide_eq_false z]; decide)]; rfl
  refine ⟨T5,_,rfl,SqT.of zd,rfl,_,_,rfl,_,_,rfl,rfl,_,rfl,ri,_,0,_,rfl,rfl,gT.sqT (g.sqT w1),zy (j:=0) rfl,_,rfl,rfl,_,rfl,?_⟩
  by_cases z:wi.box = c.box
  ·refine yQ (decide_eq_true (congrArg V.int (by omega))) ⟨_,rfl,?_,⟨_,_,rfl⟩,g.trans gT,?_⟩
   ·unfold zT; rw [List.length_map]; exact zp (Nat.le_trans (List.length_filter_le _ _) (by rw [List.length_range]; omega))
   ·rw [er,if_pos z]; unfold zT; rw [List.map_append]; rfl
  ·refine yu (decide_eq_false fun w=>z (by have:=V.int.inj w; omega)) ⟨⟨_,_,rfl⟩,g.trans gT,?_⟩
   rw [er,if_neg z,List.append_nil]
 rintro vs σ H4 ⟨_,g4,rfl⟩ la hla
 rw [zl]
 have gl:=Grow.new (m:=[]) hla (.lst (zT ((List.range (ns.lines s5 (outR ns.k s5 l c.box)).length).filter fun j=>decide (((ns.lines s5 (outR ns.k s5 l c.box)).getD j default).box = c.box))))
 have hla5:=zd (H:=H4) (a:=la) (o:=.lst (zT ((List.range (ns.lines s5 (outR ns.k s5 l c.box)).length).filter fun j=>decide (((ns.lines s5 (outR ns.k s5 l c.box)).getD j default).box = c.box))))
 have elast:qE (ns.lines s5 (outR ns.k s5 l c.box)) c.box = ((List.range (ns.lines s5 (outR ns.k s5 l c.box)).length).filter fun j=>decide (((ns.lines s5 (outR ns.k s5 l c.box)).getD j default).box = c.box)).getLast?:=rfl
 generalize ((List.range (ns.lines s5 (outR ns.k s5 l c.box)).length).filter fun j=>decide (((ns.lines s5 (outR ns.k s5 l c.box)).getD j default).box = c.box)) = ids at hla gl hla5 elast ⊢
 have g45:=g4.trans gl
 have hn5:=hn3.grow0 g45
 have hys5:=g45.keep _ _ (by simp) hys3
 have hyr5:=hyr3.imp fun _ _ z=>z.grow g45
 have hc5:=hc3.grow g45
 have hzs5:=g45.keep _ _ (by simp) hzs
 have hz5:=hz.imp fun _ _ z=>z.grow g45
 have k5:=g45.tup _ _ k3
 have G5:=G3.trans g45
 generalize upd H4 la _ = H5 at gl hla5 g45 hn5 hys5 hyr5 hc5 hzs5 hz5 k5 G5 ⊢
 clear hz hzs hc3 hyr3 hys3 hn3 hc2 hyr2 hys2 hn2 hc0 hyr hys hn1 hla g4 gl
 have neL:A5 (.ln s5 (outR ns.k s5 l c.box)) ≠ A5 (.ln (s5 - 1) l):=nd5 hn5 (a:=.ln s5 (outR ns.k s5 l c.box)) (b:=.ln (s5 - 1) l) ⟨sk,olt⟩ ⟨sk1,hl⟩ (fun z=>by injection z; omega)
 have m1:A5 (.ln (s5 - 1) l) ∈ ms:=hm (.ln (s5 - 1) l) ⟨sk1,hl⟩
 have m2:A5 (.ln s5 (outR ns.k s5 l c.box)) ∈ ms:=hm (.ln s5 (outR ns.k s5 l c.box)) ⟨sk,olt⟩
 have m3:A5 .dk ∈ ms:=hm .dk trivial
 refine yy (Ua (fun b H'=>H' = H5 /\ b = (!ids.isEmpty && decide (ns.keep s5 (nN ns.k s5 l) < ns.kept))) (fun Kk hk=>?_) ?_)
 ·have ei:(!(zT ids).isEmpty) = !ids.isEmpty:=by cases ids <;> rfl
  refine ⟨_,rfl,_,.inl ⟨_,SqL.of hla5,rfl⟩,?_⟩
  rw [ei]
  cases hid:ids.isEmpty with
  | true=>exact yu rfl (hk _ _ ⟨rfl,by rw [hid]; rfl⟩)
  | false=>exact yQ rfl ⟨_,rfl,_,C,_,_,_,rfl,hn5.ob.choose_spec,T.cl,T.n_keeping,wn,_,rfl,_,_,rfl,(wY (kp:=ns.keep) s1 sk F1.lt) ▸ DGet.t hn5.dk (y4 k5),_,rfl,_,C,_,_,_,rfl,hn5.ob.choose_spec,T.cl,T.n_most_kept,qI,_,_,rfl,rfl,_,rfl,hk _ _ ⟨rfl,by rw [hid]; rfl⟩⟩
 rintro b H' ⟨rfl,rfl⟩
 obtain ⟨hn6,g6⟩:=hn5.setLn sk1 hl hyr5
 cases hb:(!ids.isEmpty && decide (ns.keep s5 (nN ns.k s5 l) < ns.kept)) with
 | true =>
  rw [Bool.and_eq_true,decide_eq_true_eq] at hb
  obtain ⟨is,i,rfl⟩:∃ is i,ids = is ++ [i]:=by
   have hne:ids ≠ []:=fun z=>by rw [z] at hb; exact absurd hb.1 (by decide)
   exact ⟨ids.dropLast,ids.getLast hne,(List.dropLast_concat_getLast hne).symm⟩
  rw [List.getLast?_concat] at elast
  obtain ⟨ilt,ibx⟩:=jG elast
  obtain ⟨xi,hxi⟩:∃ x,zs[i]? = some x:=⟨_,List.getElem?_eq_getElem (by omega)⟩
  obtain ⟨wi,hwi,hWi⟩:=hz5.get hxi
  have ewi:(ns.lines s5 (outR ns.k s5 l c.box)).getD i default = wi:=by rw [List.getD_eq_getElem?_getD,hwi]; rfl
  have wiok:=nr.lw s5 _ sk olt wi (List.mem_of_getElem? hwi)
  have two:=V5 (f:=ns.lines) (g:=nlen) sk1 hl sk olt (fun z=>by have:=z.1; omega)
  have t1':=vT (g:=nlen) (ws:=ns.lines s5 (outR ns.k s5 l c.box)) (w:=wi) (List.mem_of_getElem? hwi)
  have t2':nlen c <= lsum nlen (ns.lines (s5 - 1) l):=vT (by rw [hlin]; exact List.mem_cons_self ..)
  have tot:=nr.tot
  have a40:=nr.a40
  have n40:wi.nums.length + c.nums.length <= 40:=by
   have e1:nlen wi = wi.nums.length:=rfl
   have e2:nlen c = c.nums.length:=rfl
   omega
  have ln1:=wok.ln
  have ln2:=wiok.ln
  refine iteT ⟨_,rfl,_,rfl,_,rfl,_,rfl,la,_,-1,_,rfl,rfl,SqL.of hla5,Th,_,_,i,_,rfl,rfl,SqL.of hzs5,zy hxi,_,rfl,.inl ⟨rfl,_,SqL.of hys5⟩,_,_,0,0,_,rfl,rfl,hys5,by decide,by decide,Ub,rfl,?_⟩
  have hla6:=g6.keep _ _ (show la ∉ [A5 (.ln (s5 - 1) l)] from fun z=>by have e:=List.mem_singleton.mp z; rw [e,hys5] at hla5; have:=HO.lst.inj (Option.some.inj hla5); cases is <;> cases this) hla5
  have hzs6:=g6.keep _ _ (show A5 (.ln s5 (outR ns.k s5 l c.box)) ∉ [A5 (.ln (s5 - 1) l)] by simpa using neL) hzs5
  have k6:=g6.tup _ _ k5
  have hz6:=hz5.imp fun _ _ z=>z.grow g6
  have hc6:=hc5.grow g6
  have hWi6:=hWi.grow g6
  have eer:(V.ref rc :: yr).eraseIdx 0 = yr:=rfl
  rw [eer]
  generalize upd H' (A5 (.ln (s5 - 1) l)) (.lst yr) = H6 at hn6 g6 hla6 hzs6 k6 hz6 hc6 hWi6 ⊢
  refine ⟨_,_,_,rfl,(s5,nN ns.k s5 l),wi,c,⟨t3,rfl,k6⟩,hWi6,hc6,n40,by omega,fun r7 H7 g7 hr7=>?_⟩
  have hla7:=g7.keep _ _ (by simp) hla6
  have hzs7:=g7.keep _ _ (by simp) hzs6
  refine ⟨_,rfl,_,rfl,_,rfl,la,_,-1,_,rfl,rfl,SqL.of hla7,Th,_,_,_,i,rfl,rfl,hzs7,rj (by omega),?_⟩
  have hn7:=hn6.grow0 g7
  obtain ⟨hn8,g8⟩:=hn7.setLn (l:=s5) (j:=outR ns.k s5 l c.box) sk olt (AllR.set (n:=i) hr7 (hz6.imp fun _ _ z=>z.grow g7))
  have k8:=(g7.trans (Grow.refl _ _)).tup _ _ k6
  have k8':=g8.tup _ _ k8
  generalize upd H7 (A5 (.ln s5 (outR ns.k s5 l c.box))) _ = H8 at hn8 g8 k8' ⊢
  refine ⟨_,rfl,_,C,_,_,_,rfl,hn8.ob.choose_spec,T.cl,T.n_keeping,wn,_,rfl,_,_,rfl,(wY (kp:=ns.keep) s1 sk F1.lt) ▸ DGet.t hn8.dk (y4 k8'),_,_,rfl,rfl,_,DPut.t hn8.dk (y4 k8') (zp (Nat.le_of_lt (Zt k4))),?_⟩
  have ep:putK (z9 ns.k ns.keep) (kI [(s5:Int),(nN ns.k s5 l:Int)]) (.int (ns.keep s5 (nN ns.k s5 l) + 1)) = z9 ns.k (updL ns.keep s5 (nN ns.k s5 l) (ns.keep s5 (nN ns.k s5 l) + 1)):=Zs s1 sk F1.lt
  obtain ⟨hn9,g9⟩:=hn8.setK (updL ns.keep s5 (nN ns.k s5 l) (ns.keep s5 (nN ns.k s5 l) + 1))
  show Q V.non (upd H8 (A5 .dk) (.dT (putK (z9 ns.k ns.keep) (kI [(s5:Int),(nN ns.k s5 l:Int)]) (.int (ns.keep s5 (nN ns.k s5 l) + 1)))))
  rw [ep]
  refine q _ ((G5.mono (by simp)).trans ((g6.mono (by simpa using m1)).trans ((g7.mono (by simp)).trans ((g8.mono (by simpa using m2)).trans (g9.mono (by simpa using m3)))))) ?_
  have eh:wu ns s5 l = { ns with lines:=updL (updL ns.lines (s5 - 1) l r) s5 (outR ns.k s5 l c.box) ((ns.lines s5 (outR ns.k s5 l c.box)).set i (xK (s5,nN ns.k s5 l) wi c)),keep:=updL ns.keep s5 (nN ns.k s5 l) (ns.keep s5 (nN ns.k s5 l) + 1) }:=by
   unfold wu
   rw [hlin]
   show (match qE (ns.lines s5 (outR ns.k s5 l c.box)) c.box with | none=>_ | some i=>_) = _
   rw [elast]
   show (if _ then _ else _) = _
   rw [if_pos hb.2,ewi]
  rw [eh]; exact hn9
 | false =>
  have eh:wu ns s5 l = addS ns s5 l c r:=by
   unfold wu
   rw [hlin]
   show (match qE (ns.lines s5 (outR ns.k s5 l c.box)) c.box with | none=>_ | some i=>_) = _
   rw [elast]
   cases ids with
   | nil=>rfl
   | cons a b =>
    have hb':decide (ns.keep s5 (nN ns.k s5 l) < ns.kept) = false:=hb
    rw [List.getLast?_cons]
    show (if _ then _ else _) = _
    rw [if_neg (of_decide_eq_false hb')]
  refine iteF ⟨_,rfl,_,zs,rfl,.inl (SqL.of hzs5),_,rfl,_,C,_,_,_,rfl,hn5.ob.choose_spec,T.cl,T.n_room,V6,_,_,rfl,rfl,_,rfl,?_⟩
  by_cases hroom:(ns.lines s5 (outR ns.k s5 l c.box)).length < ns.room
  rotate_left
  ·refine yu (decide_eq_false (by omega)) (q _ (G5.mono (by simp)) ?_)
   rw [eh]; unfold addS; rw [if_neg hroom]; exact hn5
  refine yQ (decide_eq_true (by omega)) ⟨_,rfl,.inl ⟨rfl,_,SqL.of hzs5⟩,_,rfl,.inl ⟨rfl,_,SqL.of hys5⟩,_,_,0,0,_,rfl,rfl,hys5,by decide,by decide,Ub,rfl,?_⟩
  have hzs6:=g6.keep _ _ (show A5 (.ln s5 (outR ns.k s5 l c.box)) ∉ [A5 (.ln (s5 - 1) l)] by simpa using neL) hzs5
  have hz6:=hz5.imp fun _ _ z=>z.grow g6
  have hc6:=hc5.grow g6
  have eer:(V.ref rc :: yr).eraseIdx 0 = yr:=rfl
  rw [eer]
  generalize upd H' (A5 (.ln (s5 - 1) l)) (.lst yr) = H6 at hn6 g6 hzs6 hz6 hc6 ⊢
  obtain ⟨hn8,g8⟩:=hn6.setLn (l:=s5) (j:=outR ns.k s5 l c.box) sk olt (hz6.app (.one hc6))
  refine ⟨_,_,_,rfl,rfl,hzs6,zp (by omega),q _ ((G5.mono (by simp)).trans ((g6.mono (by simpa using m1)).trans (g8.mono (by simpa using m2)))) ?_⟩
  rw [eh]; unfold addS; rw [if_pos hroom]; exact hn8
theorem xw:FnScope ["self","stage","gone","first","number"] ["self","stage","gone"] (zf (zk (top 46) 7)):=⟨rfl,rfl,rfl,by decide +kernel,rfl,by decide +kernel,by decide +kernel⟩
theorem tG (F:Fun K "pass_on" "Net.pass_on" (zk (top 46) 7) f fd) (B:Blt mg) {C:Addr} (T:NTxt K mg C) (mc_hand_on:zF P w K mg base C n "hand_on" ["self","stage","line"] (re C K)) (qc0:zn P w K mg base n "in_line" ["k","stage","number","mark"] (XD K))     :
  FnOk P w K mg base CX0 (n + 1) f fd ["self","stage","gone"] (rf C K):=by
 refine F.ok xw yZ (fun cdv A outer s H vs Q E hr h=>?_)
 obtain ⟨x,y,z,rfl,A5,ns,s5,gone,ms,rfl,rfl,hg,s1,sk,hn,nr,hm,q⟩:=h
 refine ⟨_,(zc (zC (i:=3) xw.nd rfl (Or.inl rfl) (zo rO (zE (pv 0) rfl) ze)) (zh (yE PassesOwn.never rfl (ye rfl B.range (za (zo yH ze (zo yg (zE (pv 0) rfl) ze)) zb)) (zj (i:=4) xw.nd rfl (Or.inl rfl)) (zh (z5 (zD (sf (K:=K) rfl hr) (zO (za (pv 1) (za (pv 4) zb))) (pv 2) (by with_unfolding_all rfl)) (zc (zL (yM mc_hand_on T.cl hr (pv 0) (za (pv 1) (za (zi qc0 hr rfl (za (zE (pv 0) rfl) (za (pv 1) (za (pv 4) (za (pv 3) zb))))) zb)))) (zh (zL (yM mc_hand_on T.cl hr (pv 0) (za (pv 1) (za (zi qc0 hr rfl (za (zE (pv 0) rfl) (za (pv 1) (za (pv 4) (za (zo yg ze (pv 3)) zb))))) zb)))))) zv))))),?_⟩
 have k4:=nr.k4
 have ea:Builtin.bitAnd (ns.now:Int) 1 = ((ns.now % 2:Nat):Int):=by rw [show (1:Int) = ((1:Nat):Int) from rfl,VW,Nat.and_one_is_mod]
 have ek:(ns.k:Int) - 1 = ((ns.k - 1:Nat):Int):=by omega
 have ej:(1:Int) * 2 ^ ((ns.k:Int) - 1).toNat = ((2 ^ (ns.k - 1):Nat):Int):=by rw [ek]; exact sN
 have p8:2 ^ (ns.k - 1) <= 8:=Nat.le_trans (Nat.pow_le_pow_right (by decide) (show ns.k - 1 <= 3 by omega)) (by decide)
 refine ⟨_,rfl,_,C,_,_,_,rfl,hn.ob.choose_spec,T.cl,T.n_now,Zv,_,_,rfl,rfl,jy (congrArg V.int ea) ⟨_,rfl,_,C,_,_,_,rfl,hn.ob.choose_spec,T.cl,T.n_depth,zX,_,_,rfl,rfl,_,_,rfl,rfl,⟨by omega,by omega,by decide⟩,_,rfl,by rw [ej]; exact Int.le_trans (by decide) (Int.natCast_nonneg _),by rw [ej]; exact Int.lt_of_le_of_lt (Int.ofNat_le.mpr p8) (by decide),?_⟩⟩
 rw [ej,Int.toNat_natCast]
 refine yU (fun i σ H'=>∃ e4,σ = [some (.ref (A5 .p)),some (.int s5),some z,some (.int ((ns.now % 2:Nat):Int)),e4] /\ Grow ms H H' /\ NetAt K C H' A5 (passS gone ns s5 i)) ⟨_,rfl,Grow.refl _ _,hn⟩ ?_ ?_
 rotate_left
 ·rintro σ H' ⟨e4,rfl,g,hn'⟩
  exact q _ g hn'
 rintro i σ H1 hi ⟨e4,rfl,g1,hn1⟩
 have sm:=xE gone ns s5 i
 have nr1:=nr.passS (gone:=gone) s1 sk (i:=i) (by omega)
 have es:passS gone ns s5 (i + 1) = x9 gone s5 (passS gone ns s5 i) i:=by unfold passS; rw [zR]
 rw [es]
 generalize passS gone ns s5 i = n1 at hn1 sm nr1 ⊢
 obtain ⟨rg,ys,rfl,hrg,hga,hgl⟩:=hg.grow g1
 refine ⟨_,rfl,_,rfl,szl rfl,fun t ht=>?_⟩
 have gt:=Grow.new (m:=[]) ht (.tup [.int s5,.int (0 + (i:Int))])
 have kt:upd H1 t (.tup [.int s5,.int (0 + (i:Int))]) t = some (.tup [.int s5,.int i]):=by rw [zd,Int.zero_add]
 have hn2:=hn1.grow0 gt
 have G2:Grow ms H (upd H1 t (.tup [.int s5,.int (0 + (i:Int))])):=g1.trans gt.wk
 refine ⟨_,rfl,t,rg,ys,(s5,i),gone,rfl,rfl,SqT.of kt,gt.sqT hrg,hga.imp fun _ _ ⟨r,e,z⟩=>⟨r,e,gt.sqT z⟩,_,rfl,?_⟩
 generalize upd H1 t _ = H2 at gt kt hn2 G2 ⊢
 by_cases c:(s5,i) ∈ gone
 ·refine yu (by rw [decide_eq_true c]; rfl) ⟨_,rfl,G2,?_⟩
  unfold x9
  rw [if_pos c]; exact hn2
 refine yQ (by rw [decide_eq_false c]; rfl) ?_
 have ep:x9 gone s5 n1 i = wu (wu n1 s5 (inlN n1.k s5 i (n1.now % 2))) s5 (inlN n1.k s5 i (1 - n1.now % 2)):=if_neg c
 have ik:i < 2 ^ (n1.k - 1):=by rw [sm.k]; exact hi
 have sk1:s5 <= n1.k:=by rw [sm.k]; exact sk
 have m2:n1.now % 2 < 2:=Nat.mod_lt _ (by decide)
 have en:ns.now % 2 = n1.now % 2:=by rw [sm.now]
 have hm1:∀ a,okA n1 a -> A5 a ∈ ms:=fun a ha=>hm a (by
  have ek:=sm.k
  have en:=sm.nd
  cases a <;> first | trivial | (unfold okA at ha ⊢; rw [ek] at ha; exact ha) | (unfold okA at ha ⊢; rw [en] at ha; exact ha))
 have l1:=vA nr1.k4 s1 sk1 ik m2
 have l2:=vA nr1.k4 s1 sk1 ik (show 1 - n1.now % 2 < 2 by omega)
 refine ⟨_,rfl,_,_,_,rfl,hn2.ob.choose_spec,se,_,rfl,_,rfl,_,C,_,_,_,rfl,hn2.ob.choose_spec,T.cl,T.n_depth,zX,_,rfl,_,rfl,_,rfl,_,_,_,_,rfl,n1.k,s5,i,n1.now % 2,rfl,rfl,congrArg V.int (by omega),congrArg V.int (by omega),nr1.k4,s1,sk1,ik,m2,_,_,_,rfl,A5,n1,s5,_,ms,rfl,rfl,rfl,s1,sk1,l1,hn2,nr1,hm1,fun H3 g3 hn3=>?_⟩
 have sm3:=wa n1 s5 (inlN n1.k s5 i (n1.now % 2))
 have nr3:=nr1.hand s1 sk1 l1
 have hm3:∀ a,okA (wu n1 s5 (inlN n1.k s5 i (n1.now % 2))) a -> A5 a ∈ ms:=fun a ha=>hm1 a (by
  have ek:=sm3.k
  have en:=sm3.nd
  cases a <;> first | trivial | (unfold okA at ha ⊢; rw [ek] at ha; exact ha) | (unfold okA at ha ⊢; rw [en] at ha; exact ha))
 refine ⟨_,rfl,_,_,_,rfl,hn3.ob.choose_spec,se,_,rfl,_,rfl,_,C,_,_,_,rfl,hn3.ob.choose_spec,T.cl,T.n_depth,zX,_,rfl,_,rfl,_,rfl,_,_,rfl,rfl,_,_,_,_,rfl,n1.k,s5,i,1 - n1.now % 2,congrArg V.int (by rw [sm3.k]),rfl,congrArg V.int (by omega),congrArg V.int (by omega),nr1.k4,s1,sk1,ik,by omega,_,_,_,rfl,A5,_,s5,_,ms,rfl,rfl,rfl,s1,by rw [sm3.k]; exact sk1,by rw [sm3.k]; exact l2,hn3,nr3,hm3,fun H4 g4 hn4=>⟨_,rfl,G2.trans (g3.trans g4),?_⟩⟩
 rw [ep]; exact hn4
theorem wC:FnScope ["self","box","numbers","number"] ["self","box","numbers"] (zf (zk (top 46) 6)):=⟨rfl,rfl,rfl,by decide +kernel,rfl,by decide +kernel,by decide +kernel⟩
theorem tH (F:Fun K "do_asks" "Net.do_asks" (zk (top 46) 6) f fd) (B:Blt mg) {C:Addr} (T:NTxt K mg C) (qc0:zn P w K mg base n "made" ["deed","value"] (uj K))     :
  FnOk P w K mg base CX0 (n + 1) f fd ["self","box","numbers"] (vy C K):=by
 refine F.ok wC yZ (fun cdv A outer s H vs Q E hr h=>?_)
 obtain ⟨x,y,z,rfl,A5,ns,b,nums,r,rfl,rfl,rfl,hr5,hn,hb,hnm,hl,hf,q⟩:=h
 refine ⟨_,(zh (yE PassesOwn.never rfl (ww (pv 2)) (zj (i:=3) wC.nd rfl (Or.inl rfl)) (zc (Xm (Room.u1F hr) (zE (pv 0) rfl) (pv 3) (z6 zY (zE (pv 0) rfl) (pv 1) (fun _ _=>rfl)) rfl) (zc (xp (zi qc0 hr rfl (za (z6 yV (z6 zY (zE (pv 0) rfl) (pv 3) (fun _ _=>rfl)) ze (fun _ _=>rfl)) (za (z6 zY (zE (pv 0) rfl) (pv 1) (fun _ _=>rfl)) zb))) (j8 (zE (pv 0) rfl) (pv 1) vQ)) (zh (zL (wp PySem.F.plainAttrs_list PySem.F.slot_list_append PySem.F.type_list_append xy (zE (pv 0) rfl) (za (pv 3) zb)))))))),?_⟩
 have nl:(zT nums).length = nums.length:=List.length_map ..
 refine ⟨_,rfl,r,rfl,⟨_,hr5⟩,vY (xs:=zT nums) (fun i σ H'=>∃ e3,σ = [some (.ref (A5 .p)),some (.int b),some (.ref r),e3] /\ Grow [A5 .lb,A5 .df,A5 .lg] H H' /\ NetAt K C H' A5 ((nums.take i).foldl (doN b) ns)) ⟨_,rfl,Grow.refl _ _,hn⟩ (fun i σ H' _ ⟨_,_,g,_⟩=>g.sqT hr5) ?_ ?_⟩
 rotate_left
 ·rintro σ H' ⟨e3,rfl,g,hn'⟩
  rw [nl,List.take_length] at hn'
  exact q _ g hn'
 rintro i x σ H1 hx ⟨e3,rfl,g,hn1⟩
 rw [show (zT nums)[i]? = (nums[i]?).map fun n:Nat=>V.int n from List.getElem?_map ..] at hx
 obtain ⟨n5,hi,rfl⟩:=Option.map_eq_some_iff.mp hx
 have il:=(List.getElem?_eq_some_iff.mp hi).1
 rw [xm hi]
 have lb:((nums.take i).foldl (doN b) ns).boxes.length = ns.boxes.length:=xD.1
 have la:((nums.take i).foldl (doN b) ns).asks = ns.asks:=xD.2.1
 have lg:((nums.take i).foldl (doN b) ns).log.length = ns.log.length + i:=by rw [xD.2.2.1,List.length_append,List.length_take]; omega
 have lf:((nums.take i).foldl (doN b) ns).fnd.length <= ns.fnd.length + i:=Nat.le_trans xD.2.2.2 (by rw [List.length_take]; omega)
 generalize (nums.take i).foldl (doN b) ns = n1 at hn1 lb la lg lf ⊢
 have n5a:=hnm n5 (List.mem_of_getElem? hi)
 have bl:b < n1.boxes.length:=by omega
 obtain ⟨v0,hv0⟩:∃ v,n1.boxes[b]? = some v:=⟨_,List.getElem?_eq_getElem bl⟩
 have ev:n1.boxes.getD b 0 = v0:=by rw [List.getD_eq_getElem?_getD,hv0]; rfl
 have hvx:(n1.boxes.map V.int)[b]? = some (.int v0):=by rw [List.getElem?_map,hv0]; rfl
 refine ⟨_,rfl,_,C,_,_,_,rfl,hn1.ob.choose_spec,T.cl,T.n_boxes,vU,_,rfl,A5 .lb,_,b,.int v0,rfl,rfl,SqL.of hn1.lb,zy hvx,?_⟩
 refine ⟨_,rfl,_,C,_,_,_,rfl,hn1.ob.choose_spec,T.cl,T.n_found,Zw,_,rfl,A5 .df,_,rfl,.inl ⟨_,.inl (n5:Int),hn1.df,rfl,?_,rfl⟩,?_⟩
 ·unfold nKv; rw [List.length_map]; exact zp (by omega)
 rw [jD]
 obtain ⟨hn2,g2⟩:=hn1.setF (putN n1.fnd n5 v0)
 generalize upd H1 (A5 .df) _ = H2 at hn2 g2 ⊢
 obtain ⟨xs,hxs,has⟩:=hn2.la
 have has':AllR (xA K H2) xs n1.asks:=has
 have xl:xs.length = n1.asks.length:=has'.len
 obtain ⟨xa,hxa⟩:∃ x,xs[n5]? = some x:=⟨_,List.getElem?_eq_getElem (by rw [xl,la]; exact n5a)⟩
 obtain ⟨ka,hka,ra,rd,rfl,sa,sd⟩:=has'.get hxa
 have eka:n1.asks.getD n5 default = ka:=by rw [List.getD_eq_getElem?_getD,hka]; rfl
 refine ⟨_,rfl,_,C,_,_,_,rfl,hn2.ob.choose_spec,T.cl,T.n_asks,jE,_,rfl,A5 .la,_,n5,_,rfl,rfl,SqL.of hxs,zy hxa,ra,_,2,_,rfl,rfl,sa,zy (j:=2) rfl,?_⟩
 refine ⟨_,rfl,_,C,_,_,_,rfl,hn2.ob.choose_spec,T.cl,T.n_boxes,vU,_,rfl,A5 .lb,_,b,.int v0,rfl,rfl,SqL.of hn2.lb,zy hvx,_,_,rfl,ka.deed,v0,⟨rd,rfl,sd⟩,rfl,?_⟩
 refine ⟨_,rfl,_,C,_,_,_,rfl,hn2.ob.choose_spec,T.cl,T.n_boxes,vU,_,rfl,A5 .lb,_,b,b,rfl,rfl,hn2.lb,?_,?_⟩
 ·exact rj (by rw [List.length_map]; exact bl)
 have ex:(n1.boxes.map V.int).set b (.int (ka.deed.mk' v0)) = (n1.boxes.set b (ka.deed.mk' v0)).map V.int:=(List.map_set ..).symm
 show tSeq _ _ _ _ _
 rw [ex]
 obtain ⟨hn3,g3⟩:=hn2.setB (n1.boxes.set b (ka.deed.mk' v0))
 generalize upd H2 (A5 .lb) _ = H3 at hn3 g3 ⊢
 refine ⟨_,rfl,_,C,_,_,_,rfl,hn3.ob.choose_spec,T.cl,T.n_logged,qJ,.inl ⟨rfl,_,SqL.of hn3.lg⟩,_,rfl,A5 .lg,_,_,rfl,rfl,hn3.lg,?_,?_⟩
 ·unfold zT; rw [List.length_map]; exact zp (by show n1.log.length <= 1000; omega)
 have el:zT n1.log ++ [.int (n5:Int)] = zT (n1.log ++ [n5]):=by unfold zT; rw [List.map_append]; rfl
 refine ⟨_,rfl,?_⟩
 have key:=hn3.setG (n1.log ++ [n5])
 refine ⟨g.trans ((g2.mono (by simp)).trans ((g3.mono (by simp)).trans ?_)),?_⟩
 ·show Grow _ _ (upd H3 (A5 .lg) (.lst (zT n1.log ++ [.int (n5:Int)])))
  rw [el]; exact key.2.mono (by simp)
 ·show NetAt K C (upd H3 (A5 .lg) (.lst (zT n1.log ++ [.int (n5:Int)]))) A5 _
  rw [el]
  have e:doN b n1 n5 = { n1 with boxes:=n1.boxes.set b (ka.deed.mk' v0),fnd:=putN n1.fnd n5 v0,log:=n1.log ++ [n5] }:=by unfold doN; rw [eka,ev]
  rw [e]; exact key.1
theorem yt:FnScope ["self","gone","taken","side","line","box","deed","numbers","met"] ["self","gone"] (zf (zk (top 46) 5)):=⟨rfl,rfl,rfl,by decide +kernel,rfl,by decide +kernel,by decide +kernel⟩
theorem jY (F:Fun K "take" "Net.take" (zk (top 46) 5) f fd) (B:Blt mg) {C:Addr} (T:NTxt K mg C) (mc_do_asks:zF P w K mg base C n "do_asks" ["self","box","numbers"] (vy C K))      :
  FnOk P w K mg base CX0 (n + 1) f fd ["self","gone"] (s8 C K):=by
 refine F.ok yt ym (fun cdv A outer s H vs Q E hr h=>?_)
 obtain ⟨x,y,rfl,A5,ns,gone,ms,rfl,hg,hn,nr,hnd,hm,q⟩:=h
 refine ⟨_,(zc (zC (i:=2) yt.nd rfl (Or.inl rfl) (yF zb)) (zc (yE PassesOwn.never rfl (ye rfl B.range (za (zo yH ze (zE (pv 0) rfl)) zb)) (zj (i:=3) yt.nd rfl (Or.inl rfl)) (zc (zC (i:=4) yt.nd rfl (Or.inl rfl) (x8 (Room.u1F hr) (zE (pv 0) rfl) (zO (za (zE (pv 0) rfl) (za (pv 3) zb))) (fun _ _=>rfl))) (zh (z5 (PW.pt (xR (sB (pv 4) (fun _=>rfl)) (xb (zD (sf (K:=K) rfl hr) (zO (za ze (za (pv 3) zb))) (pv 1) (by with_unfolding_all rfl))))) (zh (zL (wp PySem.F.plainAttrs_list PySem.F.slot_list_append PySem.F.type_list_append xy (pv 2) (za (wp PySem.F.plainAttrs_list PySem.F.slot_list_pop PySem.F.type_list_pop sH (pv 4) (za ze zb)) zb)))) zv)))) (zc (Xm (Room.u1F hr) (zE (pv 0) rfl) (zE (pv 0) rfl) (pv 2) rfl) (zh (yE PassesOwn.never rfl (xc (pv 2)) (yT rfl (zm (zj (i:=5) yt.nd rfl (Or.inl rfl)) (zm (zj (i:=6) yt.nd rfl (Or.inl rfl)) (zm (zj (i:=7) yt.nd rfl (Or.inl rfl)) (zm (zj (i:=8) yt.nd rfl (Or.inl rfl)) z7))))) (zh (zL (yM mc_do_asks T.cl hr (pv 0) (za (pv 5) (za (pv 7) zb)))))))))),?_⟩
 have k4:=nr.k4
 have p16:=vo k4
 have ej:(1:Int) * 2 ^ ((ns.k:Int)).toNat = ((2 ^ ns.k:Nat):Int):=sN
 refine ⟨szl rfl,fun lt hlt=>?_⟩
 have g0:=Grow.new (m:=[]) hlt (.lst [])
 have hlt0:=zd (H:=H) (a:=lt) (o:=.lst [])
 have hn0:=hn.grow0 g0
 have nq0:∀ a,okA ns a -> A5 a ≠ lt:=fun a ha z=>by
  obtain ⟨o,h1,_⟩:=hn.at_ a ha
  rw [z,hlt] at h1; cases h1
 have hg0:=hg.grow g0
 generalize upd H lt (.lst []) = H0 at g0 hlt0 hn0 hg0 ⊢
 refine yy ⟨_,rfl,_,C,_,_,_,rfl,hn0.ob.choose_spec,T.cl,T.n_depth,zX,_,_,rfl,rfl,xT k4,_,rfl,by rw [ej]; exact Int.le_trans (by decide) (Int.natCast_nonneg _),by rw [ej]; exact Int.lt_of_le_of_lt (Int.ofNat_le.mpr p16) (by decide),?_⟩
 rw [ej,Int.toNat_natCast]
 refine yU (fun i σ H'=>∃ e3 e4 tv,σ = [some (.ref (A5 .p)),some y,some (.ref lt),e3,e4,none,none,none,none] /\ Grow (lt :: ms) H0 H' /\ H' lt = some (.lst tv) /\ AllR (WtAt K H') tv (zP gone ns i).1 /\ NetAt K C H' A5 { ns with lines:=(zP gone ns i).2 }) ⟨_,_,[],rfl,Grow.refl _ _,hlt0,trivial,hn0⟩ ?_ ?_
 ·rintro i σ H1 hi ⟨e3,e4,tv,rfl,g1,htv,hta,hn1⟩
  have F:=XF (gone:=gone) (ns:=ns) (i:=i) (by omega)
  rw [vB]
  generalize zP gone ns i = st at hta hn1 F ⊢
  have tl:tv.length <= 40:=by
   have h1:=F.ws nlen
   have h2:=nr.tot
   have h3:=nr.a40
   have h4:=sW (g:=nlen) (ws:=st.1) fun w hw=>by
    obtain ⟨j,hj,hw⟩:=F.tk w hw
    have:=(nr.lw ns.k j (Nat.le_refl _) hj w hw).ne
    cases e:w.nums with
    | nil=>exact absurd e this
    | cons a r=>show 1 <= w.nums.length; rw [e]; exact Nat.succ_le_succ (Nat.zero_le _)
   have h5:=hta.len
   omega
  refine ⟨_,rfl,_,C,_,_,_,rfl,hn1.ob.choose_spec,T.cl,T.n_lines,wZ,_,rfl,_,C,_,_,_,rfl,hn1.ob.choose_spec,T.cl,T.n_depth,zX,_,rfl,szl rfl,fun t ht=>?_⟩
  have gt:=Grow.new (m:=[]) ht (.tup [.int ns.k,.int (0 + (i:Int))])
  have kt:upd H1 t (.tup [.int ns.k,.int (0 + (i:Int))]) t = some (.tup [.int ns.k,.int i]):=by rw [zd,Int.zero_add]
  have hn2:=hn1.grow0 gt
  have htv2:=gt.keep _ _ (by simp) htv
  have hta2:=hta.imp fun _ _ z=>z.grow gt
  have G2:Grow (lt :: ms) H0 (upd H1 t (.tup [.int ns.k,.int (0 + (i:Int))])):=g1.trans gt.wk
  refine ⟨_,_,rfl,(wX (A:=A5) (Nat.le_refl ns.k) hi) ▸ DGet.t hn2.dl (y4 kt),?_⟩
  generalize upd H1 t _ = H2 at gt kt hn2 htv2 hta2 G2 ⊢
  obtain ⟨ys,hys,hw⟩:=hn2.ln (l:=ns.k) (j:=i) (Nat.le_refl _) hi
  have hw:AllR (WtAt K H2) ys (st.2 ns.k i):=hw
  refine yy ⟨_,rfl,_,.inl ⟨_,SqL.of hys,rfl⟩,?_⟩
  cases hc:st.2 ns.k i with
  | nil =>
   rw [hc] at hw
   have e:ys = []:=List.eq_nil_of_length_eq_zero (by rw [hw.len]; rfl)
   subst e
   refine yu rfl ?_
   rw [uD hc]
   exact yu rfl ⟨_,_,tv,rfl,G2,htv2,hta2,hn2⟩
  | cons w r =>
  rw [hc] at hw
  cases ys with
  | nil=>exact hw.elim
  | cons y0 yr =>
  obtain ⟨hw0,hyr⟩:=hw
  obtain ⟨rg,gs,rfl,hrg,hga,hgl⟩:=hg0.grow G2
  refine yQ rfl ⟨_,rfl,szl rfl,fun t2 ht2=>?_⟩
  have gt2:=Grow.new (m:=[]) ht2 (.tup [.int 0,.int (0 + (i:Int))])
  have kt2:upd H2 t2 (.tup [.int 0,.int (0 + (i:Int))]) t2 = some (.tup [.int ((0:Nat):Int),.int i]):=by rw [zd,Int.zero_add]; rfl
  have hn3:=hn2.grow0 gt2
  have htv3:=gt2.keep _ _ (by simp) htv2
  have hta3:=hta2.imp fun _ _ z=>z.grow gt2
  have hys3:=gt2.keep _ _ (by simp) hys
  have hw03:=hw0.grow gt2
  have hyr3:=hyr.imp fun _ _ z=>z.grow gt2
  have G3:=G2.trans (gt2.wk (m:=lt :: ms))
  refine ⟨_,rfl,t2,rg,gs,(0,i),gone,rfl,rfl,SqT.of kt2,gt2.sqT hrg,hga.imp fun _ _ ⟨r,e,z⟩=>⟨r,e,gt2.sqT z⟩,_,rfl,?_⟩
  generalize upd H2 t2 _ = H3 at gt2 kt2 hn3 htv3 hta3 hys3 hw03 hyr3 G3 ⊢
  by_cases cg:(0,i) ∈ gone
  ·refine yu (by rw [decide_eq_true cg]; rfl) ?_
   rw [vC cg]
   exact ⟨_,_,tv,rfl,G3,htv3,hta3,hn3⟩
  refine yQ (by rw [decide_eq_false cg]; rfl) ⟨_,rfl,.inl ⟨rfl,_,SqL.of htv3⟩,_,rfl,.inl ⟨rfl,_,SqL.of hys3⟩,_,_,0,0,_,rfl,rfl,hys3,by decide,by decide,Ub,rfl,?_⟩
  have hn3':NetAt K C H3 A5 { ns with lines:=st.2 }:=hn3
  obtain ⟨hn4,g4⟩:=hn3'.setLn (l:=ns.k) (j:=i) (Nat.le_refl _) hi hyr3
  have nlt:lt ∉ [A5 (.ln ns.k i)]:=fun z=>nq0 (.ln ns.k i) ⟨Nat.le_refl _,hi⟩ (List.mem_singleton.mp z).symm
  have htv4:=g4.keep _ _ nlt htv3
  have hta4:=hta3.imp fun _ _ z=>z.grow g4
  have hw04:=hw03.grow g4
  have eer:(y0 :: yr).eraseIdx 0 = yr:=rfl
  rw [eer]
  have G4:=G3.trans (g4.mono (m':=lt :: ms) fun b hb=>by rw [List.mem_singleton.mp hb]; exact List.mem_cons_of_mem _ (hm (.ln ns.k i) ⟨Nat.le_refl _,hi⟩))
  generalize upd H3 (A5 (.ln ns.k i)) (.lst yr) = H4 at hn4 g4 htv4 hta4 hw04 G4 ⊢
  have g5:=Grow.set (m:=[lt]) htv4 (by simp) (tv ++ [y0])
  refine ⟨lt,tv,y0,rfl,rfl,htv4,zp (by omega),?_⟩
  rw [rk hc cg]
  refine ⟨_,_,tv ++ [y0],rfl,G4.trans (g5.mono (by simp)),zd,(hta4.app (.one hw04)).imp fun _ _ z=>z.grow g5,?_⟩
  exact hn4.grow g5 fun a ha=>by
   have:A5 a ≠ lt:=nq0 a (by cases a <;> exact ha)
   simpa using this
 rintro σ H1 ⟨e3,e4,tv,rfl,g1,htv,hta,hn1⟩
 have F:=XF (gone:=gone) (ns:=ns) (i:=2 ^ ns.k) (Nat.le_refl _)
 obtain ⟨hn2,g2⟩:=hn1.setDone (ws:=(zP gone ns (2 ^ ns.k)).1) htv hta (fun a ha=>nq0 a (by cases a <;> exact ha))
 have enow:(ns.now:Int) = ((ns.nd + 1:Nat):Int):=by omega
 refine ⟨_,rfl,_,rfl,_,C,_,_,_,rfl,hn1.ob.choose_spec,T.cl,T.n_done_in,t7,_,rfl,_,C,_,_,_,rfl,hn1.ob.choose_spec,T.cl,T.n_now,Zv,_,_,rfl,.inl ⟨_,.inl ((ns.nd + 1:Nat):Int),hn1.dd,congrArg V.int enow,?_,rfl⟩,?_⟩
 ·unfold xk; rw [List.length_map,List.length_range]
  have h1:=nr.nd
  have h2:=nr.nw
  exact big5 (show ns.nd <= 1000000 by omega)
 have egot:({ ({ ns with lines:=(zP gone ns (2 ^ ns.k)).2 }:NS) with nd:=ns.nd + 1,done:=updD ns.done (ns.nd + 1) (zP gone ns (2 ^ ns.k)).1 }:NS) = gotS gone ns:=by unfold gotS; rw [hnd]
 have hn2:NetAt K C _ (extA A5 ns.nd lt) (gotS gone ns):=egot ▸ hn2
 have htv2:=g2.keep _ _ (show lt ∉ [A5 .dd] from fun z=>nq0 .dd trivial (List.mem_singleton.mp z).symm) htv
 have hta2:=hta.imp fun _ _ z=>z.grow g2
 have G2:=g1.trans (g2.mono (m':=lt :: ms) fun b hb=>by rw [List.mem_singleton.mp hb]; exact List.mem_cons_of_mem _ (hm .dd trivial))
 refine c_nx ?_
 generalize upd H1 (A5 .dd) (.dK (putK (xk A5 ns.nd) (.inl ((ns.nd + 1:Nat):Int)) (.ref lt))) = H2 at hn2 g2 htv2 hta2 G2 ⊢
 have tlen:=hta2.len
 have ewp:(extA A5 ns.nd lt) .p = A5 .p:=rfl
 have wtk:∀ w ∈ (zP gone ns (2 ^ ns.k)).1,WtOk ns.k ns.boxes.length ns.asks.length w:=fun w hw=>by
  obtain ⟨j,hj,hw⟩:=F.tk w hw
  exact nr.lw ns.k j (Nat.le_refl _) hj w hw
 have tot:ns.log.length + lsum nlen (zP gone ns (2 ^ ns.k)).1 <= 40:=by
  have h1:=F.ws nlen
  have h2:=nr.tot
  have h3:=nr.a40
  omega
 refine ⟨_,rfl,lt,rfl,⟨_,SqL.of htv2⟩,xq (xs:=tv) (fun j σ H'=>∃ e3 e4 e5 e6 e7 e8,σ = [some (.ref (A5 .p)),some y,some (.ref lt),e3,e4,e5,e6,e7,e8] /\ Grow [A5 .lb,A5 .df,A5 .lg] H2 H' /\ NetAt K C H' (extA A5 ns.nd lt) (((zP gone ns (2 ^ ns.k)).1.take j).foldl doW (gotS gone ns))) ⟨_,_,_,_,_,_,rfl,Grow.refl _ _,hn2⟩ (fun j σ H' _ ⟨_,_,_,_,_,_,_,g,_⟩=>SqL.of (g.keep _ _ (by
  have h1:=nq0 .lb trivial
  have h2:=nq0 .df trivial
  have h3:=nq0 .lg trivial
  simp only [List.mem_cons,List.not_mem_nil,or_false,not_or]
  exact ⟨h1.symm,h2.symm,h3.symm⟩) htv2)) ?_ ?_⟩
 rotate_left
 ·rintro σ H' ⟨e3,e4,e5,e6,e7,e8,rfl,g,hn'⟩
  rw [tlen,List.take_length] at hn'
  refine q _ _ ?_ ⟨fun a ha=>xO ha,by rw [vc]; exact hlt⟩ hn'
  have G:Grow (lt :: ms) H H':=(g0.wk (m:=lt :: ms)).trans (G2.trans (g.mono fun b hb=>by
   simp only [List.mem_cons,List.not_mem_nil,or_false] at hb
   rcases hb with rfl | rfl | rfl
   ·exact List.mem_cons_of_mem _ (hm .lb trivial)
   ·exact List.mem_cons_of_mem _ (hm .df trivial)
   ·exact List.mem_cons_of_mem _ (hm .lg trivial)))
  exact G.less fun b hb=>by
   rcases List.mem_cons.mp hb with rfl | hb
   ·exact .inr hlt
   ·exact .inl hb
 rintro j x σ H3 hx ⟨e3,e4,e5,e6,e7,e8,rfl,g3,hn3⟩
 obtain ⟨w5,hw5,r,rd,rn,rm,mv,rfl,w1,w2,w3,w4,w6⟩:=hta2.get hx
 rw [xm hw5]
 have D:=doF (l:=(zP gone ns (2 ^ ns.k)).1.take j) (ns:=gotS gone ns)
 have wok:=wtk w5 (List.mem_of_getElem? hw5)
 have sumj:lsum nlen ((zP gone ns (2 ^ ns.k)).1.take j) + w5.nums.length <= lsum nlen (zP gone ns (2 ^ ns.k)).1:=by
  have e:(zP gone ns (2 ^ ns.k)).1 = (zP gone ns (2 ^ ns.k)).1.take j ++ w5 :: (zP gone ns (2 ^ ns.k)).1.drop (j + 1):=by
   obtain ⟨hj,e⟩:=List.getElem?_eq_some_iff.mp hw5
   rw [← e,← List.drop_eq_getElem_cons hj,List.take_append_drop]
  have:=congrArg (lsum nlen) e
  rw [xM,zH] at this
  have e2:nlen w5 = w5.nums.length:=rfl
  omega
 have hl:=vb (l:=(zP gone ns (2 ^ ns.k)).1.take j)
 generalize ((zP gone ns (2 ^ ns.k)).1.take j).foldl doW (gotS gone ns) = n3 at hn3 D ⊢
 have fl:=nr.fl
 refine ⟨r,_,rfl,g3.sqT w1,rfl,_,_,rfl,_,_,rfl,_,_,rfl,_,_,rfl,rfl,_,rfl,_,_,_,rfl,hn3.ob.choose_spec,Yh,_,rfl,_,rfl,_,_,_,rfl,extA A5 ns.nd lt,n3,w5.box,w5.nums,rn,rfl,rfl,rfl,g3.sqT w3,hn3,?_,?_,?_,?_,fun H4 g4 hn4=>⟨_,_,_,_,_,_,rfl,g3.trans g4,hn4⟩⟩
 ·rw [D.bl]; exact wok.bx
 ·rw [D.asks]; exact wok.nm
 ·rw [D.log,List.length_append,hl]; show ns.log.length + _ + _ <= 40; omega
 ·have:=D.fl
  have e:(gotS gone ns).fnd = ns.fnd:=rfl
  rw [e,hl] at this
  omega
theorem yd:FnScope ["self","stage","box","deed","numbers","met","switch"] ["self"] (zf (zk (top 46) 4)):=⟨rfl,rfl,rfl,by decide +kernel,rfl,by decide +kernel,by decide +kernel⟩
theorem rF (F:Fun K "forget" "Net.forget" (zk (top 46) 4) f fd) (B:Blt mg) {C:Addr} (T:NTxt K mg C) (mc_done_ago:zF P w K mg base C n "done_ago" ["self","many"] (sZ C K))      :
  FnOk P w K mg base CX0 (n + 1) f fd ["self"] (vw C K):=by
 refine F.ok yd yK (fun cdv A outer s H vs Q E hr h=>?_)
 obtain ⟨x,rfl,A5,ns,rfl,hn,nr,q⟩:=h
 refine ⟨_,(zh (yE PassesOwn.never rfl (vX rfl B.range (za ze (za (zo yf (zE (pv 0) rfl) ze) zb))) (zj (i:=1) yd.nd rfl (Or.inl rfl)) (zh (yE PassesOwn.never rfl (XB (K:=K) rfl (yM mc_done_ago T.cl hr (pv 0) (za (zo yf (zo yg (zE (pv 0) rfl) (pv 1)) ze) zb))) (yT rfl (zm (zj (i:=2) yd.nd rfl (Or.inl rfl)) (zm (zj (i:=3) yd.nd rfl (Or.inl rfl)) (zm (zj (i:=4) yd.nd rfl (Or.inl rfl)) (zm (zj (i:=5) yd.nd rfl (Or.inl rfl)) z7))))) (zh (yE PassesOwn.never rfl (ww (pv 5)) (zj (i:=6) yd.nd rfl (Or.inl rfl)) (zh (z5 (zD wF (z6 yV (pv 6) ze (fun _ _=>rfl)) (pv 1) (zG _)) (zh (Xn (Room.u1F hr) (zE (pv 0) rfl) (pv 6) ze UB (fun _ _ _=>rfl))) zv)))))))),?_⟩
 have k4:=nr.k4
 refine ⟨_,rfl,_,C,_,_,_,rfl,hn.ob.choose_spec,T.cl,T.n_depth,zX,_,_,rfl,rfl,_,_,rfl,⟨by decide,by decide,by omega,by omega⟩,yU (fun i σ H'=>∃ e1 e2 e3 e4 e5 e6,σ = [some (.ref (A5 .p)),e1,e2,e3,e4,e5,e6] /\ Grow [A5 .dk] H H' /\ NetAt K C H' A5 { ns with keep:=(List.range i).foldl (fun kp i=>fgS ns kp (i + 1)) ns.keep }) ⟨_,_,_,_,_,_,rfl,Grow.refl _ _,hn⟩ ?_ ?_⟩
 rotate_left
 ·rintro σ H' ⟨e1,e2,e3,e4,e5,e6,rfl,g,hn'⟩
  have e:((ns.k:Int) + 1 - 1).toNat = ns.k:=by omega
  rw [e] at hn'
  exact q _ g hn'
 rintro i σ H1 hi ⟨e1,e2,e3,e4,e5,e6,rfl,g1,hn1⟩
 rw [zR]
 generalize (List.range i).foldl (fun kp i=>fgS ns kp (i + 1)) ns.keep = kp at hn1 ⊢
 have ik:i < ns.k:=by omega
 refine ⟨_,rfl,_,_,_,rfl,hn1.ob.choose_spec,uC,_,rfl,_,C,_,_,_,rfl,hn1.ob.choose_spec,T.cl,T.n_depth,zX,_,rfl,_,_,rfl,rfl,_,_,rfl,rfl,_,_,rfl,A5,_,ns.k - (i + 1) + 1,rfl,congrArg V.int (by show (ns.k:Int) - (1 + i) + 1 = _; omega),hn1,fun z H2 g2 hz=>?_⟩
 have hn2:=hn1.grow0 g2
 have g12:Grow [A5 .dk] H H2:=g1.trans (g2.mono (by simp))
 have eago:agoS ({ ns with keep:=kp }:NS) (ns.k - (i + 1) + 1) = agoS ns (ns.k - (i + 1) + 1):=rfl
 rw [eago] at hz
 have efg:fgS ns kp (i + 1) = (agoS ns (ns.k - (i + 1) + 1)).foldl (fgW (i + 1)) kp:=rfl
 rw [efg]
 rcases hz with ⟨t,t1,t2,rfl,ews⟩ | ⟨a,rfl,sa,ews⟩
 rotate_left
 ·rw [ews]
  exact ⟨a,rfl,.inr ⟨⟨_,sa⟩,vY (xs:=[]) (fun j σ H'=>∃ e1 e2 e3 e4 e5 e6,σ = [some (.ref (A5 .p)),e1,e2,e3,e4,e5,e6] /\ H' = H2) ⟨_,_,_,_,_,_,rfl,rfl⟩ (fun j σ H' _ ⟨_,_,_,_,_,_,_,e⟩=>e ▸ sa) (fun j x σ H' hx=>by simp at hx) (fun σ H' ⟨e1,e2,e3,e4,e5,e6,e,eH⟩=>⟨e1,e2,e3,e4,e5,e6,e,eH ▸ g12,eH ▸ hn2⟩)⟩⟩
 rw [ews]
 have t2':t <= ns.nd:=t2
 obtain ⟨ys,hys,hw⟩:=hn2.dn (t:=t) t1 t2'
 have hw':AllR (WtAt K H2) ys (ns.done t):=hw
 have nek:A5 (.dn t) ≠ A5 .dk:=nd5 hn2 (a:=.dn t) (b:=.dk) ⟨t1,t2'⟩ trivial (by simp)
 have kmem:A5 (.dn t) ∉ [A5 .dk]:=by simpa using nek
 refine ⟨_,rfl,.inl ⟨⟨_,SqL.of hys⟩,xq (xs:=ys) (fun j σ H'=>∃ e2 e3 e4 e5 e6,σ = [some (.ref (A5 .p)),some (.int (1 + (i:Int))),e2,e3,e4,e5,e6] /\ Grow [A5 .dk] H2 H' /\ NetAt K C H' A5 { ns with keep:=((ns.done t).take j).foldl (fgW (i + 1)) kp }) ⟨_,_,_,_,_,rfl,Grow.refl _ _,hn2⟩ (fun j σ H' _ ⟨_,_,_,_,_,_,g,_⟩=>SqL.of (g.keep _ _ kmem hys)) ?_ ?_⟩⟩
 rotate_left
 ·rintro σ H' ⟨e2,e3,e4,e5,e6,rfl,g,hn'⟩
  rw [hw'.len,List.take_length] at hn'
  exact ⟨_,_,_,_,_,_,rfl,g12.trans g,hn'⟩
 rintro j x σ H3 hx ⟨e2,e3,e4,e5,e6,rfl,g3,hn3⟩
 obtain ⟨w5,hw5,r,rd,rn,rm,mv,rfl,w1,w2,w3,w4,w6⟩:=hw'.get hx
 rw [xm hw5]
 generalize ((ns.done t).take j).foldl (fgW (i + 1)) kp = kp3 at hn3 ⊢
 have wok:=nr.dw t t1 t2' w5 (List.mem_of_getElem? hw5)
 refine ⟨r,_,rfl,g3.sqT w1,rfl,_,_,rfl,_,_,rfl,_,_,rfl,_,_,rfl,rfl,?_⟩
 have ml:=w6.len
 refine ⟨_,rfl,rm,rfl,⟨_,g3.sqT w4⟩,vY (xs:=mv) (fun p σ H'=>∃ e6,σ = [some (.ref (A5 .p)),some (.int (1 + (i:Int))),some (.int w5.box),some (.ref rd),some (.ref rn),some (.ref rm),e6] /\ Grow [A5 .dk] H2 H' /\ NetAt K C H' A5 { ns with keep:=(w5.met.take p).foldl (fgM (i + 1)) kp3 }) ⟨_,rfl,g3,hn3⟩ (fun p σ H' _ ⟨_,_,g,_⟩=>g.sqT w4) ?_ ?_⟩
 rotate_left
 ·rintro σ H' ⟨e6,rfl,g,hn'⟩
  rw [ml,List.take_length] at hn'
  exact ⟨_,_,_,_,_,rfl,g,hn'⟩
 rintro p x σ H4 hx ⟨e6,rfl,g4,hn4⟩
 obtain ⟨sw,hsw,rs,rfl,hs⟩:=w6.get hx
 rw [xm hsw]
 generalize (w5.met.take p).foldl (fgM (i + 1)) kp3 = kp4 at hn4 ⊢
 have hs4:=g4.tup _ _ hs
 obtain ⟨m1,m2,m3⟩:=wok.mt sw (List.mem_of_getElem? hsw)
 refine ⟨_,rfl,rs,_,0,_,rfl,rfl,Tg hs4,zy (j:=0) rfl,_,rfl,rfl,_,rfl,?_⟩
 by_cases c:sw.1 = i + 1
 rotate_left
 ·refine yu (decide_eq_false fun z=>c (by have:=V.int.inj z; omega)) ⟨_,rfl,g4,?_⟩
  rw [show fgM (i + 1) kp4 sw = kp4 from if_neg c]; exact hn4
 refine yQ (decide_eq_true (congrArg V.int (by omega))) ⟨_,rfl,_,C,_,_,_,rfl,hn4.ob.choose_spec,T.cl,T.n_keeping,wn,_,rfl,_,_,rfl,(wY (kp:=kp4) m1 m2 m3) ▸ DGet.t hn4.dk (y4 hs4),_,_,rfl,rfl,_,DPut.t hn4.dk (y4 hs4) (zp (Nat.le_of_lt (Zt k4))),?_⟩
 have ep:putK (z9 ns.k kp4) (kI [(sw.1:Int),(sw.2:Int)]) (.int (kp4 sw.1 sw.2 - 1)) = z9 ns.k (updL kp4 sw.1 sw.2 (kp4 sw.1 sw.2 - 1)):=Zs m1 m2 m3
 obtain ⟨hn5,g5⟩:=hn4.setK (updL kp4 sw.1 sw.2 (kp4 sw.1 sw.2 - 1))
 refine ⟨_,rfl,g4.trans ?_,?_⟩
 ·show Grow _ _ (upd H4 (A5 .dk) (.dT (putK (z9 ns.k kp4) (kI [(sw.1:Int),(sw.2:Int)]) (.int (kp4 sw.1 sw.2 - 1)))))
  rw [ep]; exact g5
 ·show NetAt K C (upd H4 (A5 .dk) (.dT (putK (z9 ns.k kp4) (kI [(sw.1:Int),(sw.2:Int)]) (.int (kp4 sw.1 sw.2 - 1))))) A5 _
  rw [ep,show fgM (i + 1) kp4 sw = updL kp4 sw.1 sw.2 (kp4 sw.1 sw.2 - 1) from if_pos c]; exact hn5
theorem wM:FnScope ["self","lost","gone","stage"] ["self","lost"] (zf (zk (top 46) 2)):=⟨rfl,rfl,rfl,by decide +kernel,rfl,by decide +kernel,by decide +kernel⟩
theorem uU (F:FunD K "beat" "Net.beat" (zk (top 46) 2) f fd) (B:Blt mg) {C:Addr} (T:NTxt K mg C) (mc_tell:zF P w K mg base C n "tell" ["self"] (rh C K)) (mc_pass_on:zF P w K mg base C n "pass_on" ["self","stage","gone"] (rf C K)) (mc_take:zF P w K mg base C n "take" ["self","gone"] (s8 C K)) (mc_forget:zF P w K mg base C n "forget" ["self"] (vw C K)) (qc0:zn P w K mg base n "need_lost" ["k","thing"] (qL K))     :
  FnOk P w K mg base CX0 (n + 1) f fd ["self","lost"] (vW C K):=by
 refine F.ok wM ym (fun cdv A outer s H vs Q E hr h=>?_)
 obtain ⟨x,y,rfl,A5,ns,gone,ms,rfl,hg,hok,hn,nr,hnd,nw,nt,hm,q⟩:=h
 refine ⟨_,(zc (zC (i:=2) wM.nd rfl (Or.inl rfl) (sA (xQ (tI (pv 1))) (zO zb) (pv 1))) (zc (zL (zi qc0 hr rfl (za (zE (pv 0) rfl) (za (pv 2) zb)))) (zc (YL (pv 0) ze Va) (zc (zL (uz mc_forget T.cl hr (pv 0))) (zc (zL (yM mc_take T.cl hr (pv 0) (za (pv 2) zb))) (zc (yE PassesOwn.never rfl (Xg rfl B.range (za (zE (pv 0) rfl) (za ze (za (jh vZ ze) zb)))) (zj (i:=3) wM.nd rfl (Or.inl rfl)) (zh (zL (yM mc_pass_on T.cl hr (pv 0) (za (pv 3) (za (pv 2) zb)))))) (zh (zt (uz mc_tell T.cl hr (pv 0)))))))))),?_⟩
 have k4:=nr.k4
 refine uA (fun z H1=>Grow [] H H1 /\ wz K H1 z gone) (fun R hR=>?_) fun z H1 ⟨g1,hg1⟩=>?_
 ·rcases hg with ⟨rfl,rfl⟩ | hg
  ·refine ⟨_,rfl,_,rfl,iteT ⟨szl rfl,fun t ht=>hR _ _ ⟨Grow.new ht _,t,[],rfl,SqT.of zd,trivial,by decide⟩⟩⟩
  ·obtain ⟨r,ys,rfl,hg'⟩:=hg
   exact ⟨_,rfl,_,rfl,iteF ⟨_,rfl,hR _ _ ⟨Grow.refl _ _,r,ys,rfl,hg'⟩⟩⟩
 have hn1:=hn.grow0 g1
 refine ⟨_,rfl,_,C,_,_,_,rfl,hn1.ob.choose_spec,T.cl,T.n_depth,zX,_,rfl,_,_,rfl,ns.k,gone,rfl,hg1,k4,hok,fun H2 g2=>?_⟩
 have hn2:=hn1.grow0 g2
 have hg2:=hg1.grow g2
 obtain ⟨dx,ho⟩:=hn2.ob
 obtain ⟨hn3,g3⟩:=hn2.setNow ho (ns.now + 1)
 refine ⟨_,rfl,_,C,dx,_,_,rfl,ho,T.cl,T.n_now,Zv,_,_,rfl,rfl,dx,_,ho,by show (12:Nat) < 1000; decide,?_⟩
 have G3:Grow ms H _:=(g1.trans g2).wk.trans (g3.mono (m':=ms) fun b hb=>by rw [List.mem_singleton.mp hb]; exact hm .p trivial)
 have hg3:=hg2.grow g3
 have et:(fun i j:Int=>i + j) (ns.now:Int) 1 = ((ns.now + 1:Nat):Int):=rfl
 have hn3:NetAt K C _ A5 (zI ns):=hn3
 rw [et]
 generalize upd H2 (A5 .p) _ = H3 at hn3 g3 G3 hg3 ⊢
 have nr3:=nr.tick nw
 refine ⟨_,rfl,_,_,_,rfl,hn3.ob.choose_spec,XA,_,rfl,A5,zI ns,rfl,hn3,nr3,fun H4 g4 hn4=>?_⟩
 have nr4:=nr3.forget
 have G4:Grow ms H H4:=G3.trans (g4.mono (m':=ms) fun b hb=>by rw [List.mem_singleton.mp hb]; exact hm .dk trivial)
 have hg4:=hg3.grow g4
 have hnd4:(zq (zI ns)).nd + 1 = (zq (zI ns)).now:=by show ns.nd + 1 = ns.now + 1; omega
 refine ⟨_,rfl,_,_,_,rfl,hn4.ob.choose_spec,V8,_,rfl,_,_,rfl,A5,zq (zI ns),gone,ms,rfl,hg4,hn4,nr4,hnd4,fun a ha=>hm a (by cases a <;> exact ha),fun A' H5 g5 ex hn5=>?_⟩
 have nr5:=nr4.take (gone:=gone) hnd4
 have TD:=W1 gone (zq (zI ns))
 have eA:A' .p = A5 .p:=ex.1 .p trivial
 have G5:=G4.trans g5
 have hg5:=hg4.grow g5
 have ek5:(yB gone (zq (zI ns))).k = ns.k:=TD.k
 have nq5:∀ a,okA (yB gone (zq (zI ns))) a -> A' a ∈ A' (.dn (ns.nd + 1)) :: ms:=fun a ha=>by
  by_cases c:a = .dn (ns.nd + 1)
  ·rw [c]; exact List.mem_cons_self ..
  ·have ho:okA ns a:=by
    cases a with
    | ln l j=>exact ⟨by rw [← ek5]; exact ha.1,by rw [← ek5]; exact ha.2⟩
    | dn t =>
     have h2:t <= (yB gone (zq (zI ns))).nd:=ha.2
     rw [TD.nd] at h2
     have h2:t <= ns.nd + 1:=h2
     refine ⟨ha.1,?_⟩
     have:t ≠ ns.nd + 1:=fun e=>c (by rw [e])
     omega
    | _=>trivial
   rw [ex.1 a (by cases a <;> exact ho)]
   exact List.mem_cons_of_mem _ (hm a ho)
 have hdn:H (A' (.dn (ns.nd + 1))) = none:=by
  have z4:H4 (A' (.dn (ns.nd + 1))) = none:=ex.2
  have z3:H3 (A' (.dn (ns.nd + 1))) = none:=g4.free (fun z=>by rw [List.mem_singleton.mp z,hn4.dk] at z4; cases z4) z4
  have z2:H2 (A' (.dn (ns.nd + 1))) = none:=g3.free (fun z=>by
   obtain ⟨dx,ho⟩:=hn3.ob
   rw [List.mem_singleton.mp z,ho] at z3; cases z3) z3
  exact (g1.trans g2).free (by simp) z2
 have exA:Ext5 H A5 A' ns:=⟨fun a ha=>ex.1 a (by cases a <;> exact ha),hdn⟩
 rw [← eA]
 have egone:xu gone ns = passA gone (yB gone (zq (zI ns))) ns.k:=rfl
 have ebeat:beatS gone ns = Xy (xu gone ns):=rfl
 rw [ebeat] at q
 rw [egone] at q nt
 clear egone ebeat TD
 generalize yB gone (zq (zI ns)) = n5 at *
 have e0:((n5.k:Int) - 0).toNat = n5.k:=by omega
 refine ⟨_,rfl,_,C,_,_,_,rfl,hn5.ob.choose_spec,T.cl,T.n_depth,zX,_,rfl,_,_,rfl,by omega,by omega,by omega,by omega,Z3 (fun i σ H'=>∃ e3,σ = [some (.ref (A' .p)),some y,some z,e3] /\ Grow (A' (.dn (ns.nd + 1)) :: ms) H5 H' /\ NetAt K C H' A' (passA gone n5 i)) ⟨_,rfl,Grow.refl _ _,hn5⟩ ?_ ?_⟩
 ·rintro i σ H6 hi ⟨e3,rfl,g6,hn6⟩
  rw [e0] at hi
  have sm:=xF gone n5 i
  have nr6:=nr5.passA (gone:=gone) (i:=i) (by omega)
  rw [sn]
  generalize passA gone n5 i = n6 at hn6 sm nr6 ⊢
  have ek6:=sm.k
  exact ⟨_,rfl,_,_,_,rfl,hn6.ob.choose_spec,Yi,_,rfl,_,rfl,_,_,_,rfl,A',n6,n6.k - i,gone,A' (.dn (ns.nd + 1)) :: ms,rfl,congrArg V.int (by omega),hg5.grow g6,by omega,by omega,hn6,nr6,fun a ha=>nq5 a (ZC sm ha),fun H7 g7 hn7=>⟨_,rfl,g6.trans g7,hn7⟩⟩
 rintro σ H6 ⟨e3,rfl,g6,hn6⟩
 rw [e0,ek5] at hn6
 have sm:=xF gone n5 ns.k
 have nr6:=nr5.passA (gone:=gone) (i:=ns.k) (by omega)
 refine ⟨_,rfl,_,_,_,rfl,hn6.ob.choose_spec,V9,_,rfl,A',passA gone n5 ns.k,A' (.dn (ns.nd + 1)) :: ms,rfl,hn6,nr6,nt,fun a ha=>nq5 a (ZC sm ha),fun u l H7 g7 hn7 tel pm pw=>?_⟩
 have G7:Grow (A' (.dn (ns.nd + 1)) :: ms) H H7:=(G5.mono (m':=A' (.dn (ns.nd + 1)) :: ms) fun b hb=>List.mem_cons_of_mem _ hb).trans (g6.trans g7)
 exact q A' u l H7 (G7.less fun b hb=>by
  rcases List.mem_cons.mp hb with rfl | hb
  ·exact .inr hdn
  ·exact .inl hb) exA hn7 tel pm pw
theorem jc:FnScope ["k","thing"] ["k","thing"] (zf (top 30)):=⟨rfl,rfl,rfl,by decide +kernel,rfl,by decide +kernel,by decide +kernel⟩
theorem jd (F:Fun K "need_hand" "need_hand" (top 30) f fd) (B:Blt mg) (qc0:zn P w K mg base n "is_line" ["k","thing"] (wf K))     :
  FnOk P w K mg base CX0 (n + 1) f fd ["k","thing"] (vH K):=by
 refine F.ok jc ym (fun cdv A outer s H vs Q E hr h=>?_)
 obtain ⟨x,y,rfl,k,l,rfl,rfl,k4,hl,q⟩:=h
 refine ⟨_,(zh (z5 (yA (yx (zi qc0 hr rfl (za (pv 0) (za (pv 1) zb))))) (zh y7) zv)),?_⟩
 exact ⟨_,rfl,_,rfl,_,_,rfl,k,l,rfl,rfl,k4,hl,_,rfl,iteF q⟩
theorem X7:FnScope ["thing"] ["thing"] (zf (top 14)):=⟨rfl,rfl,rfl,by decide +kernel,rfl,by decide +kernel,by decide +kernel⟩
theorem X9 (F:Fun K "is_end" "is_end" (top 14) f fd) (B:Blt mg) (qc0:zn P w K mg base n "is_whole" ["thing"] (xg K))     :
  FnOk P w K mg base CX0 (n + 1) f fd ["thing"] (qd K):=by
 refine F.ok X7 yK (fun cdv A outer s H vs Q E hr h=>?_)
 obtain ⟨x,rfl,kn,q⟩:=h
 refine ⟨_,(zh (zt (VA (Ux (tI (pv 0))) (wv (zi qc0 hr rfl (za (pv 0) zb)))))),?_⟩
 refine ⟨x,rfl,_,rfl,?_⟩
 cases x with
 | non=>exact iteT q
 | _=>exact iteF ⟨_,rfl,_,rfl,kn,q⟩
theorem wo:FnScope ["thing","add","low","high"] ["thing"] (zf (top 15)):=⟨rfl,rfl,rfl,by decide +kernel,rfl,by decide +kernel,by decide +kernel⟩
theorem Yx (F:Fun K "is_deed" "is_deed" (top 15) f fd) (B:Blt mg) (qc0:zn P w K mg base n "is_end" ["thing"] (qd K)) (qc1:zn P w K mg base n "is_whole" ["thing"] (xg K))     :
  FnOk P w K mg base CX0 (n + 1) f fd ["thing"] (tQ K):=by
 refine F.ok wo yK (fun cdv A outer s H vs Q E hr h=>?_)
 obtain ⟨x,rfl,h⟩:=h
 refine ⟨_,(zc (z5 (PW.pt (vN (yA (yx (zr xH rfl B.isinstance yp (za (pv 0) (za (ui rfl B.tuple xr) zb))))) (xW (zD Wd (zr zx rfl B.len x6 (za (pv 0) zb)) ze (zG _))))) (zh (zt wD)) zv) (zc (xp (pv 0) (yT rfl (zm (zj (i:=1) wo.nd rfl (Or.inl rfl)) (zm (zj (i:=2) wo.nd rfl (Or.inl rfl)) (zm (zj (i:=3) wo.nd rfl (Or.inl rfl)) z7))))) (zc (z5 (yA (PW.pt (xR (yx (zi qc1 hr rfl (za (pv 1) zb))) (xR (yx (zi qc0 hr rfl (za (pv 2) zb))) (xb (yx (zi qc0 hr rfl (za (pv 3) zb)))))))) (zh (zt wD)) zv) (zc (z5 (PW.pt (vN (xQ (tI (pv 2))) (xW (xQ (tI (pv 3)))))) (zh (zt wD)) zv) (zh (zt (VA (xf ua (pv 2) (pv 3) (zG _)) (wv (vE (xf wF (pv 2) (pv 3) (zG _)) (wv (xf wF (pv 1) ze (zG _)))))))))))),?_⟩
 rcases h with ⟨T,hT,ty,q⟩ | ⟨a,xs,rfl,hs,hk,q⟩
 ·have kt:PySem.W.kitOne K (.type T) (.type "tuple") = some false:=by
   cases x with
   | non=>cases (show T = "NoneType" from ty); rfl
   | bl y=>cases (show T = "bool" from ty); rfl
   | int i=>cases (show T = "int" from ty); rfl
   | str y=>cases (show T = "str" from ty); rfl
   | byt y=>exact ty.elim
   | flt y=>exact ty.elim
   | ty y=>exact ty.elim
   | ref a =>
    rcases ty with ⟨rfl,xs,hq⟩ | ⟨rfl,xs,hq⟩ | ⟨rfl,kvs,hq⟩
    ·exact absurd rfl hT
    ·rfl
    ·rfl
  exact ⟨_,rfl,_,_,_,false,rfl,ty,kt,_,rfl,iteT (iteT q)⟩
 ·refine ⟨_,rfl,_,_,_,true,rfl,.inl ⟨rfl,xs,hs⟩,rfl,_,rfl,iteF ⟨_,rfl,a,xs,rfl,.inr hs,rfl,_,rfl,?_⟩⟩
  by_cases hl:xs.length = 3
  ·obtain ⟨y1,y2,y3,rfl⟩:=len3 hl
   refine iteF ⟨_,rfl,a,_,rfl,hs,rfl,_,_,rfl,_,_,rfl,_,_,rfl,rfl,?_⟩
   refine ⟨_,rfl,_,rfl,hk y1 (by simp),_,rfl,?_⟩
   refine ite2 (fun c1=>?_) (fun c1=>?_)
   ·obtain ⟨i1,rfl⟩:=YX c1
    refine ⟨_,rfl,_,rfl,hk y2 (by simp),_,rfl,?_⟩
    refine ite2 (fun c2=>?_) (fun c2=>?_)
    ·obtain ⟨o2,rfl⟩:=Vf c2
     refine ⟨_,rfl,_,rfl,hk y3 (by simp),_,rfl,?_⟩
     by_cases c3:endV y3 = true
     ·obtain ⟨o3,rfl⟩:=Vf c3
      rw [c3]
      refine iteF ?_
      cases o2 with
      | none=>exact ⟨_,rfl,_,rfl,iteT (iteT (by cases o3 <;> exact q))⟩
      | some l =>
       cases o3 with
       | none=>exact ⟨_,rfl,_,rfl,iteF ⟨_,rfl,_,rfl,iteT q⟩⟩
       | some u =>
        refine ⟨_,rfl,_,rfl,iteF ⟨_,rfl,_,rfl,iteF ?_⟩⟩
        refine ⟨_,rfl,_,rfl,_,_,rfl,rfl,_,rfl,?_⟩
        have q':Q (.bl (decide (l < u) || (decide (l = u) && decide (i1 = 0)))) H:=q
        refine ite2 (fun c=>?_) (fun c=>?_)
        ·rw [c] at q'; exact q'
        ·rw [Bool.eq_false_iff.mpr c] at q'
         refine ⟨_,rfl,_,rfl,rfl,_,rfl,?_⟩
         refine ite2 (fun d=>?_) (fun d=>?_)
         ·have d':l = u:=V.int.inj (of_decide_eq_true d)
          refine ⟨_,rfl,rfl,?_⟩
          rw [decide_eq_true d'] at q'
          have e:decide (V.int i1 = V.int 0) = decide (i1 = 0):=by simp
          rw [e]; exact q'
         ·have d':¬ l = u:=fun z=>d (by rw [z]; simp)
          rw [decide_eq_false d'] at q'
          exact q'
     ·have e:endV y3 = false:=Bool.eq_false_iff.mpr c3
      rw [e]
      refine iteT ?_
      have z:vg [V.int i1,ov o2,y3] = false:=by show (true && (endV (ov o2) && (endV y3 && _))) = false; rw [e]; simp
      rw [z] at q; exact q
    ·have e:endV y2 = false:=Bool.eq_false_iff.mpr c2
     refine iteT ?_
     have z:vg [V.int i1,y2,y3] = false:=by show (true && (endV y2 && (endV y3 && _))) = false; rw [e]; simp
     rw [z] at q; exact q
   ·have e:qb y1 = false:=Bool.eq_false_iff.mpr c1
    refine iteT ?_
    have z:vg [y1,y2,y3] = false:=by show (qb y1 && (endV y2 && (endV y3 && _))) = false; rw [e]; simp
    rw [z] at q; exact q
  ·have e:decide (V.int (xs.length:Int) = V.int 3) = false:=decide_eq_false fun z=>hl (by have:=V.int.inj z; omega)
   rw [e]
   refine iteT ?_
   rw [jm hl] at q; exact q
theorem ve:FnScope ["board","thing","hand","box","deed"] ["board","thing"] (zf (top 24)):=⟨rfl,rfl,rfl,by decide +kernel,rfl,by decide +kernel,by decide +kernel⟩
theorem Wa (F:Fun K "is_ask" "is_ask" (top 24) f fd) (B:Blt mg) (qc0:zn P w K mg base n "is_deed" ["thing"] (tQ K)) (qc1:zn P w K mg base n "is_within" ["thing","least","greatest"] (ya K))   {t_LAST_HAND:Tok} (g_LAST_HAND:mg "LAST_HAND" = some (.int 15 t_LAST_HAND))  :
  FnOk P w K mg base CX0 (n + 1) f fd ["board","thing"] (qM K):=by
 refine F.ok ve ym (fun cdv A outer s H vs Q E hr h=>?_)
 obtain ⟨x,y,rfl,l,xs,k,rfl,hb,⟨r,rd,rfl,h1,h2⟩,⟨k1,k2,k3,k4,k5⟩,q⟩:=h
 refine ⟨_,(zc (z5 (PW.pt (vN (yA (yx (zr xH rfl B.isinstance yp (za (pv 1) (za (ui rfl B.tuple xr) zb))))) (xW (zD Wd (zr zx rfl B.len x6 (za (pv 1) zb)) ze (zG _))))) (zh (zt wD)) zv) (zc (xp (pv 1) (yT rfl (zm (zj (i:=2) ve.nd rfl (Or.inl rfl)) (zm (zj (i:=3) ve.nd rfl (Or.inl rfl)) (zm (zj (i:=4) ve.nd rfl (Or.inl rfl)) z7))))) (zh (zt (vE (zi qc1 hr rfl (za (pv 2) (za ze (za (vf rfl g_LAST_HAND (show RelV (.int 15) (.int 15 t_LAST_HAND) from ⟨_,rfl⟩)) zb)))) (vE (zi qc1 hr rfl (za (pv 3) (za ze (za (zo yg (zr zx rfl B.len x6 (za (pv 0) zb)) ze) zb)))) (wv (zi qc0 hr rfl (za (pv 4) zb))))))))),?_⟩
 refine ⟨_,rfl,_,_,_,true,rfl,.inl ⟨rfl,_,h1⟩,rfl,_,rfl,iteF ⟨_,rfl,r,_,rfl,.inr h1,rfl,_,rfl,iteF ?_⟩⟩
 refine ⟨_,rfl,r,_,rfl,h1,rfl,_,_,rfl,_,_,rfl,_,_,rfl,rfl,?_⟩
 refine ⟨_,rfl,_,_,_,rfl,_,_,_,rfl,rfl,rfl,_,rfl,yQ (by rw [decide_eq_true k1,decide_eq_true k2]; rfl) ?_⟩
 refine ⟨_,rfl,_,rfl,l,_,rfl,.inl hb,_,_,rfl,rfl,_,_,_,rfl,_,_,_,rfl,rfl,rfl,_,rfl,yQ (by rw [decide_eq_true k3,decide_eq_true (show k.box <= (xs.length:Int) - 1 by omega)]; rfl) ?_⟩
 refine ⟨_,rfl,_,rfl,.inr ⟨rd,_,rfl,h2,?_,?_⟩⟩
 ·intro v hv
  simp only [Deed.vs,List.mem_cons,List.mem_nil_iff,or_false] at hv
  rcases hv with rfl | rfl | rfl
  ·exact Zb
  ·exact UQ _
  ·exact UQ _
 ·rw [ZU k5]; exact q
theorem xG:FnScope ["self","ask","hand","box","deed","number"] ["self","ask"] (zf (zk (top 46) 1)):=⟨rfl,rfl,rfl,by decide +kernel,rfl,by decide +kernel,by decide +kernel⟩
theorem Yy (F:Fun K "put" "Net.put" (zk (top 46) 1) f fd) (B:Blt mg) {C:Addr} (T:NTxt K mg C) (qc0:zn P w K mg base n "need_hand" ["k","thing"] (vH K)) (qc1:zn P w K mg base n "is_ask" ["board","thing"] (qM K))   {t_MOST_ASKS:Tok} (g_MOST_ASKS:mg "MOST_ASKS" = some (.int 40 t_MOST_ASKS))  :
  FnOk P w K mg base CX0 (n + 1) f fd ["self","ask"] (jL C K):=by
 refine F.ok xG ym (fun cdv A outer s H vs Q E hr h=>?_)
 obtain ⟨x,y,rfl,A5,ns,a,ms,rfl,ha,hn,nr,ok,hh,a40,hm,q⟩:=h
 refine ⟨_,(zc (z5 (yA (yx (zi qc1 hr rfl (za (zE (pv 0) rfl) (za (pv 1) zb))))) (zh y7) zv) (zc (xp (pv 1) (yT rfl (zm (zj (i:=2) xG.nd rfl (Or.inl rfl)) (zm (zj (i:=3) xG.nd rfl (Or.inl rfl)) (zm (zj (i:=4) xG.nd rfl (Or.inl rfl)) z7))))) (zc (zL (zi qc0 hr rfl (za (zE (pv 0) rfl) (za (pv 2) zb)))) (zc (zC (i:=5) xG.nd rfl (Or.inl rfl) (zr zx rfl B.len x6 (za (zE (pv 0) rfl) zb))) (zc (z5 (zD wF (pv 5) (vf rfl g_MOST_ASKS (show RelV (.int 40) (.int 40 t_MOST_ASKS) from ⟨_,rfl⟩)) (zG _)) (zh y7) zv) (zc (zL (wp PySem.F.plainAttrs_list PySem.F.slot_list_append PySem.F.type_list_append xy (zE (pv 0) rfl) (za (pv 1) zb))) (zc (zL (wp PySem.F.plainAttrs_list PySem.F.slot_list_append PySem.F.type_list_append xy (x8 (Room.u1F hr) (zE (pv 0) rfl) (zO (za ze (za (pv 2) zb))) (fun _ _=>rfl)) (za (zO (za (pv 3) (za (pv 4) (za (zO (za (pv 5) zb)) (za (zO zb) zb))))) zb))) (zh (zt (pv 5)))))))))),?_⟩
 have k4:=nr.k4
 obtain ⟨xs,hla,hxa⟩:=hn.la
 have e1:=hxa.len
 have bl:(ns.boxes.map V.int).length = ns.boxes.length:=List.length_map ..
 refine ⟨_,rfl,_,C,_,_,_,rfl,hn.ob.choose_spec,T.cl,T.n_boxes,vU,_,rfl,_,_,rfl,A5 .lb,_,a,rfl,SqL.of hn.lb,ha,by rw [bl]; exact ok,_,rfl,iteF ?_⟩
 obtain ⟨r,rd,rfl,h1,h2⟩:=ha
 obtain ⟨k1,k2,k3,k5,k6⟩:=ok
 have eh:a.hand = ((a.hand.toNat:Nat):Int):=(Int.toNat_of_nonneg k1).symm
 have eb:a.box = ((a.box.toNat:Nat):Int):=(Int.toNat_of_nonneg k3).symm
 have hh':a.hand.toNat < 2 ^ ns.k:=by omega
 refine ⟨_,rfl,r,_,rfl,h1,rfl,_,_,rfl,_,_,rfl,_,_,rfl,rfl,?_⟩
 refine ⟨_,rfl,_,C,_,_,_,rfl,hn.ob.choose_spec,T.cl,T.n_depth,zX,_,rfl,_,_,rfl,ns.k,a.hand.toNat,rfl,congrArg V.int eh,k4,hh',?_⟩
 have n40:¬ (V.int (ns.asks.length:Int) = V.int 40):=fun h=>by
  have h:(ns.asks.length:Int) = 40:=by injection h
  omega
 refine ⟨_,rfl,_,C,_,_,_,rfl,hn.ob.choose_spec,T.cl,T.n_asks,jE,_,_,rfl,.inl (SqL.of hla),jy (congrArg V.int (congrArg Int.ofNat e1)) ?_⟩
 refine ⟨_,rfl,rfl,_,rfl,yu (decide_eq_false n40) ?_⟩
 have hx2:=hxa.app (.one (show xA K H (.ref r) a from ⟨r,rd,rfl,h1,h2⟩))
 obtain ⟨hn1,g1⟩:=hn.setA hx2
 refine ⟨_,rfl,_,C,_,_,_,rfl,hn.ob.choose_spec,T.cl,T.n_asks,jE,.inl ⟨rfl,_,SqL.of hla⟩,_,rfl,A5 .la,xs,.ref r,rfl,rfl,hla,zp (by omega),?_⟩
 have G1:=g1.mono (m':=ms) fun b hb=>by rw [List.mem_singleton.mp hb]; exact hm .la trivial
 have h21:=g1.sqT h2
 generalize upd H (A5 .la) (.lst (xs ++ [.ref r])) = H1 at hn1 g1 G1 h21 ⊢
 refine ⟨_,rfl,_,C,_,_,_,rfl,hn1.ob.choose_spec,T.cl,T.n_lines,wZ,_,rfl,szl rfl,fun t ht=>?_⟩
 have gt:=Grow.new (m:=[]) ht (.tup [.int 0,.int a.hand])
 have kt:upd H1 t (.tup [.int 0,.int a.hand]) t = some (.tup [.int ((0:Nat):Int),.int ((a.hand.toNat:Nat):Int)]):=by rw [zd,← eh]; rfl
 have hn2:=hn1.grow0 gt
 have G2:=G1.trans (gt.wk (m:=ms))
 have h22:=gt.sqT h21
 refine ⟨_,_,rfl,(wX (A:=A5) (Nat.zero_le ns.k) hh') ▸ DGet.t hn2.dl (y4 kt),?_⟩
 generalize upd H1 t _ = H2 at gt kt hn2 G2 h22 ⊢
 obtain ⟨ys,hys,hw⟩:=hn2.ln (l:=0) (j:=a.hand.toNat) (Nat.zero_le _) hh'
 have hwl:AllR (WtAt K H2) ys (ns.lines 0 a.hand.toNat):=hw
 have ll:=(va nr (l:=0) (Nat.zero_le _) hh').1
 have yl:=hwl.len
 refine ⟨.inl ⟨rfl,_,SqL.of hys⟩,_,rfl,_,rfl,_,rfl,szl rfl,fun t1 ht1=>⟨szl rfl,fun t2 ht2=>⟨szl rfl,fun t3 ht3=>?_⟩⟩⟩
 have f1:=Grow.new (m:=[]) ht1 (.tup [.int (ns.asks.length:Int)])
 have f2:=Grow.new (m:=[]) ht2 (.tup [])
 have s1:upd H2 t1 (.tup [.int (ns.asks.length:Int)]) t1 = some (.tup [.int (ns.asks.length:Int)]):=zd
 have s2:upd (upd H2 t1 (.tup [.int (ns.asks.length:Int)])) t2 (.tup []) t2 = some (.tup []):=zd
 have f3:=Grow.new (m:=[]) ht3 (.tup [.int a.box,.ref rd,.ref t1,.ref t2])
 have F3:=f1.trans (f2.trans f3)
 have w0:WtAt K (upd (upd (upd H2 t1 (.tup [.int (ns.asks.length:Int)])) t2 (.tup [])) t3 (.tup [.int a.box,.ref rd,.ref t1,.ref t2])) (.ref t3) ⟨a.box.toNat,a.deed,[ns.asks.length],[]⟩:=by
  refine ⟨t3,rd,t1,t2,[],rfl,?_,F3.sqT h22,SqT.of ((f2.trans f3).tup _ _ s1),SqT.of (f3.tup _ _ s2),trivial⟩
  show SqT K _ t3 [.int ((a.box.toNat:Nat):Int),.ref rd,.ref t1,.ref t2]
  rw [← eb]; exact SqT.of zd
 have hn3:=hn2.grow0 F3
 have G3:=G2.trans (F3.wk (m:=ms))
 have hys3:=F3.keep _ _ (by simp) hys
 have hw3:=hwl.imp fun _ _ z=>z.grow F3
 generalize upd (upd (upd H2 t1 _) t2 _) t3 _ = H3 at w0 hn3 G3 hys3 hw3 ⊢
 obtain ⟨hn4,g4⟩:=hn3.setLn (l:=0) (j:=a.hand.toNat) (Nat.zero_le _) hh' (hw3.app (.one w0))
 refine ⟨_,ys,_,rfl,rfl,hys3,zp (by omega),?_⟩
 exact ⟨_,rfl,q _ (G3.trans (g4.mono fun b hb=>by rw [List.mem_singleton.mp hb]; exact hm (.ln 0 a.hand.toNat) ⟨Nat.zero_le _,hh'⟩)) hn4⟩
theorem jZ:FnScope ["thing"] ["thing"] (zf (top 22)):=⟨rfl,rfl,rfl,by decide +kernel,rfl,by decide +kernel,by decide +kernel⟩
theorem j0 (F:Fun K "is_board" "is_board" (top 22) f fd) (B:Blt mg) (qc0:zn P w K mg base n "is_whole" ["thing"] (xg K))   {t_MOST_BOXES:Tok} (g_MOST_BOXES:mg "MOST_BOXES" = some (.int 16 t_MOST_BOXES))  :
  FnOk P w K mg base CX0 (n + 1) f fd ["thing"] (ut K):=by
 refine F.ok jZ yK (fun cdv A outer s H vs Q E hr h=>?_)
 obtain ⟨x,rfl,b,⟨r,rfl,hs⟩,b1,b2,q⟩:=h
 refine ⟨_,(zc (z5 (PW.pt (vN (yA (yx (zr xH rfl B.isinstance yp (za (pv 0) (za (ui rfl B.tuple xr) zb))))) (xW (yA (Wg We We ze (zr zx rfl B.len x6 (za (pv 0) zb)) (vf rfl g_MOST_BOXES (show RelV (.int 16) (.int 16 t_MOST_BOXES) from ⟨_,rfl⟩))))))) (zh (zt wD)) zv) (zh (zt (zr (uk rfl) rfl B.all VS (za (yL (CSc.of (N':=["value"]) (sub:=[none]) (zf (top 22)) ["thing"] rfl rfl (by decide +kernel) rfl) rfl (ww (pv 0)) (fun _ _ _ _ _ _=>zj (i:=0) (show (["value"]:List Str).Nodup by decide +kernel) rfl (Or.inl rfl)) (fun _ _ _ _ _ _=>yc) (fun _ _ _ _ _ _=>(zi qc0 hr rfl (za (pv 0) zb)))) zb))))),?_⟩
 have hl:(b.map V.int).length = b.length:=List.length_map ..
 refine ⟨_,rfl,_,_,_,true,rfl,.inl ⟨rfl,_,hs⟩,rfl,_,rfl,iteF ?_⟩
 refine ⟨_,rfl,r,_,rfl,.inr hs,_,_,rfl,rfl,_,rfl,yQ (decide_eq_true (by rw [hl]; omega)) ⟨_,_,rfl,rfl,_,rfl,yu (by rw [decide_eq_true (show ((b.map V.int).length:Int) <= 16 by rw [hl]; omega)]; rfl) ?_⟩⟩
 refine ⟨_,rfl,r,rfl,⟨_,hs⟩,qi (fun _=>V.bl true) hs (by rw [hl]; omega) ?_ ?_⟩
 ·intro x H1 R hx g k
  obtain ⟨i,_,rfl⟩:=List.mem_map.mp hx
  exact ⟨_,rfl,_,rfl,Zb,k _ (Grow.refl _ _)⟩
 ·intro H1 p g hp
  refine ⟨p,b.map (fun _=>true),rfl,SqL.of (by rw [zd,WA]),?_⟩
  rw [qj]
  exact q _ (g.trans (Grow.new hp _))
theorem rG:FnScope ["thing"] ["thing"] (zf (top 23)):=⟨rfl,rfl,rfl,by decide +kernel,rfl,by decide +kernel,by decide +kernel⟩
theorem rH (F:Fun K "need_board" "need_board" (top 23) f fd) (B:Blt mg) (qc0:zn P w K mg base n "is_board" ["thing"] (ut K))     :
  FnOk P w K mg base CX0 (n + 1) f fd ["thing"] (wT K):=by
 refine F.ok rG yK (fun cdv A outer s H vs Q E hr h=>?_)
 obtain ⟨x,rfl,b,hb,b1,b2,q⟩:=h
 refine ⟨_,(zh (z5 (yA (yx (zi qc0 hr rfl (za (pv 0) zb)))) (zh y7) zv)),?_⟩
 exact ⟨_,rfl,_,rfl,b,hb,b1,b2,fun H1 g1=>⟨_,rfl,iteF (q _ g1)⟩⟩
theorem rJ:FnScope ["room","kept"] ["room","kept"] (zf (top 42)):=⟨rfl,rfl,rfl,by decide +kernel,rfl,by decide +kernel,by decide +kernel⟩
theorem rK (F:Fun K "need_sizes" "need_sizes" (top 42) f fd) (B:Blt mg) (qc0:zn P w K mg base n "is_within" ["thing","least","greatest"] (ya K))   {t_MOST_KEPT:Tok} (g_MOST_KEPT:mg "MOST_KEPT" = some (.int 6 t_MOST_KEPT)) {t_MOST_ROOM:Tok} (g_MOST_ROOM:mg "MOST_ROOM" = some (.int 6 t_MOST_ROOM))  :
  FnOk P w K mg base CX0 (n + 1) f fd ["room","kept"] (qK K):=by
 refine F.ok rJ ym (fun cdv A outer s H vs Q E hr h=>?_)
 obtain ⟨x,y,rfl,room,kept,rfl,rfl,r1,r6,k6,q⟩:=h
 refine ⟨_,(zh (z5 (PW.pt (vN (yA (yx (zi qc0 hr rfl (za (pv 0) (za ze (za (vf rfl g_MOST_ROOM (show RelV (.int 6) (.int 6 t_MOST_ROOM) from ⟨_,rfl⟩)) zb)))))) (xW (yA (yx (zi qc0 hr rfl (za (pv 1) (za ze (za (vf rfl g_MOST_KEPT (show RelV (.int 6) (.int 6 t_MOST_KEPT) from ⟨_,rfl⟩)) zb))))))))) (zh y7) zv)),?_⟩
 refine ⟨_,rfl,_,_,_,rfl,_,_,_,rfl,rfl,rfl,_,rfl,yu (by rw [decide_eq_true (show (1:Int) <= room by omega),decide_eq_true (show (room:Int) <= 6 by omega)]; rfl) ?_⟩
 exact ⟨_,rfl,_,_,_,rfl,_,_,_,rfl,rfl,rfl,_,rfl,yu (by rw [decide_eq_true (show (0:Int) <= kept by omega),decide_eq_true (show (kept:Int) <= 6 by omega)]; rfl) q⟩
theorem j1:FnScope ["thing"] ["thing"] (zf (top 27)):=⟨rfl,rfl,rfl,by decide +kernel,rfl,by decide +kernel,by decide +kernel⟩
theorem j2 (F:Fun K "need_net" "need_net" (top 27) f fd) (B:Blt mg) (qc0:zn P w K mg base n "is_within" ["thing","least","greatest"] (ya K))   {t_DEEPEST:Tok} (g_DEEPEST:mg "DEEPEST" = some (.int 4 t_DEEPEST))  :
  FnOk P w K mg base CX0 (n + 1) f fd ["thing"] (uu K):=by
 refine F.ok j1 yK (fun cdv A outer s H vs Q E hr h=>?_)
 obtain ⟨x,rfl,k,rfl,k4,q⟩:=h
 refine ⟨_,(zh (z5 (yA (yx (zi qc0 hr rfl (za (pv 0) (za ze (za (vf rfl g_DEEPEST (show RelV (.int 4) (.int 4 t_DEEPEST) from ⟨_,rfl⟩)) zb)))))) (zh y7) zv)),?_⟩
 exact ⟨_,rfl,_,_,_,rfl,_,_,_,rfl,rfl,rfl,_,rfl,yu (by rw [decide_eq_true (show (0:Int) <= k by omega),decide_eq_true (show (k:Int) <= 4 by omega)]; rfl) q⟩
theorem uV:FnScope ["self","k","board","room","kept"] ["self","k","board","room","kept"] (zf (zk (top 46) 0)):=⟨rfl,rfl,rfl,by decide +kernel,rfl,by decide +kernel,by decide +kernel⟩
theorem uW (F:Fun K "__init__" "Net.__init__" (zk (top 46) 0) f fd) (B:Blt mg) {C:Addr} (T:NTxt K mg C) (qc0:zn P w K mg base n "need_board" ["thing"] (wT K)) (qc1:zn P w K mg base n "need_sizes" ["room","kept"] (qK K)) (qc2:zn P w K mg base n "need_net" ["thing"] (uu K))     :
  FnOk P w K mg base CX0 (n + 1) f fd ["self","k","board","room","kept"] (rq C K):=by
 refine F.ok uV jo (fun cdv A outer s H vs Q E hr h=>?_)
 obtain ⟨x,y,z,u,w,rfl,p,dx,k,room,kept,b,rfl,rfl,hb,rfl,rfl,k4,b1,b16,r1,r6,k6,hp,q⟩:=h
 refine ⟨_,(zc (zL (zi qc2 hr rfl (za (pv 1) zb))) (zc (zL (zi qc1 hr rfl (za (pv 3) (za (pv 4) zb)))) (zc (zL (zi qc0 hr rfl (za (pv 2) zb))) (zc (xS (pv 0) (pv 1) rfl) (zc (xS (pv 0) (pv 3) rfl) (zc (xS (pv 0) (pv 4) rfl) (zc (xS (pv 0) (yh vG rfl B.list YV (za (pv 2) zb)) rfl) (zc (xS (pv 0) (yF zb) rfl) (zc (xS (pv 0) ze rfl) (zc (xS (pv 0) (Zz (Room.u1F hr) (CSc.of (N':=["level","line","k"]) (sub:=[none,none,some 1]) (zf (zk (top 46) 0)) ["self","k","board","room","kept"] rfl rfl (by decide +kernel) rfl) rfl (ye rfl B.range (za (zo yf (pv 1) ze) zb)) (fun _ _ _ _ _ _=>zj (i:=0) (show (["level","line","k"]:List Str).Nodup by decide +kernel) rfl (Or.inl rfl)) (fun _ _ _ _ _ _=>(ye rfl B.range (za (zo yH ze (pv 2)) zb))) (fun _ _ _ _ _ _=>zj (i:=1) (show (["level","line","k"]:List Str).Nodup by decide +kernel) rfl (Or.inl rfl)) (fun _ _ _ _ _ _=>yc) (fun _ _ _ _ _ _=>(zO (za (pv 0) (za (pv 1) zb)))) (fun _ _ _ _ _ _=>(yF zb))) rfl) (zc (xS (pv 0) (Zz (Room.u1F hr) (CSc.of (N':=["stage","number","k"]) (sub:=[none,none,some 1]) (zf (zk (top 46) 0)) ["self","k","board","room","kept"] rfl rfl (by decide +kernel) rfl) rfl (vX rfl B.range (za ze (za (zo yf (pv 1) ze) zb))) (fun _ _ _ _ _ _=>zj (i:=0) (show (["stage","number","k"]:List Str).Nodup by decide +kernel) rfl (Or.inl rfl)) (fun _ _ _ _ _ _=>(ye rfl B.range (za (zo yH ze (zo yg (pv 2) ze)) zb))) (fun _ _ _ _ _ _=>zj (i:=1) (show (["stage","number","k"]:List Str).Nodup by decide +kernel) rfl (Or.inl rfl)) (fun _ _ _ _ _ _=>yc) (fun _ _ _ _ _ _=>(zO (za (pv 0) (za (pv 1) zb)))) (fun _ _ _ _ _ _=>ze)) rfl) (zc (xS (pv 0) sR rfl) (zc (xS (pv 0) (yF zb) rfl) (zc (xS (pv 0) sR rfl) (zh (xS (pv 0) sR rfl)))))))))))))))),?_⟩
 have p16:=vo k4
 refine ⟨_,rfl,_,rfl,k,rfl,k4,⟨_,rfl,_,rfl,_,_,rfl,room,kept,rfl,rfl,r1,r6,k6,⟨_,rfl,_,rfl,b,hb,b1,b16,fun H1 g1=>?_⟩⟩⟩
 have hns:∀ l j,(newS k b room kept).lines l j = []:=fun _ _=>rfl
 have P0:Part K C p H H1 (fun _=>p) (newS k b room kept) fun _=>False:=(Part.nil hp).grow0 g1
 have e0:=g1.keep _ _ (by simp) hp
 have hb1:=g1.board hb
 have e1:=e0
 refine ⟨_,rfl,_,rfl,p,C,dx,_,rfl,e0,T.cl,T.n_depth,(by show (0:Nat) < 1000; decide),?_⟩
 rw [XJ]
 replace P0:=P0.setP (fs':=([("depth",V.int k)]:List (Str × V))) e0
 replace e0:upd H1 p (.ins C dx ([("depth",V.int k)]:List (Str × V))) p = some (.ins C dx [("depth",V.int k)]):=zd
 replace hb1:=(Grow.setI (m:=[p]) e1 (by simp) (.ins C dx ([("depth",V.int k)]:List (Str × V)))).board hb1
 clear e1
 generalize upd H1 p _ = H2 at P0 e0 hb1 ⊢
 have e1:=e0
 refine ⟨_,rfl,_,rfl,p,C,dx,_,rfl,e0,T.cl,T.n_room,(by show (1:Nat) < 1000; decide),?_⟩
 rw [WX]
 replace P0:=P0.setP (fs':=([("depth",V.int k),("room",V.int room)]:List (Str × V))) e0
 replace e0:upd H2 p (.ins C dx ([("depth",V.int k),("room",V.int room)]:List (Str × V))) p = some (.ins C dx [("depth",V.int k),("room",V.int room)]):=zd
 replace hb1:=(Grow.setI (m:=[p]) e1 (by simp) (.ins C dx ([("depth",V.int k),("room",V.int room)]:List (Str × V)))).board hb1
 clear e1
 generalize upd H2 p _ = H3 at P0 e0 hb1 ⊢
 have e1:=e0
 refine ⟨_,rfl,_,rfl,p,C,dx,_,rfl,e0,T.cl,T.n_most_kept,(by show (2:Nat) < 1000; decide),?_⟩
 rw [rp]
 replace P0:=P0.setP (fs':=([("depth",V.int k),("room",V.int room),("most_kept",V.int kept)]:List (Str × V))) e0
 replace e0:upd H3 p (.ins C dx ([("depth",V.int k),("room",V.int room),("most_kept",V.int kept)]:List (Str × V))) p = some (.ins C dx [("depth",V.int k),("room",V.int room),("most_kept",V.int kept)]):=zd
 replace hb1:=(Grow.setI (m:=[p]) e1 (by simp) (.ins C dx ([("depth",V.int k),("room",V.int room),("most_kept",V.int kept)]:List (Str × V)))).board hb1
 clear e1
 generalize upd H3 p _ = H4 at P0 e0 hb1 ⊢
 obtain ⟨rb,rfl,hrb⟩:=hb1
 refine ⟨_,rfl,rb,_,rfl,.inr hrb,fun lb hlb=>?_⟩
 replace P0:=P0.add (c:=.lb) (o:=.lst (b.map V.int)) hlb (by simp) rfl (fun a ha o H z=>by cases a <;> first | exact z | exact absurd ha (by simp))
 replace e0:=(Grow.new (m:=[]) hlb (.lst (b.map V.int))).keep _ _ (by simp) e0
 generalize upd H4 lb _ = H5 at P0 e0 ⊢
 refine ⟨_,rfl,p,C,dx,_,rfl,e0,T.cl,T.n_boxes,(by show (3:Nat) < 1000; decide),?_⟩
 rw [XL]
 replace P0:=P0.setP (fs':=([("depth",V.int k),("room",V.int room),("most_kept",V.int kept),("boxes",V.ref lb)]:List (Str × V))) e0
 replace e0:upd H5 p (.ins C dx ([("depth",V.int k),("room",V.int room),("most_kept",V.int kept),("boxes",V.ref lb)]:List (Str × V))) p = some (.ins C dx [("depth",V.int k),("room",V.int room),("most_kept",V.int kept),("boxes",V.ref lb)]):=zd
 generalize upd H5 p _ = H6 at P0 e0 ⊢
 refine ⟨szl rfl,fun la hla=>?_⟩
 replace P0:=P0.add (c:=.la) (o:=.lst []) hla (by simp) ⟨[],rfl,trivial⟩ (fun a ha o H z=>by cases a <;> first | exact z | exact absurd ha (by simp))
 replace e0:=(Grow.new (m:=[]) hla (.lst [])).keep _ _ (by simp) e0
 generalize upd H6 la _ = H7 at P0 e0 ⊢
 refine ⟨_,rfl,p,C,dx,_,rfl,e0,T.cl,T.n_asks,(by show (4:Nat) < 1000; decide),?_⟩
 rw [WY]
 replace P0:=P0.setP (fs':=([("depth",V.int k),("room",V.int room),("most_kept",V.int kept),("boxes",V.ref lb),("asks",V.ref la)]:List (Str × V))) e0
 replace e0:upd H7 p (.ins C dx ([("depth",V.int k),("room",V.int room),("most_kept",V.int kept),("boxes",V.ref lb),("asks",V.ref la)]:List (Str × V))) p = some (.ins C dx [("depth",V.int k),("room",V.int room),("most_kept",V.int kept),("boxes",V.ref lb),("asks",V.ref la)]):=zd
 generalize upd H7 p _ = H8 at P0 e0 ⊢
 refine ⟨_,rfl,p,C,dx,_,rfl,e0,T.cl,T.n_now,(by show (5:Nat) < 1000; decide),?_⟩
 rw [Ui]
 replace P0:=P0.setP (fs':=([("depth",V.int k),("room",V.int room),("most_kept",V.int kept),("boxes",V.ref lb),("asks",V.ref la),("now",V.int 0)]:List (Str × V))) e0
 replace e0:upd H8 p (.ins C dx ([("depth",V.int k),("room",V.int room),("most_kept",V.int kept),("boxes",V.ref lb),("asks",V.ref la),("now",V.int 0)]:List (Str × V))) p = some (.ins C dx [("depth",V.int k),("room",V.int room),("most_kept",V.int kept),("boxes",V.ref lb),("asks",V.ref la),("now",V.int 0)]):=zd
 generalize upd H8 p _ = H9 at P0 e0 ⊢
 have L0:LnP K C p dx [("depth",V.int k),("room",V.int room),("most_kept",V.int kept),("boxes",V.ref lb),("asks",V.ref la),("now",V.int 0)] H (newS k b room kept) (fun a=>(False \/ a = .lb) \/ a = .la) (updA (updA (fun _=>p) .lb lb) .la la) (2 ^ k) 0 0 (fun _ _=>.non) H9:=⟨⟨_,P0.sub fun a ha=>by
  cases a with
  | ln x y=>rcases y8.mp ha with ⟨h1,h2,_⟩ | ⟨_,h2⟩ <;> exact absurd h2 (Nat.not_lt_zero _)
  | _=>exact ha,fun q hq=>by rcases y8.mp hq with ⟨h1,h2,_⟩ | ⟨_,h2⟩ <;> exact absurd h2 (Nat.not_lt_zero _),fun a _ _=>rfl⟩,e0⟩
 have e1k:((k:Int) + 1).toNat = k + 1:=by omega
 refine ⟨_,rfl,_,_,rfl,rfl,_,rfl,by omega,by omega,?_⟩
 rw [e1k]
 refine uE (a:=0) (m:=2 ^ k) (e2:=[some (.int k)]) (LnP K C p dx [("depth",V.int k),("room",V.int room),("most_kept",V.int kept),("boxes",V.ref lb),("asks",V.ref la),("now",V.int 0)] H (newS k b room kept) (fun a=>(False \/ a = .lb) \/ a = .la) (updA (updA (fun _=>p) .lb lb) .la la) (2 ^ k)) rfl (by omega) p16 ⟨_,_,rfl⟩ _ L0 ?_ ?_ ?_ ?_
 ·intro i e1 F H' R hi hl r
  refine ⟨_,rfl,_,_,rfl,rfl,xT k4,_,rfl,by rw [shl5]; exact Int.le_trans (by decide) (Int.natCast_nonneg _),by rw [shl5]; exact Int.lt_of_le_of_lt (Int.ofNat_le.mpr p16) (by decide),?_⟩
  rw [shl5,Int.toNat_natCast]; exact r
 ·intro i j F H' KK hi hj hl kk
  refine ⟨_,rfl,_,rfl,szl rfl,fun t ht=>⟨szl rfl,fun l hl'=>?_⟩⟩
  have gt:=Grow.new (m:=[]) ht (.tup [.int ((0 + i:Nat):Int),.int (j:Int)])
  have gl:=Grow.new (m:=[]) hl' (.lst [])
  exact kk t (.ref l) _ (gl.tup _ _ zd) (fun c xs hc=>gl.tup _ _ (gt.tup _ _ hc)) ((hl.grow gt).step (fun l y z=>by rcases z with (z | z) | z <;> cases z) ⟨fun z=>(by rcases z with (z | z) | z <;> cases z),fun z=>(by rcases z with (z | z) | z <;> cases z)⟩ hns hl')
 ·exact fun i F H' hi hl=>hl.row
 clear P0 e0 L0
 intro F H10 lp dl hdl
 obtain ⟨⟨A1,P0,hF,hA⟩,e0⟩:=lp
 have eln:kvP5 F (prs5 0 (2 ^ k) (k + 1) 0) = xC A1 k:=by
  rw [Yo]; exact sj hF
 rw [eln]
 replace P0:=P0.add (c:=.dl) (o:=.dT (xC A1 k)) hdl (fun z=>by rcases z with (z | z) | z <;> cases z) rfl (fun a ha o H z=>by cases a <;> first | exact z | exact absurd ha (by simp [DL]))
 replace e0:=(Grow.new (m:=[]) hdl (.dT (xC A1 k))).keep _ _ (by simp) e0
 have A1b:A1 .lb = lb:=hA .lb (.inl (.inr rfl)) fun _ _=>by simp
 have A1a:A1 .la = la:=hA .la (.inr rfl) fun _ _=>by simp
 generalize upd H10 dl _ = H11 at P0 e0 ⊢
 refine ⟨_,rfl,p,C,dx,_,rfl,e0,T.cl,T.n_lines,(by show (6:Nat) < 1000; decide),?_⟩
 rw [XM]
 replace P0:=P0.setP (fs':=([("depth",V.int k),("room",V.int room),("most_kept",V.int kept),("boxes",V.ref lb),("asks",V.ref la),("now",V.int 0),("lines",V.ref dl)]:List (Str × V))) e0
 replace e0:upd H11 p (.ins C dx ([("depth",V.int k),("room",V.int room),("most_kept",V.int kept),("boxes",V.ref lb),("asks",V.ref la),("now",V.int 0),("lines",V.ref dl)]:List (Str × V))) p = some (.ins C dx [("depth",V.int k),("room",V.int room),("most_kept",V.int kept),("boxes",V.ref lb),("asks",V.ref la),("now",V.int 0),("lines",V.ref dl)]):=zd
 generalize upd H11 p _ = H12 at P0 e0 ⊢
 have e2k:((k:Int) + 1 - 1).toNat = k:=by omega
 have ek1:((2 ^ (k - 1):Nat)) <= 16:=Nat.le_trans (Nat.pow_le_pow_right (by decide) (by omega)) p16
 refine ⟨_,rfl,_,_,rfl,rfl,_,_,rfl,⟨by decide,by decide,by omega,by omega⟩,?_⟩
 rw [e2k]
 refine uE (a:=1) (m:=2 ^ (k - 1)) (e2:=[some (.int k)]) (fun i j F H'=>Grow [] H12 H' /\ ∀ q ∈ prs5 1 (2 ^ (k - 1)) i j,F q.1 q.2 = .int 0) rfl (by omega) ek1 ⟨_,_,rfl⟩ (fun _ _=>.int 0) ⟨Grow.refl _ _,fun _ _=>rfl⟩ ?_ ?_ ?_ ?_
 ·intro i e1 F H' R hi hl r
  have ek:(k:Int) - 1 = ((k - 1:Nat):Int):=by omega
  refine ⟨_,rfl,_,_,rfl,rfl,1,((k - 1:Nat):Int),rfl,congrArg V.int ek,xT (by omega),_,rfl,by rw [shl5]; exact Int.le_trans (by decide) (Int.natCast_nonneg _),by rw [shl5]; exact Int.lt_of_le_of_lt (Int.ofNat_le.mpr ek1) (by decide),?_⟩
  rw [shl5,Int.toNat_natCast]; exact r
 ·intro i j F H' KK hi hj hl kk
  refine ⟨_,rfl,_,rfl,szl rfl,fun t ht=>?_⟩
  have gt:=Grow.new (m:=[]) ht (.tup [.int ((1 + i:Nat):Int),.int (j:Int)])
  refine kk t (.int 0) _ zd (fun c xs hc=>gt.tup _ _ hc) ⟨hl.1.trans gt,fun q hq=>?_⟩
  by_cases c:q.1 = 1 + i /\ q.2 = j
  ·rw [c.1,c.2,zw]
  ·rw [zB c]
   rw [ZA,List.mem_append] at hq
   rcases hq with hq | hq
   ·exact hl.2 q hq
   ·have:=List.mem_singleton.mp hq
    exact absurd ⟨congrArg Prod.fst this,congrArg Prod.snd this⟩ c
 ·exact fun i F H' hi hl=>⟨hl.1,by rw [← si]; exact hl.2⟩
 intro F H13 lp dk hdk
 have ekp:kvP5 F (prs5 1 (2 ^ (k - 1)) k 0) = z9 k (fun _ _=>0):=by
  rw [Yp]; exact sj lp.2
 rw [ekp]
 replace P0:=P0.grow0 lp.1
 replace e0:=lp.1.keep _ _ (by simp) e0
 replace P0:=P0.add (c:=.dk) (o:=.dT (z9 k fun _ _=>0)) hdk (by simp [DL]) rfl (fun a ha o H z=>by cases a <;> first | exact z | exact absurd ha (by simp [DL]))
 replace e0:=(Grow.new (m:=[]) hdk (.dT (z9 k fun _ _=>0))).keep _ _ (by simp) e0
 generalize upd H13 dk _ = H14 at P0 e0 ⊢
 refine ⟨_,rfl,p,C,dx,_,rfl,e0,T.cl,T.n_keeping,(by show (7:Nat) < 1000; decide),?_⟩
 rw [jI]
 replace P0:=P0.setP (fs':=([("depth",V.int k),("room",V.int room),("most_kept",V.int kept),("boxes",V.ref lb),("asks",V.ref la),("now",V.int 0),("lines",V.ref dl),("keeping",V.ref dk)]:List (Str × V))) e0
 replace e0:upd H14 p (.ins C dx ([("depth",V.int k),("room",V.int room),("most_kept",V.int kept),("boxes",V.ref lb),("asks",V.ref la),("now",V.int 0),("lines",V.ref dl),("keeping",V.ref dk)]:List (Str × V))) p = some (.ins C dx [("depth",V.int k),("room",V.int room),("most_kept",V.int kept),("boxes",V.ref lb),("asks",V.ref la),("now",V.int 0),("lines",V.ref dl),("keeping",V.ref dk)]):=zd
 generalize upd H14 p _ = H15 at P0 e0 ⊢
 refine fun dd hdd=>?_
 replace P0:=P0.add (c:=.dd) (o:=.dK []) hdd (by simp [DL]) rfl (fun a ha o H z=>by cases a <;> first | exact z | exact absurd ha (by simp [DL]))
 replace e0:=(Grow.new (m:=[]) hdd (.dK [])).keep _ _ (by simp) e0
 generalize upd H15 dd _ = H16 at P0 e0 ⊢
 refine ⟨_,rfl,p,C,dx,_,rfl,e0,T.cl,T.n_done_in,(by show (8:Nat) < 1000; decide),?_⟩
 rw [jJ]
 replace P0:=P0.setP (fs':=([("depth",V.int k),("room",V.int room),("most_kept",V.int kept),("boxes",V.ref lb),("asks",V.ref la),("now",V.int 0),("lines",V.ref dl),("keeping",V.ref dk),("done_in",V.ref dd)]:List (Str × V))) e0
 replace e0:upd H16 p (.ins C dx ([("depth",V.int k),("room",V.int room),("most_kept",V.int kept),("boxes",V.ref lb),("asks",V.ref la),("now",V.int 0),("lines",V.ref dl),("keeping",V.ref dk),("done_in",V.ref dd)]:List (Str × V))) p = some (.ins C dx [("depth",V.int k),("room",V.int room),("most_kept",V.int kept),("boxes",V.ref lb),("asks",V.ref la),("now",V.int 0),("lines",V.ref dl),("keeping",V.ref dk),("done_in",V.ref dd)]):=zd
 generalize upd H16 p _ = H17 at P0 e0 ⊢
 refine ⟨szl rfl,fun lg hlg=>?_⟩
 replace P0:=P0.add (c:=.lg) (o:=.lst []) hlg (by simp [DL]) rfl (fun a ha o H z=>by cases a <;> first | exact z | exact absurd ha (by simp [DL]))
 replace e0:=(Grow.new (m:=[]) hlg (.lst [])).keep _ _ (by simp) e0
 generalize upd H17 lg _ = H18 at P0 e0 ⊢
 refine ⟨_,rfl,p,C,dx,_,rfl,e0,T.cl,T.n_logged,(by show (9:Nat) < 1000; decide),?_⟩
 rw [Yn]
 replace P0:=P0.setP (fs':=([("depth",V.int k),("room",V.int room),("most_kept",V.int kept),("boxes",V.ref lb),("asks",V.ref la),("now",V.int 0),("lines",V.ref dl),("keeping",V.ref dk),("done_in",V.ref dd),("logged",V.ref lg)]:List (Str × V))) e0
 replace e0:upd H18 p (.ins C dx ([("depth",V.int k),("room",V.int room),("most_kept",V.int kept),("boxes",V.ref lb),("asks",V.ref la),("now",V.int 0),("lines",V.ref dl),("keeping",V.ref dk),("done_in",V.ref dd),("logged",V.ref lg)]:List (Str × V))) p = some (.ins C dx [("depth",V.int k),("room",V.int room),("most_kept",V.int kept),("boxes",V.ref lb),("asks",V.ref la),("now",V.int 0),("lines",V.ref dl),("keeping",V.ref dk),("done_in",V.ref dd),("logged",V.ref lg)]):=zd
 generalize upd H18 p _ = H19 at P0 e0 ⊢
 refine fun df hdf=>?_
 replace P0:=P0.add (c:=.df) (o:=.dK []) hdf (by simp [DL]) rfl (fun a ha o H z=>by cases a <;> first | exact z | exact absurd ha (by simp [DL]))
 replace e0:=(Grow.new (m:=[]) hdf (.dK [])).keep _ _ (by simp) e0
 generalize upd H19 df _ = H20 at P0 e0 ⊢
 refine ⟨_,rfl,p,C,dx,_,rfl,e0,T.cl,T.n_found,(by show (10:Nat) < 1000; decide),?_⟩
 rw [XN]
 replace P0:=P0.setP (fs':=([("depth",V.int k),("room",V.int room),("most_kept",V.int kept),("boxes",V.ref lb),("asks",V.ref la),("now",V.int 0),("lines",V.ref dl),("keeping",V.ref dk),("done_in",V.ref dd),("logged",V.ref lg),("found",V.ref df)]:List (Str × V))) e0
 replace e0:upd H20 p (.ins C dx ([("depth",V.int k),("room",V.int room),("most_kept",V.int kept),("boxes",V.ref lb),("asks",V.ref la),("now",V.int 0),("lines",V.ref dl),("keeping",V.ref dk),("done_in",V.ref dd),("logged",V.ref lg),("found",V.ref df)]:List (Str × V))) p = some (.ins C dx [("depth",V.int k),("room",V.int room),("most_kept",V.int kept),("boxes",V.ref lb),("asks",V.ref la),("now",V.int 0),("lines",V.ref dl),("keeping",V.ref dk),("done_in",V.ref dd),("logged",V.ref lg),("found",V.ref df)]):=zd
 generalize upd H20 p _ = H21 at P0 e0 ⊢
 refine fun da hda=>?_
 replace P0:=P0.add (c:=.da) (o:=.dK []) hda (by simp [DL]) rfl (fun a ha o H z=>by cases a <;> first | exact z | exact absurd ha (by simp [DL]))
 replace e0:=(Grow.new (m:=[]) hda (.dK [])).keep _ _ (by simp) e0
 generalize upd H21 da _ = H22 at P0 e0 ⊢
 refine ⟨_,rfl,p,C,dx,_,rfl,e0,T.cl,T.n_answers,(by show (11:Nat) < 1000; decide),?_⟩
 rw [jK]
 replace P0:=P0.setP (fs':=([("depth",V.int k),("room",V.int room),("most_kept",V.int kept),("boxes",V.ref lb),("asks",V.ref la),("now",V.int 0),("lines",V.ref dl),("keeping",V.ref dk),("done_in",V.ref dd),("logged",V.ref lg),("found",V.ref df),("answers",V.ref da)]:List (Str × V))) e0
 replace e0:upd H22 p (.ins C dx ([("depth",V.int k),("room",V.int room),("most_kept",V.int kept),("boxes",V.ref lb),("asks",V.ref la),("now",V.int 0),("lines",V.ref dl),("keeping",V.ref dk),("done_in",V.ref dd),("logged",V.ref lg),("found",V.ref df),("answers",V.ref da)]:List (Str × V))) p = some (.ins C dx [("depth",V.int k),("room",V.int room),("most_kept",V.int kept),("boxes",V.ref lb),("asks",V.ref la),("now",V.int 0),("lines",V.ref dl),("keeping",V.ref dk),("done_in",V.ref dd),("logged",V.ref lg),("found",V.ref df),("answers",V.ref da)]):=zd
 generalize upd H22 p _ = H23 at P0 e0 ⊢
 have hd:∀ a,okA (newS k b room kept) a -> a ≠ .p -> (((((DL (2 ^ k) (k + 1) 0 (fun a=>(False \/ a = .lb) \/ a = .la) a \/ a = .dl) \/ a = .dk) \/ a = .dd) \/ a = .lg) \/ a = .df) \/ a = .da:=by
  intro a ha hn
  cases a with
  | p=>exact absurd rfl hn
  | ln l j =>
   have h1:l <= k:=ha.1
   have h2:j < 2 ^ k:=ha.2
   exact .inl (.inl (.inl (.inl (.inl (.inl (y8.mpr (.inl ⟨Nat.zero_le _,by show l < 0 + (k + 1); omega,h2⟩)))))))
  | dn t =>
   have h1:1 <= t:=ha.1
   have h2:t <= 0:=ha.2
   omega
  | _=>simp [DL]
 have N:=P0.net (dx:=dx) hd (by simp [DL]) (by
  rw [e0]
  show some (HO.ins C dx [("depth",V.int k),("room",V.int room),("most_kept",V.int kept),("boxes",V.ref lb),("asks",V.ref la),("now",V.int 0),("lines",V.ref dl),("keeping",V.ref dk),("done_in",V.ref dd),("logged",V.ref lg),("found",V.ref df),("answers",V.ref da)]) = some (HO.ins C dx [("depth",V.int k),("room",V.int room),("most_kept",V.int kept),("boxes",V.ref (A1 .lb)),("asks",V.ref (A1 .la)),("now",V.int 0),("lines",V.ref dl),("keeping",V.ref dk),("done_in",V.ref dd),("logged",V.ref lg),("found",V.ref df),("answers",V.ref da)])
  rw [A1b,A1a])
 exact q _ _ P0.g yN (fun a ha hn=>by rw [yO hn]; exact P0.fr a (hd a ha hn)) N
theorem xn:FnScope ["_law_script","_law_j","_law_pot_here","_law_k","_law_turns","_law_many","_law_room","_law_kept","_law_some","_law_net","_law_asks","_law_turn","_law_lost_here","_law_ask_here"] ["_law_script"] (zf (top 61)):=⟨rfl,rfl,rfl,by decide +kernel,rfl,by decide +kernel,by decide +kernel⟩
theorem Tq (F:Fun K "law" "law" (top 61) f fd) (B:Blt mg) {C:Addr} (T:NTxt K mg C) (mc_beat:zF P w K mg base C n "beat" ["self","lost"] (vW C K)) (mc_put:zF P w K mg base C n "put" ["self","ask"] (jL C K)) (mk_C:xJ P w K mg base C n ["self","k","board","room","kept"] (rq C K)) (qc0:zn P w K mg base n "_law_bounds" ["_law_net","_law_k","_law_room","_law_kept","_law_asks"] (uN C K)) (qc1:zn P w K mg base n "_law_lost" ["_law_pot_here","_law_k"] (ZG K)) (qc2:zn P w K mg base n "_law_take" ["_law_pot_here","_law_many"] (vh K)) (qc3:zn P w K mg base n "_law_ask" ["_law_pot_here","_law_k","_law_many","_law_some"] (XU K)) (qc4:zn P w K mg base n "_law_number" ["_law_pot_here"] (jP K)) (qc5:zn P w K mg base n "_law_pot" ["_law_script","_law_k"] (Vg K))     :
  FnOk P w K mg base CX0 (n + 1) f fd ["_law_script"] (Zc K):=by
 refine F.ok xn yK (fun cdv A outer s H vs Q E hr h=>?_)
 obtain ⟨x,rfl,a,sc,rfl,hs,h63,q⟩:=h
 refine ⟨_,(zc (yE PassesOwn.never rfl (ye rfl B.range (za (zr (ub rfl) rfl B.max Wp (za ze (za (zr (rR rfl) rfl B.min UM (za ze (za (zr zx rfl B.len x6 (za (pv 0) zb)) zb))) zb))) zb)) (zj (i:=1) xn.nd rfl (Or.inl rfl)) (zc (zC (i:=2) xn.nd rfl (Or.inr rfl) (zi qc5 hr rfl (za (pv 0) (za (pv 1) zb)))) (zc (xp (zO (za (zi qc2 hr rfl (za (pv 2) (za ze zb))) (za (zo yf ze (zi qc2 hr rfl (za (pv 2) (za ze zb)))) (za (zo yf ze (zi qc2 hr rfl (za (pv 2) (za ze zb)))) zb)))) (yT rfl (zm (zj (i:=3) xn.nd rfl (Or.inl rfl)) (zm (zj (i:=4) xn.nd rfl (Or.inl rfl)) (zm (zj (i:=5) xn.nd rfl (Or.inr rfl)) z7))))) (zc (zC (i:=6) xn.nd rfl (Or.inl rfl) (z6 zY (yF (za ze (za ze (za ze (za (zo yf ze (zi qc2 hr rfl (za (pv 2) (za ze zb)))) zb))))) (zi qc2 hr rfl (za (pv 2) (za ze zb))) (fun _ _=>rfl))) (zc (zC (i:=7) xn.nd rfl (Or.inl rfl) (z6 zY (yF (za ze (za ze (za ze (za (zi qc2 hr rfl (za (pv 2) (za ze zb))) zb))))) (zi qc2 hr rfl (za (pv 2) (za ze zb))) (fun _ _=>rfl))) (zc (wU (i:=8) xn.nd rfl rfl (CSc.of (N':=["_law_turn","_law_pot_here","_law_many"]) (sub:=[none,some 2,some 5]) (zf (top 61)) ["_law_script","_law_j","_law_pot_here","_law_k","_law_turns","_law_many","_law_room","_law_kept","_law_some","_law_net","_law_asks","_law_turn","_law_lost_here","_law_ask_here"] rfl rfl (by decide +kernel) rfl) rfl (ye rfl B.range (za (zo yf ze (zi qc2 hr rfl (za (pv 2) (za ze zb)))) zb)) (fun _ _ _ _ _ _=>zj (i:=0) (show (["_law_turn","_law_pot_here","_law_many"]:List Str).Nodup by decide +kernel) rfl (Or.inl rfl)) (fun _ _ _ _ _ _=>yc) (fun _ _ _ _ _ _=>(zi qc2 hr rfl (za (pv 1) (za (pv 2) zb))))) (zc (zC (i:=9) xn.nd rfl (Or.inl rfl) (WI mk_C hr rfl T.mgC (za (pv 3) (za (yh yJ rfl B.tuple xr (za (yL (CSc.of (N':=["_law_box","_law_pot_here"]) (sub:=[none,some 2]) (zf (top 61)) ["_law_script","_law_j","_law_pot_here","_law_k","_law_turns","_law_many","_law_room","_law_kept","_law_some","_law_net","_law_asks","_law_turn","_law_lost_here","_law_ask_here"] rfl rfl (by decide +kernel) rfl) rfl (ye rfl B.range (za (pv 5) zb)) (fun _ _ _ _ _ _=>zj (i:=0) (show (["_law_box","_law_pot_here"]:List Str).Nodup by decide +kernel) rfl (Or.inl rfl)) (fun _ _ _ _ _ _=>yc) (fun _ _ _ _ _ _=>(zi qc4 hr rfl (za (pv 1) zb)))) zb)) (za (pv 6) (za (pv 7) zb)))))) (zc (zC (i:=10) xn.nd rfl (Or.inl rfl) (yF zb)) (zh (yE PassesOwn.never rfl (ye rfl B.range (za (zo yf (pv 4) ze) zb)) (zj (i:=11) xn.nd rfl (Or.inl rfl)) (zc (zC (i:=12) xn.nd rfl (Or.inl rfl) (zO zb)) (zc (yE PassesOwn.never rfl (ye rfl B.range (za (zo xI (zr (rR rfl) rfl B.min UM (za (zi qc2 hr rfl (za (pv 2) (za ze zb))) (za (zo yg ze (zr zx rfl B.len x6 (za (pv 10) zb))) zb))) (yh wQ rfl B.int YU (za (xf ua (pv 11) (pv 4) (zG _)) zb))) zb)) (zj (i:=13) xn.nd rfl (Or.inl rfl)) (zc (zL (wp PySem.F.plainAttrs_list PySem.F.slot_list_append PySem.F.type_list_append xy (pv 10) (za (zi qc3 hr rfl (za (pv 2) (za (pv 3) (za (pv 5) (za (pv 8) zb))))) zb))) (zh (zL (yM mc_put T.cl hr (pv 9) (za (z6 zY (pv 10) (jh vZ ze) (fun _ _=>rfl)) zb)))))) (zc (z5 (zD ua (pv 11) (pv 4) (zG _)) (zh (zC (i:=12) xn.nd rfl (Or.inl rfl) (zi qc1 hr rfl (za (pv 2) (za (pv 3) zb))))) zv) (zc (zL (yM mc_beat T.cl hr (pv 9) (za (pv 12) zb))) (zh (z5 (yA (yx (zi qc0 hr rfl (za (pv 9) (za (pv 3) (za (pv 6) (za (pv 7) (za (pv 10) zb)))))))) (zh (zt wD)) zv)))))))))))))))) (zh (zt wD))),?_⟩
 have hl:(sc.map V.int).length = sc.length:=List.length_map ..
 refine ⟨_,rfl,a,_,rfl,.inl hs.sq,_,_,rfl,_,_,rfl,_,rfl,?_,?_,?_⟩
 ·split <;> split <;> omega
 ·rw [hl]; split <;> split <;> omega
 refine yU (fun i σ H'=>∃ (e1 e2 e3 e4 e5 e6 e7 e8 e9 e10 e11 e12 e13:Option V),σ = [some (.ref a),e1,e2,e3,e4,e5,e6,e7,e8,e9,e10,e11,e12,e13] /\ Scr K H' a sc) ⟨_,_,_,_,_,_,_,_,_,_,_,_,_,rfl,hs⟩ ?_ ?_
 rotate_left
 ·rintro σ H1 _
  exact q _
 rintro i σ H1 hi ⟨e1,e2,e3,e4,e5,e6,e7,e8,e9,e10,e11,e12,e13,rfl,hs1⟩
 have i63:i < 1000:=by
  have hi':=hi
  revert hi'
  split <;> split <;> omega
 try dsimp only
 refine uA (fun v H'=>∃ p,v = .ref p /\ Scr K H' a sc /\ Pot H' p) (fun Kk hk=>⟨_,rfl,_,rfl,_,_,rfl,a,sc,_,rfl,rfl,hs1,by omega,by omega,fun p H2 hp g2 pp=>hk _ _ ⟨p,rfl,g2.scr hs1,pp⟩⟩) ?_
 rintro _ H2 ⟨p,rfl,hs2,pp2⟩
 refine ⟨_,rfl,_,_,rfl,p,5,rfl,rfl,pp2,by decide,by decide,fun t5 H3 a50 a51 g3 pp3=>⟨_,rfl,_,_,rfl,p,16,rfl,rfl,pp3,by decide,by decide,fun t8 H4 a80 a81 g4 pp4=>⟨_,_,rfl,rfl,_,rfl,_,_,rfl,p,16,rfl,rfl,pp4,by decide,by decide,fun t16 H5 a160 a161 g5 pp5=>⟨_,_,rfl,rfl,szl rfl,fun tt htt=>⟨tt,_,rfl,SqT.of zd,rfl,_,_,rfl,_,_,rfl,_,_,rfl,rfl,?_⟩⟩⟩⟩⟩
 have gtt:=Grow.new (m:=[]) htt (.tup [.int t5,.int (1 + t8),.int (1 + t16)])
 have hs6:=gtt.scr (g5.scr (g4.scr (g3.scr hs2)))
 have pp6:=pp5.grow gtt
 refine c_nx ?_
 generalize upd H5 tt _ = H6 at hs6 pp6 ⊢
 clear gtt htt pp5 pp4 pp3 pp2 g3 g4 g5 hs2 hs1
 obtain ⟨k,rfl⟩:∃ k:Nat,t5 = k:=⟨t5.toNat,by omega⟩
 obtain ⟨tn,htn⟩:∃ tn:Nat,1 + t8 = tn:=⟨(1 + t8).toNat,by omega⟩
 obtain ⟨mn,hmn⟩:∃ mn:Nat,1 + t16 = mn:=⟨(1 + t16).toNat,by omega⟩
 try dsimp only
 rw [htn,hmn]
 have k4:k <= 4:=by omega
 have tn8:tn <= 16:=by omega
 have mn1:1 <= mn:=by omega
 have mn16:mn <= 16:=by omega
 have p16:=vo k4
 refine uA (fun v H'=>∃ rm:Nat,v = .int rm /\ 1 <= rm /\ rm <= 6 /\ Pot H' p /\ Scr K H' a sc) (fun Kk hk=>⟨_,rfl,_,_,rfl,p,6,rfl,rfl,pp6,by decide,by decide,fun t6 H7 t60 t61 g7 pp7=>⟨_,_,rfl,rfl,szl rfl,fun lr hlr=>⟨_,rfl,_,_,rfl,p,4,rfl,rfl,pp7.grow (Grow.new (m:=[]) hlr _),by decide,by decide,fun t4 H8 t40 t41 g8 pp8=>?_⟩⟩⟩) ?_
 ·have nlr:lr ≠ p:=fun e=>by
   obtain ⟨p0,p1,z,_⟩:=pp7
   rw [← e,hlr] at z; cases z
  have hlr8:=g8.keep _ _ (by simpa using nlr) (zd (H:=H7) (a:=lr) (o:=.lst [V.int 1,V.int 1,V.int 2,V.int (1 + t6)]))
  have hs8:=g8.scr ((Grow.new (m:=[]) hlr (.lst [V.int 1,V.int 1,V.int 2,V.int (1 + t6)])).scr (g7.scr hs6))
  obtain h | h | h | h:t4 = 0 \/ t4 = 1 \/ t4 = 2 \/ t4 = 3:=by omega
  ·subst h; exact ⟨lr,_,0,_,rfl,rfl,SqL.of hlr8,zy (j:=0) rfl,hk _ _ ⟨1,rfl,by decide,by decide,pp8,hs8⟩⟩
  ·subst h; exact ⟨lr,_,1,_,rfl,rfl,SqL.of hlr8,zy (j:=1) rfl,hk _ _ ⟨1,rfl,by decide,by decide,pp8,hs8⟩⟩
  ·subst h; exact ⟨lr,_,2,_,rfl,rfl,SqL.of hlr8,zy (j:=2) rfl,hk _ _ ⟨2,rfl,by decide,by decide,pp8,hs8⟩⟩
  ·subst h; exact ⟨lr,_,3,_,rfl,rfl,SqL.of hlr8,zy (j:=3) rfl,hk _ _ ⟨(1 + t6).toNat,congrArg V.int (by omega),by omega,by omega,pp8,hs8⟩⟩
 clear pp6 hs6
 rintro _ H6 ⟨rm,rfl,rm1,rm6,pp6,hs6⟩
 refine uA (fun v H'=>∃ kt:Nat,v = .int kt /\ 0 <= kt /\ kt <= 6 /\ Pot H' p /\ Scr K H' a sc) (fun Kk hk=>⟨_,rfl,_,_,rfl,p,7,rfl,rfl,pp6,by decide,by decide,fun t6 H7 t60 t61 g7 pp7=>⟨szl rfl,fun lr hlr=>⟨_,rfl,_,_,rfl,p,4,rfl,rfl,pp7.grow (Grow.new (m:=[]) hlr _),by decide,by decide,fun t4 H8 t40 t41 g8 pp8=>?_⟩⟩⟩) ?_
 ·have nlr:lr ≠ p:=fun e=>by
   obtain ⟨p0,p1,z,_⟩:=pp7
   rw [← e,hlr] at z; cases z
  have hlr8:=g8.keep _ _ (by simpa using nlr) (zd (H:=H7) (a:=lr) (o:=.lst [V.int 0,V.int 1,V.int 1,V.int t6]))
  have hs8:=g8.scr ((Grow.new (m:=[]) hlr (.lst [V.int 0,V.int 1,V.int 1,V.int t6])).scr (g7.scr hs6))
  obtain h | h | h | h:t4 = 0 \/ t4 = 1 \/ t4 = 2 \/ t4 = 3:=by omega
  ·subst h; exact ⟨lr,_,0,_,rfl,rfl,SqL.of hlr8,zy (j:=0) rfl,hk _ _ ⟨0,rfl,by decide,by decide,pp8,hs8⟩⟩
  ·subst h; exact ⟨lr,_,1,_,rfl,rfl,SqL.of hlr8,zy (j:=1) rfl,hk _ _ ⟨1,rfl,by decide,by decide,pp8,hs8⟩⟩
  ·subst h; exact ⟨lr,_,2,_,rfl,rfl,SqL.of hlr8,zy (j:=2) rfl,hk _ _ ⟨1,rfl,by decide,by decide,pp8,hs8⟩⟩
  ·subst h; exact ⟨lr,_,3,_,rfl,rfl,SqL.of hlr8,zy (j:=3) rfl,hk _ _ ⟨t6.toNat,congrArg V.int (by omega),by omega,by omega,pp8,hs8⟩⟩
 clear pp6 hs6
 rintro _ H6 ⟨kt,rfl,kt1,kt6,pp6,hs6⟩
 refine uA (fun v H'=>∃ (l:Addr) (sm:List Int),v = .ref l /\ H' l = some (.lst (sm.map V.int)) /\ 1 <= sm.length /\ sm.length <= 1000 /\ (∀ b ∈ sm,0 <= b /\ b < mn) /\ p ≠ l /\ Pot H' p /\ Scr K H' a sc) (fun Kk hk=>⟨_,rfl,_,_,rfl,p,3,rfl,rfl,pp6,by decide,by decide,fun t3 H7 t30 t31 g7 pp7=>⟨_,_,rfl,rfl,_,rfl,by omega,by omega,sL (fun j vs H'=>∃ sm:List Int,vs = sm.map V.int /\ sm.length = j /\ (∀ b ∈ sm,0 <= b /\ b < mn) /\ Pot H' p /\ Scr K H' a sc) ⟨[],rfl,rfl,by simp,pp7,g7.scr hs6⟩ ?_ ?_⟩⟩) ?_
 ·rintro j vs H8 hj ⟨sm,rfl,sl,sb,pp8,hs8⟩
  refine ⟨_,rfl,_,rfl,_,_,rfl,p,mn,rfl,rfl,pp8,by omega,by omega,fun b H9 b0 b1 g9 pp9=>⟨zp (by rw [List.length_map]; omega),sm ++ [b],by rw [List.map_append]; rfl,by rw [List.length_append,sl]; rfl,fun x hx=>?_,pp9,g9.scr hs8⟩⟩
  rcases List.mem_append.mp hx with hx | hx
  ·exact sb x hx
  ·rw [List.mem_singleton.mp hx]; exact ⟨b0,b1⟩
 ·rintro vs H8 ⟨sm,rfl,sl,sb,pp8,hs8⟩ l hl'
  have gl:=Grow.new (m:=[]) hl' (.lst (sm.map V.int))
  refine hk _ _ ⟨l,sm,rfl,zd,by omega,by omega,sb,fun e=>?_,pp8.grow gl,gl.scr hs8⟩
  obtain ⟨p0,p1,z,_⟩:=pp8
  rw [e,hl'] at z; cases z
 rintro _ H7 ⟨l,sm,rfl,hl7,sm1,smL,smb,npl,pp7,hs7⟩
 refine uA (fun v H'=>∃ (A:Ad -> Addr) (nst:NS),v = .ref (A .p) /\ LI5 K C p l H' A nst k mn sm /\ NX nst /\ nst.asks = [] /\ nst.now = 0 /\ nst.room = rm /\ nst.kept = kt /\ Scr K H' a sc) (fun Kk hk=>⟨_,rfl,_,rfl,_,rfl,by omega,by omega,sL (fun j vs H'=>∃ b:List Int,vs = b.map V.int /\ b.length = j /\ Grow [p] H7 H' /\ Pot H' p) ⟨[],rfl,rfl,Grow.refl _ _,pp7⟩ ?_ ?_⟩) ?_
 ·rintro j vs H8 hj ⟨b,rfl,bl,g8,pp8⟩
  rw [Int.toNat_natCast] at hj
  exact ⟨_,rfl,_,rfl,p,rfl,pp8,fun n H9 _ _ g9 pp9=>⟨zp (by rw [List.length_map]; omega),b ++ [n],by rw [List.map_append]; rfl,by rw [List.length_append,bl]; rfl,g8.trans g9,pp9⟩⟩
 ·rintro vs H8 ⟨b,rfl,bl,g8,pp8⟩ lb hlb
  rw [Int.toNat_natCast] at bl
  have gb:=Grow.new (m:=[]) hlb (.lst (b.map V.int))
  refine ⟨_,_,rfl,.inl ⟨SqL.of zd,fun tb htb=>?_⟩⟩
  have gb2:=Grow.new (m:=[]) htb (.tup (b.map V.int))
  have hb9:=zd (H:=upd H8 lb (.lst (b.map V.int))) (a:=tb) (o:=.tup (b.map V.int))
  have g9:Grow [p] H7 _:=g8.trans ((gb.trans gb2).wk (m:=[p]))
  have pp9:=(pp8.grow gb).grow gb2
  generalize upd (upd H8 lb _) tb _ = H9 at hb9 g9 pp9 ⊢
  refine ⟨_,rfl,_,rfl,?_⟩
  intro xo dx hx hdx ndx
  have G11:=g9
  have hb11:=hb9
  have pp11:=pp9
  have go1:=Grow.new (m:=[]) hdx (.own xo)
  have hx2:upd H9 dx (.own xo) xo = none:=by rw [zu ndx.symm]; exact hx
  have go2:=Grow.new (m:=[]) hx2 (.ins C dx [])
  have go:=go1.trans go2
  have hp0:upd (upd H9 dx (.own xo)) xo (.ins C dx []) xo = some (.ins C dx []):=zd
  have pp12:=pp11.grow go
  have hl12:=go.keep _ _ (by simp) (G11.keep _ _ (by simpa using npl.symm) hl7)
  have hs12:=go.scr (G11.scr hs7)
  have hb12:=go.tup _ _ hb11
  have nxp:xo ≠ p:=fun e=>by
   obtain ⟨p0,p1,z,_⟩:=pp11
   rw [← e,hx] at z; cases z
  have nxl:xo ≠ l:=fun e=>by
   have z:=G11.keep _ _ (by simpa using npl.symm) hl7
   rw [← e,hx] at z; cases z
  generalize upd (upd H9 dx _) xo _ = H12 at hp0 pp12 hl12 hs12 hb12 ⊢
  refine ⟨_,_,_,_,_,rfl,xo,dx,k,rm,kt,b,rfl,rfl,⟨tb,rfl,SqT.of hb12⟩,rfl,rfl,k4,by omega,by omega,by omega,by omega,by omega,hp0,fun A H13 g13 eA fr hn13=>⟨rfl,hk _ _ ⟨A,_,by rw [eA],⟨hn13,NW.new k4 (by omega) (by omega),?_,g13.keep _ _ (by simpa using nxl.symm) hl12,npl,fun c hc=>?_,rfl,bl⟩,NX.new k4 (by omega) (by omega),rfl,rfl,rfl,rfl,g13.scr hs12⟩⟩⟩
  ·obtain ⟨p0,p1,z,z0⟩:=pp12
   exact ⟨p0,p1,g13.keep _ _ (by simpa using nxp.symm) z,z0⟩
  ·by_cases cp:c = .p
   ·rw [cp,eA]; exact ⟨nxp,nxl⟩
   ·have f:=fr c hc cp
    refine ⟨fun e=>?_,fun e=>?_⟩
    ·obtain ⟨p0,p1,z,_⟩:=pp12
     rw [e,z] at f; cases f
    ·rw [e,hl12] at f; cases f
 rintro _ H8 ⟨A8,n8,rfl,L8,X8,as0,now0,er8,ek8,hs8⟩
 refine ⟨szl rfl,fun lq hlq=>yy ?_⟩
 have gq0:=Grow.new (m:=[]) hlq (.lst [])
 have nq1:lq ≠ p:=fun e=>by
  obtain ⟨p0,p1,z,_⟩:=L8.pot
  rw [← e,hlq] at z; cases z
 have nq2:lq ≠ l:=fun e=>by
  have z:=L8.ls
  rw [← e,hlq] at z; cases z
 have nq3:∀ c,okA n8 c -> A8 c ≠ lq:=fun c hc e=>by
  obtain ⟨o,z,_⟩:=L8.net.at_ c hc
  rw [e,hlq] at z; cases z
 have X0:LX5 K C p l lq (upd H8 lq (.lst [])) A8 n8 k mn sm []:=⟨L8.grow0 gq0,X8,zd,by rw [as0]; trivial,⟨nq1,nq2⟩,nq3,by rw [as0]; simp⟩
 have hs9:=gq0.scr hs8
 generalize upd H8 lq (.lst []) = H9 at X0 hs9 ⊢
 generalize hqq:A8 .p = qq
 refine ⟨_,rfl,_,_,rfl,rfl,_,rfl,by omega,by omega,yU (fun t σ' H'=>∃ (e11 e12 e13:Option V) (A:Ad -> Addr) (nst:NS) (xs:List V),σ' = [some (.ref a),some (.int (0 + (i:Int))),some (.ref p),some (.int k),some (.int tn),some (.int mn),some (.int rm),some (.int kt),some (.ref l),some (.ref qq),some (.ref lq),e11,e12,e13] /\ A .p = qq /\ LX5 K C p l lq H' A nst k mn sm xs /\ Scr K H' a sc /\ nst.room = rm /\ nst.kept = kt /\ nst.now <= t) ⟨_,_,_,A8,n8,[],rfl,hqq,X0,hs9,er8,ek8,by omega⟩ ?_ fun σ H' ⟨f11,f12,f13,A,nst,xs,e,_,_,hs',_⟩=>⟨_,_,_,_,_,_,_,_,_,_,_,_,_,e,hs'⟩⟩
 clear X0 hs9 L8 X8 hs8
 rintro t σ H9 ht ⟨f11,f12,f13,A,nst,xs,rfl,eq1,X,hs9,er,ek,nw9⟩
 refine ⟨szl rfl,fun t0 ht0=>yy ?_⟩
 have g10:=Grow.new (m:=[]) ht0 (.tup [])
 have X10:=X.grow0 g10
 have hs10:=g10.scr hs9
 have h010:SqT K (upd H9 t0 (.tup [])) t0 []:=SqT.of zd
 generalize upd H9 t0 (.tup []) = H10 at X10 hs10 h010 ⊢
 refine Zy (fun σ' H'=>∃ (e11 e12 e13:Option V) (A:Ad -> Addr) (ns':NS) (xs':List V),σ' = [some (.ref a),some (.int (0 + (i:Int))),some (.ref p),some (.int k),some (.int tn),some (.int mn),some (.int rm),some (.int kt),some (.ref l),some (.ref qq),some (.ref lq),some (.int (0 + (t:Int))),some (.ref t0),e13] /\ A .p = qq /\ LX5 K C p l lq H' A ns' k mn sm xs' /\ Scr K H' a sc /\ ns'.room = rm /\ ns'.kept = kt /\ ns'.now <= t /\ SqT K H' t0 []) (fun D hD=>?_) ?_
 ·have hc40:nst.asks.length <= 40:=X.li.nw.nr.a40
  have xal:=X10.al.len
  refine ⟨_,rfl,_,_,rfl,p,9,rfl,rfl,X10.li.pot,by decide,by decide,fun t9 H11 t90 t91 g11 pp11=>⟨_,rfl,lq,xs,rfl,.inl (SqL.of (X10.potS g11 pp11).hq),_,_,rfl,rfl,_,_,rfl,_,rfl,_,rfl,_,_,rfl,rfl,.inr ⟨_,rfl,_,_,rfl,rfl,tR (by split <;> exact ⟨by decide,by decide⟩),_,rfl,?_,?_,?_⟩⟩⟩
  ·split <;> split <;> omega
  ·split <;> split <;> omega
  have X11:=X10.potS g11 pp11
  have hs11:=g11.scr hs10
  have h011:=g11.sqT h010
  have hcnt:∀ m:Nat,m < ((if 40 - (xs.length:Int) < t9 then 40 - (xs.length:Int) else t9) * (if decide (0 + (t:Int) < (tn:Int)) = true then 1 else 0)).toNat -> xs.length + m < 40:=fun m hm=>by
   split at hm <;> split at hm <;> omega
  generalize ((if 40 - (xs.length:Int) < t9 then 40 - (xs.length:Int) else t9) * (if decide (0 + (t:Int) < (tn:Int)) = true then 1 else 0)).toNat = cnt at hcnt
  refine yU (fun m σ' H'=>∃ (e13:Option V) (A:Ad -> Addr) (ns':NS) (xs':List V),σ' = [some (.ref a),some (.int (0 + (i:Int))),some (.ref p),some (.int k),some (.int tn),some (.int mn),some (.int rm),some (.int kt),some (.ref l),some (.ref qq),some (.ref lq),some (.int (0 + (t:Int))),some (.ref t0),e13] /\ A .p = qq /\ LX5 K C p l lq H' A ns' k mn sm xs' /\ Scr K H' a sc /\ ns'.room = rm /\ ns'.kept = kt /\ ns'.now <= t /\ SqT K H' t0 [] /\ xs'.length = xs.length + m) ⟨_,A,nst,xs,rfl,eq1,X11,hs11,er,ek,nw9,h011,rfl⟩ ?_ (fun σ H' ⟨e13,A,ns',xs',e,e2,e3,e4,e5,e6,e7,e8,_⟩=>hD _ _ ⟨none,none,e13,A,ns',xs',e,e2,e3,e4,e5,e6,e7,e8⟩)
  rintro m σ H12 hm ⟨e13,A,ns',xs',rfl,eq2,X12,hs12,er2,ek2,nw12,h012,xl12⟩
  subst eq2
  have c40:=hcnt m hm
  have al12:=X12.al.len
  have L:=X12.li
  refine ⟨_,rfl,.inl ⟨rfl,_,SqL.of X12.hq⟩,_,rfl,_,rfl,_,rfl,_,rfl,_,_,_,_,rfl,p,l,k,mn,sm,rfl,rfl,rfl,rfl,L.pot,k4,mn1,mn16,L.ls,L.pl,sm1,smL,smb,fun ak yk H13 aok ah g13 pp13 hask=>?_⟩
  have X13:=X12.potS g13 pp13
  obtain ⟨L14,g14⟩:=X13.app yk
  refine ⟨lq,xs',yk,rfl,rfl,X13.hq,zp (by omega),?_⟩
  refine ⟨_,rfl,_,_,_,rfl,L14.net.ob.choose_spec,Td,_,rfl,_,rfl,lq,_,_,_,rfl,rfl,SqL.of zd,Tp,_,_,rfl,A,ns',ak,msA A ns',rfl,g14.ask hask,L14.net,L14.nw.nr,by rw [L14.bl]; exact aok,by rw [L14.ek]; exact ah,by omega,fun _ z=>XW z,fun H15 g15 hn15=>?_⟩
  have ah0:=aok.1
  have X15:=X13.putS hask aok g15 hn15 (show ak.hand.toNat < 2 ^ k by omega) (by omega)
  exact ⟨_,A,putS ns' ak,xs' ++ [yk],rfl,rfl,X15,g15.scr (g14.scr (g13.scr hs12)),er2,ek2,nw12,g15.sqT (g14.sqT (g13.sqT h012)),by rw [List.length_append,xl12]; rfl⟩
 rintro σ' H11 ⟨f11',f12',e13,A,ns',xs',rfl,eq2,X11,hs11,er2,ek2,nw11,h011⟩
 subst eq2
 have ht28:t < 28:=by omega
 refine c_if (fun σ' H'=>∃ (zg:V) (gone:List (Nat × Nat)),σ' = [some (.ref a),some (.int (0 + (i:Int))),some (.ref p),some (.int k),some (.int tn),some (.int mn),some (.int rm),some (.int kt),some (.ref l),some (.ref (A .p)),some (.ref lq),some (.int (0 + (t:Int))),some zg,e13] /\ wz K H' zg gone /\ (∀ q ∈ gone,vK k q) /\ LX5 K C p l lq H' A ns' k mn sm xs' /\ Scr K H' a sc) ?_ ?_
 rotate_left
 ·intro hr2
  refine ⟨_,rfl,_,rfl,_,_,rfl,rfl,_,rfl,?_⟩
  by_cases c:0 + (t:Int) < (tn:Int)
  ·exact yQ (decide_eq_true c) ⟨_,rfl,_,rfl,_,_,rfl,p,k,rfl,rfl,X11.li.pot,k4,fun gone zg H12 gok g12 pp12 hg=>hr2 _ _ ⟨zg,gone,rfl,hg,gok,X11.potS g12 pp12,g12.scr hs11⟩⟩
  ·exact yu (decide_eq_false c) (hr2 _ _ ⟨.ref t0,[],rfl,⟨t0,[],rfl,h011,trivial,by decide⟩,by simp,X11,hs11⟩)
 rintro σ' H12 ⟨zg,gone,rfl,hg,gok,X12,hs12⟩
 have now1:ns'.now < 10000:=by omega
 have L:=X12.li
 refine ⟨_,rfl,_,_,_,rfl,L.net.ob.choose_spec,V7,_,rfl,_,_,rfl,A,ns',gone,msA A ns',rfl,.inr hg,by rw [L.ek]; exact gok,L.net,L.nw.nr,L.nw.nd,now1,(L.nw.beat now1 gone).1,fun _ z=>XW z,fun A' u tl H13 g13 ex hn13 _ _ _=>?_⟩
 have X13:=X12.beatS now1 g13 ex hn13
 obtain ⟨s1,s2,s3,s4,s5⟩:=uI (gone:=gone) L.nw now1
 have eA:A' .p = A .p:=ex.1 .p trivial
 have er3:(beatS gone ns').room = rm:=(XT L.nw now1 gone).room.trans er2
 have ek3:(beatS gone ns').kept = kt:=(XT L.nw now1 gone).kept.trans ek2
 rw [← eA]
 refine ⟨_,rfl,_,rfl,_,rfl,_,rfl,_,rfl,_,_,_,_,_,rfl,A',beatS gone ns',lq,xs',rfl,by rw [X13.li.ek],by rw [er3],by rw [ek3],rfl,X13.hq,X13.al,X13.li.net,X13.nx,X13.hd,fun H14 g14=>⟨_,rfl,iteF ⟨_,_,_,A',beatS gone ns',xs',rfl,rfl,X13.grow0 g14,g14.scr (g13.scr hs12),er3,ek3,by rw [s4]; omega⟩⟩⟩
end
theorem yP:∀ {us:List Value},us.length = 1 -> ∃ x0,us = [x0]
 | [x0],_=>⟨x0,rfl⟩
theorem yn:∀ {us:List Value},us.length = 2 -> ∃ x0,∃ x1,us = [x0,x1]
 | [x0,x1],_=>⟨x0,x1,rfl⟩
theorem y6:∀ {us:List Value},us.length = 3 -> ∃ x0,∃ x1,∃ x2,us = [x0,x1,x2]
 | [x0,x1,x2],_=>⟨x0,x1,x2,rfl⟩
theorem rL:∀ {us:List Value},us.length = 4 -> ∃ x0,∃ x1,∃ x2,∃ x3,us = [x0,x1,x2,x3]
 | [x0,x1,x2,x3],_=>⟨x0,x1,x2,x3,rfl⟩
theorem j3:∀ {us:List Value},us.length = 5 -> ∃ x0,∃ x1,∃ x2,∃ x3,∃ x4,us = [x0,x1,x2,x3,x4]
 | [x0,x1,x2,x3,x4],_=>⟨x0,x1,x2,x3,x4,rfl⟩
def FA (K:FG7) (x:Str) (t:Stmt) (f:Addr) (d:FuncData):Prop:=PySem.W.nsIn K mainGlobals x = some (some (.ref f)) /\ Fun K x x t f d
theorem FA.cl {P:Program} {w:World} {K:FG7} {h base:Heap} {mg:Str -> Option Value} {x:Str} {t:Stmt} {f:Addr} {d:FuncData} {k:Nat} {ps:List Str} {sp:Sp} (a:FA K x t f d) (X:K.In h) (G:h.Ns mainGlobals mg) (F:FnOk P w K mg base CX0 k f d ps sp) (b:xY K d ps []):zn P w K mg base k x ps sp:=⟨_,_,F,b,a.2.kp,PySem.W.mg_of X G a.1⟩
theorem all_mk {l:PySem.W.OpenLaw} {w:World} {K:FG7} {h:Heap} {mg:Str -> Option Value} {fa f1 f2 f3 f4 f5 f6 f7 f8 f9 f10 f11 f12 f13 f14 f15 f16 f17 f18 f19 f20 f21 f22 f23 f24 f25 f26 f27 f28 f29 f30 f31 f32 f33 f34 f35 f36 f37 f38 f39 f40 f41 f42 f43 f44 f45 f46 f47 f48 f49 f50 f51:Addr} (X:K.In h) (G:h.Ns mainGlobals mg) (hfa:mg "law" = some (.ref fa))
    {od10 an10 od12 an12 od13 an13 od23 an23 od24 an24 od35 an35 od36 an36 od37 an37 od38 an38 od39 an39 od40 an40 od45 an45 od50 an50:Option Addr} {sl10 sl12 sl13 sl23 sl24 sl35 sl36 sl37 sl38 sl39 sl40 sl45 sl50:Array (Option Value)} {oc10 kV10 dc10 pm10 cd10 ct10 oc12 kV12 dc12 pm12 cd12 ct12 oc13 kV13 dc13 pm13 cd13 ct13 oc23 kV23 dc23 pm23 cd23 ct23 oc24 kV24 dc24 pm24 cd24 ct24 oc35 kV35 dc35 pm35 cd35 ct35 oc36 kV36 dc36 pm36 cd36 ct36 oc37 kV37 dc37 pm37 cd37 ct37 oc38 kV38 dc38 pm38 cd38 ct38 oc39 kV39 dc39 pm39 cd39 ct39 oc40 kV40 dc40 pm40 cd40 ct40 oc45 kV45 dc45 pm45 cd45 ct45 oc50 kV50 dc50 pm50 cd50 ct50:Value}
    {T40:Addr} {tc40:Value} {td40:Option Addr} {tn40:Nat} {ts40:Array (Option Value)}
    {d1 d2 d3 d4 d5 d6 d7 d8 d9 d11 d14 d15 d16 d17 d18 d19 d20 d21 d22 d25 d26 d27 d28 d29 d30 d31 d32 d33 d34 d41 d42 d43 d44 d46 d47 d48 d49 d51:FuncData}
    {C:Addr} (aC:PySem.W.nsIn K mainGlobals "Net" = some (some (.ref C))) (pg:PySem.W.plainGet K C Str.empty = true) (hd:PySem.W.hasDictIn K C = true) (po:PySem.W.plainOver K C = true) (sa:PySem.W.findIn K (.ref C) "__setattr__" = some (some (.builtin "object.__setattr__"))) (mkc:PySem.W.makesIn K C = true) (kc:PySem.W.keepIn K (.ref C) = true)
    (na_depth:PySem.W.findIn K (.ref C) "depth" = some none) (na_room:PySem.W.findIn K (.ref C) "room" = some none) (na_most_kept:PySem.W.findIn K (.ref C) "most_kept" = some none) (na_boxes:PySem.W.findIn K (.ref C) "boxes" = some none) (na_asks:PySem.W.findIn K (.ref C) "asks" = some none) (na_now:PySem.W.findIn K (.ref C) "now" = some none) (na_lines:PySem.W.findIn K (.ref C) "lines" = some none) (na_keeping:PySem.W.findIn K (.ref C) "keeping" = some none) (na_done_in:PySem.W.findIn K (.ref C) "done_in" = some none) (na_logged:PySem.W.findIn K (.ref C) "logged" = some none) (na_found:PySem.W.findIn K (.ref C) "found" = some none) (na_answers:PySem.W.findIn K (.ref C) "answers" = some none)
 (h1:FA K "_law_spots" ((top 58)) f1 d1)
 (h2:FA K "_law_values" ((top 55)) f2 d2)
 (h3:FA K "_law_done" ((top 52)) f3 d3)
 (h4:FA K "_law_deed_is" ((top 56)) f4 d4)
 (h5:FA K "_law_entry" ((top 57)) f5 d5)
 (h6:FA K "_law_as_put" ((top 59)) f6 d6)
 (h7:FA K "is_whole" ((top 11)) f7 d7)
 (h8:FA K "is_within" ((top 12)) f8 d8)
 (h9:FA K "is_switch" ((top 29)) f9 d9)
    (a10:PySem.W.findIn K (.ref C) "joinings" = some (some (.ref f10))) (i10:PySem.W.isFn K (.ref f10) = true) (l10:K.lookup f10 = some ⟨oc10,od10,.func (PySem.W.fnOf "joinings" "Net.joinings" (zS (zk (top 46) 16)) (zN (zk (top 46) 16)) (zf (zk (top 46) 16)) .none kV10 dc10 pm10 an10 cd10 ct10),sl10⟩) (c10:PySem.W.codeIn K cd10 "Net.joinings" = true) (k10:PySem.W.keepIn K (.ref f10) = true)
 (h11:FA K "is_line" ((top 28)) f11 d11)
    (a12:PySem.W.findIn K (.ref C) "waiting" = some (some (.ref f12))) (i12:PySem.W.isFn K (.ref f12) = true) (l12:K.lookup f12 = some ⟨oc12,od12,.func (PySem.W.fnOf "waiting" "Net.waiting" (zS (zk (top 46) 15)) (zN (zk (top 46) 15)) (zf (zk (top 46) 15)) .none kV12 dc12 pm12 an12 cd12 ct12),sl12⟩) (c12:PySem.W.codeIn K cd12 "Net.waiting" = true) (k12:PySem.W.keepIn K (.ref f12) = true)
    (a13:PySem.W.findIn K (.ref C) "log" = some (some (.ref f13))) (i13:PySem.W.isFn K (.ref f13) = true) (l13:K.lookup f13 = some ⟨oc13,od13,.func (PySem.W.fnOf "log" "Net.log" (zS (zk (top 46) 12)) (zN (zk (top 46) 12)) (zf (zk (top 46) 12)) .none kV13 dc13 pm13 an13 cd13 ct13),sl13⟩) (c13:PySem.W.codeIn K cd13 "Net.log" = true) (k13:PySem.W.keepIn K (.ref f13) = true)
 (h14:FA K "_law_bounds" ((top 60)) f14 d14)
 (h15:FA K "_law_take" ((top 49)) f15 d15)
 (h16:FA K "_law_lost" ((top 54)) f16 d16)
 (h17:FA K "_law_number" ((top 50)) f17 d17)
 (h18:FA K "_law_deed" ((top 51)) f18 d18)
 (h19:FA K "_law_ask" ((top 53)) f19 d19)
 (h20:FA K "_law_pot" ((top 48)) f20 d20)
 (h21:FA K "may_be_lost" ((top 43)) f21 d21)
 (h22:FA K "need_lost" ((top 44)) f22 d22)
    (a23:PySem.W.findIn K (.ref C) "done_ago" = some (some (.ref f23))) (i23:PySem.W.isFn K (.ref f23) = true) (l23:K.lookup f23 = some ⟨oc23,od23,.func (PySem.W.fnOf "done_ago" "Net.done_ago" (zS (zk (top 46) 3)) (zN (zk (top 46) 3)) (zf (zk (top 46) 3)) .none kV23 dc23 pm23 an23 cd23 ct23),sl23⟩) (c23:PySem.W.codeIn K cd23 "Net.done_ago" = true) (k23:PySem.W.keepIn K (.ref f23) = true)
    (a24:PySem.W.findIn K (.ref C) "tell" = some (some (.ref f24))) (i24:PySem.W.isFn K (.ref f24) = true) (l24:K.lookup f24 = some ⟨oc24,od24,.func (PySem.W.fnOf "tell" "Net.tell" (zS (zk (top 46) 9)) (zN (zk (top 46) 9)) (zf (zk (top 46) 9)) .none kV24 dc24 pm24 an24 cd24 ct24),sl24⟩) (c24:PySem.W.codeIn K cd24 "Net.tell" = true) (k24:PySem.W.keepIn K (.ref f24) = true)
 (h25:FA K "in_line" ((top 35)) f25 d25)
 (h26:FA K "tidy" ((top 17)) f26 d26)
 (h27:FA K "made" ((top 16)) f27 d27)
 (h28:FA K "joined" ((top 18)) f28 d28)
 (h29:FA K "joined_at" ((top 45)) f29 d29)
 (h30:FA K "switch_at" ((top 34)) f30 d30)
 (h31:FA K "figure" ((top 31)) f31 d31)
 (h32:FA K "with_figure" ((top 32)) f32 d32)
 (h33:FA K "onward" ((top 33)) f33 d33)
 (h34:FA K "side_for" ((top 37)) f34 d34)
    (a35:PySem.W.findIn K (.ref C) "hand_on" = some (some (.ref f35))) (i35:PySem.W.isFn K (.ref f35) = true) (l35:K.lookup f35 = some ⟨oc35,od35,.func (PySem.W.fnOf "hand_on" "Net.hand_on" (zS (zk (top 46) 8)) (zN (zk (top 46) 8)) (zf (zk (top 46) 8)) .none kV35 dc35 pm35 an35 cd35 ct35),sl35⟩) (c35:PySem.W.codeIn K cd35 "Net.hand_on" = true) (k35:PySem.W.keepIn K (.ref f35) = true)
    (a36:PySem.W.findIn K (.ref C) "pass_on" = some (some (.ref f36))) (i36:PySem.W.isFn K (.ref f36) = true) (l36:K.lookup f36 = some ⟨oc36,od36,.func (PySem.W.fnOf "pass_on" "Net.pass_on" (zS (zk (top 46) 7)) (zN (zk (top 46) 7)) (zf (zk (top 46) 7)) .none kV36 dc36 pm36 an36 cd36 ct36),sl36⟩) (c36:PySem.W.codeIn K cd36 "Net.pass_on" = true) (k36:PySem.W.keepIn K (.ref f36) = true)
    (a37:PySem.W.findIn K (.ref C) "do_asks" = some (some (.ref f37))) (i37:PySem.W.isFn K (.ref f37) = true) (l37:K.lookup f37 = some ⟨oc37,od37,.func (PySem.W.fnOf "do_asks" "Net.do_asks" (zS (zk (top 46) 6)) (zN (zk (top 46) 6)) (zf (zk (top 46) 6)) .none kV37 dc37 pm37 an37 cd37 ct37),sl37⟩) (c37:PySem.W.codeIn K cd37 "Net.do_asks" = true) (k37:PySem.W.keepIn K (.ref f37) = true)
    (a38:PySem.W.findIn K (.ref C) "take" = some (some (.ref f38))) (i38:PySem.W.isFn K (.ref f38) = true) (l38:K.lookup f38 = some ⟨oc38,od38,.func (PySem.W.fnOf "take" "Net.take" (zS (zk (top 46) 5)) (zN (zk (top 46) 5)) (zf (zk (top 46) 5)) .none kV38 dc38 pm38 an38 cd38 ct38),sl38⟩) (c38:PySem.W.codeIn K cd38 "Net.take" = true) (k38:PySem.W.keepIn K (.ref f38) = true)
    (a39:PySem.W.findIn K (.ref C) "forget" = some (some (.ref f39))) (i39:PySem.W.isFn K (.ref f39) = true) (l39:K.lookup f39 = some ⟨oc39,od39,.func (PySem.W.fnOf "forget" "Net.forget" (zS (zk (top 46) 4)) (zN (zk (top 46) 4)) (zf (zk (top 46) 4)) .none kV39 dc39 pm39 an39 cd39 ct39),sl39⟩) (c39:PySem.W.codeIn K cd39 "Net.forget" = true) (k39:PySem.W.keepIn K (.ref f39) = true)
    (a40:PySem.W.findIn K (.ref C) "beat" = some (some (.ref f40))) (i40:PySem.W.isFn K (.ref f40) = true) (l40:K.lookup f40 = some ⟨oc40,od40,.func (PySem.W.fnOf "beat" "Net.beat" (zS (zk (top 46) 2)) (zN (zk (top 46) 2)) (zf (zk (top 46) 2)) (.ref T40) kV40 dc40 pm40 an40 cd40 ct40),sl40⟩) (c40:PySem.W.codeIn K cd40 "Net.beat" = true) (k40:PySem.W.keepIn K (.ref f40) = true)
    (t40:K.lookup T40 = some ⟨tc40,td40,.seq #[.none] tn40,ts40⟩)
 (h41:FA K "need_hand" ((top 30)) f41 d41)
 (h42:FA K "is_end" ((top 14)) f42 d42)
 (h43:FA K "is_deed" ((top 15)) f43 d43)
 (h44:FA K "is_ask" ((top 24)) f44 d44)
    (a45:PySem.W.findIn K (.ref C) "put" = some (some (.ref f45))) (i45:PySem.W.isFn K (.ref f45) = true) (l45:K.lookup f45 = some ⟨oc45,od45,.func (PySem.W.fnOf "put" "Net.put" (zS (zk (top 46) 1)) (zN (zk (top 46) 1)) (zf (zk (top 46) 1)) .none kV45 dc45 pm45 an45 cd45 ct45),sl45⟩) (c45:PySem.W.codeIn K cd45 "Net.put" = true) (k45:PySem.W.keepIn K (.ref f45) = true)
 (h46:FA K "is_board" ((top 22)) f46 d46)
 (h47:FA K "need_board" ((top 23)) f47 d47)
 (h48:FA K "need_sizes" ((top 42)) f48 d48)
 (h49:FA K "need_net" ((top 27)) f49 d49)
    (a50:PySem.W.findIn K (.ref C) "__init__" = some (some (.ref f50))) (i50:PySem.W.isFn K (.ref f50) = true) (l50:K.lookup f50 = some ⟨oc50,od50,.func (PySem.W.fnOf "__init__" "Net.__init__" (zS (zk (top 46) 0)) (zN (zk (top 46) 0)) (zf (zk (top 46) 0)) .none kV50 dc50 pm50 an50 cd50 ct50),sl50⟩) (c50:PySem.W.codeIn K cd50 "Net.__init__" = true) (k50:PySem.W.keepIn K (.ref f50) = true)
 (h51:FA K "law" ((top 61)) f51 d51)
    {t_DEEPEST:Tok} (ga_DEEPEST:PySem.W.nsIn K mainGlobals "DEEPEST" = some (some (.int 4 t_DEEPEST)))
    {t_LAST_HAND:Tok} (ga_LAST_HAND:PySem.W.nsIn K mainGlobals "LAST_HAND" = some (some (.int 15 t_LAST_HAND)))
    {t_MOST_ASKS:Tok} (ga_MOST_ASKS:PySem.W.nsIn K mainGlobals "MOST_ASKS" = some (some (.int 40 t_MOST_ASKS)))
    {t_MOST_BOXES:Tok} (ga_MOST_BOXES:PySem.W.nsIn K mainGlobals "MOST_BOXES" = some (some (.int 16 t_MOST_BOXES)))
    {t_MOST_KEPT:Tok} (ga_MOST_KEPT:PySem.W.nsIn K mainGlobals "MOST_KEPT" = some (some (.int 6 t_MOST_KEPT)))
    {t_MOST_ROOM:Tok} (ga_MOST_ROOM:PySem.W.nsIn K mainGlobals "MOST_ROOM" = some (some (.int 6 t_MOST_ROOM)))
    (ga_enumerate:PySem.W.nsIn K mainGlobals "enumerate" = some none)
    (ga_sorted:PySem.W.nsIn K mainGlobals "sorted" = some none)
    (ga_sum:PySem.W.nsIn K mainGlobals "sum" = some none)
    (z_abs:PySem.W.nsIn K mainGlobals "abs" = some none)
    (z_len:PySem.W.nsIn K mainGlobals "len" = some none)
    (z_max:PySem.W.nsIn K mainGlobals "max" = some none)
    (z_min:PySem.W.nsIn K mainGlobals "min" = some none)
    (z_divmod:PySem.W.nsIn K mainGlobals "divmod" = some none)
    (z_repr:PySem.W.nsIn K mainGlobals "repr" = some none)
    (z_isinstance:PySem.W.nsIn K mainGlobals "isinstance" = some none)
    (z_all:PySem.W.nsIn K mainGlobals "all" = some none)
    (z_range:PySem.W.nsIn K mainGlobals "range" = some none)
    (z_int:PySem.W.nsIn K mainGlobals "int" = some none)
    (z_bool:PySem.W.nsIn K mainGlobals "bool" = some none)
    (z_str:PySem.W.nsIn K mainGlobals "str" = some none)
    (z_tuple:PySem.W.nsIn K mainGlobals "tuple" = some none)
    (z_list:PySem.W.nsIn K mainGlobals "list" = some none)
    (z_dict:PySem.W.nsIn K mainGlobals "dict" = some none)
    :
    ∃ fd:FuncData,(∀ (s:Shared) (v:Value),BindsTo s fd ⟨[v],[]⟩ [("_law_script",v)]) /\ ∀ base:Heap,K.In base -> base.Ns mainGlobals mg -> FnOk l.prog w K mg base CX0 7 fa fd ["_law_script"] (Zc K):=by
  have e:=hfa.symm.trans (PySem.W.mg_of X G h51.1)
  cases e
  have F10:=fun_mk (st:=(zk (top 46) 16)) l10 c10 k10
  have F12:=fun_mk (st:=(zk (top 46) 15)) l12 c12 k12
  have F13:=fun_mk (st:=(zk (top 46) 12)) l13 c13 k13
  have F23:=fun_mk (st:=(zk (top 46) 3)) l23 c23 k23
  have F24:=fun_mk (st:=(zk (top 46) 9)) l24 c24 k24
  have F35:=fun_mk (st:=(zk (top 46) 8)) l35 c35 k35
  have F36:=fun_mk (st:=(zk (top 46) 7)) l36 c36 k36
  have F37:=fun_mk (st:=(zk (top 46) 6)) l37 c37 k37
  have F38:=fun_mk (st:=(zk (top 46) 5)) l38 c38 k38
  have F39:=fun_mk (st:=(zk (top 46) 4)) l39 c39 k39
  have F40:=Um (st:=(zk (top 46) 2)) l40 c40 k40
  have F45:=fun_mk (st:=(zk (top 46) 1)) l45 c45 k45
  have F50:=fun_mk (st:=(zk (top 46) 0)) l50 c50 k50
  have b10:=F10.binds (ps:=["self","stage","number"]) fun _ _ _ _ _ _ us hl=>by obtain ⟨_,_,_,rfl⟩:=y6 hl; rfl
  have b12:=F12.binds (ps:=["self","level","line"]) fun _ _ _ _ _ _ us hl=>by obtain ⟨_,_,_,rfl⟩:=y6 hl; rfl
  have b13:=F13.binds (ps:=["self"]) fun _ _ _ _ _ _ us hl=>by obtain ⟨_,rfl⟩:=yP hl; rfl
  have b23:=F23.binds (ps:=["self","many"]) fun _ _ _ _ _ _ us hl=>by obtain ⟨_,_,rfl⟩:=yn hl; rfl
  have b24:=F24.binds (ps:=["self"]) fun _ _ _ _ _ _ us hl=>by obtain ⟨_,rfl⟩:=yP hl; rfl
  have b35:=F35.binds (ps:=["self","stage","line"]) fun _ _ _ _ _ _ us hl=>by obtain ⟨_,_,_,rfl⟩:=y6 hl; rfl
  have b36:=F36.binds (ps:=["self","stage","gone"]) fun _ _ _ _ _ _ us hl=>by obtain ⟨_,_,_,rfl⟩:=y6 hl; rfl
  have b37:=F37.binds (ps:=["self","box","numbers"]) fun _ _ _ _ _ _ us hl=>by obtain ⟨_,_,_,rfl⟩:=y6 hl; rfl
  have b38:=F38.binds (ps:=["self","gone"]) fun _ _ _ _ _ _ us hl=>by obtain ⟨_,_,rfl⟩:=yn hl; rfl
  have b39:=F39.binds (ps:=["self"]) fun _ _ _ _ _ _ us hl=>by obtain ⟨_,rfl⟩:=yP hl; rfl
  have b40:xY K _ ["self","lost"] []:=ss (fd:=PySem.W.fnOf "beat" "Net.beat" (zS (zk (top 46) 2)) (zN (zk (top 46) 2)) (zf (zk (top 46) 2)) (.ref T40) kV40 dc40 pm40 an40 cd40 ct40) rfl t40 rfl fun us hl=>by rw [List.append_nil] at hl ⊢; obtain ⟨_,_,rfl⟩:=yn hl; exact ⟨_,rfl,rfl⟩
  have e40:xY K _ ["self","lost"] [.none]:=ss (fd:=PySem.W.fnOf "beat" "Net.beat" (zS (zk (top 46) 2)) (zN (zk (top 46) 2)) (zf (zk (top 46) 2)) (.ref T40) kV40 dc40 pm40 an40 cd40 ct40) rfl t40 rfl fun us hl=>by obtain ⟨_,rfl⟩:=yP (us:=us) (by rw [List.length_append] at hl; exact Nat.succ.inj hl); exact ⟨_,rfl,rfl⟩
  have b45:=F45.binds (ps:=["self","ask"]) fun _ _ _ _ _ _ us hl=>by obtain ⟨_,_,rfl⟩:=yn hl; rfl
  have b50:=F50.binds (ps:=["self","k","board","room","kept"]) fun _ _ _ _ _ _ us hl=>by obtain ⟨_,_,_,_,_,rfl⟩:=j3 hl; rfl
  have T:NTxt K mg C:=⟨⟨pg,hd,po,sa⟩,na_depth,na_room,na_most_kept,na_boxes,na_asks,na_now,na_lines,na_keeping,na_done_in,na_logged,na_found,na_answers,PySem.W.mg_of X G aC⟩
  have B:Blt mg:=⟨PySem.W.mg_none_of X G z_abs,PySem.W.mg_none_of X G z_len,PySem.W.mg_none_of X G z_max,PySem.W.mg_none_of X G z_min,PySem.W.mg_none_of X G z_divmod,PySem.W.mg_none_of X G z_repr,PySem.W.mg_none_of X G z_isinstance,PySem.W.mg_none_of X G z_all,PySem.W.mg_none_of X G z_range,PySem.W.mg_none_of X G z_int,PySem.W.mg_none_of X G z_bool,PySem.W.mg_none_of X G z_str,PySem.W.mg_none_of X G z_tuple,PySem.W.mg_none_of X G z_list,PySem.W.mg_none_of X G z_dict⟩
  obtain ⟨oc,od,kV,dc,pm,an,cd,ct,sl,rfl,lk,hc⟩:=h51.2.ex
  refine ⟨PySem.W.fnOf "law" "law" (zS (top 61)) (zN (top 61)) (zf (top 61)) .none kV dc pm an cd ct,fun s v=>.of_eq rfl,fun base _ _=>?_⟩
  have C1:zn l.prog w K mg base 1 _ _ _:=h1.cl X G (rD h1.2 B       ) (h1.2.binds fun _ _ _ _ _ _ us hl=>by obtain ⟨_,_,_,rfl⟩:=y6 hl; rfl)
  have C2:zn l.prog w K mg base 1 _ _ _:=h2.cl X G (u9 h2.2 B       ) (h2.2.binds fun _ _ _ _ _ _ us hl=>by obtain ⟨_,rfl⟩:=yP hl; rfl)
  have C3:zn l.prog w K mg base 1 _ _ _:=h3.cl X G (qQ h3.2 B       ) (h3.2.binds fun _ _ _ _ _ _ us hl=>by obtain ⟨_,_,rfl⟩:=yn hl; rfl)
  have C4:zn l.prog w K mg base 2 _ _ _:=h4.cl X G (uO h4.2 B    (C2.mono (by decide)) (C3.mono (by decide))   ) (h4.2.binds fun _ _ _ _ _ _ us hl=>by obtain ⟨_,_,rfl⟩:=yn hl; rfl)
  have C5:zn l.prog w K mg base 3 _ _ _:=h5.cl X G (rE h5.2 B    (C4.mono (by decide))   ) (h5.2.binds fun _ _ _ _ _ _ us hl=>by obtain ⟨_,_,_,_,_,rfl⟩:=j3 hl; rfl)
  have C6:zn l.prog w K mg base 1 _ _ _:=h6.cl X G (tf h6.2 B     (PySem.W.mg_none_of X G ga_sorted)  ) (h6.2.binds fun _ _ _ _ _ _ us hl=>by obtain ⟨_,rfl⟩:=yP hl; rfl)
  have C7:zn l.prog w K mg base 1 _ _ _:=h7.cl X G (jS h7.2 B       ) (h7.2.binds fun _ _ _ _ _ _ us hl=>by obtain ⟨_,rfl⟩:=yP hl; rfl)
  have C8:zn l.prog w K mg base 2 _ _ _:=h8.cl X G (qS h8.2 B    (C7.mono (by decide))   ) (h8.2.binds fun _ _ _ _ _ _ us hl=>by obtain ⟨_,_,_,rfl⟩:=y6 hl; rfl)
  have C9:zn l.prog w K mg base 3 _ _ _:=h9.cl X G (qU h9.2 B    (C8.mono (by decide))   ) (h9.2.binds fun _ _ _ _ _ _ us hl=>by obtain ⟨_,_,_,rfl⟩:=y6 hl; rfl)
  have C10:zF l.prog w K mg base C 4 "joinings" ["self","stage","number"] (wc C K):=⟨_,_,uQ (P:=l.prog) (w:=w) (base:=base) (n:=3) F10 B T      (C9.mono (by decide))   ,b10,⟨a10,i10,k10⟩⟩
  have C11:zn l.prog w K mg base 3 _ _ _:=h11.cl X G (Yt h11.2 B    (C8.mono (by decide))   ) (h11.2.binds fun _ _ _ _ _ _ us hl=>by obtain ⟨_,_,rfl⟩:=yn hl; rfl)
  have C12:zF l.prog w K mg base C 4 "waiting" ["self","level","line"] (wI C K):=⟨_,_,tm (P:=l.prog) (w:=w) (base:=base) (n:=3) F12 B T      (C11.mono (by decide)) (C8.mono (by decide))   ,b12,⟨a12,i12,k12⟩⟩
  have C13:zF l.prog w K mg base C 1 "log" ["self"] (jM C K):=⟨_,_,Yv (P:=l.prog) (w:=w) (base:=base) (n:=0) F13 B T         ,b13,⟨a13,i13,k13⟩⟩
  have C14:zn l.prog w K mg base 5 _ _ _:=h14.cl X G (tq h14.2 B T    (C10.mono (by decide)) (C12.mono (by decide)) (C13.mono (by decide))  (C1.mono (by decide)) (C5.mono (by decide)) (C6.mono (by decide)) (PySem.W.mg_none_of X G ga_sorted) (PySem.W.mg_none_of X G ga_sum)  ) (h14.2.binds fun _ _ _ _ _ _ us hl=>by obtain ⟨_,_,_,_,_,rfl⟩:=j3 hl; rfl)
  have C15:zn l.prog w K mg base 1 _ _ _:=h15.cl X G (qV h15.2 B       ) (h15.2.binds fun _ _ _ _ _ _ us hl=>by obtain ⟨_,_,rfl⟩:=yn hl; rfl)
  have C16:zn l.prog w K mg base 2 _ _ _:=h16.cl X G (qW h16.2 B    (C15.mono (by decide))   ) (h16.2.binds fun _ _ _ _ _ _ us hl=>by obtain ⟨_,_,rfl⟩:=yn hl; rfl)
  have C17:zn l.prog w K mg base 2 _ _ _:=h17.cl X G (tw h17.2 B    (C15.mono (by decide))   ) (h17.2.binds fun _ _ _ _ _ _ us hl=>by obtain ⟨_,rfl⟩:=yP hl; rfl)
  have C18:zn l.prog w K mg base 3 _ _ _:=h18.cl X G (qX h18.2 B    (C15.mono (by decide)) (C17.mono (by decide)) (PySem.W.mg_none_of X G ga_sorted)  ) (h18.2.binds fun _ _ _ _ _ _ us hl=>by obtain ⟨_,rfl⟩:=yP hl; rfl)
  have C19:zn l.prog w K mg base 4 _ _ _:=h19.cl X G (jT h19.2 B    (C18.mono (by decide)) (C15.mono (by decide))   ) (h19.2.binds fun _ _ _ _ _ _ us hl=>by obtain ⟨_,_,_,_,rfl⟩:=rL hl; rfl)
  have C20:zn l.prog w K mg base 1 _ _ _:=h20.cl X G (jU h20.2 B       ) (h20.2.binds fun _ _ _ _ _ _ us hl=>by obtain ⟨_,_,rfl⟩:=yn hl; rfl)
  have C21:zn l.prog w K mg base 4 _ _ _:=h21.cl X G (tz h21.2 B    (C11.mono (by decide)) (C8.mono (by decide)) (C9.mono (by decide))   ) (h21.2.binds fun _ _ _ _ _ _ us hl=>by obtain ⟨_,_,rfl⟩:=yn hl; rfl)
  have C22:zn l.prog w K mg base 5 _ _ _:=h22.cl X G (qZ h22.2 B    (C21.mono (by decide))   ) (h22.2.binds fun _ _ _ _ _ _ us hl=>by obtain ⟨_,_,rfl⟩:=yn hl; rfl)
  have C23:zF l.prog w K mg base C 1 "done_ago" ["self","many"] (sZ C K):=⟨_,_,uS (P:=l.prog) (w:=w) (base:=base) (n:=0) F23 B T         ,b23,⟨a23,i23,k23⟩⟩
  have C24:zF l.prog w K mg base C 2 "tell" ["self"] (rh C K):=⟨_,_,jV (P:=l.prog) (w:=w) (base:=base) (n:=1) F24 B T    (C23.mono (by decide))   (PySem.W.mg_none_of X G ga_sorted)  ,b24,⟨a24,i24,k24⟩⟩
  have C25:zn l.prog w K mg base 1 _ _ _:=h25.cl X G (Yw h25.2 B       ) (h25.2.binds fun _ _ _ _ _ _ us hl=>by obtain ⟨_,_,_,_,rfl⟩:=rL hl; rfl)
  have C26:zn l.prog w K mg base 1 _ _ _:=h26.cl X G (jn h26.2 B       ) (h26.2.binds fun _ _ _ _ _ _ us hl=>by obtain ⟨_,_,_,rfl⟩:=y6 hl; rfl)
  have C27:zn l.prog w K mg base 1 _ _ _:=h27.cl X G (Ur h27.2 B       ) (h27.2.binds fun _ _ _ _ _ _ us hl=>by obtain ⟨_,_,rfl⟩:=yn hl; rfl)
  have C28:zn l.prog w K mg base 2 _ _ _:=h28.cl X G (X2 h28.2 B    (C26.mono (by decide)) (C27.mono (by decide))   ) (h28.2.binds fun _ _ _ _ _ _ us hl=>by obtain ⟨_,_,rfl⟩:=yn hl; rfl)
  have C29:zn l.prog w K mg base 3 _ _ _:=h29.cl X G (ja h29.2 B    (C28.mono (by decide))   ) (h29.2.binds fun _ _ _ _ _ _ us hl=>by obtain ⟨_,_,_,rfl⟩:=y6 hl; rfl)
  have C30:zn l.prog w K mg base 1 _ _ _:=h30.cl X G (jb h30.2 B       ) (h30.2.binds fun _ _ _ _ _ _ us hl=>by obtain ⟨_,_,_,rfl⟩:=y6 hl; rfl)
  have C31:zn l.prog w K mg base 1 _ _ _:=h31.cl X G (X4 h31.2 B       ) (h31.2.binds fun _ _ _ _ _ _ us hl=>by obtain ⟨_,_,_,rfl⟩:=y6 hl; rfl)
  have C32:zn l.prog w K mg base 2 _ _ _:=h32.cl X G (tE h32.2 B    (C31.mono (by decide))   ) (h32.2.binds fun _ _ _ _ _ _ us hl=>by obtain ⟨_,_,_,_,rfl⟩:=rL hl; rfl)
  have C33:zn l.prog w K mg base 3 _ _ _:=h33.cl X G (X6 h33.2 B    (C32.mono (by decide)) (C31.mono (by decide))   ) (h33.2.binds fun _ _ _ _ _ _ us hl=>by obtain ⟨_,_,_,_,rfl⟩:=rL hl; rfl)
  have C34:zn l.prog w K mg base 1 _ _ _:=h34.cl X G (jX h34.2 B       ) (h34.2.binds fun _ _ _ _ _ _ us hl=>by obtain ⟨_,_,rfl⟩:=yn hl; rfl)
  have C35:zF l.prog w K mg base C 4 "hand_on" ["self","stage","line"] (re C K):=⟨_,_,tF (P:=l.prog) (w:=w) (base:=base) (n:=3) F35 B T      (C29.mono (by decide)) (C30.mono (by decide)) (C33.mono (by decide)) (C34.mono (by decide)) (PySem.W.mg_none_of X G ga_enumerate)  ,b35,⟨a35,i35,k35⟩⟩
  have C36:zF l.prog w K mg base C 5 "pass_on" ["self","stage","gone"] (rf C K):=⟨_,_,tG (P:=l.prog) (w:=w) (base:=base) (n:=4) F36 B T    (C35.mono (by decide))  (C25.mono (by decide))   ,b36,⟨a36,i36,k36⟩⟩
  have C37:zF l.prog w K mg base C 2 "do_asks" ["self","box","numbers"] (vy C K):=⟨_,_,tH (P:=l.prog) (w:=w) (base:=base) (n:=1) F37 B T      (C27.mono (by decide))   ,b37,⟨a37,i37,k37⟩⟩
  have C38:zF l.prog w K mg base C 3 "take" ["self","gone"] (s8 C K):=⟨_,_,jY (P:=l.prog) (w:=w) (base:=base) (n:=2) F38 B T    (C37.mono (by decide))     ,b38,⟨a38,i38,k38⟩⟩
  have C39:zF l.prog w K mg base C 2 "forget" ["self"] (vw C K):=⟨_,_,rF (P:=l.prog) (w:=w) (base:=base) (n:=1) F39 B T    (C23.mono (by decide))     ,b39,⟨a39,i39,k39⟩⟩
  have C40:zF l.prog w K mg base C 6 "beat" ["self","lost"] (vW C K):=⟨_,_,uU (P:=l.prog) (w:=w) (base:=base) (n:=5) F40 B T    (C24.mono (by decide)) (C36.mono (by decide)) (C38.mono (by decide)) (C39.mono (by decide))  (C22.mono (by decide))   ,b40,⟨a40,i40,k40⟩⟩
  have D40:W4 l.prog w K mg base C 6 "beat" ["self","lost"] [.none] (vW C K):=⟨_,_,uU (P:=l.prog) (w:=w) (base:=base) (n:=5) F40 B T    (C24.mono (by decide)) (C36.mono (by decide)) (C38.mono (by decide)) (C39.mono (by decide))  (C22.mono (by decide))   ,e40,⟨a40,i40,k40⟩⟩
  have C41:zn l.prog w K mg base 4 _ _ _:=h41.cl X G (jd h41.2 B    (C11.mono (by decide))   ) (h41.2.binds fun _ _ _ _ _ _ us hl=>by obtain ⟨_,_,rfl⟩:=yn hl; rfl)
  have C42:zn l.prog w K mg base 2 _ _ _:=h42.cl X G (X9 h42.2 B    (C7.mono (by decide))   ) (h42.2.binds fun _ _ _ _ _ _ us hl=>by obtain ⟨_,rfl⟩:=yP hl; rfl)
  have C43:zn l.prog w K mg base 3 _ _ _:=h43.cl X G (Yx h43.2 B    (C42.mono (by decide)) (C7.mono (by decide))   ) (h43.2.binds fun _ _ _ _ _ _ us hl=>by obtain ⟨_,rfl⟩:=yP hl; rfl)
  have C44:zn l.prog w K mg base 4 _ _ _:=h44.cl X G (Wa h44.2 B    (C43.mono (by decide)) (C8.mono (by decide))  (PySem.W.mg_of X G ga_LAST_HAND) ) (h44.2.binds fun _ _ _ _ _ _ us hl=>by obtain ⟨_,_,rfl⟩:=yn hl; rfl)
  have C45:zF l.prog w K mg base C 5 "put" ["self","ask"] (jL C K):=⟨_,_,Yy (P:=l.prog) (w:=w) (base:=base) (n:=4) F45 B T      (C41.mono (by decide)) (C44.mono (by decide))  (PySem.W.mg_of X G ga_MOST_ASKS) ,b45,⟨a45,i45,k45⟩⟩
  have C46:zn l.prog w K mg base 2 _ _ _:=h46.cl X G (j0 h46.2 B    (C7.mono (by decide))  (PySem.W.mg_of X G ga_MOST_BOXES) ) (h46.2.binds fun _ _ _ _ _ _ us hl=>by obtain ⟨_,rfl⟩:=yP hl; rfl)
  have C47:zn l.prog w K mg base 3 _ _ _:=h47.cl X G (rH h47.2 B    (C46.mono (by decide))   ) (h47.2.binds fun _ _ _ _ _ _ us hl=>by obtain ⟨_,rfl⟩:=yP hl; rfl)
  have C48:zn l.prog w K mg base 3 _ _ _:=h48.cl X G (rK h48.2 B    (C8.mono (by decide))  (PySem.W.mg_of X G ga_MOST_KEPT) (PySem.W.mg_of X G ga_MOST_ROOM) ) (h48.2.binds fun _ _ _ _ _ _ us hl=>by obtain ⟨_,_,rfl⟩:=yn hl; rfl)
  have C49:zn l.prog w K mg base 3 _ _ _:=h49.cl X G (j2 h49.2 B    (C8.mono (by decide))  (PySem.W.mg_of X G ga_DEEPEST) ) (h49.2.binds fun _ _ _ _ _ _ us hl=>by obtain ⟨_,rfl⟩:=yP hl; rfl)
  have C50:zF l.prog w K mg base C 4 "__init__" ["self","k","board","room","kept"] (rq C K):=⟨_,_,uW (P:=l.prog) (w:=w) (base:=base) (n:=3) F50 B T      (C47.mono (by decide)) (C48.mono (by decide)) (C49.mono (by decide))   ,b50,⟨a50,i50,k50⟩⟩
  exact Tq (P:=l.prog) (w:=w) (base:=base) (n:=6) h51.2 B T    (C40.mono (by decide)) (C45.mono (by decide))  (xJ.mono (j:=5) (C50.make ⟨mkc,a50,i50,kc⟩) (by decide)) (C14.mono (by decide)) (C16.mono (by decide)) (C15.mono (by decide)) (C19.mono (by decide)) (C17.mono (by decide)) (C20.mono (by decide))
theorem walk {l:PySem.W.OpenLaw} {q:Program} {loose:List Str} {XP:(Str -> Option Value) -> Heap -> Prop} {YP:World -> Heap -> Prop} {d:DefRec} {K:Params -> FG7} (hn:l.most = some 63) (hdf:d.params.defaults = [])
  (hY:∀ (w:World) (h:Heap),YP w h -> (K w.params).In h)
  (F:∀ (w:World) (mg:Str -> Option Value) (fa:Addr) (h:Heap),(K w.params).In h -> h.Ns mainGlobals mg -> mg d.name = some (.ref fa) →
   ∃ fd:FuncData,(∀ (s:Shared) (u:Value),BindsTo s fd ⟨[u],[]⟩ [("_law_script",u)]) /\ ∀ base:Heap,(K w.params).In base -> base.Ns mainGlobals mg -> FnOk l.prog w (K w.params) mg base CX0 7 fa fd ["_law_script"] (Zc (K w.params))) :
  PySem.W.WalkO q loose XP YP l.row.toRowW d [] (fun f vs=>PySem.call f vs) :=
 L2.walk_of (n:=63) (k:=7) (x:="_law_script") (CX:=fun _=>CX0) (sp:=fun w=>Zc (K w.params)) hn (by decide) hdf ⟨rfl,by decide,by decide,rfl⟩ hY F (fun _ _ a ns hl hO hS=>⟨_,rfl,a,ns,rfl,Scr.of hO hS,hl,fun _=>rfl⟩) fun _ _ _ _ _ z=>z
theorem walkX {q:Program} {loose:List Str} {XP:(Str -> Option Value) -> Heap -> Prop} {K:Params -> FG7} {as:List Addr} {n t:Nat} {r:PySem.W.RowW} {d:DefRec} {kwd:List (Str × Expr)} {run:Value -> List Value -> Sem Value}
  (e:∀ P,as = (K P).map (·.1)) (W:PySem.W.WalkO q loose XP (PySem.W.InK K) r d kwd run):PySem.W.WalkX q loose XP (PySem.W.X.obsZ as) (PySem.W.X.valZ K n t) r d kwd run :=
 fun w s₀ s₁ mg mb G Y a o pm cd doc dV kV h2 h3 h4 h5 h6 h7 args vals as' L hpre hlay hrd hwl hlo =>
  W w s₀ s₁ mg mb G (PySem.W.InK.keeps w s₀.heap s₁.heap (PySem.W.X.z_facts e Y).2.1 L.keeps) a o pm cd doc dV kV h2 h3 h4 h5 h6 h7 args vals as' hpre hlay hrd hwl hlo
end My
open PySem PySem.W PyProof.Rows
def PySem.W.Fast.tw5836357157723226976:Unit:=()
def PySem.W.Fast.tw15997529286893849199:Unit:=()
def PySem.W.Fast.tw17827737301702361979:Unit:=()
def PySem.W.Fast.tw3733434492701749737:Unit:=()
def PySem.W.Fast.tw5652918819011322089:Unit:=()
def PySem.W.Fast.tw10943360579289235916:Unit:=()
def PySem.W.Fast.tw3898415650220347175:Unit:=()
def PySem.W.Fast.tw2349227615695115497:Unit:=()
def PySem.W.Fast.tw8141831781058674622:Unit:=()
def PySem.W.Fast.tw18244879166981256686:Unit:=()
def PySem.W.Fast.tw18307700480803790414:Unit:=()
def PySem.W.Fast.tw2958328376334361356:Unit:=()
def PySem.W.Fast.tw18393580708922676204:Unit:=()
def PySem.W.Fast.tw2479255949023295355:Unit:=()
def PySem.W.Fast.tw12810553804558104783:Unit:=()
def PySem.W.Fast.tw12288314099323585738:Unit:=()
def PySem.W.Fast.tw14538384829007170277:Unit:=()
def PySem.W.Fast.tw7743865375760399846:Unit:=()
def PySem.W.Fast.tw7092879314425929720:Unit:=()
def PySem.W.Fast.tw7972411718727153349:Unit:=()
def PySem.W.Fast.tw3827486359216524026:Unit:=()
def PySem.W.Fast.tw8889516896188763745:Unit:=()
def PySem.W.Fast.tw9567023207920090654:Unit:=()
def PySem.W.Fast.tw6039143103641287099:Unit:=()
def PySem.W.Fast.tw308713465155367031:Unit:=()
def PySem.W.Fast.tw12254185792362248683:Unit:=()
def PySem.W.Fast.tw13085932229767931201:Unit:=()
def PySem.W.Fast.tw2275042545735877498:Unit:=()
def PySem.W.Fast.tw7460527996916846750:Unit:=()
def PySem.W.Fast.tw3921687266010346589:Unit:=()
def PySem.W.Fast.tw1628570990922012242:Unit:=()
def PySem.W.Fast.tw2073898253661646872:Unit:=()
def PySem.W.Fast.tw8297083339723458861:Unit:=()
def PySem.W.Fast.tw5830399006653312469:Unit:=()
def PySem.W.Fast.tw1306092346632677765:Unit:=()
def PySem.W.Fast.tw17854368419907102080:Unit:=()
def PySem.W.Fast.tw6125585387782862651:Unit:=()
def PySem.W.Fast.tw11338064100482699701:Unit:=()
def PySem.W.Fast.tw12141028568042472690:Unit:=()
def PySem.W.Fast.tw6041701252094777604:Unit:=()
def PySem.W.Fast.tw6771773468831808801:Unit:=()
def PySem.W.Fast.tw4944781675798739083:Unit:=()
def PySem.W.Fast.tw11544616269368378614:Unit:=()
def PySem.W.Fast.tw3258947951769870263:Unit:=()
def PySem.W.Fast.tw10500786017335002128:Unit:=()
def PySem.W.Fast.tw2783746564833708824:Unit:=()
def PySem.W.Fast.tw6495236317252166336:Unit:=()
def PySem.W.Fast.tw5261953130304140447:Unit:=()
def PySem.W.Fast.tw3427820677989502175:Unit:=()
def PySem.W.Fast.tw17562046917887502287:Unit:=()
def PySem.W.Fast.tw15682865841409765622:Unit:=()
def PySem.W.Fast.tw17316454230999215008:Unit:=()
def PySem.W.Fast.tw8836877048895980683:Unit:=()
def PySem.W.Fast.tw1249018864594261095:Unit:=()
def PySem.W.Fast.tw9920417302083300415:Unit:=()
def PySem.W.Fast.tw10370154893787750858:Unit:=()
def PySem.W.Fast.tw15833106603158014289:Unit:=()
def PySem.W.Fast.tw5677556919685841281:Unit:=()
def PySem.W.Fast.tw10243312599732706130:Unit:=()
def PySem.W.Fast.tw12386842153043751109:Unit:=()
def PySem.W.Fast.tw10779548596994739675:Unit:=()
def PySem.W.Fast.tw16010595370705877953:Unit:=()
def PySem.W.Fast.tw5986484481561632024:Unit:=()
def PySem.W.Fast.tw12855414089394046184:Unit:=()
def PySem.W.Fast.tw398976117892190039:Unit:=()
def PySem.W.Fast.tw6422477650402668391:Unit:=()
def PySem.W.Fast.tw1706081626765509542:Unit:=()
def PySem.W.Fast.tw5145593147800825152:Unit:=()
def PySem.W.Fast.tw9428879128309038029:Unit:=()
def PySem.W.Fast.tw7629629169171897775:Unit:=()
def PySem.W.Fast.tw13925201357522634553:Unit:=()
def PySem.W.Fast.tw15993134037866245057:Unit:=()
def PySem.W.Fast.tw16526819044085363920:Unit:=()
def PySem.W.Fast.tw6058376950139502372:Unit:=()
def PySem.W.Fast.tw17942059251425139435:Unit:=()
def PySem.W.Fast.tw13023047867927944800:Unit:=()
def PySem.W.Fast.tw1272325505673277204:Unit:=()
def PySem.W.Fast.tw7921173534614587790:Unit:=()
def PySem.W.Fast.tw13218889462286560594:Unit:=()
def PySem.W.Fast.tw1325482721994954854:Unit:=()
def PySem.W.Fast.tw1808590888278568475:Unit:=()
def PySem.W.Fast.tw4319266039136388801:Unit:=()
def PySem.W.Fast.tw10738924485126680360:Unit:=()
def PySem.W.Fast.tw692180394966974927:Unit:=()
def PySem.W.Fast.tw7106743048796735206:Unit:=()
def PySem.W.Fast.tw6974921293456541461:Unit:=()
def PySem.W.Fast.tw12532940379307465785:Unit:=()
def PySem.W.Fast.tw4176221240098849489:Unit:=()
def PySem.W.Fast.tw10815625249426889533:Unit:=()
def PySem.W.Fast.tw317361538786794297:Unit:=()
def PySem.W.Fast.tw13271125551586608645:Unit:=()
def PySem.W.Fast.tw15850164466788972917:Unit:=()
def PySem.W.Fast.tw16731181933856341806:Unit:=()
def PySem.W.Fast.tw6800690239658856460:Unit:=()
def PySem.W.Fast.tw17547748913742698721:Unit:=()
def PySem.W.Fast.tw15815659682345737486:Unit:=()
def PySem.W.Fast.tw9247096286235519811:Unit:=()
def PySem.W.Fast.tw958960156787843981:Unit:=()
def PySem.W.Fast.tw16110783564812655325:Unit:=()
def PySem.W.Fast.tw6940302918411168357:Unit:=()
def PySem.W.Fast.tw826922582687042379:Unit:=()
def PySem.W.Fast.tw14541855995833974922:Unit:=()
def PySem.W.Fast.tw16178043248427332395:Unit:=()
def PySem.W.Fast.tw10852736577845932707:Unit:=()
def PySem.W.Fast.tw1594080792383900084:Unit:=()
def PySem.W.Fast.tw14313458274618413266:Unit:=()
def PySem.W.Fast.tw675187302842256901:Unit:=()
def PySem.W.Fast.tw3239988890247444009:Unit:=()
def PySem.W.Fast.tw14700903994842277418:Unit:=()
def PySem.W.Fast.tw9889574835644055378:Unit:=()
def PySem.W.Fast.tw16268209030883774522:Unit:=()
def PySem.W.Fast.tw4293100019724605445:Unit:=()
def PySem.W.Fast.tw2145343039771276060:Unit:=()
def PySem.W.Fast.tw1315517199515447776:Unit:=()
def PySem.W.Fast.tw4756105973617789570:Unit:=()
def PySem.W.Fast.tw1084905859837066595:Unit:=()
def PySem.W.Fast.tw13043086286098919874:Unit:=()
def PySem.W.Fast.tw8844092102848464051:Unit:=()
def PySem.W.Fast.tw6907403601234828654:Unit:=()
def PySem.W.Fast.tw18221146750040231982:Unit:=()
def PySem.W.Fast.tw10579867123998336659:Unit:=()
def PySem.W.Fast.tw15481259091430086589:Unit:=()
def PySem.W.Fast.tw10992991960829394472:Unit:=()
def PySem.W.Fast.tw11076733172248888380:Unit:=()
def PySem.W.Fast.tw1905549370932994750:Unit:=()
def PySem.W.Fast.tw13924284086847869899:Unit:=()
def PySem.W.Fast.tw12069278684184180078:Unit:=()
def PySem.W.Fast.tw1476802008444894492:Unit:=()
def PySem.W.Fast.tw9345449185875648377:Unit:=()
def PySem.W.Fast.tw12342701122172462562:Unit:=()
def PySem.W.Fast.tw16178210856764414791:Unit:=()
def PySem.W.Fast.tw779678771603992128:Unit:=()
def PySem.W.Fast.tw3479778515193249849:Unit:=()
def PySem.W.Fast.tw15149262671954444852:Unit:=()
def PySem.W.Fast.tw9399562603130290954:Unit:=()
def PySem.W.Fast.tw10317514132397971877:Unit:=()
def PySem.W.Fast.tw12125951690892112858:Unit:=()
def PySem.W.Fast.tw7293289414421792911:Unit:=()
def PySem.W.Fast.tw6290786338690100541:Unit:=()
def PySem.W.Fast.tw1134855668210401359:Unit:=()
def PySem.W.Fast.tw10381951218633415427:Unit:=()
def PySem.W.Fast.tw6831043036495997939:Unit:=()
def PySem.W.Fast.tw2418362403593032341:Unit:=()
def PySem.W.Fast.tw14064395641600893716:Unit:=()
def PySem.W.Fast.tw5162827285161645227:Unit:=()
def PySem.W.Fast.tw9666740043262961825:Unit:=()
def PySem.W.Fast.tw14049278071074199538:Unit:=()
def PySem.W.Fast.tw5385520166370868102:Unit:=()
def PySem.W.Fast.tw1358166515915608349:Unit:=()
def PySem.W.Fast.tw683784871827741797:Unit:=()
def PySem.W.Fast.tw10724256970662616312:Unit:=()
def PySem.W.Fast.tw10054607144905688694:Unit:=()
def PySem.W.Fast.tw4626029357697003607:Unit:=()
def PySem.W.Fast.tw14037878879172619840:Unit:=()
def PySem.W.Fast.tw9216415371058190592:Unit:=()
def PySem.W.Fast.tw15416410740680727496:Unit:=()
def PySem.W.Fast.tw2275070366177615452:Unit:=()
def PySem.W.Fast.tw9264988040452470501:Unit:=()
def PySem.W.Fast.tw16652291922716067756:Unit:=()
def PySem.W.Fast.tw3789706129018263128:Unit:=()
def PySem.W.Fast.tw13710867150139924231:Unit:=()
def PySem.W.Fast.tw18022642783345160085:Unit:=()
def PySem.W.Fast.tw2421065508818285170:Unit:=()
def PySem.W.Fast.tw10506299995728921315:Unit:=()
def PySem.W.Fast.tw4771217894601591755:Unit:=()
def PySem.W.Fast.tw8561454796424528548:Unit:=()
def PySem.W.Fast.tw6459542461963345383:Unit:=()
def PySem.W.Fast.tw14754081579334774797:Unit:=()
def PySem.W.Fast.tw18094904468224545051:Unit:=()
def PySem.W.Fast.tw588055097693755923:Unit:=()
def PySem.W.Fast.tw10205601399342916217:Unit:=()
def PySem.W.Fast.tw15468714194722336434:Unit:=()
def PySem.W.Fast.tw4095340049899523916:Unit:=()
def PySem.W.Fast.tw12269365237274141058:Unit:=()
def PySem.W.Fast.tw16404199769983508446:Unit:=()
def PySem.W.Fast.tw11631152356793358653:Unit:=()
def PySem.W.Fast.tw1213014598729735839:Unit:=()
def PySem.W.Fast.tw2729465939428123761:Unit:=()
def PySem.W.Fast.tw16693011124726263521:Unit:=()
def PySem.W.Fast.tw1408455824455604113:Unit:=()
def PySem.W.Fast.tw10857138231319630938:Unit:=()
def PySem.W.Fast.tw8845879667084119725:Unit:=()
def PySem.W.Fast.tw2115924969349780502:Unit:=()
def PySem.W.Fast.tw7687086474511299400:Unit:=()
def PySem.W.Fast.tw16500395223861975066:Unit:=()
def PySem.W.Fast.tw12268275396053727936:Unit:=()
def PySem.W.Fast.tw6788577420829200051:Unit:=()
def PySem.W.Fast.tw4095696843947333812:Unit:=()
def PySem.W.Fast.tw12987515123259780376:Unit:=()
def PySem.W.Fast.tw7008410466425504589:Unit:=()
def PySem.W.Fast.tw10450336330069427134:Unit:=()
def PySem.W.Fast.tw1640206245428922498:Unit:=()
def PySem.W.Fast.tw16835520256684368796:Unit:=()
def PySem.W.Fast.tw18071777066747142630:Unit:=()
def PySem.W.Fast.tw6197886586771577327:Unit:=()
def PySem.W.Fast.tw1273194105899986849:Unit:=()
def PySem.W.Fast.tw3070466202477951364:Unit:=()
def PySem.W.Fast.tw16571847556569303477:Unit:=()
def PySem.W.Fast.tw643952533134967053:Unit:=()
def PySem.W.Fast.tw10157464055456635490:Unit:=()
def PySem.W.Fast.tw7524425713828839528:Unit:=()
def PySem.W.Fast.tw17520073106975885916:Unit:=()
def PySem.W.Fast.tw15116450347311093798:Unit:=()
def PySem.W.Fast.tw9428647450037107030:Unit:=()
def PySem.W.Fast.tw5585507367609609917:Unit:=()
def PySem.W.Fast.tw1336136008273628789:Unit:=()
def PySem.W.Fast.tw15626681356807088943:Unit:=()
def PySem.W.Fast.tw6051708170657478654:Unit:=()
def PySem.W.Fast.tw1690375820288165698:Unit:=()
def PySem.W.Fast.tw5655163198314068684:Unit:=()
def PySem.W.Fast.tw6758959292365918745:Unit:=()
def PySem.W.Fast.tw4492602310559565043:Unit:=()
def PySem.W.Fast.tw8012935716610815562:Unit:=()
def PySem.W.Fast.tw11978672175151855892:Unit:=()
def PySem.W.Fast.tw8629188299255816061:Unit:=()
def PySem.W.Fast.tw15383569023441469322:Unit:=()
def PySem.W.Fast.tw11909419972021402420:Unit:=()
def PySem.W.Fast.tw8671402398219385221:Unit:=()
def PySem.W.Fast.tw7227373466236029553:Unit:=()
def PySem.W.Fast.tw7101480934617209008:Unit:=()
def PySem.W.Fast.tw14538524611857296032:Unit:=()
def PySem.W.Fast.tw12994523786640492879:Unit:=()
def PySem.W.Fast.tw18326598681269405415:Unit:=()
def PySem.W.Fast.tw12077944690513276441:Unit:=()
def PySem.W.Fast.tw3964291259132342057:Unit:=()
def PySem.W.Fast.tw7063645007983742841:Unit:=()
def PySem.W.Fast.tw1282421466308712847:Unit:=()
def PySem.W.Fast.tw8375170127598385520:Unit:=()
def PySem.W.Fast.tw11951034456138048554:Unit:=()
def PySem.W.Fast.tw525770167441619454:Unit:=()
def PySem.W.Fast.tw1785596655401089570:Unit:=()
def PySem.W.Fast.tw15044675726804375971:Unit:=()
def PySem.W.Fast.tw15025952877799369171:Unit:=()
def PySem.W.Fast.tw2372288924183692738:Unit:=()
def PySem.W.Fast.tw17176572129473139367:Unit:=()
def PySem.W.Fast.tw649677854784672540:Unit:=()
def PySem.W.Fast.tw6767959744363990829:Unit:=()
def PySem.W.Fast.tw3535346926518695371:Unit:=()
def PySem.W.Fast.tw12307877373471394584:Unit:=()
def PySem.W.Fast.tw5229313453115163960:Unit:=()
def PySem.W.Fast.tw1419148337974729940:Unit:=()
def PySem.W.Fast.tw14954260332542101899:Unit:=()
def PySem.W.Fast.tw9020178925469234632:Unit:=()
def PySem.W.Fast.tw1518361669127184905:Unit:=()
def PySem.W.Fast.tw16803389759810190809:Unit:=()
def PySem.W.Fast.tw13766234277105985638:Unit:=()
def PySem.W.Fast.tw9364194441825808840:Unit:=()
def PySem.W.Fast.tw3160952368410090583:Unit:=()
set_option maxRecDepth 100000 in
theorem PySem.Challenge.cw_joinedasks_k55_room_and_kept_holds : PySem.Challenge.rw_joinedasks_k55_room_and_kept.Holds := by
 w_on; o_law; z_head; (case hw=>w_witness2)
 refine My.walkX (fun _=>by kernel_rfl) (My.walk (l:=PySem.Challenge.rw_joinedasks_k55_room_and_kept) rfl rfl (fun w h Y=>Y) ?F)
 case F =>
  intro w mg fa h KX G hmg
  refine' My.all_mk KX G hmg ?aC ?pg ?hd ?po ?sa ?mkc ?kc ?na_depth ?na_room ?na_most_kept ?na_boxes ?na_asks ?na_now ?na_lines ?na_keeping ?na_done_in ?na_logged ?na_found ?na_answers       ?h1 ?h2 ?h3 ?h4 ?h5 ?h6 ?h7 ?h8 ?h9 ?a10 ?i10 ?l10 ?c10 ?k10 ?h11 ?a12 ?i12 ?l12 ?c12 ?k12 ?a13 ?i13 ?l13 ?c13 ?k13 ?h14 ?h15 ?h16 ?h17 ?h18 ?h19 ?h20 ?h21 ?h22 ?a23 ?i23 ?l23 ?c23 ?k23 ?a24 ?i24 ?l24 ?c24 ?k24 ?h25 ?h26 ?h27 ?h28 ?h29 ?h30 ?h31 ?h32 ?h33 ?h34 ?a35 ?i35 ?l35 ?c35 ?k35 ?a36 ?i36 ?l36 ?c36 ?k36 ?a37 ?i37 ?l37 ?c37 ?k37 ?a38 ?i38 ?l38 ?c38 ?k38 ?a39 ?i39 ?l39 ?c39 ?k39 ?a40 ?i40 ?l40 ?c40 ?k40 ?t40 ?h41 ?h42 ?h43 ?h44 ?a45 ?i45 ?l45 ?c45 ?k45 ?h46 ?h47 ?h48 ?h49 ?a50 ?i50 ?l50 ?c50 ?k50 ?h51 ?ga_DEEPEST ?ga_LAST_HAND ?ga_MOST_ASKS ?ga_MOST_BOXES ?ga_MOST_KEPT ?ga_MOST_ROOM ?ga_enumerate ?ga_sorted ?ga_sum ?z_abs ?z_len ?z_max ?z_min ?z_divmod ?z_repr ?z_isinstance ?z_all ?z_range ?z_int ?z_bool ?z_str ?z_tuple ?z_list ?z_dict
  (case aC=>k_is); (case pg=>k_is); (case hd=>k_is); (case po=>k_is); (case sa=>k_is); (case mkc=>k_is); (case kc=>k_is); (case na_depth=>k_is); (case na_room=>k_is); (case na_most_kept=>k_is); (case na_boxes=>k_is); (case na_asks=>k_is); (case na_now=>k_is); (case na_lines=>k_is); (case na_keeping=>k_is); (case na_done_in=>k_is); (case na_logged=>k_is); (case na_found=>k_is); (case na_answers=>k_is)
  (case h1=>exact ⟨by k_is,L2.fun_mk (by k_is) (by k_is) (by k_is)⟩)
  (case h2=>exact ⟨by k_is,L2.fun_mk (by k_is) (by k_is) (by k_is)⟩)
  (case h3=>exact ⟨by k_is,L2.fun_mk (by k_is) (by k_is) (by k_is)⟩)
  (case h4=>exact ⟨by k_is,L2.fun_mk (by k_is) (by k_is) (by k_is)⟩)
  (case h5=>exact ⟨by k_is,L2.fun_mk (by k_is) (by k_is) (by k_is)⟩)
  (case h6=>exact ⟨by k_is,L2.fun_mk (by k_is) (by k_is) (by k_is)⟩)
  (case h7=>exact ⟨by k_is,L2.fun_mk (by k_is) (by k_is) (by k_is)⟩)
  (case h8=>exact ⟨by k_is,L2.fun_mk (by k_is) (by k_is) (by k_is)⟩)
  (case h9=>exact ⟨by k_is,L2.fun_mk (by k_is) (by k_is) (by k_is)⟩)
  (case a10=>k_is); (case i10=>k_is); (case l10=>k_is); (case c10=>k_is); (case k10=>k_is)
  (case h11=>exact ⟨by k_is,L2.fun_mk (by k_is) (by k_is) (by k_is)⟩)
  (case a12=>k_is); (case i12=>k_is); (case l12=>k_is); (case c12=>k_is); (case k12=>k_is)
  (case a13=>k_is); (case i13=>k_is); (case l13=>k_is); (case c13=>k_is); (case k13=>k_is)
  (case h14=>exact ⟨by k_is,L2.fun_mk (by k_is) (by k_is) (by k_is)⟩)
  (case h15=>exact ⟨by k_is,L2.fun_mk (by k_is) (by k_is) (by k_is)⟩)
  (case h16=>exact ⟨by k_is,L2.fun_mk (by k_is) (by k_is) (by k_is)⟩)
  (case h17=>exact ⟨by k_is,L2.fun_mk (by k_is) (by k_is) (by k_is)⟩)
  (case h18=>exact ⟨by k_is,L2.fun_mk (by k_is) (by k_is) (by k_is)⟩)
  (case h19=>exact ⟨by k_is,L2.fun_mk (by k_is) (by k_is) (by k_is)⟩)
  (case h20=>exact ⟨by k_is,L2.fun_mk (by k_is) (by k_is) (by k_is)⟩)
  (case h21=>exact ⟨by k_is,L2.fun_mk (by k_is) (by k_is) (by k_is)⟩)
  (case h22=>exact ⟨by k_is,L2.fun_mk (by k_is) (by k_is) (by k_is)⟩)
  (case a23=>k_is); (case i23=>k_is); (case l23=>k_is); (case c23=>k_is); (case k23=>k_is)
  (case a24=>k_is); (case i24=>k_is); (case l24=>k_is); (case c24=>k_is); (case k24=>k_is)
  (case h25=>exact ⟨by k_is,L2.fun_mk (by k_is) (by k_is) (by k_is)⟩)
  (case h26=>exact ⟨by k_is,L2.fun_mk (by k_is) (by k_is) (by k_is)⟩)
  (case h27=>exact ⟨by k_is,L2.fun_mk (by k_is) (by k_is) (by k_is)⟩)
  (case h28=>exact ⟨by k_is,L2.fun_mk (by k_is) (by k_is) (by k_is)⟩)
  (case h29=>exact ⟨by k_is,L2.fun_mk (by k_is) (by k_is) (by k_is)⟩)
  (case h30=>exact ⟨by k_is,L2.fun_mk (by k_is) (by k_is) (by k_is)⟩)
  (case h31=>exact ⟨by k_is,L2.fun_mk (by k_is) (by k_is) (by k_is)⟩)
  (case h32=>exact ⟨by k_is,L2.fun_mk (by k_is) (by k_is) (by k_is)⟩)
  (case h33=>exact ⟨by k_is,L2.fun_mk (by k_is) (by k_is) (by k_is)⟩)
  (case h34=>exact ⟨by k_is,L2.fun_mk (by k_is) (by k_is) (by k_is)⟩)
  (case a35=>k_is); (case i35=>k_is); (case l35=>k_is); (case c35=>k_is); (case k35=>k_is)
  (case a36=>k_is); (case i36=>k_is); (case l36=>k_is); (case c36=>k_is); (case k36=>k_is)
  (case a37=>k_is); (case i37=>k_is); (case l37=>k_is); (case c37=>k_is); (case k37=>k_is)
  (case a38=>k_is); (case i38=>k_is); (case l38=>k_is); (case c38=>k_is); (case k38=>k_is)
  (case a39=>k_is); (case i39=>k_is); (case l39=>k_is); (case c39=>k_is); (case k39=>k_is)
  (case a40=>k_is); (case i40=>k_is); (case l40=>k_is); (case c40=>k_is); (case k40=>k_is)
  (case t40=>k_is)
  (case h41=>exact ⟨by k_is,L2.fun_mk (by k_is) (by k_is) (by k_is)⟩)
  (case h42=>exact ⟨by k_is,L2.fun_mk (by k_is) (by k_is) (by k_is)⟩)
  (case h43=>exact ⟨by k_is,L2.fun_mk (by k_is) (by k_is) (by k_is)⟩)
  (case h44=>exact ⟨by k_is,L2.fun_mk (by k_is) (by k_is) (by k_is)⟩)
  (case a45=>k_is); (case i45=>k_is); (case l45=>k_is); (case c45=>k_is); (case k45=>k_is)
  (case h46=>exact ⟨by k_is,L2.fun_mk (by k_is) (by k_is) (by k_is)⟩)
  (case h47=>exact ⟨by k_is,L2.fun_mk (by k_is) (by k_is) (by k_is)⟩)
  (case h48=>exact ⟨by k_is,L2.fun_mk (by k_is) (by k_is) (by k_is)⟩)
  (case h49=>exact ⟨by k_is,L2.fun_mk (by k_is) (by k_is) (by k_is)⟩)
  (case a50=>k_is); (case i50=>k_is); (case l50=>k_is); (case c50=>k_is); (case k50=>k_is)
  (case h51=>exact ⟨by k_is,L2.fun_mk (by k_is) (by k_is) (by k_is)⟩)
  (case ga_DEEPEST=>k_is)
  (case ga_LAST_HAND=>k_is)
  (case ga_MOST_ASKS=>k_is)
  (case ga_MOST_BOXES=>k_is)
  (case ga_MOST_KEPT=>k_is)
  (case ga_MOST_ROOM=>k_is)
  (case ga_enumerate=>k_is)
  (case ga_sorted=>k_is)
  (case ga_sum=>k_is)
  (case z_abs=>k_is); (case z_len=>k_is); (case z_max=>k_is); (case z_min=>k_is); (case z_divmod=>k_is); (case z_repr=>k_is); (case z_isinstance=>k_is); (case z_all=>k_is); (case z_range=>k_is); (case z_int=>k_is); (case z_bool=>k_is); (case z_str=>k_is); (case z_tuple=>k_is); (case z_list=>k_is); (case z_dict=>k_is)
