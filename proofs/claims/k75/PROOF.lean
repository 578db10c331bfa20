import PyProof.Rows.All
import Wide.All
import OpenK.AllK
import Wide.FinOn
import Lean
import PyProof.EqAt
import PyProof.EqKinds
import PyProof.TupleCall
import PyProof.NeKinds
import PyProof.Rows.All
import Wide.All
import OpenK.AllK
import Wide.FinOn
import PyProof.EqAt
import PyProof.EqKinds
import PyProof.TupleCall
import PyProof.NeKinds
import PyProof.ReprRoads
import PyProof.ReprLen
import PyProof.Rows.RegStrFacts
import PyProof.Draws
import PyProof.EnumStmt
import PyProof.ZipIter
import PyProof.ListNew
import PyProof.TupleOfGen
import PyProof.ListRange
import PyProof.Rows.Range3
import PyProof.SumWalkG
import PyProof.AutoSeq1
import PyProof.Cells
import PyProof.AutoListH
import PyProof.DictTable
import PyProof.TupleKey
import PyProof.DictRoadsH
import PyProof.DictKinds
import PyProof.ExcBaseAll.ValueError
import PyProof.ExcAttrAll.ValueError
import PyProof.RulesAs
import PyProof.NsDelKeeps
import KE.KDictList
import PyProof.DictCompW
import PyProof.DictItems
import PyProof.DictWalks
import PyProof.Rows.SetFrom
import PyProof.SetRoads
import PyProof.IsiH_list
import PyProof.AttrMiss
import KE.KDictOf
import KE.KSortTup
import PySem.Challenge.RW_joinedasks_k75_whole_gone_together
set_option Elab.async false
set_option linter.all false
set_option maxRecDepth 100000
set_option maxHeartbeats 0
abbrev FG7:=PySem.W.Frag
abbrev VS7:=PySem.Value -> PySem.Shared -> Prop
namespace L2
open PySem PySem.Spec PyProof.Rows
abbrev Key:=Sum Int Str
def Vp:Key -> Value -> Bool
 | .inl k,v=>Value.isInt k v
 | .inr x,v=>Value.isStrOf x v
def keyH (w:World):Key -> Int
 | .inl k=>hashInt k
 | .inr x=>hashStr w x
theorem z8:∀ {k:Key} {v:Value},Vp k v = true -> (∃ i t,k = Sum.inl i /\ v = Value.int i t) \/ (∃ x t,k = Sum.inr x /\ v = Value.str x t)
 | .inl i,v,h=>by
  obtain ⟨t,e⟩:=Value.isInt_shape (k:=i) (v:=v) h
  exact .inl ⟨i,t,rfl,e⟩
 | .inr x,v,h=>by
  obtain ⟨t,e⟩:=Value.isStrOf_shape (x:=x) (v:=v) h
  exact .inr ⟨x,t,rfl,e⟩
theorem Vq (a b:Int):decide ((Sum.inl a:Key) = Sum.inl b) = (a == b):=by
 by_cases e:a = b
 ·subst e; simp
 ·have h:¬ (Sum.inl a:Key) = Sum.inl b:=fun q=>e (Sum.inl.inj q)
  rw [decide_eq_false h]
  exact (beq_eq_false_iff_ne.mpr e).symm
theorem Vr (a b:Str):decide ((Sum.inr a:Key) = Sum.inr b) = decide (a = b):=by
 by_cases e:a = b
 ·subst e; simp
 ·have h:¬ (Sum.inr a:Key) = Sum.inr b:=fun q=>e (Sum.inr.inj q)
  rw [decide_eq_false h,decide_eq_false e]
theorem Vs (a:Int) (b:Str):decide ((Sum.inl a:Key) = Sum.inr b) = false:=decide_eq_false (fun q=>nomatch q)
theorem Vt (a:Str) (b:Int):decide ((Sum.inr a:Key) = Sum.inl b) = false:=decide_eq_false (fun q=>nomatch q)
def ZH (prog:Program) (w:World):PySem.KeyKind prog w Key where
 is:=Vp
 hash:=keyH w
 inj:=fun v a b ha hb=>by
  rcases z8 ha with ⟨i,t,rfl,rfl⟩ | ⟨x,t,rfl,rfl⟩
  ·rcases z8 hb with ⟨j,u,rfl,e⟩ | ⟨y,u,rfl,e⟩
   ·injection e with e1 _; rw [e1]
   ·exact nomatch e
  ·rcases z8 hb with ⟨j,u,rfl,e⟩ | ⟨y,u,rfl,e⟩
   ·exact nomatch e
   ·injection e with e1 _; rw [e1]
 byValue:=fun k v h=>by
  rcases z8 h with ⟨i,t,rfl,rfl⟩ | ⟨x,t,rfl,rfl⟩ <;> rfl
 pyHash:=fun hv h=>by
  rcases z8 hv with ⟨i,t,rfl,rfl⟩ | ⟨x,t,rfl,rfl⟩
  ·exact wpAny_pyHash_int h
  ·exact wpAny_pyHash_str h
 eqBool:=fun hu hv h=>by
  rcases z8 hu with ⟨i,t,rfl,rfl⟩ | ⟨x,t,rfl,rfl⟩
  ·rcases z8 hv with ⟨j,u,rfl,rfl⟩ | ⟨y,u,rfl,rfl⟩
   ·rw [Vq] at h; exact wpAny_eqBool_int h
   ·rw [Vs] at h; exact SeqAt.EqAt.int_str i t y u _ _ _ _ h
  ·rcases z8 hv with ⟨j,u,rfl,rfl⟩ | ⟨y,u,rfl,rfl⟩
   ·rw [Vt] at h; exact SeqAt.EqAt.str_int x t j u _ _ _ _ h
   ·rw [Vr] at h; exact wpAny_eqBool_str h
 «strs»:=fun k x t v h=>by
  rcases z8 h with ⟨i,u,rfl,e⟩ | ⟨y,u,rfl,e⟩
  ·exact nomatch e
  ·injection e with e1 _
   subst e1
   cases v <;> rfl
end L2
namespace L2
open PySem PySem.Spec PyProof.Rows
inductive V where
 | non | bl (b:Bool) | int (i:Int) | str (x:Str) | byt (b:Array UInt8) | flt (b:UInt64) | ref (a:Addr) | ty (n:String)
 deriving DecidableEq
def RelV:V -> Value -> Prop
 | .non,u=>u = Value.none
 | .bl b,u=>u = Value.bool b
 | .int i,u=>∃ t,u = Value.int i t
 | .str x,u=>∃ t,u = Value.str x t
 | .byt b,u=>∃ t,u = Value.bytes b t
 | .flt b,u=>∃ t,u = Value.float b t
 | .ref a,u=>u = Value.ref a
 | .ty n,u=>u = Value.type n
abbrev Vals:List V -> List Value -> Prop:=Paired RelV
theorem Vals.length {xs:List V} {us:List Value} (r:Vals xs us):xs.length = us.length:=Paired.length r
theorem Vals.get:∀ {xs:List V} {us:List Value} {i:Nat} {x:V},Vals xs us -> xs[i]? = some x -> ∃ u,us[i]? = some u /\ RelV x u
 | _,_,_,_,.nil,e=>by simp at e
 | _,_,0,_,.cons r _,e=>by simp at e; subst e; exact ⟨_,rfl,r⟩
 | _,_,i + 1,x,.cons _ t,e=>by
  obtain ⟨u,h1,h2⟩:=Vals.get (i:=i) (x:=x) t (by simpa using e)
  exact ⟨u,by simpa using h1,h2⟩
theorem Vals.set {x:V} {u:Value} (r:RelV x u):∀ {xs:List V} {us:List Value} (i:Nat),Vals xs us -> Vals (xs.set i x) (us.set i u)
 | _,_,_,.nil=>.nil
 | _,_,0,.cons _ t=>.cons r t
 | _,_,i + 1,.cons q t=>.cons q (Vals.set r i t)
theorem Vals.append:∀ {xs ys:List V} {us ws:List Value},Vals xs us -> Vals ys ws -> Vals (xs ++ ys) (us ++ ws)
 | _,_,_,_,.nil,s=>s
 | _,_,_,_,.cons r t,s=>.cons r (Vals.append t s)
theorem Vals.take:∀ {xs:List V} {us:List Value} (n:Nat),Vals xs us -> Vals (xs.take n) (us.take n)
 | _,_,0,_=>.nil
 | _,_,_ + 1,.nil=>.nil
 | _,_,n + 1,.cons r t=>.cons r (Vals.take n t)
theorem Vals.drop:∀ {xs:List V} {us:List Value} (n:Nat),Vals xs us -> Vals (xs.drop n) (us.drop n)
 | _,_,0,r=>r
 | _,_,_ + 1,.nil=>.nil
 | _,_,n + 1,.cons _ t=>Vals.drop n t
def RelO:Option V -> Option Value -> Prop
 | some v,some u=>RelV v u
 | none,none=>True
 | _,_=>False
def KV {κ:Type}:List (κ × V) -> List (κ × Value) -> Prop:=Paired fun (p:κ × V) (q:κ × Value)=>p.1 = q.1 /\ RelV p.2 q.2
def kV:Key -> V
 | .inl i=>.int i
 | .inr x=>.str x
inductive HO where
 /-- a list -/
 | lst (xs:List V)
 /-- a tuple (never changes) -/
 | tup (xs:List V)
 /-- a dict whose keys are ints and texts; one whose keys are tuples of ints and texts (the empty one is both) -/
 | dK (kvs:List (Key × V)) | dT (kvs:List (List Key × V))
 /-- a set of ints: its members,its size -/
 | set (S:Int -> Bool) (n:Nat)
 /-- an instance of the class at C,its dict at dx,its attributes -/
 | ins (C dx:Addr) (fs:List (Str × V))
 /-- the dict of the instance at x -/
 | own (x:Addr)
 /-- the dict of an exception -/
 | xd (fs:List (Str × V))
 /-- a bound method,f of x -/
 | met (f x:Addr)
 /-- a range object lo,lo + 1,.. below hi -/
 | rng (lo hi:Int)
 /-- a thing that is known to the object (the script; a dict while a loop walks it): read,never written while it is so -/
 | frz (o:Obj) (u:HO)
 /-- a code object's table -/
 | tbl (ps:Array Value)
 /-- any other thing,by what is true of its one object (a def of one's own: SetO a S n:=HO.ext fun h=>..) -/
 | ext (φ:Heap -> Prop)
abbrev Hp:=Addr -> Option HO
def upd (H:Hp) (a:Addr) (o:HO):Hp:=fun b=>if b = a then some o else H b
theorem zd {H:Hp} {a:Addr} {o:HO}:upd H a o a = some o:=by unfold upd; rw [if_pos rfl]
theorem zo {H:Hp} {a b:Addr} {o:HO} (h:b ≠ a):upd H a o b = H b:=by unfold upd; rw [if_neg h]
theorem zv {H:Hp} {a b:Addr} {o:HO} (h:H a = some o) (h':H b = none):a ≠ b:=by
 intro e; subst e; rw [h] at h'; cases h'
section
variable (P:Program) (w:World)
def yr (H:Hp) (h:Heap) (a:Addr):HO -> Prop
 | .lst xs=>xs.length <= sizeLine /\ ∃ (its:List Value) (n:Nat),Vals xs its /\ h.get? a = some { cls:=.type "list",data:=.seq its.toArray n }
 | .tup xs=>xs.length <= sizeLine /\ ∃ its:List Value,Vals xs its /\ IsTup h a its.toArray
 | .dK kvs=>kvs.length <= sizeLine /\ (a == sysModules) = false /\ ∃ vs,KV kvs vs /\ h.DictOf (ZH P w) a vs
 | .dT kvs=>kvs.length <= sizeLine /\ (a == sysModules) = false /\ ∃ xs:List (List Key × Addr × Value),
   Paired (fun (p:List Key × V) (q:List Key × Addr × Value)=>p.1 = q.1 /\ H q.2.1 = some (.tup (p.1.map kV)) /\ RelV p.2 q.2.2) kvs xs ∧
   ∃ o es ep,h.get? a = some o /\ o.ExactDict /\ o.data = .dict es ep /\ es.toList = xs.map (entryOfKey (tupleKind (ZH P w))) /\ (xs.map (·.1)).Nodup
 | .set S n=>h.SetOf (intKind P w) a S n
 | .ins C dx fs=>H dx = some (.own a) /\ fs.length <= 1000 /\ dx ≠ a /\ h.get? a = some (PySem.W.instObj C dx) ∧
   ∃ mA,h.Ns1 dx mA /\ (∀ f,RelO (fs.lookup f) (mA f)) /\ PySem.Within mA (fs.map (·.1))
 | .own _=>∃ o,h.get? a = some o
 | .xd fs=>∃ mA,h.Ns1 a mA /\ ∀ f,RelO (fs.lookup f) (mA f)
 | .rng lo hi=>∃ t u v,h.get? a = some { cls:=.type "range",data:=.fields #[.int lo t,.int hi u,.int 1 v] }
 | .frz o u=>h.get? a = some o /\ yr H h a u
 | .tbl ps=>h.get? a = some { cls:=.none,data:=.fields ps }
 | .met f x=>h.get? a = some (PySem.W.methodObj (.ref f) (.ref x))
 | .ext φ=>φ h /\ (∃ o,h.get? a = some o) /\ ∀ h1 h2:Heap,φ h1 -> (∀ o,h1.get? a = some o -> h2.get? a = some o) -> φ h2
def HOk (H:Hp) (h:Heap):Prop:=∀ a o,H a = some o -> yr P w H h a o
end
section
variable {P:Program} {w:World} {H H':Hp} {h h':Heap} {a:Addr} {o:HO}
theorem yr.lt (x:yr P w H h a o):a < h.objs.size:=by
 cases o with
 | lst xs=>obtain ⟨_,_,_,_,e⟩:=x; exact Heap.lt_size e
 | tup xs=>obtain ⟨_,_,_,p⟩:=x; exact p.lt
 | dK kvs=>obtain ⟨_,_,_,_,o,_,_,e,_⟩:=x; exact Heap.lt_size e
 | dT kvs=>obtain ⟨_,_,_,_,o,_,_,e,_⟩:=x; exact Heap.lt_size e
 | set S n=>obtain ⟨o,_,_,_,e,_⟩:=x; exact Heap.lt_size e
 | ins C dx fs=>obtain ⟨_,_,_,e,_⟩:=x; exact Heap.lt_size e
 | own y=>obtain ⟨_,e⟩:=x; exact Heap.lt_size e
 | xd fs=>obtain ⟨_,⟨_,_,_,e,_⟩,_⟩:=x; exact Heap.lt_size e
 | rng lo hi=>obtain ⟨_,_,_,e⟩:=x; exact Heap.lt_size e
 | frz ob u=>obtain ⟨e,_⟩:=x; exact Heap.lt_size e
 | tbl ps=>exact Heap.lt_size (show h.get? a = some _ from x)
 | met f y=>exact Heap.lt_size (show h.get? a = some _ from x)
 | ext φ=>obtain ⟨_,⟨_,e⟩,_⟩:=x; exact Heap.lt_size e
theorem Paired.mapP {α β:Type} {F G:α -> β -> Prop}:∀ {l₁:List α} {l₂:List β},Paired F l₁ l₂ -> (∀ a b,F a b -> G a b) -> Paired G l₁ l₂
 | _,_,.nil,_=>.nil
 | _,_,.cons r t,f=>.cons (f _ _ r) (Paired.mapP t f)
theorem yr.stay (x:yr P w H h a o) (k:∀ b u,(b = a \/ H b = some (.own a)) -> h.get? b = some u -> h'.get? b = some u)
  (ho:∀ b,H b = some (.own a) -> H' b = some (.own a)) (ht:∀ b xs,H b = some (.tup xs) -> H' b = some (.tup xs)):yr P w H' h' a o:=by
 induction o with
 | lst xs=>obtain ⟨z,its,n,r,e⟩:=x; exact ⟨z,its,n,r,k _ _ (.inl rfl) e⟩
 | tup xs=>obtain ⟨z,its,r,ob,e,c⟩:=x; exact ⟨z,its,r,ob,k _ _ (.inl rfl) e,c⟩
 | dK kvs=>obtain ⟨z,y,vs,r,ob,es,ep,e,c⟩:=x; exact ⟨z,y,vs,r,ob,es,ep,k _ _ (.inl rfl) e,c⟩
 | dT kvs =>
  obtain ⟨z,y,xs,r,ob,es,ep,e,c⟩:=x
  exact ⟨z,y,xs,Paired.mapP r fun p q z=>⟨z.1,ht _ _ z.2.1,z.2.2⟩,ob,es,ep,k _ _ (.inl rfl) e,c⟩
 | set S n=>obtain ⟨ob,es,ep,t,e,c⟩:=x; exact ⟨ob,es,ep,t,k _ _ (.inl rfl) e,c⟩
 | ins C dx fs =>
  obtain ⟨d,z,ne,e,mA,⟨od,es,ep,e2,c⟩,r⟩:=x
  exact ⟨ho _ d,z,ne,k _ _ (.inl rfl) e,mA,⟨od,es,ep,k _ _ (.inr d) e2,c⟩,r⟩
 | own y=>obtain ⟨ob,e⟩:=x; exact ⟨ob,k _ _ (.inl rfl) e⟩
 | xd fs=>obtain ⟨mA,⟨od,es,ep,e,c⟩,r⟩:=x; exact ⟨mA,⟨od,es,ep,k _ _ (.inl rfl) e,c⟩,r⟩
 | rng lo hi=>obtain ⟨t,u,v,e⟩:=x; exact ⟨t,u,v,k _ _ (.inl rfl) e⟩
 | frz ob u ih=>obtain ⟨e,q⟩:=x; exact ⟨k _ _ (.inl rfl) e,ih q⟩
 | tbl ps =>
  have e:h.get? a = some { cls:=.none,data:=.fields ps }:=x
  show h'.get? a = some { cls:=.none,data:=.fields ps }
  exact k a _ (.inl rfl) e
 | met f y =>
  have e:h.get? a = some (PySem.W.methodObj (.ref f) (.ref y)):=x
  show h'.get? a = some (PySem.W.methodObj (.ref f) (.ref y))
  exact k a _ (.inl rfl) e
 | ext φ=>obtain ⟨p,⟨o,e⟩,st⟩:=x; exact ⟨st _ _ p fun o q=>k _ _ (.inl rfl) q,⟨o,k _ _ (.inl rfl) e⟩,st⟩
theorem HOk.lt (x:HOk P w H h) (e:H a = some o):a < h.objs.size:=(x a o e).lt
theorem HOk.fresh (x:HOk P w H h) (e:h.objs.size <= a):H a = none:=by
 cases q:H a with
 | none=>rfl
 | some u=>exact absurd (Nat.lt_of_lt_of_le (x.lt q) e) (Nat.lt_irrefl _)
theorem HOk.kept (x:HOk P w H h) (k:∀ b u,h.get? b = some u -> h'.get? b = some u):HOk P w H h':=fun a o e =>
 (x a o e).stay (fun b u _ q=>k b u q) (fun _ q=>q) fun _ _ q=>q
theorem HOk.laid (x:HOk P w H h) (k:∀ b u,h.get? b = some u -> h'.get? b = some u) (hp:h.objs.size <= a) (new:yr P w (upd H a o) h' a o):HOk P w (upd H a o) h':=fun b u e=>by
 have hn:=x.fresh hp
 by_cases hb:b = a
 ·subst hb; rw [zd] at e; cases e; exact new
 ·rw [zo hb] at e
  exact (x b u e).stay (fun c v _ q=>k c v q) (fun c q=>by rw [zo (zv q hn)]; exact q) fun c xs q=>by rw [zo (zv q hn)]; exact q
end
def Rd (H:Hp) (a:Addr) (u:HO):Prop:=H a = some u \/ ∃ o,H a = some (.frz o u)
theorem Rd.ok {P:Program} {w:World} {H:Hp} {h:Heap} {a:Addr} {u:HO} (r:Rd H a u) (x:HOk P w H h):yr P w H h a u:=by
 rcases r with r | ⟨o,r⟩
 ·exact x a u r
 ·obtain ⟨_,q⟩:=x a _ r
  exact q
def Mut:Option HO -> Prop
 | some (.lst _)=>True
 | some (.dK _)=>True
 | some (.dT _)=>True
 | some (.set _ _)=>True
 | some (.ins _ _ _)=>True
 | some (.ext _)=>True
 | _=>False
section
variable {P:Program} {w:World} {H:Hp} {h h':Heap} {x e:Addr} {o':HO}
theorem HOk.write (ok:HOk P w H h) (mu:Mut (H x)) (he:e = x \/ H e = some (.own x)) (k:∀ b u,b ≠ e -> h.get? b = some u -> h'.get? b = some u) (heo:∃ u,h'.get? e = some u)
  (new:yr P w (upd H x o') h' x o'):HOk P w (upd H x o') h':=fun b u q=>by
 have nown:∀ c y,H c = some (.own y) -> c ≠ x:=fun c y r z=>by subst z; rw [r] at mu; exact mu
 have ntup:∀ c xs,H c = some (.tup xs) -> c ≠ x:=fun c xs r z=>by subst z; rw [r] at mu; exact mu
 by_cases hb:b = x
 ·subst hb; rw [zd] at q; cases q; exact new
 ·rw [zo hb] at q
  by_cases hbe:b = e
  ·have q':H b = some (.own x):=by
    rcases he with z | z
    ·exact absurd (hbe.trans z) hb
    ·rw [hbe]; exact z
   rw [q] at q'; cases q'
   obtain ⟨v,hv⟩:=heo
   exact ⟨v,by rw [hbe]; exact hv⟩
  ·refine (ok b u q).stay (fun c v hc r=>k c v ?_ r) (fun c r=>by rw [zo (nown c b r)]; exact r) fun c xs r=>by rw [zo (ntup c xs r)]; exact r
   rcases hc with rfl | hc
   ·exact hbe
   ·rintro rfl
    rcases he with z | z
    ·exact nown c b hc z
    ·rw [hc] at z; cases z; exact hb rfl
end
structure Un (fs ex:List Addr) (H H':Hp) (h h':Heap):Prop where
 keep:∀ b o,h.get? b = some o -> H b = none -> b ∉ fs -> b ∉ ex -> h'.get? b = some o
 slot:∀ b o,h.get? b = some o -> H b = none -> b ∈ fs -> b ∉ ex -> ∃ sl,h'.get? b = some { o with slots:=sl }
 free:∀ b o,h.get? b = some o -> H b = none -> b ∉ ex -> H' b = none
 there:∀ b o,h.get? b = some o -> b ∉ ex -> ∃ o',h'.get? b = some o'
 tups:∀ b xs,H b = some (.tup xs) -> H' b = some (.tup xs)
 frzs:∀ b o u,H b = some (.frz o u) -> H' b = some (.frz o u)
 tbls:∀ b ps,H b = some (.tbl ps) -> ∃ more,H' b = some (.tbl (ps ++ more))
section
variable {fs fs' ex ex':List Addr} {H H1 H2:Hp} {h h1 h2 h':Heap} {a x e:Addr} {o:HO}
theorem Un.any (u:Un fs ex H H1 h h1) {b:Addr} {ob:Obj} (q:h.get? b = some ob) (n:H b = none) (hx:b ∉ ex):∃ sl,h1.get? b = some { ob with slots:=sl }:=by
 by_cases hb:b ∈ fs
 ·exact u.slot b ob q n hb hx
 ·exact ⟨ob.slots,u.keep b ob q n hb hx⟩
theorem Un.trans (a:Un fs ex H H1 h h1) (b:Un fs ex H1 H2 h1 h2):Un fs ex H H2 h h2 where
 keep:=fun c ob q n hc hx=>b.keep c ob (a.keep c ob q n hc hx) (a.free c ob q n hx) hc hx
 slot:=fun c ob q n hc hx=>by
  obtain ⟨sl,e1⟩:=a.slot c ob q n hc hx
  obtain ⟨sl',e2⟩:=b.slot c _ e1 (a.free c ob q n hx) hc hx
  exact ⟨sl',e2⟩
 free:=fun c ob q n hx=>by
  obtain ⟨o',e1⟩:=a.there c ob q hx
  exact b.free c o' e1 (a.free c ob q n hx) hx
 there:=fun c ob q hx=>by
  obtain ⟨o',e1⟩:=a.there c ob q hx
  exact b.there c o' e1 hx
 tups:=fun c xs q=>b.tups c xs (a.tups c xs q)
 frzs:=fun c ob xs q=>b.frzs c ob xs (a.frzs c ob xs q)
 tbls:=fun c ps q=>by
  obtain ⟨m1,e1⟩:=a.tbls c ps q
  obtain ⟨m2,e2⟩:=b.tbls c _ e1
  exact ⟨m1 ++ m2,by rw [e2,Array.append_assoc]⟩
theorem Un.kept (k:∀ b u,h.get? b = some u -> h'.get? b = some u):Un fs ex H H h h' :=
 ⟨fun b ob q _ _ _=>k b ob q,fun b ob q _ _ _=>⟨ob.slots,k b ob q⟩,fun _ _ _ n _=>n,fun b ob q _=>⟨ob,k b ob q⟩,fun _ _ q=>q,fun _ _ _ q=>q,fun _ ps q=>⟨#[],by rw [q]; simp⟩⟩
theorem Un.refl:Un fs ex H H h h:=Un.kept fun _ _ q=>q
theorem Un.laid (k:∀ b u,h.get? b = some u -> h'.get? b = some u) (hp:h.objs.size <= a) (hn:H a = none):Un fs ex H (upd H a o) h h' where
 keep:=fun b u q _ _ _=>k b u q
 slot:=fun b u q _ _ _=>⟨u.slots,k b u q⟩
 free:=fun b u q n _=>by rw [zo (Nat.ne_of_lt (Nat.lt_of_lt_of_le (Heap.lt_size q) hp))]; exact n
 there:=fun b u q _=>⟨u,k b u q⟩
 tups:=fun b xs q=>by rw [zo (zv q hn)]; exact q
 frzs:=fun b u xs q=>by rw [zo (zv q hn)]; exact q
 tbls:=fun b ps q=>⟨#[],by rw [zo (zv q hn),q]; simp⟩
theorem Un.write (mu:Mut (H x)) (he:e = x \/ H e = some (.own x)) (k:∀ b u,b ≠ e -> h.get? b = some u -> h'.get? b = some u) (heo:∃ u,h'.get? e = some u):Un fs ex H (upd H x o) h h':=by
 have hx:∀ b,H b = none -> b ≠ x:=fun b n z=>by subst z; rw [n] at mu; exact mu
 have hb:∀ b,H b = none -> b ≠ e:=fun b n z=>by
  subst z
  rcases he with r | r
  ·exact hx b n r
  ·rw [n] at r; cases r
 have hm:∀ b u,H b = some u -> ¬ Mut (some u) -> b ≠ x:=fun b u q nm z=>by subst z; rw [q] at mu; exact nm mu
 refine ⟨fun b u q n _ _=>k b u (hb b n) q,fun b u q n _ _=>⟨u.slots,k b u (hb b n) q⟩,fun b u q n _=>by rw [zo (hx b n)]; exact n,fun b u q _=>?_,
  fun b xs q=>by rw [zo (hm b _ q fun z=>z)]; exact q,fun b u xs q=>by rw [zo (hm b _ q fun z=>z)]; exact q,fun b ps q=>⟨#[],by rw [zo (hm b _ q fun z=>z),q]; simp⟩⟩
 by_cases hbe:b = e
 ·subst hbe; exact heo
 ·exact ⟨u,k b u hbe q⟩
end
def trk (h:Heap) (H:Hp):List Addr:=(List.range h.objs.size).filter fun a=>(H a).isSome
def hidT (h:Heap) (H:Hp):Heap:=PySem.W.hideAll h (trk h H)
theorem ZI (h:Heap) (H:Hp):(hidT h H).objs.size = h.objs.size:=PySem.W.hideAll_size _ _
theorem Xt {h:Heap} {H:Hp} {b:Addr} {o:Obj} (e:h.get? b = some o) (n:H b = none):(hidT h H).get? b = some o :=
 PySem.W.hideAll_get _ e fun hm=>by
  have q:(H b).isSome = true:=(List.mem_filter.mp hm).2
  rw [n] at q; simp at q
theorem WM {h:Heap} {H:Hp} {b:Addr} {o:Obj} (e:(hidT h H).get? b = some o):h.get? b = some o /\ H b = none:=by
 have e':h.get? b = some o:=PySem.W.of_hideAll (trk h H) e
 refine ⟨e',?_⟩
 cases q:H b with
 | none=>rfl
 | some x =>
  have hm:b ∈ trk h H:=List.mem_filter.mpr ⟨List.mem_range.mpr (Heap.lt_size e'),by simp [q]⟩
  have z:(hidT h H).get? b = none:=PySem.W.hideAll_none (trk h H) hm
  rw [z] at e; cases e
def WN (g h:Heap) (L:Addr):List (Addr × Obj):=(List.range h.objs.size).filterMap fun a=>if a = L \/ (g.get? a).isSome = true then none else (h.get? a).map fun o=>(a,o)
def rest (g h:Heap) (L d:Addr):List (Addr × Obj):=(WN g h L).filter fun p=>decide (p.1 ≠ d)
end L2
namespace L2
open PySem PySem.Spec PyProof.Rows
structure Mod (K:FG7) (mg:Str -> Option Value) (base:Heap):Prop where
 kin:K.In base
 glob:base.Ns mainGlobals mg
 blt:∃ mb,base.Ns builtinsNs mb /\ ∀ x:Str,x ≠ "__name__" -> mb x = bootBuiltins x
 nolimit:base.NoLimit
structure Cx where
 prog:Program
 w:World
 K:FG7
 mg:Str -> Option Value
 base:Heap
 A:Around
 N:List Str
 s₀:Shared
 H₀:Hp
 env:Env
 outer:List Env
 stack:List Env
 ex:List Addr
 fn:Str -> Bool
 calm:Bool
 pn:List (Addr × Obj)
 xe:VS7
def frs (l:List Env):List Addr:=l.filterMap (·.frame)
abbrev Cx.fs (X:Cx):List Addr:=frs X.outer
def Vis (sc:Scope) (x:Str):Prop:=sc.names.lookup x = some .local \/ sc.names.lookup x = some .cell \/ sc.names.lookup x = some .free
def Loc (sc:Scope) (x:Str):Prop:=sc.names.lookup x = some .local \/ sc.names.lookup x = some .cell
def Look (env:Env) (h:Heap) (m:Str -> Option Value) (x:Str) (u:Value):Prop :=
 (env.kindOf x = some .local /\ m x = some u) \/ ((env.kindOf x = some .cell \/ env.kindOf x = some .free) /\ ∃ c,env.cells.lookup x = some c /\ h.IsCell c (some u))
structure Cx.Ok (X:Cx):Prop where
 mod:Mod X.K X.mg X.base
 kind:X.env.scope.kind = .function
 glob:X.env.globals = mainGlobals
 blt:X.env.builtins = builtinsNs
 above:X.s₀.heap.objs.size <= X.env.locals
 inj:∀ x y c,X.env.cells.lookup x = some c -> X.env.cells.lookup y = some c -> x = y
 has:∀ x,(X.env.kindOf x = some .cell \/ X.env.kindOf x = some .free) -> ∃ c,X.env.cells.lookup x = some c
 cab:∀ x c,X.fn x = true -> X.env.cells.lookup x = some c -> X.s₀.heap.objs.size <= c
 hd:X.calm = true -> X.A.handled = none
 frames:X.A.frames = some X.stack
 stk:X.stack = X.outer \/ (X.stack = X.env :: X.outer /\ X.env.frame = some X.env.locals)
 exf:∀ b ∈ X.ex,b ≠ X.env.locals /\ ∀ x c,X.env.cells.lookup x = some c -> c ≠ b
 bs:∀ b o,X.base.get? b = some o -> X.s₀.heap.get? b = some o /\ X.H₀ b = none
 bsz:X.base.objs.size <= X.s₀.heap.objs.size
 noex:∀ b o,X.base.get? b = some o -> b ∉ X.ex
 exfs:∀ b ∈ X.ex,b ∉ X.fs
 funs:X.s₀.heap.FunFrames X.base X.outer
 frf:∀ b ∈ X.fs,X.H₀ b = none
structure Inv (X:Cx) (pins:List (Addr × Obj)) (σ:List (Option V)) (H:Hp) (s:Shared):Prop where
 ok:X.Ok
 os:s.os = X.s₀.os
 bare:AllBare s.gens
 base:Un X.fs X.ex X.H₀ H X.s₀.heap s.heap
 loc:∃ m,s.heap.Ns X.env.locals m /\ ∀ (i:Nat) (x:Str) (v:V),X.N[i]? = some x -> σ[i]? = some (some v) -> Vis X.env.scope x -> ∃ u,RelV v u /\ Look X.env s.heap m x u
 cell:∀ x c,X.env.cells.lookup x = some c -> ∃ v,s.heap.IsCell c v
 free:H X.env.locals = none
 freeC:∀ x c,X.env.cells.lookup x = some c -> H c = none
 pin:∀ p ∈ X.pn ++ pins,s.heap.get? p.1 = some p.2 /\ H p.1 = none /\ p.1 ≠ X.env.locals /\ p.1 ∉ X.fs /\ ∀ v,p.2.data ≠ .cell v
 hok:HOk X.prog X.w H s.heap
 len:σ.length = X.N.length
section
variable {X:Cx} {pins:List (Addr × Obj)} {σ:List (Option V)} {H H':Hp} {s:Shared} {h':Heap}
theorem Cx.Ok.nofr (ok:X.Ok) {b:Addr} {o:Obj} (e:X.base.get? b = some o):b ∉ X.fs:=fun hb=>by
 have:=(ok.funs.mem hb).1
 rw [e] at this; cases this
theorem Inv.bs (I:Inv X pins σ H s):∀ b o,X.base.get? b = some o -> s.heap.get? b = some o /\ H b = none:=fun b o e =>
 ⟨I.base.keep b o (I.ok.bs b o e).1 (I.ok.bs b o e).2 (I.ok.nofr e) (I.ok.noex b o e),I.base.free b o (I.ok.bs b o e).1 (I.ok.bs b o e).2 (I.ok.noex b o e)⟩
theorem Inv.bk (I:Inv X pins σ H s):∀ b o,X.base.get? b = some o -> s.heap.get? b = some o:=fun b o e=>(I.bs b o e).1
theorem Inv.mod (I:Inv X pins σ H s):Mod X.K X.mg X.base:=I.ok.mod
theorem Inv.kIn (I:Inv X pins σ H s):X.K.In s.heap:=I.ok.mod.kin.keeps I.bk
theorem Inv.lt (I:Inv X pins σ H s):X.env.locals < s.heap.objs.size:=let ⟨_,hn,_⟩:=I.loc; hn.lt
theorem Inv.sz (I:Inv X pins σ H s):X.s₀.heap.objs.size <= s.heap.objs.size:=Nat.le_trans I.ok.above (Nat.le_of_lt I.lt)
theorem Inv.nofs (I:Inv X pins σ H s) {a:Addr} (h:s.heap.objs.size <= a):a ∉ X.fs:=fun hb=>by
 obtain ⟨_,o,ho,_⟩:=I.ok.funs.mem hb
 exact absurd (Nat.lt_of_lt_of_le (Heap.lt_size ho) (Nat.le_trans I.sz h)) (Nat.lt_irrefl _)
theorem Inv.cne (I:Inv X pins σ H s):∀ x c,X.env.cells.lookup x = some c -> c ≠ X.env.locals:=fun x c e z=>by
 obtain ⟨v,o,ho,hd⟩:=I.cell x c e
 obtain ⟨m,⟨o',es,ep,ho',hd',_⟩,_⟩:=I.loc
 rw [z,ho'] at ho; cases ho; rw [hd'] at hd; cases hd
theorem Inv.funs (I:Inv X pins σ H s):s.heap.FunFrames X.base X.outer:=by
 have all:∀ (l:List Env),(∀ b ∈ frs l,b ∈ X.fs) -> X.s₀.heap.FunFrames X.base l -> s.heap.FunFrames X.base l:=by
  intro l
  induction l with
  | nil=>intro _ _; trivial
  | cons env r ih =>
   intro hs hl
   obtain ⟨hk,⟨L,o,hf,hn,ho,hd⟩,hr⟩:=hl
   have hL:L ∈ X.fs:=hs L (by unfold frs; rw [List.filterMap_cons,hf]; exact List.mem_cons_self)
   obtain ⟨sl,e⟩:=I.base.slot L o ho (I.ok.frf L hL) hL fun z=>I.ok.exfs L z hL
   exact ⟨hk,⟨L,_,hf,hn,e,hd⟩,ih (fun b hb=>hs b (by unfold frs; rw [List.filterMap_cons,hf]; exact List.mem_cons_of_mem _ hb)) hr⟩
 exact all X.outer (fun _ hb=>hb) I.ok.funs
theorem Inv.stack (I:Inv X pins σ H s):s.heap.FunFrames X.base X.stack:=by
 rcases I.ok.stk with e | ⟨e,hf⟩
 ·rw [e]; exact I.funs
 ·rw [e]
  obtain ⟨m,hn,_⟩:=I.loc
  refine .cons (by rw [I.ok.kind]; decide) hf hn ?_ I.funs
  exact Heap.get?_none_of_le (Nat.le_trans I.ok.bsz I.ok.above)
theorem Inv.stkSub (I:Inv X pins σ H s):∀ b ∈ frs X.stack,b ∈ X.env.locals :: X.fs:=fun b hb=>by
 rcases I.ok.stk with e | ⟨e,hf⟩
 ·rw [e] at hb; exact List.mem_cons_of_mem _ hb
 ·rw [e] at hb
  unfold frs at hb
  rw [List.filterMap_cons,hf] at hb
  exact hb
theorem Inv.stkFree (I:Inv X pins σ H s):∀ b ∈ frs X.stack,H b = none:=fun b hb=>by
 rcases List.mem_cons.mp (I.stkSub b hb) with e | hb
 ·rw [e]; exact I.free
 ·obtain ⟨_,o,ho,_⟩:=I.ok.funs.mem hb
  exact I.base.free b o ho (I.ok.frf b hb) fun z=>I.ok.exfs b z hb
theorem Inv.step {g':Array GenState} {t':Nat} {d':Drawn} {ch:List Addr} (I:Inv X pins σ H s)
  (hch:∀ b ∈ ch,(b ∈ X.ex \/ X.s₀.heap.objs.size <= b) /\ b ≠ X.env.locals /\ (∀ x c,X.env.cells.lookup x = some c -> c ≠ b) /\ ∀ p ∈ X.pn ++ pins,p.1 ≠ b)
  (keep:∀ b o,b ≠ X.env.locals -> b ∉ X.fs -> b ∉ ch -> s.heap.get? b = some o -> H b = none -> h'.get? b = some o)
  (slot:∀ b o,b ≠ X.env.locals -> b ∈ X.fs -> b ∉ ch -> s.heap.get? b = some o -> H b = none -> ∃ sl,h'.get? b = some { o with slots:=sl }) (free:∀ b o,b ∉ ch -> s.heap.get? b = some o -> H b = none -> H' b = none)
  (there:∀ b o,b ∉ ch -> s.heap.get? b = some o -> ∃ o',h'.get? b = some o')
  (tups:∀ b xs,H b = some (.tup xs) -> H' b = some (.tup xs)) (frzs:∀ b o u,H b = some (.frz o u) -> H' b = some (.frz o u)) (tbls:∀ b ps,H b = some (.tbl ps) -> ∃ more,H' b = some (.tbl (ps ++ more)))
  (ns:∀ m,s.heap.Ns X.env.locals m -> h'.Ns X.env.locals m) (hok:HOk X.prog X.w H' h') (hg:AllBare g') :
  Inv X pins σ H' { s with heap:=h',gens:=g',drawn:=d',toks:=t' }:=by
 have neL:∀ b o,X.s₀.heap.get? b = some o -> b ≠ X.env.locals:=fun b o e=>Nat.ne_of_lt (Nat.lt_of_lt_of_le (Heap.lt_size e) I.ok.above)
 have neC:∀ b o,X.s₀.heap.get? b = some o -> b ∉ X.ex -> b ∉ ch:=fun b o e hx hb=>by
  rcases (hch b hb).1 with z | z
  ·exact hx z
  ·exact absurd (Nat.lt_of_lt_of_le (Heap.lt_size e) z) (Nat.lt_irrefl _)
 have cellK:∀ x c,X.env.cells.lookup x = some c -> ∀ v,s.heap.IsCell c v -> h'.IsCell c v:=fun x c e v ⟨o,ho,hd⟩=>by
  have nch:c ∉ ch:=fun z=>(hch c z).2.2.1 x c e rfl
  by_cases hc:c ∈ X.fs
  ·obtain ⟨sl,q⟩:=slot c o (I.cne x c e) hc nch ho (I.freeC x c e)
   exact ⟨_,q,hd⟩
  ·exact ⟨o,keep c o (I.cne x c e) hc nch ho (I.freeC x c e),hd⟩
 refine ⟨I.ok,I.os,hg,⟨fun b o e n hb hx=>?_,fun b o e n hb hx=>?_,fun b o e n hx=>?_,fun b o e hx=>?_,fun b xs e=>tups b xs (I.base.tups b xs e),fun b o xs e=>frzs b o xs (I.base.frzs b o xs e),fun b ps e=>?_⟩,?_,fun x c e=>?_,?_,fun x c e=>?_,fun p hp=>?_,hok,I.len⟩
 ·exact keep b o (neL b o e) hb (neC b o e hx) (I.base.keep b o e n hb hx) (I.base.free b o e n hx)
 ·obtain ⟨sl,e1⟩:=I.base.slot b o e n hb hx
  obtain ⟨sl',e2⟩:=slot b _ (neL b o e) hb (neC b o e hx) e1 (I.base.free b o e n hx)
  exact ⟨sl',e2⟩
 ·obtain ⟨o',e1⟩:=I.base.there b o e hx
  exact free b o' (neC b o e hx) e1 (I.base.free b o e n hx)
 ·obtain ⟨o',e1⟩:=I.base.there b o e hx
  exact there b o' (neC b o e hx) e1
 ·obtain ⟨m1,e1⟩:=I.base.tbls b ps e
  obtain ⟨m2,e2⟩:=tbls b _ e1
  exact ⟨m1 ++ m2,by rw [e2,Array.append_assoc]⟩
 ·obtain ⟨m,hn,hl⟩:=I.loc
  refine ⟨m,ns m hn,fun i x v e1 e2 e3=>?_⟩
  obtain ⟨u,r,l⟩:=hl i x v e1 e2 e3
  refine ⟨u,r,?_⟩
  rcases l with l | ⟨k,c,e,z⟩
  ·exact .inl l
  ·exact .inr ⟨k,c,e,cellK x c e _ z⟩
 ·obtain ⟨v,z⟩:=I.cell x c e
  exact ⟨v,cellK x c e v z⟩
 ·obtain ⟨m,⟨o,_,_,ho,_⟩,_⟩:=I.loc
  exact free _ o (fun z=>(hch _ z).2.1 rfl) ho I.free
 ·obtain ⟨v,o,ho,hd⟩:=I.cell x c e
  exact free c o (fun z=>(hch c z).2.2.1 x c e rfl) ho (I.freeC x c e)
 ·obtain ⟨e,n,ne,nf,d⟩:=I.pin p hp
  have nch:p.1 ∉ ch:=fun z=>(hch p.1 z).2.2.2 p hp rfl
  exact ⟨keep p.1 p.2 ne nf nch e n,free p.1 p.2 nch e n,ne,nf,d⟩
theorem Inv.un {t':Nat} (I:Inv X pins σ H s) (u:Un X.fs [] H H' s.heap h') (hok:HOk X.prog X.w H' h'):Inv X pins σ H' { s with heap:=h',toks:=t' }:=by
 obtain ⟨m,⟨o,es,ep,ho,r⟩,_⟩:=id I.loc
 obtain ⟨sl,hL⟩:=u.any ho I.free (by simp)
 exact I.step (g':=s.gens) (d':=s.drawn) (ch:=[]) (fun _ z=>nomatch z) (fun b o _ hb _ e n=>u.keep b o e n hb (by simp)) (fun b o _ hb _ e n=>u.slot b o e n hb (by simp)) (fun b o _ e n=>u.free b o e n (by simp)) (fun b o _ e=>u.there b o e (by simp)) u.tups u.frzs u.tbls (fun m' hm=>by
  obtain ⟨o',es',ep',ho',r'⟩:=hm
  rw [ho] at ho'; cases ho'
  exact ⟨_,es',ep',hL,r'⟩) hok I.bare
theorem Inv.call {g':Array GenState} {t':Nat} {d':Drawn} {ch:List Addr} (I:Inv X pins σ H s) (u:Un (frs X.stack) ch H H' s.heap h') (hok:HOk X.prog X.w H' h') (hg:AllBare g')
  (hch:∀ b ∈ ch,(b ∈ X.ex \/ X.s₀.heap.objs.size <= b) /\ b ≠ X.env.locals /\ (∀ x c,X.env.cells.lookup x = some c -> c ≠ b) /\ ∀ p ∈ X.pn ++ pins,p.1 ≠ b) :
  Inv X pins σ H' { s with heap:=h',gens:=g',drawn:=d',toks:=t' }:=by
 obtain ⟨m,⟨o,es,ep,ho,r⟩,_⟩:=id I.loc
 obtain ⟨sl,hL⟩:=u.any ho I.free fun z=>(hch _ z).2.1 rfl
 exact I.step (ch:=ch) hch (fun b o hL hb hc e n=>u.keep b o e n (fun z=>(List.mem_cons.mp (I.stkSub b z)).elim hL hb) hc) (fun b o _ _ hc e n=>u.any e n hc) (fun b o hc e n=>u.free b o e n hc) (fun b o hc e=>u.there b o e hc) u.tups u.frzs u.tbls (fun m' hm=>by
  obtain ⟨o',es',ep',ho',r'⟩:=hm
  rw [ho] at ho'; cases ho'
  exact ⟨_,es',ep',hL,r'⟩) hok hg
theorem Inv.turned {t':Nat} {it:Addr} (I:Inv X pins σ H s) (k:∀ b o,b ≠ it -> s.heap.get? b = some o -> h'.get? b = some o) (hn:H it = none) (hL:it ≠ X.env.locals)
  (h1:it ∈ X.ex \/ X.s₀.heap.objs.size <= it) (h2:∀ x c,X.env.cells.lookup x = some c -> c ≠ it) (h3:∀ p ∈ X.pn ++ pins,p.1 ≠ it):Inv X pins σ H { s with heap:=h',toks:=t' }:=by
 have nit:∀ b u,H b = some u -> b ≠ it:=fun b u e z=>by rw [z,hn] at e; cases e
 refine I.step (g':=s.gens) (d':=s.drawn) (ch:=[it]) (fun b hb=>?_) (fun b o _ _ hc e _=>k b o (fun z=>hc (by simp [z])) e) (fun b o _ _ hc e _=>⟨o.slots,k b o (fun z=>hc (by simp [z])) e⟩) (fun _ _ _ _ n=>n)
  (fun b o hc e=>⟨o,k b o (fun z=>hc (by simp [z])) e⟩) (fun _ _ e=>e) (fun _ _ _ e=>e) (fun b ps e=>⟨#[],by rw [e]; simp⟩) (fun m hm=>?_) (fun b u e=>?_) I.bare
 ·have e:b = it:=by simpa using hb
  subst e
  exact ⟨h1,hL,h2,h3⟩
 ·obtain ⟨o,es,ep,ho,r⟩:=hm
  exact ⟨o,es,ep,k _ o (Ne.symm hL) ho,r⟩
 ·refine (I.hok b u e).stay (fun c v hc q=>k c v ?_ q) (fun _ q=>q) fun _ _ q=>q
  rcases hc with z | z
  ·rw [z]; exact nit b u e
  ·exact nit c _ z
theorem Inv.tok (I:Inv X pins σ H s) (t:Nat):Inv X pins σ H { s with toks:=t }:=I.un (h':=s.heap) (t':=t) Un.refl I.hok
theorem Inv.kept {t':Nat} (I:Inv X pins σ H s) (k:∀ b u,s.heap.get? b = some u -> h'.get? b = some u):Inv X pins σ H { s with heap:=h',toks:=t' }:=I.un (Un.kept k) (I.hok.kept k)
theorem Inv.laid {a:Addr} {o:HO} {t':Nat} (I:Inv X pins σ H s) (k:∀ b u,s.heap.get? b = some u -> h'.get? b = some u) (hp:s.heap.objs.size <= a) (new:yr X.prog X.w (upd H a o) h' a o) :
  Inv X pins σ (upd H a o) { s with heap:=h',toks:=t' }:=I.un (Un.laid k hp (I.hok.fresh hp)) (I.hok.laid k hp new)
theorem Inv.write {x e:Addr} {o:HO} {t':Nat} (I:Inv X pins σ H s) (mu:Mut (H x)) (he:e = x \/ H e = some (.own x)) (k:∀ b u,b ≠ e -> s.heap.get? b = some u -> h'.get? b = some u) (heo:∃ u,h'.get? e = some u)
  (new:yr X.prog X.w (upd H x o) h' x o):Inv X pins σ (upd H x o) { s with heap:=h',toks:=t' }:=I.un (Un.write mu he k heo) (I.hok.write mu he k heo new)
theorem Inv.pins_of {pins':List (Addr × Obj)} (I:Inv X pins σ H s) (h:∀ p ∈ pins',s.heap.get? p.1 = some p.2 /\ H p.1 = none /\ p.1 ≠ X.env.locals /\ p.1 ∉ X.fs /\ ∀ v,p.2.data ≠ .cell v):Inv X pins' σ H s :=
 ⟨I.ok,I.os,I.bare,I.base,I.loc,I.cell,I.free,I.freeC,fun p hp=>(List.mem_append.mp hp).elim (fun z=>I.pin p (List.mem_append_left _ z)) (h p),I.hok,I.len⟩
theorem t5 {N:List Str} (hN:N.Nodup) {i j:Nat} {x:Str} (a:N[i]? = some x) (b:N[j]? = some x):i = j:=by
 obtain ⟨h1,e1⟩:=List.getElem?_eq_some_iff.mp a
 obtain ⟨h2,e2⟩:=List.getElem?_eq_some_iff.mp b
 exact (List.getElem_inj hN).mp (e1.trans e2.symm)
theorem ZJ {M:Model} {A:Around} {E:VS7} {i:Nat} {x:Str} {v:V} {u:Value} {Q:Unit -> Shared -> Prop} (I:Inv X pins σ H s) (hN:X.N.Nodup) (hi:X.N[i]? = some x) (hx:Loc X.env.scope x) (r:RelV v u)
  (h:∀ s',Inv X pins (σ.set i (some v)) H s' -> (∃ a,Heap.SameBut a s.heap s'.heap /\ (a = X.env.locals \/ X.env.cells.lookup x = some a)) -> Q () s') (hf:X.fn x = true \/ X.env.scope.names.lookup x = some .local :=by first | exact .inl rfl | exact .inr rfl | assumption):wpAny M A (storeName X.env x u) Q E s:=by
 obtain ⟨m,hn,hl⟩:=id I.loc
 have hcls:(X.env.scope.kind == .class || (X.env.scope.kind == .module && X.env.locals != X.env.globals)) = false:=by rw [I.ok.kind]; rfl
 have hiσ:i < σ.length:=by rw [I.len]; exact (List.getElem?_eq_some_iff.mp hi).1
 have cne:=I.cne
 have tracked:∀ {a:Addr} {h':Heap},(∃ o,s.heap.get? a = some o /\ H a = none) -> Heap.SameBut a s.heap h' -> HOk X.prog X.w H h':=fun {a h'} ha hs b ob e=>by
  obtain ⟨_,_,hfree⟩:=ha
  refine (I.hok b ob e).stay (fun c w' hc q=>(hs.2 c ?_).trans q) (fun _ q=>q) fun _ _ q=>q
  rintro rfl
  rcases hc with rfl | hc
  ·rw [hfree] at e; cases e
  ·rw [hfree] at hc; cases hc
 rcases hx with hk | hk
 ·refine wpAny_storeName_local hk hn (fun h' hn' hs=>?_) hcls
  obtain ⟨oL,_,_,hoL,_⟩:=id hn
  refine h _ ⟨I.ok,I.os,I.bare,⟨fun b o e n hb hx=>?_,fun b o e n hb hx=>?_,I.base.free,fun b o e hx=>?_,I.base.tups,I.base.frzs,I.base.tbls⟩,⟨_,hn',fun j y v' e1 e2 e3=>?_⟩,fun y c e=>?_,I.free,I.freeC,fun p hp=>?_,tracked ⟨oL,hoL,I.free⟩ hs,by simpa using I.len⟩ ⟨_,hs,.inl rfl⟩
  ·exact (hs.2 b (Nat.ne_of_lt (Nat.lt_of_lt_of_le (Heap.lt_size e) I.ok.above))).trans (I.base.keep b o e n hb hx)
  ·obtain ⟨sl,e1⟩:=I.base.slot b o e n hb hx
   exact ⟨sl,(hs.2 b (Nat.ne_of_lt (Nat.lt_of_lt_of_le (Heap.lt_size e) I.ok.above))).trans e1⟩
  ·obtain ⟨o',e1⟩:=I.base.there b o e hx
   exact ⟨o',(hs.2 b (Nat.ne_of_lt (Nat.lt_of_lt_of_le (Heap.lt_size e) I.ok.above))).trans e1⟩
  ·by_cases hj:j = i
   ·subst hj
    rw [hi] at e1; cases e1
    rw [List.getElem?_set_self hiσ] at e2
    cases e2
    exact ⟨u,r,.inl ⟨hk,by simp⟩⟩
   ·rw [List.getElem?_set_ne (Ne.symm hj)] at e2
    obtain ⟨u',r',q⟩:=hl j y v' e1 e2 e3
    refine ⟨u',r',?_⟩
    rcases q with ⟨k,e⟩ | ⟨k,c,e,z⟩
    ·refine .inl ⟨k,?_⟩
     have:y ≠ x:=fun e=>hj (t5 hN e1 (e ▸ hi))
     simp [this,e]
    ·exact .inr ⟨k,c,e,z.sameBut hs (cne y c e)⟩
  ·obtain ⟨w',z⟩:=I.cell y c e
   exact ⟨w',z.sameBut hs (cne y c e)⟩
  ·obtain ⟨e,n,ne,nf,d⟩:=I.pin p hp
   exact ⟨(hs.2 p.1 ne).trans e,n,ne,nf,d⟩
 ·have hfn:X.fn x = true:=by
   rcases hf with z | z
   ·exact z
   ·rw [z] at hk; cases hk
  obtain ⟨c,hc⟩:=I.ok.has x (.inl hk)
  obtain ⟨w',z⟩:=I.cell x c hc
  refine wpAny_storeName_cell I.ok.kind hk hc z (fun h' hc' hs=>?_)
  obtain ⟨oc,hoc,hocd⟩:=id z
  refine h { s with heap:=h' } ⟨I.ok,I.os,I.bare,⟨fun b o e n hb hx=>?_,fun b o e n hb hx=>?_,I.base.free,fun b o e hx=>?_,I.base.tups,I.base.frzs,I.base.tbls⟩,⟨m,hn.sameBut hs (Ne.symm (cne x c hc)),fun j y v' e1 e2 e3=>?_⟩,fun y c' e=>?_,I.free,I.freeC,fun p hp=>?_,tracked ⟨oc,hoc,I.freeC x c hc⟩ hs,by simpa using I.len⟩ ⟨c,hs,.inr hc⟩
  ·exact (hs.2 b (Nat.ne_of_lt (Nat.lt_of_lt_of_le (Heap.lt_size e) (I.ok.cab x c hfn hc)))).trans (I.base.keep b o e n hb hx)
  ·obtain ⟨sl,e1⟩:=I.base.slot b o e n hb hx
   exact ⟨sl,(hs.2 b (Nat.ne_of_lt (Nat.lt_of_lt_of_le (Heap.lt_size e) (I.ok.cab x c hfn hc)))).trans e1⟩
  ·obtain ⟨o',e1⟩:=I.base.there b o e hx
   exact ⟨o',(hs.2 b (Nat.ne_of_lt (Nat.lt_of_lt_of_le (Heap.lt_size e) (I.ok.cab x c hfn hc)))).trans e1⟩
  ·by_cases hj:j = i
   ·subst hj
    rw [hi] at e1; cases e1
    rw [List.getElem?_set_self hiσ] at e2
    cases e2
    exact ⟨u,r,.inr ⟨.inl hk,c,hc,hc'⟩⟩
   ·rw [List.getElem?_set_ne (Ne.symm hj)] at e2
    obtain ⟨u',r',q⟩:=hl j y v' e1 e2 e3
    refine ⟨u',r',?_⟩
    rcases q with q | ⟨k,c',e,z'⟩
    ·exact .inl q
    ·refine .inr ⟨k,c',e,z'.sameBut hs ?_⟩
     rintro rfl
     exact hj (t5 hN e1 (I.ok.inj _ _ _ e hc ▸ hi))
  ·by_cases hcc:c' = c
   ·subst hcc; exact ⟨_,hc'⟩
   ·obtain ⟨w2,z2⟩:=I.cell y c' e
    exact ⟨w2,z2.sameBut hs hcc⟩
  ·obtain ⟨e,n,ne,nf,d⟩:=I.pin p hp
   refine ⟨(hs.2 p.1 ?_).trans e,n,ne,nf,d⟩
   intro q
   rw [q,hoc] at e
   have q':oc = p.2:=Option.some.inj e
   exact d w' (by rw [← q']; exact hocd)
theorem wu {M:Model} {A:Around} {E:VS7} {i:Nat} {x:Str} {v:V} {u:Value} {Q:Unit -> Shared -> Prop} (I:Inv X pins σ H s) (hN:X.N.Nodup) (hi:X.N[i]? = some x) (hx:Loc X.env.scope x) (r:RelV v u)
  (h:∀ s',Inv X pins (σ.set i (some v)) H s' -> Q () s') (hf:X.fn x = true \/ X.env.scope.names.lookup x = some .local :=by first | exact .inl rfl | exact .inr rfl | assumption):wpAny M A (storeName X.env x u) Q E s :=
 ZJ I hN hi hx r (fun s' I' _=>h s' I') hf
theorem Inv.call' {s':Shared} {ch:List Addr} (I:Inv X pins σ H s) (ho:s'.os = s.os) (u:Un (frs X.stack) ch H H' s.heap s'.heap) (hok:HOk X.prog X.w H' s'.heap) (hg:AllBare s'.gens)
  (hch:∀ b ∈ ch,(b ∈ X.ex \/ X.s₀.heap.objs.size <= b) /\ b ≠ X.env.locals /\ (∀ x c,X.env.cells.lookup x = some c -> c ≠ b) /\ ∀ p ∈ X.pn ++ pins,p.1 ≠ b):Inv X pins σ H' s':=by
 obtain ⟨h',g',d',t',o'⟩:=s'
 have e:o' = s.os:=ho
 subst e
 exact I.call (g':=g') (t':=t') (d':=d') u hok hg hch
end
abbrev XK:=Value -> Option Addr -> Hp -> Prop
abbrev St:=List (Option V)
abbrev VK:=V -> Hp -> Prop
abbrev TE:=St -> Hp -> VK -> Prop
abbrev TT:=St -> Hp -> (Bool -> Hp -> Prop) -> Prop
abbrev TA:=St -> Hp -> (List V -> Hp -> Prop) -> Prop
structure Ends where
 nx:St -> Hp -> Prop
 rt:VK
 bk:St -> Hp -> Prop:=fun _ _=>False
 ct:St -> Hp -> Prop:=fun _ _=>False
abbrev TS:=Ends -> St -> Hp -> Prop
def EP (X:Cx) (pins:List (Addr × Obj)) (σ:St) (Q:VK) (u:Value) (s':Shared):Prop:=∃ v H',Inv X pins σ H' s' /\ RelV v u /\ Q v H'
def TP (X:Cx) (pins:List (Addr × Obj)) (σ:St) (Q:Bool -> Hp -> Prop) (b:Bool) (s':Shared):Prop:=∃ H',Inv X pins σ H' s' /\ Q b H'
def AP (X:Cx) (pins:List (Addr × Obj)) (σ:St) (Q:List V -> Hp -> Prop) (us:List Value) (s':Shared):Prop:=∃ vs H',Inv X pins σ H' s' /\ Vals vs us /\ Q vs H'
def SP (X:Cx) (pins:List (Addr × Obj)) (D:Ends) (f:Flow) (s':Shared):Prop :=
 match f with
 | .next=>∃ σ' H',Inv X pins σ' H' s' /\ D.nx σ' H'
 | .brk=>∃ σ' H',Inv X pins σ' H' s' /\ D.bk σ' H'
 | .cont=>∃ σ' H',Inv X pins σ' H' s' /\ D.ct σ' H'
 | .ret u=>∃ v σ' H',Inv X pins σ' H' s' /\ RelV v u /\ D.rt v H'
def PE (X:Cx) (e:Expr) (t:TE):Prop :=
 ∀ (pins:List (Addr × Obj)) (s:Shared) (σ:St) (H:Hp) (Q:VK),Inv X pins σ H s -> t σ H Q -> wpAny (model X.prog X.w) X.A (eval e X.env) (EP X pins σ Q) X.xe s
def PT (X:Cx) (e:Expr) (t:TT):Prop :=
 ∀ (pins:List (Addr × Obj)) (s:Shared) (σ:St) (H:Hp) (Q:Bool -> Hp -> Prop),Inv X pins σ H s -> t σ H Q -> wpAny (model X.prog X.w) X.A (isTrue e X.env (eval e X.env)) (TP X pins σ Q) X.xe s
def PW (X:Cx) (e:Expr) (t:TT):Prop :=
 ∀ (whole:Sem Value) (pins:List (Addr × Obj)) (s:Shared) (σ:St) (H:Hp) (Q:Bool -> Hp -> Prop),Inv X pins σ H s -> t σ H Q -> wpAny (model X.prog X.w) X.A (isTrue e X.env whole) (TP X pins σ Q) X.xe s
theorem PW.pt {X:Cx} {e:Expr} {t:TT} (h:PW X e t):PT X e t:=h _
def PA (X:Cx) (es:List Expr) (t:TA):Prop :=
 ∀ (pos:Pos) (pins:List (Addr × Obj)) (s:Shared) (σ:St) (H:Hp) (Q:List V -> Hp -> Prop),Inv X pins σ H s -> t σ H Q -> wpAny (model X.prog X.w) X.A (spliced (backTo pos (starEach es X.env))) (AP X pins σ Q) X.xe s
def PS (X:Cx) (st:Stmt) (t:TS):Prop :=
 ∀ (pins:List (Addr × Obj)) (s:Shared) (σ:St) (H:Hp) (D:Ends),Inv X pins σ H s -> t D σ H -> wpAny (model X.prog X.w) X.A (exec st X.env) (SP X pins D) X.xe s
def PSs (X:Cx) (st:List Stmt) (t:TS):Prop :=
 ∀ (pins:List (Addr × Obj)) (s:Shared) (σ:St) (H:Hp) (D:Ends),Inv X pins σ H s -> t D σ H -> wpAny (model X.prog X.w) X.A (execs st X.env) (SP X pins D) X.xe s
theorem thn {α:Type} {t:Sem α} {Q Q':α -> Shared -> Prop} {M:Model} {A:Around} {E:VS7} {s:Shared} (h:wpAny M A t Q E s) (hQ:∀ a s,Q a s -> Q' a s):wpAny M A t Q' E s:=wpAny_mono h hQ fun _ _ x=>x
end L2
namespace L2
open PySem PySem.Spec PyProof.Rows
section
variable {X:Cx}
def tVar (i:Nat):TE:=fun σ H Q=>∃ v,σ[i]? = some (some v) /\ Q v H
def tC (v:V):TE:=fun _ H Q=>Q v H
theorem Vu {i:Nat} {x:Str} {pos:Pos} (hN:X.N[i]? = some x) (hv:Vis X.env.scope x) (hd:(x == ("__debug__":Str)) = false:=by decide) (hcd:(x == ("__classdict__":Str)) = false:=by decide):PE X (.Name x pos) (tVar i):=by
 intro pins s σ H Q I h
 obtain ⟨v,e,h⟩:=h
 obtain ⟨m,hn,hl⟩:=I.loc
 obtain ⟨u,r,l⟩:=hl i x v hN e hv
 have fin:EP X pins σ Q u s:=⟨v,H,I,r,h⟩
 rcases l with ⟨hk,hm⟩ | ⟨hk,c,hc,hcell⟩
 ·exact wpAny_Name (wpAny_loadName_local I.ok.kind hk hn hm fin) hd
 ·rcases hk with hk | hk
  ·exact wpAny_Name (wpAny_loadName_cell I.ok.kind hk hc hcell fin) hd
  ·exact wpAny_Name (wpAny_loadName_free I.ok.kind hk hc hcell fin hcd) hd
theorem zh {i j pos}:PE X (.Constant (.int i) j pos) (tC (.int i)):=fun _ _ _ H _ I h=>wpAny_Constant_int ⟨.int i,H,I.tok _,⟨_,rfl⟩,h⟩
theorem yy {b j pos}:PE X (.Constant (.bool b) j pos) (tC (.bl b)):=fun _ _ _ H _ I h=>Constant_bool ⟨.bl b,H,I,rfl,h⟩
theorem xQ {j pos}:PE X (.Constant .none j pos) (tC .non):=fun _ _ _ H _ I h=>Constant_none ⟨.non,H,I,rfl,h⟩
theorem ZK {x j pos}:PE X (.Constant (.str x) j pos) (tC (.str x)):=fun _ _ _ H _ I h=>Calls.Constant_str ⟨.str x,H,I.tok _,⟨_,rfl⟩,h⟩
def Gl (X:Cx) (x:Str):Prop:=X.env.kindOf x = some .globalImplicit
theorem t6 {E:VS7} {pins:List (Addr × Obj)} {s:Shared} {σ:St} {H:Hp} {x:Str} {u:Value} {pos:Pos} {Q:VS7} (I:Inv X pins σ H s) (hg:Gl X x) (hm:X.mg x = some u) (h:Q u s)
  (hd:(x == ("__debug__":Str)) = false:=by decide):wpAny (model X.prog X.w) X.A (eval (.Name x pos) X.env) Q E s :=
 Calls.Name_function_global I.ok.kind hg (Calls.loadGlobal_global (by rw [I.ok.glob]; exact I.mod.glob.keeps I.bk) hm h) hd
theorem vN {E:VS7} {pins:List (Addr × Obj)} {s:Shared} {σ:St} {H:Hp} {x:Str} {u:Value} {pos:Pos} {Q:VS7} (I:Inv X pins σ H s) (hg:Gl X x) (hm:X.mg x = none) (hv:bootBuiltins x = some u) (h:Q u s)
  (hn:x ≠ "__name__":=by decide) (hd:(x == ("__debug__":Str)) = false:=by decide):wpAny (model X.prog X.w) X.A (eval (.Name x pos) X.env) Q E s:=by
 obtain ⟨mb,h1,h2⟩:=I.mod.blt
 exact Calls.Name_function_global I.ok.kind hg (Calls.loadGlobal_builtin (by rw [I.ok.glob]; exact I.mod.glob.keeps I.bk) hm (by rw [I.ok.blt]; exact h1.keeps I.bk) ((h2 x hn).trans hv) h) hd
theorem xq {x:Str} {v:V} {u:Value} {pos:Pos} (hg:Gl X x) (hm:X.mg x = some u) (r:RelV v u) (hd:(x == ("__debug__":Str)) = false:=by decide):PE X (.Name x pos) (tC v) :=
 fun _ _ _ H _ I h=>t6 I hg hm ⟨v,H,I,r,h⟩ hd
theorem WO {x:Str} {v:V} {u:Value} {pos:Pos} (hg:Gl X x) (hm:X.mg x = none) (hv:bootBuiltins x = some u) (r:RelV v u) (hn:x ≠ "__name__":=by decide) (hd:(x == ("__debug__":Str)) = false:=by decide):PE X (.Name x pos) (tC v) :=
 fun _ _ _ H _ I h=>vN I hg hm hv ⟨v,H,I,r,h⟩ hn hd
variable {a b:Expr} {ta tb:TE} {pos:Pos}
def PC (X:Cx) (op:CmpOp) (a b:Expr) (t:TE):Prop :=
 ∀ (pins:List (Addr × Obj)) (s:Shared) (σ:St) (H:Hp) (Q:VK),Inv X pins σ H s -> t σ H Q →
  wpAny (model X.prog X.w) X.A (eval a X.env) (fun v s₁=>wpAny (model X.prog X.w) X.A (eval b X.env) (fun u s₂=>wpAny (model X.prog X.w) X.A (compareOp op v u) (EP X pins σ Q) X.xe s₂) X.xe s₁) X.xe s
theorem jh (b:Expr) {op:CmpOp} (h:op ≠ .In) (h2:op ≠ .NotIn):behindInMarks op b = false:=by
 have e1:(op == CmpOp.In) = false:=by cases op <;> first | rfl | exact absurd rfl h
 have e2:(op == CmpOp.NotIn) = false:=by cases op <;> first | rfl | exact absurd rfl h2
 cases b <;> simp [behindInMarks,e1,e2]
def tIsN (ta:TE):TE:=fun σ H Q=>ta σ H fun x H1=>Q (.bl (decide (x = .non))) H1
def Uf (ta:TE):TE:=fun σ H Q=>ta σ H fun x H1=>Q (.bl (!decide (x = .non))) H1
theorem RelV.none_iff {x:V} {v:Value} (r:RelV x v):(v == Value.none) = decide (x = .non):=by
 cases x with
 | non=>cases r; rfl
 | bl _=>cases r; rfl
 | int _=>obtain ⟨t,rfl⟩:=r; rfl
 | str _=>obtain ⟨t,rfl⟩:=r; rfl
 | byt _=>obtain ⟨t,rfl⟩:=r; rfl
 | flt _=>obtain ⟨t,rfl⟩:=r; rfl
 | ref _=>cases r; rfl
 | ty _=>cases r; rfl
theorem ZL {j pos'} (ha:PE X a ta):PC X .Is a (.Constant .none j pos') (tIsN ta):=by
 intro pins s σ H Q I h
 refine thn (ha pins s σ H _ I h) fun v s1 ⟨x,H1,I1,r1,q1⟩=>?_
 exact Constant_none (is_none_gen ⟨.bl _,H1,I1,by rw [r1.none_iff]; rfl,q1⟩)
theorem ue {j pos'} (ha:PE X a ta):PC X .IsNot a (.Constant .none j pos') (Uf ta):=by
 intro pins s σ H Q I h
 refine thn (ha pins s σ H _ I h) fun v s1 ⟨x,H1,I1,r1,q1⟩=>?_
 exact Constant_none (isnot_none_gen ⟨.bl _,H1,I1,by rw [r1.none_iff]; rfl,q1⟩)
def tB (t:TE):TT:=fun σ H Q=>t σ H fun x H1=>∃ c,x = .bl c /\ Q c H1
theorem Vv {op:CmpOp} {t:TE} (h:PC X op a b t) (h1:behindInMarks op b = false:=by first | exact jh _ (by decide) (by decide) | rfl):PE X (.Compare a [op] [b] pos) t:=fun pins s σ H Q I hw=>wpAny_Compare1 (h pins s σ H Q I hw) h1
theorem vO {op:CmpOp} {t:TE} (h:PC X op a b t) (h1:behindInMarks op b = false:=by first | exact jh _ (by decide) (by decide) | rfl):PT X (.Compare a [op] [b] pos) (tB t):=by
 intro pins s σ H Q I hw
 refine wpAny_isTrue_Compare1 (thn (h pins s σ H _ I hw) fun v s1 h1=>thn h1 fun u s2 h2=>thn h2 fun c s3 ⟨x,H1,I1,r1,q1⟩=>?_) h1
 obtain ⟨d,rfl,q⟩:=q1
 cases r1
 exact wpAny_truthy_bool ⟨H1,I1,q⟩
theorem zR {e:Expr} {t:TE} (h:PE X e t) (he:∀ whole,isTrue e X.env whole = (do let v ← whole; standAt e.pos; holding [v] (truthy v)):=by intro _; rfl):PT X e (tB t):=by
 intro pins s σ H Q I hw
 refine isTrue_plain (thn (h pins s σ H _ I hw) fun v s1 ⟨x,H1,I1,r1,q1⟩=>?_) (he _)
 obtain ⟨d,rfl,q⟩:=q1
 cases r1
 exact wpAny_truthy_bool ⟨H1,I1,q⟩
variable {tA tB':TT} {rest:List Expr}
def tAnd (t u:TT):TT:=fun σ H Q=>t σ H fun c H1=>if c = true then u σ H1 Q else Q false H1
def tOr (t u:TT):TT:=fun σ H Q=>t σ H fun c H1=>if c = true then Q true H1 else u σ H1 Q
def tNot (t:TT):TT:=fun σ H Q=>t σ H fun c H1=>Q (!c) H1
theorem wL (ha:PT X a tA):PW X (.BoolOp .And [a] pos) tA:=by
 intro wh pins s σ H Q I h
 refine isTrue_and (thn (ha pins s σ H Q I h) fun c s1 e=>?_)
 cases c with
 | true=>exact isTrue_and_nil e
 | false=>exact e
theorem xR (ha:PT X a tA):PW X (.BoolOp .Or [a] pos) tA:=by
 intro wh pins s σ H Q I h
 refine isTrue_or (thn (ha pins s σ H Q I h) fun c s1 e=>?_)
 cases c with
 | false=>exact isTrue_or_nil e
 | true=>exact e
theorem vP (ha:PT X a tA) (hb:PW X (.BoolOp .And (b :: rest) pos) tB'):PW X (.BoolOp .And (a :: b :: rest) pos) (tAnd tA tB'):=by
 intro wh pins s σ H Q I h
 refine isTrue_and (thn (ha pins s σ H _ I h) fun c s1 ⟨H1,I1,q1⟩=>?_)
 cases c with
 | true=>exact hb wh pins s1 σ H1 Q I1 q1
 | false=>exact ⟨H1,I1,q1⟩
theorem vv (ha:PT X a tA) (hb:PW X (.BoolOp .Or (b :: rest) pos) tB'):PW X (.BoolOp .Or (a :: b :: rest) pos) (tOr tA tB'):=by
 intro wh pins s σ H Q I h
 refine isTrue_or (thn (ha pins s σ H _ I h) fun c s1 ⟨H1,I1,q1⟩=>?_)
 cases c with
 | true=>exact ⟨H1,I1,q1⟩
 | false=>exact hb wh pins s1 σ H1 Q I1 q1
theorem yp (ha:PT X a tA):PT X (.UnaryOp .Not a pos) (tNot tA):=by
 intro pins s σ H Q I h
 exact isTrue_not (ha pins s σ H (fun c H1=>Q (!c) H1) I h)
def Ug (ta tb:TE):TE:=fun σ H Q=>ta σ H fun x H1=>∃ c,x = .bl c /\ if c = true then tb σ H1 Q else Q (.bl false) H1
def tOrV (ta tb:TE):TE:=fun σ H Q=>ta σ H fun x H1=>∃ c,x = .bl c /\ if c = true then Q (.bl true) H1 else tb σ H1 Q
def Uh (ta:TE):TE:=fun σ H Q=>ta σ H fun x H1=>∃ c,x = .bl c /\ Q (.bl (!c)) H1
theorem xS {op} {t:TE} (h:PE X a t):PE X (.BoolOp op [a] pos) t:=fun pins s σ H Q I hw=>BoolOp_one (h pins s σ H Q I hw)
theorem xw (ha:PE X a ta) (hb:PE X (.BoolOp .And (b :: rest) pos) tb):PE X (.BoolOp .And (a :: b :: rest) pos) (Ug ta tb):=by
 intro pins s σ H Q I h
 refine BoolOp_and (thn (ha pins s σ H _ I h) fun v s1 ⟨x,H1,I1,r1,q1⟩=>?_)
 obtain ⟨c,rfl,q1⟩:=q1
 cases r1
 refine wpAny_truthy_bool ?_
 cases c with
 | true=>exact hb pins s1 σ H1 Q I1 q1
 | false=>exact ⟨.bl false,H1,I1,rfl,q1⟩
theorem Xu (ha:PE X a ta) (hb:PE X (.BoolOp .Or (b :: rest) pos) tb):PE X (.BoolOp .Or (a :: b :: rest) pos) (tOrV ta tb):=by
 intro pins s σ H Q I h
 refine BoolOp_or (thn (ha pins s σ H _ I h) fun v s1 ⟨x,H1,I1,r1,q1⟩=>?_)
 obtain ⟨c,rfl,q1⟩:=q1
 cases r1
 refine wpAny_truthy_bool ?_
 cases c with
 | false=>exact hb pins s1 σ H1 Q I1 q1
 | true=>exact ⟨.bl true,H1,I1,rfl,q1⟩
theorem ji (ha:PE X a ta):PE X (.UnaryOp .Not a pos) (Uh ta):=by
 intro pins s σ H Q I h
 refine UnaryOp_ (thn (ha pins s σ H _ I h) fun v s1 ⟨x,H1,I1,r1,q1⟩=>?_)
 obtain ⟨c,rfl,q1⟩:=q1
 cases r1
 exact not_of (wpAny_truthy_bool ⟨.bl (!c),H1,I1,rfl,q1⟩)
def tIf (t:TT) (ta tb:TE):TE:=fun σ H Q=>t σ H fun c H1=>if c = true then ta σ H1 Q else tb σ H1 Q
theorem Xv {c:Expr} (hc:PT X c tA) (ha:PE X a ta) (hb:PE X b tb):PE X (.IfExp c a b pos) (tIf tA ta tb):=by
 intro pins s σ H Q I h
 refine wpAny_IfExp (thn (hc pins s σ H _ I h) fun d s1 ⟨H1,I1,q1⟩=>?_)
 cases d with
 | true=>exact ha pins s1 σ H1 Q I1 q1
 | false=>exact hb pins s1 σ H1 Q I1 q1
end
end L2
namespace L2
open PySem PySem.Spec PyProof.Rows
def SqL (K:FG7) (H:Hp) (a:Addr) (xs:List V):Prop :=
 Rd H a (.lst xs) ∨
  ∃ (o:Obj) (its:Array Value) (n:Nat),K.lookup a = some o /\ o.cls = .type "list" /\ o.dict = none /\ o.data = .seq its n /\ its.size <= sizeLine /\ Vals xs its.toList
def SqT (K:FG7) (H:Hp) (a:Addr) (xs:List V):Prop :=
 Rd H a (.tup xs) ∨
  ∃ (o:Obj) (its:Array Value) (n:Nat),K.lookup a = some o /\ o.cls = .type "tuple" /\ o.data = .seq its n /\ its.size <= sizeLine /\ Vals xs its.toList
def absV:Value -> Option V
 | .none=>some .non
 | .bool b=>some (.bl b)
 | .int i _=>some (.int i)
 | .str x _=>some (.str x)
 | .bytes b _=>some (.byt b)
 | .float b _=>some (.flt b)
 | .ref a=>some (.ref a)
 | .type n=>some (.ty n)
 | _=>none
theorem RelV.abs {x:V} {u:Value} (r:RelV x u):absV u = some x:=by
 cases x with
 | non=>cases r; rfl
 | bl _=>cases r; rfl
 | int _=>obtain ⟨t,rfl⟩:=r; rfl
 | str _=>obtain ⟨t,rfl⟩:=r; rfl
 | byt _=>obtain ⟨t,rfl⟩:=r; rfl
 | flt _=>obtain ⟨t,rfl⟩:=r; rfl
 | ref _=>cases r; rfl
 | ty _=>cases r; rfl
theorem RelV.inj {x y:V} {u:Value} (r:RelV x u) (q:RelV y u):x = y:=Option.some.inj (r.abs.symm.trans q.abs)
theorem Vals.inj:∀ {xs ys:List V} {us:List Value},Vals xs us -> Vals ys us -> xs = ys
 | _,_,_,.nil,.nil=>rfl
 | _,_,_,.cons r t,.cons r' t'=>by rw [r.inj r',Vals.inj t t']
section
variable {X:Cx} {pins:List (Addr × Obj)} {σ:St} {H:Hp} {s:Shared} {a:Addr} {xs ys:List V}
theorem SqL.of {K:FG7} (h:H a = some (.lst xs)):SqL K H a xs:=.inl (.inl h)
theorem SqT.of {K:FG7} (h:H a = some (.tup xs)):SqT K H a xs:=.inl (.inl h)
theorem Inv.list (I:Inv X pins σ H s) (h:SqL X.K H a xs):∃ its:List Value,Vals xs its /\ PlainL s.heap a its.toArray /\ xs.length <= sizeLine:=by
 rcases h with h | ⟨o,its,n,hk,hc,hd,hs,hz,r⟩
 ·obtain ⟨z,its,n,r,e⟩:=h.ok I.hok
  exact ⟨its,r,⟨_,n,e,rfl,rfl,rfl⟩,z⟩
 ·refine ⟨its.toList,r,⟨o,n,I.kIn a o hk,hc,hd,by simpa using hs⟩,?_⟩
  have e:=r.length
  simp only [Array.length_toList] at e
  omega
theorem Inv.tuple (I:Inv X pins σ H s) (h:SqT X.K H a xs):∃ its:List Value,Vals xs its /\ IsTup s.heap a its.toArray /\ xs.length <= sizeLine:=by
 rcases h with h | ⟨o,its,n,hk,hc,hs,hz,r⟩
 ·obtain ⟨z,its,r,p⟩:=h.ok I.hok
  exact ⟨its,r,p,z⟩
 ·refine ⟨its.toList,r,⟨o,I.kIn a o hk,hc,n,by simpa using hs⟩,?_⟩
  have e:=r.length
  simp only [Array.length_toList] at e
  omega
theorem Inv.list_inj (I:Inv X pins σ H s) (h:SqL X.K H a xs) (h':SqL X.K H a ys):xs = ys:=by
 obtain ⟨its,r,⟨o,n,e,_,_,d⟩,_⟩:=I.list h
 obtain ⟨its',r',⟨o',n',e',_,_,d'⟩,_⟩:=I.list h'
 rw [e] at e'; cases e'
 rw [d] at d'
 injection d' with d1 _
 have:its = its':=by simpa using congrArg Array.toList d1
 subst this
 exact r.inj r'
theorem Inv.tuple_inj (I:Inv X pins σ H s) (h:SqT X.K H a xs) (h':SqT X.K H a ys):xs = ys:=by
 obtain ⟨its,r,⟨o,e,_,n,d⟩,_⟩:=I.tuple h
 obtain ⟨its',r',⟨o',e',_,n',d'⟩,_⟩:=I.tuple h'
 rw [e] at e'; cases e'
 rw [d] at d'
 injection d' with d1 _
 have:its = its':=by simpa using congrArg Array.toList d1
 subst this
 exact r.inj r'
end
abbrev Cx.wish (X:Cx) (E:VS7):Cx:={ X with xe:=E }
abbrev Cx.nox (X:Cx):Cx:=X.wish fun _ _=>False
theorem Cx.Ok.wish {X:Cx} (ok:X.Ok) (E:VS7):(X.wish E).Ok :=
 ⟨ok.mod,ok.kind,ok.glob,ok.blt,ok.above,ok.inj,ok.has,ok.cab,ok.hd,ok.frames,ok.stk,ok.exf,ok.bs,ok.bsz,ok.noex,ok.exfs,ok.funs,ok.frf⟩
theorem Cx.Ok.unwish {X:Cx} {E:VS7} (ok:(X.wish E).Ok):X.Ok :=
 ⟨ok.mod,ok.kind,ok.glob,ok.blt,ok.above,ok.inj,ok.has,ok.cab,ok.hd,ok.frames,ok.stk,ok.exf,ok.bs,ok.bsz,ok.noex,ok.exfs,ok.funs,ok.frf⟩
section
variable {X:Cx} {pins:List (Addr × Obj)} {σ:St} {H:Hp} {s:Shared} {E:VS7}
theorem Inv.wish (I:Inv X pins σ H s) (E:VS7):Inv (X.wish E) pins σ H s:=⟨I.ok.wish E,I.os,I.bare,I.base,I.loc,I.cell,I.free,I.freeC,I.pin,I.hok,I.len⟩
theorem Inv.unwish (I:Inv (X.wish E) pins σ H s):Inv X pins σ H s:=⟨I.ok.unwish,I.os,I.bare,I.base,I.loc,I.cell,I.free,I.freeC,I.pin,I.hok,I.len⟩
theorem SP.unwish {D:Ends} {f:Flow} {s':Shared} (h:SP (X.wish E) pins D f s'):SP X pins D f s':=by
 cases f with
 | next=>obtain ⟨σ',H',I,q⟩:=h; exact ⟨σ',H',I.unwish,q⟩
 | brk=>obtain ⟨σ',H',I,q⟩:=h; exact ⟨σ',H',I.unwish,q⟩
 | cont=>obtain ⟨σ',H',I,q⟩:=h; exact ⟨σ',H',I.unwish,q⟩
 | ret u=>obtain ⟨v,σ',H',I,r,q⟩:=h; exact ⟨v,σ',H',I.unwish,r,q⟩
theorem PSs.nox {st:List Stmt} {t:TS} (h:PSs X.nox st t):PSs X st t:=fun pins s σ H D I hw =>
 wpAny_mono (h pins s σ H D (I.wish _) hw) (fun _ _ q=>q.unwish) fun _ _ z=>False.elim z
end
section
variable {X:Cx} {st:Stmt} {rest:List Stmt} {t u:TS} {e:Expr} {te:TE} {pos:Pos}
def Vw:TS:=fun D σ H=>D.nx σ H
def tSeq (t u:TS):TS:=fun D σ H=>t { D with nx:=u D } σ H
theorem zy:PSs X [] Vw:=fun _ _ σ H _ I h=>wpAny_execs_nil ⟨σ,H,I,h⟩
theorem ze (h1:PS X st t) (h2:PSs X rest u):PSs X (st :: rest) (tSeq t u):=by
 intro pins s σ H D I h
 refine wpAny_execs_cons (thn (h1 pins s σ H { D with nx:=u D } I h) fun f s1 q=>?_)
 cases f with
 | next =>
  obtain ⟨σ',H',I',q⟩:=q
  exact h2 pins s1 σ' H' D I' q
 | ret v=>exact q
 | brk=>exact q
 | cont=>exact q
theorem zg (h1:PS X st t):PSs X [st] t:=by
 intro pins s σ H D I h
 refine wpAny_execs_cons (thn (h1 pins s σ H D I h) fun f s1 q=>?_)
 cases f with
 | next=>exact wpAny_execs_nil q
 | ret v=>exact q
 | brk=>exact q
 | cont=>exact q
theorem Inv.quiet {pins:List (Addr × Obj)} {σ:St} {H:Hp} {s:Shared} (I:Inv X pins σ H s):interactive X.env = false:=by simp [interactive,I.ok.kind]
def Ui (te:TE):TS:=fun D σ H=>te σ H fun _ H1=>D.nx σ H1
theorem xX (he:PE X e te) (hs:swapsWith e none pos.line X.env = pure false:=by rfl):PS X (.Expr e pos) (Ui te):=by
 intro pins s σ H D I h
 exact wpAny_Expr_any (thn (he pins s σ H _ I h) fun v s1 ⟨x,H1,I1,r1,q1⟩=>⟨σ,H1,I1,q1⟩) I.quiet hs
def tRet (te:TE):TS:=fun D σ H=>te σ H D.rt
theorem zq (he:PE X e te):PS X (.Return (some e) pos) (tRet te):=by
 intro pins s σ H D I h
 exact wpAny_Return_some (thn (he pins s σ H _ I h) fun v s1 ⟨x,H1,I1,r1,q1⟩=>⟨x,σ,H1,I1,r1,q1⟩)
def tIfS (c:TT) (t u:TS):TS:=fun D σ H=>c σ H fun b H1=>if b = true then t D σ H1 else u D σ H1
theorem zV {c:Expr} {a b:List Stmt} {tc:TT} (hc:PT X c tc) (ha:PSs X a t) (hb:PSs X b u):PS X (.If c a b pos) (tIfS tc t u):=by
 intro pins s σ H D I h
 refine wpAny_If (thn (hc pins s σ H _ I h) fun d s1 ⟨H1,I1,q1⟩=>?_)
 cases d with
 | true=>exact ha pins s1 σ H1 D I1 q1
 | false=>exact hb pins s1 σ H1 D I1 q1
def Vx:TS:=fun _ _ _=>False
theorem jj:PS X st Vx:=fun _ _ _ _ _ _ h=>h.elim
end
abbrev TG:=V -> St -> Hp -> (St -> Hp -> Prop) -> Prop
abbrev TGs:=List V -> St -> Hp -> (St -> Hp -> Prop) -> Prop
def PG (X:Cx) (target:Expr) (t:TG):Prop :=
 ∀ (pins:List (Addr × Obj)) (s:Shared) (σ:St) (H:Hp) (v:V) (u:Value) (Q:St -> Hp -> Prop),Inv X pins σ H s -> RelV v u -> t v σ H Q →
  wpAny (model X.prog X.w) X.A (assign target X.env u) (fun _ s'=>∃ σ' H',Inv X pins σ' H' s' /\ Q σ' H') X.xe s
def PGs (X:Cx) (ts:List Expr) (t:TGs):Prop :=
 ∀ (pins:List (Addr × Obj)) (s:Shared) (σ:St) (H:Hp) (vs:List V) (us:List Value) (Q:St -> Hp -> Prop),Inv X pins σ H s -> Vals vs us -> t vs σ H Q →
  wpAny (model X.prog X.w) X.A (assignInOrder ((assignEach ts X.env).map (·.2)) us) (fun _ s'=>∃ σ' H',Inv X pins σ' H' s' /\ Q σ' H') X.xe s
abbrev TSet:=V -> V -> V -> Hp -> (Hp -> Prop) -> Prop
def PSet (X:Cx) (t:TSet):Prop :=
 ∀ (pins:List (Addr × Obj)) (s:Shared) (σ:St) (H:Hp) (o i v:V) (ov iv u:Value) (Q:Hp -> Prop),Inv X pins σ H s -> RelV o ov -> RelV i iv -> RelV v u -> t o i v H Q →
  wpAny (model X.prog X.w) X.A (setItem ov iv u) (fun _ s'=>∃ H',Inv X pins σ H' s' /\ Q H') X.xe s
section
variable {X:Cx} {pos:Pos}
def uf (i:Nat):TG:=fun v σ H Q=>Q (σ.set i (some v)) H
theorem zm {i:Nat} {x:Str} (hN:X.N.Nodup) (hi:X.N[i]? = some x) (hx:Loc X.env.scope x) (hf:X.fn x = true \/ X.env.scope.names.lookup x = some .local :=by first | exact .inl rfl | exact .inr rfl | assumption):PG X (.Name x pos) (uf i):=by
 intro pins s σ H v u Q I r h
 exact wpAny_assign_Name (wu I hN hi hx r (fun s' I'=>⟨_,H,I',h⟩) hf)
def gNil:TGs:=fun vs σ H Q=>vs = [] /\ Q σ H
def Uj (t:TG) (u:TGs):TGs:=fun vs σ H Q=>∃ v r,vs = v :: r /\ t v σ H fun σ' H'=>u r σ' H' Q
theorem yk:PGs X [] gNil:=by
 intro pins s σ H vs us Q I r h
 obtain ⟨e,h⟩:=h
 subst e
 cases r
 exact assignInOrder_nil ⟨σ,H,I,h⟩
theorem zn {e:Expr} {es:List Expr} {t:TG} {u:TGs} (h1:PG X e t) (h2:PGs X es u)
  (hs:(assignEach (e :: es) X.env).map (·.2) = assign e X.env :: (assignEach es X.env).map (·.2):=by rfl):PGs X (e :: es) (Uj t u):=by
 intro pins s σ H vs us Q I r h
 obtain ⟨v,vr,e1,h⟩:=h
 subst e1
 cases r with
 | cons r rr =>
  rw [hs]
  refine assignInOrder_cons (thn (h1 pins s σ H _ _ _ I r h) fun _ s1 ⟨σ1,H1,I1,q1⟩=>?_)
  exact h2 pins s1 σ1 H1 _ _ Q I1 rr q1
def gTup (K:FG7) (n:Nat) (t:TGs):TG:=fun v σ H Q=>∃ a xs,v = .ref a /\ SqT K H a xs /\ xs.length = n /\ t xs σ H Q
theorem xi {es:List Expr} {k:Nat} {t:TGs} {n:Nat} (hc:X.calm = true) (h:PGs X es t)
  (hn:(assignEach es X.env).length = n:=by rfl) (hst:(assignEach es X.env).findIdx? (·.1) = none:=by rfl):PG X (.Tuple es k pos) (gTup X.K n t):=by
 intro pins s σ H v u Q I r hw
 obtain ⟨a,xs,e1,hq,hl,hw⟩:=hw
 subst e1
 cases r
 obtain ⟨its,rv,ht,hz⟩:=I.tuple hq
 refine assign_Tuple_tuple (I.ok.hd hc) ht (by simp [hn,← hl,rv.length]) hst fun h' hx=>?_
 have I1:Inv X pins σ H { s with heap:=h' }:=I.kept (t':=s.toks) fun b o e=>hx b o (Nat.ne_of_lt (Heap.lt_size e)) e
 exact h pins _ σ H xs _ Q I1 (by simpa using rv) hw
def gSub (to ti:TE) (t:TSet):TG:=fun v σ H Q=>to σ H fun o H1=>ti σ H1 fun i H2=>t o i v H2 fun H3=>Q σ H3
theorem u9 {o i:Expr} {to ti:TE} {t:TSet} (ho:PE X o to) (hi:PE X i ti) (hs:PSet X t)
  (ha:∀ v,assign (.Subscript o i pos) X.env v = (do
   let ov ← holding [v] (eval o X.env)
   let iv ← holding [v,ov] (eval i X.env)
   standAt pos
   holding [v,ov,iv] (setItem ov iv v)
   release [v,ov,iv] []):=by intro _; rfl):PG X (.Subscript o i pos) (gSub to ti t):=by
 intro pins s σ H v u Q I r h
 rw [ha]
 refine wpAny_bind (wpAny_holding (thn (ho pins s σ H _ I h) fun ov s1 ⟨x,H1,I1,r1,q1⟩=>?_))
 refine wpAny_bind (wpAny_holding (thn (hi pins s1 σ H1 _ I1 q1) fun iv s2 ⟨y,H2,I2,r2,q2⟩=>?_))
 refine wpAny_bind (wpAny_standAt (wpAny_bind (wpAny_holding (thn (hs pins s2 σ H2 x y v ov iv u _ I2 r1 r2 r q2) fun _ s3 ⟨H3,I3,q3⟩=>?_))))
 exact wpAny_release ⟨σ,H3,I3,q3⟩
def tAsg (te:TE) (g:TG):TS:=fun D σ H=>te σ H fun x H1=>g x σ H1 D.nx
theorem xj {tg e:Expr} {te:TE} {g:TG} (he:PE X e te) (hg:PG X tg g) (hs:swapsWithSole [tg] e pos.line X.env = pure false:=by rfl) (hw:swappedStores [tg] e X.env = pure none:=by rfl)
  (h1:(assignEach [tg] X.env).map (·.2) = [assign tg X.env]:=by rfl):PS X (.Assign [tg] e pos) (tAsg te g):=by
 intro pins s σ H D I h
 refine wpAny_Assign_stores (thn (he pins s σ H _ I h) fun v s1 ⟨x,H1,I1,r1,q1⟩=>?_) hs hw
 rw [h1]
 exact thn (hg pins s1 σ H1 x v _ I1 r1 q1) fun _ s2 q=>q
theorem zz {i:Nat} {x:Str} {e:Expr} {te:TE} {pos':Pos} (hN:X.N.Nodup) (hi:X.N[i]? = some x) (hx:Loc X.env.scope x) (he:PE X e te) (hs:swapsWith e (some (.Name x pos')) pos.line X.env = pure false:=by rfl) (hf:X.fn x = true \/ X.env.scope.names.lookup x = some .local :=by first | exact .inl rfl | exact .inr rfl | assumption) :
  PS X (.Assign [.Name x pos'] e pos) (tAsg te (uf i)):=by
 intro pins s σ H D I h
 refine wpAny_Assign_Name (thn (he pins s σ H _ I h) fun v s1 ⟨y,H1,I1,r1,q1⟩=>?_) hs
 exact wu I1 hN hi hx r1 (fun s2 I2=>⟨_,H1,I2,q1⟩) hf
def tPar (i j:Nat) (ta:TA):TS:=fun D σ H=>ta σ H fun vs H1=>∃ v w,vs = [v,w] /\ D.nx ((σ.set i (some v)).set j (some w)) H1
theorem Vy {i j:Nat} {x y:Str} {a b:Expr} {ta:TA} {px py pt:Pos} {kt k2 pt2} (hc:X.calm = true) (hN:X.N.Nodup) (hi:X.N[i]? = some x) (hj:X.N[j]? = some y) (hij:i ≠ j)
  (hx:X.env.scope.names.lookup x = some .local) (hy:X.env.scope.names.lookup y = some .local) (ha:PA X [a,b] ta)
  (hw:swappedStores [.Tuple [.Name x px,.Name y py] kt pt] (.Tuple [a,b] k2 pt2) X.env = pure (some [x,y]))
  (hs:swapsWithSole [.Tuple [.Name x px,.Name y py] kt pt] (.Tuple [a,b] k2 pt2) pos.line X.env = pure false:=by rfl) :
  PS X (.Assign [.Tuple [.Name x px,.Name y py] kt pt] (.Tuple [a,b] k2 pt2) pos) (tPar i j ta):=by
 intro pins s σ H D I h
 rw [exec_Assign_arm]
 refine wpAny_bind (wpAny_standAt ?_)
 rw [hs]
 refine wpAny_bind (wpAny_pure ?_)
 rw [if_neg (by decide)]
 refine wpAny_bind (Tuple_ (thn (ha _ pins s σ H _ I h) fun us s1 ⟨vs,H1,I1,r1,q1⟩=>?_))
 obtain ⟨v,w,e1,q1⟩:=q1
 subst e1
 obtain ⟨u1,u2,rfl,rv,rw'⟩:∃ u1 u2,us = [u1,u2] /\ RelV v u1 /\ RelV w u2:=by
  cases r1 with
  | cons p q =>
   cases q with
   | cons p' q' =>
    cases q'
    exact ⟨_,_,rfl,p,p'⟩
 refine wpAny_newObj_type ?_ (by show 2 <= sizeLine; decide)
 have I2:Inv X pins σ H1 { s1 with heap:=s1.heap.push { cls:=.type "tuple",data:=.seq [u1,u2].toArray } }:=I1.kept (t':=s1.toks) fun b o e=>Heap.get?_push_of_some _ e
 rw [hw]
 refine wpAny_bind (wpAny_pure ?_)
 show wpAny (model X.prog X.w) X.A (do rule "assign.swapped-stores"; let items ← unpackItems (.ref s1.heap.objs.size) 2 none; assignInOrder [fun v=>bindName X.env y v,fun v=>bindName X.env x v] items.reverse; pure Flow.next) _ _ _
 refine wpAny_bind (wpAny_rule (wpAny_bind (unpackItems_tuple (items:=#[u1,u2]) (I.ok.hd hc) (IsTup.new s1.heap _) fun h' hx'=>?_)))
 have I3:=I2.kept (h':=h') (t':=s1.toks) fun b o e=>hx' b o (Nat.ne_of_lt (Heap.lt_size e)) e
 show wpAny _ _ (assignInOrder [fun v=>bindName X.env y v,fun v=>bindName X.env x v] [u2,u1] >>= fun _=>pure Flow.next) _ _ _
 refine wpAny_bind (assignInOrder_cons (wpAny_bindName (wu I3 hN hj (.inl hy) rw' (fun s2 I4=>?_) (.inr hy))))
 refine assignInOrder_cons (wpAny_bindName (wu I4 hN hi (.inl hx) rv (fun s3 I5=>assignInOrder_nil (wpAny_pure ?_)) (.inr hx)))
 rw [List.set_comm _ _ (Ne.symm hij)] at I5
 exact ⟨_,H1,I5,q1⟩
end
section
variable {X:Cx} {pos:Pos}
def Wo (c:TT) (tb:TS):TS:=fun D σ H=>∃ W:Nat -> St -> Hp -> Prop,(∃ m,W m σ H) /\ ∀ m σ H,W m σ H →
 c σ H fun b H1=>if b = true then ∃ N:St -> Hp -> Prop,(∀ σ' H',N σ' H' -> ∃ m',m' < m /\ W m' σ' H') /\ tb { D with nx:=N,ct:=N,bk:=D.nx } σ H1 else D.nx σ H1
theorem Xw {c:Expr} {body:List Stmt} {tc:TT} {tb:TS} (hp:PassesOwn (model X.prog X.w) X.A X.env X.xe) (hc:PT X c tc) (hb:PSs X body tb):PS X (.While c body [] pos) (Wo tc tb):=by
 intro pins s σ H D I h
 obtain ⟨W,⟨m0,w0⟩,turn⟩:=h
 refine wpAny_While (codeAny_whileLoop (fun n s'=>∃ σ' H',Inv X pins σ' H' s' /\ W n σ' H') ?_ m0 ⟨σ,H,I,w0⟩)
 rintro n s1 ⟨σ1,H1,I1,w1⟩
 refine wpAny_passesOwn hp (thn (hc pins s1 σ1 H1 _ I1 (turn n σ1 H1 w1)) fun b s2 ⟨H2,I2,q2⟩=>?_)
 cases b with
 | true =>
  obtain ⟨N,hN,q2⟩:=q2
  rw [if_pos rfl]
  refine wpAny_passesOwn hp (thn (hb pins s2 σ1 H2 _ I2 q2) fun f s3 q3=>?_)
  cases f with
  | next =>
   obtain ⟨σ3,H3,I3,n3⟩:=q3
   obtain ⟨m',hm,w3⟩:=hN σ3 H3 n3
   exact ⟨m',hm,σ3,H3,I3,w3⟩
  | cont =>
   obtain ⟨σ3,H3,I3,n3⟩:=q3
   obtain ⟨m',hm,w3⟩:=hN σ3 H3 n3
   exact ⟨m',hm,σ3,H3,I3,w3⟩
  | brk=>exact q3
  | ret v=>exact q3
 | false =>
  rw [if_neg Bool.false_ne_true]
  exact wpAny_execs_nil ⟨σ1,H2,I2,q2⟩
end
structure It where
 go:Nat -> Hp -> Prop
 yld:Nat -> Hp -> V -> Hp -> Prop
 stop:Nat -> Hp -> Prop
def FpOk (X:Cx) (pins:List (Addr × Obj)) (H:Hp) (b:Addr):Prop :=
 H b = none /\ b ≠ X.env.locals /\ b ∉ X.fs /\ (b ∈ X.ex \/ X.s₀.heap.objs.size <= b) /\ (∀ x c,X.env.cells.lookup x = some c -> c ≠ b) /\ ∀ p ∈ X.pn ++ pins,p.1 ≠ b
theorem Inv.fpOk {X:Cx} {pins:List (Addr × Obj)} {σ:St} {H H':Hp} {s:Shared} {b:Addr} (I:Inv X pins σ H s) (hb:s.heap.objs.size <= b) (hn:H' b = none):FpOk X pins H' b:=by
 refine ⟨hn,Nat.ne_of_gt (Nat.lt_of_lt_of_le I.lt hb),I.nofs hb,.inr (Nat.le_trans I.sz hb),fun x c e z=>?_,fun p hp z=>?_⟩
 ·obtain ⟨v,q⟩:=I.cell x c e
  exact absurd (Nat.lt_of_lt_of_le q.lt (by rw [z]; exact hb)) (Nat.lt_irrefl _)
 ·exact absurd (Nat.lt_of_lt_of_le (Heap.lt_size (I.pin p hp).1) (by rw [z]; exact hb)) (Nat.lt_irrefl _)
structure Turn (P:Program) (w:World) (K:FG7) (tg:Expr) (J:It) (fp:List Addr) (it:Addr) (tn:Nat -> Heap -> Prop):Prop where
 mem:it ∈ fp
 obj:∀ i h,tn i h -> ∀ b ∈ fp,∃ o,h.get? b = some o /\ ∀ v,o.data ≠ .cell v
 keep:∀ i h h',tn i h -> (∀ b ∈ fp,∀ o,h.get? b = some o -> h'.get? b = some o) -> tn i h'
 item:∀ (X:Cx),X.prog = P -> X.w = w -> X.K = K -> X.calm = true -> ∀ (i:Nat) (pins:List (Addr × Obj)) (s:Shared) (σ:St) (H:Hp) (E:VS7),Inv X pins σ H s -> (∀ b ∈ fp,FpOk X pins H b) -> tn i s.heap -> J.go i H →
  wpAny (model P w) X.A (pyNext (.ref it)) (fun r s1=>∃ u,r = some u ∧
   wpAny (model P w) X.A (letOwnedTupleGo tg (.ref it) u) (fun _ s2=>∃ x H',Inv X pins σ H' s2 /\ RelV x u /\ J.yld i H x H' /\ tn (i + 1) s2.heap /\ ∀ b ∈ fp,H' b = none) E s1) E s
 done:∀ (X:Cx),X.prog = P -> X.w = w -> X.K = K -> X.calm = true -> ∀ (i:Nat) (pins:List (Addr × Obj)) (s:Shared) (σ:St) (H:Hp) (E:VS7),Inv X pins σ H s -> (∀ b ∈ fp,FpOk X pins H b) -> tn i s.heap -> J.stop i H →
  wpAny (model P w) X.A (pyNext (.ref it)) (fun r s1=>r = none /\ Inv X pins σ H s1) E s
 self:∀ (A:Around) (i:Nat) (s:Shared) (Q:VS7) (E:VS7),tn i s.heap -> Q (.ref it) s -> wpAny (model P w) A (pyIter (.ref it)) Q E s
abbrev TI:=St -> Hp -> (It -> Hp -> Prop) -> Prop
def PIE (X:Cx) (pins:List (Addr × Obj)) (σ:St) (tg:Expr) (R:It -> Hp -> Prop) (itv:Value) (s2:Shared):Prop :=
 ∃ (it:Addr) (fp:List Addr) (tn:Nat -> Heap -> Prop) (J:It) (H':Hp),itv = .ref it /\ Inv X pins σ H' s2 /\ Turn X.prog X.w X.K tg J fp it tn /\ tn 0 s2.heap /\ (∀ b ∈ fp,FpOk X pins H' b) /\ R J H'
def PI (X:Cx) (tg iter:Expr) (wi:TI):Prop :=
 ∀ (pins:List (Addr × Obj)) (s:Shared) (σ:St) (H:Hp) (R:It -> Hp -> Prop),Inv X pins σ H s -> wi σ H R →
  wpAny (model X.prog X.w) X.A (eval iter X.env) (fun v s1=>wpAny (model X.prog X.w) X.A (pyIter v) (PIE X pins σ tg R) X.xe s1) X.xe s
theorem WP {M:Model} {A:Around} {E:VS7} {s:Shared} {tg:Expr} {it:Addr} {u:Value} {o:Obj} {n:String} {vs:Array Value} {Q:Unit -> Shared -> Prop} (ho:s.heap.get? it = some o) (hc:o.cls = .type n) (hd:o.data = .fields vs)
    (hn:["enumerate","zip","dict_itemiterator","dict_reverseitemiterator","odict_iterator","itertools.zip_longest","itertools.pairwise"].contains n = false) (hQ:Q () s):wpAny M A (letOwnedTupleGo tg (.ref it) u) Q E s:=by
  unfold letOwnedTupleGo
  cases tg <;> first
    | exact wpAny_pure hQ
    | (cases u <;> first
        | exact wpAny_pure hQ
        | (refine wpAny_bind (wpAny_load ho ?_)
           rw [hc,hd]
           show wpAny M A (if (["enumerate","zip","dict_itemiterator","dict_reverseitemiterator","odict_iterator","itertools.zip_longest","itertools.pairwise"].contains n && vs[0]? == some (rawInt _)) = true then _ else _) Q E s
           rw [if_neg (by intro h; rw [hn,Bool.false_and] at h; cases h)]
           exact wpAny_pure hQ))
def Itl (K:FG7) (a:Addr):It :=
 ⟨fun i H=>∃ xs x,SqL K H a xs /\ xs[i]? = some x,fun i H x H'=>H' = H /\ ∀ xs,SqL K H a xs -> xs[i]? = some x,fun i H=>∃ xs,SqL K H a xs /\ xs.length <= i⟩
def Itt (K:FG7) (a:Addr):It :=
 ⟨fun i H=>∃ xs x,SqT K H a xs /\ xs[i]? = some x,fun i H x H'=>H' = H /\ ∀ xs,SqT K H a xs -> xs[i]? = some x,fun i H=>∃ xs,SqT K H a xs /\ xs.length <= i⟩
def Itr (lo:Int) (n:Nat):It:=⟨fun i _=>i < n,fun i H x H'=>H' = H /\ x = .int (lo + i),fun i _=>n <= i⟩
theorem ZM {P:Program} {w:World} {K:FG7} {tg:Expr} (a it:Addr):Turn P w K tg (Itl K a) [it] it (fun i h=>h.IsListIter it a i) where
 mem:=by simp
 obj:=fun i h st b hb=>by
  have e:b = it:=by simpa using hb
  subst e
  obtain ⟨o,e,c,d⟩:=st
  exact ⟨o,e,fun v z=>by rw [d] at z; cases z⟩
 keep:=fun i h h' st k=>st.at fun o e=>k it (by simp) o e
 item:=by
  intro X hP hw hK hc i pins s σ H E I hf st hg
  subst hP hw hK
  obtain ⟨xs,x,hq,hx⟩:=hg
  obtain ⟨its,rv,p,hz⟩:=I.list hq
  obtain ⟨u,hu,ru⟩:=rv.get hx
  obtain ⟨f0,f1,f2,f3,f4,f5⟩:=hf it (by simp)
  refine wpAny_pyNext_list_item st p.isList (x:=u) (by simpa using hu) fun h' st' sb=>?_
  have I1:Inv X pins σ H { s with heap:=h' }:=I.turned (t':=s.toks) (fun b o hb e=>(sb.2 b hb).trans e) f0 f1 f3 f4 f5
  obtain ⟨o,e,c,d⟩:=id st'
  exact ⟨u,rfl,WP (s:={ s with heap:=h' }) e c d (by decide) ⟨x,H,I1,ru,⟨rfl,fun ys hy=>by rw [I.list_inj hy hq]; exact hx⟩,st',fun b hb=>(hf b hb).1⟩⟩
 done:=by
  intro X hP hw hK hc i pins s σ H E I hf st hg
  subst hP hw hK
  obtain ⟨xs,hq,hx⟩:=hg
  obtain ⟨its,rv,p,hz⟩:=I.list hq
  obtain ⟨f0,f1,f2,f3,f4,f5⟩:=hf it (by simp)
  have hl:=rv.length
  exact wpAny_pyNext_list_end (I.ok.hd hc) st p.isList (by simp; omega) fun h' eb=>⟨rfl,I.turned (t':=s.toks) (fun b o hb e=>eb b o hb e) f0 f1 f3 f4 f5⟩
 self:=fun _ _ _ _ _ st h=>wpAny_pyIter_listiter st h
theorem jT {P:Program} {w:World} {K:FG7} {tg:Expr} (a it:Addr):Turn P w K tg (Itt K a) [it] it (fun i h=>h.IsTupleIter it a i) where
 mem:=by simp
 obj:=fun i h st b hb=>by
  have e:b = it:=by simpa using hb
  subst e
  obtain ⟨o,e,c,d⟩:=st
  exact ⟨o,e,fun v z=>by rw [d] at z; cases z⟩
 keep:=fun i h h' st k=>st.at fun o e=>k it (by simp) o e
 item:=by
  intro X hP hw hK hc i pins s σ H E I hf st hg
  subst hP hw hK
  obtain ⟨xs,x,hq,hx⟩:=hg
  obtain ⟨its,rv,p,hz⟩:=I.tuple hq
  obtain ⟨u,hu,ru⟩:=rv.get hx
  obtain ⟨f0,f1,f2,f3,f4,f5⟩:=hf it (by simp)
  refine wpAny_pyNext_tuple_item st (show s.heap.IsTuple a its.toArray from p) (x:=u) (by simpa using hu) fun h' st' sb=>?_
  have I1:Inv X pins σ H { s with heap:=h' }:=I.turned (t':=s.toks) (fun b o hb e=>(sb.2 b hb).trans e) f0 f1 f3 f4 f5
  obtain ⟨o,e,c,d⟩:=id st'
  exact ⟨u,rfl,WP (s:={ s with heap:=h' }) e c d (by decide) ⟨x,H,I1,ru,⟨rfl,fun ys hy=>by rw [I.tuple_inj hy hq]; exact hx⟩,st',fun b hb=>(hf b hb).1⟩⟩
 done:=by
  intro X hP hw hK hc i pins s σ H E I hf st hg
  subst hP hw hK
  obtain ⟨xs,hq,hx⟩:=hg
  obtain ⟨its,rv,p,hz⟩:=I.tuple hq
  obtain ⟨f0,f1,f2,f3,f4,f5⟩:=hf it (by simp)
  have hl:=rv.length
  exact wpAny_pyNext_tuple_end (I.ok.hd hc) st (show s.heap.IsTuple a its.toArray from p) (by simp; omega) fun h' eb=>⟨rfl,I.turned (t':=s.toks) (fun b o hb e=>eb b o hb e) f0 f1 f3 f4 f5⟩
 self:=fun _ _ _ _ _ st h=>wpAny_pyIter_tupleiter st h
theorem jU {P:Program} {w:World} {K:FG7} {tg:Expr} (it:Addr) (lo:Int) (n:Nat):Turn P w K tg (Itr lo n) [it] it (fun i h=>IsRangeIter h it (lo + (i:Nat) * 1) ((n:Int) - (i:Nat)) 1) where
 mem:=by simp
 obj:=fun i h st b hb=>by
  have e:b = it:=by simpa using hb
  subst e
  exact ⟨_,st,fun v z=>by
   have z':Data.fields _ = Data.cell v:=z
   cases z'⟩
 keep:=fun i h h' st k=>k it (by simp) _ st
 item:=by
  intro X hP hw hK hc i pins s σ H E I hf st hg
  subst hP hw hK
  obtain ⟨f0,f1,f2,f3,f4,f5⟩:=hf it (by simp)
  have W:=Walks.range (prog:=X.prog) (w:=X.w) (I.ok.hd hc) it lo 1 n
  refine W.item i s _ _ hg st fun v h' tk hv st' kk=>?_
  obtain ⟨t,rfl⟩:=hv
  have I1:Inv X pins σ H { s with heap:=h',toks:=tk }:=I.turned (fun b o hb e=>kk b o (by simpa using hb) e) f0 f1 f3 f4 f5
  refine ⟨_,rfl,WP (s:={ s with heap:=h',toks:=tk }) (n:="range_iterator") st' rfl rfl (by decide) ⟨.int (lo + i),H,I1,⟨t,?_⟩,⟨rfl,rfl⟩,st',fun b hb=>(hf b hb).1⟩⟩
  rw [Int.mul_one]
 done:=by
  intro X hP hw hK hc i pins s σ H E I hf st hg
  subst hP hw hK
  obtain ⟨f0,f1,f2,f3,f4,f5⟩:=hf it (by simp)
  exact wpAny_pyNext_range_end (I.ok.hd hc) st (by have:n <= i:=hg; omega) fun h' eb=>⟨rfl,I.turned (t':=s.toks) (fun b o hb e=>eb b o hb e) f0 f1 f3 f4 f5⟩
 self:=fun _ _ _ _ _ st h=>wpAny_pyIter_rangeiter st h
end L2
namespace L2
open PySem PySem.Spec PyProof.Rows
section
variable {X:Cx} {tg:Expr}
def Uk (K:FG7) (tl:TE):TI:=fun σ H R=>tl σ H fun x H1=>∃ a,x = .ref a /\ (∃ xs,SqL K H1 a xs) /\ R (Itl K a) H1
def iTup (K:FG7) (tl:TE):TI:=fun σ H R=>tl σ H fun x H1=>∃ a,x = .ref a /\ (∃ xs,SqT K H1 a xs) /\ R (Itt K a) H1
theorem t7 {l:Expr} {tl:TE} (hl:PE X l tl):PI X tg l (Uk X.K tl):=by
 intro pins s σ H R I h
 refine thn (hl pins s σ H _ I h) fun v s1 ⟨x,H1,I1,r1,q1⟩=>?_
 obtain ⟨a,e,⟨xs,hq⟩,q⟩:=q1
 subst e
 cases r1
 obtain ⟨its,rv,p,hz⟩:=I1.list hq
 refine wpAny_pyIter_list p.isList ?_
 refine ⟨s1.heap.objs.size,[s1.heap.objs.size],_,_,H1,rfl,I1.kept (t':=s1.toks) fun b o e=>Heap.get?_push_of_some _ e,ZM a _,⟨_,Heap.get?_push_size _ rfl,rfl,rfl⟩,fun b hb=>?_,q⟩
 have e:b = s1.heap.objs.size:=by simpa using hb
 subst e
 exact I1.fpOk (Nat.le_refl _) (I1.hok.fresh (Nat.le_refl _))
theorem y8 {l:Expr} {tl:TE} (hl:PE X l tl):PI X tg l (iTup X.K tl):=by
 intro pins s σ H R I h
 refine thn (hl pins s σ H _ I h) fun v s1 ⟨x,H1,I1,r1,q1⟩=>?_
 obtain ⟨a,e,⟨xs,hq⟩,q⟩:=q1
 subst e
 cases r1
 obtain ⟨its,rv,p,hz⟩:=I1.tuple hq
 refine wpAny_pyIter_tuple (show s1.heap.IsTuple a its.toArray from p) ?_
 refine ⟨s1.heap.objs.size,[s1.heap.objs.size],_,_,H1,rfl,I1.kept (t':=s1.toks) fun b o e=>Heap.get?_push_of_some _ e,jT a _,⟨_,Heap.get?_push_size _ rfl,rfl,rfl⟩,fun b hb=>?_,q⟩
 have e:b = s1.heap.objs.size:=by simpa using hb
 subst e
 exact I1.fpOk (Nat.le_refl _) (I1.hok.fresh (Nat.le_refl _))
theorem Xx {pins:List (Addr × Obj)} {σ:St} {H:Hp} {s:Shared} {R:It -> Hp -> Prop} {E:VS7} {lo hi:Int} {t u v:Tok} {tk:Nat} (I:Inv X pins σ H s) (h1:-(2 ^ 62) <= lo) (h2:lo < 2 ^ 62) (h3:-(2 ^ 62) <= hi) (h4:hi < 2 ^ 62)
  (q:R (Itr lo (hi - lo).toNat) H):wpAny (model X.prog X.w) X.A (pyIter (.ref s.heap.objs.size)) (PIE X pins σ tg R) E { s with heap:=s.heap.push { cls:=.type "range",data:=.fields #[.int lo t,.int hi u,.int 1 v] },toks:=tk }:=by
 refine wpAny_pyIter_range (IsRange.new ..) (small_one h1 h2 h3 h4) ?_
 have I1:Inv X pins σ H { s with heap:=s.heap.push { cls:=.type "range",data:=.fields #[.int lo t,.int hi u,.int 1 v] },toks:=tk }:=I.kept fun b o e=>Heap.get?_push_of_some _ e
 refine ⟨(s.heap.push { cls:=.type "range",data:=.fields #[.int lo t,.int hi u,.int 1 v] }).objs.size,[(s.heap.push { cls:=.type "range",data:=.fields #[.int lo t,.int hi u,.int 1 v] }).objs.size],_,_,H,rfl,
  I1.kept (t':=tk) fun b o e=>Heap.get?_push_of_some _ e,jU _ lo (hi - lo).toNat,?_,fun b hb=>?_,q⟩
 ·have e1:lo + ((0:Nat):Int) * 1 = lo:=by simp
  have e2:(((hi - lo).toNat:Nat):Int) - ((0:Nat):Int) = Builtin.Range.rangeSize lo hi 1:=by rw [rangeSize_one]; split <;> omega
  show IsRangeIter _ _ (lo + ((0:Nat):Int) * 1) ((((hi - lo).toNat:Nat):Int) - ((0:Nat):Int)) 1
  rw [e1,e2]
  exact Heap.get?_push_size _ rfl
 ·have e:b = (s.heap.push { cls:=.type "range",data:=.fields #[.int lo t,.int hi u,.int 1 v] }).objs.size:=by simpa using hb
  subst e
  exact I1.fpOk (Nat.le_refl _) (I1.hok.fresh (Nat.le_refl _))
def Ul (ta:TA):TI:=fun σ H R=>ta σ H fun vs H1=>∃ j:Int,vs = [.int j] /\ -(2 ^ 62) <= j /\ j < 2 ^ 62 /\ R (Itr 0 j.toNat) H1
theorem xx {a:Expr} {ta:TA} {p pos:Pos} (hg:Gl X "range") (hm:X.mg "range" = none) (ha:PA X [a] ta) (hs:starEach [a] X.env = [(false,eval a X.env)]:=by rfl):PI X tg (.Call (.Name "range" p) [a] [] pos) (Ul ta):=by
 intro pins s σ H R I h
 refine Call_ (vN I hg hm boot_range (PyProof.Rows.callWith_type1 (thn (ha pos pins s σ H _ I h) fun us s1 ⟨vs,H1,I1,r1,q1⟩=>?_) hs rfl))
 obtain ⟨j,e,q1,q2,q⟩:=q1
 subst e
 cases r1 with
 | cons r rr =>
  cases rr
  obtain ⟨t,rfl⟩:=r
  exact call_range_1 (Xx I1 (by omega) (by omega) q1 q2 (by simpa using q))
def tFor (wi:TI) (g:TG) (tb:TS):TS:=fun D σ H=>wi σ H fun J H1=>∃ W:Nat -> Nat -> St -> Hp -> Prop,(∃ m,W 0 m σ H1) /\ ∀ i m σ H,W i m σ H →
 (J.stop i H /\ D.nx σ H) \/ (J.go i H /\ ∃ N:St -> Hp -> Prop,(∀ σ' H',N σ' H' -> ∃ m',m' < m /\ W (i + 1) m' σ' H') /\ ∀ x H',J.yld i H x H' -> g x σ H' fun σ2 H2=>tb { D with nx:=N,ct:=N,bk:=D.nx } σ2 H2)
def tj (fp:List Addr) (h:Heap):List (Addr × Obj):=fp.filterMap fun b=>(h.get? b).map fun o=>(b,o)
theorem y7 {fp:List Addr} {h:Heap} {b:Addr} {o:Obj} (hb:b ∈ fp) (e:h.get? b = some o):(b,o) ∈ tj fp h:=List.mem_filterMap.mpr ⟨b,hb,by rw [e]; rfl⟩
theorem ZN {fp:List Addr} {h:Heap} {p:Addr × Obj} (hp:p ∈ tj fp h):p.1 ∈ fp /\ h.get? p.1 = some p.2:=by
 obtain ⟨b,hb,e⟩:=List.mem_filterMap.mp hp
 cases q:h.get? b with
 | none=>rw [q] at e; cases e
 | some o =>
  rw [q] at e
  have e':(b,o) = p:=Option.some.inj e
  subst e'
  exact ⟨hb,q⟩
theorem Inv.pinned {pins:List (Addr × Obj)} {σ:St} {H:Hp} {s:Shared} {fp:List Addr} (I:Inv X pins σ H s) (hf:∀ b ∈ fp,FpOk X pins H b) (ho:∀ b ∈ fp,∃ o,s.heap.get? b = some o /\ ∀ v,o.data ≠ .cell v):Inv X (pins ++ tj fp s.heap) σ H s :=
 I.pins_of fun p hp=>(List.mem_append.mp hp).elim (fun z=>I.pin p (List.mem_append_right _ z)) fun z=>by
  obtain ⟨hb,e⟩:=ZN z
  obtain ⟨f0,f1,f2,_⟩:=hf p.1 hb
  obtain ⟨o,e',d⟩:=ho p.1 hb
  rw [e] at e'; cases e'
  exact ⟨e,f0,f1,f2,d⟩
theorem Inv.unpinned {pins pl:List (Addr × Obj)} {σ:St} {H:Hp} {s:Shared} (I:Inv X (pins ++ pl) σ H s):Inv X pins σ H s:=I.pins_of fun p hp=>I.pin p (List.mem_append_right _ (List.mem_append_left _ hp))
theorem xT {iter:Expr} {body:List Stmt} {wi:TI} {g:TG} {tb:TS} {pos:Pos} (hp:PassesOwn (model X.prog X.w) X.A X.env X.xe) (hc:X.calm = true) (hi:PI X tg iter wi) (hg:PG X tg g) (hb:PSs X body tb)
  (hs:∀ x,foldedSetIterable iter X.env x = pure x:=by intro _; rfl):PS X (.For tg iter body [] pos) (tFor wi g tb):=by
 intro pins s σ H D I h
 refine wpAny_For (thn (hi pins s σ H _ I h) fun v s1 h1=>thn h1 fun itv s2 h2=>?_) hs
 obtain ⟨it,fp,tn,J,H2,e,I2,T,st2,f2,W,⟨m0,w0⟩,turn⟩:=h2
 subst e
 -- what stays true of the iterator's objects through the loop
 have stat:∀ {H':Hp},(∀ b ∈ fp,H' b = none) -> ∀ b ∈ fp,FpOk X pins H' b:=fun hn b hb=>⟨hn b hb,(f2 b hb).2⟩
 refine codeAny_forLoop_any (fun n s'=>∃ i σ' H',Inv X pins σ' H' s' /\ tn i s'.heap /\ (∀ b ∈ fp,H' b = none) /\ W i n σ' H') ?_ m0 ⟨0,σ,H2,I2,st2,fun b hb=>(f2 b hb).1,w0⟩
 rintro n s3 ⟨i,σ3,H3,I3,st3,fr3,w3⟩
 rcases turn i n σ3 H3 w3 with ⟨stop,qn⟩ | ⟨go,N,hN,step⟩
 ·refine wpAny_passesOwn hp (thn (T.done X rfl rfl rfl hc i pins s3 σ3 H3 X.xe I3 (stat fr3) st3 stop) fun r s4 ⟨hr,I4⟩=>?_)
  subst hr
  exact wpAny_execs_nil ⟨σ3,H3,I4,qn⟩
 ·refine wpAny_passesOwn hp (thn (T.item X rfl rfl rfl hc i pins s3 σ3 H3 X.xe I3 (stat fr3) st3 go) fun r s4 ⟨u,hr,h4⟩=>?_)
  subst hr
  refine wpAny_passesOwn hp (thn h4 fun _ s5 ⟨x,H5,I5,r5,y5,st5,fr5⟩=>?_)
  have I5':=I5.pinned (stat fr5) (T.obj _ _ st5)
  refine wpAny_passesOwn hp (thn (hg _ s5 σ3 H5 x u _ I5' r5 (step x H5 y5)) fun _ s6 ⟨σ6,H6,I6,q6⟩=>?_)
  refine wpAny_passesOwn hp (thn (hb _ s6 σ6 H6 _ I6 q6) fun f s7 q7=>?_)
  have again:∀ {σ7:St} {H7:Hp},Inv X (pins ++ tj fp s5.heap) σ7 H7 s7 -> N σ7 H7 -> ∃ m,m < n /\ ∃ i σ' H',Inv X pins σ' H' s7 /\ tn i s7.heap /\ (∀ b ∈ fp,H' b = none) /\ W i m σ' H':=fun {σ7 H7} I7 n7=>by
   obtain ⟨m',hm,w7⟩:=hN σ7 H7 n7
   refine ⟨m',hm,i + 1,σ7,H7,I7.unpinned,T.keep _ _ _ st5 fun b hb o e=>(I7.pin (b,o) (List.mem_append_right _ (List.mem_append_right _ (y7 hb e)))).1,fun b hb=>?_,w7⟩
   obtain ⟨o,e,d⟩:=T.obj _ _ st5 b hb
   exact (I7.pin (b,o) (List.mem_append_right _ (List.mem_append_right _ (y7 hb e)))).2.1
  cases f with
  | next=>obtain ⟨σ7,H7,I7,n7⟩:=q7; exact again I7 n7
  | cont=>obtain ⟨σ7,H7,I7,n7⟩:=q7; exact again I7 n7
  | brk=>obtain ⟨σ7,H7,I7,q7⟩:=q7; exact ⟨σ7,H7,I7.unpinned,q7⟩
  | ret v=>obtain ⟨x7,σ7,H7,I7,r7,q7⟩:=q7; exact ⟨x7,σ7,H7,I7.unpinned,r7,q7⟩
end
theorem jk {K:FG7} {a:Addr} {xs:List V} {g:TG} {tb:TS} {D:Ends} {σ:St} {H:Hp} (Pv:Nat -> St -> Hp -> Prop) (h0:Pv 0 σ H) (hl:∀ i σ H,i <= xs.length -> Pv i σ H -> SqL K H a xs)
  (hs:∀ i x σ H,xs[i]? = some x -> Pv i σ H -> g x σ H fun σ2 H2=>tb { D with nx:=Pv (i + 1),ct:=Pv (i + 1),bk:=D.nx } σ2 H2) (hd:∀ σ H,Pv xs.length σ H -> D.nx σ H) :
  ∃ W:Nat -> Nat -> St -> Hp -> Prop,(∃ m,W 0 m σ H) /\ ∀ i m σ H,W i m σ H →
   ((Itl K a).stop i H /\ D.nx σ H) \/ ((Itl K a).go i H /\ ∃ N:St -> Hp -> Prop,(∀ σ' H',N σ' H' -> ∃ m',m' < m /\ W (i + 1) m' σ' H') /\ ∀ x H',(Itl K a).yld i H x H' -> g x σ H' fun σ2 H2=>tb { D with nx:=N,ct:=N,bk:=D.nx } σ2 H2):=by
 refine ⟨fun i m σ H=>m = xs.length - i /\ i <= xs.length /\ Pv i σ H,⟨xs.length,by simp,Nat.zero_le _,h0⟩,?_⟩
 rintro i m σ H ⟨rfl,hi,p⟩
 have q:=hl i σ H hi p
 by_cases hlt:i < xs.length
 ·refine .inr ⟨⟨xs,xs[i],q,by simp [hlt]⟩,Pv (i + 1),fun σ' H' p'=>⟨xs.length - (i + 1),by omega,rfl,hlt,p'⟩,fun x H' y=>?_⟩
  obtain ⟨e,y⟩:=y
  subst e
  exact hs i x σ _ (y xs q) p
 ·have e:i = xs.length:=by omega
  subst e
  exact .inl ⟨⟨xs,q,Nat.le_refl _⟩,hd σ H p⟩
theorem qo {K:FG7} {a:Addr} {xs:List V} {g:TG} {tb:TS} {D:Ends} {σ:St} {H:Hp} (Pv:Nat -> St -> Hp -> Prop) (h0:Pv 0 σ H) (hl:∀ i σ H,i <= xs.length -> Pv i σ H -> SqT K H a xs)
  (hs:∀ i x σ H,xs[i]? = some x -> Pv i σ H -> g x σ H fun σ2 H2=>tb { D with nx:=Pv (i + 1),ct:=Pv (i + 1),bk:=D.nx } σ2 H2) (hd:∀ σ H,Pv xs.length σ H -> D.nx σ H) :
  ∃ W:Nat -> Nat -> St -> Hp -> Prop,(∃ m,W 0 m σ H) /\ ∀ i m σ H,W i m σ H →
   ((Itt K a).stop i H /\ D.nx σ H) \/ ((Itt K a).go i H /\ ∃ N:St -> Hp -> Prop,(∀ σ' H',N σ' H' -> ∃ m',m' < m /\ W (i + 1) m' σ' H') /\ ∀ x H',(Itt K a).yld i H x H' -> g x σ H' fun σ2 H2=>tb { D with nx:=N,ct:=N,bk:=D.nx } σ2 H2):=by
 refine ⟨fun i m σ H=>m = xs.length - i /\ i <= xs.length /\ Pv i σ H,⟨xs.length,by simp,Nat.zero_le _,h0⟩,?_⟩
 rintro i m σ H ⟨rfl,hi,p⟩
 have q:=hl i σ H hi p
 by_cases hlt:i < xs.length
 ·refine .inr ⟨⟨xs,xs[i],q,by simp [hlt]⟩,Pv (i + 1),fun σ' H' p'=>⟨xs.length - (i + 1),by omega,rfl,hlt,p'⟩,fun x H' y=>?_⟩
  obtain ⟨e,y⟩:=y
  subst e
  exact hs i x σ _ (y xs q) p
 ·have e:i = xs.length:=by omega
  subst e
  exact .inl ⟨⟨xs,q,Nat.le_refl _⟩,hd σ H p⟩
theorem ug {lo:Int} {n:Nat} {g:TG} {tb:TS} {D:Ends} {σ:St} {H:Hp} (Pv:Nat -> St -> Hp -> Prop) (h0:Pv 0 σ H)
  (hs:∀ i σ H,i < n -> Pv i σ H -> g (.int (lo + i)) σ H fun σ2 H2=>tb { D with nx:=Pv (i + 1),ct:=Pv (i + 1),bk:=D.nx } σ2 H2) (hd:∀ σ H,Pv n σ H -> D.nx σ H) :
  ∃ W:Nat -> Nat -> St -> Hp -> Prop,(∃ m,W 0 m σ H) /\ ∀ i m σ H,W i m σ H →
   ((Itr lo n).stop i H /\ D.nx σ H) \/ ((Itr lo n).go i H /\ ∃ N:St -> Hp -> Prop,(∀ σ' H',N σ' H' -> ∃ m',m' < m /\ W (i + 1) m' σ' H') /\ ∀ x H',(Itr lo n).yld i H x H' -> g x σ H' fun σ2 H2=>tb { D with nx:=N,ct:=N,bk:=D.nx } σ2 H2):=by
 refine ⟨fun i m σ H=>m = n - i /\ i <= n /\ Pv i σ H,⟨n,by simp,Nat.zero_le _,h0⟩,?_⟩
 rintro i m σ H ⟨rfl,hi,p⟩
 by_cases hlt:i < n
 ·refine .inr ⟨hlt,Pv (i + 1),fun σ' H' p'=>⟨n - (i + 1),by omega,rfl,hlt,p'⟩,fun x H' y=>?_⟩
  obtain ⟨e,y⟩:=y
  subst e y
  exact hs i σ _ hlt p
 ·have e:i = n:=by omega
  subst e
  exact .inl ⟨Nat.le_refl _,hd σ H p⟩
theorem Xy {c:TT} {tb:TS} {D:Ends} {σ:St} {H:Hp} (Pv:St -> Hp -> Prop) (μ:St -> Hp -> Nat) (h0:Pv σ H)
  (hs:∀ σ H,Pv σ H -> c σ H fun b H1=>if b = true then tb { D with nx:=fun σ' H'=>Pv σ' H' /\ μ σ' H' < μ σ H,ct:=fun σ' H'=>Pv σ' H' /\ μ σ' H' < μ σ H,bk:=D.nx } σ H1 else D.nx σ H1)
  (mono:∀ σ H Q Q',(∀ b H1,Q b H1 -> Q' b H1) -> c σ H Q -> c σ H Q'):Wo c tb D σ H:=by
 refine ⟨fun m σ H=>m = μ σ H /\ Pv σ H,⟨_,rfl,h0⟩,?_⟩
 rintro m σ H ⟨rfl,p⟩
 refine mono σ H _ _ (fun b H1 q=>?_) (hs σ H p)
 cases b with
 | true=>exact ⟨_,fun σ' H' ⟨p',l⟩=>⟨_,l,rfl,p'⟩,q⟩
 | false=>exact q
end L2
namespace L2
open PySem PySem.Spec PyProof.Rows
abbrev R2:=V -> V -> Hp -> VK -> Prop
def OpR (X:Cx) (f:Value -> Value -> Sem Value) (r:R2):Prop :=
 ∀ (pins:List (Addr × Obj)) (s:Shared) (σ:St) (H:Hp) (x y:V) (v u:Value) (Q:VK),Inv X pins σ H s -> RelV x v -> RelV y u -> r x y H Q →
  wpAny (model X.prog X.w) X.A (f v u) (EP X pins σ Q) X.xe s
def UnR (X:Cx) (f:Value -> Sem Value) (r:V -> Hp -> VK -> Prop):Prop :=
 ∀ (pins:List (Addr × Obj)) (s:Shared) (σ:St) (H:Hp) (x:V) (v:Value) (Q:VK),Inv X pins σ H s -> RelV x v -> r x H Q →
  wpAny (model X.prog X.w) X.A (f v) (EP X pins σ Q) X.xe s
def yY (X:Cx) (f:Value) (r:List V -> Hp -> VK -> Prop):Prop :=
 ∀ (pins:List (Addr × Obj)) (s:Shared) (σ:St) (H:Hp) (xs:List V) (us:List Value) (Q:VK),Inv X pins σ H s -> Vals xs us -> r xs H Q →
  wpAny (model X.prog X.w) X.A (call f us) (EP X pins σ Q) X.xe s
def tOp (r:R2) (ta tb:TE):TE:=fun σ H Q=>ta σ H fun x H1=>tb σ H1 fun y H2=>r x y H2 Q
def tUn (r:V -> Hp -> VK -> Prop) (ta:TE):TE:=fun σ H Q=>ta σ H fun x H1=>r x H1 Q
def rI (C:Int -> Int -> Prop) (g:Int -> Int -> V):R2:=fun x y H Q=>∃ i j,x = .int i /\ y = .int j /\ C i j /\ Q (g i j) H
def rI0 (g:Int -> Int -> V):R2:=fun x y H Q=>∃ i j,x = .int i /\ y = .int j /\ Q (g i j) H
def rU (g:Int -> V):V -> Hp -> VK -> Prop:=fun x H Q=>∃ i,x = .int i /\ Q (g i) H
section
variable {X:Cx} {a b c:Expr} {ta tb tc:TE} {pos:Pos}
theorem binT (ha:PE X a ta) (hb:PE X b tb) {pins:List (Addr × Obj)} {s:Shared} {σ:St} {H:Hp} {R:V -> V -> Hp -> Prop} (I:Inv X pins σ H s)
  (h:ta σ H fun x H1=>tb σ H1 fun y H2=>R x y H2) {Q:VS7} {f:Value -> Value -> Sem Value}
  (hf:∀ v u s2 x y H2,Inv X pins σ H2 s2 -> RelV x v -> RelV y u -> R x y H2 -> wpAny (model X.prog X.w) X.A (f v u) Q X.xe s2) :
  wpAny (model X.prog X.w) X.A (eval a X.env) (fun v s₁=>wpAny (model X.prog X.w) X.A (eval b X.env) (fun u s₂=>wpAny (model X.prog X.w) X.A (f v u) Q X.xe s₂) X.xe s₁) X.xe s:=by
 refine thn (ha pins s σ H _ I h) fun v s1 ⟨x,H1,I1,r1,q1⟩=>?_
 refine thn (hb pins s1 σ H1 _ I1 q1) fun u s2 ⟨y,H2,I2,r2,q2⟩=>?_
 exact hf v u s2 x y H2 I2 r1 r2 q2
theorem zA {op:Operator} {r:R2} (ho:OpR X (binaryOp op) r) (ha:PE X a ta) (hb:PE X b tb):PE X (.BinOp a op b pos) (tOp r ta tb):=by
 intro pins s σ H Q I h
 exact wpAny_BinOp (binT ha hb I h fun v u s2 x y H2 I2 rx ry q=>ho pins s2 σ H2 x y v u Q I2 rx ry q)
theorem Vz {op:UnaryOp} {r:V -> Hp -> VK -> Prop} (ho:UnR X (unaryOp op) r) (ha:PE X a ta):PE X (.UnaryOp op a pos) (tUn r ta):=by
 intro pins s σ H Q I h
 exact UnaryOp_ (thn (ha pins s σ H _ I h) fun v s1 ⟨x,H1,I1,r1,q1⟩=>ho pins s1 σ H1 x v Q I1 r1 q1)
theorem opI {f:Value -> Value -> Sem Value} {C:Int -> Int -> Prop} {g:Int -> Int -> Int}
  (rule:∀ (i j:Int) (t u:Tok) (s:Shared) (Q:VS7) (E:VS7),C i j -> Q (.int (g i j) s.toks) { s with toks:=s.toks + 1 } -> wpAny (model X.prog X.w) X.A (f (.int i t) (.int j u)) Q E s) :
  OpR X f (rI C fun i j=>.int (g i j)):=by
 intro pins s σ H x y v u Q I rx ry h
 obtain ⟨i,j,rfl,rfl,hc,q⟩:=h
 obtain ⟨t,rfl⟩:=rx
 obtain ⟨t',rfl⟩:=ry
 exact rule i j t t' s _ _ hc ⟨.int (g i j),H,I.tok _,⟨_,rfl⟩,q⟩
theorem opI0 {f:Value -> Value -> Sem Value} {g:Int -> Int -> Int}
  (rule:∀ (i j:Int) (t u:Tok) (s:Shared) (Q:VS7) (E:VS7),Q (.int (g i j) s.toks) { s with toks:=s.toks + 1 } -> wpAny (model X.prog X.w) X.A (f (.int i t) (.int j u)) Q E s) :
  OpR X f (rI0 fun i j=>.int (g i j)):=by
 intro pins s σ H x y v u Q I rx ry h
 obtain ⟨i,j,rfl,rfl,q⟩:=h
 obtain ⟨t,rfl⟩:=rx
 obtain ⟨t',rfl⟩:=ry
 exact rule i j t t' s _ _ ⟨.int (g i j),H,I.tok _,⟨_,rfl⟩,q⟩
theorem opB0 {f:Value -> Value -> Sem Value} {g:Int -> Int -> Bool}
  (rule:∀ (i j:Int) (t u:Tok) (s:Shared) (Q:VS7) (E:VS7),Q (.bool (g i j)) s -> wpAny (model X.prog X.w) X.A (f (.int i t) (.int j u)) Q E s) :
  OpR X f (rI0 fun i j=>.bl (g i j)):=by
 intro pins s σ H x y v u Q I rx ry h
 obtain ⟨i,j,rfl,rfl,q⟩:=h
 obtain ⟨t,rfl⟩:=rx
 obtain ⟨t',rfl⟩:=ry
 exact rule i j t t' s _ _ ⟨.bl (g i j),H,I,rfl,q⟩
def CPow (i j:Int):Prop:=0 <= j /\ j <= 1000000 /\ i.natAbs < 2 ^ 64
theorem yg:OpR X (binaryOp .Add) (rI0 fun i j=>.int (i + j)):=opI0 fun _ _ _ _ _ _ _ q=>add_int q
theorem uh:OpR X (binaryOp .Sub) (rI0 fun i j=>.int (i - j)):=opI0 fun _ _ _ _ _ _ _ q=>sub_int q
theorem ui:OpR X (binaryOp .Mod) (rI (fun _ j=>0 < j) fun i j=>.int (i % j)):=opI fun i j _ _ _ _ _ hc q=>by
 have h1:(0:Int) < j:=hc
 exact mod_int' (by omega) (by rw [Int.fmod_eq_emod_of_nonneg i (by omega)]; exact q)
theorem jl:OpR X (binaryOp .Pow) (rI CPow fun i j=>.int (i ^ j.toNat)):=opI fun _ _ _ _ _ _ _ hc q=>pow_int_small hc.1 hc.2.1 hc.2.2 q
theorem unI {f:Value -> Sem Value} {g:Int -> Int}
  (rule:∀ (i:Int) (t:Tok) (s:Shared) (Q:VS7) (E:VS7),Q (.int (g i) s.toks) { s with toks:=s.toks + 1 } -> wpAny (model X.prog X.w) X.A (f (.int i t)) Q E s) :
  UnR X f (rU fun i=>.int (g i)):=by
 intro pins s σ H x v Q I rx h
 obtain ⟨i,rfl,q⟩:=h
 obtain ⟨t,rfl⟩:=rx
 exact rule i t s _ _ ⟨.int (g i),H,I.tok _,⟨_,rfl⟩,q⟩
theorem Wp:UnR X (unaryOp .USub) (rU fun i=>.int (-i)):=unI fun _ _ _ _ _ q=>neg_int q
end
def scal:V -> V -> Bool
 | .non,.non=>true | .non,.int _=>true | .int _,.non=>true | .non,.bl _=>true | .bl _,.non=>true | .non,.str _=>true | .str _,.non=>true
 | .int _,.int _=>true | .bl _,.bl _=>true | .str _,.str _=>true | .byt _,.byt _=>true
 | .int _,.str _=>true | .str _,.int _=>true | .bl _,.str _=>true | .str _,.bl _=>true
 | _,_=>false
def rEq:R2:=fun x y H Q=>scal x y = true /\ Q (.bl (decide (x = y))) H
def rNe:R2:=fun x y H Q=>scal x y = true /\ Q (.bl (!decide (x = y))) H
theorem ZO {i j:Int}:decide (V.int i = V.int j) = (i == j):=by
 rw [Bool.eq_iff_iff]
 simp
theorem Wq {i j:Bool}:decide (V.bl i = V.bl j) = (i == j):=by
 rw [Bool.eq_iff_iff]
 simp
theorem ZP {i j:Str}:decide (V.str i = V.str j) = (i == j):=by
 rw [Bool.eq_iff_iff]
 simp
theorem ZQ {i j:Array UInt8}:decide (V.byt i = V.byt j) = (i.toList == j.toList):=by
 rw [Bool.eq_iff_iff]
 cases i
 cases j
 simp
section
variable {X:Cx} {a b c:Expr} {ta tb tc:TE} {pos:Pos}
theorem zO {pins:List (Addr × Obj)} {σ:St} {H:Hp} {s:Shared} {Q:VK} {k k':Bool} (I:Inv X pins σ H s) (q:Q (.bl k) H) (e:k = k'):EP X pins σ Q (.bool k') s:=by
 subst e
 exact ⟨.bl k,H,I,rfl,q⟩
theorem vw:OpR X (compareOp .Eq) rEq:=by
 intro pins s σ H x y v u Q I rx ry h
 obtain ⟨hs,q⟩:=h
 cases x with
 | non =>
  cases rx
  cases y with
  | non=>cases ry; exact PySem.EqNone.eq_none_none (zO I q (by simp))
  | bl j=>cases ry; exact PySem.EqNone.eq_none_bool (zO I q (by simp))
  | int j=>obtain ⟨t',rfl⟩:=ry; exact PySem.EqNone.eq_none_int (zO I q (by simp))
  | str j=>obtain ⟨t',rfl⟩:=ry; exact PySem.EqNone.eq_none_str (zO I q (by simp))
  | _=>exact absurd (show false = true from hs) Bool.false_ne_true
 | bl i =>
  cases rx
  cases y with
  | non=>cases ry; exact PySem.EqNone.eq_bool_none (zO I q (by simp))
  | bl j=>cases ry; exact eq_bool (zO I q Wq)
  | str j=>obtain ⟨t',rfl⟩:=ry; exact PySem.EqMixed.eq_bool_str (zO I q (by simp))
  | _=>exact absurd (show false = true from hs) Bool.false_ne_true
 | int i =>
  obtain ⟨t,rfl⟩:=rx
  cases y with
  | non=>cases ry; exact PySem.EqNone.eq_int_none (zO I q (by simp))
  | int j=>obtain ⟨t',rfl⟩:=ry; exact eq_int (zO I q ZO)
  | str j=>obtain ⟨t',rfl⟩:=ry; exact PySem.EqMixed.eq_int_str (zO I q (by simp))
  | _=>exact absurd (show false = true from hs) Bool.false_ne_true
 | str i =>
  obtain ⟨t,rfl⟩:=rx
  cases y with
  | non=>cases ry; exact PySem.EqNone.eq_str_none (zO I q (by simp))
  | bl j=>cases ry; exact PySem.EqMixed.eq_str_bool (zO I q (by simp))
  | int j=>obtain ⟨t',rfl⟩:=ry; exact PySem.EqMixed.eq_str_int (zO I q (by simp))
  | str j=>obtain ⟨t',rfl⟩:=ry; exact eq_str (zO I q ZP)
  | _=>exact absurd (show false = true from hs) Bool.false_ne_true
 | byt i =>
  obtain ⟨t,rfl⟩:=rx
  cases y with
  | byt j=>obtain ⟨t',rfl⟩:=ry; exact PySem.W.eq_bytes (zO I q ZQ)
  | _=>exact absurd (show false = true from hs) Bool.false_ne_true
 | _=>cases y <;> exact absurd (show false = true from hs) Bool.false_ne_true
theorem t8:OpR X (compareOp .NotEq) rNe:=by
 intro pins s σ H x y v u Q I rx ry h
 obtain ⟨hs,q⟩:=h
 cases x with
 | non =>
  cases rx
  cases y with
  | non=>cases ry; exact PySem.EqNone.ne_none_none (zO I q (by simp))
  | bl j=>cases ry; exact PySem.EqNone.ne_none_bool (zO I q (by simp))
  | int j=>obtain ⟨t',rfl⟩:=ry; exact PySem.EqNone.ne_none_int (zO I q (by simp))
  | str j=>obtain ⟨t',rfl⟩:=ry; exact PySem.EqNone.ne_none_str (zO I q (by simp))
  | _=>exact absurd (show false = true from hs) Bool.false_ne_true
 | bl i =>
  cases rx
  cases y with
  | non=>cases ry; exact PySem.EqNone.ne_bool_none (zO I q (by simp))
  | bl j=>cases ry; exact ne_bool (zO I q (congrArg not Wq))
  | str j=>obtain ⟨t',rfl⟩:=ry; exact PySem.EqMixed.ne_bool_str (zO I q (by simp))
  | _=>exact absurd (show false = true from hs) Bool.false_ne_true
 | int i =>
  obtain ⟨t,rfl⟩:=rx
  cases y with
  | non=>cases ry; exact PySem.EqNone.ne_int_none (zO I q (by simp))
  | int j=>obtain ⟨t',rfl⟩:=ry; exact ne_int (zO I q (congrArg not ZO))
  | str j=>obtain ⟨t',rfl⟩:=ry; exact PySem.EqMixed.ne_int_str (zO I q (by simp))
  | _=>exact absurd (show false = true from hs) Bool.false_ne_true
 | str i =>
  obtain ⟨t,rfl⟩:=rx
  cases y with
  | non=>cases ry; exact PySem.EqNone.ne_str_none (zO I q (by simp))
  | bl j=>cases ry; exact PySem.EqMixed.ne_str_bool (zO I q (by simp))
  | int j=>obtain ⟨t',rfl⟩:=ry; exact PySem.EqMixed.ne_str_int (zO I q (by simp))
  | str j=>obtain ⟨t',rfl⟩:=ry; exact ne_str (zO I q (congrArg not ZP))
  | _=>exact absurd (show false = true from hs) Bool.false_ne_true
 | byt i =>
  obtain ⟨t,rfl⟩:=rx
  cases y with
  | byt j=>obtain ⟨t',rfl⟩:=ry; exact PySem.W.ne_bytes (zO I q (congrArg not ZQ))
  | _=>exact absurd (show false = true from hs) Bool.false_ne_true
 | _=>cases y <;> exact absurd (show false = true from hs) Bool.false_ne_true
theorem uj:OpR X (compareOp .Lt) (rI0 fun i j=>.bl (decide (i < j))):=opB0 fun _ _ _ _ _ _ _ q=>lt_int q
theorem qp:OpR X (compareOp .LtE) (rI0 fun i j=>.bl (decide (i <= j))):=opB0 fun _ _ _ _ _ _ _ q=>le_int q
theorem Xz:OpR X (compareOp .Gt) (rI0 fun i j=>.bl (decide (j < i))):=opB0 fun _ _ _ _ _ _ _ q=>gt_int q
theorem zB (b:Expr) {op:CmpOp} (h:op ≠ .In:=by decide) (h2:op ≠ .NotIn:=by decide):behindInMarks op b = false:=by
 have e1:(op == CmpOp.In) = false:=by cases op <;> first | rfl | exact absurd rfl h
 have e2:(op == CmpOp.NotIn) = false:=by cases op <;> first | rfl | exact absurd rfl h2
 cases b <;> simp [behindInMarks,e1,e2]
theorem yz {op:CmpOp} {r:R2} (ho:OpR X (compareOp op) r) (ha:PE X a ta) (hb:PE X b tb) (hm:behindInMarks op b = false):PE X (.Compare a [op] [b] pos) (tOp r ta tb):=by
 intro pins s σ H Q I h
 exact wpAny_Compare1 (binT ha hb I h fun v u s2 x y H2 I2 rx ry q=>ho pins s2 σ H2 x y v u Q I2 rx ry q) hm
def VA (t:TE):TT:=fun σ H Q=>t σ H fun x H'=>∃ k,x = .bl k /\ Q k H'
theorem zD {op:CmpOp} {r:R2} (ho:OpR X (compareOp op) r) (ha:PE X a ta) (hb:PE X b tb) (hm:behindInMarks op b = false):PT X (.Compare a [op] [b] pos) (VA (tOp r ta tb)):=by
 intro pins s σ H Q I h
 refine wpAny_isTrue_Compare1 (thn (ha pins s σ H _ I h) fun v s1 ⟨x,H1,I1,r1,q1⟩=>thn (hb pins s1 σ H1 _ I1 q1) fun u s2 ⟨y,H2,I2,r2,q2⟩ =>
  thn (ho pins s2 σ H2 x y v u _ I2 r1 r2 q2) fun c s3 ⟨z,H3,I3,r3,k,e,q3⟩=>?_) hm
 subst e
 cases r3
 exact wpAny_truthy_bool ⟨H3,I3,q3⟩
def Wr (r r':R2) (ta tb tc:TE):TE:=fun σ H Q=>ta σ H fun x H1=>tb σ H1 fun y H2=>r x y H2 fun z H3=>∃ k,z = .bl k ∧
 (if k = true then tc σ H3 fun w' H4=>r' y w' H4 Q else Q (.bl false) H3)
theorem jn {op op':CmpOp} {r r':R2} (ho:OpR X (compareOp op) r) (ho':OpR X (compareOp op') r') (ha:PE X a ta) (hb:PE X b tb) (hc:PE X c tc)
  (hm:lastMarks [op,op'] [b,c] = false:=by with_unfolding_all rfl):PE X (.Compare a [op,op'] [b,c] pos) (Wr r r' ta tb tc):=by
 intro pins s σ H Q I h
 refine Compare_chain (thn (ha pins s σ H _ I h) fun v s1 ⟨x,H1,I1,r1,q1⟩=>chain_link (thn (hb pins s1 σ H1 _ I1 q1) fun u s2 ⟨y,H2,I2,r2,q2⟩ =>
  thn (ho pins s2 σ H2 x y v u _ I2 r1 r2 q2) fun d s3 ⟨z,H3,I3,r3,k,e,q3⟩=>?_)) hm
 subst e
 cases r3
 refine wpAny_truthy_bool ?_
 cases k with
 | false=>exact ite_ff ⟨.bl false,H3,I3,rfl,q3⟩
 | true=>exact ite_tt (chain_last (thn (hc pins s3 σ H3 _ I3 q3) fun w' s4 ⟨z',H4,I4,r4,q4⟩=>ho' pins s4 σ H4 y z' u w' Q I4 r2 r4 q4))
theorem XA {op op':CmpOp} {r r':R2} (ho:OpR X (compareOp op) r) (ho':OpR X (compareOp op') r') (ha:PE X a ta) (hb:PE X b tb) (hc:PE X c tc)
  (hm:lastMarks [op,op'] [b,c] = false:=by with_unfolding_all rfl):PT X (.Compare a [op,op'] [b,c] pos) (VA (Wr r r' ta tb tc)):=by
 intro pins s σ H Q I h
 refine isTrue_chain (thn (ha pins s σ H _ I h) fun v s1 ⟨x,H1,I1,r1,q1⟩=>test_link (thn (hb pins s1 σ H1 _ I1 q1) fun u s2 ⟨y,H2,I2,r2,q2⟩ =>
  thn (ho pins s2 σ H2 x y v u _ I2 r1 r2 q2) fun d s3 ⟨z,H3,I3,r3,k,e,q3⟩=>?_)) hm
 subst e
 cases r3
 refine wpAny_truthy_bool ?_
 cases k with
 | false =>
  obtain ⟨k',e',q'⟩:=q3
  cases e'
  exact ite_ff ⟨H3,I3,q'⟩
 | true =>
  refine ite_tt (test_last (thn (hc pins s3 σ H3 _ I3 q3) fun w' s4 ⟨z',H4,I4,r4,q4⟩=>thn (ho' pins s4 σ H4 y z' u w' _ I4 r2 r4 q4) fun d' s5 ⟨z2,H5,I5,r5,k2,e2,q5⟩=>?_))
  subst e2
  cases r5
  exact wpAny_truthy_bool ⟨H5,I5,q5⟩
theorem jo:(sizeLine:Nat) < 2 ^ 63:=by rw [sizeLine_eq]; decide
theorem xY {x:V} {us:List Value} (r:Vals [x] us):∃ u,us = [u] /\ RelV x u:=by
 cases r with
 | cons r1 r2=>cases r2; exact ⟨_,rfl,r1⟩
theorem jV {x y:V} {us:List Value} (r:Vals [x,y] us):∃ u w',us = [u,w'] /\ RelV x u /\ RelV y w':=by
 cases r with
 | cons r1 r2 =>
  cases r2 with
  | cons r3 r4=>cases r4; exact ⟨_,_,rfl,r1,r3⟩
theorem xZ (hc:X.calm = true):yY X (.builtin "max") (fun xs H Q=>∃ i j,xs = [.int i,.int j] /\ Q (.int (if j > i then j else i)) H):=by
 intro pins s σ H xs us Q I r h
 obtain ⟨i,j,rfl,q⟩:=h
 obtain ⟨u,w',rfl,⟨t,rfl⟩,⟨t',rfl⟩⟩:=jV r
 refine max_two_ints (I.ok.hd hc) fun h' tk k=>⟨_,H,I.kept k,?_,q⟩
 by_cases hj:j > i
 ·rw [if_pos hj,if_pos hj]; exact ⟨_,rfl⟩
 ·rw [if_neg hj,if_neg hj]; exact ⟨_,rfl⟩
theorem sO (hc:X.calm = true):yY X (.builtin "min") (fun xs H Q=>∃ i j,xs = [.int i,.int j] /\ Q (.int (if j < i then j else i)) H):=by
 intro pins s σ H xs us Q I r h
 obtain ⟨i,j,rfl,q⟩:=h
 obtain ⟨u,w',rfl,⟨t,rfl⟩,⟨t',rfl⟩⟩:=jV r
 refine min_two_ints (I.ok.hd hc) fun h' tk k=>⟨_,H,I.kept k,?_,q⟩
 by_cases hj:j < i
 ·rw [if_pos hj,if_pos hj]; exact ⟨_,rfl⟩
 ·rw [if_neg hj,if_neg hj]; exact ⟨_,rfl⟩
theorem sP:yY X (.type "int") (fun xs H Q=>(∃ i,xs = [.int i] /\ Q (.int i) H) \/ ∃ k,xs = [.bl k] /\ Q (.int (if k then 1 else 0)) H):=by
 intro pins s σ H xs us Q I r h
 rcases h with ⟨i,rfl,q⟩ | ⟨k,rfl,q⟩
 ·obtain ⟨u,rfl,t,rfl⟩:=xY r
  exact call_int_int ⟨.int i,H,I,⟨_,rfl⟩,q⟩
 ·obtain ⟨u,rfl,r1⟩:=xY r
  cases r1
  exact call_int_bool ⟨.int (if k then 1 else 0),H,I.tok _,⟨_,rfl⟩,q⟩
end
end L2
namespace L2
open PySem PySem.Spec PyProof.Rows
structure ObjM (h:Heap) (x dx C:Addr) (mA:Str -> Option Value):Prop where
 obj:h.get? x = some (PySem.W.instObj C dx)
 ns:h.Ns1 dx mA
 ne:dx ≠ x
theorem ZR {h:Heap} {dx:Addr} {mA:Str -> Option Value} (n:h.Ns1 dx mA):∃ od,h.get? dx = some od /\ ∀ name,PySem.W.lookIn name od = some (mA name):=by
 obtain ⟨o,es,ep,ho,hd,hk,_,hm⟩:=n
 refine ⟨o,ho,fun name=>?_⟩
 have e:=hm name
 unfold nsFind findBy at e
 rw [← Array.find?_toList] at e
 unfold PySem.W.lookIn
 rw [hd]
 dsimp only
 split
 ·rename_i y q
  rw [q] at e
  exact congrArg some e
 ·rename_i q
  rw [q] at e
  have a:es.toList.any (·.refKey) = false:=by
   rw [List.any_eq_false]
   intro y hy
   obtain ⟨z,t,hkey⟩:=hk y (Array.mem_toList_iff.mp hy)
   simp [DictEntry.refKey,hkey]
  have a':¬ es.toList.any (·.refKey) = true:=by rw [a]; exact Bool.false_ne_true
  rw [if_neg a']
  exact congrArg some e
theorem ObjM.look {h:Heap} {x dx C:Addr} {mA:Str -> Option Value} (I:ObjM h x dx C mA):∃ od,PySem.W.InstAt h x (PySem.W.instObj C dx) C (some od) /\ ∀ name,PySem.W.lookIn name od = some (mA name) :=
 let ⟨od,ho,hl⟩:=ZR I.ns
 ⟨od,⟨I.obj,rfl,rfl,ho⟩,hl⟩
section
variable {P:Program} {w:World} {H H':Hp} {h h':Heap} {a C dx:Addr} {fs fs':List (Str × V)}
theorem WQ (hok:HOk P w H h) (e:H a = some (.ins C dx fs)):∃ mA,ObjM h a dx C mA /\ (∀ f,RelO (fs.lookup f) (mA f)) /\ PySem.Within mA (fs.map (·.1)) /\ fs.length <= 1000 /\ H dx = some (.own a):=by
 obtain ⟨d,z,ne,ob,mA,n,r,q⟩:=(show yr P w H h a (.ins C dx fs) from hok a _ e)
 exact ⟨mA,⟨ob,n,ne⟩,r,q,z,d⟩
end
structure Cls (K:FG7) (C:Addr):Prop where
 pg:PySem.W.plainGet K C Str.empty = true
 hd:PySem.W.hasDictIn K C = true
 po:PySem.W.plainOver K C = true
 sa:PySem.W.findIn K (.ref C) "__setattr__" = some (some (.builtin "object.__setattr__"))
theorem Cls.get {K:FG7} {C:Addr} (c:Cls K C) (f:Str):PySem.W.plainGet K C f = true:=c.pg
section
variable {X:Cx} {pins:List (Addr × Obj)} {σ:St} {H:Hp} {s:Shared} {A:Around} {E:VS7} {Q:VS7} {c:Value} {b:Bool}
inductive TyOf (K:FG7) (H:Hp):V -> Value -> Prop where
 | non:TyOf K H .non (.type "NoneType")
 | bl (x:Bool):TyOf K H (.bl x) (.type "bool")
 | int (i:Int):TyOf K H (.int i) (.type "int")
 | str (x:Str):TyOf K H (.str x) (.type "str")
 | flt (x:UInt64):TyOf K H (.flt x) (.type "float")
 | lst {a:Addr} {xs:List V} (e:H a = some (.lst xs)):TyOf K H (.ref a) (.type "list")
 | frz {a:Addr} {o:Obj} {xs:List V} (e:H a = some (.frz o (.lst xs))):TyOf K H (.ref a) (.type "list")
 | tup {a:Addr} {xs:List V} (e:H a = some (.tup xs)):TyOf K H (.ref a) (.type "tuple")
 | dK {a:Addr} {kvs:List (Key × V)} (e:H a = some (.dK kvs)):TyOf K H (.ref a) (.type "dict")
 | dT {a:Addr} {kvs:List (List Key × V)} (e:H a = some (.dT kvs)):TyOf K H (.ref a) (.type "dict")
 | ins {a C dx:Addr} {fs:List (Str × V)} (e:H a = some (.ins C dx fs)) (cl:Cls K C) (ha:PySem.W.findIn K (.ref C) "__class__" = some (some (.builtin "object.__class__")))
   (hn:PySem.W.specialIn K (.builtin "object.__class__") "__get__" = some (some (.builtin "getset_descriptor.__get__"))) (htk:PySem.W.takesIn K (.builtin "object.__class__") = some true)
   (hm:PySem.W.mroIn K C (.type "object") = some true):TyOf K H (.ref a) (.ref C)
theorem x6 {x:V} {u t:Value} (I:Inv X pins σ H s) (rx:RelV x u) (ty:TyOf X.K H x t) (e:PySem.W.kitOne X.K t c = some b) (h:∀ tk,Q (.bool b) { s with toks:=tk }) :
  wpAny (model X.prog X.w) A (call (.builtin "isinstance") [u,c]) Q E s:=by
 cases ty with
 | non=>cases (show u = Value.none from rx); exact PySem.W.kia_one PySem.W.kitx_none I.kIn True.intro e (fun z=>nomatch z) h
 | bl y=>cases (show u = Value.bool y from rx); exact PySem.W.kia_one PySem.W.kitx_bool I.kIn True.intro e (fun z=>nomatch z) h
 | int i=>obtain ⟨t,q⟩:=(show ∃ t,u = Value.int i t from rx); cases q; exact PySem.W.kia_one PySem.W.kitx_int I.kIn True.intro e (fun z=>nomatch z) h
 | str y=>obtain ⟨t,q⟩:=(show ∃ t,u = Value.str y t from rx); cases q; exact PySem.W.kia_one PySem.W.kitx_str I.kIn True.intro e (fun z=>nomatch z) h
 | flt y=>obtain ⟨t,q⟩:=(show ∃ t,u = Value.float y t from rx); cases q; exact PySem.W.kia_one PySem.W.kitx_float I.kIn True.intro e (fun z=>nomatch z) h
 | @lst a xs ea =>
  cases (show u = Value.ref a from rx)
  obtain ⟨_,_,n,_,h1⟩:=(show yr X.prog X.w H s.heap a (.lst xs) from I.hok a _ ea)
  exact PySem.W.kia_one PySem.W.kitx_list I.kIn ⟨_,h1,rfl⟩ e (fun z=>nomatch z) h
 | @frz a ob xs ea =>
  cases (show u = Value.ref a from rx)
  obtain ⟨_,_,_,n,_,h1⟩:=(show yr X.prog X.w H s.heap a (.frz ob (.lst xs)) from I.hok a _ ea)
  exact PySem.W.kia_one PySem.W.kitx_list I.kIn ⟨_,h1,rfl⟩ e (fun z=>nomatch z) h
 | @tup a xs ea =>
  cases (show u = Value.ref a from rx)
  obtain ⟨_,_,_,p⟩:=(show yr X.prog X.w H s.heap a (.tup xs) from I.hok a _ ea)
  obtain ⟨o,h1,h2,_⟩:=p
  exact PySem.W.kia_one PySem.W.kitx_tuple I.kIn ⟨o,h1,h2⟩ e (fun z=>nomatch z) h
 | @dK a kvs ea =>
  cases (show u = Value.ref a from rx)
  obtain ⟨_,_,vs,_,p⟩:=(show yr X.prog X.w H s.heap a (.dK kvs) from I.hok a _ ea)
  obtain ⟨o,es,ep,h1,h2,_⟩:=p
  exact PySem.W.kia_one PySem.W.kitx_dict I.kIn ⟨o,h1,h2.1⟩ e (fun z=>nomatch z) h
 | @dT a kvs ea =>
  cases (show u = Value.ref a from rx)
  obtain ⟨_,_,xs,_,o,es,ep,h1,h2,_⟩:=(show yr X.prog X.w H s.heap a (.dT kvs) from I.hok a _ ea)
  exact PySem.W.kia_one PySem.W.kitx_dict I.kIn ⟨o,h1,h2.1⟩ e (fun z=>nomatch z) h
 | @ins a C dx fs ea cl ha hn htk hm =>
  cases (show u = Value.ref a from rx)
  obtain ⟨mA,O,_⟩:=WQ I.hok ea
  obtain ⟨od,J,_⟩:=O.look
  exact PySem.W.kia_one (PySem.W.kitx_own (cl.get _) cl.hd ha hn htk hm) I.kIn J e (fun z=>nomatch z) h
end
end L2
namespace L2
open PySem PySem.Spec PyProof.Rows
structure Room (k:Nat) (A:Around):Prop where
 hd:A.handled = none
 dp:A.depth + 3 * k + 5 < recursionLimit
 un:A.units + 16 * k + 200 < cLine
 gd:A.guards = some []
theorem Room.mono {j k:Nat} {A:Around} (r:Room k A) (h:j <= k):Room j A:=⟨r.hd,by have:=r.dp; omega,by have:=r.un; omega,r.gd⟩
theorem Room.deeper {k:Nat} {A:Around} (r:Room (k + 1) A) (env:Env):Room k (A.deeper env) :=
 ⟨r.hd,by have:=r.dp; show A.depth + 1 + 3 * k + 5 < _; omega,by have:=r.un; show A.units + 3 + 16 * k + 200 < _; omega,r.gd⟩
theorem Room.depth {k:Nat} {A:Around} (r:Room k A):A.depth < recursionLimit:=by have:=r.dp; omega
theorem Room.units0 {k:Nat} {A:Around} (r:Room k A):A.units < cLine:=by have:=r.un; omega
def tNil:TA:=fun _ H Q=>Q [] H
def Um (ta:TE) (tr:TA):TA:=fun σ H Q=>ta σ H fun x H1=>tr σ H1 fun xs H2=>Q (x :: xs) H2
section
variable {X:Cx} {e:Expr} {es:List Expr} {te:TE} {t:TA} {pos:Pos}
theorem zb:PA X [] tNil:=fun _ _ _ _ H Q I h=>Calls.spliced_nil ⟨[],H,I,.nil,h⟩
theorem za (ha:PE X e te) (hr:PA X es t) (hs:starEach (e :: es) X.env = (false,eval e X.env) :: starEach es X.env:=by rfl):PA X (e :: es) (Um te t):=by
 intro pos pins s σ H Q I h
 rw [hs]
 show wpAny _ _ (spliced ((false,eval e X.env) :: backTo pos (starEach es X.env))) _ _ s
 refine Calls.spliced_cons (thn (ha pins s σ H _ I h) fun u s1 ⟨x,H1,I1,r1,q1⟩=>?_)
 exact thn (hr pos pins s1 σ H1 _ I1 q1) fun us s2 ⟨xs,H2,I2,r2,q2⟩=>⟨x :: xs,H2,I2,.cons r1 r2,q2⟩
def tTup (t:TA):TE:=fun σ H Q=>t σ H fun xs H1=>xs.length <= sizeLine /\ ∀ p,H1 p = none -> Q (.ref p) (upd H1 p (.tup xs))
def tLst (t:TA):TE:=fun σ H Q=>t σ H fun xs H1=>xs.length <= sizeLine /\ ∀ p,H1 p = none -> Q (.ref p) (upd H1 p (.lst xs))
theorem zY {x1} (h:PA X es t):PE X (.Tuple es x1 pos) (tTup t):=by
 intro pins s σ H Q I hq
 refine wpAny_Tuple_spliced (thn (h pos pins s σ H _ I hq) fun us s1 ⟨xs,H1,I1,r,z,q⟩=>⟨by rw [← r.length]; exact z,?_⟩)
 have hf:H1 s1.heap.objs.size = none:=I1.hok.fresh (Nat.le_refl _)
 refine ⟨.ref s1.heap.objs.size,upd H1 s1.heap.objs.size (.tup xs),I1.laid (t':=s1.toks) (fun b u e=>Heap.get?_push_of_some _ e) (Nat.le_refl _) ?_,rfl,q _ hf⟩
 exact ⟨z,us,r,⟨_,Heap.get?_push_size _ rfl,rfl,_,rfl⟩⟩
theorem yM (h:PA X es t):PE X (.List es pos) (tLst t):=by
 intro pins s σ H Q I hq
 refine wpAny_List_spliced (thn (h pos pins s σ H _ I hq) fun us s1 ⟨xs,H1,I1,r,z,q⟩=>⟨by rw [← r.length]; exact z,?_⟩)
 have hf:H1 s1.heap.objs.size = none:=I1.hok.fresh (Nat.le_refl _)
 refine ⟨.ref s1.heap.objs.size,upd H1 s1.heap.objs.size (.lst xs),I1.laid (t':=s1.toks) (fun b u e=>Heap.get?_push_of_some _ e) (Nat.le_refl _) ?_,rfl,q _ hf⟩
 exact ⟨z,us,0,r,Heap.get?_push_size _ rfl⟩
end
abbrev Sp:=List V -> Hp -> VK -> XK -> Prop
abbrev CXT:=List Env -> Hp -> Shared -> XK -> Value -> Shared -> Prop
structure Env0 (P:Program) (w:World) (K:FG7) (mg:Str -> Option Value) (base:Heap) (A:Around) (outer:List Env) (s:Shared) (H:Hp):Prop where
 frames:A.frames = some outer
 mod:Mod K mg base
 bs:∀ b o,base.get? b = some o -> s.heap.get? b = some o /\ H b = none
 bsz:base.objs.size <= s.heap.objs.size
 funs:s.heap.FunFrames base outer
 frf:∀ b ∈ frs outer,H b = none
 hok:HOk P w H s.heap
 bare:AllBare s.gens
def CE (outer:List Env) (P:Program) (w:World) (H:Hp) (s:Shared) (Q:VK) (u:Value) (s':Shared):Prop :=
 ∃ v H',s'.os = s.os /\ AllBare s'.gens /\ Un (frs outer) [] H H' s.heap s'.heap /\ HOk P w H' s'.heap /\ RelV v u /\ Q v H'
def CR (CX:CXT) (outer:List Env) (P:Program) (w:World) (H:Hp) (s:Shared) (Q:VK) (E:XK) (r:Result) (s':Shared):Prop :=
 match r with
 | .ok (.ret u)=>CE outer P w H s Q u s'
 | .ok _=>False
 | .error e=>CX outer H s E e s'
structure FnOk (P:Program) (w:World) (K:FG7) (mg:Str -> Option Value) (base:Heap) (CX:CXT) (k:Nat) (f:Addr) (fd:FuncData) (ps:List Str) (sp:Sp):Prop where
 len:∀ vs H Q E,sp vs H Q E -> vs.length = ps.length
 run:∀ (A:Around) (outer:List Env) (s:Shared) (H:Hp) (args:Args) (us:List Value) (vs:List V) (Q:VK) (E:XK),Room k A -> Env0 P w K mg base A outer s H -> BindsTo s fd args (ps.zip us) -> Vals vs us -> sp vs H Q E →
  codeAny (model P w) A (.call (.ref f) args) (CR CX outer P w H s Q E) s
theorem FnOk.mono {P:Program} {w:World} {K:FG7} {mg:Str -> Option Value} {base:Heap} {CX:CXT} {j k:Nat} {f:Addr} {fd:FuncData} {ps:List Str} {sp:Sp} (F:FnOk P w K mg base CX j f fd ps sp) (h:j <= k) :
  FnOk P w K mg base CX k f fd ps sp:=⟨F.len,fun A outer s H args us vs Q E hr=>F.run A outer s H args us vs Q E (hr.mono h)⟩
section
variable {X:Cx} {pins:List (Addr × Obj)} {σ:St} {H:Hp} {s s':Shared}
theorem Inv.env0 (I:Inv X pins σ H s):Env0 X.prog X.w X.K X.mg X.base X.A X.stack s H :=
 ⟨I.ok.frames,I.ok.mod,I.bs,Nat.le_trans I.ok.bsz I.sz,I.stack,I.stkFree,I.hok,I.bare⟩
theorem Inv.after {Q:VK} {u:Value} (I:Inv X pins σ H s) (h:CE X.stack X.prog X.w H s Q u s'):EP X pins σ Q u s':=by
 obtain ⟨v,H',os,bare,un,hok,r,q⟩:=h
 obtain ⟨hh,g,d,t,os'⟩:=s'
 obtain rfl:os' = s.os:=os
 exact ⟨v,H',I.call (h':=hh) (g':=g) (d':=d) (t':=t) (ch:=[]) un hok bare (fun b z=>absurd z (by simp)),r,q⟩
end
def WR (sp:Sp) (dvs:List V) (E:XK) (t:TA):TE:=fun σ H Q=>t σ H fun vs H1=>sp (vs ++ dvs) H1 Q E
def sQ (K:FG7) (fd:FuncData) (ps:List Str) (ds:List Value):Prop :=
 ∀ (s:Shared) (us:List Value),K.In s.heap -> (us ++ ds).length = ps.length -> BindsTo s fd ⟨us,[]⟩ (ps.zip (us ++ ds))
theorem sQ.all {K:FG7} {fd:FuncData} {ps:List Str} (h:∀ us:List Value,us.length = ps.length -> bindArgs fd ⟨us,[]⟩ = pure (ps.zip us)):sQ K fd ps []:=fun s us _ hl=>by
 rw [List.append_nil] at hl ⊢
 exact .of_eq (h us hl)
def tm (CX:CXT) (X:Cx) (E:XK):Prop:=∀ (pins:List (Addr × Obj)) (σ:St) (H:Hp) (s:Shared) (e:Value) (s':Shared),Inv X pins σ H s -> CX X.stack H s E e s' -> X.xe e s'
section
variable {X:Cx} {CX:CXT} {k:Nat} {f C:Addr} {fd:FuncData} {ps:List Str} {sp:Sp} {dvs:List V} {ds:List Value} {E:XK} {x m:Str} {p pos apos:Pos} {e o:Expr} {es:List Expr} {ta:TE} {t:TA}
theorem VB {pins:List (Addr × Obj)} {σ:St} {H:Hp} {s:Shared} {Q:VK} {us:List Value} {vs:List V} (F:FnOk X.prog X.w X.K X.mg X.base CX k f fd ps sp) (hr:Room k X.A) (hb:sQ X.K fd ps ds) (hd:Vals dvs ds) (hx:tm CX X E)
  (I:Inv X pins σ H s) (r:Vals vs us) (h:sp (vs ++ dvs) H Q E):wpAny (model X.prog X.w) X.A (call (.ref f) us) (EP X pins σ Q) X.xe s:=by
 have r2:Vals (vs ++ dvs) (us ++ ds):=r.append hd
 have hl:(us ++ ds).length = ps.length:=by rw [← r2.length]; exact F.len _ _ _ _ h
 refine wpAny_call (codeAny_mono (F.run X.A X.stack s H ⟨us,[]⟩ (us ++ ds) (vs ++ dvs) Q E hr I.env0 (hb s us I.kIn hl) r2 h) fun r s' hq=>?_)
 cases r with
 | error e=>exact hx pins σ H s e s' I hq
 | ok fl =>
  cases fl with
  | ret u=>exact I.after hq
  | next=>exact False.elim hq
  | brk=>exact False.elim hq
  | cont=>exact False.elim hq
theorem ZS (F:FnOk X.prog X.w X.K X.mg X.base CX k f fd ps sp) (hr:Room k X.A) (hg:Gl X x) (hm:X.mg x = some (.ref f)) (hk:PySem.W.keepIn X.K (.ref f) = true) (hb:sQ X.K fd ps ds) (hd:Vals dvs ds) (hx:tm CX X E)
  (ha:PA X (e :: es) t) (hdb:(x == ("__debug__":Str)) = false:=by decide) (he:starEach (e :: es) X.env = (false,eval e X.env) :: starEach es X.env:=by rfl) (hpl:(backTo pos (starEach es X.env)).any (·.1) = false:=by rfl) :
  PE X (.Call (.Name x p) (e :: es) [] pos) (WR sp dvs E t):=by
 intro pins s σ H Q I h
 refine wpAny_Call_Name_kw (t6 I hg hm ?_ hdb)
 refine PySem.W.callWith_K (h₀:=X.base) I.ok.mod.kin hk (thn (ha pos pins s σ H _ I h) fun us s1 ⟨vs,H1,I1,r,q⟩=>⟨I1.kIn,?_⟩) he hpl
 exact VB F hr hb hd hx I1 r q
end
structure FnScope (N P:List Str) (sc:Scope):Prop where
 kind:sc.kind = .function
 co:sc.isCoroutine = false
 gen:sc.isGenerator = false
 nd:N.Nodup
 pre:N.take P.length = P
 par:∀ x ∈ P,sc.names.lookup x = some .local \/ sc.names.lookup x = some .cell
 nofree:∀ y ∈ sc.names,y.2 ≠ .free
theorem sR {kindOf:Str -> Option NameKind} {x:Str}:∀ {binds:List (Str × Value)} {m:Str -> Option Value},(∀ v,(x,v) ∉ binds) -> bindL kindOf binds m x = m x
 | [],_,_=>rfl
 | (n,v) :: r,m,h=>by
  unfold bindL
  rw [sR fun w hw=>h w (List.mem_cons_of_mem _ hw)]
  split
  ·have:x ≠ n:=by rintro rfl; exact h v List.mem_cons_self
   simp [this]
  ·rfl
theorem sS {kindOf:Str -> Option NameKind} {x:Str}:∀ {binds:List (Str × Value)} {m:Str -> Option Value},(∀ v,(x,v) ∉ binds) -> bindC kindOf binds m x = m x
 | [],_,_=>rfl
 | (n,v) :: r,m,h=>by
  unfold bindC
  rw [sS fun w hw=>h w (List.mem_cons_of_mem _ hw)]
  split
  ·rfl
  ·have:x ≠ n:=by rintro rfl; exact h v List.mem_cons_self
   simp [this]
theorem sT {kindOf:Str -> Option NameKind} {x:Str} {v:Value}:∀ {P:List Str} {vs:List Value} {i:Nat} {m:Str -> Option Value},P.Nodup -> P[i]? = some x -> vs[i]? = some v -> kindOf x = some .local →
  bindL kindOf (P.zip vs) m x = some v
 | [],_,_,_,_,h,_,_=>by simp at h
 | _ :: _,[],_,_,_,_,h,_=>by simp at h
 | p :: P,w :: vs,0,m,nd,h1,h2,hk=>by
  simp at h1 h2; subst h1; subst h2
  show bindL kindOf ((p,w) :: P.zip vs) m p = _
  unfold bindL
  rw [sR fun v hv=>(List.nodup_cons.mp nd).1 (List.of_mem_zip hv).1,if_pos hk]
  simp
 | p :: P,w :: vs,i + 1,m,nd,h1,h2,hk=>by
  show bindL kindOf ((p,w) :: P.zip vs) m x = _
  unfold bindL
  exact sT (i:=i) (List.nodup_cons.mp nd).2 (by simpa using h1) (by simpa using h2) hk
theorem sU {kindOf:Str -> Option NameKind} {x:Str} {v:Value}:∀ {P:List Str} {vs:List Value} {i:Nat} {m:Str -> Option Value},P.Nodup -> P[i]? = some x -> vs[i]? = some v -> kindOf x ≠ some .local →
  bindC kindOf (P.zip vs) m x = some v
 | [],_,_,_,_,h,_,_=>by simp at h
 | _ :: _,[],_,_,_,_,h,_=>by simp at h
 | p :: P,w :: vs,0,m,nd,h1,h2,hk=>by
  simp at h1 h2; subst h1; subst h2
  show bindC kindOf ((p,w) :: P.zip vs) m p = _
  unfold bindC
  rw [sS fun v hv=>(List.nodup_cons.mp nd).1 (List.of_mem_zip hv).1,if_neg hk]
  simp
 | p :: P,w :: vs,i + 1,m,nd,h1,h2,hk=>by
  show bindC kindOf ((p,w) :: P.zip vs) m x = _
  unfold bindC
  exact sU (i:=i) (List.nodup_cons.mp nd).2 (by simpa using h1) (by simpa using h2) hk
def start (N:List Str) (vs:List V):St:=vs.map some ++ List.replicate (N.length - vs.length) none
def cxOf (CX:CXT) (P:Program) (w:World) (K:FG7) (mg:Str -> Option Value) (base:Heap) (N:List Str) (qual:Str) (scope:Scope) (f:Addr) (cd:Value) (A:Around) (outer:List Env) (s:Shared) (H:Hp) (E:XK):Cx where
 prog:=P
 w:=w
 K:=K
 mg:=mg
 base:=base
 A:=A.deeper (envOfC qual scope s.heap.objs.size f cd)
 N:=N
 s₀:=s
 H₀:=H
 env:=envOfC qual scope s.heap.objs.size f cd
 outer:=outer
 stack:=envOfC qual scope s.heap.objs.size f cd :: outer
 ex:=[]
 calm:=true
 fn:=fun _=>true
 pn:=[]
 xe:=fun e s'=>wpAny (model P w) (A.deeper (envOfC qual scope s.heap.objs.size f cd)) (leaving (envOfC qual scope s.heap.objs.size f cd) e) (fun _ s''=>CX outer H s E e s'') (fun e' s''=>CX outer H s E e' s'') s'
theorem jp {sc:Scope} {n:Nat} {x:Str} (h:sc.names.lookup x = some .cell):∃ c,(cellsFrom n sc.names []).lookup x = some c:=by
 have q:=PySem.W.cellsFrom_some sc.names n [] (.inl h)
 exact Option.isSome_iff_exists.mp q
theorem ZT {CX:CXT} {P:Program} {w:World} {K:FG7} {mg:Str -> Option Value} {base:Heap} {N ps:List Str} {qual:Str} {scope:Scope} {f:Addr} {cd:Value} {A:Around} {outer:List Env} {s s1:Shared} {H:Hp} {E:XK} {us:List Value} {vs:List V}
  (S:FnScope N ps scope) (hd:A.handled = none) (e0:Env0 P w K mg base A outer s H) (hl:vs.length = ps.length) (r:Vals vs us)
  (x:InCallC s s.heap.objs.size (bindL (envOfC qual scope s.heap.objs.size f cd).kindOf (ps.zip us) fun _=>none) (cellsFrom (s.heap.objs.size + 1) scope.names []) (bindC (envOfC qual scope s.heap.objs.size f cd).kindOf (ps.zip us) fun _=>none) s1) :
  Inv (cxOf CX P w K mg base N qual scope f cd A outer s H E) [] (start N vs) H s1:=by
 have hpl:ps.length <= N.length:=by have:=congrArg List.length S.pre; rw [List.length_take] at this; omega
 obtain ⟨h1,tk,rfl,hk⟩:=x.done
 have noA:∀ b:Addr,b ∉ (cxOf CX P w K mg base N qual scope f cd A outer s H E).ex:=fun b z=>absurd (show b ∈ ([]:List Addr) from z) (by simp)
 refine ⟨⟨e0.mod,S.kind,rfl,rfl,Nat.le_refl _,fun y z c h1 h2=>?_,fun y hy=>?_,fun y c _ h=>?_,fun _=>hd,Around.frames_deeper e0.frames,.inr ⟨rfl,rfl⟩,fun b z=>absurd z (noA b),e0.bs,e0.bsz,fun b _ _=>noA b,fun b z=>absurd z (noA b),e0.funs,e0.frf⟩,
  rfl,e0.bare,Un.kept hk,⟨_,x.toInCall.ns,fun i y v h1 h2 h3=>?_⟩,fun y c h=>⟨_,x.cell y c h⟩,e0.hok.fresh (Nat.le_refl _),fun y c h=>?_,fun p hp=>absurd (show p ∈ ([]:List (Addr × Obj)) from hp) (by simp),e0.hok.kept hk,?_⟩
 ·exact name_of_addr x.apart (PySem.mem_of_lookup h1) (PySem.mem_of_lookup h2)
 ·have hy:scope.names.lookup y = some .cell \/ scope.names.lookup y = some .free:=hy
  rcases hy with hy | hy
  ·exact jp hy
  ·exact absurd rfl (S.nofree _ (PySem.mem_of_lookup hy))
 ·exact Nat.le_of_lt (x.above y c (PySem.mem_of_lookup h))
 ·have hi:i < vs.length:=by
   unfold start at h2
   by_cases hi:i < vs.length
   ·exact hi
   ·rw [List.getElem?_append_right (by simpa using hi)] at h2
    rw [List.getElem?_replicate] at h2
    split at h2 <;> cases h2
  have ha:vs[i]? = some v:=by
   unfold start at h2
   rw [List.getElem?_append_left (by simpa using hi),List.getElem?_map] at h2
   cases e:vs[i]? with
   | none=>rw [e] at h2; cases h2
   | some a=>rw [e] at h2; cases h2; rfl
  obtain ⟨u,hu,rv⟩:=r.get ha
  have hp:ps[i]? = some y:=by
   rw [← S.pre,List.getElem?_take_of_lt (by omega)]; exact h1
  have ndP:ps.Nodup:=by rw [← S.pre]; exact S.nd.sublist (List.take_sublist _ _)
  refine ⟨u,rv,?_⟩
  rcases S.par y (List.mem_of_getElem? hp) with k | k
  ·exact .inl ⟨k,sT ndP hp hu k⟩
  ·obtain ⟨c,e⟩:=jp (n:=s.heap.objs.size + 1) k
   refine .inr ⟨.inl k,c,e,?_⟩
   have q:=x.cell y c e
   rw [sU ndP hp hu (by show scope.names.lookup y ≠ _; rw [k]; decide)] at q
   exact q
 ·exact e0.hok.fresh (Nat.le_of_lt (x.above y c (PySem.mem_of_lookup h)))
 ·unfold start
  show _ = N.length
  rw [List.length_append,List.length_map,List.length_replicate]
  omega
theorem VC {CX:CXT} {P:Program} {w:World} {K:FG7} {mg:Str -> Option Value} {base:Heap} {k:Nat} {f:Addr} {name qual:Str} {params:Arguments} {body:List Stmt} {scope:Scope} {dV kV doc pm cdv ct oc:Value} {an od:Option Addr}
  {osl:Array (Option Value)} {N ps:List Str} {sp:Sp} (lk:K.lookup f = some ⟨oc,od,.func (PySem.W.fnOf name qual params body scope dV kV doc pm an cdv ct),osl⟩) (hcd:PySem.W.codeIn K cdv qual = true) (S:FnScope N ps scope)
  (len:∀ vs H Q E,sp vs H Q E -> vs.length = ps.length)
  (hbody:∀ (A:Around) (outer:List Env) (s:Shared) (H:Hp) (vs:List V) (Q:VK) (E:XK),Room k (A.deeper (envOfC qual scope s.heap.objs.size f cdv)) -> sp vs H Q E →
   ∃ t,PSs (cxOf CX P w K mg base N qual scope f cdv A outer s H E) body t /\ t { nx:=fun _ H'=>Q .non H',rt:=Q } (start N vs) H) :
  FnOk P w K mg base CX (k + 1) f (PySem.W.fnOf name qual params body scope dV kV doc pm an cdv ct) ps sp:=by
 refine ⟨len,fun A outer s H args us vs Q E hr e0 hb r hsp=>?_⟩
 have hl:=len _ _ _ _ hsp
 have KX:K.In s.heap:=e0.mod.kin.keeps fun b o e=>(e0.bs b o e).1
 have lim:s.heap.NoLimit:=e0.mod.nolimit.keeps fun b o e=>(e0.bs b o e).1
 have hkind:∀ y ∈ ps.zip us,scope.names.lookup y.1 = some .local \/ (scope.names.lookup y.1 = some .cell /\ ((cellsFrom (s.heap.objs.size + 1) scope.names []).lookup y.1).isSome = true):=fun ⟨n,v⟩ hy=>by
  rcases S.par n (List.of_mem_zip hy).1 with q | q
  ·exact .inl q
  ·exact .inr ⟨q,PySem.W.cellsFrom_some _ _ _ (.inl q)⟩
 refine codeAny_call_function hr.depth (KX _ _ lk) rfl S.co S.gen rfl (PySem.W.codeRec_of KX hcd) (hb _ _ _ _ ?_)
 refine wpAny_newFunctionEnv_cells S.kind hkind fun env he s1 x=>?_
 subst he
 refine ⟨lim.keeps x.toInCall.keep,codeAny_func ?_⟩
 obtain ⟨t,ht,hq⟩:=hbody A outer s H vs Q E (hr.deeper _) hsp
 have I:Inv (cxOf CX P w K mg base N qual scope f cdv A outer s H E) [] (start N vs) H s1:=ZT S hr.hd e0 hl r x
 refine wpAny_mono (ht [] s1 (start N vs) H _ I hq) (fun fl s' hs=>?_) fun e s' hs=>hs
 have fin:∀ {σ':St} {H':Hp} {v:V} {u:Value},Inv (cxOf CX P w K mg base N qual scope f cdv A outer s H E) [] σ' H' s' -> RelV v u -> Q v H' -> CE outer P w H s Q u s' :=
  fun {σ' H' v u} J rv q=>⟨v,H',J.os,J.bare,J.base,J.hok,rv,q⟩
 cases fl with
 | ret u =>
  obtain ⟨v,σ',H',J,rv,q⟩:=hs
  exact fin J rv q
 | next =>
  obtain ⟨σ',H',J,q⟩:=hs
  exact fin (v:=V.non) (u:=Value.none) J rfl q
 | brk =>
  obtain ⟨_,_,_,q⟩:=hs
  exact False.elim q
 | cont =>
  obtain ⟨_,_,_,q⟩:=hs
  exact False.elim q
end L2
namespace L2
open PySem PySem.Spec PyProof.Rows
section
variable {X:Cx} {x:Str} {p pos:Pos} {e:Expr} {es:List Expr} {t:TA} {id T:String} {r:List V -> Hp -> VK -> Prop}
def tCB (r:List V -> Hp -> VK -> Prop) (t:TA):TE:=fun σ H Q=>t σ H fun vs H1=>r vs H1 Q
theorem zj (hc:yY X (.builtin id) r) (hg:Gl X x) (hm:X.mg x = none) (hv:bootBuiltins x = some (.builtin id)) (ha:PA X (e :: es) t) (hn:x ≠ "__name__":=by decide) (hdb:(x == ("__debug__":Str)) = false:=by decide)
  (he:starEach (e :: es) X.env = (false,eval e X.env) :: starEach es X.env:=by rfl) (hpl:(backTo pos (starEach es X.env)).any (·.1) = false:=by rfl):PE X (.Call (.Name x p) (e :: es) [] pos) (tCB r t):=by
 intro pins s σ H Q I h
 refine wpAny_Call_Name_kw (vN I hg hm hv ?_ hn hdb)
 exact PyProof.Rows.callWith_builtin1 (thn (ha pos pins s σ H _ I h) fun us s1 ⟨vs,H1,I1,r1,q1⟩=>hc pins s1 σ H1 vs us Q I1 r1 q1) he hpl
theorem zJ (hc:yY X (.type T) r) (hg:Gl X x) (hm:X.mg x = none) (hv:bootBuiltins x = some (.type T)) (ha:PA X (e :: es) t) (hn:x ≠ "__name__":=by decide) (hdb:(x == ("__debug__":Str)) = false:=by decide)
  (he:starEach (e :: es) X.env = (false,eval e X.env) :: starEach es X.env:=by rfl) (hpl:(backTo pos (starEach es X.env)).any (·.1) = false:=by rfl):PE X (.Call (.Name x p) (e :: es) [] pos) (tCB r t):=by
 intro pins s σ H Q I h
 refine wpAny_Call_Name_kw (vN I hg hm hv ?_ hn hdb)
 exact PyProof.Rows.callWith_type1 (thn (ha pos pins s σ H _ I h) fun us s1 ⟨vs,H1,I1,r1,q1⟩=>hc pins s1 σ H1 vs us Q I1 r1 q1) he hpl
end
end L2
namespace HT
open PySem PyProof.Rows
section
variable {prog:Program} {w:World} {A:Around} {E:VS7} {s:Shared}
theorem cat_tup {t b:Addr} {vs ws:List Value} {Q:VS7} (ht:IsTup s.heap t vs.toArray) (hb:IsTup s.heap b ws.toArray) (hv:vs ≠ [])
  (h1:ws = [] -> Q (.ref t) s) (h2:ws ≠ [] -> Q (.ref s.heap.objs.size) { s with heap:=s.heap.push { cls:=.type "tuple",data:=.seq (vs ++ ws).toArray } })
  (hsz:vs.length + ws.length <= sizeLine):wpAny (model prog w) A (binaryOp .Add (.ref t) (.ref b)) Q E s:=by
 obtain ⟨⟨cls,dd,data,sl⟩,ho,hc,n,hd⟩:=id ht
 obtain ⟨⟨cls2,dd2,data2,sl2⟩,ho2,hc2,n2,hd2⟩:=id hb
 simp only at hc hd hc2 hd2
 subst hc hd hc2 hd2
 have e:vs.toArray ++ ws.toArray = (vs ++ ws).toArray:=by simp
 by_cases hw:ws = []
 ·exact concat_meets ⟨_,ho,rfl⟩ ⟨_,ho2,rfl⟩ noFill_tuple_add seq_tuple_add PySem.F.slot_tuple_add PySem.F.entry_tuple_add (PySem.F.args_tuple_add_2 _ _)
   (tuple_addW1 t b vs.toArray ws.toArray n n2 dd dd2 sl sl2 (by simpa using hv) (by simp [hw])) ⟨ho,ho2,h1 hw⟩
 ·refine concat_meets ⟨_,ho,rfl⟩ ⟨_,ho2,rfl⟩ noFill_tuple_add seq_tuple_add PySem.F.slot_tuple_add PySem.F.entry_tuple_add (PySem.F.args_tuple_add_2 _ _)
   (tuple_addW2 t b vs.toArray ws.toArray n n2 dd dd2 sl sl2 (by simpa using hv) (by simpa using hw) (by rw [List.size_toArray,List.size_toArray]; exact hsz)) ⟨ho,ho2,?_⟩
  rw [e]
  exact h2 hw
def sIx (n d:Nat):Option Int -> Nat
 | none=>d
 | some v=>if v < 0 then (v + (n:Int)).toNat else min v.toNat n
theorem sIx_none (n d:Nat):sIx n d none = d:=rfl
theorem sIx_nat (n d k:Nat):sIx n d (some (k:Int)) = min k n:=by
 show (if (k:Int) < 0 then ((k:Int) + (n:Int)).toNat else min (k:Int).toNat n) = min k n
 rw [if_neg (by omega),Int.toNat_natCast]
theorem VD (n d:Nat) (hd:d <= n) (o:Option Int):sIx n d o <= n:=by
 cases o with
 | none=>exact hd
 | some v =>
  show (if v < 0 then (v + (n:Int)).toNat else min v.toNat n) <= n
  by_cases hv:v < 0
  ·rw [if_pos hv]; omega
  ·rw [if_neg hv]; exact Nat.min_le_right _ _
theorem ZU (v:Int) (n d:Nat):(if v < 0 then max (v + (n:Int)) 0 else min v (n:Int)) = ((sIx n d (some v):Nat):Int):=by
 show (if v < 0 then max (v + (n:Int)) 0 else min v (n:Int)) = (((if v < 0 then (v + (n:Int)).toNat else min v.toNat n):Nat):Int)
 by_cases hv:v < 0
 ·simp only [if_pos hv]; omega
 ·simp only [if_neg hv]; omega
theorem jW (lo hi:Option Int) (n:Nat):Builtin.Slice.sliceAdjust lo hi 1 (n:Int) = (((sIx n 0 lo:Nat):Int),((sIx n n hi:Nat):Int)):=by
 have h1:¬ ((1:Int) < 0):=by omega
 unfold Builtin.Slice.sliceAdjust
 simp only [h1,if_false]
 refine Prod.ext ?_ ?_
 ·cases lo with
  | none=>rfl
  | some v=>exact ZU v n 0
 ·cases hi with
  | none=>rfl
  | some v=>exact ZU v n n
theorem jX (i j:Nat):Builtin.Slice.slicePlaces (i:Int) (j:Int) 1 = j - i:=by
 unfold Builtin.Slice.slicePlaces
 have h1:(1:Int) > 0:=by omega
 simp only [h1,if_true,Int.ediv_one]
 split <;> omega
theorem slicePart_ {v:Value} {o:Option Int} {Q:Option Int -> Shared -> Prop} (p:IsPart v o) (h:Q o s):wpAny (model prog w) A (Builtin.Slice.slicePartIndex v) Q E s:=by
 cases p with
 | none=>exact slicePart_none h
 | int i t=>exact slicePart_int h
theorem xU {sl:Addr} {vl vu:Value} {lo hi:Option Int} {n:Nat} {Q:Int × Int × Nat -> Shared -> Prop} (hs:s.heap.IsSliceOf sl vl vu .none) (pl:IsPart vl lo) (pu:IsPart vu hi)
  (h:Q (((sIx n 0 lo:Nat):Int),1,sIx n n hi - sIx n 0 lo) s):wpAny (model prog w) A (Builtin.Slice.sliceApplied (.ref sl) (pure (n:Int))) Q E s:=by
 obtain ⟨os,hos,hcs,hds⟩:=id hs
 unfold Builtin.Slice.sliceApplied Builtin.Slice.sliceFields
 refine wpAny_bind (wpAny_bind (wpAny_field hos hds (x:=vl) rfl (wpAny_bind (wpAny_field hos hds (x:=vu) rfl (wpAny_bind (wpAny_field hos hds (x:=.none) rfl (wpAny_pure ?_)))))))
 refine wpAny_bind (slicePart_none ?_)
 show wpAny _ _ (if ((1:Int) == 0) = true then _ else _) _ _ s
 rw [if_neg (by decide)]
 refine wpAny_bind (slicePart_ pl (wpAny_bind (slicePart_ pu (wpAny_bind (wpAny_pure ?_)))))
 show wpAny _ _ (match Builtin.Slice.sliceAdjust lo hi 1 (n:Int) with | (lo,hi)=>pure (lo,(1:Int),Builtin.Slice.slicePlaces lo hi 1)) _ _ s
 rw [jW lo hi n]
 show wpAny _ _ (pure (((sIx n 0 lo:Nat):Int),(1:Int),Builtin.Slice.slicePlaces ((sIx n 0 lo:Nat):Int) ((sIx n n hi:Nat):Int) 1)) _ _ s
 rw [jX]
 exact wpAny_pure h
theorem XB (xs:Array Value) (i k:Nat):((List.range k).filterMap fun (m:Nat)=>xs[((i:Int) + (m:Int) * 1).toNat]?).toArray = ((xs.toList.drop i).take k).toArray:=by
 have e:(fun (m:Nat)=>xs[((i:Int) + (m:Int) * 1).toNat]?) = fun m=>xs[i + m]?:=by
  funext m
  have:((i:Int) + (m:Int) * 1).toNat = i + m:=by omega
  rw [this]
 rw [e]
 have:=pick_run xs i k
 rw [List.filterMap_map] at this
 have e2:((fun x=>xs[x]?) ∘ fun x=>i + x) = fun m=>xs[i + m]?:=rfl
 rw [e2] at this
 rw [this]
theorem getItem_tuple_cut {t sl:Addr} {items:Array Value} {vl vu:Value} {lo hi:Option Int} {Q:VS7} (ht:IsTup s.heap t items) (hs:s.heap.IsSliceOf sl vl vu .none) (pl:IsPart vl lo) (pu:IsPart vu hi)
  (hw:¬ (sIx items.size 0 lo = 0 /\ sIx items.size items.size hi = items.size))
  (h:Q (.ref s.heap.objs.size) { s with heap:=s.heap.push { cls:=.type "tuple",data:=.seq ((items.toList.drop (sIx items.size 0 lo)).take (sIx items.size items.size hi - sIx items.size 0 lo)).toArray } })
  (hsz:items.size <= sizeLine):wpAny (model prog w) A (getItem (.ref t) (.ref sl)) Q E s:=by
 have htake:sizeOk (.seq ((items.toList.drop (sIx items.size 0 lo)).take (sIx items.size items.size hi - sIx items.size 0 lo)).toArray):=by
  show ((items.toList.drop (sIx items.size 0 lo)).take (sIx items.size items.size hi - sIx items.size 0 lo)).toArray.size <= sizeLine
  rw [List.size_toArray,List.length_take,List.length_drop,Array.length_toList]
  omega
 have hj:sIx items.size items.size hi <= items.size:=VD _ _ (Nat.le_refl _) hi
 obtain ⟨os,hos,hcs,hds⟩:=id hs
 have hTs:s.TypeIs (.ref sl) "slice":=⟨os,hos,hcs⟩
 unfold getItem
 try with_reducible refine wpAny_holding ?_
 first | refine wpAny_bind (wpAny_pure ?_) | skip
 refine wpAny_bind (wpAny_sequenceKey ht.typeIs (by decide) ?_)
 refine wpAny_bind (wpAny_callSpecial?_slot (name:=Str.ofString "__getitem__") ht.typeIs PyProof.Rows.slot_tuple_getitem
  (wpAny_call_entry PyProof.Rows.slot_tuple_getitem ht.typeIs entry_tuple_getitem ?_ (args_tuple_getitem _ _)))
 show wpAny _ _ (Builtin.Tuple.tupleItemsOf (.ref t) >>= _) _ _ s
 refine wpAny_bind (tupleItemsOf_ ht ?_)
 refine wpAny_bind (wpAny_typeOf hTs ?_)
 rw [if_pos (by decide)]
 refine wpAny_bind (xU hs pl pu ?_)
 have hno:¬ ((((sIx items.size 0 lo:Nat):Int) == 0 && (1:Int) == 1 && (sIx items.size items.size hi - sIx items.size 0 lo) == items.size) = true):=by
  intro q
  rw [Bool.and_eq_true,Bool.and_eq_true] at q
  have q1:((sIx items.size 0 lo:Nat):Int) = 0:=eq_of_beq q.1.1
  have q2:sIx items.size items.size hi - sIx items.size 0 lo = items.size:=eq_of_beq q.2
  exact hw ⟨by omega,by omega⟩
 show wpAny _ _ (if (((sIx items.size 0 lo:Nat):Int) == 0 && (1:Int) == 1 && (sIx items.size items.size hi - sIx items.size 0 lo) == items.size) = true then _ else _) _ _ s
 rw [if_neg hno,XB]
 first
  | exact wpAny_bind (m:=Builtin.Tuple.tupleExact _) (wpAny_newObj_type (wpAny_pure ⟨_,rfl,wpAny_pure h⟩) htake)
  | exact wpAny_bind (m:=Builtin.Tuple.tupleExact _) (wpAny_newObj_type (wpAny_bind (wpAny_pure (wpAny_pure ⟨_,rfl,wpAny_pure h⟩))) htake)
  | exact wpAny_bind (wpAny_bind (m:=Builtin.Tuple.tupleExact _) (wpAny_newObj_type (wpAny_pure (wpAny_pure ⟨_,rfl,wpAny_pure h⟩)) htake))
  | exact wpAny_bind (wpAny_bind (m:=Builtin.Tuple.tupleExact _) (wpAny_newObj_type (wpAny_pure ⟨_,rfl,wpAny_pure h⟩) htake))
end
end HT
namespace L2
open PySem PySem.Spec PyProof.Rows
abbrev TO:=St -> Hp -> (Option Int -> Hp -> Prop) -> Prop
def PO (X:Cx) (e:Option Expr) (t:TO):Prop :=
 ∀ (pins:List (Addr × Obj)) (s:Shared) (σ:St) (H:Hp) (Q:Option Int -> Hp -> Prop),Inv X pins σ H s -> t σ H Q →
  wpAny (model X.prog X.w) X.A (evalPart e X.env) (fun u s'=>∃ o H',Inv X pins σ H' s' /\ IsPart u o /\ Q o H') X.xe s
def WS:TO:=fun _ H Q=>Q none H
def Uo (t:TE):TO:=fun σ H Q=>t σ H fun x H1=>∃ i,x = .int i /\ Q (some i) H1
theorem tq {ns:List Int}:∀ {us:List Value},Vals (ns.map V.int) us -> IntsAre us ns:=by
 induction ns with
 | nil=>intro us r; rw [List.map_nil] at r; cases r; exact .nil
 | cons n ns ih =>
  intro us r
  rw [List.map_cons] at r
  cases r with
  | cons r1 r2 =>
   obtain ⟨t,e⟩:=r1
   subst e
   exact .cons n t (ih r2)
section
variable {X:Cx} {e:Expr} {te:TE} {lo hi:Option Expr} {tl th:TO} {pos p2:Pos}
theorem zP:PO X none WS:=by
 intro pins s σ H Q I h
 rw [evalPart_none]
 exact wpAny_pure ⟨none,H,I,.none,h⟩
theorem zK (h:PE X e te):PO X (some e) (Uo te):=by
 intro pins s σ H Q I hw
 rw [evalPart_some]
 refine thn (h pins s σ H _ I hw) fun u s1 ⟨x,H1,I1,r1,q1⟩=>?_
 obtain ⟨i,rfl,q⟩:=q1
 obtain ⟨t,rfl⟩:=r1
 exact ⟨some i,H1,I1,.int i t,q⟩
def SlR (X:Cx) (r:V -> Option Int -> Option Int -> Hp -> VK -> Prop):Prop :=
 ∀ (pins:List (Addr × Obj)) (s:Shared) (σ:St) (H:Hp) (x:V) (v vl vu:Value) (lo hi:Option Int) (sl:Addr) (Q:VK),Inv X pins σ H s -> RelV x v -> s.heap.IsSliceOf sl vl vu .none -> IsPart vl lo -> IsPart vu hi -> r x lo hi H Q →
  ∃ T id,typeLookup (.type T) "__getitem__" = pure (some (.builtin id)) /\ s.TypeIs v T /\ wpAny (model X.prog X.w) X.A (getItem v (.ref sl)) (EP X pins σ Q) X.xe s
def tSl (r:V -> Option Int -> Option Int -> Hp -> VK -> Prop) (te:TE) (tl th:TO):TE:=fun σ H Q=>te σ H fun x H1=>tl σ H1 fun l H2=>th σ H2 fun u H3=>r x l u H3 Q
theorem zG {r:V -> Option Int -> Option Int -> Hp -> VK -> Prop} (hr:SlR X r) (he:PE X e te) (hl:PO X lo tl) (hu:PO X hi th):PE X (.Subscript e (.Slice lo hi none p2) pos) (tSl r te tl th):=by
 intro pins s σ H Q I h
 refine Subscript_ (thn (he pins s σ H _ I h) fun v s1 ⟨x,H1,I1,r1,q1⟩=>?_)
 refine wpAny_Slice (thn (hl pins s1 σ H1 _ I1 q1) fun vl s2 ⟨l,H2,I2,pl,q2⟩=>thn (hu pins s2 σ H2 _ I2 q2) fun vu s3 ⟨u,H3,I3,pu,q3⟩=>?_)
 rw [evalPart_none]
 refine wpAny_pure ?_
 have I4:Inv X pins σ H3 { s3 with heap:=s3.heap.push { cls:=.type "slice",data:=.fields #[vl,vu,.none] } }:=I3.kept (t':=s3.toks) fun b ob q=>Heap.get?_push_of_some _ q
 obtain ⟨T,id,hT,ht,hg⟩:=hr pins { s3 with heap:=s3.heap.push { cls:=.type "slice",data:=.fields #[vl,vu,.none] } } σ H3 x v vl vu l u s3.heap.objs.size Q I4 r1 (Heap.IsSliceOf.new ..) pl pu q3
 show wpAny (model X.prog X.w) X.A (subscriptTail e (.Slice lo hi none p2) v (.ref s3.heap.objs.size)) (EP X pins σ Q) X.xe { s3 with heap:=s3.heap.push { cls:=.type "slice",data:=.fields #[vl,vu,.none] } }
 exact tail_any (ops:=[.ref s3.heap.objs.size,v]) ht hT hg (by with_unfolding_all rfl)
def cutV (xs:List V) (lo hi:Option Int):List V:=(xs.drop (HT.sIx xs.length 0 lo)).take (HT.sIx xs.length xs.length hi - HT.sIx xs.length 0 lo)
theorem wM (xs:List V) (lo hi:Option Int):(cutV xs lo hi).length <= xs.length:=by
 unfold cutV
 rw [List.length_take,List.length_drop]
 omega
def rSlT (K:FG7):V -> Option Int -> Option Int -> Hp -> VK -> Prop:=fun x lo hi H Q=>∃ a xs,x = .ref a /\ SqT K H a xs ∧
 ¬ (HT.sIx xs.length 0 lo = 0 /\ HT.sIx xs.length xs.length hi = xs.length) /\ ∀ p,H p = none -> Q (.ref p) (upd H p (.tup (cutV xs lo hi)))
theorem jq:SlR X (rSlT X.K):=by
 intro pins s σ H x v vl vu lo hi sl Q I rx hs pl pu h
 obtain ⟨a,xs,rfl,hx,hw,q⟩:=h
 cases rx
 obtain ⟨its,r,ht,hz⟩:=I.tuple hx
 have hlen:its.toArray.size = xs.length:=by rw [List.size_toArray]; exact r.length.symm
 refine ⟨"tuple",_,PyProof.Rows.slot_tuple_getitem.lookup,ht.typeIs,?_⟩
 refine HT.getItem_tuple_cut ht hs pl pu (by rw [hlen]; exact hw) ?_ (by rw [hlen]; exact hz)
 rw [hlen]
 refine ⟨.ref s.heap.objs.size,_,I.laid (t':=s.toks) (o:=.tup (cutV xs lo hi)) (fun b ob q=>Heap.get?_push_of_some _ q) (Nat.le_refl _) ?_,rfl,q _ (I.hok.fresh (Nat.le_refl _))⟩
 exact ⟨Nat.le_trans (wM xs lo hi) hz,_,(r.drop (HT.sIx xs.length 0 lo)).take (HT.sIx xs.length xs.length hi - HT.sIx xs.length 0 lo),IsTup.new _ _⟩
def Up (K:FG7):R2:=fun x y H Q=>∃ a b xs ys,x = .ref a /\ y = .ref b /\ SqT K H a xs /\ SqT K H b ys /\ xs ≠ [] /\ xs.length + ys.length <= sizeLine ∧
 (ys = [] -> Q (.ref a) H) /\ (ys ≠ [] -> ∀ p,H p = none -> Q (.ref p) (upd H p (.tup (xs ++ ys))))
theorem Vals.nil_iff {xs:List V} {us:List Value} (r:Vals xs us):us = [] ↔ xs = []:=by
 cases r with
 | nil=>simp
 | cons _ _=>simp
theorem WT:OpR X (binaryOp .Add) (Up X.K):=by
 intro pins s σ H x y v u Q I rx ry h
 obtain ⟨a,b,xs,ys,rfl,rfl,ha,hb,hx,hz,q1,q2⟩:=h
 cases rx
 cases ry
 obtain ⟨its,r1,p1,_⟩:=I.tuple ha
 obtain ⟨its2,r2,p2,_⟩:=I.tuple hb
 refine HT.cat_tup p1 p2 (fun z=>hx (r1.nil_iff.mp z)) (fun z=>⟨.ref a,H,I,rfl,q1 (r2.nil_iff.mp z)⟩) (fun z=>?_) (by rw [← r1.length,← r2.length]; exact hz)
 refine ⟨.ref s.heap.objs.size,_,I.laid (t':=s.toks) (o:=.tup (xs ++ ys)) (fun b ob q=>Heap.get?_push_of_some _ q) (Nat.le_refl _) ?_,rfl,q2 (fun w=>z (r2.nil_iff.mpr w)) _ (I.hok.fresh (Nat.le_refl _))⟩
 exact ⟨by rw [List.length_append]; exact hz,_,r1.append r2,IsTup.new _ _⟩
end
end L2
namespace L2
open PySem PySem.Spec PyProof.Rows
def ixN (n:Nat) (i:Int):Option Nat:=if 0 <= i then (if i < n then some i.toNat else none) else if -(n:Int) <= i then some (i + n).toNat else none
def atI {α:Type} (xs:List α) (i:Int):Option α:=(ixN xs.length i).bind fun j=>xs[j]?
theorem ZV {n:Nat} {i:Int} {j:Nat} (h:ixN n i = some j):seqIndex? i n = some j /\ j < n /\ -(n:Int) <= i /\ i < n:=by
 unfold ixN at h
 by_cases h0:0 <= i
 ·rw [if_pos h0] at h
  by_cases h1:i < n
  ·rw [if_pos h1] at h
   have e:i.toNat = j:=Option.some.inj h
   exact ⟨by rw [seqIndex_of h0 h1,e],by omega,by omega,h1⟩
  ·rw [if_neg h1] at h; cases h
 ·rw [if_neg h0] at h
  by_cases h1:-(n:Int) <= i
  ·rw [if_pos h1] at h
   have e:(i + n).toNat = j:=Option.some.inj h
   exact ⟨by rw [seqIndex_neg (by omega) h1,e],by omega,h1,by omega⟩
  ·rw [if_neg h1] at h; cases h
theorem ZW {α:Type} {xs:List α} {i:Int} {v:α} (h:atI xs i = some v):∃ j,seqIndex? i xs.length = some j /\ xs[j]? = some v /\ j < xs.length /\ -(xs.length:Int) <= i /\ i < xs.length:=by
 unfold atI at h
 cases e:ixN xs.length i with
 | none=>rw [e] at h; cases h
 | some j =>
  rw [e] at h
  obtain ⟨h1,h2,h3,h4⟩:=ZV e
  exact ⟨j,h1,h,h2,h3,h4⟩
theorem zr {α:Type} {xs:List α} {j:Nat} {v:α} (h:xs[j]? = some v):atI xs (j:Int) = some v:=by
 have hj:j < xs.length:=(List.getElem?_eq_some_iff.mp h).1
 have e:ixN xs.length (j:Int) = some j:=by
  unfold ixN
  rw [if_pos (by omega),if_pos (by omega)]; simp
 unfold atI; rw [e]; exact h
def WU (b:Expr):Prop:=∀ o i,subscripted b false o i = operate [o,i] (getItem o i)
def IxR (X:Cx) (r:R2):Prop :=
 ∀ (value slice:Expr) (pins:List (Addr × Obj)) (s:Shared) (σ:St) (H:Hp) (x y:V) (v u:Value) (Q:VK),Inv X pins σ H s -> RelV x v -> RelV y u -> r x y H Q →
  subscripted slice false v u = operate [v,u] (getItem v u) -> wpAny (model X.prog X.w) X.A (subscriptTail value slice v u) (EP X pins σ Q) X.xe s
def MtR (X:Cx) (id:String) (r:V -> List V -> Hp -> VK -> Prop):Prop :=
 ∀ (pins:List (Addr × Obj)) (s:Shared) (σ:St) (H:Hp) (x:V) (xs:List V) (v:Value) (us:List Value) (Q:VK),Inv X pins σ H s -> RelV x v -> Vals xs us -> r x xs H Q →
  wpAny (model X.prog X.w) X.A (call (.builtin id) (v :: us)) (EP X pins σ Q) X.xe s
section
variable {X:Cx} {a b:Expr} {ta tb:TE} {pos:Pos}
theorem zE {r:R2} (hr:IxR X r) (ha:PE X a ta) (hb:PE X b tb) (hs:WU b):PE X (.Subscript a b pos) (tOp r ta tb):=by
 intro pins s σ H Q I h
 exact Subscript_ (binT ha hb I h fun v u s2 x y H2 I2 rx ry q=>hr a b pins s2 σ H2 x y v u Q I2 rx ry q (hs _ _))
def rIxL (K:FG7):R2:=fun x y H Q=>∃ p xs i v,x = .ref p /\ y = .int i /\ SqL K H p xs /\ atI xs i = some v /\ Q v H
def rIxT (K:FG7):R2:=fun x y H Q=>∃ p xs i v,x = .ref p /\ y = .int i /\ SqT K H p xs /\ atI xs i = some v /\ Q v H
theorem zQ:IxR X (rIxL X.K):=by
 intro value slice pins s σ H x y v u Q I rx ry h hs
 obtain ⟨p,xs,i,z,rfl,rfl,hq,he,q⟩:=h
 cases rx
 obtain ⟨t,rfl⟩:=ry
 obtain ⟨its,r,pl,hz⟩:=I.list hq
 obtain ⟨j,h1,h2,h3,h4,h5⟩:=ZW he
 obtain ⟨w,ew,rw'⟩:=r.get h2
 have hl:=r.length
 have hn:=jo
 have fin:EP X pins σ Q w s:=⟨z,H,I,rw',q⟩
 by_cases h0:0 <= i
 ·have hj:i.toNat = j:=by
   rw [seqIndex_of h0 h5] at h1
   exact Option.some.inj h1
  exact item_listR pl.isList h0 (by omega) (by rw [hj]; simpa using ew) fin hs
 ·have hj:(i + (its.toArray.size:Int)).toNat = j:=by
   rw [seqIndex_neg (by omega) h4] at h1
   rw [List.size_toArray,← hl]
   exact Option.some.inj h1
  exact subscriptTail_builtinR (x:=w) pl.isList.typeIs slot_list_getitem.lookup
   (wpAny_getItem_list_neg (Q:=fun r s'=>r = w /\ EP X pins σ Q r s') pl.isList (by omega) (by rw [List.size_toArray] <;> omega) (by omega) (by rw [hj]; simpa using ew) ⟨rfl,fin⟩) hs
theorem z7:IxR X (rIxT X.K):=by
 intro value slice pins s σ H x y v u Q I rx ry h hs
 obtain ⟨p,xs,i,z,rfl,rfl,hq,he,q⟩:=h
 cases rx
 obtain ⟨t,rfl⟩:=ry
 obtain ⟨its,r,pl,hz⟩:=I.tuple hq
 obtain ⟨j,h1,h2,h3,h4,h5⟩:=ZW he
 obtain ⟨w,ew,rw'⟩:=r.get h2
 have hl:=r.length
 have hn:=jo
 have fin:EP X pins σ Q w s:=⟨z,H,I,rw',q⟩
 exact subscriptTail_builtinR (x:=w) pl.typeIs slot_tuple_getitem.lookup
  (getItem_tuple (j:=j) (Q:=fun r s'=>r = w /\ EP X pins σ Q r s') pl (by omega) (by omega) (by rw [List.size_toArray,← hl]; exact h1) (by simpa using ew) ⟨rfl,fin⟩) hs
theorem jY (its:List Value) (n j:Nat) (u:Value):Obj.mapSeq (·.setIfInBounds j u) { cls:=.type "list",data:=.seq its.toArray n } = { cls:=.type "list",data:=.seq (its.set j u).toArray n }:=by
 simp [Obj.mapSeq]
theorem Inv.lst {pins:List (Addr × Obj)} {σ:St} {H:Hp} {s:Shared} {p:Addr} {xs:List V} (I:Inv X pins σ H s) (h:H p = some (.lst xs)) :
  ∃ (its:List Value) (n:Nat),Vals xs its /\ s.heap.get? p = some { cls:=.type "list",data:=.seq its.toArray n } /\ xs.length <= sizeLine:=by
 obtain ⟨z,its,n,r,e⟩:=I.hok p _ h
 exact ⟨its,n,r,e,z⟩
theorem Inv.lstUpd {pins:List (Addr × Obj)} {σ:St} {H:Hp} {s:Shared} {p:Addr} {xs ys:List V} {its its':List Value} {n n':Nat} {f:Obj -> Obj} (I:Inv X pins σ H s) (h:H p = some (.lst xs))
  (ho:s.heap.get? p = some { cls:=.type "list",data:=.seq its.toArray n }) (hf:f { cls:=.type "list",data:=.seq its.toArray n } = { cls:=.type "list",data:=.seq its'.toArray n' }) (r:Vals ys its') (hz:ys.length <= sizeLine) (t:Nat) :
  Inv X pins σ (upd H p (.lst ys)) { s with heap:=s.heap.update p f,toks:=t }:=by
 have e:(s.heap.update p f).get? p = some { cls:=.type "list",data:=.seq its'.toArray n' }:=by
  rw [Heap.get?_update_self f ho (by rw [hf] <;> rfl),hf]
 refine I.write (x:=p) (e:=p) (by rw [h]; trivial) (.inl rfl) (fun b u hb q=>(Heap.get?_update_other _ _ (Ne.symm hb)).trans q) ⟨_,e⟩ ?_
 exact ⟨hz,its',n',r,e⟩
def Uq:V -> V -> V -> Hp -> (Hp -> Prop) -> Prop:=fun o i v H Q=>∃ p xs k j,o = .ref p /\ i = .int k /\ H p = some (.lst xs) /\ ixN xs.length k = some j /\ Q (upd H p (.lst (xs.set j v)))
theorem wv:PSet X Uq:=by
 intro pins s σ H o i v ov iv u Q I ro ri rv h
 obtain ⟨p,xs,k,j,rfl,rfl,hp,hj,q⟩:=h
 cases ro
 obtain ⟨t,rfl⟩:=ri
 obtain ⟨its,n,r,ho,hz⟩:=I.lst hp
 obtain ⟨h1,h2,h3,h4⟩:=ZV hj
 have hl:=r.length
 have hn:=jo
 have I':Inv X pins σ (upd H p (.lst (xs.set j v))) { s with heap:=s.heap.update p (Obj.mapSeq (·.setIfInBounds j u)) } :=
  I.lstUpd hp ho (jY its n j u) (r.set rv j) (by rw [List.length_set]; exact hz) s.toks
 by_cases h0:0 <= k
 ·have hk:k.toNat = j:=by
   rw [seqIndex_of h0 h4] at h1
   exact Option.some.inj h1
  exact PySem.W.ki_setAt ho h0 (by omega) (by rw [List.size_toArray,← hl]; exact h4) (by rw [hk]; exact ⟨_,I',q⟩)
 ·have hk:(k + (its.toArray.size:Int)).toNat = j:=by
   rw [seqIndex_neg (by omega) h3] at h1
   rw [List.size_toArray,← hl]
   exact Option.some.inj h1
  exact PySem.W.ki_setBack ho (by omega) (by rw [List.size_toArray,← hl]; exact h3) (by omega) (by rw [hk]; exact ⟨_,I',q⟩)
def wF:V -> Bool
 | .non=>true
 | .bl _=>true
 | .int _=>true
 | .str _=>true
 | _=>false
def eqV:V -> V -> Bool
 | .non,.non=>true
 | .bl a,.bl b=>a == b
 | .bl a,.int b=>(if a then 1 else 0) == b
 | .int a,.bl b=>a == (if b then 1 else 0)
 | .int a,.int b=>a == b
 | .str a,.str b=>a == b
 | _,_=>false
theorem Ws {A:Around} {s:Shared} {y x:V} {u v:Value} (ry:RelV y u) (rx:RelV x v) (fy:wF y = true) (fx:wF x = true):SeqAt.EqAt A s u v (eqV y x):=by
 cases y with
 | non =>
  cases ry
  cases x with
  | non=>cases rx; exact SeqAt.EqAt.same _
  | bl b=>cases rx; exact SeqAt.EqAt.none_bool b
  | int b=>obtain ⟨t,rfl⟩:=rx; exact SeqAt.EqAt.none_int b t
  | str b=>obtain ⟨t,rfl⟩:=rx; exact SeqAt.EqAt.none_str b t
  | _=>exact absurd (show false = true from fx) Bool.false_ne_true
 | bl a =>
  cases ry
  cases x with
  | non=>cases rx; exact SeqAt.EqAt.bool_none a
  | bl b=>cases rx; exact SeqAt.EqAt.bool_bool a b
  | int b=>obtain ⟨t,rfl⟩:=rx; exact SeqAt.EqAt.bool_int a b t
  | str b=>obtain ⟨t,rfl⟩:=rx; exact SeqAt.EqAt.bool_str a b t
  | _=>exact absurd (show false = true from fx) Bool.false_ne_true
 | int a =>
  obtain ⟨t',rfl⟩:=ry
  cases x with
  | non=>cases rx; exact SeqAt.EqAt.int_none a t'
  | bl b=>cases rx; exact SeqAt.EqAt.int_bool a t' b
  | int b=>obtain ⟨t,rfl⟩:=rx; exact SeqAt.EqAt.int_int a t' b t
  | str b=>obtain ⟨t,rfl⟩:=rx; exact SeqAt.EqAt.int_str a t' b t
  | _=>exact absurd (show false = true from fx) Bool.false_ne_true
 | str a =>
  obtain ⟨t',rfl⟩:=ry
  cases x with
  | non=>cases rx; exact SeqAt.EqAt.str_none a t'
  | bl b=>cases rx; exact SeqAt.EqAt.str_bool a t' b
  | int b=>obtain ⟨t,rfl⟩:=rx; exact SeqAt.EqAt.str_int a t' b t
  | str b=>obtain ⟨t,rfl⟩:=rx; exact SeqAt.EqAt.str_str a t' b t
  | _=>exact absurd (show false = true from fx) Bool.false_ne_true
 | _=>exact absurd (show false = true from fy) Bool.false_ne_true
def eqU (x:V) (u:Value):Bool:=match u with
 | .none=>eqV .non x
 | .bool b=>eqV (.bl b) x
 | .int i _=>eqV (.int i) x
 | .str z _=>eqV (.str z) x
 | _=>false
theorem Wt {x y:V} {u:Value} (r:RelV y u) (f:wF y = true):eqU x u = eqV y x:=by
 cases y with
 | non=>cases r; rfl
 | bl b=>cases r; rfl
 | int i=>obtain ⟨t,rfl⟩:=r; rfl
 | str z=>obtain ⟨t,rfl⟩:=r; rfl
 | _=>exact absurd (show false = true from f) Bool.false_ne_true
theorem qq {x:V}:∀ {xs:List V} {us:List Value},Vals xs us -> xs.all wF = true -> us.any (eqU x) = xs.any fun y=>eqV y x
 | _,_,.nil,_=>rfl
 | y :: xs,u :: us,.cons r t,f=>by
  rw [List.all_cons,Bool.and_eq_true] at f
  rw [List.any_cons,List.any_cons,Wt r f.1,qq t f.2]
theorem t9 {A:Around} {s:Shared} {x:V} {v:Value} (rx:RelV x v) (fx:wF x = true):∀ {xs:List V} {us:List Value},Vals xs us -> xs.all wF = true -> ∀ u ∈ us,SeqAt.EqAt A s u v (eqU x u)
 | _,_,.nil,_=>fun u hu=>by cases hu
 | y :: xs,u :: us,.cons r t,f=>fun u' hu=>by
  rw [List.all_cons,Bool.and_eq_true] at f
  rcases List.mem_cons.mp hu with rfl | hu
  ·rw [Wt r f.1]; exact Ws r rx f.1 fx
  ·exact t9 rx fx t f.2 u' hu
def inV (x:V) (xs:List V):Bool:=xs.any fun y=>eqV y x
def rIn (K:FG7) (neg:Bool):R2:=fun x y H Q=>∃ p xs,y = .ref p /\ (SqL K H p xs \/ SqT K H p xs) /\ wF x = true /\ xs.all wF = true /\ Q (.bl (if neg then !inV x xs else inV x xs)) H
theorem ZX:OpR X (compareOp .In) (rIn X.K false):=by
 intro pins s σ H x y v u Q I rx ry h
 obtain ⟨p,xs,rfl,hq,fx,fs,q⟩:=h
 cases ry
 rcases hq with hq | hq
 ·obtain ⟨its,r,pl,hz⟩:=I.list hq
  refine SeqAt.in_listAt (eqU x) pl.isList (fun w hw=>t9 rx fx r fs w (by simpa using hw)) ⟨.bl _,H,I,rfl,?_⟩
  rw [show its.toArray.any (eqU x) = its.any (eqU x) by simp,qq r fs]
  exact q
 ·obtain ⟨its,r,pl,hz⟩:=I.tuple hq
  refine SeqAt.in_tupleAt (eqU x) pl (fun w hw=>t9 rx fx r fs w (by simpa using hw)) ⟨.bl _,H,I,rfl,?_⟩
  rw [show its.toArray.any (eqU x) = its.any (eqU x) by simp,qq r fs]
  exact q
theorem zu:yY X (.builtin "len") (fun xs H Q=>∃ p ys,xs = [.ref p] /\ (SqL X.K H p ys \/ SqT X.K H p ys) /\ Q (.int ys.length) H):=by
 intro pins s σ H xs us Q I r h
 obtain ⟨p,ys,rfl,hq,q⟩:=h
 obtain ⟨u,rfl,rx⟩:=xY r
 cases rx
 have hn:=jo
 rcases hq with hq | hq
 ·obtain ⟨its,r',pl,hz⟩:=I.list hq
  have hlen:=r'.length
  exact Calls.call_len_list pl.isList (by simp only [List.size_toArray] <;> omega) ⟨.int ys.length,H,I.tok _,⟨s.toks + 1,by rw [List.size_toArray,hlen]⟩,q⟩
 ·obtain ⟨its,r',pl,hz⟩:=I.tuple hq
  have hlen:=r'.length
  exact len_tuple pl (by simp only [List.size_toArray] <;> omega) ⟨.int ys.length,H,I.tok _,⟨s.toks + 1,by rw [List.size_toArray,hlen]⟩,q⟩
theorem yT:yY X (.type "list") (fun xs H Q=>∃ p ys,xs = [.ref p] /\ (SqL X.K H p ys \/ SqT X.K H p ys) /\ ∀ l,H l = none -> Q (.ref l) (upd H l (.lst ys))):=by
 intro pins s σ H xs us Q I r h
 obtain ⟨p,ys,rfl,hq,q⟩:=h
 obtain ⟨u,rfl,rx⟩:=xY r
 cases rx
 have fin:∀ (its:List Value),Vals ys its -> ys.length <= sizeLine -> ∀ (h':Heap) (c':Nat),(∀ b o',s.heap.get? b = some o' -> h'.get? b = some o') →
   h'.get? s.heap.objs.size = some { cls:=.type "list",dict:=none,data:=.seq its.toArray c',slots:=#[] } -> EP X pins σ Q (.ref s.heap.objs.size) { s with heap:=h' }:=fun its r' hz h' c' kp e =>
  ⟨.ref s.heap.objs.size,_,I.laid (t':=s.toks) kp (Nat.le_refl _) (show yr X.prog X.w _ h' _ (.lst ys) from ⟨hz,its,c',r',e⟩),rfl,q _ (I.hok.fresh (Nat.le_refl _))⟩
 rcases hq with hq | hq
 ·obtain ⟨its,r',pl,hz⟩:=I.list hq
  have hlen:=r'.length
  obtain ⟨o,ho,hc,n,hd⟩:=pl.isList
  exact call_list_seq p (.inl rfl) ho hc hd (fun h' c' kp e=>fin its r' hz h' c' kp e) (by simp only [List.size_toArray] <;> omega)
 ·obtain ⟨its,r',pl,hz⟩:=I.tuple hq
  have hlen:=r'.length
  obtain ⟨o,ho,hc,n,hd⟩:=pl
  exact call_list_seq p (.inr rfl) ho hc hd (fun h' c' kp e=>fin its r' hz h' c' kp e) (by simp only [List.size_toArray] <;> omega)
theorem zS:yY X (.type "tuple") (fun xs H Q=>∃ p ys,xs = [.ref p] /\ ((SqL X.K H p ys /\ ∀ l,H l = none -> Q (.ref l) (upd H l (.tup ys))) \/ (SqT X.K H p ys /\ Q (.ref p) H))):=by
 intro pins s σ H xs us Q I r h
 obtain ⟨p,ys,rfl,h⟩:=h
 obtain ⟨u,rfl,rx⟩:=xY r
 cases rx
 rcases h with ⟨hq,q⟩ | ⟨hq,q⟩
 ·obtain ⟨its,r',pl,hz⟩:=I.list hq
  have hlen:=r'.length
  refine call_tuple_list pl.isList (fun h' kp=>?_) (by simp only [List.size_toArray] <;> omega)
  have I1:Inv X pins σ H { s with heap:=h' }:=I.kept (t':=s.toks) kp
  have I2:Inv X pins σ (upd H h'.objs.size (.tup ys)) { s with heap:=h'.push { cls:=.type "tuple",data:=.seq its.toArray } } :=
   I1.laid (t':=s.toks) (fun b o e=>Heap.get?_push_of_some _ e) (Nat.le_refl _) (show yr X.prog X.w _ _ _ (.tup ys) from ⟨hz,its,r',IsTup.new _ _⟩)
  exact ⟨.ref h'.objs.size,_,I2,rfl,q _ (I1.hok.fresh (Nat.le_refl _))⟩
 ·obtain ⟨its,r',pl,hz⟩:=I.tuple hq
  exact call_tuple_same pl ⟨.ref p,H,I,rfl,q⟩
def tyV (K:FG7) (T:String) (x:V) (H:Hp):Prop:=match x with
 | .str _=>T = "str"
 | .int _=>T = "int"
 | .ref p=>(T = "list" /\ ∃ xs,SqL K H p xs) \/ (T = "tuple" /\ ∃ o,K.lookup p = some o /\ o.cls = .type "tuple" /\ o.dict = none) ∨
   (T = "dict" /\ ((∃ kvs,H p = some (.dK kvs)) \/ ∃ kvs,H p = some (.dT kvs))) \/ (T = "set" /\ ∃ S n,H p = some (.set S n))
 | _=>False
theorem VE {pins:List (Addr × Obj)} {σ:St} {H:Hp} {s:Shared} {T:String} {x:V} {v:Value} (I:Inv X pins σ H s) (r:RelV x v) (ty:tyV X.K T x H) :
  s.TypeIs v T /\ ∀ a,v = .ref a -> ∃ ob,s.heap.get? a = some ob /\ ob.dict = none:=by
 cases x with
 | str z =>
  obtain ⟨t,rfl⟩:=r
  cases (show T = "str" from ty)
  exact ⟨typeIs_str s z t,fun _ e=>nomatch e⟩
 | int i =>
  obtain ⟨t,rfl⟩:=r
  cases (show T = "int" from ty)
  exact ⟨typeIs_int s i t,fun _ e=>nomatch e⟩
 | ref p =>
  cases r
  rcases ty with ⟨rfl,xs,hq⟩ | ⟨rfl,o,hk,hc,hd⟩ | ⟨rfl,hk⟩ | ⟨rfl,S,n,hk⟩
  ·obtain ⟨its,_,pl,_⟩:=I.list hq
   refine ⟨pl.isList.typeIs,fun a e=>?_⟩
   cases e
   obtain ⟨o,n,e,c,hd,_⟩:=pl
   exact ⟨o,e,hd⟩
  ·refine ⟨⟨o,I.kIn p o hk,hc⟩,fun a e=>?_⟩
   cases e
   exact ⟨o,I.kIn _ o hk,hd⟩
  ·have z:∃ o,s.heap.get? p = some o /\ o.ExactDict:=by
    rcases hk with ⟨kvs,hk⟩ | ⟨kvs,hk⟩
    ·obtain ⟨_,_,_,_,o,_,_,e,ex,_⟩:=I.hok p _ hk
     exact ⟨o,e,ex⟩
    ·obtain ⟨_,_,_,_,o,_,_,e,ex,_⟩:=I.hok p _ hk
     exact ⟨o,e,ex⟩
   obtain ⟨o,e,ex⟩:=z
   refine ⟨⟨o,e,ex.1⟩,fun a e2=>?_⟩
   cases e2
   exact ⟨o,e,ex.2.1⟩
  ·obtain ⟨o,_,_,_,e,ex,_⟩:=I.hok p _ hk
   refine ⟨⟨o,e,ex.1⟩,fun a e2=>?_⟩
   cases e2
   exact ⟨o,e,ex.2.1⟩
 | _=>exact False.elim ty
def tBM (K:FG7) (T:String) (r:V -> List V -> Hp -> VK -> Prop) (to:TE) (t:TA):TE:=fun σ H Q=>to σ H fun x H1=>tyV K T x H1 /\ t σ H1 fun xs H2=>r x xs H2 Q
variable {o e:Expr} {es:List Expr} {to:TE} {t:TA} {name:Str} {apos cpos:Pos} {T id:String} {r:V -> List V -> Hp -> VK -> Prop}
theorem sV (pa:PlainAttrs T) (slot:Slot T name id) (hty:typeOf (.builtin id) = pure (.type "method_descriptor")) (hm:MtR X id r) (ho:PE X o to) (ha:PA X (e :: es) t)
  (hbase:attributeBase o name X.env (eval o X.env) = eval o X.env:=by rfl)
  (hfew:((backTo cpos (starEach (e :: es) X.env)).all (fun x=>!x.1) && (backToKw cpos (keywordEach [] X.env)).all (fun x=>x.1.isSome)
   && decide ((e :: es).length + ([]:List Keyword).length + (if ([]:List Keyword).isEmpty then 0 else 1) < 30)) = true:=by rfl)
  (hline:(apos.endLine == cpos.line) = true:=by rfl) (hs:starEach (e :: es) X.env = (false,eval e X.env) :: starEach es X.env:=by rfl) (hplain:(backTo cpos (starEach es X.env)).any (·.1) = false:=by rfl) :
  PE X (.Call (.Attribute o name apos) (e :: es) [] cpos) (tBM X.K T r to t):=by
 intro pins s σ H Q I h
 refine wpAny_Call_method_late hbase hfew hline rfl (thn (ho pins s σ H _ I h) fun v s1 ⟨x,H1,I1,r1,ty,q1⟩=>?_)
 obtain ⟨h1,h2⟩:=VE I1 r1 ty
 refine ⟨T,id,pa,slot,hty,h1,h2,?_⟩
 have hA:=ha cpos pins s1 σ H1 _ I1 q1
 rw [hs] at hA ⊢
 refine Calls.callWith_builtin (by show (false || (backTo cpos (starEach es X.env)).any (·.1)) = false; rw [hplain] <;> rfl) (Calls.evalArgs_plain ?_)
 exact thn hA fun us s2 ⟨vs,H2,I2,r2,q2⟩=>hm pins s2 σ H2 x vs v us Q I2 r1 r2 q2
end
end L2
namespace L2
open PySem PySem.Spec PyProof.Rows
def MtM (X:Cx) (id:String) (r:V -> List V -> Hp -> VK -> Prop):Prop :=
 ∀ (pins:List (Addr × Obj)) (s:Shared) (σ:St) (H:Hp) (x:V) (xs:List V) (v:Value) (us:List Value) (Q:VK),Inv X pins σ H s -> RelV x v -> Vals xs us -> r x xs H Q →
  wpAny (model X.prog X.w) X.A (call (.builtin id) (v :: us)) (EP X pins σ Q) X.xe s
theorem Vals.one:∀ {x:V} {us:List Value},Vals [x] us -> ∃ u,us = [u] /\ RelV x u
 | _,_,.cons r .nil=>⟨_,rfl,r⟩
theorem Vals.eraseIdx:∀ {xs:List V} {us:List Value} (i:Nat),Vals xs us -> Vals (xs.eraseIdx i) (us.eraseIdx i)
 | _,_,_,.nil=>.nil
 | _,_,0,.cons _ t=>t
 | _,_,i + 1,.cons r t=>.cons r (Vals.eraseIdx i t)
theorem Vals.rep {xs:List V} {us:List Value} (h:Vals xs us):∀ k:Nat,Vals (List.replicate k xs).flatten (List.replicate k us).flatten
 | 0=>.nil
 | k + 1=>by
  rw [List.replicate_succ,List.replicate_succ,List.flatten_cons,List.flatten_cons]
  exact Vals.append h (Vals.rep h k)
theorem sW {α:Type}:∀ (l:List α) (i:Nat),(l.eraseIdx i).length <= l.length
 | [],_=>Nat.le_refl _
 | _ :: _,0=>Nat.le_succ _
 | _ :: r,i + 1=>Nat.succ_le_succ (sW r i)
theorem sX (its:List Value):∀ (k:Nat) (acc:List Value),
  List.foldl (fun x1 x2=>x1 ++ x2) acc.toArray (List.replicate k its.toArray) = (acc ++ (List.replicate k its).flatten).toArray
 | 0,acc=>by simp
 | k + 1,acc=>by
  have e:acc.toArray ++ its.toArray = (acc ++ its).toArray:=by simp
  have e2:(acc ++ its) ++ (List.replicate k its).flatten = acc ++ (List.replicate (k + 1) its).flatten:=by
   rw [List.replicate_succ,List.flatten_cons,List.append_assoc]
  rw [← e2,← sX its k (acc ++ its),← e,List.replicate_succ,List.foldl_cons]
section
variable {X:Cx} {pins:List (Addr × Obj)} {σ:St} {H:Hp} {s:Shared} {l b:Addr} {xs ys zs:List V}
theorem Inv.lset {its its':List Value} {n:Nat} {f:Array Value -> Array Value} {t':Nat} (I:Inv X pins σ H s) (hH:H l = some (.lst xs))
  (e:s.heap.get? l = some { cls:=.type "list",data:=.seq its.toArray n }) (hf:f its.toArray = its'.toArray) (hv:Vals ys its') (hz:ys.length <= sizeLine) :
  Inv X pins σ (upd H l (.lst ys)) { s with heap:=s.heap.update l (Obj.mapSeq f),toks:=t' }:=by
 have q:=PySem.IsL.update e f
 rw [hf] at q
 refine I.write (x:=l) (e:=l) (by rw [hH]; exact trivial) (.inl rfl) (fun b' u hb hu=>(Heap.get?_update_other s.heap (Obj.mapSeq f) (Ne.symm hb)).trans hu) ⟨_,q⟩ ?_
 exact ⟨hz,its',_,hv,q⟩
theorem Inv.lnew {its:List Value} {t':Nat} (I:Inv X pins σ H s) (hv:Vals ys its) (hz:ys.length <= sizeLine) :
  Inv X pins σ (upd H s.heap.objs.size (.lst ys)) { s with heap:=s.heap.push { cls:=.type "list",data:=.seq its.toArray },toks:=t' } :=
 I.laid (fun _ _ q=>Heap.get?_push_of_some _ q) (Nat.le_refl _) ⟨hz,its,0,hv,Heap.get?_push_size _ rfl⟩
theorem Inv.fresh (I:Inv X pins σ H s):H s.heap.objs.size = none:=I.hok.fresh (Nat.le_refl _)
theorem Inv.lstM (I:Inv X pins σ H s) (hH:H l = some (.lst xs)):xs.length <= sizeLine /\ ∃ (its:List Value) (n:Nat),Vals xs its /\ xs.length = its.length /\ s.heap.get? l = some { cls:=.type "list",data:=.seq its.toArray n }:=by
 obtain ⟨z,its,n,r,e⟩:=I.hok l _ hH
 exact ⟨z,its,n,r,r.length,e⟩
theorem XC {n:Nat} (h:n <= sizeLine):Builtin.List.listTooLong n = false:=by
 unfold Builtin.List.listTooLong
 exact decide_eq_false (by omega)
end
section
variable {X:Cx}
def WV:V -> List V -> Hp -> VK -> Prop:=fun x vs H Q=>∃ l xs y,x = .ref l /\ vs = [y] /\ H l = some (.lst xs) /\ xs.length < sizeLine /\ Q .non (upd H l (.lst (xs ++ [y])))
theorem x8:MtM X "list.append" WV:=by
 intro pins s σ H x vs v us Q I rx rv h
 obtain ⟨l,xs,y,rfl,rfl,hH,hz,q⟩:=h
 cases rx
 obtain ⟨u,rfl,ru⟩:=rv.one
 obtain ⟨z,its,n,r,hl,e⟩:=I.lstM hH
 refine call_meets F.slot_list_append ⟨_,e,rfl⟩ F.entry_list_append (F.args_list_append_2 _ _) (PySem.list_append l its.toArray n u (by rw [List.size_toArray]; omega)) ⟨e,?_⟩
 refine ⟨.non,_,I.lset (its':=its ++ [u]) hH e (by simp) (r.append (.cons ru .nil)) ?_,rfl,q⟩
 rw [List.length_append,List.length_singleton]
 omega
def VF:V -> List V -> Hp -> VK -> Prop:=fun x vs H Q=>∃ l xs i k y,x = .ref l /\ vs = [.int i] /\ H l = some (.lst xs) /\ -(2 ^ 63) <= i /\ i < 2 ^ 63 /\ seqIndex? i xs.length = some k /\ xs[k]? = some y /\ Q y (upd H l (.lst (xs.eraseIdx k)))
theorem jr:MtM X "list.pop" VF:=by
 intro pins s σ H x vs v us Q I rx rv h
 obtain ⟨l,xs,i,k,y,rfl,rfl,hH,h1,h2,hk,hy,q⟩:=h
 cases rx
 obtain ⟨u,rfl,ru⟩:=rv.one
 obtain ⟨t,rfl⟩:=ru
 obtain ⟨z,its,n,r,hl,e⟩:=I.lstM hH
 obtain ⟨w,hw,rw'⟩:=r.get hy
 refine call_meets F.slot_list_pop ⟨_,e,rfl⟩ F.entry_list_pop (F.args_list_pop_2 _ _)
  (MeetsSeq.list_pop_at l its.toArray n i t k w (fitsIndex_both h1 h2) (by rw [List.size_toArray,← hl]; exact hk) (by rw [← Array.getElem?_toList]; exact hw) (by rw [List.size_toArray]; omega)) ⟨e,?_⟩
 refine ⟨y,_,I.lset (its':=its.eraseIdx k) hH e ?_ (r.eraseIdx k) ?_,rw',q⟩
 ·show its.toArray.eraseIdxIfInBounds k = (its.eraseIdx k).toArray
  rw [List.eraseIdxIfInBounds_toArray]
 ·have:=sW xs k
  omega
def rCat:R2:=fun x y H Q=>∃ l b xs zs,x = .ref l /\ y = .ref b /\ H l = some (.lst xs) /\ H b = some (.lst zs) /\ xs.length + zs.length <= sizeLine /\ ∀ p,H p = none -> Q (.ref p) (upd H p (.lst (xs ++ zs)))
theorem ZY:OpR X (binaryOp .Add) rCat:=by
 intro pins s σ H x y v u Q I rx ry h
 obtain ⟨l,b,xs,zs,rfl,rfl,hH,hB,hz,q⟩:=h
 cases rx
 cases ry
 obtain ⟨z,its,n,r,hl,e⟩:=I.lstM hH
 obtain ⟨z2,its2,n2,r2,hl2,e2⟩:=I.lstM hB
 refine PySem.P.add_list e e2 ?_ (by rw [List.size_toArray,List.size_toArray]; omega)
 have ea:its.toArray ++ its2.toArray = (its ++ its2).toArray:=by simp
 rw [ea]
 exact ⟨.ref _,_,I.lnew (t':=s.toks) (r.append r2) (by rw [List.length_append]; omega),rfl,q _ I.fresh⟩
def rRep:R2:=fun x y H Q=>∃ l k xs,x = .ref l /\ y = .int k /\ H l = some (.lst xs) /\ -(2 ^ 63) <= k /\ k < 2 ^ 63 /\ xs.length * k.toNat <= sizeLine ∧
 ∀ p,H p = none -> Q (.ref p) (upd H p (.lst (List.replicate k.toNat xs).flatten))
theorem WW {α:Type} (xs:List α) (k:Nat):(List.replicate k xs).flatten.length = k * xs.length:=by
 induction k with
 | zero=>simp
 | succ k ih=>rw [List.replicate_succ,List.flatten_cons,List.length_append,ih,Nat.succ_mul,Nat.add_comm]
theorem VG:OpR X (binaryOp .Mult) rRep:=by
 intro pins s σ H x y v u Q I rx ry h
 obtain ⟨l,k,xs,rfl,rfl,hH,h1,h2,hz,q⟩:=h
 cases rx
 obtain ⟨t,rfl⟩:=ry
 obtain ⟨z,its,n,r,hl,e⟩:=I.lstM hH
 have hlen:its.toArray.size * k.toNat <= sizeLine:=by rw [List.size_toArray,← hl]; exact hz
 have hcap:¬ its.toArray.size * k.toNat > (2 ^ 63 - 1) / 8:=by
  have:(sizeLine:Nat) <= (2 ^ 63 - 1) / 8:=by decide
  omega
 have hfit:¬ (!Builtin.List.listFitsIndex k) = true:=by
  rw [fitsIndex_both h1 h2]
  exact Bool.false_ne_true
 have hlong:¬ Builtin.List.listTooLong (its.toArray.size * k.toNat) = true:=by
  rw [XC hlen]
  exact Bool.false_ne_true
 have hnew:List.foldl (fun x1 x2=>x1 ++ x2) #[] (List.replicate (if its.toArray.isEmpty = true then 0 else k.toNat) its.toArray) = (List.replicate k.toNat its).flatten.toArray:=by
  have f0:∀ m:Nat,List.foldl (fun x1 x2=>x1 ++ x2) #[] (List.replicate m its.toArray) = (List.replicate m its).flatten.toArray:=fun m=>by
   have:=sX its m []
   rw [List.nil_append] at this
   exact this
  rw [f0]
  cases its with
  | nil=>simp
  | cons a r'=>rw [if_neg (by simp)]
 refine wpAny_binaryOp_repeat_ref (T:="list") (U:="int") (by decide) ⟨_,e,rfl⟩ (fun s'=>typeIs_int s' k t) noFill_list_mul F.fills_int_mul F.slot_int_rmul repeat_list F.slot_int_index.lookup
  (call_meets F.slot_int_rmul (typeIs_int s k t) F.entry_int_rmul (F.args_int_rmul_2 _ _) (int___rmul___int_list k t l its.toArray n)
   ⟨e,rfl,⟨_,e,rfl⟩,call_meets F.slot_list_mul ⟨_,e,rfl⟩ F.entry_list_mul (F.args_list_mul_2 _ _) (AutoListH.list___mul___list_int_3 l its.toArray n k t hfit hcap hlong) ⟨e,?_⟩⟩)
 rw [hnew]
 exact ⟨.ref _,_,I.lnew (t':=s.toks) (r.rep k.toNat) (by rw [WW,Nat.mul_comm]; exact hz),rfl,q _ I.fresh⟩
end
end L2
namespace Att
open PySem PySem.W PySem.Calls PyProof.Rows
theorem uk {P:Params} {h:Heap}:∀ (ns:List Int) (vs:List Value),WellAll P h vs (ns.map WData.int) -> IntsAre vs ns:=by
 intro ns
 induction ns with
 | nil =>
  intro vs w
  rw [List.map_nil] at w
  cases w
  exact .nil
 | cons n ns ih =>
  intro vs w
  rw [List.map_cons] at w
  cases w with
  | cons a b =>
   cases a
   exact .cons _ _ (ih _ b)
theorem ZZ {l:OpenLaw} {n:Nat} (hn:l.most = some n) {P:Params} {h:Heap} {args:List WData} {vals:List Value}
  (hpre:l.row.toRowW.claim.pre args = true) (hwl:WellAll P h vals args) :
  ∃ a vs ns,vals = [Value.ref a] /\ args = [WData.list (ns.map WData.int)] /\ h.get? a = some { cls:=.type "list",data:=.seq vs.toArray } /\ IntsAre vs ns /\ ns.length <= n:=by
 have hsh:WShape.hasAll [] args [.list .int] = true:=(pre_splitW hpre).1
 have hc:l.pre.holds [] { args:=args } = true:=(pre_splitW hpre).2
 obtain ⟨d,r,rfl,h1,h2⟩:=hasAllW_cons hsh
 obtain rfl:=hasAllW_nil h2
 obtain ⟨xs,rfl,h3⟩:=hasW_list h1
 obtain ⟨ns,rfl⟩:=items_int h3
 have hlen:ns.length <= n:=by
  unfold OpenLaw.pre at hc
  have h4:(WTm.not (.lt (.lit (.int (n:Int))) (.len (.arg 0)))).holds [] { args:=[.list (ns.map .int)] } = true:=by
   have h4:=(holds_andW hc).1
   rw [hn] at h4
   exact h4
  have h5:=condW_of h4 (w_not (w_lt w_lit (w_len_list (w_arg rfl))))
  rw [List.length_map] at h5
  refine Nat.le_of_not_lt fun q=>?_
  have q':(n:Int) < ((ns.length:Nat):Int):=by omega
  first
   | (rw [decide_eq_true q'] at h5; exact absurd h5 (by decide))
   | (simp at h5; omega)
 cases hwl with
 | cons w1 w2 =>
  cases w2
  cases w1 with
  | list ho hall=>exact ⟨_,_,ns,rfl,rfl,ho,uk ns _ hall,hlen⟩
theorem Z0 (l:OpenLaw) (args:List WData):l.row.toRowW.claim.post args (.bool true) args = true :=
 postW_of (r:=l.row.toRowW) (X:=(true == true))
  (show WShape.has [] (.bool true) .bool = true by first | rfl | decide | simp [WShape.has,WShape.arms,WShape.armsAll])
  (show (WTm.eq .res (.lit (.bool true))).value [] { args:=args,res:=some (.bool true),after:=args } = some (.bool (true == true)) from w_eq_bool (w_res rfl) w_lit) rfl
theorem attach_call {l:OpenLaw} {n:Nat} {q:Program} {loose:List Str} {XP:(Str -> Option Value) -> Heap -> Prop} {YP:World -> Heap -> Prop} {d:DefRec}
  (hn:l.most = some n) (hdf:d.params.defaults = [])
  (call:∀ (w:World) (s₀ s₁:Shared) (mg mb:Str -> Option Value) (fa:Addr) (o:Obj) (pm cd doc:Value) (a:Addr) (vs:List Value) (ns:List Int),
   Ground q loose [] XP w s₀ mg mb s₁.heap -> YP w s₁.heap →
   s₁.heap.get? fa = some o -> o.data = .func (docDef d.name d.params d.body d.scope pm cd doc) -> s₁.heap.CodeRec cd d.name -> mg d.name = some (.ref fa) →
   s₁.heap.get? a = some { cls:=.type "list",data:=.seq vs.toArray } -> IntsAre vs ns -> ns.length <= n -> s₁.gens = #[] →
   codeAny (model l.prog w) callerA (.call (.ref fa) ⟨[.ref a],[]⟩) (fun r s'=>r = .ok (.ret (.bool true)) /\ OldK s₁.heap s'.heap /\ s'.os = s₁.os /\ AllBare s'.gens) s₁) :
  WalkO q loose XP YP l.row.toRowW d [] (fun f vs=>PySem.call f vs):=by
 intro w s₀ s₁ mg mb G Y fa o pm cd doc dV kV ho hd hcd hD hmg hg args vals as hpre hlay hrd hwl hlo
 obtain rfl:dV = .none:=Dflts.none hD hdf
 obtain rfl:kV = .none:=Dflts.noKw hD
 obtain ⟨a,vs,ns,rfl,rfl,hobj,hints,hlen⟩:=ZZ hn hpre hwl
 refine enter_call (codeAny_mono (call w s₀ s₁ mg mb fa o pm cd doc a vs ns G Y ho (fd_plain hd) hcd hmg hobj hints hlen hg) fun r s' hq=>?_)
 obtain ⟨rfl,h2,h3,h4⟩:=hq
 exact ⟨.inl ⟨.bool true,.bool true,[],rfl,fun _=>rfl,.bool true,Z0 l _,fun _=>⟨List.Pairwise.nil,fun _ hm=>(nomatch hm)⟩⟩,h2,h3,h4⟩
end Att
namespace L2
open PySem PySem.Spec PyProof.Rows
theorem xy:∀ {vs:List Value} {ns:List Int},IntsAre vs ns -> Vals (ns.map V.int) vs
 | _,_,.nil=>.nil
 | _,_,.cons n t h=>.cons ⟨t,rfl⟩ (xy h)
def Only (H:Hp):Prop:=∀ b,H b = none \/ ∃ o xs,H b = some (.frz o (.lst xs))
theorem XD {P:Program} {w:World} {K:FG7} {mg mb:Str -> Option Value} {CX:CXT} {k:Nat} {fa a:Addr} {fd:FuncData} {x:Str} {sp:Sp} {s₁:Shared} {vs:List Value} {ns:List Int}
  (KX:K.In s₁.heap) (hns:s₁.heap.Ns mainGlobals mg) (hb:s₁.heap.Ns builtinsNs mb) (hbb:∀ x:Str,x ≠ "__name__" -> mb x = bootBuiltins x) (hlim:s₁.heap.NoLimit) (hg:s₁.gens = #[])
  (ha:s₁.heap.get? a = some { cls:=.type "list",data:=.seq vs.toArray }) (hi:IntsAre vs ns) (hl:ns.length <= sizeLine) (hr:Room k callerA)
  (F:∀ base:Heap,K.In base -> base.Ns mainGlobals mg -> FnOk P w K mg base CX k fa fd [x] sp) (hbind:∀ (s:Shared) (u:Value),BindsTo s fd ⟨[u],[]⟩ [(x,u)])
  (hsp:∀ H:Hp,Only H -> SqL K H a (ns.map V.int) -> sp [.ref a] H (fun v _=>v = .bl true) fun _ _ _=>False)
  (hCX:∀ H e s',CX [] H s₁ (fun _ _ _=>False) e s' -> False) :
  codeAny (model P w) callerA (.call (.ref fa) ⟨[.ref a],[]⟩) (fun r s'=>r = .ok (.ret (.bool true)) /\ OldK s₁.heap s'.heap /\ s'.os = s₁.os /\ AllBare s'.gens) s₁:=by
 have rv:=xy hi
 have lenV:=hi.length
 -- from an abstract heap in which nothing but the script may be tracked
 have core:∀ H:Hp,Only H -> SqL K H a (ns.map V.int) -> HOk P w H s₁.heap -> (∀ b,H b ≠ none -> b = a) -> (H a ≠ none -> K.lookup a = none) →
   codeAny (model P w) callerA (.call (.ref fa) ⟨[.ref a],[]⟩) (fun r s'=>r = .ok (.ret (.bool true)) /\ OldK s₁.heap s'.heap /\ s'.os = s₁.os /\ AllBare s'.gens) s₁:=by
  intro H hO hS hok hA hK
  have base_of:∀ {b:Addr} {o:Obj},s₁.heap.get? b = some o -> H b = none -> (hidT s₁.heap H).get? b = some o:=fun e n=>Xt e n
  have noA:∀ {b:Addr} {o:Obj} {es:Array DictEntry} {ep:Nat},s₁.heap.get? b = some o -> o.data = .dict es ep -> H b = none:=fun {b o es ep} e d=>by
   cases q:H b with
   | none=>rfl
   | some u =>
    have e':b = a:=hA b (by rw [q]; simp)
    subst e'
    rw [ha] at e; cases e
    have d':Data.seq vs.toArray _ = Data.dict es ep:=d
    cases d'
  have nsK:∀ {b:Addr} {m:Str -> Option Value},s₁.heap.Ns b m -> (hidT s₁.heap H).Ns b m:=fun {b m} ⟨o,es,ep,e,d,r⟩=>⟨o,es,ep,base_of e (noA e d),d,r⟩
  have hKb:K.In (hidT s₁.heap H):=fun b o e=>base_of (KX b o e) (by
   cases q:H b with
   | none=>rfl
   | some u =>
    have e':b = a:=hA b (by rw [q]; simp)
    subst e'
    rw [hK (by rw [q]; simp)] at e; cases e)
  have hM:Mod K mg (hidT s₁.heap H):=⟨hKb,nsK hns,⟨mb,nsK hb,hbb⟩,let ⟨mc,h1,h2⟩:=hlim; ⟨mc,nsK h1,h2⟩⟩
  have e0:Env0 P w K mg (hidT s₁.heap H) callerA [] s₁ H:=⟨rfl,hM,fun b o e=>WM e,Nat.le_of_eq (ZI _ _),trivial,fun b hb=>absurd (show b ∈ ([]:List Addr) from hb) (by simp),hok,.of_eq hg⟩
  refine codeAny_mono ((F _ hKb (nsK hns)).run callerA [] s₁ H ⟨[.ref a],[]⟩ [.ref a] [.ref a] _ _ hr e0 (hbind s₁ (.ref a)) (.cons rfl .nil) (hsp H hO hS)) fun r s' h=>?_
  cases r with
  | error e=>exact (hCX H e s' h).elim
  | ok fl =>
   cases fl with
   | next=>exact False.elim h
   | brk=>exact False.elim h
   | cont=>exact False.elim h
   | ret u =>
    obtain ⟨v,H',os,bare,un,hok',r',q⟩:=h
    have q':v = .bl true:=q
    subst q'
    obtain rfl:u = Value.bool true:=r'
    refine ⟨rfl,OldK.of_keep fun b o e=>?_,os,bare⟩
    cases q:H b with
    | none=>exact un.keep b o e q (by intro z; exact absurd (show b ∈ ([]:List Addr) from z) (by simp)) (by simp)
    | some u =>
     rcases hO b with z | ⟨ob,xs,z⟩
     ·rw [q] at z; cases z
     ·have z2:=un.frzs b ob _ z
      obtain ⟨e1,_⟩:=hok b _ z
      obtain ⟨e2,_⟩:=hok' b _ z2
      rw [e] at e1; cases e1
      exact e2
 cases hk:K.lookup a with
 | some o =>
  -- the script is one of the module's own objects
  have e:=KX a o hk
  rw [ha] at e
  cases e
  refine core (fun _=>none) (fun _=>.inl rfl) (.inr ⟨_,vs.toArray,_,hk,rfl,rfl,rfl,by rw [List.size_toArray,lenV]; exact hl,by simpa using rv⟩) (fun b u z=>by have z':(none:Option HO) = some u:=z; cases z') (fun b z=>absurd rfl z) fun z=>absurd rfl z
 | none =>
  refine core (fun b=>if b = a then some (.frz { cls:=.type "list",data:=.seq vs.toArray } (.lst (ns.map V.int))) else none) (fun b=>?_) (.inl (.inr ⟨{ cls:=.type "list",data:=.seq vs.toArray },if_pos rfl⟩)) (fun b u z=>?_) (fun b z=>?_) fun _=>hk
  ·by_cases hb:b = a
   ·exact .inr ⟨_,_,if_pos hb⟩
   ·exact .inl (if_neg hb)
  ·by_cases hb:b = a
   ·have z':=(if_pos hb).symm.trans z
    cases z'
    subst hb
    exact ⟨ha,by rw [List.length_map]; exact hl,vs,_,rv,ha⟩
   ·have z':=(if_neg hb).symm.trans z
    cases z'
  ·by_cases hb:b = a
   ·exact hb
   ·exact absurd (if_neg hb) z
end L2
namespace L2
open PySem PySem.Spec PyProof.Rows
theorem walk_of {l:PySem.W.OpenLaw} {n k:Nat} {q:Program} {loose:List Str} {XP:(Str -> Option Value) -> Heap -> Prop} {YP:World -> Heap -> Prop} {d:DefRec} {K:Params -> FG7} {CX:World -> CXT} {sp:World -> Sp} {x:Str}
  (hn:l.most = some n) (hn2:n <= sizeLine) (hdf:d.params.defaults = []) (hr:Room k callerA)
  (hY:∀ (w:World) (h:Heap),YP w h -> (K w.params).In h)
  (F:∀ (w:World) (mg:Str -> Option Value) (fa:Addr) (h:Heap),(K w.params).In h -> h.Ns mainGlobals mg -> mg d.name = some (.ref fa) →
   ∃ fd:FuncData,(∀ (s:Shared) (u:Value),BindsTo s fd ⟨[u],[]⟩ [(x,u)]) ∧
    ∀ base:Heap,(K w.params).In base -> base.Ns mainGlobals mg -> FnOk l.prog w (K w.params) mg base (CX w) k fa fd [x] (sp w))
  (hsp:∀ (w:World) (H:Hp) (a:Addr) (ns:List Int),ns.length <= n -> Only H -> SqL (K w.params) H a (ns.map V.int) -> sp w [.ref a] H (fun v _=>v = .bl true) fun _ _ _=>False)
  (hCX:∀ (w:World) (H:Hp) (s:Shared) (e:Value) (s':Shared),CX w [] H s (fun _ _ _=>False) e s' -> False) :
  PySem.W.WalkO q loose XP YP l.row.toRowW d [] (fun f vs=>PySem.call f vs):=by
 refine Att.attach_call hn hdf fun w s₀ s₁ mg mb fa o pm cd doc a vs ns G Y ho hd hcd hmg hobj hints hlen hg=>?_
 have KX:=hY w _ Y
 obtain ⟨fd,hb,hF⟩:=F w mg fa _ KX G.T.g hmg
 exact XD KX G.T.g G.T.b G.T.builtins G.T.nolimit hg hobj hints (Nat.le_trans hlen hn2) hr hF hb (fun H hO hS=>hsp w H a ns hlen hO hS) fun H e s'=>hCX w H s₁ e s'
end L2
namespace L2
open PySem PySem.Spec PyProof.Rows
def ul (s:Stmt):Arguments:=match s with
 | .FunctionDef _ a _ _ _ _ _ _ _ _=>a
 | _=>{ posonlyargs:=[],args:=[],vararg:=none,kwonlyargs:=[],kw_defaults:=[],kwarg:=none,defaults:=[] }
def wN (s:Stmt):List Stmt:=match s with
 | .FunctionDef _ _ b _ _ _ _ _ _ _=>b
 | _=>[]
def zi (s:Stmt):Scope:=match s with
 | .FunctionDef _ _ _ _ _ _ sc _ _ _=>sc
 | _=>{ kind:=.function,names:=[],isGenerator:=false,isCoroutine:=false }
abbrev CX0:CXT:=fun _ _ _ _ _ _=>False
abbrev E0:XK:=fun _ _ _=>False
theorem Ur {X:Cx}:tm CX0 X E0:=fun _ _ _ _ _ _ _ h=>h.elim
structure Fun (K:FG7) (x qual:Str) (st:Stmt) (f:Addr) (fd:FuncData):Prop where
 ex:∃ (oc:Value) (od:Option Addr) (kV doc pm:Value) (an:Option Addr) (cdv ct:Value) (osl:Array (Option Value)),
  fd = PySem.W.fnOf x qual (ul st) (wN st) (zi st) .none kV doc pm an cdv ct /\ K.lookup f = some ⟨oc,od,.func fd,osl⟩ /\ PySem.W.codeIn K cdv qual = true
 kp:PySem.W.keepIn K (.ref f) = true
section
variable {P:Program} {w:World} {K:FG7} {mg:Str -> Option Value} {base:Heap}
theorem Fun.ok {x qual:Str} {st:Stmt} {f:Addr} {fd:FuncData} {N ps:List Str} {k:Nat} {sp:Sp} (F:Fun K x qual st f fd) (S:FnScope N ps (zi st)) (len:∀ vs H Q E,sp vs H Q E -> vs.length = ps.length)
  (hbody:∀ (cdv:Value) (A:Around) (outer:List Env) (s:Shared) (H:Hp) (vs:List V) (Q:VK) (E:XK),Room k (A.deeper (envOfC qual (zi st) s.heap.objs.size f cdv)) -> sp vs H Q E →
   ∃ t,PSs (cxOf CX0 P w K mg base N qual (zi st) f cdv A outer s H E).nox (wN st) t /\ t { nx:=fun _ H'=>Q .non H',rt:=Q } (start N vs) H):FnOk P w K mg base CX0 (k + 1) f fd ps sp:=by
 obtain ⟨oc,od,kV,doc,pm,an,cdv,ct,osl,rfl,lk,hcd⟩:=F.ex
 refine VC lk hcd S len fun A outer s H vs Q E hr hsp=>?_
 obtain ⟨t,h,q⟩:=hbody cdv A outer s H vs Q E hr hsp
 exact ⟨t,h.nox,q⟩
theorem Fun.binds {x qual:Str} {st:Stmt} {f:Addr} {fd:FuncData} {ps:List Str} (F:Fun K x qual st f fd)
  (h:∀ (kV doc pm:Value) (an:Option Addr) (cdv ct:Value) (us:List Value),us.length = ps.length -> bindArgs (PySem.W.fnOf x qual (ul st) (wN st) (zi st) .none kV doc pm an cdv ct) ⟨us,[]⟩ = pure (ps.zip us)):sQ K fd ps []:=by
 obtain ⟨oc,od,kV,doc,pm,an,cdv,ct,osl,rfl,lk,hcd⟩:=F.ex
 exact .all (h kV doc pm an cdv ct)
theorem fun_mk {x qual:Str} {st:Stmt} {f:Addr} {oc:Value} {od an:Option Addr} {osl:Array (Option Value)} {kV doc pm cdv ct:Value} (l:K.lookup f = some ⟨oc,od,.func (PySem.W.fnOf x qual (ul st) (wN st) (zi st) .none kV doc pm an cdv ct),osl⟩)
  (c:PySem.W.codeIn K cdv qual = true) (k:PySem.W.keepIn K (.ref f) = true):Fun K x qual st f (PySem.W.fnOf x qual (ul st) (wN st) (zi st) .none kV doc pm an cdv ct):=⟨⟨oc,od,kV,doc,pm,an,cdv,ct,osl,rfl,l,c⟩,k⟩
end
theorem um {n:Nat} (h:n <= 1000):n < sizeLine:=Nat.lt_of_le_of_lt h (by decide)
section
variable {X:Cx}
theorem pv (i:Nat) {x:Str} {pos:Pos} (hN:X.N[i]? = some x:=by rfl) (hv:Vis X.env.scope x:=by first | exact Or.inl rfl | exact Or.inr (Or.inl rfl) | exact Or.inr (Or.inr rfl)) (hd:(x == ("__debug__":Str)) = false:=by decide)
  (hcd:(x == ("__classdict__":Str)) = false:=by decide):PE X (.Name x pos) (tVar i):=Vu hN hv hd hcd
end
theorem iteF {A B:Prop} (h:B):if false = true then A else B:=by
 rw [if_neg Bool.false_ne_true]
 exact h
theorem iteT {A B:Prop} (h:A):if true = true then A else B:=by
 rw [if_pos rfl]
 exact h
theorem ite2 {c A B:Prop} [Decidable c] (h1:c -> A) (h2:¬ c -> B):if c then A else B:=by
 by_cases h:c
 ·rw [if_pos h]
  exact h1 h
 ·rw [if_neg h]
  exact h2 h
def Same (H H':Hp):Prop:=∀ b o,H b = some o -> H' b = some o
theorem Same.trans {H H1 H2:Hp} (a:Same H H1) (b:Same H1 H2):Same H H2:=fun c o h=>b c o (a c o h)
theorem Same.free {H H':Hp} (e:Same H H') {l:Addr} (h:H' l = Option.none):H l = Option.none:=by
 cases q:H l with
 | none=>rfl
 | some o =>
  rw [e l o q] at h
  cases h
end L2
namespace L3
open PySem PySem.Spec PyProof.Rows L2
theorem xh:bootBuiltins "len" = some (.builtin "len"):=by decide +kernel
theorem jZ:bootBuiltins "max" = some (.builtin "max"):=by decide +kernel
theorem VH:bootBuiltins "min" = some (.builtin "min"):=by decide +kernel
theorem Wu:bootBuiltins "repr" = some (.builtin "repr"):=by decide +kernel
theorem zt:bootBuiltins "isinstance" = some (.builtin "isinstance"):=by decide +kernel
theorem j3:bootBuiltins "all" = some (.builtin "all"):=by decide +kernel
theorem Z1:bootBuiltins "any" = some (.builtin "any"):=by decide +kernel
theorem v9:bootBuiltins "sorted" = some (.builtin "sorted"):=by decide +kernel
theorem Z2:bootBuiltins "int" = some (.type "int"):=by decide +kernel
theorem Z3:bootBuiltins "bool" = some (.type "bool"):=by decide +kernel
theorem z9:bootBuiltins "tuple" = some (.type "tuple"):=by decide +kernel
theorem vQ:bootBuiltins "list" = some (.type "list"):=by decide +kernel
def TyV (K:FG7) (H:Hp) (x:V) (T:String):Prop:=match x with
 | .non=>T = "NoneType"
 | .bl _=>T = "bool"
 | .int _=>T = "int"
 | .str _=>T = "str"
 | .ref a=>(T = "tuple" /\ ∃ xs,SqT K H a xs) \/ (T = "list" /\ ∃ xs,SqL K H a xs) \/ (T = "dict" /\ ∃ kvs,H a = some (.dK kvs))
 | _=>False
section
variable {X:Cx} {a b c:Expr} {ta tb tc:TE} {pos:Pos}
def rIsi (K:FG7):List V -> Hp -> VK -> Prop:=fun xs H Q=>∃ x T t k,xs = [x,.ty T] /\ TyV K H x t /\ PySem.W.kitOne K (.type t) (.type T) = some k /\ Q (.bl k) H
theorem yq:yY X (.builtin "isinstance") (rIsi X.K):=by
 intro pins s σ H xs us Q I r h
 obtain ⟨x,T,t,k,rfl,ty,e,q⟩:=h
 obtain ⟨u,w',rfl,rx,rt⟩:=jV r
 cases (show w' = Value.type T from rt)
 have fin:∀ tk,EP X pins σ Q (.bool k) { s with toks:=tk }:=fun tk=>⟨.bl k,H,I.tok _,rfl,q⟩
 cases x with
 | non=>cases (show t = "NoneType" from ty); exact x6 I rx .non e fin
 | bl y=>cases (show t = "bool" from ty); exact x6 I rx (.bl y) e fin
 | int i=>cases (show t = "int" from ty); exact x6 I rx (.int i) e fin
 | str y=>cases (show t = "str" from ty); exact x6 I rx (.str y) e fin
 | byt y=>exact ty.elim
 | flt y=>exact ty.elim
 | ty y=>exact ty.elim
 | ref a =>
  cases (show u = Value.ref a from rx)
  rcases ty with ⟨rfl,xs,hq⟩ | ⟨rfl,xs,hq⟩ | ⟨rfl,kvs,hq⟩
  ·obtain ⟨its,_,⟨o,h1,h2,_⟩,_⟩:=I.tuple hq
   exact PySem.W.kia_one PySem.W.kitx_tuple I.kIn ⟨o,h1,h2⟩ e (fun z=>nomatch z) fin
  ·obtain ⟨its,_,pl,_⟩:=I.list hq
   obtain ⟨o,h1,h2,_⟩:=pl.isList
   exact PySem.W.kia_one PySem.W.kitx_list I.kIn ⟨o,h1,h2⟩ e (fun z=>nomatch z) fin
  ·exact x6 (x:=V.ref a) I (show RelV (.ref a) (.ref a) from rfl) (.dK hq) e fin
theorem yU {x:Str} {T:String} {pos:Pos} (hg:Gl X x) (hm:X.mg x = none) (hv:bootBuiltins x = some (.type T)) (hn:x ≠ "__name__":=by decide) (hd:(x == ("__debug__":Str)) = false:=by decide):PE X (.Name x pos) (tC (.ty T)) :=
 WO hg hm hv (show RelV (.ty T) (Value.type T) from rfl) hn hd
theorem y9:OpR X (binaryOp .Mult) (rI IntMulOk fun i j=>.int (i * j)):=opI fun _ _ _ _ _ _ _ hc q=>mul_int q hc
def WX (i j:Int):Prop:=0 < j /\ j < 2 ^ 200
theorem WX.py {i j:Int} (h:WX i j):Builtin.divisionGoesByPylong i j = false:=by
 refine PyProof.noPylong_of_log2 ?_
 obtain ⟨h1,h2⟩:=h
 have h0:j.natAbs ≠ 0:=by omega
 have h3:j.natAbs < 2 ^ 200:=by
  have:(j.natAbs:Int) = j:=by omega
  have h4:((j.natAbs:Nat):Int) < ((2 ^ 200:Nat):Int):=by rw [this]; exact h2
  exact Int.ofNat_lt.mp h4
 exact Nat.lt_of_lt_of_le ((Nat.log2_lt h0).mpr h3) (by decide)
theorem ju:OpR X (binaryOp .FloorDiv) (rI WX fun i j=>.int (i / j)):=opI fun i j _ _ _ _ _ hc q=>by
 have:=hc.1
 refine floordiv_int (by omega) ?_ (.inl hc.py)
 rw [Int.fdiv_eq_ediv_of_nonneg i (by omega)]
 exact q
end
def zk (P:Program) (w:World) (K:FG7) (mg:Str -> Option Value) (base:Heap) (k:Nat) (x:Str) (ps:List Str) (sp:Sp):Prop :=
 ∃ (f:Addr) (fd:FuncData),FnOk P w K mg base CX0 k f fd ps sp /\ sQ K fd ps [] /\ PySem.W.keepIn K (.ref f) = true /\ mg x = some (.ref f)
theorem zk.mono {P:Program} {w:World} {K:FG7} {mg:Str -> Option Value} {base:Heap} {j k:Nat} {x:Str} {ps:List Str} {sp:Sp} (C:zk P w K mg base j x ps sp) (h:j <= k):zk P w K mg base k x ps sp:=by
 obtain ⟨f,fd,F,b,kp,m⟩:=C
 exact ⟨f,fd,F.mono h,b,kp,m⟩
section
variable {X:Cx} {k:Nat} {ps:List Str} {sp:Sp} {x:Str} {p pos:Pos} {e:Expr} {es:List Expr} {t:TA}
theorem zf (C:zk X.prog X.w X.K X.mg X.base k x ps sp) (hr:Room k X.A) (hg:Gl X x)
  (ha:PA X (e :: es) t) (hdb:(x == ("__debug__":Str)) = false:=by decide) (he:starEach (e :: es) X.env = (false,eval e X.env) :: starEach es X.env:=by rfl) (hpl:(backTo pos (starEach es X.env)).any (·.1) = false:=by rfl) :
  PE X (.Call (.Name x p) (e :: es) [] pos) (WR sp [] E0 t):=by
 obtain ⟨f,fd,F,b,kp,m⟩:=C
 exact ZS F hr hg m kp b .nil Ur ha hdb he hpl
end
structure Grow (m:List Addr) (H H':Hp):Prop where
 keep:∀ b o,b ∉ m -> H b = some o -> H' b = some o
 tup:∀ b xs,H b = some (.tup xs) -> H' b = some (.tup xs)
 frz:∀ b o u,H b = some (.frz o u) -> H' b = some (.frz o u)
theorem Grow.refl (m:List Addr) (H:Hp):Grow m H H:=⟨fun _ _ _ h=>h,fun _ _ h=>h,fun _ _ _ h=>h⟩
theorem Grow.trans {m:List Addr} {H H1 H2:Hp} (a:Grow m H H1) (b:Grow m H1 H2):Grow m H H2 :=
 ⟨fun c o n h=>b.keep c o n (a.keep c o n h),fun c xs h=>b.tup c xs (a.tup c xs h),fun c o u h=>b.frz c o u (a.frz c o u h)⟩
theorem Grow.new {m:List Addr} {H:Hp} {p:Addr} (h:H p = none) (o:HO):Grow m H (upd H p o) :=
 ⟨fun b u _ q=>by rw [zo (zv q h)]; exact q,fun b xs q=>by rw [zo (zv q h)]; exact q,fun b u v q=>by rw [zo (zv q h)]; exact q⟩
theorem Grow.set {m:List Addr} {H:Hp} {p:Addr} {xs:List V} (h:H p = some (.lst xs)) (hm:p ∈ m) (ys:List V):Grow m H (upd H p (.lst ys)) :=
 ⟨fun b u hb q=>by rw [zo (show b ≠ p from fun z=>hb (by rw [z]; exact hm))]; exact q,fun b zs q=>by rw [zo (fun z=>by subst z; rw [h] at q; cases q)]; exact q,fun b u v q=>by rw [zo (fun z=>by subst z; rw [h] at q; cases q)]; exact q⟩
theorem Grow.mono {m m':List Addr} {H H':Hp} (a:Grow m H H') (h:∀ b ∈ m,b ∈ m'):Grow m' H H':=⟨fun b o n q=>a.keep b o (fun z=>n (h b z)) q,a.tup,a.frz⟩
theorem Grow.sqT {m:List Addr} {H H':Hp} (g:Grow m H H') {K:FG7} {a:Addr} {xs:List V} (h:SqT K H a xs):SqT K H' a xs:=by
 rcases h with (h | ⟨o,h⟩) | h
 ·exact .inl (.inl (g.tup _ _ h))
 ·exact .inl (.inr ⟨o,g.frz _ _ _ h⟩)
 ·exact .inr h
theorem Grow.free {H H':Hp} {m:List Addr} (g:Grow m H H') {l:Addr} (hm:l ∉ m) (h:H' l = none):H l = none:=by
 cases q:H l with
 | none=>rfl
 | some o=>rw [g.keep l o hm q] at h; cases h
def Scr (K:FG7) (H:Hp) (a:Addr) (ns:List Int):Prop :=
 (∃ o,H a = some (.frz o (.lst (ns.map V.int)))) ∨
  ∃ (o:Obj) (its:Array Value) (n:Nat),K.lookup a = some o /\ o.cls = .type "list" /\ o.dict = none /\ o.data = .seq its n /\ its.size <= sizeLine /\ Vals (ns.map V.int) its.toList
theorem Scr.sq {K:FG7} {H:Hp} {a:Addr} {ns:List Int} (h:Scr K H a ns):SqL K H a (ns.map V.int):=by
 rcases h with ⟨o,h⟩ | h
 ·exact .inl (.inr ⟨o,h⟩)
 ·exact .inr h
theorem Scr.of {K:FG7} {H:Hp} {a:Addr} {ns:List Int} (hO:Only H) (h:SqL K H a (ns.map V.int)):Scr K H a ns:=by
 rcases h with (h | ⟨o,h⟩) | h
 ·rcases hO a with z | ⟨o,xs,z⟩
  ·rw [h] at z; cases z
  ·rw [h] at z; cases z
 ·exact .inl ⟨o,h⟩
 ·exact .inr h
theorem Grow.scr {m:List Addr} {H H':Hp} (g:Grow m H H') {K:FG7} {a:Addr} {ns:List Int} (h:Scr K H a ns):Scr K H' a ns:=by
 rcases h with ⟨o,h⟩ | h
 ·exact .inl ⟨o,g.frz _ _ _ h⟩
 ·exact .inr h
section
variable {prog:Program} {w:World} {A:Around} {R:Result -> Shared -> Prop} {s:Shared}
theorem sY {elt target iter:Expr} {ifs:List Expr} {scope:Scope} {pos:Pos} {it acc:Value} {env:Env} (I:Nat -> Shared -> Prop)
  (turn:∀ n s,I n s -> wpAny (model prog w) A (pyNext it) (fun r s₁=>match r with
   | none=>R (.ok .next) s₁
   | some v=>wpAny (model prog w) A (letOwnedTupleGo target it v) (fun _ s₂=>wpAny (model prog w) A (assign target env v) (fun _ s₃ =>
     wpAny (model prog w) A (forIn ifs true fun c r=>if r = true then do let ok ← isTrue c env (eval c env); pure (ForInStep.yield ok) else pure (ForInStep.yield r)) (fun ok s₄ =>
      if ok = true then wpAny (model prog w) A (eval elt env) (fun x s₅ =>
       wpAny (model prog w) A (call (.builtin "list.append") [acc,x]) (fun _ s₆=>∃ m,m < n /\ I m s₆) (fun _ _=>False) s₅) (fun _ _=>False) s₄
      else ∃ m,m < n /\ I m s₄) (fun _ _=>False) s₃) (fun _ _=>False) s₂) (fun _ _=>False) s₁) (fun _ _=>False) s)
  (n:Nat) (h:I n s) :
  codeAny (model prog w) A (.compLoop (.ListComp elt [⟨target,iter,ifs,0⟩] scope pos) 0 it acc env) R s:=by
 refine codeAny_loop rfl I (fun n s hI=>?_) n h
 show wpAny _ A ((compTurn (.ListComp elt [⟨target,iter,ifs,0⟩] scope pos) 0 it acc env).onRaise (fun x=>do noteFrame x env; theTreesLotGoes x)) _ _ s
 refine wpAny_noted ?_
 rw [compTurn_list]
 have no:∀ (E:VS7) (e:Value) (s:Shared),(fun (_:Value) (_:Shared)=>False) e s -> E e s:=fun _ _ _ f=>f.elim
 refine wpAny_bind (wpAny_standAt (wpAny_bind (wpAny_mono (turn n s hI) (fun r s₁ h₁=>?_) (no _))))
 cases r with
 | none=>exact wpAny_pure h₁
 | some v =>
  refine wpAny_bind (wpAny_mono h₁ (fun _ s₂ h₂=>?_) (no _))
  refine wpAny_bind (wpAny_mono h₂ (fun _ s₃ h₃=>wpAny_bind (wpAny_mono h₃ (fun ok s₄ h₄=>?_) (no _))) (no _))
  cases ok with
  | true =>
   simp only [if_true] at h₄ ⊢
   exact wpAny_bind (wpAny_bind (wpAny_mono h₄ (fun x s₅ h₅=>wpAny_bind (wpAny_mono h₅ (fun _ s₆ h₆=>wpAny_pure (wpAny_pure ⟨rfl,h₆⟩)) (no _))) (no _)))
  | false =>
   simp only [Bool.false_eq_true,if_false] at h₄ ⊢
   first
    | exact wpAny_bind (wpAny_pure (wpAny_pure ⟨rfl,h₄⟩))
    | exact wpAny_pure ⟨rfl,h₄⟩
end
theorem tw {scope:Scope} {env:Env} (hfree:∀ y ∈ scope.names,y.2 = .free -> ∃ c,env.cells.lookup y.1 = some c) :
  ∃ cl,closureFor scope env = pure cl /\ (∀ x c,cl.lookup x = some c -> env.cells.lookup x = some c) /\ ∀ y ∈ scope.names,y.2 = .free -> ∃ c,cl.lookup y.1 = some c:=by
 have key:∀ (l:List (Str × NameKind)) (cs:List (Str × Addr)),(∀ y ∈ l,y.2 = .free -> ∃ c,env.cells.lookup y.1 = some c) -> (∀ x c,cs.lookup x = some c -> env.cells.lookup x = some c) →
   ∃ cl,(forIn l cs (fun (x:Str × NameKind) r=>do if x.2 == .free then do let c ← cellOf env x.1; pure (ForInStep.yield ((x.1,c) :: r)) else pure (ForInStep.yield r)):Sem (List (Str × Addr))) = pure cl ∧
    (∀ x c,cl.lookup x = some c -> env.cells.lookup x = some c) /\ (∀ y ∈ l,y.2 = .free -> ∃ c,cl.lookup y.1 = some c) /\ ∀ x c,cs.lookup x = some c -> ∃ c',cl.lookup x = some c':=by
  intro l
  induction l with
  | nil=>intro cs _ h2; exact ⟨cs,rfl,h2,fun y hy=>absurd hy (by simp),fun x c h=>⟨c,h⟩⟩
  | cons y r ih =>
   intro cs h1 h2
   obtain ⟨n,k⟩:=y
   by_cases hk:k = .free
   ·subst hk
    obtain ⟨c,hc⟩:=h1 (n,.free) (by simp) rfl
    have hc':env.cells.lookup n = some c:=hc
    have e0:cellOf env n = pure c:=by unfold cellOf; rw [hc']
    obtain ⟨cl,e,p1,p2,p3⟩:=ih ((n,c) :: cs) (fun z hz=>h1 z (List.mem_cons_of_mem _ hz)) (fun x d h=>by
     by_cases hx:x = n
     ·subst hx
      rw [List.lookup_cons_self] at h
      cases h; exact hc'
     ·rw [List.lookup_cons,beq_eq_false_iff_ne.mpr hx] at h
      exact h2 x d h)
    refine ⟨cl,?_,p1,fun z hz=>?_,fun x d h=>?_⟩
    ·rw [List.forIn_cons]
     simp only [beq_self_eq_true,if_true,e0,pure_bind]
     exact e
    ·rcases List.mem_cons.mp hz with rfl | hz
     ·intro _
      exact p3 n c List.lookup_cons_self
     ·exact p2 z hz
    ·by_cases hx:x = n
     ·subst hx; exact p3 x c List.lookup_cons_self
     ·exact p3 x d (by rw [List.lookup_cons,beq_eq_false_iff_ne.mpr hx]; exact h)
   ·have hb:(k == NameKind.free) = false:=beq_eq_false_iff_ne.mpr hk
    obtain ⟨cl,e,p1,p2,p3⟩:=ih cs (fun z hz=>h1 z (List.mem_cons_of_mem _ hz)) h2
    refine ⟨cl,?_,p1,fun z hz=>?_,p3⟩
    ·rw [List.forIn_cons]
     simp only [hb,Bool.false_eq_true,if_false,pure_bind]
     exact e
    ·rcases List.mem_cons.mp hz with rfl | hz
     ·intro h; exact absurd h hk
     ·exact p2 z hz
 obtain ⟨cl,e,p1,p2,_⟩:=key scope.names [] hfree (fun x c h=>by cases h)
 refine ⟨cl,?_,p1,p2⟩
 unfold closureFor
 first
  | (rw [show (forIn scope.names [] _:Sem (List (Str × Addr))) = pure cl from e]; rfl)
  | (simp only [bind_pure]; exact e)
  | exact e
def PIfs (X:Cx) (ifs:List Expr) (t:TT):Prop :=
 ∀ (pins:List (Addr × Obj)) (s:Shared) (σ:L2.St) (H:Hp) (Q:Bool -> Hp -> Prop),Inv X pins σ H s -> t σ H Q →
  wpAny (model X.prog X.w) X.A (forIn ifs true fun c r=>if r = true then do let ok ← isTrue c X.env (eval c X.env); pure (ForInStep.yield ok) else pure (ForInStep.yield r)) (TP X pins σ Q) X.xe s
def Z4:TT:=fun _ H Q=>Q true H
theorem zM {X:Cx}:PIfs X [] Z4:=fun pins s σ H Q I h=>wpAny_pure ⟨H,I,h⟩
theorem ua {X:Cx} {c:Expr} {t:TT} (hc:PT X c t):PIfs X [c] t:=fun pins s σ H Q I h=>wpAny_tests_one (hc pins s σ H Q I h)
abbrev cxC (X:Cx) (N':List Str) (scope:Scope) (cl:List (Str × Addr)) (C D:Addr) (fp:List Addr) (s:Shared) (H:Hp):Cx :=
 { X with N:=N',s₀:=s,H₀:=H,env:=compEnvC scope cl C X.env,outer:=X.stack,ex:=D :: fp,fn:=fun _=>false,xe:=fun _ _=>False }
def capt (sub:List (Option Nat)) (σ:L2.St):L2.St:=sub.map fun o=>match o with
 | none=>none
 | some i=>(match σ[i]? with | some v=>v | none=>none)
def vY (J:It) (σ0:L2.St) (H1:Hp) (g:TG) (tt:TT) (te:TE) (Q:VK):Prop :=
 ∃ W:Nat -> Nat -> List V -> L2.St -> Hp -> Prop,(∃ m,W 0 m [] σ0 H1) /\ ∀ i m ys σ' H',W i m ys σ' H' →
  (J.stop i H' /\ ∀ l,H' l = none -> Q (.ref l) (upd H' l (.lst ys))) ∨
  (J.go i H' /\ ∃ Nn:List V -> L2.St -> Hp -> Prop,(∀ zs σ2 H2,Nn zs σ2 H2 -> ∃ m',m' < m /\ W (i + 1) m' zs σ2 H2) ∧
   ∀ x H2,J.yld i H' x H2 -> g x σ' H2 fun σ2 H3=>tt σ2 H3 fun b H4=>if b = true then te σ2 H4 fun y H5=>ys.length < sizeLine /\ Nn (ys ++ [y]) σ2 H5 else Nn ys σ2 H4)
def WY (wi:TI) (sub:List (Option Nat)) (g:TG) (tt:TT) (te:TE):TE:=fun σ H Q=>wi σ H fun J H1=>vY J (capt sub σ) H1 g tt te Q
structure CSc (X:Cx) (scope:Scope) (N':List Str) (sub:List (Option Nat)):Prop where
 free:∀ y ∈ scope.names,y.2 = .free -> X.env.kindOf y.1 = some .cell
 nocell:∀ y ∈ scope.names,y.2 ≠ .cell
 kind:scope.kind = .function
 names:∀ y ∈ scope.names,y.2 = .local -> scope.names.lookup y.1 = some .local
 len:sub.length = N'.length
 cap:∀ (j:Nat) (y:Str) (i:Nat),N'[j]? = some y -> sub[j]? = some (some i) -> X.N[i]? = some y /\ X.env.scope.names.lookup y = some .cell /\ scope.names.lookup y = some .free
theorem HOk.track {P:Program} {w:World} {H:Hp} {h:Heap} {a:Addr} {o:HO} (x:HOk P w H h) (hn:H a = none) (new:yr P w (upd H a o) h a o):HOk P w (upd H a o) h:=fun b u e=>by
 by_cases hb:b = a
 ·subst hb; rw [zd] at e; cases e; exact new
 ·rw [zo hb] at e
  exact (x b u e).stay (fun c v _ q=>q) (fun c q=>by rw [zo (zv q hn)]; exact q) fun c xs q=>by rw [zo (zv q hn)]; exact q
theorem yQ {scope:Scope} {env:Env} {y:Str} {k:NameKind} (h:(relabel scope env).names.lookup y = some k) :
  ∃ k',scope.names.lookup y = some k' /\ (k = k' \/ (k = .cell /\ k' = .free)):=by
 have key:∀ l:List (Str × NameKind),(l.map fun (n,k)=>if (k == NameKind.free && env.scope.kind == .function && env.kindOf n == some .cell) then (n,NameKind.cell) else (n,k)).lookup y = some k →
   ∃ k',l.lookup y = some k' /\ (k = k' \/ (k = .cell /\ k' = .free)):=by
  intro l
  induction l with
  | nil=>intro h; cases h
  | cons p r ih =>
   obtain ⟨n,k0⟩:=p
   intro h
   rw [List.map_cons] at h
   by_cases hc:(k0 == NameKind.free && env.scope.kind == .function && env.kindOf n == some .cell) = true
   ·have hf:k0 = .free:=by
     simp only [Bool.and_eq_true,beq_iff_eq] at hc
     exact hc.1.1
    dsimp only at h
    rw [if_pos hc,List.lookup_cons] at h
    rw [List.lookup_cons]
    cases hx:y == n with
    | true=>rw [hx] at h; cases h; exact ⟨k0,rfl,.inr ⟨rfl,hf⟩⟩
    | false=>rw [hx] at h; exact ih h
   ·dsimp only at h
    rw [if_neg hc,List.lookup_cons] at h
    rw [List.lookup_cons]
    cases hx:y == n with
    | true=>rw [hx] at h; cases h; exact ⟨_,rfl,.inl rfl⟩
    | false=>rw [hx] at h; exact ih h
 exact key scope.names h
theorem x9 {scope:Scope} {env:Env} {y:Str} (hk:env.scope.kind = .function) (hc:env.kindOf y = some .cell) (h:scope.names.lookup y = some .free):(relabel scope env).names.lookup y = some .cell:=by
 have key:∀ l:List (Str × NameKind),l.lookup y = some .free -> (l.map fun (n,k)=>if (k == NameKind.free && env.scope.kind == .function && env.kindOf n == some .cell) then (n,NameKind.cell) else (n,k)).lookup y = some .cell:=by
  intro l
  induction l with
  | nil=>intro h; cases h
  | cons p r ih =>
   obtain ⟨n,k0⟩:=p
   intro h
   rw [List.map_cons]
   rw [List.lookup_cons] at h
   dsimp only
   cases hx:y == n with
   | true =>
    rw [hx] at h
    cases h
    have e:y = n:=by simpa using hx
    subst e
    rw [if_pos (by simp [hk,hc]),List.lookup_cons,hx]
   | false =>
    rw [hx] at h
    by_cases hc2:(k0 == NameKind.free && env.scope.kind == .function && env.kindOf n == some .cell) = true
    ·rw [if_pos hc2,List.lookup_cons,hx]; exact ih h
    ·rw [if_neg hc2,List.lookup_cons,hx]; exact ih h
 exact key scope.names h
section
variable {X:Cx} {pins:List (Addr × Obj)} {σ:L2.St} {H2:Hp} {s₂:Shared} {it:Addr} {fp:List Addr} {tn:Nat -> Heap -> Prop} {J:It} {scope:Scope} {cl:List (Str × Addr)} {N':List Str} {sub:List (Option Nat)}
theorem j4 {h₁:Heap} {tk:Nat} (I:Inv X pins σ H2 s₂) (S:CSc X scope N' sub) (hcl1:∀ x c,cl.lookup x = some c -> X.env.cells.lookup x = some c) (hcl2:∀ y ∈ scope.names,y.2 = .free -> ∃ c,cl.lookup y.1 = some c)
    (f2:∀ b ∈ fp,FpOk X pins H2 b) (hfp:∀ b ∈ fp,b < s₂.heap.objs.size) {m:Str -> Option Value} {ob:Obj}
    (hns:h₁.Ns (s₂.heap.objs.size + 1) m) (hk:∀ b o,(s₂.heap.push ob).get? b = some o -> h₁.get? b = some o) :
    Inv (cxC X N' scope cl (s₂.heap.objs.size + 1) s₂.heap.objs.size fp { s₂ with heap:=s₂.heap.push ob } H2) pins (capt sub σ) H2 { s₂ with heap:=h₁,toks:=tk }:=by
  have old:∀ b o,s₂.heap.get? b = some o -> (s₂.heap.push ob).get? b = some o:=fun b o e=>Heap.get?_push_of_some _ e
  have old2:∀ b o,s₂.heap.get? b = some o -> h₁.get? b = some o:=fun b o e=>hk b o (old b o e)
  have sz:(s₂.heap.push ob).objs.size = s₂.heap.objs.size + 1:=Heap.size_push ..
  have cells:∀ x c,cl.lookup x = some c -> c < s₂.heap.objs.size:=fun x c e=>let ⟨v,q⟩:=I.cell x c (hcl1 x c e); q.lt
  have has:∀ x,((relabel scope X.env).names.lookup x = some .cell \/ (relabel scope X.env).names.lookup x = some .free) -> ∃ c,cl.lookup x = some c:=fun x hx=>by
    rcases hx with hx | hx
    · obtain ⟨k',e,z⟩:=yQ hx
      rcases z with z | ⟨_,z⟩
      · subst z; exact absurd rfl (S.nocell _ (PySem.mem_of_lookup e))
      · subst z; exact hcl2 _ (PySem.mem_of_lookup e) rfl
    · obtain ⟨k',e,z⟩:=yQ hx
      rcases z with z | ⟨z,_⟩
      · subst z; exact hcl2 _ (PySem.mem_of_lookup e) rfl
      · cases z
  have frsz:∀ b ∈ frs X.stack,b < s₂.heap.objs.size:=fun b hb=>by
    rcases List.mem_cons.mp (I.stkSub b hb) with z | z
    · rw [z]; exact I.lt
    · exact Nat.lt_of_not_le fun q=>I.nofs q z
  refine
    { ok :=
      { mod:=I.ok.mod,kind:=S.kind,glob:=I.ok.glob,blt:=I.ok.blt
        above:=by show (s₂.heap.push ob).objs.size <= s₂.heap.objs.size + 1; rw [sz]; exact Nat.le_refl _
        inj:=fun x y c h1 h2=>I.ok.inj x y c (hcl1 x c h1) (hcl1 y c h2)
        has:=has
        cab:=fun x c z=>by cases z
        hd:=I.ok.hd,frames:=I.ok.frames,stk:=.inl rfl
        exf:=fun b hb=>?exf
        bs:=fun b o e=>⟨old b o (I.bk b o e),(I.bs b o e).2⟩
        bsz:=by show X.base.objs.size <= (s₂.heap.push ob).objs.size; rw [sz]; exact Nat.le_succ_of_le (Nat.le_trans I.ok.bsz I.sz)
        noex:=fun b o e hb=>?noex
        exfs:=fun b hb=>?exfs
        funs:=?funs
        frf:=I.stkFree }
      os:=rfl,bare:=I.bare,base:=Un.kept fun b u e=>hk b u e
      loc:=⟨m,hns,?loc⟩
      cell:=fun x c e=>?cell
      free:=I.hok.fresh (Nat.le_succ _)
      freeC:=fun x c e=>I.freeC x c (hcl1 x c e)
      pin:=fun p hp=>?pin
      hok:=I.hok.kept old2
      len:=?len }
  case exf =>
    rcases List.mem_cons.mp hb with rfl | hb
    · exact ⟨Nat.ne_of_lt (Nat.lt_succ_self _),fun x c e=>Nat.ne_of_lt (cells x c e)⟩
    · exact ⟨Nat.ne_of_lt (Nat.lt_succ_of_lt (hfp b hb)),fun x c e=>(f2 b hb).2.2.2.2.1 x c (hcl1 x c e)⟩
  case noex =>
    have hl:b < X.s₀.heap.objs.size:=Nat.lt_of_lt_of_le (Heap.lt_size e) I.ok.bsz
    rcases List.mem_cons.mp hb with rfl | hb
    · exact absurd (Nat.lt_of_lt_of_le hl I.sz) (Nat.lt_irrefl _)
    · rcases (f2 b hb).2.2.2.1 with z | z
      · exact I.ok.noex b o e z
      · exact absurd (Nat.lt_of_lt_of_le hl z) (Nat.lt_irrefl _)
  case exfs =>
    intro hs
    rcases List.mem_cons.mp hb with rfl | hb
    · exact absurd (frsz _ hs) (Nat.lt_irrefl _)
    · rcases List.mem_cons.mp (I.stkSub b hs) with z | z
      · exact (f2 b hb).2.1 z
      · exact (f2 b hb).2.2.1 z
  case funs=>exact Heap.FunFrames.of_keeps (fun b o e _=>⟨o,old b o e,rfl⟩) I.stack
  case loc =>
    intro j y v hj hv hvis
    obtain ⟨mX,_,lX⟩:=I.loc
    unfold capt at hv
    rw [List.getElem?_map] at hv
    cases hs:sub[j]? with
    | none=>rw [hs] at hv; cases hv
    | some o =>
      rw [hs] at hv
      cases o with
      | none=>cases hv
      | some i =>
        obtain ⟨hN,hc,hf⟩:=S.cap j y i hj hs
        have hv':σ[i]? = some (some v):=by
          have z:(match σ[i]? with | some v=>v | none=>none) = some v:=Option.some.inj hv
          cases q:σ[i]? with
          | none=>rw [q] at z; cases z
          | some w=>rw [q] at z; rw [show w = some v from z]
        obtain ⟨u,ru,hl⟩:=lX i y v hN hv' (.inr (.inl hc))
        refine ⟨u,ru,?_⟩
        have kc:(relabel scope X.env).names.lookup y = some .cell:=x9 I.ok.kind hc hf
        rcases hl with ⟨z,_⟩ | ⟨_,c,e,ic⟩
        · have z':X.env.scope.names.lookup y = some .local :=z
          rw [hc] at z'; cases z'
        · obtain ⟨c',e'⟩:=hcl2 _ (PySem.mem_of_lookup hf) rfl
          have:=hcl1 _ _ e'
          rw [e] at this; cases this
          refine .inr ⟨.inl kc,c,e',?_⟩
          obtain ⟨oc,h1,h2⟩:=ic
          exact ⟨oc,old2 _ _ h1,h2⟩
  case cell =>
    obtain ⟨v,oc,h1,h2⟩:=I.cell x c (hcl1 x c e)
    exact ⟨v,oc,old2 _ _ h1,h2⟩
  case pin =>
    obtain ⟨p1,p2,p3,p4,p5⟩:=I.pin p hp
    refine ⟨old2 _ _ p1,p2,Nat.ne_of_lt (Nat.lt_succ_of_lt (Heap.lt_size p1)),fun hs=>?_,p5⟩
    rcases List.mem_cons.mp (I.stkSub _ hs) with z | z
    · exact p3 z
    · exact p4 z
  case len =>
    show (capt sub σ).length = N'.length
    unfold capt
    rw [List.length_map]; exact S.len
theorem XE {C D:Addr} {s₀:Shared} {s':Shared} {σ':L2.St} {H':Hp} {ys:List V} {us:List Value} {k:Nat} {oC:Obj} (I:Inv X pins σ H2 s₂)
    (hs₀:∀ b o,s₂.heap.get? b = some o -> s₀.heap.get? b = some o) (hos:s₀.os = s₂.os) (hD:s₂.heap.objs.size <= D) (hC:s₂.heap.objs.size <= C) (hDC:D ≠ C) (f2:∀ b ∈ fp,FpOk X pins H2 b)
    (I':Inv (cxC X N' scope cl C D fp s₀ H2) pins σ' H' s') (hn:H' D = none) (hy:s'.heap.get? D = some { cls:=.type "list",data:=.seq us.toArray k }) (rv:Vals ys us) (hz:ys.length <= sizeLine)
    (ho:s'.heap.get? C = some oC) (hd:∀ v,oC.data ≠ .cell v):Inv X (pins ++ [(C,oC)]) σ (upd H' D (.lst ys)) s' /\ FpOk X pins (upd H' D (.lst ys)) C:=by
  have neD:∀ b o,s₂.heap.get? b = some o -> b ≠ D:=fun b o e=>Nat.ne_of_lt (Nat.lt_of_lt_of_le (Heap.lt_size e) hD)
  have nm:∀ b o,s₂.heap.get? b = some o -> b ∉ fp -> b ∉ D :: fp:=fun b o e h z=>(List.mem_cons.mp z).elim (neD b o e) h
  have U:=I'.base
  have HC:upd H' D (.lst ys) C = none:=by rw [zo (Ne.symm hDC)]; exact I'.free
  have fpc:FpOk X pins (upd H' D (.lst ys)) C:=I.fpOk hC HC
  have un:Un (frs X.stack) fp H2 (upd H' D (.lst ys)) s₂.heap s'.heap :=
    { keep:=fun b o e n h1 h2=>U.keep b o (hs₀ b o e) n h1 (nm b o e h2)
      slot:=fun b o e n h1 h2=>U.slot b o (hs₀ b o e) n h1 (nm b o e h2)
      free:=fun b o e n h2=>by rw [zo (neD b o e)]; exact U.free b o (hs₀ b o e) n (nm b o e h2)
      there:=fun b o e h2=>U.there b o (hs₀ b o e) (nm b o e h2)
      tups:=fun b xs e=>by have z:=U.tups b xs e; rw [zo (zv z hn)]; exact z
      frzs:=fun b o u e=>by have z:=U.frzs b o u e; rw [zo (zv z hn)]; exact z
      tbls:=fun b ps e=>by obtain ⟨more,z⟩:=U.tbls b ps e; exact ⟨more,by rw [zo (zv z hn)]; exact z⟩ }
  have hok:HOk X.prog X.w (upd H' D (.lst ys)) s'.heap:=HOk.track I'.hok hn ⟨hz,us,k,rv,hy⟩
  have IX:Inv X pins σ (upd H' D (.lst ys)) s':=I.call' (I'.os.trans hos) un hok I'.bare fun b hb=>⟨(f2 b hb).2.2.2.1,(f2 b hb).2.1,(f2 b hb).2.2.2.2.1,(f2 b hb).2.2.2.2.2⟩
  refine ⟨IX.pins_of fun p hp=>?_,fpc⟩
  rcases List.mem_append.mp hp with hp | hp
  · exact IX.pin p (List.mem_append_right _ hp)
  · rw [List.mem_singleton.mp hp]
    exact ⟨ho,HC,fpc.2.1,fpc.2.2.1,hd⟩
end
section
variable {X:Cx} {scope:Scope} {N':List Str} {sub:List (Option Nat)} {x:Str} {px pos:Pos} {elt iter:Expr} {ifs:List Expr} {wi:TI} {g:TG} {tt:TT} {te:TE}
theorem CSc.clos {pins:List (Addr × Obj)} {σ:L2.St} {H:Hp} {s:Shared} (S:CSc X scope N' sub) (I:Inv X pins σ H s):∃ cl,closureFor scope X.env = pure cl /\ (∀ x c,cl.lookup x = some c -> X.env.cells.lookup x = some c) /\ ∀ y ∈ scope.names,y.2 = .free -> ∃ c,cl.lookup y.1 = some c :=
 tw fun y hy hf=>I.ok.has y.1 (.inl (S.free y hy hf))
end
structure Blt (mg:Str -> Option Value):Prop where
 abs:mg "abs" = none
 len:mg "len" = none
 max:mg "max" = none
 min:mg "min" = none
 divmod:mg "divmod" = none
 repr:mg "repr" = none
 isinstance:mg "isinstance" = none
 all:mg "all" = none
 range:mg "range" = none
 int:mg "int" = none
 bool:mg "bool" = none
 str:mg "str" = none
 tuple:mg "tuple" = none
 list:mg "list" = none
 dict:mg "dict" = none
def sp1 (b:V -> Hp -> VK -> Prop):Sp:=fun vs H Q _=>∃ x,vs = [x] /\ b x H Q
def sp2 (b:V -> V -> Hp -> VK -> Prop):Sp:=fun vs H Q _=>∃ x y,vs = [x,y] /\ b x y H Q
def sp3 (b:V -> V -> V -> Hp -> VK -> Prop):Sp:=fun vs H Q _=>∃ x y z,vs = [x,y,z] /\ b x y z H Q
theorem vz {b:V -> Hp -> VK -> Prop} {p:Str}:∀ vs H Q E,sp1 b vs H Q E -> vs.length = [p].length:=fun vs H Q E h=>by
 obtain ⟨x,rfl,_⟩:=h; rfl
theorem zW {b:V -> V -> Hp -> VK -> Prop} {p q:Str}:∀ vs H Q E,sp2 b vs H Q E -> vs.length = [p,q].length:=fun vs H Q E h=>by
 obtain ⟨x,y,rfl,_⟩:=h; rfl
theorem xI {b:V -> V -> V -> Hp -> VK -> Prop} {p q r:Str}:∀ vs H Q E,sp3 b vs H Q E -> vs.length = [p,q,r].length:=fun vs H Q E h=>by
 obtain ⟨x,y,z,rfl,_⟩:=h; rfl
def tD:V -> Bool
 | .int _=>true
 | _=>false
def endV:V -> Bool
 | .non=>true
 | .int _=>true
 | _=>false
def Kn (K:FG7) (H:Hp) (x:V):Prop:=∃ T,TyV K H x T
structure Deed where
 add:Int
 lo:Option Int
 hi:Option Int
 deriving DecidableEq
def ov:Option Int -> V
 | none=>.non
 | some i=>.int i
def Deed.vs (d:Deed):List V:=[.int d.add,ov d.lo,ov d.hi]
def Deed.Ok (d:Deed):Prop:=∀ l h,d.lo = some l -> d.hi = some h -> l < h \/ (l = h /\ d.add = 0)
def uo (lo:Option Int) (r:Int):Int:=match lo with
 | none=>r
 | some l=>if l > r then l else r
def se (hi:Option Int) (r:Int):Int:=match hi with
 | none=>r
 | some h=>if h < r then h else r
def Deed.mk' (d:Deed) (v:Int):Int:=se d.hi (uo d.lo (v + d.add))
def ordV:V -> V -> V -> Bool
 | .int a,.int l,.int h=>decide (l < h) || (decide (l = h) && decide (a = 0))
 | _,_,_=>true
def vA:List V -> Bool
 | [x,y,z]=>tD x && (endV y && (endV z && ordV x y z))
 | _=>false
theorem j5 {d:Deed} (h:d.Ok):vA d.vs = true:=by
 obtain ⟨a,lo,hi⟩:=d
 cases lo with
 | none=>cases hi <;> rfl
 | some l =>
  cases hi with
  | none=>rfl
  | some u =>
   have:=h l u rfl rfl
   show (decide (l < u) || (decide (l = u) && decide (a = 0))) = true
   rcases this with q | ⟨q,q2⟩
   ·simp [q]
   ·have q2':a = 0:=q2
    simp [q,q2']
theorem Z5 {x:V} (h:tD x = true):∃ i,x = .int i:=by
 cases x <;> first | exact ⟨_,rfl⟩ | cases h
theorem Wv {x:V} (h:endV x = true):∃ o,x = ov o:=by
 cases x <;> first | exact ⟨none,rfl⟩ | exact ⟨some _,rfl⟩ | cases h
theorem len3 {xs:List V} (h:xs.length = 3):∃ x y z,xs = [x,y,z]:=by
 match xs,h with
 | [x,y,z],_=>exact ⟨x,y,z,rfl⟩
theorem qr {xs:List V} (h:xs.length ≠ 3):vA xs = false:=by
 match xs,h with
 | [],_=>rfl
 | [_],_=>rfl
 | [_,_],_=>rfl
 | [_,_,_],h=>exact absurd rfl h
 | _ :: _ :: _ :: _ :: _,_=>rfl
def wX (K:FG7) (H:Hp) (x:V) (d:Deed):Prop:=∃ a,x = .ref a /\ SqT K H a d.vs
theorem Grow.deed {m:List Addr} {H H':Hp} (g:Grow m H H') {K:FG7} {x:V} {d:Deed} (h:wX K H x d):wX K H' x d:=by
 obtain ⟨a,e,h⟩:=h
 exact ⟨a,e,g.sqT h⟩
theorem up {K:FG7} {H:Hp} {i:Int}:Kn K H (.int i):=⟨"int",rfl⟩
theorem VJ {K:FG7} {H:Hp}:Kn K H .non:=⟨"NoneType",rfl⟩
theorem VL {K:FG7} {H:Hp} (o:Option Int):Kn K H (ov o):=by cases o; exact VJ; exact up
def yv (K:FG7):Sp:=sp1 fun x H Q=>Kn K H x /\ Q (.bl (tD x)) H
def sZ (K:FG7):Sp:=sp1 fun x H Q=>Kn K H x /\ Q (.bl (endV x)) H
def tE (K:FG7):Sp:=sp1 fun x H Q=>(∃ T,T ≠ "tuple" /\ TyV K H x T /\ Q (.bl false) H) \/ ∃ a xs,x = .ref a /\ SqT K H a xs /\ (∀ y ∈ xs,Kn K H y) /\ Q (.bl (vA xs)) H
def vB (K:FG7):Sp:=sp2 fun x y H Q=>∃ d v,wX K H x d /\ y = .int v /\ Q (.int (d.mk' v)) H
def Pot (H:Hp) (a:Addr):Prop:=∃ p0 p1:Int,H a = some (.lst [.int p0,.int p1]) /\ 0 <= p0
def Sm (n:Int):Prop:=-(10 ^ 30) < n /\ n < 10 ^ 30
def Deed.Sm (d:Deed):Prop:=L3.Sm d.add /\ (∀ l,d.lo = some l -> L3.Sm l) /\ ∀ h,d.hi = some h -> L3.Sm h
def Ww (K:FG7):Sp:=sp2 fun x y H Q=>∃ a ns k,x = .ref a /\ y = .int k /\ Scr K H a ns /\ 0 <= k /\ k < 1000 /\ ∀ p H',H p = none -> Grow [] H H' -> Pot H' p -> Q (.ref p) H'
def xJ (_:FG7):Sp:=sp2 fun x y H Q=>∃ a m,x = .ref a /\ y = .int m /\ Pot H a /\ 0 < m /\ m < 2 ^ 200 /\ ∀ n H',0 <= n -> n < m -> Grow [a] H H' -> Pot H' a -> Q (.int n) H'
def jv (K:FG7):Sp:=sp1 fun x H Q=>∃ a ns,x = .ref a /\ Scr K H a ns /\ ns.length <= 63 /\ ∀ H',Q (.bl true) H'
theorem szl {n:Nat} (h:Nat.ble n 1000 = true):n <= sizeLine:=Nat.le_of_lt (um (Nat.le_of_ble_eq_true h))
theorem Grow.shrink {H H':Hp} {l:Addr} (h:H l = none) (g:Grow [l] H H'):Grow [] H H' :=
 ⟨fun b o _ q=>g.keep b o (fun z=>by rw [List.mem_singleton.mp z] at q; rw [h] at q; cases q) q,g.tup,g.frz⟩
theorem Grow.wk {m:List Addr} {H H':Hp} (g:Grow [] H H'):Grow m H H':=g.mono (by simp)
theorem Pot.grow {H H':Hp} {a:Addr} (p:Pot H a) (g:Grow [] H H'):Pot H' a:=by
 obtain ⟨u0,u1,hu,hn⟩:=p
 exact ⟨u0,u1,g.keep _ _ (by simp) hu,hn⟩
theorem Pot.new {H:Hp} {a l:Addr} (p:Pot H a) (hl:H l = none) (o:HO):Pot (upd H l o) a:=p.grow (Grow.new hl o)
theorem Z6 {i j:Int} (h2:-(2 ^ 60) < j /\ j < 2 ^ 60):IntMulOk i j:=PySem.IntMulOk.of_right (Nat.le_trans ((PySem.intBits_le_iff (m:=60)).mpr (by obtain ⟨a,b⟩:=h2; omega)) (by decide))
def eqVs:List V -> List V -> Bool
 | [],[]=>true
 | x :: xs,y :: ys=>eqV x y && eqVs xs ys
 | _,_=>false
theorem jw:∀ {xs ys:List V},eqVs xs ys = true -> xs.length = ys.length
 | [],[],_=>rfl
 | x :: xs,y :: ys,h=>by
  have h':(eqV x y && eqVs xs ys) = true:=h
  rw [Bool.and_eq_true] at h'
  simp [jw h'.2]
 | [],_ :: _,h=>by cases h
 | _ :: _,[],h=>by cases h
theorem jx:∀ {xs ys:List V},eqVs xs ys = true ↔ xs.length = ys.length /\ ∀ (j:Nat) (x y:V),xs[j]? = some x -> ys[j]? = some y -> eqV x y = true
 | [],[]=>by simp [eqVs]
 | x :: xs,y :: ys=>by
  show (eqV x y && eqVs xs ys) = true ↔ _
  rw [Bool.and_eq_true,jx]
  constructor
  ·rintro ⟨h1,h2,h3⟩
   refine ⟨by simp [h2],fun j a b ha hb=>?_⟩
   cases j with
   | zero=>simp at ha hb; subst ha hb; exact h1
   | succ j=>exact h3 j a b (by simpa using ha) (by simpa using hb)
  ·rintro ⟨h1,h2⟩
   exact ⟨h2 0 x y rfl rfl,by simpa using h1,fun j a b ha hb=>h2 (j + 1) a b (by simpa using ha) (by simpa using hb)⟩
 | [],_ :: _=>by simp [eqVs]
 | _ :: _,[]=>by simp [eqVs]
theorem j6 {xs ys:List V}:((List.range (min xs.length ys.length)).all (fun j=>match xs[j]?,ys[j]? with | some x,some y=>eqV x y | _,_=>true) && xs.length == ys.length) = eqVs xs ys:=by
 rw [Bool.eq_iff_iff,Bool.and_eq_true,List.all_eq_true,beq_iff_eq,jx]
 constructor
 ·rintro ⟨h1,h2⟩
  refine ⟨h2,fun j x y hx hy=>?_⟩
  have hj:j < xs.length:=(List.getElem?_eq_some_iff.mp hx).1
  have:=h1 j (List.mem_range.mpr (by rw [← h2]; simpa using hj))
  rw [hx,hy] at this
  exact this
 ·rintro ⟨h1,h2⟩
  refine ⟨fun j hj=>?_,h1⟩
  have hj':=List.mem_range.mp hj
  have a:j < xs.length:=by omega
  have b:j < ys.length:=by omega
  rw [List.getElem?_eq_getElem a,List.getElem?_eq_getElem b]
  exact h2 j _ _ (List.getElem?_eq_getElem a) (List.getElem?_eq_getElem b)
theorem Z7 {xs:List V} {us:List Value} (r:Vals xs us) (j:Nat) (h:j < us.length):∃ x,xs[j]? = some x /\ RelV x us[j]:=by
 have hl:=r.length
 have hx:xs[j]? = some xs[j]:=List.getElem?_eq_getElem (by omega)
 obtain ⟨u,e,q⟩:=r.get hx
 rw [List.getElem?_eq_getElem h] at e
 cases e
 exact ⟨_,hx,q⟩
theorem VM {A:Around} {s:Shared} {xs ys:List V} {us ws:List Value} (r1:Vals xs us) (r2:Vals ys ws) (f1:xs.all wF = true) (f2:ys.all wF = true) :
  ∀ j (h1:j < us.toArray.size) (h2:j < ws.toArray.size),SeqAt.EqAt A s us.toArray[j] ws.toArray[j] ((fun j=>match xs[j]?,ys[j]? with | some x,some y=>eqV x y | _,_=>true) j):=by
 intro j h1 h2
 obtain ⟨x,ex,qx⟩:=Z7 r1 j (by simpa using h1)
 obtain ⟨y,ey,qy⟩:=Z7 r2 j (by simpa using h2)
 have fx:wF x = true:=List.all_eq_true.mp f1 x (List.mem_of_getElem? ex)
 have fy:wF y = true:=List.all_eq_true.mp f2 y (List.mem_of_getElem? ey)
 show SeqAt.EqAt A s _ _ (match xs[j]?,ys[j]? with | some x,some y=>eqV x y | _,_=>true)
 rw [ex,ey]
 simpa using Ws qx qy fx fy
section
variable {X:Cx}
theorem yx {h:Heap} {a:Addr} {its:Array Value} (t:IsTup h a its):h.IsTuple a its:=t
end
section
variable {X:Cx} {pos:Pos}
theorem wY:∀ {bs:List Bool} {us:List Value},Vals (bs.map V.bl) us -> LSm.BoolsAre us bs
 | [],_,.nil=>.nil
 | b :: bs,_,.cons r t=>by
  cases r
  exact .cons b (wY t)
theorem xz (hcalm:X.calm = true):yY X (.builtin "all") (fun xs H Q=>∃ (l:Addr) (bs:List Bool),xs = [.ref l] /\ SqL X.K H l (bs.map V.bl) /\ Q (.bl (bs.all id)) H):=by
 intro pins s σ H xs us Q I r h
 obtain ⟨l,bs,rfl,hl,q⟩:=h
 obtain ⟨u,rfl,rx⟩:=xY r
 cases (show u = Value.ref l from rx)
 obtain ⟨vs,rv,pl,_⟩:=I.list hl
 have hl':s.heap.IsList l vs.toArray:=pl.isList
 have hb:LSm.BoolsAre vs bs:=wY rv
 have hlt:l < s.heap.objs.size:=by obtain ⟨_,e,_⟩:=hl'; exact Heap.lt_size e
 refine call_all_walk (wpAny_pyIter_list hl' ?_)
 refine ⟨s.heap.objs.size,[s.heap.objs.size,l],[s.heap.objs.size],vs.toArray.size,_,_,fun i=>(bs[i]?).getD true,rfl,Walks.list (A:=X.A.in1) (I.ok.hd hcalm) _ l (Nat.ne_of_lt hlt) vs.toArray,
  ⟨⟨_,Heap.get?_push_size _ rfl,rfl,rfl⟩,hl'.push _⟩,fun i v s' Q' E' hP hQ=>?_,fun h' tk hk=>?_⟩
 ·obtain ⟨b,e,rfl⟩:=hb.get i v (by simpa using hP)
  simp only [e,Option.getD_some] at hQ
  exact wpAny_truthy_bool hQ
 ·have e:((List.range vs.toArray.size).all fun i=>(bs[i]?).getD true) = bs.all id:=by
   have hlen:bs.length = vs.length:=by rw [← rv.length,List.length_map]
   rw [List.size_toArray,← hlen,Bool.eq_iff_iff,List.all_eq_true,List.all_eq_true]
   constructor
   ·intro z b hb'
    obtain ⟨i,hi,rfl⟩:=List.getElem_of_mem hb'
    have:=z i (List.mem_range.mpr hi)
    simpa [List.getElem?_eq_getElem hi] using this
   ·intro z i hi
    have hi':=List.mem_range.mp hi
    simpa [List.getElem?_eq_getElem hi'] using z _ (List.getElem_mem hi')
  rw [e]
  exact ⟨.bl (bs.all id),H,I.kept (t':=tk) (h':=h') (LSm.kept_iter hk),rfl,q⟩
end
theorem CSc.of {X:Cx} {scope:Scope} {N':List Str} {sub:List (Option Nat)} (sc:Scope) (NN:List Str) (e:X.env.scope = sc) (en:X.N = NN)
  (h:((scope.names.all fun y=>(y.2 != .free || sc.names.lookup y.1 == some .cell) && (y.2 != .cell) && (y.2 != .local || scope.names.lookup y.1 == some .local)) && (sub.length == N'.length) &&
   ((N'.zip sub).all fun p=>match p.2 with | none=>true | some i=>NN[i]? == some p.1 && sc.names.lookup p.1 == some .cell && scope.names.lookup p.1 == some .free)) = true)
  (hk:scope.kind = .function):CSc X scope N' sub:=by
 rw [Bool.and_eq_true,Bool.and_eq_true] at h
 obtain ⟨⟨h1,h2⟩,h3⟩:=h
 have k1:=fun y hy=>List.all_eq_true.mp h1 y hy
 refine ⟨fun y hy hf=>?_,fun y hy hc=>?_,hk,fun y hy hl=>?_,by simpa using h2,fun j y i hj hs=>?_⟩
 ·have:=k1 y hy
  simp only [hf,Bool.and_eq_true] at this
  have z:=this.1.1
  show X.env.scope.names.lookup y.1 = _
  rw [e]; simpa using z
 ·have:=k1 y hy
  simp only [hc,Bool.and_eq_true] at this
  simp at this
 ·have:=k1 y hy
  simp only [hl,Bool.and_eq_true] at this
  simpa using this.2
 ·have hm:(y,some i) ∈ N'.zip sub:=by
   have:(N'.zip sub)[j]? = some (y,some i):=by
    rw [List.getElem?_zip_eq_some]; exact ⟨hj,hs⟩
   exact List.mem_of_getElem? this
  have:=List.all_eq_true.mp h3 _ hm
  simp only [Bool.and_eq_true,beq_iff_eq] at this
  rw [e,en]
  exact ⟨this.1.1,this.1.2,this.2⟩
def Us (a:Int) (lo hi:Option Int):Deed:=if lo ≠ none /\ lo = hi then ⟨0,lo,hi⟩ else ⟨a,lo,hi⟩
def thrO (e:Deed) (o:Option Int) (d:Option Int):Option Int:=match o with
 | none=>d
 | some l=>some (e.mk' l)
def Ut (d e:Deed):Deed:=Us (d.add + e.add) (thrO e d.lo e.lo) (thrO e d.hi e.hi)
def Deed.Bd (B:Int) (d:Deed):Prop:=(-B <= d.add /\ d.add <= B) /\ (∀ l,d.lo = some l -> -B <= l /\ l <= B) /\ ∀ h,d.hi = some h -> -B <= h /\ h <= B
theorem Uu (a v:Int):(Deed.mk a none none).mk' v = v + a:=rfl
theorem Uv (a l v:Int):(Deed.mk a (some l) none).mk' v = if l > v + a then l else v + a:=rfl
theorem Uw (a h v:Int):(Deed.mk a none (some h)).mk' v = if h < v + a then h else v + a:=rfl
theorem Ux (a l h v:Int):(Deed.mk a (some l) (some h)).mk' v = if h < (if l > v + a then l else v + a) then h else (if l > v + a then l else v + a):=rfl
theorem Uy {e:Deed} {B C:Int} (b:e.Bd B) (hB:0 <= B) {v:Int} (h1:-C <= v) (h2:v <= C) (hC:0 <= C):-(B + C) <= e.mk' v /\ e.mk' v <= B + C:=by
 obtain ⟨a,lo,hi⟩:=e
 obtain ⟨⟨b1,b2⟩,b3,b4⟩:=b
 have b1':-B <= a:=b1
 have b2':a <= B:=b2
 cases lo with
 | none =>
  cases hi with
  | none=>rw [Uu]; omega
  | some h=>have:=b4 h rfl; rw [Uw]; split <;> omega
 | some l =>
  have:=b3 l rfl
  cases hi with
  | none=>rw [Uv]; split <;> omega
  | some h=>have:=b4 h rfl; rw [Ux]; (repeat' split) <;> omega
theorem yZ {c:Bool} {A B:Prop} (e:c = false) (h:B):if c = true then A else B:=by rw [e]; exact iteF h
theorem yX {c:Bool} {A B:Prop} (e:c = true) (h:A):if c = true then A else B:=by rw [e]; exact iteT h
theorem sf {K:FG7} {a:Addr} {xs:List V} {g:TG} {tt:TT} {te:TE} {Q:VK} {σ:L2.St} {H:Hp} (Pv:Nat -> List V -> L2.St -> Hp -> Prop) (h0:Pv 0 [] σ H) (hl:∀ i ys σ H,i <= xs.length -> Pv i ys σ H -> SqT K H a xs)
  (hs:∀ i x ys σ H,xs[i]? = some x -> Pv i ys σ H -> g x σ H fun σ2 H3=>tt σ2 H3 fun b H4=>if b = true then te σ2 H4 fun y H5=>ys.length < sizeLine /\ Pv (i + 1) (ys ++ [y]) σ2 H5 else Pv (i + 1) ys σ2 H4)
  (hd:∀ ys σ H,Pv xs.length ys σ H -> ∀ l,H l = none -> Q (.ref l) (upd H l (.lst ys))) :
  vY (Itt K a) σ H g tt te Q:=by
 refine ⟨fun i m ys σ H=>m = xs.length - i /\ i <= xs.length /\ Pv i ys σ H,⟨xs.length,by simp,Nat.zero_le _,h0⟩,?_⟩
 rintro i m ys σ H ⟨rfl,hi,p⟩
 have q:=hl i ys σ H hi p
 by_cases hlt:i < xs.length
 ·refine .inr ⟨⟨xs,xs[i],q,by simp [hlt]⟩,Pv (i + 1),fun zs σ' H' p'=>⟨xs.length - (i + 1),by omega,rfl,hlt,p'⟩,fun x H' y=>?_⟩
  obtain ⟨e,y⟩:=y
  subst e
  exact hs i x ys σ _ (y xs q) p
 ·have e:i = xs.length:=by omega
  subst e
  exact .inl ⟨⟨xs,q,Nat.le_refl _⟩,hd ys σ H p⟩
theorem Z8 {K:FG7} {a:Addr} {xs:List V} {g:TG} {tt:TT} {te:TE} {Q:VK} {σ:L2.St} {H:Hp} (Pv:Nat -> List V -> L2.St -> Hp -> Prop) (h0:Pv 0 [] σ H) (hl:∀ i ys σ H,i <= xs.length -> Pv i ys σ H -> SqL K H a xs)
  (hs:∀ i x ys σ H,xs[i]? = some x -> Pv i ys σ H -> g x σ H fun σ2 H3=>tt σ2 H3 fun b H4=>if b = true then te σ2 H4 fun y H5=>ys.length < sizeLine /\ Pv (i + 1) (ys ++ [y]) σ2 H5 else Pv (i + 1) ys σ2 H4)
  (hd:∀ ys σ H,Pv xs.length ys σ H -> ∀ l,H l = none -> Q (.ref l) (upd H l (.lst ys))) :
  vY (Itl K a) σ H g tt te Q:=by
 refine ⟨fun i m ys σ H=>m = xs.length - i /\ i <= xs.length /\ Pv i ys σ H,⟨xs.length,by simp,Nat.zero_le _,h0⟩,?_⟩
 rintro i m ys σ H ⟨rfl,hi,p⟩
 have q:=hl i ys σ H hi p
 by_cases hlt:i < xs.length
 ·refine .inr ⟨⟨xs,xs[i],q,by simp [hlt]⟩,Pv (i + 1),fun zs σ' H' p'=>⟨xs.length - (i + 1),by omega,rfl,hlt,p'⟩,fun x H' y=>?_⟩
  obtain ⟨e,y⟩:=y
  subst e
  exact hs i x ys σ _ (y xs q) p
 ·have e:i = xs.length:=by omega
  subst e
  exact .inl ⟨⟨xs,q,Nat.le_refl _⟩,hd ys σ H p⟩
theorem yN {X:Cx} {K:FG7} (h:X.K = K):IxR X (rIxT K):=by subst h; exact z7
theorem jy {X:Cx} {K:FG7} (h:X.K = K):IxR X (rIxL K):=by subst h; exact zQ
theorem Deed.Bd.mono {d:Deed} {B C:Int} (b:d.Bd B) (h:B <= C):d.Bd C:=by
 obtain ⟨⟨b1,b2⟩,b3,b4⟩:=b
 exact ⟨⟨by omega,by omega⟩,fun l e=>by have:=b3 l e; omega,fun l e=>by have:=b4 l e; omega⟩
section
variable {X:Cx}
def rEqL (K:FG7) (neg:Bool):R2:=fun x y H Q=>∃ a b xs ys,x = .ref a /\ y = .ref b /\ SqL K H a xs /\ SqL K H b ys /\ xs.all wF = true /\ ys.all wF = true /\ Q (.bl (if neg then !eqVs xs ys else eqVs xs ys)) H
theorem Z9 {k:Nat} (hr:Room k X.A):OpR X (compareOp .Eq) (rEqL X.K false):=by
 intro pins s σ H x y v u Q I rx ry h
 obtain ⟨a,b,xs,ys,rfl,rfl,ha,hb,f1,f2,q⟩:=h
 cases rx; cases ry
 obtain ⟨us,r1,t1,_⟩:=I.list ha
 obtain ⟨ws,r2,t2,_⟩:=I.list hb
 by_cases hl:us.length = ws.length
 ·refine SeqAt.eq_listAt t1.isList t2.isList (by simpa using hl) hr.units0 (VM r1 r2 f1 f2) ?_
  have e:=j6 (xs:=xs) (ys:=ys)
  have e2:(xs.length == ys.length) = true:=by rw [beq_iff_eq,r1.length,r2.length]; exact hl
  rw [e2,Bool.and_true,show min xs.length ys.length = xs.length by rw [r1.length,r2.length]; omega] at e
  rw [List.size_toArray,← r1.length,e]
  exact ⟨.bl _,H,I,rfl,q⟩
 ·refine SeqAt.eq_list_lengthsAt t1.isList t2.isList (by simpa using hl) hr.units0 ?_
  have e:eqVs xs ys = false:=by
   cases z:eqVs xs ys with
   | false=>rfl
   | true=>exact absurd (by rw [← r1.length,← r2.length]; exact jw z) hl
  rw [e] at q
  exact ⟨.bl _,H,I,rfl,q⟩
end
theorem WZ {i j:Int}:eqV (.int i) (.int j) = decide (i = j):=by rw [Bool.eq_iff_iff]; simp [eqV]
theorem wZ:∀ {xs ys:List Int},eqVs (xs.map V.int) (ys.map V.int) = decide (xs = ys)
 | [],[]=>rfl
 | x :: xs,y :: ys=>by
  show (eqV (.int x) (.int y) && eqVs (xs.map V.int) (ys.map V.int)) = _
  rw [WZ,wZ,Bool.eq_iff_iff]
  simp
 | [],_ :: _=>by simp [eqVs]
 | _ :: _,[]=>by simp [eqVs]
theorem Grow.sqL {H H':Hp} (g:Grow [] H H') {K:FG7} {a:Addr} {xs:List V} (h:SqL K H a xs):SqL K H' a xs:=by
 rcases h with (h | ⟨o,h⟩) | h
 ·exact .inl (.inl (g.keep _ _ (by simp) h))
 ·exact .inl (.inr ⟨o,g.frz _ _ _ h⟩)
 ·exact .inr h
section
variable {K:FG7} {a:Addr} {xs:List V} {n:Nat} {tt:TT} {te:TE} {Q:VK} {σ:L2.St} {H:Hp}
theorem s8 {p:V -> Bool} {f:V -> V} {i:Nat} {x:V} (hx:xs[i]? = some x):((xs.take (i + 1)).filter p).map f = ((xs.take i).filter p).map f ++ (if p x = true then [f x] else []):=by
 rw [List.take_add_one,hx,List.filter_append,List.map_append]
 congr 1
 show ((([x]:List V)).filter p).map f = _
 by_cases c:p x = true
 ·rw [if_pos c,List.filter_cons_of_pos c]; rfl
 ·rw [if_neg c,List.filter_cons_of_neg c]; rfl
theorem XF {p:V -> Bool} {f:V -> V} {i:Nat} (h:xs.length <= 1000):(((xs.take i).filter p).map f).length < sizeLine:=by
 rw [List.length_map]
 refine um ?_
 have:=List.length_filter_le p (xs.take i)
 have:=List.length_take_le i xs
 have:(xs.take i).length <= xs.length:=by rw [List.length_take]; omega
 omega
theorem XG {p:V -> Bool} {f:V -> V}:((xs.take xs.length).filter p).map f = (xs.filter p).map f:=by rw [List.take_length]
theorem tF (p:V -> Bool) (f:V -> V) (hl:SqT K H a xs) (hlen:xs.length <= 1000)
  (ht:∀ x H' (R:Bool -> Hp -> Prop),x ∈ xs -> Grow [] H H' -> (∀ H2,Grow [] H' H2 -> R (p x) H2) -> tt (σ.set n (some x)) H' R)
  (hs:∀ x H' (R:VK),x ∈ xs -> p x = true -> Grow [] H H' -> (∀ H2,Grow [] H' H2 -> R (f x) H2) -> te (σ.set n (some x)) H' R)
  (hd:∀ H' l,Grow [] H H' -> H' l = none -> Q (.ref l) (upd H' l (.lst ((xs.filter p).map f)))):vY (Itt K a) σ H (uf n) tt te Q:=by
 refine sf (xs:=xs) (fun i ys σ' H'=>Grow [] H H' /\ (σ' = σ \/ ∃ e,σ' = σ.set n e) /\ ys = ((xs.take i).filter p).map f) ⟨Grow.refl _ _,.inl rfl,rfl⟩ ?_ ?_ ?_
 ·rintro i ys σ' H' _ ⟨g,_⟩
  exact g.sqT hl
 ·rintro i x ys σ' H' hx ⟨g,hσ,rfl⟩
  have e:σ'.set n (some x) = σ.set n (some x):=by
   rcases hσ with rfl | ⟨e,rfl⟩
   ·rfl
   ·rw [List.set_set]
  show tt (σ'.set n (some x)) H' _
  rw [e]
  refine ht x H' _ (List.mem_of_getElem? hx) g fun H2 g2=>?_
  by_cases c:p x = true
  ·rw [if_pos c]
   refine hs x H2 _ (List.mem_of_getElem? hx) c (g.trans g2) fun H3 g3=>⟨XF hlen,(g.trans g2).trans g3,.inr ⟨_,rfl⟩,?_⟩
   rw [s8 hx,if_pos c]
  ·rw [if_neg c]
   refine ⟨g.trans g2,.inr ⟨_,rfl⟩,?_⟩
   rw [s8 hx,if_neg c,List.append_nil]
 ·rintro ys σ' H' ⟨g,_,rfl⟩ l hl
  rw [XG]
  exact hd H' l g hl
theorem XH {p:V -> Bool} (h:∀ x,p x = true):xs.filter p = xs:=List.filter_eq_self.mpr fun x _=>h x
theorem Ya (f:V -> V) (hl:SqT K H a xs) (hlen:xs.length <= 1000)
  (hs:∀ x H' (R:VK),x ∈ xs -> Grow [] H H' -> (∀ H2,Grow [] H' H2 -> R (f x) H2) -> te (σ.set n (some x)) H' R)
  (hd:∀ H' l,Grow [] H H' -> H' l = none -> Q (.ref l) (upd H' l (.lst (xs.map f)))):vY (Itt K a) σ H (uf n) Z4 te Q :=
 tF (fun _=>true) f hl hlen (fun x H' R _ _ k=>k H' (Grow.refl _ _)) (fun x H' R hx _ g k=>hs x H' R hx g k) (fun H' l g hl=>by rw [XH fun _=>rfl]; exact hd H' l g hl)
end
theorem nd {d e:Deed} (h:d = e):(!decide (d = e)) = false:=by rw [decide_eq_true h]; rfl
mutual
inductive Dat (K:FG7) (H:Hp):V -> PyData -> Prop
 | non:Dat K H .non .none
 | bl (b:Bool):Dat K H (.bl b) (.bool b)
 | int (i:Int):Dat K H (.int i) (.int i)
 | tup {a:Addr} {xs:List V} {ds:List PyData}:SqT K H a xs -> DatAll K H xs ds -> Dat K H (.ref a) (.tuple ds)
 | lst {a:Addr} {xs:List V} {ds:List PyData}:SqL K H a xs -> DatAll K H xs ds -> Dat K H (.ref a) (.list ds)
inductive DatAll (K:FG7) (H:Hp):List V -> List PyData -> Prop
 | nil:DatAll K H [] []
 | cons {x:V} {xs:List V} {d:PyData} {ds:List PyData}:Dat K H x d -> DatAll K H xs ds -> DatAll K H (x :: xs) (d :: ds)
end
mutual
/-- a bound of the text's length -/
def wtD:PyData -> Nat
 | .list xs | .tuple xs=>wtAll xs + 3
 | .int _=>1921
 | .none | .bool _=>5
 | _=>20000000
def wtAll:List PyData -> Nat
 | []=>0
 | x :: xs=>wtD x + 2 + wtAll xs
end
def oD:Option Int -> PyData
 | none=>.none
 | some i=>.int i
theorem Yb {α:Type} (xs:List α):(xs.map (fun _=>true)).all id = true:=by rw [List.all_eq_true]; intro x hx; obtain ⟨_,_,rfl⟩:=List.mem_map.mp hx; rfl
theorem XI (gs:List Int):(gs.map V.int).map (fun _=>V.bl true) = (gs.map (fun _=>true)).map V.bl:=by rw [List.map_map,List.map_map]; rfl
section
variable {K:FG7} {a:Addr} {xs:List V} {lo:Int} {n k:Nat} {te:TE} {Q:VK} {σ:L2.St} {H:Hp}
theorem sg (Pv:Nat -> List V -> Hp -> Prop) (h0:Pv 0 [] H)
  (hs:∀ i ys H',i < n -> Pv i ys H' -> te (σ.set k (some (.int (lo + i)))) H' fun y H5=>ys.length < sizeLine /\ Pv (i + 1) (ys ++ [y]) H5)
  (hd:∀ ys H',Pv n ys H' -> ∀ l,H' l = none -> Q (.ref l) (upd H' l (.lst ys))):vY (Itr lo n) σ H (uf k) Z4 te Q:=by
 refine ⟨fun i m ys σ' H'=>m = n - i /\ i <= n /\ (σ' = σ \/ ∃ e,σ' = σ.set k e) /\ Pv i ys H',⟨n,by simp,Nat.zero_le _,.inl rfl,h0⟩,?_⟩
 rintro i m ys σ' H' ⟨rfl,hi,hσ,p⟩
 by_cases hlt:i < n
 ·refine .inr ⟨hlt,fun zs σ2 H2=>(σ2 = σ \/ ∃ e,σ2 = σ.set k e) /\ Pv (i + 1) zs H2,fun zs σ2 H2 p'=>⟨n - (i + 1),by omega,rfl,hlt,p'.1,p'.2⟩,fun x H2 y=>?_⟩
  obtain ⟨e,y⟩:=y
  subst e y
  have e:σ'.set k (some (V.int (lo + i))) = σ.set k (some (V.int (lo + i))):=by
   rcases hσ with rfl | ⟨e,rfl⟩
   ·rfl
   ·rw [List.set_set]
  show if true = true then te (σ'.set k (some (V.int (lo + i)))) H2 (fun y H5=>ys.length < sizeLine /\ ((σ'.set k (some (V.int (lo + i))) = σ \/ ∃ e,σ'.set k (some (V.int (lo + i))) = σ.set k e) /\ Pv (i + 1) (ys ++ [y]) H5)) else ((σ'.set k (some (V.int (lo + i))) = σ \/ ∃ e,σ'.set k (some (V.int (lo + i))) = σ.set k e) /\ Pv (i + 1) ys H2)
  rw [if_pos rfl,e]
  have e2:(fun (y:V) (H5:Hp)=>ys.length < sizeLine /\ ((σ.set k (some (V.int (lo + i))) = σ \/ ∃ e,σ.set k (some (V.int (lo + i))) = σ.set k e) /\ Pv (i + 1) (ys ++ [y]) H5)) = fun y H5=>ys.length < sizeLine /\ Pv (i + 1) (ys ++ [y]) H5:=by
   funext y H5
   exact propext ⟨fun z=>⟨z.1,z.2.2⟩,fun z=>⟨z.1,.inr ⟨_,rfl⟩,z.2⟩⟩
  rw [e2]
  exact hs i ys H2 hlt p
 ·have e:i = n:=by omega
  subst e
  exact .inl ⟨Nat.le_refl _,hd ys H' p⟩
theorem tG (Pv:Nat -> List V -> Hp -> Prop) (h0:Pv 0 [] H) (hl:∀ i ys H',Pv i ys H' -> SqL K H' a xs)
  (hs:∀ i x ys H',xs[i]? = some x -> Pv i ys H' -> te (σ.set k (some x)) H' fun y H5=>ys.length < sizeLine /\ Pv (i + 1) (ys ++ [y]) H5)
  (hd:∀ ys H',Pv xs.length ys H' -> ∀ l,H' l = none -> Q (.ref l) (upd H' l (.lst ys))):vY (Itl K a) σ H (uf k) Z4 te Q:=by
 refine Z8 (xs:=xs) (fun i ys σ' H'=>(σ' = σ \/ ∃ e,σ' = σ.set k e) /\ Pv i ys H') ⟨.inl rfl,h0⟩ (fun i ys σ' H' _ p=>hl i ys H' p.2) ?_ (fun ys σ' H' p l hl=>hd ys H' p.2 l hl)
 rintro i x ys σ' H' hx ⟨hσ,p⟩
 have e:σ'.set k (some x) = σ.set k (some x):=by
  rcases hσ with rfl | ⟨e,rfl⟩
  ·rfl
  ·rw [List.set_set]
 show if true = true then te (σ'.set k (some x)) H' (fun y H5=>ys.length < sizeLine /\ ((σ'.set k (some x) = σ \/ ∃ e,σ'.set k (some x) = σ.set k e) /\ Pv (i + 1) (ys ++ [y]) H5)) else ((σ'.set k (some x) = σ \/ ∃ e,σ'.set k (some x) = σ.set k e) /\ Pv (i + 1) ys H')
 rw [if_pos rfl,e]
 have e2:(fun (y:V) (H5:Hp)=>ys.length < sizeLine /\ ((σ.set k (some x) = σ \/ ∃ e,σ.set k (some x) = σ.set k e) /\ Pv (i + 1) (ys ++ [y]) H5)) = fun y H5=>ys.length < sizeLine /\ Pv (i + 1) (ys ++ [y]) H5:=by
  funext y H5
  exact propext ⟨fun z=>⟨z.1,z.2.2⟩,fun z=>⟨z.1,.inr ⟨_,rfl⟩,z.2⟩⟩
 rw [e2]
 exact hs i x ys H' hx p
end
theorem si {n:Nat} {i:Int} (h0:0 <= i) (h:i.toNat < n):ixN n i = some i.toNat:=by
 unfold ixN; rw [if_pos h0,if_pos (by omega)]
structure Ask where
 hand:Int
 box:Int
 deed:Deed
def W0 (K:FG7) (H:Hp) (x:V) (k:Ask):Prop:=∃ r rd,x = .ref r /\ SqT K H r [.int k.hand,.int k.box,.ref rd] /\ SqT K H rd k.deed.vs
def AllA (K:FG7) (H:Hp):List V -> List Ask -> Prop
 | [],[]=>True
 | x :: xs,k :: ks=>W0 K H x k /\ AllA K H xs ks
 | _,_=>False
def zI (K:FG7) (H:Hp) (x:V) (b:List Int):Prop:=∃ r,x = .ref r /\ SqT K H r (b.map V.int)
def Uz (m:Nat) (k:Ask):Prop:=0 <= k.hand /\ k.hand <= 15 /\ 0 <= k.box /\ k.box < m /\ k.deed.Ok
theorem Grow.board {m:List Addr} {H H':Hp} (g:Grow m H H') {K:FG7} {x:V} {b:List Int} (h:zI K H x b):zI K H' x b:=by
 obtain ⟨r,e,h1⟩:=h
 exact ⟨r,e,g.sqT h1⟩
theorem AllA.get {K:FG7} {H:Hp}:∀ {xs:List V} {ks:List Ask} {i:Nat} {x:V},AllA K H xs ks -> xs[i]? = some x -> ∃ k,ks[i]? = some k /\ W0 K H x k
 | _ :: _,k :: _,0,x,⟨h,_⟩,e=>by
  obtain rfl:=Option.some.inj e
  exact ⟨k,rfl,h⟩
 | _ :: _,_ :: _,i + 1,x,⟨_,t⟩,e=>AllA.get (i:=i) t e
 | [],[],i,x,_,e=>by cases e
 | [],_ :: _,_,_,h,_=>h.elim
 | _ :: _,[],_,_,h,_=>h.elim
def qt (d:Deed):PyData:=.tuple [.int d.add,oD d.lo,oD d.hi]
theorem XJ {K:FG7} {H:Hp}:∀ xs:List Int,DatAll K H (xs.map V.int) (xs.map PyData.int)
 | []=>.nil
 | x :: xs=>.cons (.int x) (XJ xs)
def vR (K:FG7):Sp:=sp3 fun x y z H Q=>∃ i l u,x = .int i /\ y = .int l /\ z = .int u /\ Q (.bl (decide (l <= i) && decide (i <= u))) H
def uq (K:FG7):Sp:=sp1 fun x H Q=>∃ b,zI K H x b /\ 1 <= b.length /\ b.length <= 16 /\ ∀ H',Grow [] H H' -> Q (.bl true) H'
def w4 (K:FG7):Sp:=sp1 fun x H Q=>∃ b,zI K H x b /\ 1 <= b.length /\ b.length <= 16 /\ ∀ H',Grow [] H H' -> Q .non H'
def re (K:FG7):Sp:=sp2 fun x y H Q=>∃ b k,zI K H x b /\ W0 K H y k /\ Uz b.length k /\ Q (.bl true) H
theorem XL {P:Program} {w:World} {K:FG7} {mg:Str -> Option Value} {base:Heap} {CX:CXT} {k:Nat} {f:Addr} {fd:FuncData} {ps:List Str} {sp:Sp} (h:∀ vs H Q E,¬ sp vs H Q E):FnOk P w K mg base CX k f fd ps sp :=
 ⟨fun vs H Q E z=>(h vs H Q E z).elim,by
  intros
  first
   | exact (h _ _ _ _ (by assumption)).elim⟩
def sp4 (b:V -> V -> V -> V -> Hp -> VK -> Prop):Sp:=fun vs H Q _=>∃ x y z u,vs = [x,y,z,u] /\ b x y z u H Q
theorem qu {b:V -> V -> V -> V -> Hp -> VK -> Prop} {p q r s:Str}:∀ vs H Q E,sp4 b vs H Q E -> vs.length = [p,q,r,s].length:=fun vs H Q E h=>by
 obtain ⟨x,y,z,u,rfl,_⟩:=h; rfl
def AllR {α:Type} (R:V -> α -> Prop):List V -> List α -> Prop
 | [],[]=>True
 | x :: xs,k :: ks=>R x k /\ AllR R xs ks
 | _,_=>False
section
variable {α:Type} {R S:V -> α -> Prop}
theorem AllR.imp (h:∀ x k,R x k -> S x k):∀ {xs:List V} {ks:List α},AllR R xs ks -> AllR S xs ks
 | [],[],_=>trivial
 | _ :: _,_ :: _,⟨a,t⟩=>⟨h _ _ a,AllR.imp h t⟩
 | [],_ :: _,z=>z.elim
 | _ :: _,[],z=>z.elim
theorem AllR.len:∀ {xs:List V} {ks:List α},AllR R xs ks -> xs.length = ks.length
 | [],[],_=>rfl
 | _ :: xs,_ :: ks,⟨_,t⟩=>congrArg (· + 1) (AllR.len t)
 | [],_ :: _,h=>h.elim
 | _ :: _,[],h=>h.elim
theorem AllR.get:∀ {xs:List V} {ks:List α} {i:Nat} {x:V},AllR R xs ks -> xs[i]? = some x -> ∃ k,ks[i]? = some k /\ R x k
 | _ :: _,k :: _,0,x,⟨h,_⟩,e=>by
  obtain rfl:=Option.some.inj e
  exact ⟨k,rfl,h⟩
 | _ :: _,_ :: _,i + 1,x,⟨_,t⟩,e=>AllR.get (i:=i) t e
 | [],[],i,x,_,e=>by cases e
 | [],_ :: _,_,_,h,_=>h.elim
 | _ :: _,[],_,_,h,_=>h.elim
theorem AllR.getR:∀ {xs:List V} {ks:List α} {i:Nat} {k:α},AllR R xs ks -> ks[i]? = some k -> ∃ x,xs[i]? = some x /\ R x k
 | x :: _,_ :: _,0,k,⟨h,_⟩,e=>by
  obtain rfl:=Option.some.inj e
  exact ⟨x,rfl,h⟩
 | _ :: _,_ :: _,i + 1,k,⟨_,t⟩,e=>AllR.getR (i:=i) t e
 | [],[],i,k,_,e=>by cases e
 | [],_ :: _,_,_,h,_=>h.elim
 | _ :: _,[],_,_,h,_=>h.elim
theorem AllR.app:∀ {xs ys:List V} {ks js:List α},AllR R xs ks -> AllR R ys js -> AllR R (xs ++ ys) (ks ++ js)
 | [],_,[],_,_,h=>h
 | _ :: _,_,_ :: _,_,⟨h,t⟩,q=>⟨h,AllR.app t q⟩
 | [],_,_ :: _,_,h,_=>h.elim
 | _ :: _,_,[],_,h,_=>h.elim
theorem AllR.one {x:V} {k:α} (h:R x k):AllR R [x] [k]:=⟨h,trivial⟩
theorem AllR.take:∀ {xs:List V} {ks:List α} {n:Nat},AllR R xs ks -> AllR R (xs.take n) (ks.take n)
 | [],[],n,_=>by rw [List.take_nil,List.take_nil]; trivial
 | _ :: _,_ :: _,0,_=>trivial
 | _ :: _,_ :: _,n + 1,⟨h,t⟩=>⟨h,AllR.take t⟩
 | [],_ :: _,_,h=>h.elim
 | _ :: _,[],_,h=>h.elim
end
theorem AllR.drop {α:Type} {R:V -> α -> Prop}:∀ {xs:List V} {ks:List α} {n:Nat},AllR R xs ks -> AllR R (xs.drop n) (ks.drop n)
 | [],[],n,_=>by rw [List.drop_nil,List.drop_nil]; trivial
 | _ :: _,_ :: _,0,h=>h
 | _ :: _,_ :: _,n + 1,⟨h,t⟩=>AllR.drop (n:=n) t
 | [],_ :: _,_,h=>h.elim
 | _ :: _,[],_,h=>h.elim
theorem rg {X:Cx} {K:FG7} (h:X.K = K):yY X (.builtin "len") (fun xs H Q=>∃ p ys,xs = [.ref p] /\ (SqL K H p ys \/ SqT K H p ys) /\ Q (.int ys.length) H):=by subst h; exact zu
theorem qv {X:Cx} {K:FG7} (h:X.K = K):yY X (.type "tuple") (fun xs H Q=>∃ p ys,xs = [.ref p] /\ ((SqL K H p ys /\ ∀ l,H l = none -> Q (.ref l) (upd H l (.tup ys))) \/ (SqT K H p ys /\ Q (.ref p) H))):=by subst h; exact zS
def Rng (m:Int) (xs:List Int):Prop:=∀ v ∈ xs,0 <= v /\ v < m
section
variable {prog:Program} {w:World} {A:Around} {E:VS7} {s:Shared}
theorem qw {jt t:Addr} {i:Nat} {vs:Array Value} {v:Value} {Q:VS7} (hit:s.heap.IsTupleIter jt t i) (ht:s.heap.IsTuple t vs) (hv:vs[i]? = some v)
  (hQ:∀ h',h'.IsTupleIter jt t (i + 1) -> Heap.SameBut jt s.heap h' -> Q v { s with heap:=h' }):wpAny (model prog w) A (Builtin.SmallTypes.nextOf (.ref jt)) Q E s:=by
 obtain ⟨oj,hoj,cj,dj⟩:=id hit
 obtain ⟨ot,hot,_,nt,dt⟩:=ht
 unfold Builtin.SmallTypes.nextOf
 refine wpAny_bind (wpAny_callSpecial?_slot (name:=Str.ofString "__next__") hit.typeIs F.slot_tuple_iterator_next (wpAny_call_entry F.slot_tuple_iterator_next hit.typeIs F.entry_tuple_iterator_next ?_ (F.args_tuple_iterator_next_1 _)))
 show wpAny _ _ (field (.ref jt) 0 >>= _) _ _ s
 refine wpAny_bind (wpAny_field hoj dj (x:=.ref t) rfl ?_); show wpAny _ _ (if (Value.ref t == Value.none) = true then _ else _) _ _ s
 rw [if_neg (show ¬ ((Value.ref t == Value.none) = true) by exact Bool.false_ne_true)]; show wpAny _ _ (field (.ref jt) 1 >>= _) _ _ s
 refine wpAny_bind (wpAny_field hoj dj (x:=.int i 0) rfl ?_); show wpAny _ _ (seqItems? (.ref t) >>= _) _ _ s
 refine wpAny_bind (wpAny_seqItems hot dt ?_); simp only [Int.toNat_natCast,hv]
 refine wpAny_bind (wpAny_setField hoj dj (by simp) (wpAny_pure ⟨v,rfl,wpAny_pure (hQ _ ⟨_,Heap.get?_update_self _ hoj (Obj.isFreed_of_fields (Obj.data_mapFields dj _)),(Obj.cls_mapFields ..).trans cj,by rw [Obj.data_mapFields dj]; simp [rawInt]⟩ (Heap.SameBut.update ..))⟩))
theorem tH {jt t:Addr} {i:Nat} {vs:Array Value} {Q:VS7} (hh:A.handled = none) (hit:s.heap.IsTupleIter jt t i) (ht:s.heap.IsTuple t vs) (hv:vs[i]? = none)
  (hE:∀ h' e,Heap.ExtBut jt s.heap h' -> (∃ o,h'.get? e = some o /\ o.cls = .type "StopIteration") -> E (.ref e) { s with heap:=h' }):wpAny (model prog w) A (Builtin.SmallTypes.nextOf (.ref jt)) Q E s:=by
 obtain ⟨oj,hoj,cj,dj⟩:=id hit
 obtain ⟨ot,hot,_,nt,dt⟩:=ht
 unfold Builtin.SmallTypes.nextOf
 refine wpAny_bind (wpAny_callSpecial?_slot (name:=Str.ofString "__next__") hit.typeIs F.slot_tuple_iterator_next (wpAny_call_entry F.slot_tuple_iterator_next hit.typeIs F.entry_tuple_iterator_next ?_ (F.args_tuple_iterator_next_1 _)))
 show wpAny _ _ (field (.ref jt) 0 >>= _) _ _ s
 refine wpAny_bind (wpAny_field hoj dj (x:=.ref t) rfl ?_); show wpAny _ _ (if (Value.ref t == Value.none) = true then _ else _) _ _ s
 rw [if_neg (show ¬ ((Value.ref t == Value.none) = true) by exact Bool.false_ne_true)]; show wpAny _ _ (field (.ref jt) 1 >>= _) _ _ s
 refine wpAny_bind (wpAny_field hoj dj (x:=.int i 0) rfl ?_); show wpAny _ _ (seqItems? (.ref t) >>= _) _ _ s
 refine wpAny_bind (wpAny_seqItems hot dt ?_); simp only [Int.toNat_natCast,hv]
 refine wpAny_bind (wpAny_rule (wpAny_bind (wpAny_setField hoj dj (by simp) ?_))); show wpAny _ _ (newExc (.type "StopIteration") [] >>= _) _ _ _
 refine wpAny_bind ?_; simp only [newExc,newTuple]
 refine wpAny_bind (wpAny_newObj_type ?_ (by size_fits)); refine wpAny_bind (m:=firstArgMember _ _) (wpAny_of_eq (a:=Value.none) (by first | rfl | (simp only [firstArgMember]; rfl)) ?_)
 refine wpAny_newObj_type ?_ (by size_fits); simp only [raiseNew]
 refine wpAny_bind (wpAny_handled ?_); (first | rw [show A.in1.handled = none from hh] | rw [hh])
 exact wpAny_bind (wpAny_pure (wpAny_throw (hE _ _ (((Heap.SameBut.update ..).extBut.push _).push _) ⟨_,Heap.get?_push_size _ rfl,rfl⟩)))
end
theorem Yc {prog:Program} {w:World} {A:Around} (hh:A.handled = none) (jt t:Addr) (hne:t ≠ jt) (vs:Array Value) :
  Draws prog w A jt [jt,t] vs.size (fun i v=>vs[i]? = some v) (fun i h=>h.IsTupleIter jt t i /\ h.IsTuple t vs) where
 live:=fun _ _ st=>let ⟨o,ho,_⟩:=st.1; ⟨o,ho⟩
 frame:=fun _ _ _ st hk=>⟨st.1.at (hk jt (by simp)),st.2.at (hk t (by simp))⟩
 item:=fun i s Q E hi st hQ=>qw st.1 st.2 (v:=vs[i]) (by simp [hi]) fun h' hit' hs'=>hQ _ h' s.toks (by simp [hi]) ⟨hit',st.2.extBut hs'.extBut hne⟩ hs'
 done:=fun s Q E st hE=>tH hh st.1 st.2 (by simp) hE
theorem Yd {prog:Program} {w:World} {A:Around} (hh:A.handled = none) (jt t:Addr) (vs:Array Value) {i:Nat} (hv:vs[i]? = none) :
  Draws prog w A jt [jt,t] i (fun _ _=>True) (fun j h=>j = i /\ h.IsTupleIter jt t i /\ h.IsTuple t vs) where
 live:=fun _ _ st=>let ⟨o,ho,_⟩:=st.2.1; ⟨o,ho⟩
 frame:=fun _ _ _ st hk=>⟨st.1,st.2.1.at (hk jt (by simp)),st.2.2.at (hk t (by simp))⟩
 item:=fun j s Q E hj st hQ=>absurd st.1 (Nat.ne_of_lt hj)
 done:=fun s Q E st hE=>tH hh st.2.1 st.2.2 hv hE
section
variable {X:Cx} {pins:List (Addr × Obj)} {σ:L2.St} {H:Hp} {s:Shared} {h':Heap}
theorem qz {fp:List Addr} {t':Nat} (I:Inv X pins σ H s) (k:∀ b o,b ∉ fp -> s.heap.get? b = some o -> h'.get? b = some o) (ff:∀ b ∈ fp,FpOk X pins H b):Inv X pins σ H { s with heap:=h',toks:=t' }:=by
 have nit:∀ b u,H b = some u -> b ∉ fp:=fun b u e z=>by rw [(ff b z).1] at e; cases e
 refine I.step (g':=s.gens) (d':=s.drawn) (ch:=fp) (fun b hb=>?_) (fun b o _ _ hc e _=>k b o hc e) (fun b o _ _ hc e _=>⟨o.slots,k b o hc e⟩) (fun _ _ _ _ n=>n) (fun b o hc e=>⟨o,k b o hc e⟩) (fun _ _ e=>e) (fun _ _ _ e=>e) (fun b ps e=>⟨#[],by rw [e]; simp⟩) (fun m hm=>?_) (fun b u e=>?_) I.bare
 ·obtain ⟨_,f1,_,f3,f4,f5⟩:=ff b hb
  exact ⟨f3,f1,f4,f5⟩
 ·obtain ⟨o,es,ep,ho,r⟩:=hm
  exact ⟨o,es,ep,k _ o (fun z=>(ff _ z).2.1 rfl) ho,r⟩
 ·refine (I.hok b u e).stay (fun c v hc q=>k c v ?_ q) (fun _ q=>q) fun _ _ q=>q
  rcases hc with z | z
  ·rw [z]; exact nit b u e
  ·exact nit c _ z
theorem jz {fp:List Addr} {T:Addr} {o:HO} {t':Nat} (I:Inv X pins σ H s) (k:∀ b o,b ∉ fp -> s.heap.get? b = some o -> h'.get? b = some o) (ff:∀ b ∈ fp,FpOk X pins H b) (hT:s.heap.objs.size <= T)
  (new:yr X.prog X.w (upd H T o) h' T o):Inv X pins σ (upd H T o) { s with heap:=h',toks:=t' }:=by
 have hn:H T = none:=I.hok.fresh hT
 have I1:Inv X pins σ H { s with heap:=h',toks:=t' }:=qz I k ff
 have hok:HOk X.prog X.w (upd H T o) h':=HOk.track I1.hok hn new
 refine I.step (g':=s.gens) (d':=s.drawn) (ch:=fp) (fun b hb=>?_) (fun b o _ _ hc e _=>k b o hc e) (fun b o _ _ hc e _=>⟨o.slots,k b o hc e⟩) (fun b u _ e n=>by rw [zo (Nat.ne_of_lt (Nat.lt_of_lt_of_le (Heap.lt_size e) hT))]; exact n) (fun b o hc e=>⟨o,k b o hc e⟩)
  (fun b xs e=>by rw [zo (zv e hn)]; exact e) (fun b u xs e=>by rw [zo (zv e hn)]; exact e) (fun b ps e=>⟨#[],by rw [zo (zv e hn),e]; simp⟩) (fun m hm=>?_) hok I.bare
 ·obtain ⟨_,f1,_,f3,f4,f5⟩:=ff b hb
  exact ⟨f3,f1,f4,f5⟩
 ·obtain ⟨o,es,ep,ho,r⟩:=hm
  exact ⟨o,es,ep,k _ o (fun z=>(ff _ z).2.1 rfl) ho,r⟩
end
section
variable {X:Cx} {elts:List Expr} {kt:Nat} {pt:Pos}
theorem VN:bootBuiltins "enumerate" = some (.type "enumerate"):=by decide +kernel
end
section
variable {K:FG7} {a:Addr} {xs:List V} {k:Nat} {tt:TT} {te:TE} {Q:VK} {σ:L2.St} {H:Hp}
theorem j7 (p:V -> Bool) (Pv:Nat -> List V -> Hp -> Prop) (h0:Pv 0 [] H) (hl:∀ i ys H',Pv i ys H' -> SqT K H' a xs)
  (ht:∀ x H' (R:Bool -> Hp -> Prop),x ∈ xs -> R (p x) H' -> tt (σ.set k (some x)) H' R)
  (hs:∀ i x ys H',xs[i]? = some x -> Pv i ys H' -> p x = true -> te (σ.set k (some x)) H' fun y H5=>ys.length < sizeLine /\ Pv (i + 1) (ys ++ [y]) H5)
  (hn:∀ i x ys H',xs[i]? = some x -> Pv i ys H' -> p x = false -> Pv (i + 1) ys H')
  (hd:∀ ys H',Pv xs.length ys H' -> ∀ l,H' l = none -> Q (.ref l) (upd H' l (.lst ys))):vY (Itt K a) σ H (uf k) tt te Q:=by
 refine sf (xs:=xs) (fun i ys σ' H'=>(σ' = σ \/ ∃ e,σ' = σ.set k e) /\ Pv i ys H') ⟨.inl rfl,h0⟩ (fun i ys σ' H' _ p=>hl i ys H' p.2) ?_ (fun ys σ' H' p l hl=>hd ys H' p.2 l hl)
 rintro i x ys σ' H' hx ⟨hσ,pv⟩
 have e:σ'.set k (some x) = σ.set k (some x):=by
  rcases hσ with rfl | ⟨e,rfl⟩
  ·rfl
  ·rw [List.set_set]
 show tt (σ'.set k (some x)) H' _
 rw [e]
 refine ht x H' _ (List.mem_of_getElem? hx) ?_
 by_cases c:p x = true
 ·rw [if_pos c]
  have e2:(fun (y:V) (H5:Hp)=>ys.length < sizeLine /\ ((σ.set k (some x) = σ \/ ∃ e,σ.set k (some x) = σ.set k e) /\ Pv (i + 1) (ys ++ [y]) H5)) = fun y H5=>ys.length < sizeLine /\ Pv (i + 1) (ys ++ [y]) H5:=by
   funext y H5
   exact propext ⟨fun z=>⟨z.1,z.2.2⟩,fun z=>⟨z.1,.inr ⟨_,rfl⟩,z.2⟩⟩
  have z:=hs i x ys H' hx pv c
  rw [← e2] at z
  exact z
 ·rw [if_neg c]
  exact ⟨.inr ⟨_,rfl⟩,hn i x ys H' hx pv (by simpa using c)⟩
end
def figI (k st l:Int):Int:=Builtin.bitAnd (l / 2 ^ (k - st).toNat) 1
def wfI (k st l w:Int):Int:=Builtin.bitXor l (Builtin.bitXor (figI k st l) w * 2 ^ (k - st).toNat)
def XM (k n:Int):List Int:=(List.range k.toNat).map fun i:Nat=>Builtin.bitAnd (n / 2 ^ (k - 1 - (0 + (i:Int))).toNat) 1
def numL (xs:List Int):Int:=xs.foldl (fun f o=>2 * f + o) 0
def UA (k h g:Int) (n:Nat):Int:=numL ((XM k g).take n ++ (XM k h).drop n)
def UB (k l:Int) (st:Nat):Int:=numL ((XM k l).take (st - 1) ++ (XM k l).drop st)
section
variable {X:Cx}
theorem w5 (hcalm:X.calm = true):yY X (.builtin "any") (fun xs H Q=>∃ (l:Addr) (bs:List Bool),xs = [.ref l] /\ SqL X.K H l (bs.map V.bl) /\ Q (.bl (bs.any id)) H):=by
 intro pins s σ H xs us Q I r h
 obtain ⟨l,bs,rfl,hl,q⟩:=h
 obtain ⟨u,rfl,rx⟩:=xY r
 cases (show u = Value.ref l from rx)
 obtain ⟨vs,rv,pl,_⟩:=I.list hl
 have hl':s.heap.IsList l vs.toArray:=pl.isList
 have hb:LSm.BoolsAre vs bs:=wY rv
 have hlt:l < s.heap.objs.size:=by obtain ⟨_,e,_⟩:=hl'; exact Heap.lt_size e
 refine call_any_walk (wpAny_pyIter_list hl' ?_)
 refine ⟨s.heap.objs.size,[s.heap.objs.size,l],[s.heap.objs.size],vs.toArray.size,_,_,fun i=>(bs[i]?).getD true,rfl,Walks.list (A:=X.A.in1) (I.ok.hd hcalm) _ l (Nat.ne_of_lt hlt) vs.toArray,
  ⟨⟨_,Heap.get?_push_size _ rfl,rfl,rfl⟩,hl'.push _⟩,fun i v s' Q' E' hP hQ=>?_,fun h' tk hk=>?_⟩
 ·obtain ⟨b,e,rfl⟩:=hb.get i v (by simpa using hP)
  simp only [e,Option.getD_some] at hQ
  exact wpAny_truthy_bool hQ
 ·have e:((List.range vs.toArray.size).any fun i=>(bs[i]?).getD true) = bs.any id:=by
   have hlen:bs.length = vs.length:=by rw [← rv.length,List.length_map]
   rw [List.size_toArray,← hlen,Bool.eq_iff_iff,List.any_eq_true,List.any_eq_true]
   constructor
   ·rintro ⟨i,hi,z⟩
    have hi':=List.mem_range.mp hi
    exact ⟨bs[i],List.getElem_mem hi',by simpa [List.getElem?_eq_getElem hi'] using z⟩
   ·rintro ⟨b,hb',z⟩
    obtain ⟨i,hi,rfl⟩:=List.getElem_of_mem hb'
    exact ⟨i,List.mem_range.mpr hi,by simpa [List.getElem?_eq_getElem hi] using z⟩
  rw [e]
  exact ⟨.bl (bs.any id),H,I.kept (t':=tk) (h':=h') (LSm.kept_iter hk),rfl,q⟩
theorem w6 {K:FG7} (h:X.K = K):yY X (.builtin "isinstance") (rIsi K):=by subst h; exact yq
end
theorem vS {i j:Int} (h:-(2 ^ 60) < i /\ i < 2 ^ 60):IntMulOk i j:=PySem.IntMulOk.of_left (Nat.le_trans ((PySem.intBits_le_iff (m:=60)).mpr (by obtain ⟨a,b⟩:=h; omega)) (by decide))
section
variable {X:Cx}
theorem Ye:∀ {ns:List Int} {us:List Value},Vals (ns.map V.int) us -> ∀ (i:Nat) (v:Value),us[i]? = some v -> ∃ t,v = Value.int ((ns[i]?).getD 0) t
 | [],_,.nil,i,v,e=>by cases e
 | n :: ns,_,.cons r t,0,v,e=>by
  obtain ⟨u,rfl⟩:=r
  obtain rfl:=Option.some.inj e
  exact ⟨u,rfl⟩
 | n :: ns,_,.cons r t,i + 1,v,e=>Ye t i v e
theorem Yf (hcalm:X.calm = true):yY X (.builtin "max") (fun xs H Q=>∃ (l:Addr) (ns:List Int),xs = [.ref l] /\ SqL X.K H l (ns.map V.int) /\ 0 < ns.length /\ ∀ M,M ∈ ns -> (∀ a ∈ ns,a <= M) -> Q (.int M) H):=by
 intro pins s σ H xs us Q I r h
 obtain ⟨l,ns,rfl,hl,h0,q⟩:=h
 obtain ⟨u,rfl,rx⟩:=xY r
 cases (show u = Value.ref l from rx)
 obtain ⟨vs,rv,pl,_⟩:=I.list hl
 have hl':s.heap.IsList l vs.toArray:=pl.isList
 have hb:=Ye rv
 have hlen:ns.length = vs.length:=by rw [← rv.length,List.length_map]
 have hlt:l < s.heap.objs.size:=by obtain ⟨_,e,_⟩:=hl'; exact Heap.lt_size e
 have best:=argBest_gt (fun i=>(ns[i]?).getD 0) (vs.length - 1)
 refine call_max_walk (wpAny_pyIter_list hl' ?_)
 refine ⟨s.heap.objs.size,[s.heap.objs.size,l],[s.heap.objs.size],vs.toArray.size,_,_,fun i j=>decide ((ns[i]?).getD 0 > (ns[j]?).getD 0),rfl,Walks.list (A:=X.A.in1) (I.ok.hd hcalm) _ l (Nat.ne_of_lt hlt) vs.toArray,
  ⟨⟨_,Heap.get?_push_size _ rfl,rfl,rfl⟩,hl'.push _⟩,?_,?_,CmpOf.ints_gt _ (fun i v hP=>hb i v (by simpa using hP)),fun v h' tk hP hk=>?_⟩
 ·intro b hb
  have sz:(s.heap.push { cls:=.type "list_iterator",data:=.fields #[.ref l,.int 0 0] }).objs.size = s.heap.objs.size + 1:=Heap.size_push ..
  rcases List.mem_cons.mp hb with z | z
  ·rw [z]; show _ < (s.heap.push _).objs.size; rw [sz]; omega
  ·rw [List.mem_singleton.mp z]; show _ < (s.heap.push _).objs.size; rw [sz]; exact Nat.lt_succ_of_lt hlt
 ·rw [List.size_toArray]; omega
 ·rw [List.size_toArray] at hP
  obtain ⟨t,rfl⟩:=hb _ v (by simpa using hP)
  have hi:argBest (fun i j=>decide ((ns[i]?).getD 0 > (ns[j]?).getD 0)) (vs.length - 1) < ns.length:=by have:=best.1; omega
  refine ⟨.int ((ns[argBest (fun i j=>decide ((ns[i]?).getD 0 > (ns[j]?).getD 0)) (vs.length - 1)]?).getD 0),H,I.kept (t':=tk) (h':=h') (LSm.kept_iter hk),⟨t,rfl⟩,q _ ?_ ?_⟩
  ·rw [List.getElem?_eq_getElem hi]; exact List.getElem_mem hi
  ·intro a ha
   obtain ⟨j,hj,rfl⟩:=List.getElem_of_mem ha
   have:=best.2 j (by omega)
   rw [List.getElem?_eq_getElem hj] at this
   exact this
end
theorem W1 {X:Cx} {K:FG7} {tg l:Expr} {tl:TE} (h:X.K = K) (hl:PE X l tl):PI X tg l (iTup K tl):=by subst h; exact y8 hl
def pI (p:Int -> Bool):V -> Bool
 | .int i=>p i
 | _=>false
theorem Yg (p:Int -> Bool):∀ ns:List Int,((ns.map V.int).filter (pI p)).map id = (ns.filter p).map V.int
 | []=>rfl
 | n :: ns=>by
  have ih:=Yg p ns
  rw [List.map_id] at ih ⊢
  rw [List.map_cons,List.filter_cons,List.filter_cons,show pI p (V.int n) = p n from rfl]
  split
  ·rw [ih]; rfl
  ·exact ih
theorem nv {i j:Int} (h:i ≠ j):decide (V.int i = V.int j) = false:=decide_eq_false fun z=>h (V.int.inj z)
section
variable {X:Cx} {pins:List (Addr × Obj)} {σ:L2.St} {H2:Hp} {s₂:Shared} {it:Addr} {fp:List Addr} {tn:Nat -> Heap -> Prop} {J:It} {scope:Scope} {cl:List (Str × Addr)} {N':List Str} {sub:List (Option Nat)}
theorem Yh {C D:Addr} {s₀:Shared} {tg:Expr} {pos:Pos} {elt iter:Expr} {ifs:List Expr} {g:TG} {tt:TT} {te:TE} {Q:VK} {RR:Value -> Addr -> Result -> Shared -> Prop} {W:Nat -> Nat -> List V -> L2.St -> Hp -> Prop}
  (I:Inv X pins σ H2 s₂) (hcalm:X.calm = true) (T:Turn X.prog X.w X.K tg J fp it tn) (f2:∀ b ∈ fp,FpOk X pins H2 b) (hfp:∀ b ∈ fp,b < s₂.heap.objs.size)
  (hs₀:∀ b o,s₂.heap.get? b = some o -> s₀.heap.get? b = some o) (hos:s₀.os = s₂.os) (hD:s₂.heap.objs.size <= D) (hC:s₂.heap.objs.size <= C) (hDC:D ≠ C)
  (hcl1:∀ x c,cl.lookup x = some c -> X.env.cells.lookup x = some c)
  (hg:PG (cxC X N' scope cl C D fp s₀ H2) tg g) (ht:PIfs (cxC X N' scope cl C D fp s₀ H2) ifs tt) (he:PE (cxC X N' scope cl C D fp s₀ H2) elt te)
  (turn:∀ i m ys σ' H',W i m ys σ' H' →
   (J.stop i H' /\ ∀ l,H' l = none -> Q (.ref l) (upd H' l (.lst ys))) ∨
   (J.go i H' /\ ∃ Nn:List V -> L2.St -> Hp -> Prop,(∀ zs σ2 H2,Nn zs σ2 H2 -> ∃ m',m' < m /\ W (i + 1) m' zs σ2 H2) ∧
    ∀ x H2,J.yld i H' x H2 -> g x σ' H2 fun σ2 H3=>tt σ2 H3 fun b H4=>if b = true then te σ2 H4 fun y H5=>ys.length < sizeLine /\ Nn (ys ++ [y]) σ2 H5 else Nn ys σ2 H4))
  (hRR:∀ (D C:Addr) (oC:Obj) (m:Str -> Option Value) (s':Shared) (Hf:Hp),Inv X (pins ++ [(C,oC)]) σ Hf s' -> s'.heap.Ns C m -> FpOk X pins Hf C -> Q (.ref D) Hf -> RR (.ref D) C (.ok .next) s')
  (n:Nat) (s:Shared) (h:∃ i ys us k σ' H',Inv (cxC X N' scope cl C D fp s₀ H2) pins σ' H' s /\ tn i s.heap /\ (∀ b ∈ fp,H' b = none) /\ H' D = none ∧
   s.heap.get? D = some { cls:=.type "list",data:=.seq (us:List Value).toArray k } /\ Vals ys us /\ ys.length <= sizeLine /\ W i n ys σ' H') :
  codeAny (model X.prog X.w) X.A (.compLoop (.ListComp elt [⟨tg,iter,ifs,0⟩] scope pos) 0 (.ref it) (.ref D) (compEnvC scope cl C X.env)) (RR (.ref D) C) s:=by
 have frsz:∀ b ∈ frs X.stack,b < s₂.heap.objs.size:=fun b hb=>by
  rcases List.mem_cons.mp (I.stkSub b hb) with z | z
  ·rw [z]; exact I.lt
  ·exact Nat.lt_of_not_le fun q=>I.nofs q z
 have cells:∀ x c,cl.lookup x = some c -> c < s₂.heap.objs.size:=fun x c e=>let ⟨v,q⟩:=I.cell x c (hcl1 x c e); q.lt
 have pinsz:∀ p ∈ X.pn ++ pins,p.1 < s₂.heap.objs.size:=fun p hp=>Heap.lt_size (I.pin p hp).1
 refine sY (fun n s=>∃ i ys us k σ' H',Inv (cxC X N' scope cl C D fp s₀ H2) pins σ' H' s /\ tn i s.heap /\ (∀ b ∈ fp,H' b = none) /\ H' D = none ∧
   s.heap.get? D = some { cls:=.type "list",data:=.seq (us:List Value).toArray k } /\ Vals ys us /\ ys.length <= sizeLine /\ W i n ys σ' H') ?_ n h
 rintro n s ⟨i,ys,us,k,σ',H',I',st',fr,hn,hy,rv,hz,w'⟩
 have pD:Inv (cxC X N' scope cl C D fp s₀ H2) (pins ++ [(D,{ cls:=.type "list",data:=.seq us.toArray k })]) σ' H' s:=I'.pins_of fun p hp=>by
  rcases List.mem_append.mp hp with hp | hp
  ·exact I'.pin p (List.mem_append_right _ hp)
  ·rw [List.mem_singleton.mp hp]
   exact ⟨hy,hn,hDC,fun z=>absurd (Nat.lt_of_lt_of_le (frsz _ z) hD) (Nat.lt_irrefl _),fun v z=>by cases z⟩
 have fpok:∀ {H'':Hp},(∀ b ∈ fp,H'' b = none) -> ∀ b ∈ fp,FpOk (cxC X N' scope cl C D fp s₀ H2) (pins ++ [(D,{ cls:=.type "list",data:=.seq us.toArray k })]) H'' b:=fun hz b hb=>by
  refine ⟨hz b hb,Nat.ne_of_lt (Nat.lt_of_lt_of_le (hfp b hb) hC),fun z=>?_,.inl (List.mem_cons_of_mem _ hb),fun x c e=>(f2 b hb).2.2.2.2.1 x c (hcl1 x c e),fun p hp=>?_⟩
  ·rcases List.mem_cons.mp (I.stkSub b z) with z | z
   ·exact (f2 b hb).2.1 z
   ·exact (f2 b hb).2.2.1 z
  ·rcases List.mem_append.mp hp with hp | hp
   ·exact (f2 b hb).2.2.2.2.2 p (List.mem_append_left _ hp)
   ·rcases List.mem_append.mp hp with hp | hp
    ·exact (f2 b hb).2.2.2.2.2 p (List.mem_append_right _ hp)
    ·rw [List.mem_singleton.mp hp]
     exact Nat.ne_of_gt (Nat.lt_of_lt_of_le (hfp b hb) hD)
 rcases turn i n ys σ' H' w' with ⟨stop,q⟩ | ⟨go,Nn,hN,step⟩
 ·refine thn (T.done (cxC X N' scope cl C D fp s₀ H2) rfl rfl rfl hcalm i _ s σ' H' (fun _ _=>False) pD (fpok fr) st' stop) fun r s1 ⟨hr,I1⟩=>?_
  subst hr
  have hy1:=(I1.pin (D,{ cls:=.type "list",data:=.seq us.toArray k }) (by simp)).1
  obtain ⟨m,hm,_⟩:=I1.loc
  obtain ⟨oC,es,ep,hoC,hdC,_⟩:=id hm
  obtain ⟨IX,fpc⟩:=XE I hs₀ hos hD hC hDC f2 I1.unpinned hn hy1 rv hz hoC (by intro v z; rw [hdC] at z; cases z)
  exact hRR D C oC m s1 _ IX hm fpc (q D hn)
 ·refine thn (T.item (cxC X N' scope cl C D fp s₀ H2) rfl rfl rfl hcalm i _ s σ' H' (fun _ _=>False) pD (fpok fr) st' go) fun r s1 ⟨u,hr,h4⟩=>?_
  subst hr
  refine thn h4 fun _ s2 ⟨x5,H5,I5,r5,y5,st5,fr5⟩=>?_
  have I5':=I5.pinned (fpok fr5) (T.obj _ _ st5)
  refine thn (hg _ s2 σ' H5 x5 u _ I5' r5 (step x5 H5 y5)) fun _ s3 ⟨σ6,H6,I6,q6⟩=>?_
  refine thn (ht _ s3 σ6 H6 _ I6 q6) fun ok s4 ⟨H7,I7,q7⟩=>?_
  have stay:∀ {σ7:L2.St} {H7:Hp} {s7:Shared},Inv (cxC X N' scope cl C D fp s₀ H2) (pins ++ [(D,{ cls:=.type "list",data:=.seq us.toArray k })] ++ tj fp s2.heap) σ7 H7 s7 →
    (∀ b ∈ fp,∀ o,s2.heap.get? b = some o -> s7.heap.get? b = some o) /\ (∀ b ∈ fp,H7 b = none) /\ H7 D = none /\ s7.heap.get? D = some { cls:=.type "list",data:=.seq us.toArray k }:=fun {σ7 H7 s7} I7=>by
   have d:=I7.pin (D,{ cls:=.type "list",data:=.seq us.toArray k }) (by simp)
   refine ⟨fun b hb o e=>(I7.pin (b,o) (List.mem_append_right _ (List.mem_append_right _ (y7 hb e)))).1,fun b hb=>?_,d.2.1,d.1⟩
   obtain ⟨o,e,_⟩:=T.obj _ _ st5 b hb
   exact (I7.pin (b,o) (List.mem_append_right _ (List.mem_append_right _ (y7 hb e)))).2.1
  cases ok with
  | false =>
   rw [if_neg (by decide)] at q7 ⊢
   obtain ⟨k1,k2,k3,k4⟩:=stay I7
   obtain ⟨m',hm,w7⟩:=hN ys σ6 H7 q7
   exact ⟨m',hm,i + 1,ys,us,k,σ6,H7,I7.unpinned.unpinned,T.keep _ _ _ st5 k1,k2,k3,k4,rv,hz,w7⟩
  | true =>
   rw [if_pos rfl] at q7 ⊢
   refine thn (he _ s4 σ6 H7 _ I7 q7) fun v s5 ⟨y,H8,I8,r8,hl8,n8⟩=>?_
   obtain ⟨k1,k2,k3,k4⟩:=stay I8
   refine wpAny_list_append_plain (l:=D) ⟨k,k4⟩ (fun h' pl sb=>?_) (by rw [List.size_toArray,← rv.length]; exact hz)
   obtain ⟨k',e'⟩:=pl
   obtain ⟨m',hm,w8⟩:=hN _ σ6 H8 n8
   refine ⟨m',hm,i + 1,ys ++ [y],us ++ [v],k',σ6,H8,?_,T.keep _ _ _ (T.keep _ _ _ st5 k1) fun b hb o e=>sb.extBut b o (Nat.ne_of_lt (Nat.lt_of_lt_of_le (hfp b hb) hD)) e,k2,k3,?_,rv.append (.cons r8 .nil),?_,w8⟩
   ·exact (I8.unpinned.unpinned).turned (it:=D) (t':=s5.toks) (h':=h') (fun b o hb e=>sb.extBut b o hb e) k3 hDC (.inl (by simp)) (fun x c e=>Nat.ne_of_lt (Nat.lt_of_lt_of_le (cells x c e) hD)) (fun p hp=>Nat.ne_of_lt (Nat.lt_of_lt_of_le (pinsz p hp) hD))
   ·rw [e']; simp
   ·rw [List.length_append]; exact hl8
theorem ur {tg:Expr} {pos:Pos} {elt iter:Expr} {ifs:List Expr} {g:TG} {tt:TT} {te:TE} {E:VS7} {Q:VK} {RR:Value -> Addr -> Result -> Shared -> Prop}
  (I:Inv X pins σ H2 s₂) (hcalm:X.calm = true) (T:Turn X.prog X.w X.K tg J fp it tn) (st:tn 0 s₂.heap) (f2:∀ b ∈ fp,FpOk X pins H2 b)
  (S:CSc X scope N' sub) (hcl1:∀ x c,cl.lookup x = some c -> X.env.cells.lookup x = some c) (hcl2:∀ y ∈ scope.names,y.2 = .free -> ∃ c,cl.lookup y.1 = some c)
  (hg:∀ C D fp s H,PG (cxC X N' scope cl C D fp s H) tg g) (ht:∀ C D fp s H,PIfs (cxC X N' scope cl C D fp s H) ifs tt) (he:∀ C D fp s H,PE (cxC X N' scope cl C D fp s H) elt te)
  (hW:vY J (capt sub σ) H2 g tt te Q)
  (hRR:∀ (D C:Addr) (oC:Obj) (m:Str -> Option Value) (s':Shared) (Hf:Hp),Inv X (pins ++ [(C,oC)]) σ Hf s' -> s'.heap.Ns C m -> FpOk X pins Hf C -> Q (.ref D) Hf -> RR (.ref D) C (.ok .next) s') :
  wpAny (model X.prog X.w) X.A (newList []) (fun acc s₃=>wpAny (model X.prog X.w) X.A (newFunctionEnv scope X.env.globals cl [] X.env.qual none .none (some X.env)) (fun cenv s₄ =>
   codeAny (model X.prog X.w) X.A (.compStart (.ListComp elt [⟨tg,iter,ifs,0⟩] scope pos) 0 (.ref it) acc { cenv with scope:=relabel scope X.env }) (RR acc cenv.locals) s₄) E s₃) E s₂:=by
 obtain ⟨W,⟨m0,w0⟩,turn⟩:=hW
 refine wpAny_newObj_type (wpAny_newFunctionEnv S.nocell (by intro y hy; simp at hy) (fun h₁ hns₁ hsb₁=>?_) S.kind)
 dsimp only at hns₁ hsb₁ ⊢
 have hC:(s₂.heap.push { cls:=.type "list",dict:=none,data:=.seq ([]:List Value).toArray }).objs.size = s₂.heap.objs.size + 1:=Heap.size_push ..
 rw [hC] at hns₁ hsb₁ ⊢
 have hk:∀ b o,(s₂.heap.push { cls:=.type "list",dict:=none,data:=.seq ([]:List Value).toArray }).get? b = some o -> h₁.get? b = some o:=fun b o e =>
  hsb₁.extBut b o (by have:=Heap.lt_size e; rw [hC] at this; exact Nat.ne_of_lt this) (Heap.get?_push_of_some _ e)
 have hfp:∀ b ∈ fp,b < s₂.heap.objs.size:=fun b hb=>by
  obtain ⟨o,e,_⟩:=T.obj _ _ st b hb
  exact Heap.lt_size e
 have I0:=j4 (tk:=s₂.toks + ([]:List (Str × Value)).length) I S hcl1 hcl2 f2 hfp hns₁ hk
 have hD0:h₁.get? s₂.heap.objs.size = some { cls:=.type "list",data:=.seq ([]:List Value).toArray 0 }:=hk _ _ (Heap.get?_push_size _ rfl)
 have loop:codeAny (model X.prog X.w) X.A (.compLoop (.ListComp elt [⟨tg,iter,ifs,0⟩] scope pos) 0 (.ref it) (.ref s₂.heap.objs.size) (compEnvC scope cl (s₂.heap.objs.size + 1) X.env)) (RR (.ref s₂.heap.objs.size) (s₂.heap.objs.size + 1)) { s₂ with heap:=h₁,toks:=s₂.toks + ([]:List (Str × Value)).length } :=
  Yh (s₀:={ s₂ with heap:=s₂.heap.push { cls:=.type "list",dict:=none,data:=.seq ([]:List Value).toArray } }) (C:=s₂.heap.objs.size + 1) (D:=s₂.heap.objs.size) I hcalm T f2 hfp (fun b o e=>Heap.get?_push_of_some _ e) rfl (Nat.le_refl _) (Nat.le_succ _) (Nat.ne_of_lt (Nat.lt_succ_self _)) hcl1 (hg _ _ _ _ _) (ht _ _ _ _ _) (he _ _ _ _ _) turn hRR m0 _
   ⟨0,[],[],0,capt sub σ,H2,I0,T.keep _ _ _ st fun b hb o e=>hk b o (Heap.get?_push_of_some _ e),fun b hb=>(f2 b hb).1,I.hok.fresh (Nat.le_refl _),hD0,.nil,Nat.zero_le _,w0⟩
 exact codeAny_compStart_list loop (T.self _ _ _ _ _ (T.keep _ _ _ st fun b hb o e=>hk b o (Heap.get?_push_of_some _ e)) loop)
end
section
variable {X:Cx} {scope:Scope} {N':List Str} {sub:List (Option Nat)} {tg:Expr} {pos:Pos} {elt iter:Expr} {ifs:List Expr} {wi:TI} {g:TG} {tt:TT} {te:TE}
theorem zN (S:CSc X scope N' sub) (hcalm:X.calm = true) (hi:PI X tg iter wi)
  (hg:∀ cl C D fp s H,PG (cxC X N' scope cl C D fp s H) tg g) (ht:∀ cl C D fp s H,PIfs (cxC X N' scope cl C D fp s H) ifs tt) (he:∀ cl C D fp s H,PE (cxC X N' scope cl C D fp s H) elt te)
  (hs:∀ x,foldedSetIterable iter X.env x = pure x:=by intro _; rfl):PE X (.ListComp elt [⟨tg,iter,ifs,0⟩] scope pos) (WY wi sub g tt te):=by
 intro pins s σ H Q I h
 obtain ⟨cl,hclos,hcl1,hcl2⟩:=S.clos I
 rw [eval_ListComp]
 refine wpAny_comprehension_free (use:=none) rfl hs hclos S.kind S.names (thn (hi pins s σ H _ I h) fun v s1 h1=>thn h1 fun itv s2 h2=>?_)
 obtain ⟨it,fp,tn,J,H2,e,I2,T,st2,f2,hW⟩:=h2
 subst e
 refine ur (RR:=fun acc C=>compPost (model X.prog X.w) X.A X.xe none (EP X pins σ Q) acc C) I2 hcalm T st2 f2 S hcl1 hcl2 (hg cl) (ht cl) (he cl) hW ?_
 intro D C oC m s' Hf IX hm fpc q
 refine ⟨m,hm,fun h' sb=>⟨.ref D,Hf,?_,rfl,q⟩⟩
 exact (IX.unpinned).turned (it:=C) (t':=s'.toks) (h':=h') (fun b o hb e=>sb.extBut b o hb e) fpc.1 fpc.2.1 fpc.2.2.2.1 fpc.2.2.2.2.1 fpc.2.2.2.2.2
theorem sj {i:Nat} {y:Str} {py spos:Pos} (hN:X.N.Nodup) (hiN:X.N[i]? = some y) (hy:X.env.scope.names.lookup y = some .local) (S:CSc X scope N' sub) (hcalm:X.calm = true) (hi:PI X tg iter wi)
  (hg:∀ cl C D fp s H,PG (cxC X N' scope cl C D fp s H) tg g) (ht:∀ cl C D fp s H,PIfs (cxC X N' scope cl C D fp s H) ifs tt) (he:∀ cl C D fp s H,PE (cxC X N' scope cl C D fp s H) elt te)
  (hsw:swapsWith (.ListComp elt [⟨tg,iter,ifs,0⟩] scope pos) (some (.Name y py)) spos.line X.env = pure true:=by rfl)
  (hs:∀ x,foldedSetIterable iter X.env x = pure x:=by intro _; rfl):PS X (.Assign [.Name y py] (.ListComp elt [⟨tg,iter,ifs,0⟩] scope pos) spos) (tAsg (WY wi sub g tt te) (uf i)):=by
 intro pins s σ H D I h
 obtain ⟨cl,hclos,hcl1,hcl2⟩:=S.clos I
 rw [exec_Assign_Name_used _ _ _ _ hsw]
 refine wpAny_bind (wpAny_standAt (wpAny_bind ?_))
 show wpAny _ X.A (do let _ ← comprehension (.ListComp elt [⟨tg,iter,ifs,0⟩] scope pos) scope X.env _ (newList []) false (eval iter X.env) (some (assign (.Name y py) X.env))) _ _ s
 refine wpAny_bind (wpAny_mono (wpAny_comprehension_free (use:=some (assign (.Name y py) X.env)) (Q:=fun _ s'=>SP X pins D .next s') rfl hs hclos S.kind S.names
  (thn (hi pins s σ H _ I h) fun v s1 h1=>thn h1 fun itv s2 h2=>?_)) (fun _ s' hq=>wpAny_pure (wpAny_pure hq)) fun _ _ e=>e)
 obtain ⟨it,fp,tn,J,H2,e,I2,T,st2,f2,hW⟩:=h2
 subst e
 refine ur (Q:=fun x H1=>uf i x σ H1 D.nx) (RR:=fun acc C=>compPost (model X.prog X.w) X.A X.xe (some (assign (.Name y py) X.env)) (fun _ s'=>SP X pins D .next s') acc C) I2 hcalm T st2 f2 S hcl1 hcl2 (hg cl) (ht cl) (he cl) hW ?_
 intro L C oC m s' Hf IX hm fpc q
 have st:=zm (X:=X) (pos:=py) hN hiN (.inl hy) (.inr hy) _ s' σ Hf (.ref L) (.ref L) D.nx IX rfl q
 refine thn st fun _ s'' ⟨σ2,H2,I2',q2⟩=>?_
 have p:=I2'.pin (C,oC) (by simp)
 have hm':s''.heap.Ns C m:=by
  obtain ⟨o,es,ep,e1,r⟩:=hm
  have z:=(IX.pin (C,oC) (by simp)).1
  rw [e1] at z; cases z
  exact ⟨_,es,ep,p.1,r⟩
 refine ⟨m,hm',fun h' sb=>⟨σ2,H2,?_,q2⟩⟩
 exact (I2'.unpinned).turned (it:=C) (t':=s''.toks) (h':=h') (fun b o hb e=>sb.extBut b o hb e) p.2.1 fpc.2.1 fpc.2.2.2.1 fpc.2.2.2.2.1 fpc.2.2.2.2.2
end
section
variable {prog:Program} {w:World} {A:Around} {E:VS7} {s:Shared}
theorem tJ {h:Heap} {z TI TO:Addr} {f0:Value} (hz:IsZip h z TI TO f0) (v:Value):IsZip (h.update z (Obj.mapFields fun x=>x.setIfInBounds 0 v)) z TI TO v /\ Heap.SameBut z h (h.update z (Obj.mapFields fun x=>x.setIfInBounds 0 v)) :=
 ⟨Heap.get?_update_self _ hz rfl,Heap.SameBut.update ..⟩
theorem VO {h:Heap} {z TI TO:Addr} {f0:Value} (hz:IsZip h z TI TO f0):IsZip (h.update z (Obj.mapFields fun x=>x.setIfInBounds 1 (.bool false))) z TI TO f0 /\ Heap.SameBut z h (h.update z (Obj.mapFields fun x=>x.setIfInBounds 1 (.bool false))) :=
 ⟨Heap.get?_update_self _ hz rfl,Heap.SameBut.update ..⟩
theorem Wx {h:Heap} {T:Addr} {a b:Value} (hp:IsPair h T a b) (v:Value):IsPair (h.update T (Obj.mapSeq fun x=>x.setIfInBounds 0 v)) T v b /\ Heap.SameBut T h (h.update T (Obj.mapSeq fun x=>x.setIfInBounds 0 v)) :=
 ⟨Heap.get?_update_self _ hp rfl,Heap.SameBut.update ..⟩
theorem VP {h:Heap} {T:Addr} {a b:Value} (hp:IsPair h T a b) (v:Value):IsPair (h.update T (Obj.mapSeq fun x=>x.setIfInBounds 1 v)) T a v /\ Heap.SameBut T h (h.update T (Obj.mapSeq fun x=>x.setIfInBounds 1 v)) :=
 ⟨Heap.get?_update_self _ hp rfl,Heap.SameBut.update ..⟩
theorem Yi {z TI TO i1 i2:Addr} {fp1 fp2:List Addr} {n1 n2 i:Nat} {P1 P2:Nat -> Value -> Prop} {St1 St2:Nat -> Heap -> Prop} {a b:Value} {Q:VS7}
  (D1:Draws prog w A i1 fp1 n1 P1 St1) (D2:Draws prog w A i2 fp2 n2 P2 St2)
  (hz:IsZip s.heap z TI TO .none) (hI:IsPair s.heap TI (.ref i1) (.ref i2)) (hO:IsPair s.heap TO a b) (st1:St1 i s.heap) (st2:St2 i s.heap) (l1:i < n1) (l2:i < n2)
  (z1:z ∉ fp1) (z2:z ∉ fp2) (o1:TO ∉ fp1) (o2:TO ∉ fp2) (x12:i2 ∉ fp1) (x21:i1 ∉ fp2) (iz1:i1 ≠ z) (iz2:i2 ≠ z) (io1:i1 ≠ TO) (io2:i2 ≠ TO) (oz:TO ≠ z) (tz:TI ≠ z) (tO:TI ≠ TO) (ti1:TI ≠ i1) (ti2:TI ≠ i2)
  (hQ:∀ x y h' tk,P1 i x -> P2 i y -> IsZip h' z TI TO (rawInt s.heap.objs.size) -> IsPair h' TI (.ref i1) (.ref i2) -> IsPair h' TO x y -> St1 (i + 1) h' -> St2 (i + 1) h' -> IsPair h' s.heap.objs.size x y -> h'.objs.size = s.heap.objs.size + 1 →
   (∀ c o,c ≠ z -> c ≠ TO -> c ≠ i1 -> c ≠ i2 -> s.heap.get? c = some o -> h'.get? c = some o) -> Q (.ref s.heap.objs.size) { s with heap:=h',toks:=tk }) :
  wpAny (model prog w) A (Builtin.«zip.__next__» { pos:=[.ref z] }) (fun fin s'=>∃ v,fin = Fin.done (Flow.ret v) /\ Q v s') E s:=by
 show wpAny _ _ (field (.ref z) 2 >>= _) _ _ s
 refine wpAny_bind (wpAny_field hz rfl (x:=.bool false) rfl ?_)
 show wpAny _ _ (field (.ref z) 3 >>= _) _ _ s
 refine wpAny_bind (wpAny_field hz rfl (x:=.ref TI) rfl ?_)
 show wpAny _ _ (seqItems? (.ref TI) >>= _) _ _ s
 refine wpAny_bind (wpAny_seqItems hI rfl ?_)
 show wpAny _ _ (Builtin.SmallTypes.ownedTupleIsFree (.ref z) >>= _) _ _ s
 refine wpAny_bind ?_
 unfold Builtin.SmallTypes.ownedTupleIsFree
 refine wpAny_bind (wpAny_field hz rfl (x:=.none) rfl (wpAny_pure ?_))
 show wpAny _ _ (rule _ >>= _) _ _ s
 refine wpAny_bind (wpAny_rule ?_)
 show wpAny _ _ (field (.ref z) 4 >>= _) _ _ s
 refine wpAny_bind (wpAny_field hz rfl (x:=.ref TO) rfl ?_)
 show wpAny _ _ (setField (.ref z) 0 .ellipsis >>= _) _ _ s
 refine wpAny_bind (wpAny_setField hz rfl (by show 0 < 5; decide) ?_)
 obtain ⟨hz0,sb0⟩:=tJ hz .ellipsis
 revert hz0 sb0
 generalize s.heap.update z (Obj.mapFields fun x=>x.setIfInBounds 0 Value.ellipsis) = h0
 intro hz0 sb0
 have no:∀ b,b ≠ z -> ∀ o,s.heap.get? b = some o -> h0.get? b = some o:=fun b hb o e=>(sb0.2 b hb).trans e
 refine wpAny_bind ?_
 show wpAny _ _ (forIn [(Value.ref i1,0),(Value.ref i2,1)] (none,()) _) _ _ _
 rw [List.forIn_cons]
 refine wpAny_bind (wpAny_bind (wpAny_onRaise ?_))
 show wpAny _ _ (Builtin.SmallTypes.nextOf (.ref i1) >>= fun x=>pure (some x)) _ _ _
 refine wpAny_bind (D1.item i { s with heap:=h0 } _ _ l1 (D1.frame _ _ _ st1 fun b hb o e=>no b (fun q=>z1 (q ▸ hb)) o e) fun x h1 tk1 p1 st1' sb1=>wpAny_pure ?_)
 have hO1:IsPair h1 TO a b:=(sb1.2 TO (Ne.symm io1)).trans (no TO oz _ hO)
 show wpAny _ _ (seqItems? (.ref TO) >>= _) _ _ _
 refine wpAny_bind (wpAny_seqItems (s:={ s with heap:=h1,toks:=tk1 }) hO1 rfl ?_)
 show wpAny _ _ (updateSeq TO _ >>= _) _ _ _
 refine wpAny_bind (wpAny_updateSeq (s:={ s with heap:=h1,toks:=tk1 }) hO1 rfl ?_)
 obtain ⟨hO2,sb2⟩:=Wx hO1 x
 revert hO2 sb2
 show IsPair (h1.update TO (Obj.mapSeq fun q=>q.setIfInBounds 0 x)) TO x b -> Heap.SameBut TO h1 (h1.update TO (Obj.mapSeq fun q=>q.setIfInBounds 0 x)) -> wpAny _ _ _ _ _ { s with heap:=h1.update TO (Obj.mapSeq fun q=>q.setIfInBounds 0 x),toks:=tk1 }
 generalize h1.update TO (Obj.mapSeq fun q=>q.setIfInBounds 0 x) = h2
 intro hO2 sb2
 refine wpAny_bind (wpAny_letGo (wpAny_pure ?_))
 show wpAny _ _ (forIn [(Value.ref i2,1)] (none,()) _) _ _ _
 rw [List.forIn_cons]
 refine wpAny_bind (wpAny_bind (wpAny_onRaise ?_))
 show wpAny _ _ (Builtin.SmallTypes.nextOf (.ref i2) >>= fun x=>pure (some x)) _ _ _
 have k2:∀ c o,c ≠ z -> c ≠ TO -> c ≠ i1 -> s.heap.get? c = some o -> h2.get? c = some o:=fun c o c1 c2 c3 e=>(sb2.2 c c2).trans ((sb1.2 c c3).trans (no c c1 o e))
 refine wpAny_bind (D2.item i { s with heap:=h2,toks:=tk1 } _ _ l2 (D2.frame _ _ _ st2 fun c hc o e=>k2 c o (fun q=>z2 (q ▸ hc)) (fun q=>o2 (q ▸ hc)) (fun q=>x21 (q ▸ hc)) e) fun y h3 tk3 p2 st2' sb3=>wpAny_pure ?_)
 have hO3:IsPair h3 TO x b:=(sb3.2 TO (Ne.symm io2)).trans hO2
 show wpAny _ _ (seqItems? (.ref TO) >>= _) _ _ _
 refine wpAny_bind (wpAny_seqItems (s:={ s with heap:=h3,toks:=tk3 }) hO3 rfl ?_)
 show wpAny _ _ (updateSeq TO _ >>= _) _ _ _
 refine wpAny_bind (wpAny_updateSeq (s:={ s with heap:=h3,toks:=tk3 }) hO3 rfl ?_)
 obtain ⟨hO4,sb4⟩:=VP hO3 y
 revert hO4 sb4
 show IsPair (h3.update TO (Obj.mapSeq fun q=>q.setIfInBounds 1 y)) TO x y -> Heap.SameBut TO h3 (h3.update TO (Obj.mapSeq fun q=>q.setIfInBounds 1 y)) -> wpAny _ _ _ _ _ { s with heap:=h3.update TO (Obj.mapSeq fun q=>q.setIfInBounds 1 y),toks:=tk3 }
 generalize h3.update TO (Obj.mapSeq fun q=>q.setIfInBounds 1 y) = h4
 intro hO4 sb4
 refine wpAny_bind (wpAny_letGo (wpAny_pure ?_))
 show wpAny _ _ (forIn [] (none,()) _) _ _ _
 rw [List.forIn_nil]
 refine wpAny_pure ?_
 show wpAny _ _ (seqItems? (.ref TO) >>= _) _ _ _
 refine wpAny_bind (wpAny_seqItems (s:={ s with heap:=h4,toks:=tk3 }) hO4 rfl ?_)
 show wpAny _ _ (newTuple [x,y] >>= _) _ _ _
 refine wpAny_bind ?_
 simp only [newTuple]
 have k4:∀ c o,c ≠ z -> c ≠ TO -> c ≠ i1 -> c ≠ i2 -> s.heap.get? c = some o -> h4.get? c = some o:=fun c o c1 c2 c3 c4 e=>(sb4.2 c c2).trans ((sb3.2 c c4).trans (k2 c o c1 c2 c3 e))
 have hz4:IsZip h4 z TI TO .ellipsis:=(sb4.2 z (Ne.symm oz)).trans ((sb3.2 z (Ne.symm iz2)).trans ((sb2.2 z (Ne.symm oz)).trans ((sb1.2 z (Ne.symm iz1)).trans hz0)))
 have s1':St1 (i + 1) h4:=D1.frame _ _ _ st1' fun c hc o e=>(sb4.2 c (fun q=>o1 (q ▸ hc))).trans ((sb3.2 c (fun q=>x12 (q ▸ hc))).trans ((sb2.2 c (fun q=>o1 (q ▸ hc))).trans e))
 have s2':St2 (i + 1) h4:=D2.frame _ _ _ st2' fun c hc o e=>(sb4.2 c (fun q=>o2 (q ▸ hc))).trans e
 have sz4:h4.objs.size = s.heap.objs.size:=by rw [sb4.1,sb3.1,sb2.1,sb1.1,sb0.1]
 refine wpAny_newObj_type ?_ (by size_fits)
 have hz5:IsZip (h4.push { cls:=.type "tuple",data:=.seq #[x,y] }) z TI TO .ellipsis:=Heap.get?_push_of_some _ hz4
 have hT5:IsPair (h4.push { cls:=.type "tuple",data:=.seq #[x,y] }) h4.objs.size x y:=Heap.get?_push_size _ rfl
 have sz5:(h4.push { cls:=.type "tuple",data:=.seq #[x,y] }).objs.size = h4.objs.size + 1:=Heap.size_push ..
 have k5:∀ c o,h4.get? c = some o -> (h4.push { cls:=.type "tuple",data:=.seq #[x,y] }).get? c = some o:=fun c o e=>Heap.get?_push_of_some _ e
 show wpAny _ _ _ _ _ { s with heap:=h4.push { cls:=.type "tuple",data:=.seq #[x,y] },toks:=tk3 }
 revert hz5 hT5 sz5 k5
 generalize h4.push { cls:=.type "tuple",data:=.seq #[x,y] } = h5
 intro hz5 hT5 sz5 k5
 show wpAny _ _ (Builtin.SmallTypes.ownedTupleHandOut (.ref z) (.ref h4.objs.size) >>= fun _=>pure (Fin.done (Flow.ret (.ref h4.objs.size)))) _ _ _
 rw [sz4] at hT5 sz5 ⊢
 refine wpAny_bind ?_
 show wpAny _ _ (setField (.ref z) 0 (rawInt s.heap.objs.size) >>= fun _=>setField (.ref z) 1 (.bool false)) _ _ _
 refine wpAny_bind (wpAny_setField (s:={ s with heap:=h5,toks:=tk3 }) hz5 rfl (by show 0 < 5; decide) ?_)
 obtain ⟨hz6,sb6⟩:=tJ hz5 (rawInt s.heap.objs.size)
 obtain ⟨hz7,sb7⟩:=VO hz6
 refine wpAny_setField hz6 rfl (by show 1 < 5; decide) (wpAny_pure ⟨_,rfl,?_⟩)
 have k7:∀ c o,c ≠ z -> h4.get? c = some o -> ((h5.update z (Obj.mapFields fun x=>x.setIfInBounds 0 (rawInt s.heap.objs.size))).update z (Obj.mapFields fun x=>x.setIfInBounds 1 (.bool false))).get? c = some o:=fun c o c1 e=>(sb7.2 c c1).trans ((sb6.2 c c1).trans (k5 c o e))
 have nT:s.heap.objs.size ≠ z:=Nat.ne_of_gt (Heap.lt_size hz)
 exact hQ x y _ tk3 p1 p2 hz7 (k7 TI _ tz (k4 TI _ tz tO ti1 ti2 hI)) (k7 TO _ oz hO4) (D1.frame _ _ _ s1' fun c hc o e=>k7 c o (fun q=>z1 (q ▸ hc)) e) (D2.frame _ _ _ s2' fun c hc o e=>k7 c o (fun q=>z2 (q ▸ hc)) e) ((sb7.2 _ nT).trans ((sb6.2 _ nT).trans hT5)) (by rw [sb7.1,sb6.1,sz5]) fun c o c1 c2 c3 c4 e=>k7 c o c1 (k4 c o c1 c2 c3 c4 e)
theorem XN {z TI TO i1 i2:Addr} {fp1:List Addr} {n1:Nat} {P1:Nat -> Value -> Prop} {St1:Nat -> Heap -> Prop} {a b:Value} {Q:Fin -> Shared -> Prop}
  (D1:Draws prog w A i1 fp1 n1 P1 St1)
  (hz:IsZip s.heap z TI TO .none) (hI:IsPair s.heap TI (.ref i1) (.ref i2)) (hO:IsPair s.heap TO a b) (st1:St1 n1 s.heap)
  (z1:z ∉ fp1) (iz1:i1 ≠ z)
  (hE:∀ h' e tk,(∀ c o,c ≠ z -> c ≠ TO -> c ≠ i1 -> c ≠ i2 -> s.heap.get? c = some o -> h'.get? c = some o) -> (∃ o,h'.get? e = some o /\ o.cls = .type "StopIteration") -> E (.ref e) { s with heap:=h',toks:=tk }) :
  wpAny (model prog w) A (Builtin.«zip.__next__» { pos:=[.ref z] }) Q E s:=by
 show wpAny _ _ (field (.ref z) 2 >>= _) _ _ s
 refine wpAny_bind (wpAny_field hz rfl (x:=.bool false) rfl ?_)
 show wpAny _ _ (field (.ref z) 3 >>= _) _ _ s
 refine wpAny_bind (wpAny_field hz rfl (x:=.ref TI) rfl ?_)
 show wpAny _ _ (seqItems? (.ref TI) >>= _) _ _ s
 refine wpAny_bind (wpAny_seqItems hI rfl ?_)
 show wpAny _ _ (Builtin.SmallTypes.ownedTupleIsFree (.ref z) >>= _) _ _ s
 refine wpAny_bind ?_
 unfold Builtin.SmallTypes.ownedTupleIsFree
 refine wpAny_bind (wpAny_field hz rfl (x:=.none) rfl (wpAny_pure ?_))
 show wpAny _ _ (rule _ >>= _) _ _ s
 refine wpAny_bind (wpAny_rule ?_)
 show wpAny _ _ (field (.ref z) 4 >>= _) _ _ s
 refine wpAny_bind (wpAny_field hz rfl (x:=.ref TO) rfl ?_)
 show wpAny _ _ (setField (.ref z) 0 .ellipsis >>= _) _ _ s
 refine wpAny_bind (wpAny_setField hz rfl (by show 0 < 5; decide) ?_)
 obtain ⟨hz0,sb0⟩:=tJ hz .ellipsis
 revert hz0 sb0
 generalize s.heap.update z (Obj.mapFields fun x=>x.setIfInBounds 0 Value.ellipsis) = h0
 intro hz0 sb0
 have no:∀ b,b ≠ z -> ∀ o,s.heap.get? b = some o -> h0.get? b = some o:=fun b hb o e=>(sb0.2 b hb).trans e
 refine wpAny_bind ?_
 show wpAny _ _ (forIn [(Value.ref i1,0),(Value.ref i2,1)] (none,()) _) _ _ _
 rw [List.forIn_cons]
 refine wpAny_bind (wpAny_bind (wpAny_onRaise ?_))
 show wpAny _ _ (Builtin.SmallTypes.nextOf (.ref i1) >>= fun x=>pure (some x)) _ _ _
 refine wpAny_bind (D1.done { s with heap:=h0 } _ _ (D1.frame _ _ _ st1 fun b hb o e=>no b (fun q=>z1 (q ▸ hb)) o e) fun h1 e xb hs=>?_)
 have hz1:IsZip h1 z TI TO .ellipsis:=xb z _ (Ne.symm iz1) hz0
 obtain ⟨hz2,sb2⟩:=tJ hz1 .none
 refine wpAny_setField (s:={ s with heap:=h1 }) hz1 rfl (by show 0 < 5; decide) (hE _ e s.toks (fun c o c1 c2 c3 c4 q=>(sb2.2 c c1).trans (xb c o c3 (no c c1 o q))) ?_)
 obtain ⟨o,ho,hc⟩:=hs
 refine ⟨o,(sb2.2 e fun q=>?_).trans ho,hc⟩
 rw [q,hz1] at ho
 obtain rfl:=Option.some.inj ho
 exact absurd hc (by show ¬ (Value.type "zip" = Value.type "StopIteration"); decide)
theorem XO {z TI TO i1 i2:Addr} {fp1 fp2:List Addr} {n1 i:Nat} {P1 P2:Nat -> Value -> Prop} {St1 St2:Nat -> Heap -> Prop} {a b:Value} {Q:Fin -> Shared -> Prop}
  (D1:Draws prog w A i1 fp1 n1 P1 St1) (D2:Draws prog w A i2 fp2 i P2 St2)
  (hz:IsZip s.heap z TI TO .none) (hI:IsPair s.heap TI (.ref i1) (.ref i2)) (hO:IsPair s.heap TO a b) (st1:St1 i s.heap) (st2:St2 i s.heap) (l1:i < n1)
  (z1:z ∉ fp1) (z2:z ∉ fp2) (o2:TO ∉ fp2) (x21:i1 ∉ fp2) (iz1:i1 ≠ z) (iz2:i2 ≠ z) (io1:i1 ≠ TO) (oz:TO ≠ z)
  (hE:∀ h' e tk,(∀ c o,c ≠ z -> c ≠ TO -> c ≠ i1 -> c ≠ i2 -> s.heap.get? c = some o -> h'.get? c = some o) -> (∃ o,h'.get? e = some o /\ o.cls = .type "StopIteration") -> E (.ref e) { s with heap:=h',toks:=tk }) :
  wpAny (model prog w) A (Builtin.«zip.__next__» { pos:=[.ref z] }) Q E s:=by
 show wpAny _ _ (field (.ref z) 2 >>= _) _ _ s
 refine wpAny_bind (wpAny_field hz rfl (x:=.bool false) rfl ?_)
 show wpAny _ _ (field (.ref z) 3 >>= _) _ _ s
 refine wpAny_bind (wpAny_field hz rfl (x:=.ref TI) rfl ?_)
 show wpAny _ _ (seqItems? (.ref TI) >>= _) _ _ s
 refine wpAny_bind (wpAny_seqItems hI rfl ?_)
 show wpAny _ _ (Builtin.SmallTypes.ownedTupleIsFree (.ref z) >>= _) _ _ s
 refine wpAny_bind ?_
 unfold Builtin.SmallTypes.ownedTupleIsFree
 refine wpAny_bind (wpAny_field hz rfl (x:=.none) rfl (wpAny_pure ?_))
 show wpAny _ _ (rule _ >>= _) _ _ s
 refine wpAny_bind (wpAny_rule ?_)
 show wpAny _ _ (field (.ref z) 4 >>= _) _ _ s
 refine wpAny_bind (wpAny_field hz rfl (x:=.ref TO) rfl ?_)
 show wpAny _ _ (setField (.ref z) 0 .ellipsis >>= _) _ _ s
 refine wpAny_bind (wpAny_setField hz rfl (by show 0 < 5; decide) ?_)
 obtain ⟨hz0,sb0⟩:=tJ hz .ellipsis
 revert hz0 sb0
 generalize s.heap.update z (Obj.mapFields fun x=>x.setIfInBounds 0 Value.ellipsis) = h0
 intro hz0 sb0
 have no:∀ b,b ≠ z -> ∀ o,s.heap.get? b = some o -> h0.get? b = some o:=fun b hb o e=>(sb0.2 b hb).trans e
 refine wpAny_bind ?_
 show wpAny _ _ (forIn [(Value.ref i1,0),(Value.ref i2,1)] (none,()) _) _ _ _
 rw [List.forIn_cons]
 refine wpAny_bind (wpAny_bind (wpAny_onRaise ?_))
 show wpAny _ _ (Builtin.SmallTypes.nextOf (.ref i1) >>= fun x=>pure (some x)) _ _ _
 refine wpAny_bind (D1.item i { s with heap:=h0 } _ _ l1 (D1.frame _ _ _ st1 fun b hb o e=>no b (fun q=>z1 (q ▸ hb)) o e) fun x h1 tk1 p1 st1' sb1=>wpAny_pure ?_)
 have hO1:IsPair h1 TO a b:=(sb1.2 TO (Ne.symm io1)).trans (no TO oz _ hO)
 show wpAny _ _ (seqItems? (.ref TO) >>= _) _ _ _
 refine wpAny_bind (wpAny_seqItems (s:={ s with heap:=h1,toks:=tk1 }) hO1 rfl ?_)
 show wpAny _ _ (updateSeq TO _ >>= _) _ _ _
 refine wpAny_bind (wpAny_updateSeq (s:={ s with heap:=h1,toks:=tk1 }) hO1 rfl ?_)
 obtain ⟨hO2,sb2⟩:=Wx hO1 x
 revert hO2 sb2
 show IsPair (h1.update TO (Obj.mapSeq fun q=>q.setIfInBounds 0 x)) TO x b -> Heap.SameBut TO h1 (h1.update TO (Obj.mapSeq fun q=>q.setIfInBounds 0 x)) -> wpAny _ _ _ _ _ { s with heap:=h1.update TO (Obj.mapSeq fun q=>q.setIfInBounds 0 x),toks:=tk1 }
 generalize h1.update TO (Obj.mapSeq fun q=>q.setIfInBounds 0 x) = h2
 intro hO2 sb2
 refine wpAny_bind (wpAny_letGo (wpAny_pure ?_))
 show wpAny _ _ (forIn [(Value.ref i2,1)] (none,()) _) _ _ _
 rw [List.forIn_cons]
 refine wpAny_bind (wpAny_bind (wpAny_onRaise ?_))
 show wpAny _ _ (Builtin.SmallTypes.nextOf (.ref i2) >>= fun x=>pure (some x)) _ _ _
 have k2:∀ c o,c ≠ z -> c ≠ TO -> c ≠ i1 -> s.heap.get? c = some o -> h2.get? c = some o:=fun c o c1 c2 c3 e=>(sb2.2 c c2).trans ((sb1.2 c c3).trans (no c c1 o e))
 have hz2:IsZip h2 z TI TO .ellipsis:=(sb2.2 z (Ne.symm oz)).trans ((sb1.2 z (Ne.symm iz1)).trans hz0)
 refine wpAny_bind (D2.done { s with heap:=h2,toks:=tk1 } _ _ (D2.frame _ _ _ st2 fun c hc o e=>k2 c o (fun q=>z2 (q ▸ hc)) (fun q=>o2 (q ▸ hc)) (fun q=>x21 (q ▸ hc)) e) fun h3 e xb hs=>?_)
 have hz3:IsZip h3 z TI TO .ellipsis:=xb z _ (Ne.symm iz2) hz2
 obtain ⟨hz4,sb4⟩:=tJ hz3 .none
 refine wpAny_setField (s:={ s with heap:=h3,toks:=tk1 }) hz3 rfl (by show 0 < 5; decide) (hE _ e tk1 (fun c o c1 c2 c3 c4 q=>(sb4.2 c c1).trans (xb c o c4 (k2 c o c1 c2 c3 q))) ?_)
 obtain ⟨o,ho,hc⟩:=hs
 refine ⟨o,(sb4.2 e fun q=>?_).trans ho,hc⟩
 rw [q,hz3] at ho
 obtain rfl:=Option.some.inj ho
 exact absurd hc (by show ¬ (Value.type "zip" = Value.type "StopIteration"); decide)
end
section
variable {prog:Program} {w:World} {A:Around} {E:VS7} {s:Shared}
theorem Yj {e:Addr} {Q:Option Value -> Shared -> Prop} (h:∃ o,s.heap.get? e = some o /\ o.cls = .type "StopIteration") (q:Q none s) :
  wpAny (model prog w) A (do if ← isInstance (.ref e) (.type "StopIteration") then pure none else throw (.ref e):Sem (Option Value)) Q E s:=by
 refine wpAny_bind (wpAny_isInstance (T:="StopIteration") (b:=true) h (by first | rfl | decide) ?_)
 rw [if_pos rfl]
 exact wpAny_pure q
theorem Wy {z TI TO:Addr} {f0:Value} (hz:IsZip s.heap z TI TO f0):s.TypeIs (.ref z) "zip":=⟨_,hz,rfl⟩
theorem Yk {z TI TO:Addr} {f0:Value} {Q:Option Value -> Shared -> Prop} (hz:IsZip s.heap z TI TO f0)
  (h:wpAny (model prog w) A.in1 (Builtin.«zip.__next__» { pos:=[.ref z] }) (fun fin s'=>∃ v,fin = Fin.done (Flow.ret v) /\ Q (some v) s')
   (fun e s'=>∃ a,e = .ref a /\ (∃ o,s'.heap.get? a = some o /\ o.cls = .type "StopIteration") /\ Q none s') s):wpAny (model prog w) A (pyNext (.ref z)) Q E s:=by
 unfold pyNext
 refine wpAny_bind (wpAny_attempt (wpAny_callSpecial?_slot (name:=Str.ofString "__next__") (Wy hz) F.slot_zip_next (wpAny_call_entry F.slot_zip_next (Wy hz) F.entry_zip_next (wpAny_mono h (fun fin s' hq=>?_) (fun e s' hq=>?_)) (F.args_zip_next_1 _))))
 ·obtain ⟨v,rfl,q⟩:=hq
  exact ⟨v,rfl,wpAny_pure q⟩
 ·obtain ⟨a,rfl,ho,q⟩:=hq
  exact Yj ho q
def wG (h:Heap) (a:Addr) (cn:String) (vs:Array Value):Prop:=(cn = "tuple_iterator" /\ h.IsTuple a vs) \/ (cn = "list_iterator" /\ h.IsList a vs)
theorem wG.iter {a:Addr} {cn:String} {vs:Array Value} {Q:VS7} (h:wG s.heap a cn vs)
  (q:Q (.ref s.heap.objs.size) { s with heap:=s.heap.push { cls:=.type cn,data:=.fields #[.ref a,.int 0 0] } }):wpAny (model prog w) A (pyIter (.ref a)) Q E s:=by
 rcases h with ⟨rfl,h⟩ | ⟨rfl,h⟩
 ·exact wpAny_pyIter_tuple h q
 ·exact wpAny_pyIter_list h q
theorem wG.push {h:Heap} {a:Addr} {cn:String} {vs:Array Value} (x:wG h a cn vs) (o:Obj):wG (h.push o) a cn vs:=by
 rcases x with ⟨rfl,x⟩ | ⟨rfl,x⟩
 ·exact .inl ⟨rfl,x.push o⟩
 ·exact .inr ⟨rfl,x.push o⟩
def zpO (c:String) (a:Addr):Obj:={ cls:=.type c,data:=.fields #[.ref a,.int 0 0] }
def zpT (a b:Value):Obj:={ cls:=.type "tuple",data:=.seq #[a,b] }
def zpZ (TI TO:Addr):Obj:={ cls:=.type "zip",data:=.fields #[.none,.bool false,.bool false,.ref TI,.ref TO] }
def zpN (h:Heap) (c1:String) (a:Addr) (c2:String) (b:Addr):Addr :=
 let h1:=h.push (zpO c1 a)
 let h2:=h1.push (zpO c2 b)
 let h3:=h2.push (zpT (.ref h.objs.size) (.ref h1.objs.size))
 (h3.push (zpT .none .none)).objs.size
def zpH (h:Heap) (c1:String) (a:Addr) (c2:String) (b:Addr):Heap :=
 let h1:=h.push (zpO c1 a)
 let h2:=h1.push (zpO c2 b)
 let h3:=h2.push (zpT (.ref h.objs.size) (.ref h1.objs.size))
 let h4:=h3.push (zpT .none .none)
 h4.push (zpZ h2.objs.size h3.objs.size)
theorem W2 (a b:Addr) (c1 c2:String) (xs ys:Array Value) :
  Meets (Builtin.«zip.__new__» ⟨[.type "zip",.ref a,.ref b],[]⟩) (fun _ R s=>wG s.heap a c1 xs /\ wG s.heap b c2 ys ∧
   R (.ok (.ret (.ref (zpN s.heap c1 a c2 b)))) { s with heap:=zpH s.heap c1 a c2 b }) :=
 .of_wp fun prog w A R s h=>by
  obtain ⟨hp,g,d,tk,os⟩:=s; obtain ⟨h1,h2,h⟩:=h
  have hsub:=sub_zip
  have h2':wG (Shared.heap ⟨hp.push { cls:=.type c1,data:=.fields #[.ref a,.int 0 0] },g,d,tk,os⟩) b c2 ys:=h2.push _
  wp_walk using wG.iter h1,wG.iter h2'
  exact ⟨_,rfl,h⟩
theorem Yl {a b:Addr} {c1 c2:String} {xs ys:Array Value} {Q:VS7} (ha:wG s.heap a c1 xs) (hb:wG s.heap b c2 ys)
  (h:∀ h',IsZip h' (s.heap.objs.size + 4) (s.heap.objs.size + 2) (s.heap.objs.size + 3) .none -> IsPair h' (s.heap.objs.size + 2) (.ref s.heap.objs.size) (.ref (s.heap.objs.size + 1)) -> IsPair h' (s.heap.objs.size + 3) .none .none →
   h'.get? s.heap.objs.size = some (zpO c1 a) -> h'.get? (s.heap.objs.size + 1) = some (zpO c2 b) -> (∀ c o,s.heap.get? c = some o -> h'.get? c = some o) -> Q (.ref (s.heap.objs.size + 4)) { s with heap:=h' }) :
  wpAny (model prog w) A (call (.type "zip") [.ref a,.ref b]) Q E s:=by
 refine callType_new F.called_zip (by decide) (F.typeCall_zip_2 _ _) (F.newCall_zip_2 _ _) (fun obj=>F.args_object_init_3 obj _ _) F.entry_zip_new (W2 a b c1 c2 xs ys) ⟨ha,hb,?_⟩
 have gs:∀ (h:Heap) (o:Obj) (m:Nat),o.isFreed = false -> h.objs.size = m -> (h.push o).get? m = some o /\ (h.push o).objs.size = m + 1:=fun h o m f e=>by
  subst e; exact ⟨Heap.get?_push_size _ f,Heap.size_push ..⟩
 obtain ⟨e1,z1⟩:=gs s.heap (zpO c1 a) _ rfl rfl
 obtain ⟨e2,z2⟩:=gs (s.heap.push (zpO c1 a)) (zpO c2 b) _ rfl z1
 obtain ⟨e3,z3⟩:=gs ((s.heap.push (zpO c1 a)).push (zpO c2 b)) (zpT (.ref s.heap.objs.size) (.ref (s.heap.push (zpO c1 a)).objs.size)) _ rfl z2
 obtain ⟨e4,z4⟩:=gs (((s.heap.push (zpO c1 a)).push (zpO c2 b)).push (zpT (.ref s.heap.objs.size) (.ref (s.heap.push (zpO c1 a)).objs.size))) (zpT .none .none) _ rfl z3
 obtain ⟨e5,z5⟩:=gs ((((s.heap.push (zpO c1 a)).push (zpO c2 b)).push (zpT (.ref s.heap.objs.size) (.ref (s.heap.push (zpO c1 a)).objs.size))).push (zpT .none .none)) (zpZ ((s.heap.push (zpO c1 a)).push (zpO c2 b)).objs.size (((s.heap.push (zpO c1 a)).push (zpO c2 b)).push (zpT (.ref s.heap.objs.size) (.ref (s.heap.push (zpO c1 a)).objs.size))).objs.size) _ rfl z4
 have eN:zpN s.heap c1 a c2 b = s.heap.objs.size + 4:=z4
 have ps:∀ (h:Heap) (o:Obj) (c:Addr) (q:Obj),h.get? c = some q -> (h.push o).get? c = some q:=fun h o c q e=>Heap.get?_push_of_some _ e
 have f5:(zpH s.heap c1 a c2 b).get? (s.heap.objs.size + 4) = some (zpZ (s.heap.objs.size + 2) (s.heap.objs.size + 3)):=by
  have:=e5
  rw [z2,z3] at this
  unfold zpH
  dsimp only
  rw [z2,z3]
  exact this
 have f3:(zpH s.heap c1 a c2 b).get? (s.heap.objs.size + 2) = some (zpT (.ref s.heap.objs.size) (.ref (s.heap.objs.size + 1))):=by
  have:=ps _ (zpZ ((s.heap.push (zpO c1 a)).push (zpO c2 b)).objs.size (((s.heap.push (zpO c1 a)).push (zpO c2 b)).push (zpT (.ref s.heap.objs.size) (.ref (s.heap.push (zpO c1 a)).objs.size))).objs.size) _ _ (ps _ (zpT .none .none) _ _ e3)
  unfold zpH
  dsimp only
  exact this.trans (by rw [z1])
 have f4:(zpH s.heap c1 a c2 b).get? (s.heap.objs.size + 3) = some (zpT .none .none):=ps _ _ _ _ e4
 have f1:(zpH s.heap c1 a c2 b).get? s.heap.objs.size = some (zpO c1 a):=ps _ _ _ _ (ps _ _ _ _ (ps _ _ _ _ (ps _ _ _ _ e1)))
 have f2:(zpH s.heap c1 a c2 b).get? (s.heap.objs.size + 1) = some (zpO c2 b):=ps _ _ _ _ (ps _ _ _ _ (ps _ _ _ _ e2))
 have fk:∀ c o,s.heap.get? c = some o -> (zpH s.heap c1 a c2 b).get? c = some o:=fun c o e=>ps _ _ _ _ (ps _ _ _ _ (ps _ _ _ _ (ps _ _ _ _ (ps _ _ _ _ e))))
 show _ /\ _
 rw [eN]
 exact ⟨⟨_,f5,rfl⟩,h _ f5 f3 f4 f1 f2 fk⟩
end
def SqC (c:Bool) (K:FG7) (H:Hp) (a:Addr) (xs:List V):Prop:=match c with
 | true=>SqT K H a xs
 | false=>SqL K H a xs
def vC (c:Bool) (h:Heap) (j a:Addr) (i:Nat):Prop:=match c with
 | true=>h.IsTupleIter j a i
 | false=>h.IsListIter j a i
def SeqC (c:Bool) (h:Heap) (a:Addr) (vs:Array Value):Prop:=match c with
 | true=>h.IsTuple a vs
 | false=>h.IsList a vs
def cnC (c:Bool):String:=match c with
 | true=>"tuple_iterator"
 | false=>"list_iterator"
theorem vC.at {c:Bool} {h h':Heap} {j a:Addr} {i:Nat} (x:vC c h j a i) (k:∀ o,h.get? j = some o -> h'.get? j = some o):vC c h' j a i:=by
 cases c
 ·exact Heap.IsListIter.at x k
 ·exact Heap.IsTupleIter.at x k
theorem vC.obj {c:Bool} {h:Heap} {j a:Addr} {i:Nat} (x:vC c h j a i):∃ o,h.get? j = some o /\ ∀ v,o.data ≠ .cell v:=by
 cases c
 ·obtain ⟨o,e,_,d⟩:=x
  exact ⟨o,e,fun v z=>by rw [d] at z; cases z⟩
 ·obtain ⟨o,e,_,d⟩:=x
  exact ⟨o,e,fun v z=>by rw [d] at z; cases z⟩
theorem vC.mk {c:Bool} {h:Heap} {j a:Addr} (e:h.get? j = some (zpO (cnC c) a)):vC c h j a 0:=by
 cases c
 ·exact ⟨_,e,rfl,rfl⟩
 ·exact ⟨_,e,rfl,rfl⟩
theorem SeqC.src {c:Bool} {h:Heap} {a:Addr} {vs:Array Value} (x:SeqC c h a vs):wG h a (cnC c) vs:=by
 cases c
 ·exact .inr ⟨rfl,x⟩
 ·exact .inl ⟨rfl,x⟩
theorem SeqC.lt {c:Bool} {h:Heap} {a:Addr} {vs:Array Value} (x:SeqC c h a vs):a < h.objs.size:=by
 cases c
 ·obtain ⟨_,e,_⟩:=(show h.IsList a vs from x); exact Heap.lt_size e
 ·obtain ⟨_,e,_⟩:=(show h.IsTuple a vs from x); exact Heap.lt_size e
theorem jA {prog:Program} {w:World} {A:Around} (hh:A.handled = none) (c:Bool) (j t:Addr) (hne:t ≠ j) (vs:Array Value) :
  Draws prog w A j [j,t] vs.size (fun i v=>vs[i]? = some v) (fun i h=>vC c h j t i /\ SeqC c h t vs):=by
 cases c
 ·exact Draws.list hh j t hne vs
 ·exact Yc hh j t hne vs
theorem j8 {prog:Program} {w:World} {A:Around} (hh:A.handled = none) (jt t:Addr) (vs:Array Value) {i:Nat} (hv:vs[i]? = none) :
  Draws prog w A jt [jt,t] i (fun _ _=>True) (fun j h=>j = i /\ h.IsListIter jt t i /\ h.IsList t vs) where
 live:=fun _ _ st=>let ⟨o,ho,_⟩:=st.2.1; ⟨o,ho⟩
 frame:=fun _ _ _ st hk=>⟨st.1,st.2.1.at (hk jt (by simp)),st.2.2.at (hk t (by simp))⟩
 item:=fun j s Q E hj st hQ=>absurd st.1 (Nat.ne_of_lt hj)
 done:=fun s Q E st hE=>wpAny_nextOf_list_end hh st.2.1 st.2.2 hv hE
theorem vD {prog:Program} {w:World} {A:Around} (hh:A.handled = none) (c:Bool) (j t:Addr) (vs:Array Value) {i:Nat} (hv:vs[i]? = none) :
  Draws prog w A j [j,t] i (fun _ _=>True) (fun k h=>k = i /\ vC c h j t i /\ SeqC c h t vs):=by
 cases c
 ·exact j8 hh j t vs hv
 ·exact Yd hh j t vs hv
theorem y0 {X:Cx} {pins:List (Addr × Obj)} {σ:L2.St} {H:Hp} {s:Shared} {c:Bool} {a:Addr} {xs:List V} (I:Inv X pins σ H s) (h:SqC c X.K H a xs):∃ its:List Value,Vals xs its /\ SeqC c s.heap a its.toArray:=by
 cases c
 ·obtain ⟨its,r,p,_⟩:=I.list h
  exact ⟨its,r,p.isList⟩
 ·obtain ⟨its,r,p,_⟩:=I.tuple h
  exact ⟨its,r,p⟩
theorem wa {X:Cx} {pins:List (Addr × Obj)} {σ:L2.St} {H:Hp} {s:Shared} {c:Bool} {a:Addr} {xs ys:List V} (I:Inv X pins σ H s) (h:SqC c X.K H a xs) (h':SqC c X.K H a ys):xs = ys:=by
 cases c
 ·exact I.list_inj h h'
 ·exact I.tuple_inj h h'
theorem nne {i j:Nat} (h:i ≠ j):i ≠ j:=h
theorem nin2 {z j t:Nat} (h1:z ≠ j) (h2:z ≠ t):z ∉ ([j,t]:List Nat):=by simp [h1,h2]
def Itz (K:FG7) (c:Bool) (a:Addr) (d:Bool) (b:Addr):It :=
  ⟨fun i H=>∃ xs ys x y,SqC c K H a xs /\ SqC d K H b ys /\ xs[i]? = some x /\ ys[i]? = some y,
   fun i H x H'=>∃ T v w,H T = none /\ x = .ref T /\ H' = upd H T (.tup [v,w]) /\ (∀ xs,SqC c K H a xs -> xs[i]? = some v) /\ ∀ ys,SqC d K H b ys -> ys[i]? = some w,
   fun i H=>∃ xs ys,SqC c K H a xs /\ SqC d K H b ys /\ (xs.length <= i \/ ys.length <= i)⟩
def VQ (c d:Bool) (z TI TO i1 i2 a b:Addr) (i:Nat) (h:Heap):Prop :=
 IsZip h z TI TO .none /\ IsPair h TI (.ref i1) (.ref i2) /\ (∃ u v,IsPair h TO u v) /\ vC c h i1 a i /\ vC d h i2 b i
theorem nad {n:Nat} (i j:Nat) (h:i ≠ j):n + i ≠ n + j:=fun z=>h (Nat.add_left_cancel z)
theorem nad0 {n:Nat} (i:Nat) (h:i ≠ 0):n + i ≠ n:=fun z=>h (Nat.add_left_cancel (z.trans (Nat.add_zero n).symm))
theorem XQ {P:Program} {w:World} {K:FG7} {elts:List Expr} {kt:Nat} {pt:Pos} (c d:Bool) (a b n:Nat) (ha:a < n) (hb:b < n) :
  Turn P w K (.Tuple elts kt pt) (Itz K c a d b) [n + 4,n + 3,n + 2,n + 1,n] (n + 4) (VQ c d (n + 4) (n + 2) (n + 3) n (n + 1) a b) where
 mem:=by simp
 obj:=fun i h st q hq=>by
  obtain ⟨hz,hI,⟨u,v,hO⟩,s1,s2⟩:=st
  simp only [List.mem_cons,List.mem_nil_iff,or_false] at hq
  rcases hq with rfl | rfl | rfl | rfl | rfl
  ·exact ⟨_,hz,fun v z=>by cases z⟩
  ·exact ⟨_,hO,fun v z=>by cases z⟩
  ·exact ⟨_,hI,fun v z=>by cases z⟩
  ·exact s2.obj
  ·exact s1.obj
 keep:=fun i h h' st k=>by
  obtain ⟨hz,hI,⟨u,v,hO⟩,s1,s2⟩:=st
  exact ⟨k _ (by simp) _ hz,k _ (by simp) _ hI,⟨u,v,k _ (by simp) _ hO⟩,s1.at (k _ (by simp)),s2.at (k _ (by simp))⟩
 item:=by
  intro X hP hw hK hc i pins s σ H E I hf st hg
  subst hP hw hK
  obtain ⟨hz,hI,⟨u0,v0,hO⟩,s1,s2⟩:=st
  obtain ⟨xs,ys,x,y,hqa,hqb,hx,hy⟩:=hg
  obtain ⟨ia,ra,pa⟩:=y0 I hqa
  obtain ⟨ib,rb,pb⟩:=y0 I hqb
  obtain ⟨u,hu,ru⟩:=ra.get hx
  obtain ⟨v,hv,rv⟩:=rb.get hy
  have l1:i < ia.toArray.size:=by have:=(List.getElem?_eq_some_iff.mp hu).1; simpa using this
  have l2:i < ib.toArray.size:=by have:=(List.getElem?_eq_some_iff.mp hv).1; simpa using this
  have an:a ≠ n:=Nat.ne_of_lt ha
  have bn:b ≠ n + 1:=by omega
  refine Yk hz (wpAny_mono (Yi (A:=X.A.in1) (Q:=fun v s1=>∃ u,some v = some u /\ wpAny (model X.prog X.w) X.A (letOwnedTupleGo (.Tuple elts kt pt) (.ref (n + 4)) u) (fun _ s2=>∃ x H',Inv X pins σ H' s2 /\ RelV x u /\ (Itz X.K c a d b).yld i H x H' /\ VQ c d (n + 4) (n + 2) (n + 3) n (n + 1) a b (i + 1) s2.heap /\ ∀ b ∈ [n + 4,n + 3,n + 2,n + 1,n],H' b = none) E s1) (jA (A:=X.A.in1) (I.ok.hd hc) c n a an ia.toArray) (jA (A:=X.A.in1) (I.ok.hd hc) d (n + 1) b bn ib.toArray) hz hI hO ⟨s1,pa⟩ ⟨s2,pb⟩ l1 l2
   (nin2 (by first | exact nad _ _ (by decide) | exact nad0 _ (by decide) | exact (nad0 _ (by decide)).symm | omega) (by first | exact nad _ _ (by decide) | exact nad0 _ (by decide) | exact (nad0 _ (by decide)).symm | omega)) (nin2 (by first | exact nad _ _ (by decide) | exact nad0 _ (by decide) | exact (nad0 _ (by decide)).symm | omega) (by first | exact nad _ _ (by decide) | exact nad0 _ (by decide) | exact (nad0 _ (by decide)).symm | omega)) (nin2 (by first | exact nad _ _ (by decide) | exact nad0 _ (by decide) | exact (nad0 _ (by decide)).symm | omega) (by first | exact nad _ _ (by decide) | exact nad0 _ (by decide) | exact (nad0 _ (by decide)).symm | omega)) (nin2 (by first | exact nad _ _ (by decide) | exact nad0 _ (by decide) | exact (nad0 _ (by decide)).symm | omega) (by first | exact nad _ _ (by decide) | exact nad0 _ (by decide) | exact (nad0 _ (by decide)).symm | omega)) (nin2 (by first | exact nad _ _ (by decide) | exact nad0 _ (by decide) | exact (nad0 _ (by decide)).symm | omega) (by first | exact nad _ _ (by decide) | exact nad0 _ (by decide) | exact (nad0 _ (by decide)).symm | omega)) (nin2 (by first | exact nad _ _ (by decide) | exact nad0 _ (by decide) | exact (nad0 _ (by decide)).symm | omega) (by first | exact nad _ _ (by decide) | exact nad0 _ (by decide) | exact (nad0 _ (by decide)).symm | omega)) (nne (by first | exact nad _ _ (by decide) | exact nad0 _ (by decide) | exact (nad0 _ (by decide)).symm | omega)) (nne (by first | exact nad _ _ (by decide) | exact nad0 _ (by decide) | exact (nad0 _ (by decide)).symm | omega)) (nne (by first | exact nad _ _ (by decide) | exact nad0 _ (by decide) | exact (nad0 _ (by decide)).symm | omega)) (nne (by first | exact nad _ _ (by decide) | exact nad0 _ (by decide) | exact (nad0 _ (by decide)).symm | omega)) (nne (by first | exact nad _ _ (by decide) | exact nad0 _ (by decide) | exact (nad0 _ (by decide)).symm | omega)) (nne (by first | exact nad _ _ (by decide) | exact nad0 _ (by decide) | exact (nad0 _ (by decide)).symm | omega)) (nne (by first | exact nad _ _ (by decide) | exact nad0 _ (by decide) | exact (nad0 _ (by decide)).symm | omega)) (nne (by first | exact nad _ _ (by decide) | exact nad0 _ (by decide) | exact (nad0 _ (by decide)).symm | omega)) (nne (by first | exact nad _ _ (by decide) | exact nad0 _ (by decide) | exact (nad0 _ (by decide)).symm | omega)) ?_) (fun fin s' hq=>hq) (fun e s' (hq:False)=>hq.elim))
  intro p q h1 tk hp hq hz1 hI1 hO1 st1 st2 hT hsz hk
  have ep:p = u:=by
   have e1:ia.toArray[i]? = some p:=hp
   have e2:ia.toArray[i]? = some u:=by simpa using hu
   rw [e1] at e2; exact Option.some.inj e2
  have eq':q = v:=by
   have e1:ib.toArray[i]? = some q:=hq
   have e2:ib.toArray[i]? = some v:=by simpa using hv
   rw [e1] at e2; exact Option.some.inj e2
  subst ep eq'
  refine ⟨_,rfl,wpAny_letOwnedTupleGo_zip (s:={ s with heap:=h1,toks:=tk }) hz1 fun h2 hz2 hs2=>?_⟩
  have hk2:∀ b o,b ∉ [n + 4,n + 3,n + 2,n + 1,n] -> s.heap.get? b = some o -> h2.get? b = some o:=fun b o hb q=>by
   have n1:b ≠ n + 4:=fun z=>hb (by simp [z])
   have n2:b ≠ n + 3:=fun z=>hb (by simp [z])
   have n3:b ≠ n + 1:=fun z=>hb (by simp [z])
   have n4:b ≠ n:=fun z=>hb (by simp [z])
   exact (hs2.2 b n1).trans (hk b o n1 n2 n4 n3 q)
  have zs:n + 4 < s.heap.objs.size:=Heap.lt_size hz
  have hT2:h2.get? s.heap.objs.size = some { cls:=.type "tuple",data:=.seq #[p,q] }:=(hs2.2 _ (Nat.ne_of_gt zs)).trans hT
  have hn:H s.heap.objs.size = none:=I.hok.fresh (Nat.le_refl _)
  have I2:Inv X pins σ (upd H s.heap.objs.size (.tup [x,y])) { s with heap:=h2,toks:=tk }:=jz (s:=s) I hk2 hf (Nat.le_refl _) ⟨by show 2 <= sizeLine; decide,[p,q],.cons ru (.cons rv .nil),_,hT2,rfl,0,rfl⟩
  refine ⟨.ref s.heap.objs.size,upd H s.heap.objs.size (.tup [x,y]),I2,rfl,⟨_,x,y,hn,rfl,rfl,fun zs hz=>by rw [wa I hz hqa]; exact hx,fun zs hz=>by rw [wa I hz hqb]; exact hy⟩,⟨hz2,(hs2.2 _ (nne (by first | exact nad _ _ (by decide) | exact nad0 _ (by decide) | exact (nad0 _ (by decide)).symm | omega))).trans hI1,⟨p,q,(hs2.2 _ (nne (by first | exact nad _ _ (by decide) | exact nad0 _ (by decide) | exact (nad0 _ (by decide)).symm | omega))).trans hO1⟩,st1.1.at fun o e=>(hs2.2 _ (nne (by first | exact nad _ _ (by decide) | exact nad0 _ (by decide) | exact (nad0 _ (by decide)).symm | omega))).trans e,st2.1.at fun o e=>(hs2.2 _ (nne (by first | exact nad _ _ (by decide) | exact nad0 _ (by decide) | exact (nad0 _ (by decide)).symm | omega))).trans e⟩,fun q hq=>?_⟩
  have nb:q ≠ s.heap.objs.size:=by
   simp only [List.mem_cons,List.mem_nil_iff,or_false] at hq
   omega
  rw [zo nb]; exact (hf q hq).1
 done:=by
  intro X hP hw hK hc i pins s σ H E I hf st hg
  subst hP hw hK
  obtain ⟨hz,hI,⟨u0,v0,hO⟩,s1,s2⟩:=st
  obtain ⟨xs,ys,hqa,hqb,hl⟩:=hg
  obtain ⟨ia,ra,pa⟩:=y0 I hqa
  obtain ⟨ib,rb,pb⟩:=y0 I hqb
  have la:=ra.length
  have lb:=rb.length
  have an:a ≠ n:=Nat.ne_of_lt ha
  have fin:∀ (h':Heap) (e:Addr) (tk:Nat),(∀ c o,c ≠ n + 4 -> c ≠ n + 3 -> c ≠ n -> c ≠ n + 1 -> s.heap.get? c = some o -> h'.get? c = some o) -> Inv X pins σ H { s with heap:=h',toks:=tk }:=fun h' e tk k =>
   qz (fp:=[n + 4,n + 3,n + 2,n + 1,n]) I (fun b o hb q=>k b o (fun z=>hb (by simp [z])) (fun z=>hb (by simp [z])) (fun z=>hb (by simp [z])) (fun z=>hb (by simp [z])) q) hf
  by_cases h1:xs.length <= i
  ·refine Yk hz (XN (A:=X.A.in1) (vD (A:=X.A.in1) (I.ok.hd hc) c n a ia.toArray (i:=i) (by simp; omega)) hz hI hO ⟨rfl,s1,pa⟩ (nin2 (by first | exact nad _ _ (by decide) | exact nad0 _ (by decide) | exact (nad0 _ (by decide)).symm | omega) (by first | exact nad _ _ (by decide) | exact nad0 _ (by decide) | exact (nad0 _ (by decide)).symm | omega)) (nne (by first | exact nad _ _ (by decide) | exact nad0 _ (by decide) | exact (nad0 _ (by decide)).symm | omega)) fun h' e tk k ho=>⟨e,rfl,ho,rfl,fin h' e tk k⟩)
  ·have h2:ys.length <= i:=by omega
   refine Yk hz (XO (A:=X.A.in1) (jA (A:=X.A.in1) (I.ok.hd hc) c n a an ia.toArray) (vD (A:=X.A.in1) (I.ok.hd hc) d (n + 1) b ib.toArray (i:=i) (by simp; omega)) hz hI hO ⟨s1,pa⟩ ⟨rfl,s2,pb⟩ (by simp; omega) (nin2 (by first | exact nad _ _ (by decide) | exact nad0 _ (by decide) | exact (nad0 _ (by decide)).symm | omega) (by first | exact nad _ _ (by decide) | exact nad0 _ (by decide) | exact (nad0 _ (by decide)).symm | omega)) (nin2 (by first | exact nad _ _ (by decide) | exact nad0 _ (by decide) | exact (nad0 _ (by decide)).symm | omega) (by first | exact nad _ _ (by decide) | exact nad0 _ (by decide) | exact (nad0 _ (by decide)).symm | omega)) (nin2 (by first | exact nad _ _ (by decide) | exact nad0 _ (by decide) | exact (nad0 _ (by decide)).symm | omega) (by first | exact nad _ _ (by decide) | exact nad0 _ (by decide) | exact (nad0 _ (by decide)).symm | omega)) (nin2 (by first | exact nad _ _ (by decide) | exact nad0 _ (by decide) | exact (nad0 _ (by decide)).symm | omega) (by first | exact nad _ _ (by decide) | exact nad0 _ (by decide) | exact (nad0 _ (by decide)).symm | omega)) (nne (by first | exact nad _ _ (by decide) | exact nad0 _ (by decide) | exact (nad0 _ (by decide)).symm | omega)) (nne (by first | exact nad _ _ (by decide) | exact nad0 _ (by decide) | exact (nad0 _ (by decide)).symm | omega)) (nne (by first | exact nad _ _ (by decide) | exact nad0 _ (by decide) | exact (nad0 _ (by decide)).symm | omega)) (nne (by first | exact nad _ _ (by decide) | exact nad0 _ (by decide) | exact (nad0 _ (by decide)).symm | omega)) fun h' e tk k ho=>⟨e,rfl,ho,rfl,fin h' e tk k⟩)
 self:=fun _ _ _ _ _ st h=>wpAny_pyIter_zip st.1 h
section
variable {X:Cx} {elts:List Expr} {kt:Nat} {pt:Pos}
theorem UC:bootBuiltins "zip" = some (.type "zip"):=by decide +kernel
def iZip (K:FG7) (ta:TA):TI:=fun σ H R=>ta σ H fun vs H1=>∃ (c d:Bool) (a b:Addr),vs = [.ref a,.ref b] /\ (∃ xs,SqC c K H1 a xs) /\ (∃ ys,SqC d K H1 b ys) /\ R (Itz K c a d b) H1
end
section
variable {X:Cx} {elts:List Expr} {kt:Nat} {pt:Pos} {K:FG7}
theorem VR {a b:Expr} {ta:TA} {p pos:Pos} (hK:X.K = K) (hg:Gl X "zip") (hm:X.mg "zip" = none) (ha:PA X [a,b] ta) (hs:starEach [a,b] X.env = [(false,eval a X.env),(false,eval b X.env)]:=by rfl) (hs2:starEach [b] X.env = [(false,eval b X.env)]:=by rfl) :
  PI X (.Tuple elts kt pt) (.Call (.Name "zip" p) [a,b] [] pos) (iZip K ta):=by
 subst hK
 intro pins s σ H R I h
 refine Call_ (vN I hg hm UC (PyProof.Rows.callWith_type1 (thn (ha pos pins s σ H _ I h) fun us s1 ⟨vs,H1,I1,r1,q1⟩=>?_) (by rw [hs,hs2]) (by rw [hs2]; rfl)))
 obtain ⟨c,d,ra,rb,e,⟨xs,hqa⟩,⟨ys,hqb⟩,q⟩:=q1
 subst e
 obtain ⟨u,w',rfl,e1,e2⟩:=jV r1
 cases (show u = Value.ref ra from e1)
 cases (show w' = Value.ref rb from e2)
 obtain ⟨ia,va,pa⟩:=y0 I1 hqa
 obtain ⟨ib,vb,pb⟩:=y0 I1 hqb
 refine Yl pa.src pb.src fun h' hz hI hO h1 h2 hk=>?_
 refine wpAny_pyIter_zip (s:={ s1 with heap:=h' }) hz ?_
 have I2:Inv X pins σ H1 { s1 with heap:=h' }:=I1.kept (t':=s1.toks) hk
 refine ⟨s1.heap.objs.size + 4,[s1.heap.objs.size + 4,s1.heap.objs.size + 3,s1.heap.objs.size + 2,s1.heap.objs.size + 1,s1.heap.objs.size],_,_,H1,rfl,I2,XQ c d ra rb s1.heap.objs.size pa.lt pb.lt,⟨hz,hI,⟨_,_,hO⟩,.mk h1,.mk h2⟩,fun b hb=>?_,q⟩
 have hle:s1.heap.objs.size <= b:=by
  simp only [List.mem_cons,List.mem_nil_iff,or_false] at hb
  rcases hb with rfl | rfl | rfl | rfl | rfl <;> first | exact Nat.le_add_right _ _ | exact Nat.le_refl _
 exact I1.fpOk hle (I1.hok.fresh hle)
end
section
variable {K:FG7} {a b:Addr} {c d:Bool} {xs ys:List V} {g:TG} {tt:TT} {te:TE} {tb:TS} {D:Ends} {Q:VK} {σ:L2.St} {H:Hp}
theorem W3 (Pv:Nat -> L2.St -> Hp -> Prop) (h0:Pv 0 σ H) (hl:∀ i σ H,Pv i σ H -> SqC c K H a xs /\ SqC d K H b ys)
  (hs:∀ i x y σ H T,xs[i]? = some x -> ys[i]? = some y -> Pv i σ H -> H T = none -> g (.ref T) σ (upd H T (.tup [x,y])) fun σ2 H2=>tb { D with nx:=Pv (i + 1),ct:=Pv (i + 1),bk:=D.nx } σ2 H2) (hd:∀ σ H,Pv (min xs.length ys.length) σ H -> D.nx σ H) :
  ∃ W:Nat -> Nat -> L2.St -> Hp -> Prop,(∃ m,W 0 m σ H) /\ ∀ i m σ H,W i m σ H →
   ((Itz K c a d b).stop i H /\ D.nx σ H) \/ ((Itz K c a d b).go i H /\ ∃ N:L2.St -> Hp -> Prop,(∀ σ' H',N σ' H' -> ∃ m',m' < m /\ W (i + 1) m' σ' H') /\ ∀ x H',(Itz K c a d b).yld i H x H' -> g x σ H' fun σ2 H2=>tb { D with nx:=N,ct:=N,bk:=D.nx } σ2 H2):=by
 refine ⟨fun i m σ H=>m = min xs.length ys.length - i /\ i <= min xs.length ys.length /\ Pv i σ H,⟨min xs.length ys.length,by simp,Nat.zero_le _,h0⟩,?_⟩
 rintro i m σ H ⟨rfl,hi,p⟩
 obtain ⟨q1,q2⟩:=hl i σ H p
 by_cases hlt:i < min xs.length ys.length
 ·have l1:i < xs.length:=by omega
  have l2:i < ys.length:=by omega
  refine .inr ⟨⟨xs,ys,xs[i],ys[i],q1,q2,by simp [l1],by simp [l2]⟩,Pv (i + 1),fun σ' H' p'=>⟨min xs.length ys.length - (i + 1),by omega,rfl,hlt,p'⟩,fun x H' y=>?_⟩
  obtain ⟨T,v,w,hT,rfl,rfl,y1,y2⟩:=y
  exact hs i v w σ H T (y1 xs q1) (y2 ys q2) p hT
 ·have e:i = min xs.length ys.length:=by omega
  subst e
  exact .inl ⟨⟨xs,ys,q1,q2,by omega⟩,hd σ H p⟩
end
section
variable {prog:Program} {w:World} {A:Around} {E:VS7} {s:Shared}
open PySem.AutoSeq1 (wpAny_loadPart')
theorem Ym (t:Addr) (c:Bool) (vs:Array Value) :
  Meets (Builtin.«enumerate.__new__» ⟨[.type "enumerate",.ref t],[]⟩) (fun _ R s=>SeqC c s.heap t vs ∧
   R (.ok (.ret (.ref (s.heap.push (zpO (cnC c) t)).objs.size)))
    { s with heap:=(s.heap.push (zpO (cnC c) t)).push { cls:=.type "enumerate",data:=.fields #[.none,.bool false,.ref s.heap.objs.size,rawInt 0,.none,.none] } }) :=
 .of_wp fun prog w A R s h=>by
  obtain ⟨hp,g,d,tk,os⟩:=s; obtain ⟨hT,h⟩:=h
  have hT':wG (Shared.heap ⟨hp,g,d,tk,os⟩) t (cnC c) vs:=hT.src
  obtain ⟨ot,hot⟩:∃ o,hp.get? t = some o:=by
   cases c
   ·obtain ⟨o,e,_⟩:=(show hp.IsList t vs from hT); exact ⟨o,e⟩
   ·obtain ⟨o,e,_⟩:=(show hp.IsTuple t vs from hT); exact ⟨o,e⟩
  have hsub:=sub_enumerate
  wp_walk using wpAny_loadPart' hot
  refine wpAny_stack_any fun st=>wpAny_pure ?_
  split
  ·rename_i c' _ _ _ _ _
   cases (c' == Value.type "enumerate") <;> (wp_walk using wpAny_loadPart' hot,wG.iter hT') <;> exact ⟨_,rfl,h⟩
  ·wp_walk using wpAny_loadPart' hot,wG.iter hT'
   exact ⟨_,rfl,h⟩
theorem j9 {t:Addr} {c:Bool} {vs:Array Value} {Q:VS7} (ht:SeqC c s.heap t vs)
  (h:∀ h',IsEnum h' (s.heap.objs.size + 1) s.heap.objs.size 0 .none -> vC c h' s.heap.objs.size t 0 -> h'.objs.size = s.heap.objs.size + 2 -> (∀ b o,s.heap.get? b = some o -> h'.get? b = some o) -> Q (.ref (s.heap.objs.size + 1)) { s with heap:=h' }) :
  wpAny (model prog w) A (call (.type "enumerate") [.ref t]) Q E s:=by
 refine callType_new F.called_enumerate (by decide) (F.typeCall_enumerate_1 _) (F.newCall_enumerate_1 _) (fun obj=>F.args_object_init_2 obj _) F.entry_enumerate_new (Ym t c vs) ⟨ht,?_⟩
 have hz:(s.heap.push (zpO (cnC c) t)).objs.size = s.heap.objs.size + 1:=Heap.size_push ..
 show _ /\ _
 rw [hz]
 have he:IsEnum ((s.heap.push (zpO (cnC c) t)).push { cls:=.type "enumerate",data:=.fields #[.none,.bool false,.ref s.heap.objs.size,rawInt 0,.none,.none] }) (s.heap.objs.size + 1) s.heap.objs.size 0 .none:=by
  have:=Heap.get?_push_size (s.heap.push (zpO (cnC c) t)) (o:={ cls:=.type "enumerate",data:=.fields #[.none,.bool false,.ref s.heap.objs.size,rawInt 0,.none,.none] }) rfl
  rw [hz] at this; exact this
 exact ⟨⟨_,he,rfl⟩,h _ he (.mk (Heap.get?_push_of_some _ (Heap.get?_push_size _ rfl))) (by rw [Heap.size_push,Heap.size_push]) fun b o x=>Heap.get?_push_of_some _ (Heap.get?_push_of_some _ x)⟩
end
def IteC (c:Bool) (K:FG7) (a:Addr):It :=
 ⟨fun i H=>∃ xs x,SqC c K H a xs /\ xs[i]? = some x,fun i H x H'=>∃ T v,H T = none /\ x = .ref T /\ H' = upd H T (.tup [.int i,v]) /\ ∀ xs,SqC c K H a xs -> xs[i]? = some v,fun i H=>∃ xs,SqC c K H a xs /\ xs.length <= i⟩
theorem Za {P:Program} {w:World} {K:FG7} {elts:List Expr} {kt:Nat} {pt:Pos} (c:Bool) (a e jt:Addr) (hej:e ≠ jt) (hae:a ≠ e) (haj:a ≠ jt) :
  Turn P w K (.Tuple elts kt pt) (IteC c K a) [e,jt] e (fun i h=>(∃ old,IsEnum h e jt i old) /\ vC c h jt a i) where
 mem:=by simp
 obj:=fun i h st b hb=>by
  obtain ⟨⟨old,he⟩,st⟩:=st
  simp only [List.mem_cons,List.mem_nil_iff,or_false] at hb
  rcases hb with rfl | rfl
  ·exact ⟨_,he,fun v z=>by cases z⟩
  ·exact st.obj
 keep:=fun i h h' st k=>by
  obtain ⟨⟨old,he⟩,st⟩:=st
  exact ⟨⟨old,k e (by simp) _ he⟩,st.at fun o q=>k jt (by simp) o q⟩
 item:=by
  intro X hP hw hK hc i pins s σ H E I hf st hg
  subst hP hw hK
  obtain ⟨⟨old,he⟩,hit⟩:=st
  obtain ⟨xs,x,hq,hx⟩:=hg
  obtain ⟨its,rv,p⟩:=y0 I hq
  obtain ⟨u,hu,ru⟩:=rv.get hx
  have hlt:i < its.toArray.size:=by have:=(List.getElem?_eq_some_iff.mp hu).1; simpa using this
  refine wpAny_pyNext_enum_itemD (jA (A:=X.A.in1) (I.ok.hd hc) c jt a haj its.toArray) he ⟨hit,p⟩ hlt hej (by simp [hej,Ne.symm hae]) fun v h1 tk hv hout hst1 hT hsz hk=>?_
  have hvu:v = u:=by
   have e1:its.toArray[i]? = some v:=hv
   have e2:its.toArray[i]? = some u:=by simpa using hu
   rw [e1] at e2; exact Option.some.inj e2
  subst hvu
  refine ⟨_,rfl,wpAny_letOwnedTupleGo_enum (s:={ s with heap:=h1,toks:=tk + 1 }) hout fun h2 he2 hs2=>?_⟩
  have hk2:∀ b o,b ∉ [e,jt] -> s.heap.get? b = some o -> h2.get? b = some o:=fun b o hb q=>by
   have n1:b ≠ e:=fun z=>hb (by simp [z])
   have n2:b ≠ jt:=fun z=>hb (by simp [z])
   exact (hs2.2 b n1).trans (hk b o n1 n2 q)
  have eT:s.heap.objs.size ≠ e:=Nat.ne_of_gt (Heap.lt_size he)
  have hT2:h2.get? s.heap.objs.size = some { cls:=.type "tuple",data:=.seq #[.int i tk,v] }:=(hs2.2 _ eT).trans hT
  have hn:H s.heap.objs.size = none:=I.hok.fresh (Nat.le_refl _)
  have I2:Inv X pins σ (upd H s.heap.objs.size (.tup [.int i,x])) { s with heap:=h2,toks:=tk + 1 }:=jz (s:=s) I hk2 hf (Nat.le_refl _) ⟨by show 2 <= sizeLine; decide,[.int i tk,v],.cons ⟨_,rfl⟩ (.cons ru .nil),_,hT2,rfl,0,rfl⟩
  refine ⟨.ref s.heap.objs.size,upd H s.heap.objs.size (.tup [.int i,x]),I2,rfl,⟨_,x,hn,rfl,rfl,fun ys hy=>by rw [wa I hy hq]; exact hx⟩,⟨⟨v,by simpa using he2⟩,?_⟩,fun b hb=>?_⟩
  ·exact hst1.1.at fun o q=>(hs2.2 jt (Ne.symm hej)).trans q
  ·have nb:b ≠ s.heap.objs.size:=by
    obtain ⟨oj,hoj,_⟩:=hit.obj
    simp only [List.mem_cons,List.mem_nil_iff,or_false] at hb
    rcases hb with rfl | rfl
    ·exact Ne.symm eT
    ·exact Nat.ne_of_lt (Heap.lt_size hoj)
   rw [zo nb]; exact (hf b hb).1
 done:=by
  intro X hP hw hK hc i pins s σ H E I hf st hg
  subst hP hw hK
  obtain ⟨⟨old,he⟩,hit⟩:=st
  obtain ⟨xs,hq,hx⟩:=hg
  obtain ⟨its,rv,p⟩:=y0 I hq
  have hl:=rv.length
  refine wpAny_pyNext_enum_endD (vD (A:=X.A.in1) (I.ok.hd hc) c jt a its.toArray (i:=i) (by simp; omega)) he ⟨rfl,hit,p⟩ fun h' eb=>⟨rfl,?_⟩
  exact qz (fp:=[e,jt]) (t':=s.toks) I (fun b o hb q=>eb b o (fun z=>hb (by simp [z])) q) hf
 self:=fun _ _ _ _ _ st h=>by
  obtain ⟨⟨old,he⟩,_⟩:=st
  exact wpAny_pyIter_enum he h
section
variable {X:Cx} {elts:List Expr} {kt:Nat} {pt:Pos} {K:FG7}
def VS (c:Bool) (K:FG7) (ta:TA):TI:=fun σ H R=>ta σ H fun vs H1=>∃ a xs,vs = [.ref a] /\ SqC c K H1 a xs /\ R (IteC c K a) H1
theorem xk {a:Expr} {ta:TA} {p pos:Pos} (c:Bool) (hK:X.K = K) (hg:Gl X "enumerate") (hm:X.mg "enumerate" = none) (ha:PA X [a] ta) (hs:starEach [a] X.env = [(false,eval a X.env)]:=by rfl) :
  PI X (.Tuple elts kt pt) (.Call (.Name "enumerate" p) [a] [] pos) (VS c K ta):=by
 subst hK
 intro pins s σ H R I h
 refine Call_ (vN I hg hm VN (PyProof.Rows.callWith_type1 (thn (ha pos pins s σ H _ I h) fun us s1 ⟨vs,H1,I1,r1,q1⟩=>?_) hs rfl))
 obtain ⟨t,xs,e,hq,q⟩:=q1
 subst e
 obtain ⟨u,rfl,e1⟩:=xY r1
 cases (show u = Value.ref t from e1)
 obtain ⟨its,rv,p⟩:=y0 I1 hq
 refine j9 p fun h' he hit _ hk=>?_
 refine wpAny_pyIter_enum he ?_
 have lt:t < s1.heap.objs.size:=p.lt
 have I2:Inv X pins σ H1 { s1 with heap:=h' }:=I1.kept (t':=s1.toks) hk
 refine ⟨s1.heap.objs.size + 1,[s1.heap.objs.size + 1,s1.heap.objs.size],_,_,H1,rfl,I2,Za c t (s1.heap.objs.size + 1) s1.heap.objs.size (Nat.succ_ne_self _) (Nat.ne_of_lt (Nat.lt_succ_of_lt lt)) (Nat.ne_of_lt lt),⟨⟨_,he⟩,hit⟩,fun b hb=>?_,q⟩
 simp only [List.mem_cons,List.mem_nil_iff,or_false] at hb
 rcases hb with rfl | rfl
 ·exact I1.fpOk (Nat.le_succ _) (I1.hok.fresh (Nat.le_succ _))
 ·exact I1.fpOk (Nat.le_refl _) (I1.hok.fresh (Nat.le_refl _))
end
section
variable {K:FG7} {a:Addr} {c:Bool} {xs:List V} {g:TG} {tt:TT} {te:TE} {tb:TS} {D:Ends} {Q:VK} {σ:L2.St} {H:Hp}
theorem ut (Pv:Nat -> L2.St -> Hp -> Prop) (h0:Pv 0 σ H) (hl:∀ i σ H,i <= xs.length -> Pv i σ H -> SqC c K H a xs)
  (hs:∀ i x σ H T,xs[i]? = some x -> Pv i σ H -> H T = none -> g (.ref T) σ (upd H T (.tup [.int i,x])) fun σ2 H2=>tb { D with nx:=Pv (i + 1),ct:=Pv (i + 1),bk:=D.nx } σ2 H2) (hd:∀ σ H,Pv xs.length σ H -> D.nx σ H) :
  ∃ W:Nat -> Nat -> L2.St -> Hp -> Prop,(∃ m,W 0 m σ H) /\ ∀ i m σ H,W i m σ H →
   ((IteC c K a).stop i H /\ D.nx σ H) \/ ((IteC c K a).go i H /\ ∃ N:L2.St -> Hp -> Prop,(∀ σ' H',N σ' H' -> ∃ m',m' < m /\ W (i + 1) m' σ' H') /\ ∀ x H',(IteC c K a).yld i H x H' -> g x σ H' fun σ2 H2=>tb { D with nx:=N,ct:=N,bk:=D.nx } σ2 H2):=by
 refine ⟨fun i m σ H=>m = xs.length - i /\ i <= xs.length /\ Pv i σ H,⟨xs.length,by simp,Nat.zero_le _,h0⟩,?_⟩
 rintro i m σ H ⟨rfl,hi,p⟩
 have q:=hl i σ H hi p
 by_cases hlt:i < xs.length
 ·refine .inr ⟨⟨xs,xs[i],q,by simp [hlt]⟩,Pv (i + 1),fun σ' H' p'=>⟨xs.length - (i + 1),by omega,rfl,hlt,p'⟩,fun x H' y=>?_⟩
  obtain ⟨T,v,hT,rfl,rfl,y⟩:=y
  exact hs i v σ H T (y xs q) p hT
 ·have e:i = xs.length:=by omega
  subst e
  exact .inl ⟨⟨xs,q,Nat.le_refl _⟩,hd σ H p⟩
theorem xA (Pv:Nat -> List V -> L2.St -> Hp -> Prop) (h0:Pv 0 [] σ H) (hl:∀ i zs σ H,Pv i zs σ H -> SqC c K H a xs)
  (hs:∀ i x zs σ H T,xs[i]? = some x -> Pv i zs σ H -> H T = none -> g (.ref T) σ (upd H T (.tup [.int i,x])) fun σ2 H3=>tt σ2 H3 fun b H4=>if b = true then te σ2 H4 fun y H5=>zs.length < sizeLine /\ Pv (i + 1) (zs ++ [y]) σ2 H5 else Pv (i + 1) zs σ2 H4)
  (hd:∀ zs σ H,Pv xs.length zs σ H -> ∀ l,H l = none -> Q (.ref l) (upd H l (.lst zs))) :
  vY (IteC c K a) σ H g tt te Q:=by
 refine ⟨fun i m zs σ H=>m = xs.length - i /\ i <= xs.length /\ Pv i zs σ H,⟨xs.length,by simp,Nat.zero_le _,h0⟩,?_⟩
 rintro i m zs σ H ⟨rfl,hi,p⟩
 have q:=hl i zs σ H p
 by_cases hlt:i < xs.length
 ·refine .inr ⟨⟨xs,xs[i],q,by simp [hlt]⟩,Pv (i + 1),fun ws σ' H' p'=>⟨xs.length - (i + 1),by omega,rfl,hlt,p'⟩,fun x H' y=>?_⟩
  obtain ⟨T,v,hT,rfl,rfl,y1⟩:=y
  exact hs i v zs σ H T (y1 xs q) p hT
 ·have e:i = xs.length:=by omega
  subst e
  exact .inl ⟨⟨xs,q,Nat.le_refl _⟩,hd zs σ H p⟩
end
section
variable {X:Cx}
variable {K:FG7}
theorem uu {es:List Expr} {k:Nat} {pos:Pos} {t:TGs} (n:Nat) (h0:X.K = K) (hc:X.calm = true) (h:PGs X es t)
  (hn:(assignEach es X.env).length = n) (hst:(assignEach es X.env).findIdx? (·.1) = none):PG X (.Tuple es k pos) (gTup K n t):=by subst h0; exact xi hc h hn hst
theorem Zb (h:X.K = K):yY X (.type "list") (fun xs H Q=>∃ p ys,xs = [.ref p] /\ (SqL K H p ys \/ SqT K H p ys) /\ ∀ l,H l = none -> Q (.ref l) (upd H l (.lst ys))):=by subst h; exact yT
end
theorem xy:∀ {ns:List Int} {us:List Value},IntsAre us ns -> Vals (ns.map V.int) us:=by
 intro ns us h
 induction h with
 | nil=>exact .nil
 | cons n t _ ih=>exact .cons ⟨t,rfl⟩ ih
section
variable {X:Cx} {K:FG7}
theorem ub {α β:Type} {f g:α -> Option β}:∀ {l:List α},(∀ x ∈ l,f x = g x) -> l.filterMap f = l.filterMap g
 | [],_=>rfl
 | x :: xs,h=>by rw [List.filterMap_cons,List.filterMap_cons,h x (by simp),ub fun y hy=>h y (List.mem_cons_of_mem _ hy)]
theorem sk (its:List Value):slicePick its.toArray none none (some (-1)) = its.reverse.toArray:=by
 have key:∀ l:List Value,((List.range l.length).map fun k:Nat=>((l.length:Int) - 1 + -1 * (k:Int)).toNat).filterMap (l.toArray[·]?) = l.reverse:=by
  intro l
  refine List.ext_getElem? fun i=>?_
  have e:((List.range l.length).map fun k:Nat=>((l.length:Int) - 1 + -1 * (k:Int)).toNat).filterMap (l.toArray[·]?) = (List.range l.length).filterMap fun k=>l[l.length - 1 - k]?:=by
   rw [List.filterMap_map]
   refine ub fun k hk=>?_
   have:=List.mem_range.mp hk
   show l.toArray[((l.length:Int) - 1 + -1 * (k:Int)).toNat]? = _
   rw [show ((l.length:Int) - 1 + -1 * (k:Int)).toNat = l.length - 1 - k by omega]; simp
  have e2:(List.range l.length).filterMap (fun k=>l[l.length - 1 - k]?) = (List.range l.length).map fun k=>l.getD (l.length - 1 - k) .none:=by
   rw [← List.filterMap_eq_map]
   refine ub fun k hk=>?_
   have:=List.mem_range.mp hk
   rw [List.getElem?_eq_getElem (by omega)]
   show _ = some (l.getD (l.length - 1 - k) .none)
   rw [List.getD_eq_getElem?_getD,List.getElem?_eq_getElem (by omega)]; rfl
  rw [e,e2,List.getElem?_map]
  by_cases hi:i < l.length
  ·rw [List.getElem?_range hi,List.getElem?_reverse hi,List.getElem?_eq_getElem (by omega)]
   show some (l.getD (l.length - 1 - i) .none) = _
   rw [List.getD_eq_getElem?_getD,List.getElem?_eq_getElem (by omega)]; rfl
  ·rw [List.getElem?_eq_none (by rw [List.length_range]; omega),List.getElem?_eq_none (by rw [List.length_reverse]; omega)]; rfl
 unfold slicePick
 have b1:(sliceBounds none none (some (-1)) its.toArray.size).1 = (its.length:Int) - 1:=by simp [sliceBounds]
 have b2:(sliceBounds none none (some (-1)) its.toArray.size).2.1 = -1:=by simp [sliceBounds]
 have b3:(sliceBounds none none (some (-1)) its.toArray.size).2.2 = -1:=rfl
 rw [b1,b2,b3]
 have c:sliceRange ((its.length:Int) - 1) (-1) (-1) = (List.range its.length).map fun k:Nat=>((its.length:Int) - 1 + -1 * (k:Int)).toNat:=by
  unfold sliceRange
  by_cases h:its.length = 0
  ·rw [h]; rfl
  ·rw [if_neg (by decide),if_pos (by omega)]
   have:(((its.length:Int) - 1 - -1 - -1 - 1) / (- -1)).toNat = its.length:=by
    rw [show ((its.length:Int) - 1 - -1 - -1 - 1) = its.length by omega,show (- -1:Int) = 1 from rfl,Int.ediv_one]; omega
   dsimp only
   rw [this]
 rw [c,key]
theorem Yn:∀ {xs:List V} {us:List Value},Vals xs us -> Vals xs.reverse us.reverse
 | _,_,.nil=>.nil
 | _,_,.cons r t=>by
  rw [List.reverse_cons,List.reverse_cons]
  exact (Yn t).append (.cons r .nil)
end
theorem Yo {xs:List V} {c:Nat}:cutV xs none (some (c:Int)) = xs.take c:=by
 unfold cutV
 rw [HT.sIx_none,HT.sIx_nat,List.drop_zero,Nat.sub_zero]
 by_cases h:c <= xs.length
 ·rw [Nat.min_eq_left h]
 ·rw [Nat.min_eq_right (by omega),List.take_of_length_le (by omega),List.take_of_length_le (by omega)]
theorem qA {xs:List V} {c:Nat}:cutV xs (some (c:Int)) none = xs.drop c:=by
 unfold cutV
 rw [HT.sIx_none,HT.sIx_nat]
 by_cases h:c <= xs.length
 ·rw [Nat.min_eq_left h,List.take_of_length_le (by rw [List.length_drop]; exact Nat.le_refl _)]
 ·rw [Nat.min_eq_right (by omega),List.drop_eq_nil_of_le (by omega),List.drop_eq_nil_of_le (by omega)]; simp
mutual
inductive Dq (K:FG7) (H:Hp):V -> PyData -> Prop
 | non:Dq K H .non .none
 | bl (b:Bool):Dq K H (.bl b) (.bool b)
 | int (i:Int):Dq K H (.int i) (.int i)
 | str (x:Str):Dq K H (.str x) (.str x)
 | tup {a:Addr} {xs:List V} {ds:List PyData}:SqT K H a xs -> DqAll K H xs ds -> Dq K H (.ref a) (.tuple ds)
 | lst {a:Addr} {xs:List V} {ds:List PyData}:SqL K H a xs -> DqAll K H xs ds -> Dq K H (.ref a) (.list ds)
inductive DqAll (K:FG7) (H:Hp):List V -> List PyData -> Prop
 | nil:DqAll K H [] []
 | cons {x:V} {xs:List V} {d:PyData} {ds:List PyData}:Dq K H x d -> DqAll K H xs ds -> DqAll K H (x :: xs) (d :: ds)
end
theorem DqAll.len {K:FG7} {H:Hp}:∀ {xs:List V} {ds:List PyData},DqAll K H xs ds -> xs.length = ds.length
 | _,_,.nil=>rfl
 | _,_,.cons _ t=>congrArg (· + 1) (DqAll.len t)
theorem ww (n:Nat):(List.range n).all (fun _=>true) = true:=List.all_eq_true.mpr fun _ _=>rfl
section
variable {X:Cx} {pins:List (Addr × Obj)} {σ:L2.St} {H:Hp} {s:Shared}
mutual
theorem dq_eq (I:Inv X pins σ H s):∀ {d:PyData} {x y:V} {u v:Value} {A:Around},Dq X.K H x d -> Dq X.K H y d -> RelV x u -> RelV y v -> A.units + d.depth < cLine -> SeqAt.EqAt A s u v true
 | _,_,y,u,v,A,.non,hy,ru,rv,_=>by
  cases hy
  cases (show u = Value.none from ru)
  cases (show v = Value.none from rv)
  exact SeqAt.EqAt.same _
 | _,_,y,u,v,A,.bl b,hy,ru,rv,_=>by
  cases hy
  cases (show u = Value.bool b from ru)
  cases (show v = Value.bool b from rv)
  exact SeqAt.EqAt.same _
 | _,_,y,u,v,A,.int i,hy,ru,rv,_=>by
  cases hy
  obtain ⟨t,rfl⟩:=ru
  obtain ⟨t',rfl⟩:=rv
  have z:=SeqAt.EqAt.int_int (A:=A) (s:=s) i t i t'
  rw [beq_self_eq_true] at z
  exact z
 | _,_,y,u,v,A,.str x,hy,ru,rv,_=>by
  cases hy
  obtain ⟨t,rfl⟩:=ru
  obtain ⟨t',rfl⟩:=rv
  have z:=SeqAt.EqAt.str_str (A:=A) (s:=s) x t x t'
  rw [beq_self_eq_true] at z
  exact z
 | _,_,y,u,v,A,.tup (a:=a) (xs:=xs) (ds:=ds) hs ha,hy,ru,rv,hu=>by
  cases hy with
  | tup hs' ha' =>
   rename_i a' xs'
   cases (show u = Value.ref a from ru)
   cases (show v = Value.ref a' from rv)
   obtain ⟨us,r1,t1,_⟩:=I.tuple hs
   obtain ⟨ws,r2,t2,_⟩:=I.tuple hs'
   have hd:A.units + (PyData.depthAll ds + 1) < cLine:=hu
   by_cases e:a = a'
   ·subst e; exact SeqAt.EqAt.same _
   ·have l1:=ha.len
    have l2:=ha'.len
    have q:=SeqAt.RcAt.tuples (e:=fun _=>true) (yx t1) (yx t2) (by omega) (dqs_eq I ha ha' r1 r2 (A:=A.in1) (by show A.units + 1 + PyData.depthAll ds < cLine; omega))
    rw [ww,Bool.true_and,List.size_toArray,List.size_toArray,← r1.length,← r2.length,l1,l2,beq_self_eq_true] at q
    exact SeqAt.EqAt.of_refs e q
 | _,_,y,u,v,A,.lst (a:=a) (xs:=xs) (ds:=ds) hs ha,hy,ru,rv,hu=>by
  cases hy with
  | lst hs' ha' =>
   rename_i a' xs'
   cases (show u = Value.ref a from ru)
   cases (show v = Value.ref a' from rv)
   obtain ⟨us,r1,t1,_⟩:=I.list hs
   obtain ⟨ws,r2,t2,_⟩:=I.list hs'
   have hd:A.units + (PyData.depthAll ds + 1) < cLine:=hu
   by_cases e:a = a'
   ·subst e; exact SeqAt.EqAt.same _
   ·have l1:=ha.len
    have l2:=ha'.len
    have q:=SeqAt.RcAt.lists (e:=fun _=>true) t1.isList t2.isList (by rw [List.size_toArray,List.size_toArray,← r1.length,← r2.length,l1,l2]) (by omega) (dqs_eq I ha ha' r1 r2 (A:=A.in1) (by show A.units + 1 + PyData.depthAll ds < cLine; omega))
    rw [ww] at q
    exact SeqAt.EqAt.of_refs e q
theorem dqs_eq (I:Inv X pins σ H s):∀ {ds:List PyData} {xs ys:List V} {us vs:List Value} {A:Around},DqAll X.K H xs ds -> DqAll X.K H ys ds -> Vals xs us -> Vals ys vs -> A.units + PyData.depthAll ds < cLine →
  ∀ j (h1:j < us.toArray.size) (h2:j < vs.toArray.size),SeqAt.EqAt A s us.toArray[j] vs.toArray[j] true
 | _,_,_,_,_,A,.nil,hy,ru,rv,_=>fun j h1 _=>by
  cases ru
  exact absurd h1 (Nat.not_lt_zero j)
 | _,_,_,_,_,A,.cons (d:=d) (ds:=ds) hx tx,hy,ru,rv,hd=>fun j h1 h2=>by
  cases hy with
  | cons hy ty =>
   cases ru with
   | cons r1 rr1 =>
    cases rv with
    | cons r2 rr2 =>
     have hd':A.units + max d.depth (PyData.depthAll ds) < cLine:=hd
     cases j with
     | zero=>simpa using dq_eq I hx hy r1 r2 (A:=A) (by omega)
     | succ j =>
      have z:=dqs_eq I tx ty rr1 rr2 (A:=A) (by omega) j (by simpa using h1) (by simpa using h2)
      simpa using z
end
variable {K:FG7}
def VT (K:FG7) (neg:Bool):R2:=fun x y H Q=>∃ d,Dq K H x d /\ Dq K H y d /\ (∃ a,x = .ref a) /\ d.depth <= 100 /\ Q (.bl neg) H
theorem Wz {k:Nat} (hK:X.K = K) (hr:Room k X.A):OpR X (compareOp .Eq) (VT K true):=by
 subst hK
 intro pins s σ H x y u v Q I rx ry h
 obtain ⟨d,hx,hy,⟨a0,e0⟩,hd,q⟩:=h
 have hu:=hr.un
 cases hx with
 | non=>cases e0
 | bl b=>cases e0
 | int i=>cases e0
 | str x=>cases e0
 | tup hs ha =>
  cases hy with
  | tup hs' ha' =>
   rename_i a xs ds a' xs'
   cases (show u = Value.ref a from rx)
   cases (show v = Value.ref a' from ry)
   obtain ⟨us,r1,t1,_⟩:=I.tuple hs
   obtain ⟨ws,r2,t2,_⟩:=I.tuple hs'
   have hd':PyData.depthAll ds + 1 <= 100:=hd
   refine SeqAt.eq_tupleAt (e:=fun _=>true) (yx t1) (yx t2) hr.units0 (dqs_eq I ha ha' r1 r2 (A:=X.A.in1) (by show X.A.units + 1 + PyData.depthAll ds < cLine; omega)) ?_
   rw [ww,Bool.true_and,List.size_toArray,List.size_toArray,← r1.length,← r2.length,ha.len,ha'.len,beq_self_eq_true]
   exact ⟨.bl true,H,I,rfl,q⟩
 | lst hs ha =>
  cases hy with
  | lst hs' ha' =>
   rename_i a xs ds a' xs'
   cases (show u = Value.ref a from rx)
   cases (show v = Value.ref a' from ry)
   obtain ⟨us,r1,t1,_⟩:=I.list hs
   obtain ⟨ws,r2,t2,_⟩:=I.list hs'
   have hd':PyData.depthAll ds + 1 <= 100:=hd
   refine SeqAt.eq_listAt (e:=fun _=>true) t1.isList t2.isList (by rw [List.size_toArray,List.size_toArray,← r1.length,← r2.length,ha.len,ha'.len]) hr.units0 (dqs_eq I ha ha' r1 r2 (A:=X.A.in1) (by show X.A.units + 1 + PyData.depthAll ds < cLine; omega)) ?_
   rw [ww]
   exact ⟨.bl true,H,I,rfl,q⟩
theorem VU {k:Nat} (hK:X.K = K) (hr:Room k X.A):OpR X (compareOp .NotEq) (VT K false):=by
 subst hK
 intro pins s σ H x y u v Q I rx ry h
 obtain ⟨d,hx,hy,⟨a0,e0⟩,hd,q⟩:=h
 have hu:=hr.un
 cases hx with
 | non=>cases e0
 | bl b=>cases e0
 | int i=>cases e0
 | str x=>cases e0
 | tup hs ha =>
  cases hy with
  | tup hs' ha' =>
   rename_i a xs ds a' xs'
   cases (show u = Value.ref a from rx)
   cases (show v = Value.ref a' from ry)
   obtain ⟨us,r1,t1,_⟩:=I.tuple hs
   obtain ⟨ws,r2,t2,_⟩:=I.tuple hs'
   have hd':PyData.depthAll ds + 1 <= 100:=hd
   refine SeqAt.RcNeAt.tuples (e:=fun _=>true) (yx t1) (yx t2) hr.units0 (dqs_eq I ha ha' r1 r2 (A:=X.A.in1) (by show X.A.units + 1 + PyData.depthAll ds < cLine; omega)) _ _ _ _ ?_
   rw [ww,Bool.true_and,List.size_toArray,List.size_toArray,← r1.length,← r2.length,ha.len,ha'.len,beq_self_eq_true]
   exact ⟨.bl false,H,I,rfl,q⟩
 | lst hs ha =>
  cases hy with
  | lst hs' ha' =>
   rename_i a xs ds a' xs'
   cases (show u = Value.ref a from rx)
   cases (show v = Value.ref a' from ry)
   obtain ⟨us,r1,t1,_⟩:=I.list hs
   obtain ⟨ws,r2,t2,_⟩:=I.list hs'
   have hd':PyData.depthAll ds + 1 <= 100:=hd
   refine SeqAt.RcNeAt.lists (e:=fun _=>true) t1.isList t2.isList (by rw [List.size_toArray,List.size_toArray,← r1.length,← r2.length,ha.len,ha'.len]) hr.units0 (dqs_eq I ha ha' r1 r2 (A:=X.A.in1) (by show X.A.units + 1 + PyData.depthAll ds < cLine; omega)) _ _ _ _ ?_
   rw [ww]
   exact ⟨.bl false,H,I,rfl,q⟩
end
def nN (k st a:Nat):Nat:=(UB k a st).toNat
def lN (k h g n:Nat):Nat:=(UA k h g n).toNat
def Yp (k:Nat) (gs:List Nat):Prop:=gs.length = 2 ^ k /\ ∀ g ∈ gs,g < 2 ^ k
theorem Yp.get {k:Nat} {gs:List Nat} (h:Yp k gs) {i:Nat} (hi:i < 2 ^ k):gs.getD i 0 < 2 ^ k:=by
 rw [List.getD_eq_getElem?_getD,List.getElem?_eq_getElem (by rw [h.1]; exact hi)]
 exact h.2 _ (List.getElem_mem _)
section
variable {X:Cx} {a:Expr} {ta:TA} {p p2 pos pos2:Pos}
def UD (ta:TA):TE:=fun σ H Q=>ta σ H fun vs H1=>∃ n:Nat,vs = [.int n] /\ n <= 1000 /\ ∀ l,H1 l = none -> Q (.ref l) (upd H1 l (.lst ((List.range n).map fun i:Nat=>V.int i)))
theorem vT (hc:X.calm = true) (hgl:Gl X "list") (hml:X.mg "list" = none) (hgr:Gl X "range") (hmr:X.mg "range" = none) (ha:PA X [a] ta)
  (hs:starEach [a] X.env = [(false,eval a X.env)]:=by rfl) (hs2:starEach [(.Call (.Name "range" p2) [a] [] pos2:Expr)] X.env = [(false,eval (.Call (.Name "range" p2) [a] [] pos2) X.env)]:=by rfl) :
  PE X (.Call (.Name "list" p) [.Call (.Name "range" p2) [a] [] pos2] [] pos) (UD ta):=by
 intro pins s σ H Q I h
 refine wpAny_Call_Name_kw (vN I hgl hml vQ (PyProof.Rows.callWith_type1 ?_ hs2 rfl))
 rw [hs2]
 show wpAny _ _ (spliced [(false,eval (.Call (.Name "range" p2) [a] [] pos2) X.env)]) _ _ s
 refine Calls.spliced_cons ?_
 refine Call_ (vN I hgr hmr boot_range (PyProof.Rows.callWith_type1 (thn (ha pos2 pins s σ H _ I h) fun us s1 ⟨vs,H1,I1,r1,q1⟩=>?_) hs rfl))
 obtain ⟨n,e,hn,q⟩:=q1
 subst e
 obtain ⟨u,rfl,e1⟩:=xY r1
 obtain ⟨t,rfl⟩:=e1
 refine call_range_1 (Calls.spliced_nil ?_)
 have I2:Inv X pins σ H1 { s1 with heap:=s1.heap.push { cls:=.type "range",data:=.fields #[.int 0 s1.toks,.int n t,.int 1 (s1.toks + 1)] },toks:=s1.toks + 1 + 1 }:=I1.kept fun b o e=>Heap.get?_push_of_some _ e
 refine call_list_range (n:=n) (I.ok.hd hc) (IsRange.new ..) (small_one (by omega) (by omega) (by omega) (by omega)) (by rw [rangeSize_one]; split <;> omega) (by omega) fun h' tk acc c' hk hS hacc=>?_
 have hvr:Vals ((List.range n).map fun i:Nat=>V.int i) acc.toList:=by
  have hlen:acc.toList.length = n:=by rw [Array.length_toList]; exact hacc.1
  have key:∀ (m:Nat) (l:List Value) (j:Nat),l.length = m -> (∀ i v,l[i]? = some v -> ∃ t,v = Value.int ((j + i:Nat):Int) t) -> Vals ((List.range' j m).map fun i:Nat=>V.int i) l:=by
   intro m
   induction m with
   | zero =>
    intro l j hl _
    rw [List.length_eq_zero_iff.mp hl]
    exact .nil
   | succ m ih =>
    intro l j hl hv
    match l,hl,hv with
    | x :: l,hl,hv =>
     refine .cons ?_ (ih l (j + 1) (by simpa using hl) fun i v h=>?_)
     ·obtain ⟨t,e⟩:=hv 0 x rfl
      exact ⟨t,e⟩
     ·obtain ⟨t,e⟩:=hv (i + 1) v (by simpa using h)
      exact ⟨t,by rw [e,show j + (i + 1) = j + 1 + i by omega]⟩
  rw [List.range_eq_range']
  refine key n acc.toList 0 hlen fun i v h=>?_
  obtain ⟨t,e⟩:=hacc.2 i v (by rw [← h]; exact (Array.getElem?_toList).symm)
  exact ⟨t,by rw [e]; congr 1; omega⟩
 refine ⟨.ref (s1.heap.push { cls:=.type "range",data:=.fields #[.int 0 s1.toks,.int n t,.int 1 (s1.toks + 1)] }).objs.size,_,I2.laid (t':=tk) hk (Nat.le_refl _) (show yr X.prog X.w _ h' _ (.lst ((List.range n).map fun i:Nat=>V.int i)) from ⟨by rw [List.length_map,List.length_range]; exact Nat.le_of_lt (um hn),acc.toList,c',hvr,by simpa using hS⟩),rfl,q _ (I2.hok.fresh (Nat.le_refl _))⟩
end
def zp (gs:List Nat):List V:=gs.map fun g:Nat=>V.int g
theorem AllR.of_get {α:Type} {R:V -> α -> Prop}:∀ {xs:List V} {ks:List α},xs.length = ks.length -> (∀ (i:Nat) (x:V),xs[i]? = some x -> ∃ k,ks[i]? = some k /\ R x k) -> AllR R xs ks
 | [],[],_,_=>trivial
 | x :: xs,k :: ks,hl,h=>by
  refine ⟨?_,AllR.of_get (by simpa using hl) fun i y hy=>by simpa using h (i + 1) y (by simpa using hy)⟩
  obtain ⟨k',e,r⟩:=h 0 x rfl
  cases e
  exact r
 | [],_ :: _,hl,_=>by simp at hl
 | _ :: _,[],hl,_=>by simp at hl
section
variable {prog:Program} {w:World} {A:Around} {E:VS7} {s:Shared}
theorem XR {l:Addr} {us:List Value} {Q:List Value -> Shared -> Prop} (tu:s.heap.IsTuple l us.toArray) (hu:us.length <= sizeLine)
  (q:Q us { s with heap:=(s.heap.push (seqObj "list" #[] 0)).update s.heap.objs.size (Obj.mapSeq (· ++ us.toArray)) }):wpAny (model prog w) A (collect (.ref l)) Q E s:=by
 obtain ⟨ob,eo,ec,m,ed⟩:=id tu
 have eo2:(s.heap.push (seqObj "list" #[] 0)).get? l = some ob:=Heap.get?_push_of_some _ eo
 unfold collect
 refine wpAny_bind (wpAny_runValue (codeAny_builtin entry_proto_collect' (show wpAny _ _ (do again (.builtin "list.__iadd__" ⟨[← newList [],.ref l],[]⟩)) _ _ s from ?_)))
 refine wpAny_bind (wpAny_newList (wpAny_pure ⟨Code.quiet_builtin _ (by decide +kernel),codeAny_builtin entry_list_iadd' (show wpAny _ _ (Builtin.List.listExtendWith (.ref s.heap.objs.size) (.ref l) (.ref s.heap.objs.size)) _ _ { s with heap:=s.heap.push (seqObj "list" #[] 0) } from ?_)⟩))
 unfold Builtin.List.listExtendWith
 refine wpAny_bind (wpAny_typeOf (T:="tuple") ⟨ob,eo2,ec⟩ ?_)
 have k1:(Value.type "tuple" == Value.type "tuple") = true:=rfl
 rw [if_pos (by simp [k1])]
 refine wpAny_bind (listItems_at eo2 ed (wpAny_bind (listItems_at (xs:=#[]) (n:=0) (Heap.get?_push_size _ rfl) rfl ?_)))
 rw [if_neg (by simp)]
 refine wpAny_bind (listUpdate_at (xs:=#[]) (n:=0) (Heap.get?_push_size _ rfl) rfl (wpAny_pure ?_) (Nat.zero_le _) (by show (#[] ++ us.toArray).size <= sizeLine + 1; simp only [Array.size_append,List.size_toArray,List.length_nil]; omega))
 refine wpAny_bind (wpAny_load (get?_update_seq (Heap.get?_push_size _ rfl) _) ?_)
 show wpAny _ _ (pure ((#[]:Array Value) ++ us.toArray).toList) Q E _
 rw [show ((#[]:Array Value) ++ us.toArray).toList = us by simp]
 exact wpAny_pure q
theorem Zc {l:Addr} {us:List Value} {ns:List Int} {Q:VS7} (tu:s.heap.IsTuple l us.toArray) (iu:IntsAre us ns) (u64:us.length < 64)
  (q:∀ (out:Array Value) (ms:List Int),IntsAre out.toList ms -> ms.Perm ns -> ms.Pairwise (· <= ·) -> Q (.ref (s.heap.objs.size + 1)) { s with heap:=sortedAll s.heap us out }) :
  wpAny (model prog w) A (call (.builtin "sorted") [.ref l]) Q E s:=by
 refine Calls.call_function_entry kind_sorted plain_sorted entry_sorted (args_sorted1 _) ?_
 unfold Builtin.«sorted»
 refine wpAny_bind (m:=checkCount "sorted" 1 1 _) (wpAny_pure (wpAny_bind (XR tu (by rw [sizeLine_eq]; omega) (wpAny_bind (wpAny_newList ?_)))))
 have e1:((s.heap.push (seqObj "list" #[] 0)).update s.heap.objs.size (Obj.mapSeq (· ++ us.toArray))).objs.size = s.heap.objs.size + 1:=by rw [Heap.size_update,size_push']
 have e2:(((s.heap.push (seqObj "list" #[] 0)).update s.heap.objs.size (Obj.mapSeq (· ++ us.toArray))).push (seqObj "list" us.toArray 0)).get? (s.heap.objs.size + 1) = some (seqObj "list" us.toArray 0):=by
  rw [← e1]; exact Heap.get?_push_size _ rfl
 show wpAny _ _ _ _ _ { s with heap:=((s.heap.push (seqObj "list" #[] 0)).update s.heap.objs.size (Obj.mapSeq (· ++ us.toArray))).push (seqObj "list" us.toArray 0) }
 rw [e1]
 refine wpAny_bind (wpAny_holding (wpAny_call_entry slot_list_sort ⟨_,e2,rfl⟩ entry_list_sort (list_sort_tree e2 iu u64 fun out ms b1 b2 b3=>⟨_,rfl,wpAny_pure ⟨_,rfl,q out ms b1 b2 b3⟩⟩) (args_list_sort _)))
end
section
variable {X:Cx} {K:FG7}
theorem wb (hK:X.K = K):yY X (.builtin "sorted") (fun xs H Q=>∃ (l:Addr) (ns:List Int),xs = [.ref l] /\ SqT K H l (ns.map V.int) /\ ns.length < 64 /\ ∀ (p:Addr) (ms:List Int),H p = none -> ms.Perm ns -> ms.Pairwise (· <= ·) -> Q (.ref p) (upd H p (.lst (ms.map V.int)))):=by
 subst hK
 intro pins s σ H xs us Q I r h
 obtain ⟨l,ns,rfl,hl,h64,q⟩:=h
 obtain ⟨u,rfl,rx⟩:=xY r
 cases (show u = Value.ref l from rx)
 obtain ⟨vs,rv,pl,hz⟩:=I.tuple hl
 have hlen:=rv.length
 rw [List.length_map] at hlen hz
 refine Zc pl (tq rv) (by omega) fun out ms i1 i2 i3=>?_
 obtain ⟨e,he⟩:=sortedAll_at s.heap vs out
 have hn:H (s.heap.objs.size + 1) = none:=I.hok.fresh (Nat.le_succ _)
 have rl:=xy i1
 refine ⟨.ref (s.heap.objs.size + 1),_,?_,rfl,q _ ms hn i2 i3⟩
 refine I.laid (t':=s.toks) (fun b o q=>sortedAll_old q) (Nat.le_succ _) (show yr X.prog X.w _ _ _ (.lst (ms.map V.int)) from ⟨by rw [List.length_map,i2.length_eq]; exact hz,out.toList,e,rl,he⟩)
end
section
variable {prog:Program} {w:World} {A:Around} {E:VS7} {s:Shared}
theorem XS (its:List Value):((List.range its.length).filterMap fun (k:Nat)=>its.toArray[((its.length:Int) - 1 + (k:Int) * (-1)).toNat]?).toArray = its.reverse.toArray:=by
 have e:=sk its
 unfold slicePick at e
 have b1:(sliceBounds none none (some (-1)) its.toArray.size).1 = (its.length:Int) - 1:=by simp [sliceBounds]
 have b2:(sliceBounds none none (some (-1)) its.toArray.size).2.1 = -1:=by simp [sliceBounds]
 have b3:(sliceBounds none none (some (-1)) its.toArray.size).2.2 = -1:=rfl
 rw [b1,b2,b3] at e
 have c:sliceRange ((its.length:Int) - 1) (-1) (-1) = (List.range its.length).map fun k:Nat=>((its.length:Int) - 1 + -1 * (k:Int)).toNat:=by
  unfold sliceRange
  by_cases h:its.length = 0
  ·rw [h]; rfl
  ·rw [if_neg (by decide),if_pos (by omega)]
   have:(((its.length:Int) - 1 - -1 - -1 - 1) / (- -1)).toNat = its.length:=by
    rw [show ((its.length:Int) - 1 - -1 - -1 - 1) = its.length by omega,show (- -1:Int) = 1 from rfl,Int.ediv_one]; omega
   dsimp only
   rw [this]
 rw [c,List.filterMap_map] at e
 rw [← e]
 congr 1
 refine ub fun k _=>?_
 show its.toArray[((its.length:Int) - 1 + (k:Int) * (-1)).toNat]? = its.toArray[((its.length:Int) - 1 + -1 * (k:Int)).toNat]?
 rw [Int.mul_comm]
theorem qB {sl:Addr} {vs:Value} {n:Nat} {Q:Int × Int × Nat -> Shared -> Prop} (hs:s.heap.IsSliceOf sl .none .none vs) (ps:IsPart vs (some (-1))) (q:Q ((n:Int) - 1,-1,n) s) :
  wpAny (model prog w) A (Builtin.Slice.sliceApplied (.ref sl) (pure (n:Int))) Q E s:=by
 obtain ⟨ob,e1,e2,e3⟩:=id hs
 unfold Builtin.Slice.sliceApplied Builtin.Slice.sliceFields
 refine wpAny_bind (wpAny_bind (wpAny_field e1 e3 (x:=.none) rfl (wpAny_bind (wpAny_field e1 e3 (x:=.none) rfl (wpAny_bind (wpAny_field e1 e3 (x:=vs) rfl (wpAny_pure (wpAny_bind (HT.slicePart_ ps ?_)))))))))
 show wpAny _ _ (if ((-1:Int) == 0) = true then _ else _) _ _ s
 rw [if_neg (by decide)]
 refine wpAny_bind (HT.slicePart_ .none (wpAny_bind (HT.slicePart_ .none (wpAny_bind (wpAny_pure ?_)))))
 have e4:Builtin.Slice.slicePlaces ((n:Int) - 1) (-1) (-1) = n:=by
  unfold Builtin.Slice.slicePlaces
  simp only [show ¬ ((-1:Int) > 0) by decide,if_false,show (- -1:Int) = 1 from rfl,Int.ediv_one]
  split <;> omega
 show wpAny _ _ (pure ((n:Int) - 1,(-1:Int),Builtin.Slice.slicePlaces ((n:Int) - 1) (-1) (-1))) _ _ s
 rw [e4]
 exact wpAny_pure q
theorem XT {t sl:Addr} {its:List Value} {vs:Value} {Q:VS7} (ht:s.heap.IsTuple t its.toArray) (hs:s.heap.IsSliceOf sl .none .none vs) (ps:IsPart vs (some (-1)))
  (q:Q (.ref s.heap.objs.size) { s with heap:=s.heap.push { cls:=.type "tuple",data:=.seq its.reverse.toArray } }) (hz:its.length <= sizeLine):wpAny (model prog w) A (getItem (.ref t) (.ref sl)) Q E s:=by
 obtain ⟨ob,e1,e2,e3⟩:=id hs
 have ty:s.TypeIs (.ref sl) "slice":=⟨ob,e1,e2⟩
 have hk:sizeOk (.seq its.reverse.toArray):=by
  show its.reverse.toArray.size <= sizeLine
  rw [List.size_toArray,List.length_reverse]; exact hz
 unfold getItem
 try with_reducible refine wpAny_holding ?_
 first | refine wpAny_bind (wpAny_pure ?_) | skip
 refine wpAny_bind (wpAny_sequenceKey ht.typeIs (by decide) (wpAny_bind (wpAny_callSpecial?_slot (name:=Str.ofString "__getitem__") ht.typeIs slot_tuple_getitem (wpAny_call_entry slot_tuple_getitem ht.typeIs entry_tuple_getitem ?_ (args_tuple_getitem _ _)))))
 show wpAny _ _ (Builtin.Tuple.tupleItemsOf (.ref t) >>= _) _ _ s
 refine wpAny_bind (tupleItemsOf_ ht (wpAny_bind (wpAny_typeOf ty ?_)))
 rw [if_pos (by decide)]
 refine wpAny_bind (qB hs ps ?_)
 show wpAny _ _ (if (((its.toArray.size:Nat):Int) - 1 == 0 && (-1:Int) == 1 && its.toArray.size == its.toArray.size) = true then _ else _) _ _ s
 rw [if_neg (by rw [show ((-1:Int) == 1) = false from rfl,Bool.and_false,Bool.false_and]; exact Bool.false_ne_true)]
 have e:=XS its
 rw [List.size_toArray,e]
 first
  | exact wpAny_bind (m:=Builtin.Tuple.tupleExact _) (wpAny_newObj_type (wpAny_pure ⟨_,rfl,wpAny_pure q⟩) hk)
  | exact wpAny_bind (m:=Builtin.Tuple.tupleExact _) (wpAny_newObj_type (wpAny_bind (wpAny_pure (wpAny_pure ⟨_,rfl,wpAny_pure q⟩))) hk)
  | exact wpAny_bind (wpAny_bind (m:=Builtin.Tuple.tupleExact _) (wpAny_newObj_type (wpAny_pure (wpAny_pure ⟨_,rfl,wpAny_pure q⟩)) hk))
  | exact wpAny_bind (wpAny_bind (m:=Builtin.Tuple.tupleExact _) (wpAny_newObj_type (wpAny_pure ⟨_,rfl,wpAny_pure q⟩) hk))
end
section
variable {X:Cx} {K:FG7}
def UE (K:FG7) (te:TE):TE:=fun σ H Q=>te σ H fun x H1=>∃ a xs,x = .ref a /\ SqT K H1 a xs /\ ∀ p,H1 p = none -> Q (.ref p) (upd H1 p (.tup xs.reverse))
theorem qC {e:Expr} {te:TE} {j:Nat} {pc pu p2 pos:Pos} (hK:X.K = K) (he:PE X e te):PE X (.Subscript e (.Slice none none (some (.UnaryOp .USub (.Constant (.int 1) j pc) pu)) p2) pos) (UE K te):=by
 subst hK
 intro pins s σ H Q I h
 refine Subscript_ (thn (he pins s σ H _ I h) fun v s1 ⟨x,H1,I1,r1,q1⟩=>?_)
 obtain ⟨a,xs,rfl,hx,q⟩:=q1
 cases (show v = Value.ref a from r1)
 refine wpAny_Slice (thn (zP pins s1 σ H1 (fun o H2=>o = none /\ H2 = H1) I1 ⟨rfl,rfl⟩) fun vl s2 ⟨l,H2,I2,pl,q2a,q2⟩=>thn (zP pins s2 σ H2 (fun o H3=>o = none /\ H3 = H1) I2 ⟨rfl,q2⟩) fun vu s3 ⟨u,H3,I3,pu',q3a,q3⟩=>?_)
 subst q2a q3a
 cases pl
 cases pu'
 subst q3
 refine thn (zK (Vz Wp zh) pins s3 σ H3 (fun o H4=>o = some (-1) /\ H4 = H3) I3 ⟨_,rfl,_,rfl,rfl,rfl⟩) fun vs s4 ⟨o,H4,I4,po,q4,q5⟩=>?_
 subst q4 q5
 have I5:Inv X pins σ H4 { s4 with heap:=s4.heap.push { cls:=.type "slice",data:=.fields #[.none,.none,vs] } }:=I4.kept (t':=s4.toks) fun b ob q=>Heap.get?_push_of_some _ q
 show wpAny (model X.prog X.w) X.A (subscriptTail e _ (.ref a) (.ref s4.heap.objs.size)) (EP X pins σ Q) X.xe { s4 with heap:=s4.heap.push { cls:=.type "slice",data:=.fields #[.none,.none,vs] } }
 obtain ⟨its,r,ht,hz⟩:=I5.tuple hx
 have hlen:=r.length
 refine tail_any (ops:=[.ref a,.ref s4.heap.objs.size]) ht.typeIs slot_tuple_getitem.lookup ?_ (by with_unfolding_all rfl)
 refine XT ht (Heap.IsSliceOf.new ..) po ?_ (by omega)
 refine ⟨.ref _,_,I5.laid (t':=s4.toks) (o:=.tup xs.reverse) (fun b ob q=>Heap.get?_push_of_some _ q) (Nat.le_refl _) ?_,rfl,q _ (I5.hok.fresh (Nat.le_refl _))⟩
 exact ⟨by rw [List.length_reverse]; exact hz,_,Yn r,IsTup.new _ _⟩
end
def wfN (k s l:Nat) (w:Int):Nat:=(wfI k s l w).toNat
def fstI (rows:List (List Int)) (t n:Nat):Int:=(rows.getD (t - 1) []).getD n 0
def sd (k a:Nat):Nat:=if h:a = 0 \/ k = 0 then 0 else a % 2 ^ k ^^^ sd k (a / 2 ^ k)
termination_by a
decreasing_by
 have:a ≠ 0:=fun e=>h (.inl e)
 exact Nat.div_lt_self (by omega) (Nat.one_lt_two_pow (fun e=>h (.inr e)))
theorem Yq {ms ns:List Int} (h:ms.Perm ns) (s:ms.Pairwise (· <= ·)) (t:ns.Pairwise (· <= ·)):ms = ns:=h.eq_of_pairwise (le:=(· <= ·)) (fun _ _ _ _ a b=>Int.le_antisymm a b) s t
theorem zw {gs:List Nat}:(zp gs).length = gs.length:=by unfold zp; rw [List.length_map]
theorem xB {a b:List Nat}:zp (a ++ b) = zp a ++ zp b:=by unfold zp; exact List.map_append
theorem Grow.shrink2 {H H':Hp} {f l:Addr} (g:Grow [f,l] H H') (h:H l = none):Grow [f] H H' :=
 ⟨fun b o hb q=>g.keep b o (fun z=>by rcases List.mem_cons.mp z with z | z; exact hb (by simp [z]); rw [List.mem_singleton.mp z,h] at q; cases q) q,g.tup,g.frz⟩
theorem natsV_get? {gs:List Nat} {i g:Nat} (h:gs[i]? = some g):(zp gs)[i]? = some (.int g):=by unfold zp; rw [List.getElem?_map,h]; rfl
theorem XU {l:Int} {ns:List Int}:inV (.int l) (ns.map V.int) = decide (l ∈ ns):=by
 unfold inV
 rw [Bool.eq_iff_iff,List.any_eq_true,decide_eq_true_iff]
 constructor
 ·rintro ⟨y,hy,e⟩
  obtain ⟨i,hi,rfl⟩:=List.mem_map.mp hy
  have:i = l:=by simpa [eqV] using e
  rw [← this]; exact hi
 ·intro h
  exact ⟨.int l,List.mem_map.mpr ⟨l,h,rfl⟩,by simp [eqV]⟩
abbrev cxO (X:Cx) (N':List Str) (scope:Scope) (cl:List (Str × Addr)) (C D:Addr) (fp:List Addr) (s:Shared) (H:Hp):Cx :=
 { X with N:=N',s₀:=s,H₀:=H,env:=compEnvC scope cl C X.env,outer:=X.stack,ex:=D :: fp,fn:=fun x=>scope.names.lookup x == some .cell,xe:=fun _ _=>False }
structure CScC (X:Cx) (scope:Scope) (N':List Str) (sub:List (Option Nat)):Prop where
 free:∀ y ∈ scope.names,y.2 = .free -> X.env.kindOf y.1 = some .cell
 nd:(scope.names.map (·.1)).Nodup
 kind:scope.kind = .function
 names:∀ y ∈ scope.names,y.2 = .local -> scope.names.lookup y.1 = some .local
 len:sub.length = N'.length
 cap:∀ (j:Nat) (y:Str) (i:Nat),N'[j]? = some y -> sub[j]? = some (some i) -> X.N[i]? = some y /\ X.env.scope.names.lookup y = some .cell /\ scope.names.lookup y = some .free
theorem wx {α:Type} {x:Str} {c:α}:∀ {a b:List (Str × α)},(a ++ b).lookup x = some c -> a.lookup x = some c \/ (a.lookup x = none /\ b.lookup x = some c)
 | [],b,h=>.inr ⟨rfl,h⟩
 | (k,v) :: r,b,h=>by
  rw [List.cons_append,List.lookup_cons] at h
  rw [List.lookup_cons]
  cases hb:x == k with
  | true=>rw [hb] at h; exact .inl h
  | false=>rw [hb] at h; exact wx h
theorem Zd {α:Type} {x:Str} {a b:List (Str × α)} (h:∃ c,a.lookup x = some c):∃ c,(a ++ b).lookup x = some c:=by
 induction a with
 | nil=>obtain ⟨c,h⟩:=h; cases h
 | cons p r ih =>
  obtain ⟨k,v⟩:=p
  rw [List.lookup_cons] at h
  rw [List.cons_append,List.lookup_cons]
  cases hb:x == k with
  | true=>exact ⟨v,rfl⟩
  | false=>rw [hb] at h; exact ih h
theorem uw {α:Type} {x:Str} {a b:List (Str × α)} (h:∃ c,b.lookup x = some c):∃ c,(a ++ b).lookup x = some c:=by
 induction a with
 | nil=>exact h
 | cons p r ih =>
  obtain ⟨k,v⟩:=p
  rw [List.cons_append,List.lookup_cons]
  cases hb:x == k with
  | true=>exact ⟨v,rfl⟩
  | false=>exact ih
theorem qD {α:Type} {x:Str} {c:α} {a b:List (Str × α)} (h:a.lookup x = none) (e:b.lookup x = some c):(a ++ b).lookup x = some c:=by
 induction a with
 | nil=>exact e
 | cons p r ih =>
  obtain ⟨k,v⟩:=p
  rw [List.lookup_cons] at h
  rw [List.cons_append,List.lookup_cons]
  cases hb:x == k with
  | true=>rw [hb] at h; cases h
  | false=>rw [hb] at h; exact ih h
theorem ux:∀ (names:List (Str × NameKind)) (n:Nat) (acc more:List (Str × Addr)),cellsFrom n names (acc ++ more) = cellsFrom n names acc ++ more
 | [],_,_,_=>rfl
 | (x,k) :: r,n,acc,more=>by
  unfold cellsFrom
  split
  ·exact ux r (n + 1) ((x,n) :: acc) more
  ·exact ux r n acc more
theorem uy:∀ {names:List (Str × NameKind)} {n:Nat} {acc:List (Str × Addr)} {x:Str} {c:Addr},(x,c) ∈ cellsFrom n names acc -> (x,c) ∈ acc \/ (x,NameKind.cell) ∈ names
 | [],_,_,_,_,h=>.inl h
 | (y,k) :: r,n,acc,x,c,h=>by
  unfold cellsFrom at h
  split at h
  ·rename_i hk
   have hk':k = .cell:=by simpa using hk
   rcases uy h with z | z
   ·rcases List.mem_cons.mp z with e | z
    ·cases e; exact .inr (by rw [hk']; simp)
    ·exact .inl z
   ·exact .inr (List.mem_cons_of_mem _ z)
  ·rcases uy h with z | z
   ·exact .inl z
   ·exact .inr (List.mem_cons_of_mem _ z)
theorem w9 {α:Type} {x:Str}:∀ {a:List (Str × α)},x ∈ a.map (·.1) -> ∃ c,a.lookup x = some c
 | (k,v) :: r,h=>by
  rw [List.lookup_cons]
  cases hb:x == k with
  | true=>exact ⟨v,rfl⟩
  | false =>
   rcases List.mem_cons.mp h with e | h
   ·rw [e] at hb; simp at hb
   ·exact w9 h
theorem vF:∀ {names:List (Str × NameKind)} {n:Nat} {acc:List (Str × Addr)} {x:Str},x ∈ acc.map (·.1) -> x ∈ (cellsFrom n names acc).map (·.1)
 | [],_,_,_,h=>h
 | (y,k) :: r,n,acc,x,h=>by
  unfold cellsFrom
  split
  ·exact vF (by rw [List.map_cons]; exact List.mem_cons_of_mem _ h)
  ·exact vF h
theorem jB:∀ {names:List (Str × NameKind)} {n:Nat} {acc:List (Str × Addr)} {x:Str},(x,NameKind.cell) ∈ names -> x ∈ (cellsFrom n names acc).map (·.1)
 | (y,k) :: r,n,acc,x,h=>by
  unfold cellsFrom
  rcases List.mem_cons.mp h with e | h
  ·cases e
   rw [if_pos (by decide)]
   exact vF (by rw [List.map_cons]; exact List.mem_cons_self)
  ·split <;> exact jB h
theorem rh {names:List (Str × NameKind)} {n:Nat} {x:Str} (h:(x,NameKind.cell) ∈ names):∃ c,(cellsFrom n names []).lookup x = some c:=w9 (jB h)
theorem Yr {names:List (Str × NameKind)} {n:Nat} {x:Str} (nd:(names.map (·.1)).Nodup) (h:(x,NameKind.free) ∈ names):(cellsFrom n names []).lookup x = none:=by
 cases e:(cellsFrom n names []).lookup x with
 | none=>rfl
 | some c =>
  rcases uy (PySem.mem_of_lookup e) with z | z
  ·cases z
  ·have key:∀ {l:List (Str × NameKind)},(l.map (·.1)).Nodup -> (x,NameKind.free) ∈ l -> (x,NameKind.cell) ∈ l -> False:=by
    intro l
    induction l with
    | nil=>intro _ h; cases h
    | cons p r ih =>
     intro nd h1 h2
     rw [List.map_cons,List.nodup_cons] at nd
     rcases List.mem_cons.mp h1 with e1 | h1 <;> rcases List.mem_cons.mp h2 with e2 | h2
     ·rw [← e1] at e2; cases e2
     ·exact nd.1 (by rw [← e1]; exact List.mem_map.mpr ⟨_,h2,rfl⟩)
     ·exact nd.1 (by rw [← e2]; exact List.mem_map.mpr ⟨_,h1,rfl⟩)
     ·exact ih nd.2 h1 h2
   exact (key nd h z).elim
section
variable {X:Cx} {pins:List (Addr × Obj)} {σ:L2.St} {H2:Hp} {s₂:Shared} {it:Addr} {fp:List Addr} {tn:Nat -> Heap -> Prop} {J:It} {scope:Scope} {cl:List (Str × Addr)} {N':List Str} {sub:List (Option Nat)}
theorem qE {h₁:Heap} {tk:Nat} (I:Inv X pins σ H2 s₂) (S:CScC X scope N' sub) (hcl1:∀ x c,cl.lookup x = some c -> X.env.cells.lookup x = some c) (hcl2:∀ y ∈ scope.names,y.2 = .free -> ∃ c,cl.lookup y.1 = some c)
    (hcc:CellsOk h₁ (s₂.heap.objs.size + 2) (cellsFrom (s₂.heap.objs.size + 2) scope.names []))
    (f2:∀ b ∈ fp,FpOk X pins H2 b) (hfp:∀ b ∈ fp,b < s₂.heap.objs.size) {m:Str -> Option Value} {ob:Obj}
    (hns:h₁.Ns (s₂.heap.objs.size + 1) m) (hk:∀ b o,(s₂.heap.push ob).get? b = some o -> h₁.get? b = some o) :
    Inv (cxO X N' scope (cellsFrom (s₂.heap.objs.size + 2) scope.names [] ++ cl) (s₂.heap.objs.size + 1) s₂.heap.objs.size fp { s₂ with heap:=s₂.heap.push ob } H2) pins (capt sub σ) H2 { s₂ with heap:=h₁,toks:=tk }:=by
  have old:∀ b o,s₂.heap.get? b = some o -> (s₂.heap.push ob).get? b = some o:=fun b o e=>Heap.get?_push_of_some _ e
  have old2:∀ b o,s₂.heap.get? b = some o -> h₁.get? b = some o:=fun b o e=>hk b o (old b o e)
  have sz:(s₂.heap.push ob).objs.size = s₂.heap.objs.size + 1:=Heap.size_push ..
  have lk:∀ x c,(cellsFrom (s₂.heap.objs.size + 2) scope.names [] ++ cl).lookup x = some c -> ((x,c) ∈ cellsFrom (s₂.heap.objs.size + 2) scope.names [] /\ h₁.IsCell c none /\ s₂.heap.objs.size + 2 <= c) \/ X.env.cells.lookup x = some c:=fun x c e=>by
    rcases wx e with e | ⟨_,e⟩
    · exact .inl ⟨PySem.mem_of_lookup e,hcc.empty x c (PySem.mem_of_lookup e)⟩
    · exact .inr (hcl1 x c e)
  have cells:∀ x c,X.env.cells.lookup x = some c -> c < s₂.heap.objs.size:=fun x c e=>let ⟨v,q⟩:=I.cell x c e; q.lt
  have has:∀ x,((relabel scope X.env).names.lookup x = some .cell \/ (relabel scope X.env).names.lookup x = some .free) -> ∃ c,(cellsFrom (s₂.heap.objs.size + 2) scope.names [] ++ cl).lookup x = some c:=fun x hx=>by
    rcases hx with hx | hx
    · obtain ⟨k',e,z⟩:=yQ hx
      rcases z with z | ⟨_,z⟩
      · subst z; exact Zd (rh (PySem.mem_of_lookup e))
      · subst z; exact uw (hcl2 _ (PySem.mem_of_lookup e) rfl)
    · obtain ⟨k',e,z⟩:=yQ hx
      rcases z with z | ⟨z,_⟩
      · subst z; exact uw (hcl2 _ (PySem.mem_of_lookup e) rfl)
      · cases z
  have frsz:∀ b ∈ frs X.stack,b < s₂.heap.objs.size:=fun b hb=>by
    rcases List.mem_cons.mp (I.stkSub b hb) with z | z
    · rw [z]; exact I.lt
    · exact Nat.lt_of_not_le fun q=>I.nofs q z
  refine
    { ok :=
      { mod:=I.ok.mod,kind:=S.kind,glob:=I.ok.glob,blt:=I.ok.blt
        above:=by show (s₂.heap.push ob).objs.size <= s₂.heap.objs.size + 1; rw [sz]; exact Nat.le_refl _
        inj:=fun x y c h1 h2=>?inj
        has:=has
        cab:=fun x c z e=>?cab
        hd:=I.ok.hd,frames:=I.ok.frames,stk:=.inl rfl
        exf:=fun b hb=>?exf
        bs:=fun b o e=>⟨old b o (I.bk b o e),(I.bs b o e).2⟩
        bsz:=by show X.base.objs.size <= (s₂.heap.push ob).objs.size; rw [sz]; exact Nat.le_succ_of_le (Nat.le_trans I.ok.bsz I.sz)
        noex:=fun b o e hb=>?noex
        exfs:=fun b hb=>?exfs
        funs:=?funs
        frf:=I.stkFree }
      os:=rfl,bare:=I.bare,base:=Un.kept fun b u e=>hk b u e
      loc:=⟨m,hns,?loc⟩
      cell:=fun x c e=>?cell
      free:=I.hok.fresh (Nat.le_succ _)
      freeC:=fun x c e=>?freeC
      pin:=fun p hp=>?pin
      hok:=I.hok.kept old2
      len:=?len }
  case exf =>
    rcases List.mem_cons.mp hb with rfl | hb
    · exact ⟨Nat.ne_of_lt (Nat.lt_succ_self _),fun x c e=>(lk x c e).elim (fun z=>Nat.ne_of_gt (Nat.lt_of_lt_of_le (Nat.lt_succ_of_lt (Nat.lt_succ_self _)) z.2.2)) (fun z=>Nat.ne_of_lt (cells x c z))⟩
    · exact ⟨Nat.ne_of_lt (Nat.lt_succ_of_lt (hfp b hb)),fun x c e=>(lk x c e).elim (fun z=>Nat.ne_of_gt (Nat.lt_of_lt_of_le (hfp b hb) (Nat.le_trans (Nat.le_add_right _ 2) z.2.2))) (fun z=>(f2 b hb).2.2.2.2.1 x c z)⟩
  case noex =>
    have hl:b < X.s₀.heap.objs.size:=Nat.lt_of_lt_of_le (Heap.lt_size e) I.ok.bsz
    rcases List.mem_cons.mp hb with rfl | hb
    · exact absurd (Nat.lt_of_lt_of_le hl I.sz) (Nat.lt_irrefl _)
    · rcases (f2 b hb).2.2.2.1 with z | z
      · exact I.ok.noex b o e z
      · exact absurd (Nat.lt_of_lt_of_le hl z) (Nat.lt_irrefl _)
  case exfs =>
    intro hs
    rcases List.mem_cons.mp hb with rfl | hb
    · exact absurd (frsz _ hs) (Nat.lt_irrefl _)
    · rcases List.mem_cons.mp (I.stkSub b hs) with z | z
      · exact (f2 b hb).2.1 z
      · exact (f2 b hb).2.2.1 z
  case funs=>exact Heap.FunFrames.of_keeps (fun b o e _=>⟨o,old b o e,rfl⟩) I.stack
  case loc =>
    intro j y v hj hv hvis
    obtain ⟨mX,_,lX⟩:=I.loc
    unfold capt at hv
    rw [List.getElem?_map] at hv
    cases hs:sub[j]? with
    | none=>rw [hs] at hv; cases hv
    | some o =>
      rw [hs] at hv
      cases o with
      | none=>cases hv
      | some i =>
        obtain ⟨hN,hc,hf⟩:=S.cap j y i hj hs
        have hv':σ[i]? = some (some v):=by
          have z:(match σ[i]? with | some v=>v | none=>none) = some v:=Option.some.inj hv
          cases q:σ[i]? with
          | none=>rw [q] at z; cases z
          | some w=>rw [q] at z; rw [show w = some v from z]
        obtain ⟨u,ru,hl⟩:=lX i y v hN hv' (.inr (.inl hc))
        refine ⟨u,ru,?_⟩
        have kc:(relabel scope X.env).names.lookup y = some .cell:=x9 I.ok.kind hc hf
        rcases hl with ⟨z,_⟩ | ⟨_,c,e,ic⟩
        · have z':X.env.scope.names.lookup y = some .local :=z
          rw [hc] at z'; cases z'
        · obtain ⟨c',e'⟩:=hcl2 _ (PySem.mem_of_lookup hf) rfl
          have:=hcl1 _ _ e'
          rw [e] at this; cases this
          have e3:(cellsFrom (s₂.heap.objs.size + 2) scope.names [] ++ cl).lookup y = some c:=qD (Yr S.nd (PySem.mem_of_lookup hf)) e'
          refine .inr ⟨.inl kc,c,e3,?_⟩
          obtain ⟨oc,h1,h2⟩:=ic
          exact ⟨oc,old2 _ _ h1,h2⟩
  case cell =>
    rcases lk x c e with ⟨_,z,_⟩ | z
    · exact ⟨none,z⟩
    · obtain ⟨v,oc,h1,h2⟩:=I.cell x c z
      exact ⟨v,oc,old2 _ _ h1,h2⟩
  case inj =>
    rcases lk x c h1 with ⟨m1,_,z1⟩ | z1 <;> rcases lk y c h2 with ⟨m2,_,z2⟩ | z2
    · exact name_of_addr hcc.apart m1 m2
    · exact absurd (Nat.lt_of_lt_of_le (cells y c z2) (Nat.le_trans (Nat.le_add_right _ 2) z1)) (Nat.lt_irrefl _)
    · exact absurd (Nat.lt_of_lt_of_le (cells x c z1) (Nat.le_trans (Nat.le_add_right _ 2) z2)) (Nat.lt_irrefl _)
    · exact I.ok.inj x y c z1 z2
  case cab =>
    show (s₂.heap.push ob).objs.size <= c
    rw [sz]
    have hz:scope.names.lookup x = some .cell:=by simpa using z
    rcases wx e with e | ⟨e,_⟩
    · have:=(hcc.empty x c (PySem.mem_of_lookup e)).2; omega
    · obtain ⟨c',e'⟩:=rh (n:=s₂.heap.objs.size + 2) (PySem.mem_of_lookup hz)
      rw [e'] at e; cases e
  case freeC =>
    rcases lk x c e with ⟨_,_,z⟩ | z
    · exact I.hok.fresh (by omega)
    · exact I.freeC x c z
  case pin =>
    obtain ⟨p1,p2,p3,p4,p5⟩:=I.pin p hp
    refine ⟨old2 _ _ p1,p2,Nat.ne_of_lt (Nat.lt_succ_of_lt (Heap.lt_size p1)),fun hs=>?_,p5⟩
    rcases List.mem_cons.mp (I.stkSub _ hs) with z | z
    · exact p3 z
    · exact p4 z
  case len =>
    show (capt sub σ).length = N'.length
    unfold capt
    rw [List.length_map]; exact S.len
theorem Ys {C D:Addr} {s₀:Shared} {s':Shared} {σ':L2.St} {H':Hp} {ys:List V} {us:List Value} {k:Nat} {oC:Obj} (I:Inv X pins σ H2 s₂)
    (hs₀:∀ b o,s₂.heap.get? b = some o -> s₀.heap.get? b = some o) (hos:s₀.os = s₂.os) (hD:s₂.heap.objs.size <= D) (hC:s₂.heap.objs.size <= C) (hDC:D ≠ C) (f2:∀ b ∈ fp,FpOk X pins H2 b)
    (I':Inv (cxO X N' scope cl C D fp s₀ H2) pins σ' H' s') (hn:H' D = none) (hy:s'.heap.get? D = some { cls:=.type "list",data:=.seq us.toArray k }) (rv:Vals ys us) (hz:ys.length <= sizeLine)
    (ho:s'.heap.get? C = some oC) (hd:∀ v,oC.data ≠ .cell v):Inv X (pins ++ [(C,oC)]) σ (upd H' D (.lst ys)) s' /\ FpOk X pins (upd H' D (.lst ys)) C:=by
  have neD:∀ b o,s₂.heap.get? b = some o -> b ≠ D:=fun b o e=>Nat.ne_of_lt (Nat.lt_of_lt_of_le (Heap.lt_size e) hD)
  have nm:∀ b o,s₂.heap.get? b = some o -> b ∉ fp -> b ∉ D :: fp:=fun b o e h z=>(List.mem_cons.mp z).elim (neD b o e) h
  have U:=I'.base
  have HC:upd H' D (.lst ys) C = none:=by rw [zo (Ne.symm hDC)]; exact I'.free
  have fpc:FpOk X pins (upd H' D (.lst ys)) C:=I.fpOk hC HC
  have un:Un (frs X.stack) fp H2 (upd H' D (.lst ys)) s₂.heap s'.heap :=
    { keep:=fun b o e n h1 h2=>U.keep b o (hs₀ b o e) n h1 (nm b o e h2)
      slot:=fun b o e n h1 h2=>U.slot b o (hs₀ b o e) n h1 (nm b o e h2)
      free:=fun b o e n h2=>by rw [zo (neD b o e)]; exact U.free b o (hs₀ b o e) n (nm b o e h2)
      there:=fun b o e h2=>U.there b o (hs₀ b o e) (nm b o e h2)
      tups:=fun b xs e=>by have z:=U.tups b xs e; rw [zo (zv z hn)]; exact z
      frzs:=fun b o u e=>by have z:=U.frzs b o u e; rw [zo (zv z hn)]; exact z
      tbls:=fun b ps e=>by obtain ⟨more,z⟩:=U.tbls b ps e; exact ⟨more,by rw [zo (zv z hn)]; exact z⟩ }
  have hok:HOk X.prog X.w (upd H' D (.lst ys)) s'.heap:=HOk.track I'.hok hn ⟨hz,us,k,rv,hy⟩
  have IX:Inv X pins σ (upd H' D (.lst ys)) s':=I.call' (I'.os.trans hos) un hok I'.bare fun b hb=>⟨(f2 b hb).2.2.2.1,(f2 b hb).2.1,(f2 b hb).2.2.2.2.1,(f2 b hb).2.2.2.2.2⟩
  refine ⟨IX.pins_of fun p hp=>?_,fpc⟩
  rcases List.mem_append.mp hp with hp | hp
  · exact IX.pin p (List.mem_append_right _ hp)
  · rw [List.mem_singleton.mp hp]
    exact ⟨ho,HC,fpc.2.1,fpc.2.2.1,hd⟩
theorem Yt {C D:Addr} {s₀:Shared} {tg:Expr} {pos:Pos} {elt iter:Expr} {ifs:List Expr} {g:TG} {tt:TT} {te:TE} {Q:VK} {RR:Value -> Addr -> Result -> Shared -> Prop} {W:Nat -> Nat -> List V -> L2.St -> Hp -> Prop}
  (I:Inv X pins σ H2 s₂) (hcalm:X.calm = true) (T:Turn X.prog X.w X.K tg J fp it tn) (f2:∀ b ∈ fp,FpOk X pins H2 b) (hfp:∀ b ∈ fp,b < s₂.heap.objs.size)
  (hs₀:∀ b o,s₂.heap.get? b = some o -> s₀.heap.get? b = some o) (hos:s₀.os = s₂.os) (hD:s₂.heap.objs.size <= D) (hC:s₂.heap.objs.size <= C) (hDC:D ≠ C)
  (hcl1:∀ x c,cl.lookup x = some c -> X.env.cells.lookup x = some c \/ (s₂.heap.objs.size <= c /\ D ≠ c))
  (hg:PG (cxO X N' scope cl C D fp s₀ H2) tg g) (ht:PIfs (cxO X N' scope cl C D fp s₀ H2) ifs tt) (he:PE (cxO X N' scope cl C D fp s₀ H2) elt te)
  (turn:∀ i m ys σ' H',W i m ys σ' H' →
   (J.stop i H' /\ ∀ l,H' l = none -> Q (.ref l) (upd H' l (.lst ys))) ∨
   (J.go i H' /\ ∃ Nn:List V -> L2.St -> Hp -> Prop,(∀ zs σ2 H2,Nn zs σ2 H2 -> ∃ m',m' < m /\ W (i + 1) m' zs σ2 H2) ∧
    ∀ x H2,J.yld i H' x H2 -> g x σ' H2 fun σ2 H3=>tt σ2 H3 fun b H4=>if b = true then te σ2 H4 fun y H5=>ys.length < sizeLine /\ Nn (ys ++ [y]) σ2 H5 else Nn ys σ2 H4))
  (hRR:∀ (D C:Addr) (oC:Obj) (m:Str -> Option Value) (s':Shared) (Hf:Hp),Inv X (pins ++ [(C,oC)]) σ Hf s' -> s'.heap.Ns C m -> FpOk X pins Hf C -> Q (.ref D) Hf -> RR (.ref D) C (.ok .next) s')
  (n:Nat) (s:Shared) (h:∃ i ys us k σ' H',Inv (cxO X N' scope cl C D fp s₀ H2) pins σ' H' s /\ tn i s.heap /\ (∀ b ∈ fp,H' b = none) /\ H' D = none ∧
   s.heap.get? D = some { cls:=.type "list",data:=.seq (us:List Value).toArray k } /\ Vals ys us /\ ys.length <= sizeLine /\ W i n ys σ' H') :
  codeAny (model X.prog X.w) X.A (.compLoop (.ListComp elt [⟨tg,iter,ifs,0⟩] scope pos) 0 (.ref it) (.ref D) (compEnvC scope cl C X.env)) (RR (.ref D) C) s:=by
 have frsz:∀ b ∈ frs X.stack,b < s₂.heap.objs.size:=fun b hb=>by
  rcases List.mem_cons.mp (I.stkSub b hb) with z | z
  ·rw [z]; exact I.lt
  ·exact Nat.lt_of_not_le fun q=>I.nofs q z
 have cells:∀ x c,cl.lookup x = some c -> D ≠ c:=fun x c e=>by
  rcases hcl1 x c e with z | z
  ·obtain ⟨v,q⟩:=I.cell x c z
   exact Nat.ne_of_gt (Nat.lt_of_lt_of_le q.lt hD)
  ·exact z.2
 have pinsz:∀ p ∈ X.pn ++ pins,p.1 < s₂.heap.objs.size:=fun p hp=>Heap.lt_size (I.pin p hp).1
 refine sY (fun n s=>∃ i ys us k σ' H',Inv (cxO X N' scope cl C D fp s₀ H2) pins σ' H' s /\ tn i s.heap /\ (∀ b ∈ fp,H' b = none) /\ H' D = none ∧
   s.heap.get? D = some { cls:=.type "list",data:=.seq (us:List Value).toArray k } /\ Vals ys us /\ ys.length <= sizeLine /\ W i n ys σ' H') ?_ n h
 rintro n s ⟨i,ys,us,k,σ',H',I',st',fr,hn,hy,rv,hz,w'⟩
 have pD:Inv (cxO X N' scope cl C D fp s₀ H2) (pins ++ [(D,{ cls:=.type "list",data:=.seq us.toArray k })]) σ' H' s:=I'.pins_of fun p hp=>by
  rcases List.mem_append.mp hp with hp | hp
  ·exact I'.pin p (List.mem_append_right _ hp)
  ·rw [List.mem_singleton.mp hp]
   exact ⟨hy,hn,hDC,fun z=>absurd (Nat.lt_of_lt_of_le (frsz _ z) hD) (Nat.lt_irrefl _),fun v z=>by cases z⟩
 have fpok:∀ {H'':Hp},(∀ b ∈ fp,H'' b = none) -> ∀ b ∈ fp,FpOk (cxO X N' scope cl C D fp s₀ H2) (pins ++ [(D,{ cls:=.type "list",data:=.seq us.toArray k })]) H'' b:=fun hz b hb=>by
  refine ⟨hz b hb,Nat.ne_of_lt (Nat.lt_of_lt_of_le (hfp b hb) hC),fun z=>?_,.inl (List.mem_cons_of_mem _ hb),fun x c e=>(hcl1 x c e).elim (fun z=>(f2 b hb).2.2.2.2.1 x c z) (fun z q=>absurd (Nat.lt_of_lt_of_le (q ▸ hfp b hb) z.1) (Nat.lt_irrefl _)),fun p hp=>?_⟩
  ·rcases List.mem_cons.mp (I.stkSub b z) with z | z
   ·exact (f2 b hb).2.1 z
   ·exact (f2 b hb).2.2.1 z
  ·rcases List.mem_append.mp hp with hp | hp
   ·exact (f2 b hb).2.2.2.2.2 p (List.mem_append_left _ hp)
   ·rcases List.mem_append.mp hp with hp | hp
    ·exact (f2 b hb).2.2.2.2.2 p (List.mem_append_right _ hp)
    ·rw [List.mem_singleton.mp hp]
     exact Nat.ne_of_gt (Nat.lt_of_lt_of_le (hfp b hb) hD)
 rcases turn i n ys σ' H' w' with ⟨stop,q⟩ | ⟨go,Nn,hN,step⟩
 ·refine thn (T.done (cxO X N' scope cl C D fp s₀ H2) rfl rfl rfl hcalm i _ s σ' H' (fun _ _=>False) pD (fpok fr) st' stop) fun r s1 ⟨hr,I1⟩=>?_
  subst hr
  have hy1:=(I1.pin (D,{ cls:=.type "list",data:=.seq us.toArray k }) (by simp)).1
  obtain ⟨m,hm,_⟩:=I1.loc
  obtain ⟨oC,es,ep,hoC,hdC,_⟩:=id hm
  obtain ⟨IX,fpc⟩:=Ys I hs₀ hos hD hC hDC f2 I1.unpinned hn hy1 rv hz hoC (by intro v z; rw [hdC] at z; cases z)
  exact hRR D C oC m s1 _ IX hm fpc (q D hn)
 ·refine thn (T.item (cxO X N' scope cl C D fp s₀ H2) rfl rfl rfl hcalm i _ s σ' H' (fun _ _=>False) pD (fpok fr) st' go) fun r s1 ⟨u,hr,h4⟩=>?_
  subst hr
  refine thn h4 fun _ s2 ⟨x5,H5,I5,r5,y5,st5,fr5⟩=>?_
  have I5':=I5.pinned (fpok fr5) (T.obj _ _ st5)
  refine thn (hg _ s2 σ' H5 x5 u _ I5' r5 (step x5 H5 y5)) fun _ s3 ⟨σ6,H6,I6,q6⟩=>?_
  refine thn (ht _ s3 σ6 H6 _ I6 q6) fun ok s4 ⟨H7,I7,q7⟩=>?_
  have stay:∀ {σ7:L2.St} {H7:Hp} {s7:Shared},Inv (cxO X N' scope cl C D fp s₀ H2) (pins ++ [(D,{ cls:=.type "list",data:=.seq us.toArray k })] ++ tj fp s2.heap) σ7 H7 s7 →
    (∀ b ∈ fp,∀ o,s2.heap.get? b = some o -> s7.heap.get? b = some o) /\ (∀ b ∈ fp,H7 b = none) /\ H7 D = none /\ s7.heap.get? D = some { cls:=.type "list",data:=.seq us.toArray k }:=fun {σ7 H7 s7} I7=>by
   have d:=I7.pin (D,{ cls:=.type "list",data:=.seq us.toArray k }) (by simp)
   refine ⟨fun b hb o e=>(I7.pin (b,o) (List.mem_append_right _ (List.mem_append_right _ (y7 hb e)))).1,fun b hb=>?_,d.2.1,d.1⟩
   obtain ⟨o,e,_⟩:=T.obj _ _ st5 b hb
   exact (I7.pin (b,o) (List.mem_append_right _ (List.mem_append_right _ (y7 hb e)))).2.1
  cases ok with
  | false =>
   rw [if_neg (by decide)] at q7 ⊢
   obtain ⟨k1,k2,k3,k4⟩:=stay I7
   obtain ⟨m',hm,w7⟩:=hN ys σ6 H7 q7
   exact ⟨m',hm,i + 1,ys,us,k,σ6,H7,I7.unpinned.unpinned,T.keep _ _ _ st5 k1,k2,k3,k4,rv,hz,w7⟩
  | true =>
   rw [if_pos rfl] at q7 ⊢
   refine thn (he _ s4 σ6 H7 _ I7 q7) fun v s5 ⟨y,H8,I8,r8,hl8,n8⟩=>?_
   obtain ⟨k1,k2,k3,k4⟩:=stay I8
   refine wpAny_list_append_plain (l:=D) ⟨k,k4⟩ (fun h' pl sb=>?_) (by rw [List.size_toArray,← rv.length]; exact hz)
   obtain ⟨k',e'⟩:=pl
   obtain ⟨m',hm,w8⟩:=hN _ σ6 H8 n8
   refine ⟨m',hm,i + 1,ys ++ [y],us ++ [v],k',σ6,H8,?_,T.keep _ _ _ (T.keep _ _ _ st5 k1) fun b hb o e=>sb.extBut b o (Nat.ne_of_lt (Nat.lt_of_lt_of_le (hfp b hb) hD)) e,k2,k3,?_,rv.append (.cons r8 .nil),?_,w8⟩
   ·exact (I8.unpinned.unpinned).turned (it:=D) (t':=s5.toks) (h':=h') (fun b o hb e=>sb.extBut b o hb e) k3 hDC (.inl (by simp)) (fun x c e=>(cells x c e).symm) (fun p hp=>Nat.ne_of_lt (Nat.lt_of_lt_of_le (pinsz p hp) hD))
   ·rw [e']; simp
   ·rw [List.length_append]; exact hl8
theorem Yu {M:Model} {A:Around} {E:VS7} {s:Shared} {scope:Scope} {globals:Addr} {closure:List (Str × Addr)} {qual:Str} {around:Env} {Q:Env -> Shared -> Prop} (hk:scope.kind = .function)
  (hQ:∀ h',h'.Ns s.heap.objs.size (fun _=>none) -> (∀ b o,s.heap.get? b = some o -> h'.get? b = some o) -> CellsOk h' (s.heap.objs.size + 1) (cellsFrom (s.heap.objs.size + 1) scope.names []) →
   Q (newEnv scope s.heap.objs.size globals (cellsFrom (s.heap.objs.size + 1) scope.names [] ++ closure) qual none .none (some around) builtinsNs) { s with heap:=h' }) :
  wpAny M A (newFunctionEnv scope globals closure [] qual none .none (some around)) Q E s:=by
 simp only [newFunctionEnv,Option.isSome_some,if_true]
 refine wpAny_bind (wpAny_alloc (wpAny_bind (wpAny_layCells _ (fun nm kd cs=>by cases h:kd == NameKind.cell <;> simp [h]) scope.names closure _ _ ?_)))
 have own:=cellsFrom_ok scope.names (s.heap.push ⟨.type "dict",none,.dict #[],#[]⟩) (s.heap.objs.size + 1) [] ⟨fun _ _ z=>(nomatch z),.nil⟩ (Nat.le_of_eq (Heap.size_push ..).symm)
 have sz:(s.heap.push ⟨.type "dict",none,.dict #[],#[]⟩).objs.size = s.heap.objs.size + 1:=Heap.size_push ..
 rw [sz] at own
 have ea:=ux scope.names (s.heap.objs.size + 1) [] closure
 rw [List.nil_append] at ea
 show wpAny _ _ _ _ _ { s with heap:=pushCells (s.heap.push ⟨.type "dict",none,.dict #[],#[]⟩) scope.names }
 dsimp only
 rw [sz,ea]
 exact wpAny_bind (wpAny_pure (wpAny_pure (hQ _ ((Heap.Ns.new s.heap (.type "dict")).keeps (pushCells_keeps _ _)) (fun b o e=>pushCells_keeps _ _ b o (Heap.get?_push_of_some _ e)) own)))
theorem qF {tg:Expr} {pos:Pos} {elt iter:Expr} {ifs:List Expr} {g:TG} {tt:TT} {te:TE} {E:VS7} {Q:VK} {RR:Value -> Addr -> Result -> Shared -> Prop}
  (I:Inv X pins σ H2 s₂) (hcalm:X.calm = true) (T:Turn X.prog X.w X.K tg J fp it tn) (st:tn 0 s₂.heap) (f2:∀ b ∈ fp,FpOk X pins H2 b)
  (S:CScC X scope N' sub) (hcl1:∀ x c,cl.lookup x = some c -> X.env.cells.lookup x = some c) (hcl2:∀ y ∈ scope.names,y.2 = .free -> ∃ c,cl.lookup y.1 = some c)
  (hg:∀ cl C D fp s H,PG (cxO X N' scope cl C D fp s H) tg g) (ht:∀ cl C D fp s H,PIfs (cxO X N' scope cl C D fp s H) ifs tt) (he:∀ cl C D fp s H,PE (cxO X N' scope cl C D fp s H) elt te)
  (hW:vY J (capt sub σ) H2 g tt te Q)
  (hRR:∀ (D C:Addr) (oC:Obj) (m:Str -> Option Value) (s':Shared) (Hf:Hp),Inv X (pins ++ [(C,oC)]) σ Hf s' -> s'.heap.Ns C m -> FpOk X pins Hf C -> Q (.ref D) Hf -> RR (.ref D) C (.ok .next) s') :
  wpAny (model X.prog X.w) X.A (newList []) (fun acc s₃=>wpAny (model X.prog X.w) X.A (newFunctionEnv scope X.env.globals cl [] X.env.qual none .none (some X.env)) (fun cenv s₄ =>
   codeAny (model X.prog X.w) X.A (.compStart (.ListComp elt [⟨tg,iter,ifs,0⟩] scope pos) 0 (.ref it) acc { cenv with scope:=relabel scope X.env }) (RR acc cenv.locals) s₄) E s₃) E s₂:=by
 obtain ⟨W,⟨m0,w0⟩,turn⟩:=hW
 refine wpAny_newObj_type (Yu S.kind fun h₁ hns₁ hk0 hcc=>?_)
 dsimp only at hns₁ hk0 hcc ⊢
 have hC:(s₂.heap.push { cls:=.type "list",dict:=none,data:=.seq ([]:List Value).toArray }).objs.size = s₂.heap.objs.size + 1:=Heap.size_push ..
 rw [hC] at hns₁ hcc ⊢
 have hk:∀ b o,(s₂.heap.push { cls:=.type "list",dict:=none,data:=.seq ([]:List Value).toArray }).get? b = some o -> h₁.get? b = some o:=hk0
 have hfp:∀ b ∈ fp,b < s₂.heap.objs.size:=fun b hb=>by
  obtain ⟨o,e,_⟩:=T.obj _ _ st b hb
  exact Heap.lt_size e
 have I0:=qE (tk:=s₂.toks) I S hcl1 hcl2 hcc f2 hfp hns₁ hk
 have hD0:h₁.get? s₂.heap.objs.size = some { cls:=.type "list",data:=.seq ([]:List Value).toArray 0 }:=hk _ _ (Heap.get?_push_size _ rfl)
 have hcl3:∀ x c,(cellsFrom (s₂.heap.objs.size + 2) scope.names [] ++ cl).lookup x = some c -> X.env.cells.lookup x = some c \/ (s₂.heap.objs.size <= c /\ s₂.heap.objs.size ≠ c):=fun x c e=>by
  rcases wx e with e | ⟨_,e⟩
  ·have z:=(hcc.empty x c (PySem.mem_of_lookup e)).2
   exact .inr ⟨Nat.le_trans (Nat.le_add_right _ 2) z,Nat.ne_of_lt (Nat.lt_of_lt_of_le (Nat.lt_succ_of_lt (Nat.lt_succ_self _)) z)⟩
  ·exact .inl (hcl1 x c e)
 have loop:codeAny (model X.prog X.w) X.A (.compLoop (.ListComp elt [⟨tg,iter,ifs,0⟩] scope pos) 0 (.ref it) (.ref s₂.heap.objs.size) (compEnvC scope (cellsFrom (s₂.heap.objs.size + 2) scope.names [] ++ cl) (s₂.heap.objs.size + 1) X.env)) (RR (.ref s₂.heap.objs.size) (s₂.heap.objs.size + 1)) { s₂ with heap:=h₁,toks:=s₂.toks } :=
  Yt (s₀:={ s₂ with heap:=s₂.heap.push { cls:=.type "list",dict:=none,data:=.seq ([]:List Value).toArray } }) (C:=s₂.heap.objs.size + 1) (D:=s₂.heap.objs.size) I hcalm T f2 hfp (fun b o e=>Heap.get?_push_of_some _ e) rfl (Nat.le_refl _) (Nat.le_succ _) (Nat.ne_of_lt (Nat.lt_succ_self _)) hcl3 (hg _ _ _ _ _ _) (ht _ _ _ _ _ _) (he _ _ _ _ _ _) turn hRR m0 _
   ⟨0,[],[],0,capt sub σ,H2,I0,T.keep _ _ _ st fun b hb o e=>hk b o (Heap.get?_push_of_some _ e),fun b hb=>(f2 b hb).1,I.hok.fresh (Nat.le_refl _),hD0,.nil,Nat.zero_le _,w0⟩
 exact codeAny_compStart_list loop (T.self _ _ _ _ _ (T.keep _ _ _ st fun b hb o e=>hk b o (Heap.get?_push_of_some _ e)) loop)
end
section
variable {X:Cx} {scope:Scope} {N':List Str} {sub:List (Option Nat)} {tg:Expr} {pos:Pos} {elt iter:Expr} {ifs:List Expr} {wi:TI} {g:TG} {tt:TT} {te:TE}
theorem CScC.clos {pins:List (Addr × Obj)} {σ:L2.St} {H:Hp} {s:Shared} (S:CScC X scope N' sub) (I:Inv X pins σ H s):∃ cl,closureFor scope X.env = pure cl /\ (∀ x c,cl.lookup x = some c -> X.env.cells.lookup x = some c) /\ ∀ y ∈ scope.names,y.2 = .free -> ∃ c,cl.lookup y.1 = some c :=
 tw fun y hy hf=>I.ok.has y.1 (.inl (S.free y hy hf))
theorem XV (S:CScC X scope N' sub) (hcalm:X.calm = true) (hi:PI X tg iter wi)
  (hg:∀ cl C D fp s H,PG (cxO X N' scope cl C D fp s H) tg g) (ht:∀ cl C D fp s H,PIfs (cxO X N' scope cl C D fp s H) ifs tt) (he:∀ cl C D fp s H,PE (cxO X N' scope cl C D fp s H) elt te)
  (hs:∀ x,foldedSetIterable iter X.env x = pure x:=by intro _; rfl):PE X (.ListComp elt [⟨tg,iter,ifs,0⟩] scope pos) (WY wi sub g tt te):=by
 intro pins s σ H Q I h
 obtain ⟨cl,hclos,hcl1,hcl2⟩:=S.clos I
 rw [eval_ListComp]
 refine wpAny_comprehension_free (use:=none) rfl hs hclos S.kind S.names (thn (hi pins s σ H _ I h) fun v s1 h1=>thn h1 fun itv s2 h2=>?_)
 obtain ⟨it,fp,tn,J,H2,e,I2,T,st2,f2,hW⟩:=h2
 subst e
 refine qF (RR:=fun acc C=>compPost (model X.prog X.w) X.A X.xe none (EP X pins σ Q) acc C) I2 hcalm T st2 f2 S hcl1 hcl2 hg ht he hW ?_
 intro D C oC m s' Hf IX hm fpc q
 refine ⟨m,hm,fun h' sb=>⟨.ref D,Hf,?_,rfl,q⟩⟩
 exact (IX.unpinned).turned (it:=C) (t':=s'.toks) (h':=h') (fun b o hb e=>sb.extBut b o hb e) fpc.1 fpc.2.1 fpc.2.2.2.1 fpc.2.2.2.2.1 fpc.2.2.2.2.2
end
theorem CScC.of {X:Cx} {scope:Scope} {N':List Str} {sub:List (Option Nat)} (sc:Scope) (NN:List Str) (e:X.env.scope = sc) (en:X.N = NN)
  (h:((scope.names.all fun y=>(y.2 != .free || sc.names.lookup y.1 == some .cell) && (y.2 != .local || scope.names.lookup y.1 == some .local)) && (sub.length == N'.length) &&
   ((N'.zip sub).all fun p=>match p.2 with | none=>true | some i=>NN[i]? == some p.1 && sc.names.lookup p.1 == some .cell && scope.names.lookup p.1 == some .free)) = true)
  (nd:(scope.names.map (·.1)).Nodup) (hk:scope.kind = .function):CScC X scope N' sub:=by
 rw [Bool.and_eq_true,Bool.and_eq_true] at h
 obtain ⟨⟨h1,h2⟩,h3⟩:=h
 have k1:=fun y hy=>List.all_eq_true.mp h1 y hy
 refine ⟨fun y hy hf=>?_,nd,hk,fun y hy hl=>?_,by simpa using h2,fun j y i hj hs=>?_⟩
 ·have:=k1 y hy
  simp only [hf,Bool.and_eq_true] at this
  have z:=this.1
  show X.env.scope.names.lookup y.1 = _
  rw [e]; simpa using z
 ·have:=k1 y hy
  simp only [hl,Bool.and_eq_true] at this
  simpa using this.2
 ·have hm:(y,some i) ∈ N'.zip sub:=by
   have:(N'.zip sub)[j]? = some (y,some i):=by
    rw [List.getElem?_zip_eq_some]; exact ⟨hj,hs⟩
   exact List.mem_of_getElem? this
  have:=List.all_eq_true.mp h3 _ hm
  simp only [Bool.and_eq_true,beq_iff_eq] at this
  rw [e,en]
  exact ⟨this.1.1,this.1.2,this.2⟩
theorem qG {scope:Scope} {env:Env} {y:Str} (h:scope.names.lookup y = some .cell):(relabel scope env).names.lookup y = some .cell:=by
 have key:∀ l:List (Str × NameKind),l.lookup y = some .cell -> (l.map fun (n,k)=>if (k == NameKind.free && env.scope.kind == .function && env.kindOf n == some .cell) then (n,NameKind.cell) else (n,k)).lookup y = some .cell:=by
  intro l
  induction l with
  | nil=>intro h; cases h
  | cons p r ih =>
   obtain ⟨n,k0⟩:=p
   intro h
   rw [List.map_cons]
   rw [List.lookup_cons] at h
   dsimp only
   cases hx:y == n with
   | true =>
    rw [hx] at h
    cases h
    rw [if_neg (by simp),List.lookup_cons,hx]
   | false =>
    rw [hx] at h
    by_cases hc2:(k0 == NameKind.free && env.scope.kind == .function && env.kindOf n == some .cell) = true
    ·rw [if_pos hc2,List.lookup_cons,hx]; exact ih h
    ·rw [if_neg hc2,List.lookup_cons,hx]; exact ih h
 exact key scope.names h
theorem CSc.nestO {X0:Cx} {scope scope2:Scope} {N' N2:List Str} {sub sub2:List (Option Nat)} {cl:List (Str × Addr)} {C D:Addr} {fp:List Addr} {s:Shared} {H:Hp} (S:CScC X0 scope N' sub) (hk0:X0.env.scope.kind = .function)
  (h:((scope2.names.all fun y=>(y.2 != .free || (scope.names.lookup y.1 == some .free || scope.names.lookup y.1 == some .cell)) && (y.2 != .cell) && (y.2 != .local || scope2.names.lookup y.1 == some .local)) && (sub2.length == N2.length) &&
   ((N2.zip sub2).all fun p=>match p.2 with | none=>true | some i=>N'[i]? == some p.1 && (scope.names.lookup p.1 == some .free || scope.names.lookup p.1 == some .cell) && scope2.names.lookup p.1 == some .free)) = true)
  (hk:scope2.kind = .function):CSc (cxO X0 N' scope cl C D fp s H) scope2 N2 sub2:=by
 rw [Bool.and_eq_true,Bool.and_eq_true] at h
 obtain ⟨⟨h1,h2⟩,h3⟩:=h
 have k1:=fun y hy=>List.all_eq_true.mp h1 y hy
 have cellOf:∀ y:Str,(scope.names.lookup y = some .free \/ scope.names.lookup y = some .cell) -> (relabel scope X0.env).names.lookup y = some .cell:=fun y hy=>by
  rcases hy with hy | hy
  ·exact x9 hk0 (S.free (y,.free) (PySem.mem_of_lookup hy) rfl) hy
  ·exact qG hy
 refine ⟨fun y hy hf=>?_,fun y hy hc=>?_,hk,fun y hy hl=>?_,by simpa using h2,fun j y i hj hs=>?_⟩
 ·have:=k1 y hy
  simp only [hf,Bool.and_eq_true] at this
  have z:=this.1.1
  exact cellOf y.1 (by simpa using z)
 ·have:=k1 y hy
  simp only [hc,Bool.and_eq_true] at this
  simp at this
 ·have:=k1 y hy
  simp only [hl,Bool.and_eq_true] at this
  simpa using this.2
 ·have hm:(y,some i) ∈ N2.zip sub2:=by
   have:(N2.zip sub2)[j]? = some (y,some i):=by
    rw [List.getElem?_zip_eq_some]; exact ⟨hj,hs⟩
   exact List.mem_of_getElem? this
  have:=List.all_eq_true.mp h3 _ hm
  simp only [Bool.and_eq_true,Bool.or_eq_true,beq_iff_eq] at this
  exact ⟨this.1.1,cellOf y this.1.2,this.2⟩
section
variable {X:Cx} {K:FG7}
theorem jC (hK:X.K = K):MtR X "list.index" (fun x vs H Q=>∃ (l:Addr) (ns:List Nat) (j:Nat),x = .ref l /\ vs = [.int j] /\ SqL K H l (zp ns) /\ j ∈ ns /\ ns.length <= 1000 /\ Q (.int (ns.idxOf j:Nat)) H):=by
 subst hK
 intro pins s σ H x vs v us Q I rx rv h
 obtain ⟨l,ns,j,rfl,rfl,hq,hj,hl,q⟩:=h
 cases rx
 obtain ⟨u,rfl,t,rfl⟩:=xY rv
 obtain ⟨its,r,⟨o,n,ho,hc,hdi,hd⟩,hz⟩:=I.list hq
 obtain ⟨oc,od,oda,osl⟩:=o
 cases hc
 cases hd
 have hlen:=r.length
 rw [zw] at hlen
 have hp:=List.idxOf_lt_length_of_mem hj
 have at_:∀ m,m < ns.length -> ∃ t,its[m]? = some (.int (ns.getD m 0:Nat) t):=fun m hm=>by
  have e1:(zp ns)[m]? = some (.int (ns.getD m 0:Nat)):=natsV_get? (by rw [List.getD_eq_getElem?_getD,List.getElem?_eq_getElem hm]; rfl)
  obtain ⟨u,hu,t,rfl⟩:=r.get e1
  exact ⟨t,hu⟩
 have hjj:∀ m (hm:m < its.toArray.size),∃ t,its.toArray[m] = .int (ns.getD m 0:Nat) t:=fun m hm=>by
  have hm':m < its.length:=by simpa using hm
  obtain ⟨t,e⟩:=at_ m (by omega)
  rw [List.getElem?_eq_getElem hm'] at e
  exact ⟨t,by simpa using Option.some.inj e⟩
 have key:∀ (x:Int),x = (j:Int) -> ∀ (p:Nat),p = ns.idxOf j -> wpAny (model X.prog X.w) X.A (call (.builtin "list.index") (.ref l :: [.int x t])) (EP X pins σ Q) X.xe s:=by
  intro x hx p hpp
  have hp':p < its.toArray.size:=by simp; omega
  refine call_meets F.slot_list_index ⟨_,ho,rfl⟩ F.entry_list_index (F.args_list_index_2 _ _)
   (SeqAt.list_indexAt l its.toArray n od osl (.int x t) (fun v=>match v with | .int a _=>a == x | _=>false) p hp' (by have:=hp'; simp at this; omega) ?_ ?_) ⟨ho,?_,?_⟩
  ·obtain ⟨t',e⟩:=hjj p hp'
   rw [e]
   show ((ns.getD p 0:Nat):Int) == x
   have:ns.getD p 0 = j:=by
    rw [hpp,List.getD_eq_getElem?_getD,List.getElem?_eq_getElem hp]
    exact List.getElem_idxOf hp
   rw [this,hx]; simp
  ·intro m hm hlt
   obtain ⟨t',e⟩:=hjj m hm
   rw [e]
   show (((ns.getD m 0:Nat):Int) == x) = false
   have hne:ns.getD m 0 ≠ j:=by
    have hm':m < ns.length:=by rw [hlen]; simpa using hm
    intro z
    have z':ns[m] = j:=by rw [← z,List.getD_eq_getElem?_getD,List.getElem?_eq_getElem hm']; rfl
    have:=List.not_of_lt_findIdx (p:=(· == j)) (xs:=ns) (i:=m) (by rw [hpp] at hlt; exact hlt)
    rw [z'] at this; simp at this
   rw [hx]
   exact beq_false_of_ne fun z=>hne (Int.ofNat.inj z)
  ·intro y hy
   obtain ⟨m,hm,rfl⟩:=List.getElem_of_mem (by simpa using hy:y ∈ its)
   obtain ⟨t',e⟩:=hjj m (by simpa using hm)
   have e':its[m] = .int (ns.getD m 0:Nat) t':=by simpa using e
   rw [e']
   exact SeqAt.EqAt.int_int _ _ _ _
  ·exact ⟨.int (ns.idxOf j:Nat),H,I.tok _,⟨_,by rw [hpp]⟩,q⟩
 exact key _ rfl _ rfl
end
theorem WA {X:Cx} {K:FG7} {T:String} {name:Str} {id:String} {r:V -> List V -> Hp -> VK -> Prop} {o e:Expr} {es:List Expr} {to:TE} {t:TA} {apos cpos:Pos} (hK:X.K = K) (pa:PlainAttrs T) (slot:Slot T name id) (hty:typeOf (.builtin id) = pure (.type "method_descriptor")) (hm:MtR X id r) (ho:PE X o to) (ha:PA X (e :: es) t)
  (hbase:attributeBase o name X.env (eval o X.env) = eval o X.env:=by rfl)
  (hfew:((backTo cpos (starEach (e :: es) X.env)).all (fun x=>!x.1) && (backToKw cpos (keywordEach [] X.env)).all (fun x=>x.1.isSome)
   && decide ((e :: es).length + ([]:List Keyword).length + (if ([]:List Keyword).isEmpty then 0 else 1) < 30)) = true:=by rfl)
  (hline:(apos.endLine == cpos.line) = true:=by rfl) (hs:starEach (e :: es) X.env = (false,eval e X.env) :: starEach es X.env:=by rfl) (hplain:(backTo cpos (starEach es X.env)).any (·.1) = false:=by rfl) :
  PE X (.Call (.Attribute o name apos) (e :: es) [] cpos) (tBM K T r to t):=by
 subst hK
 exact sV pa slot hty hm ho ha hbase hfew hline hs hplain
open PySem PySem.Spec PyProof.Rows L2 HT
section
variable {prog:Program} {w:World} {A:Around} {E:VS7} {s:Shared}
theorem XW (l b:Addr) (us ws:Array Value) (n m:Nat) (d1 d2:Option Addr) (e1 e2:Array (Option Value)) (h0:us.isEmpty = true) :
  Meets (Builtin.«tuple.__add__» ⟨[.ref l,.ref b],[]⟩) (fun _ R s=>s.heap.get? l = some ⟨.type "tuple",d1,.seq us n,e1⟩ /\ s.heap.get? b = some ⟨.type "tuple",d2,.seq ws m,e2⟩ /\ R (.ok (.ret (.ref b))) s) :=
 .of_wp fun P w A R s h=>by
  obtain ⟨hh,gg,dd,tk,os⟩:=s
  obtain ⟨eL,eT,q⟩:=h
  have k1:=PySem.AutoSeq1.sub_tuple_tuple
  wp_walk using PySem.AutoSeq1.wpAny_loadPart' eL,PySem.AutoSeq1.wpAny_loadPart' eT
  exact ⟨_,rfl,q⟩
theorem XX {t b:Addr} {vs ws:List Value} {Q:VS7} (ht:IsTup s.heap t vs.toArray) (hb:IsTup s.heap b ws.toArray) (hv:vs = []) (h1:Q (.ref b) s):wpAny (model prog w) A (binaryOp .Add (.ref t) (.ref b)) Q E s:=by
 obtain ⟨⟨c1,d1,x1,l1⟩,ho,hc,n,hd⟩:=id ht
 obtain ⟨⟨c2,d2,x2,l2⟩,ho2,hc2,m,hd2⟩:=id hb
 cases hc
 cases hd
 cases hc2
 cases hd2
 exact concat_meets ⟨_,ho,rfl⟩ ⟨_,ho2,rfl⟩ noFill_tuple_add seq_tuple_add PySem.F.slot_tuple_add PySem.F.entry_tuple_add (PySem.F.args_tuple_add_2 _ _) (XW t b vs.toArray ws.toArray n m d1 d2 l1 l2 (by simp [hv])) ⟨ho,ho2,h1⟩
theorem sr {t sl:Addr} {us:Array Value} {vl vu:Value} {lo hi:Option Int} {Q:VS7} (ht:IsTup s.heap t us) (hs:s.heap.IsSliceOf sl vl vu .none) (pl:IsPart vl lo) (pu:IsPart vu hi)
  (hw:sIx us.size 0 lo = 0 /\ sIx us.size us.size hi = us.size) (h:Q (.ref t) s):wpAny (model prog w) A (getItem (.ref t) (.ref sl)) Q E s:=by
 obtain ⟨os,hos,hcs,hds⟩:=id hs
 have hTs:s.TypeIs (.ref sl) "slice":=⟨os,hos,hcs⟩
 unfold getItem
 try with_reducible refine wpAny_holding ?_
 first | refine wpAny_bind (wpAny_pure ?_) | skip
 refine wpAny_bind (wpAny_sequenceKey ht.typeIs (by decide) ?_)
 refine wpAny_bind (wpAny_callSpecial?_slot (name:=Str.ofString "__getitem__") ht.typeIs PyProof.Rows.slot_tuple_getitem
  (wpAny_call_entry PyProof.Rows.slot_tuple_getitem ht.typeIs entry_tuple_getitem ?_ (args_tuple_getitem _ _)))
 show wpAny _ _ (Builtin.Tuple.tupleItemsOf (.ref t) >>= _) _ _ s
 refine wpAny_bind (tupleItemsOf_ ht ?_)
 refine wpAny_bind (wpAny_typeOf hTs ?_)
 rw [if_pos (by decide)]
 refine wpAny_bind (xU hs pl pu ?_)
 have yes:(((sIx us.size 0 lo:Nat):Int) == 0 && (1:Int) == 1 && (sIx us.size us.size hi - sIx us.size 0 lo) == us.size) = true:=by
  rw [hw.1,hw.2]; simp
 show wpAny _ _ (if (((sIx us.size 0 lo:Nat):Int) == 0 && (1:Int) == 1 && (sIx us.size us.size hi - sIx us.size 0 lo) == us.size) = true then _ else _) _ _ s
 rw [if_pos yes]
 refine wpAny_bind ?_
 unfold Builtin.Tuple.tupleIsExact
 refine wpAny_bind (wpAny_typeOf ht.typeIs (wpAny_pure ?_))
 show wpAny _ _ (rule _ >>= _) _ _ s
 exact wpAny_bind (wpAny_rule (wpAny_bind (wpAny_pure (wpAny_pure ⟨_,rfl,wpAny_pure h⟩))))
end
section
variable {X:Cx} {K:FG7}
def rSlG (K:FG7):V -> Option Int -> Option Int -> Hp -> VK -> Prop:=fun x lo hi H Q=>∃ a xs,x = .ref a /\ SqT K H a xs /\ ∀ p H',Grow [] H H' -> SqT K H' p (cutV xs lo hi) -> Q (.ref p) H'
theorem Yv {xs:List V} {lo hi:Option Int} (h:HT.sIx xs.length 0 lo = 0 /\ HT.sIx xs.length xs.length hi = xs.length):cutV xs lo hi = xs:=by
 unfold cutV
 rw [h.1,h.2,List.drop_zero,Nat.sub_zero,List.take_length]
theorem z6 (hK:X.K = K):SlR X (rSlG K):=by
 subst hK
 intro pins s σ H x v vl vu lo hi sl Q I rx hs pl pu h
 obtain ⟨a,xs,rfl,hx,q⟩:=h
 by_cases hw:HT.sIx xs.length 0 lo = 0 /\ HT.sIx xs.length xs.length hi = xs.length
 ·cases rx
  obtain ⟨its,r,ht,hz⟩:=I.tuple hx
  have hlen:its.toArray.size = xs.length:=by rw [List.size_toArray]; exact r.length.symm
  refine ⟨"tuple",_,PyProof.Rows.slot_tuple_getitem.lookup,ht.typeIs,?_⟩
  exact sr ht hs pl pu (by rw [hlen]; exact hw) ⟨.ref a,H,I,rfl,q a H (Grow.refl _ _) (by rw [Yv hw]; exact hx)⟩
 ·exact jq pins s σ H _ v vl vu lo hi sl Q I rx hs pl pu ⟨a,xs,rfl,hx,hw,fun p hp=>q p _ (Grow.new hp _) (SqT.of zd)⟩
def UF (K:FG7):R2:=fun x y H Q=>∃ a b xs ys,x = .ref a /\ y = .ref b /\ SqT K H a xs /\ SqT K H b ys /\ xs.length + ys.length <= sizeLine /\ ∀ p H',Grow [] H H' -> SqT K H' p (xs ++ ys) -> Q (.ref p) H'
theorem yn (hK:X.K = K):OpR X (binaryOp .Add) (UF K):=by
 subst hK
 intro pins s σ H x y v u Q I rx ry h
 obtain ⟨a,b,xs,ys,rfl,rfl,ha,hb,hz,q⟩:=h
 by_cases hx:xs = []
 ·cases rx
  cases ry
  obtain ⟨its,r1,p1,_⟩:=I.tuple ha
  obtain ⟨its2,r2,p2,_⟩:=I.tuple hb
  exact XX p1 p2 (r1.nil_iff.mpr hx) ⟨.ref b,H,I,rfl,q b H (Grow.refl _ _) (by rw [hx]; exact hb)⟩
 ·exact WT pins s σ H _ _ v u Q I rx ry ⟨a,b,xs,ys,rfl,rfl,ha,hb,hx,hz,fun e=>q a H (Grow.refl _ _) (by rw [e,List.append_nil]; exact ha),fun _ p hp=>q p _ (Grow.new hp _) (SqT.of zd)⟩
end
section
variable {c:TT} {e:TE} {i:Nat} {v v':V} {t u r:TS} {D:Ends} {σ:L2.St} {H:Hp} {rt:VK} {bk ct:L2.St -> Hp -> Prop}
theorem c_if (Good:L2.St -> Hp -> Prop) (hr:∀ σ' H',Good σ' H' -> r D σ' H') (hc:(∀ σ' H',Good σ' H' -> r D σ' H') -> tIfS c t u { D with nx:=r D } σ H):tSeq (tIfS c t u) r D σ H:=hc hr
theorem ya (Good:V -> Hp -> Prop) (hc:∀ K:VK,(∀ v H',Good v H' -> K v H') -> e σ H K) (hr:∀ v H',Good v H' -> t D (σ.set i (some v)) H'):tSeq (tAsg e (uf i)) t D σ H:=hc _ fun v H' g=>hr v H' g
theorem yh (h:t D σ H):Vw ({ nx:=t D,rt:=rt,bk:=bk,ct:=ct }:Ends) σ H:=h
theorem yA (Good:Bool -> Hp -> Prop) (hc:∀ K:Bool -> Hp -> Prop,(∀ b H',Good b H' -> K b H') -> c σ H K) (hr:∀ b H',Good b H' -> if b = true then t { D with nx:=r D } σ H' else u { D with nx:=r D } σ H'):tSeq (tIfS c t u) r D σ H:=hc _ hr
end
def DcO (a:Addr) (kvs:List (V × V)):HO:=.ext fun h=>∃ o es n,h.get? a = some o /\ o.cls = .type "dict" /\ o.data = .dict es n /\ Vals (kvs.map (·.1)) (es.toList.map (·.key)) /\ Vals (kvs.map (·.2)) (es.toList.map (·.val))
mutual
/-- nested data,whose lists and dicts are none of m -/
inductive Od (K:FG7) (m:List Addr) (H:Hp):V -> PyData -> Prop
 | non:Od K m H .non .none
 | bl (b:Bool):Od K m H (.bl b) (.bool b)
 | int (i:Int):Od K m H (.int i) (.int i)
 | str (x:Str):Od K m H (.str x) (.str x)
 | tup {a:Addr} {xs:List V} {ds:List PyData}:SqT K H a xs -> Ods K m H xs ds -> Od K m H (.ref a) (.tuple ds)
 | lst {a:Addr} {xs:List V} {ds:List PyData}:H a = some (.lst xs) -> a ∉ m -> a ≠ sysModules -> Ods K m H xs ds -> Od K m H (.ref a) (.list ds)
 | dct {a:Addr} {kvs:List (V × V)} {ds:List (PyData × PyData)}:H a = some (DcO a kvs) -> a ∉ m -> a ≠ sysModules -> Ods K m H (kvs.map (·.1)) (ds.map (·.1)) -> Ods K m H (kvs.map (·.2)) (ds.map (·.2)) -> Od K m H (.ref a) (.dict ds)
inductive Ods (K:FG7) (m:List Addr) (H:Hp):List V -> List PyData -> Prop
 | nil:Ods K m H [] []
 | cons {x:V} {xs:List V} {d:PyData} {ds:List PyData}:Od K m H x d -> Ods K m H xs ds -> Ods K m H (x :: xs) (d :: ds)
end
section
variable {K:FG7} {m:List Addr} {H H':Hp}
mutual
theorem Od.grow (g:Grow m H H'):∀ {x:V} {d:PyData},Od K m H x d -> Od K m H' x d
 | _,_,.non=>.non
 | _,_,.bl b=>.bl b
 | _,_,.int i=>.int i
 | _,_,.str x=>.str x
 | _,_,.tup h t=>.tup (g.sqT h) (Ods.grow g t)
 | _,_,.lst h n b t=>.lst (g.keep _ _ n h) n b (Ods.grow g t)
 | _,_,.dct h n b t u=>.dct (g.keep _ _ n h) n b (Ods.grow g t) (Ods.grow g u)
theorem Ods.grow (g:Grow m H H'):∀ {xs:List V} {ds:List PyData},Ods K m H xs ds -> Ods K m H' xs ds
 | _,_,.nil=>.nil
 | _,_,.cons h t=>.cons (Od.grow g h) (Ods.grow g t)
end
theorem Ods.length:∀ {xs:List V} {ds:List PyData},Ods K m H xs ds -> xs.length = ds.length
 | _,_,.nil=>rfl
 | _,_,.cons _ t=>congrArg (· + 1) (Ods.length t)
theorem Ods.get:∀ {xs:List V} {ds:List PyData} {i:Nat} {x:V},Ods K m H xs ds -> xs[i]? = some x -> ∃ d,ds[i]? = some d /\ Od K m H x d
 | _,_,_,_,.nil,e=>by simp at e
 | _,_,0,_,.cons h _,e=>by simp at e; subst e; exact ⟨_,rfl,h⟩
 | _,_,i + 1,x,.cons _ t,e=>Ods.get (i:=i) t (by simpa using e)
theorem Ods.take:∀ {xs:List V} {ds:List PyData} (n:Nat),Ods K m H xs ds -> Ods K m H (xs.take n) (ds.take n)
 | _,_,0,_=>.nil
 | _,_,_ + 1,.nil=>.nil
 | _,_,n + 1,.cons r t=>.cons r (Ods.take n t)
theorem Ods.drop:∀ {xs:List V} {ds:List PyData} (n:Nat),Ods K m H xs ds -> Ods K m H (xs.drop n) (ds.drop n)
 | _,_,0,r=>r
 | _,_,_ + 1,.nil=>.nil
 | _,_,n + 1,.cons _ t=>Ods.drop n t
end
section
variable {X:Cx} {pins:List (Addr × Obj)} {σ:L2.St} {H:Hp} {s:Shared} {m:List Addr}
theorem Yw (I:Inv X pins σ H s):sysModules < s.heap.objs.size:=Nat.lt_trans (by decide) (show mainGlobals < s.heap.objs.size from (I.mod.glob.keeps I.bk).lt)
theorem DcO.at (I:Inv X pins σ H s) {a:Addr} {kvs:List (V × V)} (h:H a = some (DcO a kvs)):∃ o es n,s.heap.get? a = some o /\ o.cls = .type "dict" /\ o.data = .dict es n /\ Vals (kvs.map (·.1)) (es.toList.map (·.key)) /\ Vals (kvs.map (·.2)) (es.toList.map (·.val)):=(I.hok a _ h).1
mutual
theorem Od.reads (I:Inv X pins σ H s):∀ {x:V} {d:PyData} {u:Value},Od X.K m H x d -> RelV x u -> ∃ as,Reads s.heap u d as /\ sysModules ∉ as
 | _,_,u,.non,r=>by
  cases (show u = Value.none from r)
  exact ⟨_,.none,by simp⟩
 | _,_,u,.bl b,r=>by
  cases (show u = Value.bool b from r)
  exact ⟨_,.bool b,by simp⟩
 | _,_,u,.int i,r=>by
  obtain ⟨t,rfl⟩:=r
  exact ⟨_,.int i t,by simp⟩
 | _,_,u,.str x,r=>by
  obtain ⟨t,rfl⟩:=r
  exact ⟨_,.str x t,by simp⟩
 | _,_,u,.tup (a:=a) hs hd,r=>by
  cases (show u = Value.ref a from r)
  obtain ⟨its,r1,⟨o,e1,e2,n,e3⟩,_⟩:=I.tuple hs
  obtain ⟨as,q,ns⟩:=Ods.reads I hd r1
  exact ⟨_,.tuple e1 e2 e3 q,ns⟩
 | _,_,u,.lst (a:=a) hs _ hb hd,r=>by
  cases (show u = Value.ref a from r)
  obtain ⟨its,r1,⟨o,n,e1,e2,_,e3⟩,_⟩:=I.list (SqL.of hs)
  obtain ⟨as,q,ns⟩:=Ods.reads I hd r1
  exact ⟨_,.list e1 e2 e3 q,fun z=>(List.mem_cons.mp z).elim (fun e=>hb e.symm) ns⟩
 | _,_,u,.dct (a:=a) hs _ hb h1 h2,r=>by
  cases (show u = Value.ref a from r)
  obtain ⟨o,es,n,e1,e2,e3,v1,v2⟩:=DcO.at I hs
  obtain ⟨as,q1,n1⟩:=Ods.reads I h1 v1
  obtain ⟨bs,q2,n2⟩:=Ods.reads I h2 v2
  refine ⟨_,.dict e1 e2 e3 q1 q2,fun z=>?_⟩
  rcases List.mem_append.mp z with z | z
  ·exact (List.mem_cons.mp z).elim (fun e=>hb e.symm) n1
  ·exact n2 z
theorem Ods.reads (I:Inv X pins σ H s):∀ {xs:List V} {ds:List PyData} {us:List Value},Ods X.K m H xs ds -> Vals xs us -> ∃ as,ReadsAll s.heap us ds as /\ sysModules ∉ as
 | _,_,_,.nil,.nil=>⟨_,.nil,by simp⟩
 | _,_,_,.cons h t,.cons r rs=>by
  obtain ⟨as,q,n1⟩:=Od.reads I h r
  obtain ⟨bs,q2,n2⟩:=Ods.reads I t rs
  exact ⟨_,.cons q q2,fun z=>(List.mem_append.mp z).elim n1 n2⟩
end
def VV (K:FG7):List V -> Hp -> VK -> Prop:=fun xs H Q=>∃ x d m,xs = [x] /\ Od K m H x d /\ d.showable = true /\ d.depth <= 60 /\ d.shown.length <= sizeLine /\ Q (.str d.shown) H
theorem tK {K:FG7} {k:Nat} (hK:X.K = K) (hr:Room k X.A):yY X (.builtin "repr") (VV K):=by
 subst hK
 intro pins s σ H xs us Q I r h
 obtain ⟨x,d,m,rfl,hd,h1,h3,h4,q⟩:=h
 obtain ⟨u,rfl,rx⟩:=xY r
 have key:∀ a,u = .ref a -> wpAny (model X.prog X.w) X.A (call (.builtin "repr") [u]) (EP X pins σ Q) X.xe s:=fun a e=>by
  subst e
  obtain ⟨as,rd,ns⟩:=Od.reads I hd rx
  exact repr_of_reads' rd h1 (fun _=>ns) hr.gd (by have:=hr.un; omega) (fun _ _ e=>e) (fun h' t tk hk=>⟨.str _,H,I.kept hk,⟨_,rfl⟩,q⟩) h4
 cases hd with
 | non =>
  cases (show u = Value.none from rx)
  exact PySem.P.repr_of_none ⟨.str _,H,I.tok _,⟨_,rfl⟩,q⟩
 | bl b =>
  cases (show u = Value.bool b from rx)
  exact PySem.P.repr_of_bool ⟨.str _,H,I.tok _,⟨_,rfl⟩,q⟩
 | int i =>
  obtain ⟨t,rfl⟩:=rx
  exact PySem.P.repr_of_int (of_decide_eq_true h1) ⟨.str _,H,I.tok _,⟨_,rfl⟩,q⟩
 | str x =>
  obtain ⟨t,rfl⟩:=rx
  exact PySem.P.repr_of_str ⟨.str _,H,I.tok _,⟨_,rfl⟩,q⟩ h4
 | tup hs ha=>exact key _ rx
 | lst hs _ _ ha=>exact key _ rx
 | dct hs _ _ h1 h2=>exact key _ rx
end
theorem rj {ks:List (Option Expr)} {vs es:List Expr} {p:Pos} {env:Env}:starEach (.Dict ks vs p :: es) env = (false,eval (.Dict ks vs p) env) :: starEach es env:=by rfl
structure DR where
 p:List Addr -> L2.St -> Hp -> Prop
 mono:∀ {m σ H H'},Grow [] H H' -> p m σ H -> p m σ H'
 more:∀ {a m σ H},H a = none -> p m σ H -> p (a :: m) σ H
def DR.t:DR:=⟨fun _ _ _=>True,fun _ _=>trivial,fun _ _=>trivial⟩
def tOd (K:FG7) (R:DR) (D:PyData):TE:=fun σ H Q=>∃ m,R.p m σ H /\ (∀ b ∈ m,H b ≠ none) /\ ∀ x H',Grow [] H H' -> Od K m H' x D -> Q x H'
section
variable {X:Cx} {K:FG7} {R R':DR} {D:PyData} {Ds:List PyData} {e:Expr} {es:List Expr} {pos:Pos} {j}
theorem VW {m:List Addr} {H:Hp} {p:Addr} (b:∀ b ∈ m,H b ≠ none) (h:H p = none):p ∉ m:=fun z=>b p z h
theorem tL (hK:X.K = K):yY X (.type "list") (fun xs H Q=>∃ p ys,xs = [.ref p] /\ (SqL K H p ys \/ SqT K H p ys) /\ ∀ l,H l = none -> l ≠ sysModules -> Q (.ref l) (upd H l (.lst ys))):=by
 subst hK
 intro pins s σ H xs us Q I r h
 obtain ⟨p,ys,rfl,hq,q⟩:=h
 obtain ⟨u,rfl,rx⟩:=xY r
 cases rx
 have fin:∀ (its:List Value),Vals ys its -> ys.length <= sizeLine -> ∀ (h':Heap) (c':Nat),(∀ b o',s.heap.get? b = some o' -> h'.get? b = some o') →
   h'.get? s.heap.objs.size = some { cls:=.type "list",dict:=none,data:=.seq its.toArray c',slots:=#[] } -> EP X pins σ Q (.ref s.heap.objs.size) { s with heap:=h' }:=fun its r' hz h' c' kp e =>
  ⟨.ref s.heap.objs.size,_,I.laid (t':=s.toks) kp (Nat.le_refl _) (show yr X.prog X.w _ h' _ (.lst ys) from ⟨hz,its,c',r',e⟩),rfl,q _ (I.hok.fresh (Nat.le_refl _)) (Nat.ne_of_gt (Yw I))⟩
 rcases hq with hq | hq
 ·obtain ⟨its,r',pl,hz⟩:=I.list hq
  have hlen:=r'.length
  obtain ⟨o,ho,hc,n,hd⟩:=pl.isList
  exact call_list_seq p (.inl rfl) ho hc hd (fun h' c' kp e=>fin its r' hz h' c' kp e) (by simp only [List.size_toArray] <;> omega)
 ·obtain ⟨its,r',pl,hz⟩:=I.tuple hq
  have hlen:=r'.length
  obtain ⟨o,ho,hc,n,hd⟩:=pl
  exact call_list_seq p (.inr rfl) ho hc hd (fun h' c' kp e=>fin its r' hz h' c' kp e) (by simp only [List.size_toArray] <;> omega)
end
section
variable {X:Cx} {K:FG7} {R R':DR} {D:PyData} {e k:Expr} {ks:List (Option Expr)} {vs:List Expr} {kds:List (OKey × PyData)} {pos:Pos}
theorem W4:PE X (.Dict [] [] pos) (tOd K .t (.dict [])):=by
 intro pins s σ H Q I ⟨m,_,hb,q⟩
 have hf:H s.heap.objs.size = none:=I.hok.fresh (Nat.le_refl _)
 refine wpAny_Dict_empty ?_
 have I1:Inv X pins σ (upd H s.heap.objs.size (DcO s.heap.objs.size [])) { s with heap:=s.heap.push { cls:=.type "dict",data:=.dict #[] } } :=
  I.laid (t':=s.toks) (fun b u e=>Heap.get?_push_of_some _ e) (Nat.le_refl _) ⟨⟨_,_,_,Heap.get?_push_size _ rfl,rfl,rfl,.nil,.nil⟩,⟨_,Heap.get?_push_size _ rfl⟩,fun h1 h2 hφ hk=>by
   obtain ⟨o',es',n',a1,a2⟩:=hφ
   exact ⟨o',es',n',hk _ a1,a2⟩⟩
 exact ⟨.ref s.heap.objs.size,_,I1,rfl,q _ _ (Grow.new hf _) (.dct (kvs:=[]) (ds:=[]) zd (VW hb hf) (Nat.ne_of_gt (Yw I)) .nil .nil)⟩
end
def tyD:PyData -> String
 | .none=>"NoneType"
 | .bool _=>"bool"
 | .int _=>"int"
 | .str _=>"str"
 | .list _=>"list"
 | .tuple _=>"tuple"
 | .dict _=>"dict"
def UG (K:FG7):List V -> Hp -> VK -> Prop:=fun xs H Q=>∃ x d m T k,xs = [x,.ty T] /\ Od K m H x d /\ PySem.W.kitOne K (.type (tyD d)) (.type T) = some k /\ Q (.bl k) H
theorem wc {X:Cx} {K:FG7} (hK:X.K = K):yY X (.builtin "isinstance") (UG K):=by
 subst hK
 intro pins s σ H xs us Q I r h
 obtain ⟨x,d,m,T,k,rfl,hd,e,q⟩:=h
 cases hd with
 | non=>exact yq pins s σ H _ us Q I r ⟨_,T,_,k,rfl,rfl,e,q⟩
 | bl b=>exact yq pins s σ H _ us Q I r ⟨_,T,_,k,rfl,rfl,e,q⟩
 | int i=>exact yq pins s σ H _ us Q I r ⟨_,T,_,k,rfl,rfl,e,q⟩
 | str y=>exact yq pins s σ H _ us Q I r ⟨_,T,_,k,rfl,rfl,e,q⟩
 | tup hs _=>exact yq pins s σ H _ us Q I r ⟨_,T,_,k,rfl,.inl ⟨rfl,_,hs⟩,e,q⟩
 | lst hs _ _ _=>exact yq pins s σ H _ us Q I r ⟨_,T,_,k,rfl,.inr (.inl ⟨rfl,_,SqL.of hs⟩),e,q⟩
 | @dct a kvs ds hs _ _ _ _ =>
  obtain ⟨u,w',rfl,rx,rt⟩:=jV r
  cases (show w' = Value.type T from rt)
  cases (show u = Value.ref a from rx)
  obtain ⟨o,es,n,e1,e2,_⟩:=DcO.at I hs
  exact PySem.W.kia_one PySem.W.kitx_dict I.kIn ⟨o,e1,e2⟩ e (fun z=>nomatch z) fun tk=>⟨.bl k,H,I.tok _,rfl,q⟩
def UP:PyData -> Bool
 | .int _=>true
 | _=>false
mutual
def leD (B:Int):PyData -> Bool
 | .int i=>decide (-B <= i) && decide (i <= B)
 | .list xs | .tuple xs=>leDs B xs
 | .dict kvs=>leDk B kvs
 | .none | .bool _ | .str _=>true
def leDs (B:Int):List PyData -> Bool
 | []=>true
 | x :: xs=>leD B x && leDs B xs
def leDk (B:Int):List (PyData × PyData) -> Bool
 | []=>true
 | (k,v) :: r=>leD B k && leD B v && leDk B r
end
mutual
def wtO:PyData -> Nat
 | .list xs | .tuple xs=>wtOs xs + 3
 | .dict kvs=>wtOk kvs + 3
 | .int _=>1921
 | .none | .bool _=>5
 | .str x=>(reprText x).length
def wtOs:List PyData -> Nat
 | []=>0
 | x :: xs=>wtO x + 2 + wtOs xs
def wtOk:List (PyData × PyData) -> Nat
 | []=>0
 | (k,v) :: r=>wtO k + wtO v + 4 + wtOk r
end
mutual
theorem leD_mono {B B':Int} (h:B <= B'):∀ {d:PyData},leD B d = true -> leD B' d = true
 | .int i,z=>by
  simp only [leD,Bool.and_eq_true,decide_eq_true_eq] at z ⊢
  omega
 | .list xs,z=>leDs_mono h (xs:=xs) z
 | .tuple xs,z=>leDs_mono h (xs:=xs) z
 | .dict kvs,z=>leDk_mono h (kvs:=kvs) z
 | .none,_=>rfl
 | .bool _,_=>rfl
 | .str _,_=>rfl
theorem leDs_mono {B B':Int} (h:B <= B'):∀ {xs:List PyData},leDs B xs = true -> leDs B' xs = true
 | [],_=>rfl
 | x :: xs,z=>by
  have z':=Bool.and_eq_true_iff.mp (show (leD B x && leDs B xs) = true from z)
  show (leD B' x && leDs B' xs) = true
  rw [leD_mono h z'.1,leDs_mono h z'.2]; rfl
theorem leDk_mono {B B':Int} (h:B <= B'):∀ {kvs:List (PyData × PyData)},leDk B kvs = true -> leDk B' kvs = true
 | [],_=>rfl
 | (k,v) :: r,z=>by
  have z':=Bool.and_eq_true_iff.mp (show (leD B k && leD B v && leDk B r) = true from z)
  have z'':=Bool.and_eq_true_iff.mp z'.1
  show (leD B' k && leD B' v && leDk B' r) = true
  rw [leD_mono h z''.1,leD_mono h z''.2,leDk_mono h z'.2]; rfl
end
theorem xm {B:Int}:∀ {xs:List PyData},leDs B xs = true ↔ ∀ x ∈ xs,leD B x = true
 | []=>by simp [leDs]
 | x :: xs=>by simp [leDs,xm (xs:=xs)]
def Bg:Int:=2 ^ 1000
mutual
theorem showable_le {B:Int} (hB:B <= Bg):∀ {d:PyData},leD B d = true -> d.showable = true
 | .int i,z=>by
  simp only [leD,Bool.and_eq_true,decide_eq_true_eq] at z
  have hb:Bg = 2 ^ 1000:=rfl
  show decide (i.natAbs.log2 < 1920) = true
  refine decide_eq_true ?_
  by_cases h0:i.natAbs = 0
  ·rw [h0]; decide
  ·rw [Nat.log2_lt h0]
   have h1:(i.natAbs:Int) <= Bg:=by omega
   have h2:i.natAbs <= 2 ^ 1000:=by rw [hb] at h1; exact_mod_cast h1
   exact Nat.lt_of_le_of_lt h2 (Nat.pow_lt_pow_right (by decide) (by decide))
 | .list xs,z=>showableAll_le hB (xs:=xs) z
 | .tuple xs,z=>showableAll_le hB (xs:=xs) z
 | .dict kvs,z=>showableKv_le hB (kvs:=kvs) z
 | .none,_=>rfl
 | .bool _,_=>rfl
 | .str _,_=>rfl
theorem showableAll_le {B:Int} (hB:B <= Bg):∀ {xs:List PyData},leDs B xs = true -> PyData.showableAll xs = true
 | [],_=>rfl
 | x :: xs,z=>by
  have z':=Bool.and_eq_true_iff.mp (show (leD B x && leDs B xs) = true from z)
  show (x.showable && PyData.showableAll xs) = true
  rw [showable_le hB z'.1,showableAll_le hB z'.2]; rfl
theorem showableKv_le {B:Int} (hB:B <= Bg):∀ {kvs:List (PyData × PyData)},leDk B kvs = true -> PyData.showableKv kvs = true
 | [],_=>rfl
 | (k,v) :: r,z=>by
  have z':=Bool.and_eq_true_iff.mp (show (leD B k && leD B v && leDk B r) = true from z)
  have z'':=Bool.and_eq_true_iff.mp z'.1
  show (k.showable && v.showable && PyData.showableKv r) = true
  rw [showable_le hB z''.1,showable_le hB z''.2,showableKv_le hB z'.2]; rfl
end
mutual
theorem shown_le:∀ {d:PyData},d.showable = true -> d.shown.length <= wtO d
 | .none,_=>by decide
 | .bool b,_=>by cases b <;> decide
 | .int i,h=>int_text_len_1921 (of_decide_eq_true h)
 | .str x,_=>Nat.le_refl _
 | .list xs,h=>by
  have q:=shown_les (xs:=xs) h
  have l:=listText_len_le (PyData.shownAll xs)
  show (listText (PyData.shownAll xs)).length <= wtOs xs + 3
  omega
 | .tuple xs,h=>by
  have q:=shown_les (xs:=xs) h
  have l:=tupleText_len_le (PyData.shownAll xs)
  show (tupleText (PyData.shownAll xs)).length <= wtOs xs + 3
  omega
 | .dict kvs,h=>by
  have q:=shown_lek (kvs:=kvs) h
  have l:=dictText_len_le (PyData.shownKv kvs)
  show (dictText (PyData.shownKv kvs)).length <= wtOk kvs + 3
  omega
theorem shown_les:∀ {xs:List PyData},PyData.showableAll xs = true -> ((PyData.shownAll xs).map (·.length)).sum + 2 * (PyData.shownAll xs).length <= wtOs xs
 | [],_=>by decide
 | x :: xs,h=>by
  have h':(x.showable && PyData.showableAll xs) = true:=h
  rw [Bool.and_eq_true] at h'
  have q1:=shown_le (d:=x) h'.1
  have q2:=shown_les (xs:=xs) h'.2
  show (((x.shown :: PyData.shownAll xs).map (·.length)).sum + 2 * (x.shown :: PyData.shownAll xs).length) <= wtO x + 2 + wtOs xs
  rw [List.map_cons,List.sum_cons,List.length_cons]
  omega
theorem shown_lek:∀ {kvs:List (PyData × PyData)},PyData.showableKv kvs = true -> ((PyData.shownKv kvs).map (·.length)).sum + 2 * (PyData.shownKv kvs).length <= wtOk kvs
 | [],_=>by decide
 | (k,v) :: r,h=>by
  have h':(k.showable && v.showable && PyData.showableKv r) = true:=h
  rw [Bool.and_eq_true,Bool.and_eq_true] at h'
  have q1:=shown_le (d:=k) h'.1.1
  have q2:=shown_le (d:=v) h'.1.2
  have q3:=shown_lek (kvs:=r) h'.2
  have e:(k.shown ++ ": " ++ v.shown).length = k.shown.length + 2 + v.shown.length:=by
   rw [strLen_append,strLen_append]; rfl
  show ((((k.shown ++ ": " ++ v.shown) :: PyData.shownKv r).map (·.length)).sum + 2 * ((k.shown ++ ": " ++ v.shown) :: PyData.shownKv r).length) <= wtO k + wtO v + 4 + wtOk r
  rw [List.map_cons,List.sum_cons,List.length_cons,e]
  omega
end
structure GdS (n k w:Nat) (ds:List PyData):Prop where
 le:leDs (10 ^ 30 + n) ds = true
 dp:PyData.depthAll ds <= k
 wt:wtOs ds <= w
structure GdD (n k w:Nat) (d:PyData):Prop where
 le:leD (10 ^ 30 + n) d = true
 dp:d.depth <= k
 wt:wtO d <= w
theorem yb {k:Nat}:∀ {xs:List PyData},PyData.depthAll xs <= k ↔ ∀ x ∈ xs,x.depth <= k
 | []=>by simp [PyData.depthAll]
 | x :: xs=>by
  show max x.depth (PyData.depthAll xs) <= k ↔ _
  rw [Nat.max_le,yb (xs:=xs)]
  simp
theorem GdD.one {n k w:Nat} {d:PyData} (h:GdD n k w d):GdS n k (w + 2) [d]:=⟨by show (leD _ d && true) = true; rw [h.le]; rfl,by show max d.depth 0 <= k; have:=h.dp; omega,by show wtO d + 2 + 0 <= w + 2; have:=h.wt; omega⟩
theorem GdS.tup {n k w:Nat} {ds:List PyData} (h:GdS n k w ds):GdD n (k + 1) (w + 3) (.tuple ds):=⟨h.le,Nat.succ_le_succ h.dp,Nat.add_le_add_right h.wt 3⟩
theorem GdS.lst {n k w:Nat} {ds:List PyData} (h:GdS n k w ds):GdD n (k + 1) (w + 3) (.list ds):=⟨h.le,Nat.succ_le_succ h.dp,Nat.add_le_add_right h.wt 3⟩
theorem GdD.mono {n n' k k' w w':Nat} {d:PyData} (h:GdD n k w d) (h1:n <= n') (h2:k <= k') (h3:w <= w'):GdD n' k' w' d:=⟨leD_mono (by omega) h.le,Nat.le_trans h.dp h2,Nat.le_trans h.wt h3⟩
theorem UH {n:Nat} (h:n <= 1000000):(10:Int) ^ 30 + n <= Bg:=by
 have h1:(10:Int) ^ 30 + 1000000 <= Bg:=by decide +kernel
 omega
section
variable {K:FG7} {m:List Addr} {H:Hp} {x:V}
theorem Od.inv_tup {ds:List PyData} (h:Od K m H x (.tuple ds)):∃ a xs,x = .ref a /\ SqT K H a xs /\ Ods K m H xs ds:=by
 cases h with
 | tup h1 h2=>exact ⟨_,_,rfl,h1,h2⟩
end
section
variable {X:Cx} {K:FG7}
def FrT (H:Hp) (r:Addr) (xs:List V):Prop:=∃ o:Obj,H r = some (.frz o (.tup xs)) /\ o.cls = .type "tuple" /\ o.dict = none
theorem Grow.frT {m:List Addr} {H H':Hp} (g:Grow m H H') {r:Addr} {xs:List V} (h:FrT H r xs):FrT H' r xs:=by
 obtain ⟨o,e,c,d⟩:=h
 exact ⟨o,g.frz _ _ _ e,c,d⟩
theorem qH:yY X (.type "tuple") (fun xs H Q=>∃ p ys,xs = [.ref p] /\ SqL X.K H p ys /\ ∀ (l:Addr) (o:Obj),H l = none -> o.cls = .type "tuple" -> o.dict = none -> Q (.ref l) (upd H l (.frz o (.tup ys)))):=by
 intro pins s σ H xs us Q I r h
 obtain ⟨p,ys,rfl,hq,q⟩:=h
 obtain ⟨u,rfl,rx⟩:=xY r
 cases rx
 obtain ⟨its,r',pl,hz⟩:=I.list hq
 have hlen:=r'.length
 refine call_tuple_list pl.isList (fun h' kp=>?_) (by simp only [List.size_toArray] <;> omega)
 have I1:Inv X pins σ H { s with heap:=h' }:=I.kept (t':=s.toks) kp
 have I2:Inv X pins σ (upd H h'.objs.size (.frz { cls:=.type "tuple",data:=.seq its.toArray } (.tup ys))) { s with heap:=h'.push { cls:=.type "tuple",data:=.seq its.toArray } } :=
  I1.laid (t':=s.toks) (fun b o e=>Heap.get?_push_of_some _ e) (Nat.le_refl _) (show yr X.prog X.w _ _ _ (.frz _ (.tup ys)) from ⟨Heap.get?_push_size _ rfl,hz,its,r',IsTup.new _ _⟩)
 exact ⟨.ref h'.objs.size,_,I2,rfl,q _ _ (I1.hok.fresh (Nat.le_refl _)) rfl rfl⟩
end
structure Call72 where
 hand:Int
 box:Int
 deed:Deed
 begun:Int
 ended:Int
 answer:Int
instance:Inhabited Call72:=⟨⟨0,0,⟨0,none,none⟩,0,0,0⟩⟩
def Call72.vs (c:Call72) (rd:Addr):List V:=[.int c.hand,.int c.box,.ref rd,.int c.begun,.int c.ended,.int c.answer]
def yu (K:FG7) (H:Hp) (x:V) (c:Call72):Prop:=∃ r rd,x = .ref r /\ SqT K H r (c.vs rd) /\ SqT K H rd c.deed.vs
def zC (K:FG7) (H:Hp) (x:V) (cs:List Call72):Prop:=∃ r xs,x = .ref r /\ SqT K H r xs /\ AllR (yu K H) xs cs
theorem Grow.call72 {m:List Addr} {H H':Hp} (g:Grow m H H') {K:FG7} {x:V} {c:Call72} (h:yu K H x c):yu K H' x c:=by
 obtain ⟨r,rd,e,h1,h2⟩:=h
 exact ⟨r,rd,e,g.sqT h1,g.sqT h2⟩
theorem Grow.callsR {m:List Addr} {H H':Hp} (g:Grow m H H') {K:FG7} {xs:List V} {cs:List Call72} (h:AllR (yu K H) xs cs):AllR (yu K H') xs cs:=h.imp fun _ _ z=>g.call72 z
theorem Grow.calls72 {m:List Addr} {H H':Hp} (g:Grow m H H') {K:FG7} {x:V} {cs:List Call72} (h:zC K H x cs):zC K H' x cs:=by
 obtain ⟨r,xs,e,h1,h2⟩:=h
 exact ⟨r,xs,e,g.sqT h1,g.callsR h2⟩
structure CallOk72 (m:Nat) (c:Call72):Prop where
 h0:0 <= c.hand
 h1:c.hand <= 15
 b0:0 <= c.box
 b1:c.box < m
 d:c.deed.Ok
 t0:0 <= c.begun
 t1:c.begun <= c.ended
def vZ (b:Int) (cs:List Call72):Nat:=cs.countP fun c=>decide (c.box = b)
structure Calls72 (m:Nat) (cs:List Call72):Prop where
 len:cs.length <= 40
 ok:∀ c ∈ cs,CallOk72 m c
 few:∀ b:Int,vZ b cs <= 8
def cg (cs:List Call72) (k:Nat):Call72:=cs.getD k default
theorem yB {cs:List Call72} {k:Nat} {c:Call72} (h:cs[k]? = some c):cg cs k = c:=by unfold cg; rw [List.getD_eq_getElem?_getD,h]; rfl
theorem WB {cs:List Call72} {k:Nat} (h:k < cs.length):cg cs k ∈ cs:=by
 have:=List.getElem?_eq_getElem h
 rw [yB this]; exact List.getElem_mem h
def kl72 (cs:List Call72):List Nat -> Bool
 | []=>true
 | k :: r=>!(r.any fun j=>decide ((cg cs j).ended < (cg cs k).begun)) && kl72 cs r
def kp72 (cs:List Call72):Int -> List Nat -> Bool
 | _,[]=>true
 | t,k :: r=>if (cg cs k).ended < t then false else kp72 cs (if (cg cs k).begun > t then (cg cs k).begun else t) r
theorem VX {cs:List Call72}:∀ {ns:List Nat} {t:Int},kp72 cs t ns = ((ns.all fun j=>!decide ((cg cs j).ended < t)) && kl72 cs ns)
 | [],_=>rfl
 | k :: r,t=>by
  unfold kp72 kl72
  rw [List.all_cons]
  by_cases h:(cg cs k).ended < t
  ·rw [if_pos h,decide_eq_true h]; rfl
  ·rw [if_neg h,decide_eq_false h,VX]
   have e:(r.all fun j=>!decide ((cg cs j).ended < (if (cg cs k).begun > t then (cg cs k).begun else t))) = ((r.all fun j=>!decide ((cg cs j).ended < t)) && !(r.any fun j=>decide ((cg cs j).ended < (cg cs k).begun))):=by
    rw [Bool.eq_iff_iff,Bool.and_eq_true,List.all_eq_true,List.all_eq_true,Bool.not_eq_true',List.any_eq_false]
    constructor
    ·intro h
     refine ⟨fun j hj=>?_,fun j hj=>?_⟩
     ·have:=h j hj
      rw [Bool.not_eq_true',decide_eq_false_iff_not] at this ⊢
      split at this <;> omega
     ·have:=h j hj
      rw [Bool.not_eq_true',decide_eq_false_iff_not] at this
      rw [decide_eq_true_eq]
      split at this <;> omega
    ·rintro ⟨h1,h2⟩ j hj
     have a:=h1 j hj
     have b:=h2 j hj
     rw [Bool.not_eq_true',decide_eq_false_iff_not] at a ⊢
     rw [decide_eq_true_eq] at b
     split <;> omega
   rw [e,Bool.and_assoc]; rfl
theorem W5 {cs:List Call72} {m:Nat} {ns:List Nat} (ok:∀ c ∈ cs,CallOk72 m c) (lt:∀ k ∈ ns,k < cs.length):kp72 cs 0 ns = kl72 cs ns:=by
 rw [VX]
 have:(ns.all fun j=>!decide ((cg cs j).ended < 0)) = true:=by
  rw [List.all_eq_true]
  intro j hj
  have o:=ok _ (WB (lt j hj))
  have:=o.t0; have:=o.t1
  rw [Bool.not_eq_true',decide_eq_false_iff_not]; omega
 rw [this,Bool.true_and]
def an72 (cs:List Call72):List Int -> List Nat -> Bool
 | _,[]=>true
 | vs,k :: r=>if vs.getD (cg cs k).box.toNat 0 = (cg cs k).answer then an72 cs (vs.set (cg cs k).box.toNat ((cg cs k).deed.mk' (cg cs k).answer)) r else false
theorem xa {cs:List Call72} {vs:List Int} {k:Nat} {r:List Nat}:an72 cs vs (k :: r) = if vs.getD (cg cs k).box.toNat 0 = (cg cs k).answer then an72 cs (vs.set (cg cs k).box.toNat ((cg cs k).deed.mk' (cg cs k).answer)) r else false:=rfl
theorem yi {α:Type} {l:List α} {j:Nat} {x d:α} (h:j < l.length):(l.set j x).getD j d = x:=by rw [List.getD_eq_getElem?_getD,List.getElem?_set_self h]; rfl
theorem zT {α:Type} {l:List α} {i j:Nat} {x d:α} (h:i ≠ j):(l.set i x).getD j d = l.getD j d:=by rw [List.getD_eq_getElem?_getD,List.getD_eq_getElem?_getD,List.getElem?_set_ne h]
def xt (n:Nat) (d:PyData) (ns:List Nat):Prop:=d = .tuple (ns.map fun k:Nat=>PyData.int (k:Int)) /\ ns.Perm (List.range n)
theorem xc:∀ {a b:List Nat},(a.map fun k:Nat=>PyData.int (k:Int)) = b.map (fun k:Nat=>PyData.int (k:Int)) -> a = b
 | [],[],_=>rfl
 | [],_ :: _,h=>by cases h
 | _ :: _,[],h=>by cases h
 | x :: a,y :: b,h=>by
  obtain ⟨h1,h2⟩:=List.cons.inj h
  have:x = y:=by injection h1 with h1; omega
  rw [this,xc h2]
theorem xt.uniq {n:Nat} {d:PyData} {ns ms:List Nat} (h:xt n d ns) (h':xt n d ms):ns = ms:=by
 have:=h.1.symm.trans h'.1
 injection this with this
 exact xc this
def XY (b:List Int) (cs:List Call72) (d:PyData):Prop:=∃ ns,xt cs.length d ns /\ kl72 cs ns = true /\ an72 cs b ns = true
def Fl72 (d:PyData):Prop:=∀ ds,d = .tuple ds -> ds.length < 64 /\ ∀ e ∈ ds,∀ kvs,e ≠ .dict kvs
def yO (K:FG7) (H:Hp) (x:V) (ns:List Nat):Prop:=∃ r,x = .ref r /\ SqT K H r (zp ns)
def W6 (K:FG7) (H:Hp) (x:V) (ns:List Nat):Prop:=∃ r,x = .ref r /\ SqL K H r (zp ns)
theorem yj {ns:List Nat} {i:Nat} {x:V} (h:(zp ns)[i]? = some x):∃ k,ns[i]? = some k /\ x = .int k:=by
 unfold zp at h
 rw [List.getElem?_map] at h
 obtain ⟨k,hk,e⟩:=Option.map_eq_some_iff.mp h
 exact ⟨k,hk,e.symm⟩
theorem vc {ns:List Nat} {i k:Nat} (h:ns[i]? = some k):ns.drop i = k :: ns.drop (i + 1):=by
 obtain ⟨hlt,e⟩:=List.getElem?_eq_some_iff.mp h
 rw [List.drop_eq_getElem_cons hlt,e]
theorem yO.grow {K:FG7} {H H':Hp} {x:V} {ns:List Nat} {m:List Addr} (h:yO K H x ns) (g:Grow m H H'):yO K H' x ns:=by
 obtain ⟨r,e,s⟩:=h
 exact ⟨r,e,g.sqT s⟩
theorem jD {K:FG7} {m:List Addr} {H:Hp}:∀ {xs:List V} {ns:List Nat},Ods K m H xs (ns.map fun k:Nat=>PyData.int (k:Int)) -> xs = zp ns
 | _,[],.nil=>rfl
 | _,k :: ns,.cons (.int _) t=>by rw [jD t]; rfl
theorem ss {K:FG7} {m:List Addr} {H:Hp} {x:V} {d:PyData} {ns:List Nat} (e:d = .tuple (ns.map fun k:Nat=>PyData.int (k:Int))) (h:Od K m H x d):yO K H x ns:=by
 subst e
 obtain ⟨r,xs,rfl,hs,os⟩:=h.inv_tup
 exact ⟨r,rfl,by rw [← jD os]; exact hs⟩
section
variable {K:FG7} {a:Addr} {xs:List V} {k:Nat} {te:TE} {Q:VK} {σ:L2.St} {H:Hp}
theorem ye (Pv:Nat -> List V -> Hp -> Prop) (h0:Pv 0 [] H) (hl:∀ i ys H',Pv i ys H' -> SqT K H' a xs)
  (hs:∀ i x ys H',xs[i]? = some x -> Pv i ys H' -> te (σ.set k (some x)) H' fun y H5=>ys.length < sizeLine /\ Pv (i + 1) (ys ++ [y]) H5)
  (hd:∀ ys H',Pv xs.length ys H' -> ∀ l,H' l = none -> Q (.ref l) (upd H' l (.lst ys))):vY (Itt K a) σ H (uf k) Z4 te Q :=
 j7 (fun _=>true) Pv h0 hl (fun _ _ _ _ h=>h) (fun i x ys H' hx p _=>hs i x ys H' hx p) (fun _ _ _ _ _ _ z=>nomatch z) hd
end
theorem rk (n:Nat):(List.replicate n true).all id = true:=by rw [List.all_eq_true]; intro x hx; rw [(List.mem_replicate.mp hx).2]; rfl
theorem lt72 {n:Nat} (h:n <= 5000):n < sizeLine:=Nat.lt_of_le_of_lt h (by decide)
theorem le72 {n:Nat} (h:n <= 5000):n <= sizeLine:=Nat.le_trans h (by decide)
theorem Grow.shrinkL {H H':Hp} {m:List Addr} (h:∀ a ∈ m,H a = none) (g:Grow m H H'):Grow [] H H' :=
 ⟨fun b o _ q=>g.keep b o (fun z=>by rw [h b z] at q; cases q) q,g.tup,g.frz⟩
theorem XZ {b:Int} {cs:List Call72} {c:Call72}:vZ b (cs ++ [c]) = vZ b cs + (if c.box = b then 1 else 0):=by
 unfold vZ
 rw [List.countP_append,List.countP_cons,List.countP_nil]
 by_cases h:c.box = b
 ·rw [if_pos h,decide_eq_true h]; rfl
 ·rw [if_neg h,decide_eq_false h]; rfl
def VY (H:Hp) (zs:List V) (nss:List (List Nat)):Prop:=AllR (fun z ns=>∃ a,z = .ref a /\ H a = some (.lst (zp ns))) zs nss
structure Bx72 (H:Hp) (as:List Addr) (nss:List (List Nat)):Prop where
 len:nss.length = as.length
 at_:∀ (j:Nat) (a:Addr),as[j]? = some a -> H a = some (.lst (zp (nss.getD j [])))
theorem Bx72.ls {H:Hp} {as:List Addr} {nss:List (List Nat)} (h:Bx72 H as nss):VY H (as.map V.ref) nss:=by
 refine AllR.of_get (by rw [List.length_map,h.len]) fun i x hx=>?_
 rw [List.getElem?_map] at hx
 obtain ⟨a,ha,rfl⟩:=Option.map_eq_some_iff.mp hx
 have hi:i < nss.length:=by rw [h.len]; exact (List.getElem?_eq_some_iff.mp ha).1
 refine ⟨nss[i],List.getElem?_eq_getElem hi,a,rfl,?_⟩
 rw [h.at_ i a ha,List.getD_eq_getElem?_getD,List.getElem?_eq_getElem hi]; rfl
def su:PyData -> Bool
 | .tuple _=>true
 | _=>false
theorem we {K:FG7} (d:PyData):PySem.W.kitOne K (.type (tyD d)) (.type "tuple") = some (su d):=by cases d <;> rfl
def yK:PyData -> Bool
 | .int _=>true
 | _=>false
def X1:PyData -> Bool
 | .bool _=>true
 | _=>false
theorem Yx {d:PyData} (h:su d = false) (n:Nat):¬ ∃ ns,xt n d ns:=by
 rintro ⟨ns,e,_⟩
 rw [e] at h; cases h
theorem vd {K:FG7} {m:List Addr} {H:Hp} {x:V} {d:PyData} (h:Od K m H x d) (ht:su d = true):∃ r xs ds,x = .ref r /\ d = .tuple ds /\ SqT K H r xs /\ Ods K m H xs ds:=by
 cases h <;> first | exact ⟨_,_,_,rfl,rfl,by assumption,by assumption⟩ | cases ht
theorem qI {K:FG7} {m:List Addr} {H:Hp} {x:V} {d:PyData} (h:Od K m H x d) (hd:∀ kvs,d ≠ .dict kvs):∃ t,TyV K H x t /\ PySem.W.kitOne K (.type t) (.type "int") = some (yK d || X1 d) /\ PySem.W.kitOne K (.type t) (.type "bool") = some (X1 d) /\ tD x = yK d:=by
 cases h with
 | non=>exact ⟨"NoneType",rfl,rfl,rfl,rfl⟩
 | bl b=>exact ⟨"bool",rfl,rfl,rfl,rfl⟩
 | int i=>exact ⟨"int",rfl,rfl,rfl,rfl⟩
 | str y=>exact ⟨"str",rfl,rfl,rfl,rfl⟩
 | tup hs _=>exact ⟨"tuple",.inl ⟨rfl,_,hs⟩,rfl,rfl,rfl⟩
 | lst hs _ _ _=>exact ⟨"list",.inr (.inl ⟨rfl,_,SqL.of hs⟩),rfl,rfl,rfl⟩
 | dct=>exact absurd rfl (hd _)
theorem jE:∀ {ds:List PyData},ds.all yK = true -> ∃ zs:List Int,ds = zs.map PyData.int
 | [],_=>⟨[],rfl⟩
 | d :: ds,h=>by
  rw [List.all_cons,Bool.and_eq_true] at h
  obtain ⟨zs,e⟩:=jE h.2
  cases d with
  | int i=>exact ⟨i :: zs,by rw [e]; rfl⟩
  | _=>cases h.1
theorem wy {K:FG7} {m:List Addr} {H:Hp}:∀ {xs:List V} {zs:List Int},Ods K m H xs (zs.map PyData.int) -> xs = zs.map V.int
 | _,[],.nil=>rfl
 | _,k :: ns,.cons (.int _) t=>by rw [wy t]; rfl
theorem Yy {n:Nat} {ds:List PyData} (h:∃ ns,xt n (.tuple ds) ns):ds.all yK = true:=by
 obtain ⟨ns,e,_⟩:=h
 injection e with e
 rw [e,List.all_map,List.all_eq_true]
 intro k _; rfl
theorem Ze (n:Nat):((List.range n).map fun k:Nat=>(k:Int)).Pairwise (· <= ·):=by
 rw [List.pairwise_map]
 exact (List.pairwise_lt_range (n:=n)).imp fun h=>by omega
theorem Yz {n:Nat} {zs ms:List Int} (hp:ms.Perm zs) (hs:ms.Pairwise (· <= ·)):ms = ((List.range n).map fun k:Nat=>(k:Int)) ↔ ∃ ns,xt n (.tuple (zs.map PyData.int)) ns:=by
 constructor
 ·intro e
  have hz:zs.Perm ((List.range n).map fun k:Nat=>(k:Int)):=by rw [← e]; exact hp.symm
  have h0:∀ z ∈ zs,0 <= z:=fun z hz'=>by
   obtain ⟨k,_,rfl⟩:=List.mem_map.mp (hz.mem_iff.mp hz')
   exact Int.natCast_nonneg k
  have ez:(zs.map Int.toNat).map (fun k:Nat=>(k:Int)) = zs:=by
   rw [List.map_map]
   conv=>rhs; rw [← List.map_id zs]
   exact List.map_congr_left fun z hz'=>Int.toNat_of_nonneg (h0 z hz')
  refine ⟨zs.map Int.toNat,?_,?_⟩
  ·rw [show (zs.map PyData.int) = ((zs.map Int.toNat).map (fun k:Nat=>(k:Int))).map PyData.int by rw [ez],List.map_map]; rfl
  ·have:=hz.map Int.toNat
   rw [List.map_map,show (Int.toNat ∘ fun k:Nat=>(k:Int)) = id from funext fun k=>Int.toNat_natCast k,List.map_id] at this
   exact this
 ·rintro ⟨ns,e,hn⟩
  injection e with e
  have ez:zs = ns.map fun k:Nat=>(k:Int):=by
   have:zs.map PyData.int = (ns.map fun k:Nat=>(k:Int)).map PyData.int:=by rw [e,List.map_map]; rfl
   exact List.map_inj_right (fun _ _ h=>by injection h) |>.mp this
  refine Yq (hp.trans ?_) hs (Ze n)
  rw [ez]
  exact hn.map _
theorem ve:∀ ms:List Int,(ms.map V.int).all wF = true
 | []=>rfl
 | _ :: ms=>by rw [List.map_cons,List.all_cons,ve ms]; rfl
theorem zU (ns:List Nat):zp ns = (ns.map fun k:Nat=>(k:Int)).map V.int:=by unfold zp; rw [List.map_map]; rfl
theorem uc (ns:List Nat):(zp ns).all wF = true:=by rw [zU]; exact ve _
theorem UI {n i:Nat} (h:i <= n):HT.sIx n 0 (some (i:Int)) = i:=by
 rw [HT.sIx_nat,Nat.min_eq_left h]
def vU (K:FG7):Sp:=sp2 fun x y H Q=>∃ b c,zI K H x b /\ yu K H y c /\ CallOk72 b.length c /\ ∀ H',Grow [] H H' -> Q (.bl true) H'
def jF (K:FG7):Sp:=sp2 fun x y H Q=>∃ b cs,zI K H x b /\ 1 <= b.length /\ b.length <= 16 /\ zC K H y cs /\ Calls72 b.length cs /\ ∀ H',Grow [] H H' -> Q (.bl true) H'
def rn (K:FG7):Sp:=sp2 fun x y H Q=>∃ b cs,zI K H x b /\ 1 <= b.length /\ b.length <= 16 /\ zC K H y cs /\ Calls72 b.length cs /\ ∀ H',Grow [] H H' -> Q .non H'
def uz (K:FG7):Sp:=sp2 fun x y H Q=>∃ (d:PyData) (m:List Addr) (n:Nat),Od K m H x d /\ Fl72 d /\ y = .int n /\ n <= 40 /\ ∀ b H',Grow [] H H' -> (b = true ↔ ∃ ns,xt n d ns) -> Q (.bl b) H'
def vh (K:FG7):Sp:=sp3 fun x y z H Q=>∃ b cs ns,zI K H x b /\ zC K H y cs /\ yO K H z ns /\ (∀ c ∈ cs,CallOk72 b.length c) /\ (∀ k ∈ ns,k < cs.length) /\ ∀ H',Grow [] H H' -> Q (.bl (an72 cs b ns)) H'
def wf (K:FG7):Sp:=sp2 fun x y H Q=>∃ cs ns,zC K H x cs /\ yO K H y ns /\ (∃ m,∀ c ∈ cs,CallOk72 m c) /\ (∀ k ∈ ns,k < cs.length) /\ ns.length <= 40 /\ ∀ H',Grow [] H H' -> Q (.bl (kl72 cs ns)) H'
def rp (K:FG7):Sp:=sp3 fun x y z H Q=>∃ (b:List Int) (cs:List Call72) (d:PyData) (m:List Addr),zI K H x b /\ 1 <= b.length /\ b.length <= 16 /\ zC K H y cs /\ Od K m H z d /\ Calls72 b.length cs /\ Fl72 d /\ ∀ bb H',Grow [] H H' -> (bb = true ↔ XY b cs d) -> Q (.bl bb) H'
theorem y4 {H:Hp} {p r:Addr} (pp:Pot H p) (h:H r = none):r ∉ [p]:=fun z=>by
 rw [List.mem_singleton.mp z] at h
 obtain ⟨_,_,e,_⟩:=pp
 rw [e] at h; cases h
def YA (K:FG7):Sp:=sp2 fun x y H Q=>∃ a ns k,x = .ref a /\ y = .int k /\ Scr K H a ns /\ 0 <= k /\ ∀ n:Int,(n = 0 \/ n ∈ ns) -> Q (.int n) H
def N27 (n:Int):Prop:=-(10 ^ 27) <= n /\ n <= 10 ^ 27
def sv (_:FG7):Sp:=sp2 fun x y H Q=>∃ (p:Addr) (b:Bool),x = .ref p /\ y = .bl b /\ Pot H p /\ ∀ n H',N27 n -> Grow [p] H H' -> Pot H' p -> Q (.int n) H'
def rA (K:FG7):Sp:=sp2 fun x y H Q=>∃ (p:Addr) (b:Bool),x = .ref p /\ y = .bl b /\ Pot H p /\ ∀ d v H',d.Ok -> d.Bd (10 ^ 27 + 6) -> Grow [p] H H' -> Pot H' p -> wX K H' v d -> Q v H'
def tM (K:FG7):Sp:=sp3 fun x y z H Q=>∃ (p:Addr) (mo sc:Int),x = .ref p /\ y = .int mo /\ z = .int sc /\ Pot H p /\ 0 <= mo /\ mo <= 200 /\ 1 <= sc /\ sc <= 10 ^ 25 ∧
 ∀ (be en:Int) (r:Addr) H',0 <= be -> be <= mo * sc -> mo * sc <= en -> en <= (mo + 3) * sc -> Grow [p] H H' -> Pot H' p -> SqT K H' r [.int be,.int en] -> Q (.ref r) H'
def rB (_:FG7):Sp:=sp2 fun x y H Q=>∃ (p:Addr) (n:Nat),x = .ref p /\ y = .int n /\ Pot H p /\ 1 <= n /\ n <= 6 /\ ∀ (m:Nat) H',m <= 8 * n -> m <= 40 -> Grow [p] H H' -> Pot H' p -> Q (.int m) H'
def kc72:List Call72 -> Bool
 | []=>true
 | c :: r=>!(r.any fun e=>decide (e.ended < c.begun)) && kc72 r
def pl72:List Int -> List Call72 -> Option (List Int)
 | vs,[]=>some vs
 | vs,c :: r=>if vs.getD c.box.toNat 0 = c.answer then pl72 (vs.set c.box.toNat (c.deed.mk' c.answer)) r else none
theorem VZ {cs:List Call72}:∀ {ns:List Nat},kl72 cs ns = kc72 (ns.map (cg cs))
 | []=>rfl
 | k :: r=>by
  show (!(r.any fun j=>decide ((cg cs j).ended < (cg cs k).begun)) && kl72 cs r) = (!((r.map (cg cs)).any fun e=>decide (e.ended < (cg cs k).begun)) && kc72 (r.map (cg cs)))
  rw [VZ,List.any_map]; rfl
theorem W7 {cs:List Call72}:∀ {ns:List Nat} {vs:List Int},an72 cs vs ns = (pl72 vs (ns.map (cg cs))).isSome
 | [],_=>rfl
 | k :: r,vs=>by
  rw [xa]
  show _ = (if vs.getD (cg cs k).box.toNat 0 = (cg cs k).answer then pl72 (vs.set (cg cs k).box.toNat ((cg cs k).deed.mk' (cg cs k).answer)) (r.map (cg cs)) else none).isSome
  split
  ·exact W7
  ·rfl
theorem YB {c:Call72}:∀ {cs:List Call72},kc72 cs = true -> (∀ e ∈ cs,e.begun <= c.ended) -> kc72 (cs ++ [c]) = true
 | [],_,_=>rfl
 | e :: r,h,hb=>by
  have h':(!(r.any fun x=>decide (x.ended < e.begun)) && kc72 r) = true:=h
  rw [Bool.and_eq_true,Bool.not_eq_true'] at h'
  show (!((r ++ [c]).any fun x=>decide (x.ended < e.begun)) && kc72 (r ++ [c])) = true
  rw [List.any_append,h'.1,YB h'.2 fun x hx=>hb x (List.mem_cons_of_mem _ hx)]
  have:=hb e (List.mem_cons_self ..)
  rw [List.any_cons,decide_eq_false (by omega)]; rfl
theorem qJ {c:Call72}:∀ {cs:List Call72} {vs ws:List Int},pl72 vs cs = some ws -> ws.getD c.box.toNat 0 = c.answer -> pl72 vs (cs ++ [c]) = some (ws.set c.box.toNat (c.deed.mk' c.answer))
 | [],vs,ws,h,ha=>by
  cases h
  show (if vs.getD c.box.toNat 0 = c.answer then _ else none) = _
  rw [if_pos ha]; rfl
 | e :: r,vs,ws,h,ha=>by
  have h':(if vs.getD e.box.toNat 0 = e.answer then pl72 (vs.set e.box.toNat (e.deed.mk' e.answer)) r else none) = some ws:=h
  show (if vs.getD e.box.toNat 0 = e.answer then pl72 (vs.set e.box.toNat (e.deed.mk' e.answer)) (r ++ [c]) else none) = _
  by_cases hv:vs.getD e.box.toNat 0 = e.answer
  ·rw [if_pos hv] at h' ⊢
   exact qJ h' ha
  ·rw [if_neg hv] at h'; cases h'
structure Cb72 (B:Int) (c:Call72):Prop where
 hand:-B <= c.hand /\ c.hand <= B
 box:-B <= c.box /\ c.box <= B
 deed:c.deed.Bd B
 begun:-B <= c.begun /\ c.begun <= B
 ended:-B <= c.ended /\ c.ended <= B
 answer:-B <= c.answer /\ c.answer <= B
structure Hist72 (n:Nat) (b:List Int) (cs:List Call72):Prop where
 bl:b.length = n
 bb:∀ v ∈ b,N27 v
 ok:Calls72 n cs
 bd:∀ c ∈ cs,Cb72 (10 ^ 29) c
 kc:kc72 cs = true
 pl:(pl72 b cs).isSome = true
theorem X2 {m:Nat} {cs:List Call72} (ok:∀ c ∈ cs,CallOk72 m c) {b:Int} (h:¬ (0 <= b /\ b < m)):vZ b cs = 0:=by
 unfold vZ
 rw [List.countP_eq_zero]
 intro c hc
 have:=(ok c hc).b0; have:=(ok c hc).b1
 rw [decide_eq_true_eq]
 omega
theorem X3 {b:Int} {cs ds:List Call72} (h:cs.Perm ds):vZ b cs = vZ b ds:=h.countP_eq _
theorem Calls72.perm {m:Nat} {cs ds:List Call72} (h:Calls72 m cs) (p:ds.Perm cs):Calls72 m ds:=⟨by rw [p.length_eq]; exact h.len,fun c hc=>h.ok c (p.mem_iff.mp hc),fun b=>by rw [X3 p]; exact h.few b⟩
theorem YC {ms:List Nat} (nd:ms.Nodup):ms.map (fun j=>ms.idxOf j) = List.range ms.length:=by
 refine List.ext_getElem (by rw [List.length_map,List.length_range]) fun i h1 h2=>?_
 rw [List.getElem_map,List.getElem_range]
 exact nd.idxOf_getElem i (by rw [List.length_map] at h1; exact h1)
theorem Zf {ms:List Nat} {n:Nat} (h:ms.Perm (List.range n)):((List.range n).map fun j=>ms.idxOf j).Perm (List.range n):=by
 have nd:ms.Nodup:=h.nodup_iff.mpr List.nodup_range
 have:=h.symm.map fun j=>ms.idxOf j
 rw [YC nd,h.length_eq,List.length_range] at this
 exact this
theorem YD {cs:List Call72}:(List.range cs.length).map (cg cs) = cs:=by
 refine List.ext_getElem (by rw [List.length_map,List.length_range]) fun i h1 h2=>?_
 rw [List.getElem_map,List.getElem_range]
 exact yB (List.getElem?_eq_getElem h2)
theorem jG {ms:List Nat} {cs:List Call72} (h:ms.Perm (List.range cs.length)):((List.range cs.length).map fun j=>ms.idxOf j).map (cg (ms.map (cg cs))) = cs:=by
 conv=>rhs; rw [← YD (cs:=cs)]
 rw [List.map_map]
 refine List.map_congr_left fun j hj=>?_
 have hm:j ∈ ms:=h.mem_iff.mpr hj
 have hi:=List.idxOf_lt_length_of_mem hm
 show cg (ms.map (cg cs)) (ms.idxOf j) = cg cs j
 rw [yB (c:=cg cs j)]
 rw [List.getElem?_map,List.getElem?_eq_getElem hi,List.getElem_idxOf hi]; rfl
theorem wO {ms:List Nat} {cs:List Call72} (h:ms.Perm (List.range cs.length)):(ms.map (cg cs)).Perm cs:=by
 have:=h.map (cg cs)
 rw [YD] at this
 exact this
theorem X4 {n:Nat} {b:List Int} {cs:List Call72} {ms:List Nat} (h:Hist72 n b cs) (hp:ms.Perm (List.range cs.length)):XY b (ms.map (cg cs)) (.tuple (((List.range cs.length).map fun j=>ms.idxOf j).map fun k:Nat=>PyData.int (k:Int))):=by
 have hl:(ms.map (cg cs)).length = cs.length:=by rw [List.length_map,hp.length_eq,List.length_range]
 refine ⟨_,⟨rfl,by rw [hl]; exact Zf hp⟩,?_,?_⟩
 ·rw [VZ,jG hp]; exact h.kc
 ·rw [W7,jG hp]; exact h.pl
theorem Grow.shrinkTo {H H':Hp} {m m':List Addr} (h:∀ a ∈ m,a ∈ m' \/ H a = none) (g:Grow m H H'):Grow m' H H' :=
 ⟨fun b o hb q=>g.keep b o (fun z=>by rcases h b z with h | h; exact hb h; rw [h] at q; cases q) q,g.tup,g.frz⟩
theorem X5 (n:Nat):(List.replicate n [V.int 8]).flatten = zp (List.replicate n 8):=by
 induction n with
 | zero=>rfl
 | succ n ih=>rw [List.replicate_succ,List.flatten_cons,ih]; rfl
theorem W8 (n:Nat):(List.replicate n 8).sum = 8 * n:=by
 induction n with
 | zero=>rfl
 | succ n ih=>rw [List.replicate_succ,List.sum_cons,ih]; omega
theorem YE:∀ {l:List Nat} {j x:Nat},l[j]? = some x -> 0 < x -> (l.set j (x - 1)).sum + 1 = l.sum
 | [],_,_,h,_=>by cases h
 | a :: l,0,x,h,h0=>by
  have e:a = x:=Option.some.inj h
  subst e
  show a - 1 + l.sum + 1 = a + l.sum
  omega
 | a :: l,j + 1,x,h,h0=>by
  have:=YE (l:=l) (j:=j) h h0
  show a + (l.set j (x - 1)).sum + 1 = a + l.sum
  omega
theorem rC:∀ {l:List Nat},0 < l.sum -> ∃ x ∈ l,0 < x
 | [],h=>absurd h (by simp)
 | a :: l,h=>by
  rcases Nat.eq_zero_or_pos a with e | e
  ·have h':0 < a + l.sum:=h
   obtain ⟨x,hx,h0⟩:=rC (l:=l) (by omega)
   exact ⟨x,List.mem_cons_of_mem _ hx,h0⟩
  ·exact ⟨a,List.mem_cons_self ..,e⟩
structure HI72 (n i:Nat) (b vs:List Int) (rs:List Nat) (cs:List Call72) (mo sc:Int):Prop where
 vl:vs.length = n
 rl:rs.length = n
 cl:cs.length = i
 pl:pl72 b cs = some vs
 kc:kc72 cs = true
 ok:∀ c ∈ cs,CallOk72 n c
 rm:∀ j,j < n -> rs.getD j 0 + vZ j cs = 8
 sm:rs.sum + i = 8 * n
 vb:∀ v ∈ vs,-(10 ^ 27 + i * (10 ^ 27 + 6)) <= v /\ v <= 10 ^ 27 + i * (10 ^ 27 + 6)
 bd:∀ c ∈ cs,Cb72 (10 ^ 29) c
 m0:0 <= mo
 m1:mo <= 2 * i
 bg:∀ c ∈ cs,c.begun <= mo * sc
theorem HI72.hist {n i:Nat} {b vs:List Int} {rs:List Nat} {cs:List Call72} {mo sc:Int} (h:HI72 n i b vs rs cs mo sc) (i40:i <= 40) (bl:b.length = n) (bb:∀ v ∈ b,N27 v):Hist72 n b cs:=by
 refine ⟨bl,bb,⟨by rw [h.cl]; exact i40,h.ok,fun x=>?_⟩,h.bd,h.kc,by rw [h.pl]; rfl⟩
 by_cases hx:0 <= x /\ x < n
 ·have:=h.rm x.toNat (by omega)
  rw [show ((x.toNat:Nat):Int) = x from by omega] at this
  omega
 ·rw [X2 h.ok hx]; exact Nat.zero_le _
theorem HI72.start {n:Nat} {b:List Int} {sc:Int} (bl:b.length = n) (bb:∀ v ∈ b,N27 v):HI72 n 0 b b (List.replicate n 8) [] 0 sc:=by
 refine ⟨bl,List.length_replicate,rfl,rfl,rfl,(fun _ h=>nomatch h),fun j hj=>?_,(by rw [W8]; rfl),fun v hv=>?_,(fun _ h=>nomatch h),(by decide),(by decide),(fun _ h=>nomatch h)⟩
 ·rw [List.getD_eq_getElem?_getD,List.getElem?_replicate,if_pos hj]; rfl
 ·have:=bb v hv
  unfold N27 at this
  omega
theorem HI72.next {n i:Nat} {b vs:List Int} {rs:List Nat} {cs:List Call72} {mo sc:Int} (h:HI72 n i b vs rs cs mo sc) {bx x:Nat} {t ha be en:Int} {d:Deed} (i40:i < 40) (n6:n <= 6)
  (hx:rs[bx]? = some x) (x0:0 < x) (t0:0 <= t) (t1:t <= 2) (s0:1 <= sc) (s1:sc <= 10 ^ 24 + 7) (h0:0 <= ha) (h1:ha <= 15) (od:d.Ok) (bd:d.Bd (10 ^ 27 + 6)) (e0:0 <= be) (e1:be <= (mo + t) * sc) (e2:(mo + t) * sc <= en) (e3:en <= (mo + t + 3) * sc) :
  HI72 n (i + 1) b (vs.set bx (d.mk' (vs.getD bx 0))) (rs.set bx (x - 1)) (cs ++ [⟨ha,bx,d,be,en,vs.getD bx 0⟩]) (mo + t) sc:=by
 have hbx:bx < n:=by rw [← h.rl]; exact (List.getElem?_eq_some_iff.mp hx).1
 have hv:vs.getD bx 0 ∈ vs:=by
  have hb:bx < vs.length:=by rw [h.vl]; exact hbx
  rw [List.getD_eq_getElem?_getD,List.getElem?_eq_getElem hb]; exact List.getElem_mem hb
 have vb:=h.vb _ hv
 have mm:mo * sc <= (mo + t) * sc:=Int.mul_le_mul_of_nonneg_right (by omega) (by omega)
 have m1:=h.m1
 have m0:=h.m0
 have big:(mo + t + 3) * sc <= 10 ^ 27:=by
  have:(mo + t + 3) * sc <= 90 * (10 ^ 24 + 7):=Int.mul_le_mul (by omega) s1 (by omega) (by decide)
  exact Int.le_trans this (by decide)
 have C0:(0:Int) <= 10 ^ 27 + i * (10 ^ 27 + 6):=by omega
 have mk:=Uy bd (by decide) vb.1 vb.2 C0
 have nb:(⟨ha,bx,d,be,en,vs.getD bx 0⟩:Call72).box.toNat = bx:=Int.toNat_natCast bx
 refine ⟨by rw [List.length_set,h.vl],by rw [List.length_set,h.rl],by rw [List.length_append,List.length_singleton,h.cl],?_,?_,?_,?_,?_,?_,?_,by omega,by omega,?_⟩
 ·have:=qJ (c:=⟨ha,bx,d,be,en,vs.getD bx 0⟩) h.pl (by rw [nb])
  rw [this,nb]
 ·exact YB h.kc fun e he=>by have:=h.bg e he; show e.begun <= en; omega
 ·intro c hc
  rcases List.mem_append.mp hc with hc | hc
  ·exact h.ok c hc
  ·rw [List.mem_singleton.mp hc]
   exact ⟨h0,h1,Int.natCast_nonneg bx,by show (bx:Int) < n; omega,od,e0,by show be <= en; omega⟩
 ·intro j hj
  rw [XZ]
  have r:=h.rm j hj
  by_cases e:j = bx
  ·subst e
   rw [yi (by rw [h.rl]; exact hj),if_pos rfl]
   rw [List.getD_eq_getElem?_getD,hx] at r
   have:x + vZ j cs = 8:=r
   omega
  ·rw [zT (fun z=>e z.symm),if_neg (by show ¬ (bx:Int) = j; omega)]
   exact r
 ·have:=YE hx x0
  have:=h.sm
  omega
 ·intro v hv'
  rcases List.mem_or_eq_of_mem_set hv' with hv' | rfl
  ·have:=h.vb v hv'
   push_cast at this ⊢
   omega
  ·push_cast
   omega
 ·intro c hc
  rcases List.mem_append.mp hc with hc | hc
  ·exact h.bd c hc
  ·rw [List.mem_singleton.mp hc]
   refine ⟨?_,?_,?_,?_,?_,?_⟩
   ·show -(10 ^ 29) <= ha /\ ha <= 10 ^ 29; omega
   ·show -(10 ^ 29) <= (bx:Int) /\ (bx:Int) <= 10 ^ 29; omega
   ·exact bd.mono (by decide)
   ·show -(10 ^ 29) <= be /\ be <= 10 ^ 29; omega
   ·show -(10 ^ 29) <= en /\ en <= 10 ^ 29; omega
   ·show -(10 ^ 29) <= vs.getD bx 0 /\ vs.getD bx 0 <= 10 ^ 29; omega
 ·intro c hc
  rcases List.mem_append.mp hc with hc | hc
  ·have:=h.bg c hc; omega
  ·rw [List.mem_singleton.mp hc]; exact e1
theorem Cb72.mono {B C:Int} {c:Call72} (h:Cb72 B c) (hB:B <= C):Cb72 C c:=⟨by have:=h.hand; omega,by have:=h.box; omega,h.deed.mono hB,by have:=h.begun; omega,by have:=h.ended; omega,by have:=h.answer; omega⟩
theorem qK {X:Cx} {K:FG7} {k:Nat} (hK:X.K = K) (hr:Room k X.A):OpR X (compareOp .Eq) (fun x y H Q=>∃ a b xs,x = .ref a /\ y = .ref b /\ SqT K H a xs /\ SqT K H b [] /\ Q (.bl xs.isEmpty) H):=by
 subst hK
 intro pins s σ H x y v u Q I rx ry h
 obtain ⟨a,b,xs,rfl,rfl,ha,hb,q⟩:=h
 cases rx; cases ry
 obtain ⟨us,r1,t1,_⟩:=I.tuple ha
 obtain ⟨ws,r2,t2,_⟩:=I.tuple hb
 have hw:ws.length = 0:=r2.length.symm
 refine SeqAt.eq_tupleAt (e:=fun _=>true) (yx t1) (yx t2) hr.units0 (fun j h1 h2=>absurd h2 (by simp; omega)) ?_
 have e:((List.range (min us.toArray.size ws.toArray.size)).all (fun _=>true) && us.toArray.size == ws.toArray.size) = xs.isEmpty:=by
  rw [List.size_toArray,List.size_toArray,hw,← r1.length]
  cases xs with
  | nil=>rfl
  | cons a r=>simp
 rw [e]
 exact ⟨.bl _,H,I,rfl,q⟩
def wH (c:Call72):PyData:=.tuple [.int c.hand,.int c.box,qt c.deed,.int c.begun,.int c.ended,.int c.answer]
theorem Zg {K:FG7} {m:List Addr} {H:Hp} {x:V} {b:List Int} (h:zI K H x b):Od K m H x (.tuple (b.map PyData.int)):=by
 obtain ⟨r,rfl,hs⟩:=h
 refine .tup hs ?_
 clear hs
 induction b with
 | nil=>exact .nil
 | cons a b ih=>exact .cons (.int a) ih
theorem YF {K:FG7} {m:List Addr} {H:Hp}:∀ {o:Option Int},Od K m H (ov o) (oD o)
 | none=>.non
 | some _=>.int _
theorem YG {K:FG7} {m:List Addr} {H:Hp} {x:V} {c:Call72} (h:yu K H x c):Od K m H x (wH c):=by
 obtain ⟨r,rd,rfl,h1,h2⟩:=h
 exact .tup h1 (.cons (.int _) (.cons (.int _) (.cons (.tup h2 (.cons (.int _) (.cons YF (.cons YF .nil)))) (.cons (.int _) (.cons (.int _) (.cons (.int _) .nil))))))
theorem uA {K:FG7} {m:List Addr} {H:Hp}:∀ {xs:List V} {cs:List Call72},AllR (yu K H) xs cs -> Ods K m H xs (cs.map wH)
 | [],[],_=>.nil
 | [],_ :: _,h=>h.elim
 | _ :: _,[],h=>h.elim
 | _ :: _,_ :: _,h=>.cons (YG h.1) (uA h.2)
theorem Zh {K:FG7} {m:List Addr} {H:Hp} {x:V} {cs:List Call72} (h:zC K H x cs):Od K m H x (.tuple (cs.map wH)):=by
 obtain ⟨r,xs,rfl,h1,h2⟩:=h
 exact .tup h1 (uA h2)
theorem uB {w:Nat}:∀ {ds:List PyData},(∀ d ∈ ds,wtO d <= w) -> wtOs ds <= ds.length * (w + 2)
 | [],_=>by simp [wtOs]
 | d :: ds,h=>by
  have h1:=h d (List.mem_cons_self ..)
  have h2:=uB (ds:=ds) fun e he=>h e (List.mem_cons_of_mem _ he)
  show wtO d + 2 + wtOs ds <= (ds.length + 1) * (w + 2)
  rw [Nat.succ_mul]; omega
theorem y6 {B:Int} {i:Int} (h:-B <= i /\ i <= B):leD B (.int i) = true:=by
 show (decide (-B <= i) && decide (i <= B)) = true
 rw [decide_eq_true h.1,decide_eq_true h.2]; rfl
theorem YH {B:Int} {o:Option Int} (h:∀ l,o = some l -> -B <= l /\ l <= B):leD B (oD o) = true:=by
 cases o with
 | none=>rfl
 | some l=>exact y6 (h l rfl)
theorem YI {B:Int} {c:Call72} (h:Cb72 B c):leD B (wH c) = true:=by
 show leDs B [.int c.hand,.int c.box,qt c.deed,.int c.begun,.int c.ended,.int c.answer] = true
 have e:leD B (qt c.deed) = true:=by
  show leDs B [.int c.deed.add,oD c.deed.lo,oD c.deed.hi] = true
  rw [xm]
  intro x hx
  rcases List.mem_cons.mp hx with rfl | hx
  ·exact y6 h.deed.1
  rcases List.mem_cons.mp hx with rfl | hx
  ·exact YH h.deed.2.1
  rw [List.mem_singleton.mp hx]; exact YH h.deed.2.2
 rw [xm]
 intro x hx
 rcases List.mem_cons.mp hx with rfl | hx
 ·exact y6 h.hand
 rcases List.mem_cons.mp hx with rfl | hx
 ·exact y6 h.box
 rcases List.mem_cons.mp hx with rfl | hx
 ·exact e
 rcases List.mem_cons.mp hx with rfl | hx
 ·exact y6 h.begun
 rcases List.mem_cons.mp hx with rfl | hx
 ·exact y6 h.ended
 rw [List.mem_singleton.mp hx]; exact y6 h.answer
theorem YJ (o:Option Int):(oD o).depth = 0:=by cases o <;> rfl
theorem YK:∀ o:Option Int,wtO (oD o) <= 1921
 | none=>by decide
 | some _=>Nat.le_refl _
theorem YL (c:Call72):(wH c).depth <= 2:=by
 show (PyData.tuple [.int c.hand,.int c.box,qt c.deed,.int c.begun,.int c.ended,.int c.answer]).depth <= 2
 have e:(qt c.deed).depth <= 1:=by
  show PyData.depthAll [.int c.deed.add,oD c.deed.lo,oD c.deed.hi] + 1 <= 1
  have:PyData.depthAll [.int c.deed.add,oD c.deed.lo,oD c.deed.hi] <= 0:=yb.mpr fun x hx=>by
   rcases List.mem_cons.mp hx with rfl | hx
   ·exact Nat.le_refl _
   rcases List.mem_cons.mp hx with rfl | hx
   ·rw [YJ]; exact Nat.le_refl _
   rw [List.mem_singleton.mp hx,YJ]; exact Nat.le_refl _
  omega
 show PyData.depthAll [.int c.hand,.int c.box,qt c.deed,.int c.begun,.int c.ended,.int c.answer] + 1 <= 2
 have:PyData.depthAll [.int c.hand,.int c.box,qt c.deed,.int c.begun,.int c.ended,.int c.answer] <= 1:=yb.mpr fun x hx=>by
  rcases List.mem_cons.mp hx with rfl | hx
  ·exact Nat.zero_le _
  rcases List.mem_cons.mp hx with rfl | hx
  ·exact Nat.zero_le _
  rcases List.mem_cons.mp hx with rfl | hx
  ·exact e
  rcases List.mem_cons.mp hx with rfl | hx
  ·exact Nat.zero_le _
  rcases List.mem_cons.mp hx with rfl | hx
  ·exact Nat.zero_le _
  rw [List.mem_singleton.mp hx]; exact Nat.zero_le _
 omega
theorem YM (c:Call72):wtO (wH c) <= 20000:=by
 have h1:=YK c.deed.lo
 have h2:=YK c.deed.hi
 have e:wtO (wH c) = 1921 + 2 + (1921 + 2 + ((1921 + 2 + (wtO (oD c.deed.lo) + 2 + (wtO (oD c.deed.hi) + 2 + 0)) + 3) + 2 + (1921 + 2 + (1921 + 2 + (1921 + 2 + 0))))) + 3:=rfl
 omega
def tN (K:FG7):Sp:=sp2 fun x y H Q=>∃ (p l:Addr) (xs:List V) (cs:List Call72),x = .ref p /\ y = .ref l /\ Pot H p /\ H l = some (.lst xs) /\ l ≠ p /\ AllR (yu K H) xs cs /\ cs.length <= 40 ∧
 ∀ (ms:List Nat) (r ro:Addr) (yc:V) H',ms.Perm (List.range cs.length) -> Grow [p] H H' -> Pot H' p -> SqT K H' r [yc,.ref ro] -> zC K H' yc (ms.map (cg cs)) -> FrT H' ro (zp ((List.range cs.length).map fun j=>ms.idxOf j)) -> Q (.ref r) H'
def E72 (K:FG7) (p:Addr) (H:Hp) (v:V):Prop:=∃ d,Od K [p] H v d /\ (∀ kvs,d ≠ .dict kvs) /\ GdD 10 2 1935 d
def G72 (K:FG7) (p:Addr) (H:Hp) (v:V):Prop:=∃ d,Od K [p] H v d /\ Fl72 d /\ GdD 10 5 130000 d
section
variable {K:FG7} {p:Addr} {H H':Hp} {v:V}
theorem G72.grow (h:G72 K p H v) (g:Grow [p] H H'):G72 K p H' v:=by
 obtain ⟨d,a,b,c⟩:=h
 exact ⟨d,a.grow g,b,c⟩
theorem WC {i:Int} (h:-(10 ^ 20) <= i /\ i <= 10 ^ 20):GdD 10 0 1921 (.int i):=⟨y6 ⟨by omega,by omega⟩,Nat.le_refl _,Nat.le_refl _⟩
theorem E72.int {i:Int} (h:-(10 ^ 20) <= i /\ i <= 10 ^ 20):E72 K p H (.int i):=⟨_,.int i,(fun _ z=>nomatch z),(WC h).mono (by decide) (by decide) (by decide)⟩
theorem E72.non:E72 K p H .non:=⟨_,.non,(fun _ z=>nomatch z),⟨rfl,Nat.zero_le _,by decide⟩⟩
theorem E72.bl (b:Bool):E72 K p H (.bl b):=⟨_,.bl b,(fun _ z=>nomatch z),⟨rfl,Nat.zero_le _,by cases b <;> decide⟩⟩
theorem X6:∀ {vs:List V},(∀ v ∈ vs,E72 K p H v) -> ∃ ds,Ods K [p] H vs ds /\ (∀ d ∈ ds,∀ kvs,d ≠ .dict kvs) /\ ∀ d ∈ ds,GdD 10 2 1935 d
 | [],_=>⟨[],.nil,(fun _ h=>nomatch h),fun _ h=>nomatch h⟩
 | v :: vs,h=>by
  obtain ⟨d,a,b,c⟩:=h v (List.mem_cons_self ..)
  obtain ⟨ds,o,nd,gd⟩:=X6 fun w hw=>h w (List.mem_cons_of_mem _ hw)
  refine ⟨d :: ds,.cons a o,fun e he=>?_,fun e he=>?_⟩
  ·rcases List.mem_cons.mp he with rfl | he
   ·exact b
   ·exact nd e he
  ·rcases List.mem_cons.mp he with rfl | he
   ·exact c
   ·exact gd e he
theorem X7 {ds:List PyData} (hl:ds.length < 64) (gd:∀ d ∈ ds,GdD 10 2 1935 d):GdS 10 2 122100 ds:=by
 refine ⟨xm.mpr fun d h=>(gd d h).le,yb.mpr fun d h=>(gd d h).dp,?_⟩
 have:=uB (w:=1935) fun d h=>(gd d h).wt
 have:ds.length * (1935 + 2) <= 63 * (1935 + 2):=Nat.mul_le_mul_right _ (by omega)
 omega
theorem G72.tup {r:Addr} {vs:List V} (h:SqT K H r vs) (hl:vs.length < 64) (he:∀ v ∈ vs,E72 K p H v):G72 K p H (.ref r):=by
 obtain ⟨ds,o,nd,gd⟩:=X6 he
 have dl:ds.length < 64:=by rw [← o.length]; exact hl
 refine ⟨.tuple ds,.tup h o,fun es e=>?_,((X7 dl gd).tup).mono (by decide) (by decide) (by decide)⟩
 injection e with e
 rw [← e]
 exact ⟨dl,nd⟩
theorem G72.lst {l:Addr} {vs:List V} (h:H l = some (.lst vs)) (n1:l ∉ [p]) (n2:l ≠ sysModules) (hl:vs.length < 64) (he:∀ v ∈ vs,E72 K p H v):G72 K p H (.ref l):=by
 obtain ⟨ds,o,nd,gd⟩:=X6 he
 have dl:ds.length < 64:=by rw [← o.length]; exact hl
 exact ⟨.list ds,.lst h n1 n2 o,(fun _ e=>nomatch e),((X7 dl gd).lst).mono (by decide) (by decide) (by decide)⟩
theorem G72.one {r ro:Addr} {vs:List V} (h:SqT K H r [.ref ro]) (ho:SqT K H ro vs) (hl:vs.length < 64) (he:∀ v ∈ vs,E72 K p H v):G72 K p H (.ref r):=by
 obtain ⟨ds,o,nd,gd⟩:=X6 he
 have dl:ds.length < 64:=by rw [← o.length]; exact hl
 refine ⟨.tuple [.tuple ds],.tup h (.cons (.tup ho o) .nil),fun es e=>?_,(((X7 dl gd).tup.one).tup).mono (by decide) (by decide) (by decide)⟩
 injection e with e
 rw [← e]
 exact ⟨(show (1:Nat) < 64 by decide),fun e he kvs z=>by rw [List.mem_singleton.mp he] at z; cases z⟩
theorem G72.of_e (h:E72 K p H v) (ht:∀ r,v ≠ .ref r):G72 K p H v:=by
 obtain ⟨d,a,b,c⟩:=h
 refine ⟨d,a,fun ds e=>?_,c.mono (by decide) (by decide) (by decide)⟩
 subst e
 obtain ⟨r,_,e,_⟩:=a.inv_tup
 exact absurd e (ht r)
theorem G72.str0:G72 K p H (.str (Str.ofString "")):=⟨_,.str _,(fun _ e=>nomatch e),⟨rfl,Nat.zero_le _,by decide +kernel⟩⟩
theorem G72.dict0 (h:Od K [p] H v (.dict [])):G72 K p H v:=⟨_,h,(fun _ e=>nomatch e),⟨rfl,by decide,by decide⟩⟩
theorem YN:∀ {xs:List V},(∀ v ∈ xs,G72 K p H v) -> ∃ ds,Ods K [p] H xs ds /\ ∀ d ∈ ds,Fl72 d /\ GdD 10 5 130000 d
 | [],_=>⟨[],.nil,fun _ h=>nomatch h⟩
 | v :: vs,h=>by
  obtain ⟨d,a,b,c⟩:=h v (List.mem_cons_self ..)
  obtain ⟨ds,o,gd⟩:=YN fun w hw=>h w (List.mem_cons_of_mem _ hw)
  refine ⟨d :: ds,.cons a o,fun e he=>?_⟩
  rcases List.mem_cons.mp he with rfl | he
  ·exact ⟨b,c⟩
  ·exact gd e he
end
def I72 (v:V):Prop:=∃ k:Nat,k < 41 /\ v = .int k
theorem I72.e {K:FG7} {p:Addr} {H:Hp} {v:V} (h:I72 v):E72 K p H v:=by
 obtain ⟨k,hk,rfl⟩:=h
 exact E72.int ⟨by omega,by omega⟩
theorem YO {ns:List Nat} (h:∀ k ∈ ns,k < 40):∀ v ∈ zp ns,I72 v:=fun v hv=>by
 obtain ⟨k,hk,rfl⟩:=List.mem_map.mp hv
 exact ⟨k,by have:=h k hk; omega,rfl⟩
theorem xC {xs:List V} {lo hi:Option Int} {v:V} (h:v ∈ cutV xs lo hi):v ∈ xs:=List.mem_of_mem_drop (List.mem_of_mem_take h)
theorem wP {xs:List V} {lo hi:Option Int} (h:∀ v ∈ xs,I72 v):∀ v ∈ cutV xs lo hi,I72 v:=fun v hv=>h v (xC hv)
theorem Zi {xs ys:List V} (h:∀ v ∈ xs,I72 v) (h':∀ v ∈ ys,I72 v):∀ v ∈ xs ++ ys,I72 v:=fun v hv=>(List.mem_append.mp hv).elim (h v) (h' v)
theorem qL {K:FG7} {p:Addr} {H:Hp} {xs ys:List V} (h:∀ v ∈ xs,E72 K p H v) (h':∀ v ∈ ys,E72 K p H v):∀ v ∈ xs ++ ys,E72 K p H v:=fun v hv=>(List.mem_append.mp hv).elim (h v) (h' v)
theorem X8 {K:FG7} {p:Addr} {H:Hp} {x:V} (h:E72 K p H x):∀ v ∈ [x],E72 K p H v:=fun v hv=>by rw [List.mem_singleton.mp hv]; exact h
theorem i_e {K:FG7} {p:Addr} {H:Hp} {xs:List V} (h:∀ v ∈ xs,I72 v):∀ v ∈ xs,E72 K p H v:=fun v hv=>(h v hv).e
theorem YQ {K:FG7} {p:Addr} {H H':Hp} {xs:List V} (h:∀ v ∈ xs,G72 K p H v) (g:Grow [p] H H'):∀ v ∈ xs,G72 K p H' v:=fun v hv=>(h v hv).grow g
theorem yC {K:FG7} {p:Addr} {H:Hp} {x:V} {xs:List V} (hx:G72 K p H x) (h:∀ v ∈ xs,G72 K p H v):∀ v ∈ x :: xs,G72 K p H v:=fun v hv=>by
 rcases List.mem_cons.mp hv with rfl | hv
 ·exact hx
 ·exact h v hv
theorem Zj {K:FG7} {p:Addr} {H:Hp}:∀ v ∈ ([]:List V),G72 K p H v:=fun _ h=>nomatch h
theorem qM {K:FG7} {p:Addr} {H:Hp} {xs ys:List V} (h:∀ v ∈ xs,G72 K p H v) (h':∀ v ∈ ys,G72 K p H v):∀ v ∈ xs ++ ys,G72 K p H v:=fun v hv=>(List.mem_append.mp hv).elim (h v) (h' v)
structure S72 (K:FG7) (p:Addr) (H:Hp) (l:Addr) (xs:List V) (n:Nat):Prop where
 at_:H l = some (.lst xs)
 gd:∀ v ∈ xs,G72 K p H v
 ne:l ∉ [p]
 len:xs.length <= n
theorem S72.grow {K:FG7} {p:Addr} {H H':Hp} {l:Addr} {xs:List V} {n:Nat} (h:S72 K p H l xs n) (g:Grow [p] H H'):S72 K p H' l xs n:=⟨g.keep _ _ h.ne h.at_,YQ h.gd g,h.ne,h.len⟩
theorem uC {K:FG7} {m:List Addr} {H:Hp} {r:Addr} {ns:List Nat} (h:SqT K H r (zp ns)):Od K m H (.ref r) (.tuple (ns.map fun k:Nat=>PyData.int (k:Int))):=by
 refine .tup h ?_
 clear h
 induction ns with
 | nil=>exact .nil
 | cons a b ih=>exact .cons (.int _) ih
theorem rD {ns:List Nat} (h:ns.length < 64):Fl72 (.tuple (ns.map fun k:Nat=>PyData.int (k:Int))):=fun ds e=>by
 injection e with e
 rw [← e]
 refine ⟨by rw [List.length_map]; exact h,fun d hd kvs z=>?_⟩
 obtain ⟨k,_,rfl⟩:=List.mem_map.mp hd
 cases z
def vi (t:Nat) (o:List Nat):Prop:=∀ j,t.testBit j = true ↔ j ∈ o
theorem vi.nil:vi 0 []:=fun j=>by simp
theorem vi.or {t n:Nat} {o:List Nat} (h:vi t o):vi (t ||| 2 ^ n) (o ++ [n]):=fun j=>by
 rw [Nat.testBit_or,Bool.or_eq_true,h j,Nat.testBit_two_pow,decide_eq_true_eq,List.mem_append,List.mem_singleton]
 exact or_congr Iff.rfl ⟨fun e=>e.symm,fun e=>e.symm⟩
def mk73 (l:List Nat):Nat:=l.foldl (fun m i=>m ||| 2 ^ i) 0
theorem jH:∀ {l o:List Nat} {t:Nat},vi t o -> vi (l.foldl (fun m i=>m ||| 2 ^ i) t) (o ++ l)
 | [],o,t,h=>by rw [List.append_nil]; exact h
 | i :: l,o,t,h=>by
  have:=jH (l:=l) (h.or (n:=i))
  rw [List.append_assoc] at this; exact this
theorem YR (l:List Nat):vi (mk73 l) l:=by
 have:=jH (l:=l) vi.nil
 rwa [List.nil_append] at this
theorem YS {t M:Nat}:M &&& t = M ↔ ∀ j,M.testBit j = true -> t.testBit j = true:=by
 constructor
 ·intro h j hj
  have:(M &&& t).testBit j = true:=by rw [h]; exact hj
  rw [Nat.testBit_and,Bool.and_eq_true] at this
  exact this.2
 ·intro h
  refine Nat.eq_of_testBit_eq fun j=>?_
  rw [Nat.testBit_and]
  cases c:M.testBit j with
  | false=>rfl
  | true=>rw [h j c]; rfl
abbrev En73:=(Nat × List Int) × List Nat
def uD (E:List En73) (k:Nat × List Int) (o:List Nat):List En73:=if (E.any fun e=>decide (e.1 = k)) = true then E.map (fun e=>if e.1 = k then (e.1,o) else e) else E ++ [(k,o)]
def sw (cs:List Call72) (e:En73) (n M:Nat):Bool:=(decide (e.1.1.testBit n = false) && decide (M &&& e.1.1 = M)) && decide (e.1.2.getD (cg cs n).box.toNat 0 = (cg cs n).answer)
def uE (cs:List Call72) (vs:List Int) (n:Nat):List Int:=vs.set (cg cs n).box.toNat ((cg cs n).deed.mk' (cg cs n).answer)
def vj (cs:List Call72) (e:En73) (F:List En73) (p:Nat × Nat):List En73:=if sw cs e p.1 p.2 = true then uD F (e.1.1 ||| 2 ^ p.1,uE cs e.1.2 p.1) (e.2 ++ [p.1]) else F
def xV (cs:List Call72) (ms:List (Nat × Nat)) (F:List En73) (e:En73):List En73:=ms.foldl (vj cs e) F
def WD (cs:List Call72) (ms:List (Nat × Nat)) (E:List En73):List En73:=E.foldl (xV cs ms) []
def Zk (cs:List Call72) (ms:List (Nat × Nat)) (b:List Int):Nat -> List En73
 | 0=>[((0,b),[])]
 | r + 1=>WD cs ms (Zk cs ms b r)
def YT (cs:List Call72) (ms:List (Nat × Nat)) (b:List Int):Option (List Nat):=(Zk cs ms b ms.length).head?.map (·.2)
inductive Run73 (cs:List Call72) (ms:List (Nat × Nat)) (b:List Int):List Nat -> List Int -> Prop
 | nil:Run73 cs ms b [] b
 | snoc {o:List Nat} {vs:List Int} {n M:Nat}:Run73 cs ms b o vs -> (n,M) ∈ ms -> n ∉ o -> (∀ j,M.testBit j = true -> j ∈ o) -> vs.getD (cg cs n).box.toNat 0 = (cg cs n).answer -> Run73 cs ms b (o ++ [n]) (uE cs vs n)
section
variable {cs:List Call72} {ms:List (Nat × Nat)} {b:List Int}
theorem Run73.nodup {o:List Nat} {vs:List Int} (h:Run73 cs ms b o vs):o.Nodup:=by
 induction h with
 | nil=>exact List.nodup_nil
 | snoc h hm hn hj ha ih =>
  rw [List.nodup_append]
  exact ⟨ih,by simp,fun x hx y hy z=>hn (by rw [List.mem_singleton] at hy; rw [← hy,← z]; exact hx)⟩
theorem Run73.mem {o:List Nat} {vs:List Int} (h:Run73 cs ms b o vs):∀ n ∈ o,n ∈ ms.map (·.1):=by
 induction h with
 | nil=>exact nofun
 | snoc h hm hn hj ha ih =>
  intro x hx
  rcases List.mem_append.mp hx with z | z
  ·exact ih x z
  ·rw [List.mem_singleton.mp z]; exact List.mem_map.mpr ⟨_,hm,rfl⟩
def qN (cs:List Call72) (ms:List (Nat × Nat)) (b:List Int) (r:Nat) (E:List En73):Prop:=∀ e ∈ E,e.2.length = r /\ vi e.1.1 e.2 /\ Run73 cs ms b e.2 e.1.2
theorem YU {E:List En73} {k:Nat × List Int} {o:List Nat} {e:En73} (h:e ∈ uD E k o):e ∈ E \/ e = (k,o):=by
 unfold uD at h
 split at h
 ·obtain ⟨x,hx,rfl⟩:=List.mem_map.mp h
  by_cases c:x.1 = k
  ·rw [if_pos c,c]; exact .inr rfl
  ·rw [if_neg c]; exact .inl hx
 ·rcases List.mem_append.mp h with z | z
  ·exact .inl z
  ·exact .inr (List.mem_singleton.mp z)
theorem YV {E:List En73} {k k':Nat × List Int} {o:List Nat} (h:k' ∈ E.map (·.1)):k' ∈ (uD E k o).map (·.1):=by
 unfold uD
 split
 ·obtain ⟨x,hx,rfl⟩:=List.mem_map.mp h
  refine List.mem_map.mpr ⟨_,List.mem_map.mpr ⟨x,hx,rfl⟩,?_⟩
  split <;> rfl
 ·rw [List.map_append]; exact List.mem_append_left _ h
theorem uY {E:List En73} {k:Nat × List Int} {o:List Nat}:k ∈ (uD E k o).map (·.1):=by
 unfold uD
 split
 ·rename_i h
  obtain ⟨x,hx,hk⟩:=List.any_eq_true.mp h
  refine List.mem_map.mpr ⟨_,List.mem_map.mpr ⟨x,hx,rfl⟩,?_⟩
  rw [if_pos (of_decide_eq_true hk)]; exact of_decide_eq_true hk
 ·rw [List.map_append]; exact List.mem_append_right _ (by simp)
theorem Zl {e x:En73} {F:List En73} {p:Nat × Nat} (h:x ∈ vj cs e F p):x ∈ F \/ (sw cs e p.1 p.2 = true /\ x = ((e.1.1 ||| 2 ^ p.1,uE cs e.1.2 p.1),e.2 ++ [p.1])):=by
 unfold vj at h
 split at h
 ·rename_i c
  rcases YU h with z | z
  ·exact .inl z
  ·exact .inr ⟨c,z⟩
 ·exact .inl h
theorem Zm {e:En73} {F:List En73} {p:Nat × Nat} {k:Nat × List Int} (h:k ∈ F.map (·.1)):k ∈ (vj cs e F p).map (·.1):=by
 unfold vj
 split
 ·exact YV h
 ·exact h
theorem tP {e x:En73}:∀ {ms:List (Nat × Nat)} {F:List En73},x ∈ xV cs ms F e -> x ∈ F \/ ∃ p ∈ ms,sw cs e p.1 p.2 = true /\ x = ((e.1.1 ||| 2 ^ p.1,uE cs e.1.2 p.1),e.2 ++ [p.1])
 | [],_,h=>.inl h
 | p :: ms,F,h=>by
  rcases tP (ms:=ms) (F:=vj cs e F p) h with z | ⟨q,hq,z⟩
  ·rcases Zl z with z | z
   ·exact .inl z
   ·exact .inr ⟨p,List.mem_cons_self ..,z⟩
  ·exact .inr ⟨q,List.mem_cons_of_mem _ hq,z⟩
theorem vG {e:En73} {k:Nat × List Int}:∀ {ms:List (Nat × Nat)} {F:List En73},k ∈ F.map (·.1) -> k ∈ (xV cs ms F e).map (·.1)
 | [],_,h=>h
 | p :: ms,F,h=>vG (ms:=ms) (F:=vj cs e F p) (Zm h)
theorem tQ {e:En73} {p:Nat × Nat} (hm:sw cs e p.1 p.2 = true):∀ {ms:List (Nat × Nat)} {F:List En73},p ∈ ms -> (e.1.1 ||| 2 ^ p.1,uE cs e.1.2 p.1) ∈ (xV cs ms F e).map (·.1)
 | q :: ms,F,h=>by
  show _ ∈ (xV cs ms (vj cs e F q) e).map (·.1)
  rcases List.mem_cons.mp h with rfl | h
  ·refine vG ?_
   unfold vj
   rw [if_pos hm]
   exact uY
  ·exact tQ hm h
theorem tR {x:En73}:∀ {E F:List En73},x ∈ E.foldl (xV cs ms) F -> x ∈ F \/ ∃ e ∈ E,∃ p ∈ ms,sw cs e p.1 p.2 = true /\ x = ((e.1.1 ||| 2 ^ p.1,uE cs e.1.2 p.1),e.2 ++ [p.1])
 | [],_,h=>.inl h
 | e :: E,F,h=>by
  rcases tR (E:=E) (F:=xV cs ms F e) h with z | ⟨q,hq,z⟩
  ·rcases tP z with z | z
   ·exact .inl z
   ·exact .inr ⟨e,List.mem_cons_self ..,z⟩
  ·exact .inr ⟨q,List.mem_cons_of_mem _ hq,z⟩
theorem tS {k:Nat × List Int}:∀ {E F:List En73},k ∈ F.map (·.1) -> k ∈ (E.foldl (xV cs ms) F).map (·.1)
 | [],_,h=>h
 | e :: E,F,h=>tS (E:=E) (F:=xV cs ms F e) (vG h)
theorem tT {e:En73} {p:Nat × Nat} (hm:sw cs e p.1 p.2 = true) (hp:p ∈ ms):∀ {E F:List En73},e ∈ E -> (e.1.1 ||| 2 ^ p.1,uE cs e.1.2 p.1) ∈ (E.foldl (xV cs ms) F).map (·.1)
 | x :: E,F,h=>by
  show _ ∈ (E.foldl (xV cs ms) (xV cs ms F x)).map (·.1)
  rcases List.mem_cons.mp h with rfl | h
  ·exact tS (tQ hm hp)
  ·exact tT hm hp h
theorem rE {e:En73} {n M:Nat} (hi:vi e.1.1 e.2):sw cs e n M = true ↔ n ∉ e.2 /\ (∀ j,M.testBit j = true -> j ∈ e.2) /\ e.1.2.getD (cg cs n).box.toNat 0 = (cg cs n).answer:=by
 unfold sw
 rw [Bool.and_eq_true,Bool.and_eq_true,decide_eq_true_eq,decide_eq_true_eq,decide_eq_true_eq,YS]
 have h1:e.1.1.testBit n = false ↔ n ∉ e.2:=by
  rw [← hi n,Bool.not_eq_true]
 have h2:(∀ j,M.testBit j = true -> e.1.1.testBit j = true) ↔ ∀ j,M.testBit j = true -> j ∈ e.2:=forall_congr' fun j=>imp_congr Iff.rfl (hi j)
 rw [h1,h2,and_assoc]
theorem rF {r:Nat} {E:List En73} (h:qN cs ms b r E):qN cs ms b (r + 1) (WD cs ms E):=by
 intro x hx
 rcases tR hx with z | ⟨e,he,p,hp,hm,rfl⟩
 ·cases z
 obtain ⟨h1,h2,h3⟩:=h e he
 obtain ⟨m1,m2,m3⟩:=(rE h2).mp hm
 exact ⟨by rw [List.length_append,h1]; rfl,h2.or,.snoc h3 hp m1 m2 m3⟩
theorem wQ:∀ r:Nat,qN cs ms b r (Zk cs ms b r)
 | 0=>by
  intro e he
  rw [List.mem_singleton.mp he]
  exact ⟨rfl,vi.nil,.nil⟩
 | r + 1=>rF (wQ r)
theorem YW {o:List Nat} {vs:List Int} (h:Run73 cs ms b o vs):∃ t,vi t o /\ (t,vs) ∈ (Zk cs ms b o.length).map (·.1):=by
 induction h with
 | nil=>exact ⟨0,vi.nil,by simp [Zk]⟩
 | @snoc o vs n M h hm hn hj ha ih =>
  obtain ⟨t,ht,hk⟩:=ih
  obtain ⟨e,he,ek⟩:=List.mem_map.mp hk
  obtain ⟨h1,h2,h3⟩:=wQ o.length e he
  have ee:e.1 = (t,vs):=ek
  have emem:∀ j,j ∈ e.2 ↔ j ∈ o:=fun j=>by rw [← h2 j,ee,ht j]
  have may:sw cs e n M = true:=(rE h2).mpr ⟨fun z=>hn ((emem n).mp z),fun j z=>(emem j).mpr (hj j z),by rw [ee]; exact ha⟩
  refine ⟨t ||| 2 ^ n,ht.or,?_⟩
  rw [List.length_append]
  have:=tT (cs:=cs) (ms:=ms) (p:=(n,M)) may hm (E:=Zk cs ms b o.length) (F:=[]) he
  rw [ee] at this
  exact this
theorem Zn {o:List Nat} (h:YT cs ms b = some o):∃ vs,Run73 cs ms b o vs /\ o.length = ms.length:=by
 unfold YT at h
 obtain ⟨e,he,rfl⟩:=Option.map_eq_some_iff.mp h
 obtain ⟨h1,_,h3⟩:=wQ (cs:=cs) (ms:=ms) (b:=b) ms.length e (List.mem_of_mem_head? he)
 exact ⟨_,h3,h1⟩
theorem Zo (h:YT cs ms b = none) {o:List Nat} {vs:List Int} (hr:Run73 cs ms b o vs):o.length ≠ ms.length:=fun z=>by
 obtain ⟨t,_,hk⟩:=YW hr
 rw [z] at hk
 unfold YT at h
 rw [Option.map_eq_none_iff,List.head?_eq_none_iff] at h
 rw [h] at hk
 cases hk
theorem wg:∀ {o ns:List Nat},o.Nodup -> (∀ n ∈ o,n ∈ ns) -> ns.length <= o.length -> o.Perm ns
 | [],ns,_,_,hl=>by
  rw [List.length_eq_zero_iff.mp (Nat.le_zero.mp hl)]
 | a :: o,ns,nd,hm,hl=>by
  have ha:=hm a (List.mem_cons_self ..)
  have pe:=List.perm_cons_erase ha
  obtain ⟨na,nd'⟩:=List.nodup_cons.mp nd
  refine (List.Perm.cons a (wg nd' (fun n hn=>?_) ?_)).trans pe.symm
  ·exact (List.mem_erase_of_ne (fun z=>na (by rw [← z]; exact hn))).mpr (hm n (List.mem_cons_of_mem _ hn))
  ·have:=pe.length_eq
   rw [List.length_cons] at this hl
   omega
theorem Run73.perm {o:List Nat} {vs:List Int} (h:Run73 cs ms b o vs) (hl:o.length = ms.length):o.Perm (ms.map (·.1)):=wg h.nodup h.mem (by rw [List.length_map,hl]; exact Nat.le_refl _)
end
def V0 (cs:List Call72) (ns:List Nat) (n:Nat):List Nat:=ns.filter fun j=>decide ((cg cs j).ended < (cg cs n).begun)
def sx (cs:List Call72) (ns:List Nat):List (Nat × Nat):=ns.map fun n=>(n,mk73 (V0 cs ns n))
theorem rG {cs:List Call72} {ns:List Nat}:(sx cs ns).map (·.1) = ns:=by
 unfold sx
 rw [List.map_map]
 exact (List.map_congr_left fun _ _=>rfl).trans (List.map_id ns)
theorem YX {cs:List Call72} {ns:List Nat}:(sx cs ns).length = ns.length:=List.length_map ..
abbrev NA73 (cs:List Call72) (a b:Nat):Prop:=¬ (cg cs b).ended < (cg cs a).begun
theorem yD {cs:List Call72}:∀ {o:List Nat},kl72 cs o = true ↔ o.Pairwise (NA73 cs)
 | []=>by simp [kl72]
 | k :: r=>by
  show (!(r.any fun j=>decide ((cg cs j).ended < (cg cs k).begun)) && kl72 cs r) = true ↔ _
  rw [Bool.and_eq_true,List.pairwise_cons,yD,Bool.not_eq_true',List.any_eq_false]
  refine and_congr (forall_congr' fun j=>imp_congr Iff.rfl ?_) Iff.rfl
  rw [decide_eq_true_eq]
theorem X9 {cs:List Call72} {ms:List (Nat × Nat)} {b:List Int} {o:List Nat} {vs:List Int} (h:Run73 cs ms b o vs):pl72 b (o.map (cg cs)) = some vs:=by
 induction h with
 | nil=>rfl
 | snoc h hm hn hj ha ih =>
  rw [List.map_append]
  exact qJ ih ha
theorem Wa {cs:List Call72} {ms:List (Nat × Nat)} {b:List Int} {o:List Nat} {vs:List Int} (h:Run73 cs ms b o vs):an72 cs b o = true:=by rw [W7,X9 h]; rfl
theorem Wb {cs:List Call72} {ns:List Nat} {b:List Int} {o:List Nat} {vs:List Int} (h:Run73 cs (sx cs ns) b o vs):∀ k ∈ o,∀ j ∈ ns,(cg cs j).ended < (cg cs k).begun -> j ∈ o:=by
 induction h with
 | nil=>exact nofun
 | @snoc o vs n M h hm hn hj ha ih =>
  intro k hk j hjn lt
  rcases List.mem_append.mp hk with z | z
  ·exact List.mem_append_left _ (ih k z j hjn lt)
  ·have ek:=List.mem_singleton.mp z
   subst ek
   obtain ⟨n',_,e⟩:=List.mem_map.mp hm
   injection e with e1 e2
   subst e1
   refine List.mem_append_left _ (hj j ?_)
   rw [← e2]
   exact (YR _ j).mpr (List.mem_filter.mpr ⟨hjn,decide_eq_true lt⟩)
theorem Wc {cs:List Call72} {ns:List Nat} {b:List Int} {o:List Nat} {vs:List Int} (h:Run73 cs (sx cs ns) b o vs):kl72 cs o = true:=by
 rw [yD]
 induction h with
 | nil=>exact .nil
 | @snoc o vs n M h hm hn hj ha ih =>
  refine List.pairwise_append.mpr ⟨ih,by simp,fun k hk j hj' lt=>?_⟩
  rw [List.mem_singleton.mp hj'] at lt
  have hns:n ∈ ns:=by
   have:n ∈ (sx cs ns).map (·.1):=List.mem_map.mpr ⟨_,hm,rfl⟩
   rwa [rG] at this
  exact hn (Wb h k hk n hns lt)
theorem rH {cs:List Call72} {ns:List Nat} {b:List Int} (ok:∀ k ∈ ns,(cg cs k).begun <= (cg cs k).ended):∀ {r p:List Nat} {vs:List Int},(∀ x,x ∈ p ++ r ↔ x ∈ ns) -> (p ++ r).Nodup -> Run73 cs (sx cs ns) b p vs -> kl72 cs r = true -> an72 cs vs r = true →
  ∃ ws,Run73 cs (sx cs ns) b (p ++ r) ws
 | [],p,vs,_,_,h,_,_=>⟨vs,by rw [List.append_nil]; exact h⟩
 | n :: r,p,vs,hm,nd,h,hk,ha=>by
  have hk':=List.pairwise_cons.mp (yD.mp hk)
  have hns:n ∈ ns:=(hm n).mp (by simp)
  rw [xa] at ha
  have hv:vs.getD (cg cs n).box.toNat 0 = (cg cs n).answer:=by
   by_cases c:vs.getD (cg cs n).box.toNat 0 = (cg cs n).answer
   ·exact c
   ·rw [if_neg c] at ha; cases ha
  rw [if_pos hv] at ha
  have np:n ∉ p:=fun z=>(List.nodup_append.mp nd).2.2 n z n (by simp) rfl
  have e:p ++ n :: r = (p ++ [n]) ++ r:=by rw [List.append_assoc]; rfl
  rw [e] at hm nd ⊢
  refine rH ok hm nd (.snoc h (List.mem_map.mpr ⟨n,hns,rfl⟩) np (fun j hj=>?_) hv) (yD.mpr hk'.2) ha
  obtain ⟨j1,j2⟩:=List.mem_filter.mp ((YR _ j).mp hj)
  have lt:=of_decide_eq_true j2
  rcases List.mem_append.mp ((hm j).mpr j1) with z | z
  ·rcases List.mem_append.mp z with z | z
   ·exact z
   ·rw [List.mem_singleton.mp z] at lt
    have:=ok n hns
    omega
  ·exact absurd lt (hk'.1 j z)
abbrev yL (cs:List Call72) (x:Nat) (k:Nat):Bool:=decide ((cg cs k).box = (x:Int))
def nb73 (cs:List Call72) (x:Nat):List Nat:=(List.range cs.length).filter (yL cs x)
theorem yf {cs:List Call72} {x k:Nat}:k ∈ nb73 cs x ↔ k < cs.length /\ (cg cs k).box = (x:Int):=by
 unfold nb73
 rw [List.mem_filter,List.mem_range,decide_eq_true_eq]
theorem wz {cs:List Call72} {x:Nat}:(nb73 cs x).Nodup:=List.nodup_range.sublist List.filter_sublist
theorem YY {cs:List Call72} {x:Nat}:(nb73 cs x).Pairwise (· < ·):=List.pairwise_lt_range.sublist List.filter_sublist
theorem wA {cs:List Call72} {x:Nat}:(nb73 cs x).length = vZ (x:Int) cs:=by
 unfold nb73 vZ
 rw [← List.countP_eq_length_filter]
 conv=>rhs; rw [← YD (cs:=cs),List.countP_map]
 rfl
theorem vH {cs:List Call72} {x:Nat}:∀ {o:List Nat} {vs ws:List Int},(∀ k ∈ o,(cg cs k).box = (x:Int)) -> x < vs.length -> x < ws.length -> vs.getD x 0 = ws.getD x 0 -> an72 cs vs o = an72 cs ws o
 | [],_,_,_,_,_,_=>rfl
 | k :: r,vs,ws,hb,hv,hw,e=>by
  have hk:=hb k (List.mem_cons_self ..)
  have ek:(cg cs k).box.toNat = x:=by rw [hk]; exact Int.toNat_natCast x
  rw [xa,xa,ek,e]
  split
  ·exact vH (fun j hj=>hb j (List.mem_cons_of_mem _ hj)) (by rw [List.length_set]; exact hv) (by rw [List.length_set]; exact hw) (by rw [yi hv,yi hw])
  ·rfl
theorem uF {cs:List Call72} {x:Nat}:∀ {o:List Nat} {vs:List Int},(∀ k ∈ o,0 <= (cg cs k).box) -> x < vs.length -> an72 cs vs o = true -> an72 cs vs (o.filter (yL cs x)) = true
 | [],_,_,_,_=>rfl
 | k :: r,vs,hb,hv,h=>by
  rw [xa] at h
  have hk0:=hb k (List.mem_cons_self ..)
  have hr:=fun j hj=>hb j (List.mem_cons_of_mem _ hj)
  by_cases c:vs.getD (cg cs k).box.toNat 0 = (cg cs k).answer
  ·rw [if_pos c] at h
   have ih:=uF (x:=x) hr (by rw [List.length_set]; exact hv) h
   by_cases hx:(cg cs k).box = (x:Int)
   ·rw [List.filter_cons,if_pos (decide_eq_true hx),xa,if_pos c]; exact ih
   ·rw [List.filter_cons,if_neg (by rw [decide_eq_true_eq]; exact hx)]
    rw [vH (x:=x) (ws:=vs.set (cg cs k).box.toNat ((cg cs k).deed.mk' (cg cs k).answer)) (fun j hj=>of_decide_eq_true (List.mem_filter.mp hj).2) hv (by rw [List.length_set]; exact hv) (by rw [zT (by omega)])]
    exact ih
  ·rw [if_neg c] at h; cases h
theorem jI {cs:List Call72}:∀ {o:List Nat} {vs:List Int},(∀ k ∈ o,0 <= (cg cs k).box /\ (cg cs k).box.toNat < vs.length) -> (∀ x < vs.length,an72 cs vs (o.filter (yL cs x)) = true) -> an72 cs vs o = true
 | [],_,_,_=>rfl
 | k :: r,vs,hb,h=>by
  obtain ⟨k0,k1⟩:=hb k (List.mem_cons_self ..)
  have ek:(cg cs k).box = ((cg cs k).box.toNat:Int):=(Int.toNat_of_nonneg k0).symm
  have h0:=h _ k1
  rw [List.filter_cons,if_pos (decide_eq_true ek),xa] at h0
  rw [xa]
  by_cases c:vs.getD (cg cs k).box.toNat 0 = (cg cs k).answer
  ·rw [if_pos c] at h0 ⊢
   refine jI (fun j hj=>by rw [List.length_set]; exact hb j (List.mem_cons_of_mem _ hj)) fun x hx=>?_
   rw [List.length_set] at hx
   by_cases e:x = (cg cs k).box.toNat
   ·rw [e]; exact h0
   ·have hx':=h x hx
    rw [List.filter_cons,if_neg (by rw [decide_eq_true_eq]; omega)] at hx'
    rw [vH (x:=x) (ws:=vs) (fun j hj=>of_decide_eq_true (List.mem_filter.mp hj).2) (by rw [List.length_set]; exact hx) hx (by rw [zT (by omega)])]
    exact hx'
  ·rw [if_neg c] at h0; cases h0
def yF (c:Nat):List Nat -> List Nat -> List Nat × List Nat
 | [],tog=>([],tog)
 | x :: own,tog=>if c ∈ x :: own then yF c own (tog ++ [x]) else (x :: own,tog)
def yw (cs:List Call72) (st:List (List Nat) × List Nat) (c:Nat):List (List Nat) × List Nat :=
 (st.1.set (cg cs c).box.toNat (yF c (st.1.getD (cg cs c).box.toNat []) st.2).1,(yF c (st.1.getD (cg cs c).box.toNat []) st.2).2)
def yt (cs:List Call72) (srt:List Nat) (os:List (List Nat)):List Nat:=(srt.foldl (yw cs) (os,[])).2
theorem tU {c:Nat}:∀ {own tog:List Nat},own.Nodup -> ∃ p own',yF c own tog = (own',tog ++ p) /\ own = p ++ own' /\ c ∉ own' /\ (p = [] \/ ∃ p',p = p' ++ [c])
 | [],tog,_=>⟨[],[],by rw [List.append_nil]; rfl,rfl,by simp,.inl rfl⟩
 | x :: own,tog,nd=>by
  obtain ⟨nx,nd'⟩:=List.nodup_cons.mp nd
  by_cases h:c ∈ x :: own
  ·obtain ⟨p,own',e1,e2,e3,e4⟩:=tU (c:=c) (tog:=tog ++ [x]) nd'
   refine ⟨x :: p,own',?_,by rw [e2]; rfl,e3,?_⟩
   ·show (if c ∈ x :: own then yF c own (tog ++ [x]) else (x :: own,tog)) = _
    rw [if_pos h,e1,List.append_assoc]; rfl
   ·rcases e4 with rfl | ⟨p',rfl⟩
    ·refine .inr ⟨[],?_⟩
     rcases List.mem_cons.mp h with rfl | h
     ·rfl
     ·rw [e2] at h; exact absurd h e3
    ·exact .inr ⟨x :: p',rfl⟩
  ·refine ⟨[],x :: own,?_,rfl,h,.inl rfl⟩
   show (if c ∈ x :: own then yF c own (tog ++ [x]) else (x :: own,tog)) = _
   rw [if_neg h,List.append_nil]
structure MI73 (cs:List Call72) (os:List (List Nat)) (pre:List Nat) (left:List (List Nat)) (tog:List Nat):Prop where
 len:left.length = os.length
 parts:∀ x < os.length,os.getD x [] = tog.filter (yL cs x) ++ left.getD x []
 out:∀ c ∈ pre,∀ x < os.length,c ∉ left.getD x []
 pw:tog.Pairwise (NA73 cs)
 far:∀ a ∈ tog,∀ x < os.length,∀ y ∈ left.getD x [],NA73 cs a y
 box:∀ k ∈ tog,0 <= (cg cs k).box /\ (cg cs k).box.toNat < os.length
theorem rJ {cs:List Call72} {os left:List (List Nat)} {pre rem tog:List Nat} {c:Nat} (h:MI73 cs os pre left tog)
    (hs:(pre ++ c :: rem).Perm (List.range cs.length)) (srt:∀ y ∈ rem,(cg cs c).ended <= (cg cs y).ended)
    (ok:∀ k < cs.length,0 <= (cg cs k).box /\ (cg cs k).box.toNat < os.length /\ (cg cs k).begun <= (cg cs k).ended)
    (hp:∀ x < os.length,(os.getD x []).Perm (nb73 cs x)) (hk:∀ x < os.length,(os.getD x []).Pairwise (NA73 cs)) :
    MI73 cs os (pre ++ [c]) (yw cs (left,tog) c).1 (yw cs (left,tog) c).2:=by
  have hc:c < cs.length:=List.mem_range.mp (hs.mem_iff.mp (by simp))
  obtain ⟨c0,c1,c2⟩:=ok c hc
  generalize hX:(cg cs c).box.toNat = X at c1
  have hX':(cg cs c).box = (X:Int):=by rw [← hX]; exact (Int.toNat_of_nonneg c0).symm
  have mem_os:∀ x < os.length,∀ y ∈ left.getD x [],y ∈ os.getD x []:=fun x hx y hy=>by rw [h.parts x hx]; exact List.mem_append_right _ hy
  have ndl:(left.getD X []).Nodup:=by
    have:=(hp X c1).nodup_iff.mpr wz
    rw [h.parts X c1] at this
    exact (List.nodup_append.mp this).2.1
  obtain ⟨p,own',e1,e2,e3,e4⟩:=tU (c:=c) (tog:=tog) ndl
  have es:yw cs (left,tog) c = (left.set X own',tog ++ p):=by
    unfold yw
    show (left.set (cg cs c).box.toNat (yF c (left.getD (cg cs c).box.toNat []) tog).1,(yF c (left.getD (cg cs c).box.toNat []) tog).2) = _
    rw [hX,e1]
  rw [es]
  have lX:X < left.length:=by rw [h.len]; exact c1
  have getX:∀ x,(left.set X own').getD x [] = if x = X then own' else left.getD x []:=fun x=>by
    by_cases e:x = X
    · rw [if_pos e,e,yi lX]
    · rw [if_neg e,zT (fun z=>e z.symm)]
  have pX:∀ a ∈ p,(cg cs a).box = (X:Int) /\ a ∈ left.getD X []:=fun a ha=>by
    have m:a ∈ left.getD X []:=by rw [e2]; exact List.mem_append_left _ ha
    exact ⟨(yf.mp ((hp X c1).mem_iff.mp (mem_os X c1 a m))).2,m⟩
  have late:∀ x < os.length,∀ y ∈ left.getD x [],(cg cs c).ended <= (cg cs y).ended:=fun x hx y hy=>by
    have yl:=(yf.mp ((hp x hx).mem_iff.mp (mem_os x hx y hy))).1
    have ym:=hs.mem_iff.mpr (List.mem_range.mpr yl)
    rcases List.mem_append.mp ym with z | z
    · exact absurd hy (h.out y z x hx)
    · rcases List.mem_cons.mp z with rfl | z
      · exact Int.le_refl _
      · exact srt y z
  have early:∀ a ∈ p,(cg cs a).begun <= (cg cs c).ended:=fun a ha=>by
    rcases e4 with rfl | ⟨p',rfl⟩
    · cases ha
    rcases List.mem_append.mp ha with z | z
    · have pw:=hk X c1
      rw [h.parts X c1,e2,List.append_assoc] at pw
      have pw2:=(List.pairwise_append.mp pw).2.1
      have:=(List.pairwise_append.mp pw2).2.2 a z c (by simp)
      unfold NA73 at this
      omega
    · rw [List.mem_singleton.mp z]; exact c2
  have newp:∀ a ∈ p,∀ x < os.length,∀ y ∈ left.getD x [],NA73 cs a y:=fun a ha x hx y hy=>by
    have h1:=early a ha
    have h2:=late x hx y hy
    unfold NA73
    omega
  have fp:∀ x,p.filter (yL cs x) = if x = X then p else []:=fun x=>by
    by_cases e:x = X
    · rw [if_pos e,e]
      exact List.filter_eq_self.mpr fun a ha=>decide_eq_true (pX a ha).1
    · rw [if_neg e]
      refine List.filter_eq_nil_iff.mpr fun a ha=>?_
      rw [decide_eq_true_eq,(pX a ha).1]
      omega
  exact {
    len:=by rw [List.length_set]; exact h.len
    parts:=fun x hx=>by
      rw [List.filter_append,fp,getX,h.parts x hx]
      by_cases e:x = X
      · rw [if_pos e,if_pos e,e,e2,List.append_assoc]
      · rw [if_neg e,if_neg e,List.append_nil]
    out:=fun d hd x hx=>by
      rw [getX]
      rcases List.mem_append.mp hd with z | z
      · by_cases e:x = X
        · rw [if_pos e]
          intro w
          exact h.out d z X c1 (by rw [e2]; exact List.mem_append_right _ w)
        · rw [if_neg e]; exact h.out d z x hx
      · rw [List.mem_singleton.mp z]
        by_cases e:x = X
        · rw [if_pos e]; exact e3
        · rw [if_neg e]
          intro w
          have:=(yf.mp ((hp x hx).mem_iff.mp (mem_os x hx c w))).2
          rw [hX'] at this
          omega
    pw:=List.pairwise_append.mpr ⟨h.pw,by
        refine List.Pairwise.imp_of_mem (R:=fun _ _=>True) (fun {a b} ha hb _=>newp a ha X c1 b (pX b hb).2) ?_
        exact List.pairwise_of_forall fun _ _=>trivial,fun a ha b hb=>h.far a ha X c1 b (pX b hb).2⟩
    far:=fun a ha x hx y hy=>by
      rw [getX] at hy
      have hy':y ∈ left.getD x []:=by
        by_cases e:x = X
        · rw [if_pos e] at hy
          rw [e,e2]; exact List.mem_append_right _ hy
        · rwa [if_neg e] at hy
      rcases List.mem_append.mp ha with z | z
      · exact h.far a z x hx y hy'
      · exact newp a z x hx y hy'
    box:=fun k hk'=>by
      rcases List.mem_append.mp hk' with z | z
      · exact h.box k z
      · rw [(pX k z).1]
        exact ⟨Int.natCast_nonneg _,by rw [Int.toNat_natCast]; exact c1⟩ }
theorem uG {cs:List Call72} {os:List (List Nat)} (ok:∀ k < cs.length,0 <= (cg cs k).box /\ (cg cs k).box.toNat < os.length /\ (cg cs k).begun <= (cg cs k).ended)
  (hp:∀ x < os.length,(os.getD x []).Perm (nb73 cs x)) (hk:∀ x < os.length,(os.getD x []).Pairwise (NA73 cs)) :
  ∀ {rem pre tog:List Nat} {left:List (List Nat)},(pre ++ rem).Perm (List.range cs.length) -> rem.Pairwise (fun a b=>(cg cs a).ended <= (cg cs b).ended) -> MI73 cs os pre left tog →
   MI73 cs os (pre ++ rem) (rem.foldl (yw cs) (left,tog)).1 (rem.foldl (yw cs) (left,tog)).2
 | [],pre,tog,left,_,_,h=>by rw [List.append_nil]; exact h
 | c :: rem,pre,tog,left,hs,srt,h=>by
  have st:=rJ h hs (List.pairwise_cons.mp srt).1 ok hp hk
  have:=uG ok hp hk (rem:=rem) (pre:=pre ++ [c]) (tog:=(yw cs (left,tog) c).2) (left:=(yw cs (left,tog) c).1) (by rw [List.append_assoc]; exact hs) (List.pairwise_cons.mp srt).2 st
  rw [List.append_assoc] at this
  exact this
theorem qO {cs:List Call72} {os:List (List Nat)} {srt:List Nat} (ok:∀ k < cs.length,0 <= (cg cs k).box /\ (cg cs k).box.toNat < os.length /\ (cg cs k).begun <= (cg cs k).ended)
  (hp:∀ x < os.length,(os.getD x []).Perm (nb73 cs x)) (hk:∀ x < os.length,kl72 cs (os.getD x []) = true) (hs:srt.Perm (List.range cs.length)) (so:srt.Pairwise (fun a b=>(cg cs a).ended <= (cg cs b).ended)) :
  (∀ x < os.length,(yt cs srt os).filter (yL cs x) = os.getD x []) /\ (yt cs srt os).Perm (List.range cs.length) /\ kl72 cs (yt cs srt os) = true:=by
 have M:=uG ok hp (fun x hx=>yD.mp (hk x hx)) (rem:=srt) (pre:=[]) (tog:=[]) (left:=os) hs so
  ⟨rfl,fun x _=>rfl,(fun c hc=>nomatch hc),.nil,(fun a ha=>nomatch ha),(fun k hk'=>nomatch hk')⟩
 rw [List.nil_append] at M
 have em:∀ x < os.length,((srt.foldl (yw cs) (os,[])).1).getD x [] = []:=fun x hx=>by
  refine List.eq_nil_iff_forall_not_mem.mpr fun y hy=>?_
  have yo:y ∈ os.getD x []:=by rw [M.parts x hx]; exact List.mem_append_right _ hy
  have yl:=(yf.mp ((hp x hx).mem_iff.mp yo)).1
  exact M.out y (hs.mem_iff.mpr (List.mem_range.mpr yl)) x hx hy
 have fl:∀ x < os.length,(yt cs srt os).filter (yL cs x) = os.getD x []:=fun x hx=>by
  rw [M.parts x hx,em x hx,List.append_nil]; rfl
 refine ⟨fl,List.perm_iff_count.mpr fun k=>?_,yD.mpr M.pw⟩
 by_cases hm:k < cs.length
 ·obtain ⟨k0,k1,_⟩:=ok k hm
  have ek:yL cs (cg cs k).box.toNat k = true:=decide_eq_true (Int.toNat_of_nonneg k0).symm
  rw [← List.count_filter (p:=yL cs (cg cs k).box.toNat) ek,← List.count_filter (p:=yL cs (cg cs k).box.toNat) (l:=List.range cs.length) ek,fl _ k1]
  exact (hp _ k1).count_eq k
 ·have n1:k ∉ List.range cs.length:=fun z=>hm (List.mem_range.mp z)
  have n2:k ∉ yt cs srt os:=fun z=>by
   obtain ⟨k0,k1⟩:=M.box k z
   have:k ∈ (yt cs srt os).filter (yL cs (cg cs k).box.toNat):=List.mem_filter.mpr ⟨z,decide_eq_true (Int.toNat_of_nonneg k0).symm⟩
   rw [fl _ k1] at this
   exact hm (yf.mp ((hp _ k1).mem_iff.mp this)).1
  rw [List.count_eq_zero.mpr n1,List.count_eq_zero.mpr n2]
open PySem
structure ItK (prog:Program) (w:World) (K:Type) [DecidableEq K] where
 is:Heap -> K -> Value -> Prop
 hash:K -> Int
 draws:K -> Nat
 inj:∀ {h:Heap} {v:Value} {x y:K},is h x v -> is h y v -> x = y
 keeps:∀ {h h':Heap} {k:K} {v:Value} {d:Addr} {o:Obj} {es ep},is h k v -> h.get? d = some o -> o.data = .dict es ep -> Heap.SameBut d h h' -> is h' k v
 pyHash:∀ {A:Around} {E:VS7} {s:Shared} {k:K} {v:Value} {Q:Int -> Shared -> Prop},A.units < cLine -> is s.heap k v -> Q (hash k) { s with toks:=s.toks + draws k } -> wpAny (model prog w) A (PySem.pyHash v) Q E s
 eqBool:∀ {A:Around} {E:VS7} {s:Shared} {x y:K} {a b:Value} {Q:Bool -> Shared -> Prop},A.units < cLine -> is s.heap x a -> is s.heap y b -> Q (decide (x = y)) s -> wpAny (model prog w) A (PySem.eqBool a b) Q E s
 quiet:∀ {A:Around} {E:VS7} {s:Shared} {k:K} {v:Value} {Q:Bool -> Shared -> Prop},is s.heap k v -> Q true s -> wpAny (model prog w) A (eqIsQuiet 7 v) Q E s
def UJ (prog:Program) (w:World):ItK prog w Int where
 is:=fun _ k v=>(intKind prog w).is k v = true
 hash:=(intKind prog w).hash
 draws:=fun _=>1
 inj:=fun h1 h2=>(intKind prog w).inj _ _ _ h1 h2
 keeps:=fun h _ _ _=>h
 pyHash:=fun _ h q=>(intKind prog w).pyHash h q
 eqBool:=fun _ h1 h2 q=>(intKind prog w).eqBool h1 h2 q
 quiet:=fun h q=>by rw [eqIsQuiet_byValue _ ((intKind prog w).byValue _ _ h)]; exact wpAny_pure q
section
variable {prog:Program} {w:World} {A:Around} {E:VS7} {s:Shared}
theorem V1 {K:Type} [DecidableEq K] {knd:KeyKind prog w K} {ks:List K} {a:Addr} {Q:Bool -> Shared -> Prop} (hk:IsTupleKey knd s.heap ks a) (h:Q true s):wpAny (model prog w) A (eqIsQuiet 7 (.ref a)) Q E s:=by
 have hT:=hk.typeIs
 obtain ⟨o,items,n,ho,_,hd,hi⟩:=hk
 unfold eqIsQuiet
 refine wpAny_bind (wpAny_specialOf hT F.slot_tuple_eq.lookup ?_)
 show wpAny _ _ (isInstance (.ref a) (.type "tuple") >>= _) _ _ s
 refine wpAny_bind (wpAny_isInstance hT isSubtype_tuple_tuple ?_)
 simp only [Bool.not_true,Bool.false_eq_true,if_false]
 refine wpAny_bind (wpAny_seqItems ho hd ?_)
 refine wpAny_bind ?_
 show wpAny _ _ (forIn items _ _) _ _ s
 rw [← Array.forIn_toList]
 refine wpAny_forIn_list _ (fun rest r s'=>r.1 = none /\ s' = s /\ ∀ v ∈ rest,carriedByValue v = true) _ ?_ ?_ _ _ ⟨rfl,rfl,hi.byValue⟩
 ·rintro v rest r s' ⟨hr,rfl,hall⟩
  rw [eqIsQuiet_byValue _ (hall v List.mem_cons_self)]
  refine wpAny_bind (wpAny_pure ?_)
  simp only [Bool.not_true,Bool.false_eq_true,if_false]
  exact wpAny_pure ⟨rfl,rfl,fun u hu'=>hall u (List.mem_cons_of_mem _ hu')⟩
 ·rintro ⟨r1,r2⟩ s' ⟨hr,rfl,_⟩
  simp only at hr
  subst hr
  exact wpAny_pure h
end
def UK (prog:Program) (w:World):ItK prog w (List Int) where
 is:=fun h k v=>∃ a,v = .ref a /\ IsTupleKey (intKind prog w) h k a
 hash:=tupleKeyHash (intKind prog w)
 draws:=fun ks=>ks.length + 1
 inj:=fun ⟨a,e,h1⟩ ⟨b,e',h2⟩=>by subst e; cases e'; exact h1.inj h2
 keeps:=fun ⟨a,e,h1⟩ ho hd hs=>⟨a,e,h1.keeps ho hd hs⟩
 pyHash:=fun hu ⟨a,e,h1⟩ q=>by subst e; exact wpAny_pyHash_tuple hu h1 q
 eqBool:=fun hu ⟨a,e,h1⟩ ⟨b,e',h2⟩ q=>by subst e e'; exact wpAny_eqBool_tuple hu h1 h2 q
 quiet:=fun ⟨a,e,h1⟩ q=>by subst e; exact V1 h1 q
section
variable {prog:Program} {w:World} {K1 K2:Type} [DecidableEq K1] [DecidableEq K2] {k1:ItK prog w K1} {k2:ItK prog w K2}
def IsPr (k1:ItK prog w K1) (k2:ItK prog w K2) (h:Heap) (k:K1 × K2) (a:Addr):Prop :=
 ∃ o u v n,h.get? a = some o /\ o.cls = .type "tuple" /\ o.data = .seq #[u,v] n /\ k1.is h k.1 u /\ k2.is h k.2 v
theorem IsPr.typeIs {s:Shared} {k:K1 × K2} {a:Addr} (x:IsPr k1 k2 s.heap k a):s.TypeIs (.ref a) "tuple":=let ⟨o,_,_,_,ho,hc,_⟩:=x; ⟨o,ho,hc⟩
theorem IsPr.inj {h:Heap} {a:Addr} {x y:K1 × K2} (hx:IsPr k1 k2 h x a) (hy:IsPr k1 k2 h y a):x = y:=by
 obtain ⟨o,u,v,n,ho,_,hd,hu,hv⟩:=hx
 obtain ⟨o',u',v',n',ho',_,hd',hu',hv'⟩:=hy
 obtain rfl:o = o':=Option.some.inj (ho.symm.trans ho')
 rw [hd] at hd'
 injection hd' with h1 _
 have h1':=congrArg Array.toList h1
 simp only [List.cons.injEq,and_true] at h1'
 obtain ⟨rfl,rfl⟩:=h1'
 exact Prod.ext (k1.inj hu hu') (k2.inj hv hv')
theorem IsPr.keeps {h h':Heap} {k:K1 × K2} {a d:Addr} {o:Obj} {es ep} (x:IsPr k1 k2 h k a) (ho:h.get? d = some o) (hd:o.data = .dict es ep) (hs:Heap.SameBut d h h'):IsPr k1 k2 h' k a:=by
 obtain ⟨o',u,v,n,ho',hc,hd',hu,hv⟩:=x
 have hne:a ≠ d:=by
  rintro rfl
  obtain rfl:o' = o:=Option.some.inj (ho'.symm.trans ho)
  rw [hd] at hd'; exact nomatch hd'
 exact ⟨o',u,v,n,(hs.2 a hne).trans ho',hc,hd',k1.keeps hu ho hd hs,k2.keeps hv ho hd hs⟩
def YZ (k1:ItK prog w K1) (k2:ItK prog w K2) (k:K1 × K2):Int:=reduceHash (Builtin.Tuple.tupleHashOf [k1.hash k.1,k2.hash k.2])
variable {A:Around} {E:VS7} {s:Shared}
theorem W9 {k:K1 × K2} {a:Addr} {Q:Int -> Shared -> Prop} (hu:A.units + 1 < cLine) (hk:IsPr k1 k2 s.heap k a) (h:Q (YZ k1 k2 k) { s with toks:=s.toks + (k1.draws k.1 + k2.draws k.2 + 1) }) :
  wpAny (model prog w) A (pyHash (.ref a)) Q E s:=by
 have hT:=hk.typeIs
 obtain ⟨o,u,v,n,ho,_,hd,iu,iv⟩:=hk
 unfold pyHash
 first | unfold pyHashByItsType | skip
 first | refine wpAny_bind (wpAny_cRoomFor_or (.inr (by omega)) ?_) | skip
 refine wpAny_bind (wpAny_specialOf hT F.slot_tuple_hash.lookup ?_)
 show wpAny _ _ (if (some (Value.builtin "tuple.__hash__") == some Value.none) = true then _ else _) Q E s
 rw [if_neg (by rw [beq_builtin_none]; exact Bool.false_ne_true)]
 refine wpAny_bind (wpAny_specialOf hT F.slot_tuple_hash.lookup ?_)
 show wpAny _ _ (callSpecialIfBoundUnlessNone? (.ref a) "__hash__" _ >>= _) Q E s
 refine wpAny_bind (wpAny_callSpecialIfBoundUnlessNone?_slot hT F.slot_tuple_hash (wpAny_call_entry F.slot_tuple_hash hT F.entry_tuple_hash ?_ (F.args_tuple_hash_1 _)))
 show wpAny _ _ (Builtin.Tuple.tupleItemsOf (.ref a) >>= _) _ _ s
 refine wpAny_bind (wpAny_tupleItemsOf ho hd ?_)
 refine wpAny_bind ?_
 rw [← Array.forIn_toList]
 have hu':A.in1.units < cLine:=hu
 refine wpAny_forIn_list _
  (fun rest (b:Array Int) s'=>(rest = [u,v] /\ b.toList = [] /\ s' = s) \/ (rest = [v] /\ b.toList = [k1.hash k.1] /\ s' = { s with toks:=s.toks + k1.draws k.1 }) \/ (rest = [] /\ b.toList = [k1.hash k.1,k2.hash k.2] /\ s' = { s with toks:=s.toks + (k1.draws k.1 + k2.draws k.2) }))
  _ ?_ ?_ _ _ (.inl ⟨rfl,rfl,rfl⟩)
 ·rintro x rest b s' (⟨e,hb,rfl⟩ | ⟨e,hb,rfl⟩ | ⟨e,_⟩)
  ·cases e
   refine wpAny_bind (k1.pyHash hu' iu ?_)
   first
    | exact wpAny_pure (.inr (.inl ⟨rfl,by simp [hb],rfl⟩))
    | exact wpAny_bind (wpAny_pure (wpAny_pure (.inr (.inl ⟨rfl,by simp [hb],rfl⟩))))
  ·cases e
   refine wpAny_bind (k2.pyHash hu' iv ?_)
   first
    | exact wpAny_pure (.inr (.inr ⟨rfl,by simp [hb],by simp [Nat.add_assoc]⟩))
    | exact wpAny_bind (wpAny_pure (wpAny_pure (.inr (.inr ⟨rfl,by simp [hb],by simp [Nat.add_assoc]⟩))))
  ·cases e
 ·rintro b s' (⟨e,_⟩ | ⟨e,_⟩ | ⟨_,hb,rfl⟩)
  ·cases e
  ·cases e
  show wpAny _ _ (retInt (Builtin.Tuple.tupleHashOf b.toList)) _ _ _
  rw [hb]
  refine wpAny_ret_mkInt ?_
  show wpAny _ _ (if (decide (-(2:Int) ^ 63 <= Builtin.Tuple.tupleHashOf [k1.hash k.1,k2.hash k.2]) && decide (Builtin.Tuple.tupleHashOf [k1.hash k.1,k2.hash k.2] < 2 ^ 63)) = true then _ else _) Q E _
  unfold YZ reduceHash at h
  by_cases hr:(decide (-(2:Int) ^ 63 <= Builtin.Tuple.tupleHashOf [k1.hash k.1,k2.hash k.2]) && decide (Builtin.Tuple.tupleHashOf [k1.hash k.1,k2.hash k.2] < 2 ^ 63)) = true
  ·rw [if_pos hr]
   rw [if_pos hr] at h
   exact wpAny_pure (by simpa [Nat.add_assoc] using h)
  ·rw [if_neg hr]
   rw [if_neg hr] at h
   exact wpAny_bind (wpAny_rule (wpAny_pure (by simpa [Nat.add_assoc] using h)))
theorem Zp {x y:K1 × K2} {a b:Addr} {P:Fin -> Shared -> Prop} (hu:A.units < cLine) (hx:IsPr k1 k2 s.heap x a) (hy:IsPr k1 k2 s.heap y b) (h:P (.done (.ret (.bool (decide (x = y))))) s) :
  wpAny (model prog w) A (Builtin.«tuple.__eq__» ⟨[.ref a,.ref b],[]⟩) P E s:=by
 have hTb:=hy.typeIs
 obtain ⟨oa,u,v,na,hoa,_,hda,iu,iv⟩:=hx
 obtain ⟨ob,u',v',nb,hob,_,hdb,iu',iv'⟩:=hy
 show wpAny _ _ (isInstance (.ref b) (.type "tuple") >>= _) _ _ s
 refine wpAny_bind (wpAny_isInstance hTb isSubtype_tuple_tuple ?_)
 simp only [Bool.not_true,Bool.false_eq_true,if_false]
 refine wpAny_bind (wpAny_tupleItemsOf hoa hda ?_)
 refine wpAny_bind (wpAny_tupleItemsOf hob hdb ?_)
 refine wpAny_bind ?_
 have ed:decide (x = y) = (decide (x.1 = y.1) && decide (x.2 = y.2)):=by
  rw [Bool.eq_iff_iff]; simp [Prod.ext_iff]
 refine wpAny_forIn_list _
  (fun rest r s'=>r.1 = none /\ s' = s /\ ((rest = [(u,u'),(v,v')]) \/ (rest = [(v,v')] /\ x.1 = y.1) \/ (rest = [] /\ x = y)))
  _ ?_ ?_ _ _ ⟨rfl,rfl,.inl rfl⟩
 ·rintro ⟨p,q⟩ rest r s' ⟨hr,rfl,(e | ⟨e,e1⟩ | ⟨e,_⟩)⟩
  ·cases e
   refine wpAny_bind (k1.eqBool hu iu iu' ?_)
   by_cases hk:x.1 = y.1
   ·rw [decide_eq_true hk]
    simp only [Bool.not_true,Bool.false_eq_true,if_false]
    refine wpAny_pure ?_
    simp [hk]
   ·rw [decide_eq_false hk]
    simp only [Bool.not_false,if_true]
    rw [ed,decide_eq_false hk,Bool.false_and] at h
    exact wpAny_bind (wpAny_pure (wpAny_pure (wpAny_pure h)))
  ·cases e
   refine wpAny_bind (k2.eqBool hu iv iv' ?_)
   by_cases hk:x.2 = y.2
   ·rw [decide_eq_true hk]
    simp only [Bool.not_true,Bool.false_eq_true,if_false]
    refine wpAny_pure ?_
    simp [Prod.ext e1 hk]
   ·rw [decide_eq_false hk]
    simp only [Bool.not_false,if_true]
    rw [ed,decide_eq_false hk,Bool.and_false] at h
    exact wpAny_bind (wpAny_pure (wpAny_pure (wpAny_pure h)))
  ·cases e
 ·rintro ⟨r1,r2⟩ s' ⟨hr,rfl,(e | ⟨e,e1⟩ | ⟨_,e⟩)⟩
  ·cases e
  ·cases e
  simp only at hr
  subst hr
  refine wpAny_pure ?_
  show P (.done (.ret (.bool ((#[u,v]:Array Value).size == (#[u',v']:Array Value).size)))) s'
  rw [decide_eq_true e] at h
  exact h
theorem UL {x y:K1 × K2} {a b:Addr} {Q:Bool -> Shared -> Prop} (hu:A.units + 1 < cLine) (hx:IsPr k1 k2 s.heap x a) (hy:IsPr k1 k2 s.heap y b) (h:Q (decide (x = y)) s) :
  wpAny (model prog w) A (eqBool (.ref a) (.ref b)) Q E s:=by
 unfold eqBool
 try with_reducible refine wpAny_holding ?_
 show wpAny _ _ (if (Value.ref a == Value.ref b) = true then _ else _) Q E s
 by_cases hab:(Value.ref a == Value.ref b) = true
 ·rw [if_pos hab]
  have e:a = b:=by have:=eq_of_beq hab; injection this
  subst e
  obtain rfl:=hx.inj hy
  exact wpAny_bind (wpAny_rule (wpAny_pure (by simpa using h)))
 ·rw [if_neg hab]
  exact wpAny_bind (wpAny_richCompare_same_room (op:=.Eq) hx.typeIs hy.typeIs F.slot_tuple_eq
   (wpAny_call_entry F.slot_tuple_eq hx.typeIs F.entry_tuple_eq (Zp hu hx hy ⟨_,rfl,(fun e=>nomatch e),wpAny_truthy_bool h⟩) (F.args_tuple_eq_2 _ _)) (by omega))
theorem Wd {k:K1 × K2} {a:Addr} {Q:Bool -> Shared -> Prop} (hk:IsPr k1 k2 s.heap k a) (h:Q true s):wpAny (model prog w) A (eqIsQuiet 8 (.ref a)) Q E s:=by
 have hT:=hk.typeIs
 obtain ⟨o,u,v,n,ho,_,hd,iu,iv⟩:=hk
 unfold eqIsQuiet
 refine wpAny_bind (wpAny_specialOf hT F.slot_tuple_eq.lookup ?_)
 show wpAny _ _ (isInstance (.ref a) (.type "tuple") >>= _) _ _ s
 refine wpAny_bind (wpAny_isInstance hT isSubtype_tuple_tuple ?_)
 simp only [Bool.not_true,Bool.false_eq_true,if_false]
 refine wpAny_bind (wpAny_seqItems ho hd ?_)
 refine wpAny_bind ?_
 show wpAny _ _ (forIn #[u,v] _ _) _ _ s
 rw [← Array.forIn_toList]
 refine wpAny_forIn_list _ (fun rest r s'=>r.1 = none /\ s' = s /\ (rest = [u,v] \/ rest = [v] \/ rest = [])) _ ?_ ?_ _ _ ⟨rfl,rfl,.inl rfl⟩
 ·rintro x rest r s' ⟨hr,rfl,(e | e | e)⟩
  ·cases e
   refine wpAny_bind (k1.quiet iu ?_)
   simp only [Bool.not_true,Bool.false_eq_true,if_false]
   refine wpAny_pure ?_
   simp
  ·cases e
   refine wpAny_bind (k2.quiet iv ?_)
   simp only [Bool.not_true,Bool.false_eq_true,if_false]
   refine wpAny_pure ?_
   simp
  ·cases e
 ·rintro ⟨r1,r2⟩ s' ⟨hr,rfl,_⟩
  simp only at hr
  subst hr
  exact wpAny_pure h
end
def rK {prog:Program} {w:World} {K1 K2:Type} [DecidableEq K1] [DecidableEq K2] (k1:ItK prog w K1) (k2:ItK prog w K2):HeapKind prog w (K1 × K2) where
 is:=IsPr k1 k2
 hash:=YZ k1 k2
 draws:=fun k=>k1.draws k.1 + k2.draws k.2 + 1
 room:=fun A=>A.units + 1 < cLine
 inj:=fun hx hy=>hx.inj hy
 keeps:=fun x ho hd hs=>x.keeps ho hd hs
 pyHash:=fun hu hk h=>W9 hu hk h
 eqBool:=fun hu hx hy h=>UL hu hx hy h
 quiet:=fun hk h=>Wd hk h
def Trc (h:Heap) (e T:Addr) (cls:Value):Prop :=
 ∃ oe vs oT ts,h.get? e = some oe /\ oe.cls = cls /\ oe.data = .fields vs /\ vs[1]? = some (.ref T) /\ T ≠ e /\ h.get? T = some oT /\ oT.data = .fields ts /\ ts[3]? = some .none /\ vs[2]? = some .none
structure Lft (fr:List Addr) (e T0 T:Addr) (cls:Value) (h h':Heap):Prop where
 keep:∀ b o,b ∉ fr -> b ≠ e -> b ≠ T0 -> h.get? b = some o -> h'.get? b = some o
 slot:∀ b o,b ∈ fr -> b ≠ e -> b ≠ T0 -> h.get? b = some o -> ∃ sl,h'.get? b = some { o with slots:=sl }
 new:h.get? T = none
 trc:Trc h' e T cls
section
variable {M:Model} {A:Around} {E:VS7} {s:Shared}
theorem wR {base:Heap} {env:Env} {outer:List Env} {L e:Addr} {oe:Obj} {vs:Array Value} {head:Value} {hadNext:Bool} {Q:Unit -> Shared -> Prop}
  (hfr:A.frames = some (env :: outer)) (hl:s.heap.FunFrames base (env :: outer)) (hf:env.frame = some L)
  (he:s.heap.get? e = some oe) (hd:oe.data = .fields vs) (hsz:1 < vs.size) (hv2:vs[2]? = some .none)
  (h:∀ h' T,Lft ((env :: outer).filterMap (·.frame)) e e T oe.cls s.heap h' -> Q () { s with heap:=h' }) :
  wpAny M A (do let a ← frameOf env; let pl ← entryPlaceOf L hadNext; let b ← EntryCells.newEntry head a .none (rawInt L) .none pl; setField (.ref e) 1 b) (fun _ s'=>wpAny M A (setFlight (.ref e) none) Q E s') E s:=by
 have hne:e ∉ (env :: outer).filterMap (·.frame):=fun hm=>by
  obtain ⟨_,o,ho,hnf⟩:=hl.mem hm
  rw [he] at ho
  cases ho
  exact hnf vs hd
 refine wpAny_bind (wpAny_frameOf_fun hfr hl hf fun h1 s1=>?_)
 refine wpAny_bind (wpAny_entryPlaceOf fun pl hpl=>?_)
 unfold EntryCells.newEntry newFields
 refine wpAny_bind (wpAny_newObj_type ?_ (hpl.sizeOk5 _ _ _ _ _))
 have e1:h1.get? e = some oe:=(s1.2.1 e hne).trans he
 have hTe:h1.objs.size ≠ e:=Nat.ne_of_gt (Heap.lt_size e1)
 generalize hT:({ cls:=.type "traceback",dict:=none,data:=.fields ([head,.ref L,.none,rawInt L,.none] ++ (if pl.isEmpty then List.replicate 6 Value.none else pl)).toArray }:Obj) = oT
 have hTd:oT.data = .fields ([head,.ref L,.none,rawInt L,.none] ++ (if pl.isEmpty then List.replicate 6 Value.none else pl)).toArray:=by rw [← hT]
 have hTf:oT.isFreed = false:=Obj.isFreed_of_fields hTd
 have e2:=Heap.get?_push_of_some (h:=h1) oT e1
 refine wpAny_setField e2 hd hsz ?_
 have d3:=Obj.data_mapFields hd (·.setIfInBounds 1 (Value.ref h1.objs.size))
 have e3:=Heap.get?_update_self (Obj.mapFields (·.setIfInBounds 1 (Value.ref h1.objs.size))) e2 (Obj.isFreed_of_fields d3)
 have t3:((h1.push oT).update e (Obj.mapFields (·.setIfInBounds 1 (Value.ref h1.objs.size)))).get? h1.objs.size = some oT:=(Heap.get?_update_other _ _ (Ne.symm hTe)).trans (Heap.get?_push_size h1 hTf)
 unfold setFlight
 refine wpAny_bind (wpAny_field e3 d3 (x:=.ref h1.objs.size) (by simp [hsz]) ?_)
 rw [if_pos (show (Value.ref h1.objs.size != Value.none) = true from by simp)]
 refine wpAny_setField t3 hTd (by simp only [List.size_toArray,List.length_append,List.length_cons,List.length_nil] <;> omega) (h _ h1.objs.size ?_)
 have keep:∀ b o,b ≠ e -> h1.get? b = some o →
   (((h1.push oT).update e (Obj.mapFields (·.setIfInBounds 1 (Value.ref h1.objs.size)))).update h1.objs.size (Obj.mapFields (·.setIfInBounds 3 ((none:Option Addr).elim Value.none fun f=>rawInt f)))).get? b = some o:=fun b o hbe hb=>by
  rw [Heap.get?_update_other _ _ (Nat.ne_of_gt (Heap.lt_size hb)),Heap.get?_update_other _ _ (Ne.symm hbe)]
  exact Heap.get?_push_of_some _ hb
 refine ⟨fun b o hb hbe _ ho=>keep b o hbe ((s1.2.1 b hb).trans ho),fun b o hb hbe _ ho=>?_,?_,?_⟩
 ·obtain ⟨sl,hs⟩:=s1.2.2 b o ho
  exact ⟨sl,keep b _ hbe hs⟩
 ·cases q:s.heap.get? h1.objs.size with
  | none=>rfl
  | some o =>
   have:=Heap.lt_size q
   rw [s1.1] at this
   exact absurd this (Nat.lt_irrefl _)
 ·refine ⟨_,_,_,_,(Heap.get?_update_other _ _ hTe).trans e3,Obj.cls_mapFields _ _,d3,by simp [hsz],hTe,Heap.get?_update_self _ t3 (Obj.isFreed_of_fields (Obj.data_mapFields hTd _)),Obj.data_mapFields hTd _,?_,(Array.getElem?_setIfInBounds_ne (by decide)).trans hv2⟩
  simp only [Array.getElem?_setIfInBounds,if_true]
  rw [if_pos (by simp only [List.size_toArray,List.length_append,List.length_cons,List.length_nil]; omega)]
  rfl
theorem qP {base:Heap} {env:Env} {outer:List Env} {L e:Addr} {oe:Obj} {vs:Array Value} {Q:Unit -> Shared -> Prop}
  (hfr:A.frames = some (env :: outer)) (hl:s.heap.FunFrames base (env :: outer)) (hf:env.frame = some L)
  (he:s.heap.get? e = some oe) (hd:oe.data = .fields vs) (h1:vs[1]? = some .none) (hv2:vs[2]? = some .none)
  (h:∀ h' T,Lft ((env :: outer).filterMap (·.frame)) e e T oe.cls s.heap h' -> Q () { s with heap:=h' }):wpAny M A (leaving env (.ref e)) Q E s:=by
 unfold leaving noteFrame
 simp only [hf]
 refine wpAny_bind (wpAny_bind (wpAny_field he hd h1 ?_))
 rw [if_neg (by decide)]
 exact wR hfr hl hf he hd (Array.getElem?_eq_some_iff.mp h1).1 hv2 h
theorem Zq {base:Heap} {env:Env} {outer:List Env} {L e T0:Addr} {cls:Value} {Q:Unit -> Shared -> Prop}
  (hfr:A.frames = some (env :: outer)) (hl:s.heap.FunFrames base (env :: outer)) (hf:env.frame = some L) (ht:Trc s.heap e T0 cls)
  (h:∀ h' T,Lft ((env :: outer).filterMap (·.frame)) e T0 T cls s.heap h' -> Q () { s with heap:=h' }):wpAny M A (leaving env (.ref e)) Q E s:=by
 obtain ⟨oe,vs,oT,ts,he,hcls,hd,h1,hTe,hT,hdT,h3,hv2⟩:=ht
 subst hcls
 unfold leaving noteFrame
 simp only [hf]
 refine wpAny_bind (wpAny_bind (wpAny_field he hd h1 ?_))
 rw [if_pos (show (Value.ref T0 != Value.none) = true from by simp)]
 refine wpAny_bind (wpAny_field hT hdT h3 ?_)
 rw [if_neg (show ¬ ((Value.none == rawInt L) = true) from by simp [rawInt])]
 refine wpAny_bind (wpAny_setField hT hdT (Array.getElem?_eq_some_iff.mp h3).1 ?_)
 have other:∀ b,b ≠ T0 -> (s.heap.update T0 (Obj.mapFields (·.setIfInBounds 3 Value.none))).get? b = s.heap.get? b:=fun b hb=>Heap.get?_update_other _ _ (Ne.symm hb)
 have nf:∀ b o,s.heap.get? b = some o -> (∀ vs,o.data ≠ .fields vs) -> b ≠ T0:=fun b o hb hnf q=>by
  rw [q,hT] at hb
  cases hb
  exact hnf ts hdT
 refine wR hfr (hl.of_keeps fun b o hb hnf=>⟨o,(other b (nf b o hb hnf)).trans hb,rfl⟩) hf ((other e (Ne.symm hTe)).trans he) hd (Array.getElem?_eq_some_iff.mp h1).1 hv2 fun h' T x=>h h' T ?_
 refine ⟨fun b o hb hbe hb0 ho=>x.keep b o hb hbe hbe ((other b hb0).trans ho),fun b o hb hbe hb0 ho=>x.slot b o hb hbe hbe ((other b hb0).trans ho),?_,x.trc⟩
 have:=x.new
 by_cases q:T = T0
 ·subst q
  have e5:=Heap.get?_update_self (Obj.mapFields (·.setIfInBounds 3 Value.none)) hT (Obj.isFreed_of_fields (Obj.data_mapFields hdT _))
  rw [show (s.heap.update T (Obj.mapFields (·.setIfInBounds 3 Value.none))).get? T = _ from e5] at this
  cases this
 ·rw [← other T q]; exact this
end
def CX1 (P:Program) (w:World):CXT:=fun outer H s E e s'=>∃ (a T C:Addr) (H':Hp),e = .ref a /\ s'.os = s.os /\ AllBare s'.gens /\ Un (frs outer) [] H H' s.heap s'.heap /\ HOk P w H' s'.heap ∧
 Trc s'.heap a T (.ref C) /\ H' a = none /\ H' T = none /\ s.heap.get? a = none /\ s.heap.get? T = none /\ E e (some C) H'
theorem yr.at {P:Program} {w:World} {H:Hp} {h:Heap} {a:Addr} {o:HO} (x:yr P w H h a o):∃ ob,h.get? a = some ob:=by
 induction o with
 | lst xs=>obtain ⟨z,its,n,r,e⟩:=x; exact ⟨_,e⟩
 | tup xs=>obtain ⟨z,its,r,ob,e,c⟩:=x; exact ⟨_,e⟩
 | dK kvs=>obtain ⟨z,y,vs,r,ob,es,ep,e,c⟩:=x; exact ⟨_,e⟩
 | dT kvs=>obtain ⟨z,y,xs,r,ob,es,ep,e,c⟩:=x; exact ⟨_,e⟩
 | set S n=>obtain ⟨ob,es,ep,t,e,c⟩:=x; exact ⟨_,e⟩
 | ins C dx fs=>obtain ⟨d,z,ne,e,_⟩:=x; exact ⟨_,e⟩
 | own y=>exact x
 | xd fs=>obtain ⟨mA,⟨od,es,ep,e,c⟩,r⟩:=x; exact ⟨_,e⟩
 | rng lo hi=>obtain ⟨t,u,v,e⟩:=x; exact ⟨_,e⟩
 | frz ob u ih=>exact ⟨_,x.1⟩
 | tbl ps=>exact ⟨_,x⟩
 | met f y=>exact ⟨_,x⟩
 | ext φ=>exact x.2.1
theorem We {P:Program} {w:World} {H:Hp} {h h':Heap} {fr:List Addr} {e T0 T:Addr} {cls:Value} (x:HOk P w H h) (l:Lft fr e T0 T cls h h') (hfr:∀ b ∈ fr,H b = none) (he:H e = none) (h0:H T0 = none):HOk P w H h':=fun b u q=>by
 refine (x b u q).stay (fun c v hc r=>?_) (fun _ r=>r) fun _ _ r=>r
 have hn:H c ≠ none:=by
  rcases hc with rfl | hc
  ·rw [q]; exact fun z=>nomatch z
  ·rw [hc]; exact fun z=>nomatch z
 exact l.keep c v (fun z=>hn (hfr c z)) (fun z=>hn (by rw [z]; exact he)) (fun z=>hn (by rw [z]; exact h0)) r
section
variable {P:Program} {w:World} {K:FG7} {mg:Str -> Option Value} {base:Heap} {N:List Str} {qual:Str} {scope:Scope} {f:Addr} {cd:Value} {A:Around} {outer:List Env} {s0:Shared} {H0:Hp} {E:XK}
 {pins:List (Addr × Obj)} {σ:L2.St} {H:Hp} {s:Shared}
theorem Y0 {h2:Heap} {e T0 T C:Addr} (I:Inv (cxOf (CX1 P w) P w K mg base N qual scope f cd A outer s0 H0 E) pins σ H s) (l:Lft ((envOfC qual scope s0.heap.objs.size f cd :: outer).filterMap (·.frame)) e T0 T (.ref C) s.heap h2)
  (new:∀ b o,s0.heap.get? b = some o -> b ≠ e /\ b ≠ T0) (he0:H e = none) (ht0:H T0 = none) (q:E (.ref e) (some C) H):CX1 P w outer H0 s0 E (.ref e) { s with heap:=h2 }:=by
 have hfr:∀ b ∈ (envOfC qual scope s0.heap.objs.size f cd :: outer).filterMap (·.frame),H b = none:=I.stkFree
 have hU:Un (frs outer) [] H0 H s0.heap s.heap:=I.base
 have newT:∀ b o,s0.heap.get? b = some o -> b ≠ T:=fun b o hb z=>by
  obtain ⟨o',h1⟩:=hU.there b o hb (by simp)
  have:=l.new
  rw [← z,h1] at this; cases this
 have nin:∀ b o,s0.heap.get? b = some o -> b ∉ frs outer -> b ∉ (envOfC qual scope s0.heap.objs.size f cd :: outer).filterMap (·.frame):=fun b o hb hn z=>by
  rcases List.mem_cons.mp (show b ∈ s0.heap.objs.size :: frs outer from z) with z | z
  ·exact Nat.ne_of_lt (Heap.lt_size hb) z
  ·exact hn z
 have isin:∀ b,b ∈ frs outer -> b ∈ (envOfC qual scope s0.heap.objs.size f cd :: outer).filterMap (·.frame):=fun b hb=>show b ∈ s0.heap.objs.size :: frs outer from List.mem_cons_of_mem _ hb
 refine ⟨e,T,C,H,rfl,I.os,I.bare,⟨fun b o hb hn hf hx'=>?_,fun b o hb hn hf hx'=>?_,hU.free,fun b o hb hx'=>?_,hU.tups,hU.frzs,hU.tbls⟩,We I.hok l hfr he0 ht0,l.trc,he0,?_,?_,?_,q⟩
 ·obtain ⟨n1,n2⟩:=new b o hb
  exact l.keep b o (nin b o hb hf) n1 n2 (hU.keep b o hb hn hf hx')
 ·obtain ⟨n1,n2⟩:=new b o hb
  obtain ⟨sl,h1⟩:=hU.slot b o hb hn hf hx'
  obtain ⟨sl',h2⟩:=l.slot b _ (isin b hf) n1 n2 h1
  exact ⟨sl',h2⟩
 ·obtain ⟨n1,n2⟩:=new b o hb
  obtain ⟨o',h1⟩:=hU.there b o hb hx'
  by_cases z:b ∈ (envOfC qual scope s0.heap.objs.size f cd :: outer).filterMap (·.frame)
  ·obtain ⟨sl,h2⟩:=l.slot b o' z n1 n2 h1
   exact ⟨_,h2⟩
  ·exact ⟨o',l.keep b o' z n1 n2 h1⟩
 ·cases r:H T with
  | none=>rfl
  | some o =>
   obtain ⟨ob,z⟩:=yr.at (I.hok T o r)
   rw [l.new] at z; cases z
 ·cases r:s0.heap.get? e with
  | none=>rfl
  | some o=>exact absurd rfl (new e o r).1
 ·cases r:s0.heap.get? T with
  | none=>rfl
  | some o=>exact absurd rfl (newT T o r)
theorem Va {h':Heap} {e C:Addr} {args:List Value} (I:Inv (cxOf (CX1 P w) P w K mg base N qual scope f cd A outer s0 H0 E) pins σ H s) (hx:Heap.MadeExcOf s.heap h' e (.ref C) args) (q:E (.ref e) (some C) H) :
  (cxOf (CX1 P w) P w K mg base N qual scope f cd A outer s0 H0 E).xe (.ref e) { s with heap:=h' }:=by
 obtain ⟨t,he,ht,_⟩:=hx.there
 have he0:H e = none:=by
  cases r:H e with
  | none=>rfl
  | some o =>
   obtain ⟨ob,z⟩:=yr.at (I.hok e o r)
   rw [hx.new] at z; cases z
 have I1:Inv (cxOf (CX1 P w) P w K mg base N qual scope f cd A outer s0 H0 E) pins σ H { s with heap:=h' }:=I.kept (t':=s.toks) hx.keeps
 have new:∀ b o,s0.heap.get? b = some o -> b ≠ e:=fun b o hb z=>by
  have hU:Un (frs outer) [] H0 H s0.heap s.heap:=I.base
  obtain ⟨o',ho'⟩:=hU.there b o hb (by simp)
  rw [z,hx.new] at ho'; cases ho'
 refine qP (base:=base) (outer:=outer) (L:=s0.heap.objs.size) I.ok.frames I1.stack rfl he rfl rfl rfl fun h2 T l=>?_
 exact Y0 I1 l (fun b o hb=>⟨new b o hb,new b o hb⟩) he0 he0 q
theorem Vb {E':XK} (hE:∀ e C H',E' e (some C) H' -> E e (some C) H'):tm (CX1 P w) (cxOf (CX1 P w) P w K mg base N qual scope f cd A outer s0 H0 E) E':=by
 intro pins σ H s ex s' I hc
 obtain ⟨e,T0,C,H',rfl,os,bare,un,hok,trc,e0,t0,ne,nt,q⟩:=hc
 have I1:Inv (cxOf (CX1 P w) P w K mg base N qual scope f cd A outer s0 H0 E) pins σ H' s':=I.call' (ch:=[]) os un hok bare (fun b z=>absurd z (by simp))
 have new:∀ b o,s0.heap.get? b = some o -> b ≠ e /\ b ≠ T0:=fun b o hb=>by
  have hU:Un (frs outer) [] H0 H s0.heap s.heap:=I.base
  obtain ⟨o',ho'⟩:=hU.there b o hb (by simp)
  refine ⟨fun z=>?_,fun z=>?_⟩
  ·rw [z,ne] at ho'; cases ho'
  ·rw [z,nt] at ho'; cases ho'
 refine Zq (base:=base) (outer:=outer) (L:=s0.heap.objs.size) I.ok.frames I1.stack rfl trc fun h2 T l=>?_
 exact Y0 I1 l new e0 t0 (hE _ _ _ q)
end
abbrev veM:List Value:=[.type "ValueError",.type "Exception",.type "BaseException",.type "object"]
def ExcC (K:FG7) (mg:Str -> Option Value) (x:Str) (C:Addr):Prop:=∀ h:Heap,K.In h -> OwnCls x C veM "ValueError.__new__" mg h
def WE (X:Cx) (E:XK):Prop:=∀ (pins:List (Addr × Obj)) (σ:L2.St) (H:Hp) (s:Shared) (h':Heap) (e C:Addr) (args:List Value),Inv X pins σ H s -> Heap.MadeExcOf s.heap h' e (.ref C) args -> E (.ref e) (some C) H -> X.xe (.ref e) { s with heap:=h' }
def V2 (C:Addr) (E:XK) (te:TE):TS:=fun _ σ H=>te σ H fun _ H1=>∀ e,E (.ref e) (some C) H1
section
variable {X:Cx} {x:Str} {C:Addr} {np cpos pos:Pos} {e₀:Expr} {te:TE} {E:XK}
theorem jJ (hc:X.calm = true) (O:ExcC X.K X.mg x C) (hg:Gl X x) (hr:WE X E) (he:PE X e₀ te) (hdb:(x == ("__debug__":Str)) = false:=by decide)
  (hst:starEach [e₀] X.env = [(false,eval e₀ X.env)]:=by rfl):PS X (.Raise (some (.Call (.Name x np) [e₀] [] cpos)) none pos) (V2 C E te):=by
 intro pins s σ H D I h
 obtain ⟨tl,N,nm,q,bs,hdct,sn,sub,ab,col,dd,k0,k1,k2,k3,k5,mN,hC,hN,hni,T⟩:=(O X.base I.mod.kin).obj
 refine wpAny_Raise_call_subT (C:=C) (nm:=nm) (q:=q) (N:=N) (bs:=bs) (bm:=tl) (hdct:=hdct) (sn:=sn) (sub:=sub) (ab:=ab) (col:=col) (dd:=dd) (k0:=k0) (k1:=k1) (k2:=k2) (k3:=k3) (k5:=k5)
  PySem.F.excBase_ValueError (mN:=mN) (T.hasType PySem.F.excBase_ValueError.hasBase) (I.ok.hd hc) (by rw [hst]; rfl) hni (t6 I hg (O s.heap I.kIn).bound ⟨rfl,?_⟩ hdb)
 rw [hst]
 refine Calls.evalArgs_plain ?_
 show wpAny _ _ (spliced [(false,eval e₀ X.env)]) _ _ s
 refine Calls.spliced_cons (thn (he pins s σ H _ I h) fun v s1 ⟨y,H1,I1,r1,q1⟩=>Calls.spliced_nil ?_)
 exact ⟨rfl,szl rfl,I1.bk _ _ hC,hN.keeps I1.bk,T.keeps I1.bk,fun h' e hm=>hr pins σ H1 s1 h' e C _ I1 hm (q1 e)⟩
end
section
variable {P:Program} {w:World} {K:FG7} {mg:Str -> Option Value} {base:Heap} {N:List Str} {qual:Str} {scope:Scope} {f:Addr} {cd:Value} {A:Around} {outer:List Env} {s0:Shared} {H0:Hp} {E:XK}
theorem rL:WE (cxOf (CX1 P w) P w K mg base N qual scope f cd A outer s0 H0 E) E:=fun _ _ _ _ _ _ _ _ I hx q=>Va I hx q
end
section
variable {M:Model} {A:Around} {E:VS7} {s:Shared}
theorem Y1 {base:Heap} {env:Env} {outer:List Env} {L e T0:Addr} {cls:Value} {Q:Unit -> Shared -> Prop}
  (hfr:A.frames = some (env :: outer)) (hl:s.heap.FunFrames base (env :: outer)) (hf:env.frame = some L) (ht:Trc s.heap e T0 cls)
  (h:∀ h' T,Lft ((env :: outer).filterMap (·.frame)) e T0 T cls s.heap h' -> Q () { s with heap:=h' }):wpAny M A (noteFrame (.ref e) env) (fun _ s'=>wpAny M A (setFlight (.ref e) none) Q E s') E s:=by
 obtain ⟨oe,vs,oT,ts,he,hcls,hd,h1,hTe,hT,hdT,h3,hv2⟩:=ht
 subst hcls
 unfold noteFrame
 simp only [hf]
 refine wpAny_bind (wpAny_field he hd h1 ?_)
 rw [if_pos (show (Value.ref T0 != Value.none) = true from by simp)]
 refine wpAny_bind (wpAny_field hT hdT h3 ?_)
 rw [if_neg (show ¬ ((Value.none == rawInt L) = true) from by simp [rawInt])]
 refine wpAny_bind (wpAny_setField hT hdT (Array.getElem?_eq_some_iff.mp h3).1 ?_)
 have other:∀ b,b ≠ T0 -> (s.heap.update T0 (Obj.mapFields (·.setIfInBounds 3 Value.none))).get? b = s.heap.get? b:=fun b hb=>Heap.get?_update_other _ _ (Ne.symm hb)
 have nf:∀ b o,s.heap.get? b = some o -> (∀ vs,o.data ≠ .fields vs) -> b ≠ T0:=fun b o hb hnf q=>by
  rw [q,hT] at hb
  cases hb
  exact hnf ts hdT
 refine wR hfr (hl.of_keeps fun b o hb hnf=>⟨o,(other b (nf b o hb hnf)).trans hb,rfl⟩) hf ((other e (Ne.symm hTe)).trans he) hd (Array.getElem?_eq_some_iff.mp h1).1 hv2 fun h' T x=>h h' T ?_
 refine ⟨fun b o hb hbe hb0 ho=>x.keep b o hb hbe hbe ((other b hb0).trans ho),fun b o hb hbe hb0 ho=>x.slot b o hb hbe hbe ((other b hb0).trans ho),?_,x.trc⟩
 have:=x.new
 by_cases q:T = T0
 ·subst q
  have e5:=Heap.get?_update_self (Obj.mapFields (·.setIfInBounds 3 Value.none)) hT (Obj.isFreed_of_fields (Obj.data_mapFields hdT _))
  rw [show (s.heap.update T (Obj.mapFields (·.setIfInBounds 3 Value.none))).get? T = _ from e5] at this
  cases this
 ·rw [← other T q]; exact this
theorem Zr {e T0:Addr} {cls:Value} {Q:Unit -> Shared -> Prop} (ht:Trc s.heap e T0 cls)
  (h:∀ h',(∀ b,b ≠ T0 -> h'.get? b = s.heap.get? b) -> Trc h' e T0 cls -> Q () { s with heap:=h' }):wpAny M A (setFlight (.ref e) none) Q E s:=by
 obtain ⟨oe,vs,oT,ts,he,hcls,hd,h1,hTe,hT,hdT,h3,hv2⟩:=ht
 unfold setFlight
 refine wpAny_bind (wpAny_field he hd h1 ?_)
 rw [if_pos (show (Value.ref T0 != Value.none) = true from by simp)]
 have other:∀ b,b ≠ T0 -> (s.heap.update T0 (Obj.mapFields (·.setIfInBounds 3 ((none:Option Addr).elim Value.none fun f=>rawInt f)))).get? b = s.heap.get? b:=fun b hb=>Heap.get?_update_other _ _ (Ne.symm hb)
 refine wpAny_setField hT hdT (Array.getElem?_eq_some_iff.mp h3).1 (h _ other ⟨oe,vs,_,_,(other e (Ne.symm hTe)).trans he,hcls,hd,h1,hTe,Heap.get?_update_self _ hT (Obj.isFreed_of_fields (Obj.data_mapFields hdT _)),Obj.data_mapFields hdT _,?_,hv2⟩)
 simp only [Array.getElem?_setIfInBounds,if_true]
 rw [if_pos (Array.getElem?_eq_some_iff.mp h3).1]
 rfl
end
structure ApX (X:Cx) (pins:List (Addr × Obj)) (H:Hp) (a T:Addr):Prop where
 s0:∀ b o,X.s₀.heap.get? b = some o -> b ≠ a /\ b ≠ T
 loc:X.env.locals ≠ a /\ X.env.locals ≠ T
 cel:∀ x c,X.env.cells.lookup x = some c -> c ≠ a /\ c ≠ T
 pin:∀ p ∈ X.pn ++ pins,p.1 ≠ a /\ p.1 ≠ T
 ha:H a = none
 hT:H T = none
theorem ApX.of {X:Cx} {pins:List (Addr × Obj)} {σ:L2.St} {H H':Hp} {s:Shared} {a T:Addr} (I:Inv X pins σ H s) (hx:X.ex = []) (na:s.heap.get? a = none) (nT:s.heap.get? T = none) (ha:H' a = none) (hT:H' T = none):ApX X pins H' a T:=by
 have ne:∀ b o,s.heap.get? b = some o -> b ≠ a /\ b ≠ T:=fun b o hb=>⟨fun z=>(by rw [z,na] at hb; cases hb),fun z=>(by rw [z,nT] at hb; cases hb)⟩
 refine ⟨fun b o hb=>?_,?_,fun x c hc=>?_,fun p hp=>ne _ _ (I.pin p hp).1,ha,hT⟩
 ·obtain ⟨o',h1⟩:=I.base.there b o hb (by rw [hx]; simp)
  exact ne b o' h1
 ·obtain ⟨m,⟨o,es,ep,ho,_⟩,_⟩:=I.loc
  exact ne _ _ ho
 ·obtain ⟨v,hv⟩:=I.cell x c hc
  obtain ⟨o,ho,_⟩:=hv
  exact ne _ _ ho
theorem Inv.leftK {X:Cx} {pins:List (Addr × Obj)} {σ:L2.St} {H:Hp} {s:Shared} {a T0:Addr} {h2:Heap} (I:Inv X pins σ H s) (hx:X.ex = []) (ap:ApX X pins H a T0)
  (lk:∀ b o,b ∉ frs X.stack -> b ≠ a -> b ≠ T0 -> s.heap.get? b = some o -> h2.get? b = some o) (ls:∀ b o,b ∈ frs X.stack -> b ≠ a -> b ≠ T0 -> s.heap.get? b = some o -> ∃ sl,h2.get? b = some { o with slots:=sl }):Inv X pins σ H { s with heap:=h2 }:=by
 have stk:∀ b,b ∈ frs X.stack -> b = X.env.locals \/ b ∈ X.fs:=fun b hb=>List.mem_cons.mp (I.stkSub b hb)
 have any:∀ b o,b ≠ a -> b ≠ T0 -> s.heap.get? b = some o -> ∃ sl,h2.get? b = some { o with slots:=sl }:=fun b o n1 n2 ho=>by
  by_cases z:b ∈ frs X.stack
  ·exact ls b o z n1 n2 ho
  ·exact ⟨o.slots,lk b o z n1 n2 ho⟩
 have cellK:∀ x c,X.env.cells.lookup x = some c -> ∀ v,s.heap.IsCell c v -> h2.IsCell c v:=fun x c e v ⟨o,ho,hd⟩=>by
  obtain ⟨n1,n2⟩:=ap.cel x c e
  obtain ⟨sl,h1⟩:=any c o n1 n2 ho
  exact ⟨_,h1,hd⟩
 refine ⟨I.ok,I.os,I.bare,⟨fun b o hb hn hf hx'=>?_,fun b o hb hn hf hx'=>?_,I.base.free,fun b o hb hx'=>?_,I.base.tups,I.base.frzs,I.base.tbls⟩,?_,fun x c hc=>?_,I.free,I.freeC,fun p hp=>?_,fun b u q=>?_,I.len⟩
 ·obtain ⟨n1,n2⟩:=ap.s0 b o hb
  refine lk b o (fun z=>?_) n1 n2 (I.base.keep b o hb hn hf hx')
  rcases stk b z with z | z
  ·exact absurd (Nat.lt_of_lt_of_le (Heap.lt_size hb) I.ok.above) (by rw [z]; exact Nat.lt_irrefl _)
  ·exact hf z
 ·obtain ⟨n1,n2⟩:=ap.s0 b o hb
  obtain ⟨sl,h1⟩:=I.base.slot b o hb hn hf hx'
  obtain ⟨sl',h3⟩:=any b _ n1 n2 h1
  exact ⟨sl',h3⟩
 ·obtain ⟨n1,n2⟩:=ap.s0 b o hb
  obtain ⟨o',h1⟩:=I.base.there b o hb hx'
  obtain ⟨sl,h3⟩:=any b o' n1 n2 h1
  exact ⟨_,h3⟩
 ·obtain ⟨m,⟨o,es,ep,ho,r⟩,hl⟩:=I.loc
  obtain ⟨sl,h1⟩:=any _ o ap.loc.1 ap.loc.2 ho
  refine ⟨m,⟨_,es,ep,h1,r⟩,fun i x v e1 e2 e3=>?_⟩
  obtain ⟨u,ru,lk⟩:=hl i x v e1 e2 e3
  refine ⟨u,ru,?_⟩
  rcases lk with lk | ⟨k1,c,k2,k3⟩
  ·exact .inl lk
  ·exact .inr ⟨k1,c,k2,cellK x c k2 _ k3⟩
 ·obtain ⟨v,hv⟩:=I.cell x c hc
  exact ⟨v,cellK x c hc v hv⟩
 ·obtain ⟨p1,p2,p3,p4,p5⟩:=I.pin p hp
  obtain ⟨n1,n2⟩:=ap.pin p hp
  refine ⟨lk _ _ (fun z=>?_) n1 n2 p1,p2,p3,p4,p5⟩
  rcases stk _ z with z | z
  ·exact p3 z
  ·exact p4 z
 ·refine (I.hok b u q).stay (fun c v hc r=>?_) (fun _ r=>r) fun _ _ r=>r
  have hn:H c ≠ none:=by
   rcases hc with rfl | hc
   ·rw [q]; exact fun z=>nomatch z
   ·rw [hc]; exact fun z=>nomatch z
  exact lk c v (fun z=>hn (I.stkFree c z)) (fun z=>hn (by rw [z]; exact ap.ha)) (fun z=>hn (by rw [z]; exact ap.hT)) r
theorem Inv.left {X:Cx} {pins:List (Addr × Obj)} {σ:L2.St} {H:Hp} {s:Shared} {a T0 T:Addr} {cls:Value} {h2:Heap} (I:Inv X pins σ H s) (hx:X.ex = []) (ap:ApX X pins H a T0)
  (l:Lft (frs X.stack) a T0 T cls s.heap h2):Inv X pins σ H { s with heap:=h2 }:=Inv.leftK I hx ap l.keep l.slot
abbrev pinX (X:Cx) (ps:List (Addr × Obj)) (E:VS7):Cx:={ X with pn:=X.pn ++ ps,xe:=E }
def Y2 (X:Cx) (ps:List (Addr × Obj)) (E:XK):VS7:=fun e s'=>∃ (a T C:Addr) (σ:L2.St) (H:Hp),e = .ref a /\ Inv X ps σ H s' /\ Trc s'.heap a T (.ref C) /\ ApX X ps H a T /\ E e (some C) H
section
variable {X:Cx} {ps pins:List (Addr × Obj)} {E:VS7} {σ:L2.St} {H:Hp} {s:Shared}
theorem Inv.pinX (I:Inv X ps σ H s):Inv (pinX X ps E) [] σ H s :=
 ⟨⟨I.ok.mod,I.ok.kind,I.ok.glob,I.ok.blt,I.ok.above,I.ok.inj,I.ok.has,I.ok.cab,I.ok.hd,I.ok.frames,I.ok.stk,I.ok.exf,I.ok.bs,I.ok.bsz,I.ok.noex,I.ok.exfs,I.ok.funs,I.ok.frf⟩,I.os,I.bare,I.base,I.loc,I.cell,I.free,I.freeC,fun p hp=>I.pin p (by simpa using hp),I.hok,I.len⟩
theorem Inv.unpin (I:Inv (L3.pinX X ps E) pins σ H s):Inv X ps σ H s :=
 ⟨⟨I.ok.mod,I.ok.kind,I.ok.glob,I.ok.blt,I.ok.above,I.ok.inj,I.ok.has,I.ok.cab,I.ok.hd,I.ok.frames,I.ok.stk,I.ok.exf,I.ok.bs,I.ok.bsz,I.ok.noex,I.ok.exfs,I.ok.funs,I.ok.frf⟩,I.os,I.bare,I.base,I.loc,I.cell,I.free,I.freeC,fun p hp=>I.pin p (List.mem_append_left _ hp),I.hok,I.len⟩
end
theorem Wf {X:Cx} {ps:List (Addr × Obj)} {E:XK} (hx:X.ex = []):tm (CX1 X.prog X.w) (pinX X ps (Y2 X ps E)) E:=by
 intro pins σ H s ex s' I hc
 obtain ⟨a,T0,C,H',rfl,os,bare,un,hok,trc,e0,t0,ne,nt,q⟩:=hc
 have I0:Inv X ps σ H s:=Inv.unpin I
 have I1:Inv X ps σ H' s':=I0.call' (ch:=[]) os un hok bare (fun b z=>absurd z (by simp))
 exact ⟨a,T0,C,σ,H',rfl,I1,trc,ApX.of I0 hx ne nt e0 t0,q⟩
abbrev handX (X:Cx) (e:Addr):Cx:={ X with A:=X.A.mark (some (.ref e)),calm:=false,xe:=fun _ _=>False }
section
variable {X:Cx} {pins:List (Addr × Obj)} {σ:L2.St} {H:Hp} {s:Shared} {e:Addr}
theorem Inv.handX (I:Inv X pins σ H s):Inv (handX X e) pins σ H s :=
 ⟨⟨I.ok.mod,I.ok.kind,I.ok.glob,I.ok.blt,I.ok.above,I.ok.inj,I.ok.has,I.ok.cab,fun z=>(nomatch z),I.ok.frames,I.ok.stk,I.ok.exf,I.ok.bs,I.ok.bsz,I.ok.noex,I.ok.exfs,I.ok.funs,I.ok.frf⟩,I.os,I.bare,I.base,I.loc,I.cell,I.free,I.freeC,I.pin,I.hok,I.len⟩
theorem Inv.unhand (ok:X.Ok) (I:Inv (L3.handX X e) pins σ H s):Inv X pins σ H s:=⟨ok,I.os,I.bare,I.base,I.loc,I.cell,I.free,I.freeC,I.pin,I.hok,I.len⟩
theorem SP.unpin {ps:List (Addr × Obj)} {E:VS7} {D:Ends} {f:Flow} (h:SP (L3.pinX X ps E) [] D f s):SP X ps D f s:=by
 cases f with
 | next=>obtain ⟨σ',H',I,q⟩:=h; exact ⟨σ',H',Inv.unpin I,q⟩
 | brk=>obtain ⟨σ',H',I,q⟩:=h; exact ⟨σ',H',Inv.unpin I,q⟩
 | cont=>obtain ⟨σ',H',I,q⟩:=h; exact ⟨σ',H',Inv.unpin I,q⟩
 | ret u=>obtain ⟨v,σ',H',I,r,q⟩:=h; exact ⟨v,σ',H',Inv.unpin I,r,q⟩
end
open PySem.W in
/-- an exception class as the text's constants show it -/
theorem excC_of {K:FG7} {mg:Str -> Option Value} {x:Str} {C:Addr} (b:mg x = some (.ref C)) (q:PySem.W.excIn K C veM "ValueError.__new__" = true):ExcC K mg x C:=by
 intro h X
 refine ⟨b,?_⟩
 unfold PySem.W.excIn at q
 cases ho:K.lookup C with
 | none=>rw [ho] at q; cases q
 | some ob =>
  rw [ho] at q
  obtain ⟨oc,od,oda,osl⟩:=ob
  split at q
  ·rename_i dd cd sl e
   obtain ⟨rfl,rfl,rfl,rfl⟩:=Obj.mk.inj (Option.some.inj e)
   split at q
   ·rename_i C' bm k0 k1 k2 k3 n k5 hm hs
    simp only [Bool.and_eq_true,beq_iff_eq,Bool.not_eq_true'] at q
    obtain ⟨⟨⟨⟨⟨rfl,rfl⟩,hdel⟩,ht⟩,hok⟩,hni⟩:=q
    obtain ⟨nm,bs,mro,ns,qn,hd,sn,sub,ab,col,del⟩:=cd
    dsimp only at hm hdel hok hni
    subst hm hdel
    obtain ⟨l⟩:=osl
    have hl:l = [k0,k1,k2,k3,some (.builtin "ValueError.__new__"),k5]:=hs
    subst hl
    exact ⟨bm,ns,nm,qn,bs,hd,sn,sub,ab,col,od,k0,k1,k2,k3,k5,_,X _ _ ho,.of_isNs (PySem.W.isNs_of_in X hok),PySem.W.nsMap_none_of_in X hok hni,PySem.W.tail_of_in X ht⟩
   ·cases q
  ·cases q
section
variable {P:Program} {w:World} {K:FG7} {mg:Str -> Option Value} {base:Heap}
theorem Fun.okX {x qual:Str} {st:Stmt} {f:Addr} {fd:FuncData} {N ps:List Str} {k:Nat} {sp:Sp} (F:Fun K x qual st f fd) (S:FnScope N ps (zi st)) (len:∀ vs H Q E,sp vs H Q E -> vs.length = ps.length)
  (hbody:∀ (cdv:Value) (A:Around) (outer:List Env) (s:Shared) (H:Hp) (vs:List V) (Q:VK) (E:XK),Room k (A.deeper (envOfC qual (zi st) s.heap.objs.size f cdv)) -> sp vs H Q E →
   ∃ t,PSs (cxOf (CX1 P w) P w K mg base N qual (zi st) f cdv A outer s H E) (wN st) t /\ t { nx:=fun _ H'=>Q .non H',rt:=Q } (start N vs) H):FnOk P w K mg base (CX1 P w) (k + 1) f fd ps sp:=by
 obtain ⟨oc,od,kV,doc,pm,an,cdv,ct,osl,rfl,lk,hcd⟩:=F.ex
 exact VC lk hcd S len fun A outer s H vs Q E hr hsp=>hbody cdv A outer s H vs Q E hr hsp
end
def wj (P:Program) (w:World) (K:FG7) (mg:Str -> Option Value) (base:Heap) (k:Nat) (x:Str) (ps:List Str) (sp:Sp):Prop :=
 ∃ (f:Addr) (fd:FuncData),FnOk P w K mg base (CX1 P w) k f fd ps sp /\ sQ K fd ps [] /\ PySem.W.keepIn K (.ref f) = true /\ mg x = some (.ref f)
section
variable {P:Program} {w:World} {K:FG7} {mg:Str -> Option Value} {base:Heap} {C:Addr} {j k:Nat} {m x:Str} {ps:List Str} {sp:Sp}
theorem wj.mono (c:wj P w K mg base j x ps sp) (h:j <= k):wj P w K mg base k x ps sp:=by
 obtain ⟨f,fd,F,b,mt⟩:=c
 exact ⟨f,fd,F.mono h,b,mt⟩
end
section
variable {X:Cx} {C:Addr} {k:Nat} {m x:Str} {ps:List Str} {sp:Sp} {o e:Expr} {es:List Expr} {ta:TE} {t:TA} {apos pos p:Pos} {E:XK}
theorem jK (c:wj X.prog X.w X.K X.mg X.base k x ps sp) (hx:tm (CX1 X.prog X.w) X E) (hr:Room k X.A) (hg:Gl X x)
  (ha:PA X (e :: es) t) (hdb:(x == ("__debug__":Str)) = false:=by decide) (he:starEach (e :: es) X.env = (false,eval e X.env) :: starEach es X.env:=by rfl) (hpl:(backTo pos (starEach es X.env)).any (·.1) = false:=by rfl) :
  PE X (.Call (.Name x p) (e :: es) [] pos) (WR sp [] E t):=by
 obtain ⟨f,fd,F,b,kp,m⟩:=c
 exact ZS F hr hg m kp b .nil hx ha hdb he hpl
end
open PySem PySem.Spec PyProof.Rows L2 PySem.W
open PySem.Builtin PySem.Builtin.ObjectAttr PySem.Builtin.Getset_descriptor in
theorem exc_class_get {prog:Program} {w:World} {A:Around} {s:Shared} {K:FG7} {a C:Addr} {o:Obj} {R:Result -> Shared -> Prop} {tp:Value} (X:K.In s.heap) (hx:s.heap.get? a = some o) (hc:o.cls = .ref C) (hm:PySem.W.mroIn K C (.type "object") = some true)
  (h:R (.ok (.ret (.ref C))) s):codeAny (model prog w) A (.call (.builtin "getset_descriptor.__get__") ⟨[.builtin "object.__class__",.ref a,tp],[]⟩) R s:=by
 obtain ⟨hh,g,dr,t,os⟩:=s
 have L0:Looks (model prog w) hh (typeOf (.ref a)) (.ref C):=hc ▸ (Looks.ld hx).andThen .now
 have L1:=looks_mroIn (M:=model prog w) X hm
 refine codeAny_call_builtin KF.slot_gs.plain KF.entry_gs (KF.slot_gs.check _ _ _ _ _ _ _ _ KF.type_class (KF.args_gs _ _ _) ?_)
 unfold Builtin.«getset_descriptor.__get__» descrGet
 rw [dga_obj]
 refine wpAny_bind (wpAny_pure ?_)
 unfold descrGetter descrCheckInstance descrNameAndClass isInstance
 simp only [KF.owner_class]
 repeat lk
 refine ⟨Code.quiet_builtin _ (by decide +kernel),codeAny_builtin KF.entry_class ?_⟩
 unfold Builtin.«object.__class__» shownTypeOf
 repeat lk
 exact h
section
variable {prog:Program} {w:World} {A:Around} {E:VS7} {K:FG7} {a C:Addr} {o:Obj} {h:Heap} {g:Array GenState} {d:Drawn} {t:Nat} {os:OsState}
theorem uH {tk:Tok} {Q:PySem.Fin -> Shared -> Prop} (X:K.In h) (hx:h.get? a = some o) (hc:o.cls = .ref C) (ha:findIn K (.ref C) "__class__" = some (some (.builtin "object.__class__"))) (hm:PySem.W.mroIn K C (.type "object") = some true)
  (hq:Q (.done (.ret (.ref C))) ⟨h,g,d,t,os⟩):wpAny (model prog w) A (Builtin.«object.__getattribute__» ⟨[.ref a,.str "__class__" tk],[]⟩) Q E ⟨h,g,d,t,os⟩:=by
 have L0:Looks (model prog w) h (typeOf (.ref a)) (.ref C):=hc ▸ (Looks.ld hx).andThen .now
 have L1:=looks_findIn (M:=model prog w) X ha
 have f5:=PySem.F.typeOf_object_class
 have f6:=PySem.F.slot_gs_get.lookup
 have f7:=PySem.F.slot_gs_set.lookup
 repeat (any_goals (first | assumption | with_reducible refine L0.at ?_ | with_reducible refine L1.at ?_ | (with_reducible refine wpAny_loadPart_at hx ?_; rw [hc]) | wp_step))
 refine exc_class_get X hx hc hm ?_
 repeat (any_goals (first | assumption | wp_step))
theorem rM {M:Model} {nameV:Value} {Q:Unit -> Shared -> Prop} (X:K.In h) (hx:h.get? a = some o) (hc:o.cls = .ref C) (hb:PySem.W.mroIn K C (.type "BaseException") = some true) (hq:Q () ⟨h,g,d,t,os⟩) :
  wpAny M A (checkBuiltinCall "BaseException.__getattribute__" ⟨[.ref a,nameV],[]⟩) Q E ⟨h,g,d,t,os⟩:=by
 have hk:builtinKind "BaseException.__getattribute__" = some .slot:=by decide +kernel
 have hsplit:splitId "BaseException.__getattribute__" = some ("BaseException","__getattribute__"):=by decide +kernel
 have L0:Looks M h (typeOf (.ref a)) (.ref C):=hc ▸ (Looks.ld hx).andThen .now
 have L1:=looks_mroIn (M:=M) X hb
 have ha:=PySem.F.args_bexc_ga (.ref a) nameV
 simp only [checkBuiltinCall,hk,hsplit]
 refine wpAny_bind ?_
 unfold isInstance
 repeat (first | with_reducible refine L0.at ?_ | with_reducible refine L1.at ?_ | wp_step)
 exact hq
theorem uZ {tk:Tok} {R:Result -> Shared -> Prop} (X:K.In h) (hx:h.get? a = some o) (hc:o.cls = .ref C) (ha:findIn K (.ref C) "__class__" = some (some (.builtin "object.__class__"))) (hm:PySem.W.mroIn K C (.type "object") = some true) (hb:PySem.W.mroIn K C (.type "BaseException") = some true)
  (hq:R (.ok (.ret (.ref C))) ⟨h,g,d,t,os⟩):codeAny (model prog w) A (.call (.builtin "BaseException.__getattribute__") ⟨[.ref a,.str "__class__" tk],[]⟩) R ⟨h,g,d,t,os⟩ :=
 codeAny_call_builtin (by decide +kernel) PySem.F.entry_bexc_ga (rM X hx hc hb (uH X hx hc ha hm hq))
theorem rN {tk:Tok} {Q:VS7} (X:K.In h) (hx:h.get? a = some o) (hc:o.cls = .ref C) (hga:findIn K (.ref C) "__getattribute__" = some (some (.builtin "BaseException.__getattribute__"))) (hgt:findIn K (.ref C) "__getattr__" = some none)
  (ha:findIn K (.ref C) "__class__" = some (some (.builtin "object.__class__"))) (hm:PySem.W.mroIn K C (.type "object") = some true) (hb:PySem.W.mroIn K C (.type "BaseException") = some true)
  (hq:Q (.ref C) ⟨h,g,d,t,os⟩):wpAny (model prog w) A (getAttrBy (.ref a) (.str "__class__" tk) false) Q E ⟨h,g,d,t,os⟩:=by
 have L0:Looks (model prog w) h (typeOf (.ref a)) (.ref C):=hc ▸ (Looks.ld hx).andThen .now
 have L1:=looks_findIn (M:=model prog w) X hga
 have L2:=looks_findIn (M:=model prog w) X hgt
 have f3:=PySem.F.attr_ValueError.ga.bind (.ref a)
 have hx2:(Value.builtin "BaseException.__getattribute__" == Value.builtin "object.__getattribute__") = false:=by decide +kernel
 have hx1:(onTheHeap (Value.ref C) && Value.builtin "BaseException.__getattribute__" == Value.builtin "object.__getattribute__") = false:=by rw [hx2]; rfl
 repeat (any_goals (first | assumption | with_reducible refine L0.at ?_ | with_reducible refine L1.at ?_ | with_reducible refine L2.at ?_ | (with_reducible refine wpAny_loadPart_at hx ?_; rw [hc]) | wp_step))
 refine uZ X hx hc ha hm hb ?_
 repeat (any_goals (first | assumption | wp_step))
theorem u3 {Q:Option Value -> Shared -> Prop} (X:K.In h) (hx:h.get? a = some o) (hc:o.cls = .ref C) (hga:findIn K (.ref C) "__getattribute__" = some (some (.builtin "BaseException.__getattribute__"))) (hgt:findIn K (.ref C) "__getattr__" = some none)
  (ha:findIn K (.ref C) "__class__" = some (some (.builtin "object.__class__"))) (hm:PySem.W.mroIn K C (.type "object") = some true) (hb:PySem.W.mroIn K C (.type "BaseException") = some true)
  (hq:Q (some (.ref C)) ⟨h,g,d,t + 1,os⟩):wpAny (model prog w) A (getAttr? (.ref a) "__class__") Q E ⟨h,g,d,t,os⟩:=by
 unfold getAttr? getAttrBy?
 repeat (any_goals (first | assumption | with_reducible apply rN X hx hc hga hgt ha hm hb | wp_step))
end
structure ExcK (K:FG7) (C:Addr):Prop where
 ga:findIn K (.ref C) "__getattribute__" = some (some (.builtin "BaseException.__getattribute__"))
 gt:findIn K (.ref C) "__getattr__" = some none
 cl:findIn K (.ref C) "__class__" = some (some (.builtin "object.__class__"))
 ob:mroIn K C (.type "object") = some true
 be:mroIn K C (.type "BaseException") = some true
theorem Y3 {K:FG7} {C:Addr} {b:Value} {r:Bool} (e:mroIn K C b = some r):∃ cd,clsIn K C = some cd:=by
 obtain ⟨cd,a,_⟩:=Option.bind_eq_some_iff.mp e
 exact ⟨cd,a⟩
theorem Wg {K:FG7} {a C:Addr} (F:ExcK K C):KitX K (.ref a) (.ref C) (fun h=>∃ o,h.get? a = some o /\ o.cls = .ref C) where
 ty:=fun M h _ p=>by
  obtain ⟨o,h1,h2⟩:=p
  exact h2 ▸ (Looks.ld h1).andThen .now
 it:=fun _ _ X _=>by
  obtain ⟨cdD,hcD⟩:=Y3 F.ob
  unfold clsIn at hcD
  split at hcD
  ·rename_i c' d' cd' sl' ho
   intro A' Q' E' s' k q
   unfold isType loadHead
   exact wpAny_bind (wpAny_loadPart (k _ _ (X _ _ ho)) (wpAny_pure q))
  ·cases hcD
 ne:=fun h tp dd its n sl X htp=>by
  obtain ⟨cdD,hcD⟩:=Y3 F.ob
  refine Bool.eq_false_iff.mpr fun q=>?_
  have e:C = tp:=Value.ref.inj (beq_iff_eq.mp q)
  subst e
  unfold clsIn at hcD
  split at hcD
  ·rename_i c' d' cd' sl' ho
   have z:=(X _ _ ho).symm.trans htp
   cases z
  ·cases hcD
 ca:=fun {_ _ _ _ _ s} X p k=>by
  obtain ⟨h,g,d,t,os⟩:=s
  obtain ⟨o,h1,h2⟩:=p
  exact u3 X h1 h2 F.ga F.gt F.cl F.ob F.be k
def ExO (a C:Addr):HO:=.ext fun h=>∃ o,h.get? a = some o /\ o.cls = .ref C /\ ∃ vs,o.data = .fields vs /\ vs[2]? = some .none
theorem ExO.cl {h:Heap} {a C:Addr} (p:∃ o,h.get? a = some o /\ o.cls = .ref C /\ ∃ vs,o.data = .fields vs /\ vs[2]? = some .none):∃ o,h.get? a = some o /\ o.cls = .ref C:=p.imp fun _ z=>⟨z.1,z.2.1⟩
def UM (K:FG7):List V -> Hp -> VK -> Prop:=fun xs H Q=>∃ (a C:Addr) (y:V) (c:Value) (b:Bool),xs = [.ref a,y] /\ H a = some (ExO a C) /\ (∀ u,RelV y u -> u = c) /\ ExcK K C /\ kitOne K (.ref C) c = some b /\ Q (.bl b) H
theorem xf {X:Cx} {K:FG7} (hK:X.K = K):yY X (.builtin "isinstance") (UM K):=by
 subst hK
 intro pins s σ H xs us Q I r h
 obtain ⟨a,C,y,c,b,rfl,hH,hy,F,e,q⟩:=h
 obtain ⟨u,w',rfl,rx,ry⟩:=jV r
 cases (show u = Value.ref a from rx)
 have:=hy w' ry
 subst this
 exact kia_one (Wg F) I.kIn (ExO.cl (I.hok a _ hH).1) e (fun z=>nomatch z) fun tk=>⟨.bl b,H,I.tok _,rfl,q⟩
theorem sy {M:Model} {A:Around} {E:VS7} {K:FG7} {h:Heap} {g:Array GenState} {d:Drawn} {t:Nat} {os:OsState} {e C' C N:Addr} {oe:Obj} {Q:Bool -> Shared -> Prop} {nm q:Str} {bs bm:List Value} {hdct:Bool} {sn:List Str} {sub:List Value} {ab:Bool} {col:Option Bool} {dd:Option Addr} {k0 k1 k2 k3 k5:Option Value} {newId:String}
  (X:K.In h) (hC:h.get? C = some (excClassObj nm q C N bs bm hdct sn sub ab col dd k0 k1 k2 k3 k5 newId)) (he:h.get? e = some oe) (hcls:oe.cls = .ref C') (hbase:bm.contains (.type "BaseException") = true) (hup:mroIn K C' (.ref C) = some true)
  (hq:Q true ⟨h,g,d,t,os⟩):wpAny M A (excMatches (.ref e) (.ref C)) Q E ⟨h,g,d,t,os⟩:=by
 have hcB:(Value.ref C :: bm).contains (.type "BaseException") = true:=by rw [List.contains_cons,hbase,Bool.or_true]
 have L1:=looks_mroIn (M:=M) X hup
 have f:=tc_notTuple
 unfold excMatches
 repeat (first | (with_reducible refine wpAny_loadPart_at he ?_; rw [hcls]) | with_reducible refine L1.at ?_ | with_reducible refine wpAny_loadPart_at hC ?_ | (with_reducible refine wpAny_isSubtype_exc hC ?_; rw [hcB]) | wp_step)
 exact hq
section
variable {X:Cx} {pins:List (Addr × Obj)} {σ:L2.St} {H:Hp} {s:Shared}
theorem vk {M:Model} {A:Around} {E:VS7} {i:Nat} {x:Str} {pos:Pos} {Q:Unit -> Shared -> Prop} (I:Inv X pins σ H s) (hN:X.N.Nodup) (hi:X.N[i]? = some x) (hx:X.env.kindOf x = some .local) (hx2:X.env.scope.names.lookup x = some .local)
  (h:∀ s',Inv X pins (σ.set i none) H s' -> Q () s'):wpAny M A (do bindName X.env x .none; unbindBehindTheSuite X.env x pos) Q E s:=by
 have hcls:(X.env.scope.kind == .class || (X.env.scope.kind == .module && X.env.locals != X.env.globals)) = false:=by rw [I.ok.kind]; rfl
 refine wpAny_bind (wpAny_bindName (wu (v:=.non) I hN hi (.inl hx2) rfl (fun s1 I1=>?_) (.inr hx2)))
 unfold unbindBehindTheSuite
 refine wpAny_onRaise ?_
 unfold unbindName
 refine wpAny_bind (wpAny_point (wpAny_bind ?_))
 unfold deleteName
 simp only [hx,hcls]
 rw [if_neg (by decide)]
 obtain ⟨m,hn,hl⟩:=id I1.loc
 refine wpAny_bind (wpAny_nsDel_keeps hn fun h' v hn' hs=>?_)
 have hiσ:i < σ.length:=by rw [I.len]; exact (List.getElem?_eq_some_iff.mp hi).1
 have hm:(m x).isSome = true:=by
  obtain ⟨u,_,l⟩:=hl i x .non hi (List.getElem?_set_self hiσ) (.inl hx2)
  rcases l with ⟨_,e⟩ | ⟨k,_⟩
  ·rw [e]; rfl
  ·rcases k with k | k <;> (rw [hx] at k; cases k)
 simp only [hm,if_true,Bool.not_true,Bool.false_eq_true,if_false]
 refine wpAny_pure (wpAny_point (h _ ?_))
 obtain ⟨oL,_,_,hoL,_⟩:=id hn
 have cne:=I1.cne
 have tracked:HOk X.prog X.w H h':=fun b ob e=>by
  refine (I1.hok b ob e).stay (fun c w' hc q=>(hs.2 c ?_).trans q) (fun _ q=>q) fun _ _ q=>q
  rintro rfl
  have hfree:=I1.free
  rcases hc with hc | hc
  ·rw [← hc] at e; rw [hfree] at e; cases e
  ·rw [hfree] at hc; cases hc
 refine ⟨I1.ok,I1.os,I1.bare,⟨fun b o e n hb hx=>?_,fun b o e n hb hx=>?_,I1.base.free,fun b o e hx=>?_,I1.base.tups,I1.base.frzs,I1.base.tbls⟩,⟨_,hn',fun j y v' e1 e2 e3=>?_⟩,fun y c e=>?_,I1.free,I1.freeC,fun p hp=>?_,tracked,by rw [List.length_set]; exact I.len⟩
 ·exact (hs.2 b (Nat.ne_of_lt (Nat.lt_of_lt_of_le (Heap.lt_size e) I1.ok.above))).trans (I1.base.keep b o e n hb hx)
 ·obtain ⟨sl,e1⟩:=I1.base.slot b o e n hb hx
  exact ⟨sl,(hs.2 b (Nat.ne_of_lt (Nat.lt_of_lt_of_le (Heap.lt_size e) I1.ok.above))).trans e1⟩
 ·obtain ⟨o',e1⟩:=I1.base.there b o e hx
  exact ⟨o',(hs.2 b (Nat.ne_of_lt (Nat.lt_of_lt_of_le (Heap.lt_size e) I1.ok.above))).trans e1⟩
 ·have hj:j ≠ i:=fun z=>by
   subst z
   rw [List.getElem?_set_self hiσ] at e2
   cases e2
  rw [List.getElem?_set_ne (Ne.symm hj)] at e2
  obtain ⟨u',r',q⟩:=hl j y v' e1 (by rw [List.getElem?_set_ne (Ne.symm hj)]; exact e2) e3
  refine ⟨u',r',?_⟩
  rcases q with ⟨k,e⟩ | ⟨k,c,e,z⟩
  ·refine .inl ⟨k,?_⟩
   have:y ≠ x:=fun e=>hj (t5 hN e1 (e ▸ hi))
   simp [this,e]
  ·exact .inr ⟨k,c,e,z.sameBut hs (cne y c e)⟩
 ·obtain ⟨w',z⟩:=I1.cell y c e
  exact ⟨w',z.sameBut hs (cne y c e)⟩
 ·obtain ⟨e,n,ne,nf,d⟩:=I1.pin p hp
  exact ⟨(hs.2 p.1 ne).trans e,n,ne,nf,d⟩
end
theorem Inv.trackX {X:Cx} {pins:List (Addr × Obj)} {σ:L2.St} {H:Hp} {s:Shared} {a T C:Addr} {o:Obj} (I:L2.Inv X pins σ H s) (ap:ApX X pins H a T) {vs:Array Value} (he:s.heap.get? a = some o) (hc:o.cls = .ref C) (hd:o.data = .fields vs) (h2:vs[2]? = some .none):L2.Inv X pins σ (upd H a (ExO a C)) s:=by
 refine ⟨I.ok,I.os,I.bare,⟨I.base.keep,I.base.slot,fun b o' e n hx=>?_,I.base.there,fun b xs e=>?_,fun b o' u e=>?_,fun b ps e=>?_⟩,I.loc,I.cell,?_,fun x c e=>?_,fun p hp=>?_,?_,I.len⟩
 ·rw [zo (ap.s0 b o' e).1]; exact I.base.free b o' e n hx
 ·have z:=I.base.tups b xs e
  rw [zo (zv z ap.ha)]; exact z
 ·have z:=I.base.frzs b o' u e
  rw [zo (zv z ap.ha)]; exact z
 ·obtain ⟨more,z⟩:=I.base.tbls b ps e
  exact ⟨more,by rw [zo (zv z ap.ha)]; exact z⟩
 ·rw [zo ap.loc.1]; exact I.free
 ·rw [zo (ap.cel x c e).1]; exact I.freeC x c e
 ·obtain ⟨p1,p2,p3,p4,p5⟩:=I.pin p hp
  exact ⟨p1,by rw [zo (ap.pin p hp).1]; exact p2,p3,p4,p5⟩
 ·refine HOk.track I.hok ap.ha ⟨⟨o,he,hc,vs,hd,h2⟩,⟨o,he⟩,fun h1 h2 φ k=>?_⟩
  obtain ⟨o',e1,e2⟩:=φ
  exact ⟨o',k _ e1,e2⟩
def WF (i:Nat) (D:Ends):Ends:={ nx:=fun σ H=>D.nx (σ.set i none) H,rt:=D.rt,bk:=fun σ H=>D.bk (σ.set i none) H,ct:=fun σ H=>D.ct (σ.set i none) H }
def V3 (n i:Nat) (K:FG7) (B:Addr) (E:XK) (tb:TS) (th:Addr -> TS):TS:=fun D σ H=>tb D σ H /\ ∀ (e C':Addr) (σ':L2.St) (H':Hp),σ'.length = n -> H' e = none -> E (.ref e) (some C') H' -> mroIn K C' (.ref B) = some true /\ th e (WF i D) (σ'.set i (some (.ref e))) (upd H' e (ExO e C'))
section
variable {X:Cx} {x y:Str} {C:Addr} {np hpos pos:Pos} {body suite:List Stmt} {b₀:Stmt} {tb:TS} {th:Addr -> TS} {E:XK} {i:Nat} {K:FG7}
theorem Wh (hK:X.K = K) (hx:X.ex = []) (hstk:X.stack = X.env :: X.outer) (hf:X.env.frame = some X.env.locals) (O:ExcC X.K X.mg x C) (hg:Gl X x) (hN:X.N.Nodup) (hi:X.N[i]? = some y) (hy:X.env.kindOf y = some .local) (hy2:X.env.scope.names.lookup y = some .local)
  (hB:∀ ps,PSs (pinX X ps (Y2 X ps E)) body tb) (hS:∀ e,PSs (handX X e) (b₀ :: suite) (th e)) (hdb:(x == ("__debug__":Str)) = false:=by decide) :
  PS X (.Try body [.ExceptHandler (some (.Name x np)) (some y) (b₀ :: suite) hpos] [] [] pos) (V3 X.N.length i K C E tb th):=by
 subst hK
 intro pins s σ H D I ⟨hb,hh⟩
 refine wpAny_Try_except (wpAny_mono (hB pins [] s σ H D (Inv.pinX I) hb) (fun f s1 h1=>?_) (fun ex s1 h1=>?_))
 ·have h2:=SP.unpin h1
  cases f with
  | next=>exact wpAny_execs_nil h2
  | brk=>exact h2
  | cont=>exact h2
  | ret u=>exact h2
 ·obtain ⟨a,T,C',σ',H',rfl,I1,trc,ap,q⟩:=h1
  have hfr:X.A.frames = some (X.env :: X.outer):=by rw [← hstk]; exact I.ok.frames
  have hst:s1.heap.FunFrames X.base (X.env :: X.outer):=by rw [← hstk]; exact I1.stack
  refine Y1 (base:=X.base) (outer:=X.outer) hfr hst hf trc fun h2 T2 l=>?_
  have l':Lft (frs X.stack) a T T2 (.ref C') s1.heap h2:=by rw [hstk]; exact l
  have I2:=Inv.left I1 hx ap l'
  have I3:Inv (handX X a) pins σ' H' { s1 with heap:=h2 }:=Inv.handX I2
  obtain ⟨tl,N,nm,q0,bs,hdct,sn,sub,ab,col,dd,k0,k1,k2,k3,k5,mN,hC,hNs,hni,TL⟩:=(O X.base I.mod.kin).obj
  obtain ⟨oe,vs,oT,ts,he,hcls,_⟩:=id l.trc
  have hn:H' a = none:=ap.ha
  obtain ⟨hup,q2⟩:=hh a C' σ' H' I1.len hn q
  refine wpAny_handleBy_cons (codeAny_handlers_test (t6 (X:=handX X a) I3 hg (O X.base I.mod.kin).bound ?_ hdb)) (by intro q; cases q)
  refine sy I2.kIn (I2.bk _ _ hC) he hcls (TL.hasType PySem.F.excBase_ValueError.hasBase) hup (codeAny_handlers_suite_as ?_)
  refine Zr (s:={ s1 with heap:=h2 }) l.trc fun h3 hk trc3=>?_
  have hT2:H' T2 = none:=by
   cases r:H' T2 with
   | none=>rfl
   | some o =>
    obtain ⟨ob,z⟩:=yr.at (I1.hok T2 o r)
    rw [l.new] at z; cases z
  have ap2:ApX X pins H' T2 T2:=ApX.of I1 hx l.new l.new hT2 hT2
  have I4:=Inv.leftK I2 hx ap2 (h2:=h3) (fun b o _ n1 _ ho=>(hk b n1).trans ho) (fun b o _ n1 _ ho=>⟨o.slots,(hk b n1).trans ho⟩)
  obtain ⟨oe3,vs3,oT3,ts3,he3,hcls3,hd3,_,_,_,_,_,hv3⟩:=id trc3
  have I5:=Inv.trackX (C:=C') I4 ap he3 hcls3 hd3 hv3
  have I6:L2.Inv (handX X a) pins σ' (upd H' a (ExO a C')) { s1 with heap:=h3 }:=Inv.handX I5
  refine wu (X:=handX X a) (v:=.ref a) I6 hN hi (.inl hy2) rfl (fun s5 I7=>?_) (.inr hy2)
  refine wpAny_mono (hS a pins s5 _ _ (WF i D) I7 q2) (fun f s2 h=>?_) (fun _ _ z=>False.elim z)
  cases f with
  | next =>
   obtain ⟨σ2,H2,J,q3⟩:=h
   exact vk (Inv.unhand I.ok J) hN hi hy hy2 fun s' J'=>⟨_,H2,J',q3⟩
  | brk =>
   obtain ⟨σ2,H2,J,q3⟩:=h
   exact vk (Inv.unhand I.ok J) hN hi hy hy2 fun s' J'=>⟨_,H2,J',q3⟩
  | cont =>
   obtain ⟨σ2,H2,J,q3⟩:=h
   exact vk (Inv.unhand I.ok J) hN hi hy hy2 fun s' J'=>⟨_,H2,J',q3⟩
  | ret u =>
   obtain ⟨v,σ2,H2,J,r,q3⟩:=h
   exact vk (Inv.unhand I.ok J) hN hi hy hy2 fun s' J'=>⟨v,_,H2,J',r,q3⟩
end
theorem rO:bootBuiltins "ValueError" = some (.type "ValueError"):=by kernel_rfl
end L3
namespace L2
open PySem PySem.Spec PyProof.Rows
end L2
namespace L2
open PySem PySem.Spec PyProof.Rows
end L2
namespace L2
open PySem PySem.Spec PyProof.Rows
end L2
namespace L2
open PySem PySem.Spec PyProof.Rows
end L2
namespace L2
open PySem PySem.Spec PyProof.Rows
end L2
namespace L2
open PySem PySem.Spec PyProof.Rows
end L2
namespace L2
open PySem PySem.Spec PyProof.Rows
section
variable {κ:Type} [DecidableEq κ]
def valV (kvs:List (κ × V)) (k:κ):Option V:=(kvs.find? fun kv=>decide (kv.1 = k)).map (·.2)
def putK (kvs:List (κ × V)) (k:κ) (v:V):List (κ × V) :=
 if (kvs.any fun kv=>decide (kv.1 = k)) = true then kvs.map (fun kv=>if kv.1 = k then (kv.1,v) else kv) else kvs ++ [(k,v)]
def V4 (kvs:List (κ × V)) (k:κ):List (κ × V):=kvs.filter fun kv=>decide (kv.1 ≠ k)
theorem yR {p:κ × V} {r:List (κ × V)} {k:κ} (e:p.1 = k):valV (p :: r) k = some p.2:=by simp [valV,List.find?_cons,e]
theorem yG {p:κ × V} {r:List (κ × V)} {k:κ} (e:¬ p.1 = k):valV (p :: r) k = valV r k:=by simp [valV,List.find?_cons,e]
theorem ud (k:κ):∀ kvs:List (κ × V),(kvs.any fun kv=>decide (kv.1 = k)) = (valV kvs k).isSome
 | []=>rfl
 | p :: r=>by
  rw [List.any_cons]
  by_cases e:p.1 = k
  ·simp only [yR e,decide_eq_true e,Bool.true_or,Option.isSome_some]
  ·rw [yG e,decide_eq_false e,Bool.false_or]; exact ud k r
theorem jL (k j:κ) (y:V):∀ kvs:List (κ × V),valV (kvs.map fun kv=>if kv.1 = k then (kv.1,y) else kv) j = (valV kvs j).map fun x=>if j = k then y else x
 | []=>rfl
 | p :: r=>by
  have ih:=jL k j y r
  rw [List.map_cons]
  by_cases h:p.1 = k
  ·rw [if_pos h]
   by_cases e:p.1 = j
   ·rw [yR (p:=(p.1,y)) e,yR e,Option.map_some,if_pos (e.symm.trans h)]
   ·rw [yG (p:=(p.1,y)) e,yG e,ih]
  ·rw [if_neg h]
   by_cases e:p.1 = j
   ·rw [yR (p:=p) e,yR e,Option.map_some,if_neg (fun z=>h (e.trans z))]
   ·rw [yG (p:=p) e,yG e,ih]
theorem rP (k j:κ) (y:V):∀ kvs:List (κ × V),valV kvs k = none -> valV (kvs ++ [(k,y)]) j = if j = k then some y else valV kvs j
 | [],_=>by
  by_cases e:k = j
  ·rw [if_pos e.symm]; exact yR (p:=(k,y)) e
  ·rw [if_neg (fun z=>e z.symm)]; exact yG (p:=(k,y)) e
 | p :: r,hn=>by
  rw [List.cons_append]
  have hk:¬ p.1 = k:=fun z=>by rw [yR z] at hn; cases hn
  rw [yG hk] at hn
  have ih:=rP k j y r hn
  by_cases e:p.1 = j
  ·rw [yR e,yR e,if_neg (fun z=>hk (e.trans z))]
  ·rw [yG e,yG e,ih]
theorem jM (kvs:List (κ × V)) (k j:κ) (y:V):valV (putK kvs k y) j = if j = k then some y else valV kvs j:=by
 unfold putK
 by_cases a:(kvs.any fun kv=>decide (kv.1 = k)) = true
 ·rw [if_pos a,jL]
  rw [ud] at a
  by_cases e:j = k
  ·obtain ⟨x,hx⟩:=Option.isSome_iff_exists.mp a
   rw [if_pos e,e,hx,Option.map_some,if_pos rfl]
  ·rw [if_neg e]
   cases valV kvs j with
   | none=>rfl
   | some x=>rw [Option.map_some,if_neg e]
 ·rw [if_neg a]
  refine rP k j y kvs ?_
  rw [ud] at a
  cases q:valV kvs k with
  | none=>rfl
  | some x=>rw [q] at a; exact (a rfl).elim
theorem RelO.isSome_eq {o:Option V} {u:Option Value} (r:RelO o u):o.isSome = u.isSome:=by
 cases o with
 | none=>cases u with
  | none=>rfl
  | some _=>exact (show False from r).elim
 | some _=>cases u with
  | none=>exact (show False from r).elim
  | some _=>rfl
theorem RelO.getD {o:Option V} {u:Option Value} {d:V} {d':Value} (r:RelO o u) (rd:RelV d d'):RelV (o.getD d) (u.getD d'):=by
 cases o with
 | none=>cases u with
  | none=>exact rd
  | some _=>exact (show False from r).elim
 | some _=>cases u with
  | none=>exact (show False from r).elim
  | some _=>exact r
theorem KV.any {kvs:List (κ × V)} {vs:List (κ × Value)} (r:KV kvs vs) (k:κ):(kvs.any fun kv=>decide (kv.1 = k)) = vs.any fun kv=>decide (kv.1 = k):=by
 unfold KV at r
 induction r with
 | nil=>rfl
 | cons h t ih=>rw [List.any_cons,List.any_cons,ih,h.1]
theorem KV.drop {kvs:List (κ × V)} {vs:List (κ × Value)} (r:KV kvs vs) (k:κ):KV (V4 kvs k) (without vs k):=by
 unfold KV at r ⊢
 unfold V4 without
 induction r with
 | nil=>exact .nil
 | @cons p q ps qs h t ih =>
  obtain ⟨h1,h2⟩:=h
  rw [List.filter_cons,List.filter_cons]
  by_cases e:p.1 = k
  ·have a:¬ decide (p.1 ≠ k) = true:=by simp [e]
   have b:¬ decide (q.1 ≠ k) = true:=by simp [h1.symm.trans e]
   rw [if_neg a,if_neg b]; exact ih
  ·have e':¬ q.1 = k:=fun z=>e (h1.trans z)
   have a:decide (p.1 ≠ k) = true:=by simp [e]
   have b:decide (q.1 ≠ k) = true:=by simp [e']
   rw [if_pos a,if_pos b]; exact .cons ⟨h1,h2⟩ ih
theorem KV.keys {kvs:List (κ × V)} {vs:List (κ × Value)} (r:KV kvs vs):kvs.map (·.1) = vs.map (·.1):=by
 unfold KV at r
 induction r with
 | nil=>rfl
 | cons h t ih=>rw [List.map_cons,List.map_cons,ih,h.1]
theorem KV.length {kvs:List (κ × V)} {vs:List (κ × Value)} (r:KV kvs vs):kvs.length = vs.length:=Paired.length r
end
section
variable {X:Cx} {pins:List (Addr × Obj)} {σ:St} {H:Hp} {s:Shared} {a:Addr} {y v:V} {u r:Value} {o:Option V} {A:Around} {E:VS7}
theorem Inv.big (I:Inv X pins σ H s):sysModules < s.heap.objs.size:=by
 have h:mainGlobals < s.heap.objs.size:=(I.mod.glob.keeps I.bk).lt
 exact Nat.lt_trans (by decide) h
theorem Vc {h':Heap} {t':Nat} {ob:HO} (I:Inv X pins σ H s) (mu:Mut (H a)) (hs:Heap.SameBut a s.heap h') (he:∃ q,h'.get? a = some q) (new:yr X.prog X.w (upd H a ob) h' a ob) :
  Inv X pins σ (upd H a ob) { s with heap:=h',toks:=t' } :=
 I.write (x:=a) (e:=a) mu (.inl rfl) (fun b q hb z=>(hs.2 b hb).trans z) he new
end
end L2
namespace Att
open PySem PySem.W PySem.Calls PyProof.Rows
end Att
namespace L2
open PySem PySem.Spec PyProof.Rows
end L2
namespace L3
open PySem PySem.Spec PyProof.Rows L2
open PySem PySem.Spec PyProof.Rows L2 PySem.W
def Vd (es:Array DictEntry) (d:Addr) (ep:Nat) (h:Heap):Prop:=∃ o,h.get? d = some o /\ o.ExactDict /\ o.data = .dict es ep
section
variable {prog:Program} {w:World} {A:Around} {E:VS7} {s:Shared} {es:Array DictEntry} {d it:Addr} {ep i:Nat}
theorem Vd.keep {h h':Heap} (x:Vd es d ep h) (e:∀ o,h.get? d = some o -> h'.get? d = some o):Vd es d ep h':=let ⟨o,ho,r⟩:=x; ⟨o,e o ho,r⟩
end
open PySem PySem.Spec PyProof.Rows L2 HT
abbrev FW:=List (List Int × List Int)
def qQ (f:FW):List (List Int):=f.map (·.1)
def Mks (ms:List (List Int)) (S:Nat):Prop:=∀ m ∈ ms,m.length = S /\ Rng S m
def Ex (fm fm':FW × List (List Int)):Prop:=∃ g:FW,fm'.1 = fm.1 ++ g /\ fm'.2 = fm.2 ++ qQ g
theorem Ex.trans {a b c:FW × List (List Int)} (h:Ex a b) (k:Ex b c):Ex a c:=by
 obtain ⟨g,h1,h2⟩:=h
 obtain ⟨g',k1,k2⟩:=k
 exact ⟨g ++ g',by rw [k1,h1,List.append_assoc],by rw [k2,h2,List.append_assoc]; unfold qQ; rw [List.map_append]⟩
theorem Ex.keys {a b:FW × List (List Int)} (h:Ex a b) {d:List Int} (hd:d ∈ qQ a.1):d ∈ qQ b.1:=by
 obtain ⟨g,h1,_⟩:=h
 unfold qQ at *
 rw [h1,List.map_append]
 exact List.mem_append.mpr (.inl hd)
def kI (d:List Int):List Key:=d.map Sum.inl
def KvF (K:FG7) (H:Hp):List (List Key × V) -> FW -> Prop
 | [],[]=>True
 | p :: kvs,q :: f=>(p.1 = kI q.1 /\ zI K H p.2 q.2) /\ KvF K H kvs f
 | _,_=>False
section
variable {K:FG7} {H H':Hp} {m:List Addr}
theorem KvF.keys:∀ {kvs:List (List Key × V)} {f:FW},KvF K H kvs f -> kvs.map (·.1) = (qQ f).map (List.map Sum.inl)
 | [],[],_=>rfl
 | p :: kvs,q :: f,h=>by
  show p.1 :: kvs.map (·.1) = q.1.map Sum.inl :: (qQ f).map (List.map Sum.inl)
  rw [KvF.keys h.2,h.1.1]; rfl
 | [],_ :: _,h=>h.elim
 | _ :: _,[],h=>h.elim
end
theorem Mks.take {ms:List (List Int)} {S n:Nat} (h:Mks ms S):Mks (ms.take n) S:=fun m hm=>h m (List.mem_of_mem_take hm)
structure Pt (κ:Type) [DecidableEq κ] where
 it:(P:Program) -> (w:World) -> ItK P w κ
 at_:FG7 -> Hp -> κ -> V -> Prop
 rel:∀ {X:Cx} {pins:List (Addr × Obj)} {σ:L2.St} {H:Hp} {s:Shared} {k:κ} {v:V} {u:Value},Inv X pins σ H s -> at_ X.K H k v -> RelV v u -> (it X.prog X.w).is s.heap k u
 grow:∀ {m:List Addr} {H H':Hp} {K:FG7} {k:κ} {v:V},Grow m H H' -> at_ K H k v -> at_ K H' k v
theorem WG {P:Program} {w:World} {i:Int} {t:Tok}:(intKind P w).is i (.int i t) = true:=by simp [intKind,Value.isInt]
theorem uI {P:Program} {w:World}:∀ {ks:List Int} {us:List Value},Vals (ks.map V.int) us -> ItemsAre (intKind P w) ks us
 | [],_,r=>by rw [List.map_nil] at r; cases r; exact .nil
 | k :: ks,_,r=>by
  rw [List.map_cons] at r
  cases r with
  | cons h t=>obtain ⟨tk,e⟩:=(show ∃ t,_ = Value.int k t from h); subst e; exact .cons WG (uI t)
def ptI:Pt Int where
 it:=UJ
 at_:=fun _ _ k v=>v = .int k
 rel:=fun _ e r=>by
  subst e
  obtain ⟨t,e⟩:=(show ∃ t,_ = Value.int _ t from r)
  subst e
  exact WG
 grow:=fun _ e=>e
def ptT:Pt (List Int) where
 it:=UK
 at_:=fun K H k v=>∃ r,v = .ref r /\ SqT K H r (k.map V.int)
 rel:=fun {X pins σ H s k v u} I z rv=>by
  obtain ⟨r,e,h⟩:=z
  subst e
  obtain rfl:u = Value.ref r:=rv
  obtain ⟨its,rs,p,_⟩:=I.tuple h
  obtain ⟨o,h1,h2,n,h3⟩:=p
  exact ⟨r,rfl,o,its.toArray,n,h1,h2,h3,by simpa using uI rs⟩
 grow:=fun g ⟨r,e,h⟩=>⟨r,e,g.sqT h⟩
section
variable {κ1 κ2:Type} [DecidableEq κ1] [DecidableEq κ2]
def KAt (p1:Pt κ1) (p2:Pt κ2) (K:FG7) (H:Hp) (k:κ1 × κ2) (b:Addr):Prop:=∃ v1 v2,SqT K H b [v1,v2] /\ p1.at_ K H k.1 v1 /\ p2.at_ K H k.2 v2
abbrev PR:List ((κ1 × κ2) × Addr × V) -> List ((κ1 × κ2) × Addr × Value) -> Prop:=Paired fun p q=>p.1 = q.1 /\ p.2.1 = q.2.1 /\ RelV p.2.2 q.2.2
def NDat (p1:Pt κ1) (p2:Pt κ2) (P:Program) (w:World) (h:Heap) (a:Addr) (kvs:List ((κ1 × κ2) × Addr × V)):Prop :=
 (a == sysModules) = false /\ ∃ xs:List ((κ1 × κ2) × Addr × Value),PR kvs xs /\ ∃ o es ep,h.get? a = some o /\ o.ExactDict /\ o.data = .dict es ep /\ es.toList = xs.map (entryOfKey (rK (p1.it P w) (p2.it P w))) /\ (xs.map (·.1)).Nodup
def ndO (p1:Pt κ1) (p2:Pt κ2) (P:Program) (w:World) (a:Addr) (kvs:List ((κ1 × κ2) × Addr × V)):HO:=.ext fun h=>NDat p1 p2 P w h a kvs
def NDc (p1:Pt κ1) (p2:Pt κ2) (K:FG7) (H:Hp) (kvs:List ((κ1 × κ2) × Addr × V)):Prop:=∀ x ∈ kvs,KAt p1 p2 K H x.1 x.2.1
def prV (x:(κ1 × κ2) × Addr × V):(κ1 × κ2) × V:=(x.1,x.2.2)
def wm (kvs:List ((κ1 × κ2) × Addr × V)) (k:κ1 × κ2) (b:Addr) (v:V):List ((κ1 × κ2) × Addr × V) :=
 if (kvs.any fun x=>decide (x.1 = k)) = true then kvs.map (fun x=>if x.1 = k then (x.1,x.2.1,v) else x) else kvs ++ [(k,b,v)]
variable {p1:Pt κ1} {p2:Pt κ2} {P:Program} {w:World} {K:FG7} {H H':Hp} {h h':Heap} {a b:Addr} {kvs:List ((κ1 × κ2) × Addr × V)} {k:κ1 × κ2} {v:V}
theorem KAt.grow {m:List Addr} (g:Grow m H H') (x:KAt p1 p2 K H k b):KAt p1 p2 K H' k b:=by
 obtain ⟨v1,v2,h1,h2,h3⟩:=x
 exact ⟨v1,v2,g.sqT h1,p1.grow g h2,p2.grow g h3⟩
theorem NDc.grow {m:List Addr} (g:Grow m H H') (x:NDc p1 p2 K H kvs):NDc p1 p2 K H' kvs:=fun y hy=>(x y hy).grow g
theorem NDc.store (x:NDc p1 p2 K H kvs) (hk:KAt p1 p2 K H k b):NDc p1 p2 K H (wm kvs k b v):=by
 intro y hy
 unfold wm at hy
 split at hy
 ·obtain ⟨z,hz,rfl⟩:=List.mem_map.mp hy
  by_cases c:z.1 = k
  ·rw [if_pos c]; exact x z hz
  ·rw [if_neg c]; exact x z hz
 ·rcases List.mem_append.mp hy with z | z
  ·exact x y z
  ·rw [List.mem_singleton.mp z]; exact hk
theorem NDat.ok (z:NDat p1 p2 P w h a kvs) {P':Program} {w':World}:yr P' w' H h a (ndO p1 p2 P w a kvs):=by
 obtain ⟨lo,xs,r,o,es,ep,g,hx,hd,he,nd⟩:=z
 refine ⟨⟨lo,xs,r,o,es,ep,g,hx,hd,he,nd⟩,⟨o,g⟩,?_⟩
 rintro h1 h2 ⟨lo',xs',r',o',es',ep',g',t⟩ kp
 exact ⟨lo',xs',r',o',es',ep',kp o' g',t⟩
theorem NDat.new (h:Heap) (hb:sysModules < h.objs.size):NDat p1 p2 P w (h.push { cls:=.type "dict",data:=.dict #[] }) h.objs.size ([]:List ((κ1 × κ2) × Addr × V)) :=
 ⟨beq_eq_false_iff_ne.mpr (Ne.symm (Nat.ne_of_lt hb)),[],.nil,_,#[],0,Heap.get?_push_size _ rfl,⟨rfl,rfl,rfl⟩,rfl,rfl,List.nodup_nil⟩
theorem PR.val {xs:List ((κ1 × κ2) × Addr × Value)} (r:PR kvs xs) (k:κ1 × κ2):RelO (valV (kvs.map prV) k) ((atKey xs k).map (·.2)):=by
 induction r with
 | nil=>exact True.intro
 | @cons p q ps qs h t ih =>
  obtain ⟨h1,_,h2⟩:=h
  rw [List.map_cons]
  by_cases e:p.1 = k
  ·have e':q.1 = k:=h1.symm.trans e
   have b:atKey (q :: qs) k = some q.2:=by simp [atKey,List.find?_cons,e']
   rw [yR (p:=prV p) e,b]; exact h2
  ·have e':¬ q.1 = k:=fun z=>e (h1.trans z)
   have b:atKey (q :: qs) k = atKey qs k:=by simp [atKey,List.find?_cons,e']
   rw [yG (p:=prV p) e,b]; exact ih
theorem PR.any {xs:List ((κ1 × κ2) × Addr × Value)} (r:PR kvs xs) (k:κ1 × κ2):(kvs.any fun x=>decide (x.1 = k)) = (atKey xs k).isSome:=by
 have h:=(r.val k).isSome_eq
 rw [Option.isSome_map] at h
 rw [← h,← ud,List.any_map]; rfl
theorem PR.repl {xs:List ((κ1 × κ2) × Addr × Value)} (r:PR kvs xs) (k:κ1 × κ2) {u:Value} (ru:RelV v u):PR (kvs.map fun x=>if x.1 = k then (x.1,x.2.1,v) else x) (xs.map (putAt k u)):=by
 induction r with
 | nil=>exact .nil
 | @cons p q ps qs h t ih =>
  rw [List.map_cons,List.map_cons]
  refine .cons ?_ ih
  obtain ⟨h1,h2,h3⟩:=h
  unfold putAt
  by_cases c:p.1 = k
  ·rw [if_pos c,if_pos (h1.symm.trans c)]; exact ⟨h1,h2,ru⟩
  ·rw [if_neg c,if_neg (fun z=>c (h1.trans z))]; exact ⟨h1,h2,h3⟩
theorem PR.put {xs:List ((κ1 × κ2) × Addr × Value)} (r:PR kvs xs) (k:κ1 × κ2) {u:Value} (ru:RelV v u):PR (wm kvs k b v) (storedH xs k b u):=by
 have e:=r.any k
 unfold wm storedH
 rw [e]
 split
 ·exact r.repl k ru
 ·exact Paired.snoc r ⟨rfl,rfl,ru⟩
end
section
variable {κ1 κ2:Type} [DecidableEq κ1] [DecidableEq κ2] {p1:Pt κ1} {p2:Pt κ2} {kvs:List ((κ1 × κ2) × Addr × V)} {k:κ1 × κ2} {v:V}
variable {X:Cx} {pins:List (Addr × Obj)} {σ:L2.St} {H:Hp} {s:Shared} {a b:Addr} {A:Around} {E:VS7}
theorem KAt.is (I:Inv X pins σ H s) (x:KAt p1 p2 X.K H k b):(rK (p1.it X.prog X.w) (p2.it X.prog X.w)).is s.heap k b:=by
 obtain ⟨v1,v2,h,h1,h2⟩:=x
 obtain ⟨its,rs,p,_⟩:=I.tuple h
 obtain ⟨o,g1,g2,n,g3⟩:=p
 cases rs with
 | cons r1 t =>
  cases t with
  | cons r2 t =>
   cases t
   exact ⟨o,_,_,n,g1,g2,g3,p1.rel I h1 r1,p2.rel I h2 r2⟩
theorem V5 (I:Inv X pins σ H s) (e:Rd H a (ndO p1 p2 X.prog X.w a kvs)) (c:NDc p1 p2 X.K H kvs):(a == sysModules) = false /\ ∃ xs,PR kvs xs /\ s.heap.DictOfH (rK (p1.it X.prog X.w) (p2.it X.prog X.w)) a xs:=by
 obtain ⟨⟨lo,xs,r,o,es,ep,g,hx,hd,he,nd⟩,_⟩:=(show yr X.prog X.w H s.heap a (ndO p1 p2 X.prog X.w a kvs) from e.ok I.hok)
 refine ⟨lo,xs,r,o,es,ep,g,hx,hd,he,fun x hx=>?_,nd⟩
 have all:∀ {l:List ((κ1 × κ2) × Addr × V)} {m:List ((κ1 × κ2) × Addr × Value)},PR l m -> NDc p1 p2 X.K H l -> ∀ x ∈ m,(rK (p1.it X.prog X.w) (p2.it X.prog X.w)).is s.heap x.1 x.2.1:=by
  intro l m q
  induction q with
  | nil=>intro _ x hx; exact nomatch hx
  | @cons p q ps qs hq t ih =>
   intro c x hx
   rcases List.mem_cons.mp hx with e | hx
   ·subst e
    rw [← hq.1,← hq.2.1]
    exact (c p (List.mem_cons_self ..)).is I
   ·exact ih (fun y hy=>c y (List.mem_cons_of_mem _ hy)) x hx
 exact all r c x hx
theorem WH {A:Around} {P:Program} {w:World} {k1:ItK P w κ1} {k2:ItK P w κ2} (hu:A.units + 2 < cLine):(rK k1 k2).room A.in1:=hu
theorem n_in {Q:VS7} (hu:A.units + 2 < cLine) (I:Inv X pins σ H s) (e:Rd H a (ndO p1 p2 X.prog X.w a kvs)) (c:NDc p1 p2 X.K H kvs) (hk:KAt p1 p2 X.K H k b) (h:∀ s',Inv X pins σ H s' -> Q (.bool (valV (kvs.map prV) k).isSome) s') :
  wpAny (model X.prog X.w) A (compareOp .In (.ref b) (.ref a)) Q E s:=by
 obtain ⟨lo,xs,rel,dd⟩:=V5 I e c
 refine wpAny_in_heap (WH hu) (hk.is I) lo dd ?_
 have q:=(rel.val k).isSome_eq
 rw [Option.isSome_map] at q
 rw [← q]
 exact h _ (I.tok _)
theorem Y4 {Q:Unit -> Shared -> Prop} {u:Value} (hu:A.units + 2 < cLine) (I:Inv X pins σ H s) (e:H a = some (ndO p1 p2 X.prog X.w a kvs)) (c:NDc p1 p2 X.K H kvs) (hk:KAt p1 p2 X.K H k b) (hl:kvs.length < sizeLine) (ru:RelV v u)
  (h:∀ s',Inv X pins σ (upd H a (ndO p1 p2 X.prog X.w a (wm kvs k b v))) s' -> Q () s') :
  wpAny (model X.prog X.w) A (setItem (.ref a) (.ref b) u) Q E s:=by
 obtain ⟨lo,xs,rel,dd⟩:=V5 I (.inl e) c
 have hz:xs.length <= sizeLine:=by rw [← Paired.length rel]; exact Nat.le_of_lt hl
 refine wpAny_setItem_heap (hsz:=hz) (WH hu) (hk.is I) dd fun h' dd' hs=>h _ ?_
 obtain ⟨q,es,ep,hq,h2,h3,h4,_,h5⟩:=dd'
 refine Vc I (by rw [e]; exact True.intro) hs ⟨q,hq⟩ (NDat.ok ⟨lo,_,rel.put k ru,q,es,ep,hq,h2,h3,h4,h5⟩)
end
section
variable {κ1 κ2:Type} [DecidableEq κ1] [DecidableEq κ2]
def V6 (p1:Pt κ1) (p2:Pt κ2) (P:Program) (w:World):TE:=fun _ H Q=>∀ a,H a = none -> Q (.ref a) (upd H a (ndO p1 p2 P w a []))
def UN (p1:Pt κ1) (p2:Pt κ2) (P:Program) (w:World) (K:FG7) (ty td:TE):TE:=fun σ H Q=>ty σ H fun y H1=>td σ H1 fun x H2=>∃ a kvs k b,x = .ref a /\ y = .ref b /\ Rd H2 a (ndO p1 p2 P w a kvs) /\ NDc p1 p2 K H2 kvs /\ KAt p1 p2 K H2 k b /\ Q (.bl (valV (kvs.map prV) k).isSome) H2
def V7 (p1:Pt κ1) (p2:Pt κ2) (P:Program) (w:World) (K:FG7) (td ty tv:TE):TS:=fun D σ H=>tv σ H fun v H1=>td σ H1 fun x H2=>ty σ H2 fun y H3 =>
 ∃ a kvs k b,x = .ref a /\ y = .ref b /\ H3 a = some (ndO p1 p2 P w a kvs) /\ NDc p1 p2 K H3 kvs /\ KAt p1 p2 K H3 k b /\ kvs.length < sizeLine /\ D.nx σ (upd H3 a (ndO p1 p2 P w a (wm kvs k b v)))
variable {p1:Pt κ1} {p2:Pt κ2} {X:Cx} {P:Program} {w:World} {K:FG7} {o i e value:Expr} {pos pos':Pos} {td ty tv tk:TE} {k v:Expr}
theorem Wi (p1:Pt κ1) (p2:Pt κ2) (hP:X.prog = P) (hw:X.w = w):PE X (.Dict [] [] pos) (V6 p1 p2 P w):=by
 subst hP hw
 exact fun pins s σ H Q I h =>
  wpAny_Dict_empty ⟨.ref s.heap.objs.size,_,I.laid (a:=s.heap.objs.size) (o:=ndO p1 p2 X.prog X.w s.heap.objs.size []) (t':=s.toks) (fun _ _ q=>Heap.get?_push_of_some _ q) (Nat.le_refl _) (NDat.new s.heap I.big).ok,rfl,h _ (I.hok.fresh (Nat.le_refl _))⟩
theorem Ve (hP:X.prog = P) (hw:X.w = w) (hK:X.K = K) (hu:X.A.units + 2 < cLine) (hi:PE X i ty) (ho:PE X o td):PC X .In i o (UN p1 p2 P w K ty td):=by
 subst hP hw hK
 intro pins s σ H Q I h
 refine thn (hi pins s σ H _ I h) fun iv s1 ⟨y,H1,I1,ry,q1⟩=>thn (ho pins s1 σ H1 _ I1 q1) fun u s2 ⟨x,H2,I2,rx,a,kvs,k,b,ex,ey,hr,hc,hk,q2⟩=>?_
 subst ex ey
 obtain rfl:u = Value.ref a:=rx
 obtain rfl:iv = Value.ref b:=ry
 exact n_in hu I2 hr hc hk fun s3 I3=>⟨.bl _,H2,I3,rfl,q2⟩
theorem Wj (hP:X.prog = P) (hw:X.w = w) (hK:X.K = K) (hu:X.A.units + 2 < cLine) (ho:PE X o td) (hi:PE X i ty) (hv:PE X value tv) (hs:swapsWith value (some (.Subscript o i pos')) pos.line X.env = pure false) :
  PS X (.Assign [.Subscript o i pos'] value pos) (V7 p1 p2 P w K td ty tv):=by
 subst hP hw hK
 intro pins s σ H D I h
 refine wpAny_Assign_Subscript (thn (hv pins s σ H _ I h) fun r s1 ⟨v,H1,I1,rv,q1⟩=>thn (ho pins s1 σ H1 _ I1 q1) fun u s2 ⟨x,H2,I2,rx,q2⟩=>thn (hi pins s2 σ H2 _ I2 q2) fun iv s3 ⟨y,H3,I3,ry,a,kvs,k,b,ex,ey,hr,hc,hk,hl,q3⟩=>?_) hs
 subst ex ey
 obtain rfl:u = Value.ref a:=rx
 obtain rfl:iv = Value.ref b:=ry
 exact Y4 hu I3 hr hc hk hl rv fun s4 I4=>⟨σ,_,I4,q3⟩
end
theorem Room.u2 {k:Nat} {A:Around} (r:Room k A):A.units + 2 < cLine:=by have:=r.un; omega
def x0R (k:Nat) (rows:List (List Int)) (s l:Nat):Nat:=wfN k s l (fstI rows s (nN k s l))
def x1R (k:Nat) (rows:List (List Int)) (s l:Nat):Nat:=wfN k s l (1 - fstI rows s (nN k s l))
def outR (k s l b:Nat):Nat:=wfN k s l (figI k s ((b % 2 ^ k:Nat):Int))
section
variable {k:Nat} {rows:List (List Int)}
def UO:Option Deed -> Option Deed -> Option Deed
 | some d,some e=>some (Ut d e)
 | some d,none=>some d
 | none,o=>o
def lvR (k:Nat) (rows:List (List Int)) (ks:List Ask):Nat -> Nat -> Nat -> Option Deed
 | 0,l,b=>(ks.find? fun a=>decide (a.hand = (l:Int) /\ a.box = (b:Int))).map (·.deed)
 | s + 1,l,b=>if figI k ((s + 1:Nat):Int) l = figI k ((s + 1:Nat):Int) ((b % 2 ^ k:Nat):Int) then UO (lvR k rows ks s (x0R k rows (s + 1) l) b) (lvR k rows ks s (x1R k rows (s + 1) l) b) else none
def runR (v:Int) (as:List Ask):Int:=as.foldl (fun v a=>a.deed.mk' v) v
end
def keyR (l b:Nat):List Key:=[.inl (l:Int),.inl (b:Int)]
structure TabR {α:Type} (kvs:List (List Key × V)) (n m:Nat) (f:Nat -> Nat -> Option α) (R:V -> α -> Prop):Prop where
 keys:∀ p ∈ kvs,∃ l b x,p.1 = keyR l b /\ l < n /\ b < m /\ f l b = some x /\ R p.2 x
 nd:(kvs.map (·.1)).Nodup
 all:∀ l b,l < n -> b < m -> f l b ≠ none -> (valV kvs (keyR l b)).isSome = true
theorem TabR.nil {α:Type} {n m:Nat} {R:V -> α -> Prop}:TabR [] n m (fun _ _=>(none:Option α)) R:=⟨(fun _ h=>nomatch h),List.nodup_nil,fun _ _ _ _ h=>absurd rfl h⟩
def kpR (k:Nat) (rows:List (List Int)) (ks:List Ask) (s l b:Nat):Option Deed:=match lvR k rows ks (s - 1) (x0R k rows s l) b,lvR k rows ks (s - 1) (x1R k rows s l) b with
 | some d,some _=>some d
 | _,_=>none
structure Beh (K:FG7) (H:Hp) (k m:Nat) (rows:List (List Int)) (ks:List Ask) (st:Nat) (kvs:List (List Key × V)) (i:Nat) (bk kk:List (List Key × V)):Prop where
 b1:∀ p ∈ bk,∃ l b x,p.1 = keyR l b /\ l < 2 ^ k /\ b < m /\ lvR k rows ks st l b = some x /\ wX K H p.2 x
 b2:(bk.map (·.1)).Nodup
 b3:∀ j l b v,j < i -> kvs[j]? = some (keyR l b,v) -> (valV bk (keyR (outR k st l b) b)).isSome = true
 bl:bk.length <= i
 k1:∀ p ∈ kk,∃ l b x,p.1 = keyR (nN k st l) b /\ l < 2 ^ k /\ b < m /\ kpR k rows ks st l b = some x /\ wX K H p.2 x
 k2:(kk.map (·.1)).Nodup
 k3:∀ j l b v,j < i -> kvs[j]? = some (keyR l b,v) -> kpR k rows ks st l b ≠ none -> (valV kk (keyR (nN k st l) b)).isSome = true
 kl:kk.length <= i
section
variable {K:FG7} {H H':Hp} {k m:Nat} {rows:List (List Int)} {ks:List Ask} {st:Nat} {kvs:List (List Key × V)} {i:Nat} {bk kk:List (List Key × V)}
theorem Beh.nil:Beh K H k m rows ks st kvs 0 [] []:=⟨(fun _ h=>nomatch h),List.nodup_nil,(fun _ _ _ _ h=>absurd h (Nat.not_lt_zero _)),Nat.le_refl _,(fun _ h=>nomatch h),List.nodup_nil,(fun _ _ _ _ h=>absurd h (Nat.not_lt_zero _)),Nat.le_refl _⟩
end
structure PTab {α:Type} (kvs:List (List Key × V)) (n m:Nat) (f:Nat -> Nat -> Option α) (R:V -> α -> Prop) (i:Nat) (tk:List (List Key × V)):Prop where
 p1:∀ p ∈ tk,∃ l b x,p.1 = keyR l b /\ l < n /\ b < m /\ f l b = some x /\ R p.2 x
 p2:(tk.map (·.1)).Nodup
 p3:∀ j l b v,j < i -> kvs[j]? = some (keyR l b,v) -> (valV tk (keyR l b)).isSome = true
 p4:tk.length <= i
theorem PTab.nil {α:Type} {kvs:List (List Key × V)} {n m:Nat} {f:Nat -> Nat -> Option α} {R:V -> α -> Prop}:PTab kvs n m f R 0 []:=⟨(fun _ h=>nomatch h),List.nodup_nil,(fun _ _ _ _ h=>absurd h (Nat.not_lt_zero _)),Nat.le_refl _⟩
section
variable {K:FG7} {H:Hp} {k m:Nat} {rows:List (List Int)} {ks:List Ask} {bd:Nat -> Int} {s:Nat} {d:Addr}
def bdF (b:List Int) (j:Nat):Int:=b.getD j 0
end
structure VI (kvs:List (List Key × V)) (b:List Int) (fin:Nat -> Int) (i:Nat) (w:List Int):Prop where
 len:w.length = b.length
 or:∀ j,j < b.length -> w[j]? = some (bdF b j) \/ w[j]? = some (fin j)
 dn:∀ i' l c v,i' < i -> kvs[i']? = some (keyR l c,v) -> c < b.length -> w[c]? = some (fin c)
theorem Vf {b:List Int} {j:Nat} (h:j < b.length):b[j]? = some (bdF b j):=by
 unfold bdF; rw [List.getD_eq_getElem?_getD,List.getElem?_eq_getElem h]; rfl
theorem VI.nil {kvs:List (List Key × V)} {b:List Int} {fin:Nat -> Int}:VI kvs b fin 0 b:=⟨rfl,fun _ h=>.inl (Vf h),fun _ _ _ _ h=>absurd h (Nat.not_lt_zero _)⟩
def V8 (ps:List (Key × V)):List (Key × V):=ps.foldl (fun d p=>putK d p.1 p.2) []
def atB (j:Nat) (as:List Ask):List Ask:=as.filter fun a=>decide (a.box = (j:Int))
def AnsD (b:List Int) (as:List Ask) (tk:List (Key × V)):Prop:=tk.length <= as.length /\ ∀ a ∈ as,∃ a' pre post,a' ∈ as /\ a'.hand = a.hand /\ as = pre ++ [a'] ++ post /\ valV tk (.inl a.hand) = some (.int (runR (bdF b a'.box.toNat) (atB a'.box.toNat pre)))
theorem AnsD.nil {b:List Int}:AnsD b [] []:=⟨Nat.le_refl _,fun _ h=>nomatch h⟩
theorem wS {key:Key}:∀ {ps d:List (Key × V)},(∀ p ∈ ps,p.1 ≠ key) -> valV (ps.foldl (fun d p=>putK d p.1 p.2) d) key = valV d key
 | [],d,_=>rfl
 | p :: ps,d,h=>by
  rw [List.foldl_cons,wS fun q hq=>h q (by simp [hq]),jM,if_neg (fun z=>h p (by simp) z.symm)]
theorem uJ {p:Key × V}:∀ {ps d:List (Key × V)},(ps.map (·.1)).Nodup -> p ∈ ps -> valV (ps.foldl (fun d p=>putK d p.1 p.2) d) p.1 = some p.2
 | q :: ps,d,nd,h=>by
  rw [List.map_cons,List.nodup_cons] at nd
  rw [List.foldl_cons]
  rcases List.mem_cons.mp h with rfl | h
  ·rw [wS fun x hx z=>nd.1 (List.mem_map.mpr ⟨x,hx,z⟩),jM,if_pos rfl]
  ·exact uJ nd.2 h
def ByAt (K:FG7) (H:Hp) (ks:List Ask) (ps:List (Key × V)):Prop:=ps.length = ks.length /\ ∀ (i:Nat) (a:Ask),ks[i]? = some a -> ∃ t dv,ps[i]? = some (.inl a.hand,.ref t) /\ H t = some (.tup [.int a.box,dv]) /\ wX K H dv a.deed
theorem ByAt.keys {K:FG7} {H:Hp} {ks:List Ask} {ps:List (Key × V)} (h:ByAt K H ks ps):ps.map (·.1) = ks.map fun a=>Sum.inl a.hand:=by
 refine List.ext_getElem? fun i=>?_
 rw [List.getElem?_map,List.getElem?_map]
 by_cases c:i < ks.length
 ·obtain ⟨t,dv,h1,_⟩:=h.2 i ks[i] (List.getElem?_eq_getElem c)
  rw [h1,List.getElem?_eq_getElem c]; rfl
 ·rw [List.getElem?_eq_none (by rw [h.1]; omega),List.getElem?_eq_none (by omega)]; rfl
theorem ByAt.some {K:FG7} {H:Hp} {ks:List Ask} {ps:List (Key × V)} (h:ByAt K H ks ps) (nd:(ks.map (·.hand)).Nodup) {a:Ask} (ha:a ∈ ks):∃ t dv,valV (V8 ps) (.inl a.hand) = some (.ref t) /\ H t = some (.tup [.int a.box,dv]) /\ wX K H dv a.deed:=by
 obtain ⟨i,hi,rfl⟩:=List.getElem_of_mem ha
 obtain ⟨t,dv,h1,h2,h3⟩:=h.2 i ks[i] (List.getElem?_eq_getElem hi)
 refine ⟨t,dv,?_,h2,h3⟩
 have nd':(ps.map (·.1)).Nodup:=by
  rw [h.keys]
  have e:(ks.map fun a=>(Sum.inl a.hand:Key)) = (ks.map (·.hand)).map Sum.inl:=by rw [List.map_map]; rfl
  rw [e]
  exact nd.map _ fun x y hxy z=>hxy (Sum.inl.inj z)
 exact uJ (p:=(Sum.inl ks[i].hand,.ref t)) nd' (List.mem_of_getElem? h1)
theorem ByAt.none {K:FG7} {H:Hp} {ks:List Ask} {ps:List (Key × V)} (h:ByAt K H ks ps) {i:Int} (hno:∀ a ∈ ks,a.hand ≠ i):valV (V8 ps) (.inl i) = none:=by
 refine wS fun p hp z=>?_
 have:p.1 ∈ ps.map (·.1):=List.mem_map.mpr ⟨p,hp,rfl⟩
 rw [h.keys] at this
 obtain ⟨a,ha,e⟩:=List.mem_map.mp this
 exact hno a ha (Sum.inl.inj (e.trans z))
structure RndS (j m:Nat) (ks:List Ask):Prop where
 nd:(ks.map (·.hand)).Nodup
 hand:∀ a ∈ ks,0 <= a.hand /\ a.hand < (j:Int)
 box:∀ a ∈ ks,0 <= a.box /\ a.box < (m:Int)
 ok:∀ a ∈ ks,a.deed.Ok
 sm:∀ a ∈ ks,a.deed.Sm
theorem RndS.nil {j m:Nat}:RndS j m []:=⟨List.nodup_nil,(fun _ h=>nomatch h),(fun _ h=>nomatch h),(fun _ h=>nomatch h),(fun _ h=>nomatch h)⟩
structure OrdB (n:Nat) (lt:Nat -> Nat -> Bool):Prop where
 tr:∀ {i j k:Nat},lt i j = true -> lt j k = true -> lt i k = true
 as:∀ {i j:Nat},lt i j = true -> lt j i = false
 to:∀ {i j:Nat},i < n -> j < n -> i ≠ j -> lt i j = false -> lt j i = true
structure PmA (n:Nat) (p:Array Nat):Prop where
 sz:p.size = n
 pm:p.toList.Perm (List.range n)
theorem PmA.lt {n:Nat} {p:Array Nat} (h:PmA n p) {i:Nat} (hi:i < n):p.getD i 0 < n:=by
 have hi':i < p.toList.length:=by rw [Array.length_toList,h.sz]; exact hi
 have e:p.getD i 0 = p.toList[i]:=by simp [Array.getD,h.sz,hi]
 rw [e]
 exact List.mem_range.mp (h.pm.mem_iff.mp (List.getElem_mem hi'))
theorem PmA.inj {n:Nat} {p:Array Nat} (h:PmA n p) {i j:Nat} (hi:i < n) (hj:j < n) (hne:i ≠ j):p.getD i 0 ≠ p.getD j 0:=by
 have hi':i < p.toList.length:=by rw [Array.length_toList,h.sz]; exact hi
 have hj':j < p.toList.length:=by rw [Array.length_toList,h.sz]; exact hj
 have e:p.getD i 0 = p.toList[i]:=by simp [Array.getD,h.sz,hi]
 have e':p.getD j 0 = p.toList[j]:=by simp [Array.getD,h.sz,hj]
 rw [e,e']
 intro z
 exact hne ((List.getElem_inj (h.pm.nodup_iff.mpr List.nodup_range)).mp z)
theorem PmA.of_perm {n:Nat} {p q:Array Nat} (h:PmA n p) (hq:q.Perm p):PmA n q :=
 ⟨hq.size_eq.trans h.sz,(Array.perm_iff_toList_perm.mp hq).trans h.pm⟩
def Ups (lt:Nat -> Nat -> Bool) (p:Array Nat) (k:Nat):Prop:=∀ i j,i < j -> j < k -> lt (p.getD i 0) (p.getD j 0) = true
def qR (lt:Nat -> Nat -> Bool) (p:Array Nat) (k:Nat):Prop:=∀ i j,i < j -> j < k -> lt (p.getD j 0) (p.getD i 0) = true
theorem jN {p q:Array Nat} {i j:Nat} (h:p[i]? = q[j]?):p.getD i 0 = q.getD j 0:=by
 rw [Array.getD_eq_getD_getElem?,Array.getD_eq_getD_getElem?,h]
section
variable {n:Nat} {lt:Nat -> Nat -> Bool} {cmp:Nat -> Nat -> (Bool -> Shared -> Prop) -> Shared -> Prop} {s:Shared}
def Says (n:Nat) (lt:Nat -> Nat -> Bool) (cmp:Nat -> Nat -> (Bool -> Shared -> Prop) -> Shared -> Prop) (s:Shared):Prop:=∀ i j (C:Bool -> Shared -> Prop),i < n -> j < n -> C (lt i j) s -> cmp i j C s
theorem Ups.snoc {p:Array Nat} {m:Nat} (o:OrdB n lt) (h1:1 <= m) (u:Ups lt p m) (e:lt (p.getD (m - 1) 0) (p.getD m 0) = true):Ups lt p (m + 1):=by
 intro i j hij hj
 by_cases hjm:j < m
 ·exact u i j hij hjm
 ·obtain rfl:j = m:=by omega
  by_cases hi:i = j - 1
  ·subst hi; exact e
  ·exact o.tr (u i (j - 1) (by omega) (by omega)) e
theorem sA (o:OrdB n lt) (hc:Says n lt cmp s) {p:Array Nat} (hp:PmA n p):∀ (f m:Nat) {Q:Nat -> Shared -> Prop},1 <= m -> m + f = n -> Ups lt p m →
  (∀ k,m <= k -> k <= n -> Ups lt p k -> (k = n \/ lt (p.getD k 0) (p.getD (k - 1) 0) = true) -> Q k s) -> (kas_asc p f m).kasWp cmp Q s
 | 0,m,Q,h1,e,u,q=>q m (Nat.le_refl _) (by omega) u (.inl (by omega))
 | f + 1,m,Q,h1,e,u,q=>by
  refine hc _ _ _ (hp.lt (by omega)) (hp.lt (by omega)) ?_
  cases c:lt (p.getD m 0) (p.getD (m - 1) 0) with
  | true =>
   dsimp only
   rw [if_pos rfl]
   exact q m (Nat.le_refl _) (by omega) u (.inr c)
  | false =>
   dsimp only
   rw [if_neg (by decide)]
   exact sA o hc hp f (m + 1) (by omega) (by omega) (u.snoc o h1 (o.to (hp.lt (by omega)) (hp.lt (by omega)) (hp.inj (by omega) (by omega) (by omega)) c)) fun k hk=>q k (by omega)
theorem qR.snoc {p:Array Nat} {m:Nat} (o:OrdB n lt) (h1:1 <= m) (u:qR lt p m) (e:lt (p.getD m 0) (p.getD (m - 1) 0) = true):qR lt p (m + 1):=by
 intro i j hij hj
 by_cases hjm:j < m
 ·exact u i j hij hjm
 ·obtain rfl:j = m:=by omega
  by_cases hi:i = j - 1
  ·subst hi; exact e
  ·exact o.tr e (u i (j - 1) (by omega) (by omega))
theorem rQ (o:OrdB n lt) (hc:Says n lt cmp s) {p:Array Nat} (hp:PmA n p):∀ (f m:Nat) {Q:Array Nat × Nat × Nat -> Shared -> Prop},1 <= m -> m + f = n -> qR lt p m →
  (∀ k,m <= k -> k <= n -> qR lt p k -> Q (p,k,0) s) -> (kas_desc f p m 0).kasWp cmp Q s
 | 0,m,Q,h1,e,u,q=>q m (Nat.le_refl _) (by omega) u
 | f + 1,m,Q,h1,e,u,q=>by
  refine hc _ _ _ (hp.lt (by omega)) (hp.lt (by omega)) ?_
  cases c:lt (p.getD m 0) (p.getD (m - 1) 0) with
  | true =>
   dsimp only
   rw [if_pos rfl,if_neg (by decide)]
   exact rQ o hc hp f (m + 1) (by omega) (by omega) (u.snoc o h1 c) fun k hk=>q k (by omega)
  | false =>
   dsimp only
   rw [if_neg (by decide)]
   refine hc _ _ _ (hp.lt (by omega)) (hp.lt (by omega)) ?_
   rw [o.to (hp.lt (by omega)) (hp.lt (by omega)) (hp.inj (by omega) (by omega) (by omega)) c]
   dsimp only
   rw [if_pos rfl]
   exact q m (Nat.le_refl _) (by omega) u
theorem Vg {p:Array Nat} {k:Nat} (hp:PmA n p) (hk:k <= n) (d:qR lt p k):Ups lt (kas_rev p 0 k) k:=by
 intro i j hij hj
 have g:∀ x,x < k -> (kas_rev p 0 k).getD x 0 = p.getD (k - 1 - x) 0:=fun x hx=>by
  refine jN ?_
  unfold kas_rev
  rw [getElem?_mirror_all (by rw [hp.sz]; exact hk),if_pos (by omega)]
  congr 1; omega
 rw [g i (by omega),g j hj]
 exact d _ _ (by omega) (by omega)
theorem Y5 (o:OrdB n lt) (hc:Says n lt cmp s) {p:Array Nat} (hp:PmA n p) {k:Nat} (h1:1 <= k) (hk:k <= n) (d:qR lt p k) {Q:Nat × Array Nat -> Shared -> Prop}
  (q:∀ m p',PmA n p' -> 1 <= m -> m <= n -> Ups lt p' m -> Q (m,p') s):(kas_tail3 k n p).kasWp cmp Q s:=by
 unfold kas_tail3
 rw [KasT.kasWp_bind]
 have hp':PmA n (kas_rev p 0 k):=hp.of_perm (mirror_perm _ _ _ _)
 exact sA o hc hp' (n - k) k h1 (by omega) (Vg hp hk d) fun m hm hm' u _=>q m _ hp' (by omega) hm' u
theorem Y6 (o:OrdB n lt) (hc:Says n lt cmp s) {p:Array Nat} (hp:PmA n p) (h2:2 <= n) (c:lt (p.getD 1 0) (p.getD 0 0) = true) {Q:Nat × Array Nat -> Shared -> Prop}
  (q:∀ m p',PmA n p' -> 1 <= m -> m <= n -> Ups lt p' m -> Q (m,p') s):(kas_descPart 1 n p).kasWp cmp Q s:=by
 unfold kas_descPart
 rw [KasT.kasWp_bind]
 refine rQ o hc hp (n - 2) 2 (by decide) (by omega) (fun i j hij hj=>?_) fun k hk hk' d=>?_
 ·obtain rfl:i = 0:=by omega
  obtain rfl:j = 1:=by omega
  exact c
 ·dsimp only
  rw [if_neg (by omega)]
  exact Y5 o hc hp (by omega) hk' d q
theorem Zs (o:OrdB n lt) (hc:Says n lt cmp s) {p:Array Nat} (hp:PmA n p) (h2:2 <= n) {Q:Nat × Array Nat -> Shared -> Prop}
  (q:∀ m p',PmA n p' -> 1 <= m -> m <= n -> Ups lt p' m -> Q (m,p') s):(kas_count n p).kasWp cmp Q s:=by
 unfold kas_count
 rw [KasT.kasWp_bind]
 refine sA o hc hp (n - 1) 1 (Nat.le_refl _) (by omega) (fun i j hij hj=>by omega) fun k h1 hk u e=>?_
 by_cases hkn:k = n
 ·rw [if_pos (by simpa using hkn)]
  exact q k p hp h1 hk u
 rw [if_neg (by simpa using hkn)]
 have e:=e.resolve_left hkn
 by_cases hg:k > 1
 ·rw [if_pos hg]
  refine hc _ _ _ (hp.lt (by omega)) (hp.lt (by omega)) ?_
  rw [u 0 (k - 1) (by omega) (by omega)]
  dsimp only
  rw [if_pos rfl]
  exact q k p hp h1 hk u
 ·rw [if_neg hg]
  obtain rfl:k = 1:=by omega
  exact Y6 o hc hp h2 e q
theorem vI (o:OrdB n lt) (hc:Says n lt cmp s) {p:Array Nat} (hp:PmA n p) {k:Nat} (hk:k < n) (u:Ups lt p k):∀ (f l r:Nat) {Q:Nat -> Shared -> Prop},l <= r -> r <= k -> r - l <= f →
  (∀ i,i < l -> lt (p.getD i 0) (p.getD k 0) = true) -> (∀ i,r <= i -> i < k -> lt (p.getD k 0) (p.getD i 0) = true) →
  (∀ x,x <= k -> (∀ i,i < x -> lt (p.getD i 0) (p.getD k 0) = true) -> (∀ i,x <= i -> i < k -> lt (p.getD k 0) (p.getD i 0) = true) -> Q x s) -> (kas_place p k f l r).kasWp cmp Q s
 | 0,l,r,Q,h1,h2,h3,a,b,q=>q l (by omega) a fun i hi=>b i (by omega)
 | f + 1,l,r,Q,h1,h2,h3,a,b,q=>by
  unfold kas_place
  by_cases hlr:l >= r
  ·rw [if_pos hlr]
   exact q l (by omega) a fun i hi=>b i (by omega)
  rw [if_neg hlr]
  refine hc _ _ _ (hp.lt hk) (hp.lt (by omega)) ?_
  cases c:lt (p.getD k 0) (p.getD ((l + r) / 2) 0) with
  | true =>
   dsimp only
   rw [if_pos rfl]
   refine vI o hc hp hk u f l ((l + r) / 2) (by omega) (by omega) (by omega) a (fun i hi hik=>?_) q
   by_cases e:i = (l + r) / 2
   ·rw [e]; exact c
   ·exact o.tr c (u _ i (by omega) hik)
  | false =>
   dsimp only
   rw [if_neg (by decide)]
   have c':=o.to (hp.lt hk) (hp.lt (by omega)) (hp.inj hk (by omega) (by omega)) c
   refine vI o hc hp hk u f ((l + r) / 2 + 1) r (by omega) h2 (by omega) (fun i hi=>?_) b q
   by_cases e:i = (l + r) / 2
   ·rw [e]; exact c'
   ·exact o.tr (u i _ (by omega) (by omega)) c'
theorem Vh {p:Array Nat} {k x:Nat} (o:OrdB n lt) (hp:PmA n p) (hk:k < n) (u:Ups lt p k) (hx:x <= k) (a:∀ i,i < x -> lt (p.getD i 0) (p.getD k 0) = true) (b:∀ i,x <= i -> i < k -> lt (p.getD k 0) (p.getD i 0) = true):Ups lt (bubble p k (k - x)) (k + 1):=by
 have g:=fun i=>getElem?_bubble (xs:=p) (src:=k) (by rw [hp.sz]; exact hk) (k - x) (by omega) i
 have e:k - (k - x) = x:=by omega
 rw [e] at g
 have g1:∀ i,i < x -> (bubble p k (k - x)).getD i 0 = p.getD i 0:=fun i hi=>jN (by rw [g,if_neg (by omega),if_neg (by omega)])
 have g2:(bubble p k (k - x)).getD x 0 = p.getD k 0:=jN (by rw [g,if_pos rfl])
 have g3:∀ i,x < i -> i <= k -> (bubble p k (k - x)).getD i 0 = p.getD (i - 1) 0:=fun i hi hik=>jN (by rw [g,if_neg (by omega),if_pos ⟨hi,hik⟩])
 intro i j hij hj
 rcases Nat.lt_trichotomy j x with h | h | h
 ·rw [g1 i (by omega),g1 j h]; exact u i j hij (by omega)
 ·subst h; rw [g1 i hij,g2]; exact a i hij
 ·rw [g3 j h (by omega)]
  rcases Nat.lt_trichotomy i x with h' | h' | h'
  ·rw [g1 i h']; exact u i _ (by omega) (by omega)
  ·subst h'; rw [g2]; exact b _ (by omega) (by omega)
  ·rw [g3 i h' (by omega)]; exact u _ _ (by omega) (by omega)
theorem jO (o:OrdB n lt) (hc:Says n lt cmp s):∀ (f:Nat) (p:Array Nat) (k:Nat) {Q:Array Nat -> Shared -> Prop},PmA n p -> k + f = n -> Ups lt p k -> (∀ p',PmA n p' -> Ups lt p' n -> Q p' s) -> (kas_bin f p k).kasWp cmp Q s
 | 0,p,k,Q,hp,e,u,q=>q p hp (by rw [← show k = n by omega]; exact u)
 | f + 1,p,k,Q,hp,e,u,q=>by
  unfold kas_bin
  rw [KasT.kasWp_bind]
  refine vI o hc hp (by omega) u k 0 k (Nat.zero_le _) (Nat.le_refl _) (by omega) (fun i hi=>by omega) (fun i h1 h2=>by omega) fun x hx a b=>?_
  exact jO o hc f _ (k + 1) (hp.of_perm (bubble_perm _ _ _)) (by omega) (Vh o hp (by omega) u hx a b) q
theorem Y7 (o:OrdB n lt) (hc:Says n lt cmp s) (h2:2 <= n) {Q:Array Nat -> Shared -> Prop} (q:∀ p,PmA n p -> Ups lt p n -> Q p s):(kas_sort n).kasWp cmp Q s:=by
 unfold kas_sort
 rw [KasT.kasWp_bind]
 have h0:PmA n (List.toArray (List.range n)):=⟨by simp,by simp⟩
 refine Zs o hc h0 h2 fun m p hp h1 hm u=>?_
 by_cases hmn:m < n
 ·rw [if_pos hmn]
  have e:max m 1 = m:=by omega
  show (kas_bin (n - max m 1) p (max m 1)).kasWp cmp Q s
  rw [e]
  exact jO o hc (n - m) p m hp (by omega) u q
 ·rw [if_neg hmn]
  obtain rfl:m = n:=by omega
  exact q p hp u
end
section
variable {prog:Program} {w:World} {A:Around} {E:VS7} {s:Shared}
def Asks (prog:Program) (w:World) (A:Around) (s:Shared) (a:Addr) (vs:List Value) (lt:Nat -> Nat -> Bool):Prop:=∃ κ,∀ h':Heap,(∀ b ob,b ≠ a -> s.heap.get? b = some ob -> h'.get? b = some ob) →
 (∀ (Q:SortKind -> Shared -> Prop) (E':VS7),Q κ { s with heap:=h' } -> wpAny (model prog w) A (keyKind' vs.toArray) Q E' { s with heap:=h' }) /\ Says vs.length lt (kas_ask prog w A κ vs) { s with heap:=h' }
theorem Y8 (vs:List Value):((List.range vs.length).map fun i=>vs.getD i Value.none) = vs:=by
 refine List.ext_getElem? fun i=>?_
 rw [List.getElem?_map]
 by_cases h:i < vs.length
 ·rw [List.getElem?_range h]
  show some (vs.getD i Value.none) = _
  rw [List.getD_eq_getElem?_getD,List.getElem?_eq_getElem h]; rfl
 ·rw [List.getElem?_eq_none (by rw [List.length_range]; omega),List.getElem?_eq_none (by omega)]; rfl
theorem Y9 {a:Addr} {vs:List Value} {n:Nat} {P:PySem.Fin -> Shared -> Prop} {lt:Nat -> Nat -> Bool} (here:s.heap.get? a = some (seqObj "list" vs.toArray n)) (few:vs.length < 64) (o:OrdB vs.length lt) (asks:2 <= vs.length -> Asks prog w A s a vs lt)
  (fin:∀ p,PmA vs.length p -> Ups lt p vs.length -> P (.done (.ret .none)) { s with heap:=sortedHeap s.heap a vs (List.toArray (p.toList.map fun i=>vs.getD i Value.none)) }) :
  wpAny (model prog w) A (Builtin.«list.sort» ⟨[.ref a],[]⟩) P E s:=by
 have low:a < s.heap.objs.size:=Heap.lt_size here
 obtain ⟨ep,emp⟩:∃ ep,(s.heap.update a (Obj.mapSeq fun _=>(#[]:Array Value))).get? a = some (seqObj "list" #[] ep):=⟨_,get?_update_seq here fun _=>#[]⟩
 have big:sizeLine = sizeLine:=rfl
 have fits:vs.length <= sizeLine:=by have:=sizeLine_eq; omega
 have empty:(((s.heap.update a (Obj.mapSeq fun _=>(#[]:Array Value))).push (seqObj "tuple" vs.toArray 0)).push (seqObj "list" #[] 0)).get? a = some (seqObj "list" #[] ep):=Heap.get?_push_of_some _ (Heap.get?_push_of_some _ emp)
 have old:∀ b ob,b ≠ a -> s.heap.get? b = some ob -> (((s.heap.update a (Obj.mapSeq fun _=>(#[]:Array Value))).push (seqObj "tuple" vs.toArray 0)).push (seqObj "list" #[] 0)).get? b = some ob:=fun b ob ne e =>
  Heap.get?_push_of_some _ (Heap.get?_push_of_some _ (by rw [Heap.get?_update_ne _ _ _ _ ne]; exact e))
 rw [list_sort_plain]
 refine wpAny_bind (listItems_at here rfl (wpAny_bind (listUpdate_at here rfl ?_ (by rw [List.size_toArray]; exact fits) (Nat.zero_le _))))
 refine wpAny_bind (seqEpoch_at emp rfl (wpAny_bind (wpAny_newTuple ?_ (by show vs.length <= _; exact fits))))
 refine wpAny_bind (wpAny_newList (wpAny_holding ?_) (Nat.zero_le _))
 show wpAny (model prog w) A _ P E { s with heap:=((s.heap.update a (Obj.mapSeq fun _=>(#[]:Array Value))).push (seqObj "tuple" vs.toArray 0)).push (seqObj "list" #[] 0),toks:=s.toks }
 have sz:vs.toArray.size = vs.length:=by simp
 by_cases h2:vs.toArray.size < 2
 ·rw [if_pos h2,if_pos h2]
  refine wpAny_bind (wpAny_pure ?_)
  dsimp only
  rw [StateT.run_pure]
  refine wpAny_bind (wpAny_pure (wpAny_bind (seqEpoch_at empty rfl (wpAny_bind (listUpdate_at empty rfl ?_ (Nat.zero_le _) ?_)))))
  ·have f:=fin (List.toArray (List.range vs.length)) ⟨by simp,by simp⟩ (fun i j hij hj=>by omega)
   have e:(List.toArray ((List.toArray (List.range vs.length)).toList.map fun i=>vs.getD i Value.none)) = (vs.toArray.zip vs.toArray).map (·.2):=by
    apply Array.toList_inj.mp
    rw [Array.toList_map]
    show (List.range vs.length).map (fun i=>vs.getD i Value.none) = _
    rw [Y8,Array.toList_zip]
    show vs = (vs.zip vs).map Prod.snd
    rw [List.map_snd_zip (Nat.le_refl _)]
   rw [e] at f
   have ne:(ep != ep) = false:=by simp
   show wpAny _ _ _ P E _
   simp only [ne,Bool.false_eq_true,if_false]
   exact wpAny_pure f
  ·show ((vs.toArray.zip vs.toArray).map (·.2)).size <= _
   rw [Array.size_map,Array.size_zip,sz]; omega
 have h2':2 <= vs.length:=by omega
 obtain ⟨κ,ok⟩:=asks h2'
 obtain ⟨kd,says⟩:=ok _ old
 rw [if_neg h2,if_neg h2]
 refine wpAny_bind (kd _ _ ?_)
 refine wpAny_bind (wpAny_mono (kat_run (ks:=vs) (Q:=fun st' s'=>s' = { s with heap:=((s.heap.update a (Obj.mapSeq fun _=>(#[]:Array Value))).push (seqObj "tuple" vs.toArray 0)).push (seqObj "list" #[] 0) } /\ failedOf st' = none /\ ∃ p,PmA vs.length p /\ Ups lt p vs.length /\ (arrOf st').map (·.2) = List.toArray (p.toList.map fun i=>vs.getD i Value.none)) (G:=fun p s'=>s' = { s with heap:=((s.heap.update a (Obj.mapSeq fun _=>(#[]:Array Value))).push (seqObj "tuple" vs.toArray 0)).push (seqObj "list" #[] 0) } /\ PmA vs.length p /\ Ups lt p vs.length) rfl h2' few
  (fun p st' s' _ har hf g=>⟨g.1,hf,p,g.2.1,g.2.2,kat_snds rfl har⟩) (Y7 o says h2' fun p hp u=>⟨rfl,hp,u⟩)) ?_ fun _ _ e=>e)
 rintro ⟨⟨⟩,st'⟩ s' ⟨rfl,hf,p,hp,u,out⟩
 refine wpAny_bind (seqEpoch_at empty rfl (wpAny_bind (listUpdate_at empty rfl ?_ (Nat.zero_le _) ?_)))
 ·have f:=fin p hp u
  rw [← out] at f
  show wpAny _ _ _ P E _
  have ne:(ep != ep) = false:=by simp
  have hf':failedOf st' = none:=hf
  dsimp only
  rw [hf']
  simp only [ne,Bool.false_eq_true,if_false]
  exact wpAny_pure f
 ·show ((arrOf st').map (·.2)).size <= _
  rw [out,List.size_toArray,List.length_map,Array.length_toList,hp.sz]; omega
end
def ltL:List Int -> List Int -> Bool
 | [],[]=>false
 | [],_ :: _=>true
 | _ :: _,[]=>false
 | a :: as,b :: bs=>if a = b then ltL as bs else decide (a < b)
theorem WI:∀ {a b c:List Int},ltL a b = true -> ltL b c = true -> ltL a c = true
 | [],[],_,h,_=>nomatch h
 | [],_ :: _,[],_,h=>nomatch h
 | [],_ :: _,_ :: _,_,_=>rfl
 | _ :: _,[],_,h,_=>nomatch h
 | _ :: _,_ :: _,[],_,h=>nomatch h
 | a :: as,b :: bs,c :: cs,h,k=>by
  unfold ltL at h k ⊢
  by_cases e:a = b
  ·subst e
   rw [if_pos rfl] at h
   by_cases e':a = c
   ·rw [if_pos e'] at k ⊢; exact WI h k
   ·rw [if_neg e'] at k ⊢; exact k
  ·rw [if_neg e] at h
   have h:=of_decide_eq_true h
   by_cases e':b = c
   ·subst e'; rw [if_neg e]; exact decide_eq_true h
   ·rw [if_neg e'] at k
    have k:=of_decide_eq_true k
    rw [if_neg (by omega)]; exact decide_eq_true (by omega)
theorem Xa:∀ {a b:List Int},ltL a b = true -> ltL b a = false
 | [],[],h=>nomatch h
 | [],_ :: _,_=>rfl
 | _ :: _,[],h=>nomatch h
 | a :: as,b :: bs,h=>by
  unfold ltL at h ⊢
  by_cases e:a = b
  ·subst e; rw [if_pos rfl] at h ⊢; exact Xa h
  ·rw [if_neg e] at h; rw [if_neg (Ne.symm e)]
   have h:=of_decide_eq_true h
   exact decide_eq_false (by omega)
theorem WJ:∀ {a b:List Int},a ≠ b -> ltL a b = false -> ltL b a = true
 | [],[],h,_=>absurd rfl h
 | [],_ :: _,_,h=>nomatch h
 | _ :: _,[],_,_=>rfl
 | a :: as,b :: bs,n,h=>by
  unfold ltL at h ⊢
  by_cases e:a = b
  ·subst e; rw [if_pos rfl] at h ⊢; exact WJ (fun z=>n (by rw [z])) h
  ·rw [if_neg e] at h; rw [if_neg (Ne.symm e)]
   have h:=of_decide_eq_false h
   exact decide_eq_true (by omega)
theorem jP:∀ {a b:List (List Int)},a.Pairwise (fun x y=>ltL x y = true) -> b.Pairwise (fun x y=>ltL x y = true) -> a.Perm b -> a = b
 | [],b,_,_,p=>(List.Perm.nil_eq p)
 | x :: xs,[],_,_,p=>absurd p.length_eq (by simp)
 | x :: xs,y :: ys,ha,hb,p=>by
  obtain ⟨a1,a2⟩:=List.pairwise_cons.mp ha
  obtain ⟨b1,b2⟩:=List.pairwise_cons.mp hb
  have e:x = y:=by
   by_cases e:x = y
   ·exact e
   ·have hx:x ∈ ys:=(List.mem_cons.mp (p.mem_iff.mp List.mem_cons_self)).resolve_left e
    have hy:y ∈ xs:=(List.mem_cons.mp (p.mem_iff.mpr List.mem_cons_self)).resolve_left (Ne.symm e)
    have:=Xa (a1 y hy)
    rw [b1 x hx] at this; cases this
  subst e
  rw [jP a2 b2 ((List.perm_cons x).mp p)]
section
variable {prog:Program} {w:World} {A:Around} {E:VS7} {s:Shared} {b fin:Bool} {Q:Bool -> Shared -> Prop}
theorem jQ:∀ {us vs:List Value} {as bs:List Int} (i:Nat),IntsAre us as -> IntsAre vs bs -> fin = decide (as.length < bs.length) -> Q (ltL as bs) s -> KatLex prog w A b fin Q (us.zip vs) i s
 | _,_,_,_,i,.nil,.nil,e,q=>by rw [e]; exact kat_nil q
 | _,_,_,_,i,.nil,.cons _ _ _,e,q=>by rw [e]; exact kat_nil (by simpa [ltL] using q)
 | _,_,_,_,i,.cons _ _ _,.nil,e,q=>by rw [e]; exact kat_nil (by simpa [ltL] using q)
 | _,_,_,_,i,.cons x t hx,.cons y u hy,e,q=>by
  rename_i us as vs bs
  rw [List.zip_cons_cons]
  refine kat_cons (wpAny_eqBool_int (kat_go (fun h=>?_) fun h=>?_))
  ·have h:=eq_of_beq h
   subst h
   refine kat_yes (jQ (i + 1) hx hy (by rw [e]; simp) ?_)
   unfold ltL at q
   rw [if_pos rfl] at q
   exact q
  ·have h:=ne_of_beq_false h
   unfold ltL at q
   rw [if_neg h] at q
   refine kat_no ?_
   cases (b && i == 0) with
   | true=>exact oneLt_int q
   | false=>exact kat_one _ _ (PyProof.Rows.lt_int (show PySem.W.BoolBack Q (.bool (decide (x < y))) s from q))
structure RowAt (h:Heap) (v:Value) (row:List Int) (x:Addr) (ob:Obj) (its:Array Value) (n:Nat):Prop where
 e:v = .ref x
 g:h.get? x = some ob
 c:ob.cls = .type "tuple"
 d:ob.data = .seq its n
 i:IntsAre its.toList row
def Row1 (h:Heap) (v:Value) (row:List Int):Prop:=∃ x ob its n,RowAt h v row x ob its n
inductive Rows (h:Heap):List Value -> List (List Int) -> Prop
 | nil:Rows h [] []
 | cons {v vs row rows}:Row1 h v row -> Rows h vs rows -> Rows h (v :: vs) (row :: rows)
theorem Rows.len {h:Heap}:∀ {vs rows},Rows h vs rows -> vs.length = rows.length
 | _,_,.nil=>rfl
 | _,_,.cons _ t=>congrArg (· + 1) t.len
theorem Rows.get {h:Heap}:∀ {vs rows} {i:Nat},Rows h vs rows -> i < vs.length -> Row1 h (vs.getD i Value.none) (rows.getD i [])
 | _,_,_,.nil,hi=>absurd hi (by simp)
 | _,_,0,.cons r _,_=>r
 | _,_,i + 1,.cons _ t,hi=>by
  have:=t.get (i:=i) (by simpa using hi)
  exact this
theorem Rows.old {h h':Heap} (k:∀ x ob,h.get? x = some ob -> h'.get? x = some ob):∀ {vs rows},Rows h vs rows -> Rows h' vs rows
 | _,_,.nil=>.nil
 | _,_,.cons ⟨x,ob,its,n,r⟩ t=>.cons ⟨x,ob,its,n,r.e,k _ _ r.g,r.c,r.d,r.i⟩ (t.old k)
theorem Rows.tups {h:Heap}:∀ {vs rows},Rows h vs rows -> (∀ r ∈ rows,r ≠ []) -> ∃ fs,KatTups h vs fs /\ fs.length = vs.length /\ ∀ f ∈ fs,∃ n t,f = Value.int n t
 | _,_,.nil,_=>⟨[],.nil,rfl,fun f hf=>absurd hf (by simp)⟩
 | _,_,.cons ⟨x,ob,its,n,r⟩ t,ne=>by
  rename_i v vs row rows
  obtain ⟨fs,k,l,a⟩:=t.tups fun r hr=>ne r (List.mem_cons_of_mem _ hr)
  have hne:=ne row List.mem_cons_self
  obtain ⟨f,hf,n',t',rfl⟩:∃ f,its[0]? = some f /\ ∃ n t,f = Value.int n t:=by
   have hi:=r.i
   rw [← Array.getElem?_toList]
   revert hi
   generalize its.toList = us
   intro hi
   cases hi with
   | nil=>exact absurd rfl hne
   | cons n t _=>exact ⟨_,rfl,n,t,rfl⟩
  obtain rfl:=r.e
  exact ⟨Value.int n' t' :: fs,.cons r.g r.c r.d hf k,congrArg (· + 1) l,fun f hf=>by
   rcases List.mem_cons.mp hf with rfl | hf
   ·exact ⟨n',t',rfl⟩
   ·exact a f hf⟩
theorem Wk {rows:List (List Int)} (nd:rows.Nodup):OrdB rows.length (fun i j=>ltL (rows.getD i []) (rows.getD j [])) where
 tr:=WI
 as:=Xa
 to:=fun {i j} hi hj hne h=>by
  refine WJ (fun z=>hne ?_) h
  have e:∀ {i:Nat} (h:i < rows.length),rows.getD i [] = rows[i]:=fun h=>by rw [List.getD_eq_getElem?_getD,List.getElem?_eq_getElem h]; rfl
  rw [e hi,e hj] at z
  exact (List.getElem_inj nd).mp z
theorem Xb {vs:List Value} {rows:List (List Int)} {a:Addr} (r:Rows s.heap vs rows) (ne:∀ r ∈ rows,r ≠ []) (ha:∀ x ob,s.heap.get? x = some ob -> (∃ v ∈ vs,v = .ref x) -> x ≠ a) (h2:2 <= vs.length):Asks prog w A s a vs (fun i j=>ltL (rows.getD i []) (rows.getD j [])):=by
 refine ⟨tuples' (Value.type "int" != Value.type "tuple"),fun h' k=>?_⟩
 have r':Rows h' vs rows:=by
  have go:∀ {vs' rows'},Rows s.heap vs' rows' -> (∀ v ∈ vs',v ∈ vs) -> Rows h' vs' rows':=by
   intro vs' rows' q
   induction q with
   | nil=>intro _; exact .nil
   | cons q t ih =>
    intro sub
    obtain ⟨x,ob,its,n,q⟩:=q
    exact .cons ⟨x,ob,its,n,q.e,k x ob (ha x ob q.g ⟨_,sub _ List.mem_cons_self,q.e⟩) q.g,q.c,q.d,q.i⟩ (ih fun v hv=>sub v (List.mem_cons_of_mem _ hv))
  exact go r fun v hv=>hv
 obtain ⟨fs,kt,fl,fi⟩:=r'.tups ne
 refine ⟨fun Q E' q=>kat_kind (s:={ s with heap:=h' }) (T:=.type "int") kt (by omega) (fun v hv=>?_) (by simp) q,fun i j C hi hj c=>?_⟩
 ·obtain ⟨n,t,rfl⟩:=fi v hv
  exact Looks.of_pure rfl
 ·obtain ⟨x,ox,xs,n,p⟩:=r'.get hi
  obtain ⟨y,oy,ys,m,q⟩:=r'.get hj
  unfold kas_ask
  rw [p.e,q.e]
  have l1:xs.toList.length = (rows.getD i []).length:=by have:=(xy p.i).length; rw [List.length_map] at this; exact this.symm
  have l2:ys.toList.length = (rows.getD j []).length:=by have:=(xy q.i).length; rw [List.length_map] at this; exact this.symm
  refine kat_lt (s:={ s with heap:=h' }) p.g p.d q.g q.d (jQ 0 p.i q.i ?_ c)
  rw [← l1,← l2,Array.length_toList,Array.length_toList]
end
section
variable {X:Cx} {K:FG7}
theorem Xc {pins:List (Addr × Obj)} {σ:L2.St} {H:Hp} {s:Shared} (I:Inv X pins σ H s):∀ {zs:List V} {rows:List (List Int)} {vs:List Value},AllR (zI X.K H) zs rows -> Vals zs vs -> Rows s.heap vs rows
 | [],[],_,_,.nil=>.nil
 | z :: zs,row :: rows,_,⟨h,t⟩,.cons r rs=>by
  obtain ⟨b,rfl,hb⟩:=h
  obtain ⟨its,rv,⟨ob,eo,ec,m,ed⟩,_⟩:=I.tuple hb
  refine .cons ⟨b,ob,its.toArray,m,r,eo,ec,ed,?_⟩ (Xc I t rs)
  show IntsAre its row
  exact tq rv
 | [],_ :: _,_,h,_=>h.elim
 | _ :: _,[],_,h,_=>h.elim
theorem Xd {α:Type} {l:List α} {d:α} {is:List Nat} (h:is.Perm (List.range l.length)):(is.map fun i=>l.getD i d).Perm l:=by
 refine (h.map _).trans ?_
 have e:(List.range l.length).map (fun i=>l.getD i d) = l:=by
  refine List.ext_getElem? fun i=>?_
  rw [List.getElem?_map]
  by_cases h:i < l.length
  ·rw [List.getElem?_range h]
   show some (l.getD i d) = _
   rw [List.getD_eq_getElem?_getD,List.getElem?_eq_getElem h]; rfl
  ·rw [List.getElem?_eq_none (by rw [List.length_range]; omega),List.getElem?_eq_none (by omega)]; rfl
 rw [e]
end
section
variable {prog:Program} {w:World} {A:Around} {E:VS7} {s:Shared}
theorem Zt {l:Addr} {us:List Value} {Q:List Value -> Shared -> Prop} (tu:s.heap.IsList l us.toArray) (hu:us.length <= sizeLine)
  (q:Q us { s with heap:=(s.heap.push (seqObj "list" #[] 0)).update s.heap.objs.size (Obj.mapSeq (· ++ us.toArray)) }):wpAny (model prog w) A (collect (.ref l)) Q E s:=by
 obtain ⟨ob,eo,ec,m,ed⟩:=id tu
 have eo2:(s.heap.push (seqObj "list" #[] 0)).get? l = some ob:=Heap.get?_push_of_some _ eo
 unfold collect
 refine wpAny_bind (wpAny_runValue (codeAny_builtin entry_proto_collect' (show wpAny _ _ (do again (.builtin "list.__iadd__" ⟨[← newList [],.ref l],[]⟩)) _ _ s from ?_)))
 refine wpAny_bind (wpAny_newList (wpAny_pure ⟨Code.quiet_builtin _ (by decide +kernel),codeAny_builtin entry_list_iadd' (show wpAny _ _ (Builtin.List.listExtendWith (.ref s.heap.objs.size) (.ref l) (.ref s.heap.objs.size)) _ _ { s with heap:=s.heap.push (seqObj "list" #[] 0) } from ?_)⟩))
 unfold Builtin.List.listExtendWith
 refine wpAny_bind (wpAny_typeOf (T:="list") ⟨ob,eo2,ec⟩ ?_)
 have k1:(Value.type "list" == Value.type "list") = true:=rfl
 rw [if_pos (by simp [k1])]
 refine wpAny_bind (listItems_at eo2 ed (wpAny_bind (listItems_at (xs:=#[]) (n:=0) (Heap.get?_push_size _ rfl) rfl ?_)))
 rw [if_neg (by simp)]
 refine wpAny_bind (listUpdate_at (xs:=#[]) (n:=0) (Heap.get?_push_size _ rfl) rfl (wpAny_pure ?_) (Nat.zero_le _) (by show (#[] ++ us.toArray).size <= sizeLine + 1; simp only [Array.size_append,List.size_toArray,List.length_nil]; omega))
 refine wpAny_bind (wpAny_load (get?_update_seq (Heap.get?_push_size _ rfl) _) ?_)
 show wpAny _ _ (pure ((#[]:Array Value) ++ us.toArray).toList) Q E _
 rw [show ((#[]:Array Value) ++ us.toArray).toList = us by simp]
 exact wpAny_pure q
theorem sB {l:Addr} {vs:List Value} {Q:VS7} {lt:Nat -> Nat -> Bool} (tu:s.heap.IsList l vs.toArray) (few:vs.length < 64) (o:OrdB vs.length lt)
  (asks:2 <= vs.length -> ∀ s':Shared,(∀ b ob,s.heap.get? b = some ob -> s'.heap.get? b = some ob /\ b ≠ s.heap.objs.size + 1) -> Asks prog w A.in1.in1 s' (s.heap.objs.size + 1) vs lt)
  (fin:∀ p,PmA vs.length p -> Ups lt p vs.length -> Q (.ref (s.heap.objs.size + 1)) { s with heap:=sortedAll s.heap vs (List.toArray (p.toList.map fun i=>vs.getD i Value.none)) }) :
  wpAny (model prog w) A (call (.builtin "sorted") [.ref l]) Q E s:=by
 refine Calls.call_function_entry kind_sorted plain_sorted entry_sorted (args_sorted1 _) ?_
 unfold Builtin.«sorted»
 refine wpAny_bind (m:=checkCount "sorted" 1 1 _) (wpAny_pure (wpAny_bind (Zt tu (by rw [sizeLine_eq]; omega) (wpAny_bind (wpAny_newList ?_ (by rw [sizeLine_eq]; omega))))))
 have e1:((s.heap.push (seqObj "list" #[] 0)).update s.heap.objs.size (Obj.mapSeq (· ++ vs.toArray))).objs.size = s.heap.objs.size + 1:=by rw [Heap.size_update,size_push']
 have e2:(((s.heap.push (seqObj "list" #[] 0)).update s.heap.objs.size (Obj.mapSeq (· ++ vs.toArray))).push (seqObj "list" vs.toArray 0)).get? (s.heap.objs.size + 1) = some (seqObj "list" vs.toArray 0):=by
  rw [← e1]; exact Heap.get?_push_size _ rfl
 show wpAny _ _ _ _ _ { s with heap:=((s.heap.push (seqObj "list" #[] 0)).update s.heap.objs.size (Obj.mapSeq (· ++ vs.toArray))).push (seqObj "list" vs.toArray 0) }
 rw [e1]
 refine wpAny_bind (wpAny_holding (wpAny_call_entry slot_list_sort ⟨_,e2,rfl⟩ entry_list_sort (Y9 (s:={ s with heap:=((s.heap.push (seqObj "list" #[] 0)).update s.heap.objs.size (Obj.mapSeq (· ++ vs.toArray))).push (seqObj "list" vs.toArray 0) }) e2 few o (fun h2=>asks h2 _ fun b ob e=>⟨?_,?_⟩) fun p hp u=>⟨_,rfl,wpAny_pure ⟨_,rfl,fin p hp u⟩⟩) (args_list_sort _)))
 ·have lo:b < s.heap.objs.size:=Heap.lt_size e
  refine Heap.get?_push_of_some _ ?_
  rw [Heap.get?_update_ne _ _ _ _ (Nat.ne_of_lt lo)]
  exact Heap.get?_push_of_some _ e
 ·exact Nat.ne_of_lt (Nat.lt_succ_of_lt (Heap.lt_size e))
end
section
variable {X:Cx} {K:FG7}
def Vi (K:FG7):List V -> Hp -> VK -> Prop:=fun xs H Q=>∃ (l:Addr) (zs:List V) (rows:List (List Int)),xs = [.ref l] /\ SqL K H l zs /\ AllR (zI K H) zs rows /\ rows.Nodup /\ (∀ r ∈ rows,r ≠ []) /\ rows.length < 64 ∧
 ∀ (p:Addr) (zs':List V) (rows':List (List Int)),H p = none -> rows'.Perm rows -> rows'.Pairwise (fun x y=>ltL x y = true) -> AllR (zI K H) zs' rows' -> Q (.ref p) (upd H p (.lst zs'))
theorem qS (hK:X.K = K):yY X (.builtin "sorted") (Vi K):=by
 subst hK
 intro pins s σ H xs us Q I r h
 obtain ⟨l,zs,rows,rfl,hl,hr,nd,ne,few,q⟩:=h
 obtain ⟨u,rfl,rx⟩:=xY r
 cases (show u = Value.ref l from rx)
 obtain ⟨vs,rv,pl,hz⟩:=I.list hl
 have e1:=rv.length
 have e2:=hr.len
 have R:=Xc I hr rv
 have e3:=R.len
 have o:=Wk nd
 rw [← e3] at o
 refine sB pl.isList (by omega) o (fun h2 s' k=>Xb (R.old fun x ob e=>(k x ob e).1) ne (fun x ob e ⟨v,hv,ev⟩=>?_) h2) fun p hp u=>?_
 ·subst ev
  obtain ⟨i,hi,ei⟩:=List.getElem_of_mem hv
  obtain ⟨x',ob',its,n,p⟩:=R.get hi
  have ex:vs.getD i Value.none = .ref x:=by rw [List.getD_eq_getElem?_getD,List.getElem?_eq_getElem hi,ei]; rfl
  rw [ex] at p
  cases p.e
  exact (k _ _ p.g).2
 ·obtain ⟨e,he⟩:=sortedAll_at s.heap vs (List.toArray (p.toList.map fun i=>vs.getD i Value.none))
  have hn:H (s.heap.objs.size + 1) = none:=I.hok.fresh (Nat.le_succ _)
  have mem:∀ i ∈ p.toList,i < vs.length:=fun i hi=>List.mem_range.mp (hp.pm.mem_iff.mp hi)
  have rl:∀ is:List Nat,(∀ i ∈ is,i < vs.length) -> Vals (is.map fun i=>zs.getD i .non) (is.map fun i=>vs.getD i Value.none):=by
   intro is
   induction is with
   | nil=>intro _; exact .nil
   | cons i is ih =>
    intro hm
    have hi:=hm i List.mem_cons_self
    refine .cons ?_ (ih fun j hj=>hm j (List.mem_cons_of_mem _ hj))
    obtain ⟨u,hu,ru⟩:=rv.get (List.getElem?_eq_getElem (show i < zs.length by omega))
    dsimp only
    rw [List.getD_eq_getElem?_getD,List.getD_eq_getElem?_getD,hu,List.getElem?_eq_getElem (show i < zs.length by omega)]
    exact ru
  have al:∀ is:List Nat,(∀ i ∈ is,i < vs.length) -> AllR (zI X.K H) (is.map fun i=>zs.getD i .non) (is.map fun i=>rows.getD i []):=by
   intro is
   induction is with
   | nil=>intro _; trivial
   | cons i is ih =>
    intro hm
    have hi:=hm i List.mem_cons_self
    refine ⟨?_,ih fun j hj=>hm j (List.mem_cons_of_mem _ hj)⟩
    obtain ⟨row,hrow,br⟩:=hr.get (List.getElem?_eq_getElem (show i < zs.length by omega))
    dsimp only
    rw [List.getD_eq_getElem?_getD,List.getD_eq_getElem?_getD,hrow,List.getElem?_eq_getElem (show i < zs.length by omega)]
    exact br
  have hpm:p.toList.Perm (List.range rows.length):=by rw [← e3]; exact hp.pm
  have pw:(p.toList.map fun i=>rows.getD i []).Pairwise (fun x y=>ltL x y = true):=by
   rw [List.pairwise_map,List.pairwise_iff_getElem]
   intro i j hi hj hij
   have g:∀ {i:Nat} (h:i < p.toList.length),p.getD i 0 = p.toList[i]:=fun {i} h=>by
    have h':i < p.size:=by simpa using h
    simp [Array.getD,h']
   have:=u i j hij (by rw [← hp.sz,← Array.length_toList]; exact hj)
   rw [g hi,g hj] at this
   exact this
  refine ⟨.ref (s.heap.objs.size + 1),_,?_,rfl,q _ (p.toList.map fun i=>zs.getD i .non) _ hn (Xd hpm) pw (al _ mem)⟩
  refine I.laid (t':=s.toks) (fun b o q=>sortedAll_old q) (Nat.le_succ _) (show yr X.prog X.w _ _ _ (.lst (p.toList.map fun i=>zs.getD i .non)) from ⟨by rw [List.length_map,Array.length_toList,hp.sz]; have:=sizeLine_eq; omega,_,e,rl _ mem,he⟩)
end
def xD (cs:List Call72):List (List Int):=(List.range cs.length).map fun k=>[(cg cs k).ended,(k:Int)]
open Classical in
noncomputable def srtR73 (cs:List Call72):List (List Int):=if h:∃ l:List (List Int),l.Perm (xD cs) /\ l.Pairwise (fun x y=>ltL x y = true) then Classical.choose h else []
noncomputable def xE (cs:List Call72):List Nat:=(srtR73 cs).map fun r=>(r.getD 1 0).toNat
def wn (cs:List Call72):Prop:=∃ l:List (List Int),l.Perm (xD cs) /\ l.Pairwise (fun x y=>ltL x y = true)
theorem uK {cs:List Call72} {l:List (List Int)} (hp:l.Perm (xD cs)) (hs:l.Pairwise (fun x y=>ltL x y = true)):srtR73 cs = l:=by
 have h:∃ l:List (List Int),l.Perm (xD cs) /\ l.Pairwise (fun x y=>ltL x y = true):=⟨l,hp,hs⟩
 unfold srtR73
 rw [dif_pos h]
 have c:=Classical.choose_spec h
 exact jP c.2 hs (c.1.trans hp.symm)
theorem qT {cs:List Call72}:(xD cs).map (fun r=>(r.getD 1 0).toNat) = List.range cs.length:=by
 unfold xD
 rw [List.map_map]
 exact (List.map_congr_left fun k _=>Int.toNat_natCast k).trans (List.map_id _)
theorem Zu {cs:List Call72} (h:wn cs):(xE cs).Perm (List.range cs.length):=by
 obtain ⟨l,hp,hs⟩:=h
 unfold xE
 rw [uK hp hs,← qT]
 exact hp.map _
theorem Wl {cs:List Call72} (h:wn cs):(xE cs).Pairwise (fun a b=>(cg cs a).ended <= (cg cs b).ended):=by
 obtain ⟨l,hp,hs⟩:=h
 unfold xE
 rw [uK hp hs,List.pairwise_map]
 refine List.Pairwise.imp_of_mem (fun {a b} ha hb hlt=>?_) hs
 obtain ⟨i,_,rfl⟩:=List.mem_map.mp (hp.mem_iff.mp ha)
 obtain ⟨j,_,rfl⟩:=List.mem_map.mp (hp.mem_iff.mp hb)
 show (cg cs ((i:Int)).toNat).ended <= (cg cs ((j:Int)).toNat).ended
 rw [Int.toNat_natCast,Int.toNat_natCast]
 have hlt':(if (cg cs i).ended = (cg cs j).ended then ltL [(i:Int)] [(j:Int)] else decide ((cg cs i).ended < (cg cs j).ended)) = true:=hlt
 split at hlt'
 ·omega
 ·have:=of_decide_eq_true hlt'; omega
def uL (cs:List Call72) (b:List Int) (x:Nat):Option (List Nat):=YT cs (sx cs (nb73 cs x)) b
noncomputable def qU (cs:List Call72) (b:List Int):Option (List Nat) :=
 if (List.range b.length).all (fun x=>(uL cs b x).isSome) = true then some (yt cs (xE cs) ((List.range b.length).map fun x=>(uL cs b x).getD [])) else none
def jR (b:List Int) (cs:List Call72) (ns:List Nat):Prop:=ns.Perm (List.range cs.length) /\ kl72 cs ns = true /\ an72 cs b ns = true
theorem Xe {m:Nat} {cs:List Call72} (C:Calls72 m cs) {k:Nat} (h:k < cs.length):CallOk72 m (cg cs k):=C.ok _ (WB h)
theorem xK {m:Nat} {cs:List Call72} (C:Calls72 m cs):∀ k < cs.length,0 <= (cg cs k).box /\ (cg cs k).box.toNat < m /\ (cg cs k).begun <= (cg cs k).ended:=fun k h=>by
 have o:=Xe C h
 have:=o.b0; have:=o.b1
 exact ⟨o.b0,by omega,o.t1⟩
theorem qV {cs:List Call72} {b:List Int} {x:Nat} {o:List Nat} (h:uL cs b x = some o):o.Perm (nb73 cs x) /\ kl72 cs o = true /\ an72 cs b o = true:=by
 obtain ⟨vs,hr,hl⟩:=Zn h
 have hp:=hr.perm hl
 rw [rG] at hp
 exact ⟨hp,Wc hr,Wa hr⟩
theorem uM {cs:List Call72} {b:List Int} {x:Nat} (C:Calls72 b.length cs) (h:uL cs b x = none) {o:List Nat} (hp:o.Perm (nb73 cs x)) (hk:kl72 cs o = true) (ha:an72 cs b o = true):False:=by
 obtain ⟨ws,hr⟩:=rH (cs:=cs) (ns:=nb73 cs x) (b:=b) (fun k hk=>(xK C k (yf.mp hk).1).2.2) (r:=o) (p:=[]) (vs:=b) (fun y=>by rw [List.nil_append]; exact hp.mem_iff) (by rw [List.nil_append]; exact hp.nodup_iff.mpr wz) .nil hk ha
 exact Zo h hr (by rw [List.nil_append,YX]; exact hp.length_eq)
theorem Xf {cs:List Call72} {b:List Int} {ns:List Nat} (C:Calls72 b.length cs) (h:jR b cs ns) {x:Nat} (hx:x < b.length):(ns.filter (yL cs x)).Perm (nb73 cs x) /\ kl72 cs (ns.filter (yL cs x)) = true /\ an72 cs b (ns.filter (yL cs x)) = true:=by
 obtain ⟨hp,hk,ha⟩:=h
 exact ⟨hp.filter _,yD.mpr ((yD.mp hk).sublist List.filter_sublist),uF (fun k hk'=>(xK C k (List.mem_range.mp (hp.mem_iff.mp hk'))).1) hx ha⟩
theorem Zv {cs:List Call72} {b:List Int} (C:Calls72 b.length cs) (h:qU cs b = none):¬ ∃ ns,jR b cs ns:=by
 rintro ⟨ns,hf⟩
 unfold qU at h
 split at h
 ·cases h
 rename_i hn
 refine hn (List.all_eq_true.mpr fun x hx=>?_)
 cases e:uL cs b x with
 | some o=>rfl
 | none =>
  obtain ⟨h1,h2,h3⟩:=Xf C hf (List.mem_range.mp hx)
  exact (uM C e h1 h2 h3).elim
def WK (K:FG7) (H:Hp) (x:(Int × List Int) × Addr × V) (e:En73):Prop:=x.1 = ((e.1.1:Int),e.1.2) /\ yO K H x.2.2 e.2
abbrev WL (K:FG7) (H:Hp):List ((Int × List Int) × Addr × V) -> List En73 -> Prop:=Paired (WK K H)
theorem WL.get {K:FG7} {H:Hp} {kvs:List ((Int × List Int) × Addr × V)} {E:List En73} {i:Nat} {x:(Int × List Int) × Addr × V} (h:WL K H kvs E) (hx:kvs[i]? = some x):∃ e,E[i]? = some e /\ WK K H x e:=by
 induction h generalizing i with
 | nil=>cases hx
 | @cons y e ys es h t ih =>
  cases i with
  | zero=>cases hx; exact ⟨e,rfl,h⟩
  | succ i=>exact ih hx
def sC (K:FG7):Sp:=sp2 fun x y H Q=>∃ b cs,zI K H x b /\ zC K H y cs /\ b.length <= 16 /\ Calls72 b.length cs ∧
 ∀ l zs H',Grow [] H H' -> H l = none -> H' l = some (.lst zs) -> VY H' zs ((List.range b.length).map (nb73 cs)) -> Q (.ref l) H'
theorem yP {α:Type} {l:List α} {i:Nat} {x:α} (h:l[i]? = some x):l.take (i + 1) = l.take i ++ [x]:=by rw [List.take_succ,h]; rfl
theorem Grow.setE73 {m:List Addr} {H:Hp} {d:Addr} {φ:Heap -> Prop} {o:HO} (h:H d = some (.ext φ)) (hm:d ∈ m):Grow m H (upd H d o) :=
 ⟨fun b v hb q=>by rw [zo (show b ≠ d from fun z=>hb (by rw [z]; exact hm))]; exact q,fun b zs q=>by rw [zo (fun z=>by subst z; rw [h] at q; cases q)]; exact q,fun b u v q=>by rw [zo (fun z=>by subst z; rw [h] at q; cases q)]; exact q⟩
theorem wo {cs:List Call72} {i x:Nat}:(List.range (i + 1)).filter (yL cs x) = (List.range i).filter (yL cs x) ++ if (cg cs i).box = (x:Int) then [i] else []:=by
 rw [List.range_succ,List.filter_append]
 congr 1
 by_cases c:(cg cs i).box = (x:Int)
 ·rw [if_pos c,List.filter_cons,if_pos (decide_eq_true c)]; rfl
 ·rw [if_neg c,List.filter_cons,if_neg (by rw [decide_eq_true_eq]; exact c)]; rfl
theorem Wm {c x:Nat} {own tog:List Nat} (h:c ∈ x :: own):yF c (x :: own) tog = yF c own (tog ++ [x]):=by
 show (if c ∈ x :: own then yF c own (tog ++ [x]) else (x :: own,tog)) = _
 rw [if_pos h]
theorem Xg {c:Nat} {own tog:List Nat} (h:c ∉ own):yF c own tog = (own,tog):=by
 cases own with
 | nil=>rfl
 | cons x own =>
  show (if c ∈ x :: own then yF c own (tog ++ [x]) else (x :: own,tog)) = _
  rw [if_neg h]
theorem rR {cs:List Call72}:(xD cs).Nodup:=by
 unfold xD
 exact List.pairwise_map.mpr (List.nodup_range.imp fun {a b} h z=>h (by injection z with _ z; injection z with z _; omega))
theorem Zw {k:Nat} {ns:List Nat}:inV (V.int (k:Int)) (zp ns) = decide (k ∈ ns):=by
 rw [zU,XU]
 refine decide_eq_decide.mpr ⟨fun h=>?_,fun h=>List.mem_map.mpr ⟨k,h,rfl⟩⟩
 obtain ⟨j,hj,e⟩:=List.mem_map.mp h
 have:j = k:=Int.ofNat.inj e
 rw [← this]; exact hj
theorem rS {b:List Int} {cs:List Call72} {ns:List Nat}:XY b cs (.tuple (ns.map fun k:Nat=>PyData.int (k:Int))) ↔ jR b cs ns:=by
 constructor
 ·rintro ⟨ms,⟨e,hp⟩,h1,h2⟩
  injection e with e
  rw [xc e]
  exact ⟨hp,h1,h2⟩
 ·rintro ⟨hp,h1,h2⟩
  exact ⟨ns,⟨rfl,hp⟩,h1,h2⟩
theorem Zx {a b:List Nat} (h:(a.map fun k:Nat=>(k:Int)) = b.map fun k:Nat=>(k:Int)):a = b:=List.map_inj_right (fun _ _ z=>Int.ofNat.inj z) |>.mp h
def yH (cs:List Call72) (left:List Nat) (v:Int) (k:Nat):Bool:=decide ((cg cs k).answer = v) && !(left.any fun j=>decide ((cg cs j).ended < (cg cs k).begun))
def wo73 (left:List Nat) (k:Nat):List Nat:=left.filter fun j=>!decide (j = k)
def Xh (cs:List Call72):Nat -> List Nat -> Int -> Bool
 | _,[],_=>true
 | 0,_ :: _,_=>false
 | n + 1,x :: r,v=>(x :: r).any fun k=>yH cs (x :: r) v k && Xh cs n (wo73 (x :: r) k) ((cg cs k).deed.mk' v)
def zZ (cs:List Call72) (left:List Nat) (v:Int):Bool:=Xh cs left.length left v
theorem vm:∀ {left:List Nat} {k:Nat},left.Nodup -> k ∈ left -> (wo73 left k).length + 1 = left.length
 | x :: r,k,nd,h=>by
  obtain ⟨nx,nd'⟩:=List.nodup_cons.mp nd
  unfold wo73
  by_cases c:x = k
  ·subst c
   rw [List.filter_cons,if_neg (by simp)]
   have:r.filter (fun j=>!decide (j = x)) = r:=List.filter_eq_self.mpr fun j hj=>by
    have:j ≠ x:=fun z=>nx (by rw [← z]; exact hj)
    simp [this]
   rw [this]; rfl
  ·have hk:k ∈ r:=(List.mem_cons.mp h).resolve_left fun z=>c z.symm
   rw [List.filter_cons,if_pos (by simp [c])]
   have:=vm nd' hk
   unfold wo73 at this
   rw [List.length_cons,List.length_cons]; omega
theorem yS {left:List Nat} {k j:Nat}:j ∈ wo73 left k ↔ j ∈ left /\ j ≠ k:=by
 unfold wo73
 rw [List.mem_filter]
 simp
theorem xF {left:List Nat} {k:Nat} (h:left.Nodup):(wo73 left k).Nodup:=h.sublist List.filter_sublist
theorem qW {l:List Nat} {p q:Nat -> Bool} (h:∀ x ∈ l,p x = q x):l.any p = l.any q:=by
 induction l with
 | nil=>rfl
 | cons a l ih=>rw [List.any_cons,List.any_cons,h a (List.mem_cons_self ..),ih fun x hx=>h x (List.mem_cons_of_mem _ hx)]
theorem wT {cs:List Call72} {left:List Nat} {v:Int} (hne:left ≠ []) (nd:left.Nodup):zZ cs left v = left.any fun k=>yH cs left v k && zZ cs (wo73 left k) ((cg cs k).deed.mk' v):=by
 cases left with
 | nil=>exact absurd rfl hne
 | cons x r =>
  show ((x :: r).any fun k=>yH cs (x :: r) v k && Xh cs r.length (wo73 (x :: r) k) ((cg cs k).deed.mk' v)) = _
  refine qW fun k hk=>?_
  have:=vm nd hk
  rw [List.length_cons] at this
  unfold zZ
  rw [show (wo73 (x :: r) k).length = r.length by omega]
def wp (cs:List Call72):Int -> List Nat -> Bool
 | _,[]=>true
 | v,k :: r=>if v = (cg cs k).answer then wp cs ((cg cs k).deed.mk' (cg cs k).answer) r else false
theorem wB {cs:List Call72} {x:Nat}:∀ {o:List Nat} {vs:List Int},(∀ k ∈ o,(cg cs k).box = (x:Int)) -> x < vs.length -> an72 cs vs o = wp cs (vs.getD x 0) o
 | [],_,_,_=>rfl
 | k :: r,vs,hb,hv=>by
  have hk:=hb k (List.mem_cons_self ..)
  have ek:(cg cs k).box.toNat = x:=by rw [hk]; exact Int.toNat_natCast x
  rw [xa,ek]
  show _ = if vs.getD x 0 = (cg cs k).answer then wp cs ((cg cs k).deed.mk' (cg cs k).answer) r else false
  split
  ·rw [wB (fun j hj=>hb j (List.mem_cons_of_mem _ hj)) (by rw [List.length_set]; exact hv),yi hv]
  ·rfl
theorem uN {cs:List Call72}:∀ {n:Nat} {left:List Nat} {v:Int},left.length = n -> left.Nodup -> (∀ k ∈ left,(cg cs k).begun <= (cg cs k).ended) -> (zZ cs left v = true ↔ ∃ o:List Nat,o.Perm left /\ kl72 cs o = true /\ wp cs v o = true)
 | 0,left,v,hl,_,_=>by
  rw [List.length_eq_zero_iff.mp hl]
  exact ⟨fun _=>⟨[],List.Perm.refl _,rfl,rfl⟩,fun _=>rfl⟩
 | n + 1,left,v,hl,nd,ok=>by
  have hne:left ≠ []:=fun z=>by rw [z] at hl; cases hl
  rw [wT hne nd,List.any_eq_true]
  constructor
  ·rintro ⟨k,hk,h⟩
   rw [Bool.and_eq_true] at h
   obtain ⟨h1,h2⟩:=h
   unfold yH at h1
   rw [Bool.and_eq_true,decide_eq_true_eq,Bool.not_eq_true',List.any_eq_false] at h1
   have wl:=vm nd hk
   obtain ⟨o,ho,hk1,hc1⟩:=(uN (n:=n) (by omega) (xF nd) fun j hj=>ok j (yS.mp hj).1).mp h2
   refine ⟨k :: o,?_,?_,?_⟩
   ·refine wg (List.nodup_cons.mpr ⟨fun z=>(yS.mp (ho.mem_iff.mp z)).2 rfl,ho.nodup_iff.mpr (xF nd)⟩) (fun j hj=>?_) (by rw [List.length_cons,ho.length_eq]; omega)
    rcases List.mem_cons.mp hj with rfl | hj
    ·exact hk
    ·exact (yS.mp (ho.mem_iff.mp hj)).1
   ·refine yD.mpr (List.pairwise_cons.mpr ⟨fun j hj=>?_,yD.mp hk1⟩)
    have:=h1.2 j (yS.mp (ho.mem_iff.mp hj)).1
    unfold NA73
    simpa using this
   ·show (if v = (cg cs k).answer then wp cs ((cg cs k).deed.mk' (cg cs k).answer) o else false) = true
    rw [if_pos h1.1.symm,h1.1]
    exact hc1
  ·rintro ⟨o,ho,hk1,hc1⟩
   cases o with
   | nil=>exact absurd (List.Perm.eq_nil ho.symm) hne
   | cons k o =>
    have hk:k ∈ left:=ho.mem_iff.mp (List.mem_cons_self ..)
    obtain ⟨kn,nd'⟩:=List.nodup_cons.mp (ho.nodup_iff.mpr nd)
    have wl:=vm nd hk
    have pw:=List.pairwise_cons.mp (yD.mp hk1)
    have hc2:(if v = (cg cs k).answer then wp cs ((cg cs k).deed.mk' (cg cs k).answer) o else false) = true:=hc1
    by_cases c:v = (cg cs k).answer
    ·rw [if_pos c] at hc2
     have po:o.Perm (wo73 left k):=wg nd' (fun j hj=>yS.mpr ⟨ho.mem_iff.mp (List.mem_cons_of_mem _ hj),fun z=>kn (by rw [← z]; exact hj)⟩) (by have:=ho.length_eq; rw [List.length_cons] at this; omega)
     refine ⟨k,hk,?_⟩
     rw [Bool.and_eq_true]
     refine ⟨?_,(uN (n:=n) (by omega) (xF nd) fun j hj=>ok j (yS.mp hj).1).mpr ⟨o,po,yD.mpr pw.2,by rw [c]; exact hc2⟩⟩
     unfold yH
     rw [Bool.and_eq_true,decide_eq_true_eq,Bool.not_eq_true',List.any_eq_false]
     refine ⟨c.symm,fun j hj=>?_⟩
     rw [decide_eq_true_eq]
     rcases List.mem_cons.mp (ho.mem_iff.mpr hj) with rfl | hj
     ·have:=ok j hk; omega
     ·exact pw.1 j hj
    ·rw [if_neg c] at hc2; cases hc2
theorem Xi {cs:List Call72} {b:List Int} {x:Nat} (C:Calls72 b.length cs) (hx:x < b.length):zZ cs (nb73 cs x) (b.getD x 0) = (uL cs b x).isSome:=by
 have ci:=uN (cs:=cs) (left:=nb73 cs x) (v:=b.getD x 0) rfl wz fun k hk=>(xK C k (yf.mp hk).1).2.2
 rw [Bool.eq_iff_iff,ci]
 constructor
 ·rintro ⟨o,ho,hk,hc⟩
  cases e:uL cs b x with
  | some o'=>rfl
  | none=>exact (uM C e ho hk (by rw [wB (fun k hk=>(yf.mp (ho.mem_iff.mp hk)).2) hx]; exact hc)).elim
 ·intro h
  obtain ⟨o,ho⟩:=Option.isSome_iff_exists.mp h
  obtain ⟨h1,h2,h3⟩:=qV ho
  exact ⟨o,h1,h2,by rw [← wB (fun k hk=>(yf.mp (h1.mem_iff.mp hk)).2) hx]; exact h3⟩
def fz73:Nat -> Nat
 | 0=>0
 | n + 1=>1 + (n + 1) * fz73 n
theorem Vj {n:Nat} (h:n <= 8):fz73 n <= 200000:=by
 have key:∀ n:Fin 9,fz73 n.val <= 200000:=by decide +kernel
 exact key ⟨n,by omega⟩
theorem xG {K:FG7} {H:Hp}:∀ (ns:List Nat),DqAll K H (ns.map fun k:Nat=>V.int (k:Int)) (ns.map fun k:Nat=>PyData.int (k:Int))
 | []=>.nil
 | k :: ns=>.cons (.int _) (xG ns)
theorem Zy (n:Nat):(List.replicate n true).all id = true:=by
 rw [List.all_eq_true]
 intro x hx
 rw [(List.mem_replicate.mp hx).2]; rfl
def rT (K:FG7):Sp:=sp4 fun x y z u H Q=>∃ (p:Addr) (n m:Nat) (w:Bool),x = .ref p /\ y = .int n /\ z = .int m /\ u = .bl w /\ Pot H p /\ 1 <= n /\ n <= 6 /\ m <= 8 * n /\ m <= 40 ∧
 ∀ (b:List Int) (cs:List Call72) (xs:List V) (r rb l:Addr) H',Hist72 n b cs -> cs.length = m -> Grow [p] H H' -> Pot H' p -> SqT K H' r [.ref rb,.ref l] -> SqT K H' rb (b.map V.int) -> H' l = some (.lst xs) -> l ≠ p -> AllR (yu K H') xs cs -> Q (.ref r) H'
theorem Xj {n:Nat} {b:List Int} {cs:List Call72} {ms:List Nat} (h:Hist72 n b cs) (hp:ms.Perm (List.range cs.length)):(qU (ms.map (cg cs)) b).isSome = true:=by
 have hC:Calls72 b.length (ms.map (cg cs)):=by rw [h.bl]; exact h.ok.perm (wO hp)
 cases e:qU (ms.map (cg cs)) b with
 | some o=>rfl
 | none=>exact (Zv hC e ⟨(List.range cs.length).map fun j=>ms.idxOf j,rS.mp (X4 h hp)⟩).elim
theorem vV {α:Type}:∀ {l:List α} {j:Nat} (h:j < l.length),(l[j] :: l.eraseIdx j).Perm l
 | [],_,h=>absurd h (by simp)
 | a :: l,0,_=>List.Perm.refl _
 | a :: l,j + 1,h=>(List.Perm.swap a _ _).trans ((vV (l:=l) (j:=j) (by simpa using h)).cons a)
theorem Zz {β:Type} {R:V -> β -> Prop} {zs xs:List V} (h:zs.Perm xs):∀ {ks:List β},AllR R xs ks -> ∃ ks':List β,ks'.Perm ks /\ AllR R zs ks':=by
 induction h with
 | nil=>intro ks a; cases ks with
  | nil=>exact ⟨[],List.Perm.refl _,trivial⟩
  | cons k ks=>exact a.elim
 | cons x _ ih=>intro ks a; cases ks with
  | nil=>exact a.elim
  | cons k ks =>
   obtain ⟨ks',h1,h2⟩:=ih a.2
   exact ⟨k :: ks',h1.cons k,a.1,h2⟩
 | swap x y l=>intro ks a; cases ks with
  | nil=>exact a.elim
  | cons k ks=>cases ks with
   | nil=>exact a.2.elim
   | cons k2 ks=>exact ⟨k2 :: k :: ks,List.Perm.swap ..,a.2.1,a.1,a.2.2⟩
 | trans _ _ ih1 ih2 =>
  intro ks a
  obtain ⟨k1,p1,a1⟩:=ih2 a
  obtain ⟨k2,p2,a2⟩:=ih1 a1
  exact ⟨k2,p2.trans p1,a2⟩
theorem uO {zs:List V} {ns:List Nat} (h:zs.Perm (zp ns)):∃ ms:List Nat,ms.Perm ns /\ zs = zp ms:=by
 have a0:∀ ns:List Nat,AllR (fun (v:V) (k:Nat)=>v = .int k) (zp ns) ns:=fun ns=>by
  induction ns with
  | nil=>trivial
  | cons k ns ih=>exact ⟨rfl,ih⟩
 obtain ⟨ms,h1,h2⟩:=Zz h (a0 ns)
 refine ⟨ms,h1,?_⟩
 clear h h1 a0
 induction zs generalizing ms with
 | nil=>cases ms with
  | nil=>rfl
  | cons k ms=>exact h2.elim
 | cons z zs ih=>cases ms with
  | nil=>exact h2.elim
  | cons k ms=>rw [h2.1,ih ms h2.2]; rfl
def uP (K:FG7):Sp:=sp2 fun x y H Q=>∃ (p:Addr) (xs:List V),x = .ref p /\ Pot H p /\ (∃ r,y = .ref r /\ (SqL K H r xs \/ SqT K H r xs)) /\ xs.length <= 40 /\ ∀ l zs H',zs.Perm xs -> Grow [p] H H' -> Pot H' p -> H l = none -> l ≠ p -> H' l = some (.lst zs) -> Q (.ref l) H'
def spX3 (f:V -> V -> V -> Hp -> VK -> XK -> Prop):Sp:=fun vs H Q E=>∃ x y z,vs = [x,y,z] /\ f x y z H Q E
theorem jS {f:V -> V -> V -> Hp -> VK -> XK -> Prop} {p q r:Str}:∀ vs H Q E,spX3 f vs H Q E -> vs.length = [p,q,r].length:=by rintro vs H Q E ⟨x,y,z,rfl,_⟩; rfl
def Vk (h:Heap) (e:Addr):Prop:=∃ o vs,h.get? e = some o /\ o.data = .fields vs /\ vs[2]? = some .none
theorem sD:entryFor table "proto.unchain" = some Builtin.«proto.unchain»:=entryFor_of_fast (by kernel_rfl)
section
variable {prog:Program} {w:World} {A:Around} {E:VS7} {s:Shared}
theorem ZA {e x:Addr} {Q:VS7} (hn:Vk s.heap e) (h:Q .none s):wpAny (model prog w) A (runValue (.builtin "proto.unchain" ⟨[.ref x,.ref e,.ref e,.bool false],[]⟩)) Q E s:=by
 obtain ⟨o,vs,ho,hd,h2⟩:=hn
 refine wpAny_runValue (codeAny_builtin sD ?_)
 show wpAny _ _ (field (.ref e) 2 >>= _) _ _ s
 refine wpAny_bind (wpAny_field ho hd h2 ?_)
 exact wpAny_pure h
theorem v3 {it l e:Addr} {i:Nat} {items:Array Value} {Q:Option Value -> Shared -> Prop} (hh:A.handled = some (.ref e)) (hne:e ≠ it) (hn:Vk s.heap e)
  (hit:s.heap.IsListIter it l i) (hl:s.heap.IsList l items) (hx:items[i]? = none)
  (hQ:∀ h',Heap.ExtBut it s.heap h' -> Q none { s with heap:=h' }):wpAny (model prog w) A (pyNext (.ref it)) Q E s:=by
 obtain ⟨o,ho,hc,hd⟩:=id hit
 obtain ⟨ol,hol,_,nl,hdl⟩:=hl
 unfold pyNext
 refine wpAny_bind (wpAny_attempt (wpAny_callSpecial?_slot (name:=Str.ofString "__next__") hit.typeIs slot_listiter_next
  (wpAny_call_entry slot_listiter_next hit.typeIs entry_listiter_next ?_ (args_listiter_next _))))
 show wpAny _ _ (field (.ref it) 0 >>= _) _ _ s
 refine wpAny_bind (wpAny_field ho hd (x:=.ref l) rfl ?_)
 show wpAny _ _ (if (Value.ref l == Value.none) = true then _ else _) _ _ s
 rw [if_neg (show ¬ ((Value.ref l == Value.none) = true) from Bool.false_ne_true)]
 show wpAny _ _ (field (.ref it) 1 >>= _) _ _ s
 refine wpAny_bind (wpAny_field ho hd (x:=.int i 0) rfl ?_)
 show wpAny _ _ (seqItems? (.ref l) >>= _) _ _ s
 refine wpAny_bind (wpAny_seqItems hol hdl ?_)
 simp only [Int.toNat_natCast,hx]
 refine wpAny_bind (wpAny_rule (wpAny_bind (wpAny_setField ho hd (by simp) ?_)))
 show wpAny _ _ (newExc (.type "StopIteration") [] >>= _) _ _ _
 refine wpAny_bind ?_
 simp only [newExc,newTuple]
 refine wpAny_bind (wpAny_newObj_type ?_ (by size_fits))
 refine wpAny_bind (m:=firstArgMember _ _) (wpAny_of_eq (a:=Value.none) (by first | rfl | (simp only [firstArgMember]; rfl)) ?_)
 refine wpAny_newObj_type ?_ (by size_fits)
 simp only [raiseNew]
 refine wpAny_bind (wpAny_handled ?_)
 rw [show A.in1.handled = some (.ref e) from hh]
 obtain ⟨oe,vs,hoe,hde,h2⟩:=hn
 have sb:=Heap.SameBut.update s.heap it (Obj.mapFields (·.setIfInBounds 0 Value.none))
 generalize s.heap.update it (Obj.mapFields (·.setIfInBounds 0 Value.none)) = h1 at sb ⊢
 have e1:h1.get? e = some oe:=(sb.2 e hne).trans hoe
 have e2:=Heap.get?_push_of_some (h:=h1) { cls:=Value.type "tuple",data:=Data.seq #[] } e1
 have lt:=Heap.lt_size e2
 have ext:Heap.ExtBut it s.heap (h1.push { cls:=Value.type "tuple",data:=Data.seq #[] }):=sb.extBut.push _
 generalize h1.push { cls:=Value.type "tuple",data:=Data.seq #[] } = h2' at e2 lt ext ⊢
 have hne2:Value.ref e ≠ Value.ref h2'.objs.size:=fun z=>Nat.ne_of_lt lt (Value.ref.inj z)
 dsimp only
 rw [if_pos (bne_iff_ne.mpr hne2)]
 generalize hO:({ cls:=Value.type "StopIteration",data:=Data.fields (#[Value.ref h1.objs.size,Value.none,Value.none,Value.none,Value.bool false,Value.none] ++ ownMembersOf (Value.type "StopIteration") []) }:Obj) = oS
 have hSd:oS.data = Data.fields (#[Value.ref h1.objs.size,Value.none,Value.none,Value.none,Value.bool false,Value.none] ++ ownMembersOf (Value.type "StopIteration") []):=by rw [← hO]
 have hSc:oS.cls = Value.type "StopIteration":=by rw [← hO]
 have e3:=Heap.get?_push_of_some (h:=h2') oS e2
 have eS:(h2'.push oS).get? h2'.objs.size = some oS:=Heap.get?_push_size _ (Obj.isFreed_of_fields hSd)
 refine wpAny_bind (wpAny_holding (ZA ⟨oe,vs,e3,hde,h2⟩ ?_))
 refine wpAny_bind (m:=updateField _ _ _) ?_
 refine wpAny_setField (a:=h2'.objs.size) eS hSd (by rw [Array.size_append]; exact Nat.lt_of_lt_of_le (show 2 < 6 by decide) (Nat.le_add_right 6 _)) (wpAny_throw ?_)
 have e5:=Heap.get?_update_self (Obj.mapFields (·.setIfInBounds 2 (Value.ref e))) eS (Obj.isFreed_of_fields (Obj.data_mapFields hSd _))
 refine wpAny_bind (wpAny_isInstance (T:="StopIteration") (b:=true) ⟨_,e5,(Obj.cls_mapFields ..).trans hSc⟩ isSubtype_stop ?_)
 refine wpAny_pure (hQ _ fun b o' hb ho'=>?_)
 have q:=ext b o' hb ho'
 exact (Heap.get?_update_other _ _ (Nat.ne_of_gt (Heap.lt_size q))).trans (Heap.get?_push_of_some _ q)
theorem V9 {e:Addr} (hh:A.handled = some (.ref e)) (I ax:Addr) (hne:ax ≠ I) (he:e ≠ I) (items:Array Value) :
  Walks prog w A I [I,ax,e] [I] items.size (fun i v=>items[i]? = some v) (fun i h=>(h.IsListIter I ax i /\ h.IsList ax items) /\ Vk h e) where
 sub:=fun b hb=>by simp at hb; simp [hb]
 frame:=fun _ _ _ st hk=>⟨⟨st.1.1.at fun o e=>hk I (by simp) o e,st.1.2.at fun o e=>hk ax (by simp) o e⟩,by obtain ⟨o,vs,z,r⟩:=st.2; exact ⟨o,vs,hk e (by simp) o z,r⟩⟩
 item:=fun i s Q E hi st hQ=>by
  refine wpAny_pyNext_list_item st.1.1 st.1.2 (x:=items[i]) (by simp [hi]) fun h' hit' hs'=>?_
  obtain ⟨o,vs,z,r⟩:=st.2
  exact hQ _ h' s.toks (by simp [hi]) ⟨⟨hit',st.1.2.extBut hs'.extBut hne⟩,⟨o,vs,hs'.extBut e o he z,r⟩⟩ fun b o hb e=>hs'.extBut b o (fun h=>hb (by simp [h])) e
 done:=fun s Q E st hQ=>v3 hh he st.2 st.1.1 st.1.2 (by simp) fun h' he'=>hQ h' s.toks fun b o hb e=>he' b o (fun h=>hb (by simp [h])) e
 self:=fun _ _ _ _ st hQ=>wpAny_pyIter_listiter st.1.1 hQ
end
theorem Ua (X:Cx) (e:Addr):(handX X e).A.handled = some (.ref e):=rfl
theorem Xk {X:Cx} {K:FG7} {e:Addr} (hK:X.K = K) (hh:X.A.handled = some (.ref e)):yY X (.builtin "any") (fun xs H Q=>∃ (l:Addr) (bs:List Bool) (C:Addr),xs = [.ref l] /\ H e = some (ExO e C) /\ SqL K H l (bs.map V.bl) /\ Q (.bl (bs.any id)) H):=by
 subst hK
 intro pins s σ H xs us Q I r h
 obtain ⟨l,bs,C,rfl,hE,hl,q⟩:=h
 obtain ⟨u,rfl,rx⟩:=xY r
 cases (show u = Value.ref l from rx)
 obtain ⟨vs,rv,pl,_⟩:=I.list hl
 have hl':s.heap.IsList l vs.toArray:=pl.isList
 have hb:LSm.BoolsAre vs bs:=wY rv
 have hlt:l < s.heap.objs.size:=by obtain ⟨_,e,_⟩:=hl'; exact Heap.lt_size e
 obtain ⟨oe,heo,_,ws,hed,hew⟩:=(I.hok e _ hE).1
 have het:e < s.heap.objs.size:=Heap.lt_size heo
 refine call_any_walk (wpAny_pyIter_list hl' ?_)
 refine ⟨s.heap.objs.size,[s.heap.objs.size,l,e],[s.heap.objs.size],vs.toArray.size,_,_,fun i=>(bs[i]?).getD true,rfl,V9 (A:=X.A.in1) hh _ l (Nat.ne_of_lt hlt) (Nat.ne_of_lt het) vs.toArray,
  ⟨⟨⟨_,Heap.get?_push_size _ rfl,rfl,rfl⟩,hl'.push _⟩,⟨oe,ws,Heap.get?_push_of_some _ heo,hed,hew⟩⟩,fun i v s' Q' E' hP hQ=>?_,fun h' tk hk=>?_⟩
 ·obtain ⟨b,e,rfl⟩:=hb.get i v (by simpa using hP)
  simp only [e,Option.getD_some] at hQ
  exact wpAny_truthy_bool hQ
 ·have e:((List.range vs.toArray.size).any fun i=>(bs[i]?).getD true) = bs.any id:=by
   have hlen:bs.length = vs.length:=by rw [← rv.length,List.length_map]
   rw [List.size_toArray,← hlen,Bool.eq_iff_iff,List.any_eq_true,List.any_eq_true]
   constructor
   ·rintro ⟨i,hi,z⟩
    have hi':=List.mem_range.mp hi
    exact ⟨bs[i],List.getElem_mem hi',by simpa [List.getElem?_eq_getElem hi'] using z⟩
   ·rintro ⟨b,hb',z⟩
    obtain ⟨i,hi,rfl⟩:=List.getElem_of_mem hb'
    exact ⟨i,List.mem_range.mpr hi,by simpa [List.getElem?_eq_getElem hi] using z⟩
  rw [e]
  exact ⟨.bl (bs.any id),H,I.kept (t':=tk) (h':=h') (LSm.kept_iter hk),rfl,q⟩
def yI (ks:List Nat) (d:PyData) (ns:List Nat):Prop:=d = .tuple (ns.map fun k:Nat=>PyData.int (k:Int)) /\ ns.Perm ks
theorem yI.uniq {ks:List Nat} {d:PyData} {ns ms:List Nat} (h:yI ks d ns) (h':yI ks d ms):ns = ms:=by
 have:=h.1.symm.trans h'.1
 injection this with this
 exact xc this
theorem rV {d:PyData} (h:su d = false) (ks:List Nat):¬ ∃ ns,yI ks d ns:=by
 rintro ⟨ns,e,_⟩
 rw [e] at h; cases h
theorem rW {ks:List Nat} {ds:List PyData} (h:∃ ns,yI ks (.tuple ds) ns):ds.all yK = true:=by
 obtain ⟨ns,e,_⟩:=h
 injection e with e
 rw [e,List.all_map,List.all_eq_true]
 intro k _; rfl
theorem qX {a b:List Nat} (h:(a.map fun k:Nat=>(k:Int)).Perm (b.map fun k:Nat=>(k:Int))):a.Perm b:=by
 have:=h.map Int.toNat
 rw [List.map_map,List.map_map,show (Int.toNat ∘ fun k:Nat=>(k:Int)) = id from funext fun k=>Int.toNat_natCast k,List.map_id,List.map_id] at this
 exact this
theorem Vl:∀ {a b:List Int},a.Perm b -> a.Pairwise (· <= ·) -> b.Pairwise (· <= ·) -> a = b:=fun h h1 h2=>h.eq_of_pairwise (fun _ _ _ _ z1 z2=>Int.le_antisymm z1 z2) h1 h2
theorem rX {ks:List Nat} {zs ms:List Int} (pk:ks.Pairwise (· < ·)) (hp:ms.Perm zs) (hs:ms.Pairwise (· <= ·)):ms = (ks.map fun k:Nat=>(k:Int)) ↔ ∃ ns,yI ks (.tuple (zs.map PyData.int)) ns:=by
 constructor
 ·intro e
  have hz:zs.Perm (ks.map fun k:Nat=>(k:Int)):=by rw [← e]; exact hp.symm
  have h0:∀ z ∈ zs,0 <= z:=fun z hz'=>by
   obtain ⟨k,_,rfl⟩:=List.mem_map.mp (hz.mem_iff.mp hz')
   exact Int.natCast_nonneg k
  have ez:(zs.map Int.toNat).map (fun k:Nat=>(k:Int)) = zs:=by
   rw [List.map_map]
   conv=>rhs; rw [← List.map_id zs]
   exact List.map_congr_left fun z hz'=>Int.toNat_of_nonneg (h0 z hz')
  refine ⟨zs.map Int.toNat,?_,qX (by rw [ez]; exact hz)⟩
  rw [show (zs.map PyData.int) = ((zs.map Int.toNat).map (fun k:Nat=>(k:Int))).map PyData.int by rw [ez],List.map_map]; rfl
 ·rintro ⟨ns,e,hn⟩
  injection e with e
  have ez:zs = ns.map fun k:Nat=>(k:Int):=by
   have:zs.map PyData.int = (ns.map fun k:Nat=>(k:Int)).map PyData.int:=by rw [e,List.map_map]; rfl
   exact List.map_inj_right (fun _ _ h=>by injection h) |>.mp this
  refine Vl (hp.trans (by rw [ez]; exact hn.map _)) hs ?_
  rw [List.pairwise_map]
  exact pk.imp fun h=>by omega
def tV (K:FG7):Sp:=sp2 fun x y H Q=>∃ (d:PyData) (m:List Addr) (ks:List Nat),Od K m H x d /\ Fl72 d /\ W6 K H y ks /\ ks.Pairwise (· < ·) /\ ∀ b H',Grow [] H H' -> (b = true ↔ ∃ ns,yI ks d ns) -> Q (.bl b) H'
def uQ (b:List Int) (cs:List Call72) (ks:List Nat) (d:PyData):Prop:=∃ ns,yI ks d ns /\ kl72 cs ns = true /\ an72 cs b ns = true
def tW (K:FG7):Sp:=sp4 fun x y z u H Q=>∃ (b:List Int) (cs:List Call72) (ks:List Nat) (d:PyData) (m:List Addr),zI K H x b /\ zC K H y cs /\ W6 K H z ks /\ ks.Pairwise (· < ·) /\ (∀ k ∈ ks,k < cs.length) /\ ks.length <= 40 /\ Od K m H u d /\ (∀ c ∈ cs,CallOk72 b.length c) /\ Fl72 d /\ ∀ bb H',Grow [] H H' -> (bb = true ↔ uQ b cs ks d) -> Q (.bl bb) H'
def wC (b:List Int) (cs:List Call72) (os:List (List Nat)):Prop:=os.length = b.length /\ ∀ x,x < b.length -> (os.getD x []).Perm (nb73 cs x) /\ kl72 cs (os.getD x []) = true /\ an72 cs b (os.getD x []) = true
def wq (os:List (List Nat)):PyData:=.tuple (os.map fun ns=>.tuple (ns.map fun k:Nat=>PyData.int (k:Int)))
def xu (b:List Int) (cs:List Call72) (d:PyData):Prop:=∃ os,d = wq os /\ wC b cs os
def Fl75 (d:PyData):Prop:=∀ ds,d = .tuple ds -> ds.length < 64 /\ ∀ e ∈ ds,Fl72 e
def vJ (A:Addr) (K:FG7):Sp:=spX3 fun x y z H Q E=>∃ (b:List Int) (cs:List Call72) (d:PyData) (m:List Addr),zI K H x b /\ 1 <= b.length /\ b.length <= 16 /\ zC K H y cs /\ Calls72 b.length cs /\ Od K m H z d /\ Fl75 d ∧
 (xu b cs d -> ∀ H',Grow [] H H' -> Q .non H') /\ (¬ xu b cs d -> ∀ e H',Grow [] H H' -> E (.ref e) (some A) H')
def uR (K:FG7):Sp:=sp2 fun x y H Q=>∃ (cs:List Call72) (l:Addr) (vs:List V) (os:List (List Nat)),zC K H x cs /\ y = .ref l /\ SqT K H l vs /\ AllR (yO K H) vs os /\ Calls72 os.length cs /\ os.length <= 16 /\ (∀ o ∈ os,o.length <= 40) ∧
 ∀ v H',Grow [] H H' -> wn cs -> yO K H' v (yt cs (xE cs) os) -> Q v H'
def uS (A:Addr) (K:FG7):Sp:=spX3 fun x y z H Q E=>∃ (b:List Int) (cs:List Call72) (d:PyData) (m:List Addr),zI K H x b /\ 1 <= b.length /\ b.length <= 16 /\ zC K H y cs /\ Calls72 b.length cs /\ Od K m H z d /\ Fl75 d ∧
 (∀ os,d = wq os -> wC b cs os -> ∀ v H',Grow [] H H' -> wn cs -> yO K H' v (yt cs (xE cs) os) -> Q v H') /\ (¬ xu b cs d -> ∀ e H',Grow [] H H' -> E (.ref e) (some A) H')
theorem vK {b:List Int} {cs:List Call72} {ds:List PyData} (hl:ds.length = b.length):xu b cs (.tuple ds) ↔ ∀ j,j < b.length -> uQ b cs (nb73 cs j) (ds.getD j .none):=by
 constructor
 ·rintro ⟨os,e,h1,h2⟩ j hj
  injection e with e
  have hj2:j < os.length:=by omega
  have ed:ds.getD j .none = .tuple ((os.getD j []).map fun k:Nat=>PyData.int (k:Int)):=by
   rw [e,List.getD_eq_getElem?_getD,List.getElem?_map,List.getElem?_eq_getElem hj2,List.getD_eq_getElem?_getD,List.getElem?_eq_getElem hj2]; rfl
  obtain ⟨p1,p2,p3⟩:=h2 j hj
  exact ⟨_,⟨ed,p1⟩,p2,p3⟩
 ·intro h
  have hc:∀ j:Nat,∃ ns:List Nat,j < b.length -> yI (nb73 cs j) (ds.getD j .none) ns /\ kl72 cs ns = true /\ an72 cs b ns = true:=fun j=>by
   by_cases hj:j < b.length
   ·obtain ⟨ns,hn⟩:=h j hj
    exact ⟨ns,fun _=>hn⟩
   ·exact ⟨[],fun z=>absurd z hj⟩
  obtain ⟨f,hf⟩:=Classical.axiomOfChoice hc
  have gf:∀ x,x < b.length -> ((List.range b.length).map f).getD x [] = f x:=fun x hx=>by
   rw [List.getD_eq_getElem?_getD,List.getElem?_map,List.getElem?_range hx]; rfl
  refine ⟨(List.range b.length).map f,?_,by rw [List.length_map,List.length_range],fun x hx=>?_⟩
  ·refine congrArg PyData.tuple (List.ext_getElem (by rw [List.length_map,List.length_map,List.length_range,hl]) fun i g1 g2=>?_)
   have hi:i < b.length:=by rw [← hl]; exact g1
   rw [List.getElem_map,List.getElem_map,List.getElem_range,← (hf i hi).1.1,List.getD_eq_getElem?_getD,List.getElem?_eq_getElem g1]; rfl
  ·rw [gf x hx]
   exact ⟨(hf x hx).1.2,(hf x hx).2.1,(hf x hx).2.2⟩
theorem wU {K:FG7} {m:List Addr} {H:Hp}:∀ {xs:List V} {os:List (List Nat)},Ods K m H xs (os.map fun ns=>PyData.tuple (ns.map fun k:Nat=>PyData.int (k:Int))) -> AllR (yO K H) xs os
 | [],[],_=>trivial
 | [],_ :: _,h=>by have:=h.length; cases this
 | _ :: _,[],h=>by have:=h.length; cases this
 | x :: xs,o :: os,h=>by
  cases h with
  | cons h1 h2=>exact ⟨ss rfl h1,wU h2⟩
def rY (K:FG7):Sp:=sp3 fun x y z H Q=>∃ (b:List Int) (cs:List Call72) (d:PyData) (m:List Addr),zI K H x b /\ 1 <= b.length /\ b.length <= 16 /\ zC K H y cs /\ Calls72 b.length cs /\ Od K m H z d /\ Fl75 d ∧
 (∀ os,d = wq os -> wC b cs os -> ∀ v H',Grow [] H H' -> wn cs -> yO K H' v (yt cs (xE cs) os) -> Q v H') /\ (¬ xu b cs d -> ∀ l H',Grow [] H H' -> H' l = some (.lst [.bl true,.bl false]) -> Q (.ref l) H')
def xn (P:Program) (w:World) (K:FG7) (cs:List Call72) (dk m:Nat) (H:Hp):Prop :=
 ∃ kvs:List ((List Int × Int) × Addr × V),H dk = some (ndO ptT ptI P w dk kvs) /\ NDc ptT ptI K H kvs /\ (∀ x ∈ kvs,∃ (left:List Nat) (v:Int),x.1 = (left.map (fun k:Nat=>(k:Int)),v) /\ zZ cs left v = false) /\ kvs.length <= m
theorem xn.grow {P:Program} {w:World} {K:FG7} {cs:List Call72} {dk m:Nat} {H H':Hp} (h:xn P w K cs dk m H) {ms:List Addr} (hm:dk ∉ ms) (g:Grow ms H H'):xn P w K cs dk m H':=by
 obtain ⟨kvs,h1,h2,h3,h4⟩:=h
 exact ⟨kvs,g.keep _ _ hm h1,h2.grow g,h3,h4⟩
theorem xn.mono {P:Program} {w:World} {K:FG7} {cs:List Call72} {dk m m':Nat} {H:Hp} (h:xn P w K cs dk m H) (hm:m <= m'):xn P w K cs dk m' H:=by
 obtain ⟨kvs,h1,h2,h3,h4⟩:=h
 exact ⟨kvs,h1,h2,h3,Nat.le_trans h4 hm⟩
def Rw75 (cs:List Call72) (left:List Nat) (v:Int) (o:List Nat):Prop:=o.Perm left /\ kl72 cs o = true /\ wp cs v o = true
def xL (P:Program) (w:World) (N:Nat) (K:FG7):Sp:=fun vs H Q _=>∃ x y z u t,vs = [x,y,z,u,t] /\ ∃ (p:Addr) (cs:List Call72) (left:List Nat) (v:Int) (dk m:Nat),x = .ref p /\ Pot H p /\ zC K H y cs /\ yO K H z left /\ u = .int v /\ t = .ref dk /\ dk ≠ p /\ xn P w K cs dk m H /\ left.Nodup /\ (∀ k ∈ left,k < cs.length /\ (cg cs k).begun <= (cg cs k).ended) /\ left.length < N /\ left.length <= 8 /\ cs.length <= 40 /\ m + fz73 left.length <= 1000000 ∧
 ∀ v' H',Grow [p,dk] H H' -> Pot H' p -> xn P w K cs dk (m + fz73 left.length) H' -> (zZ cs left v = false -> v' = .non) -> (zZ cs left v = true -> ∃ o,yO K H' v' o /\ Rw75 cs left v o) -> Q v' H'
theorem Xl {P:Program} {w:World} {K:FG7}:∀ vs H Q E,¬ xL P w 0 K vs H Q E:=by
 rintro vs H Q E h
 obtain ⟨x,y,z,u,t,rfl,p,cs,left,v,dk,m,_,_,_,_,_,_,_,_,_,_,h,_⟩:=h
 exact absurd h (Nat.not_lt_zero _)
theorem rZ {P:Program} {w:World} {N:Nat} {K:FG7} {a b c d e:Str}:∀ vs H Q E,xL P w N K vs H Q E -> vs.length = [a,b,c,d,e].length:=by
 rintro vs H Q E ⟨x,y,z,u,t,rfl,_⟩; rfl
theorem tX {cs:List Call72} {left:List Nat} {v:Int}:∀ {kvs:List ((List Int × Int) × Addr × V)},(∀ x ∈ kvs,∃ (left:List Nat) (v:Int),x.1 = (left.map (fun k:Nat=>(k:Int)),v) /\ zZ cs left v = false) →
  ∀ y,valV (kvs.map prV) (left.map (fun k:Nat=>(k:Int)),v) = some y -> zZ cs left v = false
 | [],_,y,h=>by cases h
 | x :: kvs,hk,y,h=>by
  rw [List.map_cons] at h
  by_cases e:(prV x).1 = (left.map (fun k:Nat=>(k:Int)),v)
  ·obtain ⟨l',v',e1,e2⟩:=hk x (List.mem_cons_self ..)
   have e3:x.1 = (left.map (fun k:Nat=>(k:Int)),v):=e
   rw [e1] at e3
   have e4:=Zx (congrArg Prod.fst e3)
   have e5:v' = v:=congrArg Prod.snd e3
   rw [← e4,← e5]
   exact e2
  ·rw [yG e] at h
   exact tX (fun z hz=>hk z (List.mem_cons_of_mem _ hz)) y h
theorem ZB {P:Program} {w:World} {K:FG7} {cs:List Call72} {dk m:Nat} {H:Hp} {kvs:List ((List Int × Int) × Addr × V)} {left:List Nat} {v:Int} {b:Addr} (h1:H dk = some (ndO ptT ptI P w dk kvs)) (h2:NDc ptT ptI K H kvs)
  (h3:∀ x ∈ kvs,∃ (left:List Nat) (v:Int),x.1 = (left.map (fun k:Nat=>(k:Int)),v) /\ zZ cs left v = false) (h4:kvs.length <= m) (hk:KAt ptT ptI K H (left.map (fun k:Nat=>(k:Int)),v) b) (hf:zZ cs left v = false) (y:V) :
  Grow [dk] H (upd H dk (ndO ptT ptI P w dk (wm kvs (left.map (fun k:Nat=>(k:Int)),v) b y))) /\ xn P w K cs dk (m + 1) (upd H dk (ndO ptT ptI P w dk (wm kvs (left.map (fun k:Nat=>(k:Int)),v) b y))):=by
 have g:Grow [dk] H (upd H dk (ndO ptT ptI P w dk (wm kvs (left.map (fun k:Nat=>(k:Int)),v) b y))):=Grow.setE73 h1 (by simp)
 refine ⟨g,_,zd,(h2.store hk).grow g,fun x hx=>?_,?_⟩
 ·unfold wm at hx
  split at hx
  ·obtain ⟨z,hz,rfl⟩:=List.mem_map.mp hx
   by_cases c:z.1 = (left.map (fun k:Nat=>(k:Int)),v)
   ·rw [if_pos c]; exact ⟨left,v,c,hf⟩
   ·rw [if_neg c]; exact h3 z hz
  ·rcases List.mem_append.mp hx with z | z
   ·exact h3 x z
   ·rw [List.mem_singleton.mp z]; exact ⟨left,v,rfl,hf⟩
 ·unfold wm
  split
  ·rw [List.length_map]; omega
  ·rw [List.length_append]; show _ + 1 <= _; omega
def wI (K:FG7) (H:Hp) (b:List Int) (cs:List Call72) (x:Nat) (v:V):Prop:=(zZ cs (nb73 cs x) (b.getD x 0) = false -> v = .non) /\ (zZ cs (nb73 cs x) (b.getD x 0) = true -> ∃ o,yO K H v o /\ Rw75 cs (nb73 cs x) (b.getD x 0) o)
theorem wI.grow {K:FG7} {H H':Hp} {b:List Int} {cs:List Call72} {x:Nat} {v:V} {m:List Addr} (h:wI K H b cs x v) (g:Grow m H H'):wI K H' b cs x v:=⟨h.1,fun z=>by obtain ⟨o,h1,h2⟩:=h.2 z; exact ⟨o,h1.grow g,h2⟩⟩
def r0 (K:FG7):Sp:=sp3 fun x y z H Q=>∃ (p:Addr) (b:List Int) (cs:List Call72),x = .ref p /\ Pot H p /\ zI K H y b /\ b.length <= 16 /\ zC K H z cs /\ Calls72 b.length cs ∧
 ∀ (r:Addr) (vs:List V) H',Grow [p] H H' -> Pot H' p -> SqT K H' r vs -> AllR (fun v x=>wI K H' b cs x v) vs (List.range b.length) -> Q (.ref r) H'
def tY (K:FG7):Sp:=sp4 fun x y z u H Q=>∃ (b:List Int) (cs:List Call72) (i:Nat) (d:PyData) (m:List Addr),zI K H x b /\ b.length <= 16 /\ zC K H y cs /\ Calls72 b.length cs /\ z = .int i /\ Od K m H u d /\ Fl72 d /\ ∀ t H',(t = true ↔ uQ b cs (nb73 cs i) d) -> Grow [] H H' -> Q (.bl t) H'
def uT (K:FG7):Sp:=sp3 fun x y z H Q=>∃ (b:List Int) (cs:List Call72) (d:PyData) (m:List Addr),zI K H x b /\ b.length <= 16 /\ zC K H y cs /\ Calls72 b.length cs /\ Od K m H z d /\ Fl75 d /\ ∀ t H',(t = true ↔ xu b cs d) -> Grow [] H H' -> Q (.bl t) H'
theorem Ub (ns:List Nat):PyData.depth (.tuple (ns.map fun k:Nat=>PyData.int (k:Int))) <= 100:=by
 show PyData.depthAll (ns.map fun k:Nat=>PyData.int (k:Int)) + 1 <= 100
 have:PyData.depthAll (ns.map fun k:Nat=>PyData.int (k:Int)) <= 0:=yb.mpr fun y hy=>by
  obtain ⟨v,_,rfl⟩:=List.mem_map.mp hy
  exact Nat.le_refl _
 omega
theorem tZ {a b:List (List Nat)} (h:wq a = wq b):a = b:=by
 injection h with h
 refine List.map_inj_right (fun x y e=>?_) |>.mp h
 injection e with e
 exact xc e
def wJ (b:List Int) (cs:List Call72) (d:PyData):PyData:=.tuple [.tuple (b.map PyData.int),.tuple (cs.map wH),d]
theorem Vm {b:List Int} {cs:List Call72} {d:PyData} (b16:b.length <= 16) (bb:∀ v ∈ b,N27 v) (c40:cs.length <= 40) (bd:∀ c ∈ cs,Cb72 (10 ^ 29 + 5) c) (hd:GdD 10 8 1000000 d) :
  (wJ b cs d).showable = true /\ (wJ b cs d).depth <= 60 /\ (wJ b cs d).shown.length <= sizeLine:=by
 have hB:(10:Int) ^ 30 + 10 <= Bg:=UH (n:=10) (by decide)
 have s:(wJ b cs d).showable = true:=by
  refine showable_le hB ?_
  show leDs _ [.tuple (b.map PyData.int),.tuple (cs.map wH),d] = true
  rw [xm]
  intro x hx
  rcases List.mem_cons.mp hx with rfl | hx
  ·show leDs _ (b.map PyData.int) = true
   rw [xm]
   intro y hy
   obtain ⟨v,hv,rfl⟩:=List.mem_map.mp hy
   refine y6 ?_
   have:=bb v hv
   unfold N27 at this
   omega
  rcases List.mem_cons.mp hx with rfl | hx
  ·show leDs _ (cs.map wH) = true
   rw [xm]
   intro y hy
   obtain ⟨c,hc,rfl⟩:=List.mem_map.mp hy
   exact YI ((bd c hc).mono (by decide))
  rw [List.mem_singleton.mp hx]
  exact hd.le
 refine ⟨s,?_,?_⟩
 ·show PyData.depthAll [.tuple (b.map PyData.int),.tuple (cs.map wH),d] + 1 <= 60
  have:PyData.depthAll [.tuple (b.map PyData.int),.tuple (cs.map wH),d] <= 10:=yb.mpr fun x hx=>by
   rcases List.mem_cons.mp hx with rfl | hx
   ·have:PyData.depthAll (b.map PyData.int) <= 0:=yb.mpr fun y hy=>by
     obtain ⟨v,_,rfl⟩:=List.mem_map.mp hy
     exact Nat.le_refl _
    show PyData.depthAll (b.map PyData.int) + 1 <= 10
    omega
   rcases List.mem_cons.mp hx with rfl | hx
   ·have:PyData.depthAll (cs.map wH) <= 2:=yb.mpr fun y hy=>by
     obtain ⟨v,_,rfl⟩:=List.mem_map.mp hy
     exact YL v
    show PyData.depthAll (cs.map wH) + 1 <= 10
    omega
   rw [List.mem_singleton.mp hx]
   have:=hd.dp
   omega
  omega
 ·refine Nat.le_trans (shown_le s) ?_
  have w1:=uB (w:=1921) (ds:=b.map PyData.int) (fun d h=>by obtain ⟨v,_,rfl⟩:=List.mem_map.mp h; exact Nat.le_refl _)
  have w2:=uB (w:=20000) (ds:=cs.map wH) (fun d h=>by obtain ⟨v,_,rfl⟩:=List.mem_map.mp h; exact YM v)
  rw [List.length_map] at w1 w2
  have m1:b.length * (1921 + 2) <= 16 * (1921 + 2):=Nat.mul_le_mul_right _ b16
  have m2:cs.length * (20000 + 2) <= 40 * (20000 + 2):=Nat.mul_le_mul_right _ c40
  have w3:=hd.wt
  have e:wtO (wJ b cs d) = (wtOs (b.map PyData.int) + 3) + 2 + ((wtOs (cs.map wH) + 3) + 2 + (wtO d + 2 + 0)) + 3:=rfl
  have:(16000000:Nat) <= sizeLine:=by decide
  omega
theorem qY {b:List Int} {cs:List Call72} {os:List (List Nat)} (C:Calls72 b.length cs) (S:wn cs) (R:wC b cs os):jR b cs (yt cs (xE cs) os) /\ ∀ x,x < b.length -> (yt cs (xE cs) os).filter (yL cs x) = os.getD x []:=by
 obtain ⟨ol,hr⟩:=R
 have ok:∀ k < cs.length,0 <= (cg cs k).box /\ (cg cs k).box.toNat < os.length /\ (cg cs k).begun <= (cg cs k).ended:=fun k hk=>by rw [ol]; exact xK C k hk
 obtain ⟨m1,m2,m3⟩:=qO (srt:=xE cs) ok (fun x hx=>(hr x (by omega)).1) (fun x hx=>(hr x (by omega)).2.1) (Zu S) (Wl S)
 refine ⟨⟨m2,m3,jI (fun k hk=>?_) fun x hx=>?_⟩,fun x hx=>m1 x (by omega)⟩
 ·have hk':=List.mem_range.mp (m2.mem_iff.mp hk)
  exact ⟨(xK C k hk').1,(xK C k hk').2.1⟩
 ·rw [m1 x (by omega)]
  exact (hr x hx).2.2
def r6 (K:FG7):Sp:=sp3 fun x y z H Q=>∃ (b:List Int) (cs:List Call72) (d:PyData) (m:List Addr),zI K H x b /\ 1 <= b.length /\ b.length <= 16 /\ (∀ v ∈ b,N27 v) /\ zC K H y cs /\ Calls72 b.length cs /\ (∀ c ∈ cs,Cb72 (10 ^ 29 + 5) c) /\ Od K m H z d /\ Fl75 d /\ GdD 10 8 1000000 d /\ ∀ H',Grow [] H H' -> Q (.bl true) H'
def W75 (K:FG7) (p:Addr) (H:Hp) (v:V):Prop:=∃ d,Od K [p] H v d /\ Fl75 d /\ GdD 10 8 1000000 d
theorem W75.grow {K:FG7} {p:Addr} {H H':Hp} {v:V} (h:W75 K p H v) (g:Grow [p] H H'):W75 K p H' v:=by
 obtain ⟨d,a,b,c⟩:=h
 exact ⟨d,a.grow g,b,c⟩
theorem Uc {ds:List PyData} (hl:ds.length <= 7) (gd:∀ d ∈ ds,GdD 10 5 130000 d):GdS 10 5 910014 ds:=by
 refine ⟨by rw [xm]; exact fun x hx=>(gd x hx).le,yb.mpr fun x hx=>(gd x hx).dp,?_⟩
 have:=uB (w:=130000) (ds:=ds) fun x hx=>(gd x hx).wt
 have:ds.length * (130000 + 2) <= 7 * (130000 + 2):=Nat.mul_le_mul_right _ hl
 omega
theorem W75.tup {K:FG7} {p:Addr} {H:Hp} {r:Addr} {vs:List V} (h:SqT K H r vs) (hl:vs.length <= 7) (he:∀ v ∈ vs,G72 K p H v):W75 K p H (.ref r):=by
 obtain ⟨ds,o,gd⟩:=YN he
 have dl:ds.length <= 7:=by rw [← o.length]; exact hl
 refine ⟨.tuple ds,.tup h o,fun es e=>?_,((Uc dl fun d hd=>(gd d hd).2).tup).mono (by decide) (by decide) (by decide)⟩
 injection e with e
 rw [← e]
 exact ⟨by omega,fun d hd=>(gd d hd).1⟩
theorem W75.lst {K:FG7} {p:Addr} {H:Hp} {l:Addr} {vs:List V} (h:H l = some (.lst vs)) (n1:l ∉ [p]) (n2:l ≠ sysModules) (hl:vs.length <= 7) (he:∀ v ∈ vs,G72 K p H v):W75 K p H (.ref l):=by
 obtain ⟨ds,o,gd⟩:=YN he
 have dl:ds.length <= 7:=by rw [← o.length]; exact hl
 exact ⟨.list ds,.lst h n1 n2 o,(fun _ e=>nomatch e),((Uc dl fun d hd=>(gd d hd).2).lst).mono (by decide) (by decide) (by decide)⟩
theorem W75.of_g {K:FG7} {p:Addr} {H:Hp} {v:V} (h:G72 K p H v) (ht:∀ r,v ≠ .ref r):W75 K p H v:=by
 obtain ⟨d,a,b,c⟩:=h
 refine ⟨d,a,fun ds e=>?_,c.mono (by decide) (by decide) (by decide)⟩
 subst e
 obtain ⟨r,_,e,_⟩:=a.inv_tup
 exact absurd e (ht r)
theorem W75.dict0 {K:FG7} {p:Addr} {H:Hp} {v:V} (h:Od K [p] H v (.dict [])):W75 K p H v:=⟨_,h,(fun _ e=>nomatch e),⟨rfl,by decide,by decide⟩⟩
theorem W75.row {K:FG7} {p:Addr} {H:Hp} {r:Addr} {ns:List Nat} (h:SqT K H r (zp ns)) (hl:ns.length < 64) (hs:∀ k ∈ ns,k < 40):W75 K p H (.ref r):=by
 have gd:∀ d ∈ (ns.map fun k:Nat=>PyData.int (k:Int)),GdD 10 2 1935 d:=fun d hd=>by
  obtain ⟨k,hk,rfl⟩:=List.mem_map.mp hd
  have:=hs k hk
  exact (WC ⟨by omega,by omega⟩).mono (by decide) (by decide) (by decide)
 have dl:(ns.map fun k:Nat=>PyData.int (k:Int)).length < 64:=by rw [List.length_map]; exact hl
 refine ⟨_,uC h,fun ds z=>?_,((X7 dl gd).tup).mono (by decide) (by decide) (by decide)⟩
 injection z with z
 rw [← z]
 refine ⟨dl,fun e he=>?_⟩
 obtain ⟨k,_,rfl⟩:=List.mem_map.mp he
 exact fun _ z=>nomatch z
structure Rs75 (K:FG7) (H:Hp) (r:Addr) (vs:List V) (os:List (List Nat)):Prop where
 sq:SqT K H r vs
 rows:AllR (yO K H) vs os
 n1:1 <= os.length
 n6:os.length <= 6
 short:∀ o ∈ os,o.length <= 8 /\ ∀ k ∈ o,k < 40
def t4 (K:FG7):Sp:=sp2 fun x y H Q=>∃ (p r:Addr) (vs:List V) (os:List (List Nat)),x = .ref p /\ y = .ref r /\ Pot H p /\ Rs75 K H r vs os ∧
 ∀ v H',Grow [p] H H' -> Pot H' p -> W75 K p H' v -> Q v H'
theorem Xm {b:List Int} {cs:List Call72} (C:Calls72 b.length cs) (h:(qU cs b).isSome = true):∀ x,x < b.length -> zZ cs (nb73 cs x) (b.getD x 0) = true:=fun x hx=>by
 rw [Xi C hx]
 unfold qU at h
 split at h
 ·rename_i e
  exact List.all_eq_true.mp e x (List.mem_range.mpr hx)
 ·cases h
theorem vW {K:FG7} {H:Hp} {b:List Int} {cs:List Call72}:∀ {vs:List V} {xs:List Nat},AllR (fun v x=>wI K H b cs x v) vs xs -> (∀ x ∈ xs,zZ cs (nb73 cs x) (b.getD x 0) = true) -> ∃ os:List (List Nat),AllR (yO K H) vs os /\ os.length = xs.length /\ ∀ (i:Nat) (x:Nat),xs[i]? = some x -> Rw75 cs (nb73 cs x) (b.getD x 0) (os.getD i [])
 | [],[],_,_=>⟨[],trivial,rfl,fun i x h=>by cases h⟩
 | [],_ :: _,h,_=>by have:=h.len; cases this
 | _ :: _,[],h,_=>by have:=h.len; cases this
 | v :: vs,x :: xs,h,hc=>by
  obtain ⟨o,h1,h2⟩:=h.1.2 (hc x (List.mem_cons_self ..))
  obtain ⟨os,a1,a2,a3⟩:=vW h.2 fun y hy=>hc y (List.mem_cons_of_mem _ hy)
  refine ⟨o :: os,⟨h1,a1⟩,by rw [List.length_cons,List.length_cons,a2],fun i y hy=>?_⟩
  cases i with
  | zero =>
   rw [List.getElem?_cons_zero] at hy
   injection hy with hy
   rw [← hy]; exact h2
  | succ i =>
   rw [List.getElem?_cons_succ] at hy
   exact a3 i y hy
theorem ZC {K:FG7} {H:Hp} {b:List Int} {cs:List Call72} {vs:List V} (C:Calls72 b.length cs) (h:(qU cs b).isSome = true) (hr:AllR (fun v x=>wI K H b cs x v) vs (List.range b.length)) :
  ∃ os:List (List Nat),AllR (yO K H) vs os /\ wC b cs os /\ ∀ o ∈ os,o.length <= 8 /\ ∀ k ∈ o,k < 40:=by
 obtain ⟨os,a1,a2,a3⟩:=vW hr fun x hx=>Xm C h x (List.mem_range.mp hx)
 rw [List.length_range] at a2
 have key:∀ x,x < b.length -> Rw75 cs (nb73 cs x) (b.getD x 0) (os.getD x []):=fun x hx=>a3 x x (List.getElem?_range hx)
 refine ⟨os,a1,⟨a2,fun x hx=>?_⟩,fun o ho=>?_⟩
 ·obtain ⟨k1,k2,k3⟩:=key x hx
  refine ⟨k1,k2,?_⟩
  rw [wB (x:=x) (fun k hk=>(yf.mp (k1.mem_iff.mp hk)).2) hx]
  exact k3
 ·obtain ⟨i,hi⟩:=List.mem_iff_getElem?.mp ho
  have hl:=(List.getElem?_eq_some_iff.mp hi).1
  have e:os.getD i [] = o:=by rw [List.getD_eq_getElem?_getD,hi]; rfl
  obtain ⟨k1,_⟩:=key i (by omega)
  rw [e] at k1
  refine ⟨by rw [k1.length_eq,wA]; exact C.few _,fun k hk=>?_⟩
  have:=(yf.mp (k1.mem_iff.mp hk)).1
  have:=C.len
  omega
theorem Xn {K:FG7} {m:List Addr} {H:Hp} {r:Addr} {vs:List V} {os:List (List Nat)} (h:SqT K H r vs) (hr:AllR (yO K H) vs os):Od K m H (.ref r) (wq os):=by
 refine .tup h ?_
 clear h
 induction os generalizing vs with
 | nil =>
  cases vs with
  | nil=>exact .nil
  | cons _ _=>have:=hr.len; cases this
 | cons o os ih =>
  cases vs with
  | nil=>have:=hr.len; cases this
  | cons v vs =>
   obtain ⟨⟨q,rfl,hq⟩,h2⟩:=hr
   exact .cons (uC hq) (ih h2)
theorem Xo {os:List (List Nat)} (h1:os.length < 64) (h2:∀ o ∈ os,o.length < 64):Fl75 (wq os):=fun ds e=>by
 injection e with e
 rw [← e]
 refine ⟨by rw [List.length_map]; exact h1,fun d hd=>?_⟩
 obtain ⟨o,ho,rfl⟩:=List.mem_map.mp hd
 exact rD (h2 o ho)
theorem Ud {K:FG7} {H:Hp} {r:Addr} {vs:List V} {os:List (List Nat)} {p:Addr} (R:Rs75 K H r vs os):W75 K p H (.ref r):=by
 refine W75.tup R.sq (by rw [R.rows.len]; have:=R.n6; omega) fun v hv=>?_
 obtain ⟨i,hi⟩:=List.mem_iff_getElem?.mp hv
 obtain ⟨o,ho,q,rfl,hq⟩:=R.rows.get hi
 obtain ⟨o8,o40⟩:=R.short o (List.mem_of_getElem? ho)
 exact G72.tup hq (by rw [zw]; omega) (i_e (YO o40))
theorem Rs75.grow {K:FG7} {H H':Hp} {r:Addr} {vs:List V} {os:List (List Nat)} {m:List Addr} (R:Rs75 K H r vs os) (g:Grow m H H'):Rs75 K H' r vs os:=⟨g.sqT R.sq,R.rows.imp fun _ _ z=>z.grow g,R.n1,R.n6,R.short⟩
theorem Wn {c:TT} {t u:TS} {D:Ends} {σ:L2.St} {H:Hp} (Good:Bool -> Hp -> Prop) (hc:∀ K:Bool -> Hp -> Prop,(∀ b H',Good b H' -> K b H') -> c σ H K) (hr:∀ b H',Good b H' -> if b = true then t D σ H' else u D σ H'):tIfS c t u D σ H:=hc _ hr
end L3
namespace My
open PySem PySem.Spec PyProof.Rows L2 L3
def top (i:Nat):Stmt:=PySem.Challenge.pw_joinedasks_k75_whole_gone_together.main.body.getD i (.Pass ⟨0,0,0,0⟩)
section
variable {P:Program} {w:World} {K:FG7} {mg:Str -> Option Value} {base:Heap} {n:Nat} {f:Addr} {fd:FuncData}
theorem xo:FnScope ["_law_deed_here","_law_value"] ["_law_deed_here","_law_value"] (zi (top 43)):=⟨rfl,rfl,rfl,by decide +kernel,rfl,by decide +kernel,by decide +kernel⟩
theorem r9 (F:Fun K "_law_done" "_law_done" (top 43) f fd) (B:Blt mg)      :
  FnOk P w K mg base CX0 (n + 1) f fd ["_law_deed_here","_law_value"] (vB K):=by
 refine F.ok xo zW (fun cdv A outer s H vs Q E hr h=>?_)
 obtain ⟨x,y,rfl,d,v,hd,rfl,q⟩:=h
 refine ⟨_,(ze (zz (i:=1) xo.nd rfl (Or.inl rfl) (zA yg (pv 1) (zE z7 (pv 0) zh (fun _ _=>rfl)))) (ze (zV (PW.pt (vP (vO (ue (zE z7 (pv 0) zh (fun _ _=>rfl)))) (wL (zD uj (pv 1) (zE z7 (pv 0) zh (fun _ _=>rfl)) (zB _))))) (zg (zz (i:=1) xo.nd rfl (Or.inl rfl) (zE z7 (pv 0) zh (fun _ _=>rfl)))) zy) (ze (zV (PW.pt (vP (vO (ue (zE z7 (pv 0) zh (fun _ _=>rfl)))) (wL (zD Xz (pv 1) (zE z7 (pv 0) zh (fun _ _=>rfl)) (zB _))))) (zg (zz (i:=1) xo.nd rfl (Or.inl rfl) (zE z7 (pv 0) zh (fun _ _=>rfl)))) zy) (zg (zq (pv 1)))))),?_⟩
 obtain ⟨a,rfl,hs⟩:=hd
 obtain ⟨ad,lo,hi⟩:=d
 have i0:atI (⟨ad,lo,hi⟩:Deed).vs 0 = some (.int ad):=zr (j:=0) rfl
 have i1:atI (⟨ad,lo,hi⟩:Deed).vs 1 = some (ov lo):=zr (j:=1) rfl
 have i2:atI (⟨ad,lo,hi⟩:Deed).vs 2 = some (ov hi):=zr (j:=2) rfl
 refine ya (fun w H'=>w = .int (v + ad) /\ H' = H) (fun Kk hk=>⟨_,rfl,_,rfl,a,_,_,_,rfl,rfl,hs,i0,_,_,rfl,rfl,hk _ _ ⟨rfl,rfl⟩⟩) ?_
 rintro _ H ⟨rfl,rfl⟩
 refine c_if (fun σ' H'=>σ' = [some (.ref a),some (.int (uo lo (v + ad)))] /\ H' = H) ?_ (fun hk=>?_)
 rotate_left
 ·refine ⟨_,rfl,a,_,_,_,rfl,rfl,hs,i1,_,rfl,?_⟩
  cases lo with
  | none=>exact iteF (hk _ _ ⟨rfl,rfl⟩)
  | some l =>
   refine iteT ⟨_,rfl,_,rfl,a,_,_,_,rfl,rfl,hs,i1,_,_,rfl,rfl,_,rfl,?_⟩
   by_cases h:v + ad < l
   ·refine yX (decide_eq_true h) ⟨_,rfl,a,_,_,_,rfl,rfl,hs,i1,hk _ _ ⟨?_,rfl⟩⟩
    show [some (V.ref a),some (V.int l)] = _
    unfold uo; dsimp only; rw [if_pos h]
   ·refine yZ (decide_eq_false h) (hk _ _ ⟨?_,rfl⟩)
    unfold uo; dsimp only; rw [if_neg h]; rfl
 rintro _ H ⟨rfl,rfl⟩
 refine c_if (fun σ' H'=>σ' = [some (.ref a),some (.int ((⟨ad,lo,hi⟩:Deed).mk' v))] /\ H' = H) ?_ (fun hk=>?_)
 rotate_left
 ·refine ⟨_,rfl,a,_,_,_,rfl,rfl,hs,i2,_,rfl,?_⟩
  cases hi with
  | none=>exact iteF (hk _ _ ⟨rfl,rfl⟩)
  | some l =>
   refine iteT ⟨_,rfl,_,rfl,a,_,_,_,rfl,rfl,hs,i2,_,_,rfl,rfl,_,rfl,?_⟩
   by_cases h:l < uo lo (v + ad)
   ·refine yX (decide_eq_true h) ⟨_,rfl,a,_,_,_,rfl,rfl,hs,i2,hk _ _ ⟨?_,rfl⟩⟩
    show [some (V.ref a),some (V.int l)] = _
    unfold Deed.mk' se; dsimp only; rw [if_pos h]
   ·refine yZ (decide_eq_false h) (hk _ _ ⟨?_,rfl⟩)
    unfold Deed.mk' se; dsimp only; rw [if_neg h]
 rintro _ H ⟨rfl,rfl⟩
 exact ⟨_,rfl,q⟩
theorem yJ:FnScope ["_law_board","_law_calls","_law_row_here","_law_values","_law_k","_law_box"] ["_law_board","_law_calls","_law_row_here"] (zi (top 49)):=⟨rfl,rfl,rfl,by decide +kernel,rfl,by decide +kernel,by decide +kernel⟩
theorem uU (F:Fun K "_law_answers" "_law_answers" (top 49) f fd) (B:Blt mg) (qc0:zk P w K mg base n "_law_done" ["_law_deed_here","_law_value"] (vB K))     :
  FnOk P w K mg base CX0 (n + 1) f fd ["_law_board","_law_calls","_law_row_here"] (vh K):=by
 refine F.ok yJ xI (fun cdv A outer s H vs Q E hr h=>?_)
 obtain ⟨x,y,z,rfl,b,cs,ns,hb,hc,hn,ok,hlt,q⟩:=h
 refine ⟨_,(ze (zz (i:=3) yJ.nd rfl (Or.inl rfl) (zJ yT rfl B.list vQ (za (pv 0) zb))) (ze (xT PassesOwn.never rfl (y8 (pv 2)) (zm (i:=4) yJ.nd rfl (Or.inl rfl)) (ze (zz (i:=5) yJ.nd rfl (Or.inl rfl) (zE z7 (zE z7 (pv 1) (pv 4) (fun _ _=>rfl)) zh (fun _ _=>rfl))) (ze (zV (zD t8 (zE zQ (pv 3) (pv 5) (fun _ _=>rfl)) (zE z7 (zE z7 (pv 1) (pv 4) (fun _ _=>rfl)) zh (fun _ _=>rfl)) (zB _)) (zg (zq yy)) zy) (zg (xj (zf qc0 hr rfl (za (zE z7 (zE z7 (pv 1) (pv 4) (fun _ _=>rfl)) zh (fun _ _=>rfl)) (za (zE zQ (pv 3) (pv 5) (fun _ _=>rfl)) zb))) (u9 (pv 3) (pv 5) wv)))))) (zg (zq yy)))),?_⟩
 obtain ⟨rb,rfl,hrb⟩:=id hb
 obtain ⟨rc,xs,rfl,hrc,hall⟩:=id hc
 obtain ⟨r,rfl,hr0⟩:=id hn
 refine ⟨_,rfl,rb,_,rfl,.inr hrb,fun l hl0=>?_⟩
 have g0:=Grow.new (m:=[l]) hl0 (.lst (b.map V.int))
 refine ⟨_,rfl,r,rfl,⟨_,g0.sqT hr0⟩,qo (xs:=zp ns) (fun i σ H'=>∃ (vs:List Int) (e4 e5:Option V),σ = [some (.ref rb),some (.ref rc),some (.ref r),some (.ref l),e4,e5] /\ H' l = some (.lst (vs.map V.int)) /\ vs.length = b.length /\ Grow [l] H H' /\ an72 cs vs (ns.drop i) = an72 cs b ns) ⟨b,_,_,rfl,zd,rfl,g0,rfl⟩ (fun i σ H' _ ⟨_,_,_,_,_,_,g,_⟩=>g.sqT hr0) ?_ ?_⟩
 ·rintro i x σ H1 hx ⟨vs,e4,e5,rfl,hl1,vl,g1,hk⟩
  obtain ⟨k,hki,rfl⟩:=yj hx
  have hk':=hlt k (List.mem_of_getElem? hki)
  obtain ⟨z,hz,rz,rd,rfl,sz,sd⟩:=hall.getR (List.getElem?_eq_getElem hk')
  have o:=ok _ (List.getElem_mem hk')
  have ec:cg cs k = cs[k]:=yB (List.getElem?_eq_getElem hk')
  rw [vc hki,xa,ec] at hk
  have b0:=o.b0
  have b1:=o.b1
  have hbx:cs[k].box.toNat < vs.length:=by omega
  have hat:atI (vs.map V.int) cs[k].box = some (.int (vs.getD cs[k].box.toNat 0)):=by
   have:cs[k].box = (cs[k].box.toNat:Int):=by omega
   rw [this]
   refine zr ?_
   rw [List.getElem?_map,List.getElem?_eq_getElem hbx,Int.toNat_natCast,List.getD_eq_getElem?_getD,List.getElem?_eq_getElem hbx]
   rfl
  have c1:atI (cs[k].vs rd) 1 = some (.int cs[k].box):=zr (j:=1) rfl
  have c2:atI (cs[k].vs rd) 2 = some (.ref rd):=zr (j:=2) rfl
  have c5:atI (cs[k].vs rd) 5 = some (.int cs[k].answer):=zr (j:=5) rfl
  refine ya (fun v H'=>v = .int cs[k].box /\ H' = H1) (fun Kk hk=>⟨_,rfl,_,rfl,rc,_,_,.ref rz,rfl,rfl,g1.sqT hrc,zr hz,rz,_,_,_,rfl,rfl,g1.sqT sz,c1,hk _ _ ⟨rfl,rfl⟩⟩) ?_
  rintro _ H1 ⟨rfl,rfl⟩
  refine ⟨_,rfl,_,rfl,l,_,_,_,rfl,rfl,SqL.of hl1,hat,_,rfl,_,rfl,rc,_,_,.ref rz,rfl,rfl,g1.sqT hrc,zr hz,rz,_,_,_,rfl,rfl,g1.sqT sz,c5,rfl,_,rfl,?_⟩
  by_cases ha:vs.getD cs[k].box.toNat 0 = cs[k].answer
  ·rw [if_pos ha] at hk
   refine yZ (by rw [decide_eq_true (congrArg V.int ha)]; rfl) (yh ?_)
   refine ⟨_,rfl,_,rfl,rc,_,_,.ref rz,rfl,rfl,g1.sqT hrc,zr hz,rz,_,_,_,rfl,rfl,g1.sqT sz,c2,_,rfl,_,rfl,l,_,_,_,rfl,rfl,SqL.of hl1,hat,_,_,rfl,cs[k].deed,cs[k].answer,⟨rd,rfl,g1.sqT sd⟩,congrArg V.int ha,_,rfl,_,rfl,l,_,_,cs[k].box.toNat,rfl,rfl,hl1,?_,⟨vs.set cs[k].box.toNat (cs[k].deed.mk' cs[k].answer),_,_,rfl,?_,by rw [List.length_set,vl],g1.trans (Grow.set hl1 (by simp) _),hk⟩⟩
   ·exact si b0 (by rw [List.length_map]; exact hbx)
   ·rw [zd,List.map_set]
  ·rw [if_neg ha] at hk
   refine yX (by rw [decide_eq_false fun z=>ha (V.int.inj z)]; rfl) ?_
   have:=q _ (Grow.shrink hl0 g1)
   rw [← hk] at this
   exact this
 ·rintro σ H1 ⟨vs,e4,e5,rfl,hl1,vl,g1,hk⟩
  rw [zw,List.drop_length] at hk
  have:=q _ (Grow.shrink hl0 g1)
  rw [← hk] at this
  exact this
theorem xM:FnScope ["_law_calls","_law_row_here","_law_at_here","_law_k"] ["_law_calls","_law_row_here"] (zi (top 48)):=⟨rfl,rfl,rfl,by decide +kernel,rfl,by decide +kernel,by decide +kernel⟩
theorem sE (F:Fun K "_law_keeps" "_law_keeps" (top 48) f fd) (B:Blt mg)   (g_enumerate:mg "enumerate" = none) (g_any:mg "any" = none)   :
  FnOk P w K mg base CX0 (n + 1) f fd ["_law_calls","_law_row_here"] (wf K):=by
 refine F.ok xM zW (fun cdv A outer s H vs Q E hr h=>?_)
 obtain ⟨x,y,rfl,cs,ns,hc,hn,⟨m,ok⟩,hlt,n40,q⟩:=h
 refine ⟨_,(ze (xT PassesOwn.never rfl (xk true (K:=K) rfl rfl g_enumerate (za (pv 1) zb)) (xi rfl (zn (zm (i:=2) xM.nd rfl (Or.inl rfl)) (zn (zm (i:=3) xM.nd rfl (Or.inr rfl)) yk))) (zg (zV (zR (zj (w5 rfl) rfl g_any Z1 (za (zN (CSc.of (N':=["_law_j","_law_calls","_law_k"]) (sub:=[none,some 0,some 3]) (zi (top 48)) ["_law_calls","_law_row_here","_law_at_here","_law_k"] rfl rfl (by decide +kernel) rfl) rfl (y8 (zG jq (pv 1) (zK (zA yg (pv 2) zh)) zP)) (fun _ _ _ _ _ _=>zm (i:=0) (show (["_law_j","_law_calls","_law_k"]:List Str).Nodup by decide +kernel) rfl (Or.inl rfl)) (fun _ _ _ _ _ _=>zM) (fun _ _ _ _ _ _=>(yz uj (zE (yN (K:=K) rfl) (zE (yN (K:=K) rfl) (pv 1) (pv 0) (fun _ _=>rfl)) zh (fun _ _=>rfl)) (zE (yN (K:=K) rfl) (zE (yN (K:=K) rfl) (pv 1) (pv 2) (fun _ _=>rfl)) zh (fun _ _=>rfl)) (zB _)))) zb))) (zg (zq yy)) zy))) (zg (zq yy))),?_⟩
 obtain ⟨rc,xs,rfl,hrc,hall⟩:=id hc
 obtain ⟨r,rfl,hr0⟩:=id hn
 refine ⟨_,rfl,r,_,rfl,hr0,ut (xs:=zp ns) (fun i σ H'=>∃ (e2 e3:Option V),σ = [some (.ref rc),some (.ref r),e2,e3] /\ Grow [] H H' /\ kl72 cs (ns.drop i) = kl72 cs ns) ⟨_,_,rfl,Grow.refl _ _,rfl⟩ (fun i σ H' _ ⟨_,_,_,g,_⟩=>(g.sqT hr0:SqT K H' r (zp ns))) ?_ ?_⟩
 ·rintro i x σ H1 T hx ⟨e2,e3,rfl,g1,hk⟩ hT
  obtain ⟨k,hki,rfl⟩:=yj hx
  have hi:=(List.getElem?_eq_some_iff.mp hki).1
  have hk':=hlt k (List.mem_of_getElem? hki)
  have gT:=Grow.new (m:=[]) hT (.tup [.int i,.int k])
  obtain ⟨z,hz,rz,rd,rfl,sz,sd⟩:=hall.getR (List.getElem?_eq_getElem hk')
  have ec:cg cs k = cs[k]:=yB (List.getElem?_eq_getElem hk')
  refine ⟨T,_,rfl,SqT.of zd,rfl,_,_,rfl,_,_,rfl,rfl,?_⟩
  try dsimp only
  refine ⟨_,rfl,_,rfl,_,_,rfl,rfl,_,rfl,r,_,rfl,(g1.trans gT).sqT hr0,?_,fun p hp=>?_⟩
  ·rintro ⟨z,_⟩
   have e:HT.sIx (zp ns).length 0 (some ((i:Int) + 1)) = i + 1:=by
    rw [show (i:Int) + 1 = ((i + 1:Nat):Int) from by omega]
    exact UI (by rw [zw]; omega)
   omega
  have eC:cutV (zp ns) (some ((i:Int) + 1)) none = zp (ns.drop (i + 1)):=by
   rw [show (i:Int) + 1 = ((i + 1:Nat):Int) from by omega,qA]; unfold zp; rw [List.map_drop]
  rw [eC]
  have gp:=Grow.new (m:=[]) hp (.tup (zp (ns.drop (i + 1))))
  have G:=g1.trans (gT.trans gp)
  have hs2:SqT K (upd (upd H1 T (.tup [.int i,.int k])) p (.tup (zp (ns.drop (i + 1))))) p (zp (ns.drop (i + 1))):=SqT.of zd
  generalize upd (upd H1 T (.tup [.int i,.int k])) p (.tup (zp (ns.drop (i + 1)))) = H2 at gp G hs2 ⊢
  rw [vc hki] at hk
  have hk2:(!((ns.drop (i + 1)).any fun j=>decide ((cg cs j).ended < (cg cs k).begun)) && kl72 cs (ns.drop (i + 1))) = kl72 cs ns:=hk
  have c3:atI (cs[k].vs rd) 3 = some (.int cs[k].begun):=zr (j:=3) rfl
  refine ⟨p,rfl,⟨_,hs2⟩,ye (xs:=zp (ns.drop (i + 1))) (fun j ys H'=>ys = (((ns.drop (i + 1)).take j).map fun q=>decide ((cg cs q).ended < (cg cs k).begun)).map V.bl /\ H' = H2) ⟨rfl,rfl⟩ (fun j ys H' z=>by rw [z.2]; exact hs2) ?_ ?_⟩
  ·rintro j x ys H' hx ⟨rfl,rfl⟩
   obtain ⟨q',hq,rfl⟩:=yj hx
   have hq':=hlt q' (List.mem_of_mem_drop (List.mem_of_getElem? hq))
   obtain ⟨z,hzq,rq,rdq,rfl,sq,_⟩:=hall.getR (List.getElem?_eq_getElem hq')
   have eq':cg cs q' = cs[q']:=yB (List.getElem?_eq_getElem hq')
   have c4:atI (cs[q'].vs rdq) 4 = some (.int cs[q'].ended):=zr (j:=4) rfl
   refine ⟨_,rfl,_,rfl,rc,_,_,.ref rq,rfl,rfl,G.sqT hrc,zr hzq,rq,_,_,_,rfl,rfl,G.sqT sq,c4,_,rfl,_,rfl,rc,_,_,.ref rz,rfl,rfl,G.sqT hrc,zr hz,rz,_,_,_,rfl,rfl,G.sqT sz,c3,_,_,rfl,rfl,lt72 (by rw [List.length_map,List.length_map,List.length_take,List.length_drop]; omega),?_,rfl⟩
   rw [List.take_succ,hq,List.map_append,List.map_append]
   show _ ++ [V.bl (decide (cs[q'].ended < cs[k].begun))] = _ ++ [V.bl (decide ((cg cs q').ended < (cg cs k).begun))]
   rw [eq',ec]
  ·rintro ys H' ⟨rfl,rfl⟩ l hl
   rw [zw,List.take_length]
   have ea:(((ns.drop (i + 1)).map fun q=>decide ((cg cs q).ended < (cg cs k).begun)).any id) = (ns.drop (i + 1)).any fun j=>decide ((cg cs j).ended < (cg cs k).begun):=by rw [List.any_map]; rfl
   refine ⟨l,_,rfl,SqL.of zd,_,rfl,?_⟩
   have Gl:=G.trans (Grow.new hl (.lst (((ns.drop (i + 1)).map fun q=>decide ((cg cs q).ended < (cg cs k).begun)).map V.bl)))
   cases hany:((ns.drop (i + 1)).any fun j=>decide ((cg cs j).ended < (cg cs k).begun)) with
   | true =>
    rw [hany] at hk2
    have:=q _ Gl
    rw [← hk2] at this
    exact yX (by rw [ea]; exact hany) this
   | false =>
    rw [hany] at hk2
    exact yZ (by rw [ea]; exact hany) ⟨_,_,rfl,Gl,hk2⟩
 ·rintro σ H1 ⟨e2,e3,rfl,g1,hk⟩
  rw [zw,List.drop_length] at hk
  have:=q _ g1
  rw [← hk] at this
  exact this
theorem v4:FnScope ["_law_thing","_law_many"] ["_law_thing","_law_many"] (zi (top 47)):=⟨rfl,rfl,rfl,by decide +kernel,rfl,by decide +kernel,by decide +kernel⟩
theorem v5 (F:Fun K "_law_is_order" "_law_is_order" (top 47) f fd) (B:Blt mg)   (g_sorted:mg "sorted" = none) (g_any:mg "any" = none)   :
  FnOk P w K mg base CX0 (n + 1) f fd ["_law_thing","_law_many"] (uz K):=by
 refine F.ok v4 zW (fun cdv A outer s H vs Q E hr h=>?_)
 obtain ⟨x,y,rfl,d,m,n,hd,hl,rfl,n40,q⟩:=h
 refine ⟨_,(ze (zV (PW.pt (vv (yp (zR (zj (wc (K:=K) rfl) rfl B.isinstance zt (za (pv 0) (za (yU rfl B.tuple z9) zb))))) (xR (zR (zj (w5 rfl) rfl g_any Z1 (za (zN (CSc.of (N':=["_law_k"]) (sub:=[none]) (zi (top 47)) ["_law_thing","_law_many"] rfl rfl (by decide +kernel) rfl) rfl (y8 (pv 0)) (fun _ _ _ _ _ _=>zm (i:=0) (show (["_law_k"]:List Str).Nodup by decide +kernel) rfl (Or.inl rfl)) (fun _ _ _ _ _ _=>zM) (fun _ _ _ _ _ _=>(Xu (ji (zj (w6 (K:=K) rfl) rfl B.isinstance zt (za (pv 0) (za (yU rfl B.int Z2) zb)))) (xS (zj (w6 (K:=K) rfl) rfl B.isinstance zt (za (pv 0) (za (yU rfl B.bool Z3) zb))))))) zb)))))) (zg (zq yy)) zy) (zg (zq (yz (Z9 hr) (zj (wb (K:=K) rfl) rfl g_sorted v9 (za (pv 0) zb)) (vT rfl rfl B.list rfl B.range (za (pv 1) zb)) (zB _))))),?_⟩
 refine yA (fun b H'=>Grow [] H H' /\ (b = true -> ¬ ∃ ns,xt n d ns) /\ (b = false -> ∃ (r:Addr) (zs:List Int),x = .ref r /\ d = .tuple (zs.map PyData.int) /\ SqT K H r (zs.map V.int) /\ zs.length < 64)) (fun Kk hk=>⟨_,rfl,_,d,m,_,_,rfl,hd,we d,_,rfl,?_⟩) ?_
 ·cases ht:su d with
  | false=>exact iteT (hk _ _ ⟨Grow.refl _ _,(fun _=>Yx ht n),fun z=>nomatch z⟩)
  | true =>
   obtain ⟨r,xs,ds,rfl,rfl,hs,os⟩:=vd hd ht
   obtain ⟨h64,hnd⟩:=hl ds rfl
   have xl:=os.length
   refine iteF ⟨_,rfl,r,rfl,⟨_,hs⟩,ye (xs:=xs) (fun i ys H'=>ys = ((ds.take i).map fun e=>!yK e).map V.bl /\ H' = H) ⟨rfl,rfl⟩ (fun i ys H' z=>by rw [z.2]; exact hs) ?_ ?_⟩
   ·rintro i x ys H' hx ⟨rfl,rfl⟩
    obtain ⟨e,he,oe⟩:=os.get hx
    obtain ⟨t,ty,k1,k2,hw⟩:=qI oe (hnd e (List.mem_of_getElem? he))
    have fin:∀ v:Bool,v = !yK e -> (((ds.take i).map fun e=>!yK e).map V.bl).length < sizeLine /\ ((ds.take i).map fun e=>!yK e).map V.bl ++ [V.bl v] = ((ds.take (i + 1)).map fun e=>!yK e).map V.bl /\ H' = H':=fun v hv=>by
     refine ⟨lt72 (by rw [List.length_map,List.length_map,List.length_take]; omega),?_,rfl⟩
     rw [hv,List.take_succ,he,List.map_append,List.map_append]; rfl
    refine ⟨_,rfl,_,_,t,_,rfl,ty,k1,_,rfl,_,rfl,?_⟩
    cases hq:(yK e || X1 e) with
    | false =>
     have hq':=hq
     rw [Bool.or_eq_false_iff] at hq'
     exact yX rfl (fin true (by rw [hq'.1]; rfl))
    | true =>
     refine yZ rfl ⟨_,rfl,_,_,t,_,rfl,ty,k2,fin _ ?_⟩
     cases e <;> first | rfl | cases hq
   ·rintro ys H' ⟨rfl,rfl⟩ l hl'
    rw [xl,List.take_length]
    have ea:((ds.map fun e=>!yK e).any id) = !(ds.all yK):=by
     rw [List.any_map,List.all_eq_not_any_not,Bool.not_not]; rfl
    refine ⟨l,ds.map fun e=>!yK e,rfl,SqL.of zd,_,rfl,hk _ _ ⟨Grow.new hl' _,fun z=>?_,fun z=>?_⟩⟩
    ·intro ho
     rw [ea,Yy ho] at z
     cases z
    ·rw [ea,Bool.not_eq_false'] at z
     obtain ⟨zs,rfl⟩:=jE z
     rw [wy os] at hs
     exact ⟨r,zs,rfl,rfl,hs,by rw [List.length_map] at h64; exact h64⟩
 rintro b H1 ⟨g1,hb1,hb2⟩
 cases b with
 | true=>exact iteT (q _ _ g1 ⟨(fun z=>nomatch z),fun z=>absurd z (hb1 rfl)⟩)
 | false =>
  obtain ⟨r,zs,rfl,rfl,hs,h64⟩:=hb2 rfl
  refine iteF (yh ⟨_,rfl,r,zs,rfl,g1.sqT hs,h64,fun p ms hp hperm hpw=>?_⟩)
  have gp:=Grow.new (m:=[]) hp (.lst (ms.map V.int))
  refine ⟨_,rfl,n,rfl,by omega,fun l hl'=>?_⟩
  have gl:=Grow.new (m:=[]) hl' (.lst ((List.range n).map fun i:Nat=>V.int i))
  refine ⟨p,l,_,_,rfl,rfl,SqL.of (gl.keep _ _ (by simp) zd),SqL.of zd,ve _,uc _,q _ _ (g1.trans (gp.trans gl)) ?_⟩
  rw [if_neg (by decide),show ((List.range n).map fun i:Nat=>V.int i) = zp (List.range n) from rfl,zU,wZ,decide_eq_true_eq]
  exact Yz hperm hpw
theorem qa:FnScope ["_law_board","_law_calls","_law_thing"] ["_law_board","_law_calls","_law_thing"] (zi (top 50)):=⟨rfl,rfl,rfl,by decide +kernel,rfl,by decide +kernel,by decide +kernel⟩
theorem qb (F:Fun K "_law_fits" "_law_fits" (top 50) f fd) (B:Blt mg) (qc0:zk P w K mg base n "_law_answers" ["_law_board","_law_calls","_law_row_here"] (vh K)) (qc1:zk P w K mg base n "_law_keeps" ["_law_calls","_law_row_here"] (wf K)) (qc2:zk P w K mg base n "_law_is_order" ["_law_thing","_law_many"] (uz K))     :
  FnOk P w K mg base CX0 (n + 1) f fd ["_law_board","_law_calls","_law_thing"] (rp K):=by
 refine F.ok qa xI (fun cdv A outer s H vs Q E hr h=>?_)
 obtain ⟨x,y,z,rfl,b,cs,d,m,hb,b1,b16,hc,hd,ok,hl,q⟩:=h
 refine ⟨_,(ze (zV (yp (zR (zf qc2 hr rfl (za (pv 2) (za (zj zu rfl B.len xh (za (pv 1) zb)) zb))))) (zg (zq yy)) zy) (zg (zq (xw (zf qc1 hr rfl (za (pv 1) (za (pv 2) zb))) (xS (zf qc0 hr rfl (za (pv 0) (za (pv 1) (za (pv 2) zb))))))))),?_⟩
 obtain ⟨rc,xs,rfl,hrc,hall⟩:=id hc
 have xl:=hall.len
 refine yA (fun bb H'=>Grow [] H H' /\ (bb = false ↔ ∃ ns,xt cs.length d ns)) (fun Kk hk=>⟨_,rfl,_,rfl,rc,_,rfl,.inr hrc,_,_,rfl,d,m,cs.length,hd,hl,by rw [xl],ok.len,fun b1 H1 g1 h1=>⟨_,rfl,hk _ _ ⟨g1,by rw [Bool.not_eq_false']; exact h1⟩⟩⟩) ?_
 rintro bb H1 ⟨g1,h1⟩
 cases bb with
 | true=>exact iteT (q _ _ g1 ⟨(fun z=>nomatch z),fun ⟨ns,o,_⟩=>absurd (h1.mpr ⟨ns,o⟩) (by decide)⟩)
 | false =>
  obtain ⟨ns,o⟩:=h1.mp rfl
  have hN:yO K H z ns:=ss o.1 hd
  have hlt:∀ k ∈ ns,k < cs.length:=fun k hk=>List.mem_range.mp (o.2.mem_iff.mp hk)
  have nl:ns.length = cs.length:=by rw [o.2.length_eq,List.length_range]
  have iff:∀ bb:Bool,bb = (kl72 cs ns && an72 cs b ns) -> (bb = true ↔ XY b cs d):=fun bb e=>by
   rw [e,Bool.and_eq_true]
   exact ⟨fun z=>⟨ns,o,z.1,z.2⟩,fun ⟨ms,o',z1,z2⟩=>by rw [o.uniq o']; exact ⟨z1,z2⟩⟩
  refine iteF (yh ⟨_,rfl,_,rfl,_,_,rfl,cs,ns,g1.calls72 hc,hN.grow g1,⟨_,ok.ok⟩,hlt,by rw [nl]; exact ok.len,fun H2 g2=>⟨_,rfl,?_⟩⟩)
  cases hk:kl72 cs ns with
  | false=>exact iteF (q _ _ (g1.trans g2) (iff _ (by rw [hk]; rfl)))
  | true=>exact iteT ⟨_,rfl,_,rfl,_,rfl,_,_,_,rfl,b,cs,ns,(g1.trans g2).board hb,(g1.trans g2).calls72 hc,hN.grow (g1.trans g2),ok.ok,hlt,fun H3 g3=>q _ _ (g1.trans (g2.trans g3)) (iff _ (by rw [hk]; rfl))⟩
theorem wK:FnScope ["_law_board","_law_calls","_law_box","_law_row_here","_law_numbers"] ["_law_board","_law_calls","_law_box","_law_row_here"] (zi (top 54)):=⟨rfl,rfl,rfl,by decide +kernel,rfl,by decide +kernel,by decide +kernel⟩
theorem u4 (F:Fun K "_law_is_box" "_law_is_box" (top 54) f fd) (B:Blt mg) (qc0:zk P w K mg base n "_law_answers" ["_law_board","_law_calls","_law_row_here"] (vh K)) (qc1:zk P w K mg base n "_law_keeps" ["_law_calls","_law_row_here"] (wf K))  (g_sorted:mg "sorted" = none) (g_any:mg "any" = none) (g_enumerate:mg "enumerate" = none)   :
  FnOk P w K mg base CX0 (n + 1) f fd ["_law_board","_law_calls","_law_box","_law_row_here"] (tY K):=by
 refine F.ok wK qu (fun cdv A outer s H vs Q E hr h=>?_)
 obtain ⟨x,y,z,u,rfl,b,cs,i,d,m,hb,b16,hc,ok,rfl,hd,hl,q⟩:=h
 refine ⟨_,(ze (sj (i:=4) wK.nd rfl rfl (CSc.of (N':=["_law_k","_law_call","_law_box"]) (sub:=[none,none,some 2]) (zi (top 54)) ["_law_board","_law_calls","_law_box","_law_row_here","_law_numbers"] rfl rfl (by decide +kernel) rfl) rfl (xk true (K:=K) rfl rfl g_enumerate (za (pv 1) zb)) (fun _ _ _ _ _ _=>uu (K:=K) 2 rfl rfl (zn (zm (i:=0) (show (["_law_k","_law_call","_law_box"]:List Str).Nodup by decide +kernel) rfl (Or.inl rfl) (Or.inr rfl)) (zn (zm (i:=1) (show (["_law_k","_law_call","_law_box"]:List Str).Nodup by decide +kernel) rfl (Or.inl rfl) (Or.inr rfl)) yk)) rfl rfl) (fun _ _ _ _ _ _=>(ua (zD vw (zE (yN (K:=K) rfl) (pv 1) zh (fun _ _=>rfl)) (pv 2) (zB _)))) (fun _ _ _ _ _ _=>(pv 0))) (ze (zV (PW.pt (vv (yp (zR (zj (wc (K:=K) rfl) rfl B.isinstance zt (za (pv 3) (za (yU rfl B.tuple z9) zb))))) (xR (zR (zj (w5 rfl) rfl g_any Z1 (za (zN (CSc.of (N':=["_law_k"]) (sub:=[none]) (zi (top 54)) ["_law_board","_law_calls","_law_box","_law_row_here","_law_numbers"] rfl rfl (by decide +kernel) rfl) rfl (y8 (pv 3)) (fun _ _ _ _ _ _=>zm (i:=0) (show (["_law_k"]:List Str).Nodup by decide +kernel) rfl (Or.inl rfl)) (fun _ _ _ _ _ _=>zM) (fun _ _ _ _ _ _=>(Xu (ji (zj (w6 (K:=K) rfl) rfl B.isinstance zt (za (pv 0) (za (yU rfl B.int Z2) zb)))) (xS (zj (w6 (K:=K) rfl) rfl B.isinstance zt (za (pv 0) (za (yU rfl B.bool Z3) zb))))))) zb)))))) (zg (zq yy)) zy) (zg (zq (xw (yz (Z9 hr) (zj (wb (K:=K) rfl) rfl g_sorted v9 (za (pv 3) zb)) (pv 4) (zB _)) (xw (zf qc1 hr rfl (za (pv 1) (za (pv 3) zb))) (xS (zf qc0 hr rfl (za (pv 0) (za (pv 1) (za (pv 3) zb))))))))))),?_⟩
 obtain ⟨rc,xs,rfl,hrc,hall⟩:=id hc
 have xl:=hall.len
 have c40:=ok.len
 refine ya (fun v H'=>W6 K H' v (nb73 cs i) /\ Grow [] H H') (fun Kk hk=>⟨_,rfl,rc,_,rfl,hrc,xA (c:=true) (xs:=xs) (fun j ys σ' H'=>(∃ e0 e1:Option V,σ' = [e0,e1,some (.int (i:Int))]) /\ Grow [] H H' /\ ys = zp ((List.range j).filter (yL cs i))) ⟨⟨_,_,rfl⟩,Grow.refl _ _,rfl⟩ (fun j ys σ' H' z=>((z.2.1).sqT hrc:SqT K H' rc xs)) ?_ ?_⟩) ?_
 ·rintro j v ys σ' H3 T3 hv3 ⟨⟨e0,e1,rfl⟩,g3,rfl⟩ hT3
  obtain ⟨c,hci,hcat⟩:=hall.get hv3
  have hj:=(List.getElem?_eq_some_iff.mp hci).1
  obtain ⟨rz,rd,rfl,sz,_⟩:=g3.call72 hcat
  have gT3:=Grow.new (m:=[]) hT3 (.tup [.int j,.ref rz])
  have hTT3:=zd (H:=H3) (a:=T3) (o:=.tup [.int j,.ref rz])
  have sz3:=gT3.sqT sz
  generalize upd H3 T3 _ = H4 at gT3 hTT3 sz3 ⊢
  refine ⟨T3,_,rfl,SqT.of hTT3,rfl,_,_,rfl,_,_,rfl,rfl,?_⟩
  refine ⟨_,rfl,rz,_,1,.int c.box,rfl,rfl,sz3,zr (j:=1) rfl,_,rfl,rfl,_,rfl,?_⟩
  have small:(zp ((List.range j).filter (yL cs i))).length < sizeLine:=by
   rw [zw]
   have:=List.length_filter_le (yL cs i) (List.range j)
   rw [List.length_range] at this
   exact lt72 (by omega)
  by_cases cb:c.box = (i:Int)
  ·refine yX (decide_eq_true (congrArg V.int cb)) ⟨_,rfl,small,⟨_,_,rfl⟩,g3.trans gT3,?_⟩
   rw [wo,yB hci,if_pos cb,xB]; rfl
  ·refine yZ (decide_eq_false fun z=>cb (V.int.inj z)) ⟨⟨_,_,rfl⟩,g3.trans gT3,?_⟩
   rw [wo,yB hci,if_neg cb,List.append_nil]
 ·rintro ys σ' H3 ⟨_,g3,rfl⟩ l hl
  rw [xl]
  exact hk _ _ ⟨⟨l,rfl,SqL.of zd⟩,g3.trans (Grow.new hl _)⟩
 rintro vn Hs ⟨hvn,g0⟩
 have hds:=hd.grow (g0.wk (m:=m))
 refine yA (fun b H'=>Grow [] Hs H' /\ (b = true -> ¬ ∃ ns,yI (nb73 cs i) d ns) /\ (b = false -> ∃ (r:Addr) (zs:List Int),u = .ref r /\ d = .tuple (zs.map PyData.int) /\ SqT K Hs r (zs.map V.int) /\ zs.length < 64)) (fun Kk hk=>⟨_,rfl,_,d,m,_,_,rfl,hds,we d,_,rfl,?_⟩) ?_
 ·cases ht:su d with
  | false=>exact iteT (hk _ _ ⟨Grow.refl _ _,(fun _=>rV ht _),fun z=>nomatch z⟩)
  | true =>
   obtain ⟨r,xs,ds,rfl,rfl,hs,os⟩:=vd hds ht
   obtain ⟨h64,hnd⟩:=hl ds rfl
   have xl:=os.length
   refine iteF ⟨_,rfl,r,rfl,⟨_,hs⟩,ye (xs:=xs) (fun j ys H'=>ys = ((ds.take j).map fun e=>!yK e).map V.bl /\ H' = Hs) ⟨rfl,rfl⟩ (fun j ys H' z=>by rw [z.2]; exact hs) ?_ ?_⟩
   ·rintro j x ys H' hx ⟨rfl,rfl⟩
    obtain ⟨e,he,oe⟩:=os.get hx
    obtain ⟨t,ty,k1,k2,hw⟩:=qI oe (hnd e (List.mem_of_getElem? he))
    have fin:∀ v:Bool,v = !yK e -> (((ds.take j).map fun e=>!yK e).map V.bl).length < sizeLine /\ ((ds.take j).map fun e=>!yK e).map V.bl ++ [V.bl v] = ((ds.take (j + 1)).map fun e=>!yK e).map V.bl /\ H' = H':=fun v hv=>by
     refine ⟨lt72 (by rw [List.length_map,List.length_map,List.length_take]; omega),?_,rfl⟩
     rw [hv,List.take_succ,he,List.map_append,List.map_append]; rfl
    refine ⟨_,rfl,_,_,t,_,rfl,ty,k1,_,rfl,_,rfl,?_⟩
    cases hq:(yK e || X1 e) with
    | false =>
     have hq':=hq
     rw [Bool.or_eq_false_iff] at hq'
     exact yX rfl (fin true (by rw [hq'.1]; rfl))
    | true =>
     refine yZ rfl ⟨_,rfl,_,_,t,_,rfl,ty,k2,fin _ ?_⟩
     cases e <;> first | rfl | cases hq
   ·rintro ys H' ⟨rfl,rfl⟩ l hl'
    rw [xl,List.take_length]
    have ea:((ds.map fun e=>!yK e).any id) = !(ds.all yK):=by
     rw [List.any_map,List.all_eq_not_any_not,Bool.not_not]; rfl
    refine ⟨l,ds.map fun e=>!yK e,rfl,SqL.of zd,_,rfl,hk _ _ ⟨Grow.new hl' _,fun z=>?_,fun z=>?_⟩⟩
    ·intro ho
     rw [ea,rW ho] at z
     cases z
    ·rw [ea,Bool.not_eq_false'] at z
     obtain ⟨zs,rfl⟩:=jE z
     rw [wy os] at hs
     exact ⟨r,zs,rfl,rfl,hs,by rw [List.length_map] at h64; exact h64⟩
 rintro bt H1 ⟨g1,hb1,hb2⟩
 have G1:=g0.trans g1
 cases bt with
 | true=>exact iteT (q _ _ ⟨(fun z=>nomatch z),fun ⟨ns,o,_⟩=>absurd ⟨ns,o⟩ (hb1 rfl)⟩ G1)
 | false =>
  obtain ⟨r,zs,rfl,rfl,hs,h64⟩:=hb2 rfl
  refine iteF (yh ?_)
  obtain ⟨l,rfl,hvl⟩:=hvn
  refine ⟨_,rfl,r,zs,rfl,g1.sqT hs,h64,fun p ms hp hperm hpw=>?_⟩
  have gp:=Grow.new (m:=[]) hp (.lst (ms.map V.int))
  have oi:=rX (ks:=nb73 cs i) YY hperm hpw
  refine ⟨_,rfl,p,l,_,_,rfl,rfl,SqL.of zd,(g1.trans gp).sqL hvl,ve _,uc _,?_⟩
  rw [if_neg (by decide),zU,wZ]
  refine ⟨_,rfl,?_⟩
  have G2:=G1.trans gp
  by_cases e:ms = (nb73 cs i).map fun k:Nat=>(k:Int)
  ·obtain ⟨ns,o⟩:=oi.mp e
   have hN:=(ss o.1 hd).grow G2
   have hlt:∀ k ∈ ns,k < cs.length:=fun k hk=>(yf.mp (o.2.mem_iff.mp hk)).1
   have few:=ok.few i
   rw [← wA] at few
   have nl:ns.length <= 40:=by rw [o.2.length_eq]; omega
   have iff:∀ bb:Bool,bb = (kl72 cs ns && an72 cs b ns) -> (bb = true ↔ uQ b cs (nb73 cs i) (.tuple (zs.map PyData.int))):=fun bb e=>by
    rw [e,Bool.and_eq_true]
    exact ⟨fun z=>⟨ns,o,z.1,z.2⟩,fun ⟨ms,o',z1,z2⟩=>by rw [o.uniq o']; exact ⟨z1,z2⟩⟩
   refine yX (decide_eq_true e) ⟨_,rfl,_,rfl,_,_,rfl,cs,ns,G2.calls72 hc,hN,⟨_,ok.ok⟩,hlt,nl,fun H2 g2=>⟨_,rfl,?_⟩⟩
   cases hk:kl72 cs ns with
   | false=>exact iteF (q _ _ (iff _ (by rw [hk]; rfl)) (G2.trans g2))
   | true=>exact iteT ⟨_,rfl,_,rfl,_,rfl,_,_,_,rfl,b,cs,ns,(G2.trans g2).board hb,(G2.trans g2).calls72 hc,hN.grow g2,ok.ok,hlt,fun H3 g3=>q _ _ (iff _ (by rw [hk]; rfl)) (G2.trans (g2.trans g3))⟩
  ·exact yZ (decide_eq_false e) (q _ _ ⟨(fun z=>nomatch z),fun ⟨ns,o,_⟩=>absurd (oi.mpr ⟨ns,o⟩) e⟩ G2)
theorem vL:FnScope ["_law_board","_law_calls","_law_rows_here"] ["_law_board","_law_calls","_law_rows_here"] (zi (top 55)):=⟨rfl,rfl,rfl,by decide +kernel,rfl,by decide +kernel,by decide +kernel⟩
theorem vM (F:Fun K "_law_are_right" "_law_are_right" (top 55) f fd) (B:Blt mg) (qc0:zk P w K mg base n "_law_is_box" ["_law_board","_law_calls","_law_box","_law_row_here"] (tY K))  (g_enumerate:mg "enumerate" = none)   :
  FnOk P w K mg base CX0 (n + 1) f fd ["_law_board","_law_calls","_law_rows_here"] (uT K):=by
 refine F.ok vL xI (fun cdv A outer s H vs Q E hr h=>?_)
 obtain ⟨x,y,z,rfl,b,cs,d,m,hb,b16,hc,ok,hd,hl,q⟩:=h
 refine ⟨_,(ze (zV (PW.pt (vv (yp (zR (zj (wc (K:=K) rfl) rfl B.isinstance zt (za (pv 2) (za (yU rfl B.tuple z9) zb))))) (xR (zD t8 (zj zu rfl B.len xh (za (pv 2) zb)) (zj zu rfl B.len xh (za (pv 0) zb)) (zB _))))) (zg (zq yy)) zy) (zg (zq (zj (xz rfl) rfl B.all j3 (za (zN (CSc.of (N':=["_law_box","_law_row_here","_law_board","_law_calls"]) (sub:=[none,none,some 0,some 1]) (zi (top 55)) ["_law_board","_law_calls","_law_rows_here"] rfl rfl (by decide +kernel) rfl) rfl (xk true (K:=K) rfl rfl g_enumerate (za (pv 2) zb)) (fun _ _ _ _ _ _=>uu (K:=K) 2 rfl rfl (zn (zm (i:=0) (show (["_law_box","_law_row_here","_law_board","_law_calls"]:List Str).Nodup by decide +kernel) rfl (Or.inl rfl) (Or.inr rfl)) (zn (zm (i:=1) (show (["_law_box","_law_row_here","_law_board","_law_calls"]:List Str).Nodup by decide +kernel) rfl (Or.inl rfl) (Or.inr rfl)) yk)) rfl rfl) (fun _ _ _ _ _ _=>zM) (fun _ _ _ _ _ _=>(zf qc0 hr rfl (za (pv 2) (za (pv 3) (za (pv 0) (za (pv 1) zb))))))) zb))))),?_⟩
 obtain ⟨rb,rfl,hrb⟩:=id hb
 refine yA (fun t H'=>H' = H /\ (t = true -> ¬ xu b cs d) /\ (t = false -> ∃ (r:Addr) (xs:List V) (ds:List PyData),z = .ref r /\ d = .tuple ds /\ SqT K H r xs /\ Ods K m H xs ds /\ ds.length = b.length)) (fun Kk hk=>⟨_,rfl,_,d,m,_,_,rfl,hd,we d,_,rfl,?_⟩) ?_
 ·cases ht:su d with
  | false=>exact iteT (hk _ _ ⟨rfl,(fun _ ⟨os,e,_⟩=>by rw [e] at ht; cases ht),fun z=>nomatch z⟩)
  | true =>
   obtain ⟨r,xs,ds,rfl,rfl,hs,os⟩:=vd hd ht
   have xl:=os.length
   refine iteF ⟨_,rfl,r,_,rfl,.inr hs,_,rfl,rb,_,rfl,.inr hrb,rfl,_,rfl,hk _ _ ⟨rfl,fun t=>?_,fun t=>?_⟩⟩
   ·rintro ⟨os,e,h1,_⟩
    injection e with e
    have:xs.length = (b.map V.int).length:=by rw [xl,e,List.length_map,List.length_map,h1]
    rw [this] at t
    simp at t
   ·refine ⟨r,xs,ds,rfl,rfl,hs,os,?_⟩
    rw [Bool.not_eq_false',decide_eq_true_eq] at t
    injection t with t
    rw [List.length_map] at t
    omega
 rintro t H1 ⟨rfl,ht1,ht2⟩
 cases t with
 | true=>exact iteT (q _ _ ⟨(fun z=>nomatch z),fun z=>absurd z (ht1 rfl)⟩ (Grow.refl _ _))
 | false =>
  obtain ⟨r,xs,ds,rfl,rfl,hs,os,dl⟩:=ht2 rfl
  have xl:=os.length
  obtain ⟨h64,hfl⟩:=hl ds rfl
  refine iteF (yh ?_)
  refine ⟨_,rfl,r,_,rfl,hs,xA (c:=true) (xs:=xs) (fun j ys σ' H'=>(∃ e0 e1:Option V,σ' = [e0,e1,some (.ref rb),some y]) /\ Grow [] H1 H' /\ ∃ bs:List Bool,ys = bs.map V.bl /\ bs.length = j /\ (bs.all id = true ↔ ∀ x,x < j -> uQ b cs (nb73 cs x) (ds.getD x .none))) ⟨⟨_,_,rfl⟩,Grow.refl _ _,[],rfl,rfl,⟨(fun _ x hx=>absurd hx (Nat.not_lt_zero _)),fun _=>rfl⟩⟩ (fun j ys σ' H' z=>((z.2.1).sqT hs:SqT K H' r xs)) ?_ ?_⟩
  ·rintro j v ys σ' H3 T3 hv ⟨⟨e0,e1,rfl⟩,g3,bs,rfl,bl,hbs⟩ hT3
   obtain ⟨dj,hdj,odj⟩:=os.get hv
   have hj:j < ds.length:=(List.getElem?_eq_some_iff.mp hdj).1
   have ed:ds.getD j .none = dj:=by rw [List.getD_eq_getElem?_getD,hdj]; rfl
   have gT3:=Grow.new (m:=[]) hT3 (.tup [.int j,v])
   have hTT3:=zd (H:=H3) (a:=T3) (o:=.tup [.int j,v])
   have g4:=g3.trans gT3
   generalize upd H3 T3 _ = H4 at gT3 hTT3 g4 ⊢
   refine ⟨T3,_,rfl,SqT.of hTT3,rfl,_,_,rfl,_,_,rfl,rfl,?_⟩
   refine ⟨_,rfl,_,rfl,_,rfl,_,rfl,_,_,_,_,rfl,b,cs,j,dj,m,g4.board hb,b16,g4.calls72 hc,ok,rfl,odj.grow (g4.wk (m:=m)),hfl dj (List.mem_of_getElem? hdj),fun t H5 ht g5=>⟨lt72 (by rw [List.length_map]; omega),⟨_,_,rfl⟩,g4.trans g5,bs ++ [t],by rw [List.map_append]; rfl,by rw [List.length_append,bl]; rfl,?_⟩⟩
   rw [List.all_append,Bool.and_eq_true,hbs]
   constructor
   ·rintro ⟨h1,h2⟩ x hx
    by_cases e:x = j
    ·rw [e,ed]
     refine ht.mp ?_
     simpa using h2
    ·exact h1 x (by omega)
   ·intro h
    refine ⟨fun x hx=>h x (by omega),?_⟩
    have:=h j (Nat.lt_succ_self _)
    rw [ed] at this
    simp [ht.mpr this]
  ·rintro ys σ' H3 ⟨_,g3,bs,rfl,bl,hbs⟩ l hl'
   refine ⟨l,bs,rfl,SqL.of zd,q _ _ ?_ (g3.trans (Grow.new hl' _))⟩
   rw [hbs,vK dl,xl,dl]
theorem xH:FnScope ["calls","orders","left","together","ended","number","own"] ["calls","orders"] (zi (top 32)):=⟨rfl,rfl,rfl,by decide +kernel,rfl,by decide +kernel,by decide +kernel⟩
theorem Xp (F:Fun K "merged" "merged" (top 32) f fd) (B:Blt mg)   (g_sorted:mg "sorted" = none) (g_enumerate:mg "enumerate" = none)   :
  FnOk P w K mg base CX0 (n + 1) f fd ["calls","orders"] (uR K):=by
 refine F.ok xH zW (fun cdv A outer s H vs Q E hr h=>?_)
 obtain ⟨x,y,rfl,cs,l,vs,os,hc,rfl,hl,hos,ok,o16,o40,q⟩:=h
 refine ⟨_,(ze (sj (i:=2) xH.nd rfl rfl (CSc.of (N':=["order"]) (sub:=[none]) (zi (top 32)) ["calls","orders","left","together","ended","number","own"] rfl rfl (by decide +kernel) rfl) rfl (y8 (pv 1)) (fun _ _ _ _ _ _=>zm (i:=0) (show (["order"]:List Str).Nodup by decide +kernel) rfl (Or.inl rfl)) (fun _ _ _ _ _ _=>zM) (fun _ _ _ _ _ _=>(zJ (Zb (K:=K) rfl) rfl B.list vQ (za (pv 0) zb)))) (ze (zz (i:=3) xH.nd rfl (Or.inl rfl) (yM zb)) (ze (xT PassesOwn.never rfl (t7 (zj (qS (K:=K) rfl) rfl g_sorted v9 (za (zN (CSc.of (N':=["number","call"]) (sub:=[none,none]) (zi (top 32)) ["calls","orders","left","together","ended","number","own"] rfl rfl (by decide +kernel) rfl) rfl (xk true (K:=K) rfl rfl g_enumerate (za (pv 0) zb)) (fun _ _ _ _ _ _=>uu (K:=K) 2 rfl rfl (zn (zm (i:=0) (show (["number","call"]:List Str).Nodup by decide +kernel) rfl (Or.inl rfl) (Or.inr rfl)) (zn (zm (i:=1) (show (["number","call"]:List Str).Nodup by decide +kernel) rfl (Or.inl rfl) (Or.inr rfl)) yk)) rfl rfl) (fun _ _ _ _ _ _=>zM) (fun _ _ _ _ _ _=>(zY (za (zE (yN (K:=K) rfl) (pv 1) zh (fun _ _=>rfl)) (za (pv 0) zb))))) zb))) (xi rfl (zn (zm (i:=4) xH.nd rfl (Or.inl rfl)) (zn (zm (i:=5) xH.nd rfl (Or.inl rfl)) yk))) (ze (zz (i:=6) xH.nd rfl (Or.inl rfl) (zE zQ (pv 2) (zE z7 (zE z7 (pv 0) (pv 5) (fun _ _=>rfl)) zh (fun _ _=>rfl)) (fun _ _=>rfl))) (zg (Xw PassesOwn.never (zD ZX (pv 5) (pv 6) (by with_unfolding_all rfl)) (zg (xX (sV PySem.F.plainAttrs_list PySem.F.slot_list_append PySem.F.type_list_append x8 (pv 3) (za (sV PySem.F.plainAttrs_list PySem.F.slot_list_pop PySem.F.type_list_pop jr (pv 6) (za zh zb)) zb)))))))) (zg (zq (zJ zS rfl B.tuple z9 (za (pv 3) zb))))))),?_⟩
 obtain ⟨rc,xs,rfl,hrc,hall⟩:=id hc
 have xl:=hall.len
 have vl:=hos.len
 refine ya (fun v H'=>∃ (ll:Addr) (as:List Addr),v = .ref ll /\ H' ll = some (.lst (as.map V.ref)) /\ ll ∉ as /\ H ll = none /\ as.Nodup /\ (∀ a ∈ as,H a = none) /\ Bx72 H' as os /\ Grow [] H H') (fun Kk hk=>⟨_,rfl,l,rfl,⟨_,hl⟩,ye (xs:=vs) (fun i ys H'=>∃ as:List Addr,ys = as.map V.ref /\ as.length = i /\ as.Nodup /\ (∀ a ∈ as,H a = none) /\ Bx72 H' as (os.take i) /\ Grow [] H H') ⟨[],rfl,rfl,List.nodup_nil,(fun a h=>nomatch h),⟨rfl,fun j a h=>by cases h⟩,Grow.refl _ _⟩ (fun i ys H' ⟨_,_,_,_,_,_,g⟩=>g.sqT hl) ?_ ?_⟩) ?_
 ·rintro i v ys H' hv ⟨as,rfl,al,nd,ha,bx,g⟩
  obtain ⟨o,ho,r,rfl,hr⟩:=hos.get hv
  have hi:=(List.getElem?_eq_some_iff.mp hv).1
  refine ⟨_,rfl,r,_,rfl,.inr (g.sqT hr),fun a h0=>⟨lt72 (by rw [List.length_map]; omega),as ++ [a],by rw [List.map_append]; rfl,by rw [List.length_append,List.length_singleton,al],?_,?_,⟨?_,?_⟩,g.trans (Grow.new h0 _)⟩⟩
  ·refine List.nodup_append.mpr ⟨nd,by simp,fun x hx y hy=>?_⟩
   rw [List.mem_singleton.mp hy]
   rintro rfl
   obtain ⟨j,hj⟩:=List.getElem?_of_mem hx
   rw [bx.at_ j x hj] at h0; cases h0
  ·intro x hx
   rcases List.mem_append.mp hx with hx | hx
   ·exact ha x hx
   ·rw [List.mem_singleton.mp hx]; exact g.free (by simp) h0
  ·rw [yP ho,List.length_append,List.length_append,bx.len]; rfl
  ·rw [yP ho]
   intro j a' h'
   have tl:(os.take i).length = as.length:=bx.len
   by_cases e:j < as.length
   ·rw [List.getElem?_append_left e] at h'
    have:=bx.at_ j a' h'
    rw [zo (zv this h0),this,List.getD_eq_getElem?_getD,List.getD_eq_getElem?_getD,List.getElem?_append_left (by omega)]
   ·have e2:j = as.length:=by
     have:=(List.getElem?_eq_some_iff.mp h').1
     rw [List.length_append,List.length_singleton] at this
     omega
    subst e2
    rw [List.getElem?_append_right (Nat.le_refl _),Nat.sub_self] at h'
    cases h'
    rw [zd,List.getD_eq_getElem?_getD,List.getElem?_append_right (by omega),tl,Nat.sub_self]; rfl
 ·rintro ys H' ⟨as,rfl,al,nd,ha,bx,g⟩ ll hll
  rw [vl,List.take_length] at bx
  refine hk _ _ ⟨ll,as,rfl,zd,fun z=>?_,g.free (by simp) hll,nd,ha,⟨bx.len,fun j a h=>?_⟩,g.trans (Grow.new hll _)⟩
  ·obtain ⟨j,hj⟩:=List.getElem?_of_mem z
   rw [bx.at_ j ll hj] at hll; cases hll
  ·have:=bx.at_ j a h
   rw [zo (zv this hll)]; exact this
 rintro _ H0 ⟨ll,as,rfl,hll,nll,hll0,nd,ha,bx0,g0⟩
 refine ya (fun v H'=>∃ lt,v = .ref lt /\ H0 lt = none /\ H' = upd H0 lt (.lst [])) (fun Kk hk=>⟨szl rfl,fun lt hlt=>hk _ _ ⟨lt,rfl,hlt,rfl⟩⟩) ?_
 rintro _ _ ⟨lt,rfl,hlt,rfl⟩
 have gt:=Grow.new (m:=[]) hlt (.lst [])
 have nt:lt ≠ ll:=fun z=>by rw [z,hll] at hlt; cases hlt
 have nta:lt ∉ as:=fun z=>by
  obtain ⟨j,hj⟩:=List.getElem?_of_mem z
  rw [bx0.at_ j lt hj] at hlt; cases hlt
 have hlt0:=g0.free (by simp) hlt
 have hll1:=gt.keep _ _ (by simp) hll
 have bx1:Bx72 (upd H0 lt (.lst [])) as os:=⟨bx0.len,fun j a h=>gt.keep _ _ (by simp) (bx0.at_ j a h)⟩
 have hlt1:=zd (H:=H0) (a:=lt) (o:=.lst [])
 have g1:=g0.trans gt
 generalize upd H0 lt (.lst []) = H1 at hll1 bx1 hlt1 g1 ⊢
 have rl:(xD cs).length = cs.length:=by unfold xD; rw [List.length_map,List.length_range]
 have al:as.length = os.length:=bx0.len.symm
 refine ⟨_,rfl,rc,_,rfl,g1.sqT hrc,xA (c:=true) (xs:=xs) (fun i ys σ' H'=>(∃ e0 e1:Option V,σ' = [e0,e1]) /\ Grow [] H1 H' /\ AllR (zI K H') ys ((xD cs).take i)) ⟨⟨_,_,rfl⟩,Grow.refl _ _,trivial⟩ (fun i ys σ' H' z=>((g1.trans z.2.1).sqT hrc:SqT K H' rc xs)) ?_ ?_⟩
 ·rintro i v ys σ' H2 T hv ⟨⟨e0,e1,rfl⟩,g2,hy⟩ hT
  obtain ⟨c,hci,hcat⟩:=hall.get hv
  have hi:=(List.getElem?_eq_some_iff.mp hci).1
  obtain ⟨rz,rd,rfl,sz,_⟩:=(g1.trans g2).call72 hcat
  have gT:=Grow.new (m:=[]) hT (.tup [.int i,.ref rz])
  have hTT:=zd (H:=H2) (a:=T) (o:=.tup [.int i,.ref rz])
  have szT:=gT.sqT sz
  generalize upd H2 T _ = H3 at gT hTT szT ⊢
  refine ⟨T,_,rfl,SqT.of hTT,rfl,_,_,rfl,_,_,rfl,rfl,?_⟩
  refine ⟨_,rfl,rz,_,4,.int c.ended,rfl,rfl,szT,zr (j:=4) rfl,_,rfl,szl rfl,fun t ht=>⟨?_,⟨_,_,rfl⟩,g2.trans (gT.trans (Grow.new ht _)),?_⟩⟩
  ·rw [hy.len,List.length_take,rl]
   exact lt72 (by have:=ok.len; omega)
  ·rw [yP (x:=[c.ended,(i:Int)]) (by unfold xD; rw [List.getElem?_map,List.getElem?_range hi]; show some [(cg cs i).ended,(i:Int)] = _; rw [yB hci])]
   refine AllR.app (hy.imp fun _ _ z=>(gT.trans (Grow.new ht _)).board z) (AllR.one ⟨t,rfl,SqT.of ?_⟩)
   rw [zd]; rfl
 rintro ys σ' H2 ⟨_,g2,hy⟩ l2 hl2
 rw [xl,List.take_of_length_le (by rw [rl]; exact Nat.le_refl _)] at hy
 have gn2:=Grow.new (m:=[]) hl2 (.lst ys)
 refine ⟨l2,ys,xD cs,rfl,SqL.of zd,hy.imp fun _ _ z=>gn2.board z,rR,(fun r hr=>by obtain ⟨k,_,rfl⟩:=List.mem_map.mp hr; exact fun z=>by cases z),by rw [rl]; have:=ok.len; omega,fun l3 zs' rows' hl3 hperm hsrt hzs=>?_⟩
 have so:wn cs:=⟨rows',hperm,hsrt⟩
 have es:xE cs = rows'.map fun r=>(r.getD 1 0).toNat:=by unfold xE; rw [uK hperm hsrt]
 have gn3:=Grow.new (m:=[]) hl3 (.lst zs')
 have hl33:=zd (H:=upd H2 l2 (.lst ys)) (a:=l3) (o:=.lst zs')
 have g3:Grow [] H1 (upd (upd H2 l2 (.lst ys)) l3 (.lst zs')):=g2.trans (gn2.trans gn3)
 have hzs3:AllR (zI K (upd (upd H2 l2 (.lst ys)) l3 (.lst zs'))) zs' rows':=hzs.imp fun _ _ z=>gn3.board z
 have n3:∀ a,a ∈ lt :: as -> l3 ≠ a:=fun a h z=>by
  have k:∀ o,H1 a = some o -> False:=fun o e=>by
   rw [z,(g2.trans gn2).keep _ _ (by simp) e] at hl3; cases hl3
  rcases List.mem_cons.mp h with rfl | h
  ·exact k _ hlt1
  ·obtain ⟨j,hj⟩:=List.getElem?_of_mem h
   exact k _ (bx1.at_ j a hj)
 generalize upd (upd H2 l2 (.lst ys)) l3 (.lst zs') = H3 at g3 hl33 hzs3 ⊢
 have nll':ll ∉ lt :: as:=fun z=>by
  rcases List.mem_cons.mp z with z | z
  ·exact nt z.symm
  ·exact nll z
 have os40:∀ j,(os.getD j []).length <= 40:=fun j=>by
  rw [List.getD_eq_getElem?_getD]
  cases e:os[j]? with
  | none=>exact Nat.zero_le _
  | some o=>exact o40 o (List.mem_of_getElem? e)
 have bx3:Bx72 H3 as os:=⟨bx1.len,fun j a h=>g3.keep _ _ (by simp) (bx1.at_ j a h)⟩
 refine ⟨l3,rfl,⟨_,SqL.of hl33⟩,jk (xs:=zs') (fun i σ H'=>∃ (e4 e5 e6:Option V) (lf:List (List Nat)) (tg:List Nat),σ = [some (.ref rc),some (.ref l),some (.ref ll),some (.ref lt),e4,e5,e6] /\ Grow (lt :: as) H3 H' /\ H' lt = some (.lst (zp tg)) /\ Bx72 H' as lf /\ (((xE cs).take i).foldl (yw cs) (os,[])) = (lf,tg) /\ lf.length = os.length /\ (∀ j,(lf.getD j []).length <= 40) /\ tg.length <= i * 40) ⟨_,_,_,os,[],rfl,Grow.refl _ _,g3.keep _ _ (by simp) hlt1,bx3,rfl,rfl,os40,Nat.zero_le _⟩ (fun i σ H' _ z=>by obtain ⟨_,_,_,_,_,_,g,_⟩:=z; exact SqL.of (g.keep _ _ (fun z=>n3 _ z rfl) hl33)) ?_ ?_⟩
 ·rintro i v σ H4 hv ⟨e4,e5,e6,lf,tg,rfl,g4,hlt4,bx4,hst,lfl,lf40,tg40⟩
  obtain ⟨row,hrow,rz,rfl,hrz⟩:=hzs3.get hv
  obtain ⟨k,hk,rfl⟩:=List.mem_map.mp (hperm.mem_iff.mp (List.mem_of_getElem? hrow))
  have hk':k < cs.length:=List.mem_range.mp hk
  have hsk:(xE cs)[i]? = some k:=by
   rw [es,List.getElem?_map,hrow]
   show some ((k:Int)).toNat = _
   rw [Int.toNat_natCast]
  have hst1:((xE cs).take (i + 1)).foldl (yw cs) (os,[]) = yw cs (lf,tg) k:=by rw [yP hsk,List.foldl_append,hst]; rfl
  obtain ⟨zc,hzc,rzc,rd,rfl,sz,_⟩:=hall.getR (List.getElem?_eq_getElem hk')
  have ec:cg cs k = cs[k]:=yB (List.getElem?_eq_getElem hk')
  rw [← ec] at sz
  have oc:=Xe ok hk'
  have b0:=oc.b0
  have b1:=oc.b1
  generalize hX:(cg cs k).box.toNat = X
  have ebx:(cg cs k).box = (X:Int):=by rw [← hX]; exact (Int.toNat_of_nonneg b0).symm
  have hXl:X < as.length:=by omega
  have haX:as[X]? = some as[X]:=List.getElem?_eq_getElem hXl
  generalize as[X] = a at haX
  have ama:=List.mem_of_getElem? haX
  have nalt:a ≠ lt:=fun z=>nta (by rw [← z]; exact ama)
  have G4:Grow (lt :: as) H H4:=((g1.trans g3).wk.trans g4)
  have hll4:=(g3.trans (Grow.refl _ _)).keep _ _ (by simp) hll1
  have hll5:=g4.keep _ _ nll' hll4
  refine ⟨rz,_,rfl,g4.sqT hrz,rfl,_,_,rfl,_,_,rfl,rfl,?_⟩
  try dsimp only
  refine ya (fun v H'=>v = .ref a /\ H' = H4) (fun Kk hk=>⟨_,rfl,_,rfl,_,rfl,rc,_,_,.ref rzc,rfl,rfl,G4.sqT hrc,zr hzc,rzc,_,1,.int (cg cs k).box,rfl,rfl,G4.sqT sz,zr (j:=1) rfl,ll,_,_,.ref a,rfl,rfl,SqL.of hll5,by rw [ebx]; exact zr (by rw [List.getElem?_map,haX]; rfl),hk _ _ ⟨rfl,rfl⟩⟩) ?_
  rintro _ H4 ⟨rfl,rfl⟩
  have ms0:yw cs (lf,tg) k = (lf.set X (yF k (lf.getD X []) tg).1,(yF k (lf.getD X []) tg).2):=by
   unfold yw
   show (lf.set (cg cs k).box.toNat (yF k (lf.getD (cg cs k).box.toNat []) tg).1,(yF k (lf.getD (cg cs k).box.toNat []) tg).2) = _
   rw [hX]
  have lX:X < lf.length:=by omega
  have hz2:zs'.length <= 40:=by
   have:=hzs3.len
   have h2:=hperm.length_eq
   rw [rl] at h2
   have:=ok.len
   omega
  refine Xy (fun σ H'=>∃ (e4:Option V) (own tg':List Nat),σ = [some (.ref rc),some (.ref l),some (.ref ll),some (.ref lt),e4,some (.int (k:Int)),some (.ref a)] /\ Grow (lt :: as) H3 H' /\ H' lt = some (.lst (zp tg')) /\ Bx72 H' as (lf.set X own) /\ yF k own tg' = yF k (lf.getD X []) tg /\ own.length + tg'.length = (lf.getD X []).length + tg.length /\ own.length <= 40) (fun _ H'=>match H' a with | some (.lst xs)=>xs.length | _=>0) ⟨_,lf.getD X [],tg,rfl,g4,hlt4,?_,rfl,rfl,lf40 X⟩ ?_ ?_
  ·have e:lf.set X (lf.getD X []) = lf:=by
    refine List.ext_getElem? fun j=>?_
    by_cases c:X = j
    ·subst c
     rw [List.getElem?_set_self lX,List.getD_eq_getElem?_getD,List.getElem?_eq_getElem lX]; rfl
    ·rw [List.getElem?_set_ne c]
   rw [e]; exact bx4
  ·rintro σ H5 ⟨e4,own,tg',rfl,g5,hlt5,bx5,hpw,hlen,o40'⟩
   have hown:H5 a = some (.lst (zp own)):=by
    have:=bx5.at_ X a haX
    rwa [yi lX] at this
   refine ⟨_,rfl,_,rfl,a,zp own,rfl,.inl (SqL.of hown),rfl,uc own,_,rfl,?_⟩
   rw [if_neg (by decide),Zw]
   by_cases c:k ∈ own
   ·rw [decide_eq_true c]
    refine iteT ?_
    cases own with
    | nil=>cases c
    | cons x own =>
     have g6:Grow (lt :: as) H5 (upd H5 a (.lst (zp own))):=Grow.set hown (List.mem_cons_of_mem _ ama) _
     have hlt6:upd H5 a (.lst (zp own)) lt = some (.lst (zp tg')):=by rw [zo (Ne.symm nalt)]; exact hlt5
     have g7:Grow (lt :: as) (upd H5 a (.lst (zp own))) (upd (upd H5 a (.lst (zp own))) lt (.lst (zp tg' ++ [.int (x:Int)]))):=Grow.set hlt6 (List.mem_cons_self ..) _
     have ta:upd (upd H5 a (.lst (zp own))) lt (.lst (zp tg' ++ [.int (x:Int)])) a = some (.lst (zp own)):=by rw [zo nalt,zd]
     refine ⟨_,rfl,.inl ⟨rfl,_,SqL.of hlt5⟩,_,rfl,.inl ⟨rfl,_,SqL.of hown⟩,a,zp (x :: own),0,0,.int (x:Int),rfl,rfl,hown,by decide,by decide,PySem.StrLaws.seqIndex_nonneg (by omega) (by rw [zw]; simp),rfl,lt,zp tg',.int (x:Int),rfl,rfl,hlt6,?_,?_⟩
     ·rw [zw]
      have h1:=lf40 X
      have h2:=(List.getElem?_eq_some_iff.mp hv).1
      have h3:i * 40 <= 40 * 40:=Nat.mul_le_mul_right 40 (by omega)
      exact lt72 (by omega)
     refine ⟨⟨e4,own,tg' ++ [x],rfl,g5.trans (g6.trans g7),by rw [zd,xB]; rfl,⟨?_,fun j a' h'=>?_⟩,by rw [← hpw,Wm c],?_,?_⟩,?_⟩
     ·rw [List.length_set]; exact (List.length_set (as:=lf) (i:=X)).symm.trans bx5.len
     ·have na':a' ≠ lt:=fun z=>nta (by rw [← z]; exact List.mem_of_getElem? h')
      rw [zo na']
      by_cases e:j = X
      ·subst e
       cases h'.symm.trans haX
       rw [zd,yi lX]; rfl
      ·have ne:a' ≠ a:=fun z=>e (by
        have h1:as[j]? = as[X]?:=by rw [h',haX,z]
        exact (List.getElem?_inj (List.getElem?_eq_some_iff.mp h').1 nd).mp h1)
       have:=bx5.at_ j a' h'
       rw [zT (fun z=>e z.symm)] at this
       rw [zo ne,this,zT (fun z=>e z.symm)]
     ·rw [List.length_append]
      simp only [List.length_cons,List.length_nil] at hlen ⊢
      omega
     ·rw [List.length_cons] at o40'; omega
     ·show (match upd (upd H5 a (.lst (zp own))) lt (.lst (zp tg' ++ [.int (x:Int)])) a with | some (.lst xs)=>xs.length | _=>0) < (match H5 a with | some (.lst xs)=>xs.length | _=>0)
      rw [ta,hown]
      show (zp own).length < (zp (x :: own)).length
      rw [zw,zw]
      exact Nat.lt_succ_self _
   ·rw [decide_eq_false c]
    refine iteF ?_
    rw [Xg c] at hpw
    refine ⟨_,_,_,lf.set X own,tg',rfl,g5,hlt5,bx5,?_,by rw [List.length_set]; exact lfl,fun j=>?_,?_⟩
    ·rw [hst1,ms0,← hpw]
    ·by_cases e:j = X
     ·rw [e,yi lX]; exact o40'
     ·rw [zT (fun z=>e z.symm)]; exact lf40 j
    ·have h1:=lf40 X
     rw [Nat.add_mul]
     omega
  ·rintro σ H' Q1 Q2 hQ h
   obtain ⟨x1,e1,x2,e2,p,ys,f1,hq,f2,f3,k,hk,h⟩:=h
   exact ⟨x1,e1,x2,e2,p,ys,f1,hq,f2,f3,k,hk,hQ _ _ h⟩
 ·rintro σ H4 ⟨e4,e5,e6,lf,tg,rfl,g4,hlt4,bx4,hst,lfl,lf40,tg40⟩
  have zl:zs'.length = (xE cs).length:=by rw [es,List.length_map]; exact hzs3.len
  rw [zl,List.take_length] at hst
  refine ⟨_,rfl,lt,_,rfl,.inl ⟨SqL.of hlt4,fun r hr=>q _ _ ?_ so ⟨r,rfl,?_⟩⟩⟩
  ·refine (Grow.shrinkL (fun a h=>?_) (((g1.trans g3).wk.trans g4):Grow (lt :: as) H H4)).trans (Grow.new hr _)
   rcases List.mem_cons.mp h with rfl | h
   ·exact hlt0
   ·exact ha a h
  ·unfold yt
   rw [hst]
   exact SqT.of zd
theorem xN:FnScope ["board","calls","numbers","number","call"] ["board","calls"] (zi (top 25)):=⟨rfl,rfl,rfl,by decide +kernel,rfl,by decide +kernel,by decide +kernel⟩
theorem qZ (F:Fun K "by_boxes" "by_boxes" (top 25) f fd) (B:Blt mg)   (g_enumerate:mg "enumerate" = none)   :
  FnOk P w K mg base CX0 (n + 1) f fd ["board","calls"] (sC K):=by
 refine F.ok xN zW (fun cdv A outer s H vs Q E hr h=>?_)
 obtain ⟨x,y,rfl,b,cs,hb,hc,b16,ok,q⟩:=h
 refine ⟨_,(ze (sj (i:=2) xN.nd rfl rfl (CSc.of (N':=["value"]) (sub:=[none]) (zi (top 25)) ["board","calls","numbers","number","call"] rfl rfl (by decide +kernel) rfl) rfl (y8 (pv 0)) (fun _ _ _ _ _ _=>zm (i:=0) (show (["value"]:List Str).Nodup by decide +kernel) rfl (Or.inl rfl)) (fun _ _ _ _ _ _=>zM) (fun _ _ _ _ _ _=>(yM zb))) (ze (xT PassesOwn.never rfl (xk true (K:=K) rfl rfl g_enumerate (za (pv 1) zb)) (xi rfl (zn (zm (i:=3) xN.nd rfl (Or.inl rfl)) (zn (zm (i:=4) xN.nd rfl (Or.inl rfl)) yk))) (zg (xX (sV PySem.F.plainAttrs_list PySem.F.slot_list_append PySem.F.type_list_append x8 (zE zQ (pv 2) (zE z7 (pv 4) zh (fun _ _=>rfl)) (fun _ _=>rfl)) (za (pv 3) zb))))) (zg (zq (pv 2))))),?_⟩
 obtain ⟨rb,rfl,hrb⟩:=id hb
 obtain ⟨rc,xs,rfl,hrc,hall⟩:=id hc
 refine ya (fun v H'=>∃ (l:Addr) (as:List Addr),v = .ref l /\ H' l = some (.lst (as.map V.ref)) /\ l ∉ as /\ H l = none /\ as.length = b.length /\ as.Nodup /\ (∀ a ∈ as,H a = none /\ H' a = some (.lst [])) /\ Grow [] H H') (fun Kk hk=>⟨_,rfl,rb,rfl,⟨_,hrb⟩,ye (xs:=b.map V.int) (fun i ys H'=>∃ as:List Addr,ys = as.map V.ref /\ as.length = i /\ as.Nodup /\ (∀ a ∈ as,H a = none /\ H' a = some (.lst [])) /\ Grow [] H H') ⟨[],rfl,rfl,List.nodup_nil,(fun a h=>nomatch h),Grow.refl _ _⟩ (fun i ys H' ⟨_,_,_,_,_,g⟩=>g.sqT hrb) ?_ ?_⟩) ?_
 ·rintro i x ys H' hx ⟨as,rfl,al,nd,ha,g⟩
  have hi:=(List.getElem?_eq_some_iff.mp hx).1
  rw [List.length_map] at hi
  refine ⟨szl rfl,fun a h0=>⟨lt72 (by rw [List.length_map]; omega),as ++ [a],by rw [List.map_append]; rfl,by rw [List.length_append,List.length_singleton,al],?_,?_,g.trans (Grow.new h0 _)⟩⟩
  ·refine List.nodup_append.mpr ⟨nd,by simp,fun x hx y hy=>?_⟩
   rw [List.mem_singleton.mp hy]
   rintro rfl
   rw [(ha x hx).2] at h0; cases h0
  ·intro x hx
   rcases List.mem_append.mp hx with hx | hx
   ·exact ⟨(ha x hx).1,by rw [zo (zv (ha x hx).2 h0)]; exact (ha x hx).2⟩
   ·rw [List.mem_singleton.mp hx]
    exact ⟨g.free (by simp) h0,zd⟩
 ·rintro ys H' ⟨as,rfl,al,nd,ha,g⟩ l hl
  rw [List.length_map] at al
  refine hk _ _ ⟨l,as,rfl,zd,fun z=>?_,g.free (by simp) hl,al,nd,fun a h=>⟨(ha a h).1,by rw [zo (zv (ha a h).2 hl)]; exact (ha a h).2⟩,g.trans (Grow.new hl _)⟩
  rw [(ha l z).2] at hl; cases hl
 rintro _ H0 ⟨l,as,rfl,hl0,nl,nl0,al,nd,ha,g0⟩
 have xl:=hall.len
 refine ⟨_,rfl,rc,_,rfl,g0.sqT hrc,ut (xs:=xs) (fun i σ H'=>∃ (nss:List (List Nat)) (e3 e4:Option V),σ = [some (.ref rb),some (.ref rc),some (.ref l),e3,e4] /\ H' l = some (.lst (as.map V.ref)) /\ Bx72 H' as nss /\ (∀ j,j < as.length -> nss.getD j [] = (List.range i).filter (yL cs j)) /\ Grow as H0 H') ⟨as.map fun _=>[],_,_,rfl,hl0,⟨by rw [List.length_map],fun j a h=>?_⟩,fun j hj=>?_,Grow.refl _ _⟩ (fun i σ H' _ ⟨_,_,_,_,_,_,_,g⟩=>(g.sqT (g0.sqT hrc):SqT K H' rc xs)) ?_ ?_⟩
 ·rw [(ha a (List.mem_of_getElem? h)).2,List.getD_eq_getElem?_getD,List.getElem?_map,h]; rfl
 ·rw [List.getD_eq_getElem?_getD,List.getElem?_map,List.getElem?_eq_getElem hj]; rfl
 ·rintro i x σ H1 T hx ⟨nss,e3,e4,rfl,hl1,bx,hn,g1⟩ hT
  obtain ⟨c,hci,hcat⟩:=hall.get hx
  obtain ⟨rz,rd,rfl,sz,_⟩:=(g1.call72 (g0.call72 hcat))
  have gT:=Grow.new (m:=as) hT (.tup [.int i,.ref rz])
  have o:=ok.ok c (List.mem_of_getElem? hci)
  have b0:=o.b0
  have b1:=o.b1
  obtain ⟨j,hj⟩:∃ j:Nat,c.box = j:=⟨c.box.toNat,by omega⟩
  have hjl:j < as.length:=by omega
  have haj:as[j]? = some as[j]:=List.getElem?_eq_getElem hjl
  have aT:∀ {a:Addr} {o:HO},H1 a = some o -> upd H1 T (.tup [.int i,.ref rz]) a = some o:=fun h=>by rw [zo (zv h hT)]; exact h
  have nT:(nss.getD j []).length <= 40:=by
   rw [hn j hjl]
   have h1:=List.length_filter_le (yL cs j) (List.range i)
   have h2:=(List.getElem?_eq_some_iff.mp hci).1
   have h3:=ok.len
   rw [List.length_range] at h1
   omega
  refine ⟨T,_,rfl,SqT.of zd,rfl,_,_,rfl,_,_,rfl,rfl,?_⟩
  refine ⟨_,rfl,_,rfl,rz,_,1,.int c.box,rfl,rfl,gT.sqT sz,zr (j:=1) rfl,l,_,_,.ref as[j],rfl,rfl,SqL.of (aT hl1),by rw [hj]; exact zr (by rw [List.getElem?_map,haj]; rfl),.inl ⟨rfl,_,SqL.of (aT (bx.at_ j _ haj))⟩,_,rfl,as[j],_,_,rfl,rfl,aT (bx.at_ j _ haj),lt72 (by rw [zw]; omega),?_⟩
  refine ⟨nss.set j (nss.getD j [] ++ [i]),_,_,rfl,?_,⟨by rw [List.length_set,bx.len],fun j' a' h'=>?_⟩,fun j' hj'=>?_,g1.trans (gT.trans (Grow.set (aT (bx.at_ j _ haj)) (List.mem_of_getElem? haj) _))⟩
  ·rw [zo (fun z=>nl (by rw [z]; exact List.mem_of_getElem? haj))]; exact aT hl1
  ·by_cases e:j' = j
   ·subst e
    cases h'.symm.trans haj
    rw [zd,yi (by rw [bx.len]; exact hjl),xB]; rfl
   ·have ne:a' ≠ as[j]:=fun z=>e (by
     have h1:as[j']? = as[j]?:=by rw [h',haj,z]
     exact (List.getElem?_inj (by have:=(List.getElem?_eq_some_iff.mp h').1; exact this) nd).mp h1)
    rw [zo ne,aT (bx.at_ j' a' h'),zT (fun z=>e z.symm)]
  ·rw [wo,yB hci]
   by_cases e:j' = j
   ·subst e
    rw [if_pos hj,yi (by rw [bx.len]; exact hjl),hn j' hj']
   ·rw [if_neg (by omega),zT (fun z=>e z.symm),hn j' hj',List.append_nil]
 ·rintro σ H1 ⟨nss,e3,e4,rfl,hl1,bx,hn,g1⟩
  rw [xl] at hn
  refine ⟨_,rfl,q l _ _ (Grow.shrinkL (fun a h=>(ha a h).1) (g0.wk.trans g1)) nl0 hl1 ?_⟩
  have en:nss = (List.range b.length).map (nb73 cs):=by
   refine List.ext_getElem? fun j=>?_
   rw [List.getElem?_map]
   by_cases h:j < b.length
   ·have:=hn j (by omega)
    rw [List.getD_eq_getElem?_getD,List.getElem?_eq_getElem (by rw [bx.len]; omega)] at this
    rw [List.getElem?_range h,List.getElem?_eq_getElem (by rw [bx.len]; omega)]
    exact congrArg some this
   ·rw [List.getElem?_eq_none (by rw [bx.len]; omega),List.getElem?_eq_none (by rw [List.length_range]; omega)]; rfl
  rw [← en]
  exact bx.ls
theorem wV:FnScope ["deed","value","add","low","high","result"] ["deed","value"] (zi (top 14)):=⟨rfl,rfl,rfl,by decide +kernel,rfl,by decide +kernel,by decide +kernel⟩
theorem Vn (F:Fun K "made" "made" (top 14) f fd) (B:Blt mg)      :
  FnOk P w K mg base CX0 (n + 1) f fd ["deed","value"] (vB K):=by
 refine F.ok wV zW (fun cdv A outer s H vs Q E hr h=>?_)
 obtain ⟨x,y,rfl,d,v,⟨a,rfl,hs⟩,rfl,q⟩:=h
 refine ⟨_,(ze (xj (pv 0) (xi rfl (zn (zm (i:=2) wV.nd rfl (Or.inl rfl)) (zn (zm (i:=3) wV.nd rfl (Or.inl rfl)) (zn (zm (i:=4) wV.nd rfl (Or.inl rfl)) yk))))) (ze (zz (i:=5) wV.nd rfl (Or.inl rfl) (zA yg (pv 1) (pv 2))) (ze (zV (PW.pt (vP (vO (ue (pv 3))) (wL (zD Xz (pv 3) (pv 5) (zB _))))) (zg (zz (i:=5) wV.nd rfl (Or.inl rfl) (pv 3))) zy) (ze (zV (PW.pt (vP (vO (ue (pv 4))) (wL (zD uj (pv 4) (pv 5) (zB _))))) (zg (zz (i:=5) wV.nd rfl (Or.inl rfl) (pv 4))) zy) (zg (zq (pv 5))))))),?_⟩
 obtain ⟨ad,lo,hi⟩:=d
 refine ⟨_,rfl,a,_,rfl,hs,rfl,_,_,rfl,_,_,rfl,_,_,rfl,rfl,?_⟩
 refine ⟨_,rfl,_,rfl,_,_,rfl,rfl,?_⟩
 cases lo with
 | none =>
  refine ⟨_,rfl,_,rfl,iteF (iteF ?_)⟩
  cases hi with
  | none=>exact ⟨_,rfl,_,rfl,iteF (iteF ⟨_,rfl,q⟩)⟩
  | some u =>
   refine ⟨_,rfl,_,rfl,iteT ⟨_,rfl,_,rfl,_,_,rfl,rfl,_,rfl,?_⟩⟩
   have q':Q (.int (if u < v + ad then u else v + ad)) H:=q
   refine ite2 (fun c=>?_) (fun c=>?_)
   ·have c':u < v + ad:=of_decide_eq_true c
    rw [if_pos c'] at q'
    exact ⟨_,rfl,_,rfl,q'⟩
   ·have c':¬ u < v + ad:=fun z=>c (decide_eq_true z)
    rw [if_neg c'] at q'
    exact ⟨_,rfl,q'⟩
 | some l =>
  refine ⟨_,rfl,_,rfl,iteT ⟨_,rfl,_,rfl,_,_,rfl,rfl,_,rfl,?_⟩⟩
  have q0:Q (.int (se hi (if l > v + ad then l else v + ad))) H:=q
  clear q
  refine ite2 (fun c=>?_) (fun c=>?_)
  ·have c':l > v + ad:=of_decide_eq_true c
   rw [if_pos c'] at q0
   have q:=q0
   refine ⟨_,rfl,?_⟩
   cases hi with
   | none=>exact ⟨_,rfl,_,rfl,iteF (iteF ⟨_,rfl,q⟩)⟩
   | some u =>
    refine ⟨_,rfl,_,rfl,iteT ⟨_,rfl,_,rfl,_,_,rfl,rfl,_,rfl,?_⟩⟩
    have q':Q (.int (if u < l then u else l)) H:=q
    refine ite2 (fun c=>?_) (fun c=>?_)
    ·have c':u < l:=of_decide_eq_true c
     rw [if_pos c'] at q'
     exact ⟨_,rfl,_,rfl,q'⟩
    ·have c':¬ u < l:=fun z=>c (decide_eq_true z)
     rw [if_neg c'] at q'
     exact ⟨_,rfl,q'⟩
  ·have c':¬ l > v + ad:=fun z=>c (decide_eq_true z)
   rw [if_neg c'] at q0
   have q:=q0
   cases hi with
   | none=>exact ⟨_,rfl,_,rfl,iteF (iteF ⟨_,rfl,q⟩)⟩
   | some u =>
    refine ⟨_,rfl,_,rfl,iteT ⟨_,rfl,_,rfl,_,_,rfl,rfl,_,rfl,?_⟩⟩
    have q':Q (.int (if u < v + ad then u else v + ad)) H:=q
    refine ite2 (fun c=>?_) (fun c=>?_)
    ·have c':u < v + ad:=of_decide_eq_true c
     rw [if_pos c'] at q'
     exact ⟨_,rfl,_,rfl,q'⟩
    ·have c':¬ u < v + ad:=fun z=>c (decide_eq_true z)
     rw [if_neg c'] at q'
     exact ⟨_,rfl,q'⟩
theorem zH:FnScope ["board","calls","order","values","number","hand","box","deed","begun","ended","answer"] ["board","calls","order"] (zi (top 29)):=⟨rfl,rfl,rfl,by decide +kernel,rfl,by decide +kernel,by decide +kernel⟩
theorem uV (F:Fun K "are_answered" "are_answered" (top 29) f fd) (B:Blt mg) (qc0:zk P w K mg base n "made" ["deed","value"] (vB K))     :
  FnOk P w K mg base CX0 (n + 1) f fd ["board","calls","order"] (vh K):=by
 refine F.ok zH xI (fun cdv A outer s H vs Q E hr h=>?_)
 obtain ⟨x,y,z,rfl,b,cs,ns,hb,hc,hn,ok,hlt,q⟩:=h
 refine ⟨_,(ze (zz (i:=3) zH.nd rfl (Or.inl rfl) (zJ yT rfl B.list vQ (za (pv 0) zb))) (ze (xT PassesOwn.never rfl (y8 (pv 2)) (zm (i:=4) zH.nd rfl (Or.inl rfl)) (ze (xj (zE z7 (pv 1) (pv 4) (fun _ _=>rfl)) (xi rfl (zn (zm (i:=5) zH.nd rfl (Or.inl rfl)) (zn (zm (i:=6) zH.nd rfl (Or.inl rfl)) (zn (zm (i:=7) zH.nd rfl (Or.inl rfl)) (zn (zm (i:=8) zH.nd rfl (Or.inl rfl)) (zn (zm (i:=9) zH.nd rfl (Or.inl rfl)) (zn (zm (i:=10) zH.nd rfl (Or.inl rfl)) yk)))))))) (ze (zV (zD t8 (zE zQ (pv 3) (pv 6) (fun _ _=>rfl)) (pv 10) (zB _)) (zg (zq yy)) zy) (zg (xj (zf qc0 hr rfl (za (pv 7) (za (pv 10) zb))) (u9 (pv 3) (pv 6) wv)))))) (zg (zq yy)))),?_⟩
 obtain ⟨rb,rfl,hrb⟩:=id hb
 obtain ⟨rc,xs,rfl,hrc,hall⟩:=id hc
 obtain ⟨r,rfl,hr0⟩:=id hn
 refine ⟨_,rfl,rb,_,rfl,.inr hrb,fun l hl0=>?_⟩
 have g0:=Grow.new (m:=[l]) hl0 (.lst (b.map V.int))
 refine ⟨_,rfl,r,rfl,⟨_,g0.sqT hr0⟩,qo (xs:=zp ns) (fun i σ H'=>∃ (vs:List Int) (e4 e5 e6 e7 e8 e9 e10:Option V),σ = [some (.ref rb),some (.ref rc),some (.ref r),some (.ref l),e4,e5,e6,e7,e8,e9,e10] /\ H' l = some (.lst (vs.map V.int)) /\ vs.length = b.length /\ Grow [l] H H' /\ an72 cs vs (ns.drop i) = an72 cs b ns) ⟨b,_,_,_,_,_,_,_,rfl,zd,rfl,g0,rfl⟩ (fun i σ H' _ ⟨_,_,_,_,_,_,_,_,_,_,_,g,_⟩=>g.sqT hr0) ?_ ?_⟩
 ·rintro i x σ H1 hx ⟨vs,e4,e5,e6,e7,e8,e9,e10,rfl,hl1,vl,g1,hk⟩
  obtain ⟨k,hki,rfl⟩:=yj hx
  have hk':=hlt k (List.mem_of_getElem? hki)
  obtain ⟨z,hz,rz,rd,rfl,sz,sd⟩:=hall.getR (List.getElem?_eq_getElem hk')
  have o:=ok _ (List.getElem_mem hk')
  have ec:cg cs k = cs[k]:=yB (List.getElem?_eq_getElem hk')
  rw [vc hki,xa,ec] at hk
  refine ⟨_,rfl,_,rfl,rc,_,_,.ref rz,rfl,rfl,g1.sqT hrc,zr hz,rz,_,rfl,g1.sqT sz,rfl,_,_,rfl,_,_,rfl,_,_,rfl,_,_,rfl,_,_,rfl,_,_,rfl,rfl,?_⟩
  try dsimp only
  have b0:=o.b0
  have b1:=o.b1
  have hbx:cs[k].box.toNat < vs.length:=by omega
  have hat:atI (vs.map V.int) cs[k].box = some (.int (vs.getD cs[k].box.toNat 0)):=by
   have:cs[k].box = (cs[k].box.toNat:Int):=by omega
   rw [this]
   refine zr ?_
   rw [List.getElem?_map,List.getElem?_eq_getElem hbx,Int.toNat_natCast,List.getD_eq_getElem?_getD,List.getElem?_eq_getElem hbx]
   rfl
  refine ⟨_,rfl,_,rfl,l,_,_,_,rfl,rfl,SqL.of hl1,hat,_,rfl,rfl,_,rfl,?_⟩
  by_cases ha:vs.getD cs[k].box.toNat 0 = cs[k].answer
  ·rw [if_pos ha] at hk
   refine yZ (by rw [decide_eq_true (congrArg V.int ha)]; rfl) (yh ?_)
   refine ⟨_,rfl,_,rfl,_,_,rfl,cs[k].deed,cs[k].answer,⟨rd,rfl,g1.sqT sd⟩,rfl,_,rfl,_,rfl,l,_,_,cs[k].box.toNat,rfl,rfl,hl1,?_,⟨vs.set cs[k].box.toNat (cs[k].deed.mk' cs[k].answer),_,_,_,_,_,_,_,rfl,?_,by rw [List.length_set,vl],g1.trans (Grow.set hl1 (by simp) _),hk⟩⟩
   ·exact si b0 (by rw [List.length_map]; exact hbx)
   ·rw [zd,List.map_set]
  ·rw [if_neg ha] at hk
   refine yX (by rw [decide_eq_false fun z=>ha (V.int.inj z)]; rfl) ?_
   have:=q _ (Grow.shrink hl0 g1)
   rw [← hk] at this
   exact this
 ·rintro σ H1 ⟨vs,e4,e5,e6,e7,e8,e9,e10,rfl,hl1,vl,g1,hk⟩
  rw [zw,List.drop_length] at hk
  have:=q _ (Grow.shrink hl0 g1)
  rw [← hk] at this
  exact this
theorem zF:FnScope ["calls","order","latest","number","hand","box","deed","begun","ended","answer"] ["calls","order"] (zi (top 30)):=⟨rfl,rfl,rfl,by decide +kernel,rfl,by decide +kernel,by decide +kernel⟩
theorem u5 (F:Fun K "keeps_ahead" "keeps_ahead" (top 30) f fd) (B:Blt mg)      :
  FnOk P w K mg base CX0 (n + 1) f fd ["calls","order"] (wf K):=by
 refine F.ok zF zW (fun cdv A outer s H vs Q E hr h=>?_)
 obtain ⟨x,y,rfl,cs,ns,hc,hn,⟨m,ok⟩,hlt,_,q⟩:=h
 refine ⟨_,(ze (zz (i:=2) zF.nd rfl (Or.inl rfl) zh) (ze (xT PassesOwn.never rfl (y8 (pv 1)) (zm (i:=3) zF.nd rfl (Or.inl rfl)) (ze (xj (zE z7 (pv 0) (pv 3) (fun _ _=>rfl)) (xi rfl (zn (zm (i:=4) zF.nd rfl (Or.inl rfl)) (zn (zm (i:=5) zF.nd rfl (Or.inl rfl)) (zn (zm (i:=6) zF.nd rfl (Or.inl rfl)) (zn (zm (i:=7) zF.nd rfl (Or.inl rfl)) (zn (zm (i:=8) zF.nd rfl (Or.inl rfl)) (zn (zm (i:=9) zF.nd rfl (Or.inl rfl)) yk)))))))) (ze (zV (zD uj (pv 8) (pv 2) (zB _)) (zg (zq yy)) zy) (zg (zz (i:=2) zF.nd rfl (Or.inl rfl) (zj (xZ rfl) rfl B.max jZ (za (pv 2) (za (pv 7) zb)))))))) (zg (zq yy)))),?_⟩
 obtain ⟨rc,xs,rfl,hrc,hall⟩:=id hc
 obtain ⟨r,rfl,hr0⟩:=id hn
 refine ⟨_,rfl,r,rfl,⟨_,hr0⟩,qo (xs:=zp ns) (fun i σ H'=>∃ (t:Int) (e3 e4 e5 e6 e7 e8 e9:Option V),σ = [some (.ref rc),some (.ref r),some (.int t),e3,e4,e5,e6,e7,e8,e9] /\ H' = H /\ kp72 cs t (ns.drop i) = kl72 cs ns) ⟨0,_,_,_,_,_,_,_,rfl,rfl,W5 ok hlt⟩ (fun i σ H' _ ⟨_,_,_,_,_,_,_,_,_,e,_⟩=>by rw [e]; exact hr0) ?_ ?_⟩
 ·rintro i x σ H' hx ⟨t,e3,e4,e5,e6,e7,e8,e9,rfl,rfl,hk⟩
  obtain ⟨k,hki,rfl⟩:=yj hx
  have hk':=hlt k (List.mem_of_getElem? hki)
  obtain ⟨z,hz,rz,rd,rfl,sz,_⟩:=hall.getR (List.getElem?_eq_getElem hk')
  refine ⟨_,rfl,_,rfl,rc,_,_,.ref rz,rfl,rfl,hrc,zr hz,rz,_,rfl,sz,rfl,_,_,rfl,_,_,rfl,_,_,rfl,_,_,rfl,_,_,rfl,_,_,rfl,rfl,?_⟩
  try dsimp only
  have ec:cg cs k = cs[k]:=yB (List.getElem?_eq_getElem hk')
  rw [vc hki] at hk
  unfold kp72 at hk
  rw [ec] at hk
  refine ⟨_,rfl,_,rfl,_,_,rfl,rfl,_,rfl,?_⟩
  by_cases hb:cs[k].ended < t
  ·rw [if_pos hb] at hk
   refine yX (decide_eq_true hb) ?_
   have:=q _ (Grow.refl _ _)
   rw [← hk] at this
   exact this
  ·rw [if_neg hb] at hk
   exact yZ (decide_eq_false hb) (yh ⟨_,rfl,_,rfl,_,_,rfl,⟨_,_,_,_,_,_,_,_,rfl,rfl,hk⟩⟩)
 ·rintro σ H' ⟨t,e3,e4,e5,e6,e7,e8,e9,rfl,rfl,hk⟩
  rw [zw,List.drop_length] at hk
  have:=q _ (Grow.refl _ _)
  rw [← hk] at this
  exact this
theorem q8:FnScope ["thing"] ["thing"] (zi (top 9)):=⟨rfl,rfl,rfl,by decide +kernel,rfl,by decide +kernel,by decide +kernel⟩
theorem q9 (F:Fun K "is_whole" "is_whole" (top 9) f fd) (B:Blt mg)      :
  FnOk P w K mg base CX0 (n + 1) f fd ["thing"] (yv K):=by
 refine F.ok q8 vz (fun cdv A outer s H vs Q E hr h=>?_)
 obtain ⟨x,rfl,⟨T,ty⟩,q⟩:=h
 refine ⟨_,(zg (zq (xw (zj yq rfl B.isinstance zt (za (pv 0) (za (yU rfl B.int Z2) zb))) (xS (ji (zj yq rfl B.isinstance zt (za (pv 0) (za (yU rfl B.bool Z3) zb)))))))),?_⟩
 cases x with
 | non=>cases (show T = "NoneType" from ty); exact ⟨_,rfl,_,_,_,false,rfl,rfl,rfl,_,rfl,iteF q⟩
 | bl y=>cases (show T = "bool" from ty); exact ⟨_,rfl,_,_,_,true,rfl,rfl,rfl,_,rfl,iteT ⟨_,rfl,_,_,_,true,rfl,rfl,rfl,_,rfl,q⟩⟩
 | int i=>cases (show T = "int" from ty); exact ⟨_,rfl,_,_,_,true,rfl,rfl,rfl,_,rfl,iteT ⟨_,rfl,_,_,_,false,rfl,rfl,rfl,_,rfl,q⟩⟩
 | str y=>cases (show T = "str" from ty); exact ⟨_,rfl,_,_,_,false,rfl,rfl,rfl,_,rfl,iteF q⟩
 | byt y=>exact ty.elim
 | flt y=>exact ty.elim
 | ty y=>exact ty.elim
 | ref a =>
  rcases ty with ⟨rfl,xs,hq⟩ | ⟨rfl,xs,hq⟩ | ⟨rfl,kvs,hq⟩
  ·exact ⟨_,rfl,_,_,_,false,rfl,.inl ⟨rfl,xs,hq⟩,rfl,_,rfl,iteF q⟩
  ·exact ⟨_,rfl,_,_,_,false,rfl,.inr (.inl ⟨rfl,xs,hq⟩),rfl,_,rfl,iteF q⟩
  ·exact ⟨_,rfl,_,_,_,false,rfl,.inr (.inr ⟨rfl,kvs,hq⟩),rfl,_,rfl,iteF q⟩
theorem ja:FnScope ["thing","numbers"] ["thing","numbers"] (zi (top 28)):=⟨rfl,rfl,rfl,by decide +kernel,rfl,by decide +kernel,by decide +kernel⟩
theorem jb (F:Fun K "is_order" "is_order" (top 28) f fd) (B:Blt mg) (qc0:zk P w K mg base n "is_whole" ["thing"] (yv K))  (g_sorted:mg "sorted" = none)   :
  FnOk P w K mg base CX0 (n + 1) f fd ["thing","numbers"] (tV K):=by
 refine F.ok ja zW (fun cdv A outer s H vs Q E hr h=>?_)
 obtain ⟨x,y,rfl,d,m,ks,hd,hl,hn,pk,q⟩:=h
 refine ⟨_,(ze (zV (PW.pt (vv (yp (zR (zj (wc (K:=K) rfl) rfl B.isinstance zt (za (pv 0) (za (yU rfl B.tuple z9) zb))))) (xR (yp (zR (zj (xz rfl) rfl B.all j3 (za (zN (CSc.of (N':=["number"]) (sub:=[none]) (zi (top 28)) ["thing","numbers"] rfl rfl (by decide +kernel) rfl) rfl (y8 (pv 0)) (fun _ _ _ _ _ _=>zm (i:=0) (show (["number"]:List Str).Nodup by decide +kernel) rfl (Or.inl rfl)) (fun _ _ _ _ _ _=>zM) (fun _ _ _ _ _ _=>(zf qc0 hr rfl (za (pv 0) zb)))) zb))))))) (zg (zq yy)) zy) (zg (zq (yz (Z9 hr) (zj (wb (K:=K) rfl) rfl g_sorted v9 (za (pv 0) zb)) (pv 1) (zB _))))),?_⟩
 refine yA (fun b H'=>Grow [] H H' /\ (b = true -> ¬ ∃ ns,yI ks d ns) /\ (b = false -> ∃ (r:Addr) (zs:List Int),x = .ref r /\ d = .tuple (zs.map PyData.int) /\ SqT K H r (zs.map V.int) /\ zs.length < 64)) (fun Kk hk=>⟨_,rfl,_,d,m,_,_,rfl,hd,we d,_,rfl,?_⟩) ?_
 ·cases ht:su d with
  | false=>exact iteT (hk _ _ ⟨Grow.refl _ _,(fun _=>rV ht ks),fun z=>nomatch z⟩)
  | true =>
   obtain ⟨r,xs,ds,rfl,rfl,hs,os⟩:=vd hd ht
   obtain ⟨h64,hnd⟩:=hl ds rfl
   have xl:=os.length
   refine iteF ⟨_,rfl,r,rfl,⟨_,hs⟩,ye (xs:=xs) (fun i ys H'=>ys = ((ds.take i).map yK).map V.bl /\ H' = H) ⟨rfl,rfl⟩ (fun i ys H' z=>by rw [z.2]; exact hs) ?_ ?_⟩
   ·rintro i x ys H' hx ⟨rfl,rfl⟩
    obtain ⟨e,he,oe⟩:=os.get hx
    obtain ⟨t,ty,_,_,hw⟩:=qI oe (hnd e (List.mem_of_getElem? he))
    refine ⟨_,rfl,_,rfl,⟨t,ty⟩,lt72 (by rw [List.length_map,List.length_map,List.length_take]; omega),?_,rfl⟩
    rw [hw,List.take_succ,he,List.map_append,List.map_append]; rfl
   ·rintro ys H' ⟨rfl,rfl⟩ l hl'
    rw [xl,List.take_length]
    refine ⟨l,ds.map yK,rfl,SqL.of zd,_,rfl,hk _ _ ⟨Grow.new hl' _,fun z=>?_,fun z=>?_⟩⟩
    ·intro ho
     rw [List.all_map,show (ds.all (id ∘ yK)) = ds.all yK from rfl,rW ho] at z
     cases z
    ·rw [Bool.not_eq_false',List.all_map] at z
     obtain ⟨zs,rfl⟩:=jE (show ds.all yK = true from z)
     rw [wy os] at hs
     exact ⟨r,zs,rfl,rfl,hs,by rw [List.length_map] at h64; exact h64⟩
 rintro b H1 ⟨g1,hb1,hb2⟩
 cases b with
 | true=>exact iteT (q _ _ g1 ⟨(fun z=>nomatch z),fun z=>absurd z (hb1 rfl)⟩)
 | false =>
  obtain ⟨r,zs,rfl,rfl,hs,h64⟩:=hb2 rfl
  obtain ⟨l,rfl,hl'⟩:=hn
  refine iteF (yh ⟨_,rfl,r,zs,rfl,g1.sqT hs,h64,fun p ms hp hperm hpw=>?_⟩)
  have gp:=Grow.new (m:=[]) hp (.lst (ms.map V.int))
  refine ⟨_,rfl,p,l,_,_,rfl,rfl,SqL.of zd,(g1.trans gp).sqL hl',ve _,uc _,q _ _ (g1.trans gp) ?_⟩
  rw [if_neg (by decide),zU,wZ,decide_eq_true_eq]
  exact rX pk hperm hpw
theorem sF:FnScope ["board","calls","numbers","order"] ["board","calls","numbers","order"] (zi (top 31)):=⟨rfl,rfl,rfl,by decide +kernel,rfl,by decide +kernel,by decide +kernel⟩
theorem sG (F:Fun K "fits_these" "fits_these" (top 31) f fd) (B:Blt mg) (qc0:zk P w K mg base n "are_answered" ["board","calls","order"] (vh K)) (qc1:zk P w K mg base n "keeps_ahead" ["calls","order"] (wf K)) (qc2:zk P w K mg base n "is_order" ["thing","numbers"] (tV K))     :
  FnOk P w K mg base CX0 (n + 1) f fd ["board","calls","numbers","order"] (tW K):=by
 refine F.ok sF qu (fun cdv A outer s H vs Q E hr h=>?_)
 obtain ⟨x,y,z,u,rfl,b,cs,ks,d,m,hb,hc,hn,pk,klt,k40,hd,ok,hl,q⟩:=h
 refine ⟨_,(zg (zq (xw (zf qc2 hr rfl (za (pv 3) (za (pv 2) zb))) (xw (zf qc1 hr rfl (za (pv 1) (za (pv 3) zb))) (xS (zf qc0 hr rfl (za (pv 0) (za (pv 1) (za (pv 3) zb))))))))),?_⟩
 refine ⟨_,rfl,_,rfl,_,_,rfl,d,m,ks,hd,hl,hn,pk,fun b1 H1 g1 h1=>⟨_,rfl,?_⟩⟩
 cases b1 with
 | false =>
  refine iteF (q _ _ g1 ⟨(fun z=>nomatch z),fun ⟨ns,o,_⟩=>absurd (h1.mpr ⟨ns,o⟩) (by decide)⟩)
 | true =>
  obtain ⟨ns,o⟩:=h1.mp rfl
  have hN:yO K H u ns:=ss o.1 hd
  have hlt:∀ k ∈ ns,k < cs.length:=fun k hk=>klt k (o.2.mem_iff.mp hk)
  have nl:ns.length <= 40:=by rw [o.2.length_eq]; exact k40
  have iff:∀ bb:Bool,bb = (kl72 cs ns && an72 cs b ns) -> (bb = true ↔ uQ b cs ks d):=fun bb e=>by
   rw [e,Bool.and_eq_true]
   exact ⟨fun z=>⟨ns,o,z.1,z.2⟩,fun ⟨ms,o',z1,z2⟩=>by rw [o.uniq o']; exact ⟨z1,z2⟩⟩
  refine iteT ⟨_,rfl,_,rfl,_,_,rfl,cs,ns,g1.calls72 hc,hN.grow g1,⟨_,ok⟩,hlt,nl,fun H2 g2=>⟨_,rfl,?_⟩⟩
  cases hk:kl72 cs ns with
  | false=>exact iteF (q _ _ (g1.trans g2) (iff _ (by rw [hk]; rfl)))
  | true=>exact iteT ⟨_,rfl,_,rfl,_,rfl,_,_,_,rfl,b,cs,ns,(g1.trans g2).board hb,(g1.trans g2).calls72 hc,hN.grow (g1.trans g2),ok,hlt,fun H3 g3=>q _ _ (g1.trans (g2.trans g3)) (iff _ (by rw [hk]; rfl))⟩
theorem xv:FnScope ["board","calls","thing","numbers","order"] ["board","calls","thing"] (zi (top 34)):=⟨rfl,rfl,rfl,by decide +kernel,rfl,by decide +kernel,by decide +kernel⟩
theorem u6 (F:Fun K "need_orders" "need_orders" (top 34) f fd) (B:Blt mg) {A_NoOrder:Addr} (x_NoOrder:ExcC K mg "NoOrder" A_NoOrder) (qc0:zk P w K mg base n "by_boxes" ["board","calls"] (sC K)) (qc1:zk P w K mg base n "fits_these" ["board","calls","numbers","order"] (tW K))  (g_zip:mg "zip" = none)   :
  FnOk P w K mg base (CX1 P w) (n + 1) f fd ["board","calls","thing"] (vJ A_NoOrder K):=by
 refine Fun.okX F xv jS (fun cdv A outer s H vs Q E hr h=>?_)
 obtain ⟨x,y,z,rfl,b,cs,d,m,hb,b1,b16,hc,ok,hd,hl,q1,q2⟩:=h
 refine ⟨_,(ze (zV (PW.pt (vv (yp (zR (zj (wc (K:=K) rfl) rfl B.isinstance zt (za (pv 2) (za (yU rfl B.tuple z9) zb))))) (xR (zD t8 (zj zu rfl B.len xh (za (pv 2) zb)) (zj zu rfl B.len xh (za (pv 0) zb)) (zB _))))) (zg (jJ rfl x_NoOrder rfl rL ZK)) zy) (zg (xT PassesOwn.leaving rfl (VR (K:=K) rfl rfl g_zip (za (zf qc0 hr rfl (za (pv 0) (za (pv 1) zb))) (za (pv 2) zb))) (xi rfl (zn (zm (i:=3) xv.nd rfl (Or.inl rfl)) (zn (zm (i:=4) xv.nd rfl (Or.inl rfl)) yk))) (zg (zV (yp (zR (zf qc1 hr rfl (za (pv 0) (za (pv 1) (za (pv 3) (za (pv 4) zb))))))) (zg (jJ rfl x_NoOrder rfl rL ZK)) zy))))),?_⟩
 obtain ⟨rb,rfl,hrb⟩:=id hb
 refine yA (fun t H'=>H' = H /\ (t = true -> ¬ xu b cs d) /\ (t = false -> ∃ (r:Addr) (xs:List V) (ds:List PyData),z = .ref r /\ d = .tuple ds /\ SqT K H r xs /\ Ods K m H xs ds /\ ds.length = b.length)) (fun Kk hk=>⟨_,rfl,_,d,m,_,_,rfl,hd,we d,_,rfl,?_⟩) ?_
 ·cases ht:su d with
  | false=>exact iteT (hk _ _ ⟨rfl,(fun _ ⟨os,e,_⟩=>by rw [e] at ht; cases ht),fun z=>nomatch z⟩)
  | true =>
   obtain ⟨r,xs,ds,rfl,rfl,hs,os⟩:=vd hd ht
   have xl:=os.length
   refine iteF ⟨_,rfl,r,_,rfl,.inr hs,_,rfl,rb,_,rfl,.inr hrb,rfl,_,rfl,hk _ _ ⟨rfl,fun t=>?_,fun t=>?_⟩⟩
   ·rintro ⟨os,e,h1,_⟩
    injection e with e
    have:xs.length = (b.map V.int).length:=by rw [xl,e,List.length_map,List.length_map,h1]
    rw [this] at t
    simp at t
   ·refine ⟨r,xs,ds,rfl,rfl,hs,os,?_⟩
    rw [Bool.not_eq_false',decide_eq_true_eq] at t
    injection t with t
    rw [List.length_map] at t
    omega
 rintro t H1 ⟨rfl,ht1,ht2⟩
 cases t with
 | true=>exact iteT fun e=>q2 (ht1 rfl) e _ (Grow.refl _ _)
 | false =>
  obtain ⟨r,xs,ds,rfl,rfl,hs,os,dl⟩:=ht2 rfl
  have xl:=os.length
  obtain ⟨h64,hfl⟩:=hl ds rfl
  refine iteF (yh ?_)
  refine ⟨_,rfl,_,rfl,_,_,rfl,b,cs,hb,hc,b16,ok,fun l zs H2 g2 nl hl2 bx=>⟨_,rfl,false,true,l,r,rfl,⟨_,SqL.of hl2⟩,⟨_,g2.sqT hs⟩,W3 (c:=false) (d:=true) (xs:=zs) (ys:=xs) (fun i σ H'=>∃ (e3 e4:Option V),σ = [some (.ref rb),some y,some (.ref r),e3,e4] /\ Grow [] H2 H' /\ ∀ j,j < i -> uQ b cs (nb73 cs j) (ds.getD j .none)) ⟨_,_,rfl,Grow.refl _ _,fun j hj=>absurd hj (Nat.not_lt_zero _)⟩ (fun i σ H' z=>by obtain ⟨_,_,_,g,_⟩:=z; exact ⟨SqL.of (g.keep _ _ (by simp) hl2),((g2.trans g).sqT hs:SqT K _ _ _)⟩) ?_ ?_⟩⟩
  ·rintro i vx vy σ H3 T hx hy ⟨e3,e4,rfl,g3,hyes⟩ hT
   obtain ⟨ns,hns,al,rfl,hal⟩:=bx.get hx
   obtain ⟨di,hdi,odi⟩:=os.get hy
   have hi:i < b.length:=by rw [← dl]; exact (List.getElem?_eq_some_iff.mp hdi).1
   rw [List.getElem?_map,List.getElem?_range hi] at hns
   obtain rfl:nb73 cs i = ns:=Option.some.inj hns
   have ed:ds.getD i .none = di:=by rw [List.getD_eq_getElem?_getD,hdi]; rfl
   have gT:=Grow.new (m:=[]) hT (.tup [.ref al,vy])
   have hTT:=zd (H:=H3) (a:=T) (o:=.tup [.ref al,vy])
   have hal3:=(g3.trans gT).keep _ _ (by simp) hal
   have g4:=g2.trans (g3.trans gT)
   have g34:=g3.trans gT
   generalize upd H3 T _ = H4 at gT hTT hal3 g4 g34 ⊢
   have few:=ok.few (i:Int)
   rw [← wA] at few
   refine ⟨T,_,rfl,SqT.of hTT,rfl,_,_,rfl,_,_,rfl,rfl,?_⟩
   refine ⟨_,rfl,_,rfl,_,rfl,_,rfl,_,_,_,_,rfl,b,cs,nb73 cs i,di,m,g4.board hb,g4.calls72 hc,⟨al,rfl,SqL.of hal3⟩,YY,(fun k hk=>(yf.mp hk).1),by omega,odi.grow (g4.wk (m:=m)),ok.ok,hfl di (List.mem_of_getElem? hdi),fun bb H5 g5 hbb=>⟨_,rfl,?_⟩⟩
   cases bb with
   | false =>
    refine iteT fun e=>q2 (fun hR=>?_) e _ (g4.trans g5)
    have:=(vK dl).mp hR i hi
    rw [ed] at this
    exact absurd (hbb.mpr this) (by decide)
   | true =>
    refine iteF ⟨_,_,rfl,g34.trans g5,fun j hj=>?_⟩
    by_cases e:j = i
    ·rw [e,ed]; exact hbb.mp rfl
    ·exact hyes j (by omega)
  ·rintro σ H3 ⟨e3,e4,rfl,g3,hyes⟩
   refine q1 ((vK dl).mpr fun j hj=>hyes j ?_) H3 (g2.trans g3)
   have:=bx.len
   rw [List.length_map,List.length_range] at this
   omega
theorem Xq:FnScope ["thing"] ["thing"] (zi (top 12)):=⟨rfl,rfl,rfl,by decide +kernel,rfl,by decide +kernel,by decide +kernel⟩
theorem Xr (F:Fun K "is_end" "is_end" (top 12) f fd) (B:Blt mg) (qc0:zk P w K mg base n "is_whole" ["thing"] (yv K))     :
  FnOk P w K mg base CX0 (n + 1) f fd ["thing"] (sZ K):=by
 refine F.ok Xq vz (fun cdv A outer s H vs Q E hr h=>?_)
 obtain ⟨x,rfl,kn,q⟩:=h
 refine ⟨_,(zg (zq (Xu (Vv (ZL (pv 0))) (xS (zf qc0 hr rfl (za (pv 0) zb)))))),?_⟩
 refine ⟨x,rfl,_,rfl,?_⟩
 cases x with
 | non=>exact iteT q
 | _=>exact iteF ⟨_,rfl,_,rfl,kn,q⟩
theorem wD:FnScope ["thing","add","low","high"] ["thing"] (zi (top 13)):=⟨rfl,rfl,rfl,by decide +kernel,rfl,by decide +kernel,by decide +kernel⟩
theorem ZD (F:Fun K "is_deed" "is_deed" (top 13) f fd) (B:Blt mg) (qc0:zk P w K mg base n "is_end" ["thing"] (sZ K)) (qc1:zk P w K mg base n "is_whole" ["thing"] (yv K))     :
  FnOk P w K mg base CX0 (n + 1) f fd ["thing"] (tE K):=by
 refine F.ok wD vz (fun cdv A outer s H vs Q E hr h=>?_)
 obtain ⟨x,rfl,h⟩:=h
 refine ⟨_,(ze (zV (PW.pt (vv (yp (zR (zj yq rfl B.isinstance zt (za (pv 0) (za (yU rfl B.tuple z9) zb))))) (xR (zD t8 (zj zu rfl B.len xh (za (pv 0) zb)) zh (zB _))))) (zg (zq yy)) zy) (ze (xj (pv 0) (xi rfl (zn (zm (i:=1) wD.nd rfl (Or.inl rfl)) (zn (zm (i:=2) wD.nd rfl (Or.inl rfl)) (zn (zm (i:=3) wD.nd rfl (Or.inl rfl)) yk))))) (ze (zV (yp (PW.pt (vP (zR (zf qc1 hr rfl (za (pv 1) zb))) (vP (zR (zf qc0 hr rfl (za (pv 2) zb))) (wL (zR (zf qc0 hr rfl (za (pv 3) zb)))))))) (zg (zq yy)) zy) (ze (zV (PW.pt (vv (vO (ZL (pv 2))) (xR (vO (ZL (pv 3)))))) (zg (zq yy)) zy) (zg (zq (Xu (yz uj (pv 2) (pv 3) (zB _)) (xS (xw (yz vw (pv 2) (pv 3) (zB _)) (xS (yz vw (pv 1) zh (zB _)))))))))))),?_⟩
 rcases h with ⟨T,hT,ty,q⟩ | ⟨a,xs,rfl,hs,hk,q⟩
 ·have kt:PySem.W.kitOne K (.type T) (.type "tuple") = some false:=by
   cases x with
   | non=>cases (show T = "NoneType" from ty); rfl
   | bl y=>cases (show T = "bool" from ty); rfl
   | int i=>cases (show T = "int" from ty); rfl
   | str y=>cases (show T = "str" from ty); rfl
   | byt y=>exact ty.elim
   | flt y=>exact ty.elim
   | ty y=>exact ty.elim
   | ref a =>
    rcases ty with ⟨rfl,xs,hq⟩ | ⟨rfl,xs,hq⟩ | ⟨rfl,kvs,hq⟩
    ·exact absurd rfl hT
    ·rfl
    ·rfl
  exact ⟨_,rfl,_,_,_,false,rfl,ty,kt,_,rfl,iteT (iteT q)⟩
 ·refine ⟨_,rfl,_,_,_,true,rfl,.inl ⟨rfl,xs,hs⟩,rfl,_,rfl,iteF ⟨_,rfl,a,xs,rfl,.inr hs,rfl,_,rfl,?_⟩⟩
  by_cases hl:xs.length = 3
  ·obtain ⟨y1,y2,y3,rfl⟩:=len3 hl
   refine iteF ⟨_,rfl,a,_,rfl,hs,rfl,_,_,rfl,_,_,rfl,_,_,rfl,rfl,?_⟩
   refine ⟨_,rfl,_,rfl,hk y1 (by simp),_,rfl,?_⟩
   refine ite2 (fun c1=>?_) (fun c1=>?_)
   ·obtain ⟨i1,rfl⟩:=Z5 c1
    refine ⟨_,rfl,_,rfl,hk y2 (by simp),_,rfl,?_⟩
    refine ite2 (fun c2=>?_) (fun c2=>?_)
    ·obtain ⟨o2,rfl⟩:=Wv c2
     refine ⟨_,rfl,_,rfl,hk y3 (by simp),_,rfl,?_⟩
     by_cases c3:endV y3 = true
     ·obtain ⟨o3,rfl⟩:=Wv c3
      rw [c3]
      refine iteF ?_
      cases o2 with
      | none=>exact ⟨_,rfl,_,rfl,iteT (iteT (by cases o3 <;> exact q))⟩
      | some l =>
       cases o3 with
       | none=>exact ⟨_,rfl,_,rfl,iteF ⟨_,rfl,_,rfl,iteT q⟩⟩
       | some u =>
        refine ⟨_,rfl,_,rfl,iteF ⟨_,rfl,_,rfl,iteF ?_⟩⟩
        refine ⟨_,rfl,_,rfl,_,_,rfl,rfl,_,rfl,?_⟩
        have q':Q (.bl (decide (l < u) || (decide (l = u) && decide (i1 = 0)))) H:=q
        refine ite2 (fun c=>?_) (fun c=>?_)
        ·rw [c] at q'; exact q'
        ·rw [Bool.eq_false_iff.mpr c] at q'
         refine ⟨_,rfl,_,rfl,rfl,_,rfl,?_⟩
         refine ite2 (fun d=>?_) (fun d=>?_)
         ·have d':l = u:=V.int.inj (of_decide_eq_true d)
          refine ⟨_,rfl,rfl,?_⟩
          rw [decide_eq_true d'] at q'
          have e:decide (V.int i1 = V.int 0) = decide (i1 = 0):=by simp
          rw [e]; exact q'
         ·have d':¬ l = u:=fun z=>d (by rw [z]; simp)
          rw [decide_eq_false d'] at q'
          exact q'
     ·have e:endV y3 = false:=Bool.eq_false_iff.mpr c3
      rw [e]
      refine iteT ?_
      have z:vA [V.int i1,ov o2,y3] = false:=by show (true && (endV (ov o2) && (endV y3 && _))) = false; rw [e]; simp
      rw [z] at q; exact q
    ·have e:endV y2 = false:=Bool.eq_false_iff.mpr c2
     refine iteT ?_
     have z:vA [V.int i1,y2,y3] = false:=by show (true && (endV y2 && (endV y3 && _))) = false; rw [e]; simp
     rw [z] at q; exact q
   ·have e:tD y1 = false:=Bool.eq_false_iff.mpr c1
    refine iteT ?_
    have z:vA [y1,y2,y3] = false:=by show (tD y1 && (endV y2 && (endV y3 && _))) = false; rw [e]; simp
    rw [z] at q; exact q
  ·have e:decide (V.int (xs.length:Int) = V.int 3) = false:=decide_eq_false fun z=>hl (by have:=V.int.inj z; omega)
   rw [e]
   refine iteT ?_
   rw [qr hl] at q; exact q
theorem qc:FnScope ["thing","least","greatest"] ["thing","least","greatest"] (zi (top 10)):=⟨rfl,rfl,rfl,by decide +kernel,rfl,by decide +kernel,by decide +kernel⟩
theorem qd (F:Fun K "is_within" "is_within" (top 10) f fd) (B:Blt mg) (qc0:zk P w K mg base n "is_whole" ["thing"] (yv K))     :
  FnOk P w K mg base CX0 (n + 1) f fd ["thing","least","greatest"] (vR K):=by
 refine F.ok qc xI (fun cdv A outer s H vs Q E hr h=>?_)
 obtain ⟨x,y,z,rfl,i,l,u,rfl,rfl,rfl,q⟩:=h
 refine ⟨_,(zg (zq (xw (zf qc0 hr rfl (za (pv 0) zb)) (xS (jn qp qp (pv 1) (pv 0) (pv 2)))))),?_⟩
 refine ⟨_,rfl,_,rfl,up,_,rfl,iteT ⟨_,rfl,_,rfl,_,_,rfl,rfl,_,rfl,?_⟩⟩
 by_cases c:l <= i
 ·refine yX (decide_eq_true c) ⟨_,rfl,_,_,rfl,rfl,?_⟩
  rw [decide_eq_true c] at q; exact q
 ·refine yZ (decide_eq_false c) ?_
  rw [decide_eq_false c] at q; exact q
theorem vp:FnScope ["board","thing","hand","box","deed"] ["board","thing"] (zi (top 20)):=⟨rfl,rfl,rfl,by decide +kernel,rfl,by decide +kernel,by decide +kernel⟩
theorem Xs (F:Fun K "is_ask" "is_ask" (top 20) f fd) (B:Blt mg) (qc0:zk P w K mg base n "is_deed" ["thing"] (tE K)) (qc1:zk P w K mg base n "is_within" ["thing","least","greatest"] (vR K))   {t_LAST_HAND:Tok} (g_LAST_HAND:mg "LAST_HAND" = some (.int 15 t_LAST_HAND))  :
  FnOk P w K mg base CX0 (n + 1) f fd ["board","thing"] (re K):=by
 refine F.ok vp zW (fun cdv A outer s H vs Q E hr h=>?_)
 obtain ⟨x,y,rfl,b,k,⟨rb,rfl,hb⟩,⟨r,rd,rfl,h1,h2⟩,⟨k1,k2,k3,k4,k5⟩,q⟩:=h
 refine ⟨_,(ze (zV (PW.pt (vv (yp (zR (zj yq rfl B.isinstance zt (za (pv 1) (za (yU rfl B.tuple z9) zb))))) (xR (zD t8 (zj zu rfl B.len xh (za (pv 1) zb)) zh (zB _))))) (zg (zq yy)) zy) (ze (xj (pv 1) (xi rfl (zn (zm (i:=2) vp.nd rfl (Or.inl rfl)) (zn (zm (i:=3) vp.nd rfl (Or.inl rfl)) (zn (zm (i:=4) vp.nd rfl (Or.inl rfl)) yk))))) (zg (zq (xw (zf qc1 hr rfl (za (pv 2) (za zh (za (xq rfl g_LAST_HAND (show RelV (.int 15) (.int 15 t_LAST_HAND) from ⟨_,rfl⟩)) zb)))) (xw (zf qc1 hr rfl (za (pv 3) (za zh (za (zA uh (zj zu rfl B.len xh (za (pv 0) zb)) zh) zb)))) (xS (zf qc0 hr rfl (za (pv 4) zb))))))))),?_⟩
 have hl:(b.map V.int).length = b.length:=List.length_map ..
 refine ⟨_,rfl,_,_,_,true,rfl,.inl ⟨rfl,_,h1⟩,rfl,_,rfl,iteF ⟨_,rfl,r,_,rfl,.inr h1,rfl,_,rfl,iteF ?_⟩⟩
 refine ⟨_,rfl,r,_,rfl,h1,rfl,_,_,rfl,_,_,rfl,_,_,rfl,rfl,?_⟩
 refine ⟨_,rfl,_,_,_,rfl,_,_,_,rfl,rfl,rfl,_,rfl,yX (by rw [decide_eq_true k1,decide_eq_true k2]; rfl) ?_⟩
 refine ⟨_,rfl,_,rfl,rb,_,rfl,.inr hb,_,_,rfl,rfl,_,_,_,rfl,_,_,_,rfl,rfl,rfl,_,rfl,yX (by rw [decide_eq_true k3,decide_eq_true (show k.box <= ((b.map V.int).length:Int) - 1 by rw [hl]; omega)]; rfl) ?_⟩
 refine ⟨_,rfl,_,rfl,.inr ⟨rd,_,rfl,h2,?_,?_⟩⟩
 ·intro v hv
  simp only [Deed.vs,List.mem_cons,List.mem_nil_iff,or_false] at hv
  rcases hv with rfl | rfl | rfl
  ·exact up
  ·exact VL _
  ·exact VL _
 ·rw [j5 k5]; exact q
theorem wE:FnScope ["board","thing","begun","ended","answer"] ["board","thing"] (zi (top 24)):=⟨rfl,rfl,rfl,by decide +kernel,rfl,by decide +kernel,by decide +kernel⟩
theorem ZE (F:Fun K "is_call" "is_call" (top 24) f fd) (B:Blt mg) (qc0:zk P w K mg base n "is_whole" ["thing"] (yv K)) (qc1:zk P w K mg base n "is_ask" ["board","thing"] (re K))     :
  FnOk P w K mg base CX0 (n + 1) f fd ["board","thing"] (vU K):=by
 refine F.ok wE zW (fun cdv A outer s H vs Q E hr h=>?_)
 obtain ⟨x,y,rfl,b,c,hb,hc,ok,q⟩:=h
 refine ⟨_,(ze (zV (PW.pt (vv (yp (zR (zj yq rfl B.isinstance zt (za (pv 1) (za (yU rfl B.tuple z9) zb))))) (vv (zD t8 (zj zu rfl B.len xh (za (pv 1) zb)) zh (zB _)) (xR (yp (zR (zf qc1 hr rfl (za (pv 0) (za (zG jq (pv 1) zP (zK zh)) zb))))))))) (zg (zq yy)) zy) (ze (xj (zG jq (pv 1) (zK zh) zP) (xi rfl (zn (zm (i:=2) wE.nd rfl (Or.inl rfl)) (zn (zm (i:=3) wE.nd rfl (Or.inl rfl)) (zn (zm (i:=4) wE.nd rfl (Or.inl rfl)) yk))))) (zg (zq (xw (zf qc0 hr rfl (za (pv 2) zb)) (xw (zf qc0 hr rfl (za (pv 3) zb)) (xw (zf qc0 hr rfl (za (pv 4) zb)) (xS (jn qp qp zh (pv 2) (pv 3)))))))))),?_⟩
 obtain ⟨r,rd,rfl,hr0,hrd⟩:=id hc
 refine yA (fun b H'=>b = false /\ Grow [] H H') (fun Kk hk=>⟨_,rfl,_,"tuple","tuple",true,rfl,.inl ⟨rfl,_,hr0⟩,rfl,_,rfl,iteF ⟨_,rfl,r,_,rfl,.inr hr0,rfl,_,rfl,iteF ⟨_,rfl,_,rfl,_,rfl,r,_,rfl,hr0,(fun z=>absurd z.2 (by decide:¬ HT.sIx 6 6 (some 3) = 6)),fun p hp=>⟨_,_,rfl,b,⟨c.hand,c.box,c.deed⟩,(Grow.new (m:=[]) hp _).board hb,⟨p,rd,rfl,SqT.of zd,(Grow.new (m:=[]) hp _).sqT hrd⟩,⟨ok.h0,ok.h1,ok.b0,ok.b1,ok.d⟩,_,rfl,hk _ _ ⟨rfl,Grow.new hp _⟩⟩⟩⟩⟩) ?_
 rintro _ H1 ⟨rfl,g1⟩
 refine iteF (yh ?_)
 refine ⟨_,rfl,_,rfl,r,_,rfl,g1.sqT hr0,(fun z=>absurd z.1 (by decide:¬ HT.sIx 6 0 (some 3) = 0)),fun p hp=>⟨p,_,rfl,SqT.of zd,rfl,_,_,rfl,_,_,rfl,_,_,rfl,rfl,?_⟩⟩
 refine ⟨_,rfl,_,rfl,up,_,rfl,iteT ⟨_,rfl,_,rfl,up,_,rfl,iteT ⟨_,rfl,_,rfl,up,_,rfl,iteT ⟨_,rfl,_,_,rfl,rfl,_,rfl,yX (decide_eq_true ok.t0) ⟨_,rfl,_,_,rfl,rfl,?_⟩⟩⟩⟩⟩
 have:=q _ (g1.trans (Grow.new hp (.tup (cutV (c.vs rd) (some 3) none))))
 rw [← decide_eq_true ok.t1] at this
 exact this
theorem jc:FnScope ["thing"] ["thing"] (zi (top 18)):=⟨rfl,rfl,rfl,by decide +kernel,rfl,by decide +kernel,by decide +kernel⟩
theorem jd (F:Fun K "is_board" "is_board" (top 18) f fd) (B:Blt mg) (qc0:zk P w K mg base n "is_whole" ["thing"] (yv K))   {t_MOST_BOXES:Tok} (g_MOST_BOXES:mg "MOST_BOXES" = some (.int 16 t_MOST_BOXES))  :
  FnOk P w K mg base CX0 (n + 1) f fd ["thing"] (uq K):=by
 refine F.ok jc vz (fun cdv A outer s H vs Q E hr h=>?_)
 obtain ⟨x,rfl,b,⟨r,rfl,hs⟩,b1,b2,q⟩:=h
 refine ⟨_,(ze (zV (PW.pt (vv (yp (zR (zj yq rfl B.isinstance zt (za (pv 0) (za (yU rfl B.tuple z9) zb))))) (xR (yp (XA qp qp zh (zj zu rfl B.len xh (za (pv 0) zb)) (xq rfl g_MOST_BOXES (show RelV (.int 16) (.int 16 t_MOST_BOXES) from ⟨_,rfl⟩))))))) (zg (zq yy)) zy) (zg (zq (zj (xz rfl) rfl B.all j3 (za (zN (CSc.of (N':=["value"]) (sub:=[none]) (zi (top 18)) ["thing"] rfl rfl (by decide +kernel) rfl) rfl (y8 (pv 0)) (fun _ _ _ _ _ _=>zm (i:=0) (show (["value"]:List Str).Nodup by decide +kernel) rfl (Or.inl rfl)) (fun _ _ _ _ _ _=>zM) (fun _ _ _ _ _ _=>(zf qc0 hr rfl (za (pv 0) zb)))) zb))))),?_⟩
 have hl:(b.map V.int).length = b.length:=List.length_map ..
 refine ⟨_,rfl,_,_,_,true,rfl,.inl ⟨rfl,_,hs⟩,rfl,_,rfl,iteF ?_⟩
 refine ⟨_,rfl,r,_,rfl,.inr hs,_,_,rfl,rfl,_,rfl,yX (decide_eq_true (by rw [hl]; omega)) ⟨_,_,rfl,rfl,_,rfl,yZ (by rw [decide_eq_true (show ((b.map V.int).length:Int) <= 16 by rw [hl]; omega)]; rfl) ?_⟩⟩
 refine ⟨_,rfl,r,rfl,⟨_,hs⟩,Ya (fun _=>V.bl true) hs (by rw [hl]; omega) ?_ ?_⟩
 ·intro x H1 R hx g k
  obtain ⟨i,_,rfl⟩:=List.mem_map.mp hx
  exact ⟨_,rfl,_,rfl,up,k _ (Grow.refl _ _)⟩
 ·intro H1 p g hp
  refine ⟨p,b.map (fun _=>true),rfl,SqL.of (by rw [zd,XI]),?_⟩
  rw [Yb]
  exact q _ (g.trans (Grow.new hp _))
theorem sH:FnScope ["thing"] ["thing"] (zi (top 19)):=⟨rfl,rfl,rfl,by decide +kernel,rfl,by decide +kernel,by decide +kernel⟩
theorem sI (F:Fun K "need_board" "need_board" (top 19) f fd) (B:Blt mg) (qc0:zk P w K mg base n "is_board" ["thing"] (uq K))     :
  FnOk P w K mg base CX0 (n + 1) f fd ["thing"] (w4 K):=by
 refine F.ok sH vz (fun cdv A outer s H vs Q E hr h=>?_)
 obtain ⟨x,rfl,b,hb,b1,b2,q⟩:=h
 refine ⟨_,(zg (zV (yp (zR (zf qc0 hr rfl (za (pv 0) zb)))) (zg jj) zy)),?_⟩
 exact ⟨_,rfl,_,rfl,b,hb,b1,b2,fun H1 g1=>⟨_,rfl,iteF (q _ g1)⟩⟩
theorem qe:FnScope ["board","thing"] ["board","thing"] (zi (top 26)):=⟨rfl,rfl,rfl,by decide +kernel,rfl,by decide +kernel,by decide +kernel⟩
theorem qf (F:Fun K "are_calls" "are_calls" (top 26) f fd) (B:Blt mg) (qc0:zk P w K mg base n "by_boxes" ["board","calls"] (sC K)) (qc1:zk P w K mg base n "is_call" ["board","thing"] (vU K)) (qc2:zk P w K mg base n "need_board" ["thing"] (w4 K))   {t_MOST_AT_A_BOX:Tok} (g_MOST_AT_A_BOX:mg "MOST_AT_A_BOX" = some (.int 8 t_MOST_AT_A_BOX)) {t_MOST_CALLS:Tok} (g_MOST_CALLS:mg "MOST_CALLS" = some (.int 40 t_MOST_CALLS))  :
  FnOk P w K mg base CX0 (n + 1) f fd ["board","thing"] (jF K):=by
 refine F.ok qe zW (fun cdv A outer s H vs Q E hr h=>?_)
 obtain ⟨x,y,rfl,b,cs,hb,b1,b16,hc,ok,q⟩:=h
 refine ⟨_,(ze (xX (zf qc2 hr rfl (za (pv 0) zb))) (ze (zV (PW.pt (vv (yp (zR (zj yq rfl B.isinstance zt (za (pv 1) (za (yU rfl B.tuple z9) zb))))) (xR (zD Xz (zj zu rfl B.len xh (za (pv 1) zb)) (xq rfl g_MOST_CALLS (show RelV (.int 40) (.int 40 t_MOST_CALLS) from ⟨_,rfl⟩)) (zB _))))) (zg (zq yy)) zy) (ze (zV (yp (zR (zj (xz rfl) rfl B.all j3 (za (zN (CSc.of (N':=["call","board"]) (sub:=[none,some 0]) (zi (top 26)) ["board","thing"] rfl rfl (by decide +kernel) rfl) rfl (y8 (pv 1)) (fun _ _ _ _ _ _=>zm (i:=0) (show (["call","board"]:List Str).Nodup by decide +kernel) rfl (Or.inl rfl)) (fun _ _ _ _ _ _=>zM) (fun _ _ _ _ _ _=>(zf qc1 hr rfl (za (pv 1) (za (pv 0) zb))))) zb)))) (zg (zq yy)) zy) (zg (zq (zj (xz rfl) rfl B.all j3 (za (zN (CSc.of (N':=["numbers"]) (sub:=[none]) (zi (top 26)) ["board","thing"] rfl rfl (by decide +kernel) rfl) rfl (t7 (zf qc0 hr rfl (za (pv 0) (za (pv 1) zb)))) (fun _ _ _ _ _ _=>zm (i:=0) (show (["numbers"]:List Str).Nodup by decide +kernel) rfl (Or.inl rfl)) (fun _ _ _ _ _ _=>zM) (fun _ _ _ _ _ _=>(yz qp (zj (rg (K:=K) rfl) rfl B.len xh (za (pv 0) zb)) (xq rfl g_MOST_AT_A_BOX (show RelV (.int 8) (.int 8 t_MOST_AT_A_BOX) from ⟨_,rfl⟩)) (zB _)))) zb))))))),?_⟩
 obtain ⟨rc,xs,rfl,hrc,hall⟩:=id hc
 have xl:=hall.len
 have cl:=ok.len
 refine ⟨_,rfl,_,rfl,b,hb,b1,b16,fun H0 g0=>?_⟩
 try dsimp only
 refine yA (fun b H'=>b = false /\ H' = H0) (fun Kk hk=>⟨_,rfl,_,"tuple","tuple",true,rfl,.inl ⟨rfl,_,g0.sqT hrc⟩,rfl,_,rfl,iteF ⟨_,rfl,rc,_,rfl,.inr (g0.sqT hrc),_,_,rfl,rfl,_,rfl,hk _ _ ⟨decide_eq_false (by omega),rfl⟩⟩⟩) ?_
 rintro _ H0 ⟨rfl,rfl⟩
 refine iteF (yh ?_)
 refine yA (fun b H'=>b = false /\ Grow [] H0 H') (fun Kk hk=>⟨_,rfl,rc,rfl,⟨_,g0.sqT hrc⟩,ye (xs:=xs) (fun i ys H'=>ys = (List.replicate i true).map V.bl /\ Grow [] H0 H') ⟨rfl,Grow.refl _ _⟩ (fun i ys H' ⟨_,g⟩=>(g0.trans g).sqT hrc) ?_ ?_⟩) ?_
 ·rintro i x ys H' hx ⟨rfl,g'⟩
  have hi:=(List.getElem?_eq_some_iff.mp hx).1
  obtain ⟨c,hci,hcat⟩:=hall.get hx
  refine ⟨_,rfl,_,rfl,_,_,rfl,b,c,(g0.trans g').board hb,(g0.trans g').call72 hcat,ok.ok c (List.mem_of_getElem? hci),fun H2 g2=>⟨lt72 (by rw [List.length_map,List.length_replicate]; omega),by rw [List.replicate_succ',List.map_append]; rfl,g'.trans g2⟩⟩
 ·rintro ys H' ⟨rfl,g'⟩ l hl
  exact ⟨l,List.replicate xs.length true,rfl,SqL.of zd,_,rfl,hk _ _ ⟨by rw [rk]; rfl,g'.trans (Grow.new hl _)⟩⟩
 rintro _ H1 ⟨rfl,g1⟩
 refine iteF (yh ?_)
 refine ⟨_,rfl,_,rfl,_,_,rfl,b,cs,(g0.trans g1).board hb,(g0.trans g1).calls72 hc,b16,ok,fun l zs H2 g2 _ hl2 hz=>⟨l,rfl,⟨_,SqL.of hl2⟩,tG (xs:=zs) (fun i ys H'=>ys = (List.replicate i true).map V.bl /\ H' = H2) ⟨rfl,rfl⟩ (fun i ys H' z=>by rw [z.2]; exact SqL.of hl2) ?_ ?_⟩⟩
 ·rintro i x ys H' hx ⟨rfl,rfl⟩
  have hi:=(List.getElem?_eq_some_iff.mp hx).1
  obtain ⟨ns,hni,a,rfl,hA⟩:=hz.get hx
  have zl:=hz.len
  rw [List.length_map,List.length_range] at zl
  have n8':ns.length <= 8:=by
   obtain ⟨j,_,rfl⟩:=List.mem_map.mp (List.mem_of_getElem? hni)
   rw [wA]; exact ok.few j
  refine ⟨_,rfl,a,_,rfl,.inl (SqL.of hA),_,_,rfl,rfl,lt72 (by rw [List.length_map,List.length_replicate]; omega),?_,rfl⟩
  have e8:decide (((zp ns).length:Int) <= 8) = true:=decide_eq_true (by rw [zw]; omega)
  rw [List.replicate_succ',List.map_append]
  show _ ++ [V.bl (decide (((zp ns).length:Int) <= 8))] = _
  rw [e8]; rfl
 ·rintro ys H' ⟨rfl,rfl⟩ l' hl'
  refine ⟨l',List.replicate zs.length true,rfl,SqL.of zd,?_⟩
  rw [rk]
  exact q _ (g0.trans (g1.trans (g2.trans (Grow.new hl' _))))
theorem sJ:FnScope ["board","thing"] ["board","thing"] (zi (top 27)):=⟨rfl,rfl,rfl,by decide +kernel,rfl,by decide +kernel,by decide +kernel⟩
theorem sK (F:Fun K "need_calls" "need_calls" (top 27) f fd) (B:Blt mg) (qc0:zk P w K mg base n "are_calls" ["board","thing"] (jF K))     :
  FnOk P w K mg base CX0 (n + 1) f fd ["board","thing"] (rn K):=by
 refine F.ok sJ zW (fun cdv A outer s H vs Q E hr h=>?_)
 obtain ⟨x,y,rfl,b,cs,hb,b1,b16,hc,ok,q⟩:=h
 refine ⟨_,(zg (zV (yp (zR (zf qc0 hr rfl (za (pv 0) (za (pv 1) zb))))) (zg jj) zy)),?_⟩
 exact ⟨_,rfl,_,rfl,_,_,rfl,b,cs,hb,b1,b16,hc,ok,fun H' g=>⟨_,rfl,iteF (q _ g)⟩⟩
theorem v6:FnScope ["board","calls","orders"] ["board","calls","orders"] (zi (top 35)):=⟨rfl,rfl,rfl,by decide +kernel,rfl,by decide +kernel,by decide +kernel⟩
theorem v7 (F:Fun K "gone_together" "gone_together" (top 35) f fd) (B:Blt mg) {A_NoOrder:Addr} (x_NoOrder:ExcC K mg "NoOrder" A_NoOrder) (qc0:zk P w K mg base n "merged" ["calls","orders"] (uR K)) (qc1:wj P w K mg base n "need_orders" ["board","calls","thing"] (vJ A_NoOrder K)) (qc2:zk P w K mg base n "need_calls" ["board","thing"] (rn K))     :
  FnOk P w K mg base (CX1 P w) (n + 1) f fd ["board","calls","orders"] (uS A_NoOrder K):=by
 refine Fun.okX F v6 jS (fun cdv A outer s H vs Q E hr h=>?_)
 obtain ⟨x,y,z,rfl,b,cs,d,m,hb,b1,b16,hc,ok,hd,hl,q1,q2⟩:=h
 refine ⟨_,(ze (xX (zf qc2 hr rfl (za (pv 0) (za (pv 1) zb)))) (ze (xX (jK qc1 (Vb fun _ _ _ z=>z) hr rfl (za (pv 0) (za (pv 1) (za (pv 2) zb))))) (zg (zq (zf qc0 hr rfl (za (pv 1) (za (pv 2) zb))))))),?_⟩
 refine ⟨_,rfl,_,rfl,_,_,rfl,b,cs,hb,b1,b16,hc,ok,fun H1 g1=>?_⟩
 refine ⟨_,rfl,_,rfl,_,rfl,_,_,_,rfl,b,cs,d,m,g1.board hb,b1,b16,g1.calls72 hc,ok,hd.grow (g1.wk (m:=m)),hl,fun hR H2 g2=>?_,fun hR e H2 g2=>q2 hR e H2 (g1.trans g2)⟩
 obtain ⟨os,rfl,ho⟩:=hR
 have G2:=g1.trans g2
 obtain ⟨r,xs,rfl,hs,od⟩:=hd.inv_tup
 have hn:AllR (yO K H2) xs os:=wU (od.grow (G2.wk (m:=m)))
 have olen:os.length = b.length:=ho.1
 refine ⟨_,rfl,_,rfl,_,_,rfl,cs,r,xs,os,G2.calls72 hc,rfl,G2.sqT hs,hn,by rw [olen]; exact ok,by rw [olen]; exact b16,fun o hoo=>?_,fun v H3 g3 so hv=>q1 os rfl ho v H3 (G2.trans g3) so hv⟩
 obtain ⟨i,hi,e⟩:=List.getElem_of_mem hoo
 have h1:=(ho.2 i (by omega)).1
 have e2:os.getD i [] = o:=by rw [List.getD_eq_getElem?_getD,List.getElem?_eq_getElem hi]; exact e
 rw [e2] at h1
 have few:=ok.few (i:Int)
 rw [← wA] at few
 rw [h1.length_eq]; omega
theorem yV:FnScope ["_law_board","_law_calls","_law_rows_here","_law_found","e","_law_some"] ["_law_board","_law_calls","_law_rows_here"] (zi (top 57)):=⟨rfl,rfl,rfl,by decide +kernel,rfl,by decide +kernel,by decide +kernel⟩
theorem qg (F:Fun K "_law_word" "_law_word" (top 57) f fd) (B:Blt mg) {A_AskError:Addr} {A_NoOrder:Addr} {A_NoCalls:Addr} {A_TooMany:Addr} {A_NoAsk:Addr} {A_NoBoard:Addr} {A_NoNumber:Addr} (x_AskError:ExcC K mg "AskError" A_AskError) (x_NoOrder:ExcC K mg "NoOrder" A_NoOrder) (v_NoCalls:mg "NoCalls" = some (.ref A_NoCalls)) (v_NoOrder:mg "NoOrder" = some (.ref A_NoOrder)) (v_TooMany:mg "TooMany" = some (.ref A_TooMany)) (v_NoAsk:mg "NoAsk" = some (.ref A_NoAsk)) (v_NoBoard:mg "NoBoard" = some (.ref A_NoBoard)) (v_NoNumber:mg "NoNumber" = some (.ref A_NoNumber)) (u_NoOrder:PySem.W.mroIn K A_NoOrder (.ref A_AskError) = some true) (k_NoOrder:ExcK K A_NoOrder) (q_NoOrder_NoNumber:PySem.W.kitOne K (.ref A_NoOrder) (.ref A_NoNumber) = some false) (q_NoOrder_NoBoard:PySem.W.kitOne K (.ref A_NoOrder) (.ref A_NoBoard) = some false) (q_NoOrder_NoAsk:PySem.W.kitOne K (.ref A_NoOrder) (.ref A_NoAsk) = some false) (q_NoOrder_TooMany:PySem.W.kitOne K (.ref A_NoOrder) (.ref A_TooMany) = some false) (q_NoOrder_NoOrder:PySem.W.kitOne K (.ref A_NoOrder) (.ref A_NoOrder) = some true) (q_NoOrder_NoCalls:PySem.W.kitOne K (.ref A_NoOrder) (.ref A_NoCalls) = some false) (q_NoOrder_ValueError:PySem.W.kitOne K (.ref A_NoOrder) (.type "ValueError") = some true) (qc0:wj P w K mg base n "gone_together" ["board","calls","orders"] (uS A_NoOrder K))  (g_any:mg "any" = none) (g_ValueError:mg "ValueError" = none)   :
  FnOk P w K mg base CX0 (n + 1) f fd ["_law_board","_law_calls","_law_rows_here"] (rY K):=by
 refine F.ok yV xI (fun cdv A outer s H vs Q E hr h=>?_)
 obtain ⟨x,y,z,rfl,b,cs,d,m,hb,b1,b16,hc,ok,hd,hl,q1,q2⟩:=h
 refine ⟨_,(ze (Wh (K:=K) (i:=4) (E:=(fun _ c H'=>c = some A_NoOrder /\ ¬ xu b cs d /\ Grow [] H H')) rfl rfl rfl rfl x_AskError rfl yV.nd rfl rfl rfl (fun ps=>(zg (zz (i:=3) yV.nd rfl (Or.inl rfl) (jK qc0 (Wf rfl) hr rfl (za (pv 0) (za (pv 1) (za (pv 2) zb))))))) (fun e=>(ze (zz (i:=5) yV.nd rfl (Or.inl rfl) (yM (za (zj (xf (K:=K) rfl) rfl B.isinstance zt (za (pv 4) (za (xq rfl v_NoNumber (show RelV (.ref A_NoNumber) (.ref A_NoNumber) from rfl)) zb))) (za (zj (xf (K:=K) rfl) rfl B.isinstance zt (za (pv 4) (za (xq rfl v_NoBoard (show RelV (.ref A_NoBoard) (.ref A_NoBoard) from rfl)) zb))) (za (zj (xf (K:=K) rfl) rfl B.isinstance zt (za (pv 4) (za (xq rfl v_NoAsk (show RelV (.ref A_NoAsk) (.ref A_NoAsk) from rfl)) zb))) (za (zj (xf (K:=K) rfl) rfl B.isinstance zt (za (pv 4) (za (xq rfl v_TooMany (show RelV (.ref A_TooMany) (.ref A_TooMany) from rfl)) zb))) zb)))))) (zg (zz (i:=3) yV.nd rfl (Or.inl rfl) (yM (za (zj (xf (K:=K) rfl) rfl B.isinstance zt (za (pv 4) (za (xq rfl v_NoOrder (show RelV (.ref A_NoOrder) (.ref A_NoOrder) from rfl)) zb))) (za (zj (Xk (K:=K) rfl (Ua _ _)) rfl g_any Z1 (za (zA ZY (pv 5) (yM (za (zj (xf (K:=K) rfl) rfl B.isinstance zt (za (pv 4) (za (xq rfl v_NoCalls (show RelV (.ref A_NoCalls) (.ref A_NoCalls) from rfl)) zb))) (za (ji (zj (xf (K:=K) rfl) rfl B.isinstance zt (za (pv 4) (za (yU rfl g_ValueError rO) zb)))) zb)))) zb)) zb)))))))) (zg (zq (pv 3)))),?_⟩
 refine ⟨?_,fun e C' σ' H' hl' hn hE=>?_⟩
 ·exact ⟨_,rfl,_,rfl,_,rfl,_,_,_,rfl,b,cs,d,m,hb,b1,b16,hc,ok,hd,hl,fun os eo ho v H' g so hv=>⟨_,rfl,q1 os eo ho v H' g so hv⟩,fun hR e H' g=>⟨rfl,hR,g⟩⟩
 obtain ⟨hC,hno,g⟩:=hE
 obtain ⟨s0,s1,s2,s3,s4,s5,rfl⟩:∃ a b c d e f,σ' = [a,b,c,d,e,f]:=by
  match σ',hl' with
  | [a,b,c,d,e,f],_=>exact ⟨a,b,c,d,e,f,rfl⟩
 obtain rfl:A_NoOrder = C':=(Option.some.inj hC).symm
 refine ⟨u_NoOrder,?_⟩
 have gn:=Grow.new (m:=[]) hn (ExO e A_NoOrder)
 have he0:=zd (H:=H') (a:=e) (o:=ExO e A_NoOrder)
 refine ⟨_,rfl,e,_,_,_,_,rfl,he0,(fun _ r=>r),k_NoOrder,q_NoOrder_NoNumber,_,rfl,e,_,_,_,_,rfl,he0,(fun _ r=>r),k_NoOrder,q_NoOrder_NoBoard,_,rfl,e,_,_,_,_,rfl,he0,(fun _ r=>r),k_NoOrder,q_NoOrder_NoAsk,_,rfl,e,_,_,_,_,rfl,he0,(fun _ r=>r),k_NoOrder,q_NoOrder_TooMany,szl rfl,fun l1 hl1=>?_⟩
 have g1:=Grow.new (m:=[]) hl1 (.lst [.bl false,.bl false,.bl false,.bl false])
 have he1:=g1.keep e _ (by simp) he0
 refine ⟨_,rfl,e,_,_,_,_,rfl,he1,(fun _ r=>r),k_NoOrder,q_NoOrder_NoOrder,_,rfl,_,rfl,e,_,_,_,_,rfl,he1,(fun _ r=>r),k_NoOrder,q_NoOrder_NoCalls,_,rfl,e,_,_,_,_,rfl,he1,(fun _ r=>r),k_NoOrder,q_NoOrder_ValueError,true,rfl,szl rfl,fun l2 hl2=>?_⟩
 have g2:=Grow.new (m:=[]) hl2 (.lst [.bl false,.bl false])
 refine ⟨l1,l2,_,_,rfl,rfl,g2.keep l1 _ (by simp) zd,zd,szl rfl,fun l3 hl3=>?_⟩
 have g3:=Grow.new (m:=[]) hl3 (.lst [.bl false,.bl false,.bl false,.bl false,.bl false,.bl false])
 have he3:=g3.keep e _ (by simp) (g2.keep e _ (by simp) he1)
 refine ⟨l3,[false,false,false,false,false,false],_,rfl,he3,SqL.of zd,szl rfl,fun l4 hl4=>?_⟩
 have g4:=Grow.new (m:=[]) hl4 (.lst [.bl true,.bl false])
 exact ⟨_,rfl,q2 hno l4 _ (g.trans (gn.trans (g1.trans (g2.trans (g3.trans g4))))) zd⟩
theorem wr:FnScope ["_law_board","_law_calls","_law_rows_here","_law_shown","_law_found"] ["_law_board","_law_calls","_law_rows_here"] (zi (top 58)):=⟨rfl,rfl,rfl,by decide +kernel,rfl,by decide +kernel,by decide +kernel⟩
theorem qh (F:Fun K "_law_told" "_law_told" (top 58) f fd) (B:Blt mg) (qc0:zk P w K mg base n "_law_fits" ["_law_board","_law_calls","_law_thing"] (rp K)) (qc1:zk P w K mg base n "_law_are_right" ["_law_board","_law_calls","_law_rows_here"] (uT K)) (qc2:zk P w K mg base n "_law_word" ["_law_board","_law_calls","_law_rows_here"] (rY K))  (g_enumerate:mg "enumerate" = none)   :
  FnOk P w K mg base CX0 (n + 1) f fd ["_law_board","_law_calls","_law_rows_here"] (r6 K):=by
 refine F.ok wr xI (fun cdv A outer s H vs Q E hr h=>?_)
 obtain ⟨x,y,z,rfl,b,cs,d,m,hb,b1,b16,bb,hc,ok,bd,hd,hl,gd,q⟩:=h
 refine ⟨_,(ze (zz (i:=3) wr.nd rfl (Or.inl rfl) (zj (tK (K:=K) rfl hr) rfl B.repr Wu (za (zY (za (pv 0) (za (pv 1) (za (pv 2) zb)))) zb))) (ze (zz (i:=4) wr.nd rfl (Or.inr rfl) (zf qc2 hr rfl (za (pv 0) (za (pv 1) (za (pv 2) zb))))) (ze (zV (PW.pt (vv (zD t8 (zj (tK (K:=K) rfl hr) rfl B.repr Wu (za (zY (za (pv 0) (za (pv 1) (za (pv 2) zb)))) zb)) (pv 3) (zB _)) (xR (zD (VU (K:=K) rfl hr) (zf qc2 hr rfl (za (pv 0) (za (pv 1) (za (pv 2) zb)))) (pv 4) (zB _))))) (zg (zq yy)) zy) (ze (zV (yp (zR (zf qc1 hr rfl (za (pv 0) (za (pv 1) (za (pv 2) zb)))))) (zg (zq (yz (Wz (K:=K) rfl hr) (pv 4) (yM (za yy (za yy zb))) (zB _)))) zy) (ze (zV (yp (zR (zf qc0 hr rfl (za (pv 0) (za (pv 1) (za (pv 4) zb)))))) (zg (zq yy)) zy) (zg (zq (zj (xz rfl) rfl B.all j3 (za (XV (CScC.of (N':=["_law_box","_law_row_here","_law_found","_law_calls"]) (sub:=[none,none,some 4,some 1]) (zi (top 58)) ["_law_board","_law_calls","_law_rows_here","_law_shown","_law_found"] rfl rfl (by decide +kernel) (by decide +kernel) rfl) rfl (xk true (K:=K) rfl rfl g_enumerate (za (pv 2) zb)) (fun _ _ _ _ _ _=>uu (K:=K) 2 rfl rfl (zn (zm (i:=0) (show (["_law_box","_law_row_here","_law_found","_law_calls"]:List Str).Nodup by decide +kernel) rfl (Or.inr rfl) (Or.inl rfl)) (zn (zm (i:=1) (show (["_law_box","_law_row_here","_law_found","_law_calls"]:List Str).Nodup by decide +kernel) rfl (Or.inl rfl) (Or.inr rfl)) yk)) rfl rfl) (fun _ _ _ _ _ _=>zM) (fun _ _ _ _ _ _=>(yz (Wz (K:=K) rfl hr) (zJ (qv (K:=K) rfl) rfl B.tuple z9 (za (zN (CSc.nestO (N2:=["_law_k","_law_calls","_law_box"]) (sub2:=[none,some 3,some 0]) (CScC.of (N':=["_law_box","_law_row_here","_law_found","_law_calls"]) (sub:=[none,none,some 4,some 1]) (zi (top 58)) ["_law_board","_law_calls","_law_rows_here","_law_shown","_law_found"] rfl rfl (by decide +kernel) (by decide +kernel) rfl) rfl (by decide +kernel) rfl) rfl (W1 (K:=K) rfl (pv 2)) (fun _ _ _ _ _ _=>zm (i:=0) (show (["_law_k","_law_calls","_law_box"]:List Str).Nodup by decide +kernel) rfl (Or.inl rfl)) (fun _ _ _ _ _ _=>(ua (zD vw (zE (yN (K:=K) rfl) (zE (yN (K:=K) rfl) (pv 1) (pv 0) (fun _ _=>rfl)) zh (fun _ _=>rfl)) (pv 2) (zB _)))) (fun _ _ _ _ _ _=>(pv 0))) zb)) (pv 1) (zB _)))) zb))))))))),?_⟩
 obtain ⟨s1,s2,s3⟩:=Vm b16 bb ok.len bd gd
 have OD:∀ (H':Hp) (t:Addr),Grow [] H H' -> SqT K H' t [x,y,z] -> Od K m H' (.ref t) (wJ b cs d):=fun H' t g ht=>.tup ht (.cons (Zg (g.board hb)) (.cons (Zh (g.calls72 hc)) (.cons (hd.grow (g.wk (m:=m))) .nil)))
 refine ya (fun v H'=>v = .str (wJ b cs d).shown /\ Grow [] H H') (fun Kk hk=>⟨_,rfl,_,rfl,_,rfl,szl rfl,fun t ht=>⟨_,wJ b cs d,m,rfl,OD _ t (Grow.new ht _) (SqT.of zd),s1,s2,s3,hk _ _ ⟨rfl,Grow.new ht _⟩⟩⟩) ?_
 rintro _ H1 ⟨rfl,g1⟩
 by_cases hR:xu b cs d
 ·obtain ⟨os,rfl,ho⟩:=id hR
  refine ya (fun v H'=>wn cs /\ yO K H' v (yt cs (xE cs) os) /\ Grow [] H1 H') (fun Kk hk=>⟨_,rfl,_,rfl,_,rfl,_,_,_,rfl,b,cs,_,m,g1.board hb,b1,b16,g1.calls72 hc,ok,hd.grow (g1.wk (m:=m)),hl,fun os' eo ho' v H' g so hv=>?_,fun hn=>absurd hR hn⟩) ?_
  ·have:os' = os:=tZ eo.symm
   subst this
   exact hk _ _ ⟨so,hv,g⟩
  rintro vf H2 ⟨so,hv,g2⟩
  have G2:=g1.trans g2
  obtain ⟨fit,own⟩:=qY ok so ho
  have dpt:PyData.depth (.tuple ((yt cs (xE cs) os).map fun k:Nat=>PyData.int (k:Int))) <= 100:=Ub _
  generalize hmo:yt cs (xE cs) os = mo at hv fit own dpt
  obtain ⟨rf,rfl,hrf⟩:=id hv
  have ml:mo.length <= 40:=by rw [fit.1.length_eq,List.length_range]; exact ok.len
  have mlt:∀ k ∈ mo,k < cs.length:=fun k hk=>List.mem_range.mp (fit.1.mem_iff.mp hk)
  refine yA (fun c H'=>c = false /\ Grow [] H2 H') (fun Kk hk=>⟨_,rfl,_,rfl,_,rfl,szl rfl,fun t ht=>⟨_,wJ b cs _,m,rfl,OD _ t (G2.trans (Grow.new ht _)) (SqT.of zd),s1,s2,s3,_,rfl,rfl,_,rfl,yZ (by simp) ?_⟩⟩) ?_
  ·have gt:=Grow.new (m:=[]) ht (.tup [x,y,z])
   have G3:=G2.trans gt
   refine ⟨_,rfl,_,rfl,_,rfl,_,_,_,rfl,b,cs,_,m,G3.board hb,b1,b16,G3.calls72 hc,ok,hd.grow (G3.wk (m:=m)),hl,fun os' eo ho' v H' g so' hv'=>?_,fun hn=>absurd hR hn⟩
   have:os' = os:=tZ eo.symm
   subst this
   rw [hmo] at hv'
   obtain ⟨r',rfl,hr'⟩:=hv'
   exact ⟨_,rfl,_,.tup hr' (xG mo),.tup ((gt.trans g).sqT hrf) (xG mo),⟨_,rfl⟩,dpt,_,rfl,hk _ _ ⟨rfl,gt.trans g⟩⟩
  rintro _ H3 ⟨rfl,g3⟩
  refine iteF (yh ?_)
  have G3:=G2.trans g3
  refine yA (fun c H'=>c = false /\ Grow [] H3 H') (fun Kk hk=>⟨_,rfl,_,rfl,_,rfl,_,_,_,rfl,b,cs,_,m,G3.board hb,b16,G3.calls72 hc,ok,hd.grow (G3.wk (m:=m)),hl,fun t H' ht g=>⟨_,rfl,hk _ _ ⟨?_,g⟩⟩⟩) ?_
  ·rw [ht.mpr hR]; rfl
  rintro _ H4 ⟨rfl,g4⟩
  refine iteF (yh ?_)
  have G4:=G3.trans g4
  have hrf4:=(g3.trans g4).sqT hrf
  refine yA (fun c H'=>c = false /\ Grow [] H4 H') (fun Kk hk=>⟨_,rfl,_,rfl,_,rfl,_,_,_,rfl,b,cs,_,[],G4.board hb,b1,b16,G4.calls72 hc,uC hrf4,ok,rD (by omega),fun t H' g ht=>⟨_,rfl,hk _ _ ⟨?_,g⟩⟩⟩) ?_
  ·rw [ht.mpr (rS.mpr fit)]; rfl
  rintro _ H5 ⟨rfl,g5⟩
  refine iteF (yh ?_)
  have G5:=G4.trans g5
  have hrf5:=g5.sqT hrf4
  obtain ⟨rz,vs,rfl,hvs,ods⟩:=hd.inv_tup
  have hn:AllR (yO K H) vs os:=wU ods
  have vl:=hn.len
  obtain ⟨rc,xs,rfl,hrc,hall⟩:=id hc
  have h64:=(hl _ rfl).1
  rw [List.length_map] at h64
  refine ⟨_,rfl,rz,_,rfl,G5.sqT hvs,xA (c:=true) (xs:=vs) (fun j ys σ' H'=>(∃ e0 e1:Option V,σ' = [e0,e1,some (.ref rf),some (.ref rc)]) /\ Grow [] H5 H' /\ ys = (List.replicate j true).map V.bl) ⟨⟨_,_,rfl⟩,Grow.refl _ _,rfl⟩ (fun j ys σ' H' z=>((G5.trans z.2.1).sqT hvs:SqT K H' rz vs)) ?_ ?_⟩
  ·rintro j v ys σ' H6 T6 hv6 ⟨⟨e0,e1,rfl⟩,g6,rfl⟩ hT6
   obtain ⟨o,hoj,r,rfl,hr⟩:=hn.get hv6
   have hj:j < os.length:=(List.getElem?_eq_some_iff.mp hoj).1
   have eo:os.getD j [] = o:=by rw [List.getD_eq_getElem?_getD,hoj]; rfl
   have fo:=own j (by rw [← ho.1]; exact hj)
   rw [eo] at fo
   have gT:=Grow.new (m:=[]) hT6 (.tup [.int j,.ref r])
   have hTT:=zd (H:=H6) (a:=T6) (o:=.tup [.int j,.ref r])
   have g7:=g6.trans gT
   generalize upd H6 T6 _ = H7 at gT hTT g7 ⊢
   have G7:=G5.trans g7
   refine ⟨T6,_,rfl,SqT.of hTT,rfl,_,_,rfl,_,_,rfl,rfl,?_⟩
   refine ⟨_,rfl,rf,rfl,⟨_,g7.sqT hrf5⟩,sf (xs:=zp mo) (fun i zs σ2 H'=>(∃ e0:Option V,σ2 = [e0,some (.ref rc),some (.int (j:Int))]) /\ H' = H7 /\ zs = zp ((mo.take i).filter (yL cs j))) ⟨⟨_,rfl⟩,rfl,rfl⟩ (fun i zs σ2 H' _ z=>by rw [z.2.1]; exact g7.sqT hrf5) ?_ ?_⟩
   ·rintro i v zs σ2 H8 hv8 ⟨⟨e2,rfl⟩,rfl,rfl⟩
    obtain ⟨k,hki,rfl⟩:=yj hv8
    have hk':=mlt k (List.mem_of_getElem? hki)
    obtain ⟨z,hz,rzz,rd,rfl,sz,sd⟩:=hall.getR (List.getElem?_eq_getElem hk')
    have ec:cg cs k = cs[k]:=yB (List.getElem?_eq_getElem hk')
    rw [← ec] at sz
    have sm:(zp ((mo.take i).filter (yL cs j))).length < sizeLine:=by
     rw [zw]
     have:=List.length_filter_le (yL cs j) (mo.take i)
     rw [List.length_take] at this
     exact lt72 (by omega)
    refine ⟨_,rfl,_,rfl,rc,_,_,.ref rzz,rfl,rfl,G7.sqT hrc,zr hz,rzz,_,1,.int (cg cs k).box,rfl,rfl,G7.sqT sz,zr (j:=1) rfl,_,rfl,rfl,_,rfl,?_⟩
    by_cases cb:(cg cs k).box = (j:Int)
    ·refine yX (decide_eq_true (congrArg V.int cb)) ⟨_,rfl,sm,⟨_,rfl⟩,rfl,?_⟩
     rw [List.take_succ,hki,List.filter_append,xB]
     simp [cb,zp]
    ·refine yZ (decide_eq_false fun z=>cb (V.int.inj z)) ⟨⟨_,rfl⟩,rfl,?_⟩
     rw [List.take_succ,hki,List.filter_append]
     simp [cb]
   ·rintro zs σ2 H8 ⟨_,rfl,rfl⟩ l hl8
    rw [zw,List.take_length,fo]
    refine ⟨l,_,rfl,.inl ⟨SqL.of zd,fun t ht=>?_⟩⟩
    have gg:=(Grow.new (m:=[]) hl8 (.lst (zp o))).trans (Grow.new ht (.tup (zp o)))
    exact ⟨_,rfl,_,.tup (SqT.of zd) (xG o),.tup ((G7.trans gg).sqT hr) (xG o),⟨_,rfl⟩,Ub _,lt72 (by rw [List.length_map,List.length_replicate]; omega),⟨_,_,rfl⟩,g7.trans gg,by rw [List.replicate_succ',List.map_append]; rfl⟩
  ·rintro ys σ' H6 ⟨_,g6,rfl⟩ l hl6
   refine ⟨l,_,rfl,SqL.of zd,?_⟩
   rw [Zy]
   exact q _ (G5.trans (g6.trans (Grow.new hl6 _)))
 ·refine ya (fun v H'=>∃ l,v = .ref l /\ H' l = some (.lst [.bl true,.bl false]) /\ Grow [] H1 H') (fun Kk hk=>⟨_,rfl,_,rfl,_,rfl,_,_,_,rfl,b,cs,d,m,g1.board hb,b1,b16,g1.calls72 hc,ok,hd.grow (g1.wk (m:=m)),hl,fun os' eo ho'=>absurd ⟨os',eo,ho'⟩ hR,fun _ l H' g h=>hk _ _ ⟨l,rfl,h,g⟩⟩) ?_
  rintro _ H2 ⟨l,rfl,hl2,g2⟩
  have G2:=g1.trans g2
  have tf:∀ {H':Hp} {l:Addr},H' l = some (.lst [.bl true,.bl false]) -> Dq K H' (.ref l) (.list [.bool true,.bool false]):=fun h=>.lst (SqL.of h) (.cons (.bl _) (.cons (.bl _) .nil))
  refine yA (fun c H'=>c = false /\ Grow [] H2 H') (fun Kk hk=>⟨_,rfl,_,rfl,_,rfl,szl rfl,fun t ht=>⟨_,wJ b cs d,m,rfl,OD _ t (G2.trans (Grow.new ht _)) (SqT.of zd),s1,s2,s3,_,rfl,rfl,_,rfl,yZ (by simp) ?_⟩⟩) ?_
  ·have gt:=Grow.new (m:=[]) ht (.tup [x,y,z])
   have G3:=G2.trans gt
   exact ⟨_,rfl,_,rfl,_,rfl,_,_,_,rfl,b,cs,d,m,G3.board hb,b1,b16,G3.calls72 hc,ok,hd.grow (G3.wk (m:=m)),hl,fun os' eo ho'=>absurd ⟨os',eo,ho'⟩ hR,fun _ l2 H' g h=>⟨_,rfl,_,tf h,tf ((gt.trans g).keep _ _ (by simp) hl2),⟨_,rfl⟩,by decide,_,rfl,hk _ _ ⟨rfl,gt.trans g⟩⟩⟩
  rintro _ H3 ⟨rfl,g3⟩
  refine iteF (yh ?_)
  have G3:=G2.trans g3
  refine yA (fun c H'=>c = true /\ Grow [] H3 H') (fun Kk hk=>⟨_,rfl,_,rfl,_,rfl,_,_,_,rfl,b,cs,d,m,G3.board hb,b16,G3.calls72 hc,ok,hd.grow (G3.wk (m:=m)),hl,fun t H' ht g=>⟨_,rfl,hk _ _ ⟨?_,g⟩⟩⟩) ?_
  ·cases t with
   | false=>rfl
   | true=>exact absurd (ht.mp rfl) hR
  rintro _ H4 ⟨rfl,g4⟩
  refine iteT ⟨_,rfl,szl rfl,fun l2 hl22=>?_⟩
  have gn:=Grow.new (m:=[]) hl22 (.lst [.bl true,.bl false])
  exact ⟨_,tf (gn.keep _ _ (by simp) ((g3.trans g4).keep _ _ (by simp) hl2)),tf zd,⟨_,rfl⟩,by decide,q _ (G3.trans (g4.trans gn))⟩
theorem vX:FnScope ["_law_pot_here","_law_many","_law_digit"] ["_law_pot_here","_law_many"] (zi (top 39)):=⟨rfl,rfl,rfl,by decide +kernel,rfl,by decide +kernel,by decide +kernel⟩
theorem qi (F:Fun K "_law_take" "_law_take" (top 39) f fd) (B:Blt mg)      :
  FnOk P w K mg base CX0 (n + 1) f fd ["_law_pot_here","_law_many"] (xJ K):=by
 refine F.ok vX zW (fun cdv A outer s H vs Q E hr h=>?_)
 obtain ⟨x,y,rfl,a,m,rfl,rfl,⟨p0,p1,hp,h0⟩,hm,hm2,q⟩:=h
 refine ⟨_,(ze (zV (zD Xz (zE zQ (pv 0) zh (fun _ _=>rfl)) zh (zB _)) (ze (zz (i:=2) vX.nd rfl (Or.inl rfl) (zA ui (zE zQ (pv 0) zh (fun _ _=>rfl)) (pv 1))) (ze (xj (zA ju (zE zQ (pv 0) zh (fun _ _=>rfl)) (pv 1)) (u9 (pv 0) zh wv)) (zg (zq (pv 2))))) zy) (ze (xj (zA ui (zA yg (zA y9 (zE zQ (pv 0) zh (fun _ _=>rfl)) zh) zh) zh) (u9 (pv 0) zh wv)) (zg (zq (zA ui (zA ju (zA ui (zA y9 (zE zQ (pv 0) zh (fun _ _=>rfl)) (zE zQ (pv 0) zh (fun _ _=>rfl))) zh) zh) (pv 1)))))),?_⟩
 refine ⟨_,rfl,a,_,_,_,rfl,rfl,SqL.of hp,rfl,_,_,rfl,rfl,_,rfl,?_⟩
 refine ite2 (fun c=>?_) (fun c=>?_)
 ·refine ⟨_,rfl,a,_,_,_,rfl,rfl,SqL.of hp,rfl,_,rfl,p0,m,rfl,rfl,hm,?_⟩
  refine ⟨_,rfl,a,_,_,_,rfl,rfl,SqL.of hp,rfl,_,rfl,p0,m,rfl,rfl,⟨hm,hm2⟩,_,rfl,a,_,0,0,rfl,rfl,hp,rfl,?_⟩
  exact ⟨_,rfl,q _ _ (Int.emod_nonneg _ (by omega)) (Int.emod_lt_of_pos _ hm) (Grow.set hp (by simp) _) ⟨p0 / m,p1,zd,Int.ediv_nonneg h0 (by omega)⟩⟩
 ·refine ⟨_,rfl,a,_,_,_,rfl,rfl,SqL.of hp,rfl,p1,48271,rfl,rfl,Z6 ⟨by decide,by decide⟩,_,_,rfl,rfl,_,_,rfl,rfl,(by show (0:Int) < 2147483647; decide),_,rfl,a,_,1,1,rfl,rfl,hp,rfl,?_⟩
  have b0:0 <= (p1 * 48271 + 12345) % 2147483647:=Int.emod_nonneg _ (by decide)
  have b1:(p1 * 48271 + 12345) % 2147483647 < 2147483647:=Int.emod_lt_of_pos _ (by decide)
  refine ⟨_,rfl,a,_,_,_,rfl,rfl,SqL.of zd,rfl,_,rfl,a,_,_,_,rfl,rfl,SqL.of zd,rfl,(p1 * 48271 + 12345) % 2147483647,(p1 * 48271 + 12345) % 2147483647,rfl,rfl,Z6 ⟨by omega,by omega⟩,_,_,rfl,rfl,(by show (0:Int) < 2147483629; decide),_,_,rfl,rfl,⟨by decide,by decide⟩,_,rfl,_,_,rfl,rfl,hm,?_⟩
  exact q _ _ (Int.emod_nonneg _ (by omega)) (Int.emod_lt_of_pos _ hm) (Grow.set hp (by simp) _) ⟨p0,(p1 * 48271 + 12345) % 2147483647,zd,h0⟩
theorem zL:FnScope ["_law_pot_here","_law_rows_here","_law_at_here","_law_row_here","_law_i","_law_j","_law_choice","_law_turned","_law_some","_law_whole"] ["_law_pot_here","_law_rows_here"] (zi (top 56)):=⟨rfl,rfl,rfl,by decide +kernel,rfl,by decide +kernel,by decide +kernel⟩
theorem sL (F:Fun K "_law_other" "_law_other" (top 56) f fd) (B:Blt mg) (qc0:zk P w K mg base n "_law_take" ["_law_pot_here","_law_many"] (xJ K))     :
  FnOk P w K mg base CX0 (n + 1) f fd ["_law_pot_here","_law_rows_here"] (t4 K):=by
 refine F.ok zL zW (fun cdv A outer s H vs Q E hr h=>?_)
 obtain ⟨x,y,rfl,p,ro,vs,os,rfl,rfl,pp,R,q⟩:=h
 refine ⟨_,(@ze _ _ _ _ _ (@zz _ _ 2 _ _ _ _ zL.nd rfl (Or.inl rfl) (@zf _ _ _ _ _ _ _ _ _ _ qc0 hr rfl (@za _ _ _ _ _ (pv 0) (@za _ _ _ _ _ (@zj _ _ _ _ _ _ _ _ _ zu rfl B.len xh (@za _ _ _ _ _ (pv 1) zb (by first | rfl | decide | exact Or.inl rfl | exact Or.inr rfl | exact Or.inr (Or.inl rfl) | exact Or.inr (Or.inr rfl) | exact fun _=>rfl | exact Nat.le_of_ble_eq_true rfl)) (by first | rfl | decide | exact Or.inl rfl | exact Or.inr rfl | exact Or.inr (Or.inl rfl) | exact Or.inr (Or.inr rfl) | exact fun _=>rfl | exact Nat.le_of_ble_eq_true rfl) (by first | rfl | decide | exact Or.inl rfl | exact Or.inr rfl | exact Or.inr (Or.inl rfl) | exact Or.inr (Or.inr rfl) | exact fun _=>rfl | exact Nat.le_of_ble_eq_true rfl) (by first | rfl | decide | exact Or.inl rfl | exact Or.inr rfl | exact Or.inr (Or.inl rfl) | exact Or.inr (Or.inr rfl) | exact fun _=>rfl | exact Nat.le_of_ble_eq_true rfl) (by first | rfl | decide | exact Or.inl rfl | exact Or.inr rfl | exact Or.inr (Or.inl rfl) | exact Or.inr (Or.inr rfl) | exact fun _=>rfl | exact Nat.le_of_ble_eq_true rfl)) zb (by first | rfl | decide | exact Or.inl rfl | exact Or.inr rfl | exact Or.inr (Or.inl rfl) | exact Or.inr (Or.inr rfl) | exact fun _=>rfl | exact Nat.le_of_ble_eq_true rfl)) (by first | rfl | decide | exact Or.inl rfl | exact Or.inr rfl | exact Or.inr (Or.inl rfl) | exact Or.inr (Or.inr rfl) | exact fun _=>rfl | exact Nat.le_of_ble_eq_true rfl)) (by first | rfl | decide | exact Or.inl rfl | exact Or.inr rfl | exact Or.inr (Or.inl rfl) | exact Or.inr (Or.inr rfl) | exact fun _=>rfl | exact Nat.le_of_ble_eq_true rfl) (by first | rfl | decide | exact Or.inl rfl | exact Or.inr rfl | exact Or.inr (Or.inl rfl) | exact Or.inr (Or.inr rfl) | exact fun _=>rfl | exact Nat.le_of_ble_eq_true rfl) (by first | rfl | decide | exact Or.inl rfl | exact Or.inr rfl | exact Or.inr (Or.inl rfl) | exact Or.inr (Or.inr rfl) | exact fun _=>rfl | exact Nat.le_of_ble_eq_true rfl)) (by first | rfl | decide | exact Or.inl rfl | exact Or.inr rfl | exact Or.inr (Or.inl rfl) | exact Or.inr (Or.inr rfl) | exact fun _=>rfl | exact Nat.le_of_ble_eq_true rfl) (by first | rfl | decide | exact Or.inl rfl | exact Or.inr rfl | exact Or.inr (Or.inl rfl) | exact Or.inr (Or.inr rfl) | exact fun _=>rfl | exact Nat.le_of_ble_eq_true rfl)) (@ze _ _ _ _ _ (@zz _ _ 3 _ _ _ _ zL.nd rfl (Or.inl rfl) (@zE _ _ _ _ _ _ _ z7 (pv 1) (pv 2) (fun _ _=>rfl)) (by first | rfl | decide | exact Or.inl rfl | exact Or.inr rfl | exact Or.inr (Or.inl rfl) | exact Or.inr (Or.inr rfl) | exact fun _=>rfl | exact Nat.le_of_ble_eq_true rfl) (by first | rfl | decide | exact Or.inl rfl | exact Or.inr rfl | exact Or.inr (Or.inl rfl) | exact Or.inr (Or.inr rfl) | exact fun _=>rfl | exact Nat.le_of_ble_eq_true rfl)) (@ze _ _ _ _ _ (@Vy _ _ 4 5 _ _ _ _ _ _ _ _ _ _ _ rfl zL.nd rfl rfl (by decide) rfl rfl (@za _ _ _ _ _ (@zf _ _ _ _ _ _ _ _ _ _ qc0 hr rfl (@za _ _ _ _ _ (pv 0) (@za _ _ _ _ _ (@zA _ _ _ _ _ _ _ _ yg (@zj _ _ _ _ _ _ _ _ _ zu rfl B.len xh (@za _ _ _ _ _ (pv 3) zb (by first | rfl | decide | exact Or.inl rfl | exact Or.inr rfl | exact Or.inr (Or.inl rfl) | exact Or.inr (Or.inr rfl) | exact fun _=>rfl | exact Nat.le_of_ble_eq_true rfl)) (by first | rfl | decide | exact Or.inl rfl | exact Or.inr rfl | exact Or.inr (Or.inl rfl) | exact Or.inr (Or.inr rfl) | exact fun _=>rfl | exact Nat.le_of_ble_eq_true rfl) (by first | rfl | decide | exact Or.inl rfl | exact Or.inr rfl | exact Or.inr (Or.inl rfl) | exact Or.inr (Or.inr rfl) | exact fun _=>rfl | exact Nat.le_of_ble_eq_true rfl) (by first | rfl | decide | exact Or.inl rfl | exact Or.inr rfl | exact Or.inr (Or.inl rfl) | exact Or.inr (Or.inr rfl) | exact fun _=>rfl | exact Nat.le_of_ble_eq_true rfl) (by first | rfl | decide | exact Or.inl rfl | exact Or.inr rfl | exact Or.inr (Or.inl rfl) | exact Or.inr (Or.inr rfl) | exact fun _=>rfl | exact Nat.le_of_ble_eq_true rfl)) zh) zb (by first | rfl | decide | exact Or.inl rfl | exact Or.inr rfl | exact Or.inr (Or.inl rfl) | exact Or.inr (Or.inr rfl) | exact fun _=>rfl | exact Nat.le_of_ble_eq_true rfl)) (by first | rfl | decide | exact Or.inl rfl | exact Or.inr rfl | exact Or.inr (Or.inl rfl) | exact Or.inr (Or.inr rfl) | exact fun _=>rfl | exact Nat.le_of_ble_eq_true rfl)) (by first | rfl | decide | exact Or.inl rfl | exact Or.inr rfl | exact Or.inr (Or.inl rfl) | exact Or.inr (Or.inr rfl) | exact fun _=>rfl | exact Nat.le_of_ble_eq_true rfl) (by first | rfl | decide | exact Or.inl rfl | exact Or.inr rfl | exact Or.inr (Or.inl rfl) | exact Or.inr (Or.inr rfl) | exact fun _=>rfl | exact Nat.le_of_ble_eq_true rfl) (by first | rfl | decide | exact Or.inl rfl | exact Or.inr rfl | exact Or.inr (Or.inl rfl) | exact Or.inr (Or.inr rfl) | exact fun _=>rfl | exact Nat.le_of_ble_eq_true rfl)) (@za _ _ _ _ _ (@zf _ _ _ _ _ _ _ _ _ _ qc0 hr rfl (@za _ _ _ _ _ (pv 0) (@za _ _ _ _ _ (@zA _ _ _ _ _ _ _ _ yg (@zj _ _ _ _ _ _ _ _ _ zu rfl B.len xh (@za _ _ _ _ _ (pv 3) zb (by first | rfl | decide | exact Or.inl rfl | exact Or.inr rfl | exact Or.inr (Or.inl rfl) | exact Or.inr (Or.inr rfl) | exact fun _=>rfl | exact Nat.le_of_ble_eq_true rfl)) (by first | rfl | decide | exact Or.inl rfl | exact Or.inr rfl | exact Or.inr (Or.inl rfl) | exact Or.inr (Or.inr rfl) | exact fun _=>rfl | exact Nat.le_of_ble_eq_true rfl) (by first | rfl | decide | exact Or.inl rfl | exact Or.inr rfl | exact Or.inr (Or.inl rfl) | exact Or.inr (Or.inr rfl) | exact fun _=>rfl | exact Nat.le_of_ble_eq_true rfl) (by first | rfl | decide | exact Or.inl rfl | exact Or.inr rfl | exact Or.inr (Or.inl rfl) | exact Or.inr (Or.inr rfl) | exact fun _=>rfl | exact Nat.le_of_ble_eq_true rfl) (by first | rfl | decide | exact Or.inl rfl | exact Or.inr rfl | exact Or.inr (Or.inl rfl) | exact Or.inr (Or.inr rfl) | exact fun _=>rfl | exact Nat.le_of_ble_eq_true rfl)) zh) zb (by first | rfl | decide | exact Or.inl rfl | exact Or.inr rfl | exact Or.inr (Or.inl rfl) | exact Or.inr (Or.inr rfl) | exact fun _=>rfl | exact Nat.le_of_ble_eq_true rfl)) (by first | rfl | decide | exact Or.inl rfl | exact Or.inr rfl | exact Or.inr (Or.inl rfl) | exact Or.inr (Or.inr rfl) | exact fun _=>rfl | exact Nat.le_of_ble_eq_true rfl)) (by first | rfl | decide | exact Or.inl rfl | exact Or.inr rfl | exact Or.inr (Or.inl rfl) | exact Or.inr (Or.inr rfl) | exact fun _=>rfl | exact Nat.le_of_ble_eq_true rfl) (by first | rfl | decide | exact Or.inl rfl | exact Or.inr rfl | exact Or.inr (Or.inl rfl) | exact Or.inr (Or.inr rfl) | exact fun _=>rfl | exact Nat.le_of_ble_eq_true rfl) (by first | rfl | decide | exact Or.inl rfl | exact Or.inr rfl | exact Or.inr (Or.inl rfl) | exact Or.inr (Or.inr rfl) | exact fun _=>rfl | exact Nat.le_of_ble_eq_true rfl)) zb (by first | rfl | decide | exact Or.inl rfl | exact Or.inr rfl | exact Or.inr (Or.inl rfl) | exact Or.inr (Or.inr rfl) | exact fun _=>rfl | exact Nat.le_of_ble_eq_true rfl)) (by first | rfl | decide | exact Or.inl rfl | exact Or.inr rfl | exact Or.inr (Or.inl rfl) | exact Or.inr (Or.inr rfl) | exact fun _=>rfl | exact Nat.le_of_ble_eq_true rfl)) rfl (by first | rfl | decide | exact Or.inl rfl | exact Or.inr rfl | exact Or.inr (Or.inl rfl) | exact Or.inr (Or.inr rfl) | exact fun _=>rfl | exact Nat.le_of_ble_eq_true rfl)) (@ze _ _ _ _ _ (@zz _ _ 6 _ _ _ _ zL.nd rfl (Or.inl rfl) (@zf _ _ _ _ _ _ _ _ _ _ qc0 hr rfl (@za _ _ _ _ _ (pv 0) (@za _ _ _ _ _ zh zb (by first | rfl | decide | exact Or.inl rfl | exact Or.inr rfl | exact Or.inr (Or.inl rfl) | exact Or.inr (Or.inr rfl) | exact fun _=>rfl | exact Nat.le_of_ble_eq_true rfl)) (by first | rfl | decide | exact Or.inl rfl | exact Or.inr rfl | exact Or.inr (Or.inl rfl) | exact Or.inr (Or.inr rfl) | exact fun _=>rfl | exact Nat.le_of_ble_eq_true rfl)) (by first | rfl | decide | exact Or.inl rfl | exact Or.inr rfl | exact Or.inr (Or.inl rfl) | exact Or.inr (Or.inr rfl) | exact fun _=>rfl | exact Nat.le_of_ble_eq_true rfl) (by first | rfl | decide | exact Or.inl rfl | exact Or.inr rfl | exact Or.inr (Or.inl rfl) | exact Or.inr (Or.inr rfl) | exact fun _=>rfl | exact Nat.le_of_ble_eq_true rfl) (by first | rfl | decide | exact Or.inl rfl | exact Or.inr rfl | exact Or.inr (Or.inl rfl) | exact Or.inr (Or.inr rfl) | exact fun _=>rfl | exact Nat.le_of_ble_eq_true rfl)) (by first | rfl | decide | exact Or.inl rfl | exact Or.inr rfl | exact Or.inr (Or.inl rfl) | exact Or.inr (Or.inr rfl) | exact fun _=>rfl | exact Nat.le_of_ble_eq_true rfl) (by first | rfl | decide | exact Or.inl rfl | exact Or.inr rfl | exact Or.inr (Or.inl rfl) | exact Or.inr (Or.inr rfl) | exact fun _=>rfl | exact Nat.le_of_ble_eq_true rfl)) (@ze _ _ _ _ _ (@zz _ _ 7 _ _ _ _ zL.nd rfl (Or.inl rfl) (@zA _ _ _ _ _ _ _ _ (yn (K:=K) rfl) (@zA _ _ _ _ _ _ _ _ (yn (K:=K) rfl) (@zG _ _ _ _ _ _ _ _ _ _ (z6 (K:=K) rfl) (pv 3) zP (@zK _ _ _ (pv 4))) (qC (K:=K) rfl (@zG _ _ _ _ _ _ _ _ _ _ (z6 (K:=K) rfl) (pv 3) (@zK _ _ _ (pv 4)) (@zK _ _ _ (@zA _ _ _ _ _ _ _ _ yg (pv 5) zh))))) (@zG _ _ _ _ _ _ _ _ _ _ (z6 (K:=K) rfl) (pv 3) (@zK _ _ _ (@zj _ _ _ _ _ _ _ _ _ (xZ rfl) rfl B.max jZ (@za _ _ _ _ _ (pv 4) (@za _ _ _ _ _ (@zA _ _ _ _ _ _ _ _ yg (pv 5) zh) zb (by first | rfl | decide | exact Or.inl rfl | exact Or.inr rfl | exact Or.inr (Or.inl rfl) | exact Or.inr (Or.inr rfl) | exact fun _=>rfl | exact Nat.le_of_ble_eq_true rfl)) (by first | rfl | decide | exact Or.inl rfl | exact Or.inr rfl | exact Or.inr (Or.inl rfl) | exact Or.inr (Or.inr rfl) | exact fun _=>rfl | exact Nat.le_of_ble_eq_true rfl)) (by first | rfl | decide | exact Or.inl rfl | exact Or.inr rfl | exact Or.inr (Or.inl rfl) | exact Or.inr (Or.inr rfl) | exact fun _=>rfl | exact Nat.le_of_ble_eq_true rfl) (by first | rfl | decide | exact Or.inl rfl | exact Or.inr rfl | exact Or.inr (Or.inl rfl) | exact Or.inr (Or.inr rfl) | exact fun _=>rfl | exact Nat.le_of_ble_eq_true rfl) (by first | rfl | decide | exact Or.inl rfl | exact Or.inr rfl | exact Or.inr (Or.inl rfl) | exact Or.inr (Or.inr rfl) | exact fun _=>rfl | exact Nat.le_of_ble_eq_true rfl) (by first | rfl | decide | exact Or.inl rfl | exact Or.inr rfl | exact Or.inr (Or.inl rfl) | exact Or.inr (Or.inr rfl) | exact fun _=>rfl | exact Nat.le_of_ble_eq_true rfl))) zP)) (by first | rfl | decide | exact Or.inl rfl | exact Or.inr rfl | exact Or.inr (Or.inl rfl) | exact Or.inr (Or.inr rfl) | exact fun _=>rfl | exact Nat.le_of_ble_eq_true rfl) (by first | rfl | decide | exact Or.inl rfl | exact Or.inr rfl | exact Or.inr (Or.inl rfl) | exact Or.inr (Or.inr rfl) | exact fun _=>rfl | exact Nat.le_of_ble_eq_true rfl)) (@ze _ _ _ _ _ (@zz _ _ 8 _ _ _ _ zL.nd rfl (Or.inl rfl) (@yM _ _ _ _ (@za _ _ _ _ _ (pv 7) (@za _ _ _ _ _ (@zA _ _ _ _ _ _ _ _ (yn (K:=K) rfl) (@zG _ _ _ _ _ _ _ _ _ _ (z6 (K:=K) rfl) (pv 3) zP (@zK _ _ _ (pv 4))) (@zG _ _ _ _ _ _ _ _ _ _ (z6 (K:=K) rfl) (pv 3) (@zK _ _ _ (@zA _ _ _ _ _ _ _ _ yg (pv 4) zh)) zP)) (@za _ _ _ _ _ (@zA _ _ _ _ _ _ _ _ (yn (K:=K) rfl) (pv 3) (@zG _ _ _ _ _ _ _ _ _ _ (z6 (K:=K) rfl) (pv 3) (@zK _ _ _ (pv 4)) (@zK _ _ _ (@zA _ _ _ _ _ _ _ _ yg (pv 4) zh)))) (@za _ _ _ _ _ (@zE _ _ _ _ _ _ _ z7 (pv 1) (@zA _ _ _ _ _ _ _ _ ui (pv 5) (@zj _ _ _ _ _ _ _ _ _ zu rfl B.len xh (@za _ _ _ _ _ (pv 1) zb (by first | rfl | decide | exact Or.inl rfl | exact Or.inr rfl | exact Or.inr (Or.inl rfl) | exact Or.inr (Or.inr rfl) | exact fun _=>rfl | exact Nat.le_of_ble_eq_true rfl)) (by first | rfl | decide | exact Or.inl rfl | exact Or.inr rfl | exact Or.inr (Or.inl rfl) | exact Or.inr (Or.inr rfl) | exact fun _=>rfl | exact Nat.le_of_ble_eq_true rfl) (by first | rfl | decide | exact Or.inl rfl | exact Or.inr rfl | exact Or.inr (Or.inl rfl) | exact Or.inr (Or.inr rfl) | exact fun _=>rfl | exact Nat.le_of_ble_eq_true rfl) (by first | rfl | decide | exact Or.inl rfl | exact Or.inr rfl | exact Or.inr (Or.inl rfl) | exact Or.inr (Or.inr rfl) | exact fun _=>rfl | exact Nat.le_of_ble_eq_true rfl) (by first | rfl | decide | exact Or.inl rfl | exact Or.inr rfl | exact Or.inr (Or.inl rfl) | exact Or.inr (Or.inr rfl) | exact fun _=>rfl | exact Nat.le_of_ble_eq_true rfl))) (fun _ _=>rfl)) (@za _ _ _ _ _ (@zJ _ _ _ _ _ _ _ _ _ (tL (K:=K) rfl) rfl B.list vQ (@za _ _ _ _ _ (pv 3) zb (by first | rfl | decide | exact Or.inl rfl | exact Or.inr rfl | exact Or.inr (Or.inl rfl) | exact Or.inr (Or.inr rfl) | exact fun _=>rfl | exact Nat.le_of_ble_eq_true rfl)) (by first | rfl | decide | exact Or.inl rfl | exact Or.inr rfl | exact Or.inr (Or.inl rfl) | exact Or.inr (Or.inr rfl) | exact fun _=>rfl | exact Nat.le_of_ble_eq_true rfl) (by first | rfl | decide | exact Or.inl rfl | exact Or.inr rfl | exact Or.inr (Or.inl rfl) | exact Or.inr (Or.inr rfl) | exact fun _=>rfl | exact Nat.le_of_ble_eq_true rfl) (by first | rfl | decide | exact Or.inl rfl | exact Or.inr rfl | exact Or.inr (Or.inl rfl) | exact Or.inr (Or.inr rfl) | exact fun _=>rfl | exact Nat.le_of_ble_eq_true rfl) (by first | rfl | decide | exact Or.inl rfl | exact Or.inr rfl | exact Or.inr (Or.inl rfl) | exact Or.inr (Or.inr rfl) | exact fun _=>rfl | exact Nat.le_of_ble_eq_true rfl)) (@za _ _ _ _ _ xQ (@za _ _ _ _ _ (@zA _ _ _ _ _ _ _ _ (yn (K:=K) rfl) (pv 3) (@zY _ _ _ _ _ (@za _ _ _ _ _ yy zb (by first | rfl | decide | exact Or.inl rfl | exact Or.inr rfl | exact Or.inr (Or.inl rfl) | exact Or.inr (Or.inr rfl) | exact fun _=>rfl | exact Nat.le_of_ble_eq_true rfl)))) (@za _ _ _ _ _ (@zY _ _ _ _ _ zb) zb (by first | rfl | decide | exact Or.inl rfl | exact Or.inr rfl | exact Or.inr (Or.inl rfl) | exact Or.inr (Or.inr rfl) | exact fun _=>rfl | exact Nat.le_of_ble_eq_true rfl)) (by first | rfl | decide | exact Or.inl rfl | exact Or.inr rfl | exact Or.inr (Or.inl rfl) | exact Or.inr (Or.inr rfl) | exact fun _=>rfl | exact Nat.le_of_ble_eq_true rfl)) (by first | rfl | decide | exact Or.inl rfl | exact Or.inr rfl | exact Or.inr (Or.inl rfl) | exact Or.inr (Or.inr rfl) | exact fun _=>rfl | exact Nat.le_of_ble_eq_true rfl)) (by first | rfl | decide | exact Or.inl rfl | exact Or.inr rfl | exact Or.inr (Or.inl rfl) | exact Or.inr (Or.inr rfl) | exact fun _=>rfl | exact Nat.le_of_ble_eq_true rfl)) (by first | rfl | decide | exact Or.inl rfl | exact Or.inr rfl | exact Or.inr (Or.inl rfl) | exact Or.inr (Or.inr rfl) | exact fun _=>rfl | exact Nat.le_of_ble_eq_true rfl)) (by first | rfl | decide | exact Or.inl rfl | exact Or.inr rfl | exact Or.inr (Or.inl rfl) | exact Or.inr (Or.inr rfl) | exact fun _=>rfl | exact Nat.le_of_ble_eq_true rfl)) (by first | rfl | decide | exact Or.inl rfl | exact Or.inr rfl | exact Or.inr (Or.inl rfl) | exact Or.inr (Or.inr rfl) | exact fun _=>rfl | exact Nat.le_of_ble_eq_true rfl)) (by first | rfl | decide | exact Or.inl rfl | exact Or.inr rfl | exact Or.inr (Or.inl rfl) | exact Or.inr (Or.inr rfl) | exact fun _=>rfl | exact Nat.le_of_ble_eq_true rfl))) (by first | rfl | decide | exact Or.inl rfl | exact Or.inr rfl | exact Or.inr (Or.inl rfl) | exact Or.inr (Or.inr rfl) | exact fun _=>rfl | exact Nat.le_of_ble_eq_true rfl) (by first | rfl | decide | exact Or.inl rfl | exact Or.inr rfl | exact Or.inr (Or.inl rfl) | exact Or.inr (Or.inr rfl) | exact fun _=>rfl | exact Nat.le_of_ble_eq_true rfl)) (@ze _ _ _ _ _ (@zz _ _ 8 _ _ _ _ zL.nd rfl (Or.inl rfl) (@zA _ _ _ _ _ _ _ _ ZY (pv 8) (@yM _ _ _ _ (@za _ _ _ _ _ (@zA _ _ _ _ _ _ _ _ (yn (K:=K) rfl) (@zA _ _ _ _ _ _ _ _ (yn (K:=K) rfl) (@zG _ _ _ _ _ _ _ _ _ _ (z6 (K:=K) rfl) (pv 3) zP (@zK _ _ _ (pv 4))) (@zY _ _ _ _ _ (@za _ _ _ _ _ zh zb (by first | rfl | decide | exact Or.inl rfl | exact Or.inr rfl | exact Or.inr (Or.inl rfl) | exact Or.inr (Or.inr rfl) | exact fun _=>rfl | exact Nat.le_of_ble_eq_true rfl)))) (@zG _ _ _ _ _ _ _ _ _ _ (z6 (K:=K) rfl) (pv 3) (@zK _ _ _ (@zA _ _ _ _ _ _ _ _ yg (pv 4) zh)) zP)) (@za _ _ _ _ _ (qC (K:=K) rfl (pv 3)) (@za _ _ _ _ _ (@zA _ _ _ _ _ _ _ _ (yn (K:=K) rfl) (@zA _ _ _ _ _ _ _ _ (yn (K:=K) rfl) (@zG _ _ _ _ _ _ _ _ _ _ (z6 (K:=K) rfl) (pv 3) zP (@zK _ _ _ (pv 4))) (@zY _ _ _ _ _ (@za _ _ _ _ _ xQ zb (by first | rfl | decide | exact Or.inl rfl | exact Or.inr rfl | exact Or.inr (Or.inl rfl) | exact Or.inr (Or.inr rfl) | exact fun _=>rfl | exact Nat.le_of_ble_eq_true rfl)))) (@zG _ _ _ _ _ _ _ _ _ _ (z6 (K:=K) rfl) (pv 3) (@zK _ _ _ (pv 4)) zP)) (@za _ _ _ _ _ (@zY _ _ _ _ _ (@za _ _ _ _ _ (pv 3) zb (by first | rfl | decide | exact Or.inl rfl | exact Or.inr rfl | exact Or.inr (Or.inl rfl) | exact Or.inr (Or.inr rfl) | exact fun _=>rfl | exact Nat.le_of_ble_eq_true rfl))) (@za _ _ _ _ _ ZK (@za _ _ _ _ _ (pv 7) zb (by first | rfl | decide | exact Or.inl rfl | exact Or.inr rfl | exact Or.inr (Or.inl rfl) | exact Or.inr (Or.inr rfl) | exact fun _=>rfl | exact Nat.le_of_ble_eq_true rfl)) (by first | rfl | decide | exact Or.inl rfl | exact Or.inr rfl | exact Or.inr (Or.inl rfl) | exact Or.inr (Or.inr rfl) | exact fun _=>rfl | exact Nat.le_of_ble_eq_true rfl)) (by first | rfl | decide | exact Or.inl rfl | exact Or.inr rfl | exact Or.inr (Or.inl rfl) | exact Or.inr (Or.inr rfl) | exact fun _=>rfl | exact Nat.le_of_ble_eq_true rfl)) (by first | rfl | decide | exact Or.inl rfl | exact Or.inr rfl | exact Or.inr (Or.inl rfl) | exact Or.inr (Or.inr rfl) | exact fun _=>rfl | exact Nat.le_of_ble_eq_true rfl)) (by first | rfl | decide | exact Or.inl rfl | exact Or.inr rfl | exact Or.inr (Or.inl rfl) | exact Or.inr (Or.inr rfl) | exact fun _=>rfl | exact Nat.le_of_ble_eq_true rfl)) (by first | rfl | decide | exact Or.inl rfl | exact Or.inr rfl | exact Or.inr (Or.inl rfl) | exact Or.inr (Or.inr rfl) | exact fun _=>rfl | exact Nat.le_of_ble_eq_true rfl)))) (by first | rfl | decide | exact Or.inl rfl | exact Or.inr rfl | exact Or.inr (Or.inl rfl) | exact Or.inr (Or.inr rfl) | exact fun _=>rfl | exact Nat.le_of_ble_eq_true rfl) (by first | rfl | decide | exact Or.inl rfl | exact Or.inr rfl | exact Or.inr (Or.inl rfl) | exact Or.inr (Or.inr rfl) | exact fun _=>rfl | exact Nat.le_of_ble_eq_true rfl)) (@ze _ _ _ _ _ (@zz _ _ 8 _ _ _ _ zL.nd rfl (Or.inl rfl) (@zA _ _ _ _ _ _ _ _ ZY (pv 8) (@yM _ _ _ _ (@za _ _ _ _ _ (@zA _ _ _ _ _ _ _ _ (yn (K:=K) rfl) (@zA _ _ _ _ _ _ _ _ (yn (K:=K) rfl) (@zG _ _ _ _ _ _ _ _ _ _ (z6 (K:=K) rfl) (pv 3) zP (@zK _ _ _ (pv 4))) (@zG _ _ _ _ _ _ _ _ _ _ (z6 (K:=K) rfl) (pv 3) (@zK _ _ _ (pv 5)) (@zK _ _ _ (@zA _ _ _ _ _ _ _ _ yg (pv 5) zh)))) (@zG _ _ _ _ _ _ _ _ _ _ (z6 (K:=K) rfl) (pv 3) (@zK _ _ _ (@zA _ _ _ _ _ _ _ _ yg (pv 4) zh)) zP)) (@za _ _ _ _ _ (@zA _ _ _ _ _ _ _ _ (yn (K:=K) rfl) (@zA _ _ _ _ _ _ _ _ (yn (K:=K) rfl) (@zG _ _ _ _ _ _ _ _ _ _ (z6 (K:=K) rfl) (pv 3) zP (@zK _ _ _ (pv 4))) (@zY _ _ _ _ _ (@za _ _ _ _ _ xQ zb (by first | rfl | decide | exact Or.inl rfl | exact Or.inr rfl | exact Or.inr (Or.inl rfl) | exact Or.inr (Or.inr rfl) | exact fun _=>rfl | exact Nat.le_of_ble_eq_true rfl)))) (@zG _ _ _ _ _ _ _ _ _ _ (z6 (K:=K) rfl) (pv 3) (@zK _ _ _ (@zA _ _ _ _ _ _ _ _ yg (pv 4) zh)) zP)) zb (by first | rfl | decide | exact Or.inl rfl | exact Or.inr rfl | exact Or.inr (Or.inl rfl) | exact Or.inr (Or.inr rfl) | exact fun _=>rfl | exact Nat.le_of_ble_eq_true rfl)) (by first | rfl | decide | exact Or.inl rfl | exact Or.inr rfl | exact Or.inr (Or.inl rfl) | exact Or.inr (Or.inr rfl) | exact fun _=>rfl | exact Nat.le_of_ble_eq_true rfl)))) (by first | rfl | decide | exact Or.inl rfl | exact Or.inr rfl | exact Or.inr (Or.inl rfl) | exact Or.inr (Or.inr rfl) | exact fun _=>rfl | exact Nat.le_of_ble_eq_true rfl) (by first | rfl | decide | exact Or.inl rfl | exact Or.inr rfl | exact Or.inr (Or.inl rfl) | exact Or.inr (Or.inr rfl) | exact fun _=>rfl | exact Nat.le_of_ble_eq_true rfl)) (@ze _ _ _ _ _ (@xX _ _ _ _ (@sV _ _ _ _ _ _ _ _ _ _ _ _ PySem.F.plainAttrs_list PySem.F.slot_list_append PySem.F.type_list_append x8 (pv 8) (@za _ _ _ _ _ (@zJ _ _ _ _ _ _ _ _ _ zS rfl B.tuple z9 (@za _ _ _ _ _ (@zN _ _ _ _ _ _ _ _ _ _ _ _ _ (CSc.of (N':=["_law_number_here"]) (sub:=[none]) (zi (top 56)) ["_law_pot_here","_law_rows_here","_law_at_here","_law_row_here","_law_i","_law_j","_law_choice","_law_turned","_law_some","_law_whole"] rfl rfl (by decide +kernel) rfl) rfl (@y8 _ _ _ _ (pv 3)) (fun _ _ _ _ _ _=>zm (i:=0) (show (["_law_number_here"]:List Str).Nodup by decide +kernel) rfl (Or.inl rfl)) (fun _ _ _ _ _ _=>zM) (fun _ _ _ _ _ _=>(@zE _ _ _ _ _ _ _ (jy (K:=K) rfl) (@yM _ _ _ _ (@za _ _ _ _ _ (pv 0) (@za _ _ _ _ _ (@yz _ _ _ _ _ _ _ _ vw (pv 0) zh (zB _)) zb (by first | rfl | decide | exact Or.inl rfl | exact Or.inr rfl | exact Or.inr (Or.inl rfl) | exact Or.inr (Or.inr rfl) | exact fun _=>rfl | exact Nat.le_of_ble_eq_true rfl)) (by first | rfl | decide | exact Or.inl rfl | exact Or.inr rfl | exact Or.inr (Or.inl rfl) | exact Or.inr (Or.inr rfl) | exact fun _=>rfl | exact Nat.le_of_ble_eq_true rfl))) (@zJ _ _ _ _ _ _ _ _ _ sP rfl B.int Z2 (@za _ _ _ _ _ (@yz _ _ _ _ _ _ _ _ uj (pv 0) zh (zB _)) zb (by first | rfl | decide | exact Or.inl rfl | exact Or.inr rfl | exact Or.inr (Or.inl rfl) | exact Or.inr (Or.inr rfl) | exact fun _=>rfl | exact Nat.le_of_ble_eq_true rfl)) (by first | rfl | decide | exact Or.inl rfl | exact Or.inr rfl | exact Or.inr (Or.inl rfl) | exact Or.inr (Or.inr rfl) | exact fun _=>rfl | exact Nat.le_of_ble_eq_true rfl) (by first | rfl | decide | exact Or.inl rfl | exact Or.inr rfl | exact Or.inr (Or.inl rfl) | exact Or.inr (Or.inr rfl) | exact fun _=>rfl | exact Nat.le_of_ble_eq_true rfl) (by first | rfl | decide | exact Or.inl rfl | exact Or.inr rfl | exact Or.inr (Or.inl rfl) | exact Or.inr (Or.inr rfl) | exact fun _=>rfl | exact Nat.le_of_ble_eq_true rfl) (by first | rfl | decide | exact Or.inl rfl | exact Or.inr rfl | exact Or.inr (Or.inl rfl) | exact Or.inr (Or.inr rfl) | exact fun _=>rfl | exact Nat.le_of_ble_eq_true rfl)) (fun _ _=>rfl))) (by first | rfl | decide | exact Or.inl rfl | exact Or.inr rfl | exact Or.inr (Or.inl rfl) | exact Or.inr (Or.inr rfl) | exact fun _=>rfl | exact Nat.le_of_ble_eq_true rfl)) zb (by first | rfl | decide | exact Or.inl rfl | exact Or.inr rfl | exact Or.inr (Or.inl rfl) | exact Or.inr (Or.inr rfl) | exact fun _=>rfl | exact Nat.le_of_ble_eq_true rfl)) (by first | rfl | decide | exact Or.inl rfl | exact Or.inr rfl | exact Or.inr (Or.inl rfl) | exact Or.inr (Or.inr rfl) | exact fun _=>rfl | exact Nat.le_of_ble_eq_true rfl) (by first | rfl | decide | exact Or.inl rfl | exact Or.inr rfl | exact Or.inr (Or.inl rfl) | exact Or.inr (Or.inr rfl) | exact fun _=>rfl | exact Nat.le_of_ble_eq_true rfl) (by first | rfl | decide | exact Or.inl rfl | exact Or.inr rfl | exact Or.inr (Or.inl rfl) | exact Or.inr (Or.inr rfl) | exact fun _=>rfl | exact Nat.le_of_ble_eq_true rfl) (by first | rfl | decide | exact Or.inl rfl | exact Or.inr rfl | exact Or.inr (Or.inl rfl) | exact Or.inr (Or.inr rfl) | exact fun _=>rfl | exact Nat.le_of_ble_eq_true rfl)) zb (by first | rfl | decide | exact Or.inl rfl | exact Or.inr rfl | exact Or.inr (Or.inl rfl) | exact Or.inr (Or.inr rfl) | exact fun _=>rfl | exact Nat.le_of_ble_eq_true rfl)) (by first | rfl | decide | exact Or.inl rfl | exact Or.inr rfl | exact Or.inr (Or.inl rfl) | exact Or.inr (Or.inr rfl) | exact fun _=>rfl | exact Nat.le_of_ble_eq_true rfl) (by first | rfl | decide | exact Or.inl rfl | exact Or.inr rfl | exact Or.inr (Or.inl rfl) | exact Or.inr (Or.inr rfl) | exact fun _=>rfl | exact Nat.le_of_ble_eq_true rfl) (by first | rfl | decide | exact Or.inl rfl | exact Or.inr rfl | exact Or.inr (Or.inl rfl) | exact Or.inr (Or.inr rfl) | exact fun _=>rfl | exact Nat.le_of_ble_eq_true rfl) (by first | rfl | decide | exact Or.inl rfl | exact Or.inr rfl | exact Or.inr (Or.inl rfl) | exact Or.inr (Or.inr rfl) | exact fun _=>rfl | exact Nat.le_of_ble_eq_true rfl) (by first | rfl | decide | exact Or.inl rfl | exact Or.inr rfl | exact Or.inr (Or.inl rfl) | exact Or.inr (Or.inr rfl) | exact fun _=>rfl | exact Nat.le_of_ble_eq_true rfl)) (by first | rfl | decide | exact Or.inl rfl | exact Or.inr rfl | exact Or.inr (Or.inl rfl) | exact Or.inr (Or.inr rfl) | exact fun _=>rfl | exact Nat.le_of_ble_eq_true rfl)) (@ze _ _ _ _ _ (@zV _ _ _ _ _ _ _ _ (@zD _ _ _ _ _ _ _ _ uj (pv 6) zh (zB _)) (@zg _ _ _ (@zq _ _ _ _ (@zA _ _ _ _ _ _ _ _ (yn (K:=K) rfl) (@zA _ _ _ _ _ _ _ _ (yn (K:=K) rfl) (@zG _ _ _ _ _ _ _ _ _ _ (z6 (K:=K) rfl) (pv 1) zP (@zK _ _ _ (pv 2))) (@zY _ _ _ _ _ (@za _ _ _ _ _ (@zE _ _ _ _ _ _ _ zQ (pv 8) (pv 6) (fun _ _=>rfl)) zb (by first | rfl | decide | exact Or.inl rfl | exact Or.inr rfl | exact Or.inr (Or.inl rfl) | exact Or.inr (Or.inr rfl) | exact fun _=>rfl | exact Nat.le_of_ble_eq_true rfl)))) (@zG _ _ _ _ _ _ _ _ _ _ (z6 (K:=K) rfl) (pv 1) (@zK _ _ _ (@zA _ _ _ _ _ _ _ _ yg (pv 2) zh)) zP)))) zy) (@ze _ _ _ _ _ (@zz _ _ 9 _ _ _ _ zL.nd rfl (Or.inl rfl) (@yM _ _ _ _ (@za _ _ _ _ _ (@zG _ _ _ _ _ _ _ _ _ _ (z6 (K:=K) rfl) (pv 1) zP (@zK _ _ _ (@Vz _ _ _ _ _ _ Wp zh))) (@za _ _ _ _ _ (@zA _ _ _ _ _ _ _ _ (yn (K:=K) rfl) (pv 1) (@zY _ _ _ _ _ (@za _ _ _ _ _ (@zY _ _ _ _ _ zb) zb (by first | rfl | decide | exact Or.inl rfl | exact Or.inr rfl | exact Or.inr (Or.inl rfl) | exact Or.inr (Or.inr rfl) | exact fun _=>rfl | exact Nat.le_of_ble_eq_true rfl)))) (@za _ _ _ _ _ (@zJ _ _ _ _ _ _ _ _ _ (tL (K:=K) rfl) rfl B.list vQ (@za _ _ _ _ _ (pv 1) zb (by first | rfl | decide | exact Or.inl rfl | exact Or.inr rfl | exact Or.inr (Or.inl rfl) | exact Or.inr (Or.inr rfl) | exact fun _=>rfl | exact Nat.le_of_ble_eq_true rfl)) (by first | rfl | decide | exact Or.inl rfl | exact Or.inr rfl | exact Or.inr (Or.inl rfl) | exact Or.inr (Or.inr rfl) | exact fun _=>rfl | exact Nat.le_of_ble_eq_true rfl) (by first | rfl | decide | exact Or.inl rfl | exact Or.inr rfl | exact Or.inr (Or.inl rfl) | exact Or.inr (Or.inr rfl) | exact fun _=>rfl | exact Nat.le_of_ble_eq_true rfl) (by first | rfl | decide | exact Or.inl rfl | exact Or.inr rfl | exact Or.inr (Or.inl rfl) | exact Or.inr (Or.inr rfl) | exact fun _=>rfl | exact Nat.le_of_ble_eq_true rfl) (by first | rfl | decide | exact Or.inl rfl | exact Or.inr rfl | exact Or.inr (Or.inl rfl) | exact Or.inr (Or.inr rfl) | exact fun _=>rfl | exact Nat.le_of_ble_eq_true rfl)) (@za _ _ _ _ _ xQ (@za _ _ _ _ _ (qC (K:=K) rfl (pv 1)) (@za _ _ _ _ _ (@zY _ _ _ _ _ zb) (@za _ _ _ _ _ (W4 (K:=K)) (@za _ _ _ _ _ (@zA _ _ _ _ _ _ _ _ (yn (K:=K) rfl) (@zG _ _ _ _ _ _ _ _ _ _ (z6 (K:=K) rfl) (pv 1) (@zK _ _ _ zh) zP) (@zG _ _ _ _ _ _ _ _ _ _ (z6 (K:=K) rfl) (pv 1) zP (@zK _ _ _ zh))) (@za _ _ _ _ _ zh (@za _ _ _ _ _ (pv 3) zb (by first | rfl | decide | exact Or.inl rfl | exact Or.inr rfl | exact Or.inr (Or.inl rfl) | exact Or.inr (Or.inr rfl) | exact fun _=>rfl | exact Nat.le_of_ble_eq_true rfl)) (by first | rfl | decide | exact Or.inl rfl | exact Or.inr rfl | exact Or.inr (Or.inl rfl) | exact Or.inr (Or.inr rfl) | exact fun _=>rfl | exact Nat.le_of_ble_eq_true rfl)) (by first | rfl | decide | exact Or.inl rfl | exact Or.inr rfl | exact Or.inr (Or.inl rfl) | exact Or.inr (Or.inr rfl) | exact fun _=>rfl | exact Nat.le_of_ble_eq_true rfl)) rj) (by first | rfl | decide | exact Or.inl rfl | exact Or.inr rfl | exact Or.inr (Or.inl rfl) | exact Or.inr (Or.inr rfl) | exact fun _=>rfl | exact Nat.le_of_ble_eq_true rfl)) (by first | rfl | decide | exact Or.inl rfl | exact Or.inr rfl | exact Or.inr (Or.inl rfl) | exact Or.inr (Or.inr rfl) | exact fun _=>rfl | exact Nat.le_of_ble_eq_true rfl)) (by first | rfl | decide | exact Or.inl rfl | exact Or.inr rfl | exact Or.inr (Or.inl rfl) | exact Or.inr (Or.inr rfl) | exact fun _=>rfl | exact Nat.le_of_ble_eq_true rfl)) (by first | rfl | decide | exact Or.inl rfl | exact Or.inr rfl | exact Or.inr (Or.inl rfl) | exact Or.inr (Or.inr rfl) | exact fun _=>rfl | exact Nat.le_of_ble_eq_true rfl)) (by first | rfl | decide | exact Or.inl rfl | exact Or.inr rfl | exact Or.inr (Or.inl rfl) | exact Or.inr (Or.inr rfl) | exact fun _=>rfl | exact Nat.le_of_ble_eq_true rfl)) (by first | rfl | decide | exact Or.inl rfl | exact Or.inr rfl | exact Or.inr (Or.inl rfl) | exact Or.inr (Or.inr rfl) | exact fun _=>rfl | exact Nat.le_of_ble_eq_true rfl))) (by first | rfl | decide | exact Or.inl rfl | exact Or.inr rfl | exact Or.inr (Or.inl rfl) | exact Or.inr (Or.inr rfl) | exact fun _=>rfl | exact Nat.le_of_ble_eq_true rfl) (by first | rfl | decide | exact Or.inl rfl | exact Or.inr rfl | exact Or.inr (Or.inl rfl) | exact Or.inr (Or.inr rfl) | exact fun _=>rfl | exact Nat.le_of_ble_eq_true rfl)) (@zg _ _ _ (@zq _ _ _ _ (@zE _ _ _ _ _ _ _ zQ (pv 9) (@zf _ _ _ _ _ _ _ _ _ _ qc0 hr rfl (@za _ _ _ _ _ (pv 0) (@za _ _ _ _ _ zh zb (by first | rfl | decide | exact Or.inl rfl | exact Or.inr rfl | exact Or.inr (Or.inl rfl) | exact Or.inr (Or.inr rfl) | exact fun _=>rfl | exact Nat.le_of_ble_eq_true rfl)) (by first | rfl | decide | exact Or.inl rfl | exact Or.inr rfl | exact Or.inr (Or.inl rfl) | exact Or.inr (Or.inr rfl) | exact fun _=>rfl | exact Nat.le_of_ble_eq_true rfl)) (by first | rfl | decide | exact Or.inl rfl | exact Or.inr rfl | exact Or.inr (Or.inl rfl) | exact Or.inr (Or.inr rfl) | exact fun _=>rfl | exact Nat.le_of_ble_eq_true rfl) (by first | rfl | decide | exact Or.inl rfl | exact Or.inr rfl | exact Or.inr (Or.inl rfl) | exact Or.inr (Or.inr rfl) | exact fun _=>rfl | exact Nat.le_of_ble_eq_true rfl) (by first | rfl | decide | exact Or.inl rfl | exact Or.inr rfl | exact Or.inr (Or.inl rfl) | exact Or.inr (Or.inr rfl) | exact fun _=>rfl | exact Nat.le_of_ble_eq_true rfl)) (fun _ _=>rfl))))))))))))))),?_⟩
 obtain ⟨hro,hos,b1,b6,sh⟩:=R
 have vl:vs.length = os.length:=hos.len
 have om:∀ {H':Hp},Pot H' p -> ∀ b ∈ [p],H' b ≠ none:=fun pp b hb=>by
  rw [List.mem_singleton.mp hb]
  obtain ⟨_,_,e,_⟩:=pp
  rw [e]; simp
 have vg:∀ v ∈ vs,∀ {H':Hp},Grow [p] H H' -> G72 K p H' v:=fun v hv {H'} g=>by
  obtain ⟨i,hi⟩:=List.mem_iff_getElem?.mp hv
  obtain ⟨o,ho,r,rfl,hr⟩:=hos.get hi
  obtain ⟨o8,o40⟩:=sh o (List.mem_of_getElem? ho)
  exact G72.tup (g.sqT hr) (by rw [zw]; omega) (i_e (YO o40))
 refine ya (fun v H'=>∃ i:Nat,v = .int i /\ i < os.length /\ Grow [p] H H' /\ Pot H' p) (fun Kk hk=>⟨_,rfl,_,rfl,ro,vs,rfl,.inr hro,_,_,rfl,p,_,rfl,rfl,pp,by omega,Int.lt_of_le_of_lt (b:=100) (by omega) (by decide),fun t H1 t0 t1 g pp1=>hk _ _ ⟨t.toNat,congrArg V.int (by omega),by omega,g,pp1⟩⟩) ?_
 rintro _ H1 ⟨at0,rfl,a1,g1,pp1⟩
 obtain ⟨o,ho⟩:∃ o,os[at0]? = some o:=⟨_,List.getElem?_eq_getElem a1⟩
 obtain ⟨xr,hxr,rr,rfl,hrr⟩:=hos.getR ho
 obtain ⟨o8,o40⟩:=sh o (List.mem_of_getElem? ho)
 have ol:(zp o).length = o.length:=zw
 have oI:=YO o40
 refine ya (fun v H'=>v = .ref rr /\ H' = H1) (fun Kk hk=>⟨_,rfl,_,rfl,ro,_,_,_,rfl,rfl,g1.sqT hro,zr hxr,hk _ _ ⟨rfl,rfl⟩⟩) ?_
 rintro _ H1 ⟨rfl,rfl⟩
 refine ⟨_,rfl,_,rfl,rr,_,rfl,.inr (g1.sqT hrr),_,_,rfl,rfl,_,_,rfl,p,_,rfl,rfl,pp1,by omega,Int.lt_of_le_of_lt (b:=100) (by omega) (by decide),fun i' H2 i0 i1 g2 pp2=>?_⟩
 refine ⟨_,rfl,_,rfl,rr,_,rfl,.inr ((g1.trans g2).sqT hrr),_,_,rfl,rfl,_,_,rfl,p,_,rfl,rfl,pp2,by omega,Int.lt_of_le_of_lt (b:=100) (by omega) (by decide),fun j' H3 j0 j1 g3 pp3=>⟨_,_,rfl,?_⟩⟩
 obtain ⟨i,rfl⟩:=Int.eq_ofNat_of_zero_le i0
 obtain ⟨j,rfl⟩:=Int.eq_ofNat_of_zero_le j0
 try dsimp only
 refine ya (fun v H'=>∃ c:Nat,v = .int c /\ c < 19 /\ Grow [p] H3 H' /\ Pot H' p) (fun Kk hk=>⟨_,rfl,_,_,rfl,p,19,rfl,rfl,pp3,by decide,by decide,fun t H' t0 t1 g pp'=>hk _ _ ⟨t.toNat,congrArg V.int (by omega),by omega,g,pp'⟩⟩) ?_
 rintro _ H4 ⟨c,rfl,c19,g4,pp4⟩
 have G4:=g1.trans (g2.trans (g3.trans g4))
 clear g1 g2 g3 g4 pp pp1 pp2 pp3 H1 H2 H3
 have hro4:=G4.sqT hro
 have hrr4:=G4.sqT hrr
 have cl:=wM (zp o)
 refine ya (fun v H'=>∃ (t:Addr) (ts:List V),v = .ref t /\ SqT K H' t ts /\ (∀ v ∈ ts,I72 v) /\ ts.length <= 24 /\ Grow [] H4 H') (fun Kk hk=>?_) ?_
 ·refine ⟨_,rfl,_,rfl,_,rfl,rr,_,rfl,hrr4,fun p1 K1 g1 h1=>⟨_,rfl,_,rfl,_,rfl,_,rfl,_,_,rfl,rfl,_,rfl,rr,_,rfl,g1.sqT hrr4,fun p2 K2 g2 h2=>⟨p2,_,rfl,h2,fun p3 hp3=>?_⟩⟩⟩
  have g3:=Grow.new (m:=[]) hp3 (.tup (cutV (zp o) (some (i:Int)) (some ((j:Int) + 1))).reverse)
  refine ⟨p1,p3,_,_,rfl,rfl,(g2.trans g3).sqT h1,SqT.of zd,?_,fun p4 K4 g4 h4=>?_⟩
  ·have:=cl none (some (i:Int)); have:=cl (some (i:Int)) (some ((j:Int) + 1)); exact le72 (by rw [List.length_reverse]; omega)
  have Ga:=g1.trans (g2.trans (g3.trans g4))
  refine ⟨_,rfl,_,rfl,_,rfl,_,_,rfl,rfl,_,_,rfl,_,rfl,rr,_,rfl,Ga.sqT hrr4,fun p5 K5 g5 h5=>⟨p4,p5,_,_,rfl,rfl,g5.sqT h4,h5,?_,fun p6 K6 g6 h6=>hk _ _ ⟨p6,_,rfl,h6,Zi (Zi (wP oI) fun v hv=>wP oI v (List.mem_reverse.mp hv)) (wP oI),?_,Ga.trans (g5.trans g6)⟩⟩⟩
  ·have:=cl none (some (i:Int)); have:=cl (some (i:Int)) (some ((j:Int) + 1)); have:=cl (some (if (j:Int) + 1 > (i:Int) then (j:Int) + 1 else (i:Int))) none
   exact le72 (by rw [List.length_append,List.length_reverse]; omega)
  ·have:=cl none (some (i:Int)); have:=cl (some (i:Int)) (some ((j:Int) + 1)); have:=cl (some (if (j:Int) + 1 > (i:Int) then (j:Int) + 1 else (i:Int))) none
   rw [List.length_append,List.length_append,List.length_reverse]; omega
 rintro _ H5 ⟨tu,ts,rfl,htu,tI,tl,g5⟩
 have hro5:=g5.sqT hro4
 have hrr5:=g5.sqT hrr4
 have G5:=G4.trans g5.wk
 have pp5:=pp4.grow g5
 clear hro4 hrr4 G4 g5 pp4 H4
 have pn:∀ {H':Hp} {l:Addr},Pot H' p -> H' l = none -> l ∉ [p]:=fun pp hl=>y4 pp hl
 refine ya (fun v H'=>∃ (l7:Addr) (xs:List V),v = .ref l7 /\ S72 K p H' l7 xs 8 /\ xs.length = 8 /\ Grow [] H5 H') (fun Kk hk=>?_) ?_
 ·refine ⟨_,rfl,_,rfl,_,rfl,_,rfl,rr,_,rfl,hrr5,fun p1 K1 g1 h1=>⟨_,rfl,_,rfl,_,_,rfl,rfl,_,rfl,rr,_,rfl,g1.sqT hrr5,fun p2 K2 g2 h2=>⟨p1,p2,_,_,rfl,rfl,g2.sqT h1,h2,?_,fun p3 K3 g3 h3=>?_⟩⟩⟩
  ·have:=cl none (some (i:Int)); have:=cl (some ((i:Int) + 1)) none; exact le72 (by omega)
  have Ga:=g1.trans (g2.trans g3)
  refine ⟨_,rfl,_,rfl,_,rfl,_,rfl,_,rfl,_,_,rfl,rfl,_,rfl,rr,_,rfl,Ga.sqT hrr5,fun p4 K4 g4 h4=>⟨rr,p4,_,_,rfl,rfl,(Ga.trans g4).sqT hrr5,h4,?_,fun p5 K5 g5 h5=>?_⟩⟩
  ·have:=cl (some (i:Int)) (some ((i:Int) + 1)); exact le72 (by omega)
  have Gb:=Ga.trans (g4.trans g5)
  have jm:j % vs.length < vs.length:=Nat.mod_lt _ (by omega)
  refine ⟨_,rfl,_,rfl,_,rfl,ro,_,rfl,.inr (Gb.sqT hro5),_,_,rfl,rfl,(by show (0:Int) < (vs.length:Int); omega),ro,_,_,vs[j % vs.length],rfl,rfl,Gb.sqT hro5,zr (j:=j % vs.length) (List.getElem?_eq_getElem jm),_,rfl,rr,_,rfl,.inr (Gb.sqT hrr5),fun l1 hl1 nl1=>?_⟩
  have g6:=Grow.new (m:=[]) hl1 (.lst (zp o))
  refine ⟨_,rfl,szl rfl,fun t1 ht1=>?_⟩
  have g7:=Grow.new (m:=[]) ht1 (.tup [V.bl true])
  have Gc:=Gb.trans (g6.trans g7)
  refine ⟨rr,t1,_,_,rfl,rfl,Gc.sqT hrr5,SqT.of zd,le72 (by show _ + 1 <= 5000; omega),fun p6 K6 g8 h6=>⟨szl rfl,fun t2 ht2=>⟨szl rfl,fun l2 hl2=>?_⟩⟩⟩
  have g9:=Grow.new (m:=[]) ht2 (.tup [])
  have g10:=Grow.new (m:=[]) hl2 (.lst [V.ref tu,V.ref p3,V.ref p5,vs[j % vs.length],V.ref l1,V.non,V.ref p6,V.ref t2])
  have gz:=g8.trans (g9.trans g10)
  have Gd:=Gc.trans gz
  refine hk _ _ ⟨l2,_,rfl,⟨zd,yC ?_ (yC ?_ (yC ?_ (yC ?_ (yC ?_ (yC (G72.of_e E72.non (fun _ z=>nomatch z)) (yC ?_ (yC ?_ Zj))))))),pn (pp5.grow (Gc.trans (g8.trans g9))) hl2,Nat.le_refl _⟩,rfl,Gd⟩
  ·exact G72.tup (Gd.sqT htu) (by omega) (i_e tI)
  ·refine G72.tup ((g4.trans (g5.trans (g6.trans (g7.trans gz)))).sqT h3) ?_ (i_e (Zi (wP oI) (wP oI)))
   have:=cl none (some (i:Int)); have:=cl (some ((i:Int) + 1)) none
   rw [List.length_append]; omega
  ·refine G72.tup ((g6.trans (g7.trans gz)).sqT h5) ?_ (i_e (Zi oI (wP oI)))
   have:=cl (some (i:Int)) (some ((i:Int) + 1))
   rw [List.length_append]; omega
  ·exact vg _ (List.getElem_mem jm) (G5.trans Gd.wk)
  ·exact G72.lst ((g7.trans gz).keep _ _ (by simp) zd) (pn (pp5.grow Gb) hl1) nl1 (by omega) (i_e oI)
  ·exact G72.tup ((g9.trans g10).sqT h6) (by rw [List.length_append]; show _ + 1 < 64; omega) (qL (i_e oI) (X8 (E72.bl true)))
  ·exact G72.tup (g10.sqT (SqT.of zd)) (by decide) (fun _ h=>nomatch h)
 rintro _ H6 ⟨l6,xs6,rfl,S6,n6,g6⟩
 have hro6:=g6.sqT hro5
 have hrr6:=g6.sqT hrr5
 have htu6:=g6.sqT htu
 have G6:=G5.trans g6.wk
 have pp6:=pp5.grow g6
 clear hro5 hrr5 htu G5 g6 pp5
 refine ya (fun v H'=>∃ (l7:Addr) (xs:List V),v = .ref l7 /\ S72 K p H' l7 xs 14 /\ xs.length = 14 /\ Grow [] H6 H') (fun Kk hk=>?_) ?_
 ·refine ⟨_,rfl,_,rfl,_,rfl,_,rfl,rr,_,rfl,hrr6,fun p1 K1 g1 h1=>⟨szl rfl,fun t1 ht1=>?_⟩⟩
  have gt1:=Grow.new (m:=[]) ht1 (.tup [V.int 40])
  refine ⟨p1,t1,_,_,rfl,rfl,gt1.sqT h1,SqT.of zd,le72 (by have:=cl none (some (i:Int)); show _ + 1 <= 5000; omega),fun p2 K2 g2 h2=>?_⟩
  have Ga:=g1.trans (gt1.trans g2)
  refine ⟨_,rfl,_,rfl,_,_,rfl,rfl,_,rfl,rr,_,rfl,Ga.sqT hrr6,fun p3 K3 g3 h3=>⟨p2,p3,_,_,rfl,rfl,g3.sqT h2,h3,?_,fun p4 K4 g4 h4=>⟨_,rfl,rr,_,rfl,(Ga.trans (g3.trans g4)).sqT hrr6,fun p5 hp5=>?_⟩⟩⟩
  ·have:=cl none (some (i:Int)); have:=cl (some ((i:Int) + 1)) none; exact le72 (by rw [List.length_append]; show _ + 1 + _ <= 5000; omega)
  have g5:=Grow.new (m:=[]) hp5 (.tup (zp o).reverse)
  have Gb:=Ga.trans (g3.trans (g4.trans g5))
  refine ⟨_,rfl,_,rfl,_,rfl,rr,_,rfl,Gb.sqT hrr6,fun p6 K6 g6 h6=>⟨szl rfl,fun t2 ht2=>?_⟩⟩
  have gt2:=Grow.new (m:=[]) ht2 (.tup [V.non])
  refine ⟨p6,t2,_,_,rfl,rfl,gt2.sqT h6,SqT.of zd,le72 (by have:=cl none (some (i:Int)); show _ + 1 <= 5000; omega),fun p7 K7 g7 h7=>?_⟩
  have Gc:=Gb.trans (g6.trans (gt2.trans g7))
  refine ⟨_,rfl,_,rfl,_,rfl,rr,_,rfl,Gc.sqT hrr6,fun p8 K8 g8 h8=>⟨p7,p8,_,_,rfl,rfl,g8.sqT h7,h8,?_,fun p9 K9 g9 h9=>⟨_,rfl,szl rfl,fun t3 ht3=>⟨_,rfl,szl rfl,fun l1 hl1=>?_⟩⟩⟩⟩
  ·have:=cl none (some (i:Int)); have:=cl (some (i:Int)) none; exact le72 (by rw [List.length_append]; show _ + 1 + _ <= 5000; omega)
  have Gd:=Gc.trans (g8.trans g9)
  have g10:=Grow.new (m:=[]) ht3 (.tup [V.ref rr])
  have g11:=Grow.new (m:=[]) hl1 (.lst [V.ref p4,V.ref p5,V.ref p9,V.ref t3,V.str (Str.ofString ""),V.ref tu])
  have Ge:=Gd.trans (g10.trans g11)
  have S7:=S6.grow (Ge.wk (m:=[p]))
  refine ⟨l6,l1,_,_,rfl,rfl,S7.at_,zd,le72 (by show _ + 6 <= 5000; omega),fun l2 hl2=>?_⟩
  have g12:=Grow.new (m:=[]) hl2 (.lst (xs6 ++ [V.ref p4,V.ref p5,V.ref p9,V.ref t3,V.str (Str.ofString ""),V.ref tu]))
  have gz:=g10.trans (g11.trans g12)
  have Gf:=Ge.trans g12
  refine hk _ _ ⟨l2,_,rfl,⟨zd,qM (YQ S7.gd g12.wk) (yC ?_ (yC ?_ (yC ?_ (yC ?_ (yC G72.str0 (yC ?_ Zj)))))),pn (pp6.grow Ge) hl2,by rw [List.length_append]; show _ + 6 <= 14; omega⟩,by rw [List.length_append]; show _ + 6 = 14; omega,Gf⟩
  ·refine G72.tup ((g5.trans (g6.trans (gt2.trans (g7.trans (g8.trans (g9.trans gz)))))).sqT h4) ?_ (qL (qL (i_e (wP oI)) (X8 (E72.int (by decide)))) (i_e (wP oI)))
   have:=cl none (some (i:Int)); have:=cl (some ((i:Int) + 1)) none
   rw [List.length_append,List.length_append]; show _ + 1 + _ < 64; omega
  ·refine G72.tup ((g6.trans (gt2.trans (g7.trans (g8.trans (g9.trans gz))))).sqT (SqT.of zd)) (by rw [List.length_reverse]; omega) fun v hv=>i_e oI v (List.mem_reverse.mp hv)
  ·refine G72.tup (gz.sqT h9) ?_ (qL (qL (i_e (wP oI)) (X8 E72.non)) (i_e (wP oI)))
   have:=cl none (some (i:Int)); have:=cl (some (i:Int)) none
   rw [List.length_append,List.length_append]; show _ + 1 + _ < 64; omega
  ·exact G72.one ((g11.trans g12).sqT (SqT.of zd)) (Gf.sqT hrr6) (by omega) (i_e oI)
  ·exact G72.tup (Gf.sqT htu6) (by omega) (i_e tI)
 rintro _ H7 ⟨l7,xs7,rfl,S7,n7,g7⟩
 have hro7:=g7.sqT hro6
 have hrr7:=g7.sqT hrr6
 have G7:=G6.trans g7.wk
 have pp7:=pp6.grow g7
 clear hro6 hrr6 htu6 G6 g7 pp6 S6 n6
 refine ya (fun v H'=>∃ (l7:Addr) (xs:List V) (Hb:Hp),v = .ref l7 /\ Hb l7 = none /\ l7 ∉ [p] /\ H' l7 = some (.lst xs) /\ xs.length = 16 /\ (∀ v ∈ xs,G72 K p Hb v) /\ Grow [] H7 Hb /\ Grow [] Hb H') (fun Kk hk=>?_) ?_
 ·refine ⟨_,rfl,_,rfl,_,rfl,_,rfl,rr,_,rfl,hrr7,fun p1 K1 g1 h1=>⟨_,rfl,_,rfl,_,rfl,_,rfl,_,_,rfl,rfl,_,rfl,rr,_,rfl,g1.sqT hrr7,fun p2 K2 g2 h2=>⟨p1,p2,_,_,rfl,rfl,g2.sqT h1,h2,?_,fun p3 K3 g3 h3=>?_⟩⟩⟩
  ·have:=cl none (some (i:Int)); have:=cl (some (j:Int)) (some ((j:Int) + 1)); exact le72 (by omega)
  have Ga:=g1.trans (g2.trans g3)
  refine ⟨_,rfl,_,rfl,_,_,rfl,rfl,_,rfl,rr,_,rfl,Ga.sqT hrr7,fun p4 K4 g4 h4=>⟨p3,p4,_,_,rfl,rfl,g4.sqT h3,h4,?_,fun p5 K5 g5 h5=>?_⟩⟩
  ·have:=cl none (some (i:Int)); have:=cl (some (j:Int)) (some ((j:Int) + 1)); have:=cl (some ((i:Int) + 1)) none; exact le72 (by rw [List.length_append]; omega)
  have Gb:=Ga.trans (g4.trans g5)
  refine ⟨_,rfl,_,rfl,_,rfl,rr,_,rfl,Gb.sqT hrr7,fun p6 K6 g6 h6=>⟨szl rfl,fun t2 ht2=>?_⟩⟩
  have gt2:=Grow.new (m:=[]) ht2 (.tup [V.non])
  refine ⟨p6,t2,_,_,rfl,rfl,gt2.sqT h6,SqT.of zd,le72 (by have:=cl none (some (i:Int)); show _ + 1 <= 5000; omega),fun p7 K7 g7 h7=>?_⟩
  have Gc:=Gb.trans (g6.trans (gt2.trans g7))
  refine ⟨_,rfl,_,rfl,_,_,rfl,rfl,_,rfl,rr,_,rfl,Gc.sqT hrr7,fun p8 K8 g8 h8=>⟨p7,p8,_,_,rfl,rfl,g8.sqT h7,h8,?_,fun p9 K9 g9 h9=>⟨szl rfl,fun l1 hl1=>?_⟩⟩⟩
  ·have:=cl none (some (i:Int)); have:=cl (some ((i:Int) + 1)) none; exact le72 (by rw [List.length_append]; show _ + 1 + _ <= 5000; omega)
  have Gd:=Gc.trans (g8.trans g9)
  have g11:=Grow.new (m:=[]) hl1 (.lst [V.ref p5,V.ref p9])
  have Ge:=Gd.trans g11
  have S8:=S7.grow (Ge.wk (m:=[p]))
  refine ⟨l7,l1,_,_,rfl,rfl,S8.at_,zd,le72 (by show _ + 2 <= 5000; omega),fun l2 hl2=>?_⟩
  have g12:=Grow.new (m:=[]) hl2 (.lst (xs7 ++ [V.ref p5,V.ref p9]))
  refine hk _ _ ⟨l2,_,_,rfl,hl2,pn (pp7.grow Ge) hl2,zd,by rw [List.length_append]; show _ + 2 = 16; omega,qM S8.gd (yC ?_ (yC ?_ Zj)),Ge,g12⟩
  ·refine G72.tup ((g6.trans (gt2.trans (g7.trans (g8.trans (g9.trans g11))))).sqT h5) ?_ (i_e (Zi (Zi (wP oI) (wP oI)) (wP oI)))
   have:=cl none (some (i:Int)); have:=cl (some (j:Int)) (some ((j:Int) + 1)); have:=cl (some ((i:Int) + 1)) none
   rw [List.length_append,List.length_append]; omega
  ·refine G72.tup (g11.sqT h9) ?_ (qL (qL (i_e (wP oI)) (X8 E72.non)) (i_e (wP oI)))
   have:=cl none (some (i:Int)); have:=cl (some ((i:Int) + 1)) none
   rw [List.length_append,List.length_append]; show _ + 1 + _ < 64; omega
 rintro _ H8 ⟨l8,xs8,Hb,rfl,fb,ne8,hl8,n8,gd8,gb7,gb8⟩
 have g8:=gb7.trans gb8
 have hro8:=g8.sqT hro7
 have hrr8:=g8.sqT hrr7
 have G8:=G7.trans g8.wk
 have pp8:=pp7.grow g8
 have fr8:H l8 = none:=(G7.trans gb7.wk).free ne8 fb
 clear hro7 hrr7 G7 g8 pp7 S7 n7 gb7
 have small:∀ {k:Nat} {n:Nat},o[n]? = some k -> k < 40:=fun h=>o40 _ (List.mem_of_getElem? h)
 refine ⟨_,rfl,.inl ⟨rfl,_,SqL.of hl8⟩,_,rfl,rr,rfl,⟨_,hrr8⟩,ye (xs:=zp o) (fun n ys H'=>ys.length = n /\ (∀ v ∈ ys,I72 v \/ ∃ b,v = .bl b) /\ Grow [] H8 H') ⟨rfl,(fun _ h=>nomatch h),Grow.refl _ _⟩ (fun n ys H' ⟨_,_,g⟩=>g.sqT hrr8) ?_ ?_⟩
 ·rintro n x ys H' hx ⟨yl,yE,g⟩
  obtain ⟨k,hki,rfl⟩:=yj hx
  have hn:=(List.getElem?_eq_some_iff.mp hki).1
  have k40:=small hki
  refine ⟨_,rfl,_,rfl,rfl,szl rfl,fun l hl0=>⟨_,rfl,_,_,rfl,rfl,.inr ⟨_,rfl,?_⟩⟩⟩
  have gl:=Grow.new (m:=[]) hl0 (.lst [V.int k,V.bl (decide (V.int (k:Int) = V.int 1))])
  by_cases k2:(k:Int) < 2
  ·refine ⟨l,_,1,_,rfl,by rw [decide_eq_true k2]; rfl,SqL.of zd,zr (j:=1) rfl,lt72 (by omega),by rw [List.length_append,List.length_singleton,yl],fun v hv=>?_,g.trans gl⟩
   rcases List.mem_append.mp hv with hv | hv
   ·exact yE v hv
   ·rw [List.mem_singleton.mp hv]; exact .inr ⟨_,rfl⟩
  ·refine ⟨l,_,0,_,rfl,by rw [decide_eq_false k2]; rfl,SqL.of zd,zr (j:=0) rfl,lt72 (by omega),by rw [List.length_append,List.length_singleton,yl],fun v hv=>?_,g.trans gl⟩
   rcases List.mem_append.mp hv with hv | hv
   ·exact yE v hv
   ·rw [List.mem_singleton.mp hv]; exact .inl ⟨k,by omega,rfl⟩
 rintro ys K1 ⟨yl,yE,g1⟩ l1 hl1
 refine ⟨l1,_,rfl,.inl ⟨SqL.of zd,fun t1 ht1=>?_⟩⟩
 have g2:=(Grow.new (m:=[]) hl1 (.lst ys)).trans (Grow.new ht1 (.tup ys))
 have g12:=g1.trans g2
 have s9:SqT K (upd (upd K1 l1 (.lst ys)) t1 (.tup ys)) t1 ys:=SqT.of zd
 have hl9:=g12.keep _ _ (by simp) hl8
 have hro9:=g12.sqT hro8
 have hrr9:=g12.sqT hrr8
 have G9:=G8.trans g12.wk
 have Gb9:=gb8.trans g12
 have pp9:=pp8.grow g12
 generalize upd (upd K1 l1 (.lst ys)) t1 (.tup ys) = H9 at s9 hl9 hro9 hrr9 G9 Gb9 pp9 ⊢
 refine ⟨l8,xs8,_,rfl,rfl,hl9,lt72 (by omega),?_⟩
 have gs:Grow [l8] H9 (upd H9 l8 (.lst (xs8 ++ [V.ref t1]))):=Grow.set hl9 (by simp) _
 have np8:p ≠ l8:=fun z=>ne8 (by rw [z]; simp)
 have G10:Grow [p] H (upd H9 l8 (.lst (xs8 ++ [V.ref t1]))):=Grow.shrink2 (f:=p) (l:=l8) ((G9.mono (by simp)).trans (gs.mono (by simp))) fr8
 have Gb10:Grow [p] Hb (upd H9 l8 (.lst (xs8 ++ [V.ref t1]))):=Grow.shrink2 (f:=p) (l:=l8) (((Gb9.wk (m:=[p])).mono (by simp)).trans (gs.mono (by simp))) fb
 have hro10:=gs.sqT hro9
 have hrr10:=gs.sqT hrr9
 have s10:=gs.sqT s9
 have hl10:upd H9 l8 (.lst (xs8 ++ [V.ref t1])) l8 = some (.lst (xs8 ++ [V.ref t1])):=zd
 have pp10:Pot (upd H9 l8 (.lst (xs8 ++ [V.ref t1]))) p:=by
  obtain ⟨u0,u1,e,z⟩:=pp9
  exact ⟨u0,u1,by rw [zo np8]; exact e,z⟩
 have gd10:∀ v ∈ xs8 ++ [V.ref t1],G72 K p (upd H9 l8 (.lst (xs8 ++ [V.ref t1]))) v:=qM (YQ gd8 Gb10) (yC (G72.tup s10 (by omega) fun v hv=>by
  rcases yE v hv with h | ⟨b,rfl⟩
  ·exact h.e
  ·exact E72.bl b) Zj)
 have n10:(xs8 ++ [V.ref t1]).length = 17:=by rw [List.length_append,List.length_singleton]; omega
 generalize upd H9 l8 (.lst (xs8 ++ [V.ref t1])) = H10 at G10 hro10 hrr10 hl10 pp10 gd10 ⊢
 generalize xs8 ++ [V.ref t1] = xs10 at hl10 gd10 n10
 clear fb hl8 gd8 gb8 G8 hro8 hrr8 pp8 hro9 hrr9 G9 Gb9 pp9 hl9 s9 gs Gb10 g12 g1 g2 hl1 ht1 s10
 try dsimp only
 refine ⟨_,rfl,_,_,rfl,rfl,_,rfl,?_⟩
 by_cases c17:(c:Int) < 17
 ·refine yX (decide_eq_true c17) ?_
  have cv:c < xs10.length:=by omega
  refine ⟨_,rfl,_,rfl,_,rfl,ro,_,rfl,hro10,fun p1 K1 g1 h1=>⟨_,rfl,_,rfl,l8,_,_,xs10[c],rfl,rfl,SqL.of (g1.keep _ _ (by simp) hl10),zr (List.getElem?_eq_getElem cv),szl rfl,fun t2 ht2=>?_⟩⟩
  have gt2:=Grow.new (m:=[]) ht2 (.tup [xs10[c]])
  have v1:(cutV vs none (some (at0:Int))).length = at0:=by rw [Yo,List.length_take]; omega
  have v2:(cutV vs (some ((at0:Int) + 1)) none).length = os.length - (at0 + 1):=by rw [show (at0:Int) + 1 = ((at0 + 1:Nat):Int) from by omega,qA,List.length_drop]; omega
  refine ⟨p1,t2,_,_,rfl,rfl,gt2.sqT h1,SqT.of zd,le72 (by show _ + 1 <= 5000; omega),fun p3 K3 g3 h3=>?_⟩
  have Ga:=g1.trans (gt2.trans g3)
  refine ⟨_,rfl,_,rfl,_,_,rfl,rfl,_,rfl,ro,_,rfl,Ga.sqT hro10,fun p4 K4 g4 h4=>⟨p3,p4,_,_,rfl,rfl,g4.sqT h3,h4,?_,fun p5 K5 g5 h5=>?_⟩⟩
  ·exact le72 (by rw [List.length_append]; show _ + 1 + _ <= 5000; omega)
  have Gb:=Ga.trans (g4.trans g5)
  refine q _ _ (G10.trans Gb.wk) (pp10.grow Gb) (W75.tup h5 ?_ (qM (qM (fun v hv=>vg v (xC hv) (G10.trans Gb.wk)) (yC ((gd10 _ (List.getElem_mem cv)).grow Gb.wk) Zj)) fun v hv=>vg v (xC hv) (G10.trans Gb.wk)))
  rw [List.length_append,List.length_append]; show _ + 1 + _ <= 7; omega
 refine yZ (decide_eq_false c17) (yh ?_)
 have cv:=wM vs
 have vE:∀ {H':Hp},Grow [p] H H' -> ∀ v ∈ vs,G72 K p H' v:=fun g v hv=>vg v hv g
 refine ya (fun v H'=>∃ (l7:Addr) (xs:List V),v = .ref l7 /\ H' l7 = some (.lst xs) /\ xs.length = 10 /\ (∀ v ∈ xs,W75 K p H' v) /\ Grow [] H10 H') (fun Kk hk=>?_) ?_
 ·refine ⟨_,rfl,_,rfl,_,rfl,ro,_,rfl,hro10,fun p1 K1 g1 h1=>⟨_,rfl,szl rfl,fun t1 ht1=>⟨szl rfl,fun t2 ht2=>?_⟩⟩⟩
  have gt1:=Grow.new (m:=[]) ht1 (.tup [])
  have gt2:=Grow.new (m:=[]) ht2 (.tup [V.ref t1])
  have Ga:=g1.trans (gt1.trans gt2)
  refine ⟨ro,t2,_,_,rfl,rfl,Ga.sqT hro10,SqT.of zd,le72 (by show _ + 1 <= 5000; omega),fun p2 K2 g2 h2=>⟨_,rfl,ro,_,rfl,.inr ((Ga.trans g2).sqT hro10),fun l1 hl1 nl1=>?_⟩⟩
  have g3:=Grow.new (m:=[]) hl1 (.lst vs)
  have Gb:=Ga.trans (g2.trans g3)
  refine ⟨_,rfl,ro,_,rfl,Gb.sqT hro10,fun p4 hp4=>⟨szl rfl,fun t3 ht3=>?_⟩⟩
  have g4:=Grow.new (m:=[]) hp4 (.tup vs.reverse)
  have gt3:=Grow.new (m:=[]) ht3 (.tup [])
  have Gc:=Gb.trans (g4.trans gt3)
  refine ⟨[p],trivial,om (pp10.grow Gc),fun x1 K5 g5 o5=>⟨_,rfl,_,rfl,ro,_,rfl,(Gc.trans g5).sqT hro10,fun p6 K6 g6 h6=>⟨_,rfl,_,rfl,ro,_,rfl,(Gc.trans (g5.trans g6)).sqT hro10,fun p7 K7 g7 h7=>⟨p6,p7,_,_,rfl,rfl,g7.sqT h6,h7,?_,fun p8 K8 g8 h8=>⟨_,rfl,szl rfl,fun l9 hl9=>?_⟩⟩⟩⟩⟩
  ·have:=cv (some 1) none; have:=cv none (some 1); exact le72 (by omega)
  have g9:=Grow.new (m:=[]) hl9 (.lst [V.ref p1,V.ref p2,V.ref l1,V.non,V.ref p4,V.ref t3,x1,V.ref p8,V.int 0,V.ref rr])
  have gz:=g6.trans (g7.trans (g8.trans g9))
  have Gd:=Gc.trans (g5.trans gz)
  have GD:=G10.trans Gd.wk
  have w_cons:∀ {H':Hp} {x:V} {xs:List V},W75 K p H' x -> (∀ v ∈ xs,W75 K p H' v) -> ∀ v ∈ x :: xs,W75 K p H' v:=fun hx h v hv=>by
   rcases List.mem_cons.mp hv with rfl | hv
   ·exact hx
   ·exact h v hv
  refine hk _ _ ⟨l9,_,rfl,zd,rfl,w_cons ?_ (w_cons ?_ (w_cons ?_ (w_cons (W75.of_g (G72.of_e E72.non (fun _ z=>nomatch z)) (fun _ z=>nomatch z)) (w_cons ?_ (w_cons ?_ (w_cons (W75.dict0 (o5.grow gz.wk)) (w_cons ?_ (w_cons (W75.of_g (G72.of_e (E72.int (by decide)) (fun _ z=>nomatch z)) (fun _ z=>nomatch z)) (w_cons (W75.row (Gd.sqT hrr10) (by omega) o40) (fun _ h=>nomatch h)))))))))),Gd⟩
  ·exact W75.tup ((gt1.trans (gt2.trans (g2.trans (g3.trans (g4.trans (gt3.trans (g5.trans gz))))))).sqT h1) (by have:=cv none (some (-1)); omega) fun v hv=>vE GD v (xC hv)
  ·refine W75.tup ((g3.trans (g4.trans (gt3.trans (g5.trans gz)))).sqT h2) (by rw [List.length_append]; show _ + 1 <= 7; omega) (qM (vE GD) (yC (G72.tup ((gt2.trans (g2.trans (g3.trans (g4.trans (gt3.trans (g5.trans gz)))))).sqT (SqT.of zd)) (by decide) (fun _ h=>nomatch h)) Zj))
  ·exact W75.lst ((g4.trans (gt3.trans (g5.trans gz))).keep _ _ (by simp) zd) (pn (pp10.grow (Ga.trans g2)) hl1) nl1 (by omega) (vE GD)
  ·exact W75.tup ((gt3.trans (g5.trans gz)).sqT (SqT.of zd)) (by rw [List.length_reverse]; omega) fun v hv=>vE GD v (List.mem_reverse.mp hv)
  ·exact W75.tup ((g5.trans gz).sqT (SqT.of zd)) (by decide) (fun _ h=>nomatch h)
  ·refine W75.tup (g9.sqT h8) ?_ (qM (fun v hv=>vE GD v (xC hv)) fun v hv=>vE GD v (xC hv))
   have v1:(cutV vs (some 1) none).length = vs.length - 1:=by rw [show (1:Int) = ((1:Nat):Int) from rfl,qA,List.length_drop]
   have v2:(cutV vs none (some 1)).length <= 1:=by rw [show (1:Int) = ((1:Nat):Int) from rfl,Yo,List.length_take]; omega
   rw [List.length_append]; omega
 rintro _ H11 ⟨l9,ws,rfl,hl9,w10,wd,g11⟩
 refine ⟨_,rfl,_,rfl,_,_,rfl,p,10,rfl,rfl,pp10.grow g11,by decide,by decide,fun t H12 t0 t1 g12 pp12=>?_⟩
 obtain ⟨u,rfl⟩:=Int.eq_ofNat_of_zero_le t0
 have uv:u < ws.length:=by omega
 have np9:l9 ∉ [p]:=fun z=>by
  obtain ⟨_,_,e,_⟩:=pp10.grow g11
  rw [List.mem_singleton.mp z,e] at hl9; cases hl9; cases w10
 refine ⟨l9,_,_,ws[u],rfl,rfl,SqL.of (g12.keep _ _ np9 hl9),zr (List.getElem?_eq_getElem uv),q _ _ (G10.trans (g11.wk.trans g12)) pp12 ((wd _ (List.getElem_mem uv)).grow g12)⟩
theorem xW:FnScope ["_law_pot_here","_law_row_here","_law_left"] ["_law_pot_here","_law_row_here"] (zi (top 40)):=⟨rfl,rfl,rfl,by decide +kernel,rfl,by decide +kernel,by decide +kernel⟩
theorem v8 (F:Fun K "_law_shuffled" "_law_shuffled" (top 40) f fd) (B:Blt mg) (qc0:zk P w K mg base n "_law_take" ["_law_pot_here","_law_many"] (xJ K))     :
  FnOk P w K mg base CX0 (n + 1) f fd ["_law_pot_here","_law_row_here"] (uP K):=by
 refine F.ok xW zW (fun cdv A outer s H vs Q E hr h=>?_)
 obtain ⟨x,y,rfl,p,xs,rfl,pp,⟨r,rfl,hn⟩,hl,q⟩:=h
 refine ⟨_,(ze (zz (i:=2) xW.nd rfl (Or.inr rfl) (zJ yT rfl B.list vQ (za (pv 1) zb))) (zg (zq (zN (CSc.of (N':=["_law_k","_law_left","_law_pot_here"]) (sub:=[none,some 2,some 0]) (zi (top 40)) ["_law_pot_here","_law_row_here","_law_left"] rfl rfl (by decide +kernel) rfl) rfl (xx rfl B.range (za (zj zu rfl B.len xh (za (pv 1) zb)) zb)) (fun _ _ _ _ _ _=>zm (i:=0) (show (["_law_k","_law_left","_law_pot_here"]:List Str).Nodup by decide +kernel) rfl (Or.inl rfl)) (fun _ _ _ _ _ _=>zM) (fun _ _ _ _ _ _=>(WA (K:=K) rfl PySem.F.plainAttrs_list PySem.F.slot_list_pop PySem.F.type_list_pop jr (pv 1) (za (zf qc0 hr rfl (za (pv 2) (za (zj (rg (K:=K) rfl) rfl B.len xh (za (pv 1) zb)) zb))) zb))))))),?_⟩
 refine ⟨_,rfl,r,_,rfl,hn,fun l hl0=>?_⟩
 have gl:=Grow.new (m:=[p,l]) hl0 (.lst xs)
 have pl:p ≠ l:=fun z=>y4 pp hl0 (by rw [z]; simp)
 have pp0:=pp.grow (Grow.new hl0 (.lst xs))
 have hn0:SqL K (upd H l (.lst xs)) r xs \/ SqT K (upd H l (.lst xs)) r xs:=hn.imp (fun z=>(Grow.new (m:=[]) hl0 _).sqL z) fun z=>(Grow.new (m:=[]) hl0 _).sqT z
 have h0:upd H l (.lst xs) l = some (.lst xs):=zd
 generalize upd H l (.lst xs) = H0 at gl pp0 hn0 h0 ⊢
 refine ⟨_,rfl,r,_,rfl,hn0,_,rfl,by omega,by omega,sg (fun i ys H'=>∃ ms left:List V,ys = ms /\ ms.length = i /\ (ms ++ left).Perm xs /\ H' l = some (.lst left) /\ Grow [p,l] H0 H' /\ Pot H' p) ⟨[],xs,rfl,rfl,List.Perm.refl _,h0,Grow.refl _ _,pp0⟩ ?_ ?_⟩
 ·rintro i ys H1 hi ⟨_,left,rfl,ml,hp,hl1,g1,pp1⟩
  have hil:i < xs.length:=by
   have:=hi
   omega
  have hlen:=hp.length_eq
  rw [List.length_append] at hlen
  have ll:0 < left.length:=by omega
  refine ⟨_,rfl,.inl ⟨rfl,_,SqL.of hl1⟩,_,rfl,_,rfl,l,_,rfl,.inl (SqL.of hl1),_,_,rfl,p,_,rfl,rfl,pp1,by omega,Int.lt_of_le_of_lt (b:=100) (by omega) (by decide),fun j' H2 j0 j1 g2 pp2=>?_⟩
  obtain ⟨j,rfl⟩:=Int.eq_ofNat_of_zero_le j0
  have hj:j < left.length:=by omega
  have hl2:=g2.keep _ _ (by simpa using pl.symm) hl1
  refine ⟨l,left,_,j,left[j],rfl,rfl,hl2,by omega,Int.lt_of_le_of_lt (b:=100) (by omega) (by decide),?_,?_,lt72 (by omega),ys ++ [left[j]],left.eraseIdx j,rfl,by rw [List.length_append,List.length_singleton,ml],?_,?_,g1.trans ((g2.mono (by simp)).trans (Grow.set hl2 (by simp) _)),?_⟩
  ·exact PySem.StrLaws.seqIndex_nonneg (by omega) (by omega)
  ·exact List.getElem?_eq_getElem hj
  ·refine List.Perm.trans ?_ hp
   rw [List.append_assoc]
   exact List.Perm.append_left _ (vV hj)
  ·rw [zd]
  ·obtain ⟨u,w,e,z⟩:=pp2
   exact ⟨u,w,by rw [zo pl]; exact e,z⟩
 ·rintro ys H1 ⟨_,left,rfl,ml,hp,hl1,g1,pp1⟩ l' hl'
  have hlen:=hp.length_eq
  rw [List.length_append,ml] at hlen
  have e0:left = []:=List.length_eq_zero_iff.mp (by omega)
  subst e0
  rw [List.append_nil] at hp
  have n1:l' ∉ [p,l]:=fun z=>by
   rcases List.mem_cons.mp z with z | z
   ·exact y4 pp1 hl' (by rw [z]; simp)
   ·rw [List.mem_singleton.mp z,hl1] at hl'; cases hl'
  have G:=gl.trans (g1.trans (Grow.new hl' (.lst (ys))))
  exact q l' ys _ hp (Grow.shrink2 G hl0) (pp1.grow (Grow.new hl' _)) ((gl.trans g1).free n1 hl') (fun z=>n1 (by rw [z]; simp)) zd
theorem xO:FnScope ["_law_pot_here","_law_calls","_law_left","_law_value","_law_dead","_law_k","_law_rest","_law_row_here"] ["_law_pot_here","_law_calls","_law_left","_law_value","_law_dead"] (zi (top 52)):=⟨rfl,rfl,rfl,by decide +kernel,rfl,by decide +kernel,by decide +kernel⟩
theorem je (F:Fun K "_law_row" "_law_row" (top 52) f fd) (B:Blt mg) {N:Nat} (qc0:zk P w K mg base n "_law_shuffled" ["_law_pot_here","_law_row_here"] (uP K)) (qc1:zk P w K mg base n "_law_row" ["_law_pot_here","_law_calls","_law_left","_law_value","_law_dead"] (xL P w N K)) (qc2:zk P w K mg base n "_law_done" ["_law_deed_here","_law_value"] (vB K))  (g_any:mg "any" = none)   :
  FnOk P w K mg base CX0 (n + 1) f fd ["_law_pot_here","_law_calls","_law_left","_law_value","_law_dead"] (xL P w (N + 1) K):=by
 refine F.ok xO rZ (fun cdv A outer s H vs Q E hr h=>?_)
 obtain ⟨x,y,z,u,t,rfl,p,cs,left,v,dk,m,rfl,pp,hc,hn,rfl,rfl,ndp,hk,nd,lt,lN,l8,c40,big,q⟩:=h
 refine ⟨_,(ze (zV (zD (qK (K:=K) rfl hr) (pv 2) (zY zb) (zB _)) (zg (zq (zY zb))) zy) (ze (zV (vO (Ve (p1:=ptT) (p2:=ptI) (P:=P) (w:=w) (K:=K) rfl rfl rfl (Room.u2 hr) (zY (za (pv 2) (za (pv 3) zb))) (pv 4))) (zg (zq xQ)) zy) (ze (xT PassesOwn.never rfl (t7 (zf qc0 hr rfl (za (pv 0) (za (pv 2) zb)))) (zm (i:=5) xO.nd rfl (Or.inr rfl)) (zg (zV (PW.pt (vP (zD vw (zE z7 (zE z7 (pv 1) (pv 5) (fun _ _=>rfl)) zh (fun _ _=>rfl)) (pv 3) (zB _)) (wL (yp (zR (zj (w5 rfl) rfl g_any Z1 (za (zN (CSc.of (N':=["_law_j","_law_calls","_law_k"]) (sub:=[none,some 1,some 5]) (zi (top 52)) ["_law_pot_here","_law_calls","_law_left","_law_value","_law_dead","_law_k","_law_rest","_law_row_here"] rfl rfl (by decide +kernel) rfl) rfl (y8 (pv 2)) (fun _ _ _ _ _ _=>zm (i:=0) (show (["_law_j","_law_calls","_law_k"]:List Str).Nodup by decide +kernel) rfl (Or.inl rfl)) (fun _ _ _ _ _ _=>zM) (fun _ _ _ _ _ _=>(yz uj (zE (yN (K:=K) rfl) (zE (yN (K:=K) rfl) (pv 1) (pv 0) (fun _ _=>rfl)) zh (fun _ _=>rfl)) (zE (yN (K:=K) rfl) (zE (yN (K:=K) rfl) (pv 1) (pv 2) (fun _ _=>rfl)) zh (fun _ _=>rfl)) (zB _)))) zb))))))) (ze (zz (i:=6) xO.nd rfl (Or.inl rfl) (zJ zS rfl B.tuple z9 (za (zN (CSc.of (N':=["_law_j","_law_k"]) (sub:=[none,some 5]) (zi (top 52)) ["_law_pot_here","_law_calls","_law_left","_law_value","_law_dead","_law_k","_law_rest","_law_row_here"] rfl rfl (by decide +kernel) rfl) rfl (y8 (pv 2)) (fun _ _ _ _ _ _=>zm (i:=0) (show (["_law_j","_law_k"]:List Str).Nodup by decide +kernel) rfl (Or.inl rfl)) (fun _ _ _ _ _ _=>(ua (zD t8 (pv 0) (pv 1) (zB _)))) (fun _ _ _ _ _ _=>(pv 0))) zb))) (ze (zz (i:=7) xO.nd rfl (Or.inl rfl) (zf qc1 hr rfl (za (pv 0) (za (pv 1) (za (pv 6) (za (zf qc2 hr rfl (za (zE z7 (zE z7 (pv 1) (pv 5) (fun _ _=>rfl)) zh (fun _ _=>rfl)) (za (pv 3) zb))) (za (pv 4) zb))))))) (zg (zV (vO (ue (pv 7))) (zg (zq (zA (yn (K:=K) rfl) (zY (za (pv 5) zb)) (pv 7)))) zy)))) zy))) (ze (Wj (p1:=ptT) (p2:=ptI) (P:=P) (w:=w) (K:=K) rfl rfl rfl (Room.u2 hr) (pv 4) (zY (za (pv 2) (za (pv 3) zb))) yy rfl) (zg (zq xQ)))))),?_⟩
 obtain ⟨rc,xs,rfl,hrc,hall⟩:=id hc
 obtain ⟨rl,rfl,hrl⟩:=id hn
 refine yA (fun c H'=>c = (zp left).isEmpty /\ Grow [] H H') (fun Kk hk=>⟨_,rfl,szl rfl,fun t ht=>⟨rl,t,zp left,rfl,rfl,(Grow.new (m:=[]) ht _).sqT hrl,SqT.of zd,_,rfl,hk _ _ ⟨rfl,Grow.new ht _⟩⟩⟩) ?_
 rintro _ H1 ⟨rfl,g1⟩
 have pp1:=pp.grow g1
 have hk1:=hk.grow (ms:=[]) (by simp) g1
 by_cases hne:left = []
 ·subst hne
  refine iteT ⟨szl rfl,fun r hr=>?_⟩
  have gr:=Grow.new (m:=[]) hr (.tup [])
  exact q _ _ (g1.trans gr).wk (pp1.grow gr) ((hk1.grow (by simp) gr).mono (Nat.le_add_right _ _)) (fun z=>by cases z) fun _=>⟨[],⟨r,rfl,SqT.of zd⟩,List.Perm.refl _,rfl,rfl⟩
 have hE:(zp left).isEmpty = false:=by
  cases left with
  | nil=>exact absurd rfl hne
  | cons a l=>rfl
 rw [hE]
 refine iteF (yh ?_)
 have hlen:fz73 left.length = 1 + left.length * fz73 (left.length - 1):=by
  cases left with
  | nil=>exact absurd rfl hne
  | cons a l=>rfl
 have szl1:(1000000:Nat) < sizeLine:=by rw [sizeLine_eq]; decide
 have hrlI:∀ {ms:List Addr} {H':Hp},Grow ms H H' -> SqT K H' rl ((left.map fun k:Nat=>(k:Int)).map V.int):=fun g=>by rw [← zU]; exact g.sqT hrl
 refine yA (fun c H'=>(c = true -> zZ cs left v = false) /\ Grow [] H1 H') (fun Kk hk2=>⟨_,rfl,_,rfl,szl rfl,fun tk htk=>?_⟩) ?_
 ·have gk:=Grow.new (m:=[]) htk (.tup [V.ref rl,.int v])
  have g2:=g1.trans gk
  obtain ⟨kvs,h1,h2,h3,h4⟩:=hk1.grow (by simp) gk
  have kat:KAt ptT ptI K (upd H1 tk (.tup [V.ref rl,.int v])) (left.map (fun k:Nat=>(k:Int)),v) tk:=⟨_,_,SqT.of zd,⟨rl,rfl,hrlI g2⟩,rfl⟩
  refine ⟨_,rfl,dk,kvs,_,tk,rfl,rfl,.inl h1,h2,kat,_,rfl,hk2 _ _ ⟨fun z=>?_,gk⟩⟩
  cases e:valV (kvs.map prV) (left.map (fun k:Nat=>(k:Int)),v) with
  | some y=>exact tX h3 y e
  | none=>rw [e] at z; cases z
 rintro c H2 ⟨hcan0,g2⟩
 have G2:=g1.trans g2
 have pp2:=pp1.grow g2
 have hk2:=hk1.grow (ms:=[]) (by simp) g2
 cases c with
 | true =>
  exact iteT (q _ _ G2.wk pp2 (hk2.mono (Nat.le_add_right _ _)) (fun _=>rfl) fun z=>by rw [hcan0 rfl] at z; cases z)
 | false =>
 refine iteF (yh ?_)
 refine ⟨_,rfl,_,rfl,_,_,rfl,p,zp left,rfl,pp2,⟨rl,rfl,.inr (G2.sqT hrl)⟩,by rw [zw]; omega,fun l zs H3 hz g3 pp3 nl nlp hl3=>?_⟩
 obtain ⟨ms,hms,rfl⟩:=uO hz
 have G3:Grow [p,dk] H H3:=(G2.wk.trans g3).mono (by simp)
 have hk3:=hk2.grow (ms:=[p]) (by simp [ndp]) g3
 have nld:l ≠ dk:=fun z=>by
  obtain ⟨kvs,h1,_⟩:=hk2
  rw [← z,nl] at h1; cases h1
 have msl:=hms.length_eq
 refine ⟨l,rfl,⟨_,SqL.of hl3⟩,jk (xs:=zp ms) (fun i σ H'=>∃ (e5 e6 e7:Option V),σ = [some (.ref p),some (.ref rc),some (.ref rl),some (.int v),some (.ref dk),e5,e6,e7] /\ Grow [p,dk] H H' /\ Grow [p,dk] H3 H' /\ Pot H' p /\ xn P w K cs dk (m + i * fz73 (left.length - 1)) H' /\ ((ms.take i).any fun k=>yH cs left v k && zZ cs (wo73 left k) ((cg cs k).deed.mk' v)) = false) ⟨_,_,_,rfl,G3,Grow.refl _ _,pp3,hk3.mono (Nat.le_add_right _ _),rfl⟩ (fun i σ H' _ z=>by obtain ⟨_,_,_,_,_,g,_⟩:=z; exact SqL.of (g.keep _ _ (by simp [nlp,nld]) hl3)) ?_ ?_⟩
 ·rintro i x σ J1 hx ⟨e5,e6,e7,rfl,f1,fl1,ppi,kn1,hno⟩
  obtain ⟨k,hki,rfl⟩:=yj hx
  have hi:=(List.getElem?_eq_some_iff.mp hki).1
  have km:=hms.mem_iff.mp (List.mem_of_getElem? hki)
  have hk':=(lt k km).1
  obtain ⟨z,hz,rz,rd,rfl,sz,sd⟩:=hall.getR (List.getElem?_eq_getElem hk')
  have ec:cg cs k = cs[k]:=yB (List.getElem?_eq_getElem hk')
  rw [← ec] at sz sd
  have step:(ms.take (i + 1)).any (fun k=>yH cs left v k && zZ cs (wo73 left k) ((cg cs k).deed.mk' v)) = ((ms.take i).any (fun k=>yH cs left v k && zZ cs (wo73 left k) ((cg cs k).deed.mk' v)) || (yH cs left v k && zZ cs (wo73 left k) ((cg cs k).deed.mk' v))):=by
   rw [yP hki,List.any_append,List.any_cons,List.any_nil,Bool.or_false]
  have wl:=vm nd km
  have mul:i * fz73 (left.length - 1) + fz73 (left.length - 1) <= left.length * fz73 (left.length - 1):=by
   have:=Nat.mul_le_mul_right (fz73 (left.length - 1)) (show i + 1 <= left.length by omega)
   rwa [Nat.add_mul,Nat.one_mul] at this
  have kn1':xn P w K cs dk (m + (i + 1) * fz73 (left.length - 1)) J1:=kn1.mono (by rw [Nat.add_mul]; omega)
  try dsimp only
  refine ⟨_,rfl,_,rfl,rc,_,_,.ref rz,rfl,rfl,f1.sqT hrc,zr hz,rz,_,5,.int (cg cs k).answer,rfl,rfl,f1.sqT sz,zr (j:=5) rfl,_,rfl,rfl,_,rfl,?_⟩
  have stay:∀ {σ':L2.St} {H':Hp} (e6 e7:Option V),σ' = [some (.ref p),some (.ref rc),some (.ref rl),some (.int v),some (.ref dk),some (.int (k:Int)),e6,e7] -> Grow [p,dk] H H' -> Grow [p,dk] H3 H' -> Pot H' p -> xn P w K cs dk (m + (i + 1) * fz73 (left.length - 1)) H' -> (yH cs left v k && zZ cs (wo73 left k) ((cg cs k).deed.mk' v)) = false -> ∃ (e5 e6 e7:Option V),σ' = [some (.ref p),some (.ref rc),some (.ref rl),some (.int v),some (.ref dk),e5,e6,e7] /\ Grow [p,dk] H H' /\ Grow [p,dk] H3 H' /\ Pot H' p /\ xn P w K cs dk (m + (i + 1) * fz73 (left.length - 1)) H' /\ ((ms.take (i + 1)).any fun k=>yH cs left v k && zZ cs (wo73 left k) ((cg cs k).deed.mk' v)) = false:=fun e6 e7 h1 h2 h3 h4 h5 h6=>⟨_,e6,e7,h1,h2,h3,h4,h5,by rw [step,hno,h6]; rfl⟩
  by_cases ca:(cg cs k).answer = v
  ·refine yX (decide_eq_true (congrArg V.int ca)) ?_
   refine ⟨_,rfl,rl,rfl,⟨_,f1.sqT hrl⟩,ye (xs:=zp left) (fun j ys H'=>Grow [] J1 H' /\ ys = ((left.take j).map fun j=>decide ((cg cs j).ended < (cg cs k).begun)).map V.bl) ⟨Grow.refl _ _,rfl⟩ (fun j ys H' z=>z.1.sqT (f1.sqT hrl)) ?_ ?_⟩
   ·rintro j x ys J2 hx2 ⟨f2,rfl⟩
    obtain ⟨n,hnj,rfl⟩:=yj hx2
    have hn':=(lt n (List.mem_of_getElem? hnj)).1
    have hj:=(List.getElem?_eq_some_iff.mp hnj).1
    obtain ⟨z2,hz2,rz2,rd2,rfl,sz2,_⟩:=hall.getR (List.getElem?_eq_getElem hn')
    have ec2:cg cs n = cs[n]:=yB (List.getElem?_eq_getElem hn')
    rw [← ec2] at sz2
    have G:=f1.trans f2.wk
    refine ⟨_,rfl,_,rfl,rc,_,_,.ref rz2,rfl,rfl,G.sqT hrc,zr hz2,rz2,_,4,.int (cg cs n).ended,rfl,rfl,G.sqT sz2,zr (j:=4) rfl,_,rfl,_,rfl,rc,_,_,.ref rz,rfl,rfl,G.sqT hrc,zr hz,rz,_,3,.int (cg cs k).begun,rfl,rfl,G.sqT sz,zr (j:=3) rfl,_,_,rfl,rfl,?_,f2,?_⟩
    ·rw [List.length_map,List.length_map,List.length_take]
     exact lt72 (by omega)
    ·rw [yP hnj,List.map_append,List.map_append]; rfl
   ·rintro ys J2 ⟨f2,rfl⟩ l2 hl2
    rw [zw,List.take_length]
    have gl:=Grow.new (m:=[]) hl2 (.lst ((left.map fun j=>decide ((cg cs j).ended < (cg cs k).begun)).map V.bl))
    have hl22:=zd (H:=J2) (a:=l2) (o:=.lst ((left.map fun j=>decide ((cg cs j).ended < (cg cs k).begun)).map V.bl))
    have f3:=f1.trans (f2.trans gl).wk
    have pp3:=ppi.grow (f2.trans gl)
    have fl3:=fl1.trans (f2.trans gl).wk
    have kn3:=kn1.grow (ms:=[]) (by simp) (f2.trans gl)
    have kn3':=kn1'.grow (ms:=[]) (by simp) (f2.trans gl)
    generalize upd J2 l2 _ = J3 at gl hl22 f3 kn3 kn3' pp3 fl3 ⊢
    refine ⟨l2,_,rfl,SqL.of hl22,_,rfl,?_⟩
    have ea:(left.map fun j=>decide ((cg cs j).ended < (cg cs k).begun)).any id = left.any fun j=>decide ((cg cs j).ended < (cg cs k).begun):=by rw [List.any_map]; rfl
    rw [ea]
    have ec0:yH cs left v k = !(left.any fun j=>decide ((cg cs j).ended < (cg cs k).begun)):=by unfold yH; rw [decide_eq_true ca,Bool.true_and]
    cases hb:left.any fun j=>decide ((cg cs j).ended < (cg cs k).begun) with
    | true =>
     refine iteF ?_
     exact stay e6 e7 rfl f3 fl3 pp3 kn3' (by rw [ec0,hb]; rfl)
    | false =>
     refine iteT ?_
     have hrlI:SqT K J3 rl ((left.map fun k:Nat=>(k:Int)).map V.int):=by rw [← zU]; exact f3.sqT hrl
     refine ya (fun v H'=>yO K H' v (wo73 left k) /\ Grow [] J3 H') (fun Kk hk2=>⟨_,rfl,rl,rfl,⟨_,hrlI⟩,tF (pI fun j=>!decide (j = (k:Int))) id hrlI (by rw [List.length_map,List.length_map]; omega) ?_ ?_ ?_⟩) ?_
     ·rintro x J4 R hx4 f4 kk
      obtain ⟨j,hj,rfl⟩:=List.mem_map.mp hx4
      refine ⟨_,rfl,_,rfl,rfl,_,rfl,?_⟩
      have:(!decide (V.int j = V.int (k:Int))) = pI (fun j=>!decide (j = (k:Int))) (V.int j):=by
       show _ = !decide (j = (k:Int))
       congr 1
       exact decide_eq_decide.mpr ⟨V.int.inj,congrArg V.int⟩
      rw [this]
      exact kk _ (Grow.refl _ _)
     ·rintro x J4 R hx4 _ f4 kk
      exact ⟨_,rfl,kk _ (Grow.refl _ _)⟩
     ·rintro J4 l4 f4 hl4
      rw [Yg]
      have ef:((left.map fun k:Nat=>(k:Int)).filter fun j=>!decide (j = (k:Int))) = (wo73 left k).map fun k:Nat=>(k:Int):=by
       unfold wo73
       rw [List.filter_map]
       congr 1
       refine List.filter_congr fun j _=>?_
       show (!decide ((j:Int) = (k:Int))) = !decide (j = k)
       congr 1
       exact decide_eq_decide.mpr ⟨fun h=>Int.ofNat.inj h,fun h=>by rw [h]⟩
      rw [ef,← zU]
      exact ⟨l4,_,rfl,.inl ⟨SqL.of zd,fun r hr=>hk2 _ _ ⟨⟨r,rfl,SqT.of zd⟩,f4.trans ((Grow.new hl4 _).trans (Grow.new hr _))⟩⟩⟩
     rintro vr J4 ⟨hvr,f4⟩
     have f34:=f3.trans f4.wk
     have pp4:=pp3.grow f4
     have kn4:=kn3.grow (ms:=[]) (by simp) f4
     refine ya (fun v' H'=>(zZ cs (wo73 left k) ((cg cs k).deed.mk' v) = false -> v' = .non) /\ (zZ cs (wo73 left k) ((cg cs k).deed.mk' v) = true -> ∃ o,yO K H' v' o /\ Rw75 cs (wo73 left k) ((cg cs k).deed.mk' v) o) /\ Grow [p,dk] J4 H' /\ Pot H' p /\ xn P w K cs dk (m + (i + 1) * fz73 (left.length - 1)) H') (fun Kk hk3=>⟨_,rfl,_,rfl,_,rfl,_,rfl,_,rfl,rc,_,_,.ref rz,rfl,rfl,f34.sqT hrc,zr hz,rz,_,2,.ref rd,rfl,rfl,f34.sqT sz,zr (j:=2) rfl,_,rfl,_,_,rfl,(cg cs k).deed,v,⟨rd,rfl,f34.sqT sd⟩,rfl,_,rfl,_,_,_,_,_,rfl,p,cs,wo73 left k,(cg cs k).deed.mk' v,dk,m + i * fz73 (left.length - 1),rfl,pp4,f34.calls72 hc,hvr,rfl,rfl,ndp,kn4,xF nd,(fun j hj=>lt j (yS.mp hj).1),by omega,by omega,c40,?_,fun v' J5 f5 pp5 kn5 z1 z2=>hk3 _ _ ⟨z1,z2,f5,pp5,?_⟩⟩) ?_
     ·rw [show (wo73 left k).length = left.length - 1 by omega]; omega
     ·rw [show (wo73 left k).length = left.length - 1 by omega] at kn5
      exact kn5.mono (by rw [Nat.add_mul]; omega)
     rintro vo J5 ⟨z1,z2,f5,pp5,kn5⟩
     have f35:=f34.trans f5
     cases hcan:zZ cs (wo73 left k) ((cg cs k).deed.mk' v) with
     | false =>
      obtain rfl:=z1 hcan
      refine ⟨_,rfl,_,rfl,yZ rfl ?_⟩
      exact stay _ _ rfl f35 (fl3.trans (f4.wk.trans f5)) pp5 kn5 (by rw [hcan,Bool.and_false])
     | true =>
      obtain ⟨o,⟨r,rfl,hr⟩,o1,o2,o3⟩:=z2 hcan
      have hb':=hb
      rw [List.any_eq_false] at hb'
      have hcv:zZ cs left v = true:=by
       rw [wT hne nd]
       exact List.any_eq_true.mpr ⟨k,km,by rw [ec0,hb,hcan]; rfl⟩
      have ol:o.length <= 8:=by rw [o1.length_eq]; omega
      refine ⟨_,rfl,_,rfl,yX rfl ⟨_,rfl,szl rfl,fun t1 ht1=>⟨_,rfl,t1,r,_,_,rfl,rfl,SqT.of zd,(Grow.new (m:=[]) ht1 _).sqT hr,le72 (by rw [zw]; show 1 + _ <= 5000; omega),fun r2 J6 f6 hr2=>?_⟩⟩⟩
      have f16:=(Grow.new (m:=[]) ht1 (.tup [.int k])).trans f6
      refine q _ _ (f35.trans f16.wk) (pp5.grow f16) ((kn5.grow (ms:=[]) (by simp) f16).mono (by have:=mul; rw [hlen,Nat.add_mul]; omega)) (fun z=>by rw [hcv] at z; cases z) fun _=>⟨k :: o,⟨r2,rfl,hr2⟩,?_,?_,?_⟩
      ·refine wg (List.nodup_cons.mpr ⟨fun z=>(yS.mp (o1.mem_iff.mp z)).2 rfl,o1.nodup_iff.mpr (xF nd)⟩) (fun j hj=>?_) (by rw [List.length_cons,o1.length_eq]; omega)
       rcases List.mem_cons.mp hj with rfl | hj
       ·exact km
       ·exact (yS.mp (o1.mem_iff.mp hj)).1
      ·refine yD.mpr (List.pairwise_cons.mpr ⟨fun j hj=>?_,yD.mp o2⟩)
       have:=hb' j (yS.mp (o1.mem_iff.mp hj)).1
       unfold NA73
       simpa using this
      ·show (if v = (cg cs k).answer then wp cs ((cg cs k).deed.mk' (cg cs k).answer) o else false) = true
       rw [if_pos ca.symm,ca]
       exact o3
  ·refine yZ (decide_eq_false fun z=>ca (V.int.inj z)) (iteF ?_)
   refine stay e6 e7 rfl f1 fl1 ppi kn1' ?_
   unfold yH
   rw [decide_eq_false ca]; rfl
 ·rintro σ J1 ⟨e5,e6,e7,rfl,f1,fl1,ppi,kn1,hno⟩
  rw [zw] at kn1
  rw [zw,List.take_length] at hno
  have hcv:zZ cs left v = false:=by
   rw [wT hne nd,Bool.eq_false_iff]
   intro z
   obtain ⟨k,hk1,hk2⟩:=List.any_eq_true.mp z
   have:=List.any_eq_false.mp hno k (hms.mem_iff.mpr hk1)
   exact this hk2
  refine ⟨_,rfl,_,rfl,_,rfl,szl rfl,fun tk2 htk2=>?_⟩
  have gk2:=Grow.new (m:=[]) htk2 (.tup [V.ref rl,.int v])
  have f4:=f1.trans gk2.wk
  obtain ⟨kv3,d1,d2,d3,d4⟩:=kn1.grow (ms:=[]) (by simp) gk2
  have kat2:KAt ptT ptI K (upd J1 tk2 (.tup [V.ref rl,.int v])) (left.map (fun k:Nat=>(k:Int)),v) tk2:=⟨_,_,SqT.of zd,⟨rl,rfl,hrlI f4⟩,rfl⟩
  obtain ⟨gs,dd⟩:=ZB (P:=P) (w:=w) d1 d2 d3 d4 kat2 hcv (.bl true)
  have msl':ms.length * fz73 (left.length - 1) = left.length * fz73 (left.length - 1):=by rw [msl]
  refine ⟨dk,kv3,_,tk2,rfl,rfl,d1,d2,kat2,by omega,?_⟩
  have ppe:=ppi.grow gk2
  refine q _ _ (f4.trans (gs.mono (by simp))) ?_ (dd.mono (by omega)) (fun _=>rfl) fun z=>by rw [hcv] at z; cases z
  obtain ⟨u0,u1,e,z⟩:=ppe
  exact ⟨u0,u1,gs.keep _ _ (by simp [Ne.symm ndp]) e,z⟩
theorem yW:FnScope ["_law_pot_here","_law_board","_law_calls","_law_found","_law_box","_law_value","_law_left"] ["_law_pot_here","_law_board","_law_calls"] (zi (top 53)):=⟨rfl,rfl,rfl,by decide +kernel,rfl,by decide +kernel,by decide +kernel⟩
theorem qj (F:Fun K "_law_rows" "_law_rows" (top 53) f fd) (B:Blt mg) (qc0:zk P w K mg base n "_law_row" ["_law_pot_here","_law_calls","_law_left","_law_value","_law_dead"] (xL P w 9 K))  (g_enumerate:mg "enumerate" = none)   :
  FnOk P w K mg base CX0 (n + 1) f fd ["_law_pot_here","_law_board","_law_calls"] (r0 K):=by
 refine F.ok yW xI (fun cdv A outer s H vs Q E hr h=>?_)
 obtain ⟨x,y,z,rfl,p,b,cs,rfl,pp,hb,b16,hc,ok,q⟩:=h
 refine ⟨_,(ze (zz (i:=3) yW.nd rfl (Or.inl rfl) (yM zb)) (ze (xT PassesOwn.never rfl (xk true (K:=K) rfl rfl g_enumerate (za (pv 1) zb)) (xi rfl (zn (zm (i:=4) yW.nd rfl (Or.inr rfl)) (zn (zm (i:=5) yW.nd rfl (Or.inl rfl)) yk))) (ze (zz (i:=6) yW.nd rfl (Or.inl rfl) (zJ zS rfl B.tuple z9 (za (zN (CSc.of (N':=["_law_k","_law_call","_law_box"]) (sub:=[none,none,some 4]) (zi (top 53)) ["_law_pot_here","_law_board","_law_calls","_law_found","_law_box","_law_value","_law_left"] rfl rfl (by decide +kernel) rfl) rfl (xk true (K:=K) rfl rfl g_enumerate (za (pv 2) zb)) (fun _ _ _ _ _ _=>uu (K:=K) 2 rfl rfl (zn (zm (i:=0) (show (["_law_k","_law_call","_law_box"]:List Str).Nodup by decide +kernel) rfl (Or.inl rfl) (Or.inr rfl)) (zn (zm (i:=1) (show (["_law_k","_law_call","_law_box"]:List Str).Nodup by decide +kernel) rfl (Or.inl rfl) (Or.inr rfl)) yk)) rfl rfl) (fun _ _ _ _ _ _=>(ua (zD vw (zE (yN (K:=K) rfl) (pv 1) zh (fun _ _=>rfl)) (pv 2) (zB _)))) (fun _ _ _ _ _ _=>(pv 0))) zb))) (zg (xX (sV PySem.F.plainAttrs_list PySem.F.slot_list_append PySem.F.type_list_append x8 (pv 3) (za (zf qc0 hr rfl (za (pv 0) (za (pv 2) (za (pv 6) (za (pv 5) (za (Wi (P:=P) (w:=w) ptT ptI rfl rfl) zb rj)))))) zb)))))) (zg (zq (zJ zS rfl B.tuple z9 (za (pv 3) zb)))))),?_⟩
 obtain ⟨rb,rfl,hrb⟩:=id hb
 obtain ⟨rc,xs,rfl,hrc,hall⟩:=id hc
 have xl:=hall.len
 have c40:=ok.len
 refine ya (fun v H'=>∃ l0:Addr,v = .ref l0 /\ H l0 = none /\ H' l0 = some (.lst []) /\ Grow [] H H') (fun Kk hk=>⟨szl rfl,fun l0 hl0=>hk _ _ ⟨l0,rfl,hl0,zd,Grow.new hl0 _⟩⟩) ?_
 rintro _ H0 ⟨l0,rfl,nl0,hl0,g0⟩
 have npl:l0 ≠ p:=fun z=>y4 pp nl0 (by rw [z]; simp)
 refine ⟨_,rfl,rb,_,rfl,g0.sqT hrb,ut (c:=true) (xs:=b.map V.int) (fun i σ H'=>∃ (e4 e5 e6:Option V) (ys:List V),σ = [some (.ref p),some (.ref rb),some (.ref rc),some (.ref l0),e4,e5,e6] /\ H' l0 = some (.lst ys) /\ AllR (fun v x=>wI K H' b cs x v) ys (List.range i) /\ Grow [p,l0] H H' /\ Pot H' p) ⟨_,_,_,[],rfl,hl0,trivial,g0.wk,pp.grow g0⟩ (fun i σ H' _ z=>by obtain ⟨_,_,_,_,_,_,_,g,_⟩:=z; exact (g.sqT hrb:SqT K H' rb _)) ?_ ?_⟩
 ·rintro i v σ H1 T hv ⟨e4,e5,e6,ys,rfl,hy,hr,g1,pp1⟩ hT
  rw [List.getElem?_map] at hv
  obtain ⟨bv,hbv,rfl⟩:=Option.map_eq_some_iff.mp hv
  have hi:=(List.getElem?_eq_some_iff.mp hbv).1
  have eb:b.getD i 0 = bv:=by rw [List.getD_eq_getElem?_getD,hbv]; rfl
  have gT:=Grow.new (m:=[]) hT (.tup [.int i,.int bv])
  have hTT:=zd (H:=H1) (a:=T) (o:=.tup [.int i,.int bv])
  have g2:=g1.trans gT.wk
  have pp2:=pp1.grow gT
  have g12:Grow [p,l0] H1 _:=gT.wk
  have hy2:=gT.keep _ _ (by simp) hy
  generalize upd H1 T _ = H2 at gT hTT g2 pp2 g12 hy2 ⊢
  refine ⟨T,_,rfl,SqT.of hTT,rfl,_,_,rfl,_,_,rfl,rfl,?_⟩
  try dsimp only
  refine ya (fun v H'=>yO K H' v (nb73 cs i) /\ Grow [] H2 H') (fun Kk hk=>⟨_,rfl,rc,_,rfl,g2.sqT hrc,xA (c:=true) (xs:=xs) (fun j ys σ' H'=>(∃ e0 e1:Option V,σ' = [e0,e1,some (.int (i:Int))]) /\ Grow [] H2 H' /\ ys = zp ((List.range j).filter (yL cs i))) ⟨⟨_,_,rfl⟩,Grow.refl _ _,rfl⟩ (fun j ys σ' H' z=>((g2.trans z.2.1.wk).sqT hrc:SqT K H' rc xs)) ?_ ?_⟩) ?_
  ·rintro j v ys σ' H3 T3 hv3 ⟨⟨e0,e1,rfl⟩,g3,rfl⟩ hT3
   obtain ⟨c,hci,hcat⟩:=hall.get hv3
   have hj:=(List.getElem?_eq_some_iff.mp hci).1
   obtain ⟨rz,rd,rfl,sz,_⟩:=(g2.trans g3.wk).call72 hcat
   have gT3:=Grow.new (m:=[]) hT3 (.tup [.int j,.ref rz])
   have hTT3:=zd (H:=H3) (a:=T3) (o:=.tup [.int j,.ref rz])
   have sz3:=gT3.sqT sz
   generalize upd H3 T3 _ = H4 at gT3 hTT3 sz3 ⊢
   refine ⟨T3,_,rfl,SqT.of hTT3,rfl,_,_,rfl,_,_,rfl,rfl,?_⟩
   refine ⟨_,rfl,rz,_,1,.int c.box,rfl,rfl,sz3,zr (j:=1) rfl,_,rfl,rfl,_,rfl,?_⟩
   have small:(zp ((List.range j).filter (yL cs i))).length < sizeLine:=by
    rw [zw]
    have:=List.length_filter_le (yL cs i) (List.range j)
    rw [List.length_range] at this
    exact lt72 (by omega)
   by_cases cb:c.box = (i:Int)
   ·refine yX (decide_eq_true (congrArg V.int cb)) ⟨_,rfl,small,⟨_,_,rfl⟩,g3.trans gT3,?_⟩
    rw [wo,yB hci,if_pos cb,xB]; rfl
   ·refine yZ (decide_eq_false fun z=>cb (V.int.inj z)) ⟨⟨_,_,rfl⟩,g3.trans gT3,?_⟩
    rw [wo,yB hci,if_neg cb,List.append_nil]
  ·rintro ys σ' H3 ⟨_,g3,rfl⟩ l hl
   rw [xl]
   exact ⟨l,_,rfl,.inl ⟨SqL.of zd,fun r hr=>hk _ _ ⟨⟨r,rfl,SqT.of zd⟩,g3.trans ((Grow.new hl _).trans (Grow.new hr _))⟩⟩⟩
  rintro vl H3 ⟨hvl,g3⟩
  have few:=ok.few i
  rw [← wA] at few
  have fz:=Vj few
  have pp3:=pp2.grow g3
  have hy3:=g3.keep _ _ (by simp) hy2
  refine ⟨_,rfl,.inl ⟨rfl,_,SqL.of hy3⟩,_,rfl,_,rfl,_,rfl,_,rfl,fun dk hdk=>?_⟩
  have gd:=Grow.new (m:=[]) hdk (ndO ptT ptI P w dk [])
  have ndl:dk ≠ l0:=fun z=>by rw [z,hy3] at hdk; cases hdk
  have ndp:dk ≠ p:=fun z=>y4 pp3 hdk (by rw [z]; simp)
  refine ⟨_,_,_,_,_,rfl,p,cs,nb73 cs i,bv,dk,0,rfl,pp3.new hdk _,(g2.trans (g3.trans gd).wk).calls72 hc,hvl.grow gd,rfl,rfl,ndp,⟨[],zd,nofun,nofun,Nat.le_refl _⟩,wz,(fun k hk=>⟨(yf.mp hk).1,(xK ok k (yf.mp hk).1).2.2⟩),by omega,few,c40,by omega,fun v' H4 g4 pp4 _ z1 z2=>?_⟩
  have g34:Grow [p] H3 H4:=Grow.shrinkTo (m':=[p]) (fun a ha=>by
   rcases List.mem_cons.mp ha with h | h
   ·exact .inl (by rw [h]; simp)
   ·exact .inr (by rw [List.mem_singleton.mp h]; exact hdk)) (gd.wk.trans g4)
  have hy4:=g34.keep _ _ (by simp [npl]) hy3
  have gs:=Grow.set (m:=[p,l0]) hy4 (by simp) (ys ++ [v'])
  have ga:Grow [p,l0] H1 _:=g12.trans (g3.wk.trans ((g34.mono (by simp)).trans gs))
  have yl:ys.length = i:=by have:=hr.len; rwa [List.length_range] at this
  refine ⟨l0,ys,v',rfl,rfl,hy4,lt72 (by omega),⟨_,_,_,ys ++ [v'],rfl,zd,?_,g1.trans ga,?_⟩⟩
  ·rw [List.range_succ]
   refine AllR.app (hr.imp fun _ _ z=>wI.grow z ga) (AllR.one (wI.grow ⟨fun z=>z1 (by rw [← eb]; exact z),fun z=>?_⟩ gs))
   obtain ⟨o,h1,h2⟩:=z2 (by rw [← eb]; exact z)
   exact ⟨o,h1,by rw [eb]; exact h2⟩
  ·obtain ⟨w0,w1,e,z⟩:=pp4
   exact ⟨w0,w1,by rw [zo (Ne.symm npl)]; exact e,z⟩
 ·rintro σ H1 ⟨e4,e5,e6,ys,rfl,hy,hr,g1,pp1⟩
  rw [List.length_map] at hr
  refine ⟨_,rfl,l0,ys,rfl,.inl ⟨SqL.of hy,fun r hr'=>?_⟩⟩
  have gn:=Grow.new (m:=[]) hr' (.tup ys)
  exact q r ys _ ((Grow.shrink2 g1 nl0).trans gn.wk) (pp1.new hr' _) (SqT.of zd) (hr.imp fun _ _ z=>wI.grow z gn)
theorem xP:FnScope ["_law_pot_here","_law_some","_law_places","_law_calls"] ["_law_pot_here","_law_some"] (zi (top 46)):=⟨rfl,rfl,rfl,by decide +kernel,rfl,by decide +kernel,by decide +kernel⟩
theorem sM (F:Fun K "_law_mixed" "_law_mixed" (top 46) f fd) (B:Blt mg) (qc0:zk P w K mg base n "_law_shuffled" ["_law_pot_here","_law_row_here"] (uP K))     :
  FnOk P w K mg base CX0 (n + 1) f fd ["_law_pot_here","_law_some"] (tN K):=by
 refine F.ok xP zW (fun cdv A outer s H vs Q E hr h=>?_)
 obtain ⟨x,y,rfl,p,l,xs,cs,rfl,rfl,pp,hl,lp,ha,h40,q⟩:=h
 refine ⟨_,(ze (zz (i:=2) xP.nd rfl (Or.inr rfl) (zf qc0 hr rfl (za (pv 0) (za (vT rfl rfl B.list rfl B.range (za (zj zu rfl B.len xh (za (pv 1) zb)) zb)) zb)))) (ze (zz (i:=3) xP.nd rfl (Or.inl rfl) (zJ zS rfl B.tuple z9 (za (zN (CSc.of (N':=["_law_j","_law_some"]) (sub:=[none,some 1]) (zi (top 46)) ["_law_pot_here","_law_some","_law_places","_law_calls"] rfl rfl (by decide +kernel) rfl) rfl (t7 (pv 2)) (fun _ _ _ _ _ _=>zm (i:=0) (show (["_law_j","_law_some"]:List Str).Nodup by decide +kernel) rfl (Or.inl rfl)) (fun _ _ _ _ _ _=>zM) (fun _ _ _ _ _ _=>(zE (jy (K:=K) rfl) (pv 1) (pv 0) (fun _ _=>rfl)))) zb))) (zg (zq (zY (za (pv 3) (za (zJ qH rfl B.tuple z9 (za (zN (CSc.of (N':=["_law_j","_law_places"]) (sub:=[none,some 2]) (zi (top 46)) ["_law_pot_here","_law_some","_law_places","_law_calls"] rfl rfl (by decide +kernel) rfl) rfl (xx rfl B.range (za (zj zu rfl B.len xh (za (pv 1) zb)) zb)) (fun _ _ _ _ _ _=>zm (i:=0) (show (["_law_j","_law_places"]:List Str).Nodup by decide +kernel) rfl (Or.inl rfl)) (fun _ _ _ _ _ _=>zM) (fun _ _ _ _ _ _=>(WA (K:=K) rfl PySem.F.plainAttrs_list PySem.F.slot_list_index PySem.F.type_list_index (jC (K:=K) rfl) (pv 1) (za (pv 0) zb)))) zb)) zb))))))),?_⟩
 have xl:=ha.len
 refine ya (fun v H'=>∃ (l2:Addr) (ms:List Nat),v = .ref l2 /\ ms.Perm (List.range cs.length) /\ H' l2 = some (.lst (zp ms)) /\ l2 ≠ p /\ Grow [p] H H' /\ Pot H' p) (fun Kk hk=>⟨_,rfl,_,rfl,l,_,rfl,.inl (SqL.of hl),xs.length,rfl,by omega,fun l1 hl1=>⟨_,_,rfl,p,zp (List.range xs.length),rfl,pp.grow (Grow.new hl1 _),⟨l1,rfl,.inl (SqL.of zd)⟩,by rw [zw,List.length_range]; omega,fun l2 zs H2 hz g2 pp2 _ l2p h2=>?_⟩⟩) ?_
 ·obtain ⟨ms,hp,rfl⟩:=uO hz
  exact hk _ _ ⟨l2,ms,rfl,by rw [← xl]; exact hp,h2,l2p,(Grow.new hl1 _).trans g2,pp2⟩
 rintro _ H1 ⟨l2,ms,rfl,hp,h2,l2p,g1,pp1⟩
 have ml:ms.length = cs.length:=by rw [hp.length_eq,List.length_range]
 have hlt:∀ k ∈ ms,k < cs.length:=fun k hk=>List.mem_range.mp (hp.mem_iff.mp hk)
 have hl1:=g1.keep _ _ (by simpa using lp) hl
 have ha1:=g1.callsR ha
 refine ya (fun v H'=>zC K H' v (ms.map (cg cs)) /\ Grow [] H1 H') (fun Kk hk=>⟨_,rfl,l2,rfl,⟨_,SqL.of h2⟩,tG (xs:=zp ms) (fun i ys H'=>H' = H1 /\ AllR (yu K H1) ys ((ms.take i).map (cg cs)) /\ ys.length = i) ⟨rfl,trivial,rfl⟩ (fun i ys H' z=>by rw [z.1]; exact SqL.of h2) ?_ ?_⟩) ?_
 ·rintro i x ys H' hx ⟨rfl,hA,yl⟩
  obtain ⟨k,hki,rfl⟩:=yj hx
  have hi:=(List.getElem?_eq_some_iff.mp hki).1
  have hk':=hlt k (List.mem_of_getElem? hki)
  obtain ⟨z,hz,hc⟩:=ha1.getR (List.getElem?_eq_getElem hk')
  refine ⟨_,rfl,_,rfl,l,_,_,z,rfl,rfl,SqL.of hl1,zr hz,lt72 (by omega),rfl,?_,by rw [List.length_append,List.length_singleton,yl]⟩
  rw [List.take_succ,hki,List.map_append]
  refine hA.app ⟨?_,trivial⟩
  rw [yB (List.getElem?_eq_getElem hk')]; exact hc
 ·rintro ys H' ⟨rfl,hA,yl⟩ l3 hl3
  rw [zw,List.take_length] at hA
  refine ⟨l3,_,rfl,.inl ⟨SqL.of zd,fun t ht=>hk _ _ ⟨⟨t,ys,rfl,SqT.of zd,?_⟩,(Grow.new hl3 _).trans (Grow.new ht _)⟩⟩⟩
  exact ((Grow.new (m:=[]) hl3 _).trans (Grow.new ht _)).callsR hA
 rintro yc H2 ⟨hc2,g2⟩
 have h22:=g2.keep _ _ (by simp) h2
 have hl2:=g2.keep _ _ (by simp) hl1
 refine ⟨_,rfl,_,rfl,l,_,rfl,.inl (SqL.of hl2),_,rfl,by omega,by omega,sg (fun i ys H'=>H' = H2 /\ ys = zp ((List.range i).map fun j=>ms.idxOf j)) ⟨rfl,rfl⟩ ?_ ?_⟩
 ·rintro i ys H' hi ⟨rfl,rfl⟩
  have hi':i < cs.length:=by omega
  have hm:i ∈ ms:=hp.mem_iff.mpr (List.mem_range.mpr hi')
  refine ⟨_,rfl,.inl ⟨rfl,_,SqL.of h22⟩,_,rfl,l2,ms,i,rfl,by rw [Int.zero_add],SqL.of h22,hm,by omega,lt72 (by rw [zw,List.length_map,List.length_range]; omega),rfl,?_⟩
  rw [List.range_succ,List.map_append,xB]; rfl
 ·rintro ys H' ⟨rfl,rfl⟩ l5 hl5
  have en:((xs.length:Nat):Int).toNat = cs.length:=by omega
  rw [en]
  refine ⟨l5,_,rfl,SqL.of zd,fun ro o hro oc od=>⟨szl rfl,fun r hr0=>?_⟩⟩
  have g5:=Grow.new (m:=[]) hl5 (.lst (zp ((List.range cs.length).map fun j=>ms.idxOf j)))
  have g6:=Grow.new (m:=[]) hro (.frz o (.tup (zp ((List.range cs.length).map fun j=>ms.idxOf j))))
  have g7:=Grow.new (m:=[]) hr0 (.tup [yc,.ref ro])
  have G:=g5.trans (g6.trans g7)
  exact q ms r ro yc _ hp (g1.trans (g2.wk.trans G.wk)) ((pp1.grow g2).grow G) (SqT.of zd) (G.calls72 hc2) (g7.frT ⟨o,zd,oc,od⟩)
theorem vq:FnScope ["_law_pot_here","_law_moment","_law_scale","_law_begun"] ["_law_pot_here","_law_moment","_law_scale"] (zi (top 44)):=⟨rfl,rfl,rfl,by decide +kernel,rfl,by decide +kernel,by decide +kernel⟩
theorem sN (F:Fun K "_law_times" "_law_times" (top 44) f fd) (B:Blt mg) (qc0:zk P w K mg base n "_law_take" ["_law_pot_here","_law_many"] (xJ K))     :
  FnOk P w K mg base CX0 (n + 1) f fd ["_law_pot_here","_law_moment","_law_scale"] (tM K):=by
 refine F.ok vq xI (fun cdv A outer s H vs Q E hr h=>?_)
 obtain ⟨x,y,z,rfl,p,mo,sc,rfl,rfl,rfl,pp,m0,m1,s0,s1,q⟩:=h
 refine ⟨_,(ze (zz (i:=3) vq.nd rfl (Or.inl rfl) (zj (xZ rfl) rfl B.max jZ (za zh (za (zA uh (pv 1) (zf qc0 hr rfl (za (pv 0) (za zh zb)))) zb)))) (zg (zq (zY (za (zA y9 (pv 3) (pv 2)) (za (zA y9 (zA yg (pv 1) (zf qc0 hr rfl (za (pv 0) (za zh zb)))) (pv 2)) zb)))))),?_⟩
 refine ya (fun v H'=>∃ be:Int,v = .int be /\ 0 <= be /\ be <= mo /\ Grow [p] H H' /\ Pot H' p) (fun Kk hk=>⟨_,rfl,_,rfl,_,_,rfl,p,4,rfl,rfl,pp,by decide,by decide,fun n H' n0 n1 g pp'=>⟨_,_,rfl,rfl,_,_,rfl,hk _ _ ⟨_,rfl,by split <;> omega,by split <;> omega,g,pp'⟩⟩⟩) ?_
 rintro _ H1 ⟨be,rfl,b0,b1,g1,pp1⟩
 have bs:be * sc <= mo * sc:=Int.mul_le_mul_of_nonneg_right b1 (by omega)
 have bs0:0 <= be * sc:=Int.mul_nonneg b0 (by omega)
 refine ⟨_,rfl,_,rfl,_,_,rfl,rfl,vS ⟨by omega,by omega⟩,_,rfl,_,rfl,_,_,rfl,p,4,rfl,rfl,pp1,by decide,by decide,fun n H2 n0 n1 g2 pp2=>⟨_,_,rfl,rfl,_,rfl,_,_,rfl,rfl,vS ⟨by omega,by omega⟩,szl rfl,fun r hr=>?_⟩⟩
 exact q _ _ r _ bs0 bs (Int.mul_le_mul_of_nonneg_right (by omega) (by omega)) (Int.mul_le_mul_of_nonneg_right (by omega) (by omega)) (g1.trans (g2.trans (Grow.new hr _))) (pp2.grow (Grow.new hr _)) (SqT.of zd)
theorem u7:FnScope ["_law_pot_here","_law_wide"] ["_law_pot_here","_law_wide"] (zi (top 41)):=⟨rfl,rfl,rfl,by decide +kernel,rfl,by decide +kernel,by decide +kernel⟩
theorem u8 (F:Fun K "_law_number" "_law_number" (top 41) f fd) (B:Blt mg) (qc0:zk P w K mg base n "_law_take" ["_law_pot_here","_law_many"] (xJ K))     :
  FnOk P w K mg base CX0 (n + 1) f fd ["_law_pot_here","_law_wide"] (sv K):=by
 refine F.ok u7 zW (fun cdv A outer s H vs Q E hr h=>?_)
 obtain ⟨x,y,rfl,p,b,rfl,rfl,pp,q⟩:=h
 refine ⟨_,(ze (zV (PW.pt (vP (zR (pv 1)) (wL (zD vw (zf qc0 hr rfl (za (pv 0) (za zh zb))) zh (zB _))))) (zg (zq (zA y9 (zA uh zh (zA y9 zh (zf qc0 hr rfl (za (pv 0) (za zh zb))))) (zf qc0 hr rfl (za (pv 0) (za (zA jl zh zh) zb)))))) zy) (zg (zq (zA uh (zf qc0 hr rfl (za (pv 0) (za zh zb))) zh)))),?_⟩
 refine yA (fun b H'=>Grow [p] H H' /\ Pot H' p) (fun Kk hk=>⟨_,rfl,_,rfl,?_⟩) ?_
 ·cases b with
  | false=>exact iteF (hk _ _ ⟨Grow.refl _ _,pp⟩)
  | true=>exact iteT ⟨_,rfl,_,_,rfl,p,3,rfl,rfl,pp,by decide,by decide,fun n H' n0 n1 g pp'=>⟨rfl,_,rfl,hk _ _ ⟨g,pp'⟩⟩⟩
 rintro b1 H1 ⟨g1,pp1⟩
 cases b1 with
 | true =>
  refine iteT ⟨_,rfl,_,_,rfl,p,2,rfl,rfl,pp1,by decide,by decide,fun n H2 n0 n1 g2 pp2=>⟨_,_,rfl,rfl,vS ⟨by decide,by decide⟩,_,_,rfl,rfl,_,rfl,_,_,rfl,rfl,⟨by decide,by decide,by decide⟩,_,_,rfl,p,_,rfl,rfl,pp2,by decide,by decide,fun k H3 k0 k1 g3 pp3=>⟨_,_,rfl,rfl,vS ⟨by omega,by omega⟩,?_⟩⟩⟩
  refine q _ _ ?_ (g1.trans (g2.trans g3)) pp3
  have k1':k < 10 ^ 27:=k1
  have:n = 0 \/ n = 1:=by omega
  unfold N27
  rcases this with rfl | rfl <;> omega
 | false =>
  refine iteF (yh ⟨_,rfl,_,_,rfl,p,7,rfl,rfl,pp1,by decide,by decide,fun n H2 n0 n1 g2 pp2=>⟨_,_,rfl,rfl,q _ _ ?_ (g1.trans g2) pp2⟩⟩)
  unfold N27; omega
theorem xp:FnScope ["_law_pot_here","_law_wide","_law_add","_law_choice","_law_low"] ["_law_pot_here","_law_wide"] (zi (top 42)):=⟨rfl,rfl,rfl,by decide +kernel,rfl,by decide +kernel,by decide +kernel⟩
theorem qk (F:Fun K "_law_deed" "_law_deed" (top 42) f fd) (B:Blt mg) (qc0:zk P w K mg base n "_law_take" ["_law_pot_here","_law_many"] (xJ K)) (qc1:zk P w K mg base n "_law_number" ["_law_pot_here","_law_wide"] (sv K))     :
  FnOk P w K mg base CX0 (n + 1) f fd ["_law_pot_here","_law_wide"] (rA K):=by
 refine F.ok xp zW (fun cdv A outer s H vs Q E hr h=>?_)
 obtain ⟨x,y,rfl,p,b,rfl,rfl,pp,q⟩:=h
 refine ⟨_,(ze (zz (i:=2) xp.nd rfl (Or.inl rfl) (zf qc1 hr rfl (za (pv 0) (za (pv 1) zb)))) (ze (zz (i:=3) xp.nd rfl (Or.inl rfl) (zf qc0 hr rfl (za (pv 0) (za zh zb)))) (ze (zV (zD uj (pv 3) zh (zB _)) (zg (zq (zE zQ (yM (za (zY (za zh (za xQ (za xQ zb)))) (za (zY (za (pv 2) (za xQ (za xQ zb)))) zb))) (pv 3) (fun _ _=>rfl)))) zy) (ze (zz (i:=4) xp.nd rfl (Or.inl rfl) (zf qc1 hr rfl (za (pv 0) (za (pv 1) zb)))) (ze (zV (zD vw (pv 3) zh (zB _)) (zg (zq (zY (za zh (za (pv 4) (za (pv 4) zb)))))) zy) (ze (zV (zD uj (pv 3) zh (zB _)) (zg (zq (zE zQ (yM (za (zY (za (pv 2) (za (pv 4) (za xQ zb)))) (za (zY (za (pv 2) (za xQ (za (pv 4) zb)))) zb))) (zA uh (pv 3) zh) (fun _ _=>rfl)))) zy) (zg (zq (zY (za (pv 2) (za (pv 4) (za (zA yg (zA yg (pv 4) zh) (zf qc0 hr rfl (za (pv 0) (za zh zb)))) zb)))))))))))),?_⟩
 have Bd3:∀ {ad:Int} {lo hi:Option Int},N27 ad -> (∀ l,lo = some l -> N27 l) -> (∀ u,hi = some u -> -(10 ^ 27) <= u /\ u <= 10 ^ 27 + 6) -> (⟨ad,lo,hi⟩:Deed).Bd (10 ^ 27 + 6):=fun {ad lo hi} h1 h2 h3=>by
  refine ⟨?_,fun l hl=>?_,fun u hu=>?_⟩
  ·have:=h1.1; have:=h1.2; show -(10 ^ 27 + 6) <= ad /\ ad <= 10 ^ 27 + 6; omega
  ·have:=(h2 l hl).1; have:=(h2 l hl).2; exact ⟨by omega,by omega⟩
  ·have:=h3 u hu; exact ⟨by omega,by omega⟩
 have n27:N27 0:=⟨by decide,by decide⟩
 refine ya (fun v H'=>∃ ad:Int,v = .int ad /\ N27 ad /\ Grow [p] H H' /\ Pot H' p) (fun Kk hk=>⟨_,rfl,_,rfl,_,_,rfl,p,b,rfl,rfl,pp,fun n H' hn g pp'=>hk _ _ ⟨n,rfl,hn,g,pp'⟩⟩) ?_
 rintro _ H1 ⟨ad,rfl,had,g1,pp1⟩
 refine ya (fun v H'=>∃ k:Int,v = .int k /\ 0 <= k /\ k < 6 /\ Grow [p] H1 H' /\ Pot H' p) (fun Kk hk=>⟨_,rfl,_,_,rfl,p,6,rfl,rfl,pp1,by decide,by decide,fun n H' n0 n1 g pp'=>hk _ _ ⟨n,rfl,n0,n1,g,pp'⟩⟩) ?_
 rintro _ H2 ⟨k,rfl,k0,k6,g2,pp2⟩
 have G2:=g1.trans g2
 refine ⟨_,rfl,_,_,rfl,rfl,_,rfl,?_⟩
 by_cases hk2:k < 2
 ·refine yX (decide_eq_true hk2) ⟨szl rfl,fun t1 ht1=>⟨_,rfl,szl rfl,fun t2 ht2=>⟨szl rfl,fun l hl=>?_⟩⟩⟩
  have gl:=(Grow.new (m:=[]) ht1 (.tup [.int 0,.non,.non])).trans ((Grow.new ht2 (.tup [.int ad,.non,.non])).trans (Grow.new hl (.lst [.ref t1,.ref t2])))
  have s1:SqT K (upd (upd (upd H2 t1 (.tup [.int 0,.non,.non])) t2 (.tup [.int ad,.non,.non])) l (.lst [.ref t1,.ref t2])) t1 (⟨0,none,none⟩:Deed).vs:=((Grow.new (m:=[]) ht2 _).trans (Grow.new hl _)).sqT (SqT.of zd)
  have s2:SqT K (upd (upd (upd H2 t1 (.tup [.int 0,.non,.non])) t2 (.tup [.int ad,.non,.non])) l (.lst [.ref t1,.ref t2])) t2 (⟨ad,none,none⟩:Deed).vs:=(Grow.new (m:=[]) hl _).sqT (SqT.of zd)
  have:k = 0 \/ k = 1:=by omega
  rcases this with rfl | rfl
  ·exact ⟨_,rfl,l,_,0,_,rfl,rfl,SqL.of zd,zr (j:=0) rfl,q ⟨0,none,none⟩ _ _ (fun _ _ z=>nomatch z) (Bd3 n27 (fun _ z=>nomatch z) fun _ z=>nomatch z) (G2.trans gl.wk) (pp2.grow gl) ⟨t1,rfl,s1⟩⟩
  ·exact ⟨_,rfl,l,_,1,_,rfl,rfl,SqL.of zd,zr (j:=1) rfl,q ⟨ad,none,none⟩ _ _ (fun _ _ z=>nomatch z) (Bd3 had (fun _ z=>nomatch z) fun _ z=>nomatch z) (G2.trans gl.wk) (pp2.grow gl) ⟨t2,rfl,s2⟩⟩
 refine yZ (decide_eq_false hk2) (yh ?_)
 refine ya (fun v H'=>∃ lo:Int,v = .int lo /\ N27 lo /\ Grow [p] H2 H' /\ Pot H' p) (fun Kk hk=>⟨_,rfl,_,rfl,_,_,rfl,p,b,rfl,rfl,pp2,fun n H' hn g pp'=>hk _ _ ⟨n,rfl,hn,g,pp'⟩⟩) ?_
 rintro _ H3 ⟨lo,rfl,hlo,g3,pp3⟩
 have G3:=G2.trans g3
 have lo6:-(10 ^ 27) <= lo /\ lo <= 10 ^ 27 + 6:=by have:=hlo.1; have:=hlo.2; omega
 refine ⟨_,rfl,rfl,_,rfl,?_⟩
 by_cases hk3:k = 2
 ·refine yX (decide_eq_true (congrArg V.int hk3)) ⟨_,rfl,_,rfl,szl rfl,fun t ht=>q ⟨0,some lo,some lo⟩ _ _ (fun l u h1 h2=>.inr ⟨by cases h1; cases h2; rfl,rfl⟩) (Bd3 n27 (fun l z=>by cases z; exact hlo) fun u z=>by cases z; exact lo6) (G3.trans (Grow.new ht _)) (pp3.grow (Grow.new ht _)) ⟨t,rfl,SqT.of zd⟩⟩
 refine yZ (decide_eq_false fun z=>hk3 (V.int.inj z)) (yh ?_)
 refine ⟨_,rfl,_,_,rfl,rfl,_,rfl,?_⟩
 by_cases hk5:k < 5
 ·refine yX (decide_eq_true hk5) ⟨_,rfl,_,rfl,szl rfl,fun t1 ht1=>⟨_,rfl,_,rfl,szl rfl,fun t2 ht2=>⟨szl rfl,fun l hl=>?_⟩⟩⟩
  have gl:=(Grow.new (m:=[]) ht1 (.tup [.int ad,.int lo,.non])).trans ((Grow.new ht2 (.tup [.int ad,.non,.int lo])).trans (Grow.new hl (.lst [.ref t1,.ref t2])))
  have s1:SqT K (upd (upd (upd H3 t1 (.tup [.int ad,.int lo,.non])) t2 (.tup [.int ad,.non,.int lo])) l (.lst [.ref t1,.ref t2])) t1 (⟨ad,some lo,none⟩:Deed).vs:=((Grow.new (m:=[]) ht2 _).trans (Grow.new hl _)).sqT (SqT.of zd)
  have s2:SqT K (upd (upd (upd H3 t1 (.tup [.int ad,.int lo,.non])) t2 (.tup [.int ad,.non,.int lo])) l (.lst [.ref t1,.ref t2])) t2 (⟨ad,none,some lo⟩:Deed).vs:=(Grow.new (m:=[]) hl _).sqT (SqT.of zd)
  have:k = 3 \/ k = 4:=by omega
  rcases this with rfl | rfl
  ·exact ⟨_,rfl,_,_,rfl,rfl,l,_,0,_,rfl,rfl,SqL.of zd,zr (j:=0) rfl,q ⟨ad,some lo,none⟩ _ _ (fun _ _ _ z=>nomatch z) (Bd3 had (fun l z=>by cases z; exact hlo) fun _ z=>nomatch z) (G3.trans gl.wk) (pp3.grow gl) ⟨t1,rfl,s1⟩⟩
  ·exact ⟨_,rfl,_,_,rfl,rfl,l,_,1,_,rfl,rfl,SqL.of zd,zr (j:=1) rfl,q ⟨ad,none,some lo⟩ _ _ (fun _ _ z=>nomatch z) (Bd3 had (fun _ z=>nomatch z) fun u z=>by cases z; exact lo6) (G3.trans gl.wk) (pp3.grow gl) ⟨t2,rfl,s2⟩⟩
 refine yZ (decide_eq_false hk5) (yh ?_)
 refine ⟨_,rfl,_,rfl,_,rfl,_,_,rfl,rfl,_,rfl,_,_,rfl,p,5,rfl,rfl,pp3,by decide,by decide,fun n H4 n0 n1 g4 pp4=>⟨_,_,rfl,rfl,szl rfl,fun t ht=>?_⟩⟩
 refine q ⟨ad,some lo,some (lo + 1 + n)⟩ _ _ (fun l u h1 h2=>.inl (by cases h1; cases h2; omega)) (Bd3 had (fun l z=>by cases z; exact hlo) fun u z=>?_) (G3.trans (g4.trans (Grow.new ht _))) (pp4.grow (Grow.new ht _)) ⟨t,rfl,SqT.of zd⟩
 cases z
 have:=hlo.1; have:=hlo.2
 omega
theorem zx:FnScope ["_law_pot_here","_law_boxes","_law_many","_law_wide","_law_board","_law_values","_law_rooms","_law_scale","_law_moment","_law_found","_law_k","_law_box","_law_deed_here","_law_begun","_law_ended"] ["_law_pot_here","_law_boxes","_law_many","_law_wide"] (zi (top 45)):=⟨rfl,rfl,rfl,by decide +kernel,rfl,by decide +kernel,by decide +kernel⟩
theorem uW (F:Fun K "_law_history" "_law_history" (top 45) f fd) (B:Blt mg) (qc0:zk P w K mg base n "_law_done" ["_law_deed_here","_law_value"] (vB K)) (qc1:zk P w K mg base n "_law_take" ["_law_pot_here","_law_many"] (xJ K)) (qc2:zk P w K mg base n "_law_times" ["_law_pot_here","_law_moment","_law_scale"] (tM K)) (qc3:zk P w K mg base n "_law_deed" ["_law_pot_here","_law_wide"] (rA K)) (qc4:zk P w K mg base n "_law_number" ["_law_pot_here","_law_wide"] (sv K))     :
  FnOk P w K mg base CX0 (n + 1) f fd ["_law_pot_here","_law_boxes","_law_many","_law_wide"] (rT K):=by
 refine F.ok zx qu (fun cdv A outer s H vs Q E hr h=>?_)
 obtain ⟨x,y,z,u,rfl,p,n,m,w,rfl,rfl,rfl,rfl,pp,n1,n6,m8,m40,q⟩:=h
 refine ⟨_,(ze (zz (i:=4) zx.nd rfl (Or.inl rfl) (zJ zS rfl B.tuple z9 (za (zN (CSc.of (N':=["_law_box","_law_pot_here","_law_wide"]) (sub:=[none,some 0,some 3]) (zi (top 45)) ["_law_pot_here","_law_boxes","_law_many","_law_wide","_law_board","_law_values","_law_rooms","_law_scale","_law_moment","_law_found","_law_k","_law_box","_law_deed_here","_law_begun","_law_ended"] rfl rfl (by decide +kernel) rfl) rfl (xx rfl B.range (za (pv 1) zb)) (fun _ _ _ _ _ _=>zm (i:=0) (show (["_law_box","_law_pot_here","_law_wide"]:List Str).Nodup by decide +kernel) rfl (Or.inl rfl)) (fun _ _ _ _ _ _=>zM) (fun _ _ _ _ _ _=>(zf qc4 hr rfl (za (pv 1) (za (pv 2) zb))))) zb))) (ze (zz (i:=5) zx.nd rfl (Or.inl rfl) (zJ yT rfl B.list vQ (za (pv 4) zb))) (ze (zz (i:=6) zx.nd rfl (Or.inl rfl) (zA VG (yM (za zh zb)) (pv 1))) (ze (zz (i:=7) zx.nd rfl (Or.inl rfl) (zE zQ (yM (za zh (za zh (za (zA yg (zA jl zh zh) zh) zb)))) (zA y9 (zf qc1 hr rfl (za (pv 0) (za zh zb))) (zJ sP rfl B.int Z2 (za (pv 3) zb))) (fun _ _=>rfl))) (ze (zz (i:=8) zx.nd rfl (Or.inl rfl) zh) (ze (zz (i:=9) zx.nd rfl (Or.inl rfl) (yM zb)) (ze (xT PassesOwn.never rfl (xx rfl B.range (za (pv 2) zb)) (zm (i:=10) zx.nd rfl (Or.inl rfl)) (ze (zz (i:=11) zx.nd rfl (Or.inl rfl) (zf qc1 hr rfl (za (pv 0) (za (pv 1) zb)))) (ze (zV (zD vw (zE zQ (pv 6) (pv 11) (fun _ _=>rfl)) zh (zB _)) (zg (zz (i:=11) zx.nd rfl (Or.inl rfl) (sV PySem.F.plainAttrs_list PySem.F.slot_list_index PySem.F.type_list_index (jC (K:=K) rfl) (pv 6) (za (zj (Yf rfl) rfl B.max jZ (za (pv 6) zb)) zb)))) zy) (ze (xj (zA uh (zE zQ (pv 6) (pv 11) (fun _ _=>rfl)) zh) (u9 (pv 6) (pv 11) wv)) (ze (zz (i:=8) zx.nd rfl (Or.inl rfl) (zA yg (pv 8) (zf qc1 hr rfl (za (pv 0) (za zh zb))))) (ze (zz (i:=12) zx.nd rfl (Or.inl rfl) (zf qc3 hr rfl (za (pv 0) (za (pv 3) zb)))) (ze (xj (zf qc2 hr rfl (za (pv 0) (za (pv 8) (za (pv 7) zb)))) (xi rfl (zn (zm (i:=13) zx.nd rfl (Or.inl rfl)) (zn (zm (i:=14) zx.nd rfl (Or.inl rfl)) yk)))) (ze (xX (sV PySem.F.plainAttrs_list PySem.F.slot_list_append PySem.F.type_list_append x8 (pv 9) (za (zY (za (zf qc1 hr rfl (za (pv 0) (za zh zb))) (za (pv 11) (za (pv 12) (za (pv 13) (za (pv 14) (za (zE zQ (pv 5) (pv 11) (fun _ _=>rfl)) zb))))))) zb))) (zg (xj (zf qc0 hr rfl (za (pv 12) (za (zE zQ (pv 5) (pv 11) (fun _ _=>rfl)) zb))) (u9 (pv 5) (pv 11) wv))))))))))) (zg (zq (zY (za (pv 4) (za (pv 9) zb)))))))))))),?_⟩
 refine ya (fun v H'=>∃ (rb:Addr) (b:List Int),v = .ref rb /\ SqT K H' rb (b.map V.int) /\ b.length = n /\ (∀ v ∈ b,N27 v) /\ Grow [p] H H' /\ Pot H' p) (fun Kk hk=>⟨_,rfl,_,rfl,by omega,by omega,sg (fun i ys H'=>∃ b:List Int,ys = b.map V.int /\ b.length = i /\ (∀ v ∈ b,N27 v) /\ Grow [p] H H' /\ Pot H' p) ⟨[],rfl,rfl,(fun _ h=>nomatch h),Grow.refl _ _,pp⟩ ?_ ?_⟩) ?_
 ·rintro i ys H' hi ⟨b,rfl,bl,bb,g,pp'⟩
  refine ⟨_,rfl,_,rfl,_,_,rfl,p,w,rfl,rfl,pp',fun k H2 hk g2 pp2=>⟨lt72 (by rw [List.length_map]; omega),b ++ [k],by rw [List.map_append]; rfl,by rw [List.length_append,List.length_singleton,bl],fun v hv=>?_,g.trans g2,pp2⟩⟩
  rcases List.mem_append.mp hv with hv | hv
  ·exact bb v hv
  ·rw [List.mem_singleton.mp hv]; exact hk
 ·rintro ys H' ⟨b,rfl,bl,bb,g,pp'⟩ l hl
  exact ⟨l,_,rfl,.inl ⟨SqL.of zd,fun t ht=>hk _ _ ⟨t,b,rfl,SqT.of zd,by rw [bl]; omega,bb,g.trans ((Grow.new hl _).trans (Grow.new ht _)),pp'.grow ((Grow.new hl _).trans (Grow.new ht _))⟩⟩⟩
 rintro _ H1 ⟨rb,b,rfl,hb1,bl,bb,g1,pp1⟩
 refine ya (fun v H'=>∃ rv,v = .ref rv /\ H1 rv = none /\ H' = upd H1 rv (.lst (b.map V.int))) (fun Kk hk=>⟨_,rfl,rb,_,rfl,.inr hb1,fun rv hv=>hk _ _ ⟨rv,rfl,hv,rfl⟩⟩) ?_
 rintro _ _ ⟨rv,rfl,nv,rfl⟩
 refine ya (fun v H'=>∃ rr,v = .ref rr /\ H' rr = some (.lst (zp (List.replicate n 8))) /\ upd H1 rv (.lst (b.map V.int)) rr = none /\ Grow [] (upd H1 rv (.lst (b.map V.int))) H') (fun Kk hk=>⟨szl rfl,fun l hl=>⟨_,rfl,l,_,_,rfl,rfl,zd,by omega,by omega,le72 (by show 1 * _ <= _; omega),fun rr hrr=>hk _ _ ⟨rr,rfl,?_,(Grow.new (m:=[]) hl _).free (by simp) hrr,(Grow.new hl _).trans (Grow.new hrr _)⟩⟩⟩) ?_
 ·rw [zd,Int.toNat_natCast,X5]
 rintro _ H2 ⟨rr,rfl,hr2,nr,g2⟩
 have hv2:H2 rv = some (.lst (b.map V.int)):=g2.keep _ _ (by simp) zd
 have gv:=Grow.new (m:=[]) nv (.lst (b.map V.int))
 have pp2:Pot H2 p:=(pp1.grow gv).grow g2
 have nvp:=y4 pp1 nv
 have nrp:=y4 (pp1.grow gv) nr
 have nrv:rr ≠ rv:=fun z=>by rw [z,zd] at nr; cases nr
 refine ya (fun v H'=>∃ sc:Int,v = .int sc /\ 1 <= sc /\ sc <= 10 ^ 24 + 7 /\ Grow [p] H2 H' /\ Pot H' p) (fun Kk hk=>⟨_,_,rfl,rfl,⟨by decide,by decide,by decide⟩,_,_,rfl,rfl,szl rfl,fun l hl=>⟨_,rfl,_,_,rfl,p,3,rfl,rfl,pp2.grow (Grow.new hl _),by decide,by decide,fun t H' t0 t1 g pp'=>⟨_,rfl,.inr ⟨w,rfl,_,_,rfl,rfl,vS ⟨by omega,by omega⟩,?_⟩⟩⟩⟩) ?_
 ·have nlp:=y4 pp2 hl
  have hl':=g.keep _ _ nlp (zd (H:=H2) (a:=l) (o:=.lst [V.int 1,V.int 1,V.int (10 ^ (24:Int).toNat + 7)]))
  have G:=(Grow.new (m:=[p]) hl (.lst [V.int 1,V.int 1,V.int (10 ^ (24:Int).toNat + 7)])).trans g
  have:t * (if w = true then 1 else 0) = 0 \/ t * (if w = true then 1 else 0) = 1 \/ t * (if w = true then 1 else 0) = 2:=by
   cases w
   ·exact .inl (by rw [if_neg (by decide)]; omega)
   ·rw [if_pos rfl]; omega
  rcases this with e | e | e
  ·exact ⟨l,_,_,_,rfl,rfl,SqL.of hl',by rw [e]; exact zr (j:=0) rfl,hk _ _ ⟨1,rfl,by decide,by decide,G,pp'⟩⟩
  ·exact ⟨l,_,_,_,rfl,rfl,SqL.of hl',by rw [e]; exact zr (j:=1) rfl,hk _ _ ⟨1,rfl,by decide,by decide,G,pp'⟩⟩
  ·exact ⟨l,_,_,_,rfl,rfl,SqL.of hl',by rw [e]; exact zr (j:=2) rfl,hk _ _ ⟨_,rfl,by decide,by decide,G,pp'⟩⟩
 rintro _ H3 ⟨sc,rfl,s0,s1,g3,pp3⟩
 have hr3:=g3.keep _ _ nrp hr2
 have hv3:=g3.keep _ _ nvp hv2
 refine ⟨szl rfl,fun rf nf=>?_⟩
 have nfp:=y4 pp3 nf
 have nfv:rf ≠ rv:=fun z=>by rw [z,hv3] at nf; cases nf
 have nfr:rf ≠ rr:=fun z=>by rw [z,hr3] at nf; cases nf
 have g4:=Grow.new (m:=[p]) nf (.lst [])
 have G4:Grow [p] H (upd H3 rf (.lst [])):=g1.trans (gv.wk.trans (g2.wk.trans (g3.trans g4)))
 have hv4:upd H3 rf (.lst []) rv = some (.lst (b.map V.int)):=by rw [zo nfv.symm]; exact hv3
 have hr4:upd H3 rf (.lst []) rr = some (.lst (zp (List.replicate n 8))):=by rw [zo nfr.symm]; exact hr3
 have pp4:=pp3.grow (Grow.new nf (.lst []))
 have hf4:upd H3 rf (.lst []) rf = some (.lst []):=zd
 have hb4:=(gv.trans g2).sqT hb1
 have hb4':SqT K (upd H3 rf (.lst [])) rb (b.map V.int):=g4.sqT (g3.sqT hb4)
 have fv:H rv = none:=g1.free nvp nv
 have fr:H rr = none:=g1.free nrp (gv.free (by simp) nr)
 have ff:H rf = none:=(g1.trans (gv.wk.trans (g2.wk.trans g3))).free nfp nf
 have mfree:∀ a ∈ [p,rv,rr,rf],a ∈ [p] \/ H a = none:=fun a ha=>by
  rcases List.mem_cons.mp ha with rfl | ha
  ·exact .inl (by simp)
  rcases List.mem_cons.mp ha with rfl | ha
  ·exact .inr fv
  rcases List.mem_cons.mp ha with rfl | ha
  ·exact .inr fr
  rw [List.mem_singleton.mp ha]; exact .inr ff
 have npv:p ≠ rv:=fun z=>nvp (by rw [z]; simp)
 have npr:p ≠ rr:=fun z=>nrp (by rw [z]; simp)
 have npf:p ≠ rf:=fun z=>nfp (by rw [z]; simp)
 have sub:∀ a ∈ [p],a ∈ [p,rv,rr,rf]:=fun a h=>by rw [List.mem_singleton.mp h]; simp
 have I0:=HI72.start (sc:=sc) bl bb
 have G4':=G4.mono sub
 generalize upd H3 rf (.lst []) = H4 at G4 G4' hv4 hr4 pp4 hf4 hb4' ⊢
 clear g4 hb4 hr3 hv3 hr2 hv2 g3 g2 gv g1
 refine ⟨_,rfl,_,rfl,by omega,by omega,?_⟩
 refine ug (fun i σ H'=>∃ (vs:List Int) (rs:List Nat) (cs:List Call72) (xs:List V) (mo:Int) (e10 e11 e12 e13 e14:Option V),σ = [some (.ref p),some (.int n),some (.int m),some (.bl w),some (.ref rb),some (.ref rv),some (.ref rr),some (.int sc),some (.int mo),some (.ref rf),e10,e11,e12,e13,e14] /\ HI72 n i b vs rs cs mo sc /\ H' rv = some (.lst (vs.map V.int)) /\ H' rr = some (.lst (zp rs)) /\ H' rf = some (.lst xs) /\ AllR (yu K H') xs cs /\ Grow [p,rv,rr,rf] H H' /\ SqT K H' rb (b.map V.int) /\ Pot H' p) ⟨b,_,[],[],0,_,_,_,_,_,rfl,I0,hv4,hr4,hf4,trivial,G4',hb4',pp4⟩ ?_ ?_
 rotate_left
 ·rintro σ H' ⟨vs,rs,cs,xs,mo,e10,e11,e12,e13,e14,rfl,I,hv,hr',hf,ha,g,hb,pp'⟩
  refine ⟨_,rfl,_,rfl,szl rfl,fun r hr0=>?_⟩
  have gr:=Grow.new (m:=[]) hr0 (.tup [.ref rb,.ref rf])
  exact q b cs xs r rb rf _ (I.hist (by omega) bl bb) I.cl ((Grow.shrinkTo mfree g).trans gr.wk) (pp'.grow gr) (SqT.of zd) (gr.sqT hb) (gr.keep _ _ (by simp) hf) (fun z=>npf z.symm) (gr.callsR ha)
 rintro i σ H5 hi ⟨vs,rs,cs,xs,mo,e10,e11,e12,e13,e14,rfl,I,hv5,hr5,hf5,ha5,G5,hb5,pp5⟩
 have him:i < m:=by omega
 have vl:=I.vl
 have rl:=I.rl
 try dsimp only
 refine ya (fun v H'=>∃ bx:Nat,v = .int bx /\ bx < n /\ Grow [p] H5 H' /\ Pot H' p) (fun Kk hk=>⟨_,rfl,_,rfl,_,_,rfl,p,_,rfl,rfl,pp5,by omega,Int.lt_of_le_of_lt (b:=100) (by omega) (by decide),fun k H' k0 k1 g pp'=>hk _ _ ⟨k.toNat,congrArg V.int (by omega),by omega,g,pp'⟩⟩) ?_
 rintro _ H6 ⟨bx0,rfl,hbx0,g6,pp6⟩
 have hv6:=g6.keep _ _ nvp hv5
 have hr6:=g6.keep _ _ nrp hr5
 have hf6:=g6.keep _ _ nfp hf5
 refine c_if (fun σ' H'=>∃ (bx x:Nat),σ' = [some (.ref p),some (.int n),some (.int m),some (.bl w),some (.ref rb),some (.ref rv),some (.ref rr),some (.int sc),some (.int mo),some (.ref rf),some (.int (0 + (i:Int))),some (.int bx),e12,e13,e14] /\ rs[bx]? = some x /\ 0 < x /\ H' = H6) ?_ (fun hk=>?_)
 rotate_left
 ·obtain ⟨x,hx⟩:∃ x,rs[bx0]? = some x:=⟨_,List.getElem?_eq_getElem (by omega)⟩
  refine ⟨_,rfl,_,rfl,rr,_,_,.int x,rfl,rfl,SqL.of hr6,zr (by unfold zp; rw [List.getElem?_map,hx]; rfl),rfl,_,rfl,?_⟩
  by_cases x0:x = 0
  ·refine yX (decide_eq_true (by rw [x0]; rfl)) ⟨_,rfl,.inl ⟨rfl,_,SqL.of hr6⟩,_,rfl,rr,rs.map (fun k:Nat=>(k:Int)),rfl,by rw [← zU]; exact SqL.of hr6,by rw [List.length_map]; omega,fun M hM hmax=>?_⟩
   obtain ⟨k,hk',rfl⟩:=List.mem_map.mp hM
   have hsum:=I.sm
   obtain ⟨z,hz,z0⟩:=rC (l:=rs) (by omega)
   have hle:=hmax z (List.mem_map.mpr ⟨z,hz,rfl⟩)
   have hlt:=List.idxOf_lt_length_of_mem hk'
   refine ⟨rr,rs,k,rfl,rfl,SqL.of hr6,hk',by omega,hk _ _ ⟨rs.idxOf k,k,rfl,?_,by omega,rfl⟩⟩
   rw [List.getElem?_eq_getElem hlt,List.getElem_idxOf hlt]
  ·exact yZ (decide_eq_false fun z=>x0 (by have:=V.int.inj z; omega)) (hk _ _ ⟨bx0,x,rfl,hx,by omega,rfl⟩)
 rintro _ H6 ⟨bx,x,rfl,hx,x0,rfl⟩
 have hbx:bx < n:=by rw [← rl]; exact (List.getElem?_eq_some_iff.mp hx).1
 have hrx:atI (zp rs) bx = some (.int x):=zr (by unfold zp; rw [List.getElem?_map,hx]; rfl)
 have hvx:atI (vs.map V.int) bx = some (.int (vs.getD bx 0)):=zr (by
  have hb':bx < vs.length:=by omega
  rw [List.getElem?_map,List.getElem?_eq_getElem hb',List.getD_eq_getElem?_getD,List.getElem?_eq_getElem hb']; rfl)
 refine ⟨_,rfl,_,rfl,rr,_,_,_,rfl,rfl,SqL.of hr6,hrx,_,_,rfl,rfl,_,rfl,_,rfl,rr,_,_,bx,rfl,rfl,hr6,si (i:=(bx:Int)) (by omega) (by rw [zw]; omega),?_⟩
 have er:(zp rs).set bx (.int ((x:Int) - 1)) = zp (rs.set bx (x - 1)):=by
  unfold zp
  rw [List.map_set,show ((x:Int) - 1) = ((x - 1:Nat):Int) from by omega]
 have hr7:upd H6 rr (.lst ((zp rs).set bx (.int ((x:Int) - 1)))) rr = some (.lst (zp (rs.set bx (x - 1)))):=by rw [zd,er]
 have hv7:upd H6 rr (.lst ((zp rs).set bx (.int ((x:Int) - 1)))) rv = some (.lst (vs.map V.int)):=by rw [zo nrv.symm]; exact hv6
 have hf7:upd H6 rr (.lst ((zp rs).set bx (.int ((x:Int) - 1)))) rf = some (.lst xs):=by rw [zo nfr]; exact hf6
 have G7:Grow [p,rv,rr,rf] H (upd H6 rr (.lst ((zp rs).set bx (.int ((x:Int) - 1))))):=G5.trans ((g6.mono sub).trans (Grow.set hr6 (by simp) _))
 have g57:Grow [p,rv,rr,rf] H5 (upd H6 rr (.lst ((zp rs).set bx (.int ((x:Int) - 1))))):=(g6.mono sub).trans (Grow.set hr6 (by simp) _)
 have pp7:Pot (upd H6 rr (.lst ((zp rs).set bx (.int ((x:Int) - 1))))) p:=by
  obtain ⟨u0,u1,e,z⟩:=pp6
  exact ⟨u0,u1,by rw [zo npr]; exact e,z⟩
 generalize upd H6 rr (.lst ((zp rs).set bx (.int ((x:Int) - 1)))) = H7 at hr7 hv7 hf7 G7 g57 pp7 ⊢
 try dsimp only
 refine ya (fun v H'=>∃ t:Int,v = .int (mo + t) /\ 0 <= t /\ t <= 2 /\ Grow [p] H7 H' /\ Pot H' p) (fun Kk hk=>⟨_,rfl,_,rfl,_,_,rfl,p,3,rfl,rfl,pp7,by decide,by decide,fun k H' k0 k1 g pp'=>⟨_,_,rfl,rfl,hk _ _ ⟨k,rfl,k0,by omega,g,pp'⟩⟩⟩) ?_
 rintro _ H8 ⟨t,rfl,t0,t1,g8,pp8⟩
 refine ya (fun v H'=>∃ d,wX K H' v d /\ d.Ok /\ d.Bd (10 ^ 27 + 6) /\ Grow [p] H8 H' /\ Pot H' p) (fun Kk hk=>⟨_,rfl,_,rfl,_,_,rfl,p,w,rfl,rfl,pp8,fun d v H' od bd g pp' hd=>hk _ _ ⟨d,hd,od,bd,g,pp'⟩⟩) ?_
 rintro yd H9 ⟨d,hd9,od,bd,g9,pp9⟩
 have mm0:=I.m0
 have mm1:=I.m1
 refine ⟨_,rfl,_,rfl,_,rfl,_,_,_,rfl,p,mo + t,sc,rfl,rfl,rfl,pp9,by omega,by omega,s0,by omega,fun be en rt H10 c0 c1 c2 c3 g10 pp10 ht=>⟨rt,_,rfl,ht,rfl,_,_,rfl,_,_,rfl,rfl,?_⟩⟩
 try dsimp only
 have G10:=g8.trans (g9.trans g10)
 have hv10:=G10.keep _ _ nvp hv7
 have hr10:=G10.keep _ _ nrp hr7
 have hf10:=G10.keep _ _ nfp hf7
 refine ⟨_,rfl,.inl ⟨rfl,_,SqL.of hf10⟩,_,rfl,_,_,rfl,p,16,rfl,rfl,pp10,by decide,by decide,fun hd' H11 h0 h1 g11 pp11=>?_⟩
 have hv11:=g11.keep _ _ nvp hv10
 have hr11:=g11.keep _ _ nrp hr10
 have hf11:=g11.keep _ _ nfp hf10
 refine ⟨_,rfl,_,rfl,_,rfl,_,rfl,_,rfl,_,rfl,rv,_,_,_,rfl,rfl,SqL.of hv11,hvx,szl rfl,fun tc htc=>?_⟩
 obtain ⟨rd,rfl,sd⟩:=(g10.trans g11).deed hd9
 have gtc:=Grow.new (m:=[]) htc (.tup [.int hd',.int bx,.ref rd,.int be,.int en,.int (vs.getD bx 0)])
 have hf12:=gtc.keep _ _ (by simp) hf11
 have hv12:=gtc.keep _ _ (by simp) hv11
 have hr12:=gtc.keep _ _ (by simp) hr11
 have xl:=ha5.len
 have clI:=I.cl
 refine ⟨rf,_,_,rfl,rfl,hf12,lt72 (by omega),?_⟩
 have gap:=Grow.set (m:=[p,rv,rr,rf]) hf12 (by simp) (xs ++ [V.ref tc])
 refine ⟨_,rfl,_,rfl,_,rfl,rv,_,_,_,rfl,rfl,SqL.of (by rw [zo nfv.symm]; exact hv12),hvx,_,_,rfl,d,_,⟨rd,rfl,gap.sqT (gtc.sqT sd)⟩,rfl,_,rfl,_,rfl,rv,_,_,bx,rfl,rfl,by rw [zo nfv.symm]; exact hv12,si (i:=(bx:Int)) (by omega) (by rw [List.length_map]; omega),?_⟩
 have hv13:upd (upd H11 tc (.tup [.int hd',.int bx,.ref rd,.int be,.int en,.int (vs.getD bx 0)])) rf (.lst (xs ++ [V.ref tc])) rv = some (.lst (vs.map V.int)):=by rw [zo nfv.symm]; exact hv12
 have gfin:=gap.trans (Grow.set (m:=[p,rv,rr,rf]) hv13 (by simp) ((vs.map V.int).set bx (.int (d.mk' (vs.getD bx 0)))))
 have gall:Grow [p,rv,rr,rf] H5 _:=g57.trans ((G10.mono sub).trans ((g11.mono sub).trans (gtc.wk.trans gfin)))
 have I':=I.next (ha:=hd') (be:=be) (en:=en) (by omega) n6 hx x0 t0 t1 s0 s1 h0 (by omega) od bd c0 c1 c2 c3
 refine ⟨_,_,_,xs ++ [V.ref tc],mo + t,_,_,_,_,_,rfl,I',?_,?_,?_,?_,G5.trans gall,gall.sqT hb5,?_⟩
 ·rw [zd,List.map_set]
 ·rw [zo nrv,zo nfr.symm]; exact hr12
 ·rw [zo nfv,zd]
 ·exact (gall.callsR ha5).app (AllR.one ⟨tc,rd,rfl,gfin.sqT (SqT.of zd),gfin.sqT (gtc.sqT sd)⟩)
 ·obtain ⟨u0,u1,e,z⟩:=pp11.grow gtc
  exact ⟨u0,u1,by rw [zo npv,zo npf]; exact e,z⟩
theorem ql:FnScope ["_law_pot_here","_law_boxes"] ["_law_pot_here","_law_boxes"] (zi (top 51)):=⟨rfl,rfl,rfl,by decide +kernel,rfl,by decide +kernel,by decide +kernel⟩
theorem qm (F:Fun K "_law_size" "_law_size" (top 51) f fd) (B:Blt mg) (qc0:zk P w K mg base n "_law_take" ["_law_pot_here","_law_many"] (xJ K))     :
  FnOk P w K mg base CX0 (n + 1) f fd ["_law_pot_here","_law_boxes"] (rB K):=by
 refine F.ok ql zW (fun cdv A outer s H vs Q E hr h=>?_)
 obtain ⟨x,y,rfl,p,n,rfl,rfl,pp,n1,n6,q⟩:=h
 refine ⟨_,(ze (zV (zD vw (zf qc0 hr rfl (za (pv 0) (za zh zb))) zh (zB _)) (zg (zq (zA y9 zh (pv 1)))) zy) (zg (zq (zf qc0 hr rfl (za (pv 0) (za (zj (sO rfl) rfl B.min VH (za zh (za (zA yg (zA y9 zh (pv 1)) zh) zb))) zb)))))),?_⟩
 refine yA (fun b H'=>Grow [p] H H' /\ Pot H' p) (fun Kk hk=>⟨_,rfl,_,_,rfl,p,8,rfl,rfl,pp,by decide,by decide,fun n H' n0 n1 g pp'=>⟨rfl,_,rfl,hk _ _ ⟨g,pp'⟩⟩⟩) ?_
 rintro b1 H1 ⟨g1,pp1⟩
 cases b1 with
 | true =>
  refine iteT ⟨_,rfl,_,_,rfl,rfl,vS ⟨by decide,by decide⟩,?_⟩
  have:=q (5 * n) H1 (by omega) (by omega) g1 pp1
  rw [show ((5 * n:Nat):Int) = 5 * (n:Int) from by omega] at this
  exact this
 | false =>
  refine iteF (yh ⟨_,rfl,_,rfl,_,_,rfl,rfl,vS ⟨by decide,by decide⟩,_,_,rfl,rfl,_,_,rfl,_,_,rfl,p,_,rfl,rfl,pp1,by split <;> omega,Int.lt_of_le_of_lt (b:=100) (by split <;> omega) (by decide),fun m H2 m0 m1 g2 pp2=>?_⟩)
  obtain ⟨k,rfl⟩:=Int.eq_ofNat_of_zero_le m0
  refine q k H2 ?_ ?_ (g1.trans g2) pp2
  ·split at m1 <;> omega
  ·split at m1 <;> omega
theorem ZF:FnScope ["_law_script","_law_k"] ["_law_script","_law_k"] (zi (top 37)):=⟨rfl,rfl,rfl,by decide +kernel,rfl,by decide +kernel,by decide +kernel⟩
theorem ZG (F:Fun K "_law_at" "_law_at" (top 37) f fd) (B:Blt mg)      :
  FnOk P w K mg base CX0 (n + 1) f fd ["_law_script","_law_k"] (YA K):=by
 refine F.ok ZF zW (fun cdv A outer s H vs Q E hr h=>?_)
 obtain ⟨x,y,rfl,a,ns,k,rfl,rfl,hs,k0,q⟩:=h
 refine ⟨_,(ze (zV (zD uj (pv 1) (zj zu rfl B.len xh (za (pv 0) zb)) (zB _)) (zg (zq (zE zQ (pv 0) (pv 1) (fun _ _=>rfl)))) zy) (zg (zq zh))),?_⟩
 refine ⟨_,rfl,_,rfl,a,_,rfl,.inl hs.sq,_,_,rfl,rfl,_,rfl,?_⟩
 refine ite2 (fun c=>?_) (fun c=>?_)
 ·have c':k < ((ns.map V.int).length:Int):=of_decide_eq_true c
  rw [List.length_map] at c'
  have hk:k.toNat < ns.length:=by omega
  have ek:k = ((k.toNat:Nat):Int):=by omega
  have hat:atI (ns.map V.int) k = some (.int ns[k.toNat]):=by
   have z:atI (ns.map V.int) ((k.toNat:Nat):Int) = some (.int ns[k.toNat]):=zr (by rw [List.getElem?_map,List.getElem?_eq_getElem hk]; rfl)
   rw [← ek] at z; exact z
  exact ⟨_,rfl,_,rfl,a,_,_,_,rfl,rfl,hs.sq,hat,q _ (.inr (List.getElem_mem hk))⟩
 ·exact q 0 (.inl rfl)
theorem wW:FnScope ["_law_script","_law_k","_law_cell","_law_seed"] ["_law_script","_law_k"] (zi (top 38)):=⟨rfl,rfl,rfl,by decide +kernel,rfl,by decide +kernel,by decide +kernel⟩
theorem jf (F:Fun K "_law_pot" "_law_pot" (top 38) f fd) (B:Blt mg) (qc0:zk P w K mg base n "_law_at" ["_law_script","_law_k"] (YA K))     :
  FnOk P w K mg base CX0 (n + 1) f fd ["_law_script","_law_k"] (Ww K):=by
 refine F.ok wW zW (fun cdv A outer s H vs Q E hr h=>?_)
 obtain ⟨x,y,rfl,a,ns,k,rfl,rfl,hs,k0,k1,q⟩:=h
 refine ⟨_,(ze (zz (i:=2) wW.nd rfl (Or.inl rfl) (zf qc0 hr rfl (za (pv 0) (za (pv 1) zb)))) (ze (zz (i:=3) wW.nd rfl (Or.inl rfl) (zA ui (zA jl (zA yg (zA y9 (zA yg (zA ui (pv 2) zh) zh) (zA yg (zA y9 zh (pv 1)) zh)) zh) zh) zh)) (zg (zq (yM (za (zj (xZ rfl) rfl B.max jZ (za zh (za (zA uh (pv 2) (zA jl zh zh)) zb))) (za (pv 3) zb))))))),?_⟩
 refine ⟨_,rfl,_,rfl,_,_,rfl,a,ns,k,rfl,rfl,hs,k0,fun c _=>?_⟩
 have c0:0 <= c % 2147483629:=Int.emod_nonneg _ (by decide)
 have c1:c % 2147483629 < 2147483629:=Int.emod_lt_of_pos _ (by decide)
 have m0:0 <= (c % 2147483629 + 11) * (977 * k + 131):=Int.mul_nonneg (by omega) (by omega)
 have m1:(c % 2147483629 + 11) * (977 * k + 131) <= 2147483640 * 1000000:=Int.mul_le_mul (by omega) (by omega) (by omega) (by decide)
 refine ⟨_,rfl,_,_,rfl,rfl,(by show (0:Int) < 2147483629; decide),_,_,rfl,rfl,_,rfl,_,_,rfl,rfl,vS ⟨by decide,by decide⟩,_,_,rfl,rfl,_,_,rfl,rfl,Z6 ⟨by omega,by omega⟩,_,_,rfl,rfl,_,_,rfl,rfl,⟨by decide,by decide,by omega⟩,_,_,rfl,rfl,(by show (0:Int) < 2147483647; decide),?_⟩
 refine ⟨_,rfl,_,_,rfl,rfl,⟨by decide,by decide,by decide⟩,_,_,rfl,rfl,_,_,rfl,_,rfl,szl rfl,fun p hp=>?_⟩
 refine q p _ hp (Grow.new hp _) ⟨_,_,zd,?_⟩
 split <;> omega
theorem vt:FnScope ["_law_script","_law_k","_law_pot_here","_law_boxes","_law_board","_law_some","_law_calls","_law_rows_here","_law_turn"] ["_law_script"] (zi (top 59)):=⟨rfl,rfl,rfl,by decide +kernel,rfl,by decide +kernel,by decide +kernel⟩
theorem Ue (F:Fun K "law" "law" (top 59) f fd) (B:Blt mg) (qc0:zk P w K mg base n "_law_told" ["_law_board","_law_calls","_law_rows_here"] (r6 K)) (qc1:zk P w K mg base n "_law_other" ["_law_pot_here","_law_rows_here"] (t4 K)) (qc2:zk P w K mg base n "_law_are_right" ["_law_board","_law_calls","_law_rows_here"] (uT K)) (qc3:zk P w K mg base n "_law_rows" ["_law_pot_here","_law_board","_law_calls"] (r0 K)) (qc4:zk P w K mg base n "_law_mixed" ["_law_pot_here","_law_some"] (tN K)) (qc5:zk P w K mg base n "_law_history" ["_law_pot_here","_law_boxes","_law_many","_law_wide"] (rT K)) (qc6:zk P w K mg base n "_law_take" ["_law_pot_here","_law_many"] (xJ K)) (qc7:zk P w K mg base n "_law_size" ["_law_pot_here","_law_boxes"] (rB K)) (qc8:zk P w K mg base n "_law_pot" ["_law_script","_law_k"] (Ww K))     :
  FnOk P w K mg base CX0 (n + 1) f fd ["_law_script"] (jv K):=by
 refine F.ok vt vz (fun cdv A outer s H vs Q E hr h=>?_)
 obtain ⟨x,rfl,a,ns,rfl,hs,h63,q⟩:=h
 refine ⟨_,(ze (xT PassesOwn.never rfl (xx rfl B.range (za (zj (xZ rfl) rfl B.max jZ (za zh (za (zj (sO rfl) rfl B.min VH (za zh (za (zj zu rfl B.len xh (za (pv 0) zb)) zb))) zb))) zb)) (zm (i:=1) vt.nd rfl (Or.inl rfl)) (ze (zz (i:=2) vt.nd rfl (Or.inl rfl) (zf qc8 hr rfl (za (pv 0) (za (pv 1) zb)))) (ze (zz (i:=3) vt.nd rfl (Or.inl rfl) (zA yg zh (zf qc6 hr rfl (za (pv 2) (za zh zb))))) (ze (xj (zf qc5 hr rfl (za (pv 2) (za (pv 3) (za (zf qc7 hr rfl (za (pv 2) (za (pv 3) zb))) (za (yz vw (zf qc6 hr rfl (za (pv 2) (za zh zb))) zh (zB _)) zb))))) (xi rfl (zn (zm (i:=4) vt.nd rfl (Or.inl rfl)) (zn (zm (i:=5) vt.nd rfl (Or.inl rfl)) yk)))) (ze (zz (i:=6) vt.nd rfl (Or.inl rfl) (zE z7 (zf qc4 hr rfl (za (pv 2) (za (pv 5) zb))) zh (fun _ _=>rfl))) (ze (zz (i:=7) vt.nd rfl (Or.inl rfl) (zf qc3 hr rfl (za (pv 2) (za (pv 4) (za (pv 6) zb))))) (ze (zV (yp (zR (zf qc2 hr rfl (za (pv 4) (za (pv 6) (za (pv 7) zb)))))) (zg (zq yy)) zy) (zg (xT PassesOwn.never rfl (xx rfl B.range (za zh zb)) (zm (i:=8) vt.nd rfl (Or.inl rfl)) (zg (zV (yp (zR (zf qc0 hr rfl (za (pv 4) (za (pv 6) (za (Xv (zD vw (pv 8) zh (zB _)) (pv 7) (zf qc1 hr rfl (za (pv 2) (za (pv 7) zb)))) zb)))))) (zg (zq yy)) zy))))))))))) (zg (zq yy))),?_⟩
 have hl:(ns.map V.int).length = ns.length:=List.length_map ..
 refine ⟨_,rfl,a,_,rfl,.inl hs.sq,_,_,rfl,_,_,rfl,_,rfl,?_,?_,?_⟩
 ·split <;> split <;> omega
 ·rw [hl]; split <;> split <;> omega
 refine ug (fun i σ H'=>∃ (e1 e2 e3 e4 e5 e6 e7 e8:Option V),σ = [some (.ref a),e1,e2,e3,e4,e5,e6,e7,e8] /\ Grow [] H H') ⟨_,_,_,_,_,_,_,_,rfl,Grow.refl _ _⟩ ?_ ?_
 rotate_left
 ·rintro σ H1 _
  exact q _
 rintro i σ H1 hi ⟨e1,e2,e3,e4,e5,e6,e7,e8,rfl,g⟩
 have i63:i < 1000:=by
  have hi':=hi
  revert hi'
  split <;> split <;> omega
 try dsimp only
 refine ya (fun v H'=>∃ p,v = .ref p /\ H1 p = none /\ Grow [] H1 H' /\ Pot H' p) (fun Kk hk=>⟨_,rfl,_,rfl,_,_,rfl,a,ns,_,rfl,rfl,g.scr hs,by omega,by omega,fun p H2 hp g2 pp=>hk _ _ ⟨p,rfl,hp,g2,pp⟩⟩) ?_
 rintro _ H2 ⟨p,rfl,np,g2,pp2⟩
 refine ya (fun v H'=>∃ n:Nat,v = .int n /\ 1 <= n /\ n <= 6 /\ Grow [p] H2 H' /\ Pot H' p) (fun Kk hk=>⟨_,rfl,_,_,rfl,p,6,rfl,rfl,pp2,by decide,by decide,fun t H' t0 t1 g pp'=>⟨_,_,rfl,rfl,hk _ _ ⟨(1 + t).toNat,congrArg V.int (by omega),by omega,by omega,g,pp'⟩⟩⟩) ?_
 rintro _ H3 ⟨n,rfl,n1,n6,g3,pp3⟩
 refine ⟨_,rfl,_,rfl,_,rfl,_,rfl,_,_,rfl,p,n,rfl,rfl,pp3,n1,n6,fun m H4 m8 m40 g4 pp4=>⟨_,rfl,_,_,rfl,p,2,rfl,rfl,pp4,by decide,by decide,fun t H5 t0 t1 g5 pp5=>⟨rfl,_,_,_,_,rfl,p,n,m,decide (V.int t = V.int 1),rfl,rfl,rfl,rfl,pp5,n1,n6,m8,m40,fun b cs xr r rb l H6 hist csl g6 pp6 hr6 hrb6 hl6 lp6 ha6=>⟨r,_,rfl,hr6,rfl,_,_,rfl,_,_,rfl,rfl,?_⟩⟩⟩⟩
 try dsimp only
 have c40:=hist.ok.len
 have b1:1 <= b.length:=by rw [hist.bl]; exact n1
 have b6:b.length <= 6:=by rw [hist.bl]; omega
 refine ya (fun v H'=>∃ ms:List Nat,ms.Perm (List.range cs.length) /\ zC K H' v (ms.map (cg cs)) /\ Grow [p] H6 H' /\ Pot H' p) (fun Kk hk=>⟨_,rfl,_,rfl,_,_,rfl,p,l,xr,cs,rfl,rfl,pp6,hl6,lp6,ha6,c40,fun ms r8 ro yc H8 hp g8 pp8 hr8 hc8 hro8=>⟨r8,_,0,_,rfl,rfl,hr8,rfl,hk _ _ ⟨ms,hp,hc8,g8,pp8⟩⟩⟩) ?_
 rintro yc H7 ⟨ms,hp,hc7,g7,pp7⟩
 have hb7:zI K H7 (.ref rb) b:=⟨rb,rfl,g7.sqT hrb6⟩
 have ok7:Calls72 b.length (ms.map (cg cs)):=by rw [hist.bl]; exact hist.ok.perm (wO hp)
 have bd7:∀ c ∈ ms.map (cg cs),Cb72 (10 ^ 29 + 5) c:=fun c hc=>(hist.bd c ((wO hp).mem_iff.mp hc)).mono (by omega)
 have an7:=Xj hist hp
 have bb:=hist.bb
 have G7:Grow [p] H1 H7:=g2.wk.trans (g3.trans (g4.trans (g5.trans (g6.trans g7))))
 generalize ms.map (cg cs) = ds at hc7 ok7 bd7 an7
 refine ya (fun v H'=>∃ (r:Addr) (vs:List V) (os:List (List Nat)),v = .ref r /\ Rs75 K H' r vs os /\ wC b ds os /\ Grow [p] H7 H' /\ Pot H' p) (fun Kk hk=>⟨_,rfl,_,rfl,_,rfl,_,_,_,rfl,p,b,ds,rfl,pp7,hb7,by omega,hc7,ok7,fun r vs H8 g8 pp8 hv8 hr8=>?_⟩) ?_
 ·obtain ⟨os,o1,o2,o3⟩:=ZC ok7 an7 hr8
  exact hk _ _ ⟨r,vs,os,rfl,⟨hv8,o1,by rw [o2.1]; exact b1,by rw [o2.1]; exact b6,o3⟩,o2,g8,pp8⟩
 rintro _ H8 ⟨rr,vs,os,rfl,R8,ro,g8,pp8⟩
 have hb8:=g8.board hb7
 have hc8:=g8.calls72 hc7
 refine yA (fun c H'=>c = false /\ Grow [] H8 H') (fun Kk hk=>⟨_,rfl,_,rfl,_,rfl,_,_,_,rfl,b,ds,wq os,[p],hb8,by omega,hc8,ok7,Xn R8.sq R8.rows,Xo (by have:=R8.n6; omega) (fun o ho=>by have:=(R8.short o ho).1; omega),fun t H9 ht g9=>⟨_,rfl,?_⟩⟩) ?_
 ·rw [ht.mpr ⟨os,rfl,ro⟩]
  exact hk _ _ ⟨rfl,g9⟩
 rintro _ H9 ⟨rfl,g9⟩
 refine iteF (yh ?_)
 refine ⟨_,rfl,by decide,by decide,?_⟩
 refine ug (fun j σ H'=>∃ (e8:Option V),σ = [some (.ref a),some (.int (0 + (i:Int))),some (.ref p),some (.int n),some (.ref rb),some (.ref l),some yc,some (.ref rr),e8] /\ Grow [p] H9 H' /\ Pot H' p) ⟨_,rfl,Grow.refl _ _,pp8.grow g9⟩ ?_ ?_
 rotate_left
 ·rintro σ H10 ⟨e8,rfl,g10,_⟩
  exact ⟨_,_,_,_,_,_,_,_,rfl,g.trans ((G7.trans (g8.trans (g9.wk.trans g10))).shrink np)⟩
 rintro j σ H10 hj ⟨e8,rfl,g10,pp10⟩
 try dsimp only
 have hb10:=(g9.wk.trans g10).board hb8
 have hc10:=(g9.wk.trans g10).calls72 hc8
 have R10:=R8.grow (g9.wk.trans g10)
 show tIfS _ _ _ _ _ _
 refine Wn (fun c H'=>c = false /\ Grow [p] H10 H' /\ Pot H' p) (fun Kk hk=>⟨_,rfl,_,rfl,_,rfl,rfl,_,rfl,?_⟩) ?_
 ·by_cases j0:j = 0
  ·refine yX (decide_eq_true (congrArg V.int (by omega))) ⟨_,rfl,?_⟩
   obtain ⟨d,hd,fd,gd⟩:=Ud (p:=p) R10
   exact ⟨_,_,_,rfl,b,ds,d,[p],hb10,b1,by omega,bb,hc10,ok7,bd7,hd,fd,gd,fun H11 g11=>⟨_,rfl,hk _ _ ⟨rfl,g11.wk,pp10.grow g11⟩⟩⟩
  ·refine yZ (decide_eq_false fun z=>j0 (by have:=V.int.inj z; omega)) ⟨_,rfl,_,rfl,_,_,rfl,p,rr,vs,os,rfl,rfl,pp10,R10,fun v H11 g11 pp11 w11=>?_⟩
   obtain ⟨d,hd,fd,gd⟩:=w11
   exact ⟨_,_,_,rfl,b,ds,d,[p],g11.board hb10,b1,by omega,bb,g11.calls72 hc10,ok7,bd7,hd,fd,gd,fun H12 g12=>⟨_,rfl,hk _ _ ⟨rfl,g11.trans g12.wk,pp11.grow g12⟩⟩⟩
 rintro _ H11 ⟨rfl,g11,pp11⟩
 exact iteF ⟨_,rfl,g10.trans g11,pp11⟩
end
theorem uX:∀ {us:List Value},us.length = 1 -> ∃ x0,us = [x0]
 | [x0],_=>⟨x0,rfl⟩
theorem zX:∀ {us:List Value},us.length = 2 -> ∃ x0,∃ x1,us = [x0,x1]
 | [x0,x1],_=>⟨x0,x1,rfl⟩
theorem xg:∀ {us:List Value},us.length = 3 -> ∃ x0,∃ x1,∃ x2,us = [x0,x1,x2]
 | [x0,x1,x2],_=>⟨x0,x1,x2,rfl⟩
theorem jg:∀ {us:List Value},us.length = 4 -> ∃ x0,∃ x1,∃ x2,∃ x3,us = [x0,x1,x2,x3]
 | [x0,x1,x2,x3],_=>⟨x0,x1,x2,x3,rfl⟩
theorem Vo:∀ {us:List Value},us.length = 5 -> ∃ x0,∃ x1,∃ x2,∃ x3,∃ x4,us = [x0,x1,x2,x3,x4]
 | [x0,x1,x2,x3,x4],_=>⟨x0,x1,x2,x3,x4,rfl⟩
def FA (K:FG7) (x:Str) (t:Stmt) (f:Addr) (d:FuncData):Prop:=PySem.W.nsIn K mainGlobals x = some (some (.ref f)) /\ Fun K x x t f d
theorem FA.cl {P:Program} {w:World} {K:FG7} {h base:Heap} {mg:Str -> Option Value} {x:Str} {t:Stmt} {f:Addr} {d:FuncData} {k:Nat} {ps:List Str} {sp:Sp} (a:FA K x t f d) (X:K.In h) (G:h.Ns mainGlobals mg) (F:FnOk P w K mg base CX0 k f d ps sp) (b:sQ K d ps []):zk P w K mg base k x ps sp:=⟨_,_,F,b,a.2.kp,PySem.W.mg_of X G a.1⟩
theorem all_mk {l:PySem.W.OpenLaw} {w:World} {K:FG7} {h:Heap} {mg:Str -> Option Value} {fa f1 f2 f3 f4 f5 f6 f7 f8 f9 f10 f11 f12 f13 f14 f15 f16 f17 f18 f19 f20 f21 f22 f23 f24 f25 f26 f27 f28 f29 f30 f31 f32 f33 f34 f35 f36 f37 f38 f39 f40 f41 f42:Addr} (X:K.In h) (G:h.Ns mainGlobals mg) (hfa:mg "law" = some (.ref fa))
    {d1 d2 d3 d4 d5 d6 d7 d8 d9 d10 d11 d12 d13 d14 d15 d16 d17 d18 d19 d20 d21 d22 d23 d24 d25 d26 d27 d28 d29 d30 d31 d32 d33 d34 d35 d36 d37 d38 d39 d40 d41 d42:FuncData}
    {A_AskError:Addr} (ax_AskError:PySem.W.nsIn K mainGlobals "AskError" = some (some (.ref A_AskError)))
    {A_NoAsk:Addr} (ax_NoAsk:PySem.W.nsIn K mainGlobals "NoAsk" = some (some (.ref A_NoAsk)))
    {A_NoBoard:Addr} (ax_NoBoard:PySem.W.nsIn K mainGlobals "NoBoard" = some (some (.ref A_NoBoard)))
    {A_NoCalls:Addr} (ax_NoCalls:PySem.W.nsIn K mainGlobals "NoCalls" = some (some (.ref A_NoCalls)))
    {A_NoNumber:Addr} (ax_NoNumber:PySem.W.nsIn K mainGlobals "NoNumber" = some (some (.ref A_NoNumber)))
    {A_NoOrder:Addr} (ax_NoOrder:PySem.W.nsIn K mainGlobals "NoOrder" = some (some (.ref A_NoOrder)))
    {A_TooMany:Addr} (ax_TooMany:PySem.W.nsIn K mainGlobals "TooMany" = some (some (.ref A_TooMany)))
    (ex_AskError:PySem.W.excIn K A_AskError veM "ValueError.__new__" = true)
    (ex_NoOrder:PySem.W.excIn K A_NoOrder veM "ValueError.__new__" = true)
    (u_NoOrder_AskError:PySem.W.mroIn K A_NoOrder (.ref A_AskError) = some true)
    (kk_NoOrder:ExcK K A_NoOrder)
    (q_NoOrder_NoAsk:PySem.W.kitOne K (.ref A_NoOrder) (.ref A_NoAsk) = some false)
    (q_NoOrder_NoBoard:PySem.W.kitOne K (.ref A_NoOrder) (.ref A_NoBoard) = some false)
    (q_NoOrder_NoCalls:PySem.W.kitOne K (.ref A_NoOrder) (.ref A_NoCalls) = some false)
    (q_NoOrder_NoNumber:PySem.W.kitOne K (.ref A_NoOrder) (.ref A_NoNumber) = some false)
    (q_NoOrder_NoOrder:PySem.W.kitOne K (.ref A_NoOrder) (.ref A_NoOrder) = some true)
    (q_NoOrder_TooMany:PySem.W.kitOne K (.ref A_NoOrder) (.ref A_TooMany) = some false)
    (q_NoOrder_ValueError:PySem.W.kitOne K (.ref A_NoOrder) (.type "ValueError") = some true)
 (h1:FA K "_law_done" ((top 43)) f1 d1)
 (h2:FA K "_law_answers" ((top 49)) f2 d2)
 (h3:FA K "_law_keeps" ((top 48)) f3 d3)
 (h4:FA K "_law_is_order" ((top 47)) f4 d4)
 (h5:FA K "_law_fits" ((top 50)) f5 d5)
 (h6:FA K "_law_is_box" ((top 54)) f6 d6)
 (h7:FA K "_law_are_right" ((top 55)) f7 d7)
 (h8:FA K "merged" ((top 32)) f8 d8)
 (h9:FA K "by_boxes" ((top 25)) f9 d9)
 (h10:FA K "made" ((top 14)) f10 d10)
 (h11:FA K "are_answered" ((top 29)) f11 d11)
 (h12:FA K "keeps_ahead" ((top 30)) f12 d12)
 (h13:FA K "is_whole" ((top 9)) f13 d13)
 (h14:FA K "is_order" ((top 28)) f14 d14)
 (h15:FA K "fits_these" ((top 31)) f15 d15)
 (h16:FA K "need_orders" ((top 34)) f16 d16)
 (h17:FA K "is_end" ((top 12)) f17 d17)
 (h18:FA K "is_deed" ((top 13)) f18 d18)
 (h19:FA K "is_within" ((top 10)) f19 d19)
 (h20:FA K "is_ask" ((top 20)) f20 d20)
 (h21:FA K "is_call" ((top 24)) f21 d21)
 (h22:FA K "is_board" ((top 18)) f22 d22)
 (h23:FA K "need_board" ((top 19)) f23 d23)
 (h24:FA K "are_calls" ((top 26)) f24 d24)
 (h25:FA K "need_calls" ((top 27)) f25 d25)
 (h26:FA K "gone_together" ((top 35)) f26 d26)
 (h27:FA K "_law_word" ((top 57)) f27 d27)
 (h28:FA K "_law_told" ((top 58)) f28 d28)
 (h29:FA K "_law_take" ((top 39)) f29 d29)
 (h30:FA K "_law_other" ((top 56)) f30 d30)
 (h31:FA K "_law_shuffled" ((top 40)) f31 d31)
 (h32:FA K "_law_row" ((top 52)) f32 d32)
 (h33:FA K "_law_rows" ((top 53)) f33 d33)
 (h34:FA K "_law_mixed" ((top 46)) f34 d34)
 (h35:FA K "_law_times" ((top 44)) f35 d35)
 (h36:FA K "_law_number" ((top 41)) f36 d36)
 (h37:FA K "_law_deed" ((top 42)) f37 d37)
 (h38:FA K "_law_history" ((top 45)) f38 d38)
 (h39:FA K "_law_size" ((top 51)) f39 d39)
 (h40:FA K "_law_at" ((top 37)) f40 d40)
 (h41:FA K "_law_pot" ((top 38)) f41 d41)
 (h42:FA K "law" ((top 59)) f42 d42)
    {t_LAST_HAND:Tok} (ga_LAST_HAND:PySem.W.nsIn K mainGlobals "LAST_HAND" = some (some (.int 15 t_LAST_HAND)))
    {t_MOST_AT_A_BOX:Tok} (ga_MOST_AT_A_BOX:PySem.W.nsIn K mainGlobals "MOST_AT_A_BOX" = some (some (.int 8 t_MOST_AT_A_BOX)))
    {t_MOST_BOXES:Tok} (ga_MOST_BOXES:PySem.W.nsIn K mainGlobals "MOST_BOXES" = some (some (.int 16 t_MOST_BOXES)))
    {t_MOST_CALLS:Tok} (ga_MOST_CALLS:PySem.W.nsIn K mainGlobals "MOST_CALLS" = some (some (.int 40 t_MOST_CALLS)))
    (ga_ValueError:PySem.W.nsIn K mainGlobals "ValueError" = some none)
    (ga_any:PySem.W.nsIn K mainGlobals "any" = some none)
    (ga_enumerate:PySem.W.nsIn K mainGlobals "enumerate" = some none)
    (ga_sorted:PySem.W.nsIn K mainGlobals "sorted" = some none)
    (ga_zip:PySem.W.nsIn K mainGlobals "zip" = some none)
    (z_abs:PySem.W.nsIn K mainGlobals "abs" = some none)
    (z_len:PySem.W.nsIn K mainGlobals "len" = some none)
    (z_max:PySem.W.nsIn K mainGlobals "max" = some none)
    (z_min:PySem.W.nsIn K mainGlobals "min" = some none)
    (z_divmod:PySem.W.nsIn K mainGlobals "divmod" = some none)
    (z_repr:PySem.W.nsIn K mainGlobals "repr" = some none)
    (z_isinstance:PySem.W.nsIn K mainGlobals "isinstance" = some none)
    (z_all:PySem.W.nsIn K mainGlobals "all" = some none)
    (z_range:PySem.W.nsIn K mainGlobals "range" = some none)
    (z_int:PySem.W.nsIn K mainGlobals "int" = some none)
    (z_bool:PySem.W.nsIn K mainGlobals "bool" = some none)
    (z_str:PySem.W.nsIn K mainGlobals "str" = some none)
    (z_tuple:PySem.W.nsIn K mainGlobals "tuple" = some none)
    (z_list:PySem.W.nsIn K mainGlobals "list" = some none)
    (z_dict:PySem.W.nsIn K mainGlobals "dict" = some none)
    :
    ∃ fd:FuncData,(∀ (s:Shared) (v:Value),BindsTo s fd ⟨[v],[]⟩ [("_law_script",v)]) /\ ∀ base:Heap,K.In base -> base.Ns mainGlobals mg -> FnOk l.prog w K mg base CX0 13 fa fd ["_law_script"] (jv K):=by
  have e:=hfa.symm.trans (PySem.W.mg_of X G h42.1)
  cases e
  have b16:=h16.2.binds (ps:=["board","calls","thing"]) fun _ _ _ _ _ _ us hl=>by obtain ⟨_,_,_,rfl⟩:=xg hl; rfl
  have b26:=h26.2.binds (ps:=["board","calls","orders"]) fun _ _ _ _ _ _ us hl=>by obtain ⟨_,_,_,rfl⟩:=xg hl; rfl
  have b32:=h32.2.binds (ps:=["_law_pot_here","_law_calls","_law_left","_law_value","_law_dead"]) fun _ _ _ _ _ _ us hl=>by obtain ⟨_,_,_,_,_,rfl⟩:=Vo hl; rfl
  have x_AskError:ExcC K mg "AskError" A_AskError:=excC_of (PySem.W.mg_of X G ax_AskError) ex_AskError
  have x_NoOrder:ExcC K mg "NoOrder" A_NoOrder:=excC_of (PySem.W.mg_of X G ax_NoOrder) ex_NoOrder
  have v_AskError:mg "AskError" = some (.ref A_AskError):=PySem.W.mg_of X G ax_AskError
  have v_NoAsk:mg "NoAsk" = some (.ref A_NoAsk):=PySem.W.mg_of X G ax_NoAsk
  have v_NoBoard:mg "NoBoard" = some (.ref A_NoBoard):=PySem.W.mg_of X G ax_NoBoard
  have v_NoCalls:mg "NoCalls" = some (.ref A_NoCalls):=PySem.W.mg_of X G ax_NoCalls
  have v_NoNumber:mg "NoNumber" = some (.ref A_NoNumber):=PySem.W.mg_of X G ax_NoNumber
  have v_NoOrder:mg "NoOrder" = some (.ref A_NoOrder):=PySem.W.mg_of X G ax_NoOrder
  have v_TooMany:mg "TooMany" = some (.ref A_TooMany):=PySem.W.mg_of X G ax_TooMany
  have k_NoOrder:=kk_NoOrder
  have B:Blt mg:=⟨PySem.W.mg_none_of X G z_abs,PySem.W.mg_none_of X G z_len,PySem.W.mg_none_of X G z_max,PySem.W.mg_none_of X G z_min,PySem.W.mg_none_of X G z_divmod,PySem.W.mg_none_of X G z_repr,PySem.W.mg_none_of X G z_isinstance,PySem.W.mg_none_of X G z_all,PySem.W.mg_none_of X G z_range,PySem.W.mg_none_of X G z_int,PySem.W.mg_none_of X G z_bool,PySem.W.mg_none_of X G z_str,PySem.W.mg_none_of X G z_tuple,PySem.W.mg_none_of X G z_list,PySem.W.mg_none_of X G z_dict⟩
  obtain ⟨oc,od,kV,dc,pm,an,cd,ct,sl,rfl,lk,hc⟩:=h42.2.ex
  refine ⟨PySem.W.fnOf "law" "law" (ul (top 59)) (wN (top 59)) (zi (top 59)) .none kV dc pm an cd ct,fun s v=>.of_eq rfl,fun base _ _=>?_⟩
  have C1:zk l.prog w K mg base 1 _ _ _:=h1.cl X G (r9 h1.2 B       ) (h1.2.binds fun _ _ _ _ _ _ us hl=>by obtain ⟨_,_,rfl⟩:=zX hl; rfl)
  have C2:zk l.prog w K mg base 2 _ _ _:=h2.cl X G (uU h2.2 B    (C1.mono (by decide))   ) (h2.2.binds fun _ _ _ _ _ _ us hl=>by obtain ⟨_,_,_,rfl⟩:=xg hl; rfl)
  have C3:zk l.prog w K mg base 1 _ _ _:=h3.cl X G (sE h3.2 B     (PySem.W.mg_none_of X G ga_enumerate) (PySem.W.mg_none_of X G ga_any)  ) (h3.2.binds fun _ _ _ _ _ _ us hl=>by obtain ⟨_,_,rfl⟩:=zX hl; rfl)
  have C4:zk l.prog w K mg base 1 _ _ _:=h4.cl X G (v5 h4.2 B     (PySem.W.mg_none_of X G ga_sorted) (PySem.W.mg_none_of X G ga_any)  ) (h4.2.binds fun _ _ _ _ _ _ us hl=>by obtain ⟨_,_,rfl⟩:=zX hl; rfl)
  have C5:zk l.prog w K mg base 3 _ _ _:=h5.cl X G (qb h5.2 B    (C2.mono (by decide)) (C3.mono (by decide)) (C4.mono (by decide))   ) (h5.2.binds fun _ _ _ _ _ _ us hl=>by obtain ⟨_,_,_,rfl⟩:=xg hl; rfl)
  have C6:zk l.prog w K mg base 3 _ _ _:=h6.cl X G (u4 h6.2 B    (C2.mono (by decide)) (C3.mono (by decide)) (PySem.W.mg_none_of X G ga_sorted) (PySem.W.mg_none_of X G ga_any) (PySem.W.mg_none_of X G ga_enumerate)  ) (h6.2.binds fun _ _ _ _ _ _ us hl=>by obtain ⟨_,_,_,_,rfl⟩:=jg hl; rfl)
  have C7:zk l.prog w K mg base 4 _ _ _:=h7.cl X G (vM h7.2 B    (C6.mono (by decide)) (PySem.W.mg_none_of X G ga_enumerate)  ) (h7.2.binds fun _ _ _ _ _ _ us hl=>by obtain ⟨_,_,_,rfl⟩:=xg hl; rfl)
  have C8:zk l.prog w K mg base 1 _ _ _:=h8.cl X G (Xp h8.2 B     (PySem.W.mg_none_of X G ga_sorted) (PySem.W.mg_none_of X G ga_enumerate)  ) (h8.2.binds fun _ _ _ _ _ _ us hl=>by obtain ⟨_,_,rfl⟩:=zX hl; rfl)
  have C9:zk l.prog w K mg base 1 _ _ _:=h9.cl X G (qZ h9.2 B     (PySem.W.mg_none_of X G ga_enumerate)  ) (h9.2.binds fun _ _ _ _ _ _ us hl=>by obtain ⟨_,_,rfl⟩:=zX hl; rfl)
  have C10:zk l.prog w K mg base 1 _ _ _:=h10.cl X G (Vn h10.2 B       ) (h10.2.binds fun _ _ _ _ _ _ us hl=>by obtain ⟨_,_,rfl⟩:=zX hl; rfl)
  have C11:zk l.prog w K mg base 2 _ _ _:=h11.cl X G (uV h11.2 B    (C10.mono (by decide))   ) (h11.2.binds fun _ _ _ _ _ _ us hl=>by obtain ⟨_,_,_,rfl⟩:=xg hl; rfl)
  have C12:zk l.prog w K mg base 1 _ _ _:=h12.cl X G (u5 h12.2 B       ) (h12.2.binds fun _ _ _ _ _ _ us hl=>by obtain ⟨_,_,rfl⟩:=zX hl; rfl)
  have C13:zk l.prog w K mg base 1 _ _ _:=h13.cl X G (q9 h13.2 B       ) (h13.2.binds fun _ _ _ _ _ _ us hl=>by obtain ⟨_,rfl⟩:=uX hl; rfl)
  have C14:zk l.prog w K mg base 2 _ _ _:=h14.cl X G (jb h14.2 B    (C13.mono (by decide)) (PySem.W.mg_none_of X G ga_sorted)  ) (h14.2.binds fun _ _ _ _ _ _ us hl=>by obtain ⟨_,_,rfl⟩:=zX hl; rfl)
  have C15:zk l.prog w K mg base 3 _ _ _:=h15.cl X G (sG h15.2 B    (C11.mono (by decide)) (C12.mono (by decide)) (C14.mono (by decide))   ) (h15.2.binds fun _ _ _ _ _ _ us hl=>by obtain ⟨_,_,_,_,rfl⟩:=jg hl; rfl)
  have C16:wj l.prog w K mg base 4 "need_orders" ["board","calls","thing"] (vJ A_NoOrder K):=⟨_,_,u6 (P:=l.prog) (w:=w) (base:=base) (n:=3) h16.2 B x_NoOrder   (C9.mono (by decide)) (C15.mono (by decide)) (PySem.W.mg_none_of X G ga_zip)  ,b16,h16.2.kp,PySem.W.mg_of X G h16.1⟩
  have C17:zk l.prog w K mg base 2 _ _ _:=h17.cl X G (Xr h17.2 B    (C13.mono (by decide))   ) (h17.2.binds fun _ _ _ _ _ _ us hl=>by obtain ⟨_,rfl⟩:=uX hl; rfl)
  have C18:zk l.prog w K mg base 3 _ _ _:=h18.cl X G (ZD h18.2 B    (C17.mono (by decide)) (C13.mono (by decide))   ) (h18.2.binds fun _ _ _ _ _ _ us hl=>by obtain ⟨_,rfl⟩:=uX hl; rfl)
  have C19:zk l.prog w K mg base 2 _ _ _:=h19.cl X G (qd h19.2 B    (C13.mono (by decide))   ) (h19.2.binds fun _ _ _ _ _ _ us hl=>by obtain ⟨_,_,_,rfl⟩:=xg hl; rfl)
  have C20:zk l.prog w K mg base 4 _ _ _:=h20.cl X G (Xs h20.2 B    (C18.mono (by decide)) (C19.mono (by decide))  (PySem.W.mg_of X G ga_LAST_HAND) ) (h20.2.binds fun _ _ _ _ _ _ us hl=>by obtain ⟨_,_,rfl⟩:=zX hl; rfl)
  have C21:zk l.prog w K mg base 5 _ _ _:=h21.cl X G (ZE h21.2 B    (C13.mono (by decide)) (C20.mono (by decide))   ) (h21.2.binds fun _ _ _ _ _ _ us hl=>by obtain ⟨_,_,rfl⟩:=zX hl; rfl)
  have C22:zk l.prog w K mg base 2 _ _ _:=h22.cl X G (jd h22.2 B    (C13.mono (by decide))  (PySem.W.mg_of X G ga_MOST_BOXES) ) (h22.2.binds fun _ _ _ _ _ _ us hl=>by obtain ⟨_,rfl⟩:=uX hl; rfl)
  have C23:zk l.prog w K mg base 3 _ _ _:=h23.cl X G (sI h23.2 B    (C22.mono (by decide))   ) (h23.2.binds fun _ _ _ _ _ _ us hl=>by obtain ⟨_,rfl⟩:=uX hl; rfl)
  have C24:zk l.prog w K mg base 6 _ _ _:=h24.cl X G (qf h24.2 B    (C9.mono (by decide)) (C21.mono (by decide)) (C23.mono (by decide))  (PySem.W.mg_of X G ga_MOST_AT_A_BOX) (PySem.W.mg_of X G ga_MOST_CALLS) ) (h24.2.binds fun _ _ _ _ _ _ us hl=>by obtain ⟨_,_,rfl⟩:=zX hl; rfl)
  have C25:zk l.prog w K mg base 7 _ _ _:=h25.cl X G (sK h25.2 B    (C24.mono (by decide))   ) (h25.2.binds fun _ _ _ _ _ _ us hl=>by obtain ⟨_,_,rfl⟩:=zX hl; rfl)
  have C26:wj l.prog w K mg base 8 "gone_together" ["board","calls","orders"] (uS A_NoOrder K):=⟨_,_,v7 (P:=l.prog) (w:=w) (base:=base) (n:=7) h26.2 B x_NoOrder   (C8.mono (by decide)) (C16.mono (by decide)) (C25.mono (by decide))   ,b26,h26.2.kp,PySem.W.mg_of X G h26.1⟩
  have C27:zk l.prog w K mg base 9 _ _ _:=h27.cl X G (qg h27.2 B x_AskError x_NoOrder v_NoCalls v_NoOrder v_TooMany v_NoAsk v_NoBoard v_NoNumber u_NoOrder_AskError k_NoOrder q_NoOrder_NoNumber q_NoOrder_NoBoard q_NoOrder_NoAsk q_NoOrder_TooMany q_NoOrder_NoOrder q_NoOrder_NoCalls q_NoOrder_ValueError  (C26.mono (by decide)) (PySem.W.mg_none_of X G ga_any) (PySem.W.mg_none_of X G ga_ValueError)  ) (h27.2.binds fun _ _ _ _ _ _ us hl=>by obtain ⟨_,_,_,rfl⟩:=xg hl; rfl)
  have C28:zk l.prog w K mg base 10 _ _ _:=h28.cl X G (qh h28.2 B    (C5.mono (by decide)) (C7.mono (by decide)) (C27.mono (by decide)) (PySem.W.mg_none_of X G ga_enumerate)  ) (h28.2.binds fun _ _ _ _ _ _ us hl=>by obtain ⟨_,_,_,rfl⟩:=xg hl; rfl)
  have C29:zk l.prog w K mg base 1 _ _ _:=h29.cl X G (qi h29.2 B       ) (h29.2.binds fun _ _ _ _ _ _ us hl=>by obtain ⟨_,_,rfl⟩:=zX hl; rfl)
  have C30:zk l.prog w K mg base 2 _ _ _:=h30.cl X G (sL h30.2 B    (C29.mono (by decide))   ) (h30.2.binds fun _ _ _ _ _ _ us hl=>by obtain ⟨_,_,rfl⟩:=zX hl; rfl)
  have C31:zk l.prog w K mg base 2 _ _ _:=h31.cl X G (v8 h31.2 B    (C29.mono (by decide))   ) (h31.2.binds fun _ _ _ _ _ _ us hl=>by obtain ⟨_,_,rfl⟩:=zX hl; rfl)
  have R32:∀ N:Nat,FnOk l.prog w K mg base CX0 (2 + N) f32 d32 ["_law_pot_here","_law_calls","_law_left","_law_value","_law_dead"] (xL l.prog w N K):=by
    intro N
    induction N with
    | zero=>exact XL Xl
    | succ N ih=>exact je (P:=l.prog) (w:=w) (base:=base) (n:=2 + N) h32.2 B (C31.mono (Nat.le_trans (show 2 <= 2 by decide) (Nat.le_add_right 2 N))) ⟨_,_,ih,b32,h32.2.kp,PySem.W.mg_of X G h32.1⟩ (C1.mono (Nat.le_trans (show 1 <= 2 by decide) (Nat.le_add_right 2 N))) (PySem.W.mg_none_of X G ga_any)
  have C32:zk l.prog w K mg base 11 "_law_row" ["_law_pot_here","_law_calls","_law_left","_law_value","_law_dead"] (xL l.prog w 9 K):=⟨_,_,R32 9,b32,h32.2.kp,PySem.W.mg_of X G h32.1⟩
  have C33:zk l.prog w K mg base 12 _ _ _:=h33.cl X G (qj h33.2 B    (C32.mono (by decide)) (PySem.W.mg_none_of X G ga_enumerate)  ) (h33.2.binds fun _ _ _ _ _ _ us hl=>by obtain ⟨_,_,_,rfl⟩:=xg hl; rfl)
  have C34:zk l.prog w K mg base 3 _ _ _:=h34.cl X G (sM h34.2 B    (C31.mono (by decide))   ) (h34.2.binds fun _ _ _ _ _ _ us hl=>by obtain ⟨_,_,rfl⟩:=zX hl; rfl)
  have C35:zk l.prog w K mg base 2 _ _ _:=h35.cl X G (sN h35.2 B    (C29.mono (by decide))   ) (h35.2.binds fun _ _ _ _ _ _ us hl=>by obtain ⟨_,_,_,rfl⟩:=xg hl; rfl)
  have C36:zk l.prog w K mg base 2 _ _ _:=h36.cl X G (u8 h36.2 B    (C29.mono (by decide))   ) (h36.2.binds fun _ _ _ _ _ _ us hl=>by obtain ⟨_,_,rfl⟩:=zX hl; rfl)
  have C37:zk l.prog w K mg base 3 _ _ _:=h37.cl X G (qk h37.2 B    (C29.mono (by decide)) (C36.mono (by decide))   ) (h37.2.binds fun _ _ _ _ _ _ us hl=>by obtain ⟨_,_,rfl⟩:=zX hl; rfl)
  have C38:zk l.prog w K mg base 4 _ _ _:=h38.cl X G (uW h38.2 B    (C1.mono (by decide)) (C29.mono (by decide)) (C35.mono (by decide)) (C37.mono (by decide)) (C36.mono (by decide))   ) (h38.2.binds fun _ _ _ _ _ _ us hl=>by obtain ⟨_,_,_,_,rfl⟩:=jg hl; rfl)
  have C39:zk l.prog w K mg base 2 _ _ _:=h39.cl X G (qm h39.2 B    (C29.mono (by decide))   ) (h39.2.binds fun _ _ _ _ _ _ us hl=>by obtain ⟨_,_,rfl⟩:=zX hl; rfl)
  have C40:zk l.prog w K mg base 1 _ _ _:=h40.cl X G (ZG h40.2 B       ) (h40.2.binds fun _ _ _ _ _ _ us hl=>by obtain ⟨_,_,rfl⟩:=zX hl; rfl)
  have C41:zk l.prog w K mg base 2 _ _ _:=h41.cl X G (jf h41.2 B    (C40.mono (by decide))   ) (h41.2.binds fun _ _ _ _ _ _ us hl=>by obtain ⟨_,_,rfl⟩:=zX hl; rfl)
  exact Ue (P:=l.prog) (w:=w) (base:=base) (n:=12) h42.2 B    (C28.mono (by decide)) (C30.mono (by decide)) (C7.mono (by decide)) (C33.mono (by decide)) (C34.mono (by decide)) (C38.mono (by decide)) (C29.mono (by decide)) (C39.mono (by decide)) (C41.mono (by decide))
theorem walk {l:PySem.W.OpenLaw} {q:Program} {loose:List Str} {XP:(Str -> Option Value) -> Heap -> Prop} {YP:World -> Heap -> Prop} {d:DefRec} {K:Params -> FG7} (hn:l.most = some 63) (hdf:d.params.defaults = [])
  (hY:∀ (w:World) (h:Heap),YP w h -> (K w.params).In h)
  (F:∀ (w:World) (mg:Str -> Option Value) (fa:Addr) (h:Heap),(K w.params).In h -> h.Ns mainGlobals mg -> mg d.name = some (.ref fa) →
   ∃ fd:FuncData,(∀ (s:Shared) (u:Value),BindsTo s fd ⟨[u],[]⟩ [("_law_script",u)]) /\ ∀ base:Heap,(K w.params).In base -> base.Ns mainGlobals mg -> FnOk l.prog w (K w.params) mg base CX0 13 fa fd ["_law_script"] (jv (K w.params))) :
  PySem.W.WalkO q loose XP YP l.row.toRowW d [] (fun f vs=>PySem.call f vs) :=
 L2.walk_of (n:=63) (k:=13) (x:="_law_script") (CX:=fun _=>CX0) (sp:=fun w=>jv (K w.params)) hn (by decide) hdf ⟨rfl,by decide,by decide,rfl⟩ hY F (fun _ _ a ns hl hO hS=>⟨_,rfl,a,ns,rfl,Scr.of hO hS,hl,fun _=>rfl⟩) fun _ _ _ _ _ z=>z
theorem walkX {q:Program} {loose:List Str} {XP:(Str -> Option Value) -> Heap -> Prop} {K:Params -> FG7} {as:List Addr} {n t:Nat} {r:PySem.W.RowW} {d:DefRec} {kwd:List (Str × Expr)} {run:Value -> List Value -> Sem Value}
  (e:∀ P,as = (K P).map (·.1)) (W:PySem.W.WalkO q loose XP (PySem.W.InK K) r d kwd run):PySem.W.WalkX q loose XP (PySem.W.X.obsZ as) (PySem.W.X.valZ K n t) r d kwd run :=
 fun w s₀ s₁ mg mb G Y a o pm cd doc dV kV h2 h3 h4 h5 h6 h7 args vals as' L hpre hlay hrd hwl hlo =>
  W w s₀ s₁ mg mb G (PySem.W.InK.keeps w s₀.heap s₁.heap (PySem.W.X.z_facts e Y).2.1 L.keeps) a o pm cd doc dV kV h2 h3 h4 h5 h6 h7 args vals as' hpre hlay hrd hwl hlo
end My
open PySem PySem.W PyProof.Rows
def PySem.W.Fast.tw17569682866492389765:Unit:=()
def PySem.W.Fast.tw4428329941626232612:Unit:=()
def PySem.W.Fast.tw15732232483588859586:Unit:=()
def PySem.W.Fast.tw17168730722096640311:Unit:=()
def PySem.W.Fast.tw11245059909671722143:Unit:=()
def PySem.W.Fast.tw7027884712453013465:Unit:=()
def PySem.W.Fast.tw7749000449341490412:Unit:=()
def PySem.W.Fast.tw6291602812251578681:Unit:=()
def PySem.W.Fast.tw2241510122226155516:Unit:=()
def PySem.W.Fast.tw15510852777888556769:Unit:=()
def PySem.W.Fast.tw12091615649520895181:Unit:=()
def PySem.W.Fast.tw12976360340881477623:Unit:=()
def PySem.W.Fast.tw7259098079471608538:Unit:=()
def PySem.W.Fast.tw15603402377593652787:Unit:=()
def PySem.W.Fast.tw377511244433796423:Unit:=()
def PySem.W.Fast.tw12734644806809487687:Unit:=()
def PySem.W.Fast.tw5477070334654707584:Unit:=()
def PySem.W.Fast.tw9684704304281633912:Unit:=()
def PySem.W.Fast.tw7330809041172498334:Unit:=()
def PySem.W.Fast.tw14196514091626808066:Unit:=()
def PySem.W.Fast.tw16107510328756104505:Unit:=()
def PySem.W.Fast.tw14014591861552123110:Unit:=()
def PySem.W.Fast.tw5680196259145112049:Unit:=()
def PySem.W.Fast.tw11700610844566729541:Unit:=()
def PySem.W.Fast.tw15804894794307689745:Unit:=()
def PySem.W.Fast.tw2971243533940878253:Unit:=()
def PySem.W.Fast.tw18237030070017043086:Unit:=()
def PySem.W.Fast.tw17565098435159225584:Unit:=()
def PySem.W.Fast.tw317890921326286502:Unit:=()
def PySem.W.Fast.tw3842020633595360217:Unit:=()
def PySem.W.Fast.tw8176893331179527348:Unit:=()
def PySem.W.Fast.tw3619329937468118575:Unit:=()
def PySem.W.Fast.tw14908935578149955334:Unit:=()
def PySem.W.Fast.tw10026263517291676170:Unit:=()
def PySem.W.Fast.tw15701191578467950629:Unit:=()
def PySem.W.Fast.tw5952846699333609750:Unit:=()
def PySem.W.Fast.tw5867859265155126278:Unit:=()
def PySem.W.Fast.tw7068765824177555416:Unit:=()
def PySem.W.Fast.tw9151920135295582675:Unit:=()
def PySem.W.Fast.tw1049323850013904091:Unit:=()
def PySem.W.Fast.tw9691113499472726970:Unit:=()
def PySem.W.Fast.tw2432807945178470708:Unit:=()
def PySem.W.Fast.tw10638910546295141725:Unit:=()
def PySem.W.Fast.tw10124361380025896004:Unit:=()
def PySem.W.Fast.tw11459351005169833494:Unit:=()
def PySem.W.Fast.tw300751067520992180:Unit:=()
def PySem.W.Fast.tw15589146453169611586:Unit:=()
def PySem.W.Fast.tw10636805247265432991:Unit:=()
def PySem.W.Fast.tw5323079697266390131:Unit:=()
def PySem.W.Fast.tw16145945538365929639:Unit:=()
def PySem.W.Fast.tw6471338838243452946:Unit:=()
def PySem.W.Fast.tw7410447313797782935:Unit:=()
def PySem.W.Fast.tw18216830534728921553:Unit:=()
def PySem.W.Fast.tw12176059946757961670:Unit:=()
def PySem.W.Fast.tw7607736791474093106:Unit:=()
def PySem.W.Fast.tw5702269979341108901:Unit:=()
def PySem.W.Fast.tw17539653849428857977:Unit:=()
def PySem.W.Fast.tw10882111431769726976:Unit:=()
def PySem.W.Fast.tw15523349698010640233:Unit:=()
def PySem.W.Fast.tw13647027363153451259:Unit:=()
def PySem.W.Fast.tw10864857526972977325:Unit:=()
def PySem.W.Fast.tw10295672099372815591:Unit:=()
def PySem.W.Fast.tw17702255452384121100:Unit:=()
def PySem.W.Fast.tw733599270618427631:Unit:=()
def PySem.W.Fast.tw5981800201002708674:Unit:=()
def PySem.W.Fast.tw16095637386156602872:Unit:=()
def PySem.W.Fast.tw17924229249651770222:Unit:=()
def PySem.W.Fast.tw17014651968388850036:Unit:=()
def PySem.W.Fast.tw12306262630151144528:Unit:=()
def PySem.W.Fast.tw14600648930248790834:Unit:=()
def PySem.W.Fast.tw9195231546400314060:Unit:=()
def PySem.W.Fast.tw11879737321850217669:Unit:=()
def PySem.W.Fast.tw14161988792217437213:Unit:=()
def PySem.W.Fast.tw10527881405049232693:Unit:=()
def PySem.W.Fast.tw14542673463428095834:Unit:=()
def PySem.W.Fast.tw13021628209342904872:Unit:=()
def PySem.W.Fast.tw7147760599407950228:Unit:=()
def PySem.W.Fast.tw17493103194809102043:Unit:=()
def PySem.W.Fast.tw13151009198519227293:Unit:=()
def PySem.W.Fast.tw15873560494556284676:Unit:=()
def PySem.W.Fast.tw16609208900344377611:Unit:=()
def PySem.W.Fast.tw17191937410046250220:Unit:=()
def PySem.W.Fast.tw4302723077941791165:Unit:=()
def PySem.W.Fast.tw8566954481699547460:Unit:=()
def PySem.W.Fast.tw2284260429857782274:Unit:=()
def PySem.W.Fast.tw8061248471284736145:Unit:=()
def PySem.W.Fast.tw10028988016700662185:Unit:=()
def PySem.W.Fast.tw14243666338002199445:Unit:=()
def PySem.W.Fast.tw2914881446364705844:Unit:=()
def PySem.W.Fast.tw3718679191334774725:Unit:=()
def PySem.W.Fast.tw12125571420119824862:Unit:=()
def PySem.W.Fast.tw17085528120936159477:Unit:=()
def PySem.W.Fast.tw18070982834601725713:Unit:=()
def PySem.W.Fast.tw6634144619785193604:Unit:=()
def PySem.W.Fast.tw5834488117176266782:Unit:=()
def PySem.W.Fast.tw18359617984127343547:Unit:=()
def PySem.W.Fast.tw3446113978516290704:Unit:=()
def PySem.W.Fast.tw9631064819846997229:Unit:=()
def PySem.W.Fast.tw10792639394061539793:Unit:=()
def PySem.W.Fast.tw6045429812872695851:Unit:=()
def PySem.W.Fast.tw4782749911587098703:Unit:=()
def PySem.W.Fast.tw2785288046726424847:Unit:=()
def PySem.W.Fast.tw5942381765366209520:Unit:=()
def PySem.W.Fast.tw259464350533262299:Unit:=()
def PySem.W.Fast.tw14054701051001425291:Unit:=()
def PySem.W.Fast.tw6435870345670904863:Unit:=()
def PySem.W.Fast.tw3122154093133623200:Unit:=()
def PySem.W.Fast.tw8967964804928351324:Unit:=()
def PySem.W.Fast.tw12404081237270165126:Unit:=()
def PySem.W.Fast.tw14548789922559115955:Unit:=()
def PySem.W.Fast.tw6414136385838471801:Unit:=()
def PySem.W.Fast.tw17492074143881430331:Unit:=()
def PySem.W.Fast.tw17856729485690904061:Unit:=()
def PySem.W.Fast.tw10367925914335614749:Unit:=()
def PySem.W.Fast.tw9952945215481103435:Unit:=()
def PySem.W.Fast.tw10722989021295889513:Unit:=()
def PySem.W.Fast.tw11769322677740503768:Unit:=()
def PySem.W.Fast.tw17675544736190275243:Unit:=()
def PySem.W.Fast.tw1526741683306096928:Unit:=()
def PySem.W.Fast.tw18139050832019462828:Unit:=()
def PySem.W.Fast.tw9729290547040536582:Unit:=()
def PySem.W.Fast.tw4345269700061558188:Unit:=()
def PySem.W.Fast.tw7213515121093171535:Unit:=()
def PySem.W.Fast.tw2401107757885162026:Unit:=()
def PySem.W.Fast.tw194712404708349040:Unit:=()
def PySem.W.Fast.tw13002285227836937359:Unit:=()
def PySem.W.Fast.tw8478355633085635391:Unit:=()
def PySem.W.Fast.tw807768851945316959:Unit:=()
def PySem.W.Fast.tw13916650076739935302:Unit:=()
def PySem.W.Fast.tw15050389412808202534:Unit:=()
def PySem.W.Fast.tw11293955421136495296:Unit:=()
def PySem.W.Fast.tw18305200604212626178:Unit:=()
def PySem.W.Fast.tw2922207286396387640:Unit:=()
def PySem.W.Fast.tw11185676102828757753:Unit:=()
def PySem.W.Fast.tw15580590314870850158:Unit:=()
def PySem.W.Fast.tw3176099210853808468:Unit:=()
def PySem.W.Fast.tw10673159287565611765:Unit:=()
def PySem.W.Fast.tw15043552273327111821:Unit:=()
def PySem.W.Fast.tw318754069159740903:Unit:=()
def PySem.W.Fast.tw3998070488106030517:Unit:=()
def PySem.W.Fast.tw9122925384303074956:Unit:=()
def PySem.W.Fast.tw5272199989109598868:Unit:=()
def PySem.W.Fast.tw10352824872772539379:Unit:=()
def PySem.W.Fast.tw14603727529688285581:Unit:=()
def PySem.W.Fast.tw15457971532016601821:Unit:=()
def PySem.W.Fast.tw13363160139319416743:Unit:=()
def PySem.W.Fast.tw13666013714003965103:Unit:=()
def PySem.W.Fast.tw4754576558849048141:Unit:=()
def PySem.W.Fast.tw18302450168755980881:Unit:=()
def PySem.W.Fast.tw18051625346767970969:Unit:=()
def PySem.W.Fast.tw8523458480053350343:Unit:=()
def PySem.W.Fast.tw272171842243091607:Unit:=()
def PySem.W.Fast.tw1577970922445322710:Unit:=()
def PySem.W.Fast.tw11349082041627471078:Unit:=()
def PySem.W.Fast.tw1098651361780669711:Unit:=()
def PySem.W.Fast.tw913504061106530882:Unit:=()
def PySem.W.Fast.tw3373867782735874532:Unit:=()
def PySem.W.Fast.tw11734132664107157872:Unit:=()
def PySem.W.Fast.tw7999127987041480760:Unit:=()
def PySem.W.Fast.tw295017878555900979:Unit:=()
def PySem.W.Fast.tw11815072301200507646:Unit:=()
def PySem.W.Fast.tw9898856897294095900:Unit:=()
def PySem.W.Fast.tw3560970847874933944:Unit:=()
def PySem.W.Fast.tw2181018197328801168:Unit:=()
def PySem.W.Fast.tw16613218727747356221:Unit:=()
def PySem.W.Fast.tw18331603881800328793:Unit:=()
def PySem.W.Fast.tw4501345389284437624:Unit:=()
def PySem.W.Fast.tw6018158584651136809:Unit:=()
def PySem.W.Fast.tw7484315616040007851:Unit:=()
def PySem.W.Fast.tw15820662316830072469:Unit:=()
def PySem.W.Fast.tw15491350502717798786:Unit:=()
def PySem.W.Fast.tw14707570326603222178:Unit:=()
def PySem.W.Fast.tw14705348435081774596:Unit:=()
def PySem.W.Fast.tw9741505630929938637:Unit:=()
def PySem.W.Fast.tw6697202878754129928:Unit:=()
def PySem.W.Fast.tw2801749267281465777:Unit:=()
def PySem.W.Fast.tw3071613589303966428:Unit:=()
def PySem.W.Fast.tw10212863420984984918:Unit:=()
def PySem.W.Fast.tw5955156639304971298:Unit:=()
def PySem.W.Fast.tw11953436988950919234:Unit:=()
def PySem.W.Fast.tw945173924429601714:Unit:=()
set_option maxRecDepth 100000 in
theorem PySem.Challenge.cw_joinedasks_k75_whole_gone_together_holds : PySem.Challenge.rw_joinedasks_k75_whole_gone_together.Holds := by
 w_on; o_law; z_head; (case hw=>w_witness2)
 refine My.walkX (fun _=>by kernel_rfl) (My.walk (l:=PySem.Challenge.rw_joinedasks_k75_whole_gone_together) rfl rfl (fun w h Y=>Y) ?F)
 case F =>
  intro w mg fa h KX G hmg
  refine' My.all_mk KX G hmg  ?ax_AskError ?ax_NoAsk ?ax_NoBoard ?ax_NoCalls ?ax_NoNumber ?ax_NoOrder ?ax_TooMany ?ex_AskError ?ex_NoOrder ?u_NoOrder_AskError ?kk_NoOrder  ?q_NoOrder_NoAsk ?q_NoOrder_NoBoard ?q_NoOrder_NoCalls ?q_NoOrder_NoNumber ?q_NoOrder_NoOrder ?q_NoOrder_TooMany ?q_NoOrder_ValueError ?h1 ?h2 ?h3 ?h4 ?h5 ?h6 ?h7 ?h8 ?h9 ?h10 ?h11 ?h12 ?h13 ?h14 ?h15 ?h16 ?h17 ?h18 ?h19 ?h20 ?h21 ?h22 ?h23 ?h24 ?h25 ?h26 ?h27 ?h28 ?h29 ?h30 ?h31 ?h32 ?h33 ?h34 ?h35 ?h36 ?h37 ?h38 ?h39 ?h40 ?h41 ?h42 ?ga_LAST_HAND ?ga_MOST_AT_A_BOX ?ga_MOST_BOXES ?ga_MOST_CALLS ?ga_ValueError ?ga_any ?ga_enumerate ?ga_sorted ?ga_zip ?z_abs ?z_len ?z_max ?z_min ?z_divmod ?z_repr ?z_isinstance ?z_all ?z_range ?z_int ?z_bool ?z_str ?z_tuple ?z_list ?z_dict
  (case ax_AskError=>k_is)
  (case ax_NoAsk=>k_is)
  (case ax_NoBoard=>k_is)
  (case ax_NoCalls=>k_is)
  (case ax_NoNumber=>k_is)
  (case ax_NoOrder=>k_is)
  (case ax_TooMany=>k_is)
  (case ex_AskError=>kernel_rfl)
  (case ex_NoOrder=>kernel_rfl)
  (case u_NoOrder_AskError=>kernel_rfl)
  (case kk_NoOrder=>exact ⟨by kernel_rfl,by kernel_rfl,by kernel_rfl,by kernel_rfl,by kernel_rfl⟩)
  (case q_NoOrder_NoAsk=>kernel_rfl)
  (case q_NoOrder_NoBoard=>kernel_rfl)
  (case q_NoOrder_NoCalls=>kernel_rfl)
  (case q_NoOrder_NoNumber=>kernel_rfl)
  (case q_NoOrder_NoOrder=>kernel_rfl)
  (case q_NoOrder_TooMany=>kernel_rfl)
  (case q_NoOrder_ValueError=>kernel_rfl)
  (case h1=>exact ⟨by k_is,L2.fun_mk (by k_is) (by k_is) (by k_is)⟩)
  (case h2=>exact ⟨by k_is,L2.fun_mk (by k_is) (by k_is) (by k_is)⟩)
  (case h3=>exact ⟨by k_is,L2.fun_mk (by k_is) (by k_is) (by k_is)⟩)
  (case h4=>exact ⟨by k_is,L2.fun_mk (by k_is) (by k_is) (by k_is)⟩)
  (case h5=>exact ⟨by k_is,L2.fun_mk (by k_is) (by k_is) (by k_is)⟩)
  (case h6=>exact ⟨by k_is,L2.fun_mk (by k_is) (by k_is) (by k_is)⟩)
  (case h7=>exact ⟨by k_is,L2.fun_mk (by k_is) (by k_is) (by k_is)⟩)
  (case h8=>exact ⟨by k_is,L2.fun_mk (by k_is) (by k_is) (by k_is)⟩)
  (case h9=>exact ⟨by k_is,L2.fun_mk (by k_is) (by k_is) (by k_is)⟩)
  (case h10=>exact ⟨by k_is,L2.fun_mk (by k_is) (by k_is) (by k_is)⟩)
  (case h11=>exact ⟨by k_is,L2.fun_mk (by k_is) (by k_is) (by k_is)⟩)
  (case h12=>exact ⟨by k_is,L2.fun_mk (by k_is) (by k_is) (by k_is)⟩)
  (case h13=>exact ⟨by k_is,L2.fun_mk (by k_is) (by k_is) (by k_is)⟩)
  (case h14=>exact ⟨by k_is,L2.fun_mk (by k_is) (by k_is) (by k_is)⟩)
  (case h15=>exact ⟨by k_is,L2.fun_mk (by k_is) (by k_is) (by k_is)⟩)
  (case h16=>exact ⟨by k_is,L2.fun_mk (by k_is) (by k_is) (by k_is)⟩)
  (case h17=>exact ⟨by k_is,L2.fun_mk (by k_is) (by k_is) (by k_is)⟩)
  (case h18=>exact ⟨by k_is,L2.fun_mk (by k_is) (by k_is) (by k_is)⟩)
  (case h19=>exact ⟨by k_is,L2.fun_mk (by k_is) (by k_is) (by k_is)⟩)
  (case h20=>exact ⟨by k_is,L2.fun_mk (by k_is) (by k_is) (by k_is)⟩)
  (case h21=>exact ⟨by k_is,L2.fun_mk (by k_is) (by k_is) (by k_is)⟩)
  (case h22=>exact ⟨by k_is,L2.fun_mk (by k_is) (by k_is) (by k_is)⟩)
  (case h23=>exact ⟨by k_is,L2.fun_mk (by k_is) (by k_is) (by k_is)⟩)
  (case h24=>exact ⟨by k_is,L2.fun_mk (by k_is) (by k_is) (by k_is)⟩)
  (case h25=>exact ⟨by k_is,L2.fun_mk (by k_is) (by k_is) (by k_is)⟩)
  (case h26=>exact ⟨by k_is,L2.fun_mk (by k_is) (by k_is) (by k_is)⟩)
  (case h27=>exact ⟨by k_is,L2.fun_mk (by k_is) (by k_is) (by k_is)⟩)
  (case h28=>exact ⟨by k_is,L2.fun_mk (by k_is) (by k_is) (by k_is)⟩)
  (case h29=>exact ⟨by k_is,L2.fun_mk (by k_is) (by k_is) (by k_is)⟩)
  (case h30=>exact ⟨by k_is,L2.fun_mk (by k_is) (by k_is) (by k_is)⟩)
  (case h31=>exact ⟨by k_is,L2.fun_mk (by k_is) (by k_is) (by k_is)⟩)
  (case h32=>exact ⟨by k_is,L2.fun_mk (by k_is) (by k_is) (by k_is)⟩)
  (case h33=>exact ⟨by k_is,L2.fun_mk (by k_is) (by k_is) (by k_is)⟩)
  (case h34=>exact ⟨by k_is,L2.fun_mk (by k_is) (by k_is) (by k_is)⟩)
  (case h35=>exact ⟨by k_is,L2.fun_mk (by k_is) (by k_is) (by k_is)⟩)
  (case h36=>exact ⟨by k_is,L2.fun_mk (by k_is) (by k_is) (by k_is)⟩)
  (case h37=>exact ⟨by k_is,L2.fun_mk (by k_is) (by k_is) (by k_is)⟩)
  (case h38=>exact ⟨by k_is,L2.fun_mk (by k_is) (by k_is) (by k_is)⟩)
  (case h39=>exact ⟨by k_is,L2.fun_mk (by k_is) (by k_is) (by k_is)⟩)
  (case h40=>exact ⟨by k_is,L2.fun_mk (by k_is) (by k_is) (by k_is)⟩)
  (case h41=>exact ⟨by k_is,L2.fun_mk (by k_is) (by k_is) (by k_is)⟩)
  (case h42=>exact ⟨by k_is,L2.fun_mk (by k_is) (by k_is) (by k_is)⟩)
  (case ga_LAST_HAND=>k_is)
  (case ga_MOST_AT_A_BOX=>k_is)
  (case ga_MOST_BOXES=>k_is)
  (case ga_MOST_CALLS=>k_is)
  (case ga_ValueError=>k_is)
  (case ga_any=>k_is)
  (case ga_enumerate=>k_is)
  (case ga_sorted=>k_is)
  (case ga_zip=>k_is)
  (case z_abs=>k_is); (case z_len=>k_is); (case z_max=>k_is); (case z_min=>k_is); (case z_divmod=>k_is); (case z_repr=>k_is); (case z_isinstance=>k_is); (case z_all=>k_is); (case z_range=>k_is); (case z_int=>k_is); (case z_bool=>k_is); (case z_str=>k_is); (case z_tuple=>k_is); (case z_list=>k_is); (case z_dict=>k_is)
