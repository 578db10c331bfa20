import PyProof.Rows.All
import Wide.All
import OpenK.AllK
import Wide.FinOn
import Lean
import PyProof.EqAt
import PyProof.EqKinds
import PyProof.TupleCall
import PyProof.NeKinds
import PyProof.Rows.All
import Wide.All
import OpenK.AllK
import Wide.FinOn
import PyProof.EqAt
import PyProof.EqKinds
import PyProof.TupleCall
import PyProof.NeKinds
import PyProof.ReprRoads
import PyProof.ReprLen
import PyProof.Rows.RegStrFacts
import PyProof.Draws
import PyProof.EnumStmt
import PyProof.ZipIter
import PyProof.ListNew
import PyProof.TupleOfGen
import PyProof.ListRange
import PyProof.Rows.Range3
import PyProof.SumWalkG
import PyProof.AutoSeq1
import PyProof.Cells
import PyProof.AutoListH
import PyProof.DictTable
import PyProof.TupleKey
import PyProof.DictRoadsH
import PyProof.DictKinds
import PyProof.ExcBaseAll.ValueError
import PyProof.ExcAttrAll.ValueError
import PyProof.RulesAs
import PyProof.NsDelKeeps
import KE.KDictList
import PyProof.DictCompW
import PyProof.DictItems
import PyProof.DictWalks
import PyProof.Rows.SetFrom
import PyProof.SetRoads
import PyProof.IsiH_list
import PyProof.AttrMiss
import KE.KDictOf
import KE.KSortTup
import PySem.Challenge.RW_joinedasks_k79_whole_stretched_and_renam
set_option Elab.async false
set_option linter.all false
set_option maxRecDepth 100000
set_option maxHeartbeats 0
abbrev FG7:=PySem.W.Frag
abbrev VS7:=PySem.Value -> PySem.Shared -> Prop
namespace L2
open PySem PySem.Spec PyProof.Rows
abbrev Key:=Sum Int Str
def qu:Key -> Value -> Bool
 | .inl k,v=>Value.isInt k v
 | .inr x,v=>Value.isStrOf x v
def keyH (w:World):Key -> Int
 | .inl k=>hashInt k
 | .inr x=>hashStr w x
theorem zY:∀ {k:Key} {v:Value},qu k v = true -> (∃ i t,k = Sum.inl i /\ v = Value.int i t) \/ (∃ x t,k = Sum.inr x /\ v = Value.str x t)
 | .inl i,v,h=>by
  obtain ⟨t,e⟩:=Value.isInt_shape (k:=i) (v:=v) h
  exact .inl ⟨i,t,rfl,e⟩
 | .inr x,v,h=>by
  obtain ⟨t,e⟩:=Value.isStrOf_shape (x:=x) (v:=v) h
  exact .inr ⟨x,t,rfl,e⟩
theorem Yn (i:Int) (t:Tok):qu (.inl i) (.int i t) = true:=by simp [qu,Value.isInt]
theorem Yo (x:Str) (t:Tok):qu (.inr x) (.str x t) = true:=by simp [qu,Value.isStrOf]
theorem Up (a b:Int):decide ((Sum.inl a:Key) = Sum.inl b) = (a == b):=by
 by_cases e:a = b
 ·subst e; simp
 ·have h:¬ (Sum.inl a:Key) = Sum.inl b:=fun q=>e (Sum.inl.inj q)
  rw [decide_eq_false h]
  exact (beq_eq_false_iff_ne.mpr e).symm
theorem Uq (a b:Str):decide ((Sum.inr a:Key) = Sum.inr b) = decide (a = b):=by
 by_cases e:a = b
 ·subst e; simp
 ·have h:¬ (Sum.inr a:Key) = Sum.inr b:=fun q=>e (Sum.inr.inj q)
  rw [decide_eq_false h,decide_eq_false e]
theorem Ur (a:Int) (b:Str):decide ((Sum.inl a:Key) = Sum.inr b) = false:=decide_eq_false (fun q=>nomatch q)
theorem Us (a:Str) (b:Int):decide ((Sum.inr a:Key) = Sum.inl b) = false:=decide_eq_false (fun q=>nomatch q)
def yq (prog:Program) (w:World):PySem.KeyKind prog w Key where
 is:=qu
 hash:=keyH w
 inj:=fun v a b ha hb=>by
  rcases zY ha with ⟨i,t,rfl,rfl⟩ | ⟨x,t,rfl,rfl⟩
  ·rcases zY hb with ⟨j,u,rfl,e⟩ | ⟨y,u,rfl,e⟩
   ·injection e with e1 _; rw [e1]
   ·exact nomatch e
  ·rcases zY hb with ⟨j,u,rfl,e⟩ | ⟨y,u,rfl,e⟩
   ·exact nomatch e
   ·injection e with e1 _; rw [e1]
 byValue:=fun k v h=>by
  rcases zY h with ⟨i,t,rfl,rfl⟩ | ⟨x,t,rfl,rfl⟩ <;> rfl
 pyHash:=fun hv h=>by
  rcases zY hv with ⟨i,t,rfl,rfl⟩ | ⟨x,t,rfl,rfl⟩
  ·exact wpAny_pyHash_int h
  ·exact wpAny_pyHash_str h
 eqBool:=fun hu hv h=>by
  rcases zY hu with ⟨i,t,rfl,rfl⟩ | ⟨x,t,rfl,rfl⟩
  ·rcases zY hv with ⟨j,u,rfl,rfl⟩ | ⟨y,u,rfl,rfl⟩
   ·rw [Up] at h; exact wpAny_eqBool_int h
   ·rw [Ur] at h; exact SeqAt.EqAt.int_str i t y u _ _ _ _ h
  ·rcases zY hv with ⟨j,u,rfl,rfl⟩ | ⟨y,u,rfl,rfl⟩
   ·rw [Us] at h; exact SeqAt.EqAt.str_int x t j u _ _ _ _ h
   ·rw [Uq] at h; exact wpAny_eqBool_str h
 «strs»:=fun k x t v h=>by
  rcases zY h with ⟨i,u,rfl,e⟩ | ⟨y,u,rfl,e⟩
  ·exact nomatch e
  ·injection e with e1 _
   subst e1
   cases v <;> rfl
theorem qv (prog:Program) (w:World) (i:Int) (t:Tok):(yq prog w).is (.inl i) (.int i t) = true:=Yn i t
theorem qw (prog:Program) (w:World) (x:Str) (t:Tok):(yq prog w).is (.inr x) (.str x t) = true:=Yo x t
end L2
namespace L2
open PySem PySem.Spec PyProof.Rows
inductive V where
 | non | bl (b:Bool) | int (i:Int) | str (x:Str) | byt (b:Array UInt8) | flt (b:UInt64) | ref (a:Addr) | ty (n:String)
 deriving DecidableEq
def RelV:V -> Value -> Prop
 | .non,u=>u = Value.none
 | .bl b,u=>u = Value.bool b
 | .int i,u=>∃ t,u = Value.int i t
 | .str x,u=>∃ t,u = Value.str x t
 | .byt b,u=>∃ t,u = Value.bytes b t
 | .flt b,u=>∃ t,u = Value.float b t
 | .ref a,u=>u = Value.ref a
 | .ty n,u=>u = Value.type n
abbrev Vals:List V -> List Value -> Prop:=Paired RelV
theorem Vals.length {xs:List V} {us:List Value} (r:Vals xs us):xs.length = us.length:=Paired.length r
theorem Vals.get:∀ {xs:List V} {us:List Value} {i:Nat} {x:V},Vals xs us -> xs[i]? = some x -> ∃ u,us[i]? = some u /\ RelV x u
 | _,_,_,_,.nil,e=>by simp at e
 | _,_,0,_,.cons r _,e=>by simp at e; subst e; exact ⟨_,rfl,r⟩
 | _,_,i + 1,x,.cons _ t,e=>by
  obtain ⟨u,h1,h2⟩:=Vals.get (i:=i) (x:=x) t (by simpa using e)
  exact ⟨u,by simpa using h1,h2⟩
theorem Vals.set {x:V} {u:Value} (r:RelV x u):∀ {xs:List V} {us:List Value} (i:Nat),Vals xs us -> Vals (xs.set i x) (us.set i u)
 | _,_,_,.nil=>.nil
 | _,_,0,.cons _ t=>.cons r t
 | _,_,i + 1,.cons q t=>.cons q (Vals.set r i t)
theorem Vals.append:∀ {xs ys:List V} {us ws:List Value},Vals xs us -> Vals ys ws -> Vals (xs ++ ys) (us ++ ws)
 | _,_,_,_,.nil,s=>s
 | _,_,_,_,.cons r t,s=>.cons r (Vals.append t s)
theorem Vals.take:∀ {xs:List V} {us:List Value} (n:Nat),Vals xs us -> Vals (xs.take n) (us.take n)
 | _,_,0,_=>.nil
 | _,_,_ + 1,.nil=>.nil
 | _,_,n + 1,.cons r t=>.cons r (Vals.take n t)
theorem Vals.drop:∀ {xs:List V} {us:List Value} (n:Nat),Vals xs us -> Vals (xs.drop n) (us.drop n)
 | _,_,0,r=>r
 | _,_,_ + 1,.nil=>.nil
 | _,_,n + 1,.cons _ t=>Vals.drop n t
def RelO:Option V -> Option Value -> Prop
 | some v,some u=>RelV v u
 | none,none=>True
 | _,_=>False
def KV {κ:Type}:List (κ × V) -> List (κ × Value) -> Prop:=Paired fun (p:κ × V) (q:κ × Value)=>p.1 = q.1 /\ RelV p.2 q.2
def kV:Key -> V
 | .inl i=>.int i
 | .inr x=>.str x
inductive HO where
 /-- a list -/
 | lst (xs:List V)
 /-- a tuple (never changes) -/
 | tup (xs:List V)
 /-- a dict whose keys are ints and texts; one whose keys are tuples of ints and texts (the empty one is both) -/
 | dK (kvs:List (Key × V)) | dT (kvs:List (List Key × V))
 /-- a set of ints: its members,its size -/
 | set (S:Int -> Bool) (n:Nat)
 /-- an instance of the class at C,its dict at dx,its attributes -/
 | ins (C dx:Addr) (fs:List (Str × V))
 /-- the dict of the instance at x -/
 | own (x:Addr)
 /-- the dict of an exception -/
 | xd (fs:List (Str × V))
 /-- a bound method,f of x -/
 | met (f x:Addr)
 /-- a range object lo,lo + 1,.. below hi -/
 | rng (lo hi:Int)
 /-- a thing that is known to the object (the script; a dict while a loop walks it): read,never written while it is so -/
 | frz (o:Obj) (u:HO)
 /-- a code object's table -/
 | tbl (ps:Array Value)
 /-- any other thing,by what is true of its one object (a def of one's own: SetO a S n:=HO.ext fun h=>..) -/
 | ext (φ:Heap -> Prop)
abbrev Hp:=Addr -> Option HO
def upd (H:Hp) (a:Addr) (o:HO):Hp:=fun b=>if b = a then some o else H b
theorem zd {H:Hp} {a:Addr} {o:HO}:upd H a o a = some o:=by unfold upd; rw [if_pos rfl]
theorem zo {H:Hp} {a b:Addr} {o:HO} (h:b ≠ a):upd H a o b = H b:=by unfold upd; rw [if_neg h]
theorem TD {H:Hp} {a b:Addr} {o u:HO} (h:H a = some o) (h':H b = some u) (d:o ≠ u):a ≠ b:=by
 intro e; subst e; rw [h] at h'; exact d (Option.some.inj h')
theorem zD {H:Hp} {a b:Addr} {o:HO} (h:H a = some o) (h':H b = none):a ≠ b:=by
 intro e; subst e; rw [h] at h'; cases h'
section
variable (P:Program) (w:World)
def z5 (H:Hp) (h:Heap) (a:Addr):HO -> Prop
 | .lst xs=>xs.length <= sizeLine /\ ∃ (its:List Value) (n:Nat),Vals xs its /\ h.get? a = some { cls:=.type "list",data:=.seq its.toArray n }
 | .tup xs=>xs.length <= sizeLine /\ ∃ its:List Value,Vals xs its /\ IsTup h a its.toArray
 | .dK kvs=>kvs.length <= sizeLine /\ (a == sysModules) = false /\ ∃ vs,KV kvs vs /\ h.DictOf (yq P w) a vs
 | .dT kvs=>kvs.length <= sizeLine /\ (a == sysModules) = false /\ ∃ xs:List (List Key × Addr × Value),
   Paired (fun (p:List Key × V) (q:List Key × Addr × Value)=>p.1 = q.1 /\ H q.2.1 = some (.tup (p.1.map kV)) /\ RelV p.2 q.2.2) kvs xs ∧
   ∃ o es ep,h.get? a = some o /\ o.ExactDict /\ o.data = .dict es ep /\ es.toList = xs.map (entryOfKey (tupleKind (yq P w))) /\ (xs.map (·.1)).Nodup
 | .set S n=>h.SetOf (intKind P w) a S n
 | .ins C dx fs=>H dx = some (.own a) /\ fs.length <= 1000 /\ dx ≠ a /\ h.get? a = some (PySem.W.instObj C dx) ∧
   ∃ mA,h.Ns1 dx mA /\ (∀ f,RelO (fs.lookup f) (mA f)) /\ PySem.Within mA (fs.map (·.1))
 | .own _=>∃ o,h.get? a = some o
 | .xd fs=>∃ mA,h.Ns1 a mA /\ ∀ f,RelO (fs.lookup f) (mA f)
 | .rng lo hi=>∃ t u v,h.get? a = some { cls:=.type "range",data:=.fields #[.int lo t,.int hi u,.int 1 v] }
 | .frz o u=>h.get? a = some o /\ z5 H h a u
 | .tbl ps=>h.get? a = some { cls:=.none,data:=.fields ps }
 | .met f x=>h.get? a = some (PySem.W.methodObj (.ref f) (.ref x))
 | .ext φ=>φ h /\ (∃ o,h.get? a = some o) /\ ∀ h1 h2:Heap,φ h1 -> (∀ o,h1.get? a = some o -> h2.get? a = some o) -> φ h2
def HOk (H:Hp) (h:Heap):Prop:=∀ a o,H a = some o -> z5 P w H h a o
end
section
variable {P:Program} {w:World} {H H':Hp} {h h':Heap} {a:Addr} {o:HO}
theorem z5.lt (x:z5 P w H h a o):a < h.objs.size:=by
 cases o with
 | lst xs=>obtain ⟨_,_,_,_,e⟩:=x; exact Heap.lt_size e
 | tup xs=>obtain ⟨_,_,_,p⟩:=x; exact p.lt
 | dK kvs=>obtain ⟨_,_,_,_,o,_,_,e,_⟩:=x; exact Heap.lt_size e
 | dT kvs=>obtain ⟨_,_,_,_,o,_,_,e,_⟩:=x; exact Heap.lt_size e
 | set S n=>obtain ⟨o,_,_,_,e,_⟩:=x; exact Heap.lt_size e
 | ins C dx fs=>obtain ⟨_,_,_,e,_⟩:=x; exact Heap.lt_size e
 | own y=>obtain ⟨_,e⟩:=x; exact Heap.lt_size e
 | xd fs=>obtain ⟨_,⟨_,_,_,e,_⟩,_⟩:=x; exact Heap.lt_size e
 | rng lo hi=>obtain ⟨_,_,_,e⟩:=x; exact Heap.lt_size e
 | frz ob u=>obtain ⟨e,_⟩:=x; exact Heap.lt_size e
 | tbl ps=>exact Heap.lt_size (show h.get? a = some _ from x)
 | met f y=>exact Heap.lt_size (show h.get? a = some _ from x)
 | ext φ=>obtain ⟨_,⟨_,e⟩,_⟩:=x; exact Heap.lt_size e
theorem Paired.mapP {α β:Type} {F G:α -> β -> Prop}:∀ {l₁:List α} {l₂:List β},Paired F l₁ l₂ -> (∀ a b,F a b -> G a b) -> Paired G l₁ l₂
 | _,_,.nil,_=>.nil
 | _,_,.cons r t,f=>.cons (f _ _ r) (Paired.mapP t f)
theorem z5.stay (x:z5 P w H h a o) (k:∀ b u,(b = a \/ H b = some (.own a)) -> h.get? b = some u -> h'.get? b = some u)
  (ho:∀ b,H b = some (.own a) -> H' b = some (.own a)) (ht:∀ b xs,H b = some (.tup xs) -> H' b = some (.tup xs)):z5 P w H' h' a o:=by
 induction o with
 | lst xs=>obtain ⟨z,its,n,r,e⟩:=x; exact ⟨z,its,n,r,k _ _ (.inl rfl) e⟩
 | tup xs=>obtain ⟨z,its,r,ob,e,c⟩:=x; exact ⟨z,its,r,ob,k _ _ (.inl rfl) e,c⟩
 | dK kvs=>obtain ⟨z,y,vs,r,ob,es,ep,e,c⟩:=x; exact ⟨z,y,vs,r,ob,es,ep,k _ _ (.inl rfl) e,c⟩
 | dT kvs =>
  obtain ⟨z,y,xs,r,ob,es,ep,e,c⟩:=x
  exact ⟨z,y,xs,Paired.mapP r fun p q z=>⟨z.1,ht _ _ z.2.1,z.2.2⟩,ob,es,ep,k _ _ (.inl rfl) e,c⟩
 | set S n=>obtain ⟨ob,es,ep,t,e,c⟩:=x; exact ⟨ob,es,ep,t,k _ _ (.inl rfl) e,c⟩
 | ins C dx fs =>
  obtain ⟨d,z,ne,e,mA,⟨od,es,ep,e2,c⟩,r⟩:=x
  exact ⟨ho _ d,z,ne,k _ _ (.inl rfl) e,mA,⟨od,es,ep,k _ _ (.inr d) e2,c⟩,r⟩
 | own y=>obtain ⟨ob,e⟩:=x; exact ⟨ob,k _ _ (.inl rfl) e⟩
 | xd fs=>obtain ⟨mA,⟨od,es,ep,e,c⟩,r⟩:=x; exact ⟨mA,⟨od,es,ep,k _ _ (.inl rfl) e,c⟩,r⟩
 | rng lo hi=>obtain ⟨t,u,v,e⟩:=x; exact ⟨t,u,v,k _ _ (.inl rfl) e⟩
 | frz ob u ih=>obtain ⟨e,q⟩:=x; exact ⟨k _ _ (.inl rfl) e,ih q⟩
 | tbl ps =>
  have e:h.get? a = some { cls:=.none,data:=.fields ps }:=x
  show h'.get? a = some { cls:=.none,data:=.fields ps }
  exact k a _ (.inl rfl) e
 | met f y =>
  have e:h.get? a = some (PySem.W.methodObj (.ref f) (.ref y)):=x
  show h'.get? a = some (PySem.W.methodObj (.ref f) (.ref y))
  exact k a _ (.inl rfl) e
 | ext φ=>obtain ⟨p,⟨o,e⟩,st⟩:=x; exact ⟨st _ _ p fun o q=>k _ _ (.inl rfl) q,⟨o,k _ _ (.inl rfl) e⟩,st⟩
theorem HOk.lt (x:HOk P w H h) (e:H a = some o):a < h.objs.size:=(x a o e).lt
theorem HOk.fresh (x:HOk P w H h) (e:h.objs.size <= a):H a = none:=by
 cases q:H a with
 | none=>rfl
 | some u=>exact absurd (Nat.lt_of_lt_of_le (x.lt q) e) (Nat.lt_irrefl _)
theorem HOk.kept (x:HOk P w H h) (k:∀ b u,h.get? b = some u -> h'.get? b = some u):HOk P w H h':=fun a o e =>
 (x a o e).stay (fun b u _ q=>k b u q) (fun _ q=>q) fun _ _ q=>q
theorem HOk.laid (x:HOk P w H h) (k:∀ b u,h.get? b = some u -> h'.get? b = some u) (hp:h.objs.size <= a) (new:z5 P w (upd H a o) h' a o):HOk P w (upd H a o) h':=fun b u e=>by
 have hn:=x.fresh hp
 by_cases hb:b = a
 ·subst hb; rw [zd] at e; cases e; exact new
 ·rw [zo hb] at e
  exact (x b u e).stay (fun c v _ q=>k c v q) (fun c q=>by rw [zo (zD q hn)]; exact q) fun c xs q=>by rw [zo (zD q hn)]; exact q
end
def Rd (H:Hp) (a:Addr) (u:HO):Prop:=H a = some u \/ ∃ o,H a = some (.frz o u)
theorem Rd.of {H:Hp} {a:Addr} {u:HO} (h:H a = some u):Rd H a u:=.inl h
theorem Rd.ok {P:Program} {w:World} {H:Hp} {h:Heap} {a:Addr} {u:HO} (r:Rd H a u) (x:HOk P w H h):z5 P w H h a u:=by
 rcases r with r | ⟨o,r⟩
 ·exact x a u r
 ·obtain ⟨_,q⟩:=x a _ r
  exact q
def Mut:Option HO -> Prop
 | some (.lst _)=>True
 | some (.dK _)=>True
 | some (.dT _)=>True
 | some (.set _ _)=>True
 | some (.ins _ _ _)=>True
 | some (.ext _)=>True
 | _=>False
section
variable {P:Program} {w:World} {H:Hp} {h h':Heap} {x e:Addr} {o':HO}
theorem HOk.write (ok:HOk P w H h) (mu:Mut (H x)) (he:e = x \/ H e = some (.own x)) (k:∀ b u,b ≠ e -> h.get? b = some u -> h'.get? b = some u) (heo:∃ u,h'.get? e = some u)
  (new:z5 P w (upd H x o') h' x o'):HOk P w (upd H x o') h':=fun b u q=>by
 have nown:∀ c y,H c = some (.own y) -> c ≠ x:=fun c y r z=>by subst z; rw [r] at mu; exact mu
 have ntup:∀ c xs,H c = some (.tup xs) -> c ≠ x:=fun c xs r z=>by subst z; rw [r] at mu; exact mu
 by_cases hb:b = x
 ·subst hb; rw [zd] at q; cases q; exact new
 ·rw [zo hb] at q
  by_cases hbe:b = e
  ·have q':H b = some (.own x):=by
    rcases he with z | z
    ·exact absurd (hbe.trans z) hb
    ·rw [hbe]; exact z
   rw [q] at q'; cases q'
   obtain ⟨v,hv⟩:=heo
   exact ⟨v,by rw [hbe]; exact hv⟩
  ·refine (ok b u q).stay (fun c v hc r=>k c v ?_ r) (fun c r=>by rw [zo (nown c b r)]; exact r) fun c xs r=>by rw [zo (ntup c xs r)]; exact r
   rcases hc with rfl | hc
   ·exact hbe
   ·rintro rfl
    rcases he with z | z
    ·exact nown c b hc z
    ·rw [hc] at z; cases z; exact hb rfl
end
structure Un (fs ex:List Addr) (H H':Hp) (h h':Heap):Prop where
 keep:∀ b o,h.get? b = some o -> H b = none -> b ∉ fs -> b ∉ ex -> h'.get? b = some o
 slot:∀ b o,h.get? b = some o -> H b = none -> b ∈ fs -> b ∉ ex -> ∃ sl,h'.get? b = some { o with slots:=sl }
 free:∀ b o,h.get? b = some o -> H b = none -> b ∉ ex -> H' b = none
 there:∀ b o,h.get? b = some o -> b ∉ ex -> ∃ o',h'.get? b = some o'
 tups:∀ b xs,H b = some (.tup xs) -> H' b = some (.tup xs)
 frzs:∀ b o u,H b = some (.frz o u) -> H' b = some (.frz o u)
 tbls:∀ b ps,H b = some (.tbl ps) -> ∃ more,H' b = some (.tbl (ps ++ more))
section
variable {fs fs' ex ex':List Addr} {H H1 H2:Hp} {h h1 h2 h':Heap} {a x e:Addr} {o:HO}
theorem Un.any (u:Un fs ex H H1 h h1) {b:Addr} {ob:Obj} (q:h.get? b = some ob) (n:H b = none) (hx:b ∉ ex):∃ sl,h1.get? b = some { ob with slots:=sl }:=by
 by_cases hb:b ∈ fs
 ·exact u.slot b ob q n hb hx
 ·exact ⟨ob.slots,u.keep b ob q n hb hx⟩
theorem Un.trans (a:Un fs ex H H1 h h1) (b:Un fs ex H1 H2 h1 h2):Un fs ex H H2 h h2 where
 keep:=fun c ob q n hc hx=>b.keep c ob (a.keep c ob q n hc hx) (a.free c ob q n hx) hc hx
 slot:=fun c ob q n hc hx=>by
  obtain ⟨sl,e1⟩:=a.slot c ob q n hc hx
  obtain ⟨sl',e2⟩:=b.slot c _ e1 (a.free c ob q n hx) hc hx
  exact ⟨sl',e2⟩
 free:=fun c ob q n hx=>by
  obtain ⟨o',e1⟩:=a.there c ob q hx
  exact b.free c o' e1 (a.free c ob q n hx) hx
 there:=fun c ob q hx=>by
  obtain ⟨o',e1⟩:=a.there c ob q hx
  exact b.there c o' e1 hx
 tups:=fun c xs q=>b.tups c xs (a.tups c xs q)
 frzs:=fun c ob xs q=>b.frzs c ob xs (a.frzs c ob xs q)
 tbls:=fun c ps q=>by
  obtain ⟨m1,e1⟩:=a.tbls c ps q
  obtain ⟨m2,e2⟩:=b.tbls c _ e1
  exact ⟨m1 ++ m2,by rw [e2,Array.append_assoc]⟩
theorem Un.kept (k:∀ b u,h.get? b = some u -> h'.get? b = some u):Un fs ex H H h h' :=
 ⟨fun b ob q _ _ _=>k b ob q,fun b ob q _ _ _=>⟨ob.slots,k b ob q⟩,fun _ _ _ n _=>n,fun b ob q _=>⟨ob,k b ob q⟩,fun _ _ q=>q,fun _ _ _ q=>q,fun _ ps q=>⟨#[],by rw [q]; simp⟩⟩
theorem Un.refl:Un fs ex H H h h:=Un.kept fun _ _ q=>q
theorem Un.laid (k:∀ b u,h.get? b = some u -> h'.get? b = some u) (hp:h.objs.size <= a) (hn:H a = none):Un fs ex H (upd H a o) h h' where
 keep:=fun b u q _ _ _=>k b u q
 slot:=fun b u q _ _ _=>⟨u.slots,k b u q⟩
 free:=fun b u q n _=>by rw [zo (Nat.ne_of_lt (Nat.lt_of_lt_of_le (Heap.lt_size q) hp))]; exact n
 there:=fun b u q _=>⟨u,k b u q⟩
 tups:=fun b xs q=>by rw [zo (zD q hn)]; exact q
 frzs:=fun b u xs q=>by rw [zo (zD q hn)]; exact q
 tbls:=fun b ps q=>⟨#[],by rw [zo (zD q hn),q]; simp⟩
theorem Un.write (mu:Mut (H x)) (he:e = x \/ H e = some (.own x)) (k:∀ b u,b ≠ e -> h.get? b = some u -> h'.get? b = some u) (heo:∃ u,h'.get? e = some u):Un fs ex H (upd H x o) h h':=by
 have hx:∀ b,H b = none -> b ≠ x:=fun b n z=>by subst z; rw [n] at mu; exact mu
 have hb:∀ b,H b = none -> b ≠ e:=fun b n z=>by
  subst z
  rcases he with r | r
  ·exact hx b n r
  ·rw [n] at r; cases r
 have hm:∀ b u,H b = some u -> ¬ Mut (some u) -> b ≠ x:=fun b u q nm z=>by subst z; rw [q] at mu; exact nm mu
 refine ⟨fun b u q n _ _=>k b u (hb b n) q,fun b u q n _ _=>⟨u.slots,k b u (hb b n) q⟩,fun b u q n _=>by rw [zo (hx b n)]; exact n,fun b u q _=>?_,
  fun b xs q=>by rw [zo (hm b _ q fun z=>z)]; exact q,fun b u xs q=>by rw [zo (hm b _ q fun z=>z)]; exact q,fun b ps q=>⟨#[],by rw [zo (hm b _ q fun z=>z),q]; simp⟩⟩
 by_cases hbe:b = e
 ·subst hbe; exact heo
 ·exact ⟨u,k b u hbe q⟩
theorem Un.mono (u:Un fs ex H H1 h h1) (hs:∀ b ∈ fs,b ∈ fs') (hx:∀ b ∈ ex,b ∈ ex'):Un fs' ex' H H1 h h1 :=
 ⟨fun b ob q n hb he=>u.keep b ob q n (fun z=>hb (hs b z)) fun z=>he (hx b z),fun _ _ q n _ he=>u.any q n fun z=>he (hx _ z),fun b ob q n he=>u.free b ob q n fun z=>he (hx b z),fun b ob q he=>u.there b ob q fun z=>he (hx b z),u.tups,u.frzs,u.tbls⟩
end
def trk (h:Heap) (H:Hp):List Addr:=(List.range h.objs.size).filter fun a=>(H a).isSome
def hidT (h:Heap) (H:Hp):Heap:=PySem.W.hideAll h (trk h H)
theorem Yp (h:Heap) (H:Hp):(hidT h H).objs.size = h.objs.size:=PySem.W.hideAll_size _ _
theorem Wf {h:Heap} {H:Hp} {b:Addr} {o:Obj} (e:h.get? b = some o) (n:H b = none):(hidT h H).get? b = some o :=
 PySem.W.hideAll_get _ e fun hm=>by
  have q:(H b).isSome = true:=(List.mem_filter.mp hm).2
  rw [n] at q; simp at q
theorem VF {h:Heap} {H:Hp} {b:Addr} {o:Obj} (e:(hidT h H).get? b = some o):h.get? b = some o /\ H b = none:=by
 have e':h.get? b = some o:=PySem.W.of_hideAll (trk h H) e
 refine ⟨e',?_⟩
 cases q:H b with
 | none=>rfl
 | some x =>
  have hm:b ∈ trk h H:=List.mem_filter.mpr ⟨List.mem_range.mpr (Heap.lt_size e'),by simp [q]⟩
  have z:(hidT h H).get? b = none:=PySem.W.hideAll_none (trk h H) hm
  rw [z] at e; cases e
def VG (g h:Heap) (L:Addr):List (Addr × Obj):=(List.range h.objs.size).filterMap fun a=>if a = L \/ (g.get? a).isSome = true then none else (h.get? a).map fun o=>(a,o)
def rest (g h:Heap) (L d:Addr):List (Addr × Obj):=(VG g h L).filter fun p=>decide (p.1 ≠ d)
end L2
namespace L2
open PySem PySem.Spec PyProof.Rows
structure Mod (K:FG7) (mg:Str -> Option Value) (base:Heap):Prop where
 kin:K.In base
 glob:base.Ns mainGlobals mg
 blt:∃ mb,base.Ns builtinsNs mb /\ ∀ x:Str,x ≠ "__name__" -> mb x = bootBuiltins x
 nolimit:base.NoLimit
structure Cx where
 prog:Program
 w:World
 K:FG7
 mg:Str -> Option Value
 base:Heap
 A:Around
 N:List Str
 s₀:Shared
 H₀:Hp
 env:Env
 outer:List Env
 stack:List Env
 ex:List Addr
 fn:Str -> Bool
 calm:Bool
 pn:List (Addr × Obj)
 xe:VS7
def frs (l:List Env):List Addr:=l.filterMap (·.frame)
abbrev Cx.fs (X:Cx):List Addr:=frs X.outer
def Vis (sc:Scope) (x:Str):Prop:=sc.names.lookup x = some .local \/ sc.names.lookup x = some .cell \/ sc.names.lookup x = some .free
def Loc (sc:Scope) (x:Str):Prop:=sc.names.lookup x = some .local \/ sc.names.lookup x = some .cell
def Look (env:Env) (h:Heap) (m:Str -> Option Value) (x:Str) (u:Value):Prop :=
 (env.kindOf x = some .local /\ m x = some u) \/ ((env.kindOf x = some .cell \/ env.kindOf x = some .free) /\ ∃ c,env.cells.lookup x = some c /\ h.IsCell c (some u))
structure Cx.Ok (X:Cx):Prop where
 mod:Mod X.K X.mg X.base
 kind:X.env.scope.kind = .function
 glob:X.env.globals = mainGlobals
 blt:X.env.builtins = builtinsNs
 above:X.s₀.heap.objs.size <= X.env.locals
 inj:∀ x y c,X.env.cells.lookup x = some c -> X.env.cells.lookup y = some c -> x = y
 has:∀ x,(X.env.kindOf x = some .cell \/ X.env.kindOf x = some .free) -> ∃ c,X.env.cells.lookup x = some c
 cab:∀ x c,X.fn x = true -> X.env.cells.lookup x = some c -> X.s₀.heap.objs.size <= c
 hd:X.calm = true -> X.A.handled = none
 frames:X.A.frames = some X.stack
 stk:X.stack = X.outer \/ (X.stack = X.env :: X.outer /\ X.env.frame = some X.env.locals)
 exf:∀ b ∈ X.ex,b ≠ X.env.locals /\ ∀ x c,X.env.cells.lookup x = some c -> c ≠ b
 bs:∀ b o,X.base.get? b = some o -> X.s₀.heap.get? b = some o /\ X.H₀ b = none
 bsz:X.base.objs.size <= X.s₀.heap.objs.size
 noex:∀ b o,X.base.get? b = some o -> b ∉ X.ex
 exfs:∀ b ∈ X.ex,b ∉ X.fs
 funs:X.s₀.heap.FunFrames X.base X.outer
 frf:∀ b ∈ X.fs,X.H₀ b = none
structure Inv (X:Cx) (pins:List (Addr × Obj)) (σ:List (Option V)) (H:Hp) (s:Shared):Prop where
 ok:X.Ok
 os:s.os = X.s₀.os
 bare:AllBare s.gens
 base:Un X.fs X.ex X.H₀ H X.s₀.heap s.heap
 loc:∃ m,s.heap.Ns X.env.locals m /\ ∀ (i:Nat) (x:Str) (v:V),X.N[i]? = some x -> σ[i]? = some (some v) -> Vis X.env.scope x -> ∃ u,RelV v u /\ Look X.env s.heap m x u
 cell:∀ x c,X.env.cells.lookup x = some c -> ∃ v,s.heap.IsCell c v
 free:H X.env.locals = none
 freeC:∀ x c,X.env.cells.lookup x = some c -> H c = none
 pin:∀ p ∈ X.pn ++ pins,s.heap.get? p.1 = some p.2 /\ H p.1 = none /\ p.1 ≠ X.env.locals /\ p.1 ∉ X.fs /\ ∀ v,p.2.data ≠ .cell v
 hok:HOk X.prog X.w H s.heap
 len:σ.length = X.N.length
section
variable {X:Cx} {pins:List (Addr × Obj)} {σ:List (Option V)} {H H':Hp} {s:Shared} {h':Heap}
theorem Cx.Ok.nofr (ok:X.Ok) {b:Addr} {o:Obj} (e:X.base.get? b = some o):b ∉ X.fs:=fun hb=>by
 have:=(ok.funs.mem hb).1
 rw [e] at this; cases this
theorem Inv.bs (I:Inv X pins σ H s):∀ b o,X.base.get? b = some o -> s.heap.get? b = some o /\ H b = none:=fun b o e =>
 ⟨I.base.keep b o (I.ok.bs b o e).1 (I.ok.bs b o e).2 (I.ok.nofr e) (I.ok.noex b o e),I.base.free b o (I.ok.bs b o e).1 (I.ok.bs b o e).2 (I.ok.noex b o e)⟩
theorem Inv.bk (I:Inv X pins σ H s):∀ b o,X.base.get? b = some o -> s.heap.get? b = some o:=fun b o e=>(I.bs b o e).1
theorem Inv.mod (I:Inv X pins σ H s):Mod X.K X.mg X.base:=I.ok.mod
theorem Inv.kIn (I:Inv X pins σ H s):X.K.In s.heap:=I.ok.mod.kin.keeps I.bk
theorem Inv.nolimit (I:Inv X pins σ H s):s.heap.NoLimit:=I.ok.mod.nolimit.keeps I.bk
theorem Inv.fr (I:Inv X pins σ H s):∃ m,Fr X.base X.env.locals s.heap m :=
 let ⟨m,hn,_⟩:=I.loc
 ⟨m,hn,I.bk,Nat.le_trans I.ok.bsz I.ok.above⟩
theorem Inv.lt (I:Inv X pins σ H s):X.env.locals < s.heap.objs.size:=let ⟨_,hn,_⟩:=I.loc; hn.lt
theorem Inv.sz (I:Inv X pins σ H s):X.s₀.heap.objs.size <= s.heap.objs.size:=Nat.le_trans I.ok.above (Nat.le_of_lt I.lt)
theorem Inv.nofs (I:Inv X pins σ H s) {a:Addr} (h:s.heap.objs.size <= a):a ∉ X.fs:=fun hb=>by
 obtain ⟨_,o,ho,_⟩:=I.ok.funs.mem hb
 exact absurd (Nat.lt_of_lt_of_le (Heap.lt_size ho) (Nat.le_trans I.sz h)) (Nat.lt_irrefl _)
theorem Inv.cne (I:Inv X pins σ H s):∀ x c,X.env.cells.lookup x = some c -> c ≠ X.env.locals:=fun x c e z=>by
 obtain ⟨v,o,ho,hd⟩:=I.cell x c e
 obtain ⟨m,⟨o',es,ep,ho',hd',_⟩,_⟩:=I.loc
 rw [z,ho'] at ho; cases ho; rw [hd'] at hd; cases hd
theorem Inv.funs (I:Inv X pins σ H s):s.heap.FunFrames X.base X.outer:=by
 have all:∀ (l:List Env),(∀ b ∈ frs l,b ∈ X.fs) -> X.s₀.heap.FunFrames X.base l -> s.heap.FunFrames X.base l:=by
  intro l
  induction l with
  | nil=>intro _ _; trivial
  | cons env r ih =>
   intro hs hl
   obtain ⟨hk,⟨L,o,hf,hn,ho,hd⟩,hr⟩:=hl
   have hL:L ∈ X.fs:=hs L (by unfold frs; rw [List.filterMap_cons,hf]; exact List.mem_cons_self)
   obtain ⟨sl,e⟩:=I.base.slot L o ho (I.ok.frf L hL) hL fun z=>I.ok.exfs L z hL
   exact ⟨hk,⟨L,_,hf,hn,e,hd⟩,ih (fun b hb=>hs b (by unfold frs; rw [List.filterMap_cons,hf]; exact List.mem_cons_of_mem _ hb)) hr⟩
 exact all X.outer (fun _ hb=>hb) I.ok.funs
theorem Inv.stack (I:Inv X pins σ H s):s.heap.FunFrames X.base X.stack:=by
 rcases I.ok.stk with e | ⟨e,hf⟩
 ·rw [e]; exact I.funs
 ·rw [e]
  obtain ⟨m,hn,_⟩:=I.loc
  refine .cons (by rw [I.ok.kind]; decide) hf hn ?_ I.funs
  exact Heap.get?_none_of_le (Nat.le_trans I.ok.bsz I.ok.above)
theorem Inv.stkSub (I:Inv X pins σ H s):∀ b ∈ frs X.stack,b ∈ X.env.locals :: X.fs:=fun b hb=>by
 rcases I.ok.stk with e | ⟨e,hf⟩
 ·rw [e] at hb; exact List.mem_cons_of_mem _ hb
 ·rw [e] at hb
  unfold frs at hb
  rw [List.filterMap_cons,hf] at hb
  exact hb
theorem Inv.stkFree (I:Inv X pins σ H s):∀ b ∈ frs X.stack,H b = none:=fun b hb=>by
 rcases List.mem_cons.mp (I.stkSub b hb) with e | hb
 ·rw [e]; exact I.free
 ·obtain ⟨_,o,ho,_⟩:=I.ok.funs.mem hb
  exact I.base.free b o ho (I.ok.frf b hb) fun z=>I.ok.exfs b z hb
theorem Inv.step {g':Array GenState} {t':Nat} {d':Drawn} {ch:List Addr} (I:Inv X pins σ H s)
  (hch:∀ b ∈ ch,(b ∈ X.ex \/ X.s₀.heap.objs.size <= b) /\ b ≠ X.env.locals /\ (∀ x c,X.env.cells.lookup x = some c -> c ≠ b) /\ ∀ p ∈ X.pn ++ pins,p.1 ≠ b)
  (keep:∀ b o,b ≠ X.env.locals -> b ∉ X.fs -> b ∉ ch -> s.heap.get? b = some o -> H b = none -> h'.get? b = some o)
  (slot:∀ b o,b ≠ X.env.locals -> b ∈ X.fs -> b ∉ ch -> s.heap.get? b = some o -> H b = none -> ∃ sl,h'.get? b = some { o with slots:=sl }) (free:∀ b o,b ∉ ch -> s.heap.get? b = some o -> H b = none -> H' b = none)
  (there:∀ b o,b ∉ ch -> s.heap.get? b = some o -> ∃ o',h'.get? b = some o')
  (tups:∀ b xs,H b = some (.tup xs) -> H' b = some (.tup xs)) (frzs:∀ b o u,H b = some (.frz o u) -> H' b = some (.frz o u)) (tbls:∀ b ps,H b = some (.tbl ps) -> ∃ more,H' b = some (.tbl (ps ++ more)))
  (ns:∀ m,s.heap.Ns X.env.locals m -> h'.Ns X.env.locals m) (hok:HOk X.prog X.w H' h') (hg:AllBare g') :
  Inv X pins σ H' { s with heap:=h',gens:=g',drawn:=d',toks:=t' }:=by
 have neL:∀ b o,X.s₀.heap.get? b = some o -> b ≠ X.env.locals:=fun b o e=>Nat.ne_of_lt (Nat.lt_of_lt_of_le (Heap.lt_size e) I.ok.above)
 have neC:∀ b o,X.s₀.heap.get? b = some o -> b ∉ X.ex -> b ∉ ch:=fun b o e hx hb=>by
  rcases (hch b hb).1 with z | z
  ·exact hx z
  ·exact absurd (Nat.lt_of_lt_of_le (Heap.lt_size e) z) (Nat.lt_irrefl _)
 have cellK:∀ x c,X.env.cells.lookup x = some c -> ∀ v,s.heap.IsCell c v -> h'.IsCell c v:=fun x c e v ⟨o,ho,hd⟩=>by
  have nch:c ∉ ch:=fun z=>(hch c z).2.2.1 x c e rfl
  by_cases hc:c ∈ X.fs
  ·obtain ⟨sl,q⟩:=slot c o (I.cne x c e) hc nch ho (I.freeC x c e)
   exact ⟨_,q,hd⟩
  ·exact ⟨o,keep c o (I.cne x c e) hc nch ho (I.freeC x c e),hd⟩
 refine ⟨I.ok,I.os,hg,⟨fun b o e n hb hx=>?_,fun b o e n hb hx=>?_,fun b o e n hx=>?_,fun b o e hx=>?_,fun b xs e=>tups b xs (I.base.tups b xs e),fun b o xs e=>frzs b o xs (I.base.frzs b o xs e),fun b ps e=>?_⟩,?_,fun x c e=>?_,?_,fun x c e=>?_,fun p hp=>?_,hok,I.len⟩
 ·exact keep b o (neL b o e) hb (neC b o e hx) (I.base.keep b o e n hb hx) (I.base.free b o e n hx)
 ·obtain ⟨sl,e1⟩:=I.base.slot b o e n hb hx
  obtain ⟨sl',e2⟩:=slot b _ (neL b o e) hb (neC b o e hx) e1 (I.base.free b o e n hx)
  exact ⟨sl',e2⟩
 ·obtain ⟨o',e1⟩:=I.base.there b o e hx
  exact free b o' (neC b o e hx) e1 (I.base.free b o e n hx)
 ·obtain ⟨o',e1⟩:=I.base.there b o e hx
  exact there b o' (neC b o e hx) e1
 ·obtain ⟨m1,e1⟩:=I.base.tbls b ps e
  obtain ⟨m2,e2⟩:=tbls b _ e1
  exact ⟨m1 ++ m2,by rw [e2,Array.append_assoc]⟩
 ·obtain ⟨m,hn,hl⟩:=I.loc
  refine ⟨m,ns m hn,fun i x v e1 e2 e3=>?_⟩
  obtain ⟨u,r,l⟩:=hl i x v e1 e2 e3
  refine ⟨u,r,?_⟩
  rcases l with l | ⟨k,c,e,z⟩
  ·exact .inl l
  ·exact .inr ⟨k,c,e,cellK x c e _ z⟩
 ·obtain ⟨v,z⟩:=I.cell x c e
  exact ⟨v,cellK x c e v z⟩
 ·obtain ⟨m,⟨o,_,_,ho,_⟩,_⟩:=I.loc
  exact free _ o (fun z=>(hch _ z).2.1 rfl) ho I.free
 ·obtain ⟨v,o,ho,hd⟩:=I.cell x c e
  exact free c o (fun z=>(hch c z).2.2.1 x c e rfl) ho (I.freeC x c e)
 ·obtain ⟨e,n,ne,nf,d⟩:=I.pin p hp
  have nch:p.1 ∉ ch:=fun z=>(hch p.1 z).2.2.2 p hp rfl
  exact ⟨keep p.1 p.2 ne nf nch e n,free p.1 p.2 nch e n,ne,nf,d⟩
theorem Inv.un {t':Nat} (I:Inv X pins σ H s) (u:Un X.fs [] H H' s.heap h') (hok:HOk X.prog X.w H' h'):Inv X pins σ H' { s with heap:=h',toks:=t' }:=by
 obtain ⟨m,⟨o,es,ep,ho,r⟩,_⟩:=id I.loc
 obtain ⟨sl,hL⟩:=u.any ho I.free (by simp)
 exact I.step (g':=s.gens) (d':=s.drawn) (ch:=[]) (fun _ z=>nomatch z) (fun b o _ hb _ e n=>u.keep b o e n hb (by simp)) (fun b o _ hb _ e n=>u.slot b o e n hb (by simp)) (fun b o _ e n=>u.free b o e n (by simp)) (fun b o _ e=>u.there b o e (by simp)) u.tups u.frzs u.tbls (fun m' hm=>by
  obtain ⟨o',es',ep',ho',r'⟩:=hm
  rw [ho] at ho'; cases ho'
  exact ⟨_,es',ep',hL,r'⟩) hok I.bare
theorem Inv.call {g':Array GenState} {t':Nat} {d':Drawn} {ch:List Addr} (I:Inv X pins σ H s) (u:Un (frs X.stack) ch H H' s.heap h') (hok:HOk X.prog X.w H' h') (hg:AllBare g')
  (hch:∀ b ∈ ch,(b ∈ X.ex \/ X.s₀.heap.objs.size <= b) /\ b ≠ X.env.locals /\ (∀ x c,X.env.cells.lookup x = some c -> c ≠ b) /\ ∀ p ∈ X.pn ++ pins,p.1 ≠ b) :
  Inv X pins σ H' { s with heap:=h',gens:=g',drawn:=d',toks:=t' }:=by
 obtain ⟨m,⟨o,es,ep,ho,r⟩,_⟩:=id I.loc
 obtain ⟨sl,hL⟩:=u.any ho I.free fun z=>(hch _ z).2.1 rfl
 exact I.step (ch:=ch) hch (fun b o hL hb hc e n=>u.keep b o e n (fun z=>(List.mem_cons.mp (I.stkSub b z)).elim hL hb) hc) (fun b o _ _ hc e n=>u.any e n hc) (fun b o hc e n=>u.free b o e n hc) (fun b o hc e=>u.there b o e hc) u.tups u.frzs u.tbls (fun m' hm=>by
  obtain ⟨o',es',ep',ho',r'⟩:=hm
  rw [ho] at ho'; cases ho'
  exact ⟨_,es',ep',hL,r'⟩) hok hg
theorem Inv.turned {t':Nat} {it:Addr} (I:Inv X pins σ H s) (k:∀ b o,b ≠ it -> s.heap.get? b = some o -> h'.get? b = some o) (hn:H it = none) (hL:it ≠ X.env.locals)
  (h1:it ∈ X.ex \/ X.s₀.heap.objs.size <= it) (h2:∀ x c,X.env.cells.lookup x = some c -> c ≠ it) (h3:∀ p ∈ X.pn ++ pins,p.1 ≠ it):Inv X pins σ H { s with heap:=h',toks:=t' }:=by
 have nit:∀ b u,H b = some u -> b ≠ it:=fun b u e z=>by rw [z,hn] at e; cases e
 refine I.step (g':=s.gens) (d':=s.drawn) (ch:=[it]) (fun b hb=>?_) (fun b o _ _ hc e _=>k b o (fun z=>hc (by simp [z])) e) (fun b o _ _ hc e _=>⟨o.slots,k b o (fun z=>hc (by simp [z])) e⟩) (fun _ _ _ _ n=>n)
  (fun b o hc e=>⟨o,k b o (fun z=>hc (by simp [z])) e⟩) (fun _ _ e=>e) (fun _ _ _ e=>e) (fun b ps e=>⟨#[],by rw [e]; simp⟩) (fun m hm=>?_) (fun b u e=>?_) I.bare
 ·have e:b = it:=by simpa using hb
  subst e
  exact ⟨h1,hL,h2,h3⟩
 ·obtain ⟨o,es,ep,ho,r⟩:=hm
  exact ⟨o,es,ep,k _ o (Ne.symm hL) ho,r⟩
 ·refine (I.hok b u e).stay (fun c v hc q=>k c v ?_ q) (fun _ q=>q) fun _ _ q=>q
  rcases hc with z | z
  ·rw [z]; exact nit b u e
  ·exact nit c _ z
theorem Inv.tok (I:Inv X pins σ H s) (t:Nat):Inv X pins σ H { s with toks:=t }:=I.un (h':=s.heap) (t':=t) Un.refl I.hok
theorem Inv.kept {t':Nat} (I:Inv X pins σ H s) (k:∀ b u,s.heap.get? b = some u -> h'.get? b = some u):Inv X pins σ H { s with heap:=h',toks:=t' }:=I.un (Un.kept k) (I.hok.kept k)
theorem Inv.laid {a:Addr} {o:HO} {t':Nat} (I:Inv X pins σ H s) (k:∀ b u,s.heap.get? b = some u -> h'.get? b = some u) (hp:s.heap.objs.size <= a) (new:z5 X.prog X.w (upd H a o) h' a o) :
  Inv X pins σ (upd H a o) { s with heap:=h',toks:=t' }:=I.un (Un.laid k hp (I.hok.fresh hp)) (I.hok.laid k hp new)
theorem Inv.write {x e:Addr} {o:HO} {t':Nat} (I:Inv X pins σ H s) (mu:Mut (H x)) (he:e = x \/ H e = some (.own x)) (k:∀ b u,b ≠ e -> s.heap.get? b = some u -> h'.get? b = some u) (heo:∃ u,h'.get? e = some u)
  (new:z5 X.prog X.w (upd H x o) h' x o):Inv X pins σ (upd H x o) { s with heap:=h',toks:=t' }:=I.un (Un.write mu he k heo) (I.hok.write mu he k heo new)
theorem Inv.pins_of {pins':List (Addr × Obj)} (I:Inv X pins σ H s) (h:∀ p ∈ pins',s.heap.get? p.1 = some p.2 /\ H p.1 = none /\ p.1 ≠ X.env.locals /\ p.1 ∉ X.fs /\ ∀ v,p.2.data ≠ .cell v):Inv X pins' σ H s :=
 ⟨I.ok,I.os,I.bare,I.base,I.loc,I.cell,I.free,I.freeC,fun p hp=>(List.mem_append.mp hp).elim (fun z=>I.pin p (List.mem_append_left _ z)) (h p),I.hok,I.len⟩
theorem jq {N:List Str} (hN:N.Nodup) {i j:Nat} {x:Str} (a:N[i]? = some x) (b:N[j]? = some x):i = j:=by
 obtain ⟨h1,e1⟩:=List.getElem?_eq_some_iff.mp a
 obtain ⟨h2,e2⟩:=List.getElem?_eq_some_iff.mp b
 exact (List.getElem_inj hN).mp (e1.trans e2.symm)
theorem Yq {M:Model} {A:Around} {E:VS7} {i:Nat} {x:Str} {v:V} {u:Value} {Q:Unit -> Shared -> Prop} (I:Inv X pins σ H s) (hN:X.N.Nodup) (hi:X.N[i]? = some x) (hx:Loc X.env.scope x) (r:RelV v u)
  (h:∀ s',Inv X pins (σ.set i (some v)) H s' -> (∃ a,Heap.SameBut a s.heap s'.heap /\ (a = X.env.locals \/ X.env.cells.lookup x = some a)) -> Q () s') (hf:X.fn x = true \/ X.env.scope.names.lookup x = some .local :=by first | exact .inl rfl | exact .inr rfl | assumption):wpAny M A (storeName X.env x u) Q E s:=by
 obtain ⟨m,hn,hl⟩:=id I.loc
 have hcls:(X.env.scope.kind == .class || (X.env.scope.kind == .module && X.env.locals != X.env.globals)) = false:=by rw [I.ok.kind]; rfl
 have hiσ:i < σ.length:=by rw [I.len]; exact (List.getElem?_eq_some_iff.mp hi).1
 have cne:=I.cne
 have tracked:∀ {a:Addr} {h':Heap},(∃ o,s.heap.get? a = some o /\ H a = none) -> Heap.SameBut a s.heap h' -> HOk X.prog X.w H h':=fun {a h'} ha hs b ob e=>by
  obtain ⟨_,_,hfree⟩:=ha
  refine (I.hok b ob e).stay (fun c w' hc q=>(hs.2 c ?_).trans q) (fun _ q=>q) fun _ _ q=>q
  rintro rfl
  rcases hc with rfl | hc
  ·rw [hfree] at e; cases e
  ·rw [hfree] at hc; cases hc
 rcases hx with hk | hk
 ·refine wpAny_storeName_local hk hn (fun h' hn' hs=>?_) hcls
  obtain ⟨oL,_,_,hoL,_⟩:=id hn
  refine h _ ⟨I.ok,I.os,I.bare,⟨fun b o e n hb hx=>?_,fun b o e n hb hx=>?_,I.base.free,fun b o e hx=>?_,I.base.tups,I.base.frzs,I.base.tbls⟩,⟨_,hn',fun j y v' e1 e2 e3=>?_⟩,fun y c e=>?_,I.free,I.freeC,fun p hp=>?_,tracked ⟨oL,hoL,I.free⟩ hs,by simpa using I.len⟩ ⟨_,hs,.inl rfl⟩
  ·exact (hs.2 b (Nat.ne_of_lt (Nat.lt_of_lt_of_le (Heap.lt_size e) I.ok.above))).trans (I.base.keep b o e n hb hx)
  ·obtain ⟨sl,e1⟩:=I.base.slot b o e n hb hx
   exact ⟨sl,(hs.2 b (Nat.ne_of_lt (Nat.lt_of_lt_of_le (Heap.lt_size e) I.ok.above))).trans e1⟩
  ·obtain ⟨o',e1⟩:=I.base.there b o e hx
   exact ⟨o',(hs.2 b (Nat.ne_of_lt (Nat.lt_of_lt_of_le (Heap.lt_size e) I.ok.above))).trans e1⟩
  ·by_cases hj:j = i
   ·subst hj
    rw [hi] at e1; cases e1
    rw [List.getElem?_set_self hiσ] at e2
    cases e2
    exact ⟨u,r,.inl ⟨hk,by simp⟩⟩
   ·rw [List.getElem?_set_ne (Ne.symm hj)] at e2
    obtain ⟨u',r',q⟩:=hl j y v' e1 e2 e3
    refine ⟨u',r',?_⟩
    rcases q with ⟨k,e⟩ | ⟨k,c,e,z⟩
    ·refine .inl ⟨k,?_⟩
     have:y ≠ x:=fun e=>hj (jq hN e1 (e ▸ hi))
     simp [this,e]
    ·exact .inr ⟨k,c,e,z.sameBut hs (cne y c e)⟩
  ·obtain ⟨w',z⟩:=I.cell y c e
   exact ⟨w',z.sameBut hs (cne y c e)⟩
  ·obtain ⟨e,n,ne,nf,d⟩:=I.pin p hp
   exact ⟨(hs.2 p.1 ne).trans e,n,ne,nf,d⟩
 ·have hfn:X.fn x = true:=by
   rcases hf with z | z
   ·exact z
   ·rw [z] at hk; cases hk
  obtain ⟨c,hc⟩:=I.ok.has x (.inl hk)
  obtain ⟨w',z⟩:=I.cell x c hc
  refine wpAny_storeName_cell I.ok.kind hk hc z (fun h' hc' hs=>?_)
  obtain ⟨oc,hoc,hocd⟩:=id z
  refine h { s with heap:=h' } ⟨I.ok,I.os,I.bare,⟨fun b o e n hb hx=>?_,fun b o e n hb hx=>?_,I.base.free,fun b o e hx=>?_,I.base.tups,I.base.frzs,I.base.tbls⟩,⟨m,hn.sameBut hs (Ne.symm (cne x c hc)),fun j y v' e1 e2 e3=>?_⟩,fun y c' e=>?_,I.free,I.freeC,fun p hp=>?_,tracked ⟨oc,hoc,I.freeC x c hc⟩ hs,by simpa using I.len⟩ ⟨c,hs,.inr hc⟩
  ·exact (hs.2 b (Nat.ne_of_lt (Nat.lt_of_lt_of_le (Heap.lt_size e) (I.ok.cab x c hfn hc)))).trans (I.base.keep b o e n hb hx)
  ·obtain ⟨sl,e1⟩:=I.base.slot b o e n hb hx
   exact ⟨sl,(hs.2 b (Nat.ne_of_lt (Nat.lt_of_lt_of_le (Heap.lt_size e) (I.ok.cab x c hfn hc)))).trans e1⟩
  ·obtain ⟨o',e1⟩:=I.base.there b o e hx
   exact ⟨o',(hs.2 b (Nat.ne_of_lt (Nat.lt_of_lt_of_le (Heap.lt_size e) (I.ok.cab x c hfn hc)))).trans e1⟩
  ·by_cases hj:j = i
   ·subst hj
    rw [hi] at e1; cases e1
    rw [List.getElem?_set_self hiσ] at e2
    cases e2
    exact ⟨u,r,.inr ⟨.inl hk,c,hc,hc'⟩⟩
   ·rw [List.getElem?_set_ne (Ne.symm hj)] at e2
    obtain ⟨u',r',q⟩:=hl j y v' e1 e2 e3
    refine ⟨u',r',?_⟩
    rcases q with q | ⟨k,c',e,z'⟩
    ·exact .inl q
    ·refine .inr ⟨k,c',e,z'.sameBut hs ?_⟩
     rintro rfl
     exact hj (jq hN e1 (I.ok.inj _ _ _ e hc ▸ hi))
  ·by_cases hcc:c' = c
   ·subst hcc; exact ⟨_,hc'⟩
   ·obtain ⟨w2,z2⟩:=I.cell y c' e
    exact ⟨w2,z2.sameBut hs hcc⟩
  ·obtain ⟨e,n,ne,nf,d⟩:=I.pin p hp
   refine ⟨(hs.2 p.1 ?_).trans e,n,ne,nf,d⟩
   intro q
   rw [q,hoc] at e
   have q':oc = p.2:=Option.some.inj e
   exact d w' (by rw [← q']; exact hocd)
theorem vQ {M:Model} {A:Around} {E:VS7} {i:Nat} {x:Str} {v:V} {u:Value} {Q:Unit -> Shared -> Prop} (I:Inv X pins σ H s) (hN:X.N.Nodup) (hi:X.N[i]? = some x) (hx:Loc X.env.scope x) (r:RelV v u)
  (h:∀ s',Inv X pins (σ.set i (some v)) H s' -> Q () s') (hf:X.fn x = true \/ X.env.scope.names.lookup x = some .local :=by first | exact .inl rfl | exact .inr rfl | assumption):wpAny M A (storeName X.env x u) Q E s :=
 Yq I hN hi hx r (fun s' I' _=>h s' I') hf
theorem Inv.call' {s':Shared} {ch:List Addr} (I:Inv X pins σ H s) (ho:s'.os = s.os) (u:Un (frs X.stack) ch H H' s.heap s'.heap) (hok:HOk X.prog X.w H' s'.heap) (hg:AllBare s'.gens)
  (hch:∀ b ∈ ch,(b ∈ X.ex \/ X.s₀.heap.objs.size <= b) /\ b ≠ X.env.locals /\ (∀ x c,X.env.cells.lookup x = some c -> c ≠ b) /\ ∀ p ∈ X.pn ++ pins,p.1 ≠ b):Inv X pins σ H' s':=by
 obtain ⟨h',g',d',t',o'⟩:=s'
 have e:o' = s.os:=ho
 subst e
 exact I.call (g':=g') (t':=t') (d':=d') u hok hg hch
end
abbrev XK:=Value -> Option Addr -> Hp -> Prop
abbrev St:=List (Option V)
abbrev VK:=V -> Hp -> Prop
abbrev TE:=St -> Hp -> VK -> Prop
abbrev TT:=St -> Hp -> (Bool -> Hp -> Prop) -> Prop
abbrev TA:=St -> Hp -> (List V -> Hp -> Prop) -> Prop
structure Ends where
 nx:St -> Hp -> Prop
 rt:VK
 bk:St -> Hp -> Prop:=fun _ _=>False
 ct:St -> Hp -> Prop:=fun _ _=>False
abbrev TS:=Ends -> St -> Hp -> Prop
def EP (X:Cx) (pins:List (Addr × Obj)) (σ:St) (Q:VK) (u:Value) (s':Shared):Prop:=∃ v H',Inv X pins σ H' s' /\ RelV v u /\ Q v H'
def TP (X:Cx) (pins:List (Addr × Obj)) (σ:St) (Q:Bool -> Hp -> Prop) (b:Bool) (s':Shared):Prop:=∃ H',Inv X pins σ H' s' /\ Q b H'
def AP (X:Cx) (pins:List (Addr × Obj)) (σ:St) (Q:List V -> Hp -> Prop) (us:List Value) (s':Shared):Prop:=∃ vs H',Inv X pins σ H' s' /\ Vals vs us /\ Q vs H'
def SP (X:Cx) (pins:List (Addr × Obj)) (D:Ends) (f:Flow) (s':Shared):Prop :=
 match f with
 | .next=>∃ σ' H',Inv X pins σ' H' s' /\ D.nx σ' H'
 | .brk=>∃ σ' H',Inv X pins σ' H' s' /\ D.bk σ' H'
 | .cont=>∃ σ' H',Inv X pins σ' H' s' /\ D.ct σ' H'
 | .ret u=>∃ v σ' H',Inv X pins σ' H' s' /\ RelV v u /\ D.rt v H'
def PE (X:Cx) (e:Expr) (t:TE):Prop :=
 ∀ (pins:List (Addr × Obj)) (s:Shared) (σ:St) (H:Hp) (Q:VK),Inv X pins σ H s -> t σ H Q -> wpAny (model X.prog X.w) X.A (eval e X.env) (EP X pins σ Q) X.xe s
def PT (X:Cx) (e:Expr) (t:TT):Prop :=
 ∀ (pins:List (Addr × Obj)) (s:Shared) (σ:St) (H:Hp) (Q:Bool -> Hp -> Prop),Inv X pins σ H s -> t σ H Q -> wpAny (model X.prog X.w) X.A (isTrue e X.env (eval e X.env)) (TP X pins σ Q) X.xe s
def PW (X:Cx) (e:Expr) (t:TT):Prop :=
 ∀ (whole:Sem Value) (pins:List (Addr × Obj)) (s:Shared) (σ:St) (H:Hp) (Q:Bool -> Hp -> Prop),Inv X pins σ H s -> t σ H Q -> wpAny (model X.prog X.w) X.A (isTrue e X.env whole) (TP X pins σ Q) X.xe s
theorem PW.pt {X:Cx} {e:Expr} {t:TT} (h:PW X e t):PT X e t:=h _
def PA (X:Cx) (es:List Expr) (t:TA):Prop :=
 ∀ (pos:Pos) (pins:List (Addr × Obj)) (s:Shared) (σ:St) (H:Hp) (Q:List V -> Hp -> Prop),Inv X pins σ H s -> t σ H Q -> wpAny (model X.prog X.w) X.A (spliced (backTo pos (starEach es X.env))) (AP X pins σ Q) X.xe s
def PS (X:Cx) (st:Stmt) (t:TS):Prop :=
 ∀ (pins:List (Addr × Obj)) (s:Shared) (σ:St) (H:Hp) (D:Ends),Inv X pins σ H s -> t D σ H -> wpAny (model X.prog X.w) X.A (exec st X.env) (SP X pins D) X.xe s
def PSs (X:Cx) (st:List Stmt) (t:TS):Prop :=
 ∀ (pins:List (Addr × Obj)) (s:Shared) (σ:St) (H:Hp) (D:Ends),Inv X pins σ H s -> t D σ H -> wpAny (model X.prog X.w) X.A (execs st X.env) (SP X pins D) X.xe s
theorem thn {α:Type} {t:Sem α} {Q Q':α -> Shared -> Prop} {M:Model} {A:Around} {E:VS7} {s:Shared} (h:wpAny M A t Q E s) (hQ:∀ a s,Q a s -> Q' a s):wpAny M A t Q' E s:=wpAny_mono h hQ fun _ _ x=>x
end L2
namespace L2
open PySem PySem.Spec PyProof.Rows
section
variable {X:Cx}
def tVar (i:Nat):TE:=fun σ H Q=>∃ v,σ[i]? = some (some v) /\ Q v H
def tC (v:V):TE:=fun _ H Q=>Q v H
theorem Ut {i:Nat} {x:Str} {pos:Pos} (hN:X.N[i]? = some x) (hv:Vis X.env.scope x) (hd:(x == ("__debug__":Str)) = false:=by decide) (hcd:(x == ("__classdict__":Str)) = false:=by decide):PE X (.Name x pos) (tVar i):=by
 intro pins s σ H Q I h
 obtain ⟨v,e,h⟩:=h
 obtain ⟨m,hn,hl⟩:=I.loc
 obtain ⟨u,r,l⟩:=hl i x v hN e hv
 have fin:EP X pins σ Q u s:=⟨v,H,I,r,h⟩
 rcases l with ⟨hk,hm⟩ | ⟨hk,c,hc,hcell⟩
 ·exact wpAny_Name (wpAny_loadName_local I.ok.kind hk hn hm fin) hd
 ·rcases hk with hk | hk
  ·exact wpAny_Name (wpAny_loadName_cell I.ok.kind hk hc hcell fin) hd
  ·exact wpAny_Name (wpAny_loadName_free I.ok.kind hk hc hcell fin hcd) hd
theorem zg {i j pos}:PE X (.Constant (.int i) j pos) (tC (.int i)):=fun _ _ _ H _ I h=>wpAny_Constant_int ⟨.int i,H,I.tok _,⟨_,rfl⟩,h⟩
theorem yJ {b j pos}:PE X (.Constant (.bool b) j pos) (tC (.bl b)):=fun _ _ _ H _ I h=>Constant_bool ⟨.bl b,H,I,rfl,h⟩
theorem xY {j pos}:PE X (.Constant .none j pos) (tC .non):=fun _ _ _ H _ I h=>Constant_none ⟨.non,H,I,rfl,h⟩
def Gl (X:Cx) (x:Str):Prop:=X.env.kindOf x = some .globalImplicit
theorem Yr {E:VS7} {pins:List (Addr × Obj)} {s:Shared} {σ:St} {H:Hp} {x:Str} {u:Value} {pos:Pos} {Q:VS7} (I:Inv X pins σ H s) (hg:Gl X x) (hm:X.mg x = some u) (h:Q u s)
  (hd:(x == ("__debug__":Str)) = false:=by decide):wpAny (model X.prog X.w) X.A (eval (.Name x pos) X.env) Q E s :=
 Calls.Name_function_global I.ok.kind hg (Calls.loadGlobal_global (by rw [I.ok.glob]; exact I.mod.glob.keeps I.bk) hm h) hd
theorem vE {E:VS7} {pins:List (Addr × Obj)} {s:Shared} {σ:St} {H:Hp} {x:Str} {u:Value} {pos:Pos} {Q:VS7} (I:Inv X pins σ H s) (hg:Gl X x) (hm:X.mg x = none) (hv:bootBuiltins x = some u) (h:Q u s)
  (hn:x ≠ "__name__":=by decide) (hd:(x == ("__debug__":Str)) = false:=by decide):wpAny (model X.prog X.w) X.A (eval (.Name x pos) X.env) Q E s:=by
 obtain ⟨mb,h1,h2⟩:=I.mod.blt
 exact Calls.Name_function_global I.ok.kind hg (Calls.loadGlobal_builtin (by rw [I.ok.glob]; exact I.mod.glob.keeps I.bk) hm (by rw [I.ok.blt]; exact h1.keeps I.bk) ((h2 x hn).trans hv) h) hd
theorem tR {x:Str} {v:V} {u:Value} {pos:Pos} (hg:Gl X x) (hm:X.mg x = some u) (r:RelV v u) (hd:(x == ("__debug__":Str)) = false:=by decide):PE X (.Name x pos) (tC v) :=
 fun _ _ _ H _ I h=>Yr I hg hm ⟨v,H,I,r,h⟩ hd
theorem VH {x:Str} {v:V} {u:Value} {pos:Pos} (hg:Gl X x) (hm:X.mg x = none) (hv:bootBuiltins x = some u) (r:RelV v u) (hn:x ≠ "__name__":=by decide) (hd:(x == ("__debug__":Str)) = false:=by decide):PE X (.Name x pos) (tC v) :=
 fun _ _ _ H _ I h=>vE I hg hm hv ⟨v,H,I,r,h⟩ hn hd
variable {a b:Expr} {ta tb:TE} {pos:Pos}
def PC (X:Cx) (op:CmpOp) (a b:Expr) (t:TE):Prop :=
 ∀ (pins:List (Addr × Obj)) (s:Shared) (σ:St) (H:Hp) (Q:VK),Inv X pins σ H s -> t σ H Q →
  wpAny (model X.prog X.w) X.A (eval a X.env) (fun v s₁=>wpAny (model X.prog X.w) X.A (eval b X.env) (fun u s₂=>wpAny (model X.prog X.w) X.A (compareOp op v u) (EP X pins σ Q) X.xe s₂) X.xe s₁) X.xe s
theorem jr (b:Expr) {op:CmpOp} (h:op ≠ .In) (h2:op ≠ .NotIn):behindInMarks op b = false:=by
 have e1:(op == CmpOp.In) = false:=by cases op <;> first | rfl | exact absurd rfl h
 have e2:(op == CmpOp.NotIn) = false:=by cases op <;> first | rfl | exact absurd rfl h2
 cases b <;> simp [behindInMarks,e1,e2]
def tIsN (ta:TE):TE:=fun σ H Q=>ta σ H fun x H1=>Q (.bl (decide (x = .non))) H1
def TF (ta:TE):TE:=fun σ H Q=>ta σ H fun x H1=>Q (.bl (!decide (x = .non))) H1
theorem RelV.none_iff {x:V} {v:Value} (r:RelV x v):(v == Value.none) = decide (x = .non):=by
 cases x with
 | non=>cases r; rfl
 | bl _=>cases r; rfl
 | int _=>obtain ⟨t,rfl⟩:=r; rfl
 | str _=>obtain ⟨t,rfl⟩:=r; rfl
 | byt _=>obtain ⟨t,rfl⟩:=r; rfl
 | flt _=>obtain ⟨t,rfl⟩:=r; rfl
 | ref _=>cases r; rfl
 | ty _=>cases r; rfl
theorem xZ {j pos'} (ha:PE X a ta):PC X .Is a (.Constant .none j pos') (tIsN ta):=by
 intro pins s σ H Q I h
 refine thn (ha pins s σ H _ I h) fun v s1 ⟨x,H1,I1,r1,q1⟩=>?_
 exact Constant_none (is_none_gen ⟨.bl _,H1,I1,by rw [r1.none_iff]; rfl,q1⟩)
theorem vW {j pos'} (ha:PE X a ta):PC X .IsNot a (.Constant .none j pos') (TF ta):=by
 intro pins s σ H Q I h
 refine thn (ha pins s σ H _ I h) fun v s1 ⟨x,H1,I1,r1,q1⟩=>?_
 exact Constant_none (isnot_none_gen ⟨.bl _,H1,I1,by rw [r1.none_iff]; rfl,q1⟩)
def tB (t:TE):TT:=fun σ H Q=>t σ H fun x H1=>∃ c,x = .bl c /\ Q c H1
theorem ju {op:CmpOp} {t:TE} (h:PC X op a b t) (h1:behindInMarks op b = false:=by first | exact jr _ (by decide) (by decide) | rfl):PE X (.Compare a [op] [b] pos) t:=fun pins s σ H Q I hw=>wpAny_Compare1 (h pins s σ H Q I hw) h1
theorem xT {op:CmpOp} {t:TE} (h:PC X op a b t) (h1:behindInMarks op b = false:=by first | exact jr _ (by decide) (by decide) | rfl):PT X (.Compare a [op] [b] pos) (tB t):=by
 intro pins s σ H Q I hw
 refine wpAny_isTrue_Compare1 (thn (h pins s σ H _ I hw) fun v s1 h1=>thn h1 fun u s2 h2=>thn h2 fun c s3 ⟨x,H1,I1,r1,q1⟩=>?_) h1
 obtain ⟨d,rfl,q⟩:=q1
 cases r1
 exact wpAny_truthy_bool ⟨H1,I1,q⟩
theorem yC {e:Expr} {t:TE} (h:PE X e t) (he:∀ whole,isTrue e X.env whole = (do let v ← whole; standAt e.pos; holding [v] (truthy v)):=by intro _; rfl):PT X e (tB t):=by
 intro pins s σ H Q I hw
 refine isTrue_plain (thn (h pins s σ H _ I hw) fun v s1 ⟨x,H1,I1,r1,q1⟩=>?_) (he _)
 obtain ⟨d,rfl,q⟩:=q1
 cases r1
 exact wpAny_truthy_bool ⟨H1,I1,q⟩
variable {tA tB':TT} {rest:List Expr}
def tAnd (t u:TT):TT:=fun σ H Q=>t σ H fun c H1=>if c = true then u σ H1 Q else Q false H1
def tOr (t u:TT):TT:=fun σ H Q=>t σ H fun c H1=>if c = true then Q true H1 else u σ H1 Q
def tNot (t:TT):TT:=fun σ H Q=>t σ H fun c H1=>Q (!c) H1
theorem wC (ha:PT X a tA):PW X (.BoolOp .And [a] pos) tA:=by
 intro wh pins s σ H Q I h
 refine isTrue_and (thn (ha pins s σ H Q I h) fun c s1 e=>?_)
 cases c with
 | true=>exact isTrue_and_nil e
 | false=>exact e
theorem x4 (ha:PT X a tA):PW X (.BoolOp .Or [a] pos) tA:=by
 intro wh pins s σ H Q I h
 refine isTrue_or (thn (ha pins s σ H Q I h) fun c s1 e=>?_)
 cases c with
 | false=>exact isTrue_or_nil e
 | true=>exact e
theorem vF (ha:PT X a tA) (hb:PW X (.BoolOp .And (b :: rest) pos) tB'):PW X (.BoolOp .And (a :: b :: rest) pos) (tAnd tA tB'):=by
 intro wh pins s σ H Q I h
 refine isTrue_and (thn (ha pins s σ H _ I h) fun c s1 ⟨H1,I1,q1⟩=>?_)
 cases c with
 | true=>exact hb wh pins s1 σ H1 Q I1 q1
 | false=>exact ⟨H1,I1,q1⟩
theorem vO (ha:PT X a tA) (hb:PW X (.BoolOp .Or (b :: rest) pos) tB'):PW X (.BoolOp .Or (a :: b :: rest) pos) (tOr tA tB'):=by
 intro wh pins s σ H Q I h
 refine isTrue_or (thn (ha pins s σ H _ I h) fun c s1 ⟨H1,I1,q1⟩=>?_)
 cases c with
 | true=>exact ⟨H1,I1,q1⟩
 | false=>exact hb wh pins s1 σ H1 Q I1 q1
theorem yX (ha:PT X a tA):PT X (.UnaryOp .Not a pos) (tNot tA):=by
 intro pins s σ H Q I h
 exact isTrue_not (ha pins s σ H (fun c H1=>Q (!c) H1) I h)
def TH (ta tb:TE):TE:=fun σ H Q=>ta σ H fun x H1=>∃ c,x = .bl c /\ if c = true then tb σ H1 Q else Q (.bl false) H1
def tOrV (ta tb:TE):TE:=fun σ H Q=>ta σ H fun x H1=>∃ c,x = .bl c /\ if c = true then Q (.bl true) H1 else tb σ H1 Q
def TJ (ta:TE):TE:=fun σ H Q=>ta σ H fun x H1=>∃ c,x = .bl c /\ Q (.bl (!c)) H1
theorem xU {op} {t:TE} (h:PE X a t):PE X (.BoolOp op [a] pos) t:=fun pins s σ H Q I hw=>BoolOp_one (h pins s σ H Q I hw)
theorem xA (ha:PE X a ta) (hb:PE X (.BoolOp .And (b :: rest) pos) tb):PE X (.BoolOp .And (a :: b :: rest) pos) (TH ta tb):=by
 intro pins s σ H Q I h
 refine BoolOp_and (thn (ha pins s σ H _ I h) fun v s1 ⟨x,H1,I1,r1,q1⟩=>?_)
 obtain ⟨c,rfl,q1⟩:=q1
 cases r1
 refine wpAny_truthy_bool ?_
 cases c with
 | true=>exact hb pins s1 σ H1 Q I1 q1
 | false=>exact ⟨.bl false,H1,I1,rfl,q1⟩
theorem Uu (ha:PE X a ta) (hb:PE X (.BoolOp .Or (b :: rest) pos) tb):PE X (.BoolOp .Or (a :: b :: rest) pos) (tOrV ta tb):=by
 intro pins s σ H Q I h
 refine BoolOp_or (thn (ha pins s σ H _ I h) fun v s1 ⟨x,H1,I1,r1,q1⟩=>?_)
 obtain ⟨c,rfl,q1⟩:=q1
 cases r1
 refine wpAny_truthy_bool ?_
 cases c with
 | false=>exact hb pins s1 σ H1 Q I1 q1
 | true=>exact ⟨.bl true,H1,I1,rfl,q1⟩
theorem Uv (ha:PE X a ta):PE X (.UnaryOp .Not a pos) (TJ ta):=by
 intro pins s σ H Q I h
 refine UnaryOp_ (thn (ha pins s σ H _ I h) fun v s1 ⟨x,H1,I1,r1,q1⟩=>?_)
 obtain ⟨c,rfl,q1⟩:=q1
 cases r1
 exact not_of (wpAny_truthy_bool ⟨.bl (!c),H1,I1,rfl,q1⟩)
def tIf (t:TT) (ta tb:TE):TE:=fun σ H Q=>t σ H fun c H1=>if c = true then ta σ H1 Q else tb σ H1 Q
theorem jv {c:Expr} (hc:PT X c tA) (ha:PE X a ta) (hb:PE X b tb):PE X (.IfExp c a b pos) (tIf tA ta tb):=by
 intro pins s σ H Q I h
 refine wpAny_IfExp (thn (hc pins s σ H _ I h) fun d s1 ⟨H1,I1,q1⟩=>?_)
 cases d with
 | true=>exact ha pins s1 σ H1 Q I1 q1
 | false=>exact hb pins s1 σ H1 Q I1 q1
end
end L2
namespace L2
open PySem PySem.Spec PyProof.Rows
def SqL (K:FG7) (H:Hp) (a:Addr) (xs:List V):Prop :=
 Rd H a (.lst xs) ∨
  ∃ (o:Obj) (its:Array Value) (n:Nat),K.lookup a = some o /\ o.cls = .type "list" /\ o.dict = none /\ o.data = .seq its n /\ its.size <= sizeLine /\ Vals xs its.toList
def SqT (K:FG7) (H:Hp) (a:Addr) (xs:List V):Prop :=
 Rd H a (.tup xs) ∨
  ∃ (o:Obj) (its:Array Value) (n:Nat),K.lookup a = some o /\ o.cls = .type "tuple" /\ o.data = .seq its n /\ its.size <= sizeLine /\ Vals xs its.toList
def absV:Value -> Option V
 | .none=>some .non
 | .bool b=>some (.bl b)
 | .int i _=>some (.int i)
 | .str x _=>some (.str x)
 | .bytes b _=>some (.byt b)
 | .float b _=>some (.flt b)
 | .ref a=>some (.ref a)
 | .type n=>some (.ty n)
 | _=>none
theorem RelV.abs {x:V} {u:Value} (r:RelV x u):absV u = some x:=by
 cases x with
 | non=>cases r; rfl
 | bl _=>cases r; rfl
 | int _=>obtain ⟨t,rfl⟩:=r; rfl
 | str _=>obtain ⟨t,rfl⟩:=r; rfl
 | byt _=>obtain ⟨t,rfl⟩:=r; rfl
 | flt _=>obtain ⟨t,rfl⟩:=r; rfl
 | ref _=>cases r; rfl
 | ty _=>cases r; rfl
theorem RelV.inj {x y:V} {u:Value} (r:RelV x u) (q:RelV y u):x = y:=Option.some.inj (r.abs.symm.trans q.abs)
theorem Vals.inj:∀ {xs ys:List V} {us:List Value},Vals xs us -> Vals ys us -> xs = ys
 | _,_,_,.nil,.nil=>rfl
 | _,_,_,.cons r t,.cons r' t'=>by rw [r.inj r',Vals.inj t t']
section
variable {X:Cx} {pins:List (Addr × Obj)} {σ:St} {H:Hp} {s:Shared} {a:Addr} {xs ys:List V}
theorem SqL.of {K:FG7} (h:H a = some (.lst xs)):SqL K H a xs:=.inl (.inl h)
theorem SqT.of {K:FG7} (h:H a = some (.tup xs)):SqT K H a xs:=.inl (.inl h)
theorem Inv.list (I:Inv X pins σ H s) (h:SqL X.K H a xs):∃ its:List Value,Vals xs its /\ PlainL s.heap a its.toArray /\ xs.length <= sizeLine:=by
 rcases h with h | ⟨o,its,n,hk,hc,hd,hs,hz,r⟩
 ·obtain ⟨z,its,n,r,e⟩:=h.ok I.hok
  exact ⟨its,r,⟨_,n,e,rfl,rfl,rfl⟩,z⟩
 ·refine ⟨its.toList,r,⟨o,n,I.kIn a o hk,hc,hd,by simpa using hs⟩,?_⟩
  have e:=r.length
  simp only [Array.length_toList] at e
  omega
theorem Inv.tuple (I:Inv X pins σ H s) (h:SqT X.K H a xs):∃ its:List Value,Vals xs its /\ IsTup s.heap a its.toArray /\ xs.length <= sizeLine:=by
 rcases h with h | ⟨o,its,n,hk,hc,hs,hz,r⟩
 ·obtain ⟨z,its,r,p⟩:=h.ok I.hok
  exact ⟨its,r,p,z⟩
 ·refine ⟨its.toList,r,⟨o,I.kIn a o hk,hc,n,by simpa using hs⟩,?_⟩
  have e:=r.length
  simp only [Array.length_toList] at e
  omega
theorem Inv.list_inj (I:Inv X pins σ H s) (h:SqL X.K H a xs) (h':SqL X.K H a ys):xs = ys:=by
 obtain ⟨its,r,⟨o,n,e,_,_,d⟩,_⟩:=I.list h
 obtain ⟨its',r',⟨o',n',e',_,_,d'⟩,_⟩:=I.list h'
 rw [e] at e'; cases e'
 rw [d] at d'
 injection d' with d1 _
 have:its = its':=by simpa using congrArg Array.toList d1
 subst this
 exact r.inj r'
theorem Inv.tuple_inj (I:Inv X pins σ H s) (h:SqT X.K H a xs) (h':SqT X.K H a ys):xs = ys:=by
 obtain ⟨its,r,⟨o,e,_,n,d⟩,_⟩:=I.tuple h
 obtain ⟨its',r',⟨o',e',_,n',d'⟩,_⟩:=I.tuple h'
 rw [e] at e'; cases e'
 rw [d] at d'
 injection d' with d1 _
 have:its = its':=by simpa using congrArg Array.toList d1
 subst this
 exact r.inj r'
end
abbrev Cx.wish (X:Cx) (E:VS7):Cx:={ X with xe:=E }
abbrev Cx.nox (X:Cx):Cx:=X.wish fun _ _=>False
theorem Cx.Ok.wish {X:Cx} (ok:X.Ok) (E:VS7):(X.wish E).Ok :=
 ⟨ok.mod,ok.kind,ok.glob,ok.blt,ok.above,ok.inj,ok.has,ok.cab,ok.hd,ok.frames,ok.stk,ok.exf,ok.bs,ok.bsz,ok.noex,ok.exfs,ok.funs,ok.frf⟩
theorem Cx.Ok.unwish {X:Cx} {E:VS7} (ok:(X.wish E).Ok):X.Ok :=
 ⟨ok.mod,ok.kind,ok.glob,ok.blt,ok.above,ok.inj,ok.has,ok.cab,ok.hd,ok.frames,ok.stk,ok.exf,ok.bs,ok.bsz,ok.noex,ok.exfs,ok.funs,ok.frf⟩
section
variable {X:Cx} {pins:List (Addr × Obj)} {σ:St} {H:Hp} {s:Shared} {E:VS7}
theorem Inv.wish (I:Inv X pins σ H s) (E:VS7):Inv (X.wish E) pins σ H s:=⟨I.ok.wish E,I.os,I.bare,I.base,I.loc,I.cell,I.free,I.freeC,I.pin,I.hok,I.len⟩
theorem Inv.unwish (I:Inv (X.wish E) pins σ H s):Inv X pins σ H s:=⟨I.ok.unwish,I.os,I.bare,I.base,I.loc,I.cell,I.free,I.freeC,I.pin,I.hok,I.len⟩
theorem SP.unwish {D:Ends} {f:Flow} {s':Shared} (h:SP (X.wish E) pins D f s'):SP X pins D f s':=by
 cases f with
 | next=>obtain ⟨σ',H',I,q⟩:=h; exact ⟨σ',H',I.unwish,q⟩
 | brk=>obtain ⟨σ',H',I,q⟩:=h; exact ⟨σ',H',I.unwish,q⟩
 | cont=>obtain ⟨σ',H',I,q⟩:=h; exact ⟨σ',H',I.unwish,q⟩
 | ret u=>obtain ⟨v,σ',H',I,r,q⟩:=h; exact ⟨v,σ',H',I.unwish,r,q⟩
theorem PE.nox {e:Expr} {t:TE} (h:PE X.nox e t):PE X e t:=fun pins s σ H Q I hw =>
 wpAny_mono (h pins s σ H Q (I.wish _) hw) (fun _ _ ⟨v,H',I',r,q⟩=>⟨v,H',I'.unwish,r,q⟩) fun _ _ z=>False.elim z
theorem PT.nox {e:Expr} {t:TT} (h:PT X.nox e t):PT X e t:=fun pins s σ H Q I hw =>
 wpAny_mono (h pins s σ H Q (I.wish _) hw) (fun _ _ ⟨H',I',q⟩=>⟨H',I'.unwish,q⟩) fun _ _ z=>False.elim z
theorem PSs.nox {st:List Stmt} {t:TS} (h:PSs X.nox st t):PSs X st t:=fun pins s σ H D I hw =>
 wpAny_mono (h pins s σ H D (I.wish _) hw) (fun _ _ q=>q.unwish) fun _ _ z=>False.elim z
end
section
variable {X:Cx} {st:Stmt} {rest:List Stmt} {t u:TS} {e:Expr} {te:TE} {pos:Pos}
def Uw:TS:=fun D σ H=>D.nx σ H
def tSeq (t u:TS):TS:=fun D σ H=>t { D with nx:=u D } σ H
theorem zC:PSs X [] Uw:=fun _ _ σ H _ I h=>wpAny_execs_nil ⟨σ,H,I,h⟩
theorem ze (h1:PS X st t) (h2:PSs X rest u):PSs X (st :: rest) (tSeq t u):=by
 intro pins s σ H D I h
 refine wpAny_execs_cons (thn (h1 pins s σ H { D with nx:=u D } I h) fun f s1 q=>?_)
 cases f with
 | next =>
  obtain ⟨σ',H',I',q⟩:=q
  exact h2 pins s1 σ' H' D I' q
 | ret v=>exact q
 | brk=>exact q
 | cont=>exact q
theorem zh (h1:PS X st t):PSs X [st] t:=by
 intro pins s σ H D I h
 refine wpAny_execs_cons (thn (h1 pins s σ H D I h) fun f s1 q=>?_)
 cases f with
 | next=>exact wpAny_execs_nil q
 | ret v=>exact q
 | brk=>exact q
 | cont=>exact q
theorem Inv.quiet {pins:List (Addr × Obj)} {σ:St} {H:Hp} {s:Shared} (I:Inv X pins σ H s):interactive X.env = false:=by simp [interactive,I.ok.kind]
def TK (te:TE):TS:=fun D σ H=>te σ H fun _ H1=>D.nx σ H1
theorem x6 (he:PE X e te) (hs:swapsWith e none pos.line X.env = pure false:=by rfl):PS X (.Expr e pos) (TK te):=by
 intro pins s σ H D I h
 exact wpAny_Expr_any (thn (he pins s σ H _ I h) fun v s1 ⟨x,H1,I1,r1,q1⟩=>⟨σ,H1,I1,q1⟩) I.quiet hs
def tRet (te:TE):TS:=fun D σ H=>te σ H D.rt
theorem zt (he:PE X e te):PS X (.Return (some e) pos) (tRet te):=by
 intro pins s σ H D I h
 exact wpAny_Return_some (thn (he pins s σ H _ I h) fun v s1 ⟨x,H1,I1,r1,q1⟩=>⟨x,σ,H1,I1,r1,q1⟩)
def tIfS (c:TT) (t u:TS):TS:=fun D σ H=>c σ H fun b H1=>if b = true then t D σ H1 else u D σ H1
theorem ya {c:Expr} {a b:List Stmt} {tc:TT} (hc:PT X c tc) (ha:PSs X a t) (hb:PSs X b u):PS X (.If c a b pos) (tIfS tc t u):=by
 intro pins s σ H D I h
 refine wpAny_If (thn (hc pins s σ H _ I h) fun d s1 ⟨H1,I1,q1⟩=>?_)
 cases d with
 | true=>exact ha pins s1 σ H1 D I1 q1
 | false=>exact hb pins s1 σ H1 D I1 q1
def Ux:TS:=fun _ _ _=>False
theorem jw:PS X st Ux:=fun _ _ _ _ _ _ h=>h.elim
end
abbrev TG:=V -> St -> Hp -> (St -> Hp -> Prop) -> Prop
abbrev TGs:=List V -> St -> Hp -> (St -> Hp -> Prop) -> Prop
def PG (X:Cx) (target:Expr) (t:TG):Prop :=
 ∀ (pins:List (Addr × Obj)) (s:Shared) (σ:St) (H:Hp) (v:V) (u:Value) (Q:St -> Hp -> Prop),Inv X pins σ H s -> RelV v u -> t v σ H Q →
  wpAny (model X.prog X.w) X.A (assign target X.env u) (fun _ s'=>∃ σ' H',Inv X pins σ' H' s' /\ Q σ' H') X.xe s
def PGs (X:Cx) (ts:List Expr) (t:TGs):Prop :=
 ∀ (pins:List (Addr × Obj)) (s:Shared) (σ:St) (H:Hp) (vs:List V) (us:List Value) (Q:St -> Hp -> Prop),Inv X pins σ H s -> Vals vs us -> t vs σ H Q →
  wpAny (model X.prog X.w) X.A (assignInOrder ((assignEach ts X.env).map (·.2)) us) (fun _ s'=>∃ σ' H',Inv X pins σ' H' s' /\ Q σ' H') X.xe s
abbrev TSet:=V -> V -> V -> Hp -> (Hp -> Prop) -> Prop
def PSet (X:Cx) (t:TSet):Prop :=
 ∀ (pins:List (Addr × Obj)) (s:Shared) (σ:St) (H:Hp) (o i v:V) (ov iv u:Value) (Q:Hp -> Prop),Inv X pins σ H s -> RelV o ov -> RelV i iv -> RelV v u -> t o i v H Q →
  wpAny (model X.prog X.w) X.A (setItem ov iv u) (fun _ s'=>∃ H',Inv X pins σ H' s' /\ Q H') X.xe s
section
variable {X:Cx} {pos:Pos}
def ww (i:Nat):TG:=fun v σ H Q=>Q (σ.set i (some v)) H
theorem zi {i:Nat} {x:Str} (hN:X.N.Nodup) (hi:X.N[i]? = some x) (hx:Loc X.env.scope x) (hf:X.fn x = true \/ X.env.scope.names.lookup x = some .local :=by first | exact .inl rfl | exact .inr rfl | assumption):PG X (.Name x pos) (ww i):=by
 intro pins s σ H v u Q I r h
 exact wpAny_assign_Name (vQ I hN hi hx r (fun s' I'=>⟨_,H,I',h⟩) hf)
def gNil:TGs:=fun vs σ H Q=>vs = [] /\ Q σ H
def TL (t:TG) (u:TGs):TGs:=fun vs σ H Q=>∃ v r,vs = v :: r /\ t v σ H fun σ' H'=>u r σ' H' Q
theorem z9:PGs X [] gNil:=by
 intro pins s σ H vs us Q I r h
 obtain ⟨e,h⟩:=h
 subst e
 cases r
 exact assignInOrder_nil ⟨σ,H,I,h⟩
theorem zm {e:Expr} {es:List Expr} {t:TG} {u:TGs} (h1:PG X e t) (h2:PGs X es u)
  (hs:(assignEach (e :: es) X.env).map (·.2) = assign e X.env :: (assignEach es X.env).map (·.2):=by rfl):PGs X (e :: es) (TL t u):=by
 intro pins s σ H vs us Q I r h
 obtain ⟨v,vr,e1,h⟩:=h
 subst e1
 cases r with
 | cons r rr =>
  rw [hs]
  refine assignInOrder_cons (thn (h1 pins s σ H _ _ _ I r h) fun _ s1 ⟨σ1,H1,I1,q1⟩=>?_)
  exact h2 pins s1 σ1 H1 _ _ Q I1 rr q1
def gTup (K:FG7) (n:Nat) (t:TGs):TG:=fun v σ H Q=>∃ a xs,v = .ref a /\ SqT K H a xs /\ xs.length = n /\ t xs σ H Q
theorem yK {es:List Expr} {k:Nat} {t:TGs} {n:Nat} (hc:X.calm = true) (h:PGs X es t)
  (hn:(assignEach es X.env).length = n:=by rfl) (hst:(assignEach es X.env).findIdx? (·.1) = none:=by rfl):PG X (.Tuple es k pos) (gTup X.K n t):=by
 intro pins s σ H v u Q I r hw
 obtain ⟨a,xs,e1,hq,hl,hw⟩:=hw
 subst e1
 cases r
 obtain ⟨its,rv,ht,hz⟩:=I.tuple hq
 refine assign_Tuple_tuple (I.ok.hd hc) ht (by simp [hn,← hl,rv.length]) hst fun h' hx=>?_
 have I1:Inv X pins σ H { s with heap:=h' }:=I.kept (t':=s.toks) fun b o e=>hx b o (Nat.ne_of_lt (Heap.lt_size e)) e
 exact h pins _ σ H xs _ Q I1 (by simpa using rv) hw
def gSub (to ti:TE) (t:TSet):TG:=fun v σ H Q=>to σ H fun o H1=>ti σ H1 fun i H2=>t o i v H2 fun H3=>Q σ H3
theorem sZ {o i:Expr} {to ti:TE} {t:TSet} (ho:PE X o to) (hi:PE X i ti) (hs:PSet X t)
  (ha:∀ v,assign (.Subscript o i pos) X.env v = (do
   let ov ← holding [v] (eval o X.env)
   let iv ← holding [v,ov] (eval i X.env)
   standAt pos
   holding [v,ov,iv] (setItem ov iv v)
   release [v,ov,iv] []):=by intro _; rfl):PG X (.Subscript o i pos) (gSub to ti t):=by
 intro pins s σ H v u Q I r h
 rw [ha]
 refine wpAny_bind (wpAny_holding (thn (ho pins s σ H _ I h) fun ov s1 ⟨x,H1,I1,r1,q1⟩=>?_))
 refine wpAny_bind (wpAny_holding (thn (hi pins s1 σ H1 _ I1 q1) fun iv s2 ⟨y,H2,I2,r2,q2⟩=>?_))
 refine wpAny_bind (wpAny_standAt (wpAny_bind (wpAny_holding (thn (hs pins s2 σ H2 x y v ov iv u _ I2 r1 r2 r q2) fun _ s3 ⟨H3,I3,q3⟩=>?_))))
 exact wpAny_release ⟨σ,H3,I3,q3⟩
def tAsg (te:TE) (g:TG):TS:=fun D σ H=>te σ H fun x H1=>g x σ H1 D.nx
theorem yY {tg e:Expr} {te:TE} {g:TG} (he:PE X e te) (hg:PG X tg g) (hs:swapsWithSole [tg] e pos.line X.env = pure false:=by rfl) (hw:swappedStores [tg] e X.env = pure none:=by rfl)
  (h1:(assignEach [tg] X.env).map (·.2) = [assign tg X.env]:=by rfl):PS X (.Assign [tg] e pos) (tAsg te g):=by
 intro pins s σ H D I h
 refine wpAny_Assign_stores (thn (he pins s σ H _ I h) fun v s1 ⟨x,H1,I1,r1,q1⟩=>?_) hs hw
 rw [h1]
 exact thn (hg pins s1 σ H1 x v _ I1 r1 q1) fun _ s2 q=>q
theorem zr {i:Nat} {x:Str} {e:Expr} {te:TE} {pos':Pos} (hN:X.N.Nodup) (hi:X.N[i]? = some x) (hx:Loc X.env.scope x) (he:PE X e te) (hs:swapsWith e (some (.Name x pos')) pos.line X.env = pure false:=by rfl) (hf:X.fn x = true \/ X.env.scope.names.lookup x = some .local :=by first | exact .inl rfl | exact .inr rfl | assumption) :
  PS X (.Assign [.Name x pos'] e pos) (tAsg te (ww i)):=by
 intro pins s σ H D I h
 refine wpAny_Assign_Name (thn (he pins s σ H _ I h) fun v s1 ⟨y,H1,I1,r1,q1⟩=>?_) hs
 exact vQ I1 hN hi hx r1 (fun s2 I2=>⟨_,H1,I2,q1⟩) hf
def tPar (i j:Nat) (ta:TA):TS:=fun D σ H=>ta σ H fun vs H1=>∃ v w,vs = [v,w] /\ D.nx ((σ.set i (some v)).set j (some w)) H1
theorem Uy {i j:Nat} {x y:Str} {a b:Expr} {ta:TA} {px py pt:Pos} {kt k2 pt2} (hc:X.calm = true) (hN:X.N.Nodup) (hi:X.N[i]? = some x) (hj:X.N[j]? = some y) (hij:i ≠ j)
  (hx:X.env.scope.names.lookup x = some .local) (hy:X.env.scope.names.lookup y = some .local) (ha:PA X [a,b] ta)
  (hw:swappedStores [.Tuple [.Name x px,.Name y py] kt pt] (.Tuple [a,b] k2 pt2) X.env = pure (some [x,y]))
  (hs:swapsWithSole [.Tuple [.Name x px,.Name y py] kt pt] (.Tuple [a,b] k2 pt2) pos.line X.env = pure false:=by rfl) :
  PS X (.Assign [.Tuple [.Name x px,.Name y py] kt pt] (.Tuple [a,b] k2 pt2) pos) (tPar i j ta):=by
 intro pins s σ H D I h
 rw [exec_Assign_arm]
 refine wpAny_bind (wpAny_standAt ?_)
 rw [hs]
 refine wpAny_bind (wpAny_pure ?_)
 rw [if_neg (by decide)]
 refine wpAny_bind (Tuple_ (thn (ha _ pins s σ H _ I h) fun us s1 ⟨vs,H1,I1,r1,q1⟩=>?_))
 obtain ⟨v,w,e1,q1⟩:=q1
 subst e1
 obtain ⟨u1,u2,rfl,rv,rw'⟩:∃ u1 u2,us = [u1,u2] /\ RelV v u1 /\ RelV w u2:=by
  cases r1 with
  | cons p q =>
   cases q with
   | cons p' q' =>
    cases q'
    exact ⟨_,_,rfl,p,p'⟩
 refine wpAny_newObj_type ?_ (by show 2 <= sizeLine; decide)
 have I2:Inv X pins σ H1 { s1 with heap:=s1.heap.push { cls:=.type "tuple",data:=.seq [u1,u2].toArray } }:=I1.kept (t':=s1.toks) fun b o e=>Heap.get?_push_of_some _ e
 rw [hw]
 refine wpAny_bind (wpAny_pure ?_)
 show wpAny (model X.prog X.w) X.A (do rule "assign.swapped-stores"; let items ← unpackItems (.ref s1.heap.objs.size) 2 none; assignInOrder [fun v=>bindName X.env y v,fun v=>bindName X.env x v] items.reverse; pure Flow.next) _ _ _
 refine wpAny_bind (wpAny_rule (wpAny_bind (unpackItems_tuple (items:=#[u1,u2]) (I.ok.hd hc) (IsTup.new s1.heap _) fun h' hx'=>?_)))
 have I3:=I2.kept (h':=h') (t':=s1.toks) fun b o e=>hx' b o (Nat.ne_of_lt (Heap.lt_size e)) e
 show wpAny _ _ (assignInOrder [fun v=>bindName X.env y v,fun v=>bindName X.env x v] [u2,u1] >>= fun _=>pure Flow.next) _ _ _
 refine wpAny_bind (assignInOrder_cons (wpAny_bindName (vQ I3 hN hj (.inl hy) rw' (fun s2 I4=>?_) (.inr hy))))
 refine assignInOrder_cons (wpAny_bindName (vQ I4 hN hi (.inl hx) rv (fun s3 I5=>assignInOrder_nil (wpAny_pure ?_)) (.inr hx)))
 rw [List.set_comm _ _ (Ne.symm hij)] at I5
 exact ⟨_,H1,I5,q1⟩
end
section
variable {X:Cx} {pos:Pos}
def Vg (c:TT) (tb:TS):TS:=fun D σ H=>∃ W:Nat -> St -> Hp -> Prop,(∃ m,W m σ H) /\ ∀ m σ H,W m σ H →
 c σ H fun b H1=>if b = true then ∃ N:St -> Hp -> Prop,(∀ σ' H',N σ' H' -> ∃ m',m' < m /\ W m' σ' H') /\ tb { D with nx:=N,ct:=N,bk:=D.nx } σ H1 else D.nx σ H1
theorem Wg {c:Expr} {body:List Stmt} {tc:TT} {tb:TS} (hp:PassesOwn (model X.prog X.w) X.A X.env X.xe) (hc:PT X c tc) (hb:PSs X body tb):PS X (.While c body [] pos) (Vg tc tb):=by
 intro pins s σ H D I h
 obtain ⟨W,⟨m0,w0⟩,turn⟩:=h
 refine wpAny_While (codeAny_whileLoop (fun n s'=>∃ σ' H',Inv X pins σ' H' s' /\ W n σ' H') ?_ m0 ⟨σ,H,I,w0⟩)
 rintro n s1 ⟨σ1,H1,I1,w1⟩
 refine wpAny_passesOwn hp (thn (hc pins s1 σ1 H1 _ I1 (turn n σ1 H1 w1)) fun b s2 ⟨H2,I2,q2⟩=>?_)
 cases b with
 | true =>
  obtain ⟨N,hN,q2⟩:=q2
  rw [if_pos rfl]
  refine wpAny_passesOwn hp (thn (hb pins s2 σ1 H2 _ I2 q2) fun f s3 q3=>?_)
  cases f with
  | next =>
   obtain ⟨σ3,H3,I3,n3⟩:=q3
   obtain ⟨m',hm,w3⟩:=hN σ3 H3 n3
   exact ⟨m',hm,σ3,H3,I3,w3⟩
  | cont =>
   obtain ⟨σ3,H3,I3,n3⟩:=q3
   obtain ⟨m',hm,w3⟩:=hN σ3 H3 n3
   exact ⟨m',hm,σ3,H3,I3,w3⟩
  | brk=>exact q3
  | ret v=>exact q3
 | false =>
  rw [if_neg Bool.false_ne_true]
  exact wpAny_execs_nil ⟨σ1,H2,I2,q2⟩
end
structure It where
 go:Nat -> Hp -> Prop
 yld:Nat -> Hp -> V -> Hp -> Prop
 stop:Nat -> Hp -> Prop
def FpOk (X:Cx) (pins:List (Addr × Obj)) (H:Hp) (b:Addr):Prop :=
 H b = none /\ b ≠ X.env.locals /\ b ∉ X.fs /\ (b ∈ X.ex \/ X.s₀.heap.objs.size <= b) /\ (∀ x c,X.env.cells.lookup x = some c -> c ≠ b) /\ ∀ p ∈ X.pn ++ pins,p.1 ≠ b
theorem Inv.fpOk {X:Cx} {pins:List (Addr × Obj)} {σ:St} {H H':Hp} {s:Shared} {b:Addr} (I:Inv X pins σ H s) (hb:s.heap.objs.size <= b) (hn:H' b = none):FpOk X pins H' b:=by
 refine ⟨hn,Nat.ne_of_gt (Nat.lt_of_lt_of_le I.lt hb),I.nofs hb,.inr (Nat.le_trans I.sz hb),fun x c e z=>?_,fun p hp z=>?_⟩
 ·obtain ⟨v,q⟩:=I.cell x c e
  exact absurd (Nat.lt_of_lt_of_le q.lt (by rw [z]; exact hb)) (Nat.lt_irrefl _)
 ·exact absurd (Nat.lt_of_lt_of_le (Heap.lt_size (I.pin p hp).1) (by rw [z]; exact hb)) (Nat.lt_irrefl _)
structure Turn (P:Program) (w:World) (K:FG7) (tg:Expr) (J:It) (fp:List Addr) (it:Addr) (tn:Nat -> Heap -> Prop):Prop where
 mem:it ∈ fp
 obj:∀ i h,tn i h -> ∀ b ∈ fp,∃ o,h.get? b = some o /\ ∀ v,o.data ≠ .cell v
 keep:∀ i h h',tn i h -> (∀ b ∈ fp,∀ o,h.get? b = some o -> h'.get? b = some o) -> tn i h'
 item:∀ (X:Cx),X.prog = P -> X.w = w -> X.K = K -> X.calm = true -> ∀ (i:Nat) (pins:List (Addr × Obj)) (s:Shared) (σ:St) (H:Hp) (E:VS7),Inv X pins σ H s -> (∀ b ∈ fp,FpOk X pins H b) -> tn i s.heap -> J.go i H →
  wpAny (model P w) X.A (pyNext (.ref it)) (fun r s1=>∃ u,r = some u ∧
   wpAny (model P w) X.A (letOwnedTupleGo tg (.ref it) u) (fun _ s2=>∃ x H',Inv X pins σ H' s2 /\ RelV x u /\ J.yld i H x H' /\ tn (i + 1) s2.heap /\ ∀ b ∈ fp,H' b = none) E s1) E s
 done:∀ (X:Cx),X.prog = P -> X.w = w -> X.K = K -> X.calm = true -> ∀ (i:Nat) (pins:List (Addr × Obj)) (s:Shared) (σ:St) (H:Hp) (E:VS7),Inv X pins σ H s -> (∀ b ∈ fp,FpOk X pins H b) -> tn i s.heap -> J.stop i H →
  wpAny (model P w) X.A (pyNext (.ref it)) (fun r s1=>r = none /\ Inv X pins σ H s1) E s
 self:∀ (A:Around) (i:Nat) (s:Shared) (Q:VS7) (E:VS7),tn i s.heap -> Q (.ref it) s -> wpAny (model P w) A (pyIter (.ref it)) Q E s
abbrev TI:=St -> Hp -> (It -> Hp -> Prop) -> Prop
def PIE (X:Cx) (pins:List (Addr × Obj)) (σ:St) (tg:Expr) (R:It -> Hp -> Prop) (itv:Value) (s2:Shared):Prop :=
 ∃ (it:Addr) (fp:List Addr) (tn:Nat -> Heap -> Prop) (J:It) (H':Hp),itv = .ref it /\ Inv X pins σ H' s2 /\ Turn X.prog X.w X.K tg J fp it tn /\ tn 0 s2.heap /\ (∀ b ∈ fp,FpOk X pins H' b) /\ R J H'
def PI (X:Cx) (tg iter:Expr) (wi:TI):Prop :=
 ∀ (pins:List (Addr × Obj)) (s:Shared) (σ:St) (H:Hp) (R:It -> Hp -> Prop),Inv X pins σ H s -> wi σ H R →
  wpAny (model X.prog X.w) X.A (eval iter X.env) (fun v s1=>wpAny (model X.prog X.w) X.A (pyIter v) (PIE X pins σ tg R) X.xe s1) X.xe s
theorem Wh {M:Model} {A:Around} {E:VS7} {s:Shared} {tg:Expr} {it:Addr} {u:Value} {o:Obj} {n:String} {vs:Array Value} {Q:Unit -> Shared -> Prop} (ho:s.heap.get? it = some o) (hc:o.cls = .type n) (hd:o.data = .fields vs)
    (hn:["enumerate","zip","dict_itemiterator","dict_reverseitemiterator","odict_iterator","itertools.zip_longest","itertools.pairwise"].contains n = false) (hQ:Q () s):wpAny M A (letOwnedTupleGo tg (.ref it) u) Q E s:=by
  unfold letOwnedTupleGo
  cases tg <;> first
    | exact wpAny_pure hQ
    | (cases u <;> first
        | exact wpAny_pure hQ
        | (refine wpAny_bind (wpAny_load ho ?_)
           rw [hc,hd]
           show wpAny M A (if (["enumerate","zip","dict_itemiterator","dict_reverseitemiterator","odict_iterator","itertools.zip_longest","itertools.pairwise"].contains n && vs[0]? == some (rawInt _)) = true then _ else _) Q E s
           rw [if_neg (by intro h; rw [hn,Bool.false_and] at h; cases h)]
           exact wpAny_pure hQ))
def Itl (K:FG7) (a:Addr):It :=
 ⟨fun i H=>∃ xs x,SqL K H a xs /\ xs[i]? = some x,fun i H x H'=>H' = H /\ ∀ xs,SqL K H a xs -> xs[i]? = some x,fun i H=>∃ xs,SqL K H a xs /\ xs.length <= i⟩
def Itt (K:FG7) (a:Addr):It :=
 ⟨fun i H=>∃ xs x,SqT K H a xs /\ xs[i]? = some x,fun i H x H'=>H' = H /\ ∀ xs,SqT K H a xs -> xs[i]? = some x,fun i H=>∃ xs,SqT K H a xs /\ xs.length <= i⟩
def Itr (lo:Int) (n:Nat):It:=⟨fun i _=>i < n,fun i H x H'=>H' = H /\ x = .int (lo + i),fun i _=>n <= i⟩
theorem Ys {P:Program} {w:World} {K:FG7} {tg:Expr} (a it:Addr):Turn P w K tg (Itl K a) [it] it (fun i h=>h.IsListIter it a i) where
 mem:=by simp
 obj:=fun i h st b hb=>by
  have e:b = it:=by simpa using hb
  subst e
  obtain ⟨o,e,c,d⟩:=st
  exact ⟨o,e,fun v z=>by rw [d] at z; cases z⟩
 keep:=fun i h h' st k=>st.at fun o e=>k it (by simp) o e
 item:=by
  intro X hP hw hK hc i pins s σ H E I hf st hg
  subst hP hw hK
  obtain ⟨xs,x,hq,hx⟩:=hg
  obtain ⟨its,rv,p,hz⟩:=I.list hq
  obtain ⟨u,hu,ru⟩:=rv.get hx
  obtain ⟨f0,f1,f2,f3,f4,f5⟩:=hf it (by simp)
  refine wpAny_pyNext_list_item st p.isList (x:=u) (by simpa using hu) fun h' st' sb=>?_
  have I1:Inv X pins σ H { s with heap:=h' }:=I.turned (t':=s.toks) (fun b o hb e=>(sb.2 b hb).trans e) f0 f1 f3 f4 f5
  obtain ⟨o,e,c,d⟩:=id st'
  exact ⟨u,rfl,Wh (s:={ s with heap:=h' }) e c d (by decide) ⟨x,H,I1,ru,⟨rfl,fun ys hy=>by rw [I.list_inj hy hq]; exact hx⟩,st',fun b hb=>(hf b hb).1⟩⟩
 done:=by
  intro X hP hw hK hc i pins s σ H E I hf st hg
  subst hP hw hK
  obtain ⟨xs,hq,hx⟩:=hg
  obtain ⟨its,rv,p,hz⟩:=I.list hq
  obtain ⟨f0,f1,f2,f3,f4,f5⟩:=hf it (by simp)
  have hl:=rv.length
  exact wpAny_pyNext_list_end (I.ok.hd hc) st p.isList (by simp; omega) fun h' eb=>⟨rfl,I.turned (t':=s.toks) (fun b o hb e=>eb b o hb e) f0 f1 f3 f4 f5⟩
 self:=fun _ _ _ _ _ st h=>wpAny_pyIter_listiter st h
theorem Zs {P:Program} {w:World} {K:FG7} {tg:Expr} (a it:Addr):Turn P w K tg (Itt K a) [it] it (fun i h=>h.IsTupleIter it a i) where
 mem:=by simp
 obj:=fun i h st b hb=>by
  have e:b = it:=by simpa using hb
  subst e
  obtain ⟨o,e,c,d⟩:=st
  exact ⟨o,e,fun v z=>by rw [d] at z; cases z⟩
 keep:=fun i h h' st k=>st.at fun o e=>k it (by simp) o e
 item:=by
  intro X hP hw hK hc i pins s σ H E I hf st hg
  subst hP hw hK
  obtain ⟨xs,x,hq,hx⟩:=hg
  obtain ⟨its,rv,p,hz⟩:=I.tuple hq
  obtain ⟨u,hu,ru⟩:=rv.get hx
  obtain ⟨f0,f1,f2,f3,f4,f5⟩:=hf it (by simp)
  refine wpAny_pyNext_tuple_item st (show s.heap.IsTuple a its.toArray from p) (x:=u) (by simpa using hu) fun h' st' sb=>?_
  have I1:Inv X pins σ H { s with heap:=h' }:=I.turned (t':=s.toks) (fun b o hb e=>(sb.2 b hb).trans e) f0 f1 f3 f4 f5
  obtain ⟨o,e,c,d⟩:=id st'
  exact ⟨u,rfl,Wh (s:={ s with heap:=h' }) e c d (by decide) ⟨x,H,I1,ru,⟨rfl,fun ys hy=>by rw [I.tuple_inj hy hq]; exact hx⟩,st',fun b hb=>(hf b hb).1⟩⟩
 done:=by
  intro X hP hw hK hc i pins s σ H E I hf st hg
  subst hP hw hK
  obtain ⟨xs,hq,hx⟩:=hg
  obtain ⟨its,rv,p,hz⟩:=I.tuple hq
  obtain ⟨f0,f1,f2,f3,f4,f5⟩:=hf it (by simp)
  have hl:=rv.length
  exact wpAny_pyNext_tuple_end (I.ok.hd hc) st (show s.heap.IsTuple a its.toArray from p) (by simp; omega) fun h' eb=>⟨rfl,I.turned (t':=s.toks) (fun b o hb e=>eb b o hb e) f0 f1 f3 f4 f5⟩
 self:=fun _ _ _ _ _ st h=>wpAny_pyIter_tupleiter st h
theorem Zt {P:Program} {w:World} {K:FG7} {tg:Expr} (it:Addr) (lo:Int) (n:Nat):Turn P w K tg (Itr lo n) [it] it (fun i h=>IsRangeIter h it (lo + (i:Nat) * 1) ((n:Int) - (i:Nat)) 1) where
 mem:=by simp
 obj:=fun i h st b hb=>by
  have e:b = it:=by simpa using hb
  subst e
  exact ⟨_,st,fun v z=>by
   have z':Data.fields _ = Data.cell v:=z
   cases z'⟩
 keep:=fun i h h' st k=>k it (by simp) _ st
 item:=by
  intro X hP hw hK hc i pins s σ H E I hf st hg
  subst hP hw hK
  obtain ⟨f0,f1,f2,f3,f4,f5⟩:=hf it (by simp)
  have W:=Walks.range (prog:=X.prog) (w:=X.w) (I.ok.hd hc) it lo 1 n
  refine W.item i s _ _ hg st fun v h' tk hv st' kk=>?_
  obtain ⟨t,rfl⟩:=hv
  have I1:Inv X pins σ H { s with heap:=h',toks:=tk }:=I.turned (fun b o hb e=>kk b o (by simpa using hb) e) f0 f1 f3 f4 f5
  refine ⟨_,rfl,Wh (s:={ s with heap:=h',toks:=tk }) (n:="range_iterator") st' rfl rfl (by decide) ⟨.int (lo + i),H,I1,⟨t,?_⟩,⟨rfl,rfl⟩,st',fun b hb=>(hf b hb).1⟩⟩
  rw [Int.mul_one]
 done:=by
  intro X hP hw hK hc i pins s σ H E I hf st hg
  subst hP hw hK
  obtain ⟨f0,f1,f2,f3,f4,f5⟩:=hf it (by simp)
  exact wpAny_pyNext_range_end (I.ok.hd hc) st (by have:n <= i:=hg; omega) fun h' eb=>⟨rfl,I.turned (t':=s.toks) (fun b o hb e=>eb b o hb e) f0 f1 f3 f4 f5⟩
 self:=fun _ _ _ _ _ st h=>wpAny_pyIter_rangeiter st h
end L2
namespace L2
open PySem PySem.Spec PyProof.Rows
section
variable {X:Cx} {tg:Expr}
def TM (K:FG7) (tl:TE):TI:=fun σ H R=>tl σ H fun x H1=>∃ a,x = .ref a /\ (∃ xs,SqL K H1 a xs) /\ R (Itl K a) H1
def iTup (K:FG7) (tl:TE):TI:=fun σ H R=>tl σ H fun x H1=>∃ a,x = .ref a /\ (∃ xs,SqT K H1 a xs) /\ R (Itt K a) H1
theorem xv {l:Expr} {tl:TE} (hl:PE X l tl):PI X tg l (TM X.K tl):=by
 intro pins s σ H R I h
 refine thn (hl pins s σ H _ I h) fun v s1 ⟨x,H1,I1,r1,q1⟩=>?_
 obtain ⟨a,e,⟨xs,hq⟩,q⟩:=q1
 subst e
 cases r1
 obtain ⟨its,rv,p,hz⟩:=I1.list hq
 refine wpAny_pyIter_list p.isList ?_
 refine ⟨s1.heap.objs.size,[s1.heap.objs.size],_,_,H1,rfl,I1.kept (t':=s1.toks) fun b o e=>Heap.get?_push_of_some _ e,Ys a _,⟨_,Heap.get?_push_size _ rfl,rfl,rfl⟩,fun b hb=>?_,q⟩
 have e:b = s1.heap.objs.size:=by simpa using hb
 subst e
 exact I1.fpOk (Nat.le_refl _) (I1.hok.fresh (Nat.le_refl _))
theorem xB {l:Expr} {tl:TE} (hl:PE X l tl):PI X tg l (iTup X.K tl):=by
 intro pins s σ H R I h
 refine thn (hl pins s σ H _ I h) fun v s1 ⟨x,H1,I1,r1,q1⟩=>?_
 obtain ⟨a,e,⟨xs,hq⟩,q⟩:=q1
 subst e
 cases r1
 obtain ⟨its,rv,p,hz⟩:=I1.tuple hq
 refine wpAny_pyIter_tuple (show s1.heap.IsTuple a its.toArray from p) ?_
 refine ⟨s1.heap.objs.size,[s1.heap.objs.size],_,_,H1,rfl,I1.kept (t':=s1.toks) fun b o e=>Heap.get?_push_of_some _ e,Zs a _,⟨_,Heap.get?_push_size _ rfl,rfl,rfl⟩,fun b hb=>?_,q⟩
 have e:b = s1.heap.objs.size:=by simpa using hb
 subst e
 exact I1.fpOk (Nat.le_refl _) (I1.hok.fresh (Nat.le_refl _))
theorem Wi {pins:List (Addr × Obj)} {σ:St} {H:Hp} {s:Shared} {R:It -> Hp -> Prop} {E:VS7} {lo hi:Int} {t u v:Tok} {tk:Nat} (I:Inv X pins σ H s) (h1:-(2 ^ 62) <= lo) (h2:lo < 2 ^ 62) (h3:-(2 ^ 62) <= hi) (h4:hi < 2 ^ 62)
  (q:R (Itr lo (hi - lo).toNat) H):wpAny (model X.prog X.w) X.A (pyIter (.ref s.heap.objs.size)) (PIE X pins σ tg R) E { s with heap:=s.heap.push { cls:=.type "range",data:=.fields #[.int lo t,.int hi u,.int 1 v] },toks:=tk }:=by
 refine wpAny_pyIter_range (IsRange.new ..) (small_one h1 h2 h3 h4) ?_
 have I1:Inv X pins σ H { s with heap:=s.heap.push { cls:=.type "range",data:=.fields #[.int lo t,.int hi u,.int 1 v] },toks:=tk }:=I.kept fun b o e=>Heap.get?_push_of_some _ e
 refine ⟨(s.heap.push { cls:=.type "range",data:=.fields #[.int lo t,.int hi u,.int 1 v] }).objs.size,[(s.heap.push { cls:=.type "range",data:=.fields #[.int lo t,.int hi u,.int 1 v] }).objs.size],_,_,H,rfl,
  I1.kept (t':=tk) fun b o e=>Heap.get?_push_of_some _ e,Zt _ lo (hi - lo).toNat,?_,fun b hb=>?_,q⟩
 ·have e1:lo + ((0:Nat):Int) * 1 = lo:=by simp
  have e2:(((hi - lo).toNat:Nat):Int) - ((0:Nat):Int) = Builtin.Range.rangeSize lo hi 1:=by rw [rangeSize_one]; split <;> omega
  show IsRangeIter _ _ (lo + ((0:Nat):Int) * 1) ((((hi - lo).toNat:Nat):Int) - ((0:Nat):Int)) 1
  rw [e1,e2]
  exact Heap.get?_push_size _ rfl
 ·have e:b = (s.heap.push { cls:=.type "range",data:=.fields #[.int lo t,.int hi u,.int 1 v] }).objs.size:=by simpa using hb
  subst e
  exact I1.fpOk (Nat.le_refl _) (I1.hok.fresh (Nat.le_refl _))
def TN (ta:TA):TI:=fun σ H R=>ta σ H fun vs H1=>∃ j:Int,vs = [.int j] /\ -(2 ^ 62) <= j /\ j < 2 ^ 62 /\ R (Itr 0 j.toNat) H1
theorem y7 {a:Expr} {ta:TA} {p pos:Pos} (hg:Gl X "range") (hm:X.mg "range" = none) (ha:PA X [a] ta) (hs:starEach [a] X.env = [(false,eval a X.env)]:=by rfl):PI X tg (.Call (.Name "range" p) [a] [] pos) (TN ta):=by
 intro pins s σ H R I h
 refine Call_ (vE I hg hm boot_range (PyProof.Rows.callWith_type1 (thn (ha pos pins s σ H _ I h) fun us s1 ⟨vs,H1,I1,r1,q1⟩=>?_) hs rfl))
 obtain ⟨j,e,q1,q2,q⟩:=q1
 subst e
 cases r1 with
 | cons r rr =>
  cases rr
  obtain ⟨t,rfl⟩:=r
  exact call_range_1 (Wi I1 (by omega) (by omega) q1 q2 (by simpa using q))
def tFor (wi:TI) (g:TG) (tb:TS):TS:=fun D σ H=>wi σ H fun J H1=>∃ W:Nat -> Nat -> St -> Hp -> Prop,(∃ m,W 0 m σ H1) /\ ∀ i m σ H,W i m σ H →
 (J.stop i H /\ D.nx σ H) \/ (J.go i H /\ ∃ N:St -> Hp -> Prop,(∀ σ' H',N σ' H' -> ∃ m',m' < m /\ W (i + 1) m' σ' H') /\ ∀ x H',J.yld i H x H' -> g x σ H' fun σ2 H2=>tb { D with nx:=N,ct:=N,bk:=D.nx } σ2 H2)
def s8 (fp:List Addr) (h:Heap):List (Addr × Obj):=fp.filterMap fun b=>(h.get? b).map fun o=>(b,o)
theorem wo {fp:List Addr} {h:Heap} {b:Addr} {o:Obj} (hb:b ∈ fp) (e:h.get? b = some o):(b,o) ∈ s8 fp h:=List.mem_filterMap.mpr ⟨b,hb,by rw [e]; rfl⟩
theorem Yt {fp:List Addr} {h:Heap} {p:Addr × Obj} (hp:p ∈ s8 fp h):p.1 ∈ fp /\ h.get? p.1 = some p.2:=by
 obtain ⟨b,hb,e⟩:=List.mem_filterMap.mp hp
 cases q:h.get? b with
 | none=>rw [q] at e; cases e
 | some o =>
  rw [q] at e
  have e':(b,o) = p:=Option.some.inj e
  subst e'
  exact ⟨hb,q⟩
theorem Inv.pinned {pins:List (Addr × Obj)} {σ:St} {H:Hp} {s:Shared} {fp:List Addr} (I:Inv X pins σ H s) (hf:∀ b ∈ fp,FpOk X pins H b) (ho:∀ b ∈ fp,∃ o,s.heap.get? b = some o /\ ∀ v,o.data ≠ .cell v):Inv X (pins ++ s8 fp s.heap) σ H s :=
 I.pins_of fun p hp=>(List.mem_append.mp hp).elim (fun z=>I.pin p (List.mem_append_right _ z)) fun z=>by
  obtain ⟨hb,e⟩:=Yt z
  obtain ⟨f0,f1,f2,_⟩:=hf p.1 hb
  obtain ⟨o,e',d⟩:=ho p.1 hb
  rw [e] at e'; cases e'
  exact ⟨e,f0,f1,f2,d⟩
theorem Inv.unpinned {pins pl:List (Addr × Obj)} {σ:St} {H:Hp} {s:Shared} (I:Inv X (pins ++ pl) σ H s):Inv X pins σ H s:=I.pins_of fun p hp=>I.pin p (List.mem_append_right _ (List.mem_append_left _ hp))
theorem xk {iter:Expr} {body:List Stmt} {wi:TI} {g:TG} {tb:TS} {pos:Pos} (hp:PassesOwn (model X.prog X.w) X.A X.env X.xe) (hc:X.calm = true) (hi:PI X tg iter wi) (hg:PG X tg g) (hb:PSs X body tb)
  (hs:∀ x,foldedSetIterable iter X.env x = pure x:=by intro _; rfl):PS X (.For tg iter body [] pos) (tFor wi g tb):=by
 intro pins s σ H D I h
 refine wpAny_For (thn (hi pins s σ H _ I h) fun v s1 h1=>thn h1 fun itv s2 h2=>?_) hs
 obtain ⟨it,fp,tn,J,H2,e,I2,T,st2,f2,W,⟨m0,w0⟩,turn⟩:=h2
 subst e
 -- what stays true of the iterator's objects through the loop
 have stat:∀ {H':Hp},(∀ b ∈ fp,H' b = none) -> ∀ b ∈ fp,FpOk X pins H' b:=fun hn b hb=>⟨hn b hb,(f2 b hb).2⟩
 refine codeAny_forLoop_any (fun n s'=>∃ i σ' H',Inv X pins σ' H' s' /\ tn i s'.heap /\ (∀ b ∈ fp,H' b = none) /\ W i n σ' H') ?_ m0 ⟨0,σ,H2,I2,st2,fun b hb=>(f2 b hb).1,w0⟩
 rintro n s3 ⟨i,σ3,H3,I3,st3,fr3,w3⟩
 rcases turn i n σ3 H3 w3 with ⟨stop,qn⟩ | ⟨go,N,hN,step⟩
 ·refine wpAny_passesOwn hp (thn (T.done X rfl rfl rfl hc i pins s3 σ3 H3 X.xe I3 (stat fr3) st3 stop) fun r s4 ⟨hr,I4⟩=>?_)
  subst hr
  exact wpAny_execs_nil ⟨σ3,H3,I4,qn⟩
 ·refine wpAny_passesOwn hp (thn (T.item X rfl rfl rfl hc i pins s3 σ3 H3 X.xe I3 (stat fr3) st3 go) fun r s4 ⟨u,hr,h4⟩=>?_)
  subst hr
  refine wpAny_passesOwn hp (thn h4 fun _ s5 ⟨x,H5,I5,r5,y5,st5,fr5⟩=>?_)
  have I5':=I5.pinned (stat fr5) (T.obj _ _ st5)
  refine wpAny_passesOwn hp (thn (hg _ s5 σ3 H5 x u _ I5' r5 (step x H5 y5)) fun _ s6 ⟨σ6,H6,I6,q6⟩=>?_)
  refine wpAny_passesOwn hp (thn (hb _ s6 σ6 H6 _ I6 q6) fun f s7 q7=>?_)
  have again:∀ {σ7:St} {H7:Hp},Inv X (pins ++ s8 fp s5.heap) σ7 H7 s7 -> N σ7 H7 -> ∃ m,m < n /\ ∃ i σ' H',Inv X pins σ' H' s7 /\ tn i s7.heap /\ (∀ b ∈ fp,H' b = none) /\ W i m σ' H':=fun {σ7 H7} I7 n7=>by
   obtain ⟨m',hm,w7⟩:=hN σ7 H7 n7
   refine ⟨m',hm,i + 1,σ7,H7,I7.unpinned,T.keep _ _ _ st5 fun b hb o e=>(I7.pin (b,o) (List.mem_append_right _ (List.mem_append_right _ (wo hb e)))).1,fun b hb=>?_,w7⟩
   obtain ⟨o,e,d⟩:=T.obj _ _ st5 b hb
   exact (I7.pin (b,o) (List.mem_append_right _ (List.mem_append_right _ (wo hb e)))).2.1
  cases f with
  | next=>obtain ⟨σ7,H7,I7,n7⟩:=q7; exact again I7 n7
  | cont=>obtain ⟨σ7,H7,I7,n7⟩:=q7; exact again I7 n7
  | brk=>obtain ⟨σ7,H7,I7,q7⟩:=q7; exact ⟨σ7,H7,I7.unpinned,q7⟩
  | ret v=>obtain ⟨x7,σ7,H7,I7,r7,q7⟩:=q7; exact ⟨x7,σ7,H7,I7.unpinned,r7,q7⟩
end
theorem tS {K:FG7} {a:Addr} {xs:List V} {g:TG} {tb:TS} {D:Ends} {σ:St} {H:Hp} (Pv:Nat -> St -> Hp -> Prop) (h0:Pv 0 σ H) (hl:∀ i σ H,i <= xs.length -> Pv i σ H -> SqL K H a xs)
  (hs:∀ i x σ H,xs[i]? = some x -> Pv i σ H -> g x σ H fun σ2 H2=>tb { D with nx:=Pv (i + 1),ct:=Pv (i + 1),bk:=D.nx } σ2 H2) (hd:∀ σ H,Pv xs.length σ H -> D.nx σ H) :
  ∃ W:Nat -> Nat -> St -> Hp -> Prop,(∃ m,W 0 m σ H) /\ ∀ i m σ H,W i m σ H →
   ((Itl K a).stop i H /\ D.nx σ H) \/ ((Itl K a).go i H /\ ∃ N:St -> Hp -> Prop,(∀ σ' H',N σ' H' -> ∃ m',m' < m /\ W (i + 1) m' σ' H') /\ ∀ x H',(Itl K a).yld i H x H' -> g x σ H' fun σ2 H2=>tb { D with nx:=N,ct:=N,bk:=D.nx } σ2 H2):=by
 refine ⟨fun i m σ H=>m = xs.length - i /\ i <= xs.length /\ Pv i σ H,⟨xs.length,by simp,Nat.zero_le _,h0⟩,?_⟩
 rintro i m σ H ⟨rfl,hi,p⟩
 have q:=hl i σ H hi p
 by_cases hlt:i < xs.length
 ·refine .inr ⟨⟨xs,xs[i],q,by simp [hlt]⟩,Pv (i + 1),fun σ' H' p'=>⟨xs.length - (i + 1),by omega,rfl,hlt,p'⟩,fun x H' y=>?_⟩
  obtain ⟨e,y⟩:=y
  subst e
  exact hs i x σ _ (y xs q) p
 ·have e:i = xs.length:=by omega
  subst e
  exact .inl ⟨⟨xs,q,Nat.le_refl _⟩,hd σ H p⟩
theorem tT {K:FG7} {a:Addr} {xs:List V} {g:TG} {tb:TS} {D:Ends} {σ:St} {H:Hp} (Pv:Nat -> St -> Hp -> Prop) (h0:Pv 0 σ H) (hl:∀ i σ H,i <= xs.length -> Pv i σ H -> SqT K H a xs)
  (hs:∀ i x σ H,xs[i]? = some x -> Pv i σ H -> g x σ H fun σ2 H2=>tb { D with nx:=Pv (i + 1),ct:=Pv (i + 1),bk:=D.nx } σ2 H2) (hd:∀ σ H,Pv xs.length σ H -> D.nx σ H) :
  ∃ W:Nat -> Nat -> St -> Hp -> Prop,(∃ m,W 0 m σ H) /\ ∀ i m σ H,W i m σ H →
   ((Itt K a).stop i H /\ D.nx σ H) \/ ((Itt K a).go i H /\ ∃ N:St -> Hp -> Prop,(∀ σ' H',N σ' H' -> ∃ m',m' < m /\ W (i + 1) m' σ' H') /\ ∀ x H',(Itt K a).yld i H x H' -> g x σ H' fun σ2 H2=>tb { D with nx:=N,ct:=N,bk:=D.nx } σ2 H2):=by
 refine ⟨fun i m σ H=>m = xs.length - i /\ i <= xs.length /\ Pv i σ H,⟨xs.length,by simp,Nat.zero_le _,h0⟩,?_⟩
 rintro i m σ H ⟨rfl,hi,p⟩
 have q:=hl i σ H hi p
 by_cases hlt:i < xs.length
 ·refine .inr ⟨⟨xs,xs[i],q,by simp [hlt]⟩,Pv (i + 1),fun σ' H' p'=>⟨xs.length - (i + 1),by omega,rfl,hlt,p'⟩,fun x H' y=>?_⟩
  obtain ⟨e,y⟩:=y
  subst e
  exact hs i x σ _ (y xs q) p
 ·have e:i = xs.length:=by omega
  subst e
  exact .inl ⟨⟨xs,q,Nat.le_refl _⟩,hd σ H p⟩
theorem vX {lo:Int} {n:Nat} {g:TG} {tb:TS} {D:Ends} {σ:St} {H:Hp} (Pv:Nat -> St -> Hp -> Prop) (h0:Pv 0 σ H)
  (hs:∀ i σ H,i < n -> Pv i σ H -> g (.int (lo + i)) σ H fun σ2 H2=>tb { D with nx:=Pv (i + 1),ct:=Pv (i + 1),bk:=D.nx } σ2 H2) (hd:∀ σ H,Pv n σ H -> D.nx σ H) :
  ∃ W:Nat -> Nat -> St -> Hp -> Prop,(∃ m,W 0 m σ H) /\ ∀ i m σ H,W i m σ H →
   ((Itr lo n).stop i H /\ D.nx σ H) \/ ((Itr lo n).go i H /\ ∃ N:St -> Hp -> Prop,(∀ σ' H',N σ' H' -> ∃ m',m' < m /\ W (i + 1) m' σ' H') /\ ∀ x H',(Itr lo n).yld i H x H' -> g x σ H' fun σ2 H2=>tb { D with nx:=N,ct:=N,bk:=D.nx } σ2 H2):=by
 refine ⟨fun i m σ H=>m = n - i /\ i <= n /\ Pv i σ H,⟨n,by simp,Nat.zero_le _,h0⟩,?_⟩
 rintro i m σ H ⟨rfl,hi,p⟩
 by_cases hlt:i < n
 ·refine .inr ⟨hlt,Pv (i + 1),fun σ' H' p'=>⟨n - (i + 1),by omega,rfl,hlt,p'⟩,fun x H' y=>?_⟩
  obtain ⟨e,y⟩:=y
  subst e y
  exact hs i σ _ hlt p
 ·have e:i = n:=by omega
  subst e
  exact .inl ⟨Nat.le_refl _,hd σ H p⟩
theorem Wj {c:TT} {tb:TS} {D:Ends} {σ:St} {H:Hp} (Pv:St -> Hp -> Prop) (μ:St -> Hp -> Nat) (h0:Pv σ H)
  (hs:∀ σ H,Pv σ H -> c σ H fun b H1=>if b = true then tb { D with nx:=fun σ' H'=>Pv σ' H' /\ μ σ' H' < μ σ H,ct:=fun σ' H'=>Pv σ' H' /\ μ σ' H' < μ σ H,bk:=D.nx } σ H1 else D.nx σ H1)
  (mono:∀ σ H Q Q',(∀ b H1,Q b H1 -> Q' b H1) -> c σ H Q -> c σ H Q'):Vg c tb D σ H:=by
 refine ⟨fun m σ H=>m = μ σ H /\ Pv σ H,⟨_,rfl,h0⟩,?_⟩
 rintro m σ H ⟨rfl,p⟩
 refine mono σ H _ _ (fun b H1 q=>?_) (hs σ H p)
 cases b with
 | true=>exact ⟨_,fun σ' H' ⟨p',l⟩=>⟨_,l,rfl,p'⟩,q⟩
 | false=>exact q
end L2
namespace L2
open PySem PySem.Spec PyProof.Rows
abbrev R2:=V -> V -> Hp -> VK -> Prop
def OpR (X:Cx) (f:Value -> Value -> Sem Value) (r:R2):Prop :=
 ∀ (pins:List (Addr × Obj)) (s:Shared) (σ:St) (H:Hp) (x y:V) (v u:Value) (Q:VK),Inv X pins σ H s -> RelV x v -> RelV y u -> r x y H Q →
  wpAny (model X.prog X.w) X.A (f v u) (EP X pins σ Q) X.xe s
def xw (X:Cx) (f:Value) (r:List V -> Hp -> VK -> Prop):Prop :=
 ∀ (pins:List (Addr × Obj)) (s:Shared) (σ:St) (H:Hp) (xs:List V) (us:List Value) (Q:VK),Inv X pins σ H s -> Vals xs us -> r xs H Q →
  wpAny (model X.prog X.w) X.A (call f us) (EP X pins σ Q) X.xe s
def TruR (X:Cx) (r:V -> Hp -> (Bool -> Hp -> Prop) -> Prop):Prop :=
 ∀ (pins:List (Addr × Obj)) (s:Shared) (σ:St) (H:Hp) (x:V) (v:Value) (Q:Bool -> Hp -> Prop),Inv X pins σ H s -> RelV x v -> r x H Q →
  wpAny (model X.prog X.w) X.A (truthy v) (TP X pins σ Q) X.xe s
def tOp (r:R2) (ta tb:TE):TE:=fun σ H Q=>ta σ H fun x H1=>tb σ H1 fun y H2=>r x y H2 Q
def rI (C:Int -> Int -> Prop) (g:Int -> Int -> V):R2:=fun x y H Q=>∃ i j,x = .int i /\ y = .int j /\ C i j /\ Q (g i j) H
def rI0 (g:Int -> Int -> V):R2:=fun x y H Q=>∃ i j,x = .int i /\ y = .int j /\ Q (g i j) H
section
variable {X:Cx} {a b c:Expr} {ta tb tc:TE} {pos:Pos}
theorem binT (ha:PE X a ta) (hb:PE X b tb) {pins:List (Addr × Obj)} {s:Shared} {σ:St} {H:Hp} {R:V -> V -> Hp -> Prop} (I:Inv X pins σ H s)
  (h:ta σ H fun x H1=>tb σ H1 fun y H2=>R x y H2) {Q:VS7} {f:Value -> Value -> Sem Value}
  (hf:∀ v u s2 x y H2,Inv X pins σ H2 s2 -> RelV x v -> RelV y u -> R x y H2 -> wpAny (model X.prog X.w) X.A (f v u) Q X.xe s2) :
  wpAny (model X.prog X.w) X.A (eval a X.env) (fun v s₁=>wpAny (model X.prog X.w) X.A (eval b X.env) (fun u s₂=>wpAny (model X.prog X.w) X.A (f v u) Q X.xe s₂) X.xe s₁) X.xe s:=by
 refine thn (ha pins s σ H _ I h) fun v s1 ⟨x,H1,I1,r1,q1⟩=>?_
 refine thn (hb pins s1 σ H1 _ I1 q1) fun u s2 ⟨y,H2,I2,r2,q2⟩=>?_
 exact hf v u s2 x y H2 I2 r1 r2 q2
theorem zB {op:Operator} {r:R2} (ho:OpR X (binaryOp op) r) (ha:PE X a ta) (hb:PE X b tb):PE X (.BinOp a op b pos) (tOp r ta tb):=by
 intro pins s σ H Q I h
 exact wpAny_BinOp (binT ha hb I h fun v u s2 x y H2 I2 rx ry q=>ho pins s2 σ H2 x y v u Q I2 rx ry q)
theorem opI {f:Value -> Value -> Sem Value} {C:Int -> Int -> Prop} {g:Int -> Int -> Int}
  (rule:∀ (i j:Int) (t u:Tok) (s:Shared) (Q:VS7) (E:VS7),C i j -> Q (.int (g i j) s.toks) { s with toks:=s.toks + 1 } -> wpAny (model X.prog X.w) X.A (f (.int i t) (.int j u)) Q E s) :
  OpR X f (rI C fun i j=>.int (g i j)):=by
 intro pins s σ H x y v u Q I rx ry h
 obtain ⟨i,j,rfl,rfl,hc,q⟩:=h
 obtain ⟨t,rfl⟩:=rx
 obtain ⟨t',rfl⟩:=ry
 exact rule i j t t' s _ _ hc ⟨.int (g i j),H,I.tok _,⟨_,rfl⟩,q⟩
theorem opI0 {f:Value -> Value -> Sem Value} {g:Int -> Int -> Int}
  (rule:∀ (i j:Int) (t u:Tok) (s:Shared) (Q:VS7) (E:VS7),Q (.int (g i j) s.toks) { s with toks:=s.toks + 1 } -> wpAny (model X.prog X.w) X.A (f (.int i t) (.int j u)) Q E s) :
  OpR X f (rI0 fun i j=>.int (g i j)):=by
 intro pins s σ H x y v u Q I rx ry h
 obtain ⟨i,j,rfl,rfl,q⟩:=h
 obtain ⟨t,rfl⟩:=rx
 obtain ⟨t',rfl⟩:=ry
 exact rule i j t t' s _ _ ⟨.int (g i j),H,I.tok _,⟨_,rfl⟩,q⟩
theorem opB0 {f:Value -> Value -> Sem Value} {g:Int -> Int -> Bool}
  (rule:∀ (i j:Int) (t u:Tok) (s:Shared) (Q:VS7) (E:VS7),Q (.bool (g i j)) s -> wpAny (model X.prog X.w) X.A (f (.int i t) (.int j u)) Q E s) :
  OpR X f (rI0 fun i j=>.bl (g i j)):=by
 intro pins s σ H x y v u Q I rx ry h
 obtain ⟨i,j,rfl,rfl,q⟩:=h
 obtain ⟨t,rfl⟩:=rx
 obtain ⟨t',rfl⟩:=ry
 exact rule i j t t' s _ _ ⟨.bl (g i j),H,I,rfl,q⟩
def CPow (i j:Int):Prop:=0 <= j /\ j <= 1000000 /\ i.natAbs < 2 ^ 64
def CMul (i j:Int):Prop:=(-(2 ^ 64) < i /\ i < 2 ^ 64) \/ (-(2 ^ 64) < j /\ j < 2 ^ 64)
theorem CMul.ok {i j:Int} (h:CMul i j):IntMulOk i j:=by
 rcases h with ⟨h1,h2⟩ | ⟨h1,h2⟩
 ·exact .of_left (intBits_le_64 h1 h2)
 ·exact .of_right (intBits_le_64 h1 h2)
theorem Zu (k:Nat):(0:Int) <= 2 ^ k:=by
 rw [two_pow_cast]
 exact Int.natCast_nonneg _
theorem yb:OpR X (binaryOp .Add) (rI0 fun i j=>.int (i + j)):=opI0 fun _ _ _ _ _ _ _ q=>add_int q
theorem wz:OpR X (binaryOp .Sub) (rI0 fun i j=>.int (i - j)):=opI0 fun _ _ _ _ _ _ _ q=>sub_int q
theorem uT:OpR X (binaryOp .Mod) (rI (fun _ j=>0 < j) fun i j=>.int (i % j)):=opI fun i j _ _ _ _ _ hc q=>by
 have h1:(0:Int) < j:=hc
 exact mod_int' (by omega) (by rw [Int.fmod_eq_emod_of_nonneg i (by omega)]; exact q)
theorem s9:OpR X (binaryOp .Pow) (rI CPow fun i j=>.int (i ^ j.toNat)):=opI fun _ _ _ _ _ _ _ hc q=>pow_int_small hc.1 hc.2.1 hc.2.2 q
theorem Vh:OpR X (binaryOp .LShift) (rI CPow fun i j=>.int (i * 2 ^ j.toNat)):=opI fun _ _ _ _ _ _ _ hc q=>lshift_int_small hc.1 hc.2.1 hc.2.2 q
theorem Uz:OpR X (binaryOp .RShift) (rI (fun _ j=>0 <= j) fun i j=>.int (i / 2 ^ j.toNat)):=opI fun i j _ _ _ _ _ hc q =>
 rshift_int hc (by rw [Int.fdiv_eq_ediv_of_nonneg i (Zu _)]; exact q)
theorem Vi:OpR X (binaryOp .BitAnd) (rI0 fun i j=>.int (Builtin.bitAnd i j)):=opI0 fun _ _ _ _ _ _ _ q=>and_int q
theorem TQ:OpR X (binaryOp .BitOr) (rI0 fun i j=>.int (Builtin.bitOr i j)):=opI0 fun _ _ _ _ _ _ _ q=>or_int q
end
def scal:V -> V -> Bool
 | .non,.non=>true | .non,.int _=>true | .int _,.non=>true | .non,.bl _=>true | .bl _,.non=>true | .non,.str _=>true | .str _,.non=>true
 | .int _,.int _=>true | .bl _,.bl _=>true | .str _,.str _=>true | .byt _,.byt _=>true
 | .int _,.str _=>true | .str _,.int _=>true | .bl _,.str _=>true | .str _,.bl _=>true
 | _,_=>false
def rEq:R2:=fun x y H Q=>scal x y = true /\ Q (.bl (decide (x = y))) H
def rNe:R2:=fun x y H Q=>scal x y = true /\ Q (.bl (!decide (x = y))) H
theorem Yu {i j:Int}:decide (V.int i = V.int j) = (i == j):=by
 rw [Bool.eq_iff_iff]
 simp
theorem Vj {i j:Bool}:decide (V.bl i = V.bl j) = (i == j):=by
 rw [Bool.eq_iff_iff]
 simp
theorem Yv {i j:Str}:decide (V.str i = V.str j) = (i == j):=by
 rw [Bool.eq_iff_iff]
 simp
theorem Yw {i j:Array UInt8}:decide (V.byt i = V.byt j) = (i.toList == j.toList):=by
 rw [Bool.eq_iff_iff]
 cases i
 cases j
 simp
section
variable {X:Cx} {a b c:Expr} {ta tb tc:TE} {pos:Pos}
theorem zS {pins:List (Addr × Obj)} {σ:St} {H:Hp} {s:Shared} {Q:VK} {k k':Bool} (I:Inv X pins σ H s) (q:Q (.bl k) H) (e:k = k'):EP X pins σ Q (.bool k') s:=by
 subst e
 exact ⟨.bl k,H,I,rfl,q⟩
theorem vY:OpR X (compareOp .Eq) rEq:=by
 intro pins s σ H x y v u Q I rx ry h
 obtain ⟨hs,q⟩:=h
 cases x with
 | non =>
  cases rx
  cases y with
  | non=>cases ry; exact PySem.EqNone.eq_none_none (zS I q (by simp))
  | bl j=>cases ry; exact PySem.EqNone.eq_none_bool (zS I q (by simp))
  | int j=>obtain ⟨t',rfl⟩:=ry; exact PySem.EqNone.eq_none_int (zS I q (by simp))
  | str j=>obtain ⟨t',rfl⟩:=ry; exact PySem.EqNone.eq_none_str (zS I q (by simp))
  | _=>exact absurd (show false = true from hs) Bool.false_ne_true
 | bl i =>
  cases rx
  cases y with
  | non=>cases ry; exact PySem.EqNone.eq_bool_none (zS I q (by simp))
  | bl j=>cases ry; exact eq_bool (zS I q Vj)
  | str j=>obtain ⟨t',rfl⟩:=ry; exact PySem.EqMixed.eq_bool_str (zS I q (by simp))
  | _=>exact absurd (show false = true from hs) Bool.false_ne_true
 | int i =>
  obtain ⟨t,rfl⟩:=rx
  cases y with
  | non=>cases ry; exact PySem.EqNone.eq_int_none (zS I q (by simp))
  | int j=>obtain ⟨t',rfl⟩:=ry; exact eq_int (zS I q Yu)
  | str j=>obtain ⟨t',rfl⟩:=ry; exact PySem.EqMixed.eq_int_str (zS I q (by simp))
  | _=>exact absurd (show false = true from hs) Bool.false_ne_true
 | str i =>
  obtain ⟨t,rfl⟩:=rx
  cases y with
  | non=>cases ry; exact PySem.EqNone.eq_str_none (zS I q (by simp))
  | bl j=>cases ry; exact PySem.EqMixed.eq_str_bool (zS I q (by simp))
  | int j=>obtain ⟨t',rfl⟩:=ry; exact PySem.EqMixed.eq_str_int (zS I q (by simp))
  | str j=>obtain ⟨t',rfl⟩:=ry; exact eq_str (zS I q Yv)
  | _=>exact absurd (show false = true from hs) Bool.false_ne_true
 | byt i =>
  obtain ⟨t,rfl⟩:=rx
  cases y with
  | byt j=>obtain ⟨t',rfl⟩:=ry; exact PySem.W.eq_bytes (zS I q Yw)
  | _=>exact absurd (show false = true from hs) Bool.false_ne_true
 | _=>cases y <;> exact absurd (show false = true from hs) Bool.false_ne_true
theorem Yx:OpR X (compareOp .NotEq) rNe:=by
 intro pins s σ H x y v u Q I rx ry h
 obtain ⟨hs,q⟩:=h
 cases x with
 | non =>
  cases rx
  cases y with
  | non=>cases ry; exact PySem.EqNone.ne_none_none (zS I q (by simp))
  | bl j=>cases ry; exact PySem.EqNone.ne_none_bool (zS I q (by simp))
  | int j=>obtain ⟨t',rfl⟩:=ry; exact PySem.EqNone.ne_none_int (zS I q (by simp))
  | str j=>obtain ⟨t',rfl⟩:=ry; exact PySem.EqNone.ne_none_str (zS I q (by simp))
  | _=>exact absurd (show false = true from hs) Bool.false_ne_true
 | bl i =>
  cases rx
  cases y with
  | non=>cases ry; exact PySem.EqNone.ne_bool_none (zS I q (by simp))
  | bl j=>cases ry; exact ne_bool (zS I q (congrArg not Vj))
  | str j=>obtain ⟨t',rfl⟩:=ry; exact PySem.EqMixed.ne_bool_str (zS I q (by simp))
  | _=>exact absurd (show false = true from hs) Bool.false_ne_true
 | int i =>
  obtain ⟨t,rfl⟩:=rx
  cases y with
  | non=>cases ry; exact PySem.EqNone.ne_int_none (zS I q (by simp))
  | int j=>obtain ⟨t',rfl⟩:=ry; exact ne_int (zS I q (congrArg not Yu))
  | str j=>obtain ⟨t',rfl⟩:=ry; exact PySem.EqMixed.ne_int_str (zS I q (by simp))
  | _=>exact absurd (show false = true from hs) Bool.false_ne_true
 | str i =>
  obtain ⟨t,rfl⟩:=rx
  cases y with
  | non=>cases ry; exact PySem.EqNone.ne_str_none (zS I q (by simp))
  | bl j=>cases ry; exact PySem.EqMixed.ne_str_bool (zS I q (by simp))
  | int j=>obtain ⟨t',rfl⟩:=ry; exact PySem.EqMixed.ne_str_int (zS I q (by simp))
  | str j=>obtain ⟨t',rfl⟩:=ry; exact ne_str (zS I q (congrArg not Yv))
  | _=>exact absurd (show false = true from hs) Bool.false_ne_true
 | byt i =>
  obtain ⟨t,rfl⟩:=rx
  cases y with
  | byt j=>obtain ⟨t',rfl⟩:=ry; exact PySem.W.ne_bytes (zS I q (congrArg not Yw))
  | _=>exact absurd (show false = true from hs) Bool.false_ne_true
 | _=>cases y <;> exact absurd (show false = true from hs) Bool.false_ne_true
theorem tU:OpR X (compareOp .Lt) (rI0 fun i j=>.bl (decide (i < j))):=opB0 fun _ _ _ _ _ _ _ q=>lt_int q
theorem qz:OpR X (compareOp .LtE) (rI0 fun i j=>.bl (decide (i <= j))):=opB0 fun _ _ _ _ _ _ _ q=>le_int q
theorem Yy:OpR X (compareOp .Gt) (rI0 fun i j=>.bl (decide (j < i))):=opB0 fun _ _ _ _ _ _ _ q=>gt_int q
theorem OpR.or {f:Value -> Value -> Sem Value} {r r':R2} (h:OpR X f r) (h':OpR X f r'):OpR X f (fun x y H Q=>r x y H Q \/ r' x y H Q):=by
 intro pins s σ H x y v u Q I rx ry q
 rcases q with q | q
 ·exact h pins s σ H x y v u Q I rx ry q
 ·exact h' pins s σ H x y v u Q I rx ry q
theorem zI (b:Expr) {op:CmpOp} (h:op ≠ .In:=by decide) (h2:op ≠ .NotIn:=by decide):behindInMarks op b = false:=by
 have e1:(op == CmpOp.In) = false:=by cases op <;> first | rfl | exact absurd rfl h
 have e2:(op == CmpOp.NotIn) = false:=by cases op <;> first | rfl | exact absurd rfl h2
 cases b <;> simp [behindInMarks,e1,e2]
theorem yT {op:CmpOp} {r:R2} (ho:OpR X (compareOp op) r) (ha:PE X a ta) (hb:PE X b tb) (hm:behindInMarks op b = false):PE X (.Compare a [op] [b] pos) (tOp r ta tb):=by
 intro pins s σ H Q I h
 exact wpAny_Compare1 (binT ha hb I h fun v u s2 x y H2 I2 rx ry q=>ho pins s2 σ H2 x y v u Q I2 rx ry q) hm
def UA (t:TE):TT:=fun σ H Q=>t σ H fun x H'=>∃ k,x = .bl k /\ Q k H'
theorem zF {op:CmpOp} {r:R2} (ho:OpR X (compareOp op) r) (ha:PE X a ta) (hb:PE X b tb) (hm:behindInMarks op b = false):PT X (.Compare a [op] [b] pos) (UA (tOp r ta tb)):=by
 intro pins s σ H Q I h
 refine wpAny_isTrue_Compare1 (thn (ha pins s σ H _ I h) fun v s1 ⟨x,H1,I1,r1,q1⟩=>thn (hb pins s1 σ H1 _ I1 q1) fun u s2 ⟨y,H2,I2,r2,q2⟩ =>
  thn (ho pins s2 σ H2 x y v u _ I2 r1 r2 q2) fun c s3 ⟨z,H3,I3,r3,k,e,q3⟩=>?_) hm
 subst e
 cases r3
 exact wpAny_truthy_bool ⟨H3,I3,q3⟩
def Vk (r r':R2) (ta tb tc:TE):TE:=fun σ H Q=>ta σ H fun x H1=>tb σ H1 fun y H2=>r x y H2 fun z H3=>∃ k,z = .bl k ∧
 (if k = true then tc σ H3 fun w' H4=>r' y w' H4 Q else Q (.bl false) H3)
theorem jx {op op':CmpOp} {r r':R2} (ho:OpR X (compareOp op) r) (ho':OpR X (compareOp op') r') (ha:PE X a ta) (hb:PE X b tb) (hc:PE X c tc)
  (hm:lastMarks [op,op'] [b,c] = false:=by with_unfolding_all rfl):PE X (.Compare a [op,op'] [b,c] pos) (Vk r r' ta tb tc):=by
 intro pins s σ H Q I h
 refine Compare_chain (thn (ha pins s σ H _ I h) fun v s1 ⟨x,H1,I1,r1,q1⟩=>chain_link (thn (hb pins s1 σ H1 _ I1 q1) fun u s2 ⟨y,H2,I2,r2,q2⟩ =>
  thn (ho pins s2 σ H2 x y v u _ I2 r1 r2 q2) fun d s3 ⟨z,H3,I3,r3,k,e,q3⟩=>?_)) hm
 subst e
 cases r3
 refine wpAny_truthy_bool ?_
 cases k with
 | false=>exact ite_ff ⟨.bl false,H3,I3,rfl,q3⟩
 | true=>exact ite_tt (chain_last (thn (hc pins s3 σ H3 _ I3 q3) fun w' s4 ⟨z',H4,I4,r4,q4⟩=>ho' pins s4 σ H4 y z' u w' Q I4 r2 r4 q4))
theorem Wl {op op':CmpOp} {r r':R2} (ho:OpR X (compareOp op) r) (ho':OpR X (compareOp op') r') (ha:PE X a ta) (hb:PE X b tb) (hc:PE X c tc)
  (hm:lastMarks [op,op'] [b,c] = false:=by with_unfolding_all rfl):PT X (.Compare a [op,op'] [b,c] pos) (UA (Vk r r' ta tb tc)):=by
 intro pins s σ H Q I h
 refine isTrue_chain (thn (ha pins s σ H _ I h) fun v s1 ⟨x,H1,I1,r1,q1⟩=>test_link (thn (hb pins s1 σ H1 _ I1 q1) fun u s2 ⟨y,H2,I2,r2,q2⟩ =>
  thn (ho pins s2 σ H2 x y v u _ I2 r1 r2 q2) fun d s3 ⟨z,H3,I3,r3,k,e,q3⟩=>?_)) hm
 subst e
 cases r3
 refine wpAny_truthy_bool ?_
 cases k with
 | false =>
  obtain ⟨k',e',q'⟩:=q3
  cases e'
  exact ite_ff ⟨H3,I3,q'⟩
 | true =>
  refine ite_tt (test_last (thn (hc pins s3 σ H3 _ I3 q3) fun w' s4 ⟨z',H4,I4,r4,q4⟩=>thn (ho' pins s4 σ H4 y z' u w' _ I4 r2 r4 q4) fun d' s5 ⟨z2,H5,I5,r5,k2,e2,q5⟩=>?_))
  subst e2
  cases r5
  exact wpAny_truthy_bool ⟨H5,I5,q5⟩
def TruV (K:FG7) (x:V) (H:Hp) (k:Bool):Prop :=
 match x with
 | .non=>k = false
 | .bl b=>k = b
 | .int i=>k = (i != 0)
 | .str y=>y.length <= sizeLine /\ k = ((y.length:Int) != 0)
 | .byt y=>y.size <= sizeLine /\ k = ((y.size:Int) != 0)
 | .ref p=>(∃ xs,SqL K H p xs /\ k = !xs.isEmpty) \/ (∃ xs,SqT K H p xs /\ k = !xs.isEmpty) \/ ∃ kvs,H p = some (.dK kvs) /\ k = !kvs.isEmpty
 | _=>False
theorem Zv {κ:Type} {kvs:List (κ × V)} {vs:List (κ × Value)} (r:KV kvs vs):(!vs.isEmpty) = !kvs.isEmpty:=by
 cases r <;> rfl
theorem uU {xs:List V} {its:List Value} (r:Vals xs its):(!its.toArray.isEmpty) = !xs.isEmpty:=by
 cases r <;> simp
theorem ra:(sizeLine:Nat) < 2 ^ 63:=by rw [sizeLine_eq]; decide
theorem Vl:TruR X (fun x H Q=>∃ k,TruV X.K x H k /\ Q k H):=by
 intro pins s σ H x v Q I rx h
 obtain ⟨k,e,q⟩:=h
 have hl:=ra
 have hs:sizeLine = 16777216:=sizeLine_eq
 cases x with
 | non =>
  cases rx
  have e':k = false:=e
  subst e'
  exact truthy_none ⟨H,I,q⟩
 | bl b =>
  cases rx
  have e':k = b:=e
  subst e'
  exact wpAny_truthy_bool ⟨H,I,q⟩
 | int i =>
  obtain ⟨t,rfl⟩:=rx
  have e':k = (i != 0):=e
  subst e'
  exact PySem.P.truthy_int ⟨H,I,q⟩
 | str y =>
  obtain ⟨t,rfl⟩:=rx
  obtain ⟨hy,e'⟩:y.length <= sizeLine /\ k = ((y.length:Int) != 0):=e
  subst e'
  exact PySem.P.truthy_str (by omega) ⟨H,I.tok _,q⟩
 | byt y =>
  obtain ⟨t,rfl⟩:=rx
  obtain ⟨hy,e'⟩:y.size <= sizeLine /\ k = ((y.size:Int) != 0):=e
  subst e'
  exact PySem.W.truthy_bytes (by omega) ⟨H,I.tok _,q⟩
 | ref p =>
  cases rx
  have e':(∃ xs,SqL X.K H p xs /\ k = !xs.isEmpty) \/ (∃ xs,SqT X.K H p xs /\ k = !xs.isEmpty) \/ ∃ kvs,H p = some (.dK kvs) /\ k = !kvs.isEmpty:=e
  rcases e' with ⟨xs,hx,e'⟩ | ⟨xs,hx,e'⟩ | ⟨kvs,hx,e'⟩
  ·subst e'
   obtain ⟨its,r,pl,hz⟩:=I.list hx
   have hlen:=r.length
   exact wpAny_truthy_list pl.isList (by simp only [List.size_toArray]; omega) ⟨H,I.tok _,by rw [uU r]; exact q⟩
  ·subst e'
   obtain ⟨its,r,pl,hz⟩:=I.tuple hx
   have hlen:=r.length
   exact truthy_tuple pl (by simp only [List.size_toArray]; omega) ⟨H,I.tok _,by rw [uU r]; exact q⟩
  ·subst e'
   obtain ⟨hz,hS,vs,r,m⟩:kvs.length <= sizeLine /\ (p == sysModules) = false /\ ∃ vs,KV kvs vs /\ s.heap.DictOf (yq X.prog X.w) p vs:=I.hok p _ hx
   have hlen:kvs.length = vs.length:=Paired.length r
   exact wpAny_truthy_dict hS m (by omega) ⟨H,I.tok _,by rw [Zv r]; exact q⟩
 | _=>exact (show False from e).elim
theorem Wm (ha:PE X a ta) (he:∀ whole,isTrue a X.env whole = (do let v ← whole; standAt a.pos; holding [v] (truthy v))) :
  PT X a (fun σ H Q=>ta σ H fun x H'=>∃ k,TruV X.K x H' k /\ Q k H'):=by
 intro pins s σ H Q I h
 exact isTrue_plain (thn (ha pins s σ H _ I h) fun v s1 ⟨x,H1,I1,r1,q1⟩=>Vl pins s1 σ H1 x v Q I1 r1 q1) (he _)
theorem wS {x:V} {us:List Value} (r:Vals [x] us):∃ u,us = [u] /\ RelV x u:=by
 cases r with
 | cons r1 r2=>cases r2; exact ⟨_,rfl,r1⟩
theorem Wn {x y:V} {us:List Value} (r:Vals [x,y] us):∃ u w',us = [u,w'] /\ RelV x u /\ RelV y w':=by
 cases r with
 | cons r1 r2 =>
  cases r2 with
  | cons r3 r4=>cases r4; exact ⟨_,_,rfl,r1,r3⟩
theorem wT (hc:X.calm = true):xw X (.builtin "max") (fun xs H Q=>∃ i j,xs = [.int i,.int j] /\ Q (.int (if j > i then j else i)) H):=by
 intro pins s σ H xs us Q I r h
 obtain ⟨i,j,rfl,q⟩:=h
 obtain ⟨u,w',rfl,⟨t,rfl⟩,⟨t',rfl⟩⟩:=Wn r
 refine max_two_ints (I.ok.hd hc) fun h' tk k=>⟨_,H,I.kept k,?_,q⟩
 by_cases hj:j > i
 ·rw [if_pos hj,if_pos hj]; exact ⟨_,rfl⟩
 ·rw [if_neg hj,if_neg hj]; exact ⟨_,rfl⟩
theorem vZ (hc:X.calm = true):xw X (.builtin "min") (fun xs H Q=>∃ i j,xs = [.int i,.int j] /\ Q (.int (if j < i then j else i)) H):=by
 intro pins s σ H xs us Q I r h
 obtain ⟨i,j,rfl,q⟩:=h
 obtain ⟨u,w',rfl,⟨t,rfl⟩,⟨t',rfl⟩⟩:=Wn r
 refine min_two_ints (I.ok.hd hc) fun h' tk k=>⟨_,H,I.kept k,?_,q⟩
 by_cases hj:j < i
 ·rw [if_pos hj,if_pos hj]; exact ⟨_,rfl⟩
 ·rw [if_neg hj,if_neg hj]; exact ⟨_,rfl⟩
theorem Yz:xw X (.type "int") (fun xs H Q=>(∃ i,xs = [.int i] /\ Q (.int i) H) \/ ∃ k,xs = [.bl k] /\ Q (.int (if k then 1 else 0)) H):=by
 intro pins s σ H xs us Q I r h
 rcases h with ⟨i,rfl,q⟩ | ⟨k,rfl,q⟩
 ·obtain ⟨u,rfl,t,rfl⟩:=wS r
  exact call_int_int ⟨.int i,H,I,⟨_,rfl⟩,q⟩
 ·obtain ⟨u,rfl,r1⟩:=wS r
  cases r1
  exact call_int_bool ⟨.int (if k then 1 else 0),H,I.tok _,⟨_,rfl⟩,q⟩
end
end L2
namespace L2
open PySem PySem.Spec PyProof.Rows
structure ObjM (h:Heap) (x dx C:Addr) (mA:Str -> Option Value):Prop where
 obj:h.get? x = some (PySem.W.instObj C dx)
 ns:h.Ns1 dx mA
 ne:dx ≠ x
theorem YA {h:Heap} {dx:Addr} {mA:Str -> Option Value} (n:h.Ns1 dx mA):∃ od,h.get? dx = some od /\ ∀ name,PySem.W.lookIn name od = some (mA name):=by
 obtain ⟨o,es,ep,ho,hd,hk,_,hm⟩:=n
 refine ⟨o,ho,fun name=>?_⟩
 have e:=hm name
 unfold nsFind findBy at e
 rw [← Array.find?_toList] at e
 unfold PySem.W.lookIn
 rw [hd]
 dsimp only
 split
 ·rename_i y q
  rw [q] at e
  exact congrArg some e
 ·rename_i q
  rw [q] at e
  have a:es.toList.any (·.refKey) = false:=by
   rw [List.any_eq_false]
   intro y hy
   obtain ⟨z,t,hkey⟩:=hk y (Array.mem_toList_iff.mp hy)
   simp [DictEntry.refKey,hkey]
  have a':¬ es.toList.any (·.refKey) = true:=by rw [a]; exact Bool.false_ne_true
  rw [if_neg a']
  exact congrArg some e
theorem ObjM.look {h:Heap} {x dx C:Addr} {mA:Str -> Option Value} (I:ObjM h x dx C mA):∃ od,PySem.W.InstAt h x (PySem.W.instObj C dx) C (some od) /\ ∀ name,PySem.W.lookIn name od = some (mA name) :=
 let ⟨od,ho,hl⟩:=YA I.ns
 ⟨od,⟨I.obj,rfl,rfl,ho⟩,hl⟩
section
variable {P:Program} {w:World} {H H':Hp} {h h':Heap} {a C dx:Addr} {fs fs':List (Str × V)}
theorem VJ (hok:HOk P w H h) (e:H a = some (.ins C dx fs)):∃ mA,ObjM h a dx C mA /\ (∀ f,RelO (fs.lookup f) (mA f)) /\ PySem.Within mA (fs.map (·.1)) /\ fs.length <= 1000 /\ H dx = some (.own a):=by
 obtain ⟨d,z,ne,ob,mA,n,r,q⟩:=(show z5 P w H h a (.ins C dx fs) from hok a _ e)
 exact ⟨mA,⟨ob,n,ne⟩,r,q,z,d⟩
end
structure Cls (K:FG7) (C:Addr):Prop where
 pg:PySem.W.plainGet K C Str.empty = true
 hd:PySem.W.hasDictIn K C = true
 po:PySem.W.plainOver K C = true
 sa:PySem.W.findIn K (.ref C) "__setattr__" = some (some (.builtin "object.__setattr__"))
theorem Cls.get {K:FG7} {C:Addr} (c:Cls K C) (f:Str):PySem.W.plainGet K C f = true:=c.pg
def v3 (K:FG7) (C:Addr) (f:Str):Prop:=PySem.W.findIn K (.ref C) f = some none
structure Con (K:FG7) (C:Addr) (f:Str) (v:V) (u:Value):Prop where
 at_:PySem.W.findIn K (.ref C) f = some (some u)
 rel:RelV v u
 get:PySem.W.specialIn K u "__get__" = some none
 cp:PySem.W.copiedNames.contains f = false
structure Meth (K:FG7) (C:Addr) (m:Str) (f:Addr):Prop where
 at_:PySem.W.findIn K (.ref C) m = some (some (.ref f))
 fn:PySem.W.isFn K (.ref f) = true
 kp:PySem.W.keepIn K (.ref f) = true
section
variable {X:Cx} {pins:List (Addr × Obj)} {σ:St} {H:Hp} {s:Shared} {a C dx:Addr} {fs:List (Str × V)} {f:Str} {v:V} {A:Around} {E:VS7}
theorem Inv.made (I:Inv X pins σ H s):Inv X pins σ (upd (upd H s.heap.objs.size (.own (s.heap.objs.size + 1))) (s.heap.objs.size + 1) (.ins C s.heap.objs.size []))
  { s with heap:=(s.heap.push PySem.W.emptyDict).push (PySem.W.instObj C s.heap.objs.size) }:=by
 have e1:(s.heap.push PySem.W.emptyDict).get? s.heap.objs.size = some PySem.W.emptyDict:=Heap.get?_push_size s.heap rfl
 have e2:((s.heap.push PySem.W.emptyDict).push (PySem.W.instObj C s.heap.objs.size)).get? (s.heap.objs.size + 1) = some (PySem.W.instObj C s.heap.objs.size):=by
  have:=Heap.get?_push_size (s.heap.push PySem.W.emptyDict) (o:=PySem.W.instObj C s.heap.objs.size) rfl
  rwa [Heap.size_push] at this
 have e3:(s.heap.push PySem.W.emptyDict).Ns s.heap.objs.size (fun _=>none):=⟨PySem.W.emptyDict,#[],_,e1,rfl,(fun e he=>absurd he (by simp)),fun _=>rfl⟩
 have I1:=I.laid (a:=s.heap.objs.size) (o:=.own (s.heap.objs.size + 1)) (h':=s.heap.push PySem.W.emptyDict) (t':=s.toks) (fun b u q=>Heap.get?_push_of_some _ q) (Nat.le_refl _) ⟨_,e1⟩
 refine I1.laid (a:=s.heap.objs.size + 1) (o:=.ins C s.heap.objs.size []) (t':=s.toks) (fun b u q=>Heap.get?_push_of_some _ q) (Nat.le_of_eq (Heap.size_push _ _)) ?_
 have ne:s.heap.objs.size ≠ s.heap.objs.size + 1:=Nat.ne_of_lt (Nat.lt_succ_self _)
 refine ⟨by rw [zo ne,zd],Nat.zero_le _,ne,e2,fun _=>none,(Heap.Ns1.of_empty e3).at fun o q=>Heap.get?_push_of_some _ q,fun _=>True.intro,fun y hy=>absurd rfl hy⟩
end
section
variable {X:Cx} {pins:List (Addr × Obj)} {σ:St} {H:Hp} {s:Shared} {A:Around} {E:VS7} {Q:VS7} {c:Value} {b:Bool}
inductive TyOf (K:FG7) (H:Hp):V -> Value -> Prop where
 | non:TyOf K H .non (.type "NoneType")
 | bl (x:Bool):TyOf K H (.bl x) (.type "bool")
 | int (i:Int):TyOf K H (.int i) (.type "int")
 | str (x:Str):TyOf K H (.str x) (.type "str")
 | flt (x:UInt64):TyOf K H (.flt x) (.type "float")
 | lst {a:Addr} {xs:List V} (e:H a = some (.lst xs)):TyOf K H (.ref a) (.type "list")
 | frz {a:Addr} {o:Obj} {xs:List V} (e:H a = some (.frz o (.lst xs))):TyOf K H (.ref a) (.type "list")
 | tup {a:Addr} {xs:List V} (e:H a = some (.tup xs)):TyOf K H (.ref a) (.type "tuple")
 | dK {a:Addr} {kvs:List (Key × V)} (e:H a = some (.dK kvs)):TyOf K H (.ref a) (.type "dict")
 | dT {a:Addr} {kvs:List (List Key × V)} (e:H a = some (.dT kvs)):TyOf K H (.ref a) (.type "dict")
 | ins {a C dx:Addr} {fs:List (Str × V)} (e:H a = some (.ins C dx fs)) (cl:Cls K C) (ha:PySem.W.findIn K (.ref C) "__class__" = some (some (.builtin "object.__class__")))
   (hn:PySem.W.specialIn K (.builtin "object.__class__") "__get__" = some (some (.builtin "getset_descriptor.__get__"))) (htk:PySem.W.takesIn K (.builtin "object.__class__") = some true)
   (hm:PySem.W.mroIn K C (.type "object") = some true):TyOf K H (.ref a) (.ref C)
theorem x8 {x:V} {u t:Value} (I:Inv X pins σ H s) (rx:RelV x u) (ty:TyOf X.K H x t) (e:PySem.W.kitOne X.K t c = some b) (h:∀ tk,Q (.bool b) { s with toks:=tk }) :
  wpAny (model X.prog X.w) A (call (.builtin "isinstance") [u,c]) Q E s:=by
 cases ty with
 | non=>cases (show u = Value.none from rx); exact PySem.W.kia_one PySem.W.kitx_none I.kIn True.intro e (fun z=>nomatch z) h
 | bl y=>cases (show u = Value.bool y from rx); exact PySem.W.kia_one PySem.W.kitx_bool I.kIn True.intro e (fun z=>nomatch z) h
 | int i=>obtain ⟨t,q⟩:=(show ∃ t,u = Value.int i t from rx); cases q; exact PySem.W.kia_one PySem.W.kitx_int I.kIn True.intro e (fun z=>nomatch z) h
 | str y=>obtain ⟨t,q⟩:=(show ∃ t,u = Value.str y t from rx); cases q; exact PySem.W.kia_one PySem.W.kitx_str I.kIn True.intro e (fun z=>nomatch z) h
 | flt y=>obtain ⟨t,q⟩:=(show ∃ t,u = Value.float y t from rx); cases q; exact PySem.W.kia_one PySem.W.kitx_float I.kIn True.intro e (fun z=>nomatch z) h
 | @lst a xs ea =>
  cases (show u = Value.ref a from rx)
  obtain ⟨_,_,n,_,h1⟩:=(show z5 X.prog X.w H s.heap a (.lst xs) from I.hok a _ ea)
  exact PySem.W.kia_one PySem.W.kitx_list I.kIn ⟨_,h1,rfl⟩ e (fun z=>nomatch z) h
 | @frz a ob xs ea =>
  cases (show u = Value.ref a from rx)
  obtain ⟨_,_,_,n,_,h1⟩:=(show z5 X.prog X.w H s.heap a (.frz ob (.lst xs)) from I.hok a _ ea)
  exact PySem.W.kia_one PySem.W.kitx_list I.kIn ⟨_,h1,rfl⟩ e (fun z=>nomatch z) h
 | @tup a xs ea =>
  cases (show u = Value.ref a from rx)
  obtain ⟨_,_,_,p⟩:=(show z5 X.prog X.w H s.heap a (.tup xs) from I.hok a _ ea)
  obtain ⟨o,h1,h2,_⟩:=p
  exact PySem.W.kia_one PySem.W.kitx_tuple I.kIn ⟨o,h1,h2⟩ e (fun z=>nomatch z) h
 | @dK a kvs ea =>
  cases (show u = Value.ref a from rx)
  obtain ⟨_,_,vs,_,p⟩:=(show z5 X.prog X.w H s.heap a (.dK kvs) from I.hok a _ ea)
  obtain ⟨o,es,ep,h1,h2,_⟩:=p
  exact PySem.W.kia_one PySem.W.kitx_dict I.kIn ⟨o,h1,h2.1⟩ e (fun z=>nomatch z) h
 | @dT a kvs ea =>
  cases (show u = Value.ref a from rx)
  obtain ⟨_,_,xs,_,o,es,ep,h1,h2,_⟩:=(show z5 X.prog X.w H s.heap a (.dT kvs) from I.hok a _ ea)
  exact PySem.W.kia_one PySem.W.kitx_dict I.kIn ⟨o,h1,h2.1⟩ e (fun z=>nomatch z) h
 | @ins a C dx fs ea cl ha hn htk hm =>
  cases (show u = Value.ref a from rx)
  obtain ⟨mA,O,_⟩:=VJ I.hok ea
  obtain ⟨od,J,_⟩:=O.look
  exact PySem.W.kia_one (PySem.W.kitx_own (cl.get _) cl.hd ha hn htk hm) I.kIn J e (fun z=>nomatch z) h
end
end L2
namespace L2
open PySem PySem.Spec PyProof.Rows
structure Room (k:Nat) (A:Around):Prop where
 hd:A.handled = none
 dp:A.depth + 3 * k + 5 < recursionLimit
 un:A.units + 16 * k + 200 < cLine
 gd:A.guards = some []
theorem Room.mono {j k:Nat} {A:Around} (r:Room k A) (h:j <= k):Room j A:=⟨r.hd,by have:=r.dp; omega,by have:=r.un; omega,r.gd⟩
theorem Room.deeper {k:Nat} {A:Around} (r:Room (k + 1) A) (env:Env):Room k (A.deeper env) :=
 ⟨r.hd,by have:=r.dp; show A.depth + 1 + 3 * k + 5 < _; omega,by have:=r.un; show A.units + 3 + 16 * k + 200 < _; omega,r.gd⟩
theorem Room.in1 {k:Nat} {A:Around} (r:Room (k + 1) A):Room k A.in1 :=
 ⟨r.hd,by have:=r.dp; show A.depth + 3 * k + 5 < _; omega,by have:=r.un; show A.units + 1 + 16 * k + 200 < _; omega,r.gd⟩
theorem Room.depth {k:Nat} {A:Around} (r:Room k A):A.depth < recursionLimit:=by have:=r.dp; omega
theorem Room.units {k:Nat} {A:Around} (r:Room k A):A.units + 64 < cLine:=by have:=r.un; omega
theorem Room.units0 {k:Nat} {A:Around} (r:Room k A):A.units < cLine:=by have:=r.un; omega
def tNil:TA:=fun _ H Q=>Q [] H
def TR (ta:TE) (tr:TA):TA:=fun σ H Q=>ta σ H fun x H1=>tr σ H1 fun xs H2=>Q (x :: xs) H2
section
variable {X:Cx} {e:Expr} {es:List Expr} {te:TE} {t:TA} {pos:Pos}
theorem zb:PA X [] tNil:=fun _ _ _ _ H Q I h=>Calls.spliced_nil ⟨[],H,I,.nil,h⟩
theorem za (ha:PE X e te) (hr:PA X es t) (hs:starEach (e :: es) X.env = (false,eval e X.env) :: starEach es X.env:=by rfl):PA X (e :: es) (TR te t):=by
 intro pos pins s σ H Q I h
 rw [hs]
 show wpAny _ _ (spliced ((false,eval e X.env) :: backTo pos (starEach es X.env))) _ _ s
 refine Calls.spliced_cons (thn (ha pins s σ H _ I h) fun u s1 ⟨x,H1,I1,r1,q1⟩=>?_)
 exact thn (hr pos pins s1 σ H1 _ I1 q1) fun us s2 ⟨xs,H2,I2,r2,q2⟩=>⟨x :: xs,H2,I2,.cons r1 r2,q2⟩
def tTup (t:TA):TE:=fun σ H Q=>t σ H fun xs H1=>xs.length <= sizeLine /\ ∀ p,H1 p = none -> Q (.ref p) (upd H1 p (.tup xs))
def tLst (t:TA):TE:=fun σ H Q=>t σ H fun xs H1=>xs.length <= sizeLine /\ ∀ p,H1 p = none -> Q (.ref p) (upd H1 p (.lst xs))
theorem z6 {x1} (h:PA X es t):PE X (.Tuple es x1 pos) (tTup t):=by
 intro pins s σ H Q I hq
 refine wpAny_Tuple_spliced (thn (h pos pins s σ H _ I hq) fun us s1 ⟨xs,H1,I1,r,z,q⟩=>⟨by rw [← r.length]; exact z,?_⟩)
 have hf:H1 s1.heap.objs.size = none:=I1.hok.fresh (Nat.le_refl _)
 refine ⟨.ref s1.heap.objs.size,upd H1 s1.heap.objs.size (.tup xs),I1.laid (t':=s1.toks) (fun b u e=>Heap.get?_push_of_some _ e) (Nat.le_refl _) ?_,rfl,q _ hf⟩
 exact ⟨z,us,r,⟨_,Heap.get?_push_size _ rfl,rfl,_,rfl⟩⟩
theorem xV (h:PA X es t):PE X (.List es pos) (tLst t):=by
 intro pins s σ H Q I hq
 refine wpAny_List_spliced (thn (h pos pins s σ H _ I hq) fun us s1 ⟨xs,H1,I1,r,z,q⟩=>⟨by rw [← r.length]; exact z,?_⟩)
 have hf:H1 s1.heap.objs.size = none:=I1.hok.fresh (Nat.le_refl _)
 refine ⟨.ref s1.heap.objs.size,upd H1 s1.heap.objs.size (.lst xs),I1.laid (t':=s1.toks) (fun b u e=>Heap.get?_push_of_some _ e) (Nat.le_refl _) ?_,rfl,q _ hf⟩
 exact ⟨z,us,0,r,Heap.get?_push_size _ rfl⟩
end
abbrev Sp:=List V -> Hp -> VK -> XK -> Prop
abbrev CXT:=List Env -> Hp -> Shared -> XK -> Value -> Shared -> Prop
structure Env0 (P:Program) (w:World) (K:FG7) (mg:Str -> Option Value) (base:Heap) (A:Around) (outer:List Env) (s:Shared) (H:Hp):Prop where
 frames:A.frames = some outer
 mod:Mod K mg base
 bs:∀ b o,base.get? b = some o -> s.heap.get? b = some o /\ H b = none
 bsz:base.objs.size <= s.heap.objs.size
 funs:s.heap.FunFrames base outer
 frf:∀ b ∈ frs outer,H b = none
 hok:HOk P w H s.heap
 bare:AllBare s.gens
def CE (outer:List Env) (P:Program) (w:World) (H:Hp) (s:Shared) (Q:VK) (u:Value) (s':Shared):Prop :=
 ∃ v H',s'.os = s.os /\ AllBare s'.gens /\ Un (frs outer) [] H H' s.heap s'.heap /\ HOk P w H' s'.heap /\ RelV v u /\ Q v H'
def CR (CX:CXT) (outer:List Env) (P:Program) (w:World) (H:Hp) (s:Shared) (Q:VK) (E:XK) (r:Result) (s':Shared):Prop :=
 match r with
 | .ok (.ret u)=>CE outer P w H s Q u s'
 | .ok _=>False
 | .error e=>CX outer H s E e s'
structure FnOk (P:Program) (w:World) (K:FG7) (mg:Str -> Option Value) (base:Heap) (CX:CXT) (k:Nat) (f:Addr) (fd:FuncData) (ps:List Str) (sp:Sp):Prop where
 len:∀ vs H Q E,sp vs H Q E -> vs.length = ps.length
 run:∀ (A:Around) (outer:List Env) (s:Shared) (H:Hp) (args:Args) (us:List Value) (vs:List V) (Q:VK) (E:XK),Room k A -> Env0 P w K mg base A outer s H -> BindsTo s fd args (ps.zip us) -> Vals vs us -> sp vs H Q E →
  codeAny (model P w) A (.call (.ref f) args) (CR CX outer P w H s Q E) s
theorem FnOk.mono {P:Program} {w:World} {K:FG7} {mg:Str -> Option Value} {base:Heap} {CX:CXT} {j k:Nat} {f:Addr} {fd:FuncData} {ps:List Str} {sp:Sp} (F:FnOk P w K mg base CX j f fd ps sp) (h:j <= k) :
  FnOk P w K mg base CX k f fd ps sp:=⟨F.len,fun A outer s H args us vs Q E hr=>F.run A outer s H args us vs Q E (hr.mono h)⟩
theorem FnOk.imp {P:Program} {w:World} {K:FG7} {mg:Str -> Option Value} {base:Heap} {CX:CXT} {k:Nat} {f:Addr} {fd:FuncData} {ps:List Str} {sp sp':Sp} (F:FnOk P w K mg base CX k f fd ps sp)
  (h:∀ vs H Q E,sp' vs H Q E -> sp vs H Q E):FnOk P w K mg base CX k f fd ps sp' :=
 ⟨fun vs H Q E q=>F.len vs H Q E (h _ _ _ _ q),fun A outer s H args us vs Q E hr he hb hv hs=>F.run A outer s H args us vs Q E hr he hb hv (h _ _ _ _ hs)⟩
theorem Env0.in1 {P:Program} {w:World} {K:FG7} {mg:Str -> Option Value} {base:Heap} {A:Around} {outer:List Env} {s:Shared} {H:Hp} (e:Env0 P w K mg base A outer s H) :
  Env0 P w K mg base A.in1 outer s H:=⟨e.frames,e.mod,e.bs,e.bsz,e.funs,e.frf,e.hok,e.bare⟩
section
variable {X:Cx} {pins:List (Addr × Obj)} {σ:St} {H:Hp} {s s':Shared}
theorem Inv.env0 (I:Inv X pins σ H s):Env0 X.prog X.w X.K X.mg X.base X.A X.stack s H :=
 ⟨I.ok.frames,I.ok.mod,I.bs,Nat.le_trans I.ok.bsz I.sz,I.stack,I.stkFree,I.hok,I.bare⟩
theorem Inv.after {Q:VK} {u:Value} (I:Inv X pins σ H s) (h:CE X.stack X.prog X.w H s Q u s'):EP X pins σ Q u s':=by
 obtain ⟨v,H',os,bare,un,hok,r,q⟩:=h
 obtain ⟨hh,g,d,t,os'⟩:=s'
 obtain rfl:os' = s.os:=os
 exact ⟨v,H',I.call (h':=hh) (g':=g) (d':=d) (t':=t) (ch:=[]) un hok bare (fun b z=>absurd z (by simp)),r,q⟩
end
def UB (sp:Sp) (dvs:List V) (E:XK) (t:TA):TE:=fun σ H Q=>t σ H fun vs H1=>sp (vs ++ dvs) H1 Q E
def v4 (K:FG7) (fd:FuncData) (ps:List Str) (ds:List Value):Prop :=
 ∀ (s:Shared) (us:List Value),K.In s.heap -> (us ++ ds).length = ps.length -> BindsTo s fd ⟨us,[]⟩ (ps.zip (us ++ ds))
theorem v4.all {K:FG7} {fd:FuncData} {ps:List Str} (h:∀ us:List Value,us.length = ps.length -> bindArgs fd ⟨us,[]⟩ = pure (ps.zip us)):v4 K fd ps []:=fun s us _ hl=>by
 rw [List.append_nil] at hl ⊢
 exact .of_eq (h us hl)
def YB (CX:CXT) (X:Cx) (E:XK):Prop:=∀ (pins:List (Addr × Obj)) (σ:St) (H:Hp) (s:Shared) (e:Value) (s':Shared),Inv X pins σ H s -> CX X.stack H s E e s' -> X.xe e s'
section
variable {X:Cx} {CX:CXT} {k:Nat} {f C:Addr} {fd:FuncData} {ps:List Str} {sp:Sp} {dvs:List V} {ds:List Value} {E:XK} {x m:Str} {p pos apos:Pos} {e o:Expr} {es:List Expr} {ta:TE} {t:TA}
theorem UC {pins:List (Addr × Obj)} {σ:St} {H:Hp} {s:Shared} {Q:VK} {us:List Value} {vs:List V} (F:FnOk X.prog X.w X.K X.mg X.base CX k f fd ps sp) (hr:Room k X.A) (hb:v4 X.K fd ps ds) (hd:Vals dvs ds) (hx:YB CX X E)
  (I:Inv X pins σ H s) (r:Vals vs us) (h:sp (vs ++ dvs) H Q E):wpAny (model X.prog X.w) X.A (call (.ref f) us) (EP X pins σ Q) X.xe s:=by
 have r2:Vals (vs ++ dvs) (us ++ ds):=r.append hd
 have hl:(us ++ ds).length = ps.length:=by rw [← r2.length]; exact F.len _ _ _ _ h
 refine wpAny_call (codeAny_mono (F.run X.A X.stack s H ⟨us,[]⟩ (us ++ ds) (vs ++ dvs) Q E hr I.env0 (hb s us I.kIn hl) r2 h) fun r s' hq=>?_)
 cases r with
 | error e=>exact hx pins σ H s e s' I hq
 | ok fl =>
  cases fl with
  | ret u=>exact I.after hq
  | next=>exact False.elim hq
  | brk=>exact False.elim hq
  | cont=>exact False.elim hq
theorem VL (F:FnOk X.prog X.w X.K X.mg X.base CX k f fd ps sp) (hr:Room k X.A) (hg:Gl X x) (hm:X.mg x = some (.ref f)) (hk:PySem.W.keepIn X.K (.ref f) = true) (hb:v4 X.K fd ps ds) (hd:Vals dvs ds) (hx:YB CX X E)
  (ha:PA X (e :: es) t) (hdb:(x == ("__debug__":Str)) = false:=by decide) (he:starEach (e :: es) X.env = (false,eval e X.env) :: starEach es X.env:=by rfl) (hpl:(backTo pos (starEach es X.env)).any (·.1) = false:=by rfl) :
  PE X (.Call (.Name x p) (e :: es) [] pos) (UB sp dvs E t):=by
 intro pins s σ H Q I h
 refine wpAny_Call_Name_kw (Yr I hg hm ?_ hdb)
 refine PySem.W.callWith_K (h₀:=X.base) I.ok.mod.kin hk (thn (ha pos pins s σ H _ I h) fun us s1 ⟨vs,H1,I1,r,q⟩=>⟨I1.kIn,?_⟩) he hpl
 exact UC F hr hb hd hx I1 r q
structure Mk (K:FG7) (C f:Addr):Prop where
 makes:PySem.W.makesIn K C = true
 init:PySem.W.findIn K (.ref C) "__init__" = some (some (.ref f))
 fn:PySem.W.isFn K (.ref f) = true
 kp:PySem.W.keepIn K (.ref C) = true
end
section
variable {X:Cx} {CX:CXT} {k:Nat} {f C:Addr} {fd:FuncData} {ps ks:List Str} {sp:Sp} {E:XK} {x m:Str} {p pos apos kpos:Pos} {e o:Expr} {es:List Expr} {kws:List Keyword} {te ta:TE} {t tk:TA} {nm:Option Str}
structure KBinds (K:FG7) (fd:FuncData) (ps ks:List Str) (g:List Value -> List Value -> List Value) (gV:List V -> List V -> List V):Prop where
 to:∀ (s:Shared) (us ws:List Value),K.In s.heap -> (g us ws).length = ps.length -> BindsTo s fd ⟨us,ks.zip ws⟩ (ps.zip (g us ws))
 rel:∀ {vs:List V} {us:List Value} {zs:List V} {ws:List Value},Vals vs us -> Vals zs ws -> Vals (gV vs zs) (g us ws)
variable {g:List Value -> List Value -> List Value} {gV:List V -> List V -> List V}
end
structure FnScope (N P:List Str) (sc:Scope):Prop where
 kind:sc.kind = .function
 co:sc.isCoroutine = false
 gen:sc.isGenerator = false
 nd:N.Nodup
 pre:N.take P.length = P
 par:∀ x ∈ P,sc.names.lookup x = some .local \/ sc.names.lookup x = some .cell
 nofree:∀ y ∈ sc.names,y.2 ≠ .free
theorem re {kindOf:Str -> Option NameKind} {x:Str}:∀ {binds:List (Str × Value)} {m:Str -> Option Value},(∀ v,(x,v) ∉ binds) -> bindL kindOf binds m x = m x
 | [],_,_=>rfl
 | (n,v) :: r,m,h=>by
  unfold bindL
  rw [re fun w hw=>h w (List.mem_cons_of_mem _ hw)]
  split
  ·have:x ≠ n:=by rintro rfl; exact h v List.mem_cons_self
   simp [this]
  ·rfl
theorem rg {kindOf:Str -> Option NameKind} {x:Str}:∀ {binds:List (Str × Value)} {m:Str -> Option Value},(∀ v,(x,v) ∉ binds) -> bindC kindOf binds m x = m x
 | [],_,_=>rfl
 | (n,v) :: r,m,h=>by
  unfold bindC
  rw [rg fun w hw=>h w (List.mem_cons_of_mem _ hw)]
  split
  ·rfl
  ·have:x ≠ n:=by rintro rfl; exact h v List.mem_cons_self
   simp [this]
theorem rh {kindOf:Str -> Option NameKind} {x:Str} {v:Value}:∀ {P:List Str} {vs:List Value} {i:Nat} {m:Str -> Option Value},P.Nodup -> P[i]? = some x -> vs[i]? = some v -> kindOf x = some .local →
  bindL kindOf (P.zip vs) m x = some v
 | [],_,_,_,_,h,_,_=>by simp at h
 | _ :: _,[],_,_,_,_,h,_=>by simp at h
 | p :: P,w :: vs,0,m,nd,h1,h2,hk=>by
  simp at h1 h2; subst h1; subst h2
  show bindL kindOf ((p,w) :: P.zip vs) m p = _
  unfold bindL
  rw [re fun v hv=>(List.nodup_cons.mp nd).1 (List.of_mem_zip hv).1,if_pos hk]
  simp
 | p :: P,w :: vs,i + 1,m,nd,h1,h2,hk=>by
  show bindL kindOf ((p,w) :: P.zip vs) m x = _
  unfold bindL
  exact rh (i:=i) (List.nodup_cons.mp nd).2 (by simpa using h1) (by simpa using h2) hk
theorem rj {kindOf:Str -> Option NameKind} {x:Str} {v:Value}:∀ {P:List Str} {vs:List Value} {i:Nat} {m:Str -> Option Value},P.Nodup -> P[i]? = some x -> vs[i]? = some v -> kindOf x ≠ some .local →
  bindC kindOf (P.zip vs) m x = some v
 | [],_,_,_,_,h,_,_=>by simp at h
 | _ :: _,[],_,_,_,_,h,_=>by simp at h
 | p :: P,w :: vs,0,m,nd,h1,h2,hk=>by
  simp at h1 h2; subst h1; subst h2
  show bindC kindOf ((p,w) :: P.zip vs) m p = _
  unfold bindC
  rw [rg fun v hv=>(List.nodup_cons.mp nd).1 (List.of_mem_zip hv).1,if_neg hk]
  simp
 | p :: P,w :: vs,i + 1,m,nd,h1,h2,hk=>by
  show bindC kindOf ((p,w) :: P.zip vs) m x = _
  unfold bindC
  exact rj (i:=i) (List.nodup_cons.mp nd).2 (by simpa using h1) (by simpa using h2) hk
def start (N:List Str) (vs:List V):St:=vs.map some ++ List.replicate (N.length - vs.length) none
def cxOf (CX:CXT) (P:Program) (w:World) (K:FG7) (mg:Str -> Option Value) (base:Heap) (N:List Str) (qual:Str) (scope:Scope) (f:Addr) (cd:Value) (A:Around) (outer:List Env) (s:Shared) (H:Hp) (E:XK):Cx where
 prog:=P
 w:=w
 K:=K
 mg:=mg
 base:=base
 A:=A.deeper (envOfC qual scope s.heap.objs.size f cd)
 N:=N
 s₀:=s
 H₀:=H
 env:=envOfC qual scope s.heap.objs.size f cd
 outer:=outer
 stack:=envOfC qual scope s.heap.objs.size f cd :: outer
 ex:=[]
 calm:=true
 fn:=fun _=>true
 pn:=[]
 xe:=fun e s'=>wpAny (model P w) (A.deeper (envOfC qual scope s.heap.objs.size f cd)) (leaving (envOfC qual scope s.heap.objs.size f cd) e) (fun _ s''=>CX outer H s E e s'') (fun e' s''=>CX outer H s E e' s'') s'
theorem jy {sc:Scope} {n:Nat} {x:Str} (h:sc.names.lookup x = some .cell):∃ c,(cellsFrom n sc.names []).lookup x = some c:=by
 have q:=PySem.W.cellsFrom_some sc.names n [] (.inl h)
 exact Option.isSome_iff_exists.mp q
theorem YC {CX:CXT} {P:Program} {w:World} {K:FG7} {mg:Str -> Option Value} {base:Heap} {N ps:List Str} {qual:Str} {scope:Scope} {f:Addr} {cd:Value} {A:Around} {outer:List Env} {s s1:Shared} {H:Hp} {E:XK} {us:List Value} {vs:List V}
  (S:FnScope N ps scope) (hd:A.handled = none) (e0:Env0 P w K mg base A outer s H) (hl:vs.length = ps.length) (r:Vals vs us)
  (x:InCallC s s.heap.objs.size (bindL (envOfC qual scope s.heap.objs.size f cd).kindOf (ps.zip us) fun _=>none) (cellsFrom (s.heap.objs.size + 1) scope.names []) (bindC (envOfC qual scope s.heap.objs.size f cd).kindOf (ps.zip us) fun _=>none) s1) :
  Inv (cxOf CX P w K mg base N qual scope f cd A outer s H E) [] (start N vs) H s1:=by
 have hpl:ps.length <= N.length:=by have:=congrArg List.length S.pre; rw [List.length_take] at this; omega
 obtain ⟨h1,tk,rfl,hk⟩:=x.done
 have noA:∀ b:Addr,b ∉ (cxOf CX P w K mg base N qual scope f cd A outer s H E).ex:=fun b z=>absurd (show b ∈ ([]:List Addr) from z) (by simp)
 refine ⟨⟨e0.mod,S.kind,rfl,rfl,Nat.le_refl _,fun y z c h1 h2=>?_,fun y hy=>?_,fun y c _ h=>?_,fun _=>hd,Around.frames_deeper e0.frames,.inr ⟨rfl,rfl⟩,fun b z=>absurd z (noA b),e0.bs,e0.bsz,fun b _ _=>noA b,fun b z=>absurd z (noA b),e0.funs,e0.frf⟩,
  rfl,e0.bare,Un.kept hk,⟨_,x.toInCall.ns,fun i y v h1 h2 h3=>?_⟩,fun y c h=>⟨_,x.cell y c h⟩,e0.hok.fresh (Nat.le_refl _),fun y c h=>?_,fun p hp=>absurd (show p ∈ ([]:List (Addr × Obj)) from hp) (by simp),e0.hok.kept hk,?_⟩
 ·exact name_of_addr x.apart (PySem.mem_of_lookup h1) (PySem.mem_of_lookup h2)
 ·have hy:scope.names.lookup y = some .cell \/ scope.names.lookup y = some .free:=hy
  rcases hy with hy | hy
  ·exact jy hy
  ·exact absurd rfl (S.nofree _ (PySem.mem_of_lookup hy))
 ·exact Nat.le_of_lt (x.above y c (PySem.mem_of_lookup h))
 ·have hi:i < vs.length:=by
   unfold start at h2
   by_cases hi:i < vs.length
   ·exact hi
   ·rw [List.getElem?_append_right (by simpa using hi)] at h2
    rw [List.getElem?_replicate] at h2
    split at h2 <;> cases h2
  have ha:vs[i]? = some v:=by
   unfold start at h2
   rw [List.getElem?_append_left (by simpa using hi),List.getElem?_map] at h2
   cases e:vs[i]? with
   | none=>rw [e] at h2; cases h2
   | some a=>rw [e] at h2; cases h2; rfl
  obtain ⟨u,hu,rv⟩:=r.get ha
  have hp:ps[i]? = some y:=by
   rw [← S.pre,List.getElem?_take_of_lt (by omega)]; exact h1
  have ndP:ps.Nodup:=by rw [← S.pre]; exact S.nd.sublist (List.take_sublist _ _)
  refine ⟨u,rv,?_⟩
  rcases S.par y (List.mem_of_getElem? hp) with k | k
  ·exact .inl ⟨k,rh ndP hp hu k⟩
  ·obtain ⟨c,e⟩:=jy (n:=s.heap.objs.size + 1) k
   refine .inr ⟨.inl k,c,e,?_⟩
   have q:=x.cell y c e
   rw [rj ndP hp hu (by show scope.names.lookup y ≠ _; rw [k]; decide)] at q
   exact q
 ·exact e0.hok.fresh (Nat.le_of_lt (x.above y c (PySem.mem_of_lookup h)))
 ·unfold start
  show _ = N.length
  rw [List.length_append,List.length_map,List.length_replicate]
  omega
theorem TU {CX:CXT} {P:Program} {w:World} {K:FG7} {mg:Str -> Option Value} {base:Heap} {k:Nat} {f:Addr} {name qual:Str} {params:Arguments} {body:List Stmt} {scope:Scope} {dV kV doc pm cdv ct oc:Value} {an od:Option Addr}
  {osl:Array (Option Value)} {N ps:List Str} {sp:Sp} (lk:K.lookup f = some ⟨oc,od,.func (PySem.W.fnOf name qual params body scope dV kV doc pm an cdv ct),osl⟩) (hcd:PySem.W.codeIn K cdv qual = true) (S:FnScope N ps scope)
  (len:∀ vs H Q E,sp vs H Q E -> vs.length = ps.length)
  (hbody:∀ (A:Around) (outer:List Env) (s:Shared) (H:Hp) (vs:List V) (Q:VK) (E:XK),Room k (A.deeper (envOfC qual scope s.heap.objs.size f cdv)) -> sp vs H Q E →
   ∃ t,PSs (cxOf CX P w K mg base N qual scope f cdv A outer s H E) body t /\ t { nx:=fun _ H'=>Q .non H',rt:=Q } (start N vs) H) :
  FnOk P w K mg base CX (k + 1) f (PySem.W.fnOf name qual params body scope dV kV doc pm an cdv ct) ps sp:=by
 refine ⟨len,fun A outer s H args us vs Q E hr e0 hb r hsp=>?_⟩
 have hl:=len _ _ _ _ hsp
 have KX:K.In s.heap:=e0.mod.kin.keeps fun b o e=>(e0.bs b o e).1
 have lim:s.heap.NoLimit:=e0.mod.nolimit.keeps fun b o e=>(e0.bs b o e).1
 have hkind:∀ y ∈ ps.zip us,scope.names.lookup y.1 = some .local \/ (scope.names.lookup y.1 = some .cell /\ ((cellsFrom (s.heap.objs.size + 1) scope.names []).lookup y.1).isSome = true):=fun ⟨n,v⟩ hy=>by
  rcases S.par n (List.of_mem_zip hy).1 with q | q
  ·exact .inl q
  ·exact .inr ⟨q,PySem.W.cellsFrom_some _ _ _ (.inl q)⟩
 refine codeAny_call_function hr.depth (KX _ _ lk) rfl S.co S.gen rfl (PySem.W.codeRec_of KX hcd) (hb _ _ _ _ ?_)
 refine wpAny_newFunctionEnv_cells S.kind hkind fun env he s1 x=>?_
 subst he
 refine ⟨lim.keeps x.toInCall.keep,codeAny_func ?_⟩
 obtain ⟨t,ht,hq⟩:=hbody A outer s H vs Q E (hr.deeper _) hsp
 have I:Inv (cxOf CX P w K mg base N qual scope f cdv A outer s H E) [] (start N vs) H s1:=YC S hr.hd e0 hl r x
 refine wpAny_mono (ht [] s1 (start N vs) H _ I hq) (fun fl s' hs=>?_) fun e s' hs=>hs
 have fin:∀ {σ':St} {H':Hp} {v:V} {u:Value},Inv (cxOf CX P w K mg base N qual scope f cdv A outer s H E) [] σ' H' s' -> RelV v u -> Q v H' -> CE outer P w H s Q u s' :=
  fun {σ' H' v u} J rv q=>⟨v,H',J.os,J.bare,J.base,J.hok,rv,q⟩
 cases fl with
 | ret u =>
  obtain ⟨v,σ',H',J,rv,q⟩:=hs
  exact fin J rv q
 | next =>
  obtain ⟨σ',H',J,q⟩:=hs
  exact fin (v:=V.non) (u:=Value.none) J rfl q
 | brk =>
  obtain ⟨_,_,_,q⟩:=hs
  exact False.elim q
 | cont =>
  obtain ⟨_,_,_,q⟩:=hs
  exact False.elim q
end L2
namespace L2
open PySem PySem.Spec PyProof.Rows
section
variable {X:Cx} {x:Str} {p pos:Pos} {e:Expr} {es:List Expr} {t:TA} {id T:String} {r:List V -> Hp -> VK -> Prop}
def tCB (r:List V -> Hp -> VK -> Prop) (t:TA):TE:=fun σ H Q=>t σ H fun vs H1=>r vs H1 Q
theorem zn (hc:xw X (.builtin id) r) (hg:Gl X x) (hm:X.mg x = none) (hv:bootBuiltins x = some (.builtin id)) (ha:PA X (e :: es) t) (hn:x ≠ "__name__":=by decide) (hdb:(x == ("__debug__":Str)) = false:=by decide)
  (he:starEach (e :: es) X.env = (false,eval e X.env) :: starEach es X.env:=by rfl) (hpl:(backTo pos (starEach es X.env)).any (·.1) = false:=by rfl):PE X (.Call (.Name x p) (e :: es) [] pos) (tCB r t):=by
 intro pins s σ H Q I h
 refine wpAny_Call_Name_kw (vE I hg hm hv ?_ hn hdb)
 exact PyProof.Rows.callWith_builtin1 (thn (ha pos pins s σ H _ I h) fun us s1 ⟨vs,H1,I1,r1,q1⟩=>hc pins s1 σ H1 vs us Q I1 r1 q1) he hpl
theorem zQ (hc:xw X (.type T) r) (hg:Gl X x) (hm:X.mg x = none) (hv:bootBuiltins x = some (.type T)) (ha:PA X (e :: es) t) (hn:x ≠ "__name__":=by decide) (hdb:(x == ("__debug__":Str)) = false:=by decide)
  (he:starEach (e :: es) X.env = (false,eval e X.env) :: starEach es X.env:=by rfl) (hpl:(backTo pos (starEach es X.env)).any (·.1) = false:=by rfl):PE X (.Call (.Name x p) (e :: es) [] pos) (tCB r t):=by
 intro pins s σ H Q I h
 refine wpAny_Call_Name_kw (vE I hg hm hv ?_ hn hdb)
 exact PyProof.Rows.callWith_type1 (thn (ha pos pins s σ H _ I h) fun us s1 ⟨vs,H1,I1,r1,q1⟩=>hc pins s1 σ H1 vs us Q I1 r1 q1) he hpl
end
end L2
namespace HT
open PySem PyProof.Rows
section
variable {prog:Program} {w:World} {A:Around} {E:VS7} {s:Shared}
theorem cat_tup {t b:Addr} {vs ws:List Value} {Q:VS7} (ht:IsTup s.heap t vs.toArray) (hb:IsTup s.heap b ws.toArray) (hv:vs ≠ [])
  (h1:ws = [] -> Q (.ref t) s) (h2:ws ≠ [] -> Q (.ref s.heap.objs.size) { s with heap:=s.heap.push { cls:=.type "tuple",data:=.seq (vs ++ ws).toArray } })
  (hsz:vs.length + ws.length <= sizeLine):wpAny (model prog w) A (binaryOp .Add (.ref t) (.ref b)) Q E s:=by
 obtain ⟨⟨cls,dd,data,sl⟩,ho,hc,n,hd⟩:=id ht
 obtain ⟨⟨cls2,dd2,data2,sl2⟩,ho2,hc2,n2,hd2⟩:=id hb
 simp only at hc hd hc2 hd2
 subst hc hd hc2 hd2
 have e:vs.toArray ++ ws.toArray = (vs ++ ws).toArray:=by simp
 by_cases hw:ws = []
 ·exact concat_meets ⟨_,ho,rfl⟩ ⟨_,ho2,rfl⟩ noFill_tuple_add seq_tuple_add PySem.F.slot_tuple_add PySem.F.entry_tuple_add (PySem.F.args_tuple_add_2 _ _)
   (tuple_addW1 t b vs.toArray ws.toArray n n2 dd dd2 sl sl2 (by simpa using hv) (by simp [hw])) ⟨ho,ho2,h1 hw⟩
 ·refine concat_meets ⟨_,ho,rfl⟩ ⟨_,ho2,rfl⟩ noFill_tuple_add seq_tuple_add PySem.F.slot_tuple_add PySem.F.entry_tuple_add (PySem.F.args_tuple_add_2 _ _)
   (tuple_addW2 t b vs.toArray ws.toArray n n2 dd dd2 sl sl2 (by simpa using hv) (by simpa using hw) (by rw [List.size_toArray,List.size_toArray]; exact hsz)) ⟨ho,ho2,?_⟩
  rw [e]
  exact h2 hw
def sIx (n d:Nat):Option Int -> Nat
 | none=>d
 | some v=>if v < 0 then (v + (n:Int)).toNat else min v.toNat n
theorem sIx_none (n d:Nat):sIx n d none = d:=rfl
theorem sIx_nat (n d k:Nat):sIx n d (some (k:Int)) = min k n:=by
 show (if (k:Int) < 0 then ((k:Int) + (n:Int)).toNat else min (k:Int).toNat n) = min k n
 rw [if_neg (by omega),Int.toNat_natCast]
theorem UD (n d:Nat) (hd:d <= n) (o:Option Int):sIx n d o <= n:=by
 cases o with
 | none=>exact hd
 | some v =>
  show (if v < 0 then (v + (n:Int)).toNat else min v.toNat n) <= n
  by_cases hv:v < 0
  ·rw [if_pos hv]; omega
  ·rw [if_neg hv]; exact Nat.min_le_right _ _
theorem YD (v:Int) (n d:Nat):(if v < 0 then max (v + (n:Int)) 0 else min v (n:Int)) = ((sIx n d (some v):Nat):Int):=by
 show (if v < 0 then max (v + (n:Int)) 0 else min v (n:Int)) = (((if v < 0 then (v + (n:Int)).toNat else min v.toNat n):Nat):Int)
 by_cases hv:v < 0
 ·simp only [if_pos hv]; omega
 ·simp only [if_neg hv]; omega
theorem Zw (lo hi:Option Int) (n:Nat):Builtin.Slice.sliceAdjust lo hi 1 (n:Int) = (((sIx n 0 lo:Nat):Int),((sIx n n hi:Nat):Int)):=by
 have h1:¬ ((1:Int) < 0):=by omega
 unfold Builtin.Slice.sliceAdjust
 simp only [h1,if_false]
 refine Prod.ext ?_ ?_
 ·cases lo with
  | none=>rfl
  | some v=>exact YD v n 0
 ·cases hi with
  | none=>rfl
  | some v=>exact YD v n n
theorem Zx (i j:Nat):Builtin.Slice.slicePlaces (i:Int) (j:Int) 1 = j - i:=by
 unfold Builtin.Slice.slicePlaces
 have h1:(1:Int) > 0:=by omega
 simp only [h1,if_true,Int.ediv_one]
 split <;> omega
theorem uV {v:Value} {o:Option Int} {Q:Option Int -> Shared -> Prop} (p:IsPart v o) (h:Q o s):wpAny (model prog w) A (Builtin.Slice.slicePartIndex v) Q E s:=by
 cases p with
 | none=>exact slicePart_none h
 | int i t=>exact slicePart_int h
theorem xW {sl:Addr} {vl vu:Value} {lo hi:Option Int} {n:Nat} {Q:Int × Int × Nat -> Shared -> Prop} (hs:s.heap.IsSliceOf sl vl vu .none) (pl:IsPart vl lo) (pu:IsPart vu hi)
  (h:Q (((sIx n 0 lo:Nat):Int),1,sIx n n hi - sIx n 0 lo) s):wpAny (model prog w) A (Builtin.Slice.sliceApplied (.ref sl) (pure (n:Int))) Q E s:=by
 obtain ⟨os,hos,hcs,hds⟩:=id hs
 unfold Builtin.Slice.sliceApplied Builtin.Slice.sliceFields
 refine wpAny_bind (wpAny_bind (wpAny_field hos hds (x:=vl) rfl (wpAny_bind (wpAny_field hos hds (x:=vu) rfl (wpAny_bind (wpAny_field hos hds (x:=.none) rfl (wpAny_pure ?_)))))))
 refine wpAny_bind (slicePart_none ?_)
 show wpAny _ _ (if ((1:Int) == 0) = true then _ else _) _ _ s
 rw [if_neg (by decide)]
 refine wpAny_bind (uV pl (wpAny_bind (uV pu (wpAny_bind (wpAny_pure ?_)))))
 show wpAny _ _ (match Builtin.Slice.sliceAdjust lo hi 1 (n:Int) with | (lo,hi)=>pure (lo,(1:Int),Builtin.Slice.slicePlaces lo hi 1)) _ _ s
 rw [Zw lo hi n]
 show wpAny _ _ (pure (((sIx n 0 lo:Nat):Int),(1:Int),Builtin.Slice.slicePlaces ((sIx n 0 lo:Nat):Int) ((sIx n n hi:Nat):Int) 1)) _ _ s
 rw [Zx]
 exact wpAny_pure h
theorem Wo (xs:Array Value) (i k:Nat):((List.range k).filterMap fun (m:Nat)=>xs[((i:Int) + (m:Int) * 1).toNat]?).toArray = ((xs.toList.drop i).take k).toArray:=by
 have e:(fun (m:Nat)=>xs[((i:Int) + (m:Int) * 1).toNat]?) = fun m=>xs[i + m]?:=by
  funext m
  have:((i:Int) + (m:Int) * 1).toNat = i + m:=by omega
  rw [this]
 rw [e]
 have:=pick_run xs i k
 rw [List.filterMap_map] at this
 have e2:((fun x=>xs[x]?) ∘ fun x=>i + x) = fun m=>xs[i + m]?:=rfl
 rw [e2] at this
 rw [this]
theorem getItem_tuple_cut {t sl:Addr} {items:Array Value} {vl vu:Value} {lo hi:Option Int} {Q:VS7} (ht:IsTup s.heap t items) (hs:s.heap.IsSliceOf sl vl vu .none) (pl:IsPart vl lo) (pu:IsPart vu hi)
  (hw:¬ (sIx items.size 0 lo = 0 /\ sIx items.size items.size hi = items.size))
  (h:Q (.ref s.heap.objs.size) { s with heap:=s.heap.push { cls:=.type "tuple",data:=.seq ((items.toList.drop (sIx items.size 0 lo)).take (sIx items.size items.size hi - sIx items.size 0 lo)).toArray } })
  (hsz:items.size <= sizeLine):wpAny (model prog w) A (getItem (.ref t) (.ref sl)) Q E s:=by
 have htake:sizeOk (.seq ((items.toList.drop (sIx items.size 0 lo)).take (sIx items.size items.size hi - sIx items.size 0 lo)).toArray):=by
  show ((items.toList.drop (sIx items.size 0 lo)).take (sIx items.size items.size hi - sIx items.size 0 lo)).toArray.size <= sizeLine
  rw [List.size_toArray,List.length_take,List.length_drop,Array.length_toList]
  omega
 have hj:sIx items.size items.size hi <= items.size:=UD _ _ (Nat.le_refl _) hi
 obtain ⟨os,hos,hcs,hds⟩:=id hs
 have hTs:s.TypeIs (.ref sl) "slice":=⟨os,hos,hcs⟩
 unfold getItem
 try with_reducible refine wpAny_holding ?_
 first | refine wpAny_bind (wpAny_pure ?_) | skip
 refine wpAny_bind (wpAny_sequenceKey ht.typeIs (by decide) ?_)
 refine wpAny_bind (wpAny_callSpecial?_slot (name:=Str.ofString "__getitem__") ht.typeIs PyProof.Rows.slot_tuple_getitem
  (wpAny_call_entry PyProof.Rows.slot_tuple_getitem ht.typeIs entry_tuple_getitem ?_ (args_tuple_getitem _ _)))
 show wpAny _ _ (Builtin.Tuple.tupleItemsOf (.ref t) >>= _) _ _ s
 refine wpAny_bind (tupleItemsOf_ ht ?_)
 refine wpAny_bind (wpAny_typeOf hTs ?_)
 rw [if_pos (by decide)]
 refine wpAny_bind (xW hs pl pu ?_)
 have hno:¬ ((((sIx items.size 0 lo:Nat):Int) == 0 && (1:Int) == 1 && (sIx items.size items.size hi - sIx items.size 0 lo) == items.size) = true):=by
  intro q
  rw [Bool.and_eq_true,Bool.and_eq_true] at q
  have q1:((sIx items.size 0 lo:Nat):Int) = 0:=eq_of_beq q.1.1
  have q2:sIx items.size items.size hi - sIx items.size 0 lo = items.size:=eq_of_beq q.2
  exact hw ⟨by omega,by omega⟩
 show wpAny _ _ (if (((sIx items.size 0 lo:Nat):Int) == 0 && (1:Int) == 1 && (sIx items.size items.size hi - sIx items.size 0 lo) == items.size) = true then _ else _) _ _ s
 rw [if_neg hno,Wo]
 first
  | exact wpAny_bind (m:=Builtin.Tuple.tupleExact _) (wpAny_newObj_type (wpAny_pure ⟨_,rfl,wpAny_pure h⟩) htake)
  | exact wpAny_bind (m:=Builtin.Tuple.tupleExact _) (wpAny_newObj_type (wpAny_bind (wpAny_pure (wpAny_pure ⟨_,rfl,wpAny_pure h⟩))) htake)
  | exact wpAny_bind (wpAny_bind (m:=Builtin.Tuple.tupleExact _) (wpAny_newObj_type (wpAny_pure (wpAny_pure ⟨_,rfl,wpAny_pure h⟩)) htake))
  | exact wpAny_bind (wpAny_bind (m:=Builtin.Tuple.tupleExact _) (wpAny_newObj_type (wpAny_pure ⟨_,rfl,wpAny_pure h⟩) htake))
end
end HT
namespace L2
open PySem PySem.Spec PyProof.Rows
abbrev TO:=St -> Hp -> (Option Int -> Hp -> Prop) -> Prop
def PO (X:Cx) (e:Option Expr) (t:TO):Prop :=
 ∀ (pins:List (Addr × Obj)) (s:Shared) (σ:St) (H:Hp) (Q:Option Int -> Hp -> Prop),Inv X pins σ H s -> t σ H Q →
  wpAny (model X.prog X.w) X.A (evalPart e X.env) (fun u s'=>∃ o H',Inv X pins σ H' s' /\ IsPart u o /\ Q o H') X.xe s
def VM:TO:=fun _ H Q=>Q none H
def TV (t:TE):TO:=fun σ H Q=>t σ H fun x H1=>∃ i,x = .int i /\ Q (some i) H1
theorem uW {ns:List Int}:∀ {us:List Value},Vals (ns.map V.int) us -> IntsAre us ns:=by
 induction ns with
 | nil=>intro us r; rw [List.map_nil] at r; cases r; exact .nil
 | cons n ns ih =>
  intro us r
  rw [List.map_cons] at r
  cases r with
  | cons r1 r2 =>
   obtain ⟨t,e⟩:=r1
   subst e
   exact .cons n t (ih r2)
section
variable {X:Cx} {e:Expr} {te:TE} {lo hi:Option Expr} {tl th:TO} {pos p2:Pos}
theorem wD:PO X none VM:=by
 intro pins s σ H Q I h
 rw [evalPart_none]
 exact wpAny_pure ⟨none,H,I,.none,h⟩
theorem wE (h:PE X e te):PO X (some e) (TV te):=by
 intro pins s σ H Q I hw
 rw [evalPart_some]
 refine thn (h pins s σ H _ I hw) fun u s1 ⟨x,H1,I1,r1,q1⟩=>?_
 obtain ⟨i,rfl,q⟩:=q1
 obtain ⟨t,rfl⟩:=r1
 exact ⟨some i,H1,I1,.int i t,q⟩
def SlR (X:Cx) (r:V -> Option Int -> Option Int -> Hp -> VK -> Prop):Prop :=
 ∀ (pins:List (Addr × Obj)) (s:Shared) (σ:St) (H:Hp) (x:V) (v vl vu:Value) (lo hi:Option Int) (sl:Addr) (Q:VK),Inv X pins σ H s -> RelV x v -> s.heap.IsSliceOf sl vl vu .none -> IsPart vl lo -> IsPart vu hi -> r x lo hi H Q →
  ∃ T id,typeLookup (.type T) "__getitem__" = pure (some (.builtin id)) /\ s.TypeIs v T /\ wpAny (model X.prog X.w) X.A (getItem v (.ref sl)) (EP X pins σ Q) X.xe s
theorem SlR.or {r r':V -> Option Int -> Option Int -> Hp -> VK -> Prop} (h:SlR X r) (h':SlR X r'):SlR X (fun x lo hi H Q=>r x lo hi H Q \/ r' x lo hi H Q):=by
 intro pins s σ H x v vl vu lo hi sl Q I rx hs pl pu q
 rcases q with q | q
 ·exact h pins s σ H x v vl vu lo hi sl Q I rx hs pl pu q
 ·exact h' pins s σ H x v vl vu lo hi sl Q I rx hs pl pu q
def tSl (r:V -> Option Int -> Option Int -> Hp -> VK -> Prop) (te:TE) (tl th:TO):TE:=fun σ H Q=>te σ H fun x H1=>tl σ H1 fun l H2=>th σ H2 fun u H3=>r x l u H3 Q
theorem xJ {r:V -> Option Int -> Option Int -> Hp -> VK -> Prop} (hr:SlR X r) (he:PE X e te) (hl:PO X lo tl) (hu:PO X hi th):PE X (.Subscript e (.Slice lo hi none p2) pos) (tSl r te tl th):=by
 intro pins s σ H Q I h
 refine Subscript_ (thn (he pins s σ H _ I h) fun v s1 ⟨x,H1,I1,r1,q1⟩=>?_)
 refine wpAny_Slice (thn (hl pins s1 σ H1 _ I1 q1) fun vl s2 ⟨l,H2,I2,pl,q2⟩=>thn (hu pins s2 σ H2 _ I2 q2) fun vu s3 ⟨u,H3,I3,pu,q3⟩=>?_)
 rw [evalPart_none]
 refine wpAny_pure ?_
 have I4:Inv X pins σ H3 { s3 with heap:=s3.heap.push { cls:=.type "slice",data:=.fields #[vl,vu,.none] } }:=I3.kept (t':=s3.toks) fun b ob q=>Heap.get?_push_of_some _ q
 obtain ⟨T,id,hT,ht,hg⟩:=hr pins { s3 with heap:=s3.heap.push { cls:=.type "slice",data:=.fields #[vl,vu,.none] } } σ H3 x v vl vu l u s3.heap.objs.size Q I4 r1 (Heap.IsSliceOf.new ..) pl pu q3
 show wpAny (model X.prog X.w) X.A (subscriptTail e (.Slice lo hi none p2) v (.ref s3.heap.objs.size)) (EP X pins σ Q) X.xe { s3 with heap:=s3.heap.push { cls:=.type "slice",data:=.fields #[vl,vu,.none] } }
 exact tail_any (ops:=[.ref s3.heap.objs.size,v]) ht hT hg (by with_unfolding_all rfl)
def cutV (xs:List V) (lo hi:Option Int):List V:=(xs.drop (HT.sIx xs.length 0 lo)).take (HT.sIx xs.length xs.length hi - HT.sIx xs.length 0 lo)
theorem xK (xs:List V) (lo hi:Option Int):(cutV xs lo hi).length <= xs.length:=by
 unfold cutV
 rw [List.length_take,List.length_drop]
 omega
def rSlT (K:FG7):V -> Option Int -> Option Int -> Hp -> VK -> Prop:=fun x lo hi H Q=>∃ a xs,x = .ref a /\ SqT K H a xs ∧
 ¬ (HT.sIx xs.length 0 lo = 0 /\ HT.sIx xs.length xs.length hi = xs.length) /\ ∀ p,H p = none -> Q (.ref p) (upd H p (.tup (cutV xs lo hi)))
theorem YE:SlR X (rSlT X.K):=by
 intro pins s σ H x v vl vu lo hi sl Q I rx hs pl pu h
 obtain ⟨a,xs,rfl,hx,hw,q⟩:=h
 cases rx
 obtain ⟨its,r,ht,hz⟩:=I.tuple hx
 have hlen:its.toArray.size = xs.length:=by rw [List.size_toArray]; exact r.length.symm
 refine ⟨"tuple",_,PyProof.Rows.slot_tuple_getitem.lookup,ht.typeIs,?_⟩
 refine HT.getItem_tuple_cut ht hs pl pu (by rw [hlen]; exact hw) ?_ (by rw [hlen]; exact hz)
 rw [hlen]
 refine ⟨.ref s.heap.objs.size,_,I.laid (t':=s.toks) (o:=.tup (cutV xs lo hi)) (fun b ob q=>Heap.get?_push_of_some _ q) (Nat.le_refl _) ?_,rfl,q _ (I.hok.fresh (Nat.le_refl _))⟩
 exact ⟨Nat.le_trans (xK xs lo hi) hz,_,(r.drop (HT.sIx xs.length 0 lo)).take (HT.sIx xs.length xs.length hi - HT.sIx xs.length 0 lo),IsTup.new _ _⟩
def TW (K:FG7):R2:=fun x y H Q=>∃ a b xs ys,x = .ref a /\ y = .ref b /\ SqT K H a xs /\ SqT K H b ys /\ xs ≠ [] /\ xs.length + ys.length <= sizeLine ∧
 (ys = [] -> Q (.ref a) H) /\ (ys ≠ [] -> ∀ p,H p = none -> Q (.ref p) (upd H p (.tup (xs ++ ys))))
theorem Vals.nil_iff {xs:List V} {us:List Value} (r:Vals xs us):us = [] ↔ xs = []:=by
 cases r with
 | nil=>simp
 | cons _ _=>simp
theorem VN:OpR X (binaryOp .Add) (TW X.K):=by
 intro pins s σ H x y v u Q I rx ry h
 obtain ⟨a,b,xs,ys,rfl,rfl,ha,hb,hx,hz,q1,q2⟩:=h
 cases rx
 cases ry
 obtain ⟨its,r1,p1,_⟩:=I.tuple ha
 obtain ⟨its2,r2,p2,_⟩:=I.tuple hb
 refine HT.cat_tup p1 p2 (fun z=>hx (r1.nil_iff.mp z)) (fun z=>⟨.ref a,H,I,rfl,q1 (r2.nil_iff.mp z)⟩) (fun z=>?_) (by rw [← r1.length,← r2.length]; exact hz)
 refine ⟨.ref s.heap.objs.size,_,I.laid (t':=s.toks) (o:=.tup (xs ++ ys)) (fun b ob q=>Heap.get?_push_of_some _ q) (Nat.le_refl _) ?_,rfl,q2 (fun w=>z (r2.nil_iff.mpr w)) _ (I.hok.fresh (Nat.le_refl _))⟩
 exact ⟨by rw [List.length_append]; exact hz,_,r1.append r2,IsTup.new _ _⟩
end
end L2
namespace L2
open PySem PySem.Spec PyProof.Rows
def ixN (n:Nat) (i:Int):Option Nat:=if 0 <= i then (if i < n then some i.toNat else none) else if -(n:Int) <= i then some (i + n).toNat else none
def atI {α:Type} (xs:List α) (i:Int):Option α:=(ixN xs.length i).bind fun j=>xs[j]?
theorem YF {n:Nat} {i:Int} {j:Nat} (h:ixN n i = some j):seqIndex? i n = some j /\ j < n /\ -(n:Int) <= i /\ i < n:=by
 unfold ixN at h
 by_cases h0:0 <= i
 ·rw [if_pos h0] at h
  by_cases h1:i < n
  ·rw [if_pos h1] at h
   have e:i.toNat = j:=Option.some.inj h
   exact ⟨by rw [seqIndex_of h0 h1,e],by omega,by omega,h1⟩
  ·rw [if_neg h1] at h; cases h
 ·rw [if_neg h0] at h
  by_cases h1:-(n:Int) <= i
  ·rw [if_pos h1] at h
   have e:(i + n).toNat = j:=Option.some.inj h
   exact ⟨by rw [seqIndex_neg (by omega) h1,e],by omega,h1,by omega⟩
  ·rw [if_neg h1] at h; cases h
theorem YG {α:Type} {xs:List α} {i:Int} {v:α} (h:atI xs i = some v):∃ j,seqIndex? i xs.length = some j /\ xs[j]? = some v /\ j < xs.length /\ -(xs.length:Int) <= i /\ i < xs.length:=by
 unfold atI at h
 cases e:ixN xs.length i with
 | none=>rw [e] at h; cases h
 | some j =>
  rw [e] at h
  obtain ⟨h1,h2,h3,h4⟩:=YF e
  exact ⟨j,h1,h,h2,h3,h4⟩
theorem zw {α:Type} {xs:List α} {j:Nat} {v:α} (h:xs[j]? = some v):atI xs (j:Int) = some v:=by
 have hj:j < xs.length:=(List.getElem?_eq_some_iff.mp h).1
 have e:ixN xs.length (j:Int) = some j:=by
  unfold ixN
  rw [if_pos (by omega),if_pos (by omega)]; simp
 unfold atI; rw [e]; exact h
def VO (b:Expr):Prop:=∀ o i,subscripted b false o i = operate [o,i] (getItem o i)
def IxR (X:Cx) (r:R2):Prop :=
 ∀ (value slice:Expr) (pins:List (Addr × Obj)) (s:Shared) (σ:St) (H:Hp) (x y:V) (v u:Value) (Q:VK),Inv X pins σ H s -> RelV x v -> RelV y u -> r x y H Q →
  subscripted slice false v u = operate [v,u] (getItem v u) -> wpAny (model X.prog X.w) X.A (subscriptTail value slice v u) (EP X pins σ Q) X.xe s
def MtR (X:Cx) (id:String) (r:V -> List V -> Hp -> VK -> Prop):Prop :=
 ∀ (pins:List (Addr × Obj)) (s:Shared) (σ:St) (H:Hp) (x:V) (xs:List V) (v:Value) (us:List Value) (Q:VK),Inv X pins σ H s -> RelV x v -> Vals xs us -> r x xs H Q →
  wpAny (model X.prog X.w) X.A (call (.builtin id) (v :: us)) (EP X pins σ Q) X.xe s
section
variable {X:Cx} {a b:Expr} {ta tb:TE} {pos:Pos}
theorem IxR.or {r r':R2} (h:IxR X r) (h':IxR X r'):IxR X (fun x y H Q=>r x y H Q \/ r' x y H Q):=by
 intro value slice pins s σ H x y v u Q I rx ry q hs
 rcases q with q | q
 ·exact h value slice pins s σ H x y v u Q I rx ry q hs
 ·exact h' value slice pins s σ H x y v u Q I rx ry q hs
theorem MtR.or {id:String} {r r':V -> List V -> Hp -> VK -> Prop} (h:MtR X id r) (h':MtR X id r'):MtR X id (fun x xs H Q=>r x xs H Q \/ r' x xs H Q):=by
 intro pins s σ H x xs v us Q I rx rs q
 rcases q with q | q
 ·exact h pins s σ H x xs v us Q I rx rs q
 ·exact h' pins s σ H x xs v us Q I rx rs q
theorem zM {r:R2} (hr:IxR X r) (ha:PE X a ta) (hb:PE X b tb) (hs:VO b):PE X (.Subscript a b pos) (tOp r ta tb):=by
 intro pins s σ H Q I h
 exact Subscript_ (binT ha hb I h fun v u s2 x y H2 I2 rx ry q=>hr a b pins s2 σ H2 x y v u Q I2 rx ry q (hs _ _))
def rIxL (K:FG7):R2:=fun x y H Q=>∃ p xs i v,x = .ref p /\ y = .int i /\ SqL K H p xs /\ atI xs i = some v /\ Q v H
def rIxT (K:FG7):R2:=fun x y H Q=>∃ p xs i v,x = .ref p /\ y = .int i /\ SqT K H p xs /\ atI xs i = some v /\ Q v H
theorem zZ:IxR X (rIxL X.K):=by
 intro value slice pins s σ H x y v u Q I rx ry h hs
 obtain ⟨p,xs,i,z,rfl,rfl,hq,he,q⟩:=h
 cases rx
 obtain ⟨t,rfl⟩:=ry
 obtain ⟨its,r,pl,hz⟩:=I.list hq
 obtain ⟨j,h1,h2,h3,h4,h5⟩:=YG he
 obtain ⟨w,ew,rw'⟩:=r.get h2
 have hl:=r.length
 have hn:=ra
 have fin:EP X pins σ Q w s:=⟨z,H,I,rw',q⟩
 by_cases h0:0 <= i
 ·have hj:i.toNat = j:=by
   rw [seqIndex_of h0 h5] at h1
   exact Option.some.inj h1
  exact item_listR pl.isList h0 (by omega) (by rw [hj]; simpa using ew) fin hs
 ·have hj:(i + (its.toArray.size:Int)).toNat = j:=by
   rw [seqIndex_neg (by omega) h4] at h1
   rw [List.size_toArray,← hl]
   exact Option.some.inj h1
  exact subscriptTail_builtinR (x:=w) pl.isList.typeIs slot_list_getitem.lookup
   (wpAny_getItem_list_neg (Q:=fun r s'=>r = w /\ EP X pins σ Q r s') pl.isList (by omega) (by rw [List.size_toArray] <;> omega) (by omega) (by rw [hj]; simpa using ew) ⟨rfl,fin⟩) hs
theorem z7:IxR X (rIxT X.K):=by
 intro value slice pins s σ H x y v u Q I rx ry h hs
 obtain ⟨p,xs,i,z,rfl,rfl,hq,he,q⟩:=h
 cases rx
 obtain ⟨t,rfl⟩:=ry
 obtain ⟨its,r,pl,hz⟩:=I.tuple hq
 obtain ⟨j,h1,h2,h3,h4,h5⟩:=YG he
 obtain ⟨w,ew,rw'⟩:=r.get h2
 have hl:=r.length
 have hn:=ra
 have fin:EP X pins σ Q w s:=⟨z,H,I,rw',q⟩
 exact subscriptTail_builtinR (x:=w) pl.typeIs slot_tuple_getitem.lookup
  (getItem_tuple (j:=j) (Q:=fun r s'=>r = w /\ EP X pins σ Q r s') pl (by omega) (by omega) (by rw [List.size_toArray,← hl]; exact h1) (by simpa using ew) ⟨rfl,fin⟩) hs
theorem Zy (its:List Value) (n j:Nat) (u:Value):Obj.mapSeq (·.setIfInBounds j u) { cls:=.type "list",data:=.seq its.toArray n } = { cls:=.type "list",data:=.seq (its.set j u).toArray n }:=by
 simp [Obj.mapSeq]
theorem Inv.lst {pins:List (Addr × Obj)} {σ:St} {H:Hp} {s:Shared} {p:Addr} {xs:List V} (I:Inv X pins σ H s) (h:H p = some (.lst xs)) :
  ∃ (its:List Value) (n:Nat),Vals xs its /\ s.heap.get? p = some { cls:=.type "list",data:=.seq its.toArray n } /\ xs.length <= sizeLine:=by
 obtain ⟨z,its,n,r,e⟩:=I.hok p _ h
 exact ⟨its,n,r,e,z⟩
theorem Inv.lstUpd {pins:List (Addr × Obj)} {σ:St} {H:Hp} {s:Shared} {p:Addr} {xs ys:List V} {its its':List Value} {n n':Nat} {f:Obj -> Obj} (I:Inv X pins σ H s) (h:H p = some (.lst xs))
  (ho:s.heap.get? p = some { cls:=.type "list",data:=.seq its.toArray n }) (hf:f { cls:=.type "list",data:=.seq its.toArray n } = { cls:=.type "list",data:=.seq its'.toArray n' }) (r:Vals ys its') (hz:ys.length <= sizeLine) (t:Nat) :
  Inv X pins σ (upd H p (.lst ys)) { s with heap:=s.heap.update p f,toks:=t }:=by
 have e:(s.heap.update p f).get? p = some { cls:=.type "list",data:=.seq its'.toArray n' }:=by
  rw [Heap.get?_update_self f ho (by rw [hf] <;> rfl),hf]
 refine I.write (x:=p) (e:=p) (by rw [h]; trivial) (.inl rfl) (fun b u hb q=>(Heap.get?_update_other _ _ (Ne.symm hb)).trans q) ⟨_,e⟩ ?_
 exact ⟨hz,its',n',r,e⟩
def TX:V -> V -> V -> Hp -> (Hp -> Prop) -> Prop:=fun o i v H Q=>∃ p xs k j,o = .ref p /\ i = .int k /\ H p = some (.lst xs) /\ ixN xs.length k = some j /\ Q (upd H p (.lst (xs.set j v)))
theorem wU:PSet X TX:=by
 intro pins s σ H o i v ov iv u Q I ro ri rv h
 obtain ⟨p,xs,k,j,rfl,rfl,hp,hj,q⟩:=h
 cases ro
 obtain ⟨t,rfl⟩:=ri
 obtain ⟨its,n,r,ho,hz⟩:=I.lst hp
 obtain ⟨h1,h2,h3,h4⟩:=YF hj
 have hl:=r.length
 have hn:=ra
 have I':Inv X pins σ (upd H p (.lst (xs.set j v))) { s with heap:=s.heap.update p (Obj.mapSeq (·.setIfInBounds j u)) } :=
  I.lstUpd hp ho (Zy its n j u) (r.set rv j) (by rw [List.length_set]; exact hz) s.toks
 by_cases h0:0 <= k
 ·have hk:k.toNat = j:=by
   rw [seqIndex_of h0 h4] at h1
   exact Option.some.inj h1
  exact PySem.W.ki_setAt ho h0 (by omega) (by rw [List.size_toArray,← hl]; exact h4) (by rw [hk]; exact ⟨_,I',q⟩)
 ·have hk:(k + (its.toArray.size:Int)).toNat = j:=by
   rw [seqIndex_neg (by omega) h3] at h1
   rw [List.size_toArray,← hl]
   exact Option.some.inj h1
  exact PySem.W.ki_setBack ho (by omega) (by rw [List.size_toArray,← hl]; exact h3) (by omega) (by rw [hk]; exact ⟨_,I',q⟩)
def x9:V -> Bool
 | .non=>true
 | .bl _=>true
 | .int _=>true
 | .str _=>true
 | _=>false
def eqV:V -> V -> Bool
 | .non,.non=>true
 | .bl a,.bl b=>a == b
 | .bl a,.int b=>(if a then 1 else 0) == b
 | .int a,.bl b=>a == (if b then 1 else 0)
 | .int a,.int b=>a == b
 | .str a,.str b=>a == b
 | _,_=>false
theorem Vm {A:Around} {s:Shared} {y x:V} {u v:Value} (ry:RelV y u) (rx:RelV x v) (fy:x9 y = true) (fx:x9 x = true):SeqAt.EqAt A s u v (eqV y x):=by
 cases y with
 | non =>
  cases ry
  cases x with
  | non=>cases rx; exact SeqAt.EqAt.same _
  | bl b=>cases rx; exact SeqAt.EqAt.none_bool b
  | int b=>obtain ⟨t,rfl⟩:=rx; exact SeqAt.EqAt.none_int b t
  | str b=>obtain ⟨t,rfl⟩:=rx; exact SeqAt.EqAt.none_str b t
  | _=>exact absurd (show false = true from fx) Bool.false_ne_true
 | bl a =>
  cases ry
  cases x with
  | non=>cases rx; exact SeqAt.EqAt.bool_none a
  | bl b=>cases rx; exact SeqAt.EqAt.bool_bool a b
  | int b=>obtain ⟨t,rfl⟩:=rx; exact SeqAt.EqAt.bool_int a b t
  | str b=>obtain ⟨t,rfl⟩:=rx; exact SeqAt.EqAt.bool_str a b t
  | _=>exact absurd (show false = true from fx) Bool.false_ne_true
 | int a =>
  obtain ⟨t',rfl⟩:=ry
  cases x with
  | non=>cases rx; exact SeqAt.EqAt.int_none a t'
  | bl b=>cases rx; exact SeqAt.EqAt.int_bool a t' b
  | int b=>obtain ⟨t,rfl⟩:=rx; exact SeqAt.EqAt.int_int a t' b t
  | str b=>obtain ⟨t,rfl⟩:=rx; exact SeqAt.EqAt.int_str a t' b t
  | _=>exact absurd (show false = true from fx) Bool.false_ne_true
 | str a =>
  obtain ⟨t',rfl⟩:=ry
  cases x with
  | non=>cases rx; exact SeqAt.EqAt.str_none a t'
  | bl b=>cases rx; exact SeqAt.EqAt.str_bool a t' b
  | int b=>obtain ⟨t,rfl⟩:=rx; exact SeqAt.EqAt.str_int a t' b t
  | str b=>obtain ⟨t,rfl⟩:=rx; exact SeqAt.EqAt.str_str a t' b t
  | _=>exact absurd (show false = true from fx) Bool.false_ne_true
 | _=>exact absurd (show false = true from fy) Bool.false_ne_true
def eqU (x:V) (u:Value):Bool:=match u with
 | .none=>eqV .non x
 | .bool b=>eqV (.bl b) x
 | .int i _=>eqV (.int i) x
 | .str z _=>eqV (.str z) x
 | _=>false
theorem Vn {x y:V} {u:Value} (r:RelV y u) (f:x9 y = true):eqU x u = eqV y x:=by
 cases y with
 | non=>cases r; rfl
 | bl b=>cases r; rfl
 | int i=>obtain ⟨t,rfl⟩:=r; rfl
 | str z=>obtain ⟨t,rfl⟩:=r; rfl
 | _=>exact absurd (show false = true from f) Bool.false_ne_true
theorem qA {x:V}:∀ {xs:List V} {us:List Value},Vals xs us -> xs.all x9 = true -> us.any (eqU x) = xs.any fun y=>eqV y x
 | _,_,.nil,_=>rfl
 | y :: xs,u :: us,.cons r t,f=>by
  rw [List.all_cons,Bool.and_eq_true] at f
  rw [List.any_cons,List.any_cons,Vn r f.1,qA t f.2]
theorem tV {A:Around} {s:Shared} {x:V} {v:Value} (rx:RelV x v) (fx:x9 x = true):∀ {xs:List V} {us:List Value},Vals xs us -> xs.all x9 = true -> ∀ u ∈ us,SeqAt.EqAt A s u v (eqU x u)
 | _,_,.nil,_=>fun u hu=>by cases hu
 | y :: xs,u :: us,.cons r t,f=>fun u' hu=>by
  rw [List.all_cons,Bool.and_eq_true] at f
  rcases List.mem_cons.mp hu with rfl | hu
  ·rw [Vn r f.1]; exact Vm r rx f.1 fx
  ·exact tV rx fx t f.2 u' hu
def inV (x:V) (xs:List V):Bool:=xs.any fun y=>eqV y x
def rIn (K:FG7) (neg:Bool):R2:=fun x y H Q=>∃ p xs,y = .ref p /\ (SqL K H p xs \/ SqT K H p xs) /\ x9 x = true /\ xs.all x9 = true /\ Q (.bl (if neg then !inV x xs else inV x xs)) H
theorem rk:OpR X (compareOp .In) (rIn X.K false):=by
 intro pins s σ H x y v u Q I rx ry h
 obtain ⟨p,xs,rfl,hq,fx,fs,q⟩:=h
 cases ry
 rcases hq with hq | hq
 ·obtain ⟨its,r,pl,hz⟩:=I.list hq
  refine SeqAt.in_listAt (eqU x) pl.isList (fun w hw=>tV rx fx r fs w (by simpa using hw)) ⟨.bl _,H,I,rfl,?_⟩
  rw [show its.toArray.any (eqU x) = its.any (eqU x) by simp,qA r fs]
  exact q
 ·obtain ⟨its,r,pl,hz⟩:=I.tuple hq
  refine SeqAt.in_tupleAt (eqU x) pl (fun w hw=>tV rx fx r fs w (by simpa using hw)) ⟨.bl _,H,I,rfl,?_⟩
  rw [show its.toArray.any (eqU x) = its.any (eqU x) by simp,qA r fs]
  exact q
theorem zq:xw X (.builtin "len") (fun xs H Q=>∃ p ys,xs = [.ref p] /\ (SqL X.K H p ys \/ SqT X.K H p ys) /\ Q (.int ys.length) H):=by
 intro pins s σ H xs us Q I r h
 obtain ⟨p,ys,rfl,hq,q⟩:=h
 obtain ⟨u,rfl,rx⟩:=wS r
 cases rx
 have hn:=ra
 rcases hq with hq | hq
 ·obtain ⟨its,r',pl,hz⟩:=I.list hq
  have hlen:=r'.length
  exact Calls.call_len_list pl.isList (by simp only [List.size_toArray] <;> omega) ⟨.int ys.length,H,I.tok _,⟨s.toks + 1,by rw [List.size_toArray,hlen]⟩,q⟩
 ·obtain ⟨its,r',pl,hz⟩:=I.tuple hq
  have hlen:=r'.length
  exact len_tuple pl (by simp only [List.size_toArray] <;> omega) ⟨.int ys.length,H,I.tok _,⟨s.toks + 1,by rw [List.size_toArray,hlen]⟩,q⟩
theorem xw.or {f:Value} {r r':List V -> Hp -> VK -> Prop} (h:xw X f r) (h':xw X f r'):xw X f (fun xs H Q=>r xs H Q \/ r' xs H Q):=by
 intro pins s σ H xs us Q I rs q
 rcases q with q | q
 ·exact h pins s σ H xs us Q I rs q
 ·exact h' pins s σ H xs us Q I rs q
theorem xm:xw X (.type "list") (fun xs H Q=>∃ p ys,xs = [.ref p] /\ (SqL X.K H p ys \/ SqT X.K H p ys) /\ ∀ l,H l = none -> Q (.ref l) (upd H l (.lst ys))):=by
 intro pins s σ H xs us Q I r h
 obtain ⟨p,ys,rfl,hq,q⟩:=h
 obtain ⟨u,rfl,rx⟩:=wS r
 cases rx
 have fin:∀ (its:List Value),Vals ys its -> ys.length <= sizeLine -> ∀ (h':Heap) (c':Nat),(∀ b o',s.heap.get? b = some o' -> h'.get? b = some o') →
   h'.get? s.heap.objs.size = some { cls:=.type "list",dict:=none,data:=.seq its.toArray c',slots:=#[] } -> EP X pins σ Q (.ref s.heap.objs.size) { s with heap:=h' }:=fun its r' hz h' c' kp e =>
  ⟨.ref s.heap.objs.size,_,I.laid (t':=s.toks) kp (Nat.le_refl _) (show z5 X.prog X.w _ h' _ (.lst ys) from ⟨hz,its,c',r',e⟩),rfl,q _ (I.hok.fresh (Nat.le_refl _))⟩
 rcases hq with hq | hq
 ·obtain ⟨its,r',pl,hz⟩:=I.list hq
  have hlen:=r'.length
  obtain ⟨o,ho,hc,n,hd⟩:=pl.isList
  exact call_list_seq p (.inl rfl) ho hc hd (fun h' c' kp e=>fin its r' hz h' c' kp e) (by simp only [List.size_toArray] <;> omega)
 ·obtain ⟨its,r',pl,hz⟩:=I.tuple hq
  have hlen:=r'.length
  obtain ⟨o,ho,hc,n,hd⟩:=pl
  exact call_list_seq p (.inr rfl) ho hc hd (fun h' c' kp e=>fin its r' hz h' c' kp e) (by simp only [List.size_toArray] <;> omega)
theorem zN:xw X (.type "tuple") (fun xs H Q=>∃ p ys,xs = [.ref p] /\ ((SqL X.K H p ys /\ ∀ l,H l = none -> Q (.ref l) (upd H l (.tup ys))) \/ (SqT X.K H p ys /\ Q (.ref p) H))):=by
 intro pins s σ H xs us Q I r h
 obtain ⟨p,ys,rfl,h⟩:=h
 obtain ⟨u,rfl,rx⟩:=wS r
 cases rx
 rcases h with ⟨hq,q⟩ | ⟨hq,q⟩
 ·obtain ⟨its,r',pl,hz⟩:=I.list hq
  have hlen:=r'.length
  refine call_tuple_list pl.isList (fun h' kp=>?_) (by simp only [List.size_toArray] <;> omega)
  have I1:Inv X pins σ H { s with heap:=h' }:=I.kept (t':=s.toks) kp
  have I2:Inv X pins σ (upd H h'.objs.size (.tup ys)) { s with heap:=h'.push { cls:=.type "tuple",data:=.seq its.toArray } } :=
   I1.laid (t':=s.toks) (fun b o e=>Heap.get?_push_of_some _ e) (Nat.le_refl _) (show z5 X.prog X.w _ _ _ (.tup ys) from ⟨hz,its,r',IsTup.new _ _⟩)
  exact ⟨.ref h'.objs.size,_,I2,rfl,q _ (I1.hok.fresh (Nat.le_refl _))⟩
 ·obtain ⟨its,r',pl,hz⟩:=I.tuple hq
  exact call_tuple_same pl ⟨.ref p,H,I,rfl,q⟩
def tyV (K:FG7) (T:String) (x:V) (H:Hp):Prop:=match x with
 | .str _=>T = "str"
 | .int _=>T = "int"
 | .ref p=>(T = "list" /\ ∃ xs,SqL K H p xs) \/ (T = "tuple" /\ ∃ o,K.lookup p = some o /\ o.cls = .type "tuple" /\ o.dict = none) ∨
   (T = "dict" /\ ((∃ kvs,H p = some (.dK kvs)) \/ ∃ kvs,H p = some (.dT kvs))) \/ (T = "set" /\ ∃ S n,H p = some (.set S n))
 | _=>False
theorem UE {pins:List (Addr × Obj)} {σ:St} {H:Hp} {s:Shared} {T:String} {x:V} {v:Value} (I:Inv X pins σ H s) (r:RelV x v) (ty:tyV X.K T x H) :
  s.TypeIs v T /\ ∀ a,v = .ref a -> ∃ ob,s.heap.get? a = some ob /\ ob.dict = none:=by
 cases x with
 | str z =>
  obtain ⟨t,rfl⟩:=r
  cases (show T = "str" from ty)
  exact ⟨typeIs_str s z t,fun _ e=>nomatch e⟩
 | int i =>
  obtain ⟨t,rfl⟩:=r
  cases (show T = "int" from ty)
  exact ⟨typeIs_int s i t,fun _ e=>nomatch e⟩
 | ref p =>
  cases r
  rcases ty with ⟨rfl,xs,hq⟩ | ⟨rfl,o,hk,hc,hd⟩ | ⟨rfl,hk⟩ | ⟨rfl,S,n,hk⟩
  ·obtain ⟨its,_,pl,_⟩:=I.list hq
   refine ⟨pl.isList.typeIs,fun a e=>?_⟩
   cases e
   obtain ⟨o,n,e,c,hd,_⟩:=pl
   exact ⟨o,e,hd⟩
  ·refine ⟨⟨o,I.kIn p o hk,hc⟩,fun a e=>?_⟩
   cases e
   exact ⟨o,I.kIn _ o hk,hd⟩
  ·have z:∃ o,s.heap.get? p = some o /\ o.ExactDict:=by
    rcases hk with ⟨kvs,hk⟩ | ⟨kvs,hk⟩
    ·obtain ⟨_,_,_,_,o,_,_,e,ex,_⟩:=I.hok p _ hk
     exact ⟨o,e,ex⟩
    ·obtain ⟨_,_,_,_,o,_,_,e,ex,_⟩:=I.hok p _ hk
     exact ⟨o,e,ex⟩
   obtain ⟨o,e,ex⟩:=z
   refine ⟨⟨o,e,ex.1⟩,fun a e2=>?_⟩
   cases e2
   exact ⟨o,e,ex.2.1⟩
  ·obtain ⟨o,_,_,_,e,ex,_⟩:=I.hok p _ hk
   refine ⟨⟨o,e,ex.1⟩,fun a e2=>?_⟩
   cases e2
   exact ⟨o,e,ex.2.1⟩
 | _=>exact False.elim ty
def tBM (K:FG7) (T:String) (r:V -> List V -> Hp -> VK -> Prop) (to:TE) (t:TA):TE:=fun σ H Q=>to σ H fun x H1=>tyV K T x H1 /\ t σ H1 fun xs H2=>r x xs H2 Q
variable {o e:Expr} {es:List Expr} {to:TE} {t:TA} {name:Str} {apos cpos:Pos} {T id:String} {r:V -> List V -> Hp -> VK -> Prop}
theorem tW (pa:PlainAttrs T) (slot:Slot T name id) (hty:typeOf (.builtin id) = pure (.type "method_descriptor")) (hm:MtR X id r) (ho:PE X o to) (ha:PA X (e :: es) t)
  (hbase:attributeBase o name X.env (eval o X.env) = eval o X.env:=by rfl)
  (hfew:((backTo cpos (starEach (e :: es) X.env)).all (fun x=>!x.1) && (backToKw cpos (keywordEach [] X.env)).all (fun x=>x.1.isSome)
   && decide ((e :: es).length + ([]:List Keyword).length + (if ([]:List Keyword).isEmpty then 0 else 1) < 30)) = true:=by rfl)
  (hline:(apos.endLine == cpos.line) = true:=by rfl) (hs:starEach (e :: es) X.env = (false,eval e X.env) :: starEach es X.env:=by rfl) (hplain:(backTo cpos (starEach es X.env)).any (·.1) = false:=by rfl) :
  PE X (.Call (.Attribute o name apos) (e :: es) [] cpos) (tBM X.K T r to t):=by
 intro pins s σ H Q I h
 refine wpAny_Call_method_late hbase hfew hline rfl (thn (ho pins s σ H _ I h) fun v s1 ⟨x,H1,I1,r1,ty,q1⟩=>?_)
 obtain ⟨h1,h2⟩:=UE I1 r1 ty
 refine ⟨T,id,pa,slot,hty,h1,h2,?_⟩
 have hA:=ha cpos pins s1 σ H1 _ I1 q1
 rw [hs] at hA ⊢
 refine Calls.callWith_builtin (by show (false || (backTo cpos (starEach es X.env)).any (·.1)) = false; rw [hplain] <;> rfl) (Calls.evalArgs_plain ?_)
 exact thn hA fun us s2 ⟨vs,H2,I2,r2,q2⟩=>hm pins s2 σ H2 x vs v us Q I2 r1 r2 q2
end
end L2
namespace L2
open PySem PySem.Spec PyProof.Rows
def MtM (X:Cx) (id:String) (r:V -> List V -> Hp -> VK -> Prop):Prop :=
 ∀ (pins:List (Addr × Obj)) (s:Shared) (σ:St) (H:Hp) (x:V) (xs:List V) (v:Value) (us:List Value) (Q:VK),Inv X pins σ H s -> RelV x v -> Vals xs us -> r x xs H Q →
  wpAny (model X.prog X.w) X.A (call (.builtin id) (v :: us)) (EP X pins σ Q) X.xe s
theorem Vals.one:∀ {x:V} {us:List Value},Vals [x] us -> ∃ u,us = [u] /\ RelV x u
 | _,_,.cons r .nil=>⟨_,rfl,r⟩
theorem Vals.zero:∀ {us:List Value},Vals [] us -> us = []
 | _,.nil=>rfl
theorem Vals.dropLast {xs:List V} {us:List Value} (h:Vals xs us):Vals xs.dropLast us.dropLast:=by
 induction h with
 | nil=>exact .nil
 | cons r t ih =>
  cases t with
  | nil=>exact .nil
  | cons q t'=>exact .cons r ih
theorem Vals.eraseIdx:∀ {xs:List V} {us:List Value} (i:Nat),Vals xs us -> Vals (xs.eraseIdx i) (us.eraseIdx i)
 | _,_,_,.nil=>.nil
 | _,_,0,.cons _ t=>t
 | _,_,i + 1,.cons r t=>.cons r (Vals.eraseIdx i t)
theorem Vals.reverse {xs:List V} {us:List Value} (h:Vals xs us):Vals xs.reverse us.reverse:=by
 induction h with
 | nil=>exact .nil
 | cons r t ih=>rw [List.reverse_cons,List.reverse_cons]; exact Vals.append ih (.cons r .nil)
theorem Vals.rep {xs:List V} {us:List Value} (h:Vals xs us):∀ k:Nat,Vals (List.replicate k xs).flatten (List.replicate k us).flatten
 | 0=>.nil
 | k + 1=>by
  rw [List.replicate_succ,List.replicate_succ,List.flatten_cons,List.flatten_cons]
  exact Vals.append h (Vals.rep h k)
theorem rp {α:Type}:∀ (l:List α) (i:Nat),(l.eraseIdx i).length <= l.length
 | [],_=>Nat.le_refl _
 | _ :: _,0=>Nat.le_succ _
 | _ :: r,i + 1=>Nat.succ_le_succ (rp r i)
theorem rq (its:List Value):∀ (k:Nat) (acc:List Value),
  List.foldl (fun x1 x2=>x1 ++ x2) acc.toArray (List.replicate k its.toArray) = (acc ++ (List.replicate k its).flatten).toArray
 | 0,acc=>by simp
 | k + 1,acc=>by
  have e:acc.toArray ++ its.toArray = (acc ++ its).toArray:=by simp
  have e2:(acc ++ its) ++ (List.replicate k its).flatten = acc ++ (List.replicate (k + 1) its).flatten:=by
   rw [List.replicate_succ,List.flatten_cons,List.append_assoc]
  rw [← e2,← rq its k (acc ++ its),← e,List.replicate_succ,List.foldl_cons]
section
variable {X:Cx} {pins:List (Addr × Obj)} {σ:St} {H:Hp} {s:Shared} {l b:Addr} {xs ys zs:List V}
theorem Inv.lset {its its':List Value} {n:Nat} {f:Array Value -> Array Value} {t':Nat} (I:Inv X pins σ H s) (hH:H l = some (.lst xs))
  (e:s.heap.get? l = some { cls:=.type "list",data:=.seq its.toArray n }) (hf:f its.toArray = its'.toArray) (hv:Vals ys its') (hz:ys.length <= sizeLine) :
  Inv X pins σ (upd H l (.lst ys)) { s with heap:=s.heap.update l (Obj.mapSeq f),toks:=t' }:=by
 have q:=PySem.IsL.update e f
 rw [hf] at q
 refine I.write (x:=l) (e:=l) (by rw [hH]; exact trivial) (.inl rfl) (fun b' u hb hu=>(Heap.get?_update_other s.heap (Obj.mapSeq f) (Ne.symm hb)).trans hu) ⟨_,q⟩ ?_
 exact ⟨hz,its',_,hv,q⟩
theorem Inv.lnew {its:List Value} {t':Nat} (I:Inv X pins σ H s) (hv:Vals ys its) (hz:ys.length <= sizeLine) :
  Inv X pins σ (upd H s.heap.objs.size (.lst ys)) { s with heap:=s.heap.push { cls:=.type "list",data:=.seq its.toArray },toks:=t' } :=
 I.laid (fun _ _ q=>Heap.get?_push_of_some _ q) (Nat.le_refl _) ⟨hz,its,0,hv,Heap.get?_push_size _ rfl⟩
theorem Inv.fresh (I:Inv X pins σ H s):H s.heap.objs.size = none:=I.hok.fresh (Nat.le_refl _)
theorem Inv.lstM (I:Inv X pins σ H s) (hH:H l = some (.lst xs)):xs.length <= sizeLine /\ ∃ (its:List Value) (n:Nat),Vals xs its /\ xs.length = its.length /\ s.heap.get? l = some { cls:=.type "list",data:=.seq its.toArray n }:=by
 obtain ⟨z,its,n,r,e⟩:=I.hok l _ hH
 exact ⟨z,its,n,r,r.length,e⟩
theorem Wp {n:Nat} (h:n <= sizeLine):Builtin.List.listTooLong n = false:=by
 unfold Builtin.List.listTooLong
 exact decide_eq_false (by omega)
end
section
variable {X:Cx}
def VP:V -> List V -> Hp -> VK -> Prop:=fun x vs H Q=>∃ l xs y,x = .ref l /\ vs = [y] /\ H l = some (.lst xs) /\ xs.length < sizeLine /\ Q .non (upd H l (.lst (xs ++ [y])))
theorem wa:MtM X "list.append" VP:=by
 intro pins s σ H x vs v us Q I rx rv h
 obtain ⟨l,xs,y,rfl,rfl,hH,hz,q⟩:=h
 cases rx
 obtain ⟨u,rfl,ru⟩:=rv.one
 obtain ⟨z,its,n,r,hl,e⟩:=I.lstM hH
 refine call_meets F.slot_list_append ⟨_,e,rfl⟩ F.entry_list_append (F.args_list_append_2 _ _) (PySem.list_append l its.toArray n u (by rw [List.size_toArray]; omega)) ⟨e,?_⟩
 refine ⟨.non,_,I.lset (its':=its ++ [u]) hH e (by simp) (r.append (.cons ru .nil)) ?_,rfl,q⟩
 rw [List.length_append,List.length_singleton]
 omega
def UF:V -> List V -> Hp -> VK -> Prop:=fun x vs H Q=>∃ l xs i k y,x = .ref l /\ vs = [.int i] /\ H l = some (.lst xs) /\ -(2 ^ 63) <= i /\ i < 2 ^ 63 /\ seqIndex? i xs.length = some k /\ xs[k]? = some y /\ Q y (upd H l (.lst (xs.eraseIdx k)))
theorem jz:MtM X "list.pop" UF:=by
 intro pins s σ H x vs v us Q I rx rv h
 obtain ⟨l,xs,i,k,y,rfl,rfl,hH,h1,h2,hk,hy,q⟩:=h
 cases rx
 obtain ⟨u,rfl,ru⟩:=rv.one
 obtain ⟨t,rfl⟩:=ru
 obtain ⟨z,its,n,r,hl,e⟩:=I.lstM hH
 obtain ⟨w,hw,rw'⟩:=r.get hy
 refine call_meets F.slot_list_pop ⟨_,e,rfl⟩ F.entry_list_pop (F.args_list_pop_2 _ _)
  (MeetsSeq.list_pop_at l its.toArray n i t k w (fitsIndex_both h1 h2) (by rw [List.size_toArray,← hl]; exact hk) (by rw [← Array.getElem?_toList]; exact hw) (by rw [List.size_toArray]; omega)) ⟨e,?_⟩
 refine ⟨y,_,I.lset (its':=its.eraseIdx k) hH e ?_ (r.eraseIdx k) ?_,rw',q⟩
 ·show its.toArray.eraseIdxIfInBounds k = (its.eraseIdx k).toArray
  rw [List.eraseIdxIfInBounds_toArray]
 ·have:=rp xs k
  omega
def rCat:R2:=fun x y H Q=>∃ l b xs zs,x = .ref l /\ y = .ref b /\ H l = some (.lst xs) /\ H b = some (.lst zs) /\ xs.length + zs.length <= sizeLine /\ ∀ p,H p = none -> Q (.ref p) (upd H p (.lst (xs ++ zs)))
theorem Vo:OpR X (binaryOp .Add) rCat:=by
 intro pins s σ H x y v u Q I rx ry h
 obtain ⟨l,b,xs,zs,rfl,rfl,hH,hB,hz,q⟩:=h
 cases rx
 cases ry
 obtain ⟨z,its,n,r,hl,e⟩:=I.lstM hH
 obtain ⟨z2,its2,n2,r2,hl2,e2⟩:=I.lstM hB
 refine PySem.P.add_list e e2 ?_ (by rw [List.size_toArray,List.size_toArray]; omega)
 have ea:its.toArray ++ its2.toArray = (its ++ its2).toArray:=by simp
 rw [ea]
 exact ⟨.ref _,_,I.lnew (t':=s.toks) (r.append r2) (by rw [List.length_append]; omega),rfl,q _ I.fresh⟩
def rRep:R2:=fun x y H Q=>∃ l k xs,x = .ref l /\ y = .int k /\ H l = some (.lst xs) /\ -(2 ^ 63) <= k /\ k < 2 ^ 63 /\ xs.length * k.toNat <= sizeLine ∧
 ∀ p,H p = none -> Q (.ref p) (upd H p (.lst (List.replicate k.toNat xs).flatten))
theorem VQ {α:Type} (xs:List α) (k:Nat):(List.replicate k xs).flatten.length = k * xs.length:=by
 induction k with
 | zero=>simp
 | succ k ih=>rw [List.replicate_succ,List.flatten_cons,List.length_append,ih,Nat.succ_mul,Nat.add_comm]
theorem UG:OpR X (binaryOp .Mult) rRep:=by
 intro pins s σ H x y v u Q I rx ry h
 obtain ⟨l,k,xs,rfl,rfl,hH,h1,h2,hz,q⟩:=h
 cases rx
 obtain ⟨t,rfl⟩:=ry
 obtain ⟨z,its,n,r,hl,e⟩:=I.lstM hH
 have hlen:its.toArray.size * k.toNat <= sizeLine:=by rw [List.size_toArray,← hl]; exact hz
 have hcap:¬ its.toArray.size * k.toNat > (2 ^ 63 - 1) / 8:=by
  have:(sizeLine:Nat) <= (2 ^ 63 - 1) / 8:=by decide
  omega
 have hfit:¬ (!Builtin.List.listFitsIndex k) = true:=by
  rw [fitsIndex_both h1 h2]
  exact Bool.false_ne_true
 have hlong:¬ Builtin.List.listTooLong (its.toArray.size * k.toNat) = true:=by
  rw [Wp hlen]
  exact Bool.false_ne_true
 have hnew:List.foldl (fun x1 x2=>x1 ++ x2) #[] (List.replicate (if its.toArray.isEmpty = true then 0 else k.toNat) its.toArray) = (List.replicate k.toNat its).flatten.toArray:=by
  have f0:∀ m:Nat,List.foldl (fun x1 x2=>x1 ++ x2) #[] (List.replicate m its.toArray) = (List.replicate m its).flatten.toArray:=fun m=>by
   have:=rq its m []
   rw [List.nil_append] at this
   exact this
  rw [f0]
  cases its with
  | nil=>simp
  | cons a r'=>rw [if_neg (by simp)]
 refine wpAny_binaryOp_repeat_ref (T:="list") (U:="int") (by decide) ⟨_,e,rfl⟩ (fun s'=>typeIs_int s' k t) noFill_list_mul F.fills_int_mul F.slot_int_rmul repeat_list F.slot_int_index.lookup
  (call_meets F.slot_int_rmul (typeIs_int s k t) F.entry_int_rmul (F.args_int_rmul_2 _ _) (int___rmul___int_list k t l its.toArray n)
   ⟨e,rfl,⟨_,e,rfl⟩,call_meets F.slot_list_mul ⟨_,e,rfl⟩ F.entry_list_mul (F.args_list_mul_2 _ _) (AutoListH.list___mul___list_int_3 l its.toArray n k t hfit hcap hlong) ⟨e,?_⟩⟩)
 rw [hnew]
 exact ⟨.ref _,_,I.lnew (t':=s.toks) (r.rep k.toNat) (by rw [VQ,Nat.mul_comm]; exact hz),rfl,q _ I.fresh⟩
end
end L2
namespace Att
open PySem PySem.W PySem.Calls PyProof.Rows
theorem v5 {P:Params} {h:Heap}:∀ (ns:List Int) (vs:List Value),WellAll P h vs (ns.map WData.int) -> IntsAre vs ns:=by
 intro ns
 induction ns with
 | nil =>
  intro vs w
  rw [List.map_nil] at w
  cases w
  exact .nil
 | cons n ns ih =>
  intro vs w
  rw [List.map_cons] at w
  cases w with
  | cons a b =>
   cases a
   exact .cons _ _ (ih _ b)
theorem YH {l:OpenLaw} {n:Nat} (hn:l.most = some n) {P:Params} {h:Heap} {args:List WData} {vals:List Value}
  (hpre:l.row.toRowW.claim.pre args = true) (hwl:WellAll P h vals args) :
  ∃ a vs ns,vals = [Value.ref a] /\ args = [WData.list (ns.map WData.int)] /\ h.get? a = some { cls:=.type "list",data:=.seq vs.toArray } /\ IntsAre vs ns /\ ns.length <= n:=by
 have hsh:WShape.hasAll [] args [.list .int] = true:=(pre_splitW hpre).1
 have hc:l.pre.holds [] { args:=args } = true:=(pre_splitW hpre).2
 obtain ⟨d,r,rfl,h1,h2⟩:=hasAllW_cons hsh
 obtain rfl:=hasAllW_nil h2
 obtain ⟨xs,rfl,h3⟩:=hasW_list h1
 obtain ⟨ns,rfl⟩:=items_int h3
 have hlen:ns.length <= n:=by
  unfold OpenLaw.pre at hc
  have h4:(WTm.not (.lt (.lit (.int (n:Int))) (.len (.arg 0)))).holds [] { args:=[.list (ns.map .int)] } = true:=by
   have h4:=(holds_andW hc).1
   rw [hn] at h4
   exact h4
  have h5:=condW_of h4 (w_not (w_lt w_lit (w_len_list (w_arg rfl))))
  rw [List.length_map] at h5
  refine Nat.le_of_not_lt fun q=>?_
  have q':(n:Int) < ((ns.length:Nat):Int):=by omega
  first
   | (rw [decide_eq_true q'] at h5; exact absurd h5 (by decide))
   | (simp at h5; omega)
 cases hwl with
 | cons w1 w2 =>
  cases w2
  cases w1 with
  | list ho hall=>exact ⟨_,_,ns,rfl,rfl,ho,v5 ns _ hall,hlen⟩
theorem YI (l:OpenLaw) (args:List WData):l.row.toRowW.claim.post args (.bool true) args = true :=
 postW_of (r:=l.row.toRowW) (X:=(true == true))
  (show WShape.has [] (.bool true) .bool = true by first | rfl | decide | simp [WShape.has,WShape.arms,WShape.armsAll])
  (show (WTm.eq .res (.lit (.bool true))).value [] { args:=args,res:=some (.bool true),after:=args } = some (.bool (true == true)) from w_eq_bool (w_res rfl) w_lit) rfl
theorem attach_call {l:OpenLaw} {n:Nat} {q:Program} {loose:List Str} {XP:(Str -> Option Value) -> Heap -> Prop} {YP:World -> Heap -> Prop} {d:DefRec}
  (hn:l.most = some n) (hdf:d.params.defaults = [])
  (call:∀ (w:World) (s₀ s₁:Shared) (mg mb:Str -> Option Value) (fa:Addr) (o:Obj) (pm cd doc:Value) (a:Addr) (vs:List Value) (ns:List Int),
   Ground q loose [] XP w s₀ mg mb s₁.heap -> YP w s₁.heap →
   s₁.heap.get? fa = some o -> o.data = .func (docDef d.name d.params d.body d.scope pm cd doc) -> s₁.heap.CodeRec cd d.name -> mg d.name = some (.ref fa) →
   s₁.heap.get? a = some { cls:=.type "list",data:=.seq vs.toArray } -> IntsAre vs ns -> ns.length <= n -> s₁.gens = #[] →
   codeAny (model l.prog w) callerA (.call (.ref fa) ⟨[.ref a],[]⟩) (fun r s'=>r = .ok (.ret (.bool true)) /\ OldK s₁.heap s'.heap /\ s'.os = s₁.os /\ AllBare s'.gens) s₁) :
  WalkO q loose XP YP l.row.toRowW d [] (fun f vs=>PySem.call f vs):=by
 intro w s₀ s₁ mg mb G Y fa o pm cd doc dV kV ho hd hcd hD hmg hg args vals as hpre hlay hrd hwl hlo
 obtain rfl:dV = .none:=Dflts.none hD hdf
 obtain rfl:kV = .none:=Dflts.noKw hD
 obtain ⟨a,vs,ns,rfl,rfl,hobj,hints,hlen⟩:=YH hn hpre hwl
 refine enter_call (codeAny_mono (call w s₀ s₁ mg mb fa o pm cd doc a vs ns G Y ho (fd_plain hd) hcd hmg hobj hints hlen hg) fun r s' hq=>?_)
 obtain ⟨rfl,h2,h3,h4⟩:=hq
 exact ⟨.inl ⟨.bool true,.bool true,[],rfl,fun _=>rfl,.bool true,YI l _,fun _=>⟨List.Pairwise.nil,fun _ hm=>(nomatch hm)⟩⟩,h2,h3,h4⟩
end Att
namespace L2
open PySem PySem.Spec PyProof.Rows
theorem xC:∀ {vs:List Value} {ns:List Int},IntsAre vs ns -> Vals (ns.map V.int) vs
 | _,_,.nil=>.nil
 | _,_,.cons n t h=>.cons ⟨t,rfl⟩ (xC h)
def Only (H:Hp):Prop:=∀ b,H b = none \/ ∃ o xs,H b = some (.frz o (.lst xs))
theorem Wq {P:Program} {w:World} {K:FG7} {mg mb:Str -> Option Value} {CX:CXT} {k:Nat} {fa a:Addr} {fd:FuncData} {x:Str} {sp:Sp} {s₁:Shared} {vs:List Value} {ns:List Int}
  (KX:K.In s₁.heap) (hns:s₁.heap.Ns mainGlobals mg) (hb:s₁.heap.Ns builtinsNs mb) (hbb:∀ x:Str,x ≠ "__name__" -> mb x = bootBuiltins x) (hlim:s₁.heap.NoLimit) (hg:s₁.gens = #[])
  (ha:s₁.heap.get? a = some { cls:=.type "list",data:=.seq vs.toArray }) (hi:IntsAre vs ns) (hl:ns.length <= sizeLine) (hr:Room k callerA)
  (F:∀ base:Heap,K.In base -> base.Ns mainGlobals mg -> FnOk P w K mg base CX k fa fd [x] sp) (hbind:∀ (s:Shared) (u:Value),BindsTo s fd ⟨[u],[]⟩ [(x,u)])
  (hsp:∀ H:Hp,Only H -> SqL K H a (ns.map V.int) -> sp [.ref a] H (fun v _=>v = .bl true) fun _ _ _=>False)
  (hCX:∀ H e s',CX [] H s₁ (fun _ _ _=>False) e s' -> False) :
  codeAny (model P w) callerA (.call (.ref fa) ⟨[.ref a],[]⟩) (fun r s'=>r = .ok (.ret (.bool true)) /\ OldK s₁.heap s'.heap /\ s'.os = s₁.os /\ AllBare s'.gens) s₁:=by
 have rv:=xC hi
 have lenV:=hi.length
 -- from an abstract heap in which nothing but the script may be tracked
 have core:∀ H:Hp,Only H -> SqL K H a (ns.map V.int) -> HOk P w H s₁.heap -> (∀ b,H b ≠ none -> b = a) -> (H a ≠ none -> K.lookup a = none) →
   codeAny (model P w) callerA (.call (.ref fa) ⟨[.ref a],[]⟩) (fun r s'=>r = .ok (.ret (.bool true)) /\ OldK s₁.heap s'.heap /\ s'.os = s₁.os /\ AllBare s'.gens) s₁:=by
  intro H hO hS hok hA hK
  have base_of:∀ {b:Addr} {o:Obj},s₁.heap.get? b = some o -> H b = none -> (hidT s₁.heap H).get? b = some o:=fun e n=>Wf e n
  have noA:∀ {b:Addr} {o:Obj} {es:Array DictEntry} {ep:Nat},s₁.heap.get? b = some o -> o.data = .dict es ep -> H b = none:=fun {b o es ep} e d=>by
   cases q:H b with
   | none=>rfl
   | some u =>
    have e':b = a:=hA b (by rw [q]; simp)
    subst e'
    rw [ha] at e; cases e
    have d':Data.seq vs.toArray _ = Data.dict es ep:=d
    cases d'
  have nsK:∀ {b:Addr} {m:Str -> Option Value},s₁.heap.Ns b m -> (hidT s₁.heap H).Ns b m:=fun {b m} ⟨o,es,ep,e,d,r⟩=>⟨o,es,ep,base_of e (noA e d),d,r⟩
  have hKb:K.In (hidT s₁.heap H):=fun b o e=>base_of (KX b o e) (by
   cases q:H b with
   | none=>rfl
   | some u =>
    have e':b = a:=hA b (by rw [q]; simp)
    subst e'
    rw [hK (by rw [q]; simp)] at e; cases e)
  have hM:Mod K mg (hidT s₁.heap H):=⟨hKb,nsK hns,⟨mb,nsK hb,hbb⟩,let ⟨mc,h1,h2⟩:=hlim; ⟨mc,nsK h1,h2⟩⟩
  have e0:Env0 P w K mg (hidT s₁.heap H) callerA [] s₁ H:=⟨rfl,hM,fun b o e=>VF e,Nat.le_of_eq (Yp _ _),trivial,fun b hb=>absurd (show b ∈ ([]:List Addr) from hb) (by simp),hok,.of_eq hg⟩
  refine codeAny_mono ((F _ hKb (nsK hns)).run callerA [] s₁ H ⟨[.ref a],[]⟩ [.ref a] [.ref a] _ _ hr e0 (hbind s₁ (.ref a)) (.cons rfl .nil) (hsp H hO hS)) fun r s' h=>?_
  cases r with
  | error e=>exact (hCX H e s' h).elim
  | ok fl =>
   cases fl with
   | next=>exact False.elim h
   | brk=>exact False.elim h
   | cont=>exact False.elim h
   | ret u =>
    obtain ⟨v,H',os,bare,un,hok',r',q⟩:=h
    have q':v = .bl true:=q
    subst q'
    obtain rfl:u = Value.bool true:=r'
    refine ⟨rfl,OldK.of_keep fun b o e=>?_,os,bare⟩
    cases q:H b with
    | none=>exact un.keep b o e q (by intro z; exact absurd (show b ∈ ([]:List Addr) from z) (by simp)) (by simp)
    | some u =>
     rcases hO b with z | ⟨ob,xs,z⟩
     ·rw [q] at z; cases z
     ·have z2:=un.frzs b ob _ z
      obtain ⟨e1,_⟩:=hok b _ z
      obtain ⟨e2,_⟩:=hok' b _ z2
      rw [e] at e1; cases e1
      exact e2
 cases hk:K.lookup a with
 | some o =>
  -- the script is one of the module's own objects
  have e:=KX a o hk
  rw [ha] at e
  cases e
  refine core (fun _=>none) (fun _=>.inl rfl) (.inr ⟨_,vs.toArray,_,hk,rfl,rfl,rfl,by rw [List.size_toArray,lenV]; exact hl,by simpa using rv⟩) (fun b u z=>by have z':(none:Option HO) = some u:=z; cases z') (fun b z=>absurd rfl z) fun z=>absurd rfl z
 | none =>
  refine core (fun b=>if b = a then some (.frz { cls:=.type "list",data:=.seq vs.toArray } (.lst (ns.map V.int))) else none) (fun b=>?_) (.inl (.inr ⟨{ cls:=.type "list",data:=.seq vs.toArray },if_pos rfl⟩)) (fun b u z=>?_) (fun b z=>?_) fun _=>hk
  ·by_cases hb:b = a
   ·exact .inr ⟨_,_,if_pos hb⟩
   ·exact .inl (if_neg hb)
  ·by_cases hb:b = a
   ·have z':=(if_pos hb).symm.trans z
    cases z'
    subst hb
    exact ⟨ha,by rw [List.length_map]; exact hl,vs,_,rv,ha⟩
   ·have z':=(if_neg hb).symm.trans z
    cases z'
  ·by_cases hb:b = a
   ·exact hb
   ·exact absurd (if_neg hb) z
end L2
namespace L2
open PySem PySem.Spec PyProof.Rows
theorem walk_of {l:PySem.W.OpenLaw} {n k:Nat} {q:Program} {loose:List Str} {XP:(Str -> Option Value) -> Heap -> Prop} {YP:World -> Heap -> Prop} {d:DefRec} {K:Params -> FG7} {CX:World -> CXT} {sp:World -> Sp} {x:Str}
  (hn:l.most = some n) (hn2:n <= sizeLine) (hdf:d.params.defaults = []) (hr:Room k callerA)
  (hY:∀ (w:World) (h:Heap),YP w h -> (K w.params).In h)
  (F:∀ (w:World) (mg:Str -> Option Value) (fa:Addr) (h:Heap),(K w.params).In h -> h.Ns mainGlobals mg -> mg d.name = some (.ref fa) →
   ∃ fd:FuncData,(∀ (s:Shared) (u:Value),BindsTo s fd ⟨[u],[]⟩ [(x,u)]) ∧
    ∀ base:Heap,(K w.params).In base -> base.Ns mainGlobals mg -> FnOk l.prog w (K w.params) mg base (CX w) k fa fd [x] (sp w))
  (hsp:∀ (w:World) (H:Hp) (a:Addr) (ns:List Int),ns.length <= n -> Only H -> SqL (K w.params) H a (ns.map V.int) -> sp w [.ref a] H (fun v _=>v = .bl true) fun _ _ _=>False)
  (hCX:∀ (w:World) (H:Hp) (s:Shared) (e:Value) (s':Shared),CX w [] H s (fun _ _ _=>False) e s' -> False) :
  PySem.W.WalkO q loose XP YP l.row.toRowW d [] (fun f vs=>PySem.call f vs):=by
 refine Att.attach_call hn hdf fun w s₀ s₁ mg mb fa o pm cd doc a vs ns G Y ho hd hcd hmg hobj hints hlen hg=>?_
 have KX:=hY w _ Y
 obtain ⟨fd,hb,hF⟩:=F w mg fa _ KX G.T.g hmg
 exact Wq KX G.T.g G.T.b G.T.builtins G.T.nolimit hg hobj hints (Nat.le_trans hlen hn2) hr hF hb (fun H hO hS=>hsp w H a ns hlen hO hS) fun H e s'=>hCX w H s₁ e s'
end L2
namespace L2
open PySem PySem.Spec PyProof.Rows
def v6 (s:Stmt):Arguments:=match s with
 | .FunctionDef _ a _ _ _ _ _ _ _ _=>a
 | _=>{ posonlyargs:=[],args:=[],vararg:=none,kwonlyargs:=[],kw_defaults:=[],kwarg:=none,defaults:=[] }
def vh (s:Stmt):List Stmt:=match s with
 | .FunctionDef _ _ b _ _ _ _ _ _ _=>b
 | _=>[]
def zj (s:Stmt):Scope:=match s with
 | .FunctionDef _ _ _ _ _ _ sc _ _ _=>sc
 | _=>{ kind:=.function,names:=[],isGenerator:=false,isCoroutine:=false }
abbrev CX0:CXT:=fun _ _ _ _ _ _=>False
abbrev E0:XK:=fun _ _ _=>False
theorem TY {X:Cx}:YB CX0 X E0:=fun _ _ _ _ _ _ _ h=>h.elim
structure Fun (K:FG7) (x qual:Str) (st:Stmt) (f:Addr) (fd:FuncData):Prop where
 ex:∃ (oc:Value) (od:Option Addr) (kV doc pm:Value) (an:Option Addr) (cdv ct:Value) (osl:Array (Option Value)),
  fd = PySem.W.fnOf x qual (v6 st) (vh st) (zj st) .none kV doc pm an cdv ct /\ K.lookup f = some ⟨oc,od,.func fd,osl⟩ /\ PySem.W.codeIn K cdv qual = true
 kp:PySem.W.keepIn K (.ref f) = true
section
variable {P:Program} {w:World} {K:FG7} {mg:Str -> Option Value} {base:Heap}
theorem Fun.ok {x qual:Str} {st:Stmt} {f:Addr} {fd:FuncData} {N ps:List Str} {k:Nat} {sp:Sp} (F:Fun K x qual st f fd) (S:FnScope N ps (zj st)) (len:∀ vs H Q E,sp vs H Q E -> vs.length = ps.length)
  (hbody:∀ (cdv:Value) (A:Around) (outer:List Env) (s:Shared) (H:Hp) (vs:List V) (Q:VK) (E:XK),Room k (A.deeper (envOfC qual (zj st) s.heap.objs.size f cdv)) -> sp vs H Q E →
   ∃ t,PSs (cxOf CX0 P w K mg base N qual (zj st) f cdv A outer s H E).nox (vh st) t /\ t { nx:=fun _ H'=>Q .non H',rt:=Q } (start N vs) H):FnOk P w K mg base CX0 (k + 1) f fd ps sp:=by
 obtain ⟨oc,od,kV,doc,pm,an,cdv,ct,osl,rfl,lk,hcd⟩:=F.ex
 refine TU lk hcd S len fun A outer s H vs Q E hr hsp=>?_
 obtain ⟨t,h,q⟩:=hbody cdv A outer s H vs Q E hr hsp
 exact ⟨t,h.nox,q⟩
theorem Fun.binds {x qual:Str} {st:Stmt} {f:Addr} {fd:FuncData} {ps:List Str} (F:Fun K x qual st f fd)
  (h:∀ (kV doc pm:Value) (an:Option Addr) (cdv ct:Value) (us:List Value),us.length = ps.length -> bindArgs (PySem.W.fnOf x qual (v6 st) (vh st) (zj st) .none kV doc pm an cdv ct) ⟨us,[]⟩ = pure (ps.zip us)):v4 K fd ps []:=by
 obtain ⟨oc,od,kV,doc,pm,an,cdv,ct,osl,rfl,lk,hcd⟩:=F.ex
 exact .all (h kV doc pm an cdv ct)
theorem fun_mk {x qual:Str} {st:Stmt} {f:Addr} {oc:Value} {od an:Option Addr} {osl:Array (Option Value)} {kV doc pm cdv ct:Value} (l:K.lookup f = some ⟨oc,od,.func (PySem.W.fnOf x qual (v6 st) (vh st) (zj st) .none kV doc pm an cdv ct),osl⟩)
  (c:PySem.W.codeIn K cdv qual = true) (k:PySem.W.keepIn K (.ref f) = true):Fun K x qual st f (PySem.W.fnOf x qual (v6 st) (vh st) (zj st) .none kV doc pm an cdv ct):=⟨⟨oc,od,kV,doc,pm,an,cdv,ct,osl,rfl,l,c⟩,k⟩
end
theorem v7 {n:Nat} (h:n <= 1000):n < sizeLine:=Nat.lt_of_le_of_lt h (by decide)
section
variable {X:Cx}
theorem pv (i:Nat) {x:Str} {pos:Pos} (hN:X.N[i]? = some x:=by rfl) (hv:Vis X.env.scope x:=by first | exact Or.inl rfl | exact Or.inr (Or.inl rfl) | exact Or.inr (Or.inr rfl)) (hd:(x == ("__debug__":Str)) = false:=by decide)
  (hcd:(x == ("__classdict__":Str)) = false:=by decide):PE X (.Name x pos) (tVar i):=Ut hN hv hd hcd
end
theorem iteF {A B:Prop} (h:B):if false = true then A else B:=by
 rw [if_neg Bool.false_ne_true]
 exact h
theorem iteT {A B:Prop} (h:A):if true = true then A else B:=by
 rw [if_pos rfl]
 exact h
theorem ite2 {c A B:Prop} [Decidable c] (h1:c -> A) (h2:¬ c -> B):if c then A else B:=by
 by_cases h:c
 ·rw [if_pos h]
  exact h1 h
 ·rw [if_neg h]
  exact h2 h
def Same (H H':Hp):Prop:=∀ b o,H b = some o -> H' b = some o
theorem Same.refl (H:Hp):Same H H:=fun _ _ h=>h
theorem Same.trans {H H1 H2:Hp} (a:Same H H1) (b:Same H1 H2):Same H H2:=fun c o h=>b c o (a c o h)
theorem Same.free {H H':Hp} (e:Same H H') {l:Addr} (h:H' l = Option.none):H l = Option.none:=by
 cases q:H l with
 | none=>rfl
 | some o =>
  rw [e l o q] at h
  cases h
theorem Same.seq {K:FG7} {H H':Hp} {a:Addr} {xs:List V} (e:Same H H') (h:SqL K H a xs):SqL K H' a xs:=by
 rcases h with (h | ⟨o,h⟩) | h
 ·exact .inl (.inl (e _ _ h))
 ·exact .inl (.inr ⟨o,e _ _ h⟩)
 ·exact .inr h
end L2
namespace L3
open PySem PySem.Spec PyProof.Rows L2
theorem y0:bootBuiltins "len" = some (.builtin "len"):=by decide +kernel
theorem Zz:bootBuiltins "max" = some (.builtin "max"):=by decide +kernel
theorem VR:bootBuiltins "min" = some (.builtin "min"):=by decide +kernel
theorem z8:bootBuiltins "isinstance" = some (.builtin "isinstance"):=by decide +kernel
theorem Wr:bootBuiltins "all" = some (.builtin "all"):=by decide +kernel
theorem TZ:bootBuiltins "sum" = some (.builtin "sum"):=by decide +kernel
theorem jA:bootBuiltins "sorted" = some (.builtin "sorted"):=by decide +kernel
theorem UH:bootBuiltins "int" = some (.type "int"):=by decide +kernel
theorem UI:bootBuiltins "bool" = some (.type "bool"):=by decide +kernel
theorem yr:bootBuiltins "tuple" = some (.type "tuple"):=by decide +kernel
theorem v8:bootBuiltins "list" = some (.type "list"):=by decide +kernel
def TyV (K:FG7) (H:Hp) (x:V) (T:String):Prop:=match x with
 | .non=>T = "NoneType"
 | .bl _=>T = "bool"
 | .int _=>T = "int"
 | .str _=>T = "str"
 | .ref a=>(T = "tuple" /\ ∃ xs,SqT K H a xs) \/ (T = "list" /\ ∃ xs,SqL K H a xs) \/ (T = "dict" /\ ∃ kvs,H a = some (.dK kvs))
 | _=>False
section
variable {X:Cx} {a b c:Expr} {ta tb tc:TE} {pos:Pos}
def rIsi (K:FG7):List V -> Hp -> VK -> Prop:=fun xs H Q=>∃ x T t k,xs = [x,.ty T] /\ TyV K H x t /\ PySem.W.kitOne K (.type t) (.type T) = some k /\ Q (.bl k) H
theorem yk:xw X (.builtin "isinstance") (rIsi X.K):=by
 intro pins s σ H xs us Q I r h
 obtain ⟨x,T,t,k,rfl,ty,e,q⟩:=h
 obtain ⟨u,w',rfl,rx,rt⟩:=Wn r
 cases (show w' = Value.type T from rt)
 have fin:∀ tk,EP X pins σ Q (.bool k) { s with toks:=tk }:=fun tk=>⟨.bl k,H,I.tok _,rfl,q⟩
 cases x with
 | non=>cases (show t = "NoneType" from ty); exact x8 I rx .non e fin
 | bl y=>cases (show t = "bool" from ty); exact x8 I rx (.bl y) e fin
 | int i=>cases (show t = "int" from ty); exact x8 I rx (.int i) e fin
 | str y=>cases (show t = "str" from ty); exact x8 I rx (.str y) e fin
 | byt y=>exact ty.elim
 | flt y=>exact ty.elim
 | ty y=>exact ty.elim
 | ref a =>
  cases (show u = Value.ref a from rx)
  rcases ty with ⟨rfl,xs,hq⟩ | ⟨rfl,xs,hq⟩ | ⟨rfl,kvs,hq⟩
  ·obtain ⟨its,_,⟨o,h1,h2,_⟩,_⟩:=I.tuple hq
   exact PySem.W.kia_one PySem.W.kitx_tuple I.kIn ⟨o,h1,h2⟩ e (fun z=>nomatch z) fin
  ·obtain ⟨its,_,pl,_⟩:=I.list hq
   obtain ⟨o,h1,h2,_⟩:=pl.isList
   exact PySem.W.kia_one PySem.W.kitx_list I.kIn ⟨o,h1,h2⟩ e (fun z=>nomatch z) fin
  ·exact x8 (x:=V.ref a) I (show RelV (.ref a) (.ref a) from rfl) (.dK hq) e fin
theorem vG {x:Str} {T:String} {pos:Pos} (hg:Gl X x) (hm:X.mg x = none) (hv:bootBuiltins x = some (.type T)) (hn:x ≠ "__name__":=by decide) (hd:(x == ("__debug__":Str)) = false:=by decide):PE X (.Name x pos) (tC (.ty T)) :=
 VH hg hm hv (show RelV (.ty T) (Value.type T) from rfl) hn hd
theorem yw:OpR X (binaryOp .Mult) (rI IntMulOk fun i j=>.int (i * j)):=opI fun _ _ _ _ _ _ _ hc q=>mul_int q hc
def VS (i j:Int):Prop:=0 < j /\ j < 2 ^ 200
theorem VS.py {i j:Int} (h:VS i j):Builtin.divisionGoesByPylong i j = false:=by
 refine PyProof.noPylong_of_log2 ?_
 obtain ⟨h1,h2⟩:=h
 have h0:j.natAbs ≠ 0:=by omega
 have h3:j.natAbs < 2 ^ 200:=by
  have:(j.natAbs:Int) = j:=by omega
  have h4:((j.natAbs:Nat):Int) < ((2 ^ 200:Nat):Int):=by rw [this]; exact h2
  exact Int.ofNat_lt.mp h4
 exact Nat.lt_of_lt_of_le ((Nat.log2_lt h0).mpr h3) (by decide)
theorem tX:OpR X (binaryOp .FloorDiv) (rI VS fun i j=>.int (i / j)):=opI fun i j _ _ _ _ _ hc q=>by
 have:=hc.1
 refine floordiv_int (by omega) ?_ (.inl hc.py)
 rw [Int.fdiv_eq_ediv_of_nonneg i (by omega)]
 exact q
end
def zk (P:Program) (w:World) (K:FG7) (mg:Str -> Option Value) (base:Heap) (k:Nat) (x:Str) (ps:List Str) (sp:Sp):Prop :=
 ∃ (f:Addr) (fd:FuncData),FnOk P w K mg base CX0 k f fd ps sp /\ v4 K fd ps [] /\ PySem.W.keepIn K (.ref f) = true /\ mg x = some (.ref f)
theorem zk.mono {P:Program} {w:World} {K:FG7} {mg:Str -> Option Value} {base:Heap} {j k:Nat} {x:Str} {ps:List Str} {sp:Sp} (C:zk P w K mg base j x ps sp) (h:j <= k):zk P w K mg base k x ps sp:=by
 obtain ⟨f,fd,F,b,kp,m⟩:=C
 exact ⟨f,fd,F.mono h,b,kp,m⟩
section
variable {X:Cx} {k:Nat} {ps:List Str} {sp:Sp} {x:Str} {p pos:Pos} {e:Expr} {es:List Expr} {t:TA}
theorem zf (C:zk X.prog X.w X.K X.mg X.base k x ps sp) (hr:Room k X.A) (hg:Gl X x)
  (ha:PA X (e :: es) t) (hdb:(x == ("__debug__":Str)) = false:=by decide) (he:starEach (e :: es) X.env = (false,eval e X.env) :: starEach es X.env:=by rfl) (hpl:(backTo pos (starEach es X.env)).any (·.1) = false:=by rfl) :
  PE X (.Call (.Name x p) (e :: es) [] pos) (UB sp [] E0 t):=by
 obtain ⟨f,fd,F,b,kp,m⟩:=C
 exact VL F hr hg m kp b .nil TY ha hdb he hpl
end
structure Grow (m:List Addr) (H H':Hp):Prop where
 keep:∀ b o,b ∉ m -> H b = some o -> H' b = some o
 tup:∀ b xs,H b = some (.tup xs) -> H' b = some (.tup xs)
 frz:∀ b o u,H b = some (.frz o u) -> H' b = some (.frz o u)
theorem Grow.refl (m:List Addr) (H:Hp):Grow m H H:=⟨fun _ _ _ h=>h,fun _ _ h=>h,fun _ _ _ h=>h⟩
theorem Grow.trans {m:List Addr} {H H1 H2:Hp} (a:Grow m H H1) (b:Grow m H1 H2):Grow m H H2 :=
 ⟨fun c o n h=>b.keep c o n (a.keep c o n h),fun c xs h=>b.tup c xs (a.tup c xs h),fun c o u h=>b.frz c o u (a.frz c o u h)⟩
theorem Grow.new {m:List Addr} {H:Hp} {p:Addr} (h:H p = none) (o:HO):Grow m H (upd H p o) :=
 ⟨fun b u _ q=>by rw [zo (zD q h)]; exact q,fun b xs q=>by rw [zo (zD q h)]; exact q,fun b u v q=>by rw [zo (zD q h)]; exact q⟩
theorem Grow.set {m:List Addr} {H:Hp} {p:Addr} {xs:List V} (h:H p = some (.lst xs)) (hm:p ∈ m) (ys:List V):Grow m H (upd H p (.lst ys)) :=
 ⟨fun b u hb q=>by rw [zo (show b ≠ p from fun z=>hb (by rw [z]; exact hm))]; exact q,fun b zs q=>by rw [zo (fun z=>by subst z; rw [h] at q; cases q)]; exact q,fun b u v q=>by rw [zo (fun z=>by subst z; rw [h] at q; cases q)]; exact q⟩
theorem Grow.mono {m m':List Addr} {H H':Hp} (a:Grow m H H') (h:∀ b ∈ m,b ∈ m'):Grow m' H H':=⟨fun b o n q=>a.keep b o (fun z=>n (h b z)) q,a.tup,a.frz⟩
theorem Grow.same {H H':Hp} (a:Grow [] H H'):Same H H':=fun b o h=>a.keep b o (by simp) h
theorem Grow.sqT {m:List Addr} {H H':Hp} (g:Grow m H H') {K:FG7} {a:Addr} {xs:List V} (h:SqT K H a xs):SqT K H' a xs:=by
 rcases h with (h | ⟨o,h⟩) | h
 ·exact .inl (.inl (g.tup _ _ h))
 ·exact .inl (.inr ⟨o,g.frz _ _ _ h⟩)
 ·exact .inr h
theorem Grow.free {H H':Hp} {m:List Addr} (g:Grow m H H') {l:Addr} (hm:l ∉ m) (h:H' l = none):H l = none:=by
 cases q:H l with
 | none=>rfl
 | some o=>rw [g.keep l o hm q] at h; cases h
def Scr (K:FG7) (H:Hp) (a:Addr) (ns:List Int):Prop :=
 (∃ o,H a = some (.frz o (.lst (ns.map V.int)))) ∨
  ∃ (o:Obj) (its:Array Value) (n:Nat),K.lookup a = some o /\ o.cls = .type "list" /\ o.dict = none /\ o.data = .seq its n /\ its.size <= sizeLine /\ Vals (ns.map V.int) its.toList
theorem Scr.sq {K:FG7} {H:Hp} {a:Addr} {ns:List Int} (h:Scr K H a ns):SqL K H a (ns.map V.int):=by
 rcases h with ⟨o,h⟩ | h
 ·exact .inl (.inr ⟨o,h⟩)
 ·exact .inr h
theorem Scr.of {K:FG7} {H:Hp} {a:Addr} {ns:List Int} (hO:Only H) (h:SqL K H a (ns.map V.int)):Scr K H a ns:=by
 rcases h with (h | ⟨o,h⟩) | h
 ·rcases hO a with z | ⟨o,xs,z⟩
  ·rw [h] at z; cases z
  ·rw [h] at z; cases z
 ·exact .inl ⟨o,h⟩
 ·exact .inr h
theorem Grow.scr {m:List Addr} {H H':Hp} (g:Grow m H H') {K:FG7} {a:Addr} {ns:List Int} (h:Scr K H a ns):Scr K H' a ns:=by
 rcases h with ⟨o,h⟩ | h
 ·exact .inl ⟨o,g.frz _ _ _ h⟩
 ·exact .inr h
section
variable {prog:Program} {w:World} {A:Around} {R:Result -> Shared -> Prop} {s:Shared}
theorem YJ {elt target iter:Expr} {ifs:List Expr} {scope:Scope} {pos:Pos} {it acc:Value} {env:Env} (I:Nat -> Shared -> Prop)
  (turn:∀ n s,I n s -> wpAny (model prog w) A (pyNext it) (fun r s₁=>match r with
   | none=>R (.ok .next) s₁
   | some v=>wpAny (model prog w) A (letOwnedTupleGo target it v) (fun _ s₂=>wpAny (model prog w) A (assign target env v) (fun _ s₃ =>
     wpAny (model prog w) A (forIn ifs true fun c r=>if r = true then do let ok ← isTrue c env (eval c env); pure (ForInStep.yield ok) else pure (ForInStep.yield r)) (fun ok s₄ =>
      if ok = true then wpAny (model prog w) A (eval elt env) (fun x s₅ =>
       wpAny (model prog w) A (call (.builtin "list.append") [acc,x]) (fun _ s₆=>∃ m,m < n /\ I m s₆) (fun _ _=>False) s₅) (fun _ _=>False) s₄
      else ∃ m,m < n /\ I m s₄) (fun _ _=>False) s₃) (fun _ _=>False) s₂) (fun _ _=>False) s₁) (fun _ _=>False) s)
  (n:Nat) (h:I n s) :
  codeAny (model prog w) A (.compLoop (.ListComp elt [⟨target,iter,ifs,0⟩] scope pos) 0 it acc env) R s:=by
 refine codeAny_loop rfl I (fun n s hI=>?_) n h
 show wpAny _ A ((compTurn (.ListComp elt [⟨target,iter,ifs,0⟩] scope pos) 0 it acc env).onRaise (fun x=>do noteFrame x env; theTreesLotGoes x)) _ _ s
 refine wpAny_noted ?_
 rw [compTurn_list]
 have no:∀ (E:VS7) (e:Value) (s:Shared),(fun (_:Value) (_:Shared)=>False) e s -> E e s:=fun _ _ _ f=>f.elim
 refine wpAny_bind (wpAny_standAt (wpAny_bind (wpAny_mono (turn n s hI) (fun r s₁ h₁=>?_) (no _))))
 cases r with
 | none=>exact wpAny_pure h₁
 | some v =>
  refine wpAny_bind (wpAny_mono h₁ (fun _ s₂ h₂=>?_) (no _))
  refine wpAny_bind (wpAny_mono h₂ (fun _ s₃ h₃=>wpAny_bind (wpAny_mono h₃ (fun ok s₄ h₄=>?_) (no _))) (no _))
  cases ok with
  | true =>
   simp only [if_true] at h₄ ⊢
   exact wpAny_bind (wpAny_bind (wpAny_mono h₄ (fun x s₅ h₅=>wpAny_bind (wpAny_mono h₅ (fun _ s₆ h₆=>wpAny_pure (wpAny_pure ⟨rfl,h₆⟩)) (no _))) (no _)))
  | false =>
   simp only [Bool.false_eq_true,if_false] at h₄ ⊢
   first
    | exact wpAny_bind (wpAny_pure (wpAny_pure ⟨rfl,h₄⟩))
    | exact wpAny_pure ⟨rfl,h₄⟩
end
theorem uX {scope:Scope} {env:Env} (hfree:∀ y ∈ scope.names,y.2 = .free -> ∃ c,env.cells.lookup y.1 = some c) :
  ∃ cl,closureFor scope env = pure cl /\ (∀ x c,cl.lookup x = some c -> env.cells.lookup x = some c) /\ ∀ y ∈ scope.names,y.2 = .free -> ∃ c,cl.lookup y.1 = some c:=by
 have key:∀ (l:List (Str × NameKind)) (cs:List (Str × Addr)),(∀ y ∈ l,y.2 = .free -> ∃ c,env.cells.lookup y.1 = some c) -> (∀ x c,cs.lookup x = some c -> env.cells.lookup x = some c) →
   ∃ cl,(forIn l cs (fun (x:Str × NameKind) r=>do if x.2 == .free then do let c ← cellOf env x.1; pure (ForInStep.yield ((x.1,c) :: r)) else pure (ForInStep.yield r)):Sem (List (Str × Addr))) = pure cl ∧
    (∀ x c,cl.lookup x = some c -> env.cells.lookup x = some c) /\ (∀ y ∈ l,y.2 = .free -> ∃ c,cl.lookup y.1 = some c) /\ ∀ x c,cs.lookup x = some c -> ∃ c',cl.lookup x = some c':=by
  intro l
  induction l with
  | nil=>intro cs _ h2; exact ⟨cs,rfl,h2,fun y hy=>absurd hy (by simp),fun x c h=>⟨c,h⟩⟩
  | cons y r ih =>
   intro cs h1 h2
   obtain ⟨n,k⟩:=y
   by_cases hk:k = .free
   ·subst hk
    obtain ⟨c,hc⟩:=h1 (n,.free) (by simp) rfl
    have hc':env.cells.lookup n = some c:=hc
    have e0:cellOf env n = pure c:=by unfold cellOf; rw [hc']
    obtain ⟨cl,e,p1,p2,p3⟩:=ih ((n,c) :: cs) (fun z hz=>h1 z (List.mem_cons_of_mem _ hz)) (fun x d h=>by
     by_cases hx:x = n
     ·subst hx
      rw [List.lookup_cons_self] at h
      cases h; exact hc'
     ·rw [List.lookup_cons,beq_eq_false_iff_ne.mpr hx] at h
      exact h2 x d h)
    refine ⟨cl,?_,p1,fun z hz=>?_,fun x d h=>?_⟩
    ·rw [List.forIn_cons]
     simp only [beq_self_eq_true,if_true,e0,pure_bind]
     exact e
    ·rcases List.mem_cons.mp hz with rfl | hz
     ·intro _
      exact p3 n c List.lookup_cons_self
     ·exact p2 z hz
    ·by_cases hx:x = n
     ·subst hx; exact p3 x c List.lookup_cons_self
     ·exact p3 x d (by rw [List.lookup_cons,beq_eq_false_iff_ne.mpr hx]; exact h)
   ·have hb:(k == NameKind.free) = false:=beq_eq_false_iff_ne.mpr hk
    obtain ⟨cl,e,p1,p2,p3⟩:=ih cs (fun z hz=>h1 z (List.mem_cons_of_mem _ hz)) h2
    refine ⟨cl,?_,p1,fun z hz=>?_,p3⟩
    ·rw [List.forIn_cons]
     simp only [hb,Bool.false_eq_true,if_false,pure_bind]
     exact e
    ·rcases List.mem_cons.mp hz with rfl | hz
     ·intro h; exact absurd h hk
     ·exact p2 z hz
 obtain ⟨cl,e,p1,p2,_⟩:=key scope.names [] hfree (fun x c h=>by cases h)
 refine ⟨cl,?_,p1,p2⟩
 unfold closureFor
 first
  | (rw [show (forIn scope.names [] _:Sem (List (Str × Addr))) = pure cl from e]; rfl)
  | (simp only [bind_pure]; exact e)
  | exact e
def PIfs (X:Cx) (ifs:List Expr) (t:TT):Prop :=
 ∀ (pins:List (Addr × Obj)) (s:Shared) (σ:L2.St) (H:Hp) (Q:Bool -> Hp -> Prop),Inv X pins σ H s -> t σ H Q →
  wpAny (model X.prog X.w) X.A (forIn ifs true fun c r=>if r = true then do let ok ← isTrue c X.env (eval c X.env); pure (ForInStep.yield ok) else pure (ForInStep.yield r)) (TP X pins σ Q) X.xe s
def qB:TT:=fun _ H Q=>Q true H
theorem zT {X:Cx}:PIfs X [] qB:=fun pins s σ H Q I h=>wpAny_pure ⟨H,I,h⟩
theorem vR {X:Cx} {c:Expr} {t:TT} (hc:PT X c t):PIfs X [c] t:=fun pins s σ H Q I h=>wpAny_tests_one (hc pins s σ H Q I h)
abbrev cxC (X:Cx) (N':List Str) (scope:Scope) (cl:List (Str × Addr)) (C D:Addr) (fp:List Addr) (s:Shared) (H:Hp):Cx :=
 { X with N:=N',s₀:=s,H₀:=H,env:=compEnvC scope cl C X.env,outer:=X.stack,ex:=D :: fp,fn:=fun _=>false,xe:=fun _ _=>False }
def capt (sub:List (Option Nat)) (σ:L2.St):L2.St:=sub.map fun o=>match o with
 | none=>none
 | some i=>(match σ[i]? with | some v=>v | none=>none)
def wx (J:It) (σ0:L2.St) (H1:Hp) (g:TG) (tt:TT) (te:TE) (Q:VK):Prop :=
 ∃ W:Nat -> Nat -> List V -> L2.St -> Hp -> Prop,(∃ m,W 0 m [] σ0 H1) /\ ∀ i m ys σ' H',W i m ys σ' H' →
  (J.stop i H' /\ ∀ l,H' l = none -> Q (.ref l) (upd H' l (.lst ys))) ∨
  (J.go i H' /\ ∃ Nn:List V -> L2.St -> Hp -> Prop,(∀ zs σ2 H2,Nn zs σ2 H2 -> ∃ m',m' < m /\ W (i + 1) m' zs σ2 H2) ∧
   ∀ x H2,J.yld i H' x H2 -> g x σ' H2 fun σ2 H3=>tt σ2 H3 fun b H4=>if b = true then te σ2 H4 fun y H5=>ys.length < sizeLine /\ Nn (ys ++ [y]) σ2 H5 else Nn ys σ2 H4)
def UJ (wi:TI) (sub:List (Option Nat)) (g:TG) (tt:TT) (te:TE):TE:=fun σ H Q=>wi σ H fun J H1=>wx J (capt sub σ) H1 g tt te Q
structure CSc (X:Cx) (scope:Scope) (N':List Str) (sub:List (Option Nat)):Prop where
 free:∀ y ∈ scope.names,y.2 = .free -> X.env.kindOf y.1 = some .cell
 nocell:∀ y ∈ scope.names,y.2 ≠ .cell
 kind:scope.kind = .function
 names:∀ y ∈ scope.names,y.2 = .local -> scope.names.lookup y.1 = some .local
 len:sub.length = N'.length
 cap:∀ (j:Nat) (y:Str) (i:Nat),N'[j]? = some y -> sub[j]? = some (some i) -> X.N[i]? = some y /\ X.env.scope.names.lookup y = some .cell /\ scope.names.lookup y = some .free
theorem HOk.track {P:Program} {w:World} {H:Hp} {h:Heap} {a:Addr} {o:HO} (x:HOk P w H h) (hn:H a = none) (new:z5 P w (upd H a o) h a o):HOk P w (upd H a o) h:=fun b u e=>by
 by_cases hb:b = a
 ·subst hb; rw [zd] at e; cases e; exact new
 ·rw [zo hb] at e
  exact (x b u e).stay (fun c v _ q=>q) (fun c q=>by rw [zo (zD q hn)]; exact q) fun c xs q=>by rw [zo (zD q hn)]; exact q
theorem wA {scope:Scope} {env:Env} {y:Str} {k:NameKind} (h:(relabel scope env).names.lookup y = some k) :
  ∃ k',scope.names.lookup y = some k' /\ (k = k' \/ (k = .cell /\ k' = .free)):=by
 have key:∀ l:List (Str × NameKind),(l.map fun (n,k)=>if (k == NameKind.free && env.scope.kind == .function && env.kindOf n == some .cell) then (n,NameKind.cell) else (n,k)).lookup y = some k →
   ∃ k',l.lookup y = some k' /\ (k = k' \/ (k = .cell /\ k' = .free)):=by
  intro l
  induction l with
  | nil=>intro h; cases h
  | cons p r ih =>
   obtain ⟨n,k0⟩:=p
   intro h
   rw [List.map_cons] at h
   by_cases hc:(k0 == NameKind.free && env.scope.kind == .function && env.kindOf n == some .cell) = true
   ·have hf:k0 = .free:=by
     simp only [Bool.and_eq_true,beq_iff_eq] at hc
     exact hc.1.1
    dsimp only at h
    rw [if_pos hc,List.lookup_cons] at h
    rw [List.lookup_cons]
    cases hx:y == n with
    | true=>rw [hx] at h; cases h; exact ⟨k0,rfl,.inr ⟨rfl,hf⟩⟩
    | false=>rw [hx] at h; exact ih h
   ·dsimp only at h
    rw [if_neg hc,List.lookup_cons] at h
    rw [List.lookup_cons]
    cases hx:y == n with
    | true=>rw [hx] at h; cases h; exact ⟨_,rfl,.inl rfl⟩
    | false=>rw [hx] at h; exact ih h
 exact key scope.names h
theorem vH {scope:Scope} {env:Env} {y:Str} (hk:env.scope.kind = .function) (hc:env.kindOf y = some .cell) (h:scope.names.lookup y = some .free):(relabel scope env).names.lookup y = some .cell:=by
 have key:∀ l:List (Str × NameKind),l.lookup y = some .free -> (l.map fun (n,k)=>if (k == NameKind.free && env.scope.kind == .function && env.kindOf n == some .cell) then (n,NameKind.cell) else (n,k)).lookup y = some .cell:=by
  intro l
  induction l with
  | nil=>intro h; cases h
  | cons p r ih =>
   obtain ⟨n,k0⟩:=p
   intro h
   rw [List.map_cons]
   rw [List.lookup_cons] at h
   dsimp only
   cases hx:y == n with
   | true =>
    rw [hx] at h
    cases h
    have e:y = n:=by simpa using hx
    subst e
    rw [if_pos (by simp [hk,hc]),List.lookup_cons,hx]
   | false =>
    rw [hx] at h
    by_cases hc2:(k0 == NameKind.free && env.scope.kind == .function && env.kindOf n == some .cell) = true
    ·rw [if_pos hc2,List.lookup_cons,hx]; exact ih h
    ·rw [if_neg hc2,List.lookup_cons,hx]; exact ih h
 exact key scope.names h
section
variable {X:Cx} {pins:List (Addr × Obj)} {σ:L2.St} {H2:Hp} {s₂:Shared} {it:Addr} {fp:List Addr} {tn:Nat -> Heap -> Prop} {J:It} {scope:Scope} {cl:List (Str × Addr)} {N':List Str} {sub:List (Option Nat)}
theorem ZA {h₁:Heap} {tk:Nat} (I:Inv X pins σ H2 s₂) (S:CSc X scope N' sub) (hcl1:∀ x c,cl.lookup x = some c -> X.env.cells.lookup x = some c) (hcl2:∀ y ∈ scope.names,y.2 = .free -> ∃ c,cl.lookup y.1 = some c)
    (f2:∀ b ∈ fp,FpOk X pins H2 b) (hfp:∀ b ∈ fp,b < s₂.heap.objs.size) {m:Str -> Option Value} {ob:Obj}
    (hns:h₁.Ns (s₂.heap.objs.size + 1) m) (hk:∀ b o,(s₂.heap.push ob).get? b = some o -> h₁.get? b = some o) :
    Inv (cxC X N' scope cl (s₂.heap.objs.size + 1) s₂.heap.objs.size fp { s₂ with heap:=s₂.heap.push ob } H2) pins (capt sub σ) H2 { s₂ with heap:=h₁,toks:=tk }:=by
  have old:∀ b o,s₂.heap.get? b = some o -> (s₂.heap.push ob).get? b = some o:=fun b o e=>Heap.get?_push_of_some _ e
  have old2:∀ b o,s₂.heap.get? b = some o -> h₁.get? b = some o:=fun b o e=>hk b o (old b o e)
  have sz:(s₂.heap.push ob).objs.size = s₂.heap.objs.size + 1:=Heap.size_push ..
  have cells:∀ x c,cl.lookup x = some c -> c < s₂.heap.objs.size:=fun x c e=>let ⟨v,q⟩:=I.cell x c (hcl1 x c e); q.lt
  have has:∀ x,((relabel scope X.env).names.lookup x = some .cell \/ (relabel scope X.env).names.lookup x = some .free) -> ∃ c,cl.lookup x = some c:=fun x hx=>by
    rcases hx with hx | hx
    · obtain ⟨k',e,z⟩:=wA hx
      rcases z with z | ⟨_,z⟩
      · subst z; exact absurd rfl (S.nocell _ (PySem.mem_of_lookup e))
      · subst z; exact hcl2 _ (PySem.mem_of_lookup e) rfl
    · obtain ⟨k',e,z⟩:=wA hx
      rcases z with z | ⟨z,_⟩
      · subst z; exact hcl2 _ (PySem.mem_of_lookup e) rfl
      · cases z
  have frsz:∀ b ∈ frs X.stack,b < s₂.heap.objs.size:=fun b hb=>by
    rcases List.mem_cons.mp (I.stkSub b hb) with z | z
    · rw [z]; exact I.lt
    · exact Nat.lt_of_not_le fun q=>I.nofs q z
  refine
    { ok :=
      { mod:=I.ok.mod,kind:=S.kind,glob:=I.ok.glob,blt:=I.ok.blt
        above:=by show (s₂.heap.push ob).objs.size <= s₂.heap.objs.size + 1; rw [sz]; exact Nat.le_refl _
        inj:=fun x y c h1 h2=>I.ok.inj x y c (hcl1 x c h1) (hcl1 y c h2)
        has:=has
        cab:=fun x c z=>by cases z
        hd:=I.ok.hd,frames:=I.ok.frames,stk:=.inl rfl
        exf:=fun b hb=>?exf
        bs:=fun b o e=>⟨old b o (I.bk b o e),(I.bs b o e).2⟩
        bsz:=by show X.base.objs.size <= (s₂.heap.push ob).objs.size; rw [sz]; exact Nat.le_succ_of_le (Nat.le_trans I.ok.bsz I.sz)
        noex:=fun b o e hb=>?noex
        exfs:=fun b hb=>?exfs
        funs:=?funs
        frf:=I.stkFree }
      os:=rfl,bare:=I.bare,base:=Un.kept fun b u e=>hk b u e
      loc:=⟨m,hns,?loc⟩
      cell:=fun x c e=>?cell
      free:=I.hok.fresh (Nat.le_succ _)
      freeC:=fun x c e=>I.freeC x c (hcl1 x c e)
      pin:=fun p hp=>?pin
      hok:=I.hok.kept old2
      len:=?len }
  case exf =>
    rcases List.mem_cons.mp hb with rfl | hb
    · exact ⟨Nat.ne_of_lt (Nat.lt_succ_self _),fun x c e=>Nat.ne_of_lt (cells x c e)⟩
    · exact ⟨Nat.ne_of_lt (Nat.lt_succ_of_lt (hfp b hb)),fun x c e=>(f2 b hb).2.2.2.2.1 x c (hcl1 x c e)⟩
  case noex =>
    have hl:b < X.s₀.heap.objs.size:=Nat.lt_of_lt_of_le (Heap.lt_size e) I.ok.bsz
    rcases List.mem_cons.mp hb with rfl | hb
    · exact absurd (Nat.lt_of_lt_of_le hl I.sz) (Nat.lt_irrefl _)
    · rcases (f2 b hb).2.2.2.1 with z | z
      · exact I.ok.noex b o e z
      · exact absurd (Nat.lt_of_lt_of_le hl z) (Nat.lt_irrefl _)
  case exfs =>
    intro hs
    rcases List.mem_cons.mp hb with rfl | hb
    · exact absurd (frsz _ hs) (Nat.lt_irrefl _)
    · rcases List.mem_cons.mp (I.stkSub b hs) with z | z
      · exact (f2 b hb).2.1 z
      · exact (f2 b hb).2.2.1 z
  case funs=>exact Heap.FunFrames.of_keeps (fun b o e _=>⟨o,old b o e,rfl⟩) I.stack
  case loc =>
    intro j y v hj hv hvis
    obtain ⟨mX,_,lX⟩:=I.loc
    unfold capt at hv
    rw [List.getElem?_map] at hv
    cases hs:sub[j]? with
    | none=>rw [hs] at hv; cases hv
    | some o =>
      rw [hs] at hv
      cases o with
      | none=>cases hv
      | some i =>
        obtain ⟨hN,hc,hf⟩:=S.cap j y i hj hs
        have hv':σ[i]? = some (some v):=by
          have z:(match σ[i]? with | some v=>v | none=>none) = some v:=Option.some.inj hv
          cases q:σ[i]? with
          | none=>rw [q] at z; cases z
          | some w=>rw [q] at z; rw [show w = some v from z]
        obtain ⟨u,ru,hl⟩:=lX i y v hN hv' (.inr (.inl hc))
        refine ⟨u,ru,?_⟩
        have kc:(relabel scope X.env).names.lookup y = some .cell:=vH I.ok.kind hc hf
        rcases hl with ⟨z,_⟩ | ⟨_,c,e,ic⟩
        · have z':X.env.scope.names.lookup y = some .local :=z
          rw [hc] at z'; cases z'
        · obtain ⟨c',e'⟩:=hcl2 _ (PySem.mem_of_lookup hf) rfl
          have:=hcl1 _ _ e'
          rw [e] at this; cases this
          refine .inr ⟨.inl kc,c,e',?_⟩
          obtain ⟨oc,h1,h2⟩:=ic
          exact ⟨oc,old2 _ _ h1,h2⟩
  case cell =>
    obtain ⟨v,oc,h1,h2⟩:=I.cell x c (hcl1 x c e)
    exact ⟨v,oc,old2 _ _ h1,h2⟩
  case pin =>
    obtain ⟨p1,p2,p3,p4,p5⟩:=I.pin p hp
    refine ⟨old2 _ _ p1,p2,Nat.ne_of_lt (Nat.lt_succ_of_lt (Heap.lt_size p1)),fun hs=>?_,p5⟩
    rcases List.mem_cons.mp (I.stkSub _ hs) with z | z
    · exact p3 z
    · exact p4 z
  case len =>
    show (capt sub σ).length = N'.length
    unfold capt
    rw [List.length_map]; exact S.len
theorem Ws {C D:Addr} {s₀:Shared} {s':Shared} {σ':L2.St} {H':Hp} {ys:List V} {us:List Value} {k:Nat} {oC:Obj} (I:Inv X pins σ H2 s₂)
    (hs₀:∀ b o,s₂.heap.get? b = some o -> s₀.heap.get? b = some o) (hos:s₀.os = s₂.os) (hD:s₂.heap.objs.size <= D) (hC:s₂.heap.objs.size <= C) (hDC:D ≠ C) (f2:∀ b ∈ fp,FpOk X pins H2 b)
    (I':Inv (cxC X N' scope cl C D fp s₀ H2) pins σ' H' s') (hn:H' D = none) (hy:s'.heap.get? D = some { cls:=.type "list",data:=.seq us.toArray k }) (rv:Vals ys us) (hz:ys.length <= sizeLine)
    (ho:s'.heap.get? C = some oC) (hd:∀ v,oC.data ≠ .cell v):Inv X (pins ++ [(C,oC)]) σ (upd H' D (.lst ys)) s' /\ FpOk X pins (upd H' D (.lst ys)) C:=by
  have neD:∀ b o,s₂.heap.get? b = some o -> b ≠ D:=fun b o e=>Nat.ne_of_lt (Nat.lt_of_lt_of_le (Heap.lt_size e) hD)
  have nm:∀ b o,s₂.heap.get? b = some o -> b ∉ fp -> b ∉ D :: fp:=fun b o e h z=>(List.mem_cons.mp z).elim (neD b o e) h
  have U:=I'.base
  have HC:upd H' D (.lst ys) C = none:=by rw [zo (Ne.symm hDC)]; exact I'.free
  have fpc:FpOk X pins (upd H' D (.lst ys)) C:=I.fpOk hC HC
  have un:Un (frs X.stack) fp H2 (upd H' D (.lst ys)) s₂.heap s'.heap :=
    { keep:=fun b o e n h1 h2=>U.keep b o (hs₀ b o e) n h1 (nm b o e h2)
      slot:=fun b o e n h1 h2=>U.slot b o (hs₀ b o e) n h1 (nm b o e h2)
      free:=fun b o e n h2=>by rw [zo (neD b o e)]; exact U.free b o (hs₀ b o e) n (nm b o e h2)
      there:=fun b o e h2=>U.there b o (hs₀ b o e) (nm b o e h2)
      tups:=fun b xs e=>by have z:=U.tups b xs e; rw [zo (zD z hn)]; exact z
      frzs:=fun b o u e=>by have z:=U.frzs b o u e; rw [zo (zD z hn)]; exact z
      tbls:=fun b ps e=>by obtain ⟨more,z⟩:=U.tbls b ps e; exact ⟨more,by rw [zo (zD z hn)]; exact z⟩ }
  have hok:HOk X.prog X.w (upd H' D (.lst ys)) s'.heap:=HOk.track I'.hok hn ⟨hz,us,k,rv,hy⟩
  have IX:Inv X pins σ (upd H' D (.lst ys)) s':=I.call' (I'.os.trans hos) un hok I'.bare fun b hb=>⟨(f2 b hb).2.2.2.1,(f2 b hb).2.1,(f2 b hb).2.2.2.2.1,(f2 b hb).2.2.2.2.2⟩
  refine ⟨IX.pins_of fun p hp=>?_,fpc⟩
  rcases List.mem_append.mp hp with hp | hp
  · exact IX.pin p (List.mem_append_right _ hp)
  · rw [List.mem_singleton.mp hp]
    exact ⟨ho,HC,fpc.2.1,fpc.2.2.1,hd⟩
end
section
variable {X:Cx} {scope:Scope} {N':List Str} {sub:List (Option Nat)} {x:Str} {px pos:Pos} {elt iter:Expr} {ifs:List Expr} {wi:TI} {g:TG} {tt:TT} {te:TE}
theorem CSc.clos {pins:List (Addr × Obj)} {σ:L2.St} {H:Hp} {s:Shared} (S:CSc X scope N' sub) (I:Inv X pins σ H s):∃ cl,closureFor scope X.env = pure cl /\ (∀ x c,cl.lookup x = some c -> X.env.cells.lookup x = some c) /\ ∀ y ∈ scope.names,y.2 = .free -> ∃ c,cl.lookup y.1 = some c :=
 uX fun y hy hf=>I.ok.has y.1 (.inl (S.free y hy hf))
end
structure Blt (mg:Str -> Option Value):Prop where
 abs:mg "abs" = none
 len:mg "len" = none
 max:mg "max" = none
 min:mg "min" = none
 divmod:mg "divmod" = none
 repr:mg "repr" = none
 isinstance:mg "isinstance" = none
 all:mg "all" = none
 range:mg "range" = none
 int:mg "int" = none
 bool:mg "bool" = none
 str:mg "str" = none
 tuple:mg "tuple" = none
 list:mg "list" = none
 dict:mg "dict" = none
def sp1 (b:V -> Hp -> VK -> Prop):Sp:=fun vs H Q _=>∃ x,vs = [x] /\ b x H Q
def sp2 (b:V -> V -> Hp -> VK -> Prop):Sp:=fun vs H Q _=>∃ x y,vs = [x,y] /\ b x y H Q
def sp3 (b:V -> V -> V -> Hp -> VK -> Prop):Sp:=fun vs H Q _=>∃ x y z,vs = [x,y,z] /\ b x y z H Q
theorem wF {b:V -> Hp -> VK -> Prop} {p:Str}:∀ vs H Q E,sp1 b vs H Q E -> vs.length = [p].length:=fun vs H Q E h=>by
 obtain ⟨x,rfl,_⟩:=h; rfl
theorem z3 {b:V -> V -> Hp -> VK -> Prop} {p q:Str}:∀ vs H Q E,sp2 b vs H Q E -> vs.length = [p,q].length:=fun vs H Q E h=>by
 obtain ⟨x,y,rfl,_⟩:=h; rfl
theorem wG {b:V -> V -> V -> Hp -> VK -> Prop} {p q r:Str}:∀ vs H Q E,sp3 b vs H Q E -> vs.length = [p,q,r].length:=fun vs H Q E h=>by
 obtain ⟨x,y,z,rfl,_⟩:=h; rfl
def uY:V -> Bool
 | .int _=>true
 | _=>false
def endV:V -> Bool
 | .non=>true
 | .int _=>true
 | _=>false
def Kn (K:FG7) (H:Hp) (x:V):Prop:=∃ T,TyV K H x T
structure Deed where
 add:Int
 lo:Option Int
 hi:Option Int
 deriving DecidableEq
def ov:Option Int -> V
 | none=>.non
 | some i=>.int i
def Deed.vs (d:Deed):List V:=[.int d.add,ov d.lo,ov d.hi]
def Deed.Ok (d:Deed):Prop:=∀ l h,d.lo = some l -> d.hi = some h -> l < h \/ (l = h /\ d.add = 0)
def v9 (lo:Option Int) (r:Int):Int:=match lo with
 | none=>r
 | some l=>if l > r then l else r
def tY (hi:Option Int) (r:Int):Int:=match hi with
 | none=>r
 | some h=>if h < r then h else r
def Deed.mk' (d:Deed) (v:Int):Int:=tY d.hi (v9 d.lo (v + d.add))
def ordV:V -> V -> V -> Bool
 | .int a,.int l,.int h=>decide (l < h) || (decide (l = h) && decide (a = 0))
 | _,_,_=>true
def vj:List V -> Bool
 | [x,y,z]=>uY x && (endV y && (endV z && ordV x y z))
 | _=>false
theorem ZB {d:Deed} (h:d.Ok):vj d.vs = true:=by
 obtain ⟨a,lo,hi⟩:=d
 cases lo with
 | none=>cases hi <;> rfl
 | some l =>
  cases hi with
  | none=>rfl
  | some u =>
   have:=h l u rfl rfl
   show (decide (l < u) || (decide (l = u) && decide (a = 0))) = true
   rcases this with q | ⟨q,q2⟩
   ·simp [q]
   ·have q2':a = 0:=q2
    simp [q,q2']
theorem YK {x:V} (h:uY x = true):∃ i,x = .int i:=by
 cases x <;> first | exact ⟨_,rfl⟩ | cases h
theorem Vp {x:V} (h:endV x = true):∃ o,x = ov o:=by
 cases x <;> first | exact ⟨none,rfl⟩ | exact ⟨some _,rfl⟩ | cases h
theorem len3 {xs:List V} (h:xs.length = 3):∃ x y z,xs = [x,y,z]:=by
 match xs,h with
 | [x,y,z],_=>exact ⟨x,y,z,rfl⟩
theorem qC {xs:List V} (h:xs.length ≠ 3):vj xs = false:=by
 match xs,h with
 | [],_=>rfl
 | [_],_=>rfl
 | [_,_],_=>rfl
 | [_,_,_],h=>exact absurd rfl h
 | _ :: _ :: _ :: _ :: _,_=>rfl
def yD (K:FG7) (H:Hp) (x:V) (d:Deed):Prop:=∃ a,x = .ref a /\ SqT K H a d.vs
theorem Grow.deed {m:List Addr} {H H':Hp} (g:Grow m H H') {K:FG7} {x:V} {d:Deed} (h:yD K H x d):yD K H' x d:=by
 obtain ⟨a,e,h⟩:=h
 exact ⟨a,e,g.sqT h⟩
theorem ua {K:FG7} {H:Hp} {i:Int}:Kn K H (.int i):=⟨"int",rfl⟩
theorem UK {K:FG7} {H:Hp}:Kn K H .non:=⟨"NoneType",rfl⟩
theorem UL {K:FG7} {H:Hp} (o:Option Int):Kn K H (ov o):=by cases o; exact UK; exact ua
def yx (K:FG7):Sp:=sp1 fun x H Q=>Kn K H x /\ Q (.bl (uY x)) H
def rA (K:FG7):Sp:=sp1 fun x H Q=>Kn K H x /\ Q (.bl (endV x)) H
def uZ (K:FG7):Sp:=sp1 fun x H Q=>(∃ T,T ≠ "tuple" /\ TyV K H x T /\ Q (.bl false) H) \/ ∃ a xs,x = .ref a /\ SqT K H a xs /\ (∀ y ∈ xs,Kn K H y) /\ Q (.bl (vj xs)) H
def vk (K:FG7):Sp:=sp2 fun x y H Q=>∃ d v,yD K H x d /\ y = .int v /\ Q (.int (d.mk' v)) H
def Pot (H:Hp) (a:Addr):Prop:=∃ p0 p1:Int,H a = some (.lst [.int p0,.int p1]) /\ 0 <= p0
def Sm (n:Int):Prop:=-(10 ^ 30) < n /\ n < 10 ^ 30
def Deed.Sm (d:Deed):Prop:=L3.Sm d.add /\ (∀ l,d.lo = some l -> L3.Sm l) /\ ∀ h,d.hi = some h -> L3.Sm h
def Vq (K:FG7):Sp:=sp2 fun x y H Q=>∃ a ns k,x = .ref a /\ y = .int k /\ Scr K H a ns /\ 0 <= k /\ k < 1000 /\ ∀ p H',H p = none -> Grow [] H H' -> Pot H' p -> Q (.ref p) H'
def yM (_:FG7):Sp:=sp2 fun x y H Q=>∃ a m,x = .ref a /\ y = .int m /\ Pot H a /\ 0 < m /\ m < 2 ^ 200 /\ ∀ n H',0 <= n -> n < m -> Grow [a] H H' -> Pot H' a -> Q (.int n) H'
theorem Sm.of {n:Int} (h1:-(10 ^ 30) < n) (h2:n < 10 ^ 30):Sm n:=⟨h1,h2⟩
def jB (K:FG7):Sp:=sp1 fun x H Q=>∃ a ns,x = .ref a /\ Scr K H a ns /\ ns.length <= 63 /\ ∀ H',Q (.bl true) H'
theorem szl {n:Nat} (h:Nat.ble n 1000 = true):n <= sizeLine:=Nat.le_of_lt (v7 (Nat.le_of_ble_eq_true h))
theorem Grow.shrink {H H':Hp} {l:Addr} (h:H l = none) (g:Grow [l] H H'):Grow [] H H' :=
 ⟨fun b o _ q=>g.keep b o (fun z=>by rw [List.mem_singleton.mp z] at q; rw [h] at q; cases q) q,g.tup,g.frz⟩
theorem Grow.wk {m:List Addr} {H H':Hp} (g:Grow [] H H'):Grow m H H':=g.mono (by simp)
theorem Pot.grow {H H':Hp} {a:Addr} (p:Pot H a) (g:Grow [] H H'):Pot H' a:=by
 obtain ⟨u0,u1,hu,hn⟩:=p
 exact ⟨u0,u1,g.keep _ _ (by simp) hu,hn⟩
theorem Pot.new {H:Hp} {a l:Addr} (p:Pot H a) (hl:H l = none) (o:HO):Pot (upd H l o) a:=p.grow (Grow.new hl o)
theorem u3 {i j:Int} (h2:-(2 ^ 60) < j /\ j < 2 ^ 60):IntMulOk i j:=PySem.IntMulOk.of_right (Nat.le_trans ((PySem.intBits_le_iff (m:=60)).mpr (by obtain ⟨a,b⟩:=h2; omega)) (by decide))
def eqVs:List V -> List V -> Bool
 | [],[]=>true
 | x :: xs,y :: ys=>eqV x y && eqVs xs ys
 | _,_=>false
theorem jC:∀ {xs ys:List V},eqVs xs ys = true -> xs.length = ys.length
 | [],[],_=>rfl
 | x :: xs,y :: ys,h=>by
  have h':(eqV x y && eqVs xs ys) = true:=h
  rw [Bool.and_eq_true] at h'
  simp [jC h'.2]
 | [],_ :: _,h=>by cases h
 | _ :: _,[],h=>by cases h
theorem jD:∀ {xs ys:List V},eqVs xs ys = true ↔ xs.length = ys.length /\ ∀ (j:Nat) (x y:V),xs[j]? = some x -> ys[j]? = some y -> eqV x y = true
 | [],[]=>by simp [eqVs]
 | x :: xs,y :: ys=>by
  show (eqV x y && eqVs xs ys) = true ↔ _
  rw [Bool.and_eq_true,jD]
  constructor
  ·rintro ⟨h1,h2,h3⟩
   refine ⟨by simp [h2],fun j a b ha hb=>?_⟩
   cases j with
   | zero=>simp at ha hb; subst ha hb; exact h1
   | succ j=>exact h3 j a b (by simpa using ha) (by simpa using hb)
  ·rintro ⟨h1,h2⟩
   exact ⟨h2 0 x y rfl rfl,by simpa using h1,fun j a b ha hb=>h2 (j + 1) a b (by simpa using ha) (by simpa using hb)⟩
 | [],_ :: _=>by simp [eqVs]
 | _ :: _,[]=>by simp [eqVs]
theorem ZC {xs ys:List V}:((List.range (min xs.length ys.length)).all (fun j=>match xs[j]?,ys[j]? with | some x,some y=>eqV x y | _,_=>true) && xs.length == ys.length) = eqVs xs ys:=by
 rw [Bool.eq_iff_iff,Bool.and_eq_true,List.all_eq_true,beq_iff_eq,jD]
 constructor
 ·rintro ⟨h1,h2⟩
  refine ⟨h2,fun j x y hx hy=>?_⟩
  have hj:j < xs.length:=(List.getElem?_eq_some_iff.mp hx).1
  have:=h1 j (List.mem_range.mpr (by rw [← h2]; simpa using hj))
  rw [hx,hy] at this
  exact this
 ·rintro ⟨h1,h2⟩
  refine ⟨fun j hj=>?_,h1⟩
  have hj':=List.mem_range.mp hj
  have a:j < xs.length:=by omega
  have b:j < ys.length:=by omega
  rw [List.getElem?_eq_getElem a,List.getElem?_eq_getElem b]
  exact h2 j _ _ (List.getElem?_eq_getElem a) (List.getElem?_eq_getElem b)
theorem YL {xs:List V} {us:List Value} (r:Vals xs us) (j:Nat) (h:j < us.length):∃ x,xs[j]? = some x /\ RelV x us[j]:=by
 have hl:=r.length
 have hx:xs[j]? = some xs[j]:=List.getElem?_eq_getElem (by omega)
 obtain ⟨u,e,q⟩:=r.get hx
 rw [List.getElem?_eq_getElem h] at e
 cases e
 exact ⟨_,hx,q⟩
theorem UM {A:Around} {s:Shared} {xs ys:List V} {us ws:List Value} (r1:Vals xs us) (r2:Vals ys ws) (f1:xs.all x9 = true) (f2:ys.all x9 = true) :
  ∀ j (h1:j < us.toArray.size) (h2:j < ws.toArray.size),SeqAt.EqAt A s us.toArray[j] ws.toArray[j] ((fun j=>match xs[j]?,ys[j]? with | some x,some y=>eqV x y | _,_=>true) j):=by
 intro j h1 h2
 obtain ⟨x,ex,qx⟩:=YL r1 j (by simpa using h1)
 obtain ⟨y,ey,qy⟩:=YL r2 j (by simpa using h2)
 have fx:x9 x = true:=List.all_eq_true.mp f1 x (List.mem_of_getElem? ex)
 have fy:x9 y = true:=List.all_eq_true.mp f2 y (List.mem_of_getElem? ey)
 show SeqAt.EqAt A s _ _ (match xs[j]?,ys[j]? with | some x,some y=>eqV x y | _,_=>true)
 rw [ex,ey]
 simpa using Vm qx qy fx fy
section
variable {X:Cx}
theorem xD {h:Heap} {a:Addr} {its:Array Value} (t:IsTup h a its):h.IsTuple a its:=t
end
section
variable {X:Cx} {pos:Pos}
theorem rB:∀ {bs:List Bool} {us:List Value},Vals (bs.map V.bl) us -> LSm.BoolsAre us bs
 | [],_,.nil=>.nil
 | b :: bs,_,.cons r t=>by
  cases r
  exact .cons b (rB t)
theorem wV (hcalm:X.calm = true):xw X (.builtin "all") (fun xs H Q=>∃ (l:Addr) (bs:List Bool),xs = [.ref l] /\ SqL X.K H l (bs.map V.bl) /\ Q (.bl (bs.all id)) H):=by
 intro pins s σ H xs us Q I r h
 obtain ⟨l,bs,rfl,hl,q⟩:=h
 obtain ⟨u,rfl,rx⟩:=wS r
 cases (show u = Value.ref l from rx)
 obtain ⟨vs,rv,pl,_⟩:=I.list hl
 have hl':s.heap.IsList l vs.toArray:=pl.isList
 have hb:LSm.BoolsAre vs bs:=rB rv
 have hlt:l < s.heap.objs.size:=by obtain ⟨_,e,_⟩:=hl'; exact Heap.lt_size e
 refine call_all_walk (wpAny_pyIter_list hl' ?_)
 refine ⟨s.heap.objs.size,[s.heap.objs.size,l],[s.heap.objs.size],vs.toArray.size,_,_,fun i=>(bs[i]?).getD true,rfl,Walks.list (A:=X.A.in1) (I.ok.hd hcalm) _ l (Nat.ne_of_lt hlt) vs.toArray,
  ⟨⟨_,Heap.get?_push_size _ rfl,rfl,rfl⟩,hl'.push _⟩,fun i v s' Q' E' hP hQ=>?_,fun h' tk hk=>?_⟩
 ·obtain ⟨b,e,rfl⟩:=hb.get i v (by simpa using hP)
  simp only [e,Option.getD_some] at hQ
  exact wpAny_truthy_bool hQ
 ·have e:((List.range vs.toArray.size).all fun i=>(bs[i]?).getD true) = bs.all id:=by
   have hlen:bs.length = vs.length:=by rw [← rv.length,List.length_map]
   rw [List.size_toArray,← hlen,Bool.eq_iff_iff,List.all_eq_true,List.all_eq_true]
   constructor
   ·intro z b hb'
    obtain ⟨i,hi,rfl⟩:=List.getElem_of_mem hb'
    have:=z i (List.mem_range.mpr hi)
    simpa [List.getElem?_eq_getElem hi] using this
   ·intro z i hi
    have hi':=List.mem_range.mp hi
    simpa [List.getElem?_eq_getElem hi'] using z _ (List.getElem_mem hi')
  rw [e]
  exact ⟨.bl (bs.all id),H,I.kept (t':=tk) (h':=h') (LSm.kept_iter hk),rfl,q⟩
end
theorem CSc.of {X:Cx} {scope:Scope} {N':List Str} {sub:List (Option Nat)} (sc:Scope) (NN:List Str) (e:X.env.scope = sc) (en:X.N = NN)
  (h:((scope.names.all fun y=>(y.2 != .free || sc.names.lookup y.1 == some .cell) && (y.2 != .cell) && (y.2 != .local || scope.names.lookup y.1 == some .local)) && (sub.length == N'.length) &&
   ((N'.zip sub).all fun p=>match p.2 with | none=>true | some i=>NN[i]? == some p.1 && sc.names.lookup p.1 == some .cell && scope.names.lookup p.1 == some .free)) = true)
  (hk:scope.kind = .function):CSc X scope N' sub:=by
 rw [Bool.and_eq_true,Bool.and_eq_true] at h
 obtain ⟨⟨h1,h2⟩,h3⟩:=h
 have k1:=fun y hy=>List.all_eq_true.mp h1 y hy
 refine ⟨fun y hy hf=>?_,fun y hy hc=>?_,hk,fun y hy hl=>?_,by simpa using h2,fun j y i hj hs=>?_⟩
 ·have:=k1 y hy
  simp only [hf,Bool.and_eq_true] at this
  have z:=this.1.1
  show X.env.scope.names.lookup y.1 = _
  rw [e]; simpa using z
 ·have:=k1 y hy
  simp only [hc,Bool.and_eq_true] at this
  simp at this
 ·have:=k1 y hy
  simp only [hl,Bool.and_eq_true] at this
  simpa using this.2
 ·have hm:(y,some i) ∈ N'.zip sub:=by
   have:(N'.zip sub)[j]? = some (y,some i):=by
    rw [List.getElem?_zip_eq_some]; exact ⟨hj,hs⟩
   exact List.mem_of_getElem? this
  have:=List.all_eq_true.mp h3 _ hm
  simp only [Bool.and_eq_true,beq_iff_eq] at this
  rw [e,en]
  exact ⟨this.1.1,this.1.2,this.2⟩
def T1 (a:Int) (lo hi:Option Int):Deed:=if lo ≠ none /\ lo = hi then ⟨0,lo,hi⟩ else ⟨a,lo,hi⟩
def thrO (e:Deed) (o:Option Int) (d:Option Int):Option Int:=match o with
 | none=>d
 | some l=>some (e.mk' l)
def UN (d e:Deed):Deed:=T1 (d.add + e.add) (thrO e d.lo e.lo) (thrO e d.hi e.hi)
def Deed.Bd (B:Int) (d:Deed):Prop:=(-B <= d.add /\ d.add <= B) /\ (∀ l,d.lo = some l -> -B <= l /\ l <= B) /\ ∀ h,d.hi = some h -> -B <= h /\ h <= B
theorem T4 (a v:Int):(Deed.mk a none none).mk' v = v + a:=rfl
theorem T5 (a l v:Int):(Deed.mk a (some l) none).mk' v = if l > v + a then l else v + a:=rfl
theorem T6 (a h v:Int):(Deed.mk a none (some h)).mk' v = if h < v + a then h else v + a:=rfl
theorem T7 (a l h v:Int):(Deed.mk a (some l) (some h)).mk' v = if h < (if l > v + a then l else v + a) then h else (if l > v + a then l else v + a):=rfl
def optA (o:Option Int):Int:=match o with | none=>0 | some i=>(i.natAbs:Int)
def Deed.big (d:Deed):Int:=(d.add.natAbs:Int) + optA d.lo + optA d.hi + 1
theorem T8 {e:Deed} {B C:Int} (b:e.Bd B) (hB:0 <= B) {v:Int} (h1:-C <= v) (h2:v <= C) (hC:0 <= C):-(B + C) <= e.mk' v /\ e.mk' v <= B + C:=by
 obtain ⟨a,lo,hi⟩:=e
 obtain ⟨⟨b1,b2⟩,b3,b4⟩:=b
 have b1':-B <= a:=b1
 have b2':a <= B:=b2
 cases lo with
 | none =>
  cases hi with
  | none=>rw [T4]; omega
  | some h=>have:=b4 h rfl; rw [T6]; split <;> omega
 | some l =>
  have:=b3 l rfl
  cases hi with
  | none=>rw [T5]; split <;> omega
  | some h=>have:=b4 h rfl; rw [T7]; (repeat' split) <;> omega
theorem Deed.Sm.bd {d:Deed} (h:d.Sm):d.Bd (10 ^ 30):=by
 obtain ⟨⟨a1,a2⟩,h1,h2⟩:=h
 exact ⟨⟨by omega,by omega⟩,fun l e=>by have:=h1 l e; exact ⟨by have:=this.1; omega,by have:=this.2; omega⟩,fun l e=>by have:=h2 l e; exact ⟨by have:=this.1; omega,by have:=this.2; omega⟩⟩
theorem xi {c:Bool} {A B:Prop} (e:c = false) (h:B):if c = true then A else B:=by rw [e]; exact iteF h
theorem y4 {c:Bool} {A B:Prop} (e:c = true) (h:A):if c = true then A else B:=by rw [e]; exact iteT h
theorem xL {K:FG7} {a:Addr} {xs:List V} {g:TG} {tt:TT} {te:TE} {Q:VK} {σ:L2.St} {H:Hp} (Pv:Nat -> List V -> L2.St -> Hp -> Prop) (h0:Pv 0 [] σ H) (hl:∀ i ys σ H,i <= xs.length -> Pv i ys σ H -> SqT K H a xs)
  (hs:∀ i x ys σ H,xs[i]? = some x -> Pv i ys σ H -> g x σ H fun σ2 H3=>tt σ2 H3 fun b H4=>if b = true then te σ2 H4 fun y H5=>ys.length < sizeLine /\ Pv (i + 1) (ys ++ [y]) σ2 H5 else Pv (i + 1) ys σ2 H4)
  (hd:∀ ys σ H,Pv xs.length ys σ H -> ∀ l,H l = none -> Q (.ref l) (upd H l (.lst ys))) :
  wx (Itt K a) σ H g tt te Q:=by
 refine ⟨fun i m ys σ H=>m = xs.length - i /\ i <= xs.length /\ Pv i ys σ H,⟨xs.length,by simp,Nat.zero_le _,h0⟩,?_⟩
 rintro i m ys σ H ⟨rfl,hi,p⟩
 have q:=hl i ys σ H hi p
 by_cases hlt:i < xs.length
 ·refine .inr ⟨⟨xs,xs[i],q,by simp [hlt]⟩,Pv (i + 1),fun zs σ' H' p'=>⟨xs.length - (i + 1),by omega,rfl,hlt,p'⟩,fun x H' y=>?_⟩
  obtain ⟨e,y⟩:=y
  subst e
  exact hs i x ys σ _ (y xs q) p
 ·have e:i = xs.length:=by omega
  subst e
  exact .inl ⟨⟨xs,q,Nat.le_refl _⟩,hd ys σ H p⟩
theorem ub {K:FG7} {a:Addr} {xs:List V} {g:TG} {tt:TT} {te:TE} {Q:VK} {σ:L2.St} {H:Hp} (Pv:Nat -> List V -> L2.St -> Hp -> Prop) (h0:Pv 0 [] σ H) (hl:∀ i ys σ H,i <= xs.length -> Pv i ys σ H -> SqL K H a xs)
  (hs:∀ i x ys σ H,xs[i]? = some x -> Pv i ys σ H -> g x σ H fun σ2 H3=>tt σ2 H3 fun b H4=>if b = true then te σ2 H4 fun y H5=>ys.length < sizeLine /\ Pv (i + 1) (ys ++ [y]) σ2 H5 else Pv (i + 1) ys σ2 H4)
  (hd:∀ ys σ H,Pv xs.length ys σ H -> ∀ l,H l = none -> Q (.ref l) (upd H l (.lst ys))) :
  wx (Itl K a) σ H g tt te Q:=by
 refine ⟨fun i m ys σ H=>m = xs.length - i /\ i <= xs.length /\ Pv i ys σ H,⟨xs.length,by simp,Nat.zero_le _,h0⟩,?_⟩
 rintro i m ys σ H ⟨rfl,hi,p⟩
 have q:=hl i ys σ H hi p
 by_cases hlt:i < xs.length
 ·refine .inr ⟨⟨xs,xs[i],q,by simp [hlt]⟩,Pv (i + 1),fun zs σ' H' p'=>⟨xs.length - (i + 1),by omega,rfl,hlt,p'⟩,fun x H' y=>?_⟩
  obtain ⟨e,y⟩:=y
  subst e
  exact hs i x ys σ _ (y xs q) p
 ·have e:i = xs.length:=by omega
  subst e
  exact .inl ⟨⟨xs,q,Nat.le_refl _⟩,hd ys σ H p⟩
theorem wH {X:Cx} {K:FG7} (h:X.K = K):IxR X (rIxT K):=by subst h; exact z7
theorem jE {X:Cx} {K:FG7} (h:X.K = K):IxR X (rIxL K):=by subst h; exact zZ
theorem Deed.Bd.mono {d:Deed} {B C:Int} (b:d.Bd B) (h:B <= C):d.Bd C:=by
 obtain ⟨⟨b1,b2⟩,b3,b4⟩:=b
 exact ⟨⟨by omega,by omega⟩,fun l e=>by have:=b3 l e; omega,fun l e=>by have:=b4 l e; omega⟩
section
variable {X:Cx}
def rEqL (K:FG7) (neg:Bool):R2:=fun x y H Q=>∃ a b xs ys,x = .ref a /\ y = .ref b /\ SqL K H a xs /\ SqL K H b ys /\ xs.all x9 = true /\ ys.all x9 = true /\ Q (.bl (if neg then !eqVs xs ys else eqVs xs ys)) H
theorem Vr {k:Nat} (hr:Room k X.A):OpR X (compareOp .Eq) (rEqL X.K false):=by
 intro pins s σ H x y v u Q I rx ry h
 obtain ⟨a,b,xs,ys,rfl,rfl,ha,hb,f1,f2,q⟩:=h
 cases rx; cases ry
 obtain ⟨us,r1,t1,_⟩:=I.list ha
 obtain ⟨ws,r2,t2,_⟩:=I.list hb
 by_cases hl:us.length = ws.length
 ·refine SeqAt.eq_listAt t1.isList t2.isList (by simpa using hl) hr.units0 (UM r1 r2 f1 f2) ?_
  have e:=ZC (xs:=xs) (ys:=ys)
  have e2:(xs.length == ys.length) = true:=by rw [beq_iff_eq,r1.length,r2.length]; exact hl
  rw [e2,Bool.and_true,show min xs.length ys.length = xs.length by rw [r1.length,r2.length]; omega] at e
  rw [List.size_toArray,← r1.length,e]
  exact ⟨.bl _,H,I,rfl,q⟩
 ·refine SeqAt.eq_list_lengthsAt t1.isList t2.isList (by simpa using hl) hr.units0 ?_
  have e:eqVs xs ys = false:=by
   cases z:eqVs xs ys with
   | false=>rfl
   | true=>exact absurd (by rw [← r1.length,← r2.length]; exact jC z) hl
  rw [e] at q
  exact ⟨.bl _,H,I,rfl,q⟩
end
theorem VT {i j:Int}:eqV (.int i) (.int j) = decide (i = j):=by rw [Bool.eq_iff_iff]; simp [eqV]
theorem rC:∀ {xs ys:List Int},eqVs (xs.map V.int) (ys.map V.int) = decide (xs = ys)
 | [],[]=>rfl
 | x :: xs,y :: ys=>by
  show (eqV (.int x) (.int y) && eqVs (xs.map V.int) (ys.map V.int)) = _
  rw [VT,rC,Bool.eq_iff_iff]
  simp
 | [],_ :: _=>by simp [eqVs]
 | _ :: _,[]=>by simp [eqVs]
theorem Grow.sqL {H H':Hp} (g:Grow [] H H') {K:FG7} {a:Addr} {xs:List V} (h:SqL K H a xs):SqL K H' a xs:=by
 rcases h with (h | ⟨o,h⟩) | h
 ·exact .inl (.inl (g.keep _ _ (by simp) h))
 ·exact .inl (.inr ⟨o,g.frz _ _ _ h⟩)
 ·exact .inr h
section
variable {K:FG7} {a:Addr} {xs:List V} {n:Nat} {tt:TT} {te:TE} {Q:VK} {σ:L2.St} {H:Hp}
theorem wW {p:V -> Bool} {f:V -> V} {i:Nat} {x:V} (hx:xs[i]? = some x):((xs.take (i + 1)).filter p).map f = ((xs.take i).filter p).map f ++ (if p x = true then [f x] else []):=by
 rw [List.take_add_one,hx,List.filter_append,List.map_append]
 congr 1
 show ((([x]:List V)).filter p).map f = _
 by_cases c:p x = true
 ·rw [if_pos c,List.filter_cons_of_pos c]; rfl
 ·rw [if_neg c,List.filter_cons_of_neg c]; rfl
theorem jF {p:V -> Bool} {f:V -> V} {i:Nat} (h:xs.length <= 1000):(((xs.take i).filter p).map f).length < sizeLine:=by
 rw [List.length_map]
 refine v7 ?_
 have:=List.length_filter_le p (xs.take i)
 have:=List.length_take_le i xs
 have:(xs.take i).length <= xs.length:=by rw [List.length_take]; omega
 omega
theorem jG {p:V -> Bool} {f:V -> V}:((xs.take xs.length).filter p).map f = (xs.filter p).map f:=by rw [List.take_length]
theorem u4 (p:V -> Bool) (f:V -> V) (hl:SqL K H a xs) (hlen:xs.length <= 1000)
  (ht:∀ x H' (R:Bool -> Hp -> Prop),x ∈ xs -> Grow [] H H' -> (∀ H2,Grow [] H' H2 -> R (p x) H2) -> tt (σ.set n (some x)) H' R)
  (hs:∀ x H' (R:VK),x ∈ xs -> p x = true -> Grow [] H H' -> (∀ H2,Grow [] H' H2 -> R (f x) H2) -> te (σ.set n (some x)) H' R)
  (hd:∀ H' l,Grow [] H H' -> H' l = none -> Q (.ref l) (upd H' l (.lst ((xs.filter p).map f)))):wx (Itl K a) σ H (ww n) tt te Q:=by
 refine ub (xs:=xs) (fun i ys σ' H'=>Grow [] H H' /\ (σ' = σ \/ ∃ e,σ' = σ.set n e) /\ ys = ((xs.take i).filter p).map f) ⟨Grow.refl _ _,.inl rfl,rfl⟩ ?_ ?_ ?_
 ·rintro i ys σ' H' _ ⟨g,_⟩
  exact g.sqL hl
 ·rintro i x ys σ' H' hx ⟨g,hσ,rfl⟩
  have e:σ'.set n (some x) = σ.set n (some x):=by
   rcases hσ with rfl | ⟨e,rfl⟩
   ·rfl
   ·rw [List.set_set]
  show tt (σ'.set n (some x)) H' _
  rw [e]
  refine ht x H' _ (List.mem_of_getElem? hx) g fun H2 g2=>?_
  by_cases c:p x = true
  ·rw [if_pos c]
   refine hs x H2 _ (List.mem_of_getElem? hx) c (g.trans g2) fun H3 g3=>⟨jF hlen,(g.trans g2).trans g3,.inr ⟨_,rfl⟩,?_⟩
   rw [wW hx,if_pos c]
  ·rw [if_neg c]
   refine ⟨g.trans g2,.inr ⟨_,rfl⟩,?_⟩
   rw [wW hx,if_neg c,List.append_nil]
 ·rintro ys σ' H' ⟨g,_,rfl⟩ l hl
  rw [jG]
  exact hd H' l g hl
theorem ZD (p:V -> Bool) (f:V -> V) (hl:SqT K H a xs) (hlen:xs.length <= 1000)
  (ht:∀ x H' (R:Bool -> Hp -> Prop),x ∈ xs -> Grow [] H H' -> (∀ H2,Grow [] H' H2 -> R (p x) H2) -> tt (σ.set n (some x)) H' R)
  (hs:∀ x H' (R:VK),x ∈ xs -> p x = true -> Grow [] H H' -> (∀ H2,Grow [] H' H2 -> R (f x) H2) -> te (σ.set n (some x)) H' R)
  (hd:∀ H' l,Grow [] H H' -> H' l = none -> Q (.ref l) (upd H' l (.lst ((xs.filter p).map f)))):wx (Itt K a) σ H (ww n) tt te Q:=by
 refine xL (xs:=xs) (fun i ys σ' H'=>Grow [] H H' /\ (σ' = σ \/ ∃ e,σ' = σ.set n e) /\ ys = ((xs.take i).filter p).map f) ⟨Grow.refl _ _,.inl rfl,rfl⟩ ?_ ?_ ?_
 ·rintro i ys σ' H' _ ⟨g,_⟩
  exact g.sqT hl
 ·rintro i x ys σ' H' hx ⟨g,hσ,rfl⟩
  have e:σ'.set n (some x) = σ.set n (some x):=by
   rcases hσ with rfl | ⟨e,rfl⟩
   ·rfl
   ·rw [List.set_set]
  show tt (σ'.set n (some x)) H' _
  rw [e]
  refine ht x H' _ (List.mem_of_getElem? hx) g fun H2 g2=>?_
  by_cases c:p x = true
  ·rw [if_pos c]
   refine hs x H2 _ (List.mem_of_getElem? hx) c (g.trans g2) fun H3 g3=>⟨jF hlen,(g.trans g2).trans g3,.inr ⟨_,rfl⟩,?_⟩
   rw [wW hx,if_pos c]
  ·rw [if_neg c]
   refine ⟨g.trans g2,.inr ⟨_,rfl⟩,?_⟩
   rw [wW hx,if_neg c,List.append_nil]
 ·rintro ys σ' H' ⟨g,_,rfl⟩ l hl
  rw [jG]
  exact hd H' l g hl
theorem jH {p:V -> Bool} (h:∀ x,p x = true):xs.filter p = xs:=List.filter_eq_self.mpr fun x _=>h x
theorem YM (f:V -> V) (hl:SqL K H a xs) (hlen:xs.length <= 1000)
  (hs:∀ x H' (R:VK),x ∈ xs -> Grow [] H H' -> (∀ H2,Grow [] H' H2 -> R (f x) H2) -> te (σ.set n (some x)) H' R)
  (hd:∀ H' l,Grow [] H H' -> H' l = none -> Q (.ref l) (upd H' l (.lst (xs.map f)))):wx (Itl K a) σ H (ww n) qB te Q :=
 u4 (fun _=>true) f hl hlen (fun x H' R _ _ k=>k H' (Grow.refl _ _)) (fun x H' R hx _ g k=>hs x H' R hx g k) (fun H' l g hl=>by rw [jH fun _=>rfl]; exact hd H' l g hl)
theorem YN (f:V -> V) (hl:SqT K H a xs) (hlen:xs.length <= 1000)
  (hs:∀ x H' (R:VK),x ∈ xs -> Grow [] H H' -> (∀ H2,Grow [] H' H2 -> R (f x) H2) -> te (σ.set n (some x)) H' R)
  (hd:∀ H' l,Grow [] H H' -> H' l = none -> Q (.ref l) (upd H' l (.lst (xs.map f)))):wx (Itt K a) σ H (ww n) qB te Q :=
 ZD (fun _=>true) f hl hlen (fun x H' R _ _ k=>k H' (Grow.refl _ _)) (fun x H' R hx _ g k=>hs x H' R hx g k) (fun H' l g hl=>by rw [jH fun _=>rfl]; exact hd H' l g hl)
def vi (f:Int -> Int):V -> V
 | .int i=>.int (f i)
 | v=>v
theorem UO (f:Int -> Int) (ns:List Int):(ns.map V.int).map (vi f) = (ns.map f).map V.int:=by
 rw [List.map_map,List.map_map]; rfl
theorem ZE {ns:List Int} (f:Int -> Int) (hl:SqL K H a (ns.map V.int)) (hlen:ns.length <= 1000)
  (hs:∀ i H' (R:VK),i ∈ ns -> Grow [] H H' -> (∀ H2,Grow [] H' H2 -> R (.int (f i)) H2) -> te (σ.set n (some (.int i))) H' R)
  (hd:∀ H' l,Grow [] H H' -> H' l = none -> Q (.ref l) (upd H' l (.lst ((ns.map f).map V.int)))):wx (Itl K a) σ H (ww n) qB te Q :=
 YM (vi f) hl (by rw [List.length_map]; exact hlen) (fun x H' R hx g k=>by obtain ⟨i,hi,rfl⟩:=List.mem_map.mp hx; exact hs i H' R hi g k) (fun H' l g hl=>by rw [UO]; exact hd H' l g hl)
end
theorem nd {d e:Deed} (h:d = e):(!decide (d = e)) = false:=by rw [decide_eq_true h]; rfl
mutual
inductive Dat (K:FG7) (H:Hp):V -> PyData -> Prop
 | non:Dat K H .non .none
 | bl (b:Bool):Dat K H (.bl b) (.bool b)
 | int (i:Int):Dat K H (.int i) (.int i)
 | tup {a:Addr} {xs:List V} {ds:List PyData}:SqT K H a xs -> DatAll K H xs ds -> Dat K H (.ref a) (.tuple ds)
 | lst {a:Addr} {xs:List V} {ds:List PyData}:SqL K H a xs -> DatAll K H xs ds -> Dat K H (.ref a) (.list ds)
inductive DatAll (K:FG7) (H:Hp):List V -> List PyData -> Prop
 | nil:DatAll K H [] []
 | cons {x:V} {xs:List V} {d:PyData} {ds:List PyData}:Dat K H x d -> DatAll K H xs ds -> DatAll K H (x :: xs) (d :: ds)
end
section
variable {X:Cx} {pins:List (Addr × Obj)} {σ:L2.St} {H:Hp} {s:Shared}
mutual
theorem Dat.reads (I:Inv X pins σ H s):∀ {x:V} {d:PyData} {u:Value},Dat X.K H x d -> RelV x u -> ∃ as,Reads s.heap u d as
 | _,_,u,.non,r=>by
  cases (show u = Value.none from r)
  exact ⟨_,.none⟩
 | _,_,u,.bl b,r=>by
  cases (show u = Value.bool b from r)
  exact ⟨_,.bool b⟩
 | _,_,u,.int i,r=>by
  obtain ⟨t,rfl⟩:=r
  exact ⟨_,.int i t⟩
 | _,_,u,.tup (a:=a) hs hd,r=>by
  cases (show u = Value.ref a from r)
  obtain ⟨its,r1,⟨o,e1,e2,n,e3⟩,_⟩:=I.tuple hs
  obtain ⟨as,q⟩:=DatAll.reads I hd r1
  exact ⟨_,.tuple e1 e2 e3 q⟩
 | _,_,u,.lst (a:=a) hs hd,r=>by
  cases (show u = Value.ref a from r)
  obtain ⟨its,r1,⟨o,n,e1,e2,_,e3⟩,_⟩:=I.list hs
  obtain ⟨as,q⟩:=DatAll.reads I hd r1
  exact ⟨_,.list e1 e2 e3 q⟩
theorem DatAll.reads (I:Inv X pins σ H s):∀ {xs:List V} {ds:List PyData} {us:List Value},DatAll X.K H xs ds -> Vals xs us -> ∃ as,ReadsAll s.heap us ds as
 | _,_,_,.nil,.nil=>⟨_,.nil⟩
 | _,_,_,.cons h t,.cons r rs=>by
  obtain ⟨as,q⟩:=Dat.reads I h r
  obtain ⟨bs,q2⟩:=DatAll.reads I t rs
  exact ⟨_,.cons q q2⟩
end
end
mutual
/-- a bound of the text's length -/
def wtD:PyData -> Nat
 | .list xs | .tuple xs=>wtAll xs + 3
 | .int _=>1921
 | .none | .bool _=>5
 | _=>20000000
def wtAll:List PyData -> Nat
 | []=>0
 | x :: xs=>wtD x + 2 + wtAll xs
end
mutual
theorem shown_wt:∀ {d:PyData},d.showable = true -> d.hasDict = false -> wtD d <= 16777216 -> d.shown.length <= wtD d
 | .none,_,_,_=>by decide
 | .bool b,_,_,_=>by cases b <;> decide
 | .int i,h,_,_=>int_text_len_1921 (of_decide_eq_true h)
 | .str _,_,_,z=>absurd (show 20000000 <= 16777216 from z) (by decide)
 | .list xs,h,h2,z=>by
  have z':wtAll xs + 3 <= 16777216:=z
  have q:=shown_wtAll (xs:=xs) h h2 (by omega)
  have l:=listText_len_le (PyData.shownAll xs)
  show (listText (PyData.shownAll xs)).length <= wtAll xs + 3
  omega
 | .tuple xs,h,h2,z=>by
  have z':wtAll xs + 3 <= 16777216:=z
  have q:=shown_wtAll (xs:=xs) h h2 (by omega)
  have l:=tupleText_len_le (PyData.shownAll xs)
  show (tupleText (PyData.shownAll xs)).length <= wtAll xs + 3
  omega
 | .dict _,_,h,_=>by cases h
theorem shown_wtAll:∀ {xs:List PyData},PyData.showableAll xs = true -> PyData.hasDictAll xs = false -> wtAll xs <= 16777216 -> ((PyData.shownAll xs).map (·.length)).sum + 2 * (PyData.shownAll xs).length <= wtAll xs
 | [],_,_,_=>by decide
 | x :: xs,h,h2,z=>by
  have h':(x.showable && PyData.showableAll xs) = true:=h
  have h2':(x.hasDict || PyData.hasDictAll xs) = false:=h2
  rw [Bool.and_eq_true] at h'
  rw [Bool.or_eq_false_iff] at h2'
  have z':wtD x + 2 + wtAll xs <= 16777216:=z
  have q1:=shown_wt (d:=x) h'.1 h2'.1 (by omega)
  have q2:=shown_wtAll (xs:=xs) h'.2 h2'.2 (by omega)
  show (x.shown.length :: (PyData.shownAll xs).map (·.length)).sum + 2 * ((PyData.shownAll xs).length + 1) <= wtD x + 2 + wtAll xs
  rw [List.sum_cons]
  omega
end
theorem ZF {d:PyData} (h1:d.showable = true) (h2:d.hasDict = false) (h3:wtD d <= 16777216):d.shown.length <= sizeLine:=by
 rw [sizeLine_eq]; exact Nat.le_trans (shown_wt h1 h2 h3) h3
section
variable {X:Cx} {a b:Expr} {rest:List Expr} {ta tb:TE} {pos:Pos}
def tOrG (K:FG7) (ta tb:TE):TE:=fun σ H Q=>ta σ H fun x H1=>∃ k,TruV K x H1 k /\ if k = true then Q x H1 else tb σ H1 Q
theorem UP (ha:PE X a ta) (hb:PE X (.BoolOp .Or (b :: rest) pos) tb):PE X (.BoolOp .Or (a :: b :: rest) pos) (tOrG X.K ta tb):=by
 intro pins s σ H Q I h
 refine BoolOp_or (thn (ha pins s σ H _ I h) fun v s1 ⟨x,H1,I1,r1,q1⟩=>?_)
 obtain ⟨k,tr,q1⟩:=q1
 refine thn (Vl pins s1 σ H1 x v (fun c H2=>if c = true then Q x H2 else tb σ H2 Q) I1 r1 ⟨k,tr,q1⟩) fun c s2 ⟨H2,I2,q2⟩=>?_
 cases c with
 | true=>exact ⟨x,H2,I2,r1,q2⟩
 | false=>exact hb pins s2 σ H2 Q I2 q2
end
abbrev Span:=Option (Option Int × Option Int)
def Vs (K:FG7) (H:Hp) (x:V):Span -> Prop
 | none=>x = .non
 | some (l,h)=>∃ a,x = .ref a /\ SqT K H a [ov l,ov h]
def oD:Option Int -> PyData
 | none=>.none
 | some i=>.int i
def T9:Span -> PyData
 | none=>.none
 | some (l,h)=>.tuple [oD l,oD h]
theorem jI {K:FG7} {H:Hp} (o:Option Int):Dat K H (ov o) (oD o):=by cases o; exact .non; exact .int _
theorem Vs.dat {K:FG7} {H:Hp} {x:V} {sp:Span} (h:Vs K H x sp):Dat K H x (T9 sp):=by
 match sp,h with
 | none,h=>cases (show x = .non from h); exact .non
 | some (l,u),⟨a,e,q⟩=>subst e; exact .tup q (.cons (jI l) (.cons (jI u) .nil))
theorem YO {α:Type} (xs:List α):(xs.map (fun _=>true)).all id = true:=by rw [List.all_eq_true]; intro x hx; obtain ⟨_,_,rfl⟩:=List.mem_map.mp hx; rfl
theorem Wt (gs:List Int):(gs.map V.int).map (fun _=>V.bl true) = (gs.map (fun _=>true)).map V.bl:=by rw [List.map_map,List.map_map]; rfl
section
variable {K:FG7} {a:Addr} {xs:List V} {lo:Int} {n k:Nat} {te:TE} {Q:VK} {σ:L2.St} {H:Hp}
theorem tZ (Pv:Nat -> List V -> Hp -> Prop) (h0:Pv 0 [] H)
  (hs:∀ i ys H',i < n -> Pv i ys H' -> te (σ.set k (some (.int (lo + i)))) H' fun y H5=>ys.length < sizeLine /\ Pv (i + 1) (ys ++ [y]) H5)
  (hd:∀ ys H',Pv n ys H' -> ∀ l,H' l = none -> Q (.ref l) (upd H' l (.lst ys))):wx (Itr lo n) σ H (ww k) qB te Q:=by
 refine ⟨fun i m ys σ' H'=>m = n - i /\ i <= n /\ (σ' = σ \/ ∃ e,σ' = σ.set k e) /\ Pv i ys H',⟨n,by simp,Nat.zero_le _,.inl rfl,h0⟩,?_⟩
 rintro i m ys σ' H' ⟨rfl,hi,hσ,p⟩
 by_cases hlt:i < n
 ·refine .inr ⟨hlt,fun zs σ2 H2=>(σ2 = σ \/ ∃ e,σ2 = σ.set k e) /\ Pv (i + 1) zs H2,fun zs σ2 H2 p'=>⟨n - (i + 1),by omega,rfl,hlt,p'.1,p'.2⟩,fun x H2 y=>?_⟩
  obtain ⟨e,y⟩:=y
  subst e y
  have e:σ'.set k (some (V.int (lo + i))) = σ.set k (some (V.int (lo + i))):=by
   rcases hσ with rfl | ⟨e,rfl⟩
   ·rfl
   ·rw [List.set_set]
  show if true = true then te (σ'.set k (some (V.int (lo + i)))) H2 (fun y H5=>ys.length < sizeLine /\ ((σ'.set k (some (V.int (lo + i))) = σ \/ ∃ e,σ'.set k (some (V.int (lo + i))) = σ.set k e) /\ Pv (i + 1) (ys ++ [y]) H5)) else ((σ'.set k (some (V.int (lo + i))) = σ \/ ∃ e,σ'.set k (some (V.int (lo + i))) = σ.set k e) /\ Pv (i + 1) ys H2)
  rw [if_pos rfl,e]
  have e2:(fun (y:V) (H5:Hp)=>ys.length < sizeLine /\ ((σ.set k (some (V.int (lo + i))) = σ \/ ∃ e,σ.set k (some (V.int (lo + i))) = σ.set k e) /\ Pv (i + 1) (ys ++ [y]) H5)) = fun y H5=>ys.length < sizeLine /\ Pv (i + 1) (ys ++ [y]) H5:=by
   funext y H5
   exact propext ⟨fun z=>⟨z.1,z.2.2⟩,fun z=>⟨z.1,.inr ⟨_,rfl⟩,z.2⟩⟩
  rw [e2]
  exact hs i ys H2 hlt p
 ·have e:i = n:=by omega
  subst e
  exact .inl ⟨Nat.le_refl _,hd ys H' p⟩
theorem wp (Pv:Nat -> List V -> Hp -> Prop) (h0:Pv 0 [] H) (hl:∀ i ys H',Pv i ys H' -> SqL K H' a xs)
  (hs:∀ i x ys H',xs[i]? = some x -> Pv i ys H' -> te (σ.set k (some x)) H' fun y H5=>ys.length < sizeLine /\ Pv (i + 1) (ys ++ [y]) H5)
  (hd:∀ ys H',Pv xs.length ys H' -> ∀ l,H' l = none -> Q (.ref l) (upd H' l (.lst ys))):wx (Itl K a) σ H (ww k) qB te Q:=by
 refine ub (xs:=xs) (fun i ys σ' H'=>(σ' = σ \/ ∃ e,σ' = σ.set k e) /\ Pv i ys H') ⟨.inl rfl,h0⟩ (fun i ys σ' H' _ p=>hl i ys H' p.2) ?_ (fun ys σ' H' p l hl=>hd ys H' p.2 l hl)
 rintro i x ys σ' H' hx ⟨hσ,p⟩
 have e:σ'.set k (some x) = σ.set k (some x):=by
  rcases hσ with rfl | ⟨e,rfl⟩
  ·rfl
  ·rw [List.set_set]
 show if true = true then te (σ'.set k (some x)) H' (fun y H5=>ys.length < sizeLine /\ ((σ'.set k (some x) = σ \/ ∃ e,σ'.set k (some x) = σ.set k e) /\ Pv (i + 1) (ys ++ [y]) H5)) else ((σ'.set k (some x) = σ \/ ∃ e,σ'.set k (some x) = σ.set k e) /\ Pv (i + 1) ys H')
 rw [if_pos rfl,e]
 have e2:(fun (y:V) (H5:Hp)=>ys.length < sizeLine /\ ((σ.set k (some x) = σ \/ ∃ e,σ.set k (some x) = σ.set k e) /\ Pv (i + 1) (ys ++ [y]) H5)) = fun y H5=>ys.length < sizeLine /\ Pv (i + 1) (ys ++ [y]) H5:=by
  funext y H5
  exact propext ⟨fun z=>⟨z.1,z.2.2⟩,fun z=>⟨z.1,.inr ⟨_,rfl⟩,z.2⟩⟩
 rw [e2]
 exact hs i x ys H' hx p
end
theorem Grow.fresh {m:List Addr} {H H':Hp} (h:∀ b ∈ m,H b = none) (g:Grow m H H'):Grow [] H H' :=
 ⟨fun b o _ q=>g.keep b o (fun z=>by rw [h b z] at q; cases q) q,g.tup,g.frz⟩
theorem Grow.less {m m':List Addr} {H H':Hp} (g:Grow m H H') (h:∀ b ∈ m,b ∈ m' \/ H b = none):Grow m' H H' :=
 ⟨fun b o n q=>g.keep b o (fun z=>by
  rcases h b z with w | w
  ·exact n w
  ·rw [w] at q; cases q) q,g.tup,g.frz⟩
theorem Pot.ne {H:Hp} {a l:Addr} (p:Pot H a) (h:H l = none):l ∉ [a]:=by
 intro z
 obtain ⟨z0,z1,hz,_⟩:=p
 rw [List.mem_singleton.mp z,hz] at h
 cases h
theorem qD {n:Nat} {i:Int} (h0:0 <= i) (h:i.toNat < n):ixN n i = some i.toNat:=by
 unfold ixN; rw [if_pos h0,if_pos (by omega)]
structure Ask where
 hand:Int
 box:Int
 deed:Deed
def t3 (K:FG7) (H:Hp) (x:V) (k:Ask):Prop:=∃ r rd,x = .ref r /\ SqT K H r [.int k.hand,.int k.box,.ref rd] /\ SqT K H rd k.deed.vs
def AllA (K:FG7) (H:Hp):List V -> List Ask -> Prop
 | [],[]=>True
 | x :: xs,k :: ks=>t3 K H x k /\ AllA K H xs ks
 | _,_=>False
def jJ (K:FG7) (H:Hp) (x:V) (ks:List Ask):Prop:=∃ r xs,x = .ref r /\ SqT K H r xs /\ AllA K H xs ks
def zA (K:FG7) (H:Hp) (x:V) (b:List Int):Prop:=∃ r,x = .ref r /\ SqT K H r (b.map V.int)
def UQ (m:Nat) (k:Ask):Prop:=0 <= k.hand /\ k.hand <= 15 /\ 0 <= k.box /\ k.box < m /\ k.deed.Ok
theorem Grow.ask {m:List Addr} {H H':Hp} (g:Grow m H H') {K:FG7} {x:V} {k:Ask} (h:t3 K H x k):t3 K H' x k:=by
 obtain ⟨r,rd,e,h1,h2⟩:=h
 exact ⟨r,rd,e,g.sqT h1,g.sqT h2⟩
theorem Grow.allA {m:List Addr} {H H':Hp} (g:Grow m H H') {K:FG7}:∀ {xs:List V} {ks:List Ask},AllA K H xs ks -> AllA K H' xs ks
 | [],[],_=>trivial
 | _ :: _,_ :: _,⟨h,t⟩=>⟨g.ask h,g.allA t⟩
 | [],_ :: _,h=>h.elim
 | _ :: _,[],h=>h.elim
theorem Grow.asks {m:List Addr} {H H':Hp} (g:Grow m H H') {K:FG7} {x:V} {ks:List Ask} (h:jJ K H x ks):jJ K H' x ks:=by
 obtain ⟨r,xs,e,h1,h2⟩:=h
 exact ⟨r,xs,e,g.sqT h1,g.allA h2⟩
theorem Grow.board {m:List Addr} {H H':Hp} (g:Grow m H H') {K:FG7} {x:V} {b:List Int} (h:zA K H x b):zA K H' x b:=by
 obtain ⟨r,e,h1⟩:=h
 exact ⟨r,e,g.sqT h1⟩
theorem AllA.len {K:FG7} {H:Hp}:∀ {xs:List V} {ks:List Ask},AllA K H xs ks -> xs.length = ks.length
 | [],[],_=>rfl
 | _ :: xs,_ :: ks,⟨_,t⟩=>congrArg (· + 1) (AllA.len t)
 | [],_ :: _,h=>h.elim
 | _ :: _,[],h=>h.elim
theorem AllA.get {K:FG7} {H:Hp}:∀ {xs:List V} {ks:List Ask} {i:Nat} {x:V},AllA K H xs ks -> xs[i]? = some x -> ∃ k,ks[i]? = some k /\ t3 K H x k
 | _ :: _,k :: _,0,x,⟨h,_⟩,e=>by
  obtain rfl:=Option.some.inj e
  exact ⟨k,rfl,h⟩
 | _ :: _,_ :: _,i + 1,x,⟨_,t⟩,e=>AllA.get (i:=i) t e
 | [],[],i,x,_,e=>by cases e
 | [],_ :: _,_,_,h,_=>h.elim
 | _ :: _,[],_,_,h,_=>h.elim
theorem AllA.snoc {K:FG7} {H:Hp}:∀ {xs:List V} {ks:List Ask} {x:V} {k:Ask},AllA K H xs ks -> t3 K H x k -> AllA K H (xs ++ [x]) (ks ++ [k])
 | [],[],_,_,_,h=>⟨h,trivial⟩
 | _ :: _,_ :: _,_,_,⟨h,t⟩,q=>⟨h,AllA.snoc t q⟩
 | [],_ :: _,_,_,h,_=>h.elim
 | _ :: _,[],_,_,h,_=>h.elim
theorem VU {xs:List Int} {i:Nat} (h:i < xs.length):xs[i]? = some (xs.getD i 0):=by
 rw [List.getD_eq_getElem?_getD,List.getElem?_eq_getElem h]; rfl
def InB (B:Int) (xs:List Int):Prop:=∀ v ∈ xs,-B < v /\ v < B
def YQ (xs:List Int):PyData:=.tuple (xs.map PyData.int)
def ZG (d:Deed):PyData:=.tuple [.int d.add,oD d.lo,oD d.hi]
def askD (k:Ask):PyData:=.tuple [.int k.hand,.int k.box,ZG k.deed]
def Sa (ks:List Ask):PyData:=.tuple (ks.map askD)
theorem vS {K:FG7} {H:Hp}:∀ xs:List Int,DatAll K H (xs.map V.int) (xs.map PyData.int)
 | []=>.nil
 | x :: xs=>.cons (.int x) (vS xs)
theorem zA.dat {K:FG7} {H:Hp} {x:V} {b:List Int} (h:zA K H x b):Dat K H x (YQ b):=by
 obtain ⟨r,rfl,h⟩:=h
 exact .tup h (vS b)
theorem jK {K:FG7} {H:Hp} {r:Addr} {d:Deed} (h:SqT K H r d.vs):Dat K H (.ref r) (ZG d):=.tup h (.cons (.int _) (.cons (jI _) (.cons (jI _) .nil)))
theorem t3.dat {K:FG7} {H:Hp} {x:V} {k:Ask} (h:t3 K H x k):Dat K H x (askD k):=by
 obtain ⟨r,rd,rfl,h1,h2⟩:=h
 exact .tup h1 (.cons (.int _) (.cons (.int _) (.cons (jK h2) .nil)))
theorem AllA.dat {K:FG7} {H:Hp}:∀ {xs:List V} {ks:List Ask},AllA K H xs ks -> DatAll K H xs (ks.map askD)
 | [],[],_=>.nil
 | _ :: _,_ :: _,⟨h,t⟩=>.cons h.dat (AllA.dat t)
 | [],_ :: _,h=>h.elim
 | _ :: _,[],h=>h.elim
theorem jJ.dat {K:FG7} {H:Hp} {x:V} {ks:List Ask} (h:jJ K H x ks):Dat K H x (Sa ks):=by
 obtain ⟨r,xs,rfl,h1,h2⟩:=h
 exact .tup h1 h2.dat
def Sh (d:PyData) (w n:Nat):Prop:=d.showable = true /\ d.hasDict = false /\ wtD d <= w /\ d.depth <= n
theorem Sh.mono {d:PyData} {w w' n n':Nat} (h:Sh d w n) (h1:w <= w') (h2:n <= n'):Sh d w' n':=⟨h.1,h.2.1,Nat.le_trans h.2.2.1 h1,Nat.le_trans h.2.2.2 h2⟩
theorem Sh.fits {d:PyData} {w n:Nat} (h:Sh d w n) (hw:w <= 16777216):d.shown.length <= sizeLine:=ZF h.1 h.2.1 (Nat.le_trans h.2.2.1 hw)
def Vt (K:FG7) (H:Hp) (x:V) (p:List Int × List Int):Prop:=∃ r r1 r2,x = .ref r /\ SqT K H r [.ref r1,.ref r2] /\ SqT K H r1 (p.1.map V.int) /\ SqT K H r2 (p.2.map V.int)
def Sb (p:List Int × List Int):PyData:=.tuple [YQ p.1,YQ p.2]
theorem Vt.dat {K:FG7} {H:Hp} {x:V} {p:List Int × List Int} (h:Vt K H x p):Dat K H x (Sb p):=by
 obtain ⟨r,r1,r2,rfl,h0,h1,h2⟩:=h
 exact .tup h0 (.cons (.tup h1 (vS _)) (.cons (.tup h2 (vS _)) .nil))
theorem InB.mono {B C:Int} {xs:List Int} (h:InB B xs) (hC:B <= C):InB C xs:=fun v hv=>by have:=h v hv; omega
def vI (K:FG7):Sp:=sp3 fun x y z H Q=>∃ i l u,x = .int i /\ y = .int l /\ z = .int u /\ Q (.bl (decide (l <= i) && decide (i <= u))) H
def uc (K:FG7):Sp:=sp1 fun x H Q=>∃ b,zA K H x b /\ 1 <= b.length /\ b.length <= 16 /\ ∀ H',Grow [] H H' -> Q (.bl true) H'
def wX (K:FG7):Sp:=sp1 fun x H Q=>∃ b,zA K H x b /\ 1 <= b.length /\ b.length <= 16 /\ ∀ H',Grow [] H H' -> Q .non H'
def rD (K:FG7):Sp:=sp2 fun x y H Q=>∃ b k,zA K H x b /\ t3 K H y k /\ UQ b.length k /\ Q (.bl true) H
inductive Tr where
 | leaf (n:Int)
 | node (l r:Tr)
def Tr.count:Tr -> Int
 | .leaf _=>1
 | .node l r=>l.count + r.count
def Tr.ht:Tr -> Nat
 | .leaf _=>0
 | .node l r=>max l.ht r.ht + 1
def u5 (K:FG7) (H:Hp) (x:V):Tr -> Prop
 | .leaf n=>x = .int n
 | .node l r=>∃ a xl xr,x = .ref a /\ SqT K H a [xl,xr] /\ u5 K H xl l /\ u5 K H xr r
def trD:Tr -> PyData
 | .leaf n=>.int n
 | .node l r=>.tuple [trD l,trD r]
theorem u5.dat {K:FG7} {H:Hp}:∀ {t:Tr} {x:V},u5 K H x t -> Dat K H x (trD t)
 | .leaf n,x,h=>by
  cases (show x = V.int n from h)
  exact .int n
 | .node l r,x,h=>by
  obtain ⟨a,xl,xr,e,hs,h1,h2⟩:=h
  subst e
  exact .tup hs (.cons (u5.dat h1) (.cons (u5.dat h2) .nil))
def Tr.wt:Tr -> Nat
 | .leaf _=>1
 | .node l r=>l.wt + r.wt + 1
def sp4 (b:V -> V -> V -> V -> Hp -> VK -> Prop):Sp:=fun vs H Q _=>∃ x y z u,vs = [x,y,z,u] /\ b x y z u H Q
theorem vn {b:V -> V -> V -> V -> Hp -> VK -> Prop} {p q r s:Str}:∀ vs H Q E,sp4 b vs H Q E -> vs.length = [p,q,r,s].length:=fun vs H Q E h=>by
 obtain ⟨x,y,z,u,rfl,_⟩:=h; rfl
def AllR {α:Type} (R:V -> α -> Prop):List V -> List α -> Prop
 | [],[]=>True
 | x :: xs,k :: ks=>R x k /\ AllR R xs ks
 | _,_=>False
section
variable {α:Type} {R S:V -> α -> Prop}
theorem AllR.imp (h:∀ x k,R x k -> S x k):∀ {xs:List V} {ks:List α},AllR R xs ks -> AllR S xs ks
 | [],[],_=>trivial
 | _ :: _,_ :: _,⟨a,t⟩=>⟨h _ _ a,AllR.imp h t⟩
 | [],_ :: _,z=>z.elim
 | _ :: _,[],z=>z.elim
theorem AllR.len:∀ {xs:List V} {ks:List α},AllR R xs ks -> xs.length = ks.length
 | [],[],_=>rfl
 | _ :: xs,_ :: ks,⟨_,t⟩=>congrArg (· + 1) (AllR.len t)
 | [],_ :: _,h=>h.elim
 | _ :: _,[],h=>h.elim
theorem AllR.get:∀ {xs:List V} {ks:List α} {i:Nat} {x:V},AllR R xs ks -> xs[i]? = some x -> ∃ k,ks[i]? = some k /\ R x k
 | _ :: _,k :: _,0,x,⟨h,_⟩,e=>by
  obtain rfl:=Option.some.inj e
  exact ⟨k,rfl,h⟩
 | _ :: _,_ :: _,i + 1,x,⟨_,t⟩,e=>AllR.get (i:=i) t e
 | [],[],i,x,_,e=>by cases e
 | [],_ :: _,_,_,h,_=>h.elim
 | _ :: _,[],_,_,h,_=>h.elim
theorem AllR.getR:∀ {xs:List V} {ks:List α} {i:Nat} {k:α},AllR R xs ks -> ks[i]? = some k -> ∃ x,xs[i]? = some x /\ R x k
 | x :: _,_ :: _,0,k,⟨h,_⟩,e=>by
  obtain rfl:=Option.some.inj e
  exact ⟨x,rfl,h⟩
 | _ :: _,_ :: _,i + 1,k,⟨_,t⟩,e=>AllR.getR (i:=i) t e
 | [],[],i,k,_,e=>by cases e
 | [],_ :: _,_,_,h,_=>h.elim
 | _ :: _,[],_,_,h,_=>h.elim
theorem AllR.app:∀ {xs ys:List V} {ks js:List α},AllR R xs ks -> AllR R ys js -> AllR R (xs ++ ys) (ks ++ js)
 | [],_,[],_,_,h=>h
 | _ :: _,_,_ :: _,_,⟨h,t⟩,q=>⟨h,AllR.app t q⟩
 | [],_,_ :: _,_,h,_=>h.elim
 | _ :: _,_,[],_,h,_=>h.elim
theorem AllR.one {x:V} {k:α} (h:R x k):AllR R [x] [k]:=⟨h,trivial⟩
theorem AllR.take:∀ {xs:List V} {ks:List α} {n:Nat},AllR R xs ks -> AllR R (xs.take n) (ks.take n)
 | [],[],n,_=>by rw [List.take_nil,List.take_nil]; trivial
 | _ :: _,_ :: _,0,_=>trivial
 | _ :: _,_ :: _,n + 1,⟨h,t⟩=>⟨h,AllR.take t⟩
 | [],_ :: _,_,h=>h.elim
 | _ :: _,[],_,h=>h.elim
end
def jL (K:FG7) (H:Hp) (x:V) (ds:List Deed):Prop:=∃ r xs,x = .ref r /\ SqT K H r xs /\ AllR (yD K H) xs ds
theorem yD.dat {K:FG7} {H:Hp} {x:V} {d:Deed} (h:yD K H x d):Dat K H x (ZG d):=by
 obtain ⟨r,rfl,h⟩:=h
 exact jK h
theorem datR {α:Type} {K:FG7} {H:Hp} {R:V -> α -> Prop} {f:α -> PyData} (h:∀ x k,R x k -> Dat K H x (f k)):∀ {xs:List V} {ks:List α},AllR R xs ks -> DatAll K H xs (ks.map f)
 | [],[],_=>.nil
 | _ :: _,_ :: _,⟨a,t⟩=>.cons (h _ _ a) (datR h t)
 | [],_ :: _,h=>h.elim
 | _ :: _,[],h=>h.elim
theorem jL.dat {K:FG7} {H:Hp} {x:V} {ds:List Deed} (h:jL K H x ds):Dat K H x (.tuple (ds.map ZG)):=by
 obtain ⟨r,xs,rfl,h1,h2⟩:=h
 exact .tup h1 (datR (fun _ _ z=>z.dat) h2)
def look:Deed:=⟨0,none,none⟩
def UR (ds:List Deed):Prop:=∀ d ∈ ds,d.Ok
def runD (ds:List Deed):Deed:=ds.foldl UN look
theorem AllR.drop {α:Type} {R:V -> α -> Prop}:∀ {xs:List V} {ks:List α} {n:Nat},AllR R xs ks -> AllR R (xs.drop n) (ks.drop n)
 | [],[],n,_=>by rw [List.drop_nil,List.drop_nil]; trivial
 | _ :: _,_ :: _,0,h=>h
 | _ :: _,_ :: _,n + 1,⟨h,t⟩=>AllR.drop (n:=n) t
 | [],_ :: _,_,h=>h.elim
 | _ :: _,[],_,h=>h.elim
theorem CSc.nest {X0:Cx} {scope scope2:Scope} {N' N2:List Str} {sub sub2:List (Option Nat)} {cl:List (Str × Addr)} {C D:Addr} {fp:List Addr} {s:Shared} {H:Hp} (S:CSc X0 scope N' sub) (hk0:X0.env.scope.kind = .function)
  (h:((scope2.names.all fun y=>(y.2 != .free || scope.names.lookup y.1 == some .free) && (y.2 != .cell) && (y.2 != .local || scope2.names.lookup y.1 == some .local)) && (sub2.length == N2.length) &&
   ((N2.zip sub2).all fun p=>match p.2 with | none=>true | some i=>N'[i]? == some p.1 && scope.names.lookup p.1 == some .free && scope2.names.lookup p.1 == some .free)) = true)
  (hk:scope2.kind = .function):CSc (cxC X0 N' scope cl C D fp s H) scope2 N2 sub2:=by
 rw [Bool.and_eq_true,Bool.and_eq_true] at h
 obtain ⟨⟨h1,h2⟩,h3⟩:=h
 have k1:=fun y hy=>List.all_eq_true.mp h1 y hy
 have cellOf:∀ y:Str,scope.names.lookup y = some .free -> (relabel scope X0.env).names.lookup y = some .cell:=fun y hy=>vH hk0 (S.free (y,.free) (PySem.mem_of_lookup hy) rfl) hy
 refine ⟨fun y hy hf=>?_,fun y hy hc=>?_,hk,fun y hy hl=>?_,by simpa using h2,fun j y i hj hs=>?_⟩
 ·have:=k1 y hy
  simp only [hf,Bool.and_eq_true] at this
  have z:=this.1.1
  exact cellOf y.1 (by simpa using z)
 ·have:=k1 y hy
  simp only [hc,Bool.and_eq_true] at this
  simp at this
 ·have:=k1 y hy
  simp only [hl,Bool.and_eq_true] at this
  simpa using this.2
 ·have hm:(y,some i) ∈ N2.zip sub2:=by
   have:(N2.zip sub2)[j]? = some (y,some i):=by
    rw [List.getElem?_zip_eq_some]; exact ⟨hj,hs⟩
   exact List.mem_of_getElem? this
  have:=List.all_eq_true.mp h3 _ hm
  simp only [Bool.and_eq_true,beq_iff_eq] at this
  exact ⟨this.1.1,cellOf y this.1.2,this.2⟩
theorem rE {X:Cx} {K:FG7} (h:X.K = K):xw X (.builtin "len") (fun xs H Q=>∃ p ys,xs = [.ref p] /\ (SqL K H p ys \/ SqT K H p ys) /\ Q (.int ys.length) H):=by subst h; exact zq
def vJ (K:FG7) (H:Hp) (x:V) (rows:List (List Int)):Prop:=∃ r xs,x = .ref r /\ SqT K H r xs /\ AllR (zA K H) xs rows
theorem Grow.boardsR {m:List Addr} {H H':Hp} (g:Grow m H H') {K:FG7} {xs:List V} {rows:List (List Int)} (h:AllR (zA K H) xs rows):AllR (zA K H') xs rows:=h.imp fun _ _ z=>g.board z
theorem Grow.rows {m:List Addr} {H H':Hp} (g:Grow m H H') {K:FG7} {x:V} {rows:List (List Int)} (h:vJ K H x rows):vJ K H' x rows:=by
 obtain ⟨r,xs,e,h1,h2⟩:=h
 exact ⟨r,xs,e,g.sqT h1,g.boardsR h2⟩
def Rng (m:Int) (xs:List Int):Prop:=∀ v ∈ xs,0 <= v /\ v < m
def Wu (R M:Nat) (rows:List (List Int)):Prop:=rows.length = R /\ ∀ row ∈ rows,row.length = M /\ Rng M row
structure Fd (R:Nat) (tab:List (List Int)) (ns:List Int):Prop where
 tab:Wu R R tab
 ns:Rng R ns
section
variable {prog:Program} {w:World} {A:Around} {E:VS7} {s:Shared}
theorem qE {jt t:Addr} {i:Nat} {vs:Array Value} {v:Value} {Q:VS7} (hit:s.heap.IsTupleIter jt t i) (ht:s.heap.IsTuple t vs) (hv:vs[i]? = some v)
  (hQ:∀ h',h'.IsTupleIter jt t (i + 1) -> Heap.SameBut jt s.heap h' -> Q v { s with heap:=h' }):wpAny (model prog w) A (Builtin.SmallTypes.nextOf (.ref jt)) Q E s:=by
 obtain ⟨oj,hoj,cj,dj⟩:=id hit
 obtain ⟨ot,hot,_,nt,dt⟩:=ht
 unfold Builtin.SmallTypes.nextOf
 refine wpAny_bind (wpAny_callSpecial?_slot (name:=Str.ofString "__next__") hit.typeIs F.slot_tuple_iterator_next (wpAny_call_entry F.slot_tuple_iterator_next hit.typeIs F.entry_tuple_iterator_next ?_ (F.args_tuple_iterator_next_1 _)))
 show wpAny _ _ (field (.ref jt) 0 >>= _) _ _ s
 refine wpAny_bind (wpAny_field hoj dj (x:=.ref t) rfl ?_); show wpAny _ _ (if (Value.ref t == Value.none) = true then _ else _) _ _ s
 rw [if_neg (show ¬ ((Value.ref t == Value.none) = true) by exact Bool.false_ne_true)]; show wpAny _ _ (field (.ref jt) 1 >>= _) _ _ s
 refine wpAny_bind (wpAny_field hoj dj (x:=.int i 0) rfl ?_); show wpAny _ _ (seqItems? (.ref t) >>= _) _ _ s
 refine wpAny_bind (wpAny_seqItems hot dt ?_); simp only [Int.toNat_natCast,hv]
 refine wpAny_bind (wpAny_setField hoj dj (by simp) (wpAny_pure ⟨v,rfl,wpAny_pure (hQ _ ⟨_,Heap.get?_update_self _ hoj (Obj.isFreed_of_fields (Obj.data_mapFields dj _)),(Obj.cls_mapFields ..).trans cj,by rw [Obj.data_mapFields dj]; simp [rawInt]⟩ (Heap.SameBut.update ..))⟩))
theorem u6 {jt t:Addr} {i:Nat} {vs:Array Value} {Q:VS7} (hh:A.handled = none) (hit:s.heap.IsTupleIter jt t i) (ht:s.heap.IsTuple t vs) (hv:vs[i]? = none)
  (hE:∀ h' e,Heap.ExtBut jt s.heap h' -> (∃ o,h'.get? e = some o /\ o.cls = .type "StopIteration") -> E (.ref e) { s with heap:=h' }):wpAny (model prog w) A (Builtin.SmallTypes.nextOf (.ref jt)) Q E s:=by
 obtain ⟨oj,hoj,cj,dj⟩:=id hit
 obtain ⟨ot,hot,_,nt,dt⟩:=ht
 unfold Builtin.SmallTypes.nextOf
 refine wpAny_bind (wpAny_callSpecial?_slot (name:=Str.ofString "__next__") hit.typeIs F.slot_tuple_iterator_next (wpAny_call_entry F.slot_tuple_iterator_next hit.typeIs F.entry_tuple_iterator_next ?_ (F.args_tuple_iterator_next_1 _)))
 show wpAny _ _ (field (.ref jt) 0 >>= _) _ _ s
 refine wpAny_bind (wpAny_field hoj dj (x:=.ref t) rfl ?_); show wpAny _ _ (if (Value.ref t == Value.none) = true then _ else _) _ _ s
 rw [if_neg (show ¬ ((Value.ref t == Value.none) = true) by exact Bool.false_ne_true)]; show wpAny _ _ (field (.ref jt) 1 >>= _) _ _ s
 refine wpAny_bind (wpAny_field hoj dj (x:=.int i 0) rfl ?_); show wpAny _ _ (seqItems? (.ref t) >>= _) _ _ s
 refine wpAny_bind (wpAny_seqItems hot dt ?_); simp only [Int.toNat_natCast,hv]
 refine wpAny_bind (wpAny_rule (wpAny_bind (wpAny_setField hoj dj (by simp) ?_))); show wpAny _ _ (newExc (.type "StopIteration") [] >>= _) _ _ _
 refine wpAny_bind ?_; simp only [newExc,newTuple]
 refine wpAny_bind (wpAny_newObj_type ?_ (by size_fits)); refine wpAny_bind (m:=firstArgMember _ _) (wpAny_of_eq (a:=Value.none) (by first | rfl | (simp only [firstArgMember]; rfl)) ?_)
 refine wpAny_newObj_type ?_ (by size_fits); simp only [raiseNew]
 refine wpAny_bind (wpAny_handled ?_); (first | rw [show A.in1.handled = none from hh] | rw [hh])
 exact wpAny_bind (wpAny_pure (wpAny_throw (hE _ _ (((Heap.SameBut.update ..).extBut.push _).push _) ⟨_,Heap.get?_push_size _ rfl,rfl⟩)))
end
theorem YR {prog:Program} {w:World} {A:Around} (hh:A.handled = none) (jt t:Addr) (hne:t ≠ jt) (vs:Array Value) :
  Draws prog w A jt [jt,t] vs.size (fun i v=>vs[i]? = some v) (fun i h=>h.IsTupleIter jt t i /\ h.IsTuple t vs) where
 live:=fun _ _ st=>let ⟨o,ho,_⟩:=st.1; ⟨o,ho⟩
 frame:=fun _ _ _ st hk=>⟨st.1.at (hk jt (by simp)),st.2.at (hk t (by simp))⟩
 item:=fun i s Q E hi st hQ=>qE st.1 st.2 (v:=vs[i]) (by simp [hi]) fun h' hit' hs'=>hQ _ h' s.toks (by simp [hi]) ⟨hit',st.2.extBut hs'.extBut hne⟩ hs'
 done:=fun s Q E st hE=>u6 hh st.1 st.2 (by simp) hE
theorem YS {prog:Program} {w:World} {A:Around} (hh:A.handled = none) (jt t:Addr) (vs:Array Value) {i:Nat} (hv:vs[i]? = none) :
  Draws prog w A jt [jt,t] i (fun _ _=>True) (fun j h=>j = i /\ h.IsTupleIter jt t i /\ h.IsTuple t vs) where
 live:=fun _ _ st=>let ⟨o,ho,_⟩:=st.2.1; ⟨o,ho⟩
 frame:=fun _ _ _ st hk=>⟨st.1,st.2.1.at (hk jt (by simp)),st.2.2.at (hk t (by simp))⟩
 item:=fun j s Q E hj st hQ=>absurd st.1 (Nat.ne_of_lt hj)
 done:=fun s Q E st hE=>u6 hh st.2.1 st.2.2 hv hE
section
variable {X:Cx} {pins:List (Addr × Obj)} {σ:L2.St} {H:Hp} {s:Shared} {h':Heap}
theorem qF {fp:List Addr} {t':Nat} (I:Inv X pins σ H s) (k:∀ b o,b ∉ fp -> s.heap.get? b = some o -> h'.get? b = some o) (ff:∀ b ∈ fp,FpOk X pins H b):Inv X pins σ H { s with heap:=h',toks:=t' }:=by
 have nit:∀ b u,H b = some u -> b ∉ fp:=fun b u e z=>by rw [(ff b z).1] at e; cases e
 refine I.step (g':=s.gens) (d':=s.drawn) (ch:=fp) (fun b hb=>?_) (fun b o _ _ hc e _=>k b o hc e) (fun b o _ _ hc e _=>⟨o.slots,k b o hc e⟩) (fun _ _ _ _ n=>n) (fun b o hc e=>⟨o,k b o hc e⟩) (fun _ _ e=>e) (fun _ _ _ e=>e) (fun b ps e=>⟨#[],by rw [e]; simp⟩) (fun m hm=>?_) (fun b u e=>?_) I.bare
 ·obtain ⟨_,f1,_,f3,f4,f5⟩:=ff b hb
  exact ⟨f3,f1,f4,f5⟩
 ·obtain ⟨o,es,ep,ho,r⟩:=hm
  exact ⟨o,es,ep,k _ o (fun z=>(ff _ z).2.1 rfl) ho,r⟩
 ·refine (I.hok b u e).stay (fun c v hc q=>k c v ?_ q) (fun _ q=>q) fun _ _ q=>q
  rcases hc with z | z
  ·rw [z]; exact nit b u e
  ·exact nit c _ z
theorem jM {fp:List Addr} {T:Addr} {o:HO} {t':Nat} (I:Inv X pins σ H s) (k:∀ b o,b ∉ fp -> s.heap.get? b = some o -> h'.get? b = some o) (ff:∀ b ∈ fp,FpOk X pins H b) (hT:s.heap.objs.size <= T)
  (new:z5 X.prog X.w (upd H T o) h' T o):Inv X pins σ (upd H T o) { s with heap:=h',toks:=t' }:=by
 have hn:H T = none:=I.hok.fresh hT
 have I1:Inv X pins σ H { s with heap:=h',toks:=t' }:=qF I k ff
 have hok:HOk X.prog X.w (upd H T o) h':=HOk.track I1.hok hn new
 refine I.step (g':=s.gens) (d':=s.drawn) (ch:=fp) (fun b hb=>?_) (fun b o _ _ hc e _=>k b o hc e) (fun b o _ _ hc e _=>⟨o.slots,k b o hc e⟩) (fun b u _ e n=>by rw [zo (Nat.ne_of_lt (Nat.lt_of_lt_of_le (Heap.lt_size e) hT))]; exact n) (fun b o hc e=>⟨o,k b o hc e⟩)
  (fun b xs e=>by rw [zo (zD e hn)]; exact e) (fun b u xs e=>by rw [zo (zD e hn)]; exact e) (fun b ps e=>⟨#[],by rw [zo (zD e hn),e]; simp⟩) (fun m hm=>?_) hok I.bare
 ·obtain ⟨_,f1,_,f3,f4,f5⟩:=ff b hb
  exact ⟨f3,f1,f4,f5⟩
 ·obtain ⟨o,es,ep,ho,r⟩:=hm
  exact ⟨o,es,ep,k _ o (fun z=>(ff _ z).2.1 rfl) ho,r⟩
end
section
variable {X:Cx} {elts:List Expr} {kt:Nat} {pt:Pos}
theorem US:bootBuiltins "enumerate" = some (.type "enumerate"):=by decide +kernel
end
theorem Sc {ds:List Deed} {i:Nat} (h:i < ds.length):ds[i]? = some (ds.getD i look):=by
 rw [List.getD_eq_getElem?_getD,List.getElem?_eq_getElem h]; rfl
def Sd (j:Int) (ks:List Ask):List Deed:=(ks.filter fun k=>decide (k.box = j)).map Ask.deed
structure GInv (b:List Int) (ks:List Ask) (g:List Deed × List Deed) (p:List Int × List Int):Prop where
 l1:g.1.length = b.length
 l2:g.2.length = ks.length
 p1:p.1.length = ks.length
 p2:p.2.length = b.length
 bd1:∀ d ∈ g.1,d.Ok /\ d.Bd (ks.length * 10 ^ 30)
 bd2:∀ d ∈ g.2,d.Ok /\ d.Bd (ks.length * 10 ^ 30)
 run:∀ j:Nat,j < b.length -> g.1.getD j look = runD (Sd j ks)
 val:∀ j:Nat,j < b.length -> p.2.getD j 0 = (g.1.getD j look).mk' (b.getD j 0)
 ans:∀ i k,ks[i]? = some k -> p.1.getD i 0 = (g.2.getD i look).mk' (b.getD k.box.toNat 0)
theorem AllR.set {α:Type} {R:V -> α -> Prop} {x:V} {k:α} (h:R x k):∀ {xs:List V} {ks:List α} {n:Nat},AllR R xs ks -> AllR R (xs.set n x) (ks.set n k)
 | [],[],n,_=>by cases n <;> trivial
 | _ :: _,_ :: _,0,⟨_,t⟩=>⟨h,t⟩
 | _ :: _,_ :: _,n + 1,⟨a,t⟩=>⟨a,AllR.set h t⟩
 | [],_ :: _,_,z=>z.elim
 | _ :: _,[],_,z=>z.elim
def Vu (K:FG7) (H:Hp) (x:V) (g:List Deed × List Deed):Prop:=∃ r r1 r2,x = .ref r /\ SqT K H r [.ref r1,.ref r2] /\ jL K H (.ref r1) g.1 /\ jL K H (.ref r2) g.2
section
variable {K:FG7} {a:Addr} {xs:List V} {k:Nat} {tt:TT} {te:TE} {Q:VK} {σ:L2.St} {H:Hp}
theorem ZH (p:V -> Bool) (Pv:Nat -> List V -> Hp -> Prop) (h0:Pv 0 [] H) (hl:∀ i ys H',Pv i ys H' -> SqT K H' a xs)
  (ht:∀ x H' (R:Bool -> Hp -> Prop),x ∈ xs -> R (p x) H' -> tt (σ.set k (some x)) H' R)
  (hs:∀ i x ys H',xs[i]? = some x -> Pv i ys H' -> p x = true -> te (σ.set k (some x)) H' fun y H5=>ys.length < sizeLine /\ Pv (i + 1) (ys ++ [y]) H5)
  (hn:∀ i x ys H',xs[i]? = some x -> Pv i ys H' -> p x = false -> Pv (i + 1) ys H')
  (hd:∀ ys H',Pv xs.length ys H' -> ∀ l,H' l = none -> Q (.ref l) (upd H' l (.lst ys))):wx (Itt K a) σ H (ww k) tt te Q:=by
 refine xL (xs:=xs) (fun i ys σ' H'=>(σ' = σ \/ ∃ e,σ' = σ.set k e) /\ Pv i ys H') ⟨.inl rfl,h0⟩ (fun i ys σ' H' _ p=>hl i ys H' p.2) ?_ (fun ys σ' H' p l hl=>hd ys H' p.2 l hl)
 rintro i x ys σ' H' hx ⟨hσ,pv⟩
 have e:σ'.set k (some x) = σ.set k (some x):=by
  rcases hσ with rfl | ⟨e,rfl⟩
  ·rfl
  ·rw [List.set_set]
 show tt (σ'.set k (some x)) H' _
 rw [e]
 refine ht x H' _ (List.mem_of_getElem? hx) ?_
 by_cases c:p x = true
 ·rw [if_pos c]
  have e2:(fun (y:V) (H5:Hp)=>ys.length < sizeLine /\ ((σ.set k (some x) = σ \/ ∃ e,σ.set k (some x) = σ.set k e) /\ Pv (i + 1) (ys ++ [y]) H5)) = fun y H5=>ys.length < sizeLine /\ Pv (i + 1) (ys ++ [y]) H5:=by
   funext y H5
   exact propext ⟨fun z=>⟨z.1,z.2.2⟩,fun z=>⟨z.1,.inr ⟨_,rfl⟩,z.2⟩⟩
  have z:=hs i x ys H' hx pv c
  rw [← e2] at z
  exact z
 ·rw [if_neg c]
  exact ⟨.inr ⟨_,rfl⟩,hn i x ys H' hx pv (by simpa using c)⟩
end
def figI (k st l:Int):Int:=Builtin.bitAnd (l / 2 ^ (k - st).toNat) 1
def wfI (k st l w:Int):Int:=Builtin.bitXor l (Builtin.bitXor (figI k st l) w * 2 ^ (k - st).toNat)
def swI (k st l:Int):Int:=Builtin.bitOr (l / 2 ^ (k - st + 1).toNat * 2 ^ (k - st).toNat) (Builtin.bitAnd l (1 * 2 ^ (k - st).toNat - 1))
def wY (k n:Int):List Int:=(List.range k.toNat).map fun i:Nat=>Builtin.bitAnd (n / 2 ^ (k - 1 - (0 + (i:Int))).toNat) 1
def numL (xs:List Int):Int:=xs.foldl (fun f o=>2 * f + o) 0
def VV (k h g:Int) (n:Nat):Int:=numL ((wY k g).take n ++ (wY k h).drop n)
def ZI (k l:Int) (st:Nat):Int:=numL ((wY k l).take (st - 1) ++ (wY k l).drop st)
theorem wZ {i j:Int} (h:-(2 ^ 60) < i /\ i < 2 ^ 60):IntMulOk i j:=PySem.IntMulOk.of_left (Nat.le_trans ((PySem.intBits_le_iff (m:=60)).mpr (by obtain ⟨a,b⟩:=h; omega)) (by decide))
theorem qG {k:Nat} (h:k <= 4):(2:Nat) ^ k <= 16:=Nat.le_trans (Nat.pow_le_pow_right (by decide) h) (by decide)
theorem VW {k:Nat}:(1:Int) * 2 ^ ((k:Int)).toNat = ((2 ^ k:Nat):Int):=by rw [Int.toNat_natCast,Int.one_mul,Int.natCast_pow]; rfl
section
variable {X:Cx}
theorem YT:∀ {ns:List Int} {us:List Value},Vals (ns.map V.int) us -> ∀ (i:Nat) (v:Value),us[i]? = some v -> ∃ t,v = Value.int ((ns[i]?).getD 0) t
 | [],_,.nil,i,v,e=>by cases e
 | n :: ns,_,.cons r t,0,v,e=>by
  obtain ⟨u,rfl⟩:=r
  obtain rfl:=Option.some.inj e
  exact ⟨u,rfl⟩
 | n :: ns,_,.cons r t,i + 1,v,e=>YT t i v e
theorem rF (hcalm:X.calm = true):xw X (.builtin "max") (fun xs H Q=>∃ (l:Addr) (ns:List Int),xs = [.ref l] /\ SqL X.K H l (ns.map V.int) /\ 0 < ns.length /\ ∀ M,M ∈ ns -> (∀ a ∈ ns,a <= M) -> Q (.int M) H):=by
 intro pins s σ H xs us Q I r h
 obtain ⟨l,ns,rfl,hl,h0,q⟩:=h
 obtain ⟨u,rfl,rx⟩:=wS r
 cases (show u = Value.ref l from rx)
 obtain ⟨vs,rv,pl,_⟩:=I.list hl
 have hl':s.heap.IsList l vs.toArray:=pl.isList
 have hb:=YT rv
 have hlen:ns.length = vs.length:=by rw [← rv.length,List.length_map]
 have hlt:l < s.heap.objs.size:=by obtain ⟨_,e,_⟩:=hl'; exact Heap.lt_size e
 have best:=argBest_gt (fun i=>(ns[i]?).getD 0) (vs.length - 1)
 refine call_max_walk (wpAny_pyIter_list hl' ?_)
 refine ⟨s.heap.objs.size,[s.heap.objs.size,l],[s.heap.objs.size],vs.toArray.size,_,_,fun i j=>decide ((ns[i]?).getD 0 > (ns[j]?).getD 0),rfl,Walks.list (A:=X.A.in1) (I.ok.hd hcalm) _ l (Nat.ne_of_lt hlt) vs.toArray,
  ⟨⟨_,Heap.get?_push_size _ rfl,rfl,rfl⟩,hl'.push _⟩,?_,?_,CmpOf.ints_gt _ (fun i v hP=>hb i v (by simpa using hP)),fun v h' tk hP hk=>?_⟩
 ·intro b hb
  have sz:(s.heap.push { cls:=.type "list_iterator",data:=.fields #[.ref l,.int 0 0] }).objs.size = s.heap.objs.size + 1:=Heap.size_push ..
  rcases List.mem_cons.mp hb with z | z
  ·rw [z]; show _ < (s.heap.push _).objs.size; rw [sz]; omega
  ·rw [List.mem_singleton.mp z]; show _ < (s.heap.push _).objs.size; rw [sz]; exact Nat.lt_succ_of_lt hlt
 ·rw [List.size_toArray]; omega
 ·rw [List.size_toArray] at hP
  obtain ⟨t,rfl⟩:=hb _ v (by simpa using hP)
  have hi:argBest (fun i j=>decide ((ns[i]?).getD 0 > (ns[j]?).getD 0)) (vs.length - 1) < ns.length:=by have:=best.1; omega
  refine ⟨.int ((ns[argBest (fun i j=>decide ((ns[i]?).getD 0 > (ns[j]?).getD 0)) (vs.length - 1)]?).getD 0),H,I.kept (t':=tk) (h':=h') (LSm.kept_iter hk),⟨t,rfl⟩,q _ ?_ ?_⟩
  ·rw [List.getElem?_eq_getElem hi]; exact List.getElem_mem hi
  ·intro a ha
   obtain ⟨j,hj,rfl⟩:=List.getElem_of_mem ha
   have:=best.2 j (by omega)
   rw [List.getElem?_eq_getElem hj] at this
   exact this
end
theorem VX {X:Cx} {K:FG7} {tg l:Expr} {tl:TE} (h:X.K = K) (hl:PE X l tl):PI X tg l (iTup K tl):=by subst h; exact xB hl
def pI (p:Int -> Bool):V -> Bool
 | .int i=>p i
 | _=>false
theorem YU (p:Int -> Bool):∀ ns:List Int,((ns.map V.int).filter (pI p)).map id = (ns.filter p).map V.int
 | []=>rfl
 | n :: ns=>by
  have ih:=YU p ns
  rw [List.map_id] at ih ⊢
  rw [List.map_cons,List.filter_cons,List.filter_cons,show pI p (V.int n) = p n from rfl]
  split
  ·rw [ih]; rfl
  ·exact ih
theorem VY {K:FG7} {a:Addr} {n:Nat} {tt:TT} {te:TE} {Q:VK} {σ:L2.St} {H:Hp} {ns:List Int} (p:Int -> Bool) (hl:SqL K H a (ns.map V.int)) (hlen:ns.length <= 1000)
  (ht:∀ i H' (R:Bool -> Hp -> Prop),i ∈ ns -> Grow [] H H' -> (∀ H2,Grow [] H' H2 -> R (p i) H2) -> tt (σ.set n (some (.int i))) H' R)
  (hs:∀ i H' (R:VK),i ∈ ns -> Grow [] H H' -> (∀ H2,Grow [] H' H2 -> R (.int i) H2) -> te (σ.set n (some (.int i))) H' R)
  (hd:∀ H' l,Grow [] H H' -> H' l = none -> Q (.ref l) (upd H' l (.lst ((ns.filter p).map V.int)))):wx (Itl K a) σ H (ww n) tt te Q :=
 u4 (pI p) id hl (by rw [List.length_map]; exact hlen) (fun x H' R hx g k=>by obtain ⟨i,hi,rfl⟩:=List.mem_map.mp hx; exact ht i H' R hi g k)
  (fun x H' R hx _ g k=>by obtain ⟨i,hi,rfl⟩:=List.mem_map.mp hx; exact hs i H' R hi g k) (fun H' l g hl=>by rw [YU]; exact hd H' l g hl)
theorem nv {i j:Int} (h:i ≠ j):decide (V.int i = V.int j) = false:=decide_eq_false fun z=>h (V.int.inj z)
theorem Deed.Sm.bd2 {d:Deed} (h:d.Sm):d.Bd (2 * 10 ^ 30):=h.bd.mono (by decide)
section
variable {X:Cx} {pins:List (Addr × Obj)} {σ:L2.St} {H2:Hp} {s₂:Shared} {it:Addr} {fp:List Addr} {tn:Nat -> Heap -> Prop} {J:It} {scope:Scope} {cl:List (Str × Addr)} {N':List Str} {sub:List (Option Nat)}
theorem YV {C D:Addr} {s₀:Shared} {tg:Expr} {pos:Pos} {elt iter:Expr} {ifs:List Expr} {g:TG} {tt:TT} {te:TE} {Q:VK} {RR:Value -> Addr -> Result -> Shared -> Prop} {W:Nat -> Nat -> List V -> L2.St -> Hp -> Prop}
  (I:Inv X pins σ H2 s₂) (hcalm:X.calm = true) (T:Turn X.prog X.w X.K tg J fp it tn) (f2:∀ b ∈ fp,FpOk X pins H2 b) (hfp:∀ b ∈ fp,b < s₂.heap.objs.size)
  (hs₀:∀ b o,s₂.heap.get? b = some o -> s₀.heap.get? b = some o) (hos:s₀.os = s₂.os) (hD:s₂.heap.objs.size <= D) (hC:s₂.heap.objs.size <= C) (hDC:D ≠ C)
  (hcl1:∀ x c,cl.lookup x = some c -> X.env.cells.lookup x = some c)
  (hg:PG (cxC X N' scope cl C D fp s₀ H2) tg g) (ht:PIfs (cxC X N' scope cl C D fp s₀ H2) ifs tt) (he:PE (cxC X N' scope cl C D fp s₀ H2) elt te)
  (turn:∀ i m ys σ' H',W i m ys σ' H' →
   (J.stop i H' /\ ∀ l,H' l = none -> Q (.ref l) (upd H' l (.lst ys))) ∨
   (J.go i H' /\ ∃ Nn:List V -> L2.St -> Hp -> Prop,(∀ zs σ2 H2,Nn zs σ2 H2 -> ∃ m',m' < m /\ W (i + 1) m' zs σ2 H2) ∧
    ∀ x H2,J.yld i H' x H2 -> g x σ' H2 fun σ2 H3=>tt σ2 H3 fun b H4=>if b = true then te σ2 H4 fun y H5=>ys.length < sizeLine /\ Nn (ys ++ [y]) σ2 H5 else Nn ys σ2 H4))
  (hRR:∀ (D C:Addr) (oC:Obj) (m:Str -> Option Value) (s':Shared) (Hf:Hp),Inv X (pins ++ [(C,oC)]) σ Hf s' -> s'.heap.Ns C m -> FpOk X pins Hf C -> Q (.ref D) Hf -> RR (.ref D) C (.ok .next) s')
  (n:Nat) (s:Shared) (h:∃ i ys us k σ' H',Inv (cxC X N' scope cl C D fp s₀ H2) pins σ' H' s /\ tn i s.heap /\ (∀ b ∈ fp,H' b = none) /\ H' D = none ∧
   s.heap.get? D = some { cls:=.type "list",data:=.seq (us:List Value).toArray k } /\ Vals ys us /\ ys.length <= sizeLine /\ W i n ys σ' H') :
  codeAny (model X.prog X.w) X.A (.compLoop (.ListComp elt [⟨tg,iter,ifs,0⟩] scope pos) 0 (.ref it) (.ref D) (compEnvC scope cl C X.env)) (RR (.ref D) C) s:=by
 have frsz:∀ b ∈ frs X.stack,b < s₂.heap.objs.size:=fun b hb=>by
  rcases List.mem_cons.mp (I.stkSub b hb) with z | z
  ·rw [z]; exact I.lt
  ·exact Nat.lt_of_not_le fun q=>I.nofs q z
 have cells:∀ x c,cl.lookup x = some c -> c < s₂.heap.objs.size:=fun x c e=>let ⟨v,q⟩:=I.cell x c (hcl1 x c e); q.lt
 have pinsz:∀ p ∈ X.pn ++ pins,p.1 < s₂.heap.objs.size:=fun p hp=>Heap.lt_size (I.pin p hp).1
 refine YJ (fun n s=>∃ i ys us k σ' H',Inv (cxC X N' scope cl C D fp s₀ H2) pins σ' H' s /\ tn i s.heap /\ (∀ b ∈ fp,H' b = none) /\ H' D = none ∧
   s.heap.get? D = some { cls:=.type "list",data:=.seq (us:List Value).toArray k } /\ Vals ys us /\ ys.length <= sizeLine /\ W i n ys σ' H') ?_ n h
 rintro n s ⟨i,ys,us,k,σ',H',I',st',fr,hn,hy,rv,hz,w'⟩
 have pD:Inv (cxC X N' scope cl C D fp s₀ H2) (pins ++ [(D,{ cls:=.type "list",data:=.seq us.toArray k })]) σ' H' s:=I'.pins_of fun p hp=>by
  rcases List.mem_append.mp hp with hp | hp
  ·exact I'.pin p (List.mem_append_right _ hp)
  ·rw [List.mem_singleton.mp hp]
   exact ⟨hy,hn,hDC,fun z=>absurd (Nat.lt_of_lt_of_le (frsz _ z) hD) (Nat.lt_irrefl _),fun v z=>by cases z⟩
 have fpok:∀ {H'':Hp},(∀ b ∈ fp,H'' b = none) -> ∀ b ∈ fp,FpOk (cxC X N' scope cl C D fp s₀ H2) (pins ++ [(D,{ cls:=.type "list",data:=.seq us.toArray k })]) H'' b:=fun hz b hb=>by
  refine ⟨hz b hb,Nat.ne_of_lt (Nat.lt_of_lt_of_le (hfp b hb) hC),fun z=>?_,.inl (List.mem_cons_of_mem _ hb),fun x c e=>(f2 b hb).2.2.2.2.1 x c (hcl1 x c e),fun p hp=>?_⟩
  ·rcases List.mem_cons.mp (I.stkSub b z) with z | z
   ·exact (f2 b hb).2.1 z
   ·exact (f2 b hb).2.2.1 z
  ·rcases List.mem_append.mp hp with hp | hp
   ·exact (f2 b hb).2.2.2.2.2 p (List.mem_append_left _ hp)
   ·rcases List.mem_append.mp hp with hp | hp
    ·exact (f2 b hb).2.2.2.2.2 p (List.mem_append_right _ hp)
    ·rw [List.mem_singleton.mp hp]
     exact Nat.ne_of_gt (Nat.lt_of_lt_of_le (hfp b hb) hD)
 rcases turn i n ys σ' H' w' with ⟨stop,q⟩ | ⟨go,Nn,hN,step⟩
 ·refine thn (T.done (cxC X N' scope cl C D fp s₀ H2) rfl rfl rfl hcalm i _ s σ' H' (fun _ _=>False) pD (fpok fr) st' stop) fun r s1 ⟨hr,I1⟩=>?_
  subst hr
  have hy1:=(I1.pin (D,{ cls:=.type "list",data:=.seq us.toArray k }) (by simp)).1
  obtain ⟨m,hm,_⟩:=I1.loc
  obtain ⟨oC,es,ep,hoC,hdC,_⟩:=id hm
  obtain ⟨IX,fpc⟩:=Ws I hs₀ hos hD hC hDC f2 I1.unpinned hn hy1 rv hz hoC (by intro v z; rw [hdC] at z; cases z)
  exact hRR D C oC m s1 _ IX hm fpc (q D hn)
 ·refine thn (T.item (cxC X N' scope cl C D fp s₀ H2) rfl rfl rfl hcalm i _ s σ' H' (fun _ _=>False) pD (fpok fr) st' go) fun r s1 ⟨u,hr,h4⟩=>?_
  subst hr
  refine thn h4 fun _ s2 ⟨x5,H5,I5,r5,y5,st5,fr5⟩=>?_
  have I5':=I5.pinned (fpok fr5) (T.obj _ _ st5)
  refine thn (hg _ s2 σ' H5 x5 u _ I5' r5 (step x5 H5 y5)) fun _ s3 ⟨σ6,H6,I6,q6⟩=>?_
  refine thn (ht _ s3 σ6 H6 _ I6 q6) fun ok s4 ⟨H7,I7,q7⟩=>?_
  have stay:∀ {σ7:L2.St} {H7:Hp} {s7:Shared},Inv (cxC X N' scope cl C D fp s₀ H2) (pins ++ [(D,{ cls:=.type "list",data:=.seq us.toArray k })] ++ s8 fp s2.heap) σ7 H7 s7 →
    (∀ b ∈ fp,∀ o,s2.heap.get? b = some o -> s7.heap.get? b = some o) /\ (∀ b ∈ fp,H7 b = none) /\ H7 D = none /\ s7.heap.get? D = some { cls:=.type "list",data:=.seq us.toArray k }:=fun {σ7 H7 s7} I7=>by
   have d:=I7.pin (D,{ cls:=.type "list",data:=.seq us.toArray k }) (by simp)
   refine ⟨fun b hb o e=>(I7.pin (b,o) (List.mem_append_right _ (List.mem_append_right _ (wo hb e)))).1,fun b hb=>?_,d.2.1,d.1⟩
   obtain ⟨o,e,_⟩:=T.obj _ _ st5 b hb
   exact (I7.pin (b,o) (List.mem_append_right _ (List.mem_append_right _ (wo hb e)))).2.1
  cases ok with
  | false =>
   rw [if_neg (by decide)] at q7 ⊢
   obtain ⟨k1,k2,k3,k4⟩:=stay I7
   obtain ⟨m',hm,w7⟩:=hN ys σ6 H7 q7
   exact ⟨m',hm,i + 1,ys,us,k,σ6,H7,I7.unpinned.unpinned,T.keep _ _ _ st5 k1,k2,k3,k4,rv,hz,w7⟩
  | true =>
   rw [if_pos rfl] at q7 ⊢
   refine thn (he _ s4 σ6 H7 _ I7 q7) fun v s5 ⟨y,H8,I8,r8,hl8,n8⟩=>?_
   obtain ⟨k1,k2,k3,k4⟩:=stay I8
   refine wpAny_list_append_plain (l:=D) ⟨k,k4⟩ (fun h' pl sb=>?_) (by rw [List.size_toArray,← rv.length]; exact hz)
   obtain ⟨k',e'⟩:=pl
   obtain ⟨m',hm,w8⟩:=hN _ σ6 H8 n8
   refine ⟨m',hm,i + 1,ys ++ [y],us ++ [v],k',σ6,H8,?_,T.keep _ _ _ (T.keep _ _ _ st5 k1) fun b hb o e=>sb.extBut b o (Nat.ne_of_lt (Nat.lt_of_lt_of_le (hfp b hb) hD)) e,k2,k3,?_,rv.append (.cons r8 .nil),?_,w8⟩
   ·exact (I8.unpinned.unpinned).turned (it:=D) (t':=s5.toks) (h':=h') (fun b o hb e=>sb.extBut b o hb e) k3 hDC (.inl (by simp)) (fun x c e=>Nat.ne_of_lt (Nat.lt_of_lt_of_le (cells x c e) hD)) (fun p hp=>Nat.ne_of_lt (Nat.lt_of_lt_of_le (pinsz p hp) hD))
   ·rw [e']; simp
   ·rw [List.length_append]; exact hl8
theorem ud {tg:Expr} {pos:Pos} {elt iter:Expr} {ifs:List Expr} {g:TG} {tt:TT} {te:TE} {E:VS7} {Q:VK} {RR:Value -> Addr -> Result -> Shared -> Prop}
  (I:Inv X pins σ H2 s₂) (hcalm:X.calm = true) (T:Turn X.prog X.w X.K tg J fp it tn) (st:tn 0 s₂.heap) (f2:∀ b ∈ fp,FpOk X pins H2 b)
  (S:CSc X scope N' sub) (hcl1:∀ x c,cl.lookup x = some c -> X.env.cells.lookup x = some c) (hcl2:∀ y ∈ scope.names,y.2 = .free -> ∃ c,cl.lookup y.1 = some c)
  (hg:∀ C D fp s H,PG (cxC X N' scope cl C D fp s H) tg g) (ht:∀ C D fp s H,PIfs (cxC X N' scope cl C D fp s H) ifs tt) (he:∀ C D fp s H,PE (cxC X N' scope cl C D fp s H) elt te)
  (hW:wx J (capt sub σ) H2 g tt te Q)
  (hRR:∀ (D C:Addr) (oC:Obj) (m:Str -> Option Value) (s':Shared) (Hf:Hp),Inv X (pins ++ [(C,oC)]) σ Hf s' -> s'.heap.Ns C m -> FpOk X pins Hf C -> Q (.ref D) Hf -> RR (.ref D) C (.ok .next) s') :
  wpAny (model X.prog X.w) X.A (newList []) (fun acc s₃=>wpAny (model X.prog X.w) X.A (newFunctionEnv scope X.env.globals cl [] X.env.qual none .none (some X.env)) (fun cenv s₄ =>
   codeAny (model X.prog X.w) X.A (.compStart (.ListComp elt [⟨tg,iter,ifs,0⟩] scope pos) 0 (.ref it) acc { cenv with scope:=relabel scope X.env }) (RR acc cenv.locals) s₄) E s₃) E s₂:=by
 obtain ⟨W,⟨m0,w0⟩,turn⟩:=hW
 refine wpAny_newObj_type (wpAny_newFunctionEnv S.nocell (by intro y hy; simp at hy) (fun h₁ hns₁ hsb₁=>?_) S.kind)
 dsimp only at hns₁ hsb₁ ⊢
 have hC:(s₂.heap.push { cls:=.type "list",dict:=none,data:=.seq ([]:List Value).toArray }).objs.size = s₂.heap.objs.size + 1:=Heap.size_push ..
 rw [hC] at hns₁ hsb₁ ⊢
 have hk:∀ b o,(s₂.heap.push { cls:=.type "list",dict:=none,data:=.seq ([]:List Value).toArray }).get? b = some o -> h₁.get? b = some o:=fun b o e =>
  hsb₁.extBut b o (by have:=Heap.lt_size e; rw [hC] at this; exact Nat.ne_of_lt this) (Heap.get?_push_of_some _ e)
 have hfp:∀ b ∈ fp,b < s₂.heap.objs.size:=fun b hb=>by
  obtain ⟨o,e,_⟩:=T.obj _ _ st b hb
  exact Heap.lt_size e
 have I0:=ZA (tk:=s₂.toks + ([]:List (Str × Value)).length) I S hcl1 hcl2 f2 hfp hns₁ hk
 have hD0:h₁.get? s₂.heap.objs.size = some { cls:=.type "list",data:=.seq ([]:List Value).toArray 0 }:=hk _ _ (Heap.get?_push_size _ rfl)
 have loop:codeAny (model X.prog X.w) X.A (.compLoop (.ListComp elt [⟨tg,iter,ifs,0⟩] scope pos) 0 (.ref it) (.ref s₂.heap.objs.size) (compEnvC scope cl (s₂.heap.objs.size + 1) X.env)) (RR (.ref s₂.heap.objs.size) (s₂.heap.objs.size + 1)) { s₂ with heap:=h₁,toks:=s₂.toks + ([]:List (Str × Value)).length } :=
  YV (s₀:={ s₂ with heap:=s₂.heap.push { cls:=.type "list",dict:=none,data:=.seq ([]:List Value).toArray } }) (C:=s₂.heap.objs.size + 1) (D:=s₂.heap.objs.size) I hcalm T f2 hfp (fun b o e=>Heap.get?_push_of_some _ e) rfl (Nat.le_refl _) (Nat.le_succ _) (Nat.ne_of_lt (Nat.lt_succ_self _)) hcl1 (hg _ _ _ _ _) (ht _ _ _ _ _) (he _ _ _ _ _) turn hRR m0 _
   ⟨0,[],[],0,capt sub σ,H2,I0,T.keep _ _ _ st fun b hb o e=>hk b o (Heap.get?_push_of_some _ e),fun b hb=>(f2 b hb).1,I.hok.fresh (Nat.le_refl _),hD0,.nil,Nat.zero_le _,w0⟩
 exact codeAny_compStart_list loop (T.self _ _ _ _ _ (T.keep _ _ _ st fun b hb o e=>hk b o (Heap.get?_push_of_some _ e)) loop)
end
section
variable {X:Cx} {scope:Scope} {N':List Str} {sub:List (Option Nat)} {tg:Expr} {pos:Pos} {elt iter:Expr} {ifs:List Expr} {wi:TI} {g:TG} {tt:TT} {te:TE}
theorem zU (S:CSc X scope N' sub) (hcalm:X.calm = true) (hi:PI X tg iter wi)
  (hg:∀ cl C D fp s H,PG (cxC X N' scope cl C D fp s H) tg g) (ht:∀ cl C D fp s H,PIfs (cxC X N' scope cl C D fp s H) ifs tt) (he:∀ cl C D fp s H,PE (cxC X N' scope cl C D fp s H) elt te)
  (hs:∀ x,foldedSetIterable iter X.env x = pure x:=by intro _; rfl):PE X (.ListComp elt [⟨tg,iter,ifs,0⟩] scope pos) (UJ wi sub g tt te):=by
 intro pins s σ H Q I h
 obtain ⟨cl,hclos,hcl1,hcl2⟩:=S.clos I
 rw [eval_ListComp]
 refine wpAny_comprehension_free (use:=none) rfl hs hclos S.kind S.names (thn (hi pins s σ H _ I h) fun v s1 h1=>thn h1 fun itv s2 h2=>?_)
 obtain ⟨it,fp,tn,J,H2,e,I2,T,st2,f2,hW⟩:=h2
 subst e
 refine ud (RR:=fun acc C=>compPost (model X.prog X.w) X.A X.xe none (EP X pins σ Q) acc C) I2 hcalm T st2 f2 S hcl1 hcl2 (hg cl) (ht cl) (he cl) hW ?_
 intro D C oC m s' Hf IX hm fpc q
 refine ⟨m,hm,fun h' sb=>⟨.ref D,Hf,?_,rfl,q⟩⟩
 exact (IX.unpinned).turned (it:=C) (t':=s'.toks) (h':=h') (fun b o hb e=>sb.extBut b o hb e) fpc.1 fpc.2.1 fpc.2.2.2.1 fpc.2.2.2.2.1 fpc.2.2.2.2.2
theorem vT {i:Nat} {y:Str} {py spos:Pos} (hN:X.N.Nodup) (hiN:X.N[i]? = some y) (hy:X.env.scope.names.lookup y = some .local) (S:CSc X scope N' sub) (hcalm:X.calm = true) (hi:PI X tg iter wi)
  (hg:∀ cl C D fp s H,PG (cxC X N' scope cl C D fp s H) tg g) (ht:∀ cl C D fp s H,PIfs (cxC X N' scope cl C D fp s H) ifs tt) (he:∀ cl C D fp s H,PE (cxC X N' scope cl C D fp s H) elt te)
  (hsw:swapsWith (.ListComp elt [⟨tg,iter,ifs,0⟩] scope pos) (some (.Name y py)) spos.line X.env = pure true:=by rfl)
  (hs:∀ x,foldedSetIterable iter X.env x = pure x:=by intro _; rfl):PS X (.Assign [.Name y py] (.ListComp elt [⟨tg,iter,ifs,0⟩] scope pos) spos) (tAsg (UJ wi sub g tt te) (ww i)):=by
 intro pins s σ H D I h
 obtain ⟨cl,hclos,hcl1,hcl2⟩:=S.clos I
 rw [exec_Assign_Name_used _ _ _ _ hsw]
 refine wpAny_bind (wpAny_standAt (wpAny_bind ?_))
 show wpAny _ X.A (do let _ ← comprehension (.ListComp elt [⟨tg,iter,ifs,0⟩] scope pos) scope X.env _ (newList []) false (eval iter X.env) (some (assign (.Name y py) X.env))) _ _ s
 refine wpAny_bind (wpAny_mono (wpAny_comprehension_free (use:=some (assign (.Name y py) X.env)) (Q:=fun _ s'=>SP X pins D .next s') rfl hs hclos S.kind S.names
  (thn (hi pins s σ H _ I h) fun v s1 h1=>thn h1 fun itv s2 h2=>?_)) (fun _ s' hq=>wpAny_pure (wpAny_pure hq)) fun _ _ e=>e)
 obtain ⟨it,fp,tn,J,H2,e,I2,T,st2,f2,hW⟩:=h2
 subst e
 refine ud (Q:=fun x H1=>ww i x σ H1 D.nx) (RR:=fun acc C=>compPost (model X.prog X.w) X.A X.xe (some (assign (.Name y py) X.env)) (fun _ s'=>SP X pins D .next s') acc C) I2 hcalm T st2 f2 S hcl1 hcl2 (hg cl) (ht cl) (he cl) hW ?_
 intro L C oC m s' Hf IX hm fpc q
 have st:=zi (X:=X) (pos:=py) hN hiN (.inl hy) (.inr hy) _ s' σ Hf (.ref L) (.ref L) D.nx IX rfl q
 refine thn st fun _ s'' ⟨σ2,H2,I2',q2⟩=>?_
 have p:=I2'.pin (C,oC) (by simp)
 have hm':s''.heap.Ns C m:=by
  obtain ⟨o,es,ep,e1,r⟩:=hm
  have z:=(IX.pin (C,oC) (by simp)).1
  rw [e1] at z; cases z
  exact ⟨_,es,ep,p.1,r⟩
 refine ⟨m,hm',fun h' sb=>⟨σ2,H2,?_,q2⟩⟩
 exact (I2'.unpinned).turned (it:=C) (t':=s''.toks) (h':=h') (fun b o hb e=>sb.extBut b o hb e) p.2.1 fpc.2.1 fpc.2.2.2.1 fpc.2.2.2.2.1 fpc.2.2.2.2.2
end
section
variable {prog:Program} {w:World} {A:Around} {E:VS7} {s:Shared}
def t4 (h:Heap) (a:Addr) (cn:String) (vs:Array Value):Prop:=(cn = "tuple_iterator" /\ h.IsTuple a vs) \/ (cn = "list_iterator" /\ h.IsList a vs)
theorem t4.iter {a:Addr} {cn:String} {vs:Array Value} {Q:VS7} (h:t4 s.heap a cn vs)
  (q:Q (.ref s.heap.objs.size) { s with heap:=s.heap.push { cls:=.type cn,data:=.fields #[.ref a,.int 0 0] } }):wpAny (model prog w) A (pyIter (.ref a)) Q E s:=by
 rcases h with ⟨rfl,h⟩ | ⟨rfl,h⟩
 ·exact wpAny_pyIter_tuple h q
 ·exact wpAny_pyIter_list h q
theorem t4.push {h:Heap} {a:Addr} {cn:String} {vs:Array Value} (x:t4 h a cn vs) (o:Obj):t4 (h.push o) a cn vs:=by
 rcases x with ⟨rfl,x⟩ | ⟨rfl,x⟩
 ·exact .inl ⟨rfl,x.push o⟩
 ·exact .inr ⟨rfl,x.push o⟩
def zpO (c:String) (a:Addr):Obj:={ cls:=.type c,data:=.fields #[.ref a,.int 0 0] }
end
def SqC (c:Bool) (K:FG7) (H:Hp) (a:Addr) (xs:List V):Prop:=match c with
 | true=>SqT K H a xs
 | false=>SqL K H a xs
def ue (c:Bool) (h:Heap) (j a:Addr) (i:Nat):Prop:=match c with
 | true=>h.IsTupleIter j a i
 | false=>h.IsListIter j a i
def SeqC (c:Bool) (h:Heap) (a:Addr) (vs:Array Value):Prop:=match c with
 | true=>h.IsTuple a vs
 | false=>h.IsList a vs
def cnC (c:Bool):String:=match c with
 | true=>"tuple_iterator"
 | false=>"list_iterator"
theorem ue.at {c:Bool} {h h':Heap} {j a:Addr} {i:Nat} (x:ue c h j a i) (k:∀ o,h.get? j = some o -> h'.get? j = some o):ue c h' j a i:=by
 cases c
 ·exact Heap.IsListIter.at x k
 ·exact Heap.IsTupleIter.at x k
theorem ue.obj {c:Bool} {h:Heap} {j a:Addr} {i:Nat} (x:ue c h j a i):∃ o,h.get? j = some o /\ ∀ v,o.data ≠ .cell v:=by
 cases c
 ·obtain ⟨o,e,_,d⟩:=x
  exact ⟨o,e,fun v z=>by rw [d] at z; cases z⟩
 ·obtain ⟨o,e,_,d⟩:=x
  exact ⟨o,e,fun v z=>by rw [d] at z; cases z⟩
theorem ue.mk {c:Bool} {h:Heap} {j a:Addr} (e:h.get? j = some (zpO (cnC c) a)):ue c h j a 0:=by
 cases c
 ·exact ⟨_,e,rfl,rfl⟩
 ·exact ⟨_,e,rfl,rfl⟩
theorem SeqC.src {c:Bool} {h:Heap} {a:Addr} {vs:Array Value} (x:SeqC c h a vs):t4 h a (cnC c) vs:=by
 cases c
 ·exact .inr ⟨rfl,x⟩
 ·exact .inl ⟨rfl,x⟩
theorem SeqC.lt {c:Bool} {h:Heap} {a:Addr} {vs:Array Value} (x:SeqC c h a vs):a < h.objs.size:=by
 cases c
 ·obtain ⟨_,e,_⟩:=(show h.IsList a vs from x); exact Heap.lt_size e
 ·obtain ⟨_,e,_⟩:=(show h.IsTuple a vs from x); exact Heap.lt_size e
theorem UT {prog:Program} {w:World} {A:Around} (hh:A.handled = none) (c:Bool) (j t:Addr) (hne:t ≠ j) (vs:Array Value) :
  Draws prog w A j [j,t] vs.size (fun i v=>vs[i]? = some v) (fun i h=>ue c h j t i /\ SeqC c h t vs):=by
 cases c
 ·exact Draws.list hh j t hne vs
 ·exact YR hh j t hne vs
theorem ZJ {prog:Program} {w:World} {A:Around} (hh:A.handled = none) (jt t:Addr) (vs:Array Value) {i:Nat} (hv:vs[i]? = none) :
  Draws prog w A jt [jt,t] i (fun _ _=>True) (fun j h=>j = i /\ h.IsListIter jt t i /\ h.IsList t vs) where
 live:=fun _ _ st=>let ⟨o,ho,_⟩:=st.2.1; ⟨o,ho⟩
 frame:=fun _ _ _ st hk=>⟨st.1,st.2.1.at (hk jt (by simp)),st.2.2.at (hk t (by simp))⟩
 item:=fun j s Q E hj st hQ=>absurd st.1 (Nat.ne_of_lt hj)
 done:=fun s Q E st hE=>wpAny_nextOf_list_end hh st.2.1 st.2.2 hv hE
theorem ZK {prog:Program} {w:World} {A:Around} (hh:A.handled = none) (c:Bool) (j t:Addr) (vs:Array Value) {i:Nat} (hv:vs[i]? = none) :
  Draws prog w A j [j,t] i (fun _ _=>True) (fun k h=>k = i /\ ue c h j t i /\ SeqC c h t vs):=by
 cases c
 ·exact ZJ hh j t vs hv
 ·exact YS hh j t vs hv
theorem t5 {X:Cx} {pins:List (Addr × Obj)} {σ:L2.St} {H:Hp} {s:Shared} {c:Bool} {a:Addr} {xs:List V} (I:Inv X pins σ H s) (h:SqC c X.K H a xs):∃ its:List Value,Vals xs its /\ SeqC c s.heap a its.toArray:=by
 cases c
 ·obtain ⟨its,r,p,_⟩:=I.list h
  exact ⟨its,r,p.isList⟩
 ·obtain ⟨its,r,p,_⟩:=I.tuple h
  exact ⟨its,r,p⟩
theorem rG {X:Cx} {pins:List (Addr × Obj)} {σ:L2.St} {H:Hp} {s:Shared} {c:Bool} {a:Addr} {xs ys:List V} (I:Inv X pins σ H s) (h:SqC c X.K H a xs) (h':SqC c X.K H a ys):xs = ys:=by
 cases c
 ·exact I.list_inj h h'
 ·exact I.tuple_inj h h'
section
variable {prog:Program} {w:World} {A:Around} {E:VS7} {s:Shared}
open PySem.AutoSeq1 (wpAny_loadPart')
theorem YW (t:Addr) (c:Bool) (vs:Array Value) :
  Meets (Builtin.«enumerate.__new__» ⟨[.type "enumerate",.ref t],[]⟩) (fun _ R s=>SeqC c s.heap t vs ∧
   R (.ok (.ret (.ref (s.heap.push (zpO (cnC c) t)).objs.size)))
    { s with heap:=(s.heap.push (zpO (cnC c) t)).push { cls:=.type "enumerate",data:=.fields #[.none,.bool false,.ref s.heap.objs.size,rawInt 0,.none,.none] } }) :=
 .of_wp fun prog w A R s h=>by
  obtain ⟨hp,g,d,tk,os⟩:=s; obtain ⟨hT,h⟩:=h
  have hT':t4 (Shared.heap ⟨hp,g,d,tk,os⟩) t (cnC c) vs:=hT.src
  obtain ⟨ot,hot⟩:∃ o,hp.get? t = some o:=by
   cases c
   ·obtain ⟨o,e,_⟩:=(show hp.IsList t vs from hT); exact ⟨o,e⟩
   ·obtain ⟨o,e,_⟩:=(show hp.IsTuple t vs from hT); exact ⟨o,e⟩
  have hsub:=sub_enumerate
  wp_walk using wpAny_loadPart' hot
  refine wpAny_stack_any fun st=>wpAny_pure ?_
  split
  ·rename_i c' _ _ _ _ _
   cases (c' == Value.type "enumerate") <;> (wp_walk using wpAny_loadPart' hot,t4.iter hT') <;> exact ⟨_,rfl,h⟩
  ·wp_walk using wpAny_loadPart' hot,t4.iter hT'
   exact ⟨_,rfl,h⟩
theorem ZL {t:Addr} {c:Bool} {vs:Array Value} {Q:VS7} (ht:SeqC c s.heap t vs)
  (h:∀ h',IsEnum h' (s.heap.objs.size + 1) s.heap.objs.size 0 .none -> ue c h' s.heap.objs.size t 0 -> h'.objs.size = s.heap.objs.size + 2 -> (∀ b o,s.heap.get? b = some o -> h'.get? b = some o) -> Q (.ref (s.heap.objs.size + 1)) { s with heap:=h' }) :
  wpAny (model prog w) A (call (.type "enumerate") [.ref t]) Q E s:=by
 refine callType_new F.called_enumerate (by decide) (F.typeCall_enumerate_1 _) (F.newCall_enumerate_1 _) (fun obj=>F.args_object_init_2 obj _) F.entry_enumerate_new (YW t c vs) ⟨ht,?_⟩
 have hz:(s.heap.push (zpO (cnC c) t)).objs.size = s.heap.objs.size + 1:=Heap.size_push ..
 show _ /\ _
 rw [hz]
 have he:IsEnum ((s.heap.push (zpO (cnC c) t)).push { cls:=.type "enumerate",data:=.fields #[.none,.bool false,.ref s.heap.objs.size,rawInt 0,.none,.none] }) (s.heap.objs.size + 1) s.heap.objs.size 0 .none:=by
  have:=Heap.get?_push_size (s.heap.push (zpO (cnC c) t)) (o:={ cls:=.type "enumerate",data:=.fields #[.none,.bool false,.ref s.heap.objs.size,rawInt 0,.none,.none] }) rfl
  rw [hz] at this; exact this
 exact ⟨⟨_,he,rfl⟩,h _ he (.mk (Heap.get?_push_of_some _ (Heap.get?_push_size _ rfl))) (by rw [Heap.size_push,Heap.size_push]) fun b o x=>Heap.get?_push_of_some _ (Heap.get?_push_of_some _ x)⟩
end
def IteC (c:Bool) (K:FG7) (a:Addr):It :=
 ⟨fun i H=>∃ xs x,SqC c K H a xs /\ xs[i]? = some x,fun i H x H'=>∃ T v,H T = none /\ x = .ref T /\ H' = upd H T (.tup [.int i,v]) /\ ∀ xs,SqC c K H a xs -> xs[i]? = some v,fun i H=>∃ xs,SqC c K H a xs /\ xs.length <= i⟩
theorem ZM {P:Program} {w:World} {K:FG7} {elts:List Expr} {kt:Nat} {pt:Pos} (c:Bool) (a e jt:Addr) (hej:e ≠ jt) (hae:a ≠ e) (haj:a ≠ jt) :
  Turn P w K (.Tuple elts kt pt) (IteC c K a) [e,jt] e (fun i h=>(∃ old,IsEnum h e jt i old) /\ ue c h jt a i) where
 mem:=by simp
 obj:=fun i h st b hb=>by
  obtain ⟨⟨old,he⟩,st⟩:=st
  simp only [List.mem_cons,List.mem_nil_iff,or_false] at hb
  rcases hb with rfl | rfl
  ·exact ⟨_,he,fun v z=>by cases z⟩
  ·exact st.obj
 keep:=fun i h h' st k=>by
  obtain ⟨⟨old,he⟩,st⟩:=st
  exact ⟨⟨old,k e (by simp) _ he⟩,st.at fun o q=>k jt (by simp) o q⟩
 item:=by
  intro X hP hw hK hc i pins s σ H E I hf st hg
  subst hP hw hK
  obtain ⟨⟨old,he⟩,hit⟩:=st
  obtain ⟨xs,x,hq,hx⟩:=hg
  obtain ⟨its,rv,p⟩:=t5 I hq
  obtain ⟨u,hu,ru⟩:=rv.get hx
  have hlt:i < its.toArray.size:=by have:=(List.getElem?_eq_some_iff.mp hu).1; simpa using this
  refine wpAny_pyNext_enum_itemD (UT (A:=X.A.in1) (I.ok.hd hc) c jt a haj its.toArray) he ⟨hit,p⟩ hlt hej (by simp [hej,Ne.symm hae]) fun v h1 tk hv hout hst1 hT hsz hk=>?_
  have hvu:v = u:=by
   have e1:its.toArray[i]? = some v:=hv
   have e2:its.toArray[i]? = some u:=by simpa using hu
   rw [e1] at e2; exact Option.some.inj e2
  subst hvu
  refine ⟨_,rfl,wpAny_letOwnedTupleGo_enum (s:={ s with heap:=h1,toks:=tk + 1 }) hout fun h2 he2 hs2=>?_⟩
  have hk2:∀ b o,b ∉ [e,jt] -> s.heap.get? b = some o -> h2.get? b = some o:=fun b o hb q=>by
   have n1:b ≠ e:=fun z=>hb (by simp [z])
   have n2:b ≠ jt:=fun z=>hb (by simp [z])
   exact (hs2.2 b n1).trans (hk b o n1 n2 q)
  have eT:s.heap.objs.size ≠ e:=Nat.ne_of_gt (Heap.lt_size he)
  have hT2:h2.get? s.heap.objs.size = some { cls:=.type "tuple",data:=.seq #[.int i tk,v] }:=(hs2.2 _ eT).trans hT
  have hn:H s.heap.objs.size = none:=I.hok.fresh (Nat.le_refl _)
  have I2:Inv X pins σ (upd H s.heap.objs.size (.tup [.int i,x])) { s with heap:=h2,toks:=tk + 1 }:=jM (s:=s) I hk2 hf (Nat.le_refl _) ⟨by show 2 <= sizeLine; decide,[.int i tk,v],.cons ⟨_,rfl⟩ (.cons ru .nil),_,hT2,rfl,0,rfl⟩
  refine ⟨.ref s.heap.objs.size,upd H s.heap.objs.size (.tup [.int i,x]),I2,rfl,⟨_,x,hn,rfl,rfl,fun ys hy=>by rw [rG I hy hq]; exact hx⟩,⟨⟨v,by simpa using he2⟩,?_⟩,fun b hb=>?_⟩
  ·exact hst1.1.at fun o q=>(hs2.2 jt (Ne.symm hej)).trans q
  ·have nb:b ≠ s.heap.objs.size:=by
    obtain ⟨oj,hoj,_⟩:=hit.obj
    simp only [List.mem_cons,List.mem_nil_iff,or_false] at hb
    rcases hb with rfl | rfl
    ·exact Ne.symm eT
    ·exact Nat.ne_of_lt (Heap.lt_size hoj)
   rw [zo nb]; exact (hf b hb).1
 done:=by
  intro X hP hw hK hc i pins s σ H E I hf st hg
  subst hP hw hK
  obtain ⟨⟨old,he⟩,hit⟩:=st
  obtain ⟨xs,hq,hx⟩:=hg
  obtain ⟨its,rv,p⟩:=t5 I hq
  have hl:=rv.length
  refine wpAny_pyNext_enum_endD (ZK (A:=X.A.in1) (I.ok.hd hc) c jt a its.toArray (i:=i) (by simp; omega)) he ⟨rfl,hit,p⟩ fun h' eb=>⟨rfl,?_⟩
  exact qF (fp:=[e,jt]) (t':=s.toks) I (fun b o hb q=>eb b o (fun z=>hb (by simp [z])) q) hf
 self:=fun _ _ _ _ _ st h=>by
  obtain ⟨⟨old,he⟩,_⟩:=st
  exact wpAny_pyIter_enum he h
section
variable {X:Cx} {elts:List Expr} {kt:Nat} {pt:Pos} {K:FG7}
def UU (c:Bool) (K:FG7) (ta:TA):TI:=fun σ H R=>ta σ H fun vs H1=>∃ a xs,vs = [.ref a] /\ SqC c K H1 a xs /\ R (IteC c K a) H1
theorem se {a:Expr} {ta:TA} {p pos:Pos} (c:Bool) (hK:X.K = K) (hg:Gl X "enumerate") (hm:X.mg "enumerate" = none) (ha:PA X [a] ta) (hs:starEach [a] X.env = [(false,eval a X.env)]:=by rfl) :
  PI X (.Tuple elts kt pt) (.Call (.Name "enumerate" p) [a] [] pos) (UU c K ta):=by
 subst hK
 intro pins s σ H R I h
 refine Call_ (vE I hg hm US (PyProof.Rows.callWith_type1 (thn (ha pos pins s σ H _ I h) fun us s1 ⟨vs,H1,I1,r1,q1⟩=>?_) hs rfl))
 obtain ⟨t,xs,e,hq,q⟩:=q1
 subst e
 obtain ⟨u,rfl,e1⟩:=wS r1
 cases (show u = Value.ref t from e1)
 obtain ⟨its,rv,p⟩:=t5 I1 hq
 refine ZL p fun h' he hit _ hk=>?_
 refine wpAny_pyIter_enum he ?_
 have lt:t < s1.heap.objs.size:=p.lt
 have I2:Inv X pins σ H1 { s1 with heap:=h' }:=I1.kept (t':=s1.toks) hk
 refine ⟨s1.heap.objs.size + 1,[s1.heap.objs.size + 1,s1.heap.objs.size],_,_,H1,rfl,I2,ZM c t (s1.heap.objs.size + 1) s1.heap.objs.size (Nat.succ_ne_self _) (Nat.ne_of_lt (Nat.lt_succ_of_lt lt)) (Nat.ne_of_lt lt),⟨⟨_,he⟩,hit⟩,fun b hb=>?_,q⟩
 simp only [List.mem_cons,List.mem_nil_iff,or_false] at hb
 rcases hb with rfl | rfl
 ·exact I1.fpOk (Nat.le_succ _) (I1.hok.fresh (Nat.le_succ _))
 ·exact I1.fpOk (Nat.le_refl _) (I1.hok.fresh (Nat.le_refl _))
end
section
variable {K:FG7} {a:Addr} {c:Bool} {xs:List V} {g:TG} {tt:TT} {te:TE} {tb:TS} {D:Ends} {Q:VK} {σ:L2.St} {H:Hp}
theorem YX (Pv:Nat -> L2.St -> Hp -> Prop) (h0:Pv 0 σ H) (hl:∀ i σ H,i <= xs.length -> Pv i σ H -> SqC c K H a xs)
  (hs:∀ i x σ H T,xs[i]? = some x -> Pv i σ H -> H T = none -> g (.ref T) σ (upd H T (.tup [.int i,x])) fun σ2 H2=>tb { D with nx:=Pv (i + 1),ct:=Pv (i + 1),bk:=D.nx } σ2 H2) (hd:∀ σ H,Pv xs.length σ H -> D.nx σ H) :
  ∃ W:Nat -> Nat -> L2.St -> Hp -> Prop,(∃ m,W 0 m σ H) /\ ∀ i m σ H,W i m σ H →
   ((IteC c K a).stop i H /\ D.nx σ H) \/ ((IteC c K a).go i H /\ ∃ N:L2.St -> Hp -> Prop,(∀ σ' H',N σ' H' -> ∃ m',m' < m /\ W (i + 1) m' σ' H') /\ ∀ x H',(IteC c K a).yld i H x H' -> g x σ H' fun σ2 H2=>tb { D with nx:=N,ct:=N,bk:=D.nx } σ2 H2):=by
 refine ⟨fun i m σ H=>m = xs.length - i /\ i <= xs.length /\ Pv i σ H,⟨xs.length,by simp,Nat.zero_le _,h0⟩,?_⟩
 rintro i m σ H ⟨rfl,hi,p⟩
 have q:=hl i σ H hi p
 by_cases hlt:i < xs.length
 ·refine .inr ⟨⟨xs,xs[i],q,by simp [hlt]⟩,Pv (i + 1),fun σ' H' p'=>⟨xs.length - (i + 1),by omega,rfl,hlt,p'⟩,fun x H' y=>?_⟩
  obtain ⟨T,v,hT,rfl,rfl,y⟩:=y
  exact hs i v σ H T (y xs q) p hT
 ·have e:i = xs.length:=by omega
  subst e
  exact .inl ⟨⟨xs,q,Nat.le_refl _⟩,hd σ H p⟩
theorem u7 (Pv:Nat -> List V -> L2.St -> Hp -> Prop) (h0:Pv 0 [] σ H) (hl:∀ i zs σ H,Pv i zs σ H -> SqC c K H a xs)
  (hs:∀ i x zs σ H T,xs[i]? = some x -> Pv i zs σ H -> H T = none -> g (.ref T) σ (upd H T (.tup [.int i,x])) fun σ2 H3=>tt σ2 H3 fun b H4=>if b = true then te σ2 H4 fun y H5=>zs.length < sizeLine /\ Pv (i + 1) (zs ++ [y]) σ2 H5 else Pv (i + 1) zs σ2 H4)
  (hd:∀ zs σ H,Pv xs.length zs σ H -> ∀ l,H l = none -> Q (.ref l) (upd H l (.lst zs))) :
  wx (IteC c K a) σ H g tt te Q:=by
 refine ⟨fun i m zs σ H=>m = xs.length - i /\ i <= xs.length /\ Pv i zs σ H,⟨xs.length,by simp,Nat.zero_le _,h0⟩,?_⟩
 rintro i m zs σ H ⟨rfl,hi,p⟩
 have q:=hl i zs σ H p
 by_cases hlt:i < xs.length
 ·refine .inr ⟨⟨xs,xs[i],q,by simp [hlt]⟩,Pv (i + 1),fun ws σ' H' p'=>⟨xs.length - (i + 1),by omega,rfl,hlt,p'⟩,fun x H' y=>?_⟩
  obtain ⟨T,v,hT,rfl,rfl,y1⟩:=y
  exact hs i v zs σ H T (y1 xs q) p hT
 ·have e:i = xs.length:=by omega
  subst e
  exact .inl ⟨⟨xs,q,Nat.le_refl _⟩,hd zs σ H p⟩
end
section
variable {X:Cx}
theorem jN:OpR X (compareOp .Is) (fun x y H Q=>∃ k j:Bool,x = .bl k /\ y = .bl j /\ Q (.bl (k == j)) H):=by
 intro pins s σ H x y v u Q I rx ry h
 obtain ⟨k,j,rfl,rfl,q⟩:=h
 cases (show v = Value.bool k from rx)
 cases (show u = Value.bool j from ry)
 refine wpAny_is_plain (by cases k <;> cases j <;> rfl) (zS I q ?_)
 cases k <;> cases j <;> rfl
theorem uf:OpR X (compareOp .IsNot) (fun x y H Q=>∃ k j:Bool,x = .bl k /\ y = .bl j /\ Q (.bl (!(k == j))) H):=by
 intro pins s σ H x y v u Q I rx ry h
 obtain ⟨k,j,rfl,rfl,q⟩:=h
 cases (show v = Value.bool k from rx)
 cases (show u = Value.bool j from ry)
 refine wpAny_isNot_plain (by cases k <;> cases j <;> rfl) (zS I q ?_)
 cases k <;> cases j <;> rfl
variable {K:FG7}
theorem YY {es:List Expr} {k:Nat} {pos:Pos} {t:TGs} (n:Nat) (h0:X.K = K) (hc:X.calm = true) (h:PGs X es t)
  (hn:(assignEach es X.env).length = n) (hst:(assignEach es X.env).findIdx? (·.1) = none):PG X (.Tuple es k pos) (gTup K n t):=by subst h0; exact yK hc h hn hst
theorem u8 (h:X.K = K):xw X (.type "list") (fun xs H Q=>∃ p ys,xs = [.ref p] /\ (SqL K H p ys \/ SqT K H p ys) /\ ∀ l,H l = none -> Q (.ref l) (upd H l (.lst ys))):=by subst h; exact xm
theorem UV (h:X.K = K):OpR X (compareOp .In) (rIn K false):=by subst h; exact rk
end
def InC (C:Int) (xs:List Int):Prop:=∀ v ∈ xs,-C <= v /\ v <= C
theorem InC.mono {B C:Int} {xs:List Int} (h:InC B xs) (hC:B <= C):InC C xs:=fun v hv=>by have:=h v hv; omega
theorem Vu.dat {K:FG7} {H:Hp} {x:V} {g:List Deed × List Deed} (h:Vu K H x g):Dat K H x (.tuple [.tuple (g.1.map ZG),.tuple (g.2.map ZG)]):=by
 obtain ⟨r,r1,r2,rfl,h0,d1,d2⟩:=h
 exact .tup h0 (.cons d1.dat (.cons d2.dat .nil))
theorem xC:∀ {ns:List Int} {us:List Value},IntsAre us ns -> Vals (ns.map V.int) us:=by
 intro ns us h
 induction h with
 | nil=>exact .nil
 | cons n t _ ih=>exact .cons ⟨t,rfl⟩ ih
structure Wk (prog:Program) (w:World) (A:Around) (T:String) (I:Addr) (n:Nat) (Fr:Addr -> Prop) (J:List Value -> Shared -> Prop) (Fn:List Value -> Shared -> Prop):Prop where
 ty:∀ acc s,J acc s -> s.TypeIs (.ref I) T
 self:∀ acc s (Q:VS7) (E:VS7),J acc s -> Q (.ref I) s -> wpAny (model prog w) A (pyIter (.ref I)) Q E s
 stay:∀ acc s (S:Addr) (ob:Obj) (h':Heap),J acc s -> Fr S -> s.heap.get? S = some ob -> ob.cls = .type "list" -> (∀ b o,b ≠ S -> s.heap.get? b = some o -> h'.get? b = some o) -> h'.objs.size = s.heap.objs.size -> J acc { s with heap:=h' }
 next:∀ acc s (S:Addr) (ob:Obj) (Q:Option Value -> Shared -> Prop) (E:VS7),J acc s -> Fr S -> s.heap.get? S = some ob -> ob.cls = .type "list" →
  (∀ v s',acc.length < n -> J (acc ++ [v]) s' -> s'.heap.get? S = some ob -> Q (some v) s') -> (∀ s',Fn acc s' -> s'.heap.get? S = some ob -> Q none s') -> wpAny (model prog w) A (pyNext (.ref I)) Q E s
 push:∀ acc s (o:Obj),J acc s -> J acc { s with heap:=s.heap.push o }
def vK (H:Hp) (a:Addr):Prop:=∃ p0 c t:Int,H a = some (.lst [.int p0,.int c,.int t]) /\ 0 <= p0
theorem vK.grow {H H':Hp} {a:Addr} (p:vK H a) (g:Grow [] H H'):vK H' a:=by
 obtain ⟨x,y,z,h,q⟩:=p
 exact ⟨x,y,z,g.keep _ _ (by simp) h,q⟩
theorem vK.new {H:Hp} {a l:Addr} (p:vK H a) (hl:H l = none) (o:HO):vK (upd H l o) a:=p.grow (Grow.new hl o)
theorem vK.ne {H:Hp} {a l:Addr} (p:vK H a) (h:H l = none):l ∉ [a]:=by
 intro z
 obtain ⟨x,y,w,hz,_⟩:=p
 rw [List.mem_singleton.mp z,hz] at h
 cases h
def PrAt (K:FG7) (H:Hp) (x:V) (q:Nat × Nat):Prop:=∃ r,x = .ref r /\ SqT K H r [.int q.1,.int q.2]
def Se (ns:List Int):List Int:=ns.mergeSort fun a b=>decide (a <= b)
def dupS:List Int -> Option Int
 | a :: b :: r=>if a = b then some a else dupS (b :: r)
 | _=>none
def UW (rows:List (List Int)) (l:Nat):List Int:=rows.map fun r=>r.getD l 0
def w4 (rows:List (List Int)) (l:Nat):Option Int:=dupS (Se (UW rows l))
def sf (k:Nat) (rows:List (List Int)) (o:Option (Nat × Int)):Prop:=match o with
 | none=>∀ l,l <= k -> w4 rows l = none
 | some (l,v)=>l <= k /\ w4 rows l = some v /\ ∀ j,j < l -> w4 rows j = none
theorem sf.one {k:Nat} {rows rows':List (List Int)} {o o':Option (Nat × Int)} (e:∀ l,w4 rows l = w4 rows' l) (h:sf k rows o) (h':sf k rows' o'):o = o':=by
 cases o with
 | none =>
  cases o' with
  | none=>rfl
  | some p =>
   obtain ⟨l,v⟩:=p
   have z:=h l h'.1
   rw [e,h'.2.1] at z; cases z
 | some p =>
  obtain ⟨l,v⟩:=p
  cases o' with
  | none =>
   have z:=h' l h.1
   rw [← e,h.2.1] at z; cases z
  | some p' =>
   obtain ⟨l',v'⟩:=p'
   obtain ⟨a1,a2,a3⟩:=h
   obtain ⟨b1,b2,b3⟩:=h'
   by_cases c:l < l'
   ·have z:=b3 l c
    rw [← e,a2] at z; cases z
   ·by_cases c2:l' < l
    ·have z:=a3 l' c2
     rw [e,b2] at z; cases z
    ·have:l = l':=by omega
     subst this
     rw [e,b2] at a2
     cases a2; rfl
def YZ (K:FG7) (H:Hp) (x:V) (o:Option (Nat × Int)):Prop:=match o with
 | none=>x = .non
 | some (l,v)=>∃ r,x = .ref r /\ SqT K H r [.int l,.int v]
theorem Grow.clash {m:List Addr} {H H':Hp} (g:Grow m H H') {K:FG7} {x:V} {o:Option (Nat × Int)} (h:YZ K H x o):YZ K H' x o:=by
 cases o with
 | none=>exact h
 | some p =>
  obtain ⟨l,v⟩:=p
  obtain ⟨r,e,z⟩:=h
  exact ⟨r,e,g.sqT z⟩
def sg (k:Nat) (rows:List (List Int)):Prop:=rows.length = k /\ ∀ r ∈ rows,r.length = 2 ^ (k - 1) /\ ∀ b ∈ r,b = 0 \/ b = 1
theorem Y0 {xs:List V} {c:Nat}:cutV xs none (some (c:Int)) = xs.take c:=by
 unfold cutV
 rw [HT.sIx_none,HT.sIx_nat,List.drop_zero,Nat.sub_zero]
 by_cases h:c <= xs.length
 ·rw [Nat.min_eq_left h]
 ·rw [Nat.min_eq_right (by omega),List.take_of_length_le (by omega),List.take_of_length_le (by omega)]
theorem Y1 {xs:List V} {c:Nat}:cutV xs (some (c:Int)) none = xs.drop c:=by
 unfold cutV
 rw [HT.sIx_none,HT.sIx_nat]
 by_cases h:c <= xs.length
 ·rw [Nat.min_eq_left h,List.take_of_length_le (by rw [List.length_drop]; exact Nat.le_refl _)]
 ·rw [Nat.min_eq_right (by omega),List.drop_eq_nil_of_le (by omega),List.drop_eq_nil_of_le (by omega)]; simp
def PrV (K:FG7) (H:Hp) (k:Nat) (x:V):Prop:=∃ q:Nat × Nat,PrAt K H x q /\ q.1 < 2 ^ k /\ q.2 < 2 ^ k
theorem Grow.prV {m:List Addr} {H H':Hp} (g:Grow m H H') {K:FG7} {k:Nat} {x:V} (h:PrV K H k x):PrV K H' k x:=by
 obtain ⟨q,⟨r,e,z⟩,b⟩:=h
 exact ⟨q,⟨r,e,g.sqT z⟩,b⟩
mutual
inductive Dq (K:FG7) (H:Hp):V -> PyData -> Prop
 | non:Dq K H .non .none
 | bl (b:Bool):Dq K H (.bl b) (.bool b)
 | int (i:Int):Dq K H (.int i) (.int i)
 | str (x:Str):Dq K H (.str x) (.str x)
 | tup {a:Addr} {xs:List V} {ds:List PyData}:SqT K H a xs -> DqAll K H xs ds -> Dq K H (.ref a) (.tuple ds)
 | lst {a:Addr} {xs:List V} {ds:List PyData}:SqL K H a xs -> DqAll K H xs ds -> Dq K H (.ref a) (.list ds)
inductive DqAll (K:FG7) (H:Hp):List V -> List PyData -> Prop
 | nil:DqAll K H [] []
 | cons {x:V} {xs:List V} {d:PyData} {ds:List PyData}:Dq K H x d -> DqAll K H xs ds -> DqAll K H (x :: xs) (d :: ds)
end
mutual
theorem Dat.dq {K:FG7} {H:Hp}:∀ {x:V} {d:PyData},Dat K H x d -> Dq K H x d
 | _,_,.non=>.non
 | _,_,.bl b=>.bl b
 | _,_,.int i=>.int i
 | _,_,.tup h t=>.tup h (DatAll.dq t)
 | _,_,.lst h t=>.lst h (DatAll.dq t)
theorem DatAll.dq {K:FG7} {H:Hp}:∀ {xs:List V} {ds:List PyData},DatAll K H xs ds -> DqAll K H xs ds
 | _,_,.nil=>.nil
 | _,_,.cons h t=>.cons (Dat.dq h) (DatAll.dq t)
end
theorem DqAll.len {K:FG7} {H:Hp}:∀ {xs:List V} {ds:List PyData},DqAll K H xs ds -> xs.length = ds.length
 | _,_,.nil=>rfl
 | _,_,.cons _ t=>congrArg (· + 1) (DqAll.len t)
theorem DqAll.app {K:FG7} {H:Hp}:∀ {xs:List V} {ds:List PyData} {ys:List V} {es:List PyData},DqAll K H xs ds -> DqAll K H ys es -> DqAll K H (xs ++ ys) (ds ++ es)
 | _,_,_,_,.nil,h=>h
 | _,_,_,_,.cons h t,g=>.cons h (DqAll.app t g)
theorem sh (n:Nat):(List.range n).all (fun _=>true) = true:=List.all_eq_true.mpr fun _ _=>rfl
section
variable {X:Cx} {pins:List (Addr × Obj)} {σ:L2.St} {H:Hp} {s:Shared}
mutual
theorem dq_eq (I:Inv X pins σ H s):∀ {d:PyData} {x y:V} {u v:Value} {A:Around},Dq X.K H x d -> Dq X.K H y d -> RelV x u -> RelV y v -> A.units + d.depth < cLine -> SeqAt.EqAt A s u v true
 | _,_,y,u,v,A,.non,hy,ru,rv,_=>by
  cases hy
  cases (show u = Value.none from ru)
  cases (show v = Value.none from rv)
  exact SeqAt.EqAt.same _
 | _,_,y,u,v,A,.bl b,hy,ru,rv,_=>by
  cases hy
  cases (show u = Value.bool b from ru)
  cases (show v = Value.bool b from rv)
  exact SeqAt.EqAt.same _
 | _,_,y,u,v,A,.int i,hy,ru,rv,_=>by
  cases hy
  obtain ⟨t,rfl⟩:=ru
  obtain ⟨t',rfl⟩:=rv
  have z:=SeqAt.EqAt.int_int (A:=A) (s:=s) i t i t'
  rw [beq_self_eq_true] at z
  exact z
 | _,_,y,u,v,A,.str x,hy,ru,rv,_=>by
  cases hy
  obtain ⟨t,rfl⟩:=ru
  obtain ⟨t',rfl⟩:=rv
  have z:=SeqAt.EqAt.str_str (A:=A) (s:=s) x t x t'
  rw [beq_self_eq_true] at z
  exact z
 | _,_,y,u,v,A,.tup (a:=a) (xs:=xs) (ds:=ds) hs ha,hy,ru,rv,hu=>by
  cases hy with
  | tup hs' ha' =>
   rename_i a' xs'
   cases (show u = Value.ref a from ru)
   cases (show v = Value.ref a' from rv)
   obtain ⟨us,r1,t1,_⟩:=I.tuple hs
   obtain ⟨ws,r2,t2,_⟩:=I.tuple hs'
   have hd:A.units + (PyData.depthAll ds + 1) < cLine:=hu
   by_cases e:a = a'
   ·subst e; exact SeqAt.EqAt.same _
   ·have l1:=ha.len
    have l2:=ha'.len
    have q:=SeqAt.RcAt.tuples (e:=fun _=>true) (xD t1) (xD t2) (by omega) (dqs_eq I ha ha' r1 r2 (A:=A.in1) (by show A.units + 1 + PyData.depthAll ds < cLine; omega))
    rw [sh,Bool.true_and,List.size_toArray,List.size_toArray,← r1.length,← r2.length,l1,l2,beq_self_eq_true] at q
    exact SeqAt.EqAt.of_refs e q
 | _,_,y,u,v,A,.lst (a:=a) (xs:=xs) (ds:=ds) hs ha,hy,ru,rv,hu=>by
  cases hy with
  | lst hs' ha' =>
   rename_i a' xs'
   cases (show u = Value.ref a from ru)
   cases (show v = Value.ref a' from rv)
   obtain ⟨us,r1,t1,_⟩:=I.list hs
   obtain ⟨ws,r2,t2,_⟩:=I.list hs'
   have hd:A.units + (PyData.depthAll ds + 1) < cLine:=hu
   by_cases e:a = a'
   ·subst e; exact SeqAt.EqAt.same _
   ·have l1:=ha.len
    have l2:=ha'.len
    have q:=SeqAt.RcAt.lists (e:=fun _=>true) t1.isList t2.isList (by rw [List.size_toArray,List.size_toArray,← r1.length,← r2.length,l1,l2]) (by omega) (dqs_eq I ha ha' r1 r2 (A:=A.in1) (by show A.units + 1 + PyData.depthAll ds < cLine; omega))
    rw [sh] at q
    exact SeqAt.EqAt.of_refs e q
theorem dqs_eq (I:Inv X pins σ H s):∀ {ds:List PyData} {xs ys:List V} {us vs:List Value} {A:Around},DqAll X.K H xs ds -> DqAll X.K H ys ds -> Vals xs us -> Vals ys vs -> A.units + PyData.depthAll ds < cLine →
  ∀ j (h1:j < us.toArray.size) (h2:j < vs.toArray.size),SeqAt.EqAt A s us.toArray[j] vs.toArray[j] true
 | _,_,_,_,_,A,.nil,hy,ru,rv,_=>fun j h1 _=>by
  cases ru
  exact absurd h1 (Nat.not_lt_zero j)
 | _,_,_,_,_,A,.cons (d:=d) (ds:=ds) hx tx,hy,ru,rv,hd=>fun j h1 h2=>by
  cases hy with
  | cons hy ty =>
   cases ru with
   | cons r1 rr1 =>
    cases rv with
    | cons r2 rr2 =>
     have hd':A.units + max d.depth (PyData.depthAll ds) < cLine:=hd
     cases j with
     | zero=>simpa using dq_eq I hx hy r1 r2 (A:=A) (by omega)
     | succ j =>
      have z:=dqs_eq I tx ty rr1 rr2 (A:=A) (by omega) j (by simpa using h1) (by simpa using h2)
      simpa using z
end
variable {K:FG7}
end
def xN (k st a:Nat):Nat:=a ^^^ 2 ^ (k - st)
def nN (k st a:Nat):Nat:=(ZI k a st).toNat
def lN (k h g n:Nat):Nat:=(VV k h g n).toNat
theorem Y2:∀ k:Fin 5,∀ st:Fin 5,1 <= st.val -> st.val <= k.val -> ∀ a:Fin 16,a.val < 2 ^ k.val →
  (swI k.val st.val a.val = ZI k.val a.val st.val /\ ZI k.val a.val st.val = (nN k.val st.val a.val:Int) /\ nN k.val st.val a.val < 2 ^ (k.val - 1) /\ nN k.val st.val (xN k.val st.val a.val) = nN k.val st.val a.val) ∧
  (xN k.val st.val (xN k.val st.val a.val) = a.val /\ xN k.val st.val a.val ≠ a.val /\ xN k.val st.val a.val < 2 ^ k.val) ∧
  (wfI k.val st.val a.val (Builtin.bitXor (figI k.val st.val a.val) 0) = (a.val:Int) /\ wfI k.val st.val a.val (Builtin.bitXor (figI k.val st.val a.val) 1) = (xN k.val st.val a.val:Int)) ∧
  (Builtin.bitXor (figI k.val st.val a.val) (figI k.val st.val (xN k.val st.val a.val)) = 1 /\ Builtin.bitXor (figI k.val st.val a.val) (figI k.val st.val a.val) = 0) ∧
  ((Builtin.bitXor (figI k.val st.val a.val) 0 = 0 \/ Builtin.bitXor (figI k.val st.val a.val) 0 = 1) /\ (Builtin.bitXor (figI k.val st.val a.val) 1 = 0 \/ Builtin.bitXor (figI k.val st.val a.val) 1 = 1)):=by
 decide +kernel
theorem Y3:∀ k:Fin 5,∀ st:Fin 5,1 <= st.val -> st.val <= k.val -> ∀ a:Fin 16,a.val < 2 ^ k.val -> ∀ b:Fin 16,b.val < 2 ^ k.val -> nN k.val st.val a.val = nN k.val st.val b.val -> b.val = a.val \/ b.val = xN k.val st.val a.val:=by
 decide +kernel
structure OneF (k st a:Nat):Prop where
 sw:swI k st a = ZI k a st
 num:ZI k a st = (nN k st a:Int)
 lt:nN k st a < 2 ^ (k - 1)
 nx:nN k st (xN k st a) = nN k st a
 xx:xN k st (xN k st a) = a
 xne:xN k st a ≠ a
 xlt:xN k st a < 2 ^ k
 w0:wfI k st a (Builtin.bitXor (figI k st a) 0) = (a:Int)
 w1:wfI k st a (Builtin.bitXor (figI k st a) 1) = (xN k st a:Int)
 c1:Builtin.bitXor (figI k st a) (figI k st (xN k st a)) = 1
 c0:Builtin.bitXor (figI k st a) (figI k st a) = 0
 b0:Builtin.bitXor (figI k st a) 0 = 0 \/ Builtin.bitXor (figI k st a) 0 = 1
 b1:Builtin.bitXor (figI k st a) 1 = 0 \/ Builtin.bitXor (figI k st a) 1 = 1
theorem oneF {k st a:Nat} (k4:k <= 4) (s1:1 <= st) (s2:st <= k) (ha:a < 2 ^ k):OneF k st a:=by
 have p:=qG k4
 obtain ⟨⟨a1,a2,a3,a4⟩,⟨b1,b2,b3⟩,⟨c1,c2⟩,⟨d1,d2⟩,e1,e2⟩:=Y2 ⟨k,by omega⟩ ⟨st,by omega⟩ s1 s2 ⟨a,by omega⟩ ha
 exact ⟨a1,a2,a3,a4,b1,b2,b3,c1,c2,d1,d2,e1,e2⟩
theorem twoF {k st a b:Nat} (k4:k <= 4) (s1:1 <= st) (s2:st <= k) (ha:a < 2 ^ k) (hb:b < 2 ^ k) (e:nN k st a = nN k st b):b = a \/ b = xN k st a:=by
 have p:=qG k4
 exact Y3 ⟨k,by omega⟩ ⟨st,by omega⟩ s1 s2 ⟨a,by omega⟩ ha ⟨b,by omega⟩ hb e
def plOf (gs:List Nat):List (Nat × Nat):=(List.range gs.length).map fun h=>(h,gs.getD h 0)
def ug (k:Nat) (gs:List Nat):Prop:=gs.length = 2 ^ k /\ ∀ g ∈ gs,g < 2 ^ k
theorem ug.get {k:Nat} {gs:List Nat} (h:ug k gs) {i:Nat} (hi:i < 2 ^ k):gs.getD i 0 < 2 ^ k:=by
 rw [List.getD_eq_getElem?_getD,List.getElem?_eq_getElem (by rw [h.1]; exact hi)]
 exact h.2 _ (List.getElem_mem _)
def UX (k st:Nat) (q:Nat × Nat):Int:=Builtin.bitXor (figI k st (VV k q.1 q.2 (st - 1))) (figI k st (VV k q.1 q.2 st))
def UY (k st:Nat) (m:List Int) (q:Nat × Nat):List Int:=m.set (nN k st (lN k q.1 q.2 st)) (UX k st q)
def UZ (k st:Nat) (pl:List (Nat × Nat)):List Int:=pl.foldl (UY k st) (List.replicate (2 ^ k / 2) 0)
def Sf (k:Nat) (gs:List Nat):List (List Int):=(List.range k).map fun n=>UZ k (n + 1) (plOf gs)
section
variable {X:Cx} {a:Expr} {ta:TA} {p p2 pos pos2:Pos}
def Sg (ta:TA):TE:=fun σ H Q=>ta σ H fun vs H1=>∃ n:Nat,vs = [.int n] /\ n <= 1000 /\ ∀ l,H1 l = none -> Q (.ref l) (upd H1 l (.lst ((List.range n).map fun i:Nat=>V.int i)))
theorem xn (hc:X.calm = true) (hgl:Gl X "list") (hml:X.mg "list" = none) (hgr:Gl X "range") (hmr:X.mg "range" = none) (ha:PA X [a] ta)
  (hs:starEach [a] X.env = [(false,eval a X.env)]:=by rfl) (hs2:starEach [(.Call (.Name "range" p2) [a] [] pos2:Expr)] X.env = [(false,eval (.Call (.Name "range" p2) [a] [] pos2) X.env)]:=by rfl) :
  PE X (.Call (.Name "list" p) [.Call (.Name "range" p2) [a] [] pos2] [] pos) (Sg ta):=by
 intro pins s σ H Q I h
 refine wpAny_Call_Name_kw (vE I hgl hml v8 (PyProof.Rows.callWith_type1 ?_ hs2 rfl))
 rw [hs2]
 show wpAny _ _ (spliced [(false,eval (.Call (.Name "range" p2) [a] [] pos2) X.env)]) _ _ s
 refine Calls.spliced_cons ?_
 refine Call_ (vE I hgr hmr boot_range (PyProof.Rows.callWith_type1 (thn (ha pos2 pins s σ H _ I h) fun us s1 ⟨vs,H1,I1,r1,q1⟩=>?_) hs rfl))
 obtain ⟨n,e,hn,q⟩:=q1
 subst e
 obtain ⟨u,rfl,e1⟩:=wS r1
 obtain ⟨t,rfl⟩:=e1
 refine call_range_1 (Calls.spliced_nil ?_)
 have I2:Inv X pins σ H1 { s1 with heap:=s1.heap.push { cls:=.type "range",data:=.fields #[.int 0 s1.toks,.int n t,.int 1 (s1.toks + 1)] },toks:=s1.toks + 1 + 1 }:=I1.kept fun b o e=>Heap.get?_push_of_some _ e
 refine call_list_range (n:=n) (I.ok.hd hc) (IsRange.new ..) (small_one (by omega) (by omega) (by omega) (by omega)) (by rw [rangeSize_one]; split <;> omega) (by omega) fun h' tk acc c' hk hS hacc=>?_
 have hvr:Vals ((List.range n).map fun i:Nat=>V.int i) acc.toList:=by
  have hlen:acc.toList.length = n:=by rw [Array.length_toList]; exact hacc.1
  have key:∀ (m:Nat) (l:List Value) (j:Nat),l.length = m -> (∀ i v,l[i]? = some v -> ∃ t,v = Value.int ((j + i:Nat):Int) t) -> Vals ((List.range' j m).map fun i:Nat=>V.int i) l:=by
   intro m
   induction m with
   | zero =>
    intro l j hl _
    rw [List.length_eq_zero_iff.mp hl]
    exact .nil
   | succ m ih =>
    intro l j hl hv
    match l,hl,hv with
    | x :: l,hl,hv =>
     refine .cons ?_ (ih l (j + 1) (by simpa using hl) fun i v h=>?_)
     ·obtain ⟨t,e⟩:=hv 0 x rfl
      exact ⟨t,e⟩
     ·obtain ⟨t,e⟩:=hv (i + 1) v (by simpa using h)
      exact ⟨t,by rw [e,show j + (i + 1) = j + 1 + i by omega]⟩
  rw [List.range_eq_range']
  refine key n acc.toList 0 hlen fun i v h=>?_
  obtain ⟨t,e⟩:=hacc.2 i v (by rw [← h]; exact (Array.getElem?_toList).symm)
  exact ⟨t,by rw [e]; congr 1; omega⟩
 refine ⟨.ref (s1.heap.push { cls:=.type "range",data:=.fields #[.int 0 s1.toks,.int n t,.int 1 (s1.toks + 1)] }).objs.size,_,I2.laid (t':=tk) hk (Nat.le_refl _) (show z5 X.prog X.w _ h' _ (.lst ((List.range n).map fun i:Nat=>V.int i)) from ⟨by rw [List.length_map,List.length_range]; exact Nat.le_of_lt (v7 hn),acc.toList,c',hvr,by simpa using hS⟩),rfl,q _ (I2.hok.fresh (Nat.le_refl _))⟩
end
def Bits (r:List Int):Prop:=∀ b ∈ r,b = 0 \/ b = 1
def zp (gs:List Nat):List V:=gs.map fun g:Nat=>V.int g
def U0 (K:FG7) (H:Hp) (x:V) (k:Nat) (gs:List Nat) (o:Option (Nat × Int)):Prop:=∃ (r:Addr) (s:Str) (y:V),x = .ref r /\ SqT K H r [.str s,y] /\ match o with
 | none=>s = "settings" /\ vJ K H y (Sf k gs)
 | some (l,v)=>s = "clash" /\ ∃ c,y = .ref c /\ SqT K H c [.int l,.int v]
theorem Grow.ans {m:List Addr} {H H':Hp} (g:Grow m H H') {K:FG7} {x:V} {k:Nat} {gs:List Nat} {o:Option (Nat × Int)} (h:U0 K H x k gs o):U0 K H' x k gs o:=by
 obtain ⟨r,s,y,e,z,w⟩:=h
 refine ⟨r,s,y,e,g.sqT z,?_⟩
 cases o with
 | none=>exact ⟨w.1,g.rows w.2⟩
 | some p =>
  obtain ⟨l,v⟩:=p
  obtain ⟨w1,c,e,z⟩:=w
  exact ⟨w1,c,e,g.sqT z⟩
theorem sg.bits {k n:Nat} {rows:List (List Int)} (h:sg k rows) (hn:n < k):(rows.getD n []).length = 2 ^ (k - 1) /\ Bits (rows.getD n []):=by
 have e:rows[n]? = some (rows.getD n []):=by rw [List.getD_eq_getElem?_getD,List.getElem?_eq_getElem (by rw [h.1]; exact hn)]; rfl
 exact h.2 _ (List.mem_of_getElem? e)
theorem AllR.of_get {α:Type} {R:V -> α -> Prop}:∀ {xs:List V} {ks:List α},xs.length = ks.length -> (∀ (i:Nat) (x:V),xs[i]? = some x -> ∃ k,ks[i]? = some k /\ R x k) -> AllR R xs ks
 | [],[],_,_=>trivial
 | x :: xs,k :: ks,hl,h=>by
  refine ⟨?_,AllR.of_get (by simpa using hl) fun i y hy=>by simpa using h (i + 1) y (by simpa using hy)⟩
  obtain ⟨k',e,r⟩:=h 0 x rfl
  cases e
  exact r
 | [],_ :: _,hl,_=>by simp at hl
 | _ :: _,[],hl,_=>by simp at hl
theorem ug.set {k:Nat} {gs:List Nat} (h:ug k gs) {j n:Nat} (hn:n < 2 ^ k):ug k (gs.set j n):=by
 refine ⟨by rw [List.length_set,h.1],fun g hg=>?_⟩
 rcases List.mem_or_eq_of_mem_set hg with z | rfl
 ·exact h.2 g z
 ·exact hn
section
variable {prog:Program} {w:World} {A:Around} {E:VS7} {s:Shared}
theorem Wv {l:Addr} {us:List Value} {Q:List Value -> Shared -> Prop} (tu:s.heap.IsTuple l us.toArray) (hu:us.length <= sizeLine)
  (q:Q us { s with heap:=(s.heap.push (seqObj "list" #[] 0)).update s.heap.objs.size (Obj.mapSeq (· ++ us.toArray)) }):wpAny (model prog w) A (collect (.ref l)) Q E s:=by
 obtain ⟨ob,eo,ec,m,ed⟩:=id tu
 have eo2:(s.heap.push (seqObj "list" #[] 0)).get? l = some ob:=Heap.get?_push_of_some _ eo
 unfold collect
 refine wpAny_bind (wpAny_runValue (codeAny_builtin entry_proto_collect' (show wpAny _ _ (do again (.builtin "list.__iadd__" ⟨[← newList [],.ref l],[]⟩)) _ _ s from ?_)))
 refine wpAny_bind (wpAny_newList (wpAny_pure ⟨Code.quiet_builtin _ (by decide +kernel),codeAny_builtin entry_list_iadd' (show wpAny _ _ (Builtin.List.listExtendWith (.ref s.heap.objs.size) (.ref l) (.ref s.heap.objs.size)) _ _ { s with heap:=s.heap.push (seqObj "list" #[] 0) } from ?_)⟩))
 unfold Builtin.List.listExtendWith
 refine wpAny_bind (wpAny_typeOf (T:="tuple") ⟨ob,eo2,ec⟩ ?_)
 have k1:(Value.type "tuple" == Value.type "tuple") = true:=rfl
 rw [if_pos (by simp [k1])]
 refine wpAny_bind (listItems_at eo2 ed (wpAny_bind (listItems_at (xs:=#[]) (n:=0) (Heap.get?_push_size _ rfl) rfl ?_)))
 rw [if_neg (by simp)]
 refine wpAny_bind (listUpdate_at (xs:=#[]) (n:=0) (Heap.get?_push_size _ rfl) rfl (wpAny_pure ?_) (Nat.zero_le _) (by show (#[] ++ us.toArray).size <= sizeLine + 1; simp only [Array.size_append,List.size_toArray,List.length_nil]; omega))
 refine wpAny_bind (wpAny_load (get?_update_seq (Heap.get?_push_size _ rfl) _) ?_)
 show wpAny _ _ (pure ((#[]:Array Value) ++ us.toArray).toList) Q E _
 rw [show ((#[]:Array Value) ++ us.toArray).toList = us by simp]
 exact wpAny_pure q
theorem ZN {l:Addr} {us:List Value} {ns:List Int} {Q:VS7} (tu:s.heap.IsTuple l us.toArray) (iu:IntsAre us ns) (u64:us.length < 64)
  (q:∀ (out:Array Value) (ms:List Int),IntsAre out.toList ms -> ms.Perm ns -> ms.Pairwise (· <= ·) -> Q (.ref (s.heap.objs.size + 1)) { s with heap:=sortedAll s.heap us out }) :
  wpAny (model prog w) A (call (.builtin "sorted") [.ref l]) Q E s:=by
 refine Calls.call_function_entry kind_sorted plain_sorted entry_sorted (args_sorted1 _) ?_
 unfold Builtin.«sorted»
 refine wpAny_bind (m:=checkCount "sorted" 1 1 _) (wpAny_pure (wpAny_bind (Wv tu (by rw [sizeLine_eq]; omega) (wpAny_bind (wpAny_newList ?_)))))
 have e1:((s.heap.push (seqObj "list" #[] 0)).update s.heap.objs.size (Obj.mapSeq (· ++ us.toArray))).objs.size = s.heap.objs.size + 1:=by rw [Heap.size_update,size_push']
 have e2:(((s.heap.push (seqObj "list" #[] 0)).update s.heap.objs.size (Obj.mapSeq (· ++ us.toArray))).push (seqObj "list" us.toArray 0)).get? (s.heap.objs.size + 1) = some (seqObj "list" us.toArray 0):=by
  rw [← e1]; exact Heap.get?_push_size _ rfl
 show wpAny _ _ _ _ _ { s with heap:=((s.heap.push (seqObj "list" #[] 0)).update s.heap.objs.size (Obj.mapSeq (· ++ us.toArray))).push (seqObj "list" us.toArray 0) }
 rw [e1]
 refine wpAny_bind (wpAny_holding (wpAny_call_entry slot_list_sort ⟨_,e2,rfl⟩ entry_list_sort (list_sort_tree e2 iu u64 fun out ms b1 b2 b3=>⟨_,rfl,wpAny_pure ⟨_,rfl,q out ms b1 b2 b3⟩⟩) (args_list_sort _)))
end
section
variable {X:Cx} {K:FG7}
theorem rH (hK:X.K = K):xw X (.builtin "sorted") (fun xs H Q=>∃ (l:Addr) (ns:List Int),xs = [.ref l] /\ SqT K H l (ns.map V.int) /\ ns.length < 64 /\ ∀ (p:Addr) (ms:List Int),H p = none -> ms.Perm ns -> ms.Pairwise (· <= ·) -> Q (.ref p) (upd H p (.lst (ms.map V.int)))):=by
 subst hK
 intro pins s σ H xs us Q I r h
 obtain ⟨l,ns,rfl,hl,h64,q⟩:=h
 obtain ⟨u,rfl,rx⟩:=wS r
 cases (show u = Value.ref l from rx)
 obtain ⟨vs,rv,pl,hz⟩:=I.tuple hl
 have hlen:=rv.length
 rw [List.length_map] at hlen hz
 refine ZN pl (uW rv) (by omega) fun out ms i1 i2 i3=>?_
 obtain ⟨e,he⟩:=sortedAll_at s.heap vs out
 have hn:H (s.heap.objs.size + 1) = none:=I.hok.fresh (Nat.le_succ _)
 have rl:=xC i1
 refine ⟨.ref (s.heap.objs.size + 1),_,?_,rfl,q _ ms hn i2 i3⟩
 refine I.laid (t':=s.toks) (fun b o q=>sortedAll_old q) (Nat.le_succ _) (show z5 X.prog X.w _ _ _ (.lst (ms.map V.int)) from ⟨by rw [List.length_map,i2.length_eq]; exact hz,out.toList,e,rl,he⟩)
end
def wfN (k s l:Nat) (w:Int):Nat:=(wfI k s l w).toNat
theorem Y4:∀ k:Fin 5,∀ s:Fin 5,1 <= s.val -> s.val <= k.val -> ∀ l:Fin 16,l.val < 2 ^ k.val -> ∀ w:Fin 2,
  (wfI k.val s.val l.val w.val = (wfN k.val s.val l.val w.val:Int) /\ wfN k.val s.val l.val w.val < 2 ^ k.val /\ figI k.val s.val (wfN k.val s.val l.val w.val) = w.val) /\ ∀ t:Fin 5,t.val <= k.val -> t.val ≠ s.val -> figI k.val t.val (wfN k.val s.val l.val w.val) = figI k.val t.val l.val:=by
 decide +kernel
theorem u9:∀ k:Fin 5,∀ l:Fin 16,l.val < 2 ^ k.val -> (∀ t:Fin 5,figI k.val t.val l.val = 0 \/ figI k.val t.val l.val = 1) /\ ∀ m:Fin 16,m.val < 2 ^ k.val -> (∀ t:Fin 5,1 <= t.val -> t.val <= k.val -> figI k.val t.val l.val = figI k.val t.val m.val) -> l = m:=by
 decide +kernel
structure WfF (k s l:Nat) (w:Int):Prop where
 eq:wfI k s l w = (wfN k s l w:Int)
 lt:wfN k s l w < 2 ^ k
 at_:figI k s (wfN k s l w) = w
 off:∀ t:Nat,t <= k -> t ≠ s -> figI k t (wfN k s l w) = figI k t l
theorem wfF {k s l:Nat} {w:Int} (k4:k <= 4) (s1:1 <= s) (s2:s <= k) (hl:l < 2 ^ k) (hw:w = 0 \/ w = 1):WfF k s l w:=by
 have p:=qG k4
 have z:=Y4 ⟨k,by omega⟩ ⟨s,by omega⟩ s1 s2 ⟨l,by omega⟩ hl
 rcases hw with rfl | rfl
 ·exact ⟨(z 0).1.1,(z 0).1.2.1,(z 0).1.2.2,fun t ht hn=>(z 0).2 ⟨t,by omega⟩ ht hn⟩
 ·exact ⟨(z 1).1.1,(z 1).1.2.1,(z 1).1.2.2,fun t ht hn=>(z 1).2 ⟨t,by omega⟩ ht hn⟩
theorem U1 {k t l:Nat} (k4:k <= 4) (ht:t <= k) (hl:l < 2 ^ k):figI k t l = 0 \/ figI k t l = 1:=by
 have p:=qG k4
 exact (u9 ⟨k,by omega⟩ ⟨l,by omega⟩ hl).1 ⟨t,by omega⟩
theorem si {k l m:Nat} (k4:k <= 4) (hl:l < 2 ^ k) (hm:m < 2 ^ k) (h:∀ t:Nat,1 <= t -> t <= k -> figI k t l = figI k t m):l = m:=by
 have p:=qG k4
 have z:=(u9 ⟨k,by omega⟩ ⟨l,by omega⟩ hl).2 ⟨m,by omega⟩ hm fun t h1 h2=>h t.val h1 h2
 exact congrArg Fin.val z
theorem sj {k i:Nat} {n:Int} (hi:i < k):(wY k n)[i]? = some (figI k ((i + 1:Nat):Int) n):=by
 unfold wY figI
 rw [List.getElem?_map,List.getElem?_range (by rw [Int.toNat_natCast]; exact hi)]
 show some (Builtin.bitAnd (n / 2 ^ _) 1) = _
 congr 4
 omega
theorem jO {k:Nat} {n:Int}:(wY k n).length = k:=by unfold wY; rw [List.length_map,List.length_range,Int.toNat_natCast]
def mixN (k e x t:Nat):Nat:=(numL ((wY k e).take (t - 1) ++ (wY k x).drop t)).toNat
theorem Vv {k e x l t:Nat} (t1:1 <= t) (tk:t <= k) (h1:∀ u:Nat,1 <= u -> u < t -> figI k u l = figI k u e) (h2:∀ u:Nat,t < u -> u <= k -> figI k u l = figI k u x):nN k t l = mixN k e x t:=by
 unfold nN ZI mixN
 have a:(wY k (l:Int)).take (t - 1) = (wY k (e:Int)).take (t - 1):=by
  refine List.ext_getElem? fun i=>?_
  by_cases hi:i < t - 1
  ·rw [List.getElem?_take_of_lt hi,List.getElem?_take_of_lt hi,sj (by omega),sj (by omega),h1 (i + 1) (by omega) (by omega)]
  ·rw [List.getElem?_eq_none (by rw [List.length_take]; omega),List.getElem?_eq_none (by rw [List.length_take]; omega)]
 have b:(wY k (l:Int)).drop t = (wY k (x:Int)).drop t:=by
  refine List.ext_getElem? fun i=>?_
  rw [List.getElem?_drop,List.getElem?_drop]
  by_cases hi:t + i < k
  ·rw [sj hi,sj hi,h2 (t + i + 1) (by omega) (by omega)]
  ·rw [List.getElem?_eq_none (by rw [jO]; omega),List.getElem?_eq_none (by rw [jO]; omega)]
 rw [a,b]
def fstI (rows:List (List Int)) (t n:Nat):Int:=(rows.getD (t - 1) []).getD n 0
def Si (k:Nat) (rows:List (List Int)) (e m x y:Nat):Prop:=∃ t:Nat,m < t /\ t <= k /\ figI k t x ≠ figI k t y /\ (∀ u:Nat,t < u -> u <= k -> figI k u x = figI k u y) /\ figI k t x = fstI rows t (mixN k e x t)
theorem U2 {k t l:Nat} {rows:List (List Int)} (k4:k <= 4) (hs:sg k rows) (t1:1 <= t) (tk:t <= k) (hl:l < 2 ^ k):fstI rows t (nN k t l) = 0 \/ fstI rows t (nN k t l) = 1:=by
 have b:=hs.bits (show t - 1 < k by omega)
 have O:=oneF k4 t1 tk hl
 exact b.2 _ (List.mem_of_getElem? (VU (by rw [b.1]; exact O.lt)))
structure OrdF (k:Nat) (rows:List (List Int)) (e n:Nat) (L:List Nat):Prop where
 len:L.length = 2 ^ n
 mem:∀ x ∈ L,x < 2 ^ k /\ ∀ t:Nat,1 <= t -> t <= k - n -> figI k t x = figI k t e
 all:∀ x:Nat,x < 2 ^ k -> (∀ t:Nat,1 <= t -> t <= k - n -> figI k t x = figI k t e) -> x ∈ L
 row:L.Pairwise (Si k rows e (k - n))
def LsR (H:Hp) (x:V) (row:List Int):Prop:=∃ r,x = .ref r /\ H r = some (.lst (row.map V.int))
def LsB (H:Hp) (x:V) (rows:List (List Int)):Prop:=∃ l xs,x = .ref l /\ H l = some (.lst xs) /\ AllR (LsR H) xs rows
def LsN (a:Addr) (H:Hp) (x:V) (row:List Int):Prop:=∃ r,x = .ref r /\ r ∉ [a] /\ H r = some (.lst (row.map V.int))
def LsA (a:Addr) (H:Hp) (x:V) (rows:List (List Int)):Prop:=∃ l xs,x = .ref l /\ l ∉ [a] /\ H l = some (.lst xs) /\ AllR (LsN a H) xs rows
theorem LsA.b {a:Addr} {H:Hp} {x:V} {rows:List (List Int)} (h:LsA a H x rows):LsB H x rows:=by
 obtain ⟨l,xs,e,n,z,w⟩:=h
 exact ⟨l,xs,e,z,w.imp fun _ _ ⟨r,e,_,z⟩=>⟨r,e,z⟩⟩
theorem Y5 {a b:Nat}:Builtin.bitAnd (a:Int) (b:Int) = ((a &&& b:Nat):Int):=by
 unfold Builtin.bitAnd
 rw [decide_eq_true (Int.natCast_nonneg a),decide_eq_true (Int.natCast_nonneg b)]; rfl
theorem U3 {a b:Nat}:Builtin.bitOr (a:Int) (b:Int) = ((a ||| b:Nat):Int):=by
 have e:∀ x:Nat,decide (0 <= Builtin.bitNot (x:Int)) = false:=fun x=>decide_eq_false (by show ¬ 0 <= -(x:Int) - 1; omega)
 have n2:∀ x:Int,Builtin.bitNot (Builtin.bitNot x) = x:=fun x=>by show -(-x - 1) - 1 = x; omega
 unfold Builtin.bitOr Builtin.bitAnd
 rw [e a,e b]
 show Builtin.bitNot (Builtin.bitNot (((Builtin.bitNot (Builtin.bitNot (a:Int))).toNat ||| (Builtin.bitNot (Builtin.bitNot (b:Int))).toNat:Nat):Int)) = _
 rw [n2,n2,n2]; rfl
theorem Ww {a k:Nat}:(a:Int) / 2 ^ ((k:Int)).toNat = ((a / 2 ^ k:Nat):Int):=by
 rw [Int.toNat_natCast,Int.natCast_ediv,Int.natCast_pow]; rfl
def sd (k a:Nat):Nat:=if h:a = 0 \/ k = 0 then 0 else a % 2 ^ k ^^^ sd k (a / 2 ^ k)
termination_by a
decreasing_by
 have:a ≠ 0:=fun e=>h (.inl e)
 exact Nat.div_lt_self (by omega) (Nat.one_lt_two_pow (fun e=>h (.inr e)))
section
variable {X:Cx}
theorem qH (ns:List Int):∀ n,n <= ns.length -> preSum (fun i=>ns.getD i 0) n = (ns.take n).sum:=by
 intro n
 induction n with
 | zero=>intro _; rfl
 | succ n ih =>
  intro h
  show preSum (fun i=>ns.getD i 0) n + ns.getD n 0 = _
  rw [ih (by omega),List.take_succ,List.sum_append,List.getD_eq_getElem?_getD,List.getElem?_eq_getElem (show n < ns.length by omega)]
  simp
theorem Y6 (hcalm:X.calm = true):xw X (.builtin "sum") (fun xs H Q=>∃ (l:Addr) (ns:List Int),xs = [.ref l] /\ SqL X.K H l (ns.map V.int) /\ Q (.int ns.sum) H):=by
 intro pins s σ H xs us Q I r h
 obtain ⟨l,ns,rfl,hl,q⟩:=h
 obtain ⟨u,rfl,rx⟩:=wS r
 cases (show u = Value.ref l from rx)
 obtain ⟨vs,rv,pl,_⟩:=I.list hl
 have hl':s.heap.IsList l vs.toArray:=pl.isList
 have hlt:l < s.heap.objs.size:=by obtain ⟨_,e,_⟩:=hl'; exact Heap.lt_size e
 have hlen:ns.length = vs.length:=by rw [← rv.length,List.length_map]
 refine call_sum_walkG (wpAny_pyIter_list hl' ?_)
 refine ⟨s.heap.objs.size,[s.heap.objs.size,l],[s.heap.objs.size],vs.toArray.size,_,_,fun i=>ns.getD i 0,rfl,Walks.list (A:=X.A.in1) (I.ok.hd hcalm) _ l (Nat.ne_of_lt hlt) vs.toArray,
  ⟨⟨_,Heap.get?_push_size _ rfl,rfl,rfl⟩,hl'.push _⟩,fun b hb=>?_,fun i v hP=>?_,fun h' tk t' hk=>?_⟩
 ·rcases List.mem_cons.mp hb with rfl | hb
  ·exact Heap.lt_size (Heap.get?_push_size _ rfl)
  ·rcases List.mem_cons.mp hb with rfl | hb
   ·exact Nat.lt_trans hlt (Heap.lt_size (Heap.get?_push_size _ rfl))
   ·cases hb
 ·have hv:vs[i]? = some v:=by simpa using hP
  have hi:i < ns.length:=by rw [hlen]; exact (List.getElem?_eq_some_iff.mp hv).1
  obtain ⟨u,eu,rxv⟩:=rv.get (show (ns.map V.int)[i]? = some (V.int ns[i]) by rw [List.getElem?_map,List.getElem?_eq_getElem hi]; rfl)
  rw [hv] at eu; cases eu
  obtain ⟨t,rfl⟩:=rxv
  exact ⟨t,by show _ = Value.int (ns.getD i 0) t; rw [List.getD_eq_getElem?_getD,List.getElem?_eq_getElem hi]; rfl⟩
 ·have e:preSum (fun i=>ns.getD i 0) vs.toArray.size = ns.sum:=by
   rw [List.size_toArray,← hlen,qH ns _ (Nat.le_refl _),List.take_length]
  rw [e]
  exact ⟨.int ns.sum,H,I.kept (t':=tk) (h':=h') (LSm.kept_iter hk),⟨_,rfl⟩,q⟩
end
theorem Y7 {ms ns:List Int} (h:ms.Perm ns) (s:ms.Pairwise (· <= ·)) (t:ns.Pairwise (· <= ·)):ms = ns:=h.eq_of_pairwise (le:=(· <= ·)) (fun _ _ _ _ a b=>Int.le_antisymm a b) s t
theorem zx {gs:List Nat}:(zp gs).length = gs.length:=by unfold zp; rw [List.length_map]
def uh (K:FG7) (H:Hp) (f:Addr) (rows:List (List Int)):Prop:=∃ xs,H f = some (.lst xs) /\ AllR (zA K H) xs rows
theorem uh.grow {K:FG7} {H H':Hp} {f:Addr} {rows:List (List Int)} (h:uh K H f rows) (g:Grow [] H H'):uh K H' f rows:=by
 obtain ⟨xs,e,a⟩:=h
 exact ⟨xs,g.keep _ _ (by simp) e,g.boardsR a⟩
theorem uh.ne {K:FG7} {H:Hp} {f r:Addr} {rows:List (List Int)} (h:uh K H f rows) (e:H r = none):r ≠ f:=by
 obtain ⟨xs,e',_⟩:=h
 intro z; rw [z,e'] at e; cases e
theorem yE {a b:List Nat}:zp (a ++ b) = zp a ++ zp b:=by unfold zp; exact List.map_append
theorem Grow.shrink2 {H H':Hp} {f l:Addr} (g:Grow [f,l] H H') (h:H l = none):Grow [f] H H' :=
 ⟨fun b o hb q=>g.keep b o (fun z=>by rcases List.mem_cons.mp z with z | z; exact hb (by simp [z]); rw [List.mem_singleton.mp z,h] at q; cases q) q,g.tup,g.frz⟩
theorem natsV_get? {gs:List Nat} {i g:Nat} (h:gs[i]? = some g):(zp gs)[i]? = some (.int g):=by unfold zp; rw [List.getElem?_map,h]; rfl
theorem uh.set {K:FG7} {H:Hp} {f:Addr} {rows:List (List Int)} {xs:List V} (e:H f = some (.lst xs)) (a:AllR (zA K H) xs rows):uh K H f rows:=⟨xs,e,a⟩
theorem Wx {l:Int} {ns:List Int}:inV (.int l) (ns.map V.int) = decide (l ∈ ns):=by
 unfold inV
 rw [Bool.eq_iff_iff,List.any_eq_true,decide_eq_true_iff]
 constructor
 ·rintro ⟨y,hy,e⟩
  obtain ⟨i,hi,rfl⟩:=List.mem_map.mp hy
  have:i = l:=by simpa [eqV] using e
  rw [← this]; exact hi
 ·intro h
  exact ⟨.int l,List.mem_map.mpr ⟨l,h,rfl⟩,by simp [eqV]⟩
structure CScC (X:Cx) (scope:Scope) (N':List Str) (sub:List (Option Nat)):Prop where
 free:∀ y ∈ scope.names,y.2 = .free -> X.env.kindOf y.1 = some .cell
 nd:(scope.names.map (·.1)).Nodup
 kind:scope.kind = .function
 names:∀ y ∈ scope.names,y.2 = .local -> scope.names.lookup y.1 = some .local
 len:sub.length = N'.length
 cap:∀ (j:Nat) (y:Str) (i:Nat),N'[j]? = some y -> sub[j]? = some (some i) -> X.N[i]? = some y /\ X.env.scope.names.lookup y = some .cell /\ scope.names.lookup y = some .free
section
variable {X:Cx} {scope:Scope} {N':List Str} {sub:List (Option Nat)} {tg:Expr} {pos:Pos} {elt iter:Expr} {ifs:List Expr} {wi:TI} {g:TG} {tt:TT} {te:TE}
theorem CScC.clos {pins:List (Addr × Obj)} {σ:L2.St} {H:Hp} {s:Shared} (S:CScC X scope N' sub) (I:Inv X pins σ H s):∃ cl,closureFor scope X.env = pure cl /\ (∀ x c,cl.lookup x = some c -> X.env.cells.lookup x = some c) /\ ∀ y ∈ scope.names,y.2 = .free -> ∃ c,cl.lookup y.1 = some c :=
 uX fun y hy hf=>I.ok.has y.1 (.inl (S.free y hy hf))
end
theorem CScC.of {X:Cx} {scope:Scope} {N':List Str} {sub:List (Option Nat)} (sc:Scope) (NN:List Str) (e:X.env.scope = sc) (en:X.N = NN)
  (h:((scope.names.all fun y=>(y.2 != .free || sc.names.lookup y.1 == some .cell) && (y.2 != .local || scope.names.lookup y.1 == some .local)) && (sub.length == N'.length) &&
   ((N'.zip sub).all fun p=>match p.2 with | none=>true | some i=>NN[i]? == some p.1 && sc.names.lookup p.1 == some .cell && scope.names.lookup p.1 == some .free)) = true)
  (nd:(scope.names.map (·.1)).Nodup) (hk:scope.kind = .function):CScC X scope N' sub:=by
 rw [Bool.and_eq_true,Bool.and_eq_true] at h
 obtain ⟨⟨h1,h2⟩,h3⟩:=h
 have k1:=fun y hy=>List.all_eq_true.mp h1 y hy
 refine ⟨fun y hy hf=>?_,nd,hk,fun y hy hl=>?_,by simpa using h2,fun j y i hj hs=>?_⟩
 ·have:=k1 y hy
  simp only [hf,Bool.and_eq_true] at this
  have z:=this.1
  show X.env.scope.names.lookup y.1 = _
  rw [e]; simpa using z
 ·have:=k1 y hy
  simp only [hl,Bool.and_eq_true] at this
  simpa using this.2
 ·have hm:(y,some i) ∈ N'.zip sub:=by
   have:(N'.zip sub)[j]? = some (y,some i):=by
    rw [List.getElem?_zip_eq_some]; exact ⟨hj,hs⟩
   exact List.mem_of_getElem? this
  have:=List.all_eq_true.mp h3 _ hm
  simp only [Bool.and_eq_true,beq_iff_eq] at this
  rw [e,en]
  exact ⟨this.1.1,this.1.2,this.2⟩
theorem UR.at {ds:List Deed} (h:UR ds) {i:Nat} (hi:i < ds.length):(ds.getD i look).Ok:=h _ (List.mem_of_getElem? (Sc hi))
structure MixOk (m:List Nat):Prop where
 nd:m.Nodup
 lt:∀ j ∈ m,j < m.length
 has:∀ j,j < m.length -> j ∈ m
theorem MixOk.of {m:List Nat} {n:Nat} (h:m.Perm (List.range n)):MixOk m /\ m.length = n:=by
 have hl:m.length = n:=by rw [h.length_eq,List.length_range]
 refine ⟨⟨(h.nodup_iff).mpr List.nodup_range,fun j hj=>?_,fun j hj=>?_⟩,hl⟩
 ·rw [hl]; exact List.mem_range.mp (h.mem_iff.mp hj)
 ·exact h.mem_iff.mpr (List.mem_range.mpr (by omega))
theorem MixOk.at {m:List Nat} (h:MixOk m) {j:Nat} (hj:j < m.length):m.idxOf j < m.length /\ m.getD (m.idxOf j) 0 = j:=by
 have hl:=List.idxOf_lt_length_of_mem (h.has j hj)
 refine ⟨hl,?_⟩
 rw [List.getD_eq_getElem?_getD,List.getElem?_eq_getElem hl]
 exact List.getElem_idxOf hl
section
variable {X:Cx} {K:FG7}
theorem vU (hK:X.K = K):MtR X "list.index" (fun x vs H Q=>∃ (l:Addr) (ns:List Nat) (j:Nat),x = .ref l /\ vs = [.int j] /\ SqL K H l (zp ns) /\ j ∈ ns /\ ns.length <= 1000 /\ Q (.int (ns.idxOf j:Nat)) H):=by
 subst hK
 intro pins s σ H x vs v us Q I rx rv h
 obtain ⟨l,ns,j,rfl,rfl,hq,hj,hl,q⟩:=h
 cases rx
 obtain ⟨u,rfl,t,rfl⟩:=wS rv
 obtain ⟨its,r,⟨o,n,ho,hc,hdi,hd⟩,hz⟩:=I.list hq
 obtain ⟨oc,od,oda,osl⟩:=o
 cases hc
 cases hd
 have hlen:=r.length
 rw [zx] at hlen
 have hp:=List.idxOf_lt_length_of_mem hj
 have at_:∀ m,m < ns.length -> ∃ t,its[m]? = some (.int (ns.getD m 0:Nat) t):=fun m hm=>by
  have e1:(zp ns)[m]? = some (.int (ns.getD m 0:Nat)):=natsV_get? (by rw [List.getD_eq_getElem?_getD,List.getElem?_eq_getElem hm]; rfl)
  obtain ⟨u,hu,t,rfl⟩:=r.get e1
  exact ⟨t,hu⟩
 have hjj:∀ m (hm:m < its.toArray.size),∃ t,its.toArray[m] = .int (ns.getD m 0:Nat) t:=fun m hm=>by
  have hm':m < its.length:=by simpa using hm
  obtain ⟨t,e⟩:=at_ m (by omega)
  rw [List.getElem?_eq_getElem hm'] at e
  exact ⟨t,by simpa using Option.some.inj e⟩
 have key:∀ (x:Int),x = (j:Int) -> ∀ (p:Nat),p = ns.idxOf j -> wpAny (model X.prog X.w) X.A (call (.builtin "list.index") (.ref l :: [.int x t])) (EP X pins σ Q) X.xe s:=by
  intro x hx p hpp
  have hp':p < its.toArray.size:=by simp; omega
  refine call_meets F.slot_list_index ⟨_,ho,rfl⟩ F.entry_list_index (F.args_list_index_2 _ _)
   (SeqAt.list_indexAt l its.toArray n od osl (.int x t) (fun v=>match v with | .int a _=>a == x | _=>false) p hp' (by have:=hp'; simp at this; omega) ?_ ?_) ⟨ho,?_,?_⟩
  ·obtain ⟨t',e⟩:=hjj p hp'
   rw [e]
   show ((ns.getD p 0:Nat):Int) == x
   have:ns.getD p 0 = j:=by
    rw [hpp,List.getD_eq_getElem?_getD,List.getElem?_eq_getElem hp]
    exact List.getElem_idxOf hp
   rw [this,hx]; simp
  ·intro m hm hlt
   obtain ⟨t',e⟩:=hjj m hm
   rw [e]
   show (((ns.getD m 0:Nat):Int) == x) = false
   have hne:ns.getD m 0 ≠ j:=by
    have hm':m < ns.length:=by rw [hlen]; simpa using hm
    intro z
    have z':ns[m] = j:=by rw [← z,List.getD_eq_getElem?_getD,List.getElem?_eq_getElem hm']; rfl
    have:=List.not_of_lt_findIdx (p:=(· == j)) (xs:=ns) (i:=m) (by rw [hpp] at hlt; exact hlt)
    rw [z'] at this; simp at this
   rw [hx]
   exact beq_false_of_ne fun z=>hne (Int.ofNat.inj z)
  ·intro y hy
   obtain ⟨m,hm,rfl⟩:=List.getElem_of_mem (by simpa using hy:y ∈ its)
   obtain ⟨t',e⟩:=hjj m (by simpa using hm)
   have e':its[m] = .int (ns.getD m 0:Nat) t':=by simpa using e
   rw [e']
   exact SeqAt.EqAt.int_int _ _ _ _
  ·exact ⟨.int (ns.idxOf j:Nat),H,I.tok _,⟨_,by rw [hpp]⟩,q⟩
 exact key _ rfl _ rfl
end
theorem jP {X:Cx} {K:FG7} {T:String} {name:Str} {id:String} {r:V -> List V -> Hp -> VK -> Prop} {o e:Expr} {es:List Expr} {to:TE} {t:TA} {apos cpos:Pos} (hK:X.K = K) (pa:PlainAttrs T) (slot:Slot T name id) (hty:typeOf (.builtin id) = pure (.type "method_descriptor")) (hm:MtR X id r) (ho:PE X o to) (ha:PA X (e :: es) t)
  (hbase:attributeBase o name X.env (eval o X.env) = eval o X.env:=by rfl)
  (hfew:((backTo cpos (starEach (e :: es) X.env)).all (fun x=>!x.1) && (backToKw cpos (keywordEach [] X.env)).all (fun x=>x.1.isSome)
   && decide ((e :: es).length + ([]:List Keyword).length + (if ([]:List Keyword).isEmpty then 0 else 1) < 30)) = true:=by rfl)
  (hline:(apos.endLine == cpos.line) = true:=by rfl) (hs:starEach (e :: es) X.env = (false,eval e X.env) :: starEach es X.env:=by rfl) (hplain:(backTo cpos (starEach es X.env)).any (·.1) = false:=by rfl) :
  PE X (.Call (.Attribute o name apos) (e :: es) [] cpos) (tBM K T r to t):=by
 subst hK
 exact tW pa slot hty hm ho ha hbase hfew hline hs hplain
structure WkD (prog:Program) (w:World) (A:Around) (T:String) (I:Addr) (n:Nat) (Fr:Addr -> Prop) (J:List Value -> Shared -> Prop) (Fn:List Value -> Shared -> Prop):Prop where
 ty:∀ acc s,J acc s -> s.TypeIs (.ref I) T
 self:∀ acc s (Q:VS7) (E:VS7),J acc s -> Q (.ref I) s -> wpAny (model prog w) A (pyIter (.ref I)) Q E s
 stay:∀ acc s (S:Addr) (ob:Obj) (h':Heap),J acc s -> Fr S -> s.heap.get? S = some ob -> (ob.cls = .type "list" /\ ∀ v,ob.data ≠ .cell v) -> (∀ b o,b ≠ S -> s.heap.get? b = some o -> h'.get? b = some o) -> h'.objs.size = s.heap.objs.size -> J acc { s with heap:=h' }
 next:∀ acc s (S:Addr) (ob:Obj) (Q:Option Value -> Shared -> Prop) (E:VS7),J acc s -> Fr S -> s.heap.get? S = some ob -> (ob.cls = .type "list" /\ ∀ v,ob.data ≠ .cell v) →
  (∀ v s',acc.length < n -> J (acc ++ [v]) s' -> s'.heap.get? S = some ob -> Q (some v) s') -> (∀ s',Fn acc s' -> s'.heap.get? S = some ob -> Q none s') -> wpAny (model prog w) A (pyNext (.ref I)) Q E s
 push:∀ acc s (o:Obj),J acc s -> J acc { s with heap:=s.heap.push o }
section
variable {X:Cx} {K:FG7} {a b:Expr} {ta:TA} {p p2 pos pos2:Pos}
theorem SqC.grow {c:Bool} {H H':Hp} {a:Addr} {xs:List V} (g:Grow [] H H') (h:SqC c K H a xs):SqC c K H' a xs:=by
 cases c
 ·exact g.sqL h
 ·exact g.sqT h
end
open PySem PySem.Spec PyProof.Rows L2 HT
section
variable {prog:Program} {w:World} {A:Around} {E:VS7} {s:Shared}
theorem Wy (l b:Addr) (us ws:Array Value) (n m:Nat) (d1 d2:Option Addr) (e1 e2:Array (Option Value)) (h0:us.isEmpty = true) :
  Meets (Builtin.«tuple.__add__» ⟨[.ref l,.ref b],[]⟩) (fun _ R s=>s.heap.get? l = some ⟨.type "tuple",d1,.seq us n,e1⟩ /\ s.heap.get? b = some ⟨.type "tuple",d2,.seq ws m,e2⟩ /\ R (.ok (.ret (.ref b))) s) :=
 .of_wp fun P w A R s h=>by
  obtain ⟨hh,gg,dd,tk,os⟩:=s
  obtain ⟨eL,eT,q⟩:=h
  have k1:=PySem.AutoSeq1.sub_tuple_tuple
  wp_walk using PySem.AutoSeq1.wpAny_loadPart' eL,PySem.AutoSeq1.wpAny_loadPart' eT
  exact ⟨_,rfl,q⟩
theorem Wz {t b:Addr} {vs ws:List Value} {Q:VS7} (ht:IsTup s.heap t vs.toArray) (hb:IsTup s.heap b ws.toArray) (hv:vs = []) (h1:Q (.ref b) s):wpAny (model prog w) A (binaryOp .Add (.ref t) (.ref b)) Q E s:=by
 obtain ⟨⟨c1,d1,x1,l1⟩,ho,hc,n,hd⟩:=id ht
 obtain ⟨⟨c2,d2,x2,l2⟩,ho2,hc2,m,hd2⟩:=id hb
 cases hc
 cases hd
 cases hc2
 cases hd2
 exact concat_meets ⟨_,ho,rfl⟩ ⟨_,ho2,rfl⟩ noFill_tuple_add seq_tuple_add PySem.F.slot_tuple_add PySem.F.entry_tuple_add (PySem.F.args_tuple_add_2 _ _) (Wy t b vs.toArray ws.toArray n m d1 d2 l1 l2 (by simp [hv])) ⟨ho,ho2,h1⟩
theorem sr {t sl:Addr} {us:Array Value} {vl vu:Value} {lo hi:Option Int} {Q:VS7} (ht:IsTup s.heap t us) (hs:s.heap.IsSliceOf sl vl vu .none) (pl:IsPart vl lo) (pu:IsPart vu hi)
  (hw:sIx us.size 0 lo = 0 /\ sIx us.size us.size hi = us.size) (h:Q (.ref t) s):wpAny (model prog w) A (getItem (.ref t) (.ref sl)) Q E s:=by
 obtain ⟨os,hos,hcs,hds⟩:=id hs
 have hTs:s.TypeIs (.ref sl) "slice":=⟨os,hos,hcs⟩
 unfold getItem
 try with_reducible refine wpAny_holding ?_
 first | refine wpAny_bind (wpAny_pure ?_) | skip
 refine wpAny_bind (wpAny_sequenceKey ht.typeIs (by decide) ?_)
 refine wpAny_bind (wpAny_callSpecial?_slot (name:=Str.ofString "__getitem__") ht.typeIs PyProof.Rows.slot_tuple_getitem
  (wpAny_call_entry PyProof.Rows.slot_tuple_getitem ht.typeIs entry_tuple_getitem ?_ (args_tuple_getitem _ _)))
 show wpAny _ _ (Builtin.Tuple.tupleItemsOf (.ref t) >>= _) _ _ s
 refine wpAny_bind (tupleItemsOf_ ht ?_)
 refine wpAny_bind (wpAny_typeOf hTs ?_)
 rw [if_pos (by decide)]
 refine wpAny_bind (xW hs pl pu ?_)
 have yes:(((sIx us.size 0 lo:Nat):Int) == 0 && (1:Int) == 1 && (sIx us.size us.size hi - sIx us.size 0 lo) == us.size) = true:=by
  rw [hw.1,hw.2]; simp
 show wpAny _ _ (if (((sIx us.size 0 lo:Nat):Int) == 0 && (1:Int) == 1 && (sIx us.size us.size hi - sIx us.size 0 lo) == us.size) = true then _ else _) _ _ s
 rw [if_pos yes]
 refine wpAny_bind ?_
 unfold Builtin.Tuple.tupleIsExact
 refine wpAny_bind (wpAny_typeOf ht.typeIs (wpAny_pure ?_))
 show wpAny _ _ (rule _ >>= _) _ _ s
 exact wpAny_bind (wpAny_rule (wpAny_bind (wpAny_pure (wpAny_pure ⟨_,rfl,wpAny_pure h⟩))))
end
section
variable {X:Cx} {K:FG7}
def rSlG (K:FG7):V -> Option Int -> Option Int -> Hp -> VK -> Prop:=fun x lo hi H Q=>∃ a xs,x = .ref a /\ SqT K H a xs /\ ∀ p H',Grow [] H H' -> SqT K H' p (cutV xs lo hi) -> Q (.ref p) H'
theorem Y8 {xs:List V} {lo hi:Option Int} (h:HT.sIx xs.length 0 lo = 0 /\ HT.sIx xs.length xs.length hi = xs.length):cutV xs lo hi = xs:=by
 unfold cutV
 rw [h.1,h.2,List.drop_zero,Nat.sub_zero,List.take_length]
theorem ui (hK:X.K = K):SlR X (rSlG K):=by
 subst hK
 intro pins s σ H x v vl vu lo hi sl Q I rx hs pl pu h
 obtain ⟨a,xs,rfl,hx,q⟩:=h
 by_cases hw:HT.sIx xs.length 0 lo = 0 /\ HT.sIx xs.length xs.length hi = xs.length
 ·cases rx
  obtain ⟨its,r,ht,hz⟩:=I.tuple hx
  have hlen:its.toArray.size = xs.length:=by rw [List.size_toArray]; exact r.length.symm
  refine ⟨"tuple",_,PyProof.Rows.slot_tuple_getitem.lookup,ht.typeIs,?_⟩
  exact sr ht hs pl pu (by rw [hlen]; exact hw) ⟨.ref a,H,I,rfl,q a H (Grow.refl _ _) (by rw [Y8 hw]; exact hx)⟩
 ·exact YE pins s σ H _ v vl vu lo hi sl Q I rx hs pl pu ⟨a,xs,rfl,hx,hw,fun p hp=>q p _ (Grow.new hp _) (SqT.of zd)⟩
def Sj (K:FG7):R2:=fun x y H Q=>∃ a b xs ys,x = .ref a /\ y = .ref b /\ SqT K H a xs /\ SqT K H b ys /\ xs.length + ys.length <= sizeLine /\ ∀ p H',Grow [] H H' -> SqT K H' p (xs ++ ys) -> Q (.ref p) H'
theorem wb (hK:X.K = K):OpR X (binaryOp .Add) (Sj K):=by
 subst hK
 intro pins s σ H x y v u Q I rx ry h
 obtain ⟨a,b,xs,ys,rfl,rfl,ha,hb,hz,q⟩:=h
 by_cases hx:xs = []
 ·cases rx
  cases ry
  obtain ⟨its,r1,p1,_⟩:=I.tuple ha
  obtain ⟨its2,r2,p2,_⟩:=I.tuple hb
  exact Wz p1 p2 (r1.nil_iff.mpr hx) ⟨.ref b,H,I,rfl,q b H (Grow.refl _ _) (by rw [hx]; exact hb)⟩
 ·exact VN pins s σ H _ _ v u Q I rx ry ⟨a,b,xs,ys,rfl,rfl,ha,hb,hx,hz,fun e=>q a H (Grow.refl _ _) (by rw [e,List.append_nil]; exact ha),fun _ p hp=>q p _ (Grow.new hp _) (SqT.of zd)⟩
end
section
variable {c:TT} {e:TE} {i:Nat} {v v':V} {t u r:TS} {D:Ends} {σ:L2.St} {H:Hp} {rt:VK} {bk ct:L2.St -> Hp -> Prop}
theorem c_if (Good:L2.St -> Hp -> Prop) (hr:∀ σ' H',Good σ' H' -> r D σ' H') (hc:(∀ σ' H',Good σ' H' -> r D σ' H') -> tIfS c t u { D with nx:=r D } σ H):tSeq (tIfS c t u) r D σ H:=hc hr
theorem zO (Good:V -> Hp -> Prop) (hc:∀ K:VK,(∀ v H',Good v H' -> K v H') -> e σ H K) (hr:∀ v H',Good v H' -> t D (σ.set i (some v)) H'):tSeq (tAsg e (ww i)) t D σ H:=hc _ fun v H' g=>hr v H' g
theorem yF (h:t D σ H):Uw ({ nx:=t D,rt:=rt,bk:=bk,ct:=ct }:Ends) σ H:=h
theorem c_nx (h:t D σ H):({ nx:=t D,rt:=rt,bk:=bk,ct:=ct }:Ends).nx σ H:=h
theorem yL (Good:Bool -> Hp -> Prop) (hc:∀ K:Bool -> Hp -> Prop,(∀ b H',Good b H' -> K b H') -> c σ H K) (hr:∀ b H',Good b H' -> if b = true then t { D with nx:=r D } σ H' else u { D with nx:=r D } σ H'):tSeq (tIfS c t u) r D σ H:=hc _ hr
end
abbrev OKey:=Option Key
def okV:OKey -> V
 | none=>.non
 | some k=>kV k
def DcO (a:Addr) (kvs:List (V × V)):HO:=.ext fun h=>∃ o es n,h.get? a = some o /\ o.cls = .type "dict" /\ o.data = .dict es n /\ Vals (kvs.map (·.1)) (es.toList.map (·.key)) /\ Vals (kvs.map (·.2)) (es.toList.map (·.val))
mutual
/-- nested data,whose lists and dicts are none of m -/
inductive Od (K:FG7) (m:List Addr) (H:Hp):V -> PyData -> Prop
 | non:Od K m H .non .none
 | bl (b:Bool):Od K m H (.bl b) (.bool b)
 | int (i:Int):Od K m H (.int i) (.int i)
 | str (x:Str):Od K m H (.str x) (.str x)
 | tup {a:Addr} {xs:List V} {ds:List PyData}:SqT K H a xs -> Ods K m H xs ds -> Od K m H (.ref a) (.tuple ds)
 | lst {a:Addr} {xs:List V} {ds:List PyData}:H a = some (.lst xs) -> a ∉ m -> a ≠ sysModules -> Ods K m H xs ds -> Od K m H (.ref a) (.list ds)
 | dct {a:Addr} {kvs:List (V × V)} {ds:List (PyData × PyData)}:H a = some (DcO a kvs) -> a ∉ m -> a ≠ sysModules -> Ods K m H (kvs.map (·.1)) (ds.map (·.1)) -> Ods K m H (kvs.map (·.2)) (ds.map (·.2)) -> Od K m H (.ref a) (.dict ds)
inductive Ods (K:FG7) (m:List Addr) (H:Hp):List V -> List PyData -> Prop
 | nil:Ods K m H [] []
 | cons {x:V} {xs:List V} {d:PyData} {ds:List PyData}:Od K m H x d -> Ods K m H xs ds -> Ods K m H (x :: xs) (d :: ds)
end
section
variable {K:FG7} {m:List Addr} {H H':Hp}
mutual
theorem Od.grow (g:Grow m H H'):∀ {x:V} {d:PyData},Od K m H x d -> Od K m H' x d
 | _,_,.non=>.non
 | _,_,.bl b=>.bl b
 | _,_,.int i=>.int i
 | _,_,.str x=>.str x
 | _,_,.tup h t=>.tup (g.sqT h) (Ods.grow g t)
 | _,_,.lst h n b t=>.lst (g.keep _ _ n h) n b (Ods.grow g t)
 | _,_,.dct h n b t u=>.dct (g.keep _ _ n h) n b (Ods.grow g t) (Ods.grow g u)
theorem Ods.grow (g:Grow m H H'):∀ {xs:List V} {ds:List PyData},Ods K m H xs ds -> Ods K m H' xs ds
 | _,_,.nil=>.nil
 | _,_,.cons h t=>.cons (Od.grow g h) (Ods.grow g t)
end
theorem Ods.length:∀ {xs:List V} {ds:List PyData},Ods K m H xs ds -> xs.length = ds.length
 | _,_,.nil=>rfl
 | _,_,.cons _ t=>congrArg (· + 1) (Ods.length t)
theorem Ods.get:∀ {xs:List V} {ds:List PyData} {i:Nat} {x:V},Ods K m H xs ds -> xs[i]? = some x -> ∃ d,ds[i]? = some d /\ Od K m H x d
 | _,_,_,_,.nil,e=>by simp at e
 | _,_,0,_,.cons h _,e=>by simp at e; subst e; exact ⟨_,rfl,h⟩
 | _,_,i + 1,x,.cons _ t,e=>Ods.get (i:=i) t (by simpa using e)
theorem Ods.at:∀ {xs:List V} {ds:List PyData} {i:Nat} {d:PyData},Ods K m H xs ds -> ds[i]? = some d -> ∃ x,xs[i]? = some x /\ Od K m H x d
 | _,_,_,_,.nil,e=>by simp at e
 | _,_,0,_,.cons h _,e=>by simp at e; subst e; exact ⟨_,rfl,h⟩
 | _,_,i + 1,x,.cons _ t,e=>Ods.at (i:=i) t (by simpa using e)
theorem Ods.append:∀ {xs ys:List V} {ds es:List PyData},Ods K m H xs ds -> Ods K m H ys es -> Ods K m H (xs ++ ys) (ds ++ es)
 | _,_,_,_,.nil,s=>s
 | _,_,_,_,.cons r t,s=>.cons r (Ods.append t s)
theorem Ods.take:∀ {xs:List V} {ds:List PyData} (n:Nat),Ods K m H xs ds -> Ods K m H (xs.take n) (ds.take n)
 | _,_,0,_=>.nil
 | _,_,_ + 1,.nil=>.nil
 | _,_,n + 1,.cons r t=>.cons r (Ods.take n t)
theorem Ods.drop:∀ {xs:List V} {ds:List PyData} (n:Nat),Ods K m H xs ds -> Ods K m H (xs.drop n) (ds.drop n)
 | _,_,0,r=>r
 | _,_,_ + 1,.nil=>.nil
 | _,_,n + 1,.cons _ t=>Ods.drop n t
end
section
variable {X:Cx} {pins:List (Addr × Obj)} {σ:L2.St} {H:Hp} {s:Shared} {m:List Addr}
theorem DcO.at (I:Inv X pins σ H s) {a:Addr} {kvs:List (V × V)} (h:H a = some (DcO a kvs)):∃ o es n,s.heap.get? a = some o /\ o.cls = .type "dict" /\ o.data = .dict es n /\ Vals (kvs.map (·.1)) (es.toList.map (·.key)) /\ Vals (kvs.map (·.2)) (es.toList.map (·.val)):=(I.hok a _ h).1
mutual
theorem Od.reads (I:Inv X pins σ H s):∀ {x:V} {d:PyData} {u:Value},Od X.K m H x d -> RelV x u -> ∃ as,Reads s.heap u d as /\ sysModules ∉ as
 | _,_,u,.non,r=>by
  cases (show u = Value.none from r)
  exact ⟨_,.none,by simp⟩
 | _,_,u,.bl b,r=>by
  cases (show u = Value.bool b from r)
  exact ⟨_,.bool b,by simp⟩
 | _,_,u,.int i,r=>by
  obtain ⟨t,rfl⟩:=r
  exact ⟨_,.int i t,by simp⟩
 | _,_,u,.str x,r=>by
  obtain ⟨t,rfl⟩:=r
  exact ⟨_,.str x t,by simp⟩
 | _,_,u,.tup (a:=a) hs hd,r=>by
  cases (show u = Value.ref a from r)
  obtain ⟨its,r1,⟨o,e1,e2,n,e3⟩,_⟩:=I.tuple hs
  obtain ⟨as,q,ns⟩:=Ods.reads I hd r1
  exact ⟨_,.tuple e1 e2 e3 q,ns⟩
 | _,_,u,.lst (a:=a) hs _ hb hd,r=>by
  cases (show u = Value.ref a from r)
  obtain ⟨its,r1,⟨o,n,e1,e2,_,e3⟩,_⟩:=I.list (SqL.of hs)
  obtain ⟨as,q,ns⟩:=Ods.reads I hd r1
  exact ⟨_,.list e1 e2 e3 q,fun z=>(List.mem_cons.mp z).elim (fun e=>hb e.symm) ns⟩
 | _,_,u,.dct (a:=a) hs _ hb h1 h2,r=>by
  cases (show u = Value.ref a from r)
  obtain ⟨o,es,n,e1,e2,e3,v1,v2⟩:=DcO.at I hs
  obtain ⟨as,q1,n1⟩:=Ods.reads I h1 v1
  obtain ⟨bs,q2,n2⟩:=Ods.reads I h2 v2
  refine ⟨_,.dict e1 e2 e3 q1 q2,fun z=>?_⟩
  rcases List.mem_append.mp z with z | z
  ·exact (List.mem_cons.mp z).elim (fun e=>hb e.symm) n1
  ·exact n2 z
theorem Ods.reads (I:Inv X pins σ H s):∀ {xs:List V} {ds:List PyData} {us:List Value},Ods X.K m H xs ds -> Vals xs us -> ∃ as,ReadsAll s.heap us ds as /\ sysModules ∉ as
 | _,_,_,.nil,.nil=>⟨_,.nil,by simp⟩
 | _,_,_,.cons h t,.cons r rs=>by
  obtain ⟨as,q,n1⟩:=Od.reads I h r
  obtain ⟨bs,q2,n2⟩:=Ods.reads I t rs
  exact ⟨_,.cons q q2,fun z=>(List.mem_append.mp z).elim n1 n2⟩
end
end
section
variable {K:FG7} {m m':List Addr} {H:Hp}
mutual
theorem Od.more {a:Addr} (h:H a = none):∀ {x:V} {d:PyData},Od K m H x d -> Od K (a :: m) H x d
 | _,_,.non=>.non
 | _,_,.bl b=>.bl b
 | _,_,.int i=>.int i
 | _,_,.str x=>.str x
 | _,_,.tup q t=>.tup q (Ods.more h t)
 | _,_,.lst q n b t=>.lst q (fun z=>(List.mem_cons.mp z).elim (fun e=>by rw [e,h] at q; cases q) n) b (Ods.more h t)
 | _,_,.dct q n b t u=>.dct q (fun z=>(List.mem_cons.mp z).elim (fun e=>by rw [e,h] at q; cases q) n) b (Ods.more h t) (Ods.more h u)
theorem Ods.more {a:Addr} (h:H a = none):∀ {xs:List V} {ds:List PyData},Ods K m H xs ds -> Ods K (a :: m) H xs ds
 | _,_,.nil=>.nil
 | _,_,.cons q t=>.cons (Od.more h q) (Ods.more h t)
end
mutual
theorem Od.less (h:∀ b ∈ m',b ∈ m):∀ {x:V} {d:PyData},Od K m H x d -> Od K m' H x d
 | _,_,.non=>.non
 | _,_,.bl b=>.bl b
 | _,_,.int i=>.int i
 | _,_,.str x=>.str x
 | _,_,.tup q t=>.tup q (Ods.less h t)
 | _,_,.lst q n b t=>.lst q (fun z=>n (h _ z)) b (Ods.less h t)
 | _,_,.dct q n b t u=>.dct q (fun z=>n (h _ z)) b (Ods.less h t) (Ods.less h u)
theorem Ods.less (h:∀ b ∈ m',b ∈ m):∀ {xs:List V} {ds:List PyData},Ods K m H xs ds -> Ods K m' H xs ds
 | _,_,.nil=>.nil
 | _,_,.cons q t=>.cons (Od.less h q) (Ods.less h t)
end
end
structure DR where
 p:List Addr -> L2.St -> Hp -> Prop
 mono:∀ {m σ H H'},Grow [] H H' -> p m σ H -> p m σ H'
 more:∀ {a m σ H},H a = none -> p m σ H -> p (a :: m) σ H
def DR.t:DR:=⟨fun _ _ _=>True,fun _ _=>trivial,fun _ _=>trivial⟩
def DR.and (a b:DR):DR:=⟨fun m σ H=>a.p m σ H /\ b.p m σ H,fun g h=>⟨a.mono g h.1,b.mono g h.2⟩,fun g h=>⟨a.more g h.1,b.more g h.2⟩⟩
def KxR (p:OKey × V) (q:Value × Value):Prop:=RelV (okV p.1) q.1 /\ RelV p.2 q.2
structure PO2 (X:Cx) (ks:List (Option Expr)) (vs:List Expr) (R:DR) (kds:List (OKey × PyData)):Prop where
 run:∀ (pos:Pos) (pins:List (Addr × Obj)) (s:Shared) (σ:L2.St) (H:Hp) (m:List Addr) (Q:List (Value × Value) -> Shared -> Prop),Inv X pins σ H s -> R.p m σ H -> (∀ b ∈ m,H b ≠ none) →
  (∀ r s' H' (kxs:List (OKey × V)),Inv X pins σ H' s' -> Grow [] H H' -> Paired KxR kxs r -> kxs.map (·.1) = kds.map (·.1) -> Ods X.K m H' (kxs.map (·.2)) (kds.map (·.2)) -> Q r s') →
  wpAny (model X.prog X.w) X.A (evalPairs (pairTrees ks vs X.env pos)) Q X.xe s
def tyD:PyData -> String
 | .none=>"NoneType"
 | .bool _=>"bool"
 | .int _=>"int"
 | .str _=>"str"
 | .list _=>"list"
 | .tuple _=>"tuple"
 | .dict _=>"dict"
def Sk (K:FG7):List V -> Hp -> VK -> Prop:=fun xs H Q=>∃ x d m T k,xs = [x,.ty T] /\ Od K m H x d /\ PySem.W.kitOne K (.type (tyD d)) (.type T) = some k /\ Q (.bl k) H
theorem Y9 {X:Cx} {K:FG7} (hK:X.K = K):xw X (.builtin "isinstance") (Sk K):=by
 subst hK
 intro pins s σ H xs us Q I r h
 obtain ⟨x,d,m,T,k,rfl,hd,e,q⟩:=h
 cases hd with
 | non=>exact yk pins s σ H _ us Q I r ⟨_,T,_,k,rfl,rfl,e,q⟩
 | bl b=>exact yk pins s σ H _ us Q I r ⟨_,T,_,k,rfl,rfl,e,q⟩
 | int i=>exact yk pins s σ H _ us Q I r ⟨_,T,_,k,rfl,rfl,e,q⟩
 | str y=>exact yk pins s σ H _ us Q I r ⟨_,T,_,k,rfl,rfl,e,q⟩
 | tup hs _=>exact yk pins s σ H _ us Q I r ⟨_,T,_,k,rfl,.inl ⟨rfl,_,hs⟩,e,q⟩
 | lst hs _ _ _=>exact yk pins s σ H _ us Q I r ⟨_,T,_,k,rfl,.inr (.inl ⟨rfl,_,SqL.of hs⟩),e,q⟩
 | @dct a kvs ds hs _ _ _ _ =>
  obtain ⟨u,w',rfl,rx,rt⟩:=Wn r
  cases (show w' = Value.type T from rt)
  cases (show u = Value.ref a from rx)
  obtain ⟨o,es,n,e1,e2,_⟩:=DcO.at I hs
  exact PySem.W.kia_one PySem.W.kitx_dict I.kIn ⟨o,e1,e2⟩ e (fun z=>nomatch z) fun tk=>⟨.bl k,H,I.tok _,rfl,q⟩
mutual
def leD (B:Int):PyData -> Bool
 | .int i=>decide (-B <= i) && decide (i <= B)
 | .list xs | .tuple xs=>leDs B xs
 | .dict kvs=>leDk B kvs
 | .none | .bool _ | .str _=>true
def leDs (B:Int):List PyData -> Bool
 | []=>true
 | x :: xs=>leD B x && leDs B xs
def leDk (B:Int):List (PyData × PyData) -> Bool
 | []=>true
 | (k,v) :: r=>leD B k && leD B v && leDk B r
end
mutual
def wtO:PyData -> Nat
 | .list xs | .tuple xs=>wtOs xs + 3
 | .dict kvs=>wtOk kvs + 3
 | .int _=>1921
 | .none | .bool _=>5
 | .str x=>(reprText x).length
def wtOs:List PyData -> Nat
 | []=>0
 | x :: xs=>wtO x + 2 + wtOs xs
def wtOk:List (PyData × PyData) -> Nat
 | []=>0
 | (k,v) :: r=>wtO k + wtO v + 4 + wtOk r
end
mutual
theorem leD_mono {B B':Int} (h:B <= B'):∀ {d:PyData},leD B d = true -> leD B' d = true
 | .int i,z=>by
  simp only [leD,Bool.and_eq_true,decide_eq_true_eq] at z ⊢
  omega
 | .list xs,z=>leDs_mono h (xs:=xs) z
 | .tuple xs,z=>leDs_mono h (xs:=xs) z
 | .dict kvs,z=>leDk_mono h (kvs:=kvs) z
 | .none,_=>rfl
 | .bool _,_=>rfl
 | .str _,_=>rfl
theorem leDs_mono {B B':Int} (h:B <= B'):∀ {xs:List PyData},leDs B xs = true -> leDs B' xs = true
 | [],_=>rfl
 | x :: xs,z=>by
  have z':=Bool.and_eq_true_iff.mp (show (leD B x && leDs B xs) = true from z)
  show (leD B' x && leDs B' xs) = true
  rw [leD_mono h z'.1,leDs_mono h z'.2]; rfl
theorem leDk_mono {B B':Int} (h:B <= B'):∀ {kvs:List (PyData × PyData)},leDk B kvs = true -> leDk B' kvs = true
 | [],_=>rfl
 | (k,v) :: r,z=>by
  have z':=Bool.and_eq_true_iff.mp (show (leD B k && leD B v && leDk B r) = true from z)
  have z'':=Bool.and_eq_true_iff.mp z'.1
  show (leD B' k && leD B' v && leDk B' r) = true
  rw [leD_mono h z''.1,leD_mono h z''.2,leDk_mono h z'.2]; rfl
end
theorem xM {B:Int}:∀ {xs:List PyData},leDs B xs = true ↔ ∀ x ∈ xs,leD B x = true
 | []=>by simp [leDs]
 | x :: xs=>by simp [leDs,xM (xs:=xs)]
theorem uj:∀ {xs ys:List PyData},wtOs (xs ++ ys) = wtOs xs + wtOs ys
 | [],ys=>by simp [wtOs]
 | x :: xs,ys=>by
  show wtO x + 2 + wtOs (xs ++ ys) = wtO x + 2 + wtOs xs + wtOs ys
  rw [uj]; omega
def Bg:Int:=2 ^ 1000
mutual
theorem showable_le {B:Int} (hB:B <= Bg):∀ {d:PyData},leD B d = true -> d.showable = true
 | .int i,z=>by
  simp only [leD,Bool.and_eq_true,decide_eq_true_eq] at z
  have hb:Bg = 2 ^ 1000:=rfl
  show decide (i.natAbs.log2 < 1920) = true
  refine decide_eq_true ?_
  by_cases h0:i.natAbs = 0
  ·rw [h0]; decide
  ·rw [Nat.log2_lt h0]
   have h1:(i.natAbs:Int) <= Bg:=by omega
   have h2:i.natAbs <= 2 ^ 1000:=by rw [hb] at h1; exact_mod_cast h1
   exact Nat.lt_of_le_of_lt h2 (Nat.pow_lt_pow_right (by decide) (by decide))
 | .list xs,z=>showableAll_le hB (xs:=xs) z
 | .tuple xs,z=>showableAll_le hB (xs:=xs) z
 | .dict kvs,z=>showableKv_le hB (kvs:=kvs) z
 | .none,_=>rfl
 | .bool _,_=>rfl
 | .str _,_=>rfl
theorem showableAll_le {B:Int} (hB:B <= Bg):∀ {xs:List PyData},leDs B xs = true -> PyData.showableAll xs = true
 | [],_=>rfl
 | x :: xs,z=>by
  have z':=Bool.and_eq_true_iff.mp (show (leD B x && leDs B xs) = true from z)
  show (x.showable && PyData.showableAll xs) = true
  rw [showable_le hB z'.1,showableAll_le hB z'.2]; rfl
theorem showableKv_le {B:Int} (hB:B <= Bg):∀ {kvs:List (PyData × PyData)},leDk B kvs = true -> PyData.showableKv kvs = true
 | [],_=>rfl
 | (k,v) :: r,z=>by
  have z':=Bool.and_eq_true_iff.mp (show (leD B k && leD B v && leDk B r) = true from z)
  have z'':=Bool.and_eq_true_iff.mp z'.1
  show (k.showable && v.showable && PyData.showableKv r) = true
  rw [showable_le hB z''.1,showable_le hB z''.2,showableKv_le hB z'.2]; rfl
end
mutual
theorem shown_le:∀ {d:PyData},d.showable = true -> d.shown.length <= wtO d
 | .none,_=>by decide
 | .bool b,_=>by cases b <;> decide
 | .int i,h=>int_text_len_1921 (of_decide_eq_true h)
 | .str x,_=>Nat.le_refl _
 | .list xs,h=>by
  have q:=shown_les (xs:=xs) h
  have l:=listText_len_le (PyData.shownAll xs)
  show (listText (PyData.shownAll xs)).length <= wtOs xs + 3
  omega
 | .tuple xs,h=>by
  have q:=shown_les (xs:=xs) h
  have l:=tupleText_len_le (PyData.shownAll xs)
  show (tupleText (PyData.shownAll xs)).length <= wtOs xs + 3
  omega
 | .dict kvs,h=>by
  have q:=shown_lek (kvs:=kvs) h
  have l:=dictText_len_le (PyData.shownKv kvs)
  show (dictText (PyData.shownKv kvs)).length <= wtOk kvs + 3
  omega
theorem shown_les:∀ {xs:List PyData},PyData.showableAll xs = true -> ((PyData.shownAll xs).map (·.length)).sum + 2 * (PyData.shownAll xs).length <= wtOs xs
 | [],_=>by decide
 | x :: xs,h=>by
  have h':(x.showable && PyData.showableAll xs) = true:=h
  rw [Bool.and_eq_true] at h'
  have q1:=shown_le (d:=x) h'.1
  have q2:=shown_les (xs:=xs) h'.2
  show (((x.shown :: PyData.shownAll xs).map (·.length)).sum + 2 * (x.shown :: PyData.shownAll xs).length) <= wtO x + 2 + wtOs xs
  rw [List.map_cons,List.sum_cons,List.length_cons]
  omega
theorem shown_lek:∀ {kvs:List (PyData × PyData)},PyData.showableKv kvs = true -> ((PyData.shownKv kvs).map (·.length)).sum + 2 * (PyData.shownKv kvs).length <= wtOk kvs
 | [],_=>by decide
 | (k,v) :: r,h=>by
  have h':(k.showable && v.showable && PyData.showableKv r) = true:=h
  rw [Bool.and_eq_true,Bool.and_eq_true] at h'
  have q1:=shown_le (d:=k) h'.1.1
  have q2:=shown_le (d:=v) h'.1.2
  have q3:=shown_lek (kvs:=r) h'.2
  have e:(k.shown ++ ": " ++ v.shown).length = k.shown.length + 2 + v.shown.length:=by
   rw [strLen_append,strLen_append]; rfl
  show ((((k.shown ++ ": " ++ v.shown) :: PyData.shownKv r).map (·.length)).sum + 2 * ((k.shown ++ ": " ++ v.shown) :: PyData.shownKv r).length) <= wtO k + wtO v + 4 + wtOk r
  rw [List.map_cons,List.sum_cons,List.length_cons,e]
  omega
end
structure GdS (n k w:Nat) (ds:List PyData):Prop where
 le:leDs (10 ^ 30 + n) ds = true
 dp:PyData.depthAll ds <= k
 wt:wtOs ds <= w
structure GdD (n k w:Nat) (d:PyData):Prop where
 le:leD (10 ^ 30 + n) d = true
 dp:d.depth <= k
 wt:wtO d <= w
theorem qI {B:Int} {a b:List PyData} (ha:leDs B a = true) (hb:leDs B b = true):leDs B (a ++ b) = true:=xM.mpr fun x hx=>(List.mem_append.mp hx).elim (xM.mp ha x) (xM.mp hb x)
theorem yy {k:Nat}:∀ {xs:List PyData},PyData.depthAll xs <= k ↔ ∀ x ∈ xs,x.depth <= k
 | []=>by simp [PyData.depthAll]
 | x :: xs=>by
  show max x.depth (PyData.depthAll xs) <= k ↔ _
  rw [Nat.max_le,yy (xs:=xs)]
  simp
theorem GdS.append {n k w w':Nat} {a b:List PyData} (ha:GdS n k w a) (hb:GdS n k w' b):GdS n k (w + w') (a ++ b) :=
 ⟨qI ha.le hb.le,yy.mpr fun x hx=>(List.mem_append.mp hx).elim (yy.mp ha.dp x) (yy.mp hb.dp x),by rw [uj]; have:=ha.wt; have:=hb.wt; omega⟩
theorem GdS.sub {n k w:Nat} {a b:List PyData} (ha:GdS n k w a) (h:∀ x ∈ b,x ∈ a) (hw:wtOs b <= wtOs a):GdS n k w b :=
 ⟨xM.mpr fun x hx=>xM.mp ha.le x (h x hx),yy.mpr fun x hx=>yy.mp ha.dp x (h x hx),Nat.le_trans hw ha.wt⟩
theorem GdD.one {n k w:Nat} {d:PyData} (h:GdD n k w d):GdS n k (w + 2) [d]:=⟨by show (leD _ d && true) = true; rw [h.le]; rfl,by show max d.depth 0 <= k; have:=h.dp; omega,by show wtO d + 2 + 0 <= w + 2; have:=h.wt; omega⟩
theorem GdS.tup {n k w:Nat} {ds:List PyData} (h:GdS n k w ds):GdD n (k + 1) (w + 3) (.tuple ds):=⟨h.le,Nat.succ_le_succ h.dp,Nat.add_le_add_right h.wt 3⟩
theorem GdS.lst {n k w:Nat} {ds:List PyData} (h:GdS n k w ds):GdD n (k + 1) (w + 3) (.list ds):=⟨h.le,Nat.succ_le_succ h.dp,Nat.add_le_add_right h.wt 3⟩
theorem GdS.mono {n n' k k' w w':Nat} {ds:List PyData} (h:GdS n k w ds) (h1:n <= n') (h2:k <= k') (h3:w <= w'):GdS n' k' w' ds:=⟨leDs_mono (by omega) h.le,Nat.le_trans h.dp h2,Nat.le_trans h.wt h3⟩
theorem GdD.mono {n n' k k' w w':Nat} {d:PyData} (h:GdD n k w d) (h1:n <= n') (h2:k <= k') (h3:w <= w'):GdD n' k' w' d:=⟨leD_mono (by omega) h.le,Nat.le_trans h.dp h2,Nat.le_trans h.wt h3⟩
section
variable {K:FG7} {m:List Addr} {H:Hp} {x:V}
theorem Od.inv_tup {ds:List PyData} (h:Od K m H x (.tuple ds)):∃ a xs,x = .ref a /\ SqT K H a xs /\ Ods K m H xs ds:=by
 cases h with
 | tup h1 h2=>exact ⟨_,_,rfl,h1,h2⟩
end
def qJ (P:Program) (w:World) (K:FG7) (mg:Str -> Option Value) (base:Heap) (C:Addr) (k:Nat) (m:Str) (ps:List Str) (sp:Sp):Prop :=
 ∃ (f:Addr) (fd:FuncData),FnOk P w K mg base CX0 k f fd ps sp /\ v4 K fd ps [] /\ Meth K C m f
def ss (P:Program) (w:World) (K:FG7) (mg:Str -> Option Value) (base:Heap) (C:Addr) (k:Nat) (ps:List Str) (sp:Sp):Prop :=
 ∃ (j:Nat) (f:Addr) (fd:FuncData),j + 1 = k /\ FnOk P w K mg base CX0 j f fd ps sp /\ v4 K fd ps [] /\ Mk K C f
section
variable {P:Program} {w:World} {K:FG7} {mg:Str -> Option Value} {base:Heap} {C:Addr} {j k:Nat} {m:Str} {ps:List Str} {sp:Sp}
theorem qJ.mono (c:qJ P w K mg base C j m ps sp) (h:j <= k):qJ P w K mg base C k m ps sp:=by
 obtain ⟨f,fd,F,b,mt⟩:=c
 exact ⟨f,fd,F.mono h,b,mt⟩
theorem ss.mono (c:ss P w K mg base C j ps sp) (h:j <= k):ss P w K mg base C k ps sp:=by
 obtain ⟨i,f,fd,e,F,b,mt⟩:=c
 exact ⟨k - 1,f,fd,by omega,F.mono (by omega),b,mt⟩
end
structure CTxt (K:FG7) (mg:Str -> Option Value) (C:Addr):Prop where
 cl:Cls K C
 n1:v3 K C "depth"
 n2:v3 K C "gates"
 n3:v3 K C "out_lines"
 n4:v3 K C "ups"
 n5:v3 K C "tokens"
 n6:v3 K C "came_out"
 n7:v3 K C "given"
 mgC:mg "Counter" = some (.ref C)
section
variable {X:Cx} {K:FG7}
def FrT (H:Hp) (r:Addr) (xs:List V):Prop:=∃ o:Obj,H r = some (.frz o (.tup xs)) /\ o.cls = .type "tuple" /\ o.dict = none
theorem FrT.sqT {H:Hp} {r:Addr} {xs:List V} (h:FrT H r xs):SqT K H r xs:=by
 obtain ⟨o,e,_⟩:=h
 exact .inl (.inr ⟨o,e⟩)
end
structure Call72 where
 hand:Int
 box:Int
 deed:Deed
 begun:Int
 ended:Int
 answer:Int
instance:Inhabited Call72:=⟨⟨0,0,⟨0,none,none⟩,0,0,0⟩⟩
def Call72.vs (c:Call72) (rd:Addr):List V:=[.int c.hand,.int c.box,.ref rd,.int c.begun,.int c.ended,.int c.answer]
def yf (K:FG7) (H:Hp) (x:V) (c:Call72):Prop:=∃ r rd,x = .ref r /\ SqT K H r (c.vs rd) /\ SqT K H rd c.deed.vs
def zz (K:FG7) (H:Hp) (x:V) (cs:List Call72):Prop:=∃ r xs,x = .ref r /\ SqT K H r xs /\ AllR (yf K H) xs cs
theorem Grow.call72 {m:List Addr} {H H':Hp} (g:Grow m H H') {K:FG7} {x:V} {c:Call72} (h:yf K H x c):yf K H' x c:=by
 obtain ⟨r,rd,e,h1,h2⟩:=h
 exact ⟨r,rd,e,g.sqT h1,g.sqT h2⟩
theorem Grow.callsR {m:List Addr} {H H':Hp} (g:Grow m H H') {K:FG7} {xs:List V} {cs:List Call72} (h:AllR (yf K H) xs cs):AllR (yf K H') xs cs:=h.imp fun _ _ z=>g.call72 z
theorem Grow.calls72 {m:List Addr} {H H':Hp} (g:Grow m H H') {K:FG7} {x:V} {cs:List Call72} (h:zz K H x cs):zz K H' x cs:=by
 obtain ⟨r,xs,e,h1,h2⟩:=h
 exact ⟨r,xs,e,g.sqT h1,g.callsR h2⟩
structure CallOk72 (m:Nat) (c:Call72):Prop where
 h0:0 <= c.hand
 h1:c.hand <= 15
 b0:0 <= c.box
 b1:c.box < m
 d:c.deed.Ok
 t0:0 <= c.begun
 t1:c.begun <= c.ended
def yB (b:Int) (cs:List Call72):Nat:=cs.countP fun c=>decide (c.box = b)
structure Calls72 (m:Nat) (cs:List Call72):Prop where
 len:cs.length <= 40
 ok:∀ c ∈ cs,CallOk72 m c
 few:∀ b:Int,yB b cs <= 8
def cg (cs:List Call72) (k:Nat):Call72:=cs.getD k default
theorem yG {cs:List Call72} {k:Nat} {c:Call72} (h:cs[k]? = some c):cg cs k = c:=by unfold cg; rw [List.getD_eq_getElem?_getD,h]; rfl
theorem rJ {cs:List Call72} {k:Nat} (h:k < cs.length):cg cs k ∈ cs:=by
 have:=List.getElem?_eq_getElem h
 rw [yG this]; exact List.getElem_mem h
def kl72 (cs:List Call72):List Nat -> Bool
 | []=>true
 | k :: r=>!(r.any fun j=>decide ((cg cs j).ended < (cg cs k).begun)) && kl72 cs r
def kp72 (cs:List Call72):Int -> List Nat -> Bool
 | _,[]=>true
 | t,k :: r=>if (cg cs k).ended < t then false else kp72 cs (if (cg cs k).begun > t then (cg cs k).begun else t) r
theorem U4 {cs:List Call72}:∀ {ns:List Nat} {t:Int},kp72 cs t ns = ((ns.all fun j=>!decide ((cg cs j).ended < t)) && kl72 cs ns)
 | [],_=>rfl
 | k :: r,t=>by
  unfold kp72 kl72
  rw [List.all_cons]
  by_cases h:(cg cs k).ended < t
  ·rw [if_pos h,decide_eq_true h]; rfl
  ·rw [if_neg h,decide_eq_false h,U4]
   have e:(r.all fun j=>!decide ((cg cs j).ended < (if (cg cs k).begun > t then (cg cs k).begun else t))) = ((r.all fun j=>!decide ((cg cs j).ended < t)) && !(r.any fun j=>decide ((cg cs j).ended < (cg cs k).begun))):=by
    rw [Bool.eq_iff_iff,Bool.and_eq_true,List.all_eq_true,List.all_eq_true,Bool.not_eq_true',List.any_eq_false]
    constructor
    ·intro h
     refine ⟨fun j hj=>?_,fun j hj=>?_⟩
     ·have:=h j hj
      rw [Bool.not_eq_true',decide_eq_false_iff_not] at this ⊢
      split at this <;> omega
     ·have:=h j hj
      rw [Bool.not_eq_true',decide_eq_false_iff_not] at this
      rw [decide_eq_true_eq]
      split at this <;> omega
    ·rintro ⟨h1,h2⟩ j hj
     have a:=h1 j hj
     have b:=h2 j hj
     rw [Bool.not_eq_true',decide_eq_false_iff_not] at a ⊢
     rw [decide_eq_true_eq] at b
     split <;> omega
   rw [e,Bool.and_assoc]; rfl
theorem VZ {cs:List Call72} {m:Nat} {ns:List Nat} (ok:∀ c ∈ cs,CallOk72 m c) (lt:∀ k ∈ ns,k < cs.length):kp72 cs 0 ns = kl72 cs ns:=by
 rw [U4]
 have:(ns.all fun j=>!decide ((cg cs j).ended < 0)) = true:=by
  rw [List.all_eq_true]
  intro j hj
  have o:=ok _ (rJ (lt j hj))
  have:=o.t0; have:=o.t1
  rw [Bool.not_eq_true',decide_eq_false_iff_not]; omega
 rw [this,Bool.true_and]
def an72 (cs:List Call72):List Int -> List Nat -> Bool
 | _,[]=>true
 | vs,k :: r=>if vs.getD (cg cs k).box.toNat 0 = (cg cs k).answer then an72 cs (vs.set (cg cs k).box.toNat ((cg cs k).deed.mk' (cg cs k).answer)) r else false
theorem y8 {cs:List Call72} {vs:List Int} {k:Nat} {r:List Nat}:an72 cs vs (k :: r) = if vs.getD (cg cs k).box.toNat 0 = (cg cs k).answer then an72 cs (vs.set (cg cs k).box.toNat ((cg cs k).deed.mk' (cg cs k).answer)) r else false:=rfl
theorem zW {α:Type} {l:List α} {j:Nat} {x d:α} (h:j < l.length):(l.set j x).getD j d = x:=by rw [List.getD_eq_getElem?_getD,List.getElem?_set_self h]; rfl
theorem zL {α:Type} {l:List α} {i j:Nat} {x d:α} (h:i ≠ j):(l.set i x).getD j d = l.getD j d:=by rw [List.getD_eq_getElem?_getD,List.getD_eq_getElem?_getD,List.getElem?_set_ne h]
def xO (n:Nat) (d:PyData) (ns:List Nat):Prop:=d = .tuple (ns.map fun k:Nat=>PyData.int (k:Int)) /\ ns.Perm (List.range n)
theorem wI:∀ {a b:List Nat},(a.map fun k:Nat=>PyData.int (k:Int)) = b.map (fun k:Nat=>PyData.int (k:Int)) -> a = b
 | [],[],_=>rfl
 | [],_ :: _,h=>by cases h
 | _ :: _,[],h=>by cases h
 | x :: a,y :: b,h=>by
  obtain ⟨h1,h2⟩:=List.cons.inj h
  have:x = y:=by injection h1 with h1; omega
  rw [this,wI h2]
theorem xO.uniq {n:Nat} {d:PyData} {ns ms:List Nat} (h:xO n d ns) (h':xO n d ms):ns = ms:=by
 have:=h.1.symm.trans h'.1
 injection this with this
 exact wI this
def WA (b:List Int) (cs:List Call72) (d:PyData):Prop:=∃ ns,xO cs.length d ns /\ kl72 cs ns = true /\ an72 cs b ns = true
def Fl72 (d:PyData):Prop:=∀ ds,d = .tuple ds -> ds.length < 64 /\ ∀ e ∈ ds,∀ kvs,e ≠ .dict kvs
def yN (K:FG7) (H:Hp) (x:V) (ns:List Nat):Prop:=∃ r,x = .ref r /\ SqT K H r (zp ns)
def WB (K:FG7) (H:Hp) (x:V) (ns:List Nat):Prop:=∃ r,x = .ref r /\ SqL K H r (zp ns)
theorem ye {ns:List Nat} {i:Nat} {x:V} (h:(zp ns)[i]? = some x):∃ k,ns[i]? = some k /\ x = .int k:=by
 unfold zp at h
 rw [List.getElem?_map] at h
 obtain ⟨k,hk,e⟩:=Option.map_eq_some_iff.mp h
 exact ⟨k,hk,e.symm⟩
theorem uk {ns:List Nat} {i k:Nat} (h:ns[i]? = some k):ns.drop i = k :: ns.drop (i + 1):=by
 obtain ⟨hlt,e⟩:=List.getElem?_eq_some_iff.mp h
 rw [List.drop_eq_getElem_cons hlt,e]
theorem yN.grow {K:FG7} {H H':Hp} {x:V} {ns:List Nat} {m:List Addr} (h:yN K H x ns) (g:Grow m H H'):yN K H' x ns:=by
 obtain ⟨r,e,s⟩:=h
 exact ⟨r,e,g.sqT s⟩
theorem jQ {K:FG7} {m:List Addr} {H:Hp}:∀ {xs:List V} {ns:List Nat},Ods K m H xs (ns.map fun k:Nat=>PyData.int (k:Int)) -> xs = zp ns
 | _,[],.nil=>rfl
 | _,k :: ns,.cons (.int _) t=>by rw [jQ t]; rfl
theorem V0 {K:FG7} {m:List Addr} {H:Hp} {x:V} {d:PyData} {ns:List Nat} (e:d = .tuple (ns.map fun k:Nat=>PyData.int (k:Int))) (h:Od K m H x d):yN K H x ns:=by
 subst e
 obtain ⟨r,xs,rfl,hs,os⟩:=h.inv_tup
 exact ⟨r,rfl,by rw [← jQ os]; exact hs⟩
section
variable {K:FG7} {a:Addr} {xs:List V} {k:Nat} {te:TE} {Q:VK} {σ:L2.St} {H:Hp}
theorem wJ (Pv:Nat -> List V -> Hp -> Prop) (h0:Pv 0 [] H) (hl:∀ i ys H',Pv i ys H' -> SqT K H' a xs)
  (hs:∀ i x ys H',xs[i]? = some x -> Pv i ys H' -> te (σ.set k (some x)) H' fun y H5=>ys.length < sizeLine /\ Pv (i + 1) (ys ++ [y]) H5)
  (hd:∀ ys H',Pv xs.length ys H' -> ∀ l,H' l = none -> Q (.ref l) (upd H' l (.lst ys))):wx (Itt K a) σ H (ww k) qB te Q :=
 ZH (fun _=>true) Pv h0 hl (fun _ _ _ _ h=>h) (fun i x ys H' hx p _=>hs i x ys H' hx p) (fun _ _ _ _ _ _ z=>nomatch z) hd
end
theorem rK (n:Nat):(List.replicate n true).all id = true:=by rw [List.all_eq_true]; intro x hx; rw [(List.mem_replicate.mp hx).2]; rfl
theorem lt72 {n:Nat} (h:n <= 5000):n < sizeLine:=Nat.lt_of_le_of_lt h (by decide)
theorem le72 {n:Nat} (h:n <= 5000):n <= sizeLine:=Nat.le_trans h (by decide)
theorem Grow.shrinkL {H H':Hp} {m:List Addr} (h:∀ a ∈ m,H a = none) (g:Grow m H H'):Grow [] H H' :=
 ⟨fun b o _ q=>g.keep b o (fun z=>by rw [h b z] at q; cases q) q,g.tup,g.frz⟩
theorem jR {b:Int} {cs:List Call72} {c:Call72}:yB b (cs ++ [c]) = yB b cs + (if c.box = b then 1 else 0):=by
 unfold yB
 rw [List.countP_append,List.countP_cons,List.countP_nil]
 by_cases h:c.box = b
 ·rw [if_pos h,decide_eq_true h]; rfl
 ·rw [if_neg h,decide_eq_false h]; rfl
def U5 (H:Hp) (zs:List V) (nss:List (List Nat)):Prop:=AllR (fun z ns=>∃ a,z = .ref a /\ H a = some (.lst (zp ns))) zs nss
structure Bx72 (H:Hp) (as:List Addr) (nss:List (List Nat)):Prop where
 len:nss.length = as.length
 at_:∀ (j:Nat) (a:Addr),as[j]? = some a -> H a = some (.lst (zp (nss.getD j [])))
theorem Bx72.ls {H:Hp} {as:List Addr} {nss:List (List Nat)} (h:Bx72 H as nss):U5 H (as.map V.ref) nss:=by
 refine AllR.of_get (by rw [List.length_map,h.len]) fun i x hx=>?_
 rw [List.getElem?_map] at hx
 obtain ⟨a,ha,rfl⟩:=Option.map_eq_some_iff.mp hx
 have hi:i < nss.length:=by rw [h.len]; exact (List.getElem?_eq_some_iff.mp ha).1
 refine ⟨nss[i],List.getElem?_eq_getElem hi,a,rfl,?_⟩
 rw [h.at_ i a ha,List.getD_eq_getElem?_getD,List.getElem?_eq_getElem hi]; rfl
def WC:PyData -> Bool
 | .tuple _=>true
 | _=>false
theorem Xa {K:FG7} (d:PyData):PySem.W.kitOne K (.type (tyD d)) (.type "tuple") = some (WC d):=by cases d <;> rfl
def su:PyData -> Bool
 | .int _=>true
 | _=>false
def U6:PyData -> Bool
 | .bool _=>true
 | _=>false
theorem Xb {d:PyData} (h:WC d = false) (n:Nat):¬ ∃ ns,xO n d ns:=by
 rintro ⟨ns,e,_⟩
 rw [e] at h; cases h
theorem WD {K:FG7} {m:List Addr} {H:Hp} {x:V} {d:PyData} (h:Od K m H x d) (ht:WC d = true):∃ r xs ds,x = .ref r /\ d = .tuple ds /\ SqT K H r xs /\ Ods K m H xs ds:=by
 cases h <;> first | exact ⟨_,_,_,rfl,rfl,by assumption,by assumption⟩ | cases ht
theorem V1 {K:FG7} {m:List Addr} {H:Hp} {x:V} {d:PyData} (h:Od K m H x d) (hd:∀ kvs,d ≠ .dict kvs):∃ t,TyV K H x t /\ PySem.W.kitOne K (.type t) (.type "int") = some (su d || U6 d) /\ PySem.W.kitOne K (.type t) (.type "bool") = some (U6 d) /\ uY x = su d:=by
 cases h with
 | non=>exact ⟨"NoneType",rfl,rfl,rfl,rfl⟩
 | bl b=>exact ⟨"bool",rfl,rfl,rfl,rfl⟩
 | int i=>exact ⟨"int",rfl,rfl,rfl,rfl⟩
 | str y=>exact ⟨"str",rfl,rfl,rfl,rfl⟩
 | tup hs _=>exact ⟨"tuple",.inl ⟨rfl,_,hs⟩,rfl,rfl,rfl⟩
 | lst hs _ _ _=>exact ⟨"list",.inr (.inl ⟨rfl,_,SqL.of hs⟩),rfl,rfl,rfl⟩
 | dct=>exact absurd rfl (hd _)
theorem Vw:∀ {ds:List PyData},ds.all su = true -> ∃ zs:List Int,ds = zs.map PyData.int
 | [],_=>⟨[],rfl⟩
 | d :: ds,h=>by
  rw [List.all_cons,Bool.and_eq_true] at h
  obtain ⟨zs,e⟩:=Vw h.2
  cases d with
  | int i=>exact ⟨i :: zs,by rw [e]; rfl⟩
  | _=>cases h.1
theorem tf {K:FG7} {m:List Addr} {H:Hp}:∀ {xs:List V} {zs:List Int},Ods K m H xs (zs.map PyData.int) -> xs = zs.map V.int
 | _,[],.nil=>rfl
 | _,k :: ns,.cons (.int _) t=>by rw [tf t]; rfl
theorem Xc {n:Nat} {ds:List PyData} (h:∃ ns,xO n (.tuple ds) ns):ds.all su = true:=by
 obtain ⟨ns,e,_⟩:=h
 injection e with e
 rw [e,List.all_map,List.all_eq_true]
 intro k _; rfl
theorem ZO (n:Nat):((List.range n).map fun k:Nat=>(k:Int)).Pairwise (· <= ·):=by
 rw [List.pairwise_map]
 exact (List.pairwise_lt_range (n:=n)).imp fun h=>by omega
theorem Xd {n:Nat} {zs ms:List Int} (hp:ms.Perm zs) (hs:ms.Pairwise (· <= ·)):ms = ((List.range n).map fun k:Nat=>(k:Int)) ↔ ∃ ns,xO n (.tuple (zs.map PyData.int)) ns:=by
 constructor
 ·intro e
  have hz:zs.Perm ((List.range n).map fun k:Nat=>(k:Int)):=by rw [← e]; exact hp.symm
  have h0:∀ z ∈ zs,0 <= z:=fun z hz'=>by
   obtain ⟨k,_,rfl⟩:=List.mem_map.mp (hz.mem_iff.mp hz')
   exact Int.natCast_nonneg k
  have ez:(zs.map Int.toNat).map (fun k:Nat=>(k:Int)) = zs:=by
   rw [List.map_map]
   conv=>rhs; rw [← List.map_id zs]
   exact List.map_congr_left fun z hz'=>Int.toNat_of_nonneg (h0 z hz')
  refine ⟨zs.map Int.toNat,?_,?_⟩
  ·rw [show (zs.map PyData.int) = ((zs.map Int.toNat).map (fun k:Nat=>(k:Int))).map PyData.int by rw [ez],List.map_map]; rfl
  ·have:=hz.map Int.toNat
   rw [List.map_map,show (Int.toNat ∘ fun k:Nat=>(k:Int)) = id from funext fun k=>Int.toNat_natCast k,List.map_id] at this
   exact this
 ·rintro ⟨ns,e,hn⟩
  injection e with e
  have ez:zs = ns.map fun k:Nat=>(k:Int):=by
   have:zs.map PyData.int = (ns.map fun k:Nat=>(k:Int)).map PyData.int:=by rw [e,List.map_map]; rfl
   exact List.map_inj_right (fun _ _ h=>by injection h) |>.mp this
  refine Y7 (hp.trans ?_) hs (ZO n)
  rw [ez]
  exact hn.map _
theorem sv:∀ ms:List Int,(ms.map V.int).all x9 = true
 | []=>rfl
 | _ :: ms=>by rw [List.map_cons,List.all_cons,sv ms]; rfl
theorem yh (ns:List Nat):zp ns = (ns.map fun k:Nat=>(k:Int)).map V.int:=by unfold zp; rw [List.map_map]; rfl
theorem jS (ns:List Nat):(zp ns).all x9 = true:=by rw [yh]; exact sv _
def vL (K:FG7):Sp:=sp2 fun x y H Q=>∃ b c,zA K H x b /\ yf K H y c /\ CallOk72 b.length c /\ ∀ H',Grow [] H H' -> Q (.bl true) H'
def jT (K:FG7):Sp:=sp2 fun x y H Q=>∃ b cs,zA K H x b /\ 1 <= b.length /\ b.length <= 16 /\ zz K H y cs /\ Calls72 b.length cs /\ ∀ H',Grow [] H H' -> Q (.bl true) H'
def ul (K:FG7):Sp:=sp2 fun x y H Q=>∃ b cs,zA K H x b /\ 1 <= b.length /\ b.length <= 16 /\ zz K H y cs /\ Calls72 b.length cs /\ ∀ H',Grow [] H H' -> Q .non H'
def tj (K:FG7):Sp:=sp2 fun x y H Q=>∃ (d:PyData) (m:List Addr) (n:Nat),Od K m H x d /\ Fl72 d /\ WB K H y (List.range n) /\ ∀ b H',Grow [] H H' -> (b = true ↔ ∃ ns,xO n d ns) -> Q (.bl b) H'
def jU (K:FG7):Sp:=sp3 fun x y z H Q=>∃ b cs ns,zA K H x b /\ zz K H y cs /\ yN K H z ns /\ (∀ c ∈ cs,CallOk72 b.length c) /\ (∀ k ∈ ns,k < cs.length) /\ ∀ H',Grow [] H H' -> Q (.bl (an72 cs b ns)) H'
def rL (K:FG7):Sp:=sp2 fun x y H Q=>∃ cs ns,zz K H x cs /\ yN K H y ns /\ (∃ m,∀ c ∈ cs,CallOk72 m c) /\ (∀ k ∈ ns,k < cs.length) /\ ns.length <= 40 /\ ∀ H',Grow [] H H' -> Q (.bl (kl72 cs ns)) H'
def tm (K:FG7):Sp:=sp4 fun x y z u H Q=>∃ (b:List Int) (cs:List Call72) (d:PyData) (m:List Addr),zA K H x b /\ zz K H y cs /\ WB K H z (List.range cs.length) /\ Od K m H u d /\ Calls72 b.length cs /\ Fl72 d /\ ∀ bb H',Grow [] H H' -> (bb = true ↔ WA b cs d) -> Q (.bl bb) H'
def wc (K:FG7):Sp:=sp3 fun x y z H Q=>∃ (b:List Int) (cs:List Call72) (d:PyData) (m:List Addr),zA K H x b /\ 1 <= b.length /\ b.length <= 16 /\ zz K H y cs /\ Od K m H z d /\ Calls72 b.length cs /\ Fl72 d /\ ∀ bb H',Grow [] H H' -> (bb = true ↔ WA b cs d) -> Q (.bl bb) H'
theorem yH {H:Hp} {p r:Addr} (pp:Pot H p) (h:H r = none):r ∉ [p]:=fun z=>by
 rw [List.mem_singleton.mp z] at h
 obtain ⟨_,_,e,_⟩:=pp
 rw [e] at h; cases h
def Xe (K:FG7):Sp:=sp2 fun x y H Q=>∃ a ns k,x = .ref a /\ y = .int k /\ Scr K H a ns /\ 0 <= k /\ ∀ n:Int,(n = 0 \/ n ∈ ns) -> Q (.int n) H
def N27 (n:Int):Prop:=-(10 ^ 27) <= n /\ n <= 10 ^ 27
def sx (_:FG7):Sp:=sp2 fun x y H Q=>∃ (p:Addr) (b:Bool),x = .ref p /\ y = .bl b /\ Pot H p /\ ∀ n H',N27 n -> Grow [p] H H' -> Pot H' p -> Q (.int n) H'
def rM (K:FG7):Sp:=sp2 fun x y H Q=>∃ (p:Addr) (b:Bool),x = .ref p /\ y = .bl b /\ Pot H p /\ ∀ d v H',d.Ok -> d.Bd (10 ^ 27 + 6) -> Grow [p] H H' -> Pot H' p -> yD K H' v d -> Q v H'
def tq (K:FG7):Sp:=sp3 fun x y z H Q=>∃ (p:Addr) (mo sc:Int),x = .ref p /\ y = .int mo /\ z = .int sc /\ Pot H p /\ 0 <= mo /\ mo <= 200 /\ 1 <= sc /\ sc <= 10 ^ 25 ∧
 ∀ (be en:Int) (r:Addr) H',0 <= be -> be <= mo * sc -> mo * sc <= en -> en <= (mo + 3) * sc -> Grow [p] H H' -> Pot H' p -> SqT K H' r [.int be,.int en] -> Q (.ref r) H'
def rN (_:FG7):Sp:=sp2 fun x y H Q=>∃ (p:Addr) (n:Nat),x = .ref p /\ y = .int n /\ Pot H p /\ 1 <= n /\ n <= 6 /\ ∀ (m:Nat) H',m <= 8 * n -> m <= 40 -> Grow [p] H H' -> Pot H' p -> Q (.int m) H'
def kc72:List Call72 -> Bool
 | []=>true
 | c :: r=>!(r.any fun e=>decide (e.ended < c.begun)) && kc72 r
def pl72:List Int -> List Call72 -> Option (List Int)
 | vs,[]=>some vs
 | vs,c :: r=>if vs.getD c.box.toNat 0 = c.answer then pl72 (vs.set c.box.toNat (c.deed.mk' c.answer)) r else none
theorem uL {cs:List Call72}:∀ {ns:List Nat},kl72 cs ns = kc72 (ns.map (cg cs))
 | []=>rfl
 | k :: r=>by
  show (!(r.any fun j=>decide ((cg cs j).ended < (cg cs k).begun)) && kl72 cs r) = (!((r.map (cg cs)).any fun e=>decide (e.ended < (cg cs k).begun)) && kc72 (r.map (cg cs)))
  rw [uL,List.any_map]; rfl
theorem sy {cs:List Call72}:∀ {ns:List Nat} {vs:List Int},an72 cs vs ns = (pl72 vs (ns.map (cg cs))).isSome
 | [],_=>rfl
 | k :: r,vs=>by
  rw [y8]
  show _ = (if vs.getD (cg cs k).box.toNat 0 = (cg cs k).answer then pl72 (vs.set (cg cs k).box.toNat ((cg cs k).deed.mk' (cg cs k).answer)) (r.map (cg cs)) else none).isSome
  split
  ·exact sy
  ·rfl
theorem qK {c:Call72}:∀ {cs:List Call72},kc72 cs = true -> (∀ e ∈ cs,e.begun <= c.ended) -> kc72 (cs ++ [c]) = true
 | [],_,_=>rfl
 | e :: r,h,hb=>by
  have h':(!(r.any fun x=>decide (x.ended < e.begun)) && kc72 r) = true:=h
  rw [Bool.and_eq_true,Bool.not_eq_true'] at h'
  show (!((r ++ [c]).any fun x=>decide (x.ended < e.begun)) && kc72 (r ++ [c])) = true
  rw [List.any_append,h'.1,qK h'.2 fun x hx=>hb x (List.mem_cons_of_mem _ hx)]
  have:=hb e (List.mem_cons_self ..)
  rw [List.any_cons,decide_eq_false (by omega)]; rfl
theorem sA {c:Call72}:∀ {cs:List Call72} {vs ws:List Int},pl72 vs cs = some ws -> ws.getD c.box.toNat 0 = c.answer -> pl72 vs (cs ++ [c]) = some (ws.set c.box.toNat (c.deed.mk' c.answer))
 | [],vs,ws,h,ha=>by
  cases h
  show (if vs.getD c.box.toNat 0 = c.answer then _ else none) = _
  rw [if_pos ha]; rfl
 | e :: r,vs,ws,h,ha=>by
  have h':(if vs.getD e.box.toNat 0 = e.answer then pl72 (vs.set e.box.toNat (e.deed.mk' e.answer)) r else none) = some ws:=h
  show (if vs.getD e.box.toNat 0 = e.answer then pl72 (vs.set e.box.toNat (e.deed.mk' e.answer)) (r ++ [c]) else none) = _
  by_cases hv:vs.getD e.box.toNat 0 = e.answer
  ·rw [if_pos hv] at h' ⊢
   exact sA h' ha
  ·rw [if_neg hv] at h'; cases h'
structure Cb72 (B:Int) (c:Call72):Prop where
 hand:-B <= c.hand /\ c.hand <= B
 box:-B <= c.box /\ c.box <= B
 deed:c.deed.Bd B
 begun:-B <= c.begun /\ c.begun <= B
 ended:-B <= c.ended /\ c.ended <= B
 answer:-B <= c.answer /\ c.answer <= B
structure Hist72 (n:Nat) (b:List Int) (cs:List Call72):Prop where
 bl:b.length = n
 bb:∀ v ∈ b,N27 v
 ok:Calls72 n cs
 bd:∀ c ∈ cs,Cb72 (10 ^ 29) c
 kc:kc72 cs = true
 pl:(pl72 b cs).isSome = true
theorem WE {m:Nat} {cs:List Call72} (ok:∀ c ∈ cs,CallOk72 m c) {b:Int} (h:¬ (0 <= b /\ b < m)):yB b cs = 0:=by
 unfold yB
 rw [List.countP_eq_zero]
 intro c hc
 have:=(ok c hc).b0; have:=(ok c hc).b1
 rw [decide_eq_true_eq]
 omega
theorem WF {b:Int} {cs ds:List Call72} (h:cs.Perm ds):yB b cs = yB b ds:=h.countP_eq _
theorem Calls72.perm {m:Nat} {cs ds:List Call72} (h:Calls72 m cs) (p:ds.Perm cs):Calls72 m ds:=⟨by rw [p.length_eq]; exact h.len,fun c hc=>h.ok c (p.mem_iff.mp hc),fun b=>by rw [WF p]; exact h.few b⟩
theorem rO {ms:List Nat} (nd:ms.Nodup):ms.map (fun j=>ms.idxOf j) = List.range ms.length:=by
 refine List.ext_getElem (by rw [List.length_map,List.length_range]) fun i h1 h2=>?_
 rw [List.getElem_map,List.getElem_range]
 exact nd.idxOf_getElem i (by rw [List.length_map] at h1; exact h1)
theorem ZP {ms:List Nat} {n:Nat} (h:ms.Perm (List.range n)):((List.range n).map fun j=>ms.idxOf j).Perm (List.range n):=by
 have nd:ms.Nodup:=h.nodup_iff.mpr List.nodup_range
 have:=h.symm.map fun j=>ms.idxOf j
 rw [rO nd,h.length_eq,List.length_range] at this
 exact this
theorem Vx {cs:List Call72}:(List.range cs.length).map (cg cs) = cs:=by
 refine List.ext_getElem (by rw [List.length_map,List.length_range]) fun i h1 h2=>?_
 rw [List.getElem_map,List.getElem_range]
 exact yG (List.getElem?_eq_getElem h2)
theorem Grow.shrinkTo {H H':Hp} {m m':List Addr} (h:∀ a ∈ m,a ∈ m' \/ H a = none) (g:Grow m H H'):Grow m' H H' :=
 ⟨fun b o hb q=>g.keep b o (fun z=>by rcases h b z with h | h; exact hb h; rw [h] at q; cases q) q,g.tup,g.frz⟩
theorem WG (n:Nat):(List.replicate n [V.int 8]).flatten = zp (List.replicate n 8):=by
 induction n with
 | zero=>rfl
 | succ n ih=>rw [List.replicate_succ,List.flatten_cons,ih]; rfl
theorem V2 (n:Nat):(List.replicate n 8).sum = 8 * n:=by
 induction n with
 | zero=>rfl
 | succ n ih=>rw [List.replicate_succ,List.sum_cons,ih]; omega
theorem Xf:∀ {l:List Nat} {j x:Nat},l[j]? = some x -> 0 < x -> (l.set j (x - 1)).sum + 1 = l.sum
 | [],_,_,h,_=>by cases h
 | a :: l,0,x,h,h0=>by
  have e:a = x:=Option.some.inj h
  subst e
  show a - 1 + l.sum + 1 = a + l.sum
  omega
 | a :: l,j + 1,x,h,h0=>by
  have:=Xf (l:=l) (j:=j) h h0
  show a + (l.set j (x - 1)).sum + 1 = a + l.sum
  omega
theorem rP:∀ {l:List Nat},0 < l.sum -> ∃ x ∈ l,0 < x
 | [],h=>absurd h (by simp)
 | a :: l,h=>by
  rcases Nat.eq_zero_or_pos a with e | e
  ·have h':0 < a + l.sum:=h
   obtain ⟨x,hx,h0⟩:=rP (l:=l) (by omega)
   exact ⟨x,List.mem_cons_of_mem _ hx,h0⟩
  ·exact ⟨a,List.mem_cons_self ..,e⟩
structure HI72 (n i:Nat) (b vs:List Int) (rs:List Nat) (cs:List Call72) (mo sc:Int):Prop where
 vl:vs.length = n
 rl:rs.length = n
 cl:cs.length = i
 pl:pl72 b cs = some vs
 kc:kc72 cs = true
 ok:∀ c ∈ cs,CallOk72 n c
 rm:∀ j,j < n -> rs.getD j 0 + yB j cs = 8
 sm:rs.sum + i = 8 * n
 vb:∀ v ∈ vs,-(10 ^ 27 + i * (10 ^ 27 + 6)) <= v /\ v <= 10 ^ 27 + i * (10 ^ 27 + 6)
 bd:∀ c ∈ cs,Cb72 (10 ^ 29) c
 m0:0 <= mo
 m1:mo <= 2 * i
 bg:∀ c ∈ cs,c.begun <= mo * sc
theorem HI72.hist {n i:Nat} {b vs:List Int} {rs:List Nat} {cs:List Call72} {mo sc:Int} (h:HI72 n i b vs rs cs mo sc) (i40:i <= 40) (bl:b.length = n) (bb:∀ v ∈ b,N27 v):Hist72 n b cs:=by
 refine ⟨bl,bb,⟨by rw [h.cl]; exact i40,h.ok,fun x=>?_⟩,h.bd,h.kc,by rw [h.pl]; rfl⟩
 by_cases hx:0 <= x /\ x < n
 ·have:=h.rm x.toNat (by omega)
  rw [show ((x.toNat:Nat):Int) = x from by omega] at this
  omega
 ·rw [WE h.ok hx]; exact Nat.zero_le _
theorem HI72.start {n:Nat} {b:List Int} {sc:Int} (bl:b.length = n) (bb:∀ v ∈ b,N27 v):HI72 n 0 b b (List.replicate n 8) [] 0 sc:=by
 refine ⟨bl,List.length_replicate,rfl,rfl,rfl,(fun _ h=>nomatch h),fun j hj=>?_,(by rw [V2]; rfl),fun v hv=>?_,(fun _ h=>nomatch h),(by decide),(by decide),(fun _ h=>nomatch h)⟩
 ·rw [List.getD_eq_getElem?_getD,List.getElem?_replicate,if_pos hj]; rfl
 ·have:=bb v hv
  unfold N27 at this
  omega
theorem HI72.next {n i:Nat} {b vs:List Int} {rs:List Nat} {cs:List Call72} {mo sc:Int} (h:HI72 n i b vs rs cs mo sc) {bx x:Nat} {t ha be en:Int} {d:Deed} (i40:i < 40) (n6:n <= 6)
  (hx:rs[bx]? = some x) (x0:0 < x) (t0:0 <= t) (t1:t <= 2) (s0:1 <= sc) (s1:sc <= 10 ^ 24 + 7) (h0:0 <= ha) (h1:ha <= 15) (od:d.Ok) (bd:d.Bd (10 ^ 27 + 6)) (e0:0 <= be) (e1:be <= (mo + t) * sc) (e2:(mo + t) * sc <= en) (e3:en <= (mo + t + 3) * sc) :
  HI72 n (i + 1) b (vs.set bx (d.mk' (vs.getD bx 0))) (rs.set bx (x - 1)) (cs ++ [⟨ha,bx,d,be,en,vs.getD bx 0⟩]) (mo + t) sc:=by
 have hbx:bx < n:=by rw [← h.rl]; exact (List.getElem?_eq_some_iff.mp hx).1
 have hv:vs.getD bx 0 ∈ vs:=by
  have hb:bx < vs.length:=by rw [h.vl]; exact hbx
  rw [List.getD_eq_getElem?_getD,List.getElem?_eq_getElem hb]; exact List.getElem_mem hb
 have vb:=h.vb _ hv
 have mm:mo * sc <= (mo + t) * sc:=Int.mul_le_mul_of_nonneg_right (by omega) (by omega)
 have m1:=h.m1
 have m0:=h.m0
 have big:(mo + t + 3) * sc <= 10 ^ 27:=by
  have:(mo + t + 3) * sc <= 90 * (10 ^ 24 + 7):=Int.mul_le_mul (by omega) s1 (by omega) (by decide)
  exact Int.le_trans this (by decide)
 have C0:(0:Int) <= 10 ^ 27 + i * (10 ^ 27 + 6):=by omega
 have mk:=T8 bd (by decide) vb.1 vb.2 C0
 have nb:(⟨ha,bx,d,be,en,vs.getD bx 0⟩:Call72).box.toNat = bx:=Int.toNat_natCast bx
 refine ⟨by rw [List.length_set,h.vl],by rw [List.length_set,h.rl],by rw [List.length_append,List.length_singleton,h.cl],?_,?_,?_,?_,?_,?_,?_,by omega,by omega,?_⟩
 ·have:=sA (c:=⟨ha,bx,d,be,en,vs.getD bx 0⟩) h.pl (by rw [nb])
  rw [this,nb]
 ·exact qK h.kc fun e he=>by have:=h.bg e he; show e.begun <= en; omega
 ·intro c hc
  rcases List.mem_append.mp hc with hc | hc
  ·exact h.ok c hc
  ·rw [List.mem_singleton.mp hc]
   exact ⟨h0,h1,Int.natCast_nonneg bx,by show (bx:Int) < n; omega,od,e0,by show be <= en; omega⟩
 ·intro j hj
  rw [jR]
  have r:=h.rm j hj
  by_cases e:j = bx
  ·subst e
   rw [zW (by rw [h.rl]; exact hj),if_pos rfl]
   rw [List.getD_eq_getElem?_getD,hx] at r
   have:x + yB j cs = 8:=r
   omega
  ·rw [zL (fun z=>e z.symm),if_neg (by show ¬ (bx:Int) = j; omega)]
   exact r
 ·have:=Xf hx x0
  have:=h.sm
  omega
 ·intro v hv'
  rcases List.mem_or_eq_of_mem_set hv' with hv' | rfl
  ·have:=h.vb v hv'
   push_cast at this ⊢
   omega
  ·push_cast
   omega
 ·intro c hc
  rcases List.mem_append.mp hc with hc | hc
  ·exact h.bd c hc
  ·rw [List.mem_singleton.mp hc]
   refine ⟨?_,?_,?_,?_,?_,?_⟩
   ·show -(10 ^ 29) <= ha /\ ha <= 10 ^ 29; omega
   ·show -(10 ^ 29) <= (bx:Int) /\ (bx:Int) <= 10 ^ 29; omega
   ·exact bd.mono (by decide)
   ·show -(10 ^ 29) <= be /\ be <= 10 ^ 29; omega
   ·show -(10 ^ 29) <= en /\ en <= 10 ^ 29; omega
   ·show -(10 ^ 29) <= vs.getD bx 0 /\ vs.getD bx 0 <= 10 ^ 29; omega
 ·intro c hc
  rcases List.mem_append.mp hc with hc | hc
  ·have:=h.bg c hc; omega
  ·rw [List.mem_singleton.mp hc]; exact e1
theorem ZQ {α:Type} {l:List α} {i:Nat} {c:α} (h:l[i]? = some c):l = l.take i ++ [c] ++ l.drop (i + 1):=by
 obtain ⟨hlt,e⟩:=List.getElem?_eq_some_iff.mp h
 conv=>lhs; rw [← List.take_append_drop i l,List.drop_eq_getElem_cons hlt,e]
 rw [List.append_assoc]; rfl
theorem sB {b:Int} {a d:List Call72}:yB b (a ++ d) = yB b a + yB b d:=List.countP_append
theorem Xg {b:Int} {c:Call72}:yB b [c] = if c.box = b then 1 else 0:=by
 have:=jR (b:=b) (cs:=[]) (c:=c)
 rw [List.nil_append] at this
 rw [this]; exact Nat.zero_add _
theorem Calls72.spoil {n i:Nat} {cs:List Call72} {c c':Call72} (h:Calls72 n cs) (hi:cs[i]? = some c) (hb:c'.box = c.box) (ok:CallOk72 n c'):Calls72 n (cs.take i ++ [c'] ++ cs.drop (i + 1)):=by
 have e:=ZQ hi
 refine ⟨?_,fun x hx=>?_,fun b=>?_⟩
 ·have:=congrArg List.length e
  rw [List.length_append,List.length_append,List.length_singleton] at this ⊢
  have:=h.len
  omega
 ·rcases List.mem_append.mp hx with hx | hx
  ·rcases List.mem_append.mp hx with hx | hx
   ·exact h.ok x (List.mem_of_mem_take hx)
   ·rw [List.mem_singleton.mp hx]; exact ok
  ·exact h.ok x (List.mem_of_mem_drop hx)
 ·have f:=h.few b
  rw [e,sB,sB,Xg] at f
  rw [sB,sB,Xg,hb]
  exact f
theorem Cb72.mono {B C:Int} {c:Call72} (h:Cb72 B c) (hB:B <= C):Cb72 C c:=⟨by have:=h.hand; omega,by have:=h.box; omega,h.deed.mono hB,by have:=h.begun; omega,by have:=h.ended; omega,by have:=h.answer; omega⟩
theorem Xh {w:Nat}:∀ {ds:List PyData},(∀ d ∈ ds,wtO d <= w) -> wtOs ds <= ds.length * (w + 2)
 | [],_=>by simp [wtOs]
 | d :: ds,h=>by
  have h1:=h d (List.mem_cons_self ..)
  have h2:=Xh (ds:=ds) fun e he=>h e (List.mem_cons_of_mem _ he)
  show wtO d + 2 + wtOs ds <= (ds.length + 1) * (w + 2)
  rw [Nat.succ_mul]; omega
theorem WH {B:Int} {i:Int} (h:-B <= i /\ i <= B):leD B (.int i) = true:=by
 show (decide (-B <= i) && decide (i <= B)) = true
 rw [decide_eq_true h.1,decide_eq_true h.2]; rfl
def E72 (K:FG7) (p:Addr) (H:Hp) (v:V):Prop:=∃ d,Od K [p] H v d /\ (∀ kvs,d ≠ .dict kvs) /\ GdD 10 2 1935 d
def G72 (K:FG7) (p:Addr) (H:Hp) (v:V):Prop:=∃ d,Od K [p] H v d /\ Fl72 d /\ GdD 10 5 130000 d
section
variable {K:FG7} {p:Addr} {H H':Hp} {v:V}
theorem E72.grow (h:E72 K p H v) (g:Grow [p] H H'):E72 K p H' v:=by
 obtain ⟨d,a,b,c⟩:=h
 exact ⟨d,a.grow g,b,c⟩
theorem G72.grow (h:G72 K p H v) (g:Grow [p] H H'):G72 K p H' v:=by
 obtain ⟨d,a,b,c⟩:=h
 exact ⟨d,a.grow g,b,c⟩
theorem U7 {i:Int} (h:-(10 ^ 20) <= i /\ i <= 10 ^ 20):GdD 10 0 1921 (.int i):=⟨WH ⟨by omega,by omega⟩,Nat.le_refl _,Nat.le_refl _⟩
theorem E72.int {i:Int} (h:-(10 ^ 20) <= i /\ i <= 10 ^ 20):E72 K p H (.int i):=⟨_,.int i,(fun _ z=>nomatch z),(U7 h).mono (by decide) (by decide) (by decide)⟩
theorem E72.non:E72 K p H .non:=⟨_,.non,(fun _ z=>nomatch z),⟨rfl,Nat.zero_le _,by decide⟩⟩
theorem E72.bl (b:Bool):E72 K p H (.bl b):=⟨_,.bl b,(fun _ z=>nomatch z),⟨rfl,Nat.zero_le _,by cases b <;> decide⟩⟩
theorem Xi:∀ k,k < 41 -> (reprText (Str.ofString (toString ((k:Nat):Int)))).length <= 10:=by decide +kernel
theorem E72.num {k:Nat} (h:k < 41):E72 K p H (.str (Str.ofString (toString (k:Int)))):=⟨_,.str _,(fun _ z=>nomatch z),⟨rfl,Nat.zero_le _,Nat.le_trans (Xi k h) (by decide)⟩⟩
theorem WI:∀ {vs:List V},(∀ v ∈ vs,E72 K p H v) -> ∃ ds,Ods K [p] H vs ds /\ (∀ d ∈ ds,∀ kvs,d ≠ .dict kvs) /\ ∀ d ∈ ds,GdD 10 2 1935 d
 | [],_=>⟨[],.nil,(fun _ h=>nomatch h),fun _ h=>nomatch h⟩
 | v :: vs,h=>by
  obtain ⟨d,a,b,c⟩:=h v (List.mem_cons_self ..)
  obtain ⟨ds,o,nd,gd⟩:=WI fun w hw=>h w (List.mem_cons_of_mem _ hw)
  refine ⟨d :: ds,.cons a o,fun e he=>?_,fun e he=>?_⟩
  ·rcases List.mem_cons.mp he with rfl | he
   ·exact b
   ·exact nd e he
  ·rcases List.mem_cons.mp he with rfl | he
   ·exact c
   ·exact gd e he
theorem V3 {ds:List PyData} (hl:ds.length < 64) (gd:∀ d ∈ ds,GdD 10 2 1935 d):GdS 10 2 122100 ds:=by
 refine ⟨xM.mpr fun d h=>(gd d h).le,yy.mpr fun d h=>(gd d h).dp,?_⟩
 have:=Xh (w:=1935) fun d h=>(gd d h).wt
 have:ds.length * (1935 + 2) <= 63 * (1935 + 2):=Nat.mul_le_mul_right _ (by omega)
 omega
theorem G72.tup {r:Addr} {vs:List V} (h:SqT K H r vs) (hl:vs.length < 64) (he:∀ v ∈ vs,E72 K p H v):G72 K p H (.ref r):=by
 obtain ⟨ds,o,nd,gd⟩:=WI he
 have dl:ds.length < 64:=by rw [← o.length]; exact hl
 refine ⟨.tuple ds,.tup h o,fun es e=>?_,((V3 dl gd).tup).mono (by decide) (by decide) (by decide)⟩
 injection e with e
 rw [← e]
 exact ⟨dl,nd⟩
theorem G72.lst {l:Addr} {vs:List V} (h:H l = some (.lst vs)) (n1:l ∉ [p]) (n2:l ≠ sysModules) (hl:vs.length < 64) (he:∀ v ∈ vs,E72 K p H v):G72 K p H (.ref l):=by
 obtain ⟨ds,o,nd,gd⟩:=WI he
 have dl:ds.length < 64:=by rw [← o.length]; exact hl
 exact ⟨.list ds,.lst h n1 n2 o,(fun _ e=>nomatch e),((V3 dl gd).lst).mono (by decide) (by decide) (by decide)⟩
theorem G72.one {r ro:Addr} {vs:List V} (h:SqT K H r [.ref ro]) (ho:SqT K H ro vs) (hl:vs.length < 64) (he:∀ v ∈ vs,E72 K p H v):G72 K p H (.ref r):=by
 obtain ⟨ds,o,nd,gd⟩:=WI he
 have dl:ds.length < 64:=by rw [← o.length]; exact hl
 refine ⟨.tuple [.tuple ds],.tup h (.cons (.tup ho o) .nil),fun es e=>?_,(((V3 dl gd).tup.one).tup).mono (by decide) (by decide) (by decide)⟩
 injection e with e
 rw [← e]
 exact ⟨(show (1:Nat) < 64 by decide),fun e he kvs z=>by rw [List.mem_singleton.mp he] at z; cases z⟩
end
def I72 (v:V):Prop:=∃ k:Nat,k < 41 /\ v = .int k
theorem I72.e {K:FG7} {p:Addr} {H:Hp} {v:V} (h:I72 v):E72 K p H v:=by
 obtain ⟨k,hk,rfl⟩:=h
 exact E72.int ⟨by omega,by omega⟩
theorem U8 {K:FG7} {p:Addr} {H H':Hp} {xs:List V} (h:∀ v ∈ xs,G72 K p H v) (g:Grow [p] H H'):∀ v ∈ xs,G72 K p H' v:=fun v hv=>(h v hv).grow g
structure S72 (K:FG7) (p:Addr) (H:Hp) (l:Addr) (xs:List V) (n:Nat):Prop where
 at_:H l = some (.lst xs)
 gd:∀ v ∈ xs,G72 K p H v
 ne:l ∉ [p]
 len:xs.length <= n
theorem S72.grow {K:FG7} {p:Addr} {H H':Hp} {l:Addr} {xs:List V} {n:Nat} (h:S72 K p H l xs n) (g:Grow [p] H H'):S72 K p H' l xs n:=⟨g.keep _ _ h.ne h.at_,U8 h.gd g,h.ne,h.len⟩
theorem y9 {K:FG7} {m:List Addr} {H:Hp} {r:Addr} {ns:List Nat} (h:SqT K H r (zp ns)):Od K m H (.ref r) (.tuple (ns.map fun k:Nat=>PyData.int (k:Int))):=by
 refine .tup h ?_
 clear h
 induction ns with
 | nil=>exact .nil
 | cons a b ih=>exact .cons (.int _) ih
theorem xa {ns:List Nat} (h:ns.length < 64):Fl72 (.tuple (ns.map fun k:Nat=>PyData.int (k:Int))):=fun ds e=>by
 injection e with e
 rw [← e]
 refine ⟨by rw [List.length_map]; exact h,fun d hd kvs z=>?_⟩
 obtain ⟨k,_,rfl⟩:=List.mem_map.mp hd
 cases z
def we (t:Nat) (o:List Nat):Prop:=∀ j,t.testBit j = true ↔ j ∈ o
theorem we.uniq {t u:Nat} {o:List Nat} (h:we t o) (h':we u o):t = u :=
 Nat.eq_of_testBit_eq fun j=>by rw [Bool.eq_iff_iff,h j,h' j]
theorem we.nil:we 0 []:=fun j=>by simp
theorem we.or {t n:Nat} {o:List Nat} (h:we t o):we (t ||| 2 ^ n) (o ++ [n]):=fun j=>by
 rw [Nat.testBit_or,Bool.or_eq_true,h j,Nat.testBit_two_pow,decide_eq_true_eq,List.mem_append,List.mem_singleton]
 exact or_congr Iff.rfl ⟨fun e=>e.symm,fun e=>e.symm⟩
def mk73 (l:List Nat):Nat:=l.foldl (fun m i=>m ||| 2 ^ i) 0
theorem jV:∀ {l o:List Nat} {t:Nat},we t o -> we (l.foldl (fun m i=>m ||| 2 ^ i) t) (o ++ l)
 | [],o,t,h=>by rw [List.append_nil]; exact h
 | i :: l,o,t,h=>by
  have:=jV (l:=l) (h.or (n:=i))
  rw [List.append_assoc] at this; exact this
theorem Xj (l:List Nat):we (mk73 l) l:=by
 have:=jV (l:=l) we.nil
 rwa [List.nil_append] at this
theorem Xk {l:List Nat} {i:Nat}:mk73 (l ++ [i]) = mk73 l ||| 2 ^ i:=by unfold mk73; rw [List.foldl_append]; rfl
theorem Xl:∀ {l:List Nat} {n t:Nat},t < 2 ^ n -> (∀ i ∈ l,i < n) -> l.foldl (fun m i=>m ||| 2 ^ i) t < 2 ^ n
 | [],_,_,h,_=>h
 | i :: l,n,t,h,hl=>Xl (l:=l) (Nat.or_lt_two_pow h (Nat.pow_lt_pow_right (by decide) (hl i (List.mem_cons_self ..)))) fun j hj=>hl j (List.mem_cons_of_mem _ hj)
theorem jW:∀ {n:Nat} {l:List Nat},l.length = n -> l.Pairwise (· < ·) -> (l.map fun i=>2 ^ i).sum = mk73 l
 | 0,l,h,_=>by rw [List.length_eq_zero_iff.mp h]; rfl
 | n + 1,l,h,pw=>by
  have hl:l ≠ []:=fun z=>by rw [z] at h; cases h
  have e:=(List.dropLast_concat_getLast hl).symm
  generalize l.dropLast = m at e
  generalize l.getLast hl = i at e
  subst e
  rw [List.length_append] at h
  have pm:=(List.pairwise_append.mp pw)
  rw [List.map_append,List.sum_append,jW (n:=n) (by simpa using h) pm.1,Xk]
  have lt:mk73 m < 2 ^ i:=Xl (Nat.two_pow_pos i) fun j hj=>pm.2.2 j hj i (by simp)
  show mk73 m + (2 ^ i + 0) = _
  have:=Nat.two_pow_add_eq_or_of_lt lt 1
  rw [Nat.mul_one] at this
  rw [Nat.add_zero,Nat.add_comm,this,Nat.or_comm]
theorem Xm {t M:Nat}:M &&& t = M ↔ ∀ j,M.testBit j = true -> t.testBit j = true:=by
 constructor
 ·intro h j hj
  have:(M &&& t).testBit j = true:=by rw [h]; exact hj
  rw [Nat.testBit_and,Bool.and_eq_true] at this
  exact this.2
 ·intro h
  refine Nat.eq_of_testBit_eq fun j=>?_
  rw [Nat.testBit_and]
  cases c:M.testBit j with
  | false=>rfl
  | true=>rw [h j c]; rfl
abbrev En73:=(Nat × List Int) × List Nat
def wf (E:List En73) (k:Nat × List Int) (o:List Nat):List En73:=if (E.any fun e=>decide (e.1 = k)) = true then E.map (fun e=>if e.1 = k then (e.1,o) else e) else E ++ [(k,o)]
def w5 (cs:List Call72) (e:En73) (n M:Nat):Bool:=(decide (e.1.1.testBit n = false) && decide (M &&& e.1.1 = M)) && decide (e.1.2.getD (cg cs n).box.toNat 0 = (cg cs n).answer)
def wg (cs:List Call72) (vs:List Int) (n:Nat):List Int:=vs.set (cg cs n).box.toNat ((cg cs n).deed.mk' (cg cs n).answer)
def yi (cs:List Call72) (e:En73) (F:List En73) (p:Nat × Nat):List En73:=if w5 cs e p.1 p.2 = true then wf F (e.1.1 ||| 2 ^ p.1,wg cs e.1.2 p.1) (e.2 ++ [p.1]) else F
def zX (cs:List Call72) (ms:List (Nat × Nat)) (F:List En73) (e:En73):List En73:=ms.foldl (yi cs e) F
def jX (cs:List Call72) (ms:List (Nat × Nat)) (E:List En73):List En73:=E.foldl (zX cs ms) []
def wy (cs:List Call72) (ms:List (Nat × Nat)) (b:List Int):Nat -> List En73
 | 0=>[((0,b),[])]
 | r + 1=>jX cs ms (wy cs ms b r)
def qL (cs:List Call72) (ms:List (Nat × Nat)) (b:List Int):Option (List Nat):=(wy cs ms b ms.length).head?.map (·.2)
inductive Run73 (cs:List Call72) (ms:List (Nat × Nat)) (b:List Int):List Nat -> List Int -> Prop
 | nil:Run73 cs ms b [] b
 | snoc {o:List Nat} {vs:List Int} {n M:Nat}:Run73 cs ms b o vs -> (n,M) ∈ ms -> n ∉ o -> (∀ j,M.testBit j = true -> j ∈ o) -> vs.getD (cg cs n).box.toNat 0 = (cg cs n).answer -> Run73 cs ms b (o ++ [n]) (wg cs vs n)
section
variable {cs:List Call72} {ms:List (Nat × Nat)} {b:List Int}
theorem Run73.nodup {o:List Nat} {vs:List Int} (h:Run73 cs ms b o vs):o.Nodup:=by
 induction h with
 | nil=>exact List.nodup_nil
 | snoc h hm hn hj ha ih =>
  rw [List.nodup_append]
  exact ⟨ih,by simp,fun x hx y hy z=>hn (by rw [List.mem_singleton] at hy; rw [← hy,← z]; exact hx)⟩
theorem Run73.mem {o:List Nat} {vs:List Int} (h:Run73 cs ms b o vs):∀ n ∈ o,n ∈ ms.map (·.1):=by
 induction h with
 | nil=>exact nofun
 | snoc h hm hn hj ha ih =>
  intro x hx
  rcases List.mem_append.mp hx with z | z
  ·exact ih x z
  ·rw [List.mem_singleton.mp z]; exact List.mem_map.mpr ⟨_,hm,rfl⟩
def qM (cs:List Call72) (ms:List (Nat × Nat)) (b:List Int) (r:Nat) (E:List En73):Prop:=∀ e ∈ E,e.2.length = r /\ we e.1.1 e.2 /\ Run73 cs ms b e.2 e.1.2
theorem Xn {E:List En73} {k:Nat × List Int} {o:List Nat} {e:En73} (h:e ∈ wf E k o):e ∈ E \/ e = (k,o):=by
 unfold wf at h
 split at h
 ·obtain ⟨x,hx,rfl⟩:=List.mem_map.mp h
  by_cases c:x.1 = k
  ·rw [if_pos c,c]; exact .inr rfl
  ·rw [if_neg c]; exact .inl hx
 ·rcases List.mem_append.mp h with z | z
  ·exact .inl z
  ·exact .inr (List.mem_singleton.mp z)
theorem Xo {E:List En73} {k k':Nat × List Int} {o:List Nat} (h:k' ∈ E.map (·.1)):k' ∈ (wf E k o).map (·.1):=by
 unfold wf
 split
 ·obtain ⟨x,hx,rfl⟩:=List.mem_map.mp h
  refine List.mem_map.mpr ⟨_,List.mem_map.mpr ⟨x,hx,rfl⟩,?_⟩
  split <;> rfl
 ·rw [List.map_append]; exact List.mem_append_left _ h
theorem uM {E:List En73} {k:Nat × List Int} {o:List Nat}:k ∈ (wf E k o).map (·.1):=by
 unfold wf
 split
 ·rename_i h
  obtain ⟨x,hx,hk⟩:=List.any_eq_true.mp h
  refine List.mem_map.mpr ⟨_,List.mem_map.mpr ⟨x,hx,rfl⟩,?_⟩
  rw [if_pos (of_decide_eq_true hk)]; exact of_decide_eq_true hk
 ·rw [List.map_append]; exact List.mem_append_right _ (by simp)
theorem Xp {E:List En73} {k:Nat × List Int} {o:List Nat}:(wf E k o).length <= E.length + 1:=by
 unfold wf
 split
 ·rw [List.length_map]; omega
 ·rw [List.length_append]; simp
theorem ZR {e x:En73} {F:List En73} {p:Nat × Nat} (h:x ∈ yi cs e F p):x ∈ F \/ (w5 cs e p.1 p.2 = true /\ x = ((e.1.1 ||| 2 ^ p.1,wg cs e.1.2 p.1),e.2 ++ [p.1])):=by
 unfold yi at h
 split at h
 ·rename_i c
  rcases Xn h with z | z
  ·exact .inl z
  ·exact .inr ⟨c,z⟩
 ·exact .inl h
theorem ZS {e:En73} {F:List En73} {p:Nat × Nat} {k:Nat × List Int} (h:k ∈ F.map (·.1)):k ∈ (yi cs e F p).map (·.1):=by
 unfold yi
 split
 ·exact Xo h
 ·exact h
theorem ZT {e:En73} {F:List En73} {p:Nat × Nat}:(yi cs e F p).length <= F.length + 1:=by
 unfold yi
 split
 ·exact Xp
 ·omega
theorem tw {e x:En73}:∀ {ms:List (Nat × Nat)} {F:List En73},x ∈ zX cs ms F e -> x ∈ F \/ ∃ p ∈ ms,w5 cs e p.1 p.2 = true /\ x = ((e.1.1 ||| 2 ^ p.1,wg cs e.1.2 p.1),e.2 ++ [p.1])
 | [],_,h=>.inl h
 | p :: ms,F,h=>by
  rcases tw (ms:=ms) (F:=yi cs e F p) h with z | ⟨q,hq,z⟩
  ·rcases ZR z with z | z
   ·exact .inl z
   ·exact .inr ⟨p,List.mem_cons_self ..,z⟩
  ·exact .inr ⟨q,List.mem_cons_of_mem _ hq,z⟩
theorem vp {e:En73} {k:Nat × List Int}:∀ {ms:List (Nat × Nat)} {F:List En73},k ∈ F.map (·.1) -> k ∈ (zX cs ms F e).map (·.1)
 | [],_,h=>h
 | p :: ms,F,h=>vp (ms:=ms) (F:=yi cs e F p) (ZS h)
theorem tz {e:En73} {p:Nat × Nat} (hm:w5 cs e p.1 p.2 = true):∀ {ms:List (Nat × Nat)} {F:List En73},p ∈ ms -> (e.1.1 ||| 2 ^ p.1,wg cs e.1.2 p.1) ∈ (zX cs ms F e).map (·.1)
 | q :: ms,F,h=>by
  show _ ∈ (zX cs ms (yi cs e F q) e).map (·.1)
  rcases List.mem_cons.mp h with rfl | h
  ·refine vp ?_
   unfold yi
   rw [if_pos hm]
   exact uM
  ·exact tz hm h
theorem vq {e:En73}:∀ {ms:List (Nat × Nat)} {F:List En73},(zX cs ms F e).length <= F.length + ms.length
 | [],_=>Nat.le_refl _
 | p :: ms,F=>by
  have h1:=vq (e:=e) (ms:=ms) (F:=yi cs e F p)
  have h2:=ZT (cs:=cs) (e:=e) (F:=F) (p:=p)
  show (zX cs ms (yi cs e F p) e).length <= F.length + (ms.length + 1)
  omega
theorem tD {x:En73}:∀ {E F:List En73},x ∈ E.foldl (zX cs ms) F -> x ∈ F \/ ∃ e ∈ E,∃ p ∈ ms,w5 cs e p.1 p.2 = true /\ x = ((e.1.1 ||| 2 ^ p.1,wg cs e.1.2 p.1),e.2 ++ [p.1])
 | [],_,h=>.inl h
 | e :: E,F,h=>by
  rcases tD (E:=E) (F:=zX cs ms F e) h with z | ⟨q,hq,z⟩
  ·rcases tw z with z | z
   ·exact .inl z
   ·exact .inr ⟨e,List.mem_cons_self ..,z⟩
  ·exact .inr ⟨q,List.mem_cons_of_mem _ hq,z⟩
theorem tE {k:Nat × List Int}:∀ {E F:List En73},k ∈ F.map (·.1) -> k ∈ (E.foldl (zX cs ms) F).map (·.1)
 | [],_,h=>h
 | e :: E,F,h=>tE (E:=E) (F:=zX cs ms F e) (vp h)
theorem tF {e:En73} {p:Nat × Nat} (hm:w5 cs e p.1 p.2 = true) (hp:p ∈ ms):∀ {E F:List En73},e ∈ E -> (e.1.1 ||| 2 ^ p.1,wg cs e.1.2 p.1) ∈ (E.foldl (zX cs ms) F).map (·.1)
 | x :: E,F,h=>by
  show _ ∈ (E.foldl (zX cs ms) (zX cs ms F x)).map (·.1)
  rcases List.mem_cons.mp h with rfl | h
  ·exact tE (tz hm hp)
  ·exact tF hm hp h
theorem vx:∀ {E F:List En73},(E.foldl (zX cs ms) F).length <= F.length + E.length * ms.length
 | [],F=>by simp
 | e :: E,F=>by
  have h1:=vx (E:=E) (F:=zX cs ms F e)
  have h2:=vq (cs:=cs) (e:=e) (ms:=ms) (F:=F)
  show (E.foldl (zX cs ms) (zX cs ms F e)).length <= F.length + (E.length + 1) * ms.length
  rw [Nat.add_mul]; omega
theorem rQ {e:En73} {n M:Nat} (hi:we e.1.1 e.2):w5 cs e n M = true ↔ n ∉ e.2 /\ (∀ j,M.testBit j = true -> j ∈ e.2) /\ e.1.2.getD (cg cs n).box.toNat 0 = (cg cs n).answer:=by
 unfold w5
 rw [Bool.and_eq_true,Bool.and_eq_true,decide_eq_true_eq,decide_eq_true_eq,decide_eq_true_eq,Xm]
 have h1:e.1.1.testBit n = false ↔ n ∉ e.2:=by
  rw [← hi n,Bool.not_eq_true]
 have h2:(∀ j,M.testBit j = true -> e.1.1.testBit j = true) ↔ ∀ j,M.testBit j = true -> j ∈ e.2:=forall_congr' fun j=>imp_congr Iff.rfl (hi j)
 rw [h1,h2,and_assoc]
theorem rR {r:Nat} {E:List En73} (h:qM cs ms b r E):qM cs ms b (r + 1) (jX cs ms E):=by
 intro x hx
 rcases tD hx with z | ⟨e,he,p,hp,hm,rfl⟩
 ·cases z
 obtain ⟨h1,h2,h3⟩:=h e he
 obtain ⟨m1,m2,m3⟩:=(rQ h2).mp hm
 exact ⟨by rw [List.length_append,h1]; rfl,h2.or,.snoc h3 hp m1 m2 m3⟩
theorem xP:∀ r:Nat,qM cs ms b r (wy cs ms b r)
 | 0=>by
  intro e he
  rw [List.mem_singleton.mp he]
  exact ⟨rfl,we.nil,.nil⟩
 | r + 1=>rR (xP r)
theorem um:∀ r:Nat,(wy cs ms b r).length <= ms.length ^ r
 | 0=>Nat.le_refl _
 | r + 1=>by
  have h1:=vx (cs:=cs) (ms:=ms) (E:=wy cs ms b r) (F:=[])
  have h2:=Nat.mul_le_mul_right ms.length (um r)
  show (jX cs ms (wy cs ms b r)).length <= ms.length ^ r * ms.length
  exact Nat.le_trans h1 (by simpa using h2)
theorem Xq {o:List Nat} {vs:List Int} (h:Run73 cs ms b o vs):∃ t,we t o /\ (t,vs) ∈ (wy cs ms b o.length).map (·.1):=by
 induction h with
 | nil=>exact ⟨0,we.nil,by simp [wy]⟩
 | @snoc o vs n M h hm hn hj ha ih =>
  obtain ⟨t,ht,hk⟩:=ih
  obtain ⟨e,he,ek⟩:=List.mem_map.mp hk
  obtain ⟨h1,h2,h3⟩:=xP o.length e he
  have ee:e.1 = (t,vs):=ek
  have emem:∀ j,j ∈ e.2 ↔ j ∈ o:=fun j=>by rw [← h2 j,ee,ht j]
  have may:w5 cs e n M = true:=(rQ h2).mpr ⟨fun z=>hn ((emem n).mp z),fun j z=>(emem j).mpr (hj j z),by rw [ee]; exact ha⟩
  refine ⟨t ||| 2 ^ n,ht.or,?_⟩
  rw [List.length_append]
  have:=tF (cs:=cs) (ms:=ms) (p:=(n,M)) may hm (E:=wy cs ms b o.length) (F:=[]) he
  rw [ee] at this
  exact this
theorem ZU {o:List Nat} (h:qL cs ms b = some o):∃ vs,Run73 cs ms b o vs /\ o.length = ms.length:=by
 unfold qL at h
 obtain ⟨e,he,rfl⟩:=Option.map_eq_some_iff.mp h
 obtain ⟨h1,_,h3⟩:=xP (cs:=cs) (ms:=ms) (b:=b) ms.length e (List.mem_of_mem_head? he)
 exact ⟨_,h3,h1⟩
theorem ZV (h:qL cs ms b = none) {o:List Nat} {vs:List Int} (hr:Run73 cs ms b o vs):o.length ≠ ms.length:=fun z=>by
 obtain ⟨t,_,hk⟩:=Xq hr
 rw [z] at hk
 unfold qL at h
 rw [Option.map_eq_none_iff,List.head?_eq_none_iff] at h
 rw [h] at hk
 cases hk
theorem rS:∀ {o ns:List Nat},o.Nodup -> (∀ n ∈ o,n ∈ ns) -> ns.length <= o.length -> o.Perm ns
 | [],ns,_,_,hl=>by
  rw [List.length_eq_zero_iff.mp (Nat.le_zero.mp hl)]
 | a :: o,ns,nd,hm,hl=>by
  have ha:=hm a (List.mem_cons_self ..)
  have pe:=List.perm_cons_erase ha
  obtain ⟨na,nd'⟩:=List.nodup_cons.mp nd
  refine (List.Perm.cons a (rS nd' (fun n hn=>?_) ?_)).trans pe.symm
  ·exact (List.mem_erase_of_ne (fun z=>na (by rw [← z]; exact hn))).mpr (hm n (List.mem_cons_of_mem _ hn))
  ·have:=pe.length_eq
   rw [List.length_cons] at this hl
   omega
theorem Run73.perm {o:List Nat} {vs:List Int} (h:Run73 cs ms b o vs) (hl:o.length = ms.length):o.Perm (ms.map (·.1)):=rS h.nodup h.mem (by rw [List.length_map,hl]; exact Nat.le_refl _)
end
def uo (cs:List Call72) (ns:List Nat) (n:Nat):List Nat:=ns.filter fun j=>decide ((cg cs j).ended < (cg cs n).begun)
def wK (cs:List Call72) (ns:List Nat):List (Nat × Nat):=ns.map fun n=>(n,mk73 (uo cs ns n))
theorem up {cs:List Call72} {ns:List Nat}:(wK cs ns).map (·.1) = ns:=by
 unfold wK
 rw [List.map_map]
 exact (List.map_congr_left fun _ _=>rfl).trans (List.map_id ns)
theorem w6 {cs:List Call72} {ns:List Nat}:(wK cs ns).length = ns.length:=List.length_map ..
abbrev NA73 (cs:List Call72) (a b:Nat):Prop:=¬ (cg cs b).ended < (cg cs a).begun
theorem yO {cs:List Call72}:∀ {o:List Nat},kl72 cs o = true ↔ o.Pairwise (NA73 cs)
 | []=>by simp [kl72]
 | k :: r=>by
  show (!(r.any fun j=>decide ((cg cs j).ended < (cg cs k).begun)) && kl72 cs r) = true ↔ _
  rw [Bool.and_eq_true,List.pairwise_cons,yO,Bool.not_eq_true',List.any_eq_false]
  refine and_congr (forall_congr' fun j=>imp_congr Iff.rfl ?_) Iff.rfl
  rw [decide_eq_true_eq]
theorem WJ {cs:List Call72} {ms:List (Nat × Nat)} {b:List Int} {o:List Nat} {vs:List Int} (h:Run73 cs ms b o vs):pl72 b (o.map (cg cs)) = some vs:=by
 induction h with
 | nil=>rfl
 | snoc h hm hn hj ha ih =>
  rw [List.map_append]
  exact sA ih ha
theorem WK {cs:List Call72} {ms:List (Nat × Nat)} {b:List Int} {o:List Nat} {vs:List Int} (h:Run73 cs ms b o vs):an72 cs b o = true:=by rw [sy,WJ h]; rfl
theorem WL {cs:List Call72} {ns:List Nat} {b:List Int} {o:List Nat} {vs:List Int} (h:Run73 cs (wK cs ns) b o vs):∀ k ∈ o,∀ j ∈ ns,(cg cs j).ended < (cg cs k).begun -> j ∈ o:=by
 induction h with
 | nil=>exact nofun
 | @snoc o vs n M h hm hn hj ha ih =>
  intro k hk j hjn lt
  rcases List.mem_append.mp hk with z | z
  ·exact List.mem_append_left _ (ih k z j hjn lt)
  ·have ek:=List.mem_singleton.mp z
   subst ek
   obtain ⟨n',_,e⟩:=List.mem_map.mp hm
   injection e with e1 e2
   subst e1
   refine List.mem_append_left _ (hj j ?_)
   rw [← e2]
   exact (Xj _ j).mpr (List.mem_filter.mpr ⟨hjn,decide_eq_true lt⟩)
theorem WM {cs:List Call72} {ns:List Nat} {b:List Int} {o:List Nat} {vs:List Int} (h:Run73 cs (wK cs ns) b o vs):kl72 cs o = true:=by
 rw [yO]
 induction h with
 | nil=>exact .nil
 | @snoc o vs n M h hm hn hj ha ih =>
  refine List.pairwise_append.mpr ⟨ih,by simp,fun k hk j hj' lt=>?_⟩
  rw [List.mem_singleton.mp hj'] at lt
  have hns:n ∈ ns:=by
   have:n ∈ (wK cs ns).map (·.1):=List.mem_map.mpr ⟨_,hm,rfl⟩
   rwa [up] at this
  exact hn (WL h k hk n hns lt)
theorem rT {cs:List Call72} {ns:List Nat} {b:List Int} (ok:∀ k ∈ ns,(cg cs k).begun <= (cg cs k).ended):∀ {r p:List Nat} {vs:List Int},(∀ x,x ∈ p ++ r ↔ x ∈ ns) -> (p ++ r).Nodup -> Run73 cs (wK cs ns) b p vs -> kl72 cs r = true -> an72 cs vs r = true →
  ∃ ws,Run73 cs (wK cs ns) b (p ++ r) ws
 | [],p,vs,_,_,h,_,_=>⟨vs,by rw [List.append_nil]; exact h⟩
 | n :: r,p,vs,hm,nd,h,hk,ha=>by
  have hk':=List.pairwise_cons.mp (yO.mp hk)
  have hns:n ∈ ns:=(hm n).mp (by simp)
  rw [y8] at ha
  have hv:vs.getD (cg cs n).box.toNat 0 = (cg cs n).answer:=by
   by_cases c:vs.getD (cg cs n).box.toNat 0 = (cg cs n).answer
   ·exact c
   ·rw [if_neg c] at ha; cases ha
  rw [if_pos hv] at ha
  have np:n ∉ p:=fun z=>(List.nodup_append.mp nd).2.2 n z n (by simp) rfl
  have e:p ++ n :: r = (p ++ [n]) ++ r:=by rw [List.append_assoc]; rfl
  rw [e] at hm nd ⊢
  refine rT ok hm nd (.snoc h (List.mem_map.mpr ⟨n,hns,rfl⟩) np (fun j hj=>?_) hv) (yO.mpr hk'.2) ha
  obtain ⟨j1,j2⟩:=List.mem_filter.mp ((Xj _ j).mp hj)
  have lt:=of_decide_eq_true j2
  rcases List.mem_append.mp ((hm j).mpr j1) with z | z
  ·rcases List.mem_append.mp z with z | z
   ·exact z
   ·rw [List.mem_singleton.mp z] at lt
    have:=ok n hns
    omega
  ·exact absurd lt (hk'.1 j z)
abbrev xb (cs:List Call72) (x:Nat) (k:Nat):Bool:=decide ((cg cs k).box = (x:Int))
def nb73 (cs:List Call72) (x:Nat):List Nat:=(List.range cs.length).filter (xb cs x)
theorem xo {cs:List Call72} {x k:Nat}:k ∈ nb73 cs x ↔ k < cs.length /\ (cg cs k).box = (x:Int):=by
 unfold nb73
 rw [List.mem_filter,List.mem_range,decide_eq_true_eq]
theorem tG {cs:List Call72} {x:Nat}:(nb73 cs x).Nodup:=List.nodup_range.sublist List.filter_sublist
theorem V4 {cs:List Call72} {x:Nat}:(nb73 cs x).Pairwise (· < ·):=List.pairwise_lt_range.sublist List.filter_sublist
theorem sC {cs:List Call72} {x:Nat}:(nb73 cs x).length = yB (x:Int) cs:=by
 unfold nb73 yB
 rw [← List.countP_eq_length_filter]
 conv=>rhs; rw [← Vx (cs:=cs),List.countP_map]
 rfl
theorem vy {cs:List Call72} {x:Nat}:∀ {o:List Nat} {vs ws:List Int},(∀ k ∈ o,(cg cs k).box = (x:Int)) -> x < vs.length -> x < ws.length -> vs.getD x 0 = ws.getD x 0 -> an72 cs vs o = an72 cs ws o
 | [],_,_,_,_,_,_=>rfl
 | k :: r,vs,ws,hb,hv,hw,e=>by
  have hk:=hb k (List.mem_cons_self ..)
  have ek:(cg cs k).box.toNat = x:=by rw [hk]; exact Int.toNat_natCast x
  rw [y8,y8,ek,e]
  split
  ·exact vy (fun j hj=>hb j (List.mem_cons_of_mem _ hj)) (by rw [List.length_set]; exact hv) (by rw [List.length_set]; exact hw) (by rw [zW hv,zW hw])
  ·rfl
theorem wL {cs:List Call72} {x:Nat}:∀ {o:List Nat} {vs:List Int},(∀ k ∈ o,0 <= (cg cs k).box) -> x < vs.length -> an72 cs vs o = true -> an72 cs vs (o.filter (xb cs x)) = true
 | [],_,_,_,_=>rfl
 | k :: r,vs,hb,hv,h=>by
  rw [y8] at h
  have hk0:=hb k (List.mem_cons_self ..)
  have hr:=fun j hj=>hb j (List.mem_cons_of_mem _ hj)
  by_cases c:vs.getD (cg cs k).box.toNat 0 = (cg cs k).answer
  ·rw [if_pos c] at h
   have ih:=wL (x:=x) hr (by rw [List.length_set]; exact hv) h
   by_cases hx:(cg cs k).box = (x:Int)
   ·rw [List.filter_cons,if_pos (decide_eq_true hx),y8,if_pos c]; exact ih
   ·rw [List.filter_cons,if_neg (by rw [decide_eq_true_eq]; exact hx)]
    rw [vy (x:=x) (ws:=vs.set (cg cs k).box.toNat ((cg cs k).deed.mk' (cg cs k).answer)) (fun j hj=>of_decide_eq_true (List.mem_filter.mp hj).2) hv (by rw [List.length_set]; exact hv) (by rw [zL (by omega)])]
    exact ih
  ·rw [if_neg c] at h; cases h
theorem sD {cs:List Call72}:∀ {o:List Nat} {vs:List Int},(∀ k ∈ o,0 <= (cg cs k).box /\ (cg cs k).box.toNat < vs.length) -> (∀ x < vs.length,an72 cs vs (o.filter (xb cs x)) = true) -> an72 cs vs o = true
 | [],_,_,_=>rfl
 | k :: r,vs,hb,h=>by
  obtain ⟨k0,k1⟩:=hb k (List.mem_cons_self ..)
  have ek:(cg cs k).box = ((cg cs k).box.toNat:Int):=(Int.toNat_of_nonneg k0).symm
  have h0:=h _ k1
  rw [List.filter_cons,if_pos (decide_eq_true ek),y8] at h0
  rw [y8]
  by_cases c:vs.getD (cg cs k).box.toNat 0 = (cg cs k).answer
  ·rw [if_pos c] at h0 ⊢
   refine sD (fun j hj=>by rw [List.length_set]; exact hb j (List.mem_cons_of_mem _ hj)) fun x hx=>?_
   rw [List.length_set] at hx
   by_cases e:x = (cg cs k).box.toNat
   ·rw [e]; exact h0
   ·have hx':=h x hx
    rw [List.filter_cons,if_neg (by rw [decide_eq_true_eq]; omega)] at hx'
    rw [vy (x:=x) (ws:=vs) (fun j hj=>of_decide_eq_true (List.mem_filter.mp hj).2) (by rw [List.length_set]; exact hx) hx (by rw [zL (by omega)])]
    exact hx'
  ·rw [if_neg c] at h0; cases h0
def yI (c:Nat):List Nat -> List Nat -> List Nat × List Nat
 | [],tog=>([],tog)
 | x :: own,tog=>if c ∈ x :: own then yI c own (tog ++ [x]) else (x :: own,tog)
def yz (cs:List Call72) (st:List (List Nat) × List Nat) (c:Nat):List (List Nat) × List Nat :=
 (st.1.set (cg cs c).box.toNat (yI c (st.1.getD (cg cs c).box.toNat []) st.2).1,(yI c (st.1.getD (cg cs c).box.toNat []) st.2).2)
def xQ (cs:List Call72) (srt:List Nat) (os:List (List Nat)):List Nat:=(srt.foldl (yz cs) (os,[])).2
theorem tH {c:Nat}:∀ {own tog:List Nat},own.Nodup -> ∃ p own',yI c own tog = (own',tog ++ p) /\ own = p ++ own' /\ c ∉ own' /\ (p = [] \/ ∃ p',p = p' ++ [c])
 | [],tog,_=>⟨[],[],by rw [List.append_nil]; rfl,rfl,by simp,.inl rfl⟩
 | x :: own,tog,nd=>by
  obtain ⟨nx,nd'⟩:=List.nodup_cons.mp nd
  by_cases h:c ∈ x :: own
  ·obtain ⟨p,own',e1,e2,e3,e4⟩:=tH (c:=c) (tog:=tog ++ [x]) nd'
   refine ⟨x :: p,own',?_,by rw [e2]; rfl,e3,?_⟩
   ·show (if c ∈ x :: own then yI c own (tog ++ [x]) else (x :: own,tog)) = _
    rw [if_pos h,e1,List.append_assoc]; rfl
   ·rcases e4 with rfl | ⟨p',rfl⟩
    ·refine .inr ⟨[],?_⟩
     rcases List.mem_cons.mp h with rfl | h
     ·rfl
     ·rw [e2] at h; exact absurd h e3
    ·exact .inr ⟨x :: p',rfl⟩
  ·refine ⟨[],x :: own,?_,rfl,h,.inl rfl⟩
   show (if c ∈ x :: own then yI c own (tog ++ [x]) else (x :: own,tog)) = _
   rw [if_neg h,List.append_nil]
structure MI73 (cs:List Call72) (os:List (List Nat)) (pre:List Nat) (left:List (List Nat)) (tog:List Nat):Prop where
 len:left.length = os.length
 parts:∀ x < os.length,os.getD x [] = tog.filter (xb cs x) ++ left.getD x []
 out:∀ c ∈ pre,∀ x < os.length,c ∉ left.getD x []
 pw:tog.Pairwise (NA73 cs)
 far:∀ a ∈ tog,∀ x < os.length,∀ y ∈ left.getD x [],NA73 cs a y
 box:∀ k ∈ tog,0 <= (cg cs k).box /\ (cg cs k).box.toNat < os.length
theorem rU {cs:List Call72} {os left:List (List Nat)} {pre rem tog:List Nat} {c:Nat} (h:MI73 cs os pre left tog)
    (hs:(pre ++ c :: rem).Perm (List.range cs.length)) (srt:∀ y ∈ rem,(cg cs c).ended <= (cg cs y).ended)
    (ok:∀ k < cs.length,0 <= (cg cs k).box /\ (cg cs k).box.toNat < os.length /\ (cg cs k).begun <= (cg cs k).ended)
    (hp:∀ x < os.length,(os.getD x []).Perm (nb73 cs x)) (hk:∀ x < os.length,(os.getD x []).Pairwise (NA73 cs)) :
    MI73 cs os (pre ++ [c]) (yz cs (left,tog) c).1 (yz cs (left,tog) c).2:=by
  have hc:c < cs.length:=List.mem_range.mp (hs.mem_iff.mp (by simp))
  obtain ⟨c0,c1,c2⟩:=ok c hc
  generalize hX:(cg cs c).box.toNat = X at c1
  have hX':(cg cs c).box = (X:Int):=by rw [← hX]; exact (Int.toNat_of_nonneg c0).symm
  have mem_os:∀ x < os.length,∀ y ∈ left.getD x [],y ∈ os.getD x []:=fun x hx y hy=>by rw [h.parts x hx]; exact List.mem_append_right _ hy
  have ndl:(left.getD X []).Nodup:=by
    have:=(hp X c1).nodup_iff.mpr tG
    rw [h.parts X c1] at this
    exact (List.nodup_append.mp this).2.1
  obtain ⟨p,own',e1,e2,e3,e4⟩:=tH (c:=c) (tog:=tog) ndl
  have es:yz cs (left,tog) c = (left.set X own',tog ++ p):=by
    unfold yz
    show (left.set (cg cs c).box.toNat (yI c (left.getD (cg cs c).box.toNat []) tog).1,(yI c (left.getD (cg cs c).box.toNat []) tog).2) = _
    rw [hX,e1]
  rw [es]
  have lX:X < left.length:=by rw [h.len]; exact c1
  have getX:∀ x,(left.set X own').getD x [] = if x = X then own' else left.getD x []:=fun x=>by
    by_cases e:x = X
    · rw [if_pos e,e,zW lX]
    · rw [if_neg e,zL (fun z=>e z.symm)]
  have pX:∀ a ∈ p,(cg cs a).box = (X:Int) /\ a ∈ left.getD X []:=fun a ha=>by
    have m:a ∈ left.getD X []:=by rw [e2]; exact List.mem_append_left _ ha
    exact ⟨(xo.mp ((hp X c1).mem_iff.mp (mem_os X c1 a m))).2,m⟩
  have late:∀ x < os.length,∀ y ∈ left.getD x [],(cg cs c).ended <= (cg cs y).ended:=fun x hx y hy=>by
    have yl:=(xo.mp ((hp x hx).mem_iff.mp (mem_os x hx y hy))).1
    have ym:=hs.mem_iff.mpr (List.mem_range.mpr yl)
    rcases List.mem_append.mp ym with z | z
    · exact absurd hy (h.out y z x hx)
    · rcases List.mem_cons.mp z with rfl | z
      · exact Int.le_refl _
      · exact srt y z
  have early:∀ a ∈ p,(cg cs a).begun <= (cg cs c).ended:=fun a ha=>by
    rcases e4 with rfl | ⟨p',rfl⟩
    · cases ha
    rcases List.mem_append.mp ha with z | z
    · have pw:=hk X c1
      rw [h.parts X c1,e2,List.append_assoc] at pw
      have pw2:=(List.pairwise_append.mp pw).2.1
      have:=(List.pairwise_append.mp pw2).2.2 a z c (by simp)
      unfold NA73 at this
      omega
    · rw [List.mem_singleton.mp z]; exact c2
  have newp:∀ a ∈ p,∀ x < os.length,∀ y ∈ left.getD x [],NA73 cs a y:=fun a ha x hx y hy=>by
    have h1:=early a ha
    have h2:=late x hx y hy
    unfold NA73
    omega
  have fp:∀ x,p.filter (xb cs x) = if x = X then p else []:=fun x=>by
    by_cases e:x = X
    · rw [if_pos e,e]
      exact List.filter_eq_self.mpr fun a ha=>decide_eq_true (pX a ha).1
    · rw [if_neg e]
      refine List.filter_eq_nil_iff.mpr fun a ha=>?_
      rw [decide_eq_true_eq,(pX a ha).1]
      omega
  exact {
    len:=by rw [List.length_set]; exact h.len
    parts:=fun x hx=>by
      rw [List.filter_append,fp,getX,h.parts x hx]
      by_cases e:x = X
      · rw [if_pos e,if_pos e,e,e2,List.append_assoc]
      · rw [if_neg e,if_neg e,List.append_nil]
    out:=fun d hd x hx=>by
      rw [getX]
      rcases List.mem_append.mp hd with z | z
      · by_cases e:x = X
        · rw [if_pos e]
          intro w
          exact h.out d z X c1 (by rw [e2]; exact List.mem_append_right _ w)
        · rw [if_neg e]; exact h.out d z x hx
      · rw [List.mem_singleton.mp z]
        by_cases e:x = X
        · rw [if_pos e]; exact e3
        · rw [if_neg e]
          intro w
          have:=(xo.mp ((hp x hx).mem_iff.mp (mem_os x hx c w))).2
          rw [hX'] at this
          omega
    pw:=List.pairwise_append.mpr ⟨h.pw,by
        refine List.Pairwise.imp_of_mem (R:=fun _ _=>True) (fun {a b} ha hb _=>newp a ha X c1 b (pX b hb).2) ?_
        exact List.pairwise_of_forall fun _ _=>trivial,fun a ha b hb=>h.far a ha X c1 b (pX b hb).2⟩
    far:=fun a ha x hx y hy=>by
      rw [getX] at hy
      have hy':y ∈ left.getD x []:=by
        by_cases e:x = X
        · rw [if_pos e] at hy
          rw [e,e2]; exact List.mem_append_right _ hy
        · rwa [if_neg e] at hy
      rcases List.mem_append.mp ha with z | z
      · exact h.far a z x hx y hy'
      · exact newp a z x hx y hy'
    box:=fun k hk'=>by
      rcases List.mem_append.mp hk' with z | z
      · exact h.box k z
      · rw [(pX k z).1]
        exact ⟨Int.natCast_nonneg _,by rw [Int.toNat_natCast]; exact c1⟩ }
theorem uq {cs:List Call72} {os:List (List Nat)} (ok:∀ k < cs.length,0 <= (cg cs k).box /\ (cg cs k).box.toNat < os.length /\ (cg cs k).begun <= (cg cs k).ended)
  (hp:∀ x < os.length,(os.getD x []).Perm (nb73 cs x)) (hk:∀ x < os.length,(os.getD x []).Pairwise (NA73 cs)) :
  ∀ {rem pre tog:List Nat} {left:List (List Nat)},(pre ++ rem).Perm (List.range cs.length) -> rem.Pairwise (fun a b=>(cg cs a).ended <= (cg cs b).ended) -> MI73 cs os pre left tog →
   MI73 cs os (pre ++ rem) (rem.foldl (yz cs) (left,tog)).1 (rem.foldl (yz cs) (left,tog)).2
 | [],pre,tog,left,_,_,h=>by rw [List.append_nil]; exact h
 | c :: rem,pre,tog,left,hs,srt,h=>by
  have st:=rU h hs (List.pairwise_cons.mp srt).1 ok hp hk
  have:=uq ok hp hk (rem:=rem) (pre:=pre ++ [c]) (tog:=(yz cs (left,tog) c).2) (left:=(yz cs (left,tog) c).1) (by rw [List.append_assoc]; exact hs) (List.pairwise_cons.mp srt).2 st
  rw [List.append_assoc] at this
  exact this
theorem qN {cs:List Call72} {os:List (List Nat)} {srt:List Nat} (ok:∀ k < cs.length,0 <= (cg cs k).box /\ (cg cs k).box.toNat < os.length /\ (cg cs k).begun <= (cg cs k).ended)
  (hp:∀ x < os.length,(os.getD x []).Perm (nb73 cs x)) (hk:∀ x < os.length,kl72 cs (os.getD x []) = true) (hs:srt.Perm (List.range cs.length)) (so:srt.Pairwise (fun a b=>(cg cs a).ended <= (cg cs b).ended)) :
  (∀ x < os.length,(xQ cs srt os).filter (xb cs x) = os.getD x []) /\ (xQ cs srt os).Perm (List.range cs.length) /\ kl72 cs (xQ cs srt os) = true:=by
 have M:=uq ok hp (fun x hx=>yO.mp (hk x hx)) (rem:=srt) (pre:=[]) (tog:=[]) (left:=os) hs so
  ⟨rfl,fun x _=>rfl,(fun c hc=>nomatch hc),.nil,(fun a ha=>nomatch ha),(fun k hk'=>nomatch hk')⟩
 rw [List.nil_append] at M
 have em:∀ x < os.length,((srt.foldl (yz cs) (os,[])).1).getD x [] = []:=fun x hx=>by
  refine List.eq_nil_iff_forall_not_mem.mpr fun y hy=>?_
  have yo:y ∈ os.getD x []:=by rw [M.parts x hx]; exact List.mem_append_right _ hy
  have yl:=(xo.mp ((hp x hx).mem_iff.mp yo)).1
  exact M.out y (hs.mem_iff.mpr (List.mem_range.mpr yl)) x hx hy
 have fl:∀ x < os.length,(xQ cs srt os).filter (xb cs x) = os.getD x []:=fun x hx=>by
  rw [M.parts x hx,em x hx,List.append_nil]; rfl
 refine ⟨fl,List.perm_iff_count.mpr fun k=>?_,yO.mpr M.pw⟩
 by_cases hm:k < cs.length
 ·obtain ⟨k0,k1,_⟩:=ok k hm
  have ek:xb cs (cg cs k).box.toNat k = true:=decide_eq_true (Int.toNat_of_nonneg k0).symm
  rw [← List.count_filter (p:=xb cs (cg cs k).box.toNat) ek,← List.count_filter (p:=xb cs (cg cs k).box.toNat) (l:=List.range cs.length) ek,fl _ k1]
  exact (hp _ k1).count_eq k
 ·have n1:k ∉ List.range cs.length:=fun z=>hm (List.mem_range.mp z)
  have n2:k ∉ xQ cs srt os:=fun z=>by
   obtain ⟨k0,k1⟩:=M.box k z
   have:k ∈ (xQ cs srt os).filter (xb cs (cg cs k).box.toNat):=List.mem_filter.mpr ⟨z,decide_eq_true (Int.toNat_of_nonneg k0).symm⟩
   rw [fl _ k1] at this
   exact hm (xo.mp ((hp _ k1).mem_iff.mp this)).1
  rw [List.count_eq_zero.mpr n1,List.count_eq_zero.mpr n2]
open PySem
structure ItK (prog:Program) (w:World) (K:Type) [DecidableEq K] where
 is:Heap -> K -> Value -> Prop
 hash:K -> Int
 draws:K -> Nat
 inj:∀ {h:Heap} {v:Value} {x y:K},is h x v -> is h y v -> x = y
 keeps:∀ {h h':Heap} {k:K} {v:Value} {d:Addr} {o:Obj} {es ep},is h k v -> h.get? d = some o -> o.data = .dict es ep -> Heap.SameBut d h h' -> is h' k v
 pyHash:∀ {A:Around} {E:VS7} {s:Shared} {k:K} {v:Value} {Q:Int -> Shared -> Prop},A.units < cLine -> is s.heap k v -> Q (hash k) { s with toks:=s.toks + draws k } -> wpAny (model prog w) A (PySem.pyHash v) Q E s
 eqBool:∀ {A:Around} {E:VS7} {s:Shared} {x y:K} {a b:Value} {Q:Bool -> Shared -> Prop},A.units < cLine -> is s.heap x a -> is s.heap y b -> Q (decide (x = y)) s -> wpAny (model prog w) A (PySem.eqBool a b) Q E s
 quiet:∀ {A:Around} {E:VS7} {s:Shared} {k:K} {v:Value} {Q:Bool -> Shared -> Prop},is s.heap k v -> Q true s -> wpAny (model prog w) A (eqIsQuiet 7 v) Q E s
def Sl (prog:Program) (w:World):ItK prog w Int where
 is:=fun _ k v=>(intKind prog w).is k v = true
 hash:=(intKind prog w).hash
 draws:=fun _=>1
 inj:=fun h1 h2=>(intKind prog w).inj _ _ _ h1 h2
 keeps:=fun h _ _ _=>h
 pyHash:=fun _ h q=>(intKind prog w).pyHash h q
 eqBool:=fun _ h1 h2 q=>(intKind prog w).eqBool h1 h2 q
 quiet:=fun h q=>by rw [eqIsQuiet_byValue _ ((intKind prog w).byValue _ _ h)]; exact wpAny_pure q
section
variable {prog:Program} {w:World} {A:Around} {E:VS7} {s:Shared}
theorem U9 {K:Type} [DecidableEq K] {knd:KeyKind prog w K} {ks:List K} {a:Addr} {Q:Bool -> Shared -> Prop} (hk:IsTupleKey knd s.heap ks a) (h:Q true s):wpAny (model prog w) A (eqIsQuiet 7 (.ref a)) Q E s:=by
 have hT:=hk.typeIs
 obtain ⟨o,items,n,ho,_,hd,hi⟩:=hk
 unfold eqIsQuiet
 refine wpAny_bind (wpAny_specialOf hT F.slot_tuple_eq.lookup ?_)
 show wpAny _ _ (isInstance (.ref a) (.type "tuple") >>= _) _ _ s
 refine wpAny_bind (wpAny_isInstance hT isSubtype_tuple_tuple ?_)
 simp only [Bool.not_true,Bool.false_eq_true,if_false]
 refine wpAny_bind (wpAny_seqItems ho hd ?_)
 refine wpAny_bind ?_
 show wpAny _ _ (forIn items _ _) _ _ s
 rw [← Array.forIn_toList]
 refine wpAny_forIn_list _ (fun rest r s'=>r.1 = none /\ s' = s /\ ∀ v ∈ rest,carriedByValue v = true) _ ?_ ?_ _ _ ⟨rfl,rfl,hi.byValue⟩
 ·rintro v rest r s' ⟨hr,rfl,hall⟩
  rw [eqIsQuiet_byValue _ (hall v List.mem_cons_self)]
  refine wpAny_bind (wpAny_pure ?_)
  simp only [Bool.not_true,Bool.false_eq_true,if_false]
  exact wpAny_pure ⟨rfl,rfl,fun u hu'=>hall u (List.mem_cons_of_mem _ hu')⟩
 ·rintro ⟨r1,r2⟩ s' ⟨hr,rfl,_⟩
  simp only at hr
  subst hr
  exact wpAny_pure h
end
def Sn (prog:Program) (w:World):ItK prog w (List Int) where
 is:=fun h k v=>∃ a,v = .ref a /\ IsTupleKey (intKind prog w) h k a
 hash:=tupleKeyHash (intKind prog w)
 draws:=fun ks=>ks.length + 1
 inj:=fun ⟨a,e,h1⟩ ⟨b,e',h2⟩=>by subst e; cases e'; exact h1.inj h2
 keeps:=fun ⟨a,e,h1⟩ ho hd hs=>⟨a,e,h1.keeps ho hd hs⟩
 pyHash:=fun hu ⟨a,e,h1⟩ q=>by subst e; exact wpAny_pyHash_tuple hu h1 q
 eqBool:=fun hu ⟨a,e,h1⟩ ⟨b,e',h2⟩ q=>by subst e e'; exact wpAny_eqBool_tuple hu h1 h2 q
 quiet:=fun ⟨a,e,h1⟩ q=>by subst e; exact U9 h1 q
section
variable {prog:Program} {w:World} {K1 K2:Type} [DecidableEq K1] [DecidableEq K2] {k1:ItK prog w K1} {k2:ItK prog w K2}
def IsPr (k1:ItK prog w K1) (k2:ItK prog w K2) (h:Heap) (k:K1 × K2) (a:Addr):Prop :=
 ∃ o u v n,h.get? a = some o /\ o.cls = .type "tuple" /\ o.data = .seq #[u,v] n /\ k1.is h k.1 u /\ k2.is h k.2 v
theorem IsPr.typeIs {s:Shared} {k:K1 × K2} {a:Addr} (x:IsPr k1 k2 s.heap k a):s.TypeIs (.ref a) "tuple":=let ⟨o,_,_,_,ho,hc,_⟩:=x; ⟨o,ho,hc⟩
theorem IsPr.inj {h:Heap} {a:Addr} {x y:K1 × K2} (hx:IsPr k1 k2 h x a) (hy:IsPr k1 k2 h y a):x = y:=by
 obtain ⟨o,u,v,n,ho,_,hd,hu,hv⟩:=hx
 obtain ⟨o',u',v',n',ho',_,hd',hu',hv'⟩:=hy
 obtain rfl:o = o':=Option.some.inj (ho.symm.trans ho')
 rw [hd] at hd'
 injection hd' with h1 _
 have h1':=congrArg Array.toList h1
 simp only [List.cons.injEq,and_true] at h1'
 obtain ⟨rfl,rfl⟩:=h1'
 exact Prod.ext (k1.inj hu hu') (k2.inj hv hv')
theorem IsPr.keeps {h h':Heap} {k:K1 × K2} {a d:Addr} {o:Obj} {es ep} (x:IsPr k1 k2 h k a) (ho:h.get? d = some o) (hd:o.data = .dict es ep) (hs:Heap.SameBut d h h'):IsPr k1 k2 h' k a:=by
 obtain ⟨o',u,v,n,ho',hc,hd',hu,hv⟩:=x
 have hne:a ≠ d:=by
  rintro rfl
  obtain rfl:o' = o:=Option.some.inj (ho'.symm.trans ho)
  rw [hd] at hd'; exact nomatch hd'
 exact ⟨o',u,v,n,(hs.2 a hne).trans ho',hc,hd',k1.keeps hu ho hd hs,k2.keeps hv ho hd hs⟩
def Xr (k1:ItK prog w K1) (k2:ItK prog w K2) (k:K1 × K2):Int:=reduceHash (Builtin.Tuple.tupleHashOf [k1.hash k.1,k2.hash k.2])
variable {A:Around} {E:VS7} {s:Shared}
theorem V5 {k:K1 × K2} {a:Addr} {Q:Int -> Shared -> Prop} (hu:A.units + 1 < cLine) (hk:IsPr k1 k2 s.heap k a) (h:Q (Xr k1 k2 k) { s with toks:=s.toks + (k1.draws k.1 + k2.draws k.2 + 1) }) :
  wpAny (model prog w) A (pyHash (.ref a)) Q E s:=by
 have hT:=hk.typeIs
 obtain ⟨o,u,v,n,ho,_,hd,iu,iv⟩:=hk
 unfold pyHash
 first | unfold pyHashByItsType | skip
 first | refine wpAny_bind (wpAny_cRoomFor_or (.inr (by omega)) ?_) | skip
 refine wpAny_bind (wpAny_specialOf hT F.slot_tuple_hash.lookup ?_)
 show wpAny _ _ (if (some (Value.builtin "tuple.__hash__") == some Value.none) = true then _ else _) Q E s
 rw [if_neg (by rw [beq_builtin_none]; exact Bool.false_ne_true)]
 refine wpAny_bind (wpAny_specialOf hT F.slot_tuple_hash.lookup ?_)
 show wpAny _ _ (callSpecialIfBoundUnlessNone? (.ref a) "__hash__" _ >>= _) Q E s
 refine wpAny_bind (wpAny_callSpecialIfBoundUnlessNone?_slot hT F.slot_tuple_hash (wpAny_call_entry F.slot_tuple_hash hT F.entry_tuple_hash ?_ (F.args_tuple_hash_1 _)))
 show wpAny _ _ (Builtin.Tuple.tupleItemsOf (.ref a) >>= _) _ _ s
 refine wpAny_bind (wpAny_tupleItemsOf ho hd ?_)
 refine wpAny_bind ?_
 rw [← Array.forIn_toList]
 have hu':A.in1.units < cLine:=hu
 refine wpAny_forIn_list _
  (fun rest (b:Array Int) s'=>(rest = [u,v] /\ b.toList = [] /\ s' = s) \/ (rest = [v] /\ b.toList = [k1.hash k.1] /\ s' = { s with toks:=s.toks + k1.draws k.1 }) \/ (rest = [] /\ b.toList = [k1.hash k.1,k2.hash k.2] /\ s' = { s with toks:=s.toks + (k1.draws k.1 + k2.draws k.2) }))
  _ ?_ ?_ _ _ (.inl ⟨rfl,rfl,rfl⟩)
 ·rintro x rest b s' (⟨e,hb,rfl⟩ | ⟨e,hb,rfl⟩ | ⟨e,_⟩)
  ·cases e
   refine wpAny_bind (k1.pyHash hu' iu ?_)
   first
    | exact wpAny_pure (.inr (.inl ⟨rfl,by simp [hb],rfl⟩))
    | exact wpAny_bind (wpAny_pure (wpAny_pure (.inr (.inl ⟨rfl,by simp [hb],rfl⟩))))
  ·cases e
   refine wpAny_bind (k2.pyHash hu' iv ?_)
   first
    | exact wpAny_pure (.inr (.inr ⟨rfl,by simp [hb],by simp [Nat.add_assoc]⟩))
    | exact wpAny_bind (wpAny_pure (wpAny_pure (.inr (.inr ⟨rfl,by simp [hb],by simp [Nat.add_assoc]⟩))))
  ·cases e
 ·rintro b s' (⟨e,_⟩ | ⟨e,_⟩ | ⟨_,hb,rfl⟩)
  ·cases e
  ·cases e
  show wpAny _ _ (retInt (Builtin.Tuple.tupleHashOf b.toList)) _ _ _
  rw [hb]
  refine wpAny_ret_mkInt ?_
  show wpAny _ _ (if (decide (-(2:Int) ^ 63 <= Builtin.Tuple.tupleHashOf [k1.hash k.1,k2.hash k.2]) && decide (Builtin.Tuple.tupleHashOf [k1.hash k.1,k2.hash k.2] < 2 ^ 63)) = true then _ else _) Q E _
  unfold Xr reduceHash at h
  by_cases hr:(decide (-(2:Int) ^ 63 <= Builtin.Tuple.tupleHashOf [k1.hash k.1,k2.hash k.2]) && decide (Builtin.Tuple.tupleHashOf [k1.hash k.1,k2.hash k.2] < 2 ^ 63)) = true
  ·rw [if_pos hr]
   rw [if_pos hr] at h
   exact wpAny_pure (by simpa [Nat.add_assoc] using h)
  ·rw [if_neg hr]
   rw [if_neg hr] at h
   exact wpAny_bind (wpAny_rule (wpAny_pure (by simpa [Nat.add_assoc] using h)))
theorem ZW {x y:K1 × K2} {a b:Addr} {P:Fin -> Shared -> Prop} (hu:A.units < cLine) (hx:IsPr k1 k2 s.heap x a) (hy:IsPr k1 k2 s.heap y b) (h:P (.done (.ret (.bool (decide (x = y))))) s) :
  wpAny (model prog w) A (Builtin.«tuple.__eq__» ⟨[.ref a,.ref b],[]⟩) P E s:=by
 have hTb:=hy.typeIs
 obtain ⟨oa,u,v,na,hoa,_,hda,iu,iv⟩:=hx
 obtain ⟨ob,u',v',nb,hob,_,hdb,iu',iv'⟩:=hy
 show wpAny _ _ (isInstance (.ref b) (.type "tuple") >>= _) _ _ s
 refine wpAny_bind (wpAny_isInstance hTb isSubtype_tuple_tuple ?_)
 simp only [Bool.not_true,Bool.false_eq_true,if_false]
 refine wpAny_bind (wpAny_tupleItemsOf hoa hda ?_)
 refine wpAny_bind (wpAny_tupleItemsOf hob hdb ?_)
 refine wpAny_bind ?_
 have ed:decide (x = y) = (decide (x.1 = y.1) && decide (x.2 = y.2)):=by
  rw [Bool.eq_iff_iff]; simp [Prod.ext_iff]
 refine wpAny_forIn_list _
  (fun rest r s'=>r.1 = none /\ s' = s /\ ((rest = [(u,u'),(v,v')]) \/ (rest = [(v,v')] /\ x.1 = y.1) \/ (rest = [] /\ x = y)))
  _ ?_ ?_ _ _ ⟨rfl,rfl,.inl rfl⟩
 ·rintro ⟨p,q⟩ rest r s' ⟨hr,rfl,(e | ⟨e,e1⟩ | ⟨e,_⟩)⟩
  ·cases e
   refine wpAny_bind (k1.eqBool hu iu iu' ?_)
   by_cases hk:x.1 = y.1
   ·rw [decide_eq_true hk]
    simp only [Bool.not_true,Bool.false_eq_true,if_false]
    refine wpAny_pure ?_
    simp [hk]
   ·rw [decide_eq_false hk]
    simp only [Bool.not_false,if_true]
    rw [ed,decide_eq_false hk,Bool.false_and] at h
    exact wpAny_bind (wpAny_pure (wpAny_pure (wpAny_pure h)))
  ·cases e
   refine wpAny_bind (k2.eqBool hu iv iv' ?_)
   by_cases hk:x.2 = y.2
   ·rw [decide_eq_true hk]
    simp only [Bool.not_true,Bool.false_eq_true,if_false]
    refine wpAny_pure ?_
    simp [Prod.ext e1 hk]
   ·rw [decide_eq_false hk]
    simp only [Bool.not_false,if_true]
    rw [ed,decide_eq_false hk,Bool.and_false] at h
    exact wpAny_bind (wpAny_pure (wpAny_pure (wpAny_pure h)))
  ·cases e
 ·rintro ⟨r1,r2⟩ s' ⟨hr,rfl,(e | ⟨e,e1⟩ | ⟨_,e⟩)⟩
  ·cases e
  ·cases e
  simp only at hr
  subst hr
  refine wpAny_pure ?_
  show P (.done (.ret (.bool ((#[u,v]:Array Value).size == (#[u',v']:Array Value).size)))) s'
  rw [decide_eq_true e] at h
  exact h
theorem So {x y:K1 × K2} {a b:Addr} {Q:Bool -> Shared -> Prop} (hu:A.units + 1 < cLine) (hx:IsPr k1 k2 s.heap x a) (hy:IsPr k1 k2 s.heap y b) (h:Q (decide (x = y)) s) :
  wpAny (model prog w) A (eqBool (.ref a) (.ref b)) Q E s:=by
 unfold eqBool
 try with_reducible refine wpAny_holding ?_
 show wpAny _ _ (if (Value.ref a == Value.ref b) = true then _ else _) Q E s
 by_cases hab:(Value.ref a == Value.ref b) = true
 ·rw [if_pos hab]
  have e:a = b:=by have:=eq_of_beq hab; injection this
  subst e
  obtain rfl:=hx.inj hy
  exact wpAny_bind (wpAny_rule (wpAny_pure (by simpa using h)))
 ·rw [if_neg hab]
  exact wpAny_bind (wpAny_richCompare_same_room (op:=.Eq) hx.typeIs hy.typeIs F.slot_tuple_eq
   (wpAny_call_entry F.slot_tuple_eq hx.typeIs F.entry_tuple_eq (ZW hu hx hy ⟨_,rfl,(fun e=>nomatch e),wpAny_truthy_bool h⟩) (F.args_tuple_eq_2 _ _)) (by omega))
theorem WN {k:K1 × K2} {a:Addr} {Q:Bool -> Shared -> Prop} (hk:IsPr k1 k2 s.heap k a) (h:Q true s):wpAny (model prog w) A (eqIsQuiet 8 (.ref a)) Q E s:=by
 have hT:=hk.typeIs
 obtain ⟨o,u,v,n,ho,_,hd,iu,iv⟩:=hk
 unfold eqIsQuiet
 refine wpAny_bind (wpAny_specialOf hT F.slot_tuple_eq.lookup ?_)
 show wpAny _ _ (isInstance (.ref a) (.type "tuple") >>= _) _ _ s
 refine wpAny_bind (wpAny_isInstance hT isSubtype_tuple_tuple ?_)
 simp only [Bool.not_true,Bool.false_eq_true,if_false]
 refine wpAny_bind (wpAny_seqItems ho hd ?_)
 refine wpAny_bind ?_
 show wpAny _ _ (forIn #[u,v] _ _) _ _ s
 rw [← Array.forIn_toList]
 refine wpAny_forIn_list _ (fun rest r s'=>r.1 = none /\ s' = s /\ (rest = [u,v] \/ rest = [v] \/ rest = [])) _ ?_ ?_ _ _ ⟨rfl,rfl,.inl rfl⟩
 ·rintro x rest r s' ⟨hr,rfl,(e | e | e)⟩
  ·cases e
   refine wpAny_bind (k1.quiet iu ?_)
   simp only [Bool.not_true,Bool.false_eq_true,if_false]
   refine wpAny_pure ?_
   simp
  ·cases e
   refine wpAny_bind (k2.quiet iv ?_)
   simp only [Bool.not_true,Bool.false_eq_true,if_false]
   refine wpAny_pure ?_
   simp
  ·cases e
 ·rintro ⟨r1,r2⟩ s' ⟨hr,rfl,_⟩
  simp only at hr
  subst hr
  exact wpAny_pure h
end
def ur {prog:Program} {w:World} {K1 K2:Type} [DecidableEq K1] [DecidableEq K2] (k1:ItK prog w K1) (k2:ItK prog w K2):HeapKind prog w (K1 × K2) where
 is:=IsPr k1 k2
 hash:=Xr k1 k2
 draws:=fun k=>k1.draws k.1 + k2.draws k.2 + 1
 room:=fun A=>A.units + 1 < cLine
 inj:=fun hx hy=>hx.inj hy
 keeps:=fun x ho hd hs=>x.keeps ho hd hs
 pyHash:=fun hu hk h=>V5 hu hk h
 eqBool:=fun hu hx hy h=>So hu hx hy h
 quiet:=fun hk h=>WN hk h
def Trc (h:Heap) (e T:Addr) (cls:Value):Prop :=
 ∃ oe vs oT ts,h.get? e = some oe /\ oe.cls = cls /\ oe.data = .fields vs /\ vs[1]? = some (.ref T) /\ T ≠ e /\ h.get? T = some oT /\ oT.data = .fields ts /\ ts[3]? = some .none /\ vs[2]? = some .none
structure Lft (fr:List Addr) (e T0 T:Addr) (cls:Value) (h h':Heap):Prop where
 keep:∀ b o,b ∉ fr -> b ≠ e -> b ≠ T0 -> h.get? b = some o -> h'.get? b = some o
 slot:∀ b o,b ∈ fr -> b ≠ e -> b ≠ T0 -> h.get? b = some o -> ∃ sl,h'.get? b = some { o with slots:=sl }
 new:h.get? T = none
 trc:Trc h' e T cls
def CX1 (P:Program) (w:World):CXT:=fun outer H s E e s'=>∃ (a T C:Addr) (H':Hp),e = .ref a /\ s'.os = s.os /\ AllBare s'.gens /\ Un (frs outer) [] H H' s.heap s'.heap /\ HOk P w H' s'.heap ∧
 Trc s'.heap a T (.ref C) /\ H' a = none /\ H' T = none /\ s.heap.get? a = none /\ s.heap.get? T = none /\ E e (some C) H'
theorem z5.at {P:Program} {w:World} {H:Hp} {h:Heap} {a:Addr} {o:HO} (x:z5 P w H h a o):∃ ob,h.get? a = some ob:=by
 induction o with
 | lst xs=>obtain ⟨z,its,n,r,e⟩:=x; exact ⟨_,e⟩
 | tup xs=>obtain ⟨z,its,r,ob,e,c⟩:=x; exact ⟨_,e⟩
 | dK kvs=>obtain ⟨z,y,vs,r,ob,es,ep,e,c⟩:=x; exact ⟨_,e⟩
 | dT kvs=>obtain ⟨z,y,xs,r,ob,es,ep,e,c⟩:=x; exact ⟨_,e⟩
 | set S n=>obtain ⟨ob,es,ep,t,e,c⟩:=x; exact ⟨_,e⟩
 | ins C dx fs=>obtain ⟨d,z,ne,e,_⟩:=x; exact ⟨_,e⟩
 | own y=>exact x
 | xd fs=>obtain ⟨mA,⟨od,es,ep,e,c⟩,r⟩:=x; exact ⟨_,e⟩
 | rng lo hi=>obtain ⟨t,u,v,e⟩:=x; exact ⟨_,e⟩
 | frz ob u ih=>exact ⟨_,x.1⟩
 | tbl ps=>exact ⟨_,x⟩
 | met f y=>exact ⟨_,x⟩
 | ext φ=>exact x.2.1
section
variable {P:Program} {w:World} {K:FG7} {mg:Str -> Option Value} {base:Heap} {N:List Str} {qual:Str} {scope:Scope} {f:Addr} {cd:Value} {A:Around} {outer:List Env} {s0:Shared} {H0:Hp} {E:XK}
 {pins:List (Addr × Obj)} {σ:L2.St} {H:Hp} {s:Shared}
end
abbrev veM:List Value:=[.type "ValueError",.type "Exception",.type "BaseException",.type "object"]
def ExcC (K:FG7) (mg:Str -> Option Value) (x:Str) (C:Addr):Prop:=∀ h:Heap,K.In h -> OwnCls x C veM "ValueError.__new__" mg h
structure ApX (X:Cx) (pins:List (Addr × Obj)) (H:Hp) (a T:Addr):Prop where
 s0:∀ b o,X.s₀.heap.get? b = some o -> b ≠ a /\ b ≠ T
 loc:X.env.locals ≠ a /\ X.env.locals ≠ T
 cel:∀ x c,X.env.cells.lookup x = some c -> c ≠ a /\ c ≠ T
 pin:∀ p ∈ X.pn ++ pins,p.1 ≠ a /\ p.1 ≠ T
 ha:H a = none
 hT:H T = none
theorem ApX.of {X:Cx} {pins:List (Addr × Obj)} {σ:L2.St} {H H':Hp} {s:Shared} {a T:Addr} (I:Inv X pins σ H s) (hx:X.ex = []) (na:s.heap.get? a = none) (nT:s.heap.get? T = none) (ha:H' a = none) (hT:H' T = none):ApX X pins H' a T:=by
 have ne:∀ b o,s.heap.get? b = some o -> b ≠ a /\ b ≠ T:=fun b o hb=>⟨fun z=>(by rw [z,na] at hb; cases hb),fun z=>(by rw [z,nT] at hb; cases hb)⟩
 refine ⟨fun b o hb=>?_,?_,fun x c hc=>?_,fun p hp=>ne _ _ (I.pin p hp).1,ha,hT⟩
 ·obtain ⟨o',h1⟩:=I.base.there b o hb (by rw [hx]; simp)
  exact ne b o' h1
 ·obtain ⟨m,⟨o,es,ep,ho,_⟩,_⟩:=I.loc
  exact ne _ _ ho
 ·obtain ⟨v,hv⟩:=I.cell x c hc
  obtain ⟨o,ho,_⟩:=hv
  exact ne _ _ ho
theorem Inv.leftK {X:Cx} {pins:List (Addr × Obj)} {σ:L2.St} {H:Hp} {s:Shared} {a T0:Addr} {h2:Heap} (I:Inv X pins σ H s) (hx:X.ex = []) (ap:ApX X pins H a T0)
  (lk:∀ b o,b ∉ frs X.stack -> b ≠ a -> b ≠ T0 -> s.heap.get? b = some o -> h2.get? b = some o) (ls:∀ b o,b ∈ frs X.stack -> b ≠ a -> b ≠ T0 -> s.heap.get? b = some o -> ∃ sl,h2.get? b = some { o with slots:=sl }):Inv X pins σ H { s with heap:=h2 }:=by
 have stk:∀ b,b ∈ frs X.stack -> b = X.env.locals \/ b ∈ X.fs:=fun b hb=>List.mem_cons.mp (I.stkSub b hb)
 have any:∀ b o,b ≠ a -> b ≠ T0 -> s.heap.get? b = some o -> ∃ sl,h2.get? b = some { o with slots:=sl }:=fun b o n1 n2 ho=>by
  by_cases z:b ∈ frs X.stack
  ·exact ls b o z n1 n2 ho
  ·exact ⟨o.slots,lk b o z n1 n2 ho⟩
 have cellK:∀ x c,X.env.cells.lookup x = some c -> ∀ v,s.heap.IsCell c v -> h2.IsCell c v:=fun x c e v ⟨o,ho,hd⟩=>by
  obtain ⟨n1,n2⟩:=ap.cel x c e
  obtain ⟨sl,h1⟩:=any c o n1 n2 ho
  exact ⟨_,h1,hd⟩
 refine ⟨I.ok,I.os,I.bare,⟨fun b o hb hn hf hx'=>?_,fun b o hb hn hf hx'=>?_,I.base.free,fun b o hb hx'=>?_,I.base.tups,I.base.frzs,I.base.tbls⟩,?_,fun x c hc=>?_,I.free,I.freeC,fun p hp=>?_,fun b u q=>?_,I.len⟩
 ·obtain ⟨n1,n2⟩:=ap.s0 b o hb
  refine lk b o (fun z=>?_) n1 n2 (I.base.keep b o hb hn hf hx')
  rcases stk b z with z | z
  ·exact absurd (Nat.lt_of_lt_of_le (Heap.lt_size hb) I.ok.above) (by rw [z]; exact Nat.lt_irrefl _)
  ·exact hf z
 ·obtain ⟨n1,n2⟩:=ap.s0 b o hb
  obtain ⟨sl,h1⟩:=I.base.slot b o hb hn hf hx'
  obtain ⟨sl',h3⟩:=any b _ n1 n2 h1
  exact ⟨sl',h3⟩
 ·obtain ⟨n1,n2⟩:=ap.s0 b o hb
  obtain ⟨o',h1⟩:=I.base.there b o hb hx'
  obtain ⟨sl,h3⟩:=any b o' n1 n2 h1
  exact ⟨_,h3⟩
 ·obtain ⟨m,⟨o,es,ep,ho,r⟩,hl⟩:=I.loc
  obtain ⟨sl,h1⟩:=any _ o ap.loc.1 ap.loc.2 ho
  refine ⟨m,⟨_,es,ep,h1,r⟩,fun i x v e1 e2 e3=>?_⟩
  obtain ⟨u,ru,lk⟩:=hl i x v e1 e2 e3
  refine ⟨u,ru,?_⟩
  rcases lk with lk | ⟨k1,c,k2,k3⟩
  ·exact .inl lk
  ·exact .inr ⟨k1,c,k2,cellK x c k2 _ k3⟩
 ·obtain ⟨v,hv⟩:=I.cell x c hc
  exact ⟨v,cellK x c hc v hv⟩
 ·obtain ⟨p1,p2,p3,p4,p5⟩:=I.pin p hp
  obtain ⟨n1,n2⟩:=ap.pin p hp
  refine ⟨lk _ _ (fun z=>?_) n1 n2 p1,p2,p3,p4,p5⟩
  rcases stk _ z with z | z
  ·exact p3 z
  ·exact p4 z
 ·refine (I.hok b u q).stay (fun c v hc r=>?_) (fun _ r=>r) fun _ _ r=>r
  have hn:H c ≠ none:=by
   rcases hc with rfl | hc
   ·rw [q]; exact fun z=>nomatch z
   ·rw [hc]; exact fun z=>nomatch z
  exact lk c v (fun z=>hn (I.stkFree c z)) (fun z=>hn (by rw [z]; exact ap.ha)) (fun z=>hn (by rw [z]; exact ap.hT)) r
theorem Inv.left {X:Cx} {pins:List (Addr × Obj)} {σ:L2.St} {H:Hp} {s:Shared} {a T0 T:Addr} {cls:Value} {h2:Heap} (I:Inv X pins σ H s) (hx:X.ex = []) (ap:ApX X pins H a T0)
  (l:Lft (frs X.stack) a T0 T cls s.heap h2):Inv X pins σ H { s with heap:=h2 }:=Inv.leftK I hx ap l.keep l.slot
open PySem.W in
/-- an exception class as the text's constants show it -/
theorem excC_of {K:FG7} {mg:Str -> Option Value} {x:Str} {C:Addr} (b:mg x = some (.ref C)) (q:PySem.W.excIn K C veM "ValueError.__new__" = true):ExcC K mg x C:=by
 intro h X
 refine ⟨b,?_⟩
 unfold PySem.W.excIn at q
 cases ho:K.lookup C with
 | none=>rw [ho] at q; cases q
 | some ob =>
  rw [ho] at q
  obtain ⟨oc,od,oda,osl⟩:=ob
  split at q
  ·rename_i dd cd sl e
   obtain ⟨rfl,rfl,rfl,rfl⟩:=Obj.mk.inj (Option.some.inj e)
   split at q
   ·rename_i C' bm k0 k1 k2 k3 n k5 hm hs
    simp only [Bool.and_eq_true,beq_iff_eq,Bool.not_eq_true'] at q
    obtain ⟨⟨⟨⟨⟨rfl,rfl⟩,hdel⟩,ht⟩,hok⟩,hni⟩:=q
    obtain ⟨nm,bs,mro,ns,qn,hd,sn,sub,ab,col,del⟩:=cd
    dsimp only at hm hdel hok hni
    subst hm hdel
    obtain ⟨l⟩:=osl
    have hl:l = [k0,k1,k2,k3,some (.builtin "ValueError.__new__"),k5]:=hs
    subst hl
    exact ⟨bm,ns,nm,qn,bs,hd,sn,sub,ab,col,od,k0,k1,k2,k3,k5,_,X _ _ ho,.of_isNs (PySem.W.isNs_of_in X hok),PySem.W.nsMap_none_of_in X hok hni,PySem.W.tail_of_in X ht⟩
   ·cases q
  ·cases q
def sE (P:Program) (w:World) (K:FG7) (mg:Str -> Option Value) (base:Heap) (C:Addr) (k:Nat) (m:Str) (ps:List Str) (sp:Sp):Prop :=
 ∃ (f:Addr) (fd:FuncData),FnOk P w K mg base (CX1 P w) k f fd ps sp /\ v4 K fd ps [] /\ Meth K C m f
def qO (P:Program) (w:World) (K:FG7) (mg:Str -> Option Value) (base:Heap) (k:Nat) (x:Str) (ps:List Str) (sp:Sp):Prop :=
 ∃ (f:Addr) (fd:FuncData),FnOk P w K mg base (CX1 P w) k f fd ps sp /\ v4 K fd ps [] /\ PySem.W.keepIn K (.ref f) = true /\ mg x = some (.ref f)
section
variable {P:Program} {w:World} {K:FG7} {mg:Str -> Option Value} {base:Heap} {C:Addr} {j k:Nat} {m x:Str} {ps:List Str} {sp:Sp}
theorem sE.mono (c:sE P w K mg base C j m ps sp) (h:j <= k):sE P w K mg base C k m ps sp:=by
 obtain ⟨f,fd,F,b,mt⟩:=c
 exact ⟨f,fd,F.mono h,b,mt⟩
theorem qO.mono (c:qO P w K mg base j x ps sp) (h:j <= k):qO P w K mg base k x ps sp:=by
 obtain ⟨f,fd,F,b,mt⟩:=c
 exact ⟨f,fd,F.mono h,b,mt⟩
end
open PySem PySem.Spec PyProof.Rows L2 PySem.W
open PySem.Builtin PySem.Builtin.ObjectAttr PySem.Builtin.Getset_descriptor in
theorem exc_class_get {prog:Program} {w:World} {A:Around} {s:Shared} {K:FG7} {a C:Addr} {o:Obj} {R:Result -> Shared -> Prop} {tp:Value} (X:K.In s.heap) (hx:s.heap.get? a = some o) (hc:o.cls = .ref C) (hm:PySem.W.mroIn K C (.type "object") = some true)
  (h:R (.ok (.ret (.ref C))) s):codeAny (model prog w) A (.call (.builtin "getset_descriptor.__get__") ⟨[.builtin "object.__class__",.ref a,tp],[]⟩) R s:=by
 obtain ⟨hh,g,dr,t,os⟩:=s
 have L0:Looks (model prog w) hh (typeOf (.ref a)) (.ref C):=hc ▸ (Looks.ld hx).andThen .now
 have L1:=looks_mroIn (M:=model prog w) X hm
 refine codeAny_call_builtin KF.slot_gs.plain KF.entry_gs (KF.slot_gs.check _ _ _ _ _ _ _ _ KF.type_class (KF.args_gs _ _ _) ?_)
 unfold Builtin.«getset_descriptor.__get__» descrGet
 rw [dga_obj]
 refine wpAny_bind (wpAny_pure ?_)
 unfold descrGetter descrCheckInstance descrNameAndClass isInstance
 simp only [KF.owner_class]
 repeat lk
 refine ⟨Code.quiet_builtin _ (by decide +kernel),codeAny_builtin KF.entry_class ?_⟩
 unfold Builtin.«object.__class__» shownTypeOf
 repeat lk
 exact h
section
variable {prog:Program} {w:World} {A:Around} {E:VS7} {K:FG7} {a C:Addr} {o:Obj} {h:Heap} {g:Array GenState} {d:Drawn} {t:Nat} {os:OsState}
theorem Xs {tk:Tok} {Q:PySem.Fin -> Shared -> Prop} (X:K.In h) (hx:h.get? a = some o) (hc:o.cls = .ref C) (ha:findIn K (.ref C) "__class__" = some (some (.builtin "object.__class__"))) (hm:PySem.W.mroIn K C (.type "object") = some true)
  (hq:Q (.done (.ret (.ref C))) ⟨h,g,d,t,os⟩):wpAny (model prog w) A (Builtin.«object.__getattribute__» ⟨[.ref a,.str "__class__" tk],[]⟩) Q E ⟨h,g,d,t,os⟩:=by
 have L0:Looks (model prog w) h (typeOf (.ref a)) (.ref C):=hc ▸ (Looks.ld hx).andThen .now
 have L1:=looks_findIn (M:=model prog w) X ha
 have f5:=PySem.F.typeOf_object_class
 have f6:=PySem.F.slot_gs_get.lookup
 have f7:=PySem.F.slot_gs_set.lookup
 repeat (any_goals (first | assumption | with_reducible refine L0.at ?_ | with_reducible refine L1.at ?_ | (with_reducible refine wpAny_loadPart_at hx ?_; rw [hc]) | wp_step))
 refine exc_class_get X hx hc hm ?_
 repeat (any_goals (first | assumption | wp_step))
end
structure ExcK (K:FG7) (C:Addr):Prop where
 ga:findIn K (.ref C) "__getattribute__" = some (some (.builtin "BaseException.__getattribute__"))
 gt:findIn K (.ref C) "__getattr__" = some none
 cl:findIn K (.ref C) "__class__" = some (some (.builtin "object.__class__"))
 ob:mroIn K C (.type "object") = some true
 be:mroIn K C (.type "BaseException") = some true
def ExO (a C:Addr):HO:=.ext fun h=>∃ o,h.get? a = some o /\ o.cls = .ref C /\ ∃ vs,o.data = .fields vs /\ vs[2]? = some .none
theorem ExO.cl {h:Heap} {a C:Addr} (p:∃ o,h.get? a = some o /\ o.cls = .ref C /\ ∃ vs,o.data = .fields vs /\ vs[2]? = some .none):∃ o,h.get? a = some o /\ o.cls = .ref C:=p.imp fun _ z=>⟨z.1,z.2.1⟩
end L3
namespace L2
open PySem PySem.Spec PyProof.Rows
end L2
namespace L2
open PySem PySem.Spec PyProof.Rows
end L2
namespace L2
open PySem PySem.Spec PyProof.Rows
end L2
namespace L2
open PySem PySem.Spec PyProof.Rows
end L2
namespace L2
open PySem PySem.Spec PyProof.Rows
end L2
namespace L2
open PySem PySem.Spec PyProof.Rows
end L2
namespace L2
open PySem PySem.Spec PyProof.Rows
section
variable {κ:Type} [DecidableEq κ]
def valV (kvs:List (κ × V)) (k:κ):Option V:=(kvs.find? fun kv=>decide (kv.1 = k)).map (·.2)
def putK (kvs:List (κ × V)) (k:κ) (v:V):List (κ × V) :=
 if (kvs.any fun kv=>decide (kv.1 = k)) = true then kvs.map (fun kv=>if kv.1 = k then (kv.1,v) else kv) else kvs ++ [(k,v)]
def Ta (kvs:List (κ × V)) (k:κ):List (κ × V):=kvs.filter fun kv=>decide (kv.1 ≠ k)
theorem yn {p:κ × V} {r:List (κ × V)} {k:κ} (e:p.1 = k):valV (p :: r) k = some p.2:=by simp [valV,List.find?_cons,e]
theorem yg {p:κ × V} {r:List (κ × V)} {k:κ} (e:¬ p.1 = k):valV (p :: r) k = valV r k:=by simp [valV,List.find?_cons,e]
theorem xp (k:κ):∀ kvs:List (κ × V),(kvs.any fun kv=>decide (kv.1 = k)) = (valV kvs k).isSome
 | []=>rfl
 | p :: r=>by
  rw [List.any_cons]
  by_cases e:p.1 = k
  ·simp only [yn e,decide_eq_true e,Bool.true_or,Option.isSome_some]
  ·rw [yg e,decide_eq_false e,Bool.false_or]; exact xp k r
theorem jY (k j:κ) (y:V):∀ kvs:List (κ × V),valV (kvs.map fun kv=>if kv.1 = k then (kv.1,y) else kv) j = (valV kvs j).map fun x=>if j = k then y else x
 | []=>rfl
 | p :: r=>by
  have ih:=jY k j y r
  rw [List.map_cons]
  by_cases h:p.1 = k
  ·rw [if_pos h]
   by_cases e:p.1 = j
   ·rw [yn (p:=(p.1,y)) e,yn e,Option.map_some,if_pos (e.symm.trans h)]
   ·rw [yg (p:=(p.1,y)) e,yg e,ih]
  ·rw [if_neg h]
   by_cases e:p.1 = j
   ·rw [yn (p:=p) e,yn e,Option.map_some,if_neg (fun z=>h (e.trans z))]
   ·rw [yg (p:=p) e,yg e,ih]
theorem rV (k j:κ) (y:V):∀ kvs:List (κ × V),valV kvs k = none -> valV (kvs ++ [(k,y)]) j = if j = k then some y else valV kvs j
 | [],_=>by
  by_cases e:k = j
  ·rw [if_pos e.symm]; exact yn (p:=(k,y)) e
  ·rw [if_neg (fun z=>e z.symm)]; exact yg (p:=(k,y)) e
 | p :: r,hn=>by
  rw [List.cons_append]
  have hk:¬ p.1 = k:=fun z=>by rw [yn z] at hn; cases hn
  rw [yg hk] at hn
  have ih:=rV k j y r hn
  by_cases e:p.1 = j
  ·rw [yn e,yn e,if_neg (fun z=>hk (e.trans z))]
  ·rw [yg e,yg e,ih]
theorem xq (kvs:List (κ × V)) (k j:κ) (y:V):valV (putK kvs k y) j = if j = k then some y else valV kvs j:=by
 unfold putK
 by_cases a:(kvs.any fun kv=>decide (kv.1 = k)) = true
 ·rw [if_pos a,jY]
  rw [xp] at a
  by_cases e:j = k
  ·obtain ⟨x,hx⟩:=Option.isSome_iff_exists.mp a
   rw [if_pos e,e,hx,Option.map_some,if_pos rfl]
  ·rw [if_neg e]
   cases valV kvs j with
   | none=>rfl
   | some x=>rw [Option.map_some,if_neg e]
 ·rw [if_neg a]
  refine rV k j y kvs ?_
  rw [xp] at a
  cases q:valV kvs k with
  | none=>rfl
  | some x=>rw [q] at a; exact (a rfl).elim
theorem xf (kvs:List (κ × V)) (k:κ) (v:V):(putK kvs k v).length <= kvs.length + 1:=by
 unfold putK
 split
 ·rw [List.length_map]; omega
 ·rw [List.length_append,List.length_cons,List.length_nil]; omega
theorem jZ {kvs:List (κ × V)} {k:κ} (v:V) (h:valV kvs k = none):putK kvs k v = kvs ++ [(k,v)]:=by
 unfold putK
 rw [xp,h]
 exact if_neg (by decide)
theorem RelO.isSome_eq {o:Option V} {u:Option Value} (r:RelO o u):o.isSome = u.isSome:=by
 cases o with
 | none=>cases u with
  | none=>rfl
  | some _=>exact (show False from r).elim
 | some _=>cases u with
  | none=>exact (show False from r).elim
  | some _=>rfl
theorem RelO.getD {o:Option V} {u:Option Value} {d:V} {d':Value} (r:RelO o u) (rd:RelV d d'):RelV (o.getD d) (u.getD d'):=by
 cases o with
 | none=>cases u with
  | none=>exact rd
  | some _=>exact (show False from r).elim
 | some _=>cases u with
  | none=>exact (show False from r).elim
  | some _=>exact r
theorem KV.val {kvs:List (κ × V)} {vs:List (κ × Value)} (r:KV kvs vs) (k:κ):RelO (valV kvs k) (valueAt vs k):=by
 unfold KV at r
 induction r with
 | nil=>exact True.intro
 | @cons p q ps qs h t ih =>
  obtain ⟨h1,h2⟩:=h
  by_cases e:p.1 = k
  ·have e':q.1 = k:=h1.symm.trans e
   have b:valueAt (q :: qs) k = some q.2:=by simp [valueAt,List.find?_cons,e']
   rw [yn e,b]; exact h2
  ·have e':¬ q.1 = k:=fun z=>e (h1.trans z)
   have b:valueAt (q :: qs) k = valueAt qs k:=by simp [valueAt,List.find?_cons,e']
   rw [yg e,b]; exact ih
theorem KV.any {kvs:List (κ × V)} {vs:List (κ × Value)} (r:KV kvs vs) (k:κ):(kvs.any fun kv=>decide (kv.1 = k)) = vs.any fun kv=>decide (kv.1 = k):=by
 unfold KV at r
 induction r with
 | nil=>rfl
 | cons h t ih=>rw [List.any_cons,List.any_cons,ih,h.1]
theorem KV.repl {kvs:List (κ × V)} {vs:List (κ × Value)} (r:KV kvs vs) (k:κ) {y:V} {u:Value} (ry:RelV y u) :
  KV (kvs.map fun kv=>if kv.1 = k then (kv.1,y) else kv) (vs.map fun kv=>if kv.1 = k then (kv.1,u) else kv):=by
 unfold KV at r ⊢
 induction r with
 | nil=>exact .nil
 | @cons p q ps qs h t ih =>
  rw [List.map_cons,List.map_cons]
  refine .cons ?_ ih
  obtain ⟨h1,h2⟩:=h
  by_cases e:p.1 = k
  ·rw [if_pos e,if_pos (h1.symm.trans e)]; exact ⟨h1,ry⟩
  ·rw [if_neg e,if_neg (fun z=>e (h1.trans z))]; exact ⟨h1,h2⟩
theorem KV.put {kvs:List (κ × V)} {vs:List (κ × Value)} (r:KV kvs vs) (k:κ) {y:V} {u:Value} (ry:RelV y u):KV (putK kvs k y) (stored vs k u):=by
 unfold putK stored
 rw [r.any k]
 by_cases e:(vs.any fun kv=>decide (kv.1 = k)) = true
 ·rw [if_pos e,if_pos e]; exact r.repl k ry
 ·rw [if_neg e,if_neg e]; exact Paired.snoc r ⟨rfl,ry⟩
theorem KV.drop {kvs:List (κ × V)} {vs:List (κ × Value)} (r:KV kvs vs) (k:κ):KV (Ta kvs k) (without vs k):=by
 unfold KV at r ⊢
 unfold Ta without
 induction r with
 | nil=>exact .nil
 | @cons p q ps qs h t ih =>
  obtain ⟨h1,h2⟩:=h
  rw [List.filter_cons,List.filter_cons]
  by_cases e:p.1 = k
  ·have a:¬ decide (p.1 ≠ k) = true:=by simp [e]
   have b:¬ decide (q.1 ≠ k) = true:=by simp [h1.symm.trans e]
   rw [if_neg a,if_neg b]; exact ih
  ·have e':¬ q.1 = k:=fun z=>e (h1.trans z)
   have a:decide (p.1 ≠ k) = true:=by simp [e]
   have b:decide (q.1 ≠ k) = true:=by simp [e']
   rw [if_pos a,if_pos b]; exact .cons ⟨h1,h2⟩ ih
theorem KV.keys {kvs:List (κ × V)} {vs:List (κ × Value)} (r:KV kvs vs):kvs.map (·.1) = vs.map (·.1):=by
 unfold KV at r
 induction r with
 | nil=>rfl
 | cons h t ih=>rw [List.map_cons,List.map_cons,ih,h.1]
theorem KV.length {kvs:List (κ × V)} {vs:List (κ × Value)} (r:KV kvs vs):kvs.length = vs.length:=Paired.length r
end
theorem Tb {P:Program} {w:World} {k:Key} {u:Value} (r:RelV (kV k) u):(yq P w).is k u = true:=by
 cases k with
 | inl i=>obtain ⟨t,e⟩:=(show ∃ t,u = Value.int i t from r); subst e; exact qv P w i t
 | inr x=>obtain ⟨t,e⟩:=(show ∃ t,u = Value.str x t from r); subst e; exact qw P w x t
theorem rW {P:Program} {w:World}:∀ {ks:List Key} {us:List Value},Vals (ks.map kV) us -> ItemsAre (yq P w) ks us
 | [],_,r=>by rw [List.map_nil] at r; cases r; exact .nil
 | k :: ks,_,r=>by
  rw [List.map_cons] at r
  cases r with
  | cons h t=>exact .cons (Tb h) (rW t)
abbrev KT (H:Hp):List (List Key × V) -> List (List Key × Addr × Value) -> Prop:=Paired fun p q=>p.1 = q.1 /\ H q.2.1 = some (.tup (p.1.map kV)) /\ RelV p.2 q.2.2
theorem KT.val {H:Hp} {kvs:List (List Key × V)} {xs:List (List Key × Addr × Value)} (r:KT H kvs xs) (k:List Key):RelO (valV kvs k) ((atKey xs k).map (·.2)):=by
 induction r with
 | nil=>exact True.intro
 | @cons p q ps qs h t ih =>
  obtain ⟨h1,_,h2⟩:=h
  by_cases e:p.1 = k
  ·have e':q.1 = k:=h1.symm.trans e
   have b:atKey (q :: qs) k = some q.2:=by simp [atKey,List.find?_cons,e']
   rw [yn e,b]; exact h2
  ·have e':¬ q.1 = k:=fun z=>e (h1.trans z)
   have b:atKey (q :: qs) k = atKey qs k:=by simp [atKey,List.find?_cons,e']
   rw [yg e,b]; exact ih
theorem KT.repl {H:Hp} {kvs:List (List Key × V)} {xs:List (List Key × Addr × Value)} (r:KT H kvs xs) (k:List Key) {y:V} {u:Value} (ry:RelV y u) :
  KT H (kvs.map fun kv=>if kv.1 = k then (kv.1,y) else kv) (xs.map (putAt k u)):=by
 induction r with
 | nil=>exact .nil
 | @cons p q ps qs h t ih =>
  rw [List.map_cons,List.map_cons]
  refine .cons ?_ ih
  obtain ⟨h1,h2,h3⟩:=h
  unfold putAt
  by_cases e:p.1 = k
  ·rw [if_pos e,if_pos (h1.symm.trans e)]; exact ⟨h1,h2,ry⟩
  ·rw [if_neg e,if_neg (fun z=>e (h1.trans z))]; exact ⟨h1,h2,h3⟩
theorem KT.put {H:Hp} {kvs:List (List Key × V)} {xs:List (List Key × Addr × Value)} (r:KT H kvs xs) (k:List Key) {b:Addr} {y:V} {u:Value} (hb:H b = some (.tup (k.map kV))) (ry:RelV y u) :
  KT H (putK kvs k y) (storedH xs k b u):=by
 have e:(kvs.any fun kv=>decide (kv.1 = k)) = (atKey xs k).isSome:=by
  rw [xp,(r.val k).isSome_eq,Option.isSome_map]
 unfold putK storedH
 rw [e]
 by_cases q:(atKey xs k).isSome = true
 ·rw [if_pos q,if_pos q]; exact r.repl k ry
 ·rw [if_neg q,if_neg q]; exact Paired.snoc r ⟨rfl,hb,ry⟩
theorem KT.keeps {H H':Hp} {kvs:List (List Key × V)} {xs:List (List Key × Addr × Value)} (r:KT H kvs xs) (ht:∀ b ys,H b = some (.tup ys) -> H' b = some (.tup ys)):KT H' kvs xs :=
 Paired.mapP r fun _ _ z=>⟨z.1,ht _ _ z.2.1,z.2.2⟩
section
variable {P:Program} {w:World} {H:Hp} {h:Heap} {a:Addr}
theorem Tc {u:HO} (ok:HOk P w H h) (e:Rd H a u):z5 P w H h a u:=e.ok ok
theorem Sq {kvs:List (Key × V)} (ok:HOk P w H h) (e:Rd H a (.dK kvs)):kvs.length <= sizeLine /\ (a == sysModules) = false /\ ∃ vs,KV kvs vs /\ h.DictOf (yq P w) a vs :=
 show z5 P w H h a (.dK kvs) from Tc ok e
theorem Sr {kvs:List (Key × V)} (ok:HOk P w H h) (e:H a = some (.dK kvs)):kvs.length <= sizeLine /\ (a == sysModules) = false /\ ∃ vs,KV kvs vs /\ h.DictOf (yq P w) a vs:=Sq ok (.inl e)
theorem Vy {ks:List Key} (ok:HOk P w H h) (e:H a = some (.tup (ks.map kV))):(tupleKind (yq P w)).is h ks a:=by
 obtain ⟨_,its,r,o,h1,h2,n,h3⟩:=(show z5 P w H h a (.tup (ks.map kV)) from ok a _ e)
 exact ⟨o,its.toArray,n,h1,h2,h3,by simpa using rW r⟩
theorem Ss {kvs:List (List Key × V)} (ok:HOk P w H h) (e:Rd H a (.dT kvs)):kvs.length <= sizeLine /\ (a == sysModules) = false ∧
  ∃ xs,KT H kvs xs /\ h.DictOfH (tupleKind (yq P w)) a xs:=by
 obtain ⟨z,y,xs,r,o,es,ep,h1,h2,h3,h4,h5⟩:=(show z5 P w H h a (.dT kvs) from Tc ok e)
 refine ⟨z,y,xs,r,o,es,ep,h1,h2,h3,h4,fun x hx=>?_,h5⟩
 have all:∀ {l:List (List Key × V)} {m:List (List Key × Addr × Value)},KT H l m -> ∀ x ∈ m,(tupleKind (yq P w)).is h x.1 x.2.1:=by
  intro l m q
  induction q with
  | nil=>intro x hx; exact nomatch hx
  | @cons p q ps qs hq t ih =>
   intro x hx
   rcases List.mem_cons.mp hx with e | hx
   ·subst e
    exact Vy ok (by rw [← hq.1]; exact hq.2.1)
   ·exact ih x hx
 exact all r x hx
theorem Su {kvs:List (List Key × V)} (ok:HOk P w H h) (e:H a = some (.dT kvs)):kvs.length <= sizeLine /\ (a == sysModules) = false ∧
  ∃ xs,KT H kvs xs /\ h.DictOfH (tupleKind (yq P w)) a xs:=Ss ok (.inl e)
end
def DGet (H:Hp) (a:Addr) (y:V) (r:Option V):Prop :=
 (∃ kvs k,Rd H a (.dK kvs) /\ y = kV k /\ r = valV kvs k) \/ ∃ kvs k b,Rd H a (.dT kvs) /\ y = .ref b /\ H b = some (.tup (k.map kV)) /\ r = valV kvs k
def DPut (H:Hp) (a:Addr) (y v:V) (H':Hp):Prop :=
 (∃ kvs k,H a = some (.dK kvs) /\ y = kV k /\ kvs.length < sizeLine /\ H' = upd H a (.dK (putK kvs k v))) ∨
 ∃ kvs k b,H a = some (.dT kvs) /\ y = .ref b /\ H b = some (.tup (k.map kV)) /\ kvs.length < sizeLine /\ H' = upd H a (.dT (putK kvs k v))
theorem DGet.k {H:Hp} {a:Addr} {kvs:List (Key × V)} {k:Key} (e:H a = some (.dK kvs)):DGet H a (kV k) (valV kvs k):=.inl ⟨kvs,k,.inl e,rfl,rfl⟩
theorem DGet.t {H:Hp} {a b:Addr} {kvs:List (List Key × V)} {k:List Key} (e:H a = some (.dT kvs)) (eb:H b = some (.tup (k.map kV))):DGet H a (.ref b) (valV kvs k):=.inr ⟨kvs,k,b,.inl e,rfl,eb,rfl⟩
theorem DPut.k {H:Hp} {a:Addr} {kvs:List (Key × V)} {k:Key} {v:V} (e:H a = some (.dK kvs)) (hl:kvs.length < sizeLine):DPut H a (kV k) v (upd H a (.dK (putK kvs k v))):=.inl ⟨kvs,k,e,rfl,hl,rfl⟩
theorem DPut.t {H:Hp} {a b:Addr} {kvs:List (List Key × V)} {k:List Key} {v:V} (e:H a = some (.dT kvs)) (eb:H b = some (.tup (k.map kV))) (hl:kvs.length < sizeLine) :
  DPut H a (.ref b) v (upd H a (.dT (putK kvs k v))):=.inr ⟨kvs,k,b,e,rfl,eb,hl,rfl⟩
section
variable {X:Cx} {pins:List (Addr × Obj)} {σ:St} {H:Hp} {s:Shared} {a:Addr} {y v:V} {u r:Value} {o:Option V} {A:Around} {E:VS7}
theorem Inv.big (I:Inv X pins σ H s):sysModules < s.heap.objs.size:=by
 have h:mainGlobals < s.heap.objs.size:=(I.mod.glob.keeps I.bk).lt
 exact Nat.lt_trans (by decide) h
theorem ut {h':Heap} {t':Nat} {ob:HO} (I:Inv X pins σ H s) (mu:Mut (H a)) (hs:Heap.SameBut a s.heap h') (he:∃ q,h'.get? a = some q) (new:z5 X.prog X.w (upd H a ob) h' a ob) :
  Inv X pins σ (upd H a ob) { s with heap:=h',toks:=t' } :=
 I.write (x:=a) (e:=a) mu (.inl rfl) (fun b q hb z=>(hs.2 b hb).trans z) he new
theorem Td {P:Program} {w:World} {H':Hp} {h':Heap} {kvs:List (Key × V)} {vs:List (Key × Value)} (z:kvs.length <= sizeLine) (hd:(a == sysModules) = false) (rel:KV kvs vs) (dd:h'.DictOf (yq P w) a vs) :
  z5 P w H' h' a (.dK kvs):=⟨z,hd,vs,rel,dd⟩
theorem Xt {H':Hp} {Q:Unit -> Shared -> Prop} (hu:A.units + 1 < cLine) (I:Inv X pins σ H s) (g:DPut H a y v H') (ry:RelV y u) (rv:RelV v r) (h:∀ s',Inv X pins σ H' s' -> Q () s') :
  wpAny (model X.prog X.w) A (setItem (.ref a) u r) Q E s:=by
 rcases g with ⟨kvs,k,e,ey,l,eH⟩ | ⟨kvs,k,b,e,ey,eb,l,eH⟩
 ·subst ey eH
  obtain ⟨z,hd,vs,rel,dd⟩:=Sr I.hok e
  have hz:vs.length <= sizeLine:=by rw [← rel.length]; exact z
  have hl:(putK kvs k v).length <= sizeLine:=by have:=xf kvs k v; omega
  refine wpAny_setItem_pairs (hsz:=hz) (Tb ry) dd fun h' dd' hs=>h _ ?_
  have he:∃ q,h'.get? a = some q:=let ⟨q,_,_,hq,_⟩:=dd'; ⟨q,hq⟩
  exact ut I (by rw [e]; exact True.intro) hs he (Td hl hd (rel.put k rv) dd')
 ·subst ey eH
  cases (show u = Value.ref b from ry)
  obtain ⟨z,hd,xs,rel,dd⟩:=Su I.hok e
  have hz:xs.length <= sizeLine:=by rw [← Paired.length rel]; exact z
  have hl:(putK kvs k v).length <= sizeLine:=by have:=xf kvs k v; omega
  refine wpAny_setItem_heap (hsz:=hz) (tupleKind_room_in1 hu) (Vy I.hok eb) dd fun h' dd' hs=>h _ ?_
  obtain ⟨q,es,ep,hq,h2,h3,h4,_,h5⟩:=dd'
  refine ut I (by rw [e]; exact True.intro) hs ⟨q,hq⟩ ⟨hl,hd,_,(rel.put k eb rv).keeps fun c ys ec=>?_,q,es,ep,hq,h2,h3,h4,h5⟩
  rw [zo (TD ec e (fun z=>nomatch z))]
  exact ec
end
def Sv (td ty tv:TE):TS:=fun D σ H=>tv σ H fun v H1=>td σ H1 fun x H2=>ty σ H2 fun y H3=>∃ a H4,x = .ref a /\ DPut H3 a y v H4 /\ D.nx σ H4
section
variable {X:Cx} {o i e value:Expr} {pos pos' tpos:Pos} {td ty tv:TE}
theorem V6 (hu:X.A.units + 1 < cLine) (ho:PE X o td) (hi:PE X i ty) (hv:PE X value tv) (hs:swapsWith value (some (.Subscript o i pos')) pos.line X.env = pure false) :
  PS X (.Assign [.Subscript o i pos'] value pos) (Sv td ty tv):=by
 intro pins s σ H D I h
 refine wpAny_Assign_Subscript (thn (hv pins s σ H _ I h) fun r s1 ⟨v,H1,I1,rv,q1⟩=>thn (ho pins s1 σ H1 _ I1 q1) fun u s2 ⟨x,H2,I2,rx,q2⟩=>thn (hi pins s2 σ H2 _ I2 q2) fun iv s3 ⟨y,H3,I3,ry,a,H4,ex,g,q3⟩=>?_) hs
 subst ex
 obtain rfl:u = Value.ref a:=rx
 exact Xt hu I3 g ry rv fun s4 I4=>⟨σ,H4,I4,q3⟩
end
theorem WO {P:Program} {w:World} {H:Hp} (h:Heap) (hb:sysModules < h.objs.size):z5 P w H (h.push { cls:=.type "dict",data:=.dict #[] }) h.objs.size (.dK []) :=
 ⟨Nat.zero_le _,beq_eq_false_iff_ne.mpr (Ne.symm (Nat.ne_of_lt hb)),[],.nil,Heap.DictOf.new h⟩
def Te:TE:=fun _ H Q=>∀ p,H p = none -> Q (.ref p) (upd H p (.dK []))
section
variable {X:Cx} {pos:Pos}
theorem WP:PE X (.Dict [] [] pos) Te:=fun pins s σ H Q I h =>
 wpAny_Dict_empty ⟨.ref s.heap.objs.size,_,I.laid (a:=s.heap.objs.size) (o:=.dK []) (t':=s.toks) (fun _ _ q=>Heap.get?_push_of_some _ q) (Nat.le_refl _) (WO s.heap I.big),rfl,h _ (I.hok.fresh (Nat.le_refl _))⟩
end
structure M1 (X:Cx) (o:Expr) (m:Str) (apos:Pos) (e:Expr) (cpos:Pos):Prop where
 base:attributeBase o m X.env (eval o X.env) = eval o X.env
 few:((backTo cpos (starEach [e] X.env)).all (fun x=>!x.1) && (backToKw cpos (keywordEach [] X.env)).all (fun x=>x.1.isSome)
  && decide (([e]:List Expr).length + ([]:List Keyword).length + (if ([]:List Keyword).isEmpty then 0 else 1) < 30)) = true
 line:(apos.endLine == cpos.line) = true
 trees:backTo cpos (starEach [e] X.env) = [(false,eval e X.env)]
structure M2 (X:Cx) (o:Expr) (m:Str) (apos:Pos) (e f:Expr) (cpos:Pos):Prop where
 base:attributeBase o m X.env (eval o X.env) = eval o X.env
 few:((backTo cpos (starEach [e,f] X.env)).all (fun x=>!x.1) && (backToKw cpos (keywordEach [] X.env)).all (fun x=>x.1.isSome)
  && decide (([e,f]:List Expr).length + ([]:List Keyword).length + (if ([]:List Keyword).isEmpty then 0 else 1) < 30)) = true
 line:(apos.endLine == cpos.line) = true
 trees:backTo cpos (starEach [e,f] X.env) = [(false,eval e X.env),(false,eval f X.env)]
end L2
namespace Att
open PySem PySem.W PySem.Calls PyProof.Rows
end Att
namespace L2
open PySem PySem.Spec PyProof.Rows
section
variable {κ:Type} [DecidableEq κ]
theorem WQ {kvs:List (κ × V)} {k:κ} (h:valV kvs k = none):¬ k ∈ kvs.map (·.1):=by
 intro m
 obtain ⟨p,hp,e⟩:=List.mem_map.mp m
 have q:(kvs.any fun kv=>decide (kv.1 = k)) = true:=List.any_eq_true.mpr ⟨p,hp,decide_eq_true e⟩
 rw [xp,h] at q
 exact absurd q (by simp)
theorem Xu:∀ {l:List κ} {k:κ},l.Nodup -> ¬ k ∈ l -> (l ++ [k]).Nodup
 | [],k,_,_=>by simp
 | a :: r,k,h,hk=>by
  obtain ⟨h1,h2⟩:=List.nodup_cons.mp h
  show (a :: (r ++ [k])).Nodup
  refine List.nodup_cons.mpr ⟨fun m=>?_,Xu h2 fun m=>hk (List.mem_cons.mpr (Or.inr m))⟩
  rcases List.mem_append.mp m with q | q
  ·exact h1 q
  ·exact hk (List.mem_cons.mpr (Or.inl (List.mem_singleton.mp q).symm))
theorem V7 {kvs:List (κ × V)} {k:κ} (v:V) (hn:(kvs.map (·.1)).Nodup) (h:valV kvs k = none):((putK kvs k v).map (·.1)).Nodup:=by
 rw [jZ v h,List.map_append]
 exact Xu hn (WQ h)
end
end L2
namespace L3
open PySem PySem.Spec PyProof.Rows L2
open PySem PySem.Spec PyProof.Rows L2 PySem.W
def xj (es:Array DictEntry) (d:Addr) (ep:Nat) (h:Heap):Prop:=∃ o,h.get? d = some o /\ o.ExactDict /\ o.data = .dict es ep
section
variable {prog:Program} {w:World} {A:Around} {E:VS7} {s:Shared} {es:Array DictEntry} {d it:Addr} {ep i:Nat}
theorem xj.typeIs (h:xj es d ep s.heap):s.TypeIs (.ref d) "dict":=let ⟨o,ho,hc,_⟩:=h; ⟨o,ho,hc.1⟩
theorem xj.keep {h h':Heap} (x:xj es d ep h) (e:∀ o,h.get? d = some o -> h'.get? d = some o):xj es d ep h':=let ⟨o,ho,r⟩:=x; ⟨o,e o ho,r⟩
theorem WR {Q:VS7} (hd:(d == sysModules) = false) (hm:xj es d ep s.heap)
  (hQ:Q (.ref s.heap.objs.size) { s with heap:=s.heap.push { cls:=.type "dict_keyiterator",data:=.fields #[.ref d,.int 0 0,.int es.size 0,.int ep 0] } }) :
  wpAny (model prog w) A (pyIter (.ref d)) Q E s:=by
 obtain ⟨o,ho,hc,hdat⟩:=id hm
 have hT:s.TypeIs (.ref d) "dict":=hm.typeIs
 refine wpAny_pyIter_slot hT PySem.F.slot_dict_iter (wpAny_call_entry PySem.F.slot_dict_iter hT PySem.F.entry_dict_iter ?_ (PySem.F.args_dict_iter_1 _))
 unfold Builtin.«dict.__iter__»
 refine wpAny_bind ?_
 unfold Builtin.Dict.dictSlotNone
 refine wpAny_bind (wpAny_notOrdered_dict hT ?_)
 show wpAny _ _ (pure (Value.ref d)) _ _ s
 refine wpAny_pure ?_
 show wpAny _ _ (Builtin.Dict.showsAll d >>= _) _ _ s
 unfold Builtin.Dict.showsAll
 rw [if_neg (by rw [hd]; exact Bool.false_ne_true)]
 refine wpAny_bind (wpAny_pure ?_)
 refine wpAny_bind (wpAny_dictEntries ho hdat ?_)
 refine wpAny_bind (wpAny_dictEpoch ho hdat ?_)
 refine wpAny_bind (wpAny_newObj_type (wpAny_pure ⟨_,rfl,"dict_keyiterator",_,⟨_,Heap.get?_push_size _ rfl,rfl⟩,PySem.F.slot_dict_keyiterator_next.lookup,?_⟩))
 simpa [rawInt] using hQ
theorem WS {Q:Option Value -> Shared -> Prop} (hit:s.heap.IsKeyIter it d i es.size ep) (hm:xj es d ep s.heap) (hlt:i < es.size)
  (hQ:∀ h',h'.IsKeyIter it d (i + 1) es.size ep -> Heap.SameBut it s.heap h' -> Q (some es[i].key) { s with heap:=h' }) :
  wpAny (model prog w) A (pyNext (.ref it)) Q E s:=by
 obtain ⟨o,ho,hc,hd⟩:=id hit
 obtain ⟨od,hod,hcd,hdd⟩:=id hm
 unfold pyNext
 refine wpAny_bind (wpAny_attempt (wpAny_callSpecial?_slot (name:=Str.ofString "__next__") hit.typeIs PySem.F.slot_dict_keyiterator_next
  (wpAny_call_entry PySem.F.slot_dict_keyiterator_next hit.typeIs PySem.F.entry_dict_keyiterator_next ?_ (PySem.F.args_dict_keyiterator_next_1 _))))
 refine wpAny_bind (wpAny_pure ?_)
 refine wpAny_bind ?_
 refine wpAny_bind ?_
 first | refine wpAny_bind (wpAny_typeNameOfWhole_keyiter hit.typeIs (wpAny_pure ?_)) | refine wpAny_bind (wpAny_typeNameOf_keyiter hit.typeIs (wpAny_pure ?_))
 refine wpAny_bind (wpAny_fieldsOf ho hd ?_)
 have hown:Builtin.Dict_items.ownsTuple "dict_keyiterator" = false:=by decide
 simp only [hown,Bool.false_eq_true,if_false]
 show wpAny _ _ (if (Value.ref d == Value.none) = true then _ else _) _ _ s
 rw [if_neg (show ¬ ((Value.ref d == Value.none) = true) from Bool.false_ne_true)]
 refine wpAny_bind (wpAny_pure ?_)
 refine wpAny_bind (wpAny_dictEntries hod hdd ?_)
 rw [if_neg (by simp)]
 refine wpAny_bind (wpAny_pure ?_)
 refine wpAny_bind (wpAny_dictEpoch hod hdd ?_)
 rw [if_neg (by simp)]
 refine wpAny_pure ?_
 simp only [show ¬ ((i:Int) < 0) from by omega,if_false,Int.toNat_natCast,Array.getElem?_eq_getElem hlt]
 refine wpAny_bind ?_
 first | refine wpAny_bind (wpAny_typeNameOfWhole_keyiter hit.typeIs (wpAny_pure ?_)) | refine wpAny_bind (wpAny_typeNameOf_keyiter hit.typeIs (wpAny_pure ?_))
 refine wpAny_bind (wpAny_isOneOf_keyiter hit.typeIs ?_)
 show wpAny _ _ (setField (.ref it) 1 (rawInt ((i:Int) + 1)) >>= _) _ _ s
 refine wpAny_bind (wpAny_setField ho hd (by simp) ?_)
 have hit':(s.heap.update it (Obj.mapFields (·.setIfInBounds 1 (rawInt ((i:Int) + 1))))).IsKeyIter it d (i + 1) es.size ep :=
  ⟨_,Heap.get?_update_self _ ho (Obj.isFreed_of_fields (Obj.data_mapFields hd _)),(Obj.cls_mapFields ..).trans hc,by rw [Obj.data_mapFields hd]; simp [rawInt]⟩
 refine wpAny_bind (wpAny_holding ?_)
 refine wpAny_bind (wpAny_isOneOf_keyiter (s:={ s with heap:=s.heap.update it (Obj.mapFields (·.setIfInBounds 1 (rawInt ((i:Int) + 1)))) }) hit'.typeIs ?_)
 show wpAny _ _ (pure es[i].key) _ _ _
 exact wpAny_pure (wpAny_pure ⟨_,rfl,wpAny_pure (hQ _ hit' (Heap.SameBut.update ..))⟩)
theorem V8 {Q:Option Value -> Shared -> Prop} (hh:A.handled = none) (hit:s.heap.IsKeyIter it d es.size es.size ep) (hm:xj es d ep s.heap)
  (hQ:∀ h',Heap.ExtBut it s.heap h' -> Q none { s with heap:=h' }):wpAny (model prog w) A (pyNext (.ref it)) Q E s:=by
 obtain ⟨o,ho,hc,hd⟩:=id hit
 obtain ⟨od,hod,hcd,hdd⟩:=id hm
 unfold pyNext
 refine wpAny_bind (wpAny_attempt (wpAny_callSpecial?_slot (name:=Str.ofString "__next__") hit.typeIs PySem.F.slot_dict_keyiterator_next
  (wpAny_call_entry PySem.F.slot_dict_keyiterator_next hit.typeIs PySem.F.entry_dict_keyiterator_next ?_ (PySem.F.args_dict_keyiterator_next_1 _))))
 refine wpAny_bind (wpAny_pure ?_)
 refine wpAny_bind ?_
 refine wpAny_bind ?_
 first | refine wpAny_bind (wpAny_typeNameOfWhole_keyiter hit.typeIs (wpAny_pure ?_)) | refine wpAny_bind (wpAny_typeNameOf_keyiter hit.typeIs (wpAny_pure ?_))
 refine wpAny_bind (wpAny_fieldsOf ho hd ?_)
 have hown:Builtin.Dict_items.ownsTuple "dict_keyiterator" = false:=by decide
 simp only [hown,Bool.false_eq_true,if_false]
 show wpAny _ _ (if (Value.ref d == Value.none) = true then _ else _) _ _ s
 rw [if_neg (show ¬ ((Value.ref d == Value.none) = true) from Bool.false_ne_true)]
 refine wpAny_bind (wpAny_pure ?_)
 refine wpAny_bind (wpAny_dictEntries hod hdd ?_)
 rw [if_neg (by simp)]
 refine wpAny_bind (wpAny_pure ?_)
 refine wpAny_bind (wpAny_dictEpoch hod hdd ?_)
 rw [if_neg (by simp)]
 refine wpAny_pure ?_
 simp only [show ¬ ((es.size:Int) < 0) from by omega,if_false,Int.toNat_natCast,Array.getElem?_eq_none (Nat.le_refl es.size)]
 refine wpAny_bind ?_
 first | refine wpAny_bind (wpAny_typeNameOfWhole_keyiter hit.typeIs (wpAny_pure ?_)) | refine wpAny_bind (wpAny_typeNameOf_keyiter hit.typeIs (wpAny_pure ?_))
 show wpAny _ _ (setField (.ref it) 0 .none >>= _) _ _ s
 refine wpAny_bind (wpAny_setField ho hd (by simp) ?_)
 show wpAny _ _ (newExc (.type "StopIteration") [] >>= _) _ _ _
 refine wpAny_bind ?_
 simp only [newExc,newTuple]
 refine wpAny_bind (wpAny_newObj_type ?_ (by size_fits))
 refine wpAny_bind (m:=firstArgMember _ _) (wpAny_of_eq (a:=Value.none) (by first | rfl | (simp only [firstArgMember]; rfl)) ?_)
 refine wpAny_newObj_type ?_ (by size_fits)
 simp only [raiseNew]
 refine wpAny_bind (wpAny_handled ?_)
 rw [show A.in1.handled = none from hh]
 refine wpAny_bind (wpAny_pure (wpAny_throw ?_))
 refine wpAny_bind (wpAny_isInstance (T:="StopIteration") (b:=true) ⟨_,Heap.get?_push_size _ rfl,rfl⟩ isSubtype_stop ?_)
 exact wpAny_pure (hQ _ (((Heap.SameBut.update ..).extBut.push _).push _))
end
def yU (a b:List Int):List Int:=a.map fun i=>b.getD i.toNat 0
theorem Xv {a b:List Int}:(yU a b).length = a.length:=by unfold yU; rw [List.length_map]
theorem Xw {S:Nat} {a b:List Int} (ha:Rng S a) (hb:Rng S b) (hl:b.length = S):Rng S (yU a b):=by
 intro x hx
 obtain ⟨i,hi,rfl⟩:=List.mem_map.mp hx
 have h1:=ha i hi
 have h2:i.toNat < b.length:=by omega
 refine hb _ ?_
 rw [List.getD_eq_getElem?_getD,List.getElem?_eq_getElem h2,Option.getD_some]
 exact List.getElem_mem h2
def Xx (tab:List (List Int)) (i j:Int):Int:=(tab.getD i.toNat []).getD j.toNat 0
def misT (tab:List (List Int)) (i j l:Nat):Prop:=Xx tab (Xx tab i j) l ≠ Xx tab i (Xx tab j l)
def tI (tab:List (List Int)) (i j l:Nat):Prop:=(i < tab.length /\ j < tab.length /\ l < tab.length) /\ misT tab i j l ∧
 ∀ i' j' l':Nat,i' < tab.length -> j' < tab.length -> l' < tab.length -> (i' < i \/ (i' = i /\ (j' < j \/ (j' = j /\ l' < l)))) -> ¬ misT tab i' j' l'
theorem tI.eq {tab:List (List Int)} {i j l i' j' l':Nat} (a:tI tab i j l) (b:tI tab i' j' l'):i = i' /\ j = j' /\ l = l':=by
 have h1:¬ (i' < i \/ (i' = i /\ (j' < j \/ (j' = j /\ l' < l)))):=fun z=>a.2.2 i' j' l' b.1.1 b.1.2.1 b.1.2.2 z b.2.1
 have h2:¬ (i < i' \/ (i = i' /\ (j < j' \/ (j = j' /\ l < l')))):=fun z=>b.2.2 i j l a.1.1 a.1.2.1 a.1.2.2 z a.2.1
 omega
def ZX (K:FG7) (H:Hp) (tab:List (List Int)) (y:V):Prop :=
 (y = .non /\ ∀ i j l:Nat,i < tab.length -> j < tab.length -> l < tab.length -> ¬ misT tab i j l) \/ ∃ i j l:Nat,tI tab i j l /\ zA K H y [(i:Int),(j:Int),(l:Int)]
def FamD (H:Hp) (x:V) (fam:List (List Int)):Prop:=∃ l kvs,x = .ref l /\ H l = some (.dT kvs) /\ kvs.map (·.1) = fam.map (List.map Sum.inl)
def brkD:Option (Nat × Nat × Nat) -> PyData
 | none=>.none
 | some t=>YQ [(t.1:Int),(t.2.1:Int),(t.2.2:Int)]
def BrkO (tab:List (List Int)):Option (Nat × Nat × Nat) -> Prop
 | none=>∀ i j l:Nat,i < tab.length -> j < tab.length -> l < tab.length -> ¬ misT tab i j l
 | some t=>tI tab t.1 t.2.1 t.2.2
theorem BrkO.eq {tab:List (List Int)} {o o':Option (Nat × Nat × Nat)} (a:BrkO tab o) (b:BrkO tab o'):o = o':=by
 cases o with
 | none=>cases o' with
  | none=>rfl
  | some t=>exact absurd b.2.1 (a _ _ _ b.1.1 b.1.2.1 b.1.2.2)
 | some t=>cases o' with
  | none=>exact absurd a.2.1 (b _ _ _ a.1.1 a.1.2.1 a.1.2.2)
  | some t' =>
   obtain ⟨i,j,l⟩:=t
   obtain ⟨i',j',l'⟩:=t'
   obtain ⟨e1,e2,e3⟩:=tI.eq a b
   rw [show i = i' from e1,show j = j' from e2,show l = l' from e3]
theorem ZX.o {K:FG7} {H:Hp} {tab:List (List Int)} {y:V} (h:ZX K H tab y):∃ o,BrkO tab o /\ Dat K H y (brkD o) /\ ((o = none /\ y = .non) \/ ∃ a,y = .ref a):=by
 rcases h with ⟨rfl,h⟩ | ⟨i,j,l,h,hb⟩
 ·exact ⟨none,h,.non,.inl ⟨rfl,rfl⟩⟩
 ·exact ⟨some (i,j,l),h,hb.dat,.inr (let ⟨a,e,_⟩:=hb; ⟨a,e⟩)⟩
theorem ZX.grow {K:FG7} {m:List Addr} {H H':Hp} {tab:List (List Int)} {y:V} (h:ZX K H tab y) (g:Grow m H H'):ZX K H' tab y:=by
 rcases h with h | ⟨i,j,l,h,hb⟩
 ·exact .inl h
 ·exact .inr ⟨i,j,l,h,g.board hb⟩
def TabG (K:FG7) (H:Hp) (y:V) (tab:List (List Int)):Prop:=vJ K H y tab /\ 1 <= tab.length /\ tab.length <= 60 /\ Wu tab.length tab.length tab
def qP (K:FG7) (H:Hp) (z:V):Prop:=∃ t y1 y2 tab,z = .ref t /\ SqT K H t [y1,y2] /\ TabG K H y1 tab /\ ZX K H tab y2
theorem qP.grow {K:FG7} {m:List Addr} {H H':Hp} {z:V} (h:qP K H z) (g:Grow m H H'):qP K H' z:=by
 obtain ⟨t,y1,y2,tab,e,h1,⟨h2,h3⟩,h4⟩:=h
 exact ⟨t,y1,y2,tab,e,g.sqT h1,⟨g.rows h2,h3⟩,h4.grow g⟩
open PySem PySem.Spec PyProof.Rows L2 HT
theorem nd1 {α:Type} {a:α}:[a].Nodup:=List.nodup_cons.mpr ⟨(fun z=>nomatch z),List.nodup_nil⟩
def idL (S:Nat):List Int:=(List.range S).map fun i:Nat=>(i:Int)
abbrev FW:=List (List Int × List Int)
def zV (f:FW):List (List Int):=f.map (·.1)
def yZ (f:FW) (d:List Int):Option (List Int):=(f.find? fun p=>decide (p.1 = d)).map (·.2)
theorem uu {d:List Int}:∀ {f:FW},d ∈ zV f -> ∃ w,yZ f d = some w
 | [],h=>by cases h
 | p :: f,h=>by
  by_cases e:p.1 = d
  ·exact ⟨p.2,by simp [yZ,List.find?_cons,e]⟩
  ·have:d ∈ zV f:=by
    rcases List.mem_cons.mp h with h | h
    ·exact absurd h.symm e
    ·exact h
   obtain ⟨w,hw⟩:=uu this
   exact ⟨w,by simpa [yZ,List.find?_cons,e] using hw⟩
theorem rX {d w:List Int}:∀ {f:FW},yZ f d = some w -> (d,w) ∈ f
 | [],h=>by cases h
 | p :: f,h=>by
  by_cases e:p.1 = d
  ·have h':p.2 = w:=by simpa [yZ,List.find?_cons,e] using h
   exact List.mem_cons.mpr (.inl (by rw [← e,← h']))
  ·exact List.mem_cons.mpr (.inr (rX (by simpa [yZ,List.find?_cons,e] using h)))
theorem ZY {f:FW} {d w:List Int} (h:yZ f d = some w):d ∈ zV f:=List.mem_map.mpr ⟨_,rX h,rfl⟩
theorem qQ {f:FW} {d:List Int} (h:¬ (yZ f d).isSome = true):d ∉ zV f:=fun z=>by
 obtain ⟨w,hw⟩:=uu z
 rw [hw] at h; exact h rfl
def qR (d:List Int) (fm:FW × List (List Int)) (n:Nat) (m:List Int):FW × List (List Int) :=
 if (yZ fm.1 (yU d m)).isSome = true then fm else (fm.1 ++ [(yU d m,(yZ fm.1 d).getD [] ++ [(n:Int)])],fm.2 ++ [yU d m])
def fRow (ms:List (List Int)) (d:List Int):Nat -> FW × List (List Int) -> FW × List (List Int)
 | 0,fm=>fm
 | i + 1,fm=>qR d (fRow ms d i fm) i (ms.getD i [])
def uN (ms last:List (List Int)):Nat -> FW × List (List Int) -> FW × List (List Int)
 | 0,fm=>fm
 | j + 1,fm=>fRow ms (last.getD j []) ms.length (uN ms last j fm)
inductive FamR (ms:List (List Int)):FW -> List (List Int) -> FW -> Prop
 | done {f:FW} {last:List (List Int)}:last = [] \/ 60 < f.length -> FamR ms f last f
 | step {f r:FW} {last:List (List Int)}:last ≠ [] -> f.length <= 60 -> FamR ms (uN ms last last.length (f,[])).1 (uN ms last last.length (f,[])).2 r -> FamR ms f last r
theorem FamR.eq {ms:List (List Int)} {f r:FW} {last:List (List Int)} (a:FamR ms f last r):∀ {r'},FamR ms f last r' -> r = r':=by
 induction a with
 | done h =>
  intro r' b
  cases b with
  | done _=>rfl
  | step h1 h2 _ =>
   rcases h with h | h
   ·exact absurd h h1
   ·omega
 | step h1 h2 _ ih =>
  intro r' b
  cases b with
  | done h =>
   rcases h with h | h
   ·exact absurd h h1
   ·omega
  | step _ _ c=>exact ih c
inductive Word (ms:List (List Int)) (S:Nat):List Int -> Prop
 | id:Word ms S (idL S)
 | more {d m:List Int}:Word ms S d -> m ∈ ms -> Word ms S (yU d m)
def Mks (ms:List (List Int)) (S:Nat):Prop:=∀ m ∈ ms,m.length = S /\ Rng S m
def Dd (S:Nat) (d:List Int):Prop:=d.length = S /\ Rng S d
theorem Tf (S:Nat):Dd S (idL S):=by
 refine ⟨by unfold idL; rw [List.length_map,List.length_range],fun v hv=>?_⟩
 obtain ⟨i,hi,rfl⟩:=List.mem_map.mp hv
 have:=List.mem_range.mp hi
 omega
theorem WT {S:Nat} {a b:List Int} (ha:Dd S a) (hb:Dd S b):Dd S (yU a b):=⟨Xv.trans ha.1,Xw ha.2 hb.2 hb.1⟩
theorem Word.dd {ms:List (List Int)} {S:Nat} (hm:Mks ms S) {d:List Int} (h:Word ms S d):Dd S d:=by
 induction h with
 | id=>exact Tf S
 | more _ h ih=>exact WT ih (hm _ h)
theorem V9 {S:Nat} {i:Int} (h0:0 <= i) (h1:i < S):(idL S).getD i.toNat 0 = i:=by
 have:i.toNat < S:=by omega
 unfold idL
 rw [List.getD_eq_getElem?_getD,List.getElem?_map,List.getElem?_range this]
 show ((i.toNat:Nat):Int) = i
 omega
theorem WU {S:Nat} {a:List Int} (ha:Dd S a):yU a (idL S) = a:=by
 unfold yU
 conv=>rhs; rw [← List.map_id a]
 refine List.map_congr_left fun i hi=>?_
 obtain ⟨h0,h1⟩:=ha.2 i hi
 exact V9 h0 h1
theorem qS {S:Nat} {a b c:List Int} (ha:Dd S a) (hb:b.length = S):yU a (yU b c) = yU (yU a b) c:=by
 unfold yU
 rw [List.map_map]
 refine List.map_congr_left fun i hi=>?_
 obtain ⟨h0,h1⟩:=ha.2 i hi
 have hi':i.toNat < b.length:=by omega
 show (b.map fun i=>c.getD i.toNat 0).getD i.toNat 0 = c.getD (b.getD i.toNat 0).toNat 0
 rw [List.getD_eq_getElem?_getD,List.getElem?_map,List.getElem?_eq_getElem hi',List.getD_eq_getElem?_getD (l:=b),List.getElem?_eq_getElem hi']
 rfl
theorem Word.mul {ms:List (List Int)} {S:Nat} (hm:Mks ms S) {a b:List Int} (ha:Word ms S a) (hb:Word ms S b):Word ms S (yU a b):=by
 induction hb with
 | id=>rw [WU (ha.dd hm)]; exact ha
 | more h1 h2 ih=>rw [qS (ha.dd hm) (h1.dd hm).1]; exact .more ih h2
def Ex (fm fm':FW × List (List Int)):Prop:=∃ g:FW,fm'.1 = fm.1 ++ g /\ fm'.2 = fm.2 ++ zV g
theorem Ex.refl (fm:FW × List (List Int)):Ex fm fm:=⟨[],by rw [List.append_nil],by show _ = _ ++ []; rw [List.append_nil]⟩
theorem Ex.trans {a b c:FW × List (List Int)} (h:Ex a b) (k:Ex b c):Ex a c:=by
 obtain ⟨g,h1,h2⟩:=h
 obtain ⟨g',k1,k2⟩:=k
 exact ⟨g ++ g',by rw [k1,h1,List.append_assoc],by rw [k2,h2,List.append_assoc]; unfold zV; rw [List.map_append]⟩
theorem Ex.keys {a b:FW × List (List Int)} (h:Ex a b) {d:List Int} (hd:d ∈ zV a.1):d ∈ zV b.1:=by
 obtain ⟨g,h1,_⟩:=h
 unfold zV at *
 rw [h1,List.map_append]
 exact List.mem_append.mpr (.inl hd)
theorem j4 {d m:List Int} {fm:FW × List (List Int)} {n:Nat}:Ex fm (qR d fm n m):=by
 unfold qR
 split
 ·exact Ex.refl fm
 ·exact ⟨[_],rfl,rfl⟩
theorem qT {ms:List (List Int)} {d:List Int} {fm:FW × List (List Int)}:∀ i,Ex fm (fRow ms d i fm)
 | 0=>Ex.refl fm
 | i + 1=>(qT i).trans j4
theorem Za {ms last:List (List Int)} {fm:FW × List (List Int)}:∀ j,Ex fm (uN ms last j fm)
 | 0=>Ex.refl fm
 | j + 1=>(Za j).trans (qT _)
theorem WV {d m:List Int} {fm:FW × List (List Int)} {n:Nat}:yU d m ∈ zV (qR d fm n m).1:=by
 unfold qR
 split
 ·rename_i h
  obtain ⟨w,hw⟩:=Option.isSome_iff_exists.mp h
  exact ZY hw
 ·unfold zV; rw [List.map_append]; exact List.mem_append.mpr (.inr (List.mem_singleton.mpr rfl))
theorem Xy {ms:List (List Int)} {d:List Int} {fm:FW × List (List Int)}:∀ i,∀ k < i,yU d (ms.getD k []) ∈ zV (fRow ms d i fm).1
 | 0,_,h=>by cases h
 | i + 1,k,h=>by
  by_cases e:k = i
  ·rw [e]; exact WV
  ·exact j4.keys (Xy i k (by omega))
theorem Zb {ms last:List (List Int)} {fm:FW × List (List Int)}:∀ j,∀ k < j,∀ i < ms.length,yU (last.getD k []) (ms.getD i []) ∈ zV (uN ms last j fm).1
 | 0,_,h,_,_=>by cases h
 | j + 1,k,h,i,hi=>by
  by_cases e:k = j
  ·rw [e]; exact Xy _ i hi
  ·exact (qT _).keys (Zb j k (by omega) i hi)
structure GoodF (ms:List (List Int)) (S:Nat) (f:FW):Prop where
 nd:(zV f).Nodup
 wd:∀ d ∈ zV f,Word ms S d
theorem ZZ {ms:List (List Int)} {S:Nat} {d m:List Int} {fm:FW × List (List Int)} {n:Nat} (h:GoodF ms S fm.1) (hd:Word ms S d) (hm:m ∈ ms):GoodF ms S (qR d fm n m).1:=by
 unfold qR
 split
 ·exact h
 ·rename_i c
  have hn:=qQ c
  refine ⟨?_,fun z hz=>?_⟩
  ·show (zV (fm.1 ++ [_])).Nodup
   unfold zV at hn ⊢
   rw [List.map_append]
   refine List.nodup_append.mpr ⟨h.nd,nd1,fun a ha b hb e=>?_⟩
   rw [e,List.mem_singleton.mp hb] at ha
   exact hn ha
  ·unfold zV at hz
   rw [List.map_append] at hz
   rcases List.mem_append.mp hz with hz | hz
   ·exact h.wd z hz
   ·rw [List.mem_singleton.mp hz]; exact .more hd hm
theorem Zc {ms:List (List Int)} {i:Nat} (h:i < ms.length):ms.getD i [] ∈ ms:=by
 rw [List.getD_eq_getElem?_getD,List.getElem?_eq_getElem h]; exact List.getElem_mem h
theorem rY {ms:List (List Int)} {S:Nat} {d:List Int} {fm:FW × List (List Int)} (h:GoodF ms S fm.1) (hd:Word ms S d):∀ i,i <= ms.length -> GoodF ms S (fRow ms d i fm).1
 | 0,_=>h
 | i + 1,hi=>ZZ (rY h hd i (by omega)) hd (Zc (by omega))
theorem tJ {ms last:List (List Int)} {S:Nat} {fm:FW × List (List Int)} (h:GoodF ms S fm.1) (hd:∀ d ∈ last,Word ms S d):∀ j,j <= last.length -> GoodF ms S (uN ms last j fm).1
 | 0,_=>h
 | j + 1,hj=>rY (tJ h hd j (by omega)) (hd _ (Zc (by omega))) _ (Nat.le_refl _)
structure LI (ms:List (List Int)) (S:Nat) (f:FW) (last:List (List Int)):Prop where
 good:GoodF ms S f
 idk:idL S ∈ zV f
 sub:∀ d ∈ last,d ∈ zV f
 len:last.length <= f.length
 cl:∀ d ∈ zV f,d ∉ last -> ∀ m ∈ ms,yU d m ∈ zV f
 hd:f.head? = some (idL S,[])
theorem LI.init (ms:List (List Int)) (S:Nat):LI ms S [(idL S,[])] [idL S] where
 good:=⟨nd1,fun d hd=>by rw [List.mem_singleton.mp hd]; exact .id⟩
 idk:=List.mem_singleton.mpr rfl
 sub:=fun d hd=>hd
 len:=Nat.le_refl _
 cl:=fun d hd hn=>absurd hd hn
 hd:=rfl
theorem Zd {l:List (List Int)} {d:List Int} (h:d ∈ l):∃ k < l.length,l.getD k [] = d:=by
 obtain ⟨k,hk,e⟩:=List.mem_iff_getElem.mp h
 exact ⟨k,hk,by rw [List.getD_eq_getElem?_getD,List.getElem?_eq_getElem hk]; exact e⟩
theorem LI.pass {ms last:List (List Int)} {S:Nat} {f:FW} (h:LI ms S f last):LI ms S (uN ms last last.length (f,[])).1 (uN ms last last.length (f,[])).2:=by
 have hE:Ex (f,[]) (uN ms last last.length (f,[])):=Za _
 have hI:=fun k hk i hi=>Zb (ms:=ms) (last:=last) (fm:=(f,[])) last.length k hk i hi
 have hG:=tJ (last:=last) (fm:=(f,[])) h.good (fun d hd=>h.good.wd d (h.sub d hd)) last.length (Nat.le_refl _)
 revert hE hI hG
 generalize uN ms last last.length (f,[]) = fm
 intro hE hI hG
 obtain ⟨g,e1,e2⟩:=id hE
 rw [List.nil_append] at e2
 have ek:zV fm.1 = zV f ++ zV g:=by rw [e1]; unfold zV; rw [List.map_append]
 refine ⟨hG,hE.keys h.idk,fun d hd=>?_,?_,fun d hd hn m hm=>?_,?_⟩
 ·rw [ek]; rw [e2] at hd; exact List.mem_append.mpr (.inr hd)
 ·rw [e2,e1,List.length_append]; unfold zV; rw [List.length_map]; omega
 ·rw [ek] at hd
  rcases List.mem_append.mp hd with hd | hd
  ·by_cases w:d ∈ last
   ·obtain ⟨k,hk,rfl⟩:=Zd w
    obtain ⟨i,hi,rfl⟩:=Zd hm
    exact hI k hk i hi
   ·exact hE.keys (h.cl d hd w m hm)
  ·rw [e2] at hn; exact absurd hd hn
 ·rw [e1,List.head?_append,h.hd]; rfl
structure FamOk (ms:List (List Int)) (S:Nat) (r:FW):Prop where
 good:GoodF ms S r
 idk:idL S ∈ zV r
 cl:r.length <= 60 -> ∀ d ∈ zV r,∀ m ∈ ms,yU d m ∈ zV r
 hd:r.head? = some (idL S,[])
theorem FamR.ok {ms last:List (List Int)} {S:Nat} {f r:FW} (a:FamR ms f last r) (h:LI ms S f last):FamOk ms S r:=by
 induction a with
 | done c =>
  refine ⟨h.good,h.idk,fun hl d hd m hm=>?_,h.hd⟩
  rcases c with rfl | c
  ·exact h.cl d hd (fun z=>by cases z) m hm
  ·omega
 | step _ _ _ ih=>exact ih h.pass
def FamL (ms:List (List Int)) (S:Nat) (r:FW):Prop:=FamR ms [(idL S,[])] [idL S] r
theorem FamL.ok {ms:List (List Int)} {S:Nat} {r:FW} (h:FamL ms S r):FamOk ms S r:=FamR.ok h (LI.init ms S)
def Few (ms:List (List Int)) (S:Nat):Prop:=∃ l:List (List Int),l.length <= 60 /\ ∀ d,Word ms S d -> d ∈ l
theorem FamOk.all {ms:List (List Int)} {S:Nat} {r:FW} (h:FamOk ms S r) (hl:r.length <= 60) {d:List Int} (hd:Word ms S d):d ∈ zV r:=by
 induction hd with
 | id=>exact h.idk
 | more _ hm ih=>exact h.cl hl _ ih _ hm
theorem FamOk.few {ms:List (List Int)} {S:Nat} {r:FW} (h:FamOk ms S r) (hl:r.length <= 60):Few ms S:=⟨zV r,by unfold zV; rw [List.length_map]; exact hl,fun _ hd=>h.all hl hd⟩
theorem sF:∀ {l l':List (List Int)},l.Nodup -> (∀ x ∈ l,x ∈ l') -> l.length <= l'.length
 | [],_,_,_=>Nat.zero_le _
 | a :: l,l',hn,h=>by
  have ha:a ∈ l':=h a (List.mem_cons.mpr (.inl rfl))
  obtain ⟨h1,h2⟩:=List.nodup_cons.mp hn
  have:=sF (l:=l) (l':=l'.erase a) h2 fun x hx=>(List.mem_erase_of_ne (fun e=>h1 (by rw [← e]; exact hx))).mpr (h x (List.mem_cons.mpr (.inr hx)))
  rw [List.length_erase_of_mem ha] at this
  have:0 < l'.length:=List.length_pos_of_mem ha
  rw [List.length_cons]; omega
theorem FamOk.le {ms:List (List Int)} {S:Nat} {r:FW} (h:FamOk ms S r) (hf:Few ms S):r.length <= 60:=by
 obtain ⟨l,hl,hw⟩:=hf
 have:=sF h.good.nd fun d hd=>hw d (h.good.wd d hd)
 unfold zV at this
 rw [List.length_map] at this
 omega
def KeyB (H:Hp) (y:V) (row:List Int):Prop:=∃ b,y = .ref b /\ H b = some (.tup (row.map V.int))
theorem KeyB.board {K:FG7} {H:Hp} {y:V} {row:List Int} (h:KeyB H y row):zA K H y row:=let ⟨b,e,hb⟩:=h; ⟨b,e,SqT.of hb⟩
theorem KeyB.grow {m:List Addr} {H H':Hp} {y:V} {row:List Int} (h:KeyB H y row) (g:Grow m H H'):KeyB H' y row:=let ⟨b,e,hb⟩:=h; ⟨b,e,g.tup _ _ hb⟩
def kI (d:List Int):List Key:=d.map Sum.inl
theorem Vz:∀ {a b:List Int},kI a = kI b -> a = b
 | [],[],_=>rfl
 | [],_ :: _,e=>by cases e
 | _ :: _,[],e=>by cases e
 | x :: a,y :: b,e=>by
  unfold kI at e
  rw [List.map_cons,List.map_cons] at e
  injection e with e1 e2
  rw [Sum.inl.inj e1,Vz e2]
def KvF (K:FG7) (H:Hp):List (List Key × V) -> FW -> Prop
 | [],[]=>True
 | p :: kvs,q :: f=>(p.1 = kI q.1 /\ zA K H p.2 q.2) /\ KvF K H kvs f
 | _,_=>False
section
variable {K:FG7} {H H':Hp} {m:List Addr}
theorem KvF.len:∀ {kvs:List (List Key × V)} {f:FW},KvF K H kvs f -> kvs.length = f.length
 | [],[],_=>rfl
 | _ :: _,_ :: _,h=>by rw [List.length_cons,List.length_cons,KvF.len h.2]
 | [],_ :: _,h=>h.elim
 | _ :: _,[],h=>h.elim
theorem KvF.keys:∀ {kvs:List (List Key × V)} {f:FW},KvF K H kvs f -> kvs.map (·.1) = (zV f).map (List.map Sum.inl)
 | [],[],_=>rfl
 | p :: kvs,q :: f,h=>by
  show p.1 :: kvs.map (·.1) = q.1.map Sum.inl :: (zV f).map (List.map Sum.inl)
  rw [KvF.keys h.2,h.1.1]; rfl
 | [],_ :: _,h=>h.elim
 | _ :: _,[],h=>h.elim
theorem KvF.grow (g:Grow m H H'):∀ {kvs:List (List Key × V)} {f:FW},KvF K H kvs f -> KvF K H' kvs f
 | [],[],_=>trivial
 | _ :: _,_ :: _,h=>⟨⟨h.1.1,g.board h.1.2⟩,KvF.grow g h.2⟩
 | [],_ :: _,h=>h.elim
 | _ :: _,[],h=>h.elim
theorem KvF.app:∀ {kvs:List (List Key × V)} {f:FW} {kvs':List (List Key × V)} {f':FW},KvF K H kvs f -> KvF K H kvs' f' -> KvF K H (kvs ++ kvs') (f ++ f')
 | [],[],_,_,_,k=>k
 | _ :: _,_ :: _,_,_,h,k=>⟨h.1,KvF.app h.2 k⟩
 | [],_ :: _,_,_,h,_=>h.elim
 | _ :: _,[],_,_,h,_=>h.elim
theorem KvF.val (d:List Int):∀ {kvs:List (List Key × V)} {f:FW},KvF K H kvs f -> (∃ v w,valV kvs (kI d) = some v /\ yZ f d = some w /\ zA K H v w) \/ (valV kvs (kI d) = none /\ yZ f d = none)
 | [],[],_=>.inr ⟨rfl,rfl⟩
 | p :: kvs,q :: f,h=>by
  by_cases e:q.1 = d
  ·exact .inl ⟨p.2,q.2,yn (by rw [h.1.1,e]),by simp [yZ,List.find?_cons,e],h.1.2⟩
  ·have e':¬ p.1 = kI d:=fun z=>e (Vz (h.1.1.symm.trans z))
   have ew:yZ (q :: f) d = yZ f d:=by simp [yZ,List.find?_cons,e]
   rw [yg e',ew]
   exact KvF.val d h.2
 | [],_ :: _,h=>h.elim
 | _ :: _,[],h=>h.elim
end
theorem Mks.take {ms:List (List Int)} {S n:Nat} (h:Mks ms S):Mks (ms.take n) S:=fun m hm=>h m (List.mem_of_mem_take hm)
def FamW (K:FG7) (H:Hp) (y:V) (f:FW):Prop:=∃ l kvs,y = .ref l /\ H l = some (.dT kvs) /\ KvF K H kvs f
theorem FamW.d {K:FG7} {H:Hp} {y:V} {f:FW} (h:FamW K H y f):FamD H y (zV f):=let ⟨l,kvs,e,hl,hk⟩:=h; ⟨l,kvs,e,hl,hk.keys⟩
def DRaw (prog:Program) (w:World) (Hb:Hp) (h:Heap) (D:Addr) (o:Obj) (kvs:List (List Key × V)):Prop :=
 kvs.length <= sizeLine /\ (D == sysModules) = false /\ ∃ xs:List (List Key × Addr × Value),KT Hb kvs xs /\ ∃ es ep,h.get? D = some o /\ o.ExactDict /\ o.data = .dict es ep /\ es.toList = xs.map (entryOfKey (tupleKind (yq prog w))) /\ (xs.map (·.1)).Nodup
theorem DRaw.at {prog:Program} {w:World} {Hb:Hp} {h h':Heap} {D:Addr} {o:Obj} {kvs:List (List Key × V)} (r:DRaw prog w Hb h D o kvs) (e:h'.get? D = some o):DRaw prog w Hb h' D o kvs :=
 let ⟨z,y,xs,k,es,ep,_,h2,h3,h4,h5⟩:=r; ⟨z,y,xs,k,es,ep,e,h2,h3,h4,h5⟩
theorem DRaw.obj {prog:Program} {w:World} {Hb H':Hp} {h:Heap} {D:Addr} {o:Obj} {kvs:List (List Key × V)} (r:DRaw prog w Hb h D o kvs) (hk:∀ b xs,Hb b = some (.tup xs) -> H' b = some (.tup xs)):z5 prog w H' h D (.dT kvs) :=
 let ⟨z,y,xs,k,es,ep,h1,h2,h3,h4,h5⟩:=r; ⟨z,y,xs,k.keeps hk,o,es,ep,h1,h2,h3,h4,h5⟩
theorem DRaw.nocell {prog:Program} {w:World} {Hb:Hp} {h:Heap} {D:Addr} {o:Obj} {kvs:List (List Key × V)} (r:DRaw prog w Hb h D o kvs) (v:Option Value):o.data ≠ .cell v:=by
 obtain ⟨_,_,_,_,es,ep,_,_,h3,_⟩:=r
 rw [h3]; intro z; cases z
section
variable {prog:Program} {w:World} {A:Around} {E:VS7} {s:Shared} {es:Array DictEntry} {d it r:Addr} {ep i:Nat} {ok ov:Value}
theorem WW {Q:VS7} (lo:(d == sysModules) = false) (hm:xj es d ep s.heap) (q:Q (.ref s.heap.objs.size) { s with heap:=s.heap.push { cls:=.type "dict_items",data:=.fields #[.ref d] } }) :
  wpAny (model prog w) A (call (.builtin "dict.items") [.ref d]) Q E s:=by
 have hT:s.TypeIs (.ref d) "dict":=hm.typeIs
 refine wpAny_call_entry PySem.F.slot_dict_items hT PySem.F.entry_dict_items ?_ (PySem.F.args_dict_items_1 _)
 unfold Builtin.«dict.items»
 refine wpAny_bind ?_
 unfold Builtin.Dict.noArgs
 refine wpAny_bind (wpAny_notOrdered_dict hT (show wpAny _ _ (pure d) _ _ s from wpAny_pure ?_))
 show wpAny _ _ (Builtin.Dict.showsAll d >>= _) _ _ s
 unfold Builtin.Dict.showsAll
 rw [if_neg (by rw [lo]; exact Bool.false_ne_true)]
 exact wpAny_bind (wpAny_pure (wpAny_bind (wpAny_newObj_type (wpAny_pure ⟨_,rfl,q⟩))))
theorem WX {Q:VS7} (hv:s.heap.IsItemsView r d) (hm:xj es d ep s.heap)
  (hQ:Q (.ref s.heap.objs.size) { s with heap:=s.heap.push { cls:=.type "dict_itemiterator",data:=.fields #[.none,.bool false,.ref d,.int 0 0,.int es.size 0,.int ep 0,.none,.none] } }) :
  wpAny (model prog w) A (pyIter (.ref r)) Q E s:=by
 obtain ⟨o1,h1,c1,d1⟩:=id hv
 obtain ⟨o,ho,hc,hdat⟩:=id hm
 refine wpAny_pyIter_slot hv.typeIs PySem.F.slot_dict_items_iter (wpAny_call_entry PySem.F.slot_dict_items_iter hv.typeIs PySem.F.entry_dict_items_iter ?_ (PySem.F.args_dict_items_iter_1 _))
 unfold Builtin.«dict_items.__iter__»
 refine wpAny_bind (wpAny_pure (wpAny_bind ?_))
 unfold Builtin.Dict_items.dictOf
 refine wpAny_bind (wpAny_field h1 d1 (x:=.ref d) rfl (wpAny_pure (wpAny_bind ?_)))
 unfold Builtin.Dict_items.newIterator
 refine wpAny_bind (wpAny_dictEntries ho hdat (wpAny_bind (wpAny_dictEpoch ho hdat ?_)))
 have own:Builtin.Dict_items.ownsTuple "dict_itemiterator" = true:=by decide
 simp only [own,if_true]
 refine wpAny_newObj_type (wpAny_pure ⟨_,rfl,"dict_itemiterator",_,⟨_,Heap.get?_push_size _ rfl,rfl⟩,PySem.F.slot_dict_itemiterator_next.lookup,?_⟩)
  (by simp only [sizeOk,Builtin.Dict_items.ownedTupleFields,List.size_toArray,List.length_append,List.length_cons,List.length_nil,sizeLine_eq]; omega)
 simpa [rawInt,Builtin.Dict_items.ownedTupleFields] using hQ
theorem WY {Q:Option Value -> Shared -> Prop} (hit:IsItemIter s.heap it d i es.size ep ok ov) (hm:xj es d ep s.heap) (hlt:i < es.size)
  (hQ:∀ h',IsItemIterOut h' it d (i + 1) es.size ep es[i].key es[i].val s.heap.objs.size -> h'.get? s.heap.objs.size = some { cls:=.type "tuple",data:=.seq #[es[i].key,es[i].val] } →
   (∀ b o,b ≠ it -> s.heap.get? b = some o -> h'.get? b = some o) -> Q (some (.ref s.heap.objs.size)) { s with heap:=h' }) :
  wpAny (model prog w) A (pyNext (.ref it)) Q E s:=by
 obtain ⟨hp,g,dr,tk,os⟩:=s
 obtain ⟨od,hod,hcd,hdd⟩:=id hm
 have hT:Shared.TypeIs ⟨hp,g,dr,tk,os⟩ (.ref it) "dict_itemiterator":=⟨_,hit,rfl⟩
 unfold pyNext
 refine wpAny_bind (wpAny_attempt (wpAny_callSpecial?_slot (name:=Str.ofString "__next__") hT PySem.F.slot_dict_itemiterator_next
  (wpAny_call_entry PySem.F.slot_dict_itemiterator_next hT PySem.F.entry_dict_itemiterator_next ?_ (PySem.F.args_dict_itemiterator_next_1 _))))
 refine wpAny_bind (wpAny_pure (wpAny_bind (wpAny_bind ?_)))
 first | refine wpAny_bind (wpAny_typeNameOfWhole_itemiter hT (wpAny_pure ?_)) | refine wpAny_bind (wpAny_typeNameOf_itemiter hT (wpAny_pure ?_))
 refine wpAny_bind (wpAny_fieldsOf hit rfl ?_)
 have own:Builtin.Dict_items.ownsTuple "dict_itemiterator" = true:=by decide
 simp only [own,if_true]
 show wpAny _ _ (if (Value.ref d == Value.none) = true then _ else _) _ _ _
 rw [if_neg (show ¬ ((Value.ref d == Value.none) = true) from Bool.false_ne_true)]
 refine wpAny_bind (wpAny_pure (wpAny_bind (wpAny_dictEntries hod hdd ?_)))
 rw [if_neg (by simp)]
 refine wpAny_bind (wpAny_pure (wpAny_bind (wpAny_dictEpoch hod hdd ?_)))
 rw [if_neg (by simp)]
 refine wpAny_pure ?_
 simp only [show ¬ ((i:Int) < 0) from by omega,if_false,Int.toNat_natCast,Array.getElem?_eq_getElem hlt]
 refine wpAny_bind ?_
 first | refine wpAny_bind (wpAny_typeNameOfWhole_itemiter hT (wpAny_pure ?_)) | refine wpAny_bind (wpAny_typeNameOf_itemiter hT (wpAny_pure ?_))
 refine wpAny_bind (wpAny_isOneOf_itemiter hT ?_)
 show wpAny _ _ (setField (.ref it) 3 (rawInt ((i:Int) + 1)) >>= _) _ _ ⟨hp,g,dr,tk,os⟩
 refine wpAny_bind (wpAny_setField_rec hit (by simp) fun h1 he1 hs1=>?_)
 replace hs1:Heap.SameBut it hp h1:=hs1
 replace he1:IsItemIter h1 it d (i + 1) es.size ep ok ov:=by
  have e:((i + 1:Nat):Int) = (i:Int) + 1:=by omega
  unfold IsItemIter; rw [e]; simpa [rawInt] using he1
 have hT1:Shared.TypeIs ⟨h1,g,dr,tk,os⟩ (.ref it) "dict_itemiterator":=⟨_,he1,rfl⟩
 refine wpAny_bind (wpAny_holding (wpAny_bind (wpAny_isOneOf_itemiter hT1 (wpAny_bind (wpAny_isOneOf_itemiter hT1 ?_)))))
 show wpAny _ _ (Builtin.Dict_items.pairFromOwner (.ref it) 6 es[i].key es[i].val) _ _ ⟨h1,g,dr,tk,os⟩
 unfold Builtin.Dict_items.pairFromOwner
 refine wpAny_bind (wpAny_newTuple ?_)
 have he2:IsItemIter (h1.push { cls:=.type "tuple",data:=.seq #[es[i].key,es[i].val] }) it d (i + 1) es.size ep ok ov:=Heap.get?_push_of_some _ he1
 generalize hh2:h1.push { cls:=.type "tuple",data:=.seq #[es[i].key,es[i].val] } = h2 at he2
 have hz1:h1.objs.size = hp.objs.size:=hs1.1
 have hil:it < hp.objs.size:=Heap.lt_size hit
 have ht2:h2.get? hp.objs.size = some { cls:=.type "tuple",data:=.seq #[es[i].key,es[i].val] }:=by rw [← hh2,← hz1]; exact Heap.get?_push_size _ rfl
 have hk2:∀ b o,b ≠ it -> hp.get? b = some o -> h2.get? b = some o:=fun b o hb e=>by rw [← hh2]; exact Heap.get?_push_of_some _ (hs1.extBut b o hb e)
 show wpAny _ _ (Builtin.Dict_items.ownedTupleIsFree (.ref it) >>= _) _ _ ⟨h2,g,dr,tk,os⟩
 rw [hz1]
 clear hh2 he1 hs1 hT1 hz1 h1
 refine wpAny_bind ?_
 unfold Builtin.Dict_items.ownedTupleIsFree
 refine wpAny_bind (wpAny_field he2 rfl (x:=.none) rfl (wpAny_pure ?_))
 simp only [if_true]
 refine wpAny_bind (wpAny_field he2 rfl (x:=ok) rfl (wpAny_bind (wpAny_field he2 rfl (x:=ov) rfl ?_)))
 refine wpAny_bind (wpAny_setField_rec he2 (by simp) fun h3 he3 hs3=>?_)
 replace hs3:Heap.SameBut it h2 h3:=hs3
 replace he3:IsItemIter h3 it d (i + 1) es.size ep es[i].key ov:=he3
 refine wpAny_bind (wpAny_setField_rec he3 (by simp) fun h4 he4 hs4=>?_)
 replace hs4:Heap.SameBut it h3 h4:=hs4
 replace he4:IsItemIter h4 it d (i + 1) es.size ep es[i].key es[i].val:=he4
 refine wpAny_bind (wpAny_setField_rec he4 (by simp) fun h5 he5 hs5=>?_)
 replace hs5:Heap.SameBut it h4 h5:=hs5
 replace he5:IsItemIterOut h5 it d (i + 1) es.size ep es[i].key es[i].val hp.objs.size:=he5
 refine wpAny_bind (wpAny_setField_rec he5 (by simp) fun h6 he6 hs6=>?_)
 replace hs6:Heap.SameBut it h5 h6:=hs6
 replace he6:IsItemIterOut h6 it d (i + 1) es.size ep es[i].key es[i].val hp.objs.size:=he6
 have keep:∀ b o,b ≠ it -> h2.get? b = some o -> h6.get? b = some o:=fun b o hb e=>hs6.extBut b o hb (hs5.extBut b o hb (hs4.extBut b o hb (hs3.extBut b o hb e)))
 exact wpAny_bind (wpAny_letGo (wpAny_pure (wpAny_pure ⟨_,rfl,wpAny_pure (hQ h6 he6 (keep _ _ (Nat.ne_of_gt hil) ht2) fun b o hb e=>keep b o hb (hk2 b o hb e))⟩)))
theorem Ua {Q:Option Value -> Shared -> Prop} (hh:A.handled = none) (hit:IsItemIter s.heap it d es.size es.size ep ok ov) (hm:xj es d ep s.heap)
  (hQ:∀ h',Heap.ExtBut it s.heap h' -> Q none { s with heap:=h' }):wpAny (model prog w) A (pyNext (.ref it)) Q E s:=by
 obtain ⟨od,hod,hcd,hdd⟩:=id hm
 have hT:s.TypeIs (.ref it) "dict_itemiterator":=⟨_,hit,rfl⟩
 unfold pyNext
 refine wpAny_bind (wpAny_attempt (wpAny_callSpecial?_slot (name:=Str.ofString "__next__") hT PySem.F.slot_dict_itemiterator_next
  (wpAny_call_entry PySem.F.slot_dict_itemiterator_next hT PySem.F.entry_dict_itemiterator_next ?_ (PySem.F.args_dict_itemiterator_next_1 _))))
 refine wpAny_bind (wpAny_pure (wpAny_bind (wpAny_bind ?_)))
 first | refine wpAny_bind (wpAny_typeNameOfWhole_itemiter hT (wpAny_pure ?_)) | refine wpAny_bind (wpAny_typeNameOf_itemiter hT (wpAny_pure ?_))
 refine wpAny_bind (wpAny_fieldsOf hit rfl ?_)
 have own:Builtin.Dict_items.ownsTuple "dict_itemiterator" = true:=by decide
 simp only [own,if_true]
 show wpAny _ _ (if (Value.ref d == Value.none) = true then _ else _) _ _ s
 rw [if_neg (show ¬ ((Value.ref d == Value.none) = true) from Bool.false_ne_true)]
 refine wpAny_bind (wpAny_pure (wpAny_bind (wpAny_dictEntries hod hdd ?_)))
 rw [if_neg (by simp)]
 refine wpAny_bind (wpAny_pure (wpAny_bind (wpAny_dictEpoch hod hdd ?_)))
 rw [if_neg (by simp)]
 refine wpAny_pure ?_
 simp only [show ¬ ((es.size:Int) < 0) from by omega,if_false,Int.toNat_natCast,Array.getElem?_eq_none (Nat.le_refl es.size)]
 refine wpAny_bind ?_
 first | refine wpAny_bind (wpAny_typeNameOfWhole_itemiter hT (wpAny_pure ?_)) | refine wpAny_bind (wpAny_typeNameOf_itemiter hT (wpAny_pure ?_))
 show wpAny _ _ (setField (.ref it) 2 .none >>= _) _ _ s
 refine wpAny_bind (wpAny_setField hit rfl (by simp) ?_)
 show wpAny _ _ (newExc (.type "StopIteration") [] >>= _) _ _ _
 refine wpAny_bind ?_
 simp only [newExc,newTuple]
 refine wpAny_bind (wpAny_newObj_type ?_ (by size_fits))
 refine wpAny_bind (m:=firstArgMember _ _) (wpAny_of_eq (a:=Value.none) (by first | rfl | (simp only [firstArgMember]; rfl)) ?_)
 refine wpAny_newObj_type ?_ (by size_fits)
 simp only [raiseNew]
 refine wpAny_bind (wpAny_handled ?_)
 rw [show A.in1.handled = none from hh]
 refine wpAny_bind (wpAny_pure (wpAny_throw ?_))
 refine wpAny_bind (wpAny_isInstance (T:="StopIteration") (b:=true) ⟨_,Heap.get?_push_size _ rfl,rfl⟩ isSubtype_stop ?_)
 exact wpAny_pure (hQ _ (((Heap.SameBut.update ..).extBut.push _).push _))
end
theorem Z0:entryFor table "dict_itemiterator.__iter__" = some Builtin.«dict_keyiterator.__iter__»:=entryFor_alias (id':="dict_keyiterator.__iter__") (by kernel_rfl) rfl (by decide +kernel) (by kernel_rfl)
theorem rZ {α β:Type} {R:α -> β -> Prop}:∀ {as:List α} {bs:List β} {i:Nat} {b:β},Paired R as bs -> bs[i]? = some b -> ∃ a,as[i]? = some a /\ R a b
 | _,_,0,_,.cons r _,e=>⟨_,rfl,by cases Option.some.inj e; exact r⟩
 | _,_,i + 1,_,.cons _ t,e=>rZ (i:=i) t e
def misH (ds tab:List (List Int)) (i j:Nat):Prop:=ds.getD (Xx tab i j).toNat [] ≠ yU (ds.getD i []) (ds.getD j [])
def tK (R:Nat) (ds tab:List (List Int)) (i j:Nat):Prop:=(i < R /\ j < R) /\ misH ds tab i j /\ ∀ i' j':Nat,i' < R -> j' < R -> (i' < i \/ (i' = i /\ j' < j)) -> ¬ misH ds tab i' j'
theorem tK.eq {R:Nat} {ds tab:List (List Int)} {i j i' j':Nat} (a:tK R ds tab i j) (b:tK R ds tab i' j'):i = i' /\ j = j':=by
 have h1:¬ (i' < i \/ (i' = i /\ j' < j)):=fun z=>a.2.2 i' j' b.1.1 b.1.2 z b.2.1
 have h2:¬ (i < i' \/ (i = i' /\ j < j')):=fun z=>b.2.2 i j a.1.1 a.1.2 z a.2.1
 omega
def Z1 (K:FG7) (H:Hp) (R:Nat) (ds tab:List (List Int)) (y:V):Prop :=
 (y = .non /\ ∀ i j:Nat,i < R -> j < R -> ¬ misH ds tab i j) \/ ∃ i j:Nat,tK R ds tab i j /\ zA K H y [(i:Int),(j:Int)]
structure DT (K:FG7) (H:Hp) (R M:Nat) (ds tab:List (List Int)) (x y:V):Prop where
 hx:vJ K H x ds
 hy:vJ K H y tab
 r1:1 <= R
 r60:R <= 60
 m1:1 <= M
 m5:M <= 5
 hD:Wu R M ds
 hT:Wu R R tab
theorem DT.grow {K:FG7} {m:List Addr} {H H':Hp} {R M:Nat} {ds tab:List (List Int)} {x y:V} (h:DT K H R M ds tab x y) (g:Grow m H H'):DT K H' R M ds tab x y :=
 ⟨g.rows h.hx,g.rows h.hy,h.r1,h.r60,h.m1,h.m5,h.hD,h.hT⟩
def hldD:Option (Nat × Nat) -> PyData
 | none=>.none
 | some t=>YQ [(t.1:Int),(t.2:Int)]
def HldO (R:Nat) (ds tab:List (List Int)):Option (Nat × Nat) -> Prop
 | none=>∀ i j:Nat,i < R -> j < R -> ¬ misH ds tab i j
 | some t=>tK R ds tab t.1 t.2
theorem HldO.eq {R:Nat} {ds tab:List (List Int)} {o o':Option (Nat × Nat)} (a:HldO R ds tab o) (b:HldO R ds tab o'):o = o':=by
 cases o with
 | none=>cases o' with
  | none=>rfl
  | some t=>exact absurd b.2.1 (a _ _ b.1.1 b.1.2)
 | some t=>cases o' with
  | none=>exact absurd a.2.1 (b _ _ a.1.1 a.1.2)
  | some t' =>
   obtain ⟨i,j⟩:=t
   obtain ⟨i',j'⟩:=t'
   obtain ⟨e1,e2⟩:=tK.eq a b
   rw [show i = i' from e1,show j = j' from e2]
theorem Z1.o {K:FG7} {H:Hp} {R:Nat} {ds tab:List (List Int)} {y:V} (h:Z1 K H R ds tab y):∃ o,HldO R ds tab o /\ Dat K H y (hldD o) /\ ((o = none /\ y = .non) \/ ∃ a,y = .ref a):=by
 rcases h with ⟨rfl,h⟩ | ⟨i,j,h,hb⟩
 ·exact ⟨none,h,.non,.inl ⟨rfl,rfl⟩⟩
 ·exact ⟨some (i,j),h,hb.dat,.inr (let ⟨a,e,_⟩:=hb; ⟨a,e⟩)⟩
theorem Z1.grow {K:FG7} {m:List Addr} {H H':Hp} {R:Nat} {ds tab:List (List Int)} {y:V} (h:Z1 K H R ds tab y) (g:Grow m H H'):Z1 K H' R ds tab y:=by
 rcases h with h | ⟨i,j,h,hb⟩
 ·exact .inl h
 ·exact .inr ⟨i,j,h,g.board hb⟩
theorem FamOk.closed {ms:List (List Int)} {S:Nat} {r:FW} (h:FamOk ms S r) (hM:Mks ms S) (hl:r.length <= 60) {a b:List Int} (ha:a ∈ zV r) (hb:b ∈ zV r):yU a b ∈ zV r :=
 h.all hl ((h.good.wd a ha).mul hM (h.good.wd b hb))
structure SomeAt (K:FG7) (H:Hp) (p lf:Addr) (S:Nat) (rows:List (List Int)):Prop where
 l:∃ zs,H lf = some (.lst zs) /\ AllR (zA K H) zs rows
 np:lf ∉ [p]
 r1:1 <= rows.length
 r60:rows.length <= 60
 ok:Mks rows S
 cl:∀ a ∈ rows,∀ b ∈ rows,yU a b ∈ rows
theorem SomeAt.of {K:FG7} {H:Hp} {p lf:Addr} {S:Nat} {rows ms:List (List Int)} {zs:List V} {f:FW} (hF:FamL ms S f) (hM:Mks ms S) (hf:Few ms S) (hl:H lf = some (.lst zs)) (np:lf ∉ [p]) (hz:AllR (zA K H) zs rows) (pm:rows.Perm (zV f)):SomeAt K H p lf S rows:=by
 have hO:=hF.ok
 have h60:=hO.le hf
 have lk:rows.length = f.length:=by rw [pm.length_eq]; unfold zV; rw [List.length_map]
 refine ⟨⟨zs,hl,hz⟩,np,?_,by omega,fun d hd=>(hO.good.wd d (pm.mem_iff.mp hd)).dd hM,fun a ha b hb=>pm.mem_iff.mpr (hO.closed hM h60 (pm.mem_iff.mp ha) (pm.mem_iff.mp hb))⟩
 have:0 < rows.length:=List.length_pos_of_mem (pm.mem_iff.mpr hO.idk)
 omega
def Xz (K:FG7) (H:Hp) (z:V):Prop:=∃ t y1 y2 y3 R M ds tab,z = .ref t /\ SqT K H t [y1,y2,y3] /\ DT K H R M ds tab y1 y2 /\ Z1 K H R ds tab y3
theorem Xz.grow {K:FG7} {m:List Addr} {H H':Hp} {z:V} (h:Xz K H z) (g:Grow m H H'):Xz K H' z:=by
 obtain ⟨t,y1,y2,y3,R,M,ds,tab,e,h1,h2,h3⟩:=h
 exact ⟨t,y1,y2,y3,R,M,ds,tab,e,g.sqT h1,h2.grow g,h3.grow g⟩
section
variable {prog:Program} {w:World} {A:Around} {E:VS7} {s:Shared} {es:Array DictEntry} {d it r:Addr} {ep i:Nat}
theorem WZ {Q:VS7} (lo:(d == sysModules) = false) (hm:xj es d ep s.heap) (q:Q (.ref s.heap.objs.size) { s with heap:=s.heap.push { cls:=.type "dict_values",data:=.fields #[.ref d] } }) :
  wpAny (model prog w) A (call (.builtin "dict.values") [.ref d]) Q E s:=by
 have hT:s.TypeIs (.ref d) "dict":=hm.typeIs
 refine wpAny_call_entry PySem.F.slot_dict_values hT PySem.F.entry_dict_values ?_ (PySem.F.args_dict_values_1 _)
 unfold Builtin.«dict.values»
 refine wpAny_bind ?_
 unfold Builtin.Dict.noArgs
 refine wpAny_bind (wpAny_notOrdered_dict hT (show wpAny _ _ (pure d) _ _ s from wpAny_pure ?_))
 show wpAny _ _ (Builtin.Dict.showsAll d >>= _) _ _ s
 unfold Builtin.Dict.showsAll
 rw [if_neg (by rw [lo]; exact Bool.false_ne_true)]
 exact wpAny_bind (wpAny_pure (wpAny_bind (wpAny_newObj_type (wpAny_pure ⟨_,rfl,q⟩))))
theorem W0 {Q:VS7} (hv:s.heap.IsValuesView r d) (hm:xj es d ep s.heap)
  (hQ:Q (.ref s.heap.objs.size) { s with heap:=s.heap.push { cls:=.type "dict_valueiterator",data:=.fields #[.ref d,.int 0 0,.int es.size 0,.int ep 0] } }) :
  wpAny (model prog w) A (pyIter (.ref r)) Q E s:=by
 obtain ⟨ov,hov,hcv,hdv⟩:=id hv
 obtain ⟨o,ho,hc,hdat⟩:=id hm
 refine wpAny_pyIter_slot hv.typeIs PySem.F.slot_dict_values_iter (wpAny_call_entry PySem.F.slot_dict_values_iter hv.typeIs PySem.F.entry_dict_values_iter ?_ (PySem.F.args_dict_values_iter_1 _))
 unfold Builtin.«dict_values.__iter__»
 refine wpAny_bind (wpAny_pure (wpAny_bind ?_))
 unfold Builtin.Dict_items.dictOf
 refine wpAny_bind (wpAny_field hov hdv (x:=.ref d) rfl (wpAny_pure (wpAny_bind ?_)))
 unfold Builtin.Dict_items.newIterator
 refine wpAny_bind (wpAny_dictEntries ho hdat (wpAny_bind (wpAny_dictEpoch ho hdat ?_)))
 have own:Builtin.Dict_items.ownsTuple "dict_valueiterator" = false:=by decide
 simp only [own,Bool.false_eq_true,if_false]
 refine wpAny_newObj_type (wpAny_pure ⟨_,rfl,"dict_valueiterator",_,⟨_,Heap.get?_push_size _ rfl,rfl⟩,PySem.F.slot_dict_valueiterator_next.lookup,?_⟩)
 simpa [rawInt] using hQ
theorem W1 {Q:Option Value -> Shared -> Prop} (hit:s.heap.IsValIter it d i es.size ep) (hm:xj es d ep s.heap) (hlt:i < es.size)
  (hQ:∀ h',h'.IsValIter it d (i + 1) es.size ep -> Heap.SameBut it s.heap h' -> Q (some es[i].val) { s with heap:=h' }) :
  wpAny (model prog w) A (pyNext (.ref it)) Q E s:=by
 obtain ⟨o,ho,hc,hd⟩:=id hit
 obtain ⟨od,hod,hcd,hdd⟩:=id hm
 unfold pyNext
 refine wpAny_bind (wpAny_attempt (wpAny_callSpecial?_slot (name:=Str.ofString "__next__") hit.typeIs PySem.F.slot_dict_valueiterator_next
  (wpAny_call_entry PySem.F.slot_dict_valueiterator_next hit.typeIs PySem.F.entry_dict_valueiterator_next ?_ (PySem.F.args_dict_valueiterator_next_1 _))))
 refine wpAny_bind (wpAny_pure ?_)
 refine wpAny_bind ?_
 refine wpAny_bind ?_
 first | refine wpAny_bind (wpAny_typeNameOfWhole_valiter hit.typeIs (wpAny_pure ?_)) | refine wpAny_bind (wpAny_typeNameOf_valiter hit.typeIs (wpAny_pure ?_))
 refine wpAny_bind (wpAny_fieldsOf ho hd ?_)
 have hown:Builtin.Dict_items.ownsTuple "dict_valueiterator" = false:=by decide
 simp only [hown,Bool.false_eq_true,if_false]
 show wpAny _ _ (if (Value.ref d == Value.none) = true then _ else _) _ _ s
 rw [if_neg (show ¬ ((Value.ref d == Value.none) = true) from Bool.false_ne_true)]
 refine wpAny_bind (wpAny_pure ?_)
 refine wpAny_bind (wpAny_dictEntries hod hdd ?_)
 rw [if_neg (by simp)]
 refine wpAny_bind (wpAny_pure ?_)
 refine wpAny_bind (wpAny_dictEpoch hod hdd ?_)
 rw [if_neg (by simp)]
 refine wpAny_pure ?_
 simp only [show ¬ ((i:Int) < 0) from by omega,if_false,Int.toNat_natCast,Array.getElem?_eq_getElem hlt]
 refine wpAny_bind ?_
 first | refine wpAny_bind (wpAny_typeNameOfWhole_valiter hit.typeIs (wpAny_pure ?_)) | refine wpAny_bind (wpAny_typeNameOf_valiter hit.typeIs (wpAny_pure ?_))
 refine wpAny_bind (wpAny_isOneOf_valiter hit.typeIs ?_)
 show wpAny _ _ (setField (.ref it) 1 (rawInt ((i:Int) + 1)) >>= _) _ _ s
 refine wpAny_bind (wpAny_setField ho hd (by simp) ?_)
 have hit':(s.heap.update it (Obj.mapFields (·.setIfInBounds 1 (rawInt ((i:Int) + 1))))).IsValIter it d (i + 1) es.size ep :=
  ⟨_,Heap.get?_update_self _ ho (Obj.isFreed_of_fields (Obj.data_mapFields hd _)),(Obj.cls_mapFields ..).trans hc,by rw [Obj.data_mapFields hd]; simp [rawInt]⟩
 refine wpAny_bind (wpAny_holding ?_)
 refine wpAny_bind (wpAny_isOneOf_valiter (s:={ s with heap:=s.heap.update it (Obj.mapFields (·.setIfInBounds 1 (rawInt ((i:Int) + 1)))) }) hit'.typeIs ?_)
 refine wpAny_bind (wpAny_isOneOf_valiter (s:={ s with heap:=s.heap.update it (Obj.mapFields (·.setIfInBounds 1 (rawInt ((i:Int) + 1)))) }) hit'.typeIs ?_)
 show wpAny _ _ (pure es[i].val) _ _ _
 exact wpAny_pure (wpAny_pure ⟨_,rfl,wpAny_pure (hQ _ hit' (Heap.SameBut.update ..))⟩)
theorem Ub {Q:Option Value -> Shared -> Prop} (hh:A.handled = none) (hit:s.heap.IsValIter it d es.size es.size ep) (hm:xj es d ep s.heap)
  (hQ:∀ h',Heap.ExtBut it s.heap h' -> Q none { s with heap:=h' }):wpAny (model prog w) A (pyNext (.ref it)) Q E s:=by
 obtain ⟨o,ho,hc,hd⟩:=id hit
 obtain ⟨od,hod,hcd,hdd⟩:=id hm
 unfold pyNext
 refine wpAny_bind (wpAny_attempt (wpAny_callSpecial?_slot (name:=Str.ofString "__next__") hit.typeIs PySem.F.slot_dict_valueiterator_next
  (wpAny_call_entry PySem.F.slot_dict_valueiterator_next hit.typeIs PySem.F.entry_dict_valueiterator_next ?_ (PySem.F.args_dict_valueiterator_next_1 _))))
 refine wpAny_bind (wpAny_pure ?_)
 refine wpAny_bind ?_
 refine wpAny_bind ?_
 first | refine wpAny_bind (wpAny_typeNameOfWhole_valiter hit.typeIs (wpAny_pure ?_)) | refine wpAny_bind (wpAny_typeNameOf_valiter hit.typeIs (wpAny_pure ?_))
 refine wpAny_bind (wpAny_fieldsOf ho hd ?_)
 have hown:Builtin.Dict_items.ownsTuple "dict_valueiterator" = false:=by decide
 simp only [hown,Bool.false_eq_true,if_false]
 show wpAny _ _ (if (Value.ref d == Value.none) = true then _ else _) _ _ s
 rw [if_neg (show ¬ ((Value.ref d == Value.none) = true) from Bool.false_ne_true)]
 refine wpAny_bind (wpAny_pure ?_)
 refine wpAny_bind (wpAny_dictEntries hod hdd ?_)
 rw [if_neg (by simp)]
 refine wpAny_bind (wpAny_pure ?_)
 refine wpAny_bind (wpAny_dictEpoch hod hdd ?_)
 rw [if_neg (by simp)]
 refine wpAny_pure ?_
 simp only [show ¬ ((es.size:Int) < 0) from by omega,if_false,Int.toNat_natCast,Array.getElem?_eq_none (Nat.le_refl es.size)]
 refine wpAny_bind ?_
 first | refine wpAny_bind (wpAny_typeNameOfWhole_valiter hit.typeIs (wpAny_pure ?_)) | refine wpAny_bind (wpAny_typeNameOf_valiter hit.typeIs (wpAny_pure ?_))
 show wpAny _ _ (setField (.ref it) 0 .none >>= _) _ _ s
 refine wpAny_bind (wpAny_setField ho hd (by simp) ?_)
 show wpAny _ _ (newExc (.type "StopIteration") [] >>= _) _ _ _
 refine wpAny_bind ?_
 simp only [newExc,newTuple]
 refine wpAny_bind (wpAny_newObj_type ?_ (by size_fits))
 refine wpAny_bind (m:=firstArgMember _ _) (wpAny_of_eq (a:=Value.none) (by first | rfl | (simp only [firstArgMember]; rfl)) ?_)
 refine wpAny_newObj_type ?_ (by size_fits)
 simp only [raiseNew]
 refine wpAny_bind (wpAny_handled ?_)
 rw [show A.in1.handled = none from hh]
 refine wpAny_bind (wpAny_pure (wpAny_throw ?_))
 refine wpAny_bind (wpAny_isInstance (T:="StopIteration") (b:=true) ⟨_,Heap.get?_push_size _ rfl,rfl⟩ isSubtype_stop ?_)
 exact wpAny_pure (hQ _ (((Heap.SameBut.update ..).extBut.push _).push _))
theorem XA (hh:A.handled = none) (I d:Addr) (hne:d ≠ I) (es:Array DictEntry) (ep:Nat) :
  Walks prog w A I [I,d] [I] es.size (fun i v=>∃ h:i < es.size,v = es[i].val) (fun i h=>h.IsValIter I d i es.size ep /\ xj es d ep h) where
 sub:=fun b hb=>by simp at hb; simp [hb]
 frame:=fun _ _ _ st hk=>⟨st.1.at fun o e=>hk I (by simp) o e,st.2.keep fun o e=>hk d (by simp) o e⟩
 item:=fun i s Q E hi st hQ=>by
  refine W1 st.1 st.2 hi fun h' hit' hs'=>?_
  exact hQ _ h' s.toks ⟨hi,rfl⟩ ⟨hit',st.2.keep fun o e=>hs'.extBut d o hne e⟩ fun b o hb e=>hs'.extBut b o (fun h=>hb (by simp [h])) e
 done:=fun s Q E st hQ=>Ub hh st.1 st.2 fun h' he'=>hQ h' s.toks fun b o hb e=>he' b o (fun h=>hb (by simp [h])) e
 self:=fun _ _ _ _ st hQ=>wpAny_pyIter_valiter st.1 hQ
theorem Uc:KdlSrc prog w "dict_values" r d es.size (fun i v=>∃ h:i < es.size,v = es[i].val) (fun h=>h.IsValuesView r d /\ xj es d ep h) where
 type:=fun _ hm=>hm.1.typeIs
 there:=fun _ hm=>⟨let ⟨_,ho,_⟩:=hm.1; Heap.lt_size ho,let ⟨_,ho,_⟩:=hm.2; Heap.lt_size ho⟩
 keep:=fun _ _ hm hk=>⟨let ⟨o,ho,x⟩:=hm.1; ⟨o,hk r (.inl rfl) o ho,x⟩,hm.2.keep fun o e=>hk d (.inr rfl) o e⟩
 notList:=by decide
 notTuple:=by decide
 hint:=fun _ _ _ _ hm hq=>kdl_hint_values hm.1.typeIs hq
 iter:=fun _ _ hh hm=>⟨_,_,(fun _ _ hq=>W0 hm.1 hm.2 hq),XA hh _ d (let ⟨_,ho,_⟩:=hm.2; Nat.ne_of_lt (Heap.lt_size ho)) es ep,⟨⟨_,Heap.get?_push_size _ rfl,rfl,rfl⟩,hm.2.keep fun o e=>Heap.get?_push_of_some _ e⟩⟩
end
structure Pt (κ:Type) [DecidableEq κ] where
 it:(P:Program) -> (w:World) -> ItK P w κ
 at_:FG7 -> Hp -> κ -> V -> Prop
 rel:∀ {X:Cx} {pins:List (Addr × Obj)} {σ:L2.St} {H:Hp} {s:Shared} {k:κ} {v:V} {u:Value},Inv X pins σ H s -> at_ X.K H k v -> RelV v u -> (it X.prog X.w).is s.heap k u
 grow:∀ {m:List Addr} {H H':Hp} {K:FG7} {k:κ} {v:V},Grow m H H' -> at_ K H k v -> at_ K H' k v
theorem VA {P:Program} {w:World} {i:Int} {t:Tok}:(intKind P w).is i (.int i t) = true:=by simp [intKind,Value.isInt]
theorem uv {P:Program} {w:World}:∀ {ks:List Int} {us:List Value},Vals (ks.map V.int) us -> ItemsAre (intKind P w) ks us
 | [],_,r=>by rw [List.map_nil] at r; cases r; exact .nil
 | k :: ks,_,r=>by
  rw [List.map_cons] at r
  cases r with
  | cons h t=>obtain ⟨tk,e⟩:=(show ∃ t,_ = Value.int k t from h); subst e; exact .cons VA (uv t)
def ptI:Pt Int where
 it:=Sl
 at_:=fun _ _ k v=>v = .int k
 rel:=fun _ e r=>by
  subst e
  obtain ⟨t,e⟩:=(show ∃ t,_ = Value.int _ t from r)
  subst e
  exact VA
 grow:=fun _ e=>e
def ptT:Pt (List Int) where
 it:=Sn
 at_:=fun K H k v=>∃ r,v = .ref r /\ SqT K H r (k.map V.int)
 rel:=fun {X pins σ H s k v u} I z rv=>by
  obtain ⟨r,e,h⟩:=z
  subst e
  obtain rfl:u = Value.ref r:=rv
  obtain ⟨its,rs,p,_⟩:=I.tuple h
  obtain ⟨o,h1,h2,n,h3⟩:=p
  exact ⟨r,rfl,o,its.toArray,n,h1,h2,h3,by simpa using uv rs⟩
 grow:=fun g ⟨r,e,h⟩=>⟨r,e,g.sqT h⟩
section
variable {κ1 κ2:Type} [DecidableEq κ1] [DecidableEq κ2]
def KAt (p1:Pt κ1) (p2:Pt κ2) (K:FG7) (H:Hp) (k:κ1 × κ2) (b:Addr):Prop:=∃ v1 v2,SqT K H b [v1,v2] /\ p1.at_ K H k.1 v1 /\ p2.at_ K H k.2 v2
abbrev PR:List ((κ1 × κ2) × Addr × V) -> List ((κ1 × κ2) × Addr × Value) -> Prop:=Paired fun p q=>p.1 = q.1 /\ p.2.1 = q.2.1 /\ RelV p.2.2 q.2.2
def NDat (p1:Pt κ1) (p2:Pt κ2) (P:Program) (w:World) (h:Heap) (a:Addr) (kvs:List ((κ1 × κ2) × Addr × V)):Prop :=
 (a == sysModules) = false /\ ∃ xs:List ((κ1 × κ2) × Addr × Value),PR kvs xs /\ ∃ o es ep,h.get? a = some o /\ o.ExactDict /\ o.data = .dict es ep /\ es.toList = xs.map (entryOfKey (ur (p1.it P w) (p2.it P w))) /\ (xs.map (·.1)).Nodup
def ndO (p1:Pt κ1) (p2:Pt κ2) (P:Program) (w:World) (a:Addr) (kvs:List ((κ1 × κ2) × Addr × V)):HO:=.ext fun h=>NDat p1 p2 P w h a kvs
def NDc (p1:Pt κ1) (p2:Pt κ2) (K:FG7) (H:Hp) (kvs:List ((κ1 × κ2) × Addr × V)):Prop:=∀ x ∈ kvs,KAt p1 p2 K H x.1 x.2.1
def prV (x:(κ1 × κ2) × Addr × V):(κ1 × κ2) × V:=(x.1,x.2.2)
def yA (kvs:List ((κ1 × κ2) × Addr × V)) (k:κ1 × κ2) (b:Addr) (v:V):List ((κ1 × κ2) × Addr × V) :=
 if (kvs.any fun x=>decide (x.1 = k)) = true then kvs.map (fun x=>if x.1 = k then (x.1,x.2.1,v) else x) else kvs ++ [(k,b,v)]
variable {p1:Pt κ1} {p2:Pt κ2} {P:Program} {w:World} {K:FG7} {H H':Hp} {h h':Heap} {a b:Addr} {kvs:List ((κ1 × κ2) × Addr × V)} {k:κ1 × κ2} {v:V}
theorem KAt.grow {m:List Addr} (g:Grow m H H') (x:KAt p1 p2 K H k b):KAt p1 p2 K H' k b:=by
 obtain ⟨v1,v2,h1,h2,h3⟩:=x
 exact ⟨v1,v2,g.sqT h1,p1.grow g h2,p2.grow g h3⟩
theorem NDc.grow {m:List Addr} (g:Grow m H H') (x:NDc p1 p2 K H kvs):NDc p1 p2 K H' kvs:=fun y hy=>(x y hy).grow g
theorem Z2:(yA kvs k b v).map prV = putK (kvs.map prV) k v:=by
 unfold yA putK
 have e:((kvs.map prV).any fun kv=>decide (kv.1 = k)) = kvs.any fun x=>decide (x.1 = k):=by rw [List.any_map]; rfl
 rw [e]
 split
 ·rw [List.map_map,List.map_map]
  refine List.map_congr_left fun x _=>?_
  show prV (if x.1 = k then (x.1,x.2.1,v) else x) = if x.1 = k then (x.1,v) else prV x
  split <;> rfl
 ·rw [List.map_append]; rfl
theorem NDc.store (x:NDc p1 p2 K H kvs) (hk:KAt p1 p2 K H k b):NDc p1 p2 K H (yA kvs k b v):=by
 intro y hy
 unfold yA at hy
 split at hy
 ·obtain ⟨z,hz,rfl⟩:=List.mem_map.mp hy
  by_cases c:z.1 = k
  ·rw [if_pos c]; exact x z hz
  ·rw [if_neg c]; exact x z hz
 ·rcases List.mem_append.mp hy with z | z
  ·exact x y z
  ·rw [List.mem_singleton.mp z]; exact hk
theorem NDat.ok (z:NDat p1 p2 P w h a kvs) {P':Program} {w':World}:z5 P' w' H h a (ndO p1 p2 P w a kvs):=by
 obtain ⟨lo,xs,r,o,es,ep,g,hx,hd,he,nd⟩:=z
 refine ⟨⟨lo,xs,r,o,es,ep,g,hx,hd,he,nd⟩,⟨o,g⟩,?_⟩
 rintro h1 h2 ⟨lo',xs',r',o',es',ep',g',t⟩ kp
 exact ⟨lo',xs',r',o',es',ep',kp o' g',t⟩
theorem NDat.new (h:Heap) (hb:sysModules < h.objs.size):NDat p1 p2 P w (h.push { cls:=.type "dict",data:=.dict #[] }) h.objs.size ([]:List ((κ1 × κ2) × Addr × V)) :=
 ⟨beq_eq_false_iff_ne.mpr (Ne.symm (Nat.ne_of_lt hb)),[],.nil,_,#[],0,Heap.get?_push_size _ rfl,⟨rfl,rfl,rfl⟩,rfl,rfl,List.nodup_nil⟩
theorem PR.val {xs:List ((κ1 × κ2) × Addr × Value)} (r:PR kvs xs) (k:κ1 × κ2):RelO (valV (kvs.map prV) k) ((atKey xs k).map (·.2)):=by
 induction r with
 | nil=>exact True.intro
 | @cons p q ps qs h t ih =>
  obtain ⟨h1,_,h2⟩:=h
  rw [List.map_cons]
  by_cases e:p.1 = k
  ·have e':q.1 = k:=h1.symm.trans e
   have b:atKey (q :: qs) k = some q.2:=by simp [atKey,List.find?_cons,e']
   rw [yn (p:=prV p) e,b]; exact h2
  ·have e':¬ q.1 = k:=fun z=>e (h1.trans z)
   have b:atKey (q :: qs) k = atKey qs k:=by simp [atKey,List.find?_cons,e']
   rw [yg (p:=prV p) e,b]; exact ih
theorem PR.any {xs:List ((κ1 × κ2) × Addr × Value)} (r:PR kvs xs) (k:κ1 × κ2):(kvs.any fun x=>decide (x.1 = k)) = (atKey xs k).isSome:=by
 have h:=(r.val k).isSome_eq
 rw [Option.isSome_map] at h
 rw [← h,← xp,List.any_map]; rfl
theorem PR.repl {xs:List ((κ1 × κ2) × Addr × Value)} (r:PR kvs xs) (k:κ1 × κ2) {u:Value} (ru:RelV v u):PR (kvs.map fun x=>if x.1 = k then (x.1,x.2.1,v) else x) (xs.map (putAt k u)):=by
 induction r with
 | nil=>exact .nil
 | @cons p q ps qs h t ih =>
  rw [List.map_cons,List.map_cons]
  refine .cons ?_ ih
  obtain ⟨h1,h2,h3⟩:=h
  unfold putAt
  by_cases c:p.1 = k
  ·rw [if_pos c,if_pos (h1.symm.trans c)]; exact ⟨h1,h2,ru⟩
  ·rw [if_neg c,if_neg (fun z=>c (h1.trans z))]; exact ⟨h1,h2,h3⟩
theorem PR.put {xs:List ((κ1 × κ2) × Addr × Value)} (r:PR kvs xs) (k:κ1 × κ2) {u:Value} (ru:RelV v u):PR (yA kvs k b v) (storedH xs k b u):=by
 have e:=r.any k
 unfold yA storedH
 rw [e]
 split
 ·exact r.repl k ru
 ·exact Paired.snoc r ⟨rfl,rfl,ru⟩
end
section
variable {κ1 κ2:Type} [DecidableEq κ1] [DecidableEq κ2] {p1:Pt κ1} {p2:Pt κ2} {kvs:List ((κ1 × κ2) × Addr × V)} {k:κ1 × κ2} {v:V}
variable {X:Cx} {pins:List (Addr × Obj)} {σ:L2.St} {H:Hp} {s:Shared} {a b:Addr} {A:Around} {E:VS7}
theorem KAt.is (I:Inv X pins σ H s) (x:KAt p1 p2 X.K H k b):(ur (p1.it X.prog X.w) (p2.it X.prog X.w)).is s.heap k b:=by
 obtain ⟨v1,v2,h,h1,h2⟩:=x
 obtain ⟨its,rs,p,_⟩:=I.tuple h
 obtain ⟨o,g1,g2,n,g3⟩:=p
 cases rs with
 | cons r1 t =>
  cases t with
  | cons r2 t =>
   cases t
   exact ⟨o,_,_,n,g1,g2,g3,p1.rel I h1 r1,p2.rel I h2 r2⟩
theorem Tg (I:Inv X pins σ H s) (e:Rd H a (ndO p1 p2 X.prog X.w a kvs)) (c:NDc p1 p2 X.K H kvs):(a == sysModules) = false /\ ∃ xs,PR kvs xs /\ s.heap.DictOfH (ur (p1.it X.prog X.w) (p2.it X.prog X.w)) a xs:=by
 obtain ⟨⟨lo,xs,r,o,es,ep,g,hx,hd,he,nd⟩,_⟩:=(show z5 X.prog X.w H s.heap a (ndO p1 p2 X.prog X.w a kvs) from e.ok I.hok)
 refine ⟨lo,xs,r,o,es,ep,g,hx,hd,he,fun x hx=>?_,nd⟩
 have all:∀ {l:List ((κ1 × κ2) × Addr × V)} {m:List ((κ1 × κ2) × Addr × Value)},PR l m -> NDc p1 p2 X.K H l -> ∀ x ∈ m,(ur (p1.it X.prog X.w) (p2.it X.prog X.w)).is s.heap x.1 x.2.1:=by
  intro l m q
  induction q with
  | nil=>intro _ x hx; exact nomatch hx
  | @cons p q ps qs hq t ih =>
   intro c x hx
   rcases List.mem_cons.mp hx with e | hx
   ·subst e
    rw [← hq.1,← hq.2.1]
    exact (c p (List.mem_cons_self ..)).is I
   ·exact ih (fun y hy=>c y (List.mem_cons_of_mem _ hy)) x hx
 exact all r c x hx
theorem Th {A:Around} {P:Program} {w:World} {k1:ItK P w κ1} {k2:ItK P w κ2} (hu:A.units + 2 < cLine):(ur k1 k2).room A.in1:=hu
theorem XB {Q:Unit -> Shared -> Prop} {u:Value} (hu:A.units + 2 < cLine) (I:Inv X pins σ H s) (e:H a = some (ndO p1 p2 X.prog X.w a kvs)) (c:NDc p1 p2 X.K H kvs) (hk:KAt p1 p2 X.K H k b) (hl:kvs.length < sizeLine) (ru:RelV v u)
  (h:∀ s',Inv X pins σ (upd H a (ndO p1 p2 X.prog X.w a (yA kvs k b v))) s' -> Q () s') :
  wpAny (model X.prog X.w) A (setItem (.ref a) (.ref b) u) Q E s:=by
 obtain ⟨lo,xs,rel,dd⟩:=Tg I (.inl e) c
 have hz:xs.length <= sizeLine:=by rw [← Paired.length rel]; exact Nat.le_of_lt hl
 refine wpAny_setItem_heap (hsz:=hz) (Th hu) (hk.is I) dd fun h' dd' hs=>h _ ?_
 obtain ⟨q,es,ep,hq,h2,h3,h4,_,h5⟩:=dd'
 refine ut I (by rw [e]; exact True.intro) hs ⟨q,hq⟩ (NDat.ok ⟨lo,_,rel.put k ru,q,es,ep,hq,h2,h3,h4,h5⟩)
end
section
variable {κ1 κ2:Type} [DecidableEq κ1] [DecidableEq κ2]
def Ti (p1:Pt κ1) (p2:Pt κ2) (P:Program) (w:World):TE:=fun _ H Q=>∀ a,H a = none -> Q (.ref a) (upd H a (ndO p1 p2 P w a []))
def Tj (p1:Pt κ1) (p2:Pt κ2) (P:Program) (w:World) (K:FG7) (td ty tv:TE):TS:=fun D σ H=>tv σ H fun v H1=>td σ H1 fun x H2=>ty σ H2 fun y H3 =>
 ∃ a kvs k b,x = .ref a /\ y = .ref b /\ H3 a = some (ndO p1 p2 P w a kvs) /\ NDc p1 p2 K H3 kvs /\ KAt p1 p2 K H3 k b /\ kvs.length < sizeLine /\ D.nx σ (upd H3 a (ndO p1 p2 P w a (yA kvs k b v)))
def Ud (p1:Pt κ1) (p2:Pt κ2) (P:Program) (w:World) (K:FG7) (tk tv:TE):TE:=fun σ H Q=>∀ p,H p = none -> tk σ (upd H p (ndO p1 p2 P w p [])) fun y H1=>tv σ H1 fun v H2=>H2 p = some (ndO p1 p2 P w p []) /\ ∃ b k,y = .ref b /\ KAt p1 p2 K H2 k b /\ Q (.ref p) (upd H2 p (ndO p1 p2 P w p [(k,b,v)]))
variable {p1:Pt κ1} {p2:Pt κ2} {X:Cx} {P:Program} {w:World} {K:FG7} {o i e value:Expr} {pos pos':Pos} {td ty tv tk:TE} {k v:Expr}
theorem W2 (p1:Pt κ1) (p2:Pt κ2) (hP:X.prog = P) (hw:X.w = w):PE X (.Dict [] [] pos) (Ti p1 p2 P w):=by
 subst hP hw
 exact fun pins s σ H Q I h =>
  wpAny_Dict_empty ⟨.ref s.heap.objs.size,_,I.laid (a:=s.heap.objs.size) (o:=ndO p1 p2 X.prog X.w s.heap.objs.size []) (t':=s.toks) (fun _ _ q=>Heap.get?_push_of_some _ q) (Nat.le_refl _) (NDat.new s.heap I.big).ok,rfl,h _ (I.hok.fresh (Nat.le_refl _))⟩
theorem W3 (hP:X.prog = P) (hw:X.w = w) (hK:X.K = K) (hu:X.A.units + 2 < cLine) (ho:PE X o td) (hi:PE X i ty) (hv:PE X value tv) (hs:swapsWith value (some (.Subscript o i pos')) pos.line X.env = pure false) :
  PS X (.Assign [.Subscript o i pos'] value pos) (Tj p1 p2 P w K td ty tv):=by
 subst hP hw hK
 intro pins s σ H D I h
 refine wpAny_Assign_Subscript (thn (hv pins s σ H _ I h) fun r s1 ⟨v,H1,I1,rv,q1⟩=>thn (ho pins s1 σ H1 _ I1 q1) fun u s2 ⟨x,H2,I2,rx,q2⟩=>thn (hi pins s2 σ H2 _ I2 q2) fun iv s3 ⟨y,H3,I3,ry,a,kvs,k,b,ex,ey,hr,hc,hk,hl,q3⟩=>?_) hs
 subst ex ey
 obtain rfl:u = Value.ref a:=rx
 obtain rfl:iv = Value.ref b:=ry
 exact XB hu I3 hr hc hk hl rv fun s4 I4=>⟨σ,_,I4,q3⟩
theorem XC (hP:X.prog = P) (hw:X.w = w) (hK:X.K = K) (hu:X.A.units + 2 < cLine) (hk:PE X k tk) (hv:PE X v tv):PE X (.Dict [some k] [v] pos) (Ud p1 p2 P w K tk tv):=by
 subst hP hw hK
 intro pins s σ H Q I q
 have hn:=I.hok.fresh (Nat.le_refl s.heap.objs.size)
 have I1:=I.laid (a:=s.heap.objs.size) (o:=ndO p1 p2 X.prog X.w s.heap.objs.size []) (h':=s.heap.push { cls:=.type "dict",data:=.dict #[] }) (t':=s.toks) (fun _ _ q=>Heap.get?_push_of_some _ q) (Nat.le_refl _) (NDat.new s.heap I.big).ok
 rw [arm_eval_Dict,zip_pairTrees [some k] [v] X.env pos rfl rfl,dictDisplay_pairs (pairTrees [some k] [v] X.env pos) (by intro z; cases z) (show 1 < 17 by decide)]
 refine wpAny_bind (wpAny_standAt (wpAny_bind ?_))
 unfold subDict
 refine wpAny_bind (wpAny_alloc ?_)
 refine wpAny_bind (wpAny_holding ?_)
 rw [if_pos (show (pairTrees [some k] [v] X.env pos).length <= 15 from (show 1 <= 15 by decide))]
 refine wpAny_bind (pairTrees_cons_walk (thn (hk pins _ σ _ _ I1 (q _ hn)) fun kv s1 ⟨y,H1,I2,ry,q1⟩=>thn (hv pins s1 σ H1 _ I2 q1) fun vv s2 ⟨vV,H2,I3,rv,e,b,ks,ey,eb,q2⟩=>pairTrees_nil_walk ?_))
 subst ey
 cases (show kv = Value.ref b from ry)
 obtain ⟨lo,xs,rel,dd⟩:=Tg I3 (.inl e) nofun
 cases rel
 refine wpAny_holding ?_
 rw [List.forIn_cons]
 refine wpAny_bind (wpAny_bind (wpAny_bind (wpAny_dictSet_heap (hsz:=Nat.zero_le _) (show (ur (p1.it X.prog X.w) (p2.it X.prog X.w)).room X.A from Nat.lt_of_succ_lt hu) (eb.is I3) dd fun h' dd' hs=>wpAny_pure ?_)))
 show wpAny _ _ (forIn [] _ _) _ _ _
 rw [List.forIn_nil]
 first
  | refine wpAny_pure (wpAny_pure (wpAny_pure (wpAny_pure ⟨.ref s.heap.objs.size,_,?_,rfl,q2⟩)))
  | refine wpAny_pure (wpAny_pure (wpAny_pure ⟨.ref s.heap.objs.size,_,?_,rfl,q2⟩))
 obtain ⟨qo,es,ep,hq,h2,h3,h4,_,h5⟩:=dd'
 exact ut I3 (by rw [e]; exact True.intro) hs ⟨qo,hq⟩ (NDat.ok ⟨lo,_,PR.put .nil ks rv,qo,es,ep,hq,h2,h3,h4,h5⟩)
end
abbrev EnR:List (V × V) -> List DictEntry -> Prop:=Paired fun (p:V × V) (e:DictEntry)=>RelV p.1 e.key /\ RelV p.2 e.val
structure WkE (a:Addr) (u:HO) (kvs:List (V × V)):Prop where
 lo:∀ {P:Program} {w:World} {H:Hp} {h:Heap},z5 P w H h a u -> (a == sysModules) = false /\ ∃ o es ep,h.get? a = some o /\ o.ExactDict /\ o.data = .dict es ep /\ EnR kvs es.toList
 any:∀ {P:Program} {w:World} {H H':Hp} {h:Heap},z5 P w H h a u -> z5 P w H' h a u
 mu:Mut (some u)
theorem XD {k:Key} {v:Value} (h:qu k v = true):RelV (kV k) v:=by
 rcases zY h with ⟨i,t,rfl,rfl⟩ | ⟨x,t,rfl,rfl⟩
 ·exact ⟨t,rfl⟩
 ·exact ⟨t,rfl⟩
theorem Tk {P:Program} {w:World}:∀ {kvs:List (Key × V)} {vs:List (Key × Value)} {es:List DictEntry},KV kvs vs -> Pairs (yq P w) es vs -> EnR (kvs.map fun p=>(kV p.1,p.2)) es
 | _,_,_,.nil,.nil=>.nil
 | p :: _,q :: _,e :: _,.cons r t,.cons h1 h2 t2=>.cons ⟨(show RelV (kV p.1) e.key by rw [r.1]; exact XD h1),(show RelV p.2 e.val by rw [h2]; exact r.2)⟩ (Tk t t2)
theorem Tl (a:Addr) (kvs:List (Key × V)):WkE a (HO.dK kvs) (kvs.map fun p=>(kV p.1,p.2)) where
 lo:=fun x=>by
  obtain ⟨z,hd,vs,rel,o,es,ep,g,hx,hdat,_,hp,_⟩:=x
  exact ⟨hd,o,es,ep,g,hx,hdat,Tk rel hp⟩
 any:=fun x=>x
 mu:=trivial
section
variable {κ1 κ2:Type} [DecidableEq κ1] [DecidableEq κ2] {p1:Pt κ1} {p2:Pt κ2}
theorem Tm {P:Program} {w:World} {k1:ItK P w κ1} {k2:ItK P w κ2}:∀ {kvs:List ((κ1 × κ2) × Addr × V)} {xs:List ((κ1 × κ2) × Addr × Value)},PR kvs xs -> EnR (kvs.map fun x=>(V.ref x.2.1,x.2.2)) (xs.map (entryOfKey (ur k1 k2)))
 | _,_,.nil=>.nil
 | p :: _,q :: _,.cons r t=>.cons ⟨(show RelV (V.ref p.2.1) (Value.ref q.2.1) by rw [r.2.1]; rfl),r.2.2⟩ (Tm t)
theorem Tn (P:Program) (w:World) (a:Addr) (kvs:List ((κ1 × κ2) × Addr × V)):WkE a (ndO p1 p2 P w a kvs) (kvs.map fun x=>(V.ref x.2.1,x.2.2)) where
 lo:=fun x=>by
  obtain ⟨⟨lo,xs,r,o,es,ep,g,hx,hd,he,nd⟩,_⟩:=x
  exact ⟨lo,o,es,ep,g,hx,hd,by rw [he]; exact Tm r⟩
 any:=fun x=>x
 mu:=trivial
end
theorem VB {kvs:List (V × V)} {es:Array DictEntry} {i:Nat} (r:EnR kvs es.toList) (hi:i < es.size):∃ p,kvs[i]? = some p /\ RelV p.1 es[i].key /\ RelV p.2 es[i].val:=by
 have e:es.toList[i]? = some es[i]:=by rw [Array.getElem?_toList,Array.getElem?_eq_getElem hi]
 obtain ⟨p,hp,h⟩:=rZ r e
 exact ⟨p,hp,h⟩
theorem W4 {P:Program} {w:World} {H:Hp} {h:Heap} {a:Addr} {o:Obj} {u:HO} {kvs:List (V × V)} {es:Array DictEntry} {ep:Nat} (W:WkE a u kvs) (x:z5 P w H h a (.frz o u)) (hd:o.data = .dict es ep):h.get? a = some o /\ EnR kvs es.toList:=by
 obtain ⟨g,y⟩:=x
 obtain ⟨_,o',es',ep',g',_,hd',r⟩:=W.lo y
 rw [g] at g'
 cases g'
 rw [hd] at hd'
 injection hd' with e1 _
 subst e1
 exact ⟨g,r⟩
def ItI (a:Addr) (o:Obj) (u:HO) (kvs:List (V × V)):It :=
 ⟨fun i H=>i < kvs.length /\ H a = some (.frz o u),fun i H x H'=>∃ T p,H T = none /\ x = .ref T /\ kvs[i]? = some p /\ H' = upd H T (.tup [p.1,p.2]),fun i H=>i = kvs.length /\ H a = some (.frz o u)⟩
def ItJ (a:Addr) (o:Obj) (u:HO) (kvs:List (V × V)):It :=
 ⟨fun i H=>i < kvs.length /\ H a = some (.frz o u),fun i H x H'=>H' = H /\ ∃ p,kvs[i]? = some p /\ x = p.1,fun i H=>i = kvs.length /\ H a = some (.frz o u)⟩
theorem To {P:Program} {w:World} {K:FG7} {elts:List Expr} {kt:Nat} {pt:Pos} (a it:Addr) (o:Obj) (u:HO) (es:Array DictEntry) (ep:Nat) (kvs:List (V × V)) (W:WkE a u kvs) (hx:o.ExactDict) (hd:o.data = .dict es ep) (hes:es.size = kvs.length) :
  Turn P w K (.Tuple elts kt pt) (ItI a o u kvs) [it] it (fun i h=>∃ ok ov,IsItemIter h it a i es.size ep ok ov) where
 mem:=by simp
 obj:=fun i h st b hb=>by
  have e:b = it:=by simpa using hb
  subst e
  obtain ⟨ok,ov,st⟩:=st
  exact ⟨_,st,fun v z=>by cases z⟩
 keep:=fun i h h' st k=>by
  obtain ⟨ok,ov,st⟩:=st
  exact ⟨ok,ov,k it (by simp) _ st⟩
 item:=by
  intro X hP hw hK hc i pins s σ H E I hf st hg
  subst hP hw hK
  obtain ⟨ok,ov,st⟩:=st
  obtain ⟨hi,hH⟩:=hg
  obtain ⟨g,r⟩:=W4 W (I.hok a _ hH) hd
  have hie:i < es.size:=by omega
  obtain ⟨p,hp,r1,r2⟩:=VB r hie
  refine WY st ⟨o,g,hx,hd⟩ hie fun h1 hout hT hk=>?_
  refine ⟨_,rfl,wpAny_letOwnedTupleGo_items (s:={ s with heap:=h1 }) hout fun h2 he2 hs2=>?_⟩
  have eT:s.heap.objs.size ≠ it:=Nat.ne_of_gt (Heap.lt_size st)
  have hk2:∀ b o,b ∉ [it] -> s.heap.get? b = some o -> h2.get? b = some o:=fun b o hb q=>by
   have n1:b ≠ it:=fun z=>hb (by simp [z])
   exact (hs2.2 b n1).trans (hk b o n1 q)
  have hT2:h2.get? s.heap.objs.size = some { cls:=.type "tuple",data:=.seq #[es[i].key,es[i].val] }:=(hs2.2 _ eT).trans hT
  have hn:H s.heap.objs.size = none:=I.hok.fresh (Nat.le_refl _)
  have I2:Inv X pins σ (upd H s.heap.objs.size (.tup [p.1,p.2])) { s with heap:=h2,toks:=s.toks }:=jM (s:=s) I hk2 hf (Nat.le_refl _) ⟨by show 2 <= sizeLine; decide,[es[i].key,es[i].val],.cons r1 (.cons r2 .nil),_,hT2,rfl,0,rfl⟩
  refine ⟨.ref s.heap.objs.size,_,I2,rfl,⟨_,p,hn,rfl,hp,rfl⟩,⟨_,_,he2⟩,fun b hb=>?_⟩
  have e:b = it:=by simpa using hb
  subst e
  rw [zo (Ne.symm eT)]
  exact (hf b (by simp)).1
 done:=by
  intro X hP hw hK hc i pins s σ H E I hf st hg
  subst hP hw hK
  obtain ⟨ok,ov,st⟩:=st
  obtain ⟨hi,hH⟩:=hg
  obtain ⟨g,r⟩:=W4 W (I.hok a _ hH) hd
  have ei:i = es.size:=by omega
  subst ei
  exact Ua (I.ok.hd hc) st ⟨o,g,hx,hd⟩ fun h' eb=>⟨rfl,qF (fp:=[it]) (t':=s.toks) I (fun b o hb q=>eb b o (fun z=>hb (by simp [z])) q) hf⟩
 self:=fun _ _ _ _ _ st h=>by
  obtain ⟨ok,ov,st⟩:=st
  have hT:Shared.TypeIs _ (.ref it) "dict_itemiterator":=⟨_,st,rfl⟩
  refine wpAny_pyIter_slot hT PySem.F.slot_dict_itemiterator_iter (wpAny_call_entry PySem.F.slot_dict_itemiterator_iter hT Z0 ?_ (PySem.F.args_dict_itemiterator_iter_1 _))
  show wpAny _ _ (ret (.ref it)) _ _ _
  exact wpAny_pure ⟨_,rfl,"dict_itemiterator",_,hT,PySem.F.slot_dict_itemiterator_next.lookup,h⟩
theorem Tp {P:Program} {w:World} {K:FG7} {tg:Expr} (a it:Addr) (o:Obj) (u:HO) (es:Array DictEntry) (ep:Nat) (kvs:List (V × V)) (W:WkE a u kvs) (hx:o.ExactDict) (hd:o.data = .dict es ep) (hes:es.size = kvs.length) :
  Turn P w K tg (ItJ a o u kvs) [it] it (fun i h=>h.IsKeyIter it a i es.size ep) where
 mem:=by simp
 obj:=fun i h st b hb=>by
  have e:b = it:=by simpa using hb
  subst e
  obtain ⟨o,e,c,d⟩:=st
  exact ⟨o,e,fun v z=>by rw [d] at z; cases z⟩
 keep:=fun i h h' st k=>st.at fun o e=>k it (by simp) o e
 item:=by
  intro X hP hw hK hc i pins s σ H E I hf st hg
  subst hP hw hK
  obtain ⟨hi,hH⟩:=hg
  obtain ⟨g,r⟩:=W4 W (I.hok a _ hH) hd
  have hie:i < es.size:=by omega
  obtain ⟨p,hp,r1,r2⟩:=VB r hie
  obtain ⟨f0,f1,f2,f3,f4,f5⟩:=hf it (by simp)
  refine WS st ⟨o,g,hx,hd⟩ hie fun h' st' sb=>?_
  have I1:Inv X pins σ H { s with heap:=h' }:=I.turned (t':=s.toks) (fun b o hb e=>(sb.2 b hb).trans e) f0 f1 f3 f4 f5
  obtain ⟨oi,e,c,d⟩:=id st'
  exact ⟨_,rfl,Wh (s:={ s with heap:=h' }) e c d (by decide) ⟨p.1,H,I1,r1,⟨rfl,p,hp,rfl⟩,st',fun b hb=>(hf b hb).1⟩⟩
 done:=by
  intro X hP hw hK hc i pins s σ H E I hf st hg
  subst hP hw hK
  obtain ⟨hi,hH⟩:=hg
  obtain ⟨g,r⟩:=W4 W (I.hok a _ hH) hd
  obtain ⟨f0,f1,f2,f3,f4,f5⟩:=hf it (by simp)
  have ei:i = es.size:=by omega
  subst ei
  exact V8 (I.ok.hd hc) st ⟨o,g,hx,hd⟩ fun h' eb=>⟨rfl,I.turned (t':=s.toks) (fun b o hb e=>eb b o hb e) f0 f1 f3 f4 f5⟩
 self:=fun _ _ _ _ _ st h=>wpAny_pyIter_keyiter st h
theorem Grow.frzE {m:List Addr} {H:Hp} {d:Addr} {u:HO} {o:Obj} (h:H d = some u) (mu:Mut (some u)) (hm:d ∈ m):Grow m H (upd H d (.frz o u)) :=
 ⟨fun b v hb q=>by rw [zo (show b ≠ d from fun z=>hb (by rw [z]; exact hm))]; exact q,fun b zs q=>by rw [zo (fun z=>by subst z; rw [h] at q; cases q; exact mu)]; exact q,fun b u v q=>by rw [zo (fun z=>by subst z; rw [h] at q; cases q; exact mu)]; exact q⟩
section
variable {X:Cx} {elts:List Expr} {kt:Nat} {pt:Pos} {tg:Expr}
def WkOf (H1:Hp) (a:Addr) (u:HO) (kvs:List (V × V)) (R:Obj -> Hp -> Prop):Prop:=WkE a u kvs /\ Rd H1 a u /\ ∀ o H',H' a = some (.frz o u) -> Grow [a] H1 H' -> (∀ b,b ≠ a -> H' b = H1 b) -> R o H'
theorem qU {pins:List (Addr × Obj)} {σ:L2.St} {H1:Hp} {s1:Shared} {a:Addr} {u:HO} {kvs:List (V × V)} {R:Obj -> Hp -> Prop} {G:Prop} (I1:Inv X pins σ H1 s1) (h:WkOf H1 a u kvs R)
  (key:∀ (H2:Hp) (ob:Obj) (es:Array DictEntry) (ep:Nat),Inv X pins σ H2 s1 -> WkE a u kvs -> H2 a = some (.frz ob u) -> (a == sysModules) = false -> s1.heap.get? a = some ob -> ob.ExactDict -> ob.data = .dict es ep -> es.size = kvs.length -> EnR kvs es.toList -> R ob H2 -> G):G:=by
 obtain ⟨W,hrd,q⟩:=h
 rcases hrd with ha | ⟨ob,ha⟩
 ·have ok1:=I1.hok a _ ha
  obtain ⟨lo,ob,es,ep,g,hx,hd,r⟩:=W.lo ok1
  have I2:Inv X pins σ (upd H1 a (.frz ob u)) { s1 with heap:=s1.heap,toks:=s1.toks }:=ut I1 (by rw [ha]; exact W.mu) (Heap.SameBut.refl ..) ⟨ob,g⟩ ⟨g,W.any ok1⟩
  have hl:es.size = kvs.length:=by rw [← Array.length_toList]; exact (Paired.length r).symm
  exact key _ ob es ep I2 W zd lo g hx hd hl r (q ob _ zd (Grow.frzE ha W.mu (by simp)) fun b hb=>zo hb)
 ·have ok1:=I1.hok a _ ha
  obtain ⟨g,y⟩:=ok1
  obtain ⟨lo,ob',es,ep,g',hx,hd,r⟩:=W.lo y
  rw [g] at g'
  cases g'
  have hl:es.size = kvs.length:=by rw [← Array.length_toList]; exact (Paired.length r).symm
  exact key _ ob es ep I1 W ha lo g hx hd hl r (q ob _ ha (Grow.refl _ _) fun _ _=>rfl)
def iItI (tl:TE):TI:=fun σ H R=>tl σ H fun x H1=>∃ a u kvs,x = .ref a /\ WkOf H1 a u kvs (fun o H'=>R (ItI a o u kvs) H')
def iItJ (tl:TE):TI:=fun σ H R=>tl σ H fun x H1=>∃ a u kvs,x = .ref a /\ WkOf H1 a u kvs (fun o H'=>R (ItJ a o u kvs) H')
theorem XE {o:Expr} {to:TE} {apos cpos:Pos} (ho:PE X o to)
  (hbase:attributeBase o "items" X.env (eval o X.env) = eval o X.env:=by rfl) (hline:(apos.endLine == cpos.line) = true:=by rfl) :
  PI X (.Tuple elts kt pt) (.Call (.Attribute o "items" apos) [] [] cpos) (iItI to):=by
 intro pins s σ H R I h
 refine wpAny_Call_method0_late hbase hline (thn (ho pins s σ H _ I h) fun v s1 ⟨x,H1,I1,r1,a,u,kvs,ex,hw⟩=>?_)
 subst ex
 obtain rfl:v = Value.ref a:=r1
 refine qU I1 hw fun H2 ob es ep I2 W hH lo g hx hd hl r hR=>?_
 have em:xj es a ep s1.heap:=⟨ob,g,hx,hd⟩
 refine ⟨"dict","dict.items",PySem.F.plainAttrs_dict,PySem.F.slot_dict_items,PySem.F.type_dict_items,em.typeIs,fun b e=>by cases e; exact ⟨ob,g,hx.2.1⟩,Calls.callWith_builtin rfl (PySem.evalArgs_none (WW lo em ?_))⟩
 have em':xj es a ep (s1.heap.push { cls:=.type "dict_items",data:=.fields #[.ref a] }):=em.keep fun o e=>Heap.get?_push_of_some _ e
 have I3:Inv X pins σ H2 { s1 with heap:=s1.heap.push { cls:=.type "dict_items",data:=.fields #[.ref a] } }:=I2.kept (t':=s1.toks) fun b o e=>Heap.get?_push_of_some _ e
 refine WX (s:={ s1 with heap:=s1.heap.push { cls:=.type "dict_items",data:=.fields #[.ref a] } }) ⟨_,Heap.get?_push_size _ rfl,rfl,rfl⟩ em' ?_
 refine ⟨_,[_],_,_,H2,rfl,I3.kept (t':=s1.toks) fun b o e=>Heap.get?_push_of_some _ e,To a _ ob u es ep kvs W hx hd hl,⟨_,_,Heap.get?_push_size _ rfl⟩,fun b hb=>?_,hR⟩
 have e:=List.mem_singleton.mp hb
 subst e
 exact I3.fpOk (Nat.le_refl _) (I3.hok.fresh (Nat.le_refl _))
theorem Ue {l:Expr} {tl:TE} (hl:PE X l tl):PI X tg l (iItJ tl):=by
 intro pins s σ H R I h
 refine thn (hl pins s σ H _ I h) fun v s1 ⟨x,H1,I1,r1,a,u,kvs,ex,hw⟩=>?_
 subst ex
 obtain rfl:v = Value.ref a:=r1
 refine qU I1 hw fun H2 ob es ep I2 W hH lo g hx hd hl r hR=>?_
 refine WR lo ⟨ob,g,hx,hd⟩ ?_
 refine ⟨s1.heap.objs.size,[s1.heap.objs.size],_,_,H2,rfl,I2.kept (t':=s1.toks) fun b o e=>Heap.get?_push_of_some _ e,Tp a _ ob u es ep kvs W hx hd hl,⟨_,Heap.get?_push_size _ rfl,rfl,rfl⟩,fun b hb=>?_,hR⟩
 have e:b = s1.heap.objs.size:=by simpa using hb
 subst e
 exact I2.fpOk (Nat.le_refl _) (I2.hok.fresh (Nat.le_refl _))
end
theorem Tq {a:Addr} {o:Obj} {u:HO} {kvs:List (V × V)} {g:TG} {tb:TS} {D:Ends} {σ:L2.St} {H:Hp} (Pv:Nat -> L2.St -> Hp -> Prop) (h0:Pv 0 σ H) (hl:∀ i σ H,i <= kvs.length -> Pv i σ H -> H a = some (.frz o u))
  (hs:∀ i p T σ H,kvs[i]? = some p -> H T = none -> Pv i σ H -> g (.ref T) σ (upd H T (.tup [p.1,p.2])) fun σ2 H2=>tb { D with nx:=Pv (i + 1),ct:=Pv (i + 1),bk:=D.nx } σ2 H2) (hd:∀ σ H,Pv kvs.length σ H -> D.nx σ H) :
  ∃ W:Nat -> Nat -> L2.St -> Hp -> Prop,(∃ m,W 0 m σ H) /\ ∀ i m σ H,W i m σ H →
   ((ItI a o u kvs).stop i H /\ D.nx σ H) \/ ((ItI a o u kvs).go i H /\ ∃ N:L2.St -> Hp -> Prop,(∀ σ' H',N σ' H' -> ∃ m',m' < m /\ W (i + 1) m' σ' H') /\ ∀ x H',(ItI a o u kvs).yld i H x H' -> g x σ H' fun σ2 H2=>tb { D with nx:=N,ct:=N,bk:=D.nx } σ2 H2):=by
 refine ⟨fun i m σ H=>m = kvs.length - i /\ i <= kvs.length /\ Pv i σ H,⟨kvs.length,by simp,Nat.zero_le _,h0⟩,?_⟩
 rintro i m σ H ⟨rfl,hi,p⟩
 have q:=hl i σ H hi p
 by_cases hlt:i < kvs.length
 ·refine .inr ⟨⟨hlt,q⟩,Pv (i + 1),fun σ' H' p'=>⟨kvs.length - (i + 1),by omega,rfl,hlt,p'⟩,fun x H' y=>?_⟩
  obtain ⟨T,pk,hT,rfl,hp,rfl⟩:=y
  exact hs i pk T σ H hp hT p
 ·have e:i = kvs.length:=by omega
  exact .inl ⟨⟨e,q⟩,hd σ H (e ▸ p)⟩
theorem Sw {a:Addr} {o:Obj} {u:HO} {kvs:List (V × V)} {g:TG} {tb:TS} {D:Ends} {σ:L2.St} {H:Hp} (Pv:Nat -> L2.St -> Hp -> Prop) (h0:Pv 0 σ H) (hl:∀ i σ H,i <= kvs.length -> Pv i σ H -> H a = some (.frz o u))
  (hs:∀ i p σ H,kvs[i]? = some p -> Pv i σ H -> g p.1 σ H fun σ2 H2=>tb { D with nx:=Pv (i + 1),ct:=Pv (i + 1),bk:=D.nx } σ2 H2) (hd:∀ σ H,Pv kvs.length σ H -> D.nx σ H) :
  ∃ W:Nat -> Nat -> L2.St -> Hp -> Prop,(∃ m,W 0 m σ H) /\ ∀ i m σ H,W i m σ H →
   ((ItJ a o u kvs).stop i H /\ D.nx σ H) \/ ((ItJ a o u kvs).go i H /\ ∃ N:L2.St -> Hp -> Prop,(∀ σ' H',N σ' H' -> ∃ m',m' < m /\ W (i + 1) m' σ' H') /\ ∀ x H',(ItJ a o u kvs).yld i H x H' -> g x σ H' fun σ2 H2=>tb { D with nx:=N,ct:=N,bk:=D.nx } σ2 H2):=by
 refine ⟨fun i m σ H=>m = kvs.length - i /\ i <= kvs.length /\ Pv i σ H,⟨kvs.length,by simp,Nat.zero_le _,h0⟩,?_⟩
 rintro i m σ H ⟨rfl,hi,p⟩
 have q:=hl i σ H hi p
 by_cases hlt:i < kvs.length
 ·refine .inr ⟨⟨hlt,q⟩,Pv (i + 1),fun σ' H' p'=>⟨kvs.length - (i + 1),by omega,rfl,hlt,p'⟩,fun x H' y=>?_⟩
  obtain ⟨rfl,pk,hp,rfl⟩:=y
  exact hs i pk σ _ hp p
 ·have e:i = kvs.length:=by omega
  exact .inl ⟨⟨e,q⟩,hd σ H (e ▸ p)⟩
theorem XG:∀ {kvs:List (V × V)} {es:List DictEntry},EnR kvs es -> Vals (kvs.map (·.2)) (es.map (·.val))
 | _,_,.nil=>.nil
 | _,_,.cons h t=>.cons h.2 (XG t)
section
variable {X:Cx} {o:Expr} {to:TE} {p pos apos cpos:Pos}
def XH (to:TE):TE:=fun σ H Q=>to σ H fun x H1=>∃ a u kvs,x = V.ref a /\ kvs.length <= sizeLine /\ WkOf H1 a u kvs (fun _ H'=>∀ l,H' l = none -> Q (.ref l) (upd H' l (.lst (kvs.map (·.2)))))
theorem qV {k:Nat} (hr:Room k X.A) (hgl:Gl X "list") (hmt:X.mg "list" = none) (ho:PE X o to)
  (hbase:attributeBase o "values" X.env (eval o X.env) = eval o X.env:=by rfl) (hline:(apos.endLine == cpos.line) = true:=by rfl)
  (hs2:starEach [(.Call (.Attribute o "values" apos) [] [] cpos:Expr)] X.env = [(false,eval (.Call (.Attribute o "values" apos) [] [] cpos) X.env)]:=by rfl) :
  PE X (.Call (.Name "list" p) [.Call (.Attribute o "values" apos) [] [] cpos] [] pos) (XH to):=by
 intro pins s σ H Q I h
 refine wpAny_Call_Name_kw (vE I hgl hmt v8 (PyProof.Rows.callWith_type1 ?_ hs2 rfl))
 rw [hs2]
 show wpAny _ _ (spliced [(false,eval (.Call (.Attribute o "values" apos) [] [] cpos) X.env)]) _ _ s
 refine Calls.spliced_cons ?_
 refine wpAny_Call_method0_late hbase hline (thn (ho pins s σ H _ I h) fun v s1 ⟨x,H1,I1,r1,a,u,kvs,ex,hz,hw⟩=>?_)
 subst ex
 obtain rfl:v = Value.ref a:=r1
 refine qU I1 hw fun H2 ob es ep I2 W hH lo g hx hd hl r hR=>?_
 have em:xj es a ep s1.heap:=⟨ob,g,hx,hd⟩
 refine ⟨"dict","dict.values",PySem.F.plainAttrs_dict,PySem.F.slot_dict_values,PySem.F.type_dict_values,em.typeIs,fun b e=>by cases e; exact ⟨ob,g,hx.2.1⟩,Calls.callWith_builtin rfl (PySem.evalArgs_none (WZ lo em (Calls.spliced_nil ?_)))⟩
 have em':xj es a ep (s1.heap.push { cls:=.type "dict_values",data:=.fields #[.ref a] }):=em.keep fun o e=>Heap.get?_push_of_some _ e
 have I3:Inv X pins σ H2 { s1 with heap:=s1.heap.push { cls:=.type "dict_values",data:=.fields #[.ref a] } }:=I2.kept (t':=s1.toks) fun b o e=>Heap.get?_push_of_some _ e
 refine kdl_call (s:={ s1 with heap:=s1.heap.push { cls:=.type "dict_values",data:=.fields #[.ref a] } }) (Uc (es:=es) (ep:=ep) (d:=a) (r:=s1.heap.objs.size)) hr.hd ⟨⟨_,Heap.get?_push_size _ rfl,rfl,rfl⟩,em'⟩ (by rw [hl]; exact hz) fun h' tk acc' c' kp e hI=>?_
 have hacc:acc'.toList = es.toList.map (·.val):=by
  apply List.ext_getElem
  ·rw [Array.length_toList,hI.1,List.length_map,Array.length_toList]
  ·intro j h1 h2
   rw [Array.length_toList] at h1
   obtain ⟨hj,ev⟩:=hI.2 j acc'[j] (Array.getElem?_eq_getElem h1)
   rw [Array.getElem_toList,ev,List.getElem_map,Array.getElem_toList]
 refine ⟨.ref _,_,I3.laid (t':=tk) kp (Nat.le_refl _) (show z5 X.prog X.w _ h' _ (.lst (kvs.map (·.2))) from ⟨by rw [List.length_map]; exact hz,acc'.toList,c',by rw [hacc]; exact XG r,by rw [Array.toArray_toList]; exact e⟩),rfl,hR _ (I3.hok.fresh (Nat.le_refl _))⟩
end
theorem Room.u173 {k:Nat} {A:Around} (r:Room k A):A.units + 1 < cLine:=by have:=r.un; omega
theorem Room.u2 {k:Nat} {A:Around} (r:Room k A):A.units + 2 < cLine:=by have:=r.un; omega
def x0R (k:Nat) (rows:List (List Int)) (s l:Nat):Nat:=wfN k s l (fstI rows s (nN k s l))
def x1R (k:Nat) (rows:List (List Int)) (s l:Nat):Nat:=wfN k s l (1 - fstI rows s (nN k s l))
def outR (k s l b:Nat):Nat:=wfN k s l (figI k s ((b % 2 ^ k:Nat):Int))
theorem Ts {k s l m:Nat} {w:Int} (k4:k <= 4) (s1:1 <= s) (sk:s <= k) (hl:l < 2 ^ k) (hm:m < 2 ^ k) (hw:w = 0 \/ w = 1) (h:∀ t:Nat,1 <= t -> t <= k -> t ≠ s -> figI k t l = figI k t m):wfN k s l w = wfN k s m w:=by
 have A:=wfF k4 s1 sk hl hw
 have B:=wfF k4 s1 sk hm hw
 refine si k4 A.lt B.lt fun t t1 tk=>?_
 by_cases c:t = s
 ·rw [c,A.at_,B.at_]
 ·rw [A.off t tk c,B.off t tk c,h t t1 tk c]
theorem Tt {k s l m:Nat} (s1:1 <= s) (sk:s <= k) (h:∀ t:Nat,1 <= t -> t <= k -> t ≠ s -> figI k t l = figI k t m):nN k s l = nN k s m:=by
 rw [Vv (e:=m) (x:=m) s1 sk (fun u u1 u2=>h u u1 (by omega) (by omega)) fun u u1 u2=>h u (by omega) u2 (by omega)]
 exact (Vv (e:=m) (x:=m) s1 sk (fun u _ _=>rfl) fun u _ _=>rfl).symm
section
variable {k:Nat} {rows:List (List Int)}
theorem Tu {s l m:Nat} (k4:k <= 4) (hs:sg k rows) (s1:1 <= s) (sk:s <= k) (hl:l < 2 ^ k) (hm:m < 2 ^ k) (h:∀ t:Nat,1 <= t -> t <= k -> t ≠ s -> figI k t l = figI k t m) :
  x0R k rows s l = x0R k rows s m /\ x1R k rows s l = x1R k rows s m:=by
 have e:=Tt s1 sk h
 have f:=U2 k4 hs s1 sk hm
 unfold x0R x1R
 rw [e]
 exact ⟨Ts k4 s1 sk hl hm f h,Ts k4 s1 sk hl hm (by omega) h⟩
structure XF (k:Nat) (rows:List (List Int)) (s l:Nat):Prop where
 lt0:x0R k rows s l < 2 ^ k
 lt1:x1R k rows s l < 2 ^ k
 ne:x0R k rows s l ≠ x1R k rows s l
 or:l = x0R k rows s l \/ l = x1R k rows s l
 off0:∀ t:Nat,t <= k -> t ≠ s -> figI k t (x0R k rows s l) = figI k t l
 off1:∀ t:Nat,t <= k -> t ≠ s -> figI k t (x1R k rows s l) = figI k t l
theorem xF {s l:Nat} (k4:k <= 4) (hs:sg k rows) (s1:1 <= s) (sk:s <= k) (hl:l < 2 ^ k):XF k rows s l:=by
 have f:=U2 k4 hs s1 sk hl
 have A:=wfF k4 s1 sk hl f
 have B:=wfF k4 s1 sk hl (show 1 - fstI rows s (nN k s l) = 0 \/ 1 - fstI rows s (nN k s l) = 1 by omega)
 have g:=U1 (l:=l) k4 sk hl
 refine ⟨A.lt,B.lt,fun e=>?_,?_,A.off,B.off⟩
 ·have e':wfN k s l (fstI rows s (nN k s l)) = wfN k s l (1 - fstI rows s (nN k s l)):=e
  have a:=A.at_
  rw [e',B.at_] at a
  omega
 ·by_cases c:figI k s l = fstI rows s (nN k s l)
  ·refine .inl (si k4 hl A.lt fun t t1 tk=>?_)
   by_cases d:t = s
   ·rw [d]; exact c.trans A.at_.symm
   ·exact (A.off t tk d).symm
  ·refine .inr (si k4 hl B.lt fun t t1 tk=>?_)
   by_cases d:t = s
   ·rw [d,show figI k s (x1R k rows s l) = 1 - fstI rows s (nN k s l) from B.at_]; omega
   ·exact (B.off t tk d).symm
theorem XI {b:Nat}:b % 2 ^ k < 2 ^ k:=Nat.mod_lt _ (Nat.two_pow_pos k)
theorem outF {s l b:Nat} (k4:k <= 4) (s1:1 <= s) (sk:s <= k) (hl:l < 2 ^ k):WfF k s l (figI k s ((b % 2 ^ k:Nat):Int)):=wfF k4 s1 sk hl (U1 k4 sk XI)
def Tv:Option Deed -> Option Deed -> Option Deed
 | some d,some e=>some (UN d e)
 | some d,none=>some d
 | none,o=>o
def lvR (k:Nat) (rows:List (List Int)) (ks:List Ask):Nat -> Nat -> Nat -> Option Deed
 | 0,l,b=>(ks.find? fun a=>decide (a.hand = (l:Int) /\ a.box = (b:Int))).map (·.deed)
 | s + 1,l,b=>if figI k ((s + 1:Nat):Int) l = figI k ((s + 1:Nat):Int) ((b % 2 ^ k:Nat):Int) then Tv (lvR k rows ks s (x0R k rows (s + 1) l) b) (lvR k rows ks s (x1R k rows (s + 1) l) b) else none
def arrR (k:Nat) (rows:List (List Int)) (ks:List Ask):Nat -> Nat -> Nat -> List Ask
 | 0,l,b=>ks.filter fun a=>decide (a.hand = (l:Int) /\ a.box = (b:Int))
 | s + 1,l,b=>if figI k ((s + 1:Nat):Int) l = figI k ((s + 1:Nat):Int) ((b % 2 ^ k:Nat):Int) then arrR k rows ks s (x0R k rows (s + 1) l) b ++ arrR k rows ks s (x1R k rows (s + 1) l) b else []
def runR (v:Int) (as:List Ask):Int:=as.foldl (fun v a=>a.deed.mk' v) v
structure RndOk (k m:Nat) (ks:List Ask):Prop where
 nd:(ks.map (·.hand)).Nodup
 hand:∀ a ∈ ks,0 <= a.hand /\ a.hand < 2 ^ k
 box:∀ a ∈ ks,0 <= a.box /\ a.box < m
 ok:∀ a ∈ ks,a.deed.Ok
structure LvF (k:Nat) (rows:List (List Int)) (ks:List Ask) (s l b:Nat):Prop where
 non:lvR k rows ks s l b = none ↔ arrR k rows ks s l b = []
 run:∀ d,lvR k rows ks s l b = some d -> d.Ok /\ ∀ v,d.mk' v = runR v (arrR k rows ks s l b)
theorem Tw {ks:List Ask} (k4:k <= 4) (hs:sg k rows) {s l b:Nat} (sk:s + 1 <= k) (hl:l < 2 ^ k) (h:lvR k rows ks (s + 1) l b ≠ none):∃ x,x < 2 ^ k /\ outR k (s + 1) x b = l /\ lvR k rows ks s x b ≠ none:=by
 by_cases c:figI k ((s + 1:Nat):Int) l = figI k ((s + 1:Nat):Int) ((b % 2 ^ k:Nat):Int)
 ·have e2:lvR k rows ks (s + 1) l b = Tv (lvR k rows ks s (x0R k rows (s + 1) l) b) (lvR k rows ks s (x1R k rows (s + 1) l) b):=if_pos c
  have X:=xF k4 hs (show 1 <= s + 1 by omega) sk hl
  have back:∀ x:Nat,x < 2 ^ k -> (∀ t:Nat,t <= k -> t ≠ s + 1 -> figI k t x = figI k t l) -> outR k (s + 1) x b = l:=by
   intro x hx ho
   have W:=outF (b:=b) k4 (show 1 <= s + 1 by omega) sk hx
   refine si k4 W.lt hl fun t t1 tk=>?_
   by_cases d:t = s + 1
   ·rw [d]; exact W.at_.trans c.symm
   ·exact (W.off t tk d).trans (ho t tk d)
  cases h0:lvR k rows ks s (x0R k rows (s + 1) l) b with
  | some d=>exact ⟨_,X.lt0,back _ X.lt0 X.off0,by rw [h0]; exact fun z=>nomatch z⟩
  | none =>
   refine ⟨_,X.lt1,back _ X.lt1 X.off1,fun z=>h ?_⟩
   rw [e2,h0,z]; rfl
 ·exact absurd (if_neg c) h
def stvR (k:Nat) (rows:List (List Int)) (ks:List Ask) (bd:Nat -> Int):Nat -> Nat -> Nat -> Int
 | 0,_,b=>bd b
 | n + 1,l,b=>match lvR k rows ks (k - n - 1) (x0R k rows (k - n) l) b,lvR k rows ks (k - n - 1) (x1R k rows (k - n) l) b with
  | some d,some _=>if l = x1R k rows (k - n) l then d.mk' (stvR k rows ks bd n (outR k (k - n) l b) b) else stvR k rows ks bd n (outR k (k - n) l b) b
  | _,_=>stvR k rows ks bd n (outR k (k - n) l b) b
end
def keyR (l b:Nat):List Key:=[.inl (l:Int),.inl (b:Int)]
theorem wq {l b l' b':Nat} (h:keyR l b = keyR l' b'):l = l' /\ b = b':=by
 unfold keyR at h
 injection h with h1 h2
 injection h2 with h2 _
 injection h1 with h1
 injection h2 with h2
 exact ⟨by omega,by omega⟩
structure TabR {α:Type} (kvs:List (List Key × V)) (n m:Nat) (f:Nat -> Nat -> Option α) (R:V -> α -> Prop):Prop where
 keys:∀ p ∈ kvs,∃ l b x,p.1 = keyR l b /\ l < n /\ b < m /\ f l b = some x /\ R p.2 x
 nd:(kvs.map (·.1)).Nodup
 all:∀ l b,l < n -> b < m -> f l b ≠ none -> (valV kvs (keyR l b)).isSome = true
theorem qW {kvs:List (List Key × V)} {k:List Key} {v:V} (h:valV kvs k = some v):(k,v) ∈ kvs:=by
 unfold valV at h
 cases e:kvs.find? fun kv=>decide (kv.1 = k) with
 | none=>rw [e] at h; cases h
 | some p =>
  rw [e] at h
  have h2:p.2 = v:=Option.some.inj h
  have h0:decide (p.1 = k) = true:=by have z:=List.find?_some e; exact z
  have h1:=of_decide_eq_true h0
  have h3:=List.mem_of_find?_eq_some e
  rw [← h2,← h1]; exact h3
theorem TabR.val {α:Type} {kvs:List (List Key × V)} {n m:Nat} {f:Nat -> Nat -> Option α} {R:V -> α -> Prop} (t:TabR kvs n m f R) {l b:Nat} (hl:l < n) (hb:b < m) :
  match f l b with | some x=>∃ v,valV kvs (keyR l b) = some v /\ R v x | none=>valV kvs (keyR l b) = none:=by
 cases hv:valV kvs (keyR l b) with
 | some v =>
  obtain ⟨l',b',x,e,_,_,hf,hR⟩:=t.keys _ (qW hv)
  obtain ⟨rfl,rfl⟩:=wq e
  rw [hf]
  exact ⟨v,rfl,hR⟩
 | none =>
  cases hf:f l b with
  | none=>rfl
  | some x =>
   have:=t.all l b hl hb (by rw [hf]; exact fun z=>nomatch z)
   rw [hv] at this; cases this
theorem sG {kvs:List (List Key × V)} {k:List Key} {v:V}:∀ p ∈ putK kvs k v,p = (k,v) \/ (p ∈ kvs /\ p.1 ≠ k):=by
 intro p hp
 unfold putK at hp
 split at hp
 ·obtain ⟨q,hq,rfl⟩:=List.mem_map.mp hp
  by_cases c:q.1 = k
  ·left; rw [if_pos c]; exact Prod.ext c rfl
  ·right; rw [if_neg c]; exact ⟨hq,c⟩
 ·rename_i h
  rcases List.mem_append.mp hp with z | z
  ·by_cases c:p.1 = k
   ·exfalso; exact h (List.any_eq_true.mpr ⟨p,z,decide_eq_true c⟩)
   ·exact .inr ⟨z,c⟩
  ·exact .inl (List.mem_singleton.mp z)
theorem XJ {kvs:List (List Key × V)} {k:List Key} {v:V} (h:(kvs.map (·.1)).Nodup):((putK kvs k v).map (·.1)).Nodup:=by
 cases e:valV kvs k with
 | none=>exact V7 v h e
 | some u =>
  have:(putK kvs k v).map (·.1) = kvs.map (·.1):=by
   unfold putK
   rw [if_pos (by rw [xp,e]; rfl),List.map_map]
   refine List.map_congr_left fun p _=>?_
   show (if p.1 = k then (p.1,v) else p).1 = p.1
   split <;> rfl
  rw [this]; exact h
theorem TabR.put {α:Type} {kvs:List (List Key × V)} {n m:Nat} {f g:Nat -> Nat -> Option α} {R:V -> α -> Prop} (t:TabR kvs n m f R) {l b:Nat} {v:V} {x:α} (hl:l < n) (hb:b < m) (hR:R v x) (hx:g l b = some x) (hg:∀ l' b',¬ (l' = l /\ b' = b) -> g l' b' = f l' b'):TabR (putK kvs (keyR l b) v) n m g R where
 keys:=fun p hp=>by
  rcases sG p hp with rfl | ⟨hm,hne⟩
  ·exact ⟨l,b,x,rfl,hl,hb,hx,hR⟩
  ·obtain ⟨l',b',y,e,h1,h2,h3,h4⟩:=t.keys p hm
   refine ⟨l',b',y,e,h1,h2,?_,h4⟩
   rw [hg l' b' fun z=>hne (by rw [e,z.1,z.2])]; exact h3
 nd:=XJ t.nd
 all:=fun l' b' h1 h2 h3=>by
  rw [xq]
  by_cases c:keyR l' b' = keyR l b
  ·rw [if_pos c]; rfl
  ·rw [if_neg c]
   refine t.all l' b' h1 h2 ?_
   rw [← hg l' b' fun z=>c (by rw [z.1,z.2])]; exact h3
theorem TabR.nil {α:Type} {n m:Nat} {R:V -> α -> Prop}:TabR [] n m (fun _ _=>(none:Option α)) R:=⟨(fun _ h=>nomatch h),List.nodup_nil,fun _ _ _ _ h=>absurd rfl h⟩
theorem TabR.imp {α:Type} {kvs:List (List Key × V)} {n m:Nat} {f:Nat -> Nat -> Option α} {R R':V -> α -> Prop} (t:TabR kvs n m f R) (h:∀ v x,R v x -> R' v x):TabR kvs n m f R' :=
 ⟨fun p hp=>by obtain ⟨l,b,x,e,h1,h2,h3,h4⟩:=t.keys p hp; exact ⟨l,b,x,e,h1,h2,h3,h _ _ h4⟩,t.nd,t.all⟩
def Tx {α:Type} (H:Hp) (d:Addr) (n m:Nat) (f:Nat -> Nat -> Option α) (R:V -> α -> Prop):Prop:=∃ kvs,Rd H d (.dT kvs) /\ TabR kvs n m f R /\ kvs.length <= 16
def LvAt (K:FG7) (H:Hp) (k m:Nat) (rows:List (List Int)) (ks:List Ask) (s:Nat) (d:Addr):Prop:=Tx H d (2 ^ k) m (lvR k rows ks s) (yD K H)
def kpR (k:Nat) (rows:List (List Int)) (ks:List Ask) (s l b:Nat):Option Deed:=match lvR k rows ks (s - 1) (x0R k rows s l) b,lvR k rows ks (s - 1) (x1R k rows s l) b with
 | some d,some _=>some d
 | _,_=>none
def KpAt (K:FG7) (H:Hp) (k m:Nat) (rows:List (List Int)) (ks:List Ask) (s:Nat) (d:Addr):Prop :=
 ∃ kvs,Rd H d (.dT kvs) /\ kvs.length <= 16 /\ (∀ p ∈ kvs,∃ l b x,p.1 = keyR (nN k s l) b /\ l < 2 ^ k /\ b < m /\ kpR k rows ks s l b = some x /\ yD K H p.2 x) /\ (kvs.map (·.1)).Nodup ∧
  ∀ l b,l < 2 ^ k -> b < m -> kpR k rows ks s l b ≠ none -> (valV kvs (keyR (nN k s l) b)).isSome = true
theorem Rd.growR {m:List Addr} {H H':Hp} {d:Addr} {u:HO} (g:Grow m H H') (hm:d ∉ m \/ ∃ o,H d = some (.frz o u)) (h:Rd H d u):Rd H' d u:=by
 rcases hm with hm | ⟨o,ho⟩
 ·rcases h with h | ⟨o,h⟩
  ·exact .inl (g.keep _ _ hm h)
  ·exact .inr ⟨o,g.frz _ _ _ h⟩
 ·exact .inr ⟨o,g.frz _ _ _ ho⟩
theorem LvAt.grow {K:FG7} {m':List Addr} {H H':Hp} {k m:Nat} {rows:List (List Int)} {ks:List Ask} {s:Nat} {d:Addr} (g:Grow m' H H') (hm:d ∉ m') (h:LvAt K H k m rows ks s d):LvAt K H' k m rows ks s d:=by
 obtain ⟨kvs,h1,h2,h3⟩:=h
 exact ⟨kvs,Rd.growR g (.inl hm) h1,h2.imp fun v x hv=>g.deed hv,h3⟩
theorem KpAt.grow {K:FG7} {m':List Addr} {H H':Hp} {k m:Nat} {rows:List (List Int)} {ks:List Ask} {s:Nat} {d:Addr} (g:Grow m' H H') (hm:d ∉ m') (h:KpAt K H k m rows ks s d):KpAt K H' k m rows ks s d:=by
 obtain ⟨kvs,h1,h2,h3,h4,h5⟩:=h
 exact ⟨kvs,Rd.growR g (.inl hm) h1,h2,fun p hp=>by obtain ⟨l,b,x,e,a1,a2,a3,a4⟩:=h3 p hp; exact ⟨l,b,x,e,a1,a2,a3,g.deed a4⟩,h4,h5⟩
theorem Z3:∀ k:Fin 5,∀ s:Fin 5,1 <= s.val -> s.val <= k.val -> ∀ l:Fin 16,l.val < 2 ^ k.val -> ∀ t:Fin 5,1 <= t.val -> t.val <= k.val -> t.val ≠ s.val -> figI k.val t.val (xN k.val s.val l.val) = figI k.val t.val l.val:=by decide +kernel
theorem XL {k:Nat} {rows:List (List Int)} {ks:List Ask} {s l l' b:Nat} (k4:k <= 4) (hs:sg k rows) (s1:1 <= s) (sk:s <= k) (hl:l < 2 ^ k) (hl':l' < 2 ^ k) (e:nN k s l = nN k s l'):kpR k rows ks s l b = kpR k rows ks s l' b:=by
 have key:x0R k rows s l = x0R k rows s l' /\ x1R k rows s l = x1R k rows s l':=by
  refine Tu k4 hs s1 sk hl hl' fun t t1 tk hne=>?_
  rcases twoF k4 s1 sk hl' hl e.symm with rfl | rfl
  ·rfl
  ·have p:=qG k4
   have:=Z3 ⟨k,by omega⟩ ⟨s,by omega⟩ s1 sk ⟨l',by omega⟩ hl' ⟨t,by omega⟩ t1 tk (by simpa using hne)
   exact this
 unfold kpR
 rw [key.1,key.2]
theorem Z4 {k:Nat} {i:Int} (h0:0 <= i) (h1:i < 2 ^ k):i.toNat < 2 ^ k:=by
 have e:((2 ^ k:Nat):Int) = 2 ^ k:=by rw [Int.natCast_pow]; rfl
 omega
theorem RndOk.ask {k m:Nat} {ks:List Ask} (R:RndOk k m ks) (k4:k <= 4):∀ a ∈ ks,UQ m a:=fun a ha=>by
 have h:=R.hand a ha
 have p:=qG k4
 have:=Z4 h.1 h.2
 exact ⟨h.1,by omega,(R.box a ha).1,(R.box a ha).2,R.ok a ha⟩
structure Beh (K:FG7) (H:Hp) (k m:Nat) (rows:List (List Int)) (ks:List Ask) (st:Nat) (kvs:List (List Key × V)) (i:Nat) (bk kk:List (List Key × V)):Prop where
 b1:∀ p ∈ bk,∃ l b x,p.1 = keyR l b /\ l < 2 ^ k /\ b < m /\ lvR k rows ks st l b = some x /\ yD K H p.2 x
 b2:(bk.map (·.1)).Nodup
 b3:∀ j l b v,j < i -> kvs[j]? = some (keyR l b,v) -> (valV bk (keyR (outR k st l b) b)).isSome = true
 bl:bk.length <= i
 k1:∀ p ∈ kk,∃ l b x,p.1 = keyR (nN k st l) b /\ l < 2 ^ k /\ b < m /\ kpR k rows ks st l b = some x /\ yD K H p.2 x
 k2:(kk.map (·.1)).Nodup
 k3:∀ j l b v,j < i -> kvs[j]? = some (keyR l b,v) -> kpR k rows ks st l b ≠ none -> (valV kk (keyR (nN k st l) b)).isSome = true
 kl:kk.length <= i
section
variable {K:FG7} {H H':Hp} {k m:Nat} {rows:List (List Int)} {ks:List Ask} {st:Nat} {kvs:List (List Key × V)} {i:Nat} {bk kk:List (List Key × V)}
theorem Beh.grow {m':List Addr} (g:Grow m' H H') (B:Beh K H k m rows ks st kvs i bk kk):Beh K H' k m rows ks st kvs i bk kk :=
 ⟨fun p hp=>by obtain ⟨l,b,x,e,h1,h2,h3,h4⟩:=B.b1 p hp; exact ⟨l,b,x,e,h1,h2,h3,g.deed h4⟩,B.b2,B.b3,B.bl,fun p hp=>by obtain ⟨l,b,x,e,h1,h2,h3,h4⟩:=B.k1 p hp; exact ⟨l,b,x,e,h1,h2,h3,g.deed h4⟩,B.k2,B.k3,B.kl⟩
theorem Beh.nil:Beh K H k m rows ks st kvs 0 [] []:=⟨(fun _ h=>nomatch h),List.nodup_nil,(fun _ _ _ _ h=>absurd h (Nat.not_lt_zero _)),Nat.le_refl _,(fun _ h=>nomatch h),List.nodup_nil,(fun _ _ _ _ h=>absurd h (Nat.not_lt_zero _)),Nat.le_refl _⟩
theorem tL {bk:List (List Key × V)} {k j:List Key} {v:V} (h:(valV bk j).isSome = true):(valV (putK bk k v) j).isSome = true:=by
 rw [xq]
 split
 ·rfl
 ·exact h
theorem uw {bk:List (List Key × V)} {k:List Key} {v:V}:(valV (putK bk k v) k).isSome = true:=by rw [xq,if_pos rfl]; rfl
theorem Beh.one {l b:Nat} {v w:V} {x:Deed} (B:Beh K H k m rows ks st kvs i bk kk) (hp:kvs[i]? = some (keyR l b,v)) (ho:outR k st l b < 2 ^ k) (hb:b < m) (hx:lvR k rows ks st (outR k st l b) b = some x) (hd:yD K H w x) (hk:kpR k rows ks st l b = none) :
  Beh K H k m rows ks st kvs (i + 1) (putK bk (keyR (outR k st l b) b) w) kk where
 b1:=fun p hp'=>by
  rcases sG p hp' with rfl | ⟨hm,_⟩
  ·exact ⟨_,b,x,rfl,ho,hb,hx,hd⟩
  ·exact B.b1 p hm
 b2:=XJ B.b2
 b3:=fun j l' b' v' hj hj'=>by
  by_cases c:j < i
  ·exact tL (B.b3 j l' b' v' c hj')
  ·have e:j = i:=by omega
   rw [e,hp] at hj'
   obtain ⟨rfl,rfl⟩:=wq (congrArg Prod.fst (Option.some.inj hj'))
   exact uw
 bl:=Nat.le_trans (xf ..) (Nat.succ_le_succ B.bl)
 k1:=B.k1
 k2:=B.k2
 k3:=fun j l' b' v' hj hj' hne=>by
  by_cases c:j < i
  ·exact B.k3 j l' b' v' c hj' hne
  ·have e:j = i:=by omega
   rw [e,hp] at hj'
   obtain ⟨rfl,rfl⟩:=wq (congrArg Prod.fst (Option.some.inj hj'))
   exact absurd hk hne
 kl:=Nat.le_succ_of_le B.kl
theorem sH {kvs:List (List Key × V)} {k:List Key} (h:(valV kvs k).isSome = true):∃ j v,kvs[j]? = some (k,v) /\ j < kvs.length:=by
 obtain ⟨v,hv⟩:=Option.isSome_iff_exists.mp h
 obtain ⟨j,hj,e⟩:=List.getElem_of_mem (qW hv)
 exact ⟨j,v,by rw [List.getElem?_eq_getElem hj,e],hj⟩
theorem Beh.done {b0 k0:Addr} (k4:k <= 4) (hs:sg k rows) (s1:1 <= st) (sk:st <= k) (tab:TabR kvs (2 ^ k) m (lvR k rows ks (st - 1)) (yD K H)) (kl:kvs.length <= 16) (B:Beh K H k m rows ks st kvs kvs.length bk kk) (hB:H b0 = some (.dT bk)) (hK:H k0 = some (.dT kk)) :
  LvAt K H k m rows ks st b0 /\ KpAt K H k m rows ks st k0:=by
 have es:st = st - 1 + 1:=by omega
 refine ⟨⟨bk,.inl hB,⟨B.b1,B.b2,fun l b hl hb hne=>?_⟩,Nat.le_trans B.bl kl⟩,kk,.inl hK,Nat.le_trans B.kl kl,B.k1,B.k2,fun l b hl hb hne=>?_⟩
 ·rw [es] at hne
  obtain ⟨x,hx,hox,hxn⟩:=Tw k4 hs (by omega) hl hne
  obtain ⟨j,v,hj,hjl⟩:=sH (tab.all x b hx hb hxn)
  have:=B.b3 j x b v hjl hj
  rw [← es] at hox
  rw [hox] at this; exact this
 ·have X:=xF (rows:=rows) k4 hs s1 sk hl
  have nx:nN k st (x0R k rows st l) = nN k st l:=Tt s1 sk fun t _ tk hne=>X.off0 t tk hne
  have h0:lvR k rows ks (st - 1) (x0R k rows st l) b ≠ none:=by
   intro z
   unfold kpR at hne
   rw [z] at hne
   exact hne rfl
  obtain ⟨j,v,hj,hjl⟩:=sH (tab.all _ b X.lt0 hb h0)
  have:=B.k3 j _ b v hjl hj (by rw [XL k4 hs s1 sk X.lt0 hl nx]; exact hne)
  rw [nx] at this; exact this
end
structure NetR (K:FG7) (H:Hp) (k m:Nat) (rows:List (List Int)) (ks:List Ask) (ds kps:List Addr):Prop where
 lv:∀ s d,ds[s]? = some d -> LvAt K H k m rows ks s d
 kp:∀ s d,kps[s]? = some d -> KpAt K H k m rows ks (s + 1) d
 nd:(ds ++ kps).Nodup
theorem NetR.grow {K:FG7} {H H':Hp} {m':List Addr} {k m:Nat} {rows:List (List Int)} {ks:List Ask} {ds kps:List Addr} (g:Grow m' H H') (hm:∀ d ∈ ds ++ kps,d ∉ m') (N:NetR K H k m rows ks ds kps):NetR K H' k m rows ks ds kps :=
 ⟨fun s d h=>(N.lv s d h).grow g (hm d (List.mem_append_left _ (List.mem_of_getElem? h))),fun s d h=>(N.kp s d h).grow g (hm d (List.mem_append_right _ (List.mem_of_getElem? h))),N.nd⟩
structure PTab {α:Type} (kvs:List (List Key × V)) (n m:Nat) (f:Nat -> Nat -> Option α) (R:V -> α -> Prop) (i:Nat) (tk:List (List Key × V)):Prop where
 p1:∀ p ∈ tk,∃ l b x,p.1 = keyR l b /\ l < n /\ b < m /\ f l b = some x /\ R p.2 x
 p2:(tk.map (·.1)).Nodup
 p3:∀ j l b v,j < i -> kvs[j]? = some (keyR l b,v) -> (valV tk (keyR l b)).isSome = true
 p4:tk.length <= i
theorem PTab.nil {α:Type} {kvs:List (List Key × V)} {n m:Nat} {f:Nat -> Nat -> Option α} {R:V -> α -> Prop}:PTab kvs n m f R 0 []:=⟨(fun _ h=>nomatch h),List.nodup_nil,(fun _ _ _ _ h=>absurd h (Nat.not_lt_zero _)),Nat.le_refl _⟩
theorem PTab.step {α:Type} {kvs:List (List Key × V)} {n m:Nat} {f:Nat -> Nat -> Option α} {R:V -> α -> Prop} {i:Nat} {tk:List (List Key × V)} {l b:Nat} {v w:V} {x:α} (P:PTab kvs n m f R i tk) (hp:kvs[i]? = some (keyR l b,v)) (hl:l < n) (hb:b < m) (hx:f l b = some x) (hR:R w x):PTab kvs n m f R (i + 1) (putK tk (keyR l b) w) where
 p1:=fun p hp'=>by
  rcases sG p hp' with rfl | ⟨hm,_⟩
  ·exact ⟨l,b,x,rfl,hl,hb,hx,hR⟩
  ·exact P.p1 p hm
 p2:=XJ P.p2
 p3:=fun j l' b' v' hj hj'=>by
  by_cases c:j < i
  ·exact tL (P.p3 j l' b' v' c hj')
  ·have e:j = i:=by omega
   rw [e,hp] at hj'
   obtain ⟨rfl,rfl⟩:=wq (congrArg Prod.fst (Option.some.inj hj'))
   exact uw
 p4:=Nat.le_trans (xf ..) (Nat.succ_le_succ P.p4)
theorem PTab.done {α β:Type} {kvs:List (List Key × V)} {n m:Nat} {f:Nat -> Nat -> Option α} {R:V -> α -> Prop} {f':Nat -> Nat -> Option β} {R':V -> β -> Prop} {tk:List (List Key × V)} (P:PTab kvs n m f R kvs.length tk) (T:TabR kvs n m f' R') (h:∀ l b,l < n -> b < m -> f l b ≠ none -> f' l b ≠ none):TabR tk n m f R :=
 ⟨P.p1,P.p2,fun l b hl hb hne=>by
  obtain ⟨j,v,hj,hjl⟩:=sH (T.all l b hl hb (h l b hl hb hne))
  exact P.p3 j l b v hjl hj⟩
def anF (k:Nat) (rows:List (List Int)) (ks:List Ask) (bd:Nat -> Int) (s l b:Nat):Option Int:=(lvR k rows ks s l b).map fun _=>stvR k rows ks bd (k - s) l b
def AnAt (H:Hp) (k m:Nat) (rows:List (List Int)) (ks:List Ask) (bd:Nat -> Int) (s:Nat) (d:Addr):Prop:=Tx H d (2 ^ k) m (anF k rows ks bd s) (fun v x=>v = .int x)
section
variable {K:FG7} {H:Hp} {k m:Nat} {rows:List (List Int)} {ks:List Ask} {bd:Nat -> Int} {s:Nat} {d:Addr}
theorem AnAt.grow {m':List Addr} {H':Hp} (g:Grow m' H H') (hm:d ∉ m') (h:AnAt H k m rows ks bd s d):AnAt H' k m rows ks bd s d:=by
 obtain ⟨kvs,h1,h2,h3⟩:=h
 exact ⟨kvs,Rd.growR g (.inl hm) h1,h2,h3⟩
theorem KpAt.val {st l b:Nat} {kvs:List (List Key × V)} (k4:k <= 4) (hs:sg k rows) (s1:1 <= st) (sk:st <= k) (hl:l < 2 ^ k) (hb:b < m)
  (h3:∀ p ∈ kvs,∃ l b x,p.1 = keyR (nN k st l) b /\ l < 2 ^ k /\ b < m /\ kpR k rows ks st l b = some x /\ yD K H p.2 x)
  (h5:∀ l b,l < 2 ^ k -> b < m -> kpR k rows ks st l b ≠ none -> (valV kvs (keyR (nN k st l) b)).isSome = true) :
  match kpR k rows ks st l b with | some x=>∃ v,valV kvs (keyR (nN k st l) b) = some v /\ yD K H v x | none=>valV kvs (keyR (nN k st l) b) = none:=by
 have sound:∀ v,valV kvs (keyR (nN k st l) b) = some v -> ∃ x,kpR k rows ks st l b = some x /\ yD K H v x:=fun v hv=>by
  obtain ⟨l',b',x,e,h1,h2,h4,h6⟩:=h3 _ (qW hv)
  obtain ⟨e1,rfl⟩:=wq e
  exact ⟨x,(XL k4 hs s1 sk hl h1 e1).trans h4,h6⟩
 cases hv:valV kvs (keyR (nN k st l) b) with
 | some v =>
  obtain ⟨x,e,hd⟩:=sound v hv
  rw [e]
  exact ⟨v,rfl,hd⟩
 | none =>
  cases hk:kpR k rows ks st l b with
  | none=>rfl
  | some x =>
   have:=h5 l b hl hb (by rw [hk]; exact fun z=>nomatch z)
   rw [hv] at this; cases this
def finR (k:Nat) (rows:List (List Int)) (ks:List Ask) (bd:Nat -> Int) (j:Nat):Int:=match lvR k rows ks k (j % 2 ^ k) j with
 | some d=>d.mk' (bd j)
 | none=>bd j
def bdF (b:List Int) (j:Nat):Int:=b.getD j 0
def finL (k:Nat) (rows:List (List Int)) (ks:List Ask) (b:List Int):List Int:=(List.range b.length).map (finR k rows ks (bdF b))
end
structure VI (kvs:List (List Key × V)) (b:List Int) (fin:Nat -> Int) (i:Nat) (w:List Int):Prop where
 len:w.length = b.length
 or:∀ j,j < b.length -> w[j]? = some (bdF b j) \/ w[j]? = some (fin j)
 dn:∀ i' l c v,i' < i -> kvs[i']? = some (keyR l c,v) -> c < b.length -> w[c]? = some (fin c)
theorem Uf {b:List Int} {j:Nat} (h:j < b.length):b[j]? = some (bdF b j):=by
 unfold bdF; rw [List.getD_eq_getElem?_getD,List.getElem?_eq_getElem h]; rfl
theorem VI.nil {kvs:List (List Key × V)} {b:List Int} {fin:Nat -> Int}:VI kvs b fin 0 b:=⟨rfl,fun _ h=>.inl (Uf h),fun _ _ _ _ h=>absurd h (Nat.not_lt_zero _)⟩
theorem VI.step {kvs:List (List Key × V)} {b:List Int} {fin:Nat -> Int} {i l c:Nat} {w:List Int} {v:V} (h:VI kvs b fin i w) (hp:kvs[i]? = some (keyR l c,v)) (hc:c < b.length):VI kvs b fin (i + 1) (w.set c (fin c)):=by
 have hw:c < w.length:=by rw [h.len]; exact hc
 refine ⟨by rw [List.length_set]; exact h.len,fun j hj=>?_,fun i' l' c' v' hi hp' hc'=>?_⟩
 ·by_cases e:c = j
  ·subst e; exact .inr (List.getElem?_set_self hw)
  ·rw [List.getElem?_set_ne e]; exact h.or j hj
 ·by_cases e:c = c'
  ·subst e; exact List.getElem?_set_self hw
  ·rw [List.getElem?_set_ne e]
   by_cases hii:i' < i
   ·exact h.dn i' l' c' v' hii hp' hc'
   ·have:i' = i:=by omega
    rw [this,hp] at hp'
    exact absurd (wq (congrArg Prod.fst (Option.some.inj hp'))).2 e
theorem VI.done {kvs:List (List Key × V)} {k:Nat} {rows:List (List Int)} {ks:List Ask} {b w:List Int} {R:V -> Deed -> Prop} (h:VI kvs b (finR k rows ks (bdF b)) kvs.length w) (T:TabR kvs (2 ^ k) b.length (lvR k rows ks k) R):w = finL k rows ks b:=by
 have el:(finL k rows ks b).length = b.length:=by unfold finL; rw [List.length_map,List.length_range]
 have gf:∀ j,j < b.length -> (finL k rows ks b)[j]? = some (finR k rows ks (bdF b) j):=fun j hj=>by
  unfold finL; rw [List.getElem?_map,List.getElem?_range hj]; rfl
 refine List.ext_getElem? fun j=>?_
 by_cases hj:j < b.length
 ·rw [gf j hj]
  cases hl:lvR k rows ks k (j % 2 ^ k) j with
  | none =>
   have e:finR k rows ks (bdF b) j = bdF b j:=by unfold finR; rw [hl]
   rcases h.or j hj with z | z
   ·rw [z,e]
   ·exact z
  | some d =>
   obtain ⟨i',v,hp,hi⟩:=sH (T.all (j % 2 ^ k) j (XI (k:=k) (b:=j)) hj (by rw [hl]; exact fun z=>nomatch z))
   exact h.dn i' _ j v hi hp hj
 ·rw [List.getElem?_eq_none (by rw [h.len]; omega),List.getElem?_eq_none (by omega)]
theorem NetR.walk {K:FG7} {H H':Hp} {k m:Nat} {rows:List (List Int)} {ks:List Ask} {ds kps:List Addr} {s:Nat} {d:Addr} (N:NetR K H k m rows ks ds kps) (hd:ds[s]? = some d) (g:Grow [d] H H') (L:LvAt K H' k m rows ks s d):NetR K H' k m rows ks ds kps:=by
 have nd:=List.nodup_append.mp N.nd
 refine ⟨fun s' d' h=>?_,fun s' d' h=>?_,N.nd⟩
 ·by_cases c:d' = d
  ·subst c
   have e:s' = s:=by
    obtain ⟨h1,h2⟩:=List.getElem?_eq_some_iff.mp h
    obtain ⟨h3,h4⟩:=List.getElem?_eq_some_iff.mp hd
    exact (List.getElem_inj nd.1).mp (h2.trans h4.symm)
   rw [e]; exact L
  ·exact (N.lv s' d' h).grow g (by simpa using c)
 ·exact (N.kp s' d' h).grow g (by simpa using fun z=>nd.2.2 d (List.mem_of_getElem? hd) d' (List.mem_of_getElem? h) z.symm)
def Ty (ps:List (Key × V)):List (Key × V):=ps.foldl (fun d p=>putK d p.1 p.2) []
def atB (j:Nat) (as:List Ask):List Ask:=as.filter fun a=>decide (a.box = (j:Int))
def AnsD (b:List Int) (as:List Ask) (tk:List (Key × V)):Prop:=tk.length <= as.length /\ ∀ a ∈ as,∃ a' pre post,a' ∈ as /\ a'.hand = a.hand /\ as = pre ++ [a'] ++ post /\ valV tk (.inl a.hand) = some (.int (runR (bdF b a'.box.toNat) (atB a'.box.toNat pre)))
theorem AnsD.nil {b:List Int}:AnsD b [] []:=⟨Nat.le_refl _,fun _ h=>nomatch h⟩
theorem AnsD.snoc {b:List Int} {as:List Ask} {tk:List (Key × V)} {a:Ask} (h:AnsD b as tk):AnsD b (as ++ [a]) (putK tk (.inl a.hand) (.int (runR (bdF b a.box.toNat) (atB a.box.toNat as)))):=by
 refine ⟨?_,fun x hx=>?_⟩
 ·have:=xf tk (Sum.inl a.hand) (V.int (runR (bdF b a.box.toNat) (atB a.box.toNat as)))
  rw [List.length_append]
  have h1:=h.1
  exact Nat.le_trans this (Nat.succ_le_succ h1)
 ·by_cases c:x.hand = a.hand
  ·refine ⟨a,as,[],by simp,c.symm,by simp,?_⟩
   rw [xq,if_pos (by rw [c])]
  ·rcases List.mem_append.mp hx with hx | hx
   ·obtain ⟨a',pre,post,h1,h2,h3,h4⟩:=h.2 x hx
    refine ⟨a',pre,post ++ [a],List.mem_append_left _ h1,h2,by rw [h3,List.append_assoc],?_⟩
    rw [xq,if_neg (fun z=>c (Sum.inl.inj z))]; exact h4
   ·exact absurd (by rw [List.mem_singleton.mp hx]) c
theorem wM {key:Key}:∀ {ps d:List (Key × V)},(∀ p ∈ ps,p.1 ≠ key) -> valV (ps.foldl (fun d p=>putK d p.1 p.2) d) key = valV d key
 | [],d,_=>rfl
 | p :: ps,d,h=>by
  rw [List.foldl_cons,wM fun q hq=>h q (by simp [hq]),xq,if_neg (fun z=>h p (by simp) z.symm)]
theorem ux {p:Key × V}:∀ {ps d:List (Key × V)},(ps.map (·.1)).Nodup -> p ∈ ps -> valV (ps.foldl (fun d p=>putK d p.1 p.2) d) p.1 = some p.2
 | q :: ps,d,nd,h=>by
  rw [List.map_cons,List.nodup_cons] at nd
  rw [List.foldl_cons]
  rcases List.mem_cons.mp h with rfl | h
  ·rw [wM fun x hx z=>nd.1 (List.mem_map.mpr ⟨x,hx,z⟩),xq,if_pos rfl]
  ·exact ux nd.2 h
def ByAt (K:FG7) (H:Hp) (ks:List Ask) (ps:List (Key × V)):Prop:=ps.length = ks.length /\ ∀ (i:Nat) (a:Ask),ks[i]? = some a -> ∃ t dv,ps[i]? = some (.inl a.hand,.ref t) /\ H t = some (.tup [.int a.box,dv]) /\ yD K H dv a.deed
theorem ByAt.grow {K:FG7} {H H':Hp} {m:List Addr} {ks:List Ask} {ps:List (Key × V)} (g:Grow m H H') (h:ByAt K H ks ps):ByAt K H' ks ps :=
 ⟨h.1,fun i a ha=>by obtain ⟨t,dv,h1,h2,h3⟩:=h.2 i a ha; exact ⟨t,dv,h1,g.tup _ _ h2,g.deed h3⟩⟩
theorem ByAt.keys {K:FG7} {H:Hp} {ks:List Ask} {ps:List (Key × V)} (h:ByAt K H ks ps):ps.map (·.1) = ks.map fun a=>Sum.inl a.hand:=by
 refine List.ext_getElem? fun i=>?_
 rw [List.getElem?_map,List.getElem?_map]
 by_cases c:i < ks.length
 ·obtain ⟨t,dv,h1,_⟩:=h.2 i ks[i] (List.getElem?_eq_getElem c)
  rw [h1,List.getElem?_eq_getElem c]; rfl
 ·rw [List.getElem?_eq_none (by rw [h.1]; omega),List.getElem?_eq_none (by omega)]; rfl
theorem ByAt.some {K:FG7} {H:Hp} {ks:List Ask} {ps:List (Key × V)} (h:ByAt K H ks ps) (nd:(ks.map (·.hand)).Nodup) {a:Ask} (ha:a ∈ ks):∃ t dv,valV (Ty ps) (.inl a.hand) = some (.ref t) /\ H t = some (.tup [.int a.box,dv]) /\ yD K H dv a.deed:=by
 obtain ⟨i,hi,rfl⟩:=List.getElem_of_mem ha
 obtain ⟨t,dv,h1,h2,h3⟩:=h.2 i ks[i] (List.getElem?_eq_getElem hi)
 refine ⟨t,dv,?_,h2,h3⟩
 have nd':(ps.map (·.1)).Nodup:=by
  rw [h.keys]
  have e:(ks.map fun a=>(Sum.inl a.hand:Key)) = (ks.map (·.hand)).map Sum.inl:=by rw [List.map_map]; rfl
  rw [e]
  exact nd.map _ fun x y hxy z=>hxy (Sum.inl.inj z)
 exact ux (p:=(Sum.inl ks[i].hand,.ref t)) nd' (List.mem_of_getElem? h1)
theorem ByAt.none {K:FG7} {H:Hp} {ks:List Ask} {ps:List (Key × V)} (h:ByAt K H ks ps) {i:Int} (hno:∀ a ∈ ks,a.hand ≠ i):valV (Ty ps) (.inl i) = none:=by
 refine wM fun p hp z=>?_
 have:p.1 ∈ ps.map (·.1):=List.mem_map.mpr ⟨p,hp,rfl⟩
 rw [h.keys] at this
 obtain ⟨a,ha,e⟩:=List.mem_map.mp this
 exact hno a ha (Sum.inl.inj (e.trans z))
theorem AllA.ins {K:FG7} {H:Hp} {y:V} {a:Ask} (ha:t3 K H y a):∀ {xs:List V} {ks:List Ask} {i:Nat},AllA K H xs ks -> AllA K H (xs.take i ++ [y] ++ xs.drop i) (ks.take i ++ [a] ++ ks.drop i)
 | xs,ks,0,h=>⟨ha,h⟩
 | [],[],i + 1,h=>⟨ha,trivial⟩
 | x :: xs,k :: ks,i + 1,h=>⟨h.1,AllA.ins ha (i:=i) h.2⟩
structure RndS (j m:Nat) (ks:List Ask):Prop where
 nd:(ks.map (·.hand)).Nodup
 hand:∀ a ∈ ks,0 <= a.hand /\ a.hand < (j:Int)
 box:∀ a ∈ ks,0 <= a.box /\ a.box < (m:Int)
 ok:∀ a ∈ ks,a.deed.Ok
 sm:∀ a ∈ ks,a.deed.Sm
theorem RndS.nil {j m:Nat}:RndS j m []:=⟨List.nodup_nil,(fun _ h=>nomatch h),(fun _ h=>nomatch h),(fun _ h=>nomatch h),(fun _ h=>nomatch h)⟩
theorem RndS.next {j m:Nat} {ks:List Ask} (h:RndS j m ks):RndS (j + 1) m ks:=⟨h.nd,fun a ha=>by have:=h.hand a ha; omega,h.box,h.ok,h.sm⟩
theorem RndS.ins {j m i:Nat} {ks:List Ask} {a:Ask} (h:RndS j m ks) (h1:a.hand = (j:Int)) (h2:0 <= a.box /\ a.box < (m:Int)) (h3:a.deed.Ok) (h4:a.deed.Sm):RndS (j + 1) m (ks.take i ++ [a] ++ ks.drop i):=by
 have mem:∀ c ∈ ks.take i ++ [a] ++ ks.drop i,c = a \/ c ∈ ks:=fun c hc=>by
  rcases List.mem_append.mp hc with hc | hc
  ·rcases List.mem_append.mp hc with hc | hc
   ·exact .inr (List.mem_of_mem_take hc)
   ·exact .inl (List.mem_singleton.mp hc)
  ·exact .inr (List.mem_of_mem_drop hc)
 have pm:(ks.take i ++ [a] ++ ks.drop i).Perm (a :: ks):=by
  have p1:(ks.take i ++ [a]).Perm (a :: ks.take i):=List.perm_append_singleton a (ks.take i)
  have p2:=p1.append_right (ks.drop i)
  rw [List.cons_append,List.take_append_drop] at p2
  exact p2
 refine ⟨?_,fun c hc=>?_,fun c hc=>?_,fun c hc=>?_,fun c hc=>?_⟩
 ·refine ((pm.map (·.hand)).nodup_iff).mpr ?_
  rw [List.map_cons,List.nodup_cons]
  refine ⟨fun z=>?_,h.nd⟩
  obtain ⟨c,hc,e⟩:=List.mem_map.mp z
  have:=(h.hand c hc).2
  rw [e,h1] at this
  omega
 ·rcases mem c hc with rfl | hc
  ·rw [h1]; omega
  ·have:=h.hand c hc; omega
 ·rcases mem c hc with rfl | hc
  ·exact h2
  ·exact h.box c hc
 ·rcases mem c hc with rfl | hc
  ·exact h3
  ·exact h.ok c hc
 ·rcases mem c hc with rfl | hc
  ·exact h4
  ·exact h.sm c hc
theorem RndS.done {k m:Nat} {ks:List Ask} (h:RndS (2 ^ k) m ks):RndOk k m ks:=by
 have e:((2 ^ k:Nat):Int) = 2 ^ k:=by simp
 refine ⟨h.nd,fun a ha=>?_,h.box,h.ok⟩
 have:=h.hand a ha
 rw [e] at this
 exact this
theorem GoodF.le {ms:List (List Int)} {S:Nat} {f:FW} (h:GoodF ms S f) (hf:Few ms S):f.length <= 60:=by
 obtain ⟨l,hl,hw⟩:=hf
 have:=sF h.nd fun d hd=>hw d (h.wd d hd)
 unfold zV at this
 rw [List.length_map] at this
 omega
structure Fam (S:Nat) (fam:List (List Int)):Prop where
 nd:fam.Nodup
 dd:∀ d ∈ fam,Dd S d
 cl:∀ a ∈ fam,∀ b ∈ fam,yU a b ∈ fam
 hd:fam[0]? = some (idL S)
 l60:fam.length <= 60
theorem FamL.fam {ms:List (List Int)} {S:Nat} {f:FW} (h:FamL ms S f) (hM:Mks ms S) (hf:Few ms S):Fam S (zV f):=by
 have hO:=h.ok
 have h60:=hO.le hf
 refine ⟨hO.good.nd,fun d hd=>(hO.good.wd d hd).dd hM,fun a ha b hb=>hO.closed hM h60 ha hb,?_,by unfold zV; rw [List.length_map]; exact h60⟩
 have:=hO.hd
 cases f with
 | nil=>cases this
 | cons p f=>cases this; rfl
structure MksAt (K:FG7) (H:Hp) (x:V) (ms:List (List Int)) (S:Nat):Prop where
 at':vJ K H x ms
 ok:Mks ms S
 s1:1 <= S
 s5:S <= 5
 m1:1 <= ms.length
 m4:ms.length <= 4
 few:Few ms S
theorem MksAt.grow {K:FG7} {m:List Addr} {H H':Hp} {x:V} {ms:List (List Int)} {S:Nat} (h:MksAt K H x ms S) (g:Grow m H H'):MksAt K H' x ms S:=⟨g.rows h.at',h.ok,h.s1,h.s5,h.m1,h.m4,h.few⟩
def XM (K:FG7) (H:Hp) (x:V) (rows:List (List Int)):Prop:=∃ r xs,x = .ref r /\ SqT K H r xs /\ AllR (KeyB H) xs rows
theorem XM.rows {K:FG7} {H:Hp} {x:V} {rows:List (List Int)} (h:XM K H x rows):vJ K H x rows:=let ⟨r,xs,e,h1,h2⟩:=h; ⟨r,xs,e,h1,h2.imp fun _ _ z=>z.board⟩
theorem XM.grow {K:FG7} {m:List Addr} {H H':Hp} {x:V} {rows:List (List Int)} (h:XM K H x rows) (g:Grow m H H'):XM K H' x rows:=let ⟨r,xs,e,h1,h2⟩:=h; ⟨r,xs,e,g.sqT h1,h2.imp fun _ _ z=>z.grow g⟩
structure OrdB (n:Nat) (lt:Nat -> Nat -> Bool):Prop where
 tr:∀ {i j k:Nat},lt i j = true -> lt j k = true -> lt i k = true
 as:∀ {i j:Nat},lt i j = true -> lt j i = false
 to:∀ {i j:Nat},i < n -> j < n -> i ≠ j -> lt i j = false -> lt j i = true
structure PmA (n:Nat) (p:Array Nat):Prop where
 sz:p.size = n
 pm:p.toList.Perm (List.range n)
theorem PmA.lt {n:Nat} {p:Array Nat} (h:PmA n p) {i:Nat} (hi:i < n):p.getD i 0 < n:=by
 have hi':i < p.toList.length:=by rw [Array.length_toList,h.sz]; exact hi
 have e:p.getD i 0 = p.toList[i]:=by simp [Array.getD,h.sz,hi]
 rw [e]
 exact List.mem_range.mp (h.pm.mem_iff.mp (List.getElem_mem hi'))
theorem PmA.inj {n:Nat} {p:Array Nat} (h:PmA n p) {i j:Nat} (hi:i < n) (hj:j < n) (hne:i ≠ j):p.getD i 0 ≠ p.getD j 0:=by
 have hi':i < p.toList.length:=by rw [Array.length_toList,h.sz]; exact hi
 have hj':j < p.toList.length:=by rw [Array.length_toList,h.sz]; exact hj
 have e:p.getD i 0 = p.toList[i]:=by simp [Array.getD,h.sz,hi]
 have e':p.getD j 0 = p.toList[j]:=by simp [Array.getD,h.sz,hj]
 rw [e,e']
 intro z
 exact hne ((List.getElem_inj (h.pm.nodup_iff.mpr List.nodup_range)).mp z)
theorem PmA.of_perm {n:Nat} {p q:Array Nat} (h:PmA n p) (hq:q.Perm p):PmA n q :=
 ⟨hq.size_eq.trans h.sz,(Array.perm_iff_toList_perm.mp hq).trans h.pm⟩
def Ups (lt:Nat -> Nat -> Bool) (p:Array Nat) (k:Nat):Prop:=∀ i j,i < j -> j < k -> lt (p.getD i 0) (p.getD j 0) = true
def qX (lt:Nat -> Nat -> Bool) (p:Array Nat) (k:Nat):Prop:=∀ i j,i < j -> j < k -> lt (p.getD j 0) (p.getD i 0) = true
theorem Ze {p q:Array Nat} {i j:Nat} (h:p[i]? = q[j]?):p.getD i 0 = q.getD j 0:=by
 rw [Array.getD_eq_getD_getElem?,Array.getD_eq_getD_getElem?,h]
section
variable {n:Nat} {lt:Nat -> Nat -> Bool} {cmp:Nat -> Nat -> (Bool -> Shared -> Prop) -> Shared -> Prop} {s:Shared}
def Says (n:Nat) (lt:Nat -> Nat -> Bool) (cmp:Nat -> Nat -> (Bool -> Shared -> Prop) -> Shared -> Prop) (s:Shared):Prop:=∀ i j (C:Bool -> Shared -> Prop),i < n -> j < n -> C (lt i j) s -> cmp i j C s
theorem Ups.snoc {p:Array Nat} {m:Nat} (o:OrdB n lt) (h1:1 <= m) (u:Ups lt p m) (e:lt (p.getD (m - 1) 0) (p.getD m 0) = true):Ups lt p (m + 1):=by
 intro i j hij hj
 by_cases hjm:j < m
 ·exact u i j hij hjm
 ·obtain rfl:j = m:=by omega
  by_cases hi:i = j - 1
  ·subst hi; exact e
  ·exact o.tr (u i (j - 1) (by omega) (by omega)) e
theorem sI (o:OrdB n lt) (hc:Says n lt cmp s) {p:Array Nat} (hp:PmA n p):∀ (f m:Nat) {Q:Nat -> Shared -> Prop},1 <= m -> m + f = n -> Ups lt p m →
  (∀ k,m <= k -> k <= n -> Ups lt p k -> (k = n \/ lt (p.getD k 0) (p.getD (k - 1) 0) = true) -> Q k s) -> (kas_asc p f m).kasWp cmp Q s
 | 0,m,Q,h1,e,u,q=>q m (Nat.le_refl _) (by omega) u (.inl (by omega))
 | f + 1,m,Q,h1,e,u,q=>by
  refine hc _ _ _ (hp.lt (by omega)) (hp.lt (by omega)) ?_
  cases c:lt (p.getD m 0) (p.getD (m - 1) 0) with
  | true =>
   dsimp only
   rw [if_pos rfl]
   exact q m (Nat.le_refl _) (by omega) u (.inr c)
  | false =>
   dsimp only
   rw [if_neg (by decide)]
   exact sI o hc hp f (m + 1) (by omega) (by omega) (u.snoc o h1 (o.to (hp.lt (by omega)) (hp.lt (by omega)) (hp.inj (by omega) (by omega) (by omega)) c)) fun k hk=>q k (by omega)
theorem qX.snoc {p:Array Nat} {m:Nat} (o:OrdB n lt) (h1:1 <= m) (u:qX lt p m) (e:lt (p.getD m 0) (p.getD (m - 1) 0) = true):qX lt p (m + 1):=by
 intro i j hij hj
 by_cases hjm:j < m
 ·exact u i j hij hjm
 ·obtain rfl:j = m:=by omega
  by_cases hi:i = j - 1
  ·subst hi; exact e
  ·exact o.tr e (u i (j - 1) (by omega) (by omega))
theorem r0 (o:OrdB n lt) (hc:Says n lt cmp s) {p:Array Nat} (hp:PmA n p):∀ (f m:Nat) {Q:Array Nat × Nat × Nat -> Shared -> Prop},1 <= m -> m + f = n -> qX lt p m →
  (∀ k,m <= k -> k <= n -> qX lt p k -> Q (p,k,0) s) -> (kas_desc f p m 0).kasWp cmp Q s
 | 0,m,Q,h1,e,u,q=>q m (Nat.le_refl _) (by omega) u
 | f + 1,m,Q,h1,e,u,q=>by
  refine hc _ _ _ (hp.lt (by omega)) (hp.lt (by omega)) ?_
  cases c:lt (p.getD m 0) (p.getD (m - 1) 0) with
  | true =>
   dsimp only
   rw [if_pos rfl,if_neg (by decide)]
   exact r0 o hc hp f (m + 1) (by omega) (by omega) (u.snoc o h1 c) fun k hk=>q k (by omega)
  | false =>
   dsimp only
   rw [if_neg (by decide)]
   refine hc _ _ _ (hp.lt (by omega)) (hp.lt (by omega)) ?_
   rw [o.to (hp.lt (by omega)) (hp.lt (by omega)) (hp.inj (by omega) (by omega) (by omega)) c]
   dsimp only
   rw [if_pos rfl]
   exact q m (Nat.le_refl _) (by omega) u
theorem Ug {p:Array Nat} {k:Nat} (hp:PmA n p) (hk:k <= n) (d:qX lt p k):Ups lt (kas_rev p 0 k) k:=by
 intro i j hij hj
 have g:∀ x,x < k -> (kas_rev p 0 k).getD x 0 = p.getD (k - 1 - x) 0:=fun x hx=>by
  refine Ze ?_
  unfold kas_rev
  rw [getElem?_mirror_all (by rw [hp.sz]; exact hk),if_pos (by omega)]
  congr 1; omega
 rw [g i (by omega),g j hj]
 exact d _ _ (by omega) (by omega)
theorem XN (o:OrdB n lt) (hc:Says n lt cmp s) {p:Array Nat} (hp:PmA n p) {k:Nat} (h1:1 <= k) (hk:k <= n) (d:qX lt p k) {Q:Nat × Array Nat -> Shared -> Prop}
  (q:∀ m p',PmA n p' -> 1 <= m -> m <= n -> Ups lt p' m -> Q (m,p') s):(kas_tail3 k n p).kasWp cmp Q s:=by
 unfold kas_tail3
 rw [KasT.kasWp_bind]
 have hp':PmA n (kas_rev p 0 k):=hp.of_perm (mirror_perm _ _ _ _)
 exact sI o hc hp' (n - k) k h1 (by omega) (Ug hp hk d) fun m hm hm' u _=>q m _ hp' (by omega) hm' u
theorem XO (o:OrdB n lt) (hc:Says n lt cmp s) {p:Array Nat} (hp:PmA n p) (h2:2 <= n) (c:lt (p.getD 1 0) (p.getD 0 0) = true) {Q:Nat × Array Nat -> Shared -> Prop}
  (q:∀ m p',PmA n p' -> 1 <= m -> m <= n -> Ups lt p' m -> Q (m,p') s):(kas_descPart 1 n p).kasWp cmp Q s:=by
 unfold kas_descPart
 rw [KasT.kasWp_bind]
 refine r0 o hc hp (n - 2) 2 (by decide) (by omega) (fun i j hij hj=>?_) fun k hk hk' d=>?_
 ·obtain rfl:i = 0:=by omega
  obtain rfl:j = 1:=by omega
  exact c
 ·dsimp only
  rw [if_neg (by omega)]
  exact XN o hc hp (by omega) hk' d q
theorem Z5 (o:OrdB n lt) (hc:Says n lt cmp s) {p:Array Nat} (hp:PmA n p) (h2:2 <= n) {Q:Nat × Array Nat -> Shared -> Prop}
  (q:∀ m p',PmA n p' -> 1 <= m -> m <= n -> Ups lt p' m -> Q (m,p') s):(kas_count n p).kasWp cmp Q s:=by
 unfold kas_count
 rw [KasT.kasWp_bind]
 refine sI o hc hp (n - 1) 1 (Nat.le_refl _) (by omega) (fun i j hij hj=>by omega) fun k h1 hk u e=>?_
 by_cases hkn:k = n
 ·rw [if_pos (by simpa using hkn)]
  exact q k p hp h1 hk u
 rw [if_neg (by simpa using hkn)]
 have e:=e.resolve_left hkn
 by_cases hg:k > 1
 ·rw [if_pos hg]
  refine hc _ _ _ (hp.lt (by omega)) (hp.lt (by omega)) ?_
  rw [u 0 (k - 1) (by omega) (by omega)]
  dsimp only
  rw [if_pos rfl]
  exact q k p hp h1 hk u
 ·rw [if_neg hg]
  obtain rfl:k = 1:=by omega
  exact XO o hc hp h2 e q
theorem vz (o:OrdB n lt) (hc:Says n lt cmp s) {p:Array Nat} (hp:PmA n p) {k:Nat} (hk:k < n) (u:Ups lt p k):∀ (f l r:Nat) {Q:Nat -> Shared -> Prop},l <= r -> r <= k -> r - l <= f →
  (∀ i,i < l -> lt (p.getD i 0) (p.getD k 0) = true) -> (∀ i,r <= i -> i < k -> lt (p.getD k 0) (p.getD i 0) = true) →
  (∀ x,x <= k -> (∀ i,i < x -> lt (p.getD i 0) (p.getD k 0) = true) -> (∀ i,x <= i -> i < k -> lt (p.getD k 0) (p.getD i 0) = true) -> Q x s) -> (kas_place p k f l r).kasWp cmp Q s
 | 0,l,r,Q,h1,h2,h3,a,b,q=>q l (by omega) a fun i hi=>b i (by omega)
 | f + 1,l,r,Q,h1,h2,h3,a,b,q=>by
  unfold kas_place
  by_cases hlr:l >= r
  ·rw [if_pos hlr]
   exact q l (by omega) a fun i hi=>b i (by omega)
  rw [if_neg hlr]
  refine hc _ _ _ (hp.lt hk) (hp.lt (by omega)) ?_
  cases c:lt (p.getD k 0) (p.getD ((l + r) / 2) 0) with
  | true =>
   dsimp only
   rw [if_pos rfl]
   refine vz o hc hp hk u f l ((l + r) / 2) (by omega) (by omega) (by omega) a (fun i hi hik=>?_) q
   by_cases e:i = (l + r) / 2
   ·rw [e]; exact c
   ·exact o.tr c (u _ i (by omega) hik)
  | false =>
   dsimp only
   rw [if_neg (by decide)]
   have c':=o.to (hp.lt hk) (hp.lt (by omega)) (hp.inj hk (by omega) (by omega)) c
   refine vz o hc hp hk u f ((l + r) / 2 + 1) r (by omega) h2 (by omega) (fun i hi=>?_) b q
   by_cases e:i = (l + r) / 2
   ·rw [e]; exact c'
   ·exact o.tr (u i _ (by omega) (by omega)) c'
theorem Uh {p:Array Nat} {k x:Nat} (o:OrdB n lt) (hp:PmA n p) (hk:k < n) (u:Ups lt p k) (hx:x <= k) (a:∀ i,i < x -> lt (p.getD i 0) (p.getD k 0) = true) (b:∀ i,x <= i -> i < k -> lt (p.getD k 0) (p.getD i 0) = true):Ups lt (bubble p k (k - x)) (k + 1):=by
 have g:=fun i=>getElem?_bubble (xs:=p) (src:=k) (by rw [hp.sz]; exact hk) (k - x) (by omega) i
 have e:k - (k - x) = x:=by omega
 rw [e] at g
 have g1:∀ i,i < x -> (bubble p k (k - x)).getD i 0 = p.getD i 0:=fun i hi=>Ze (by rw [g,if_neg (by omega),if_neg (by omega)])
 have g2:(bubble p k (k - x)).getD x 0 = p.getD k 0:=Ze (by rw [g,if_pos rfl])
 have g3:∀ i,x < i -> i <= k -> (bubble p k (k - x)).getD i 0 = p.getD (i - 1) 0:=fun i hi hik=>Ze (by rw [g,if_neg (by omega),if_pos ⟨hi,hik⟩])
 intro i j hij hj
 rcases Nat.lt_trichotomy j x with h | h | h
 ·rw [g1 i (by omega),g1 j h]; exact u i j hij (by omega)
 ·subst h; rw [g1 i hij,g2]; exact a i hij
 ·rw [g3 j h (by omega)]
  rcases Nat.lt_trichotomy i x with h' | h' | h'
  ·rw [g1 i h']; exact u i _ (by omega) (by omega)
  ·subst h'; rw [g2]; exact b _ (by omega) (by omega)
  ·rw [g3 i h' (by omega)]; exact u _ _ (by omega) (by omega)
theorem Zf (o:OrdB n lt) (hc:Says n lt cmp s):∀ (f:Nat) (p:Array Nat) (k:Nat) {Q:Array Nat -> Shared -> Prop},PmA n p -> k + f = n -> Ups lt p k -> (∀ p',PmA n p' -> Ups lt p' n -> Q p' s) -> (kas_bin f p k).kasWp cmp Q s
 | 0,p,k,Q,hp,e,u,q=>q p hp (by rw [← show k = n by omega]; exact u)
 | f + 1,p,k,Q,hp,e,u,q=>by
  unfold kas_bin
  rw [KasT.kasWp_bind]
  refine vz o hc hp (by omega) u k 0 k (Nat.zero_le _) (Nat.le_refl _) (by omega) (fun i hi=>by omega) (fun i h1 h2=>by omega) fun x hx a b=>?_
  exact Zf o hc f _ (k + 1) (hp.of_perm (bubble_perm _ _ _)) (by omega) (Uh o hp (by omega) u hx a b) q
theorem XQ (o:OrdB n lt) (hc:Says n lt cmp s) (h2:2 <= n) {Q:Array Nat -> Shared -> Prop} (q:∀ p,PmA n p -> Ups lt p n -> Q p s):(kas_sort n).kasWp cmp Q s:=by
 unfold kas_sort
 rw [KasT.kasWp_bind]
 have h0:PmA n (List.toArray (List.range n)):=⟨by simp,by simp⟩
 refine Z5 o hc h0 h2 fun m p hp h1 hm u=>?_
 by_cases hmn:m < n
 ·rw [if_pos hmn]
  have e:max m 1 = m:=by omega
  show (kas_bin (n - max m 1) p (max m 1)).kasWp cmp Q s
  rw [e]
  exact Zf o hc (n - m) p m hp (by omega) u q
 ·rw [if_neg hmn]
  obtain rfl:m = n:=by omega
  exact q p hp u
end
section
variable {prog:Program} {w:World} {A:Around} {E:VS7} {s:Shared}
def Asks (prog:Program) (w:World) (A:Around) (s:Shared) (a:Addr) (vs:List Value) (lt:Nat -> Nat -> Bool):Prop:=∃ κ,∀ h':Heap,(∀ b ob,b ≠ a -> s.heap.get? b = some ob -> h'.get? b = some ob) →
 (∀ (Q:SortKind -> Shared -> Prop) (E':VS7),Q κ { s with heap:=h' } -> wpAny (model prog w) A (keyKind' vs.toArray) Q E' { s with heap:=h' }) /\ Says vs.length lt (kas_ask prog w A κ vs) { s with heap:=h' }
theorem XR (vs:List Value):((List.range vs.length).map fun i=>vs.getD i Value.none) = vs:=by
 refine List.ext_getElem? fun i=>?_
 rw [List.getElem?_map]
 by_cases h:i < vs.length
 ·rw [List.getElem?_range h]
  show some (vs.getD i Value.none) = _
  rw [List.getD_eq_getElem?_getD,List.getElem?_eq_getElem h]; rfl
 ·rw [List.getElem?_eq_none (by rw [List.length_range]; omega),List.getElem?_eq_none (by omega)]; rfl
theorem XS {a:Addr} {vs:List Value} {n:Nat} {P:PySem.Fin -> Shared -> Prop} {lt:Nat -> Nat -> Bool} (here:s.heap.get? a = some (seqObj "list" vs.toArray n)) (few:vs.length < 64) (o:OrdB vs.length lt) (asks:2 <= vs.length -> Asks prog w A s a vs lt)
  (fin:∀ p,PmA vs.length p -> Ups lt p vs.length -> P (.done (.ret .none)) { s with heap:=sortedHeap s.heap a vs (List.toArray (p.toList.map fun i=>vs.getD i Value.none)) }) :
  wpAny (model prog w) A (Builtin.«list.sort» ⟨[.ref a],[]⟩) P E s:=by
 have low:a < s.heap.objs.size:=Heap.lt_size here
 obtain ⟨ep,emp⟩:∃ ep,(s.heap.update a (Obj.mapSeq fun _=>(#[]:Array Value))).get? a = some (seqObj "list" #[] ep):=⟨_,get?_update_seq here fun _=>#[]⟩
 have big:sizeLine = sizeLine:=rfl
 have fits:vs.length <= sizeLine:=by have:=sizeLine_eq; omega
 have empty:(((s.heap.update a (Obj.mapSeq fun _=>(#[]:Array Value))).push (seqObj "tuple" vs.toArray 0)).push (seqObj "list" #[] 0)).get? a = some (seqObj "list" #[] ep):=Heap.get?_push_of_some _ (Heap.get?_push_of_some _ emp)
 have old:∀ b ob,b ≠ a -> s.heap.get? b = some ob -> (((s.heap.update a (Obj.mapSeq fun _=>(#[]:Array Value))).push (seqObj "tuple" vs.toArray 0)).push (seqObj "list" #[] 0)).get? b = some ob:=fun b ob ne e =>
  Heap.get?_push_of_some _ (Heap.get?_push_of_some _ (by rw [Heap.get?_update_ne _ _ _ _ ne]; exact e))
 rw [list_sort_plain]
 refine wpAny_bind (listItems_at here rfl (wpAny_bind (listUpdate_at here rfl ?_ (by rw [List.size_toArray]; exact fits) (Nat.zero_le _))))
 refine wpAny_bind (seqEpoch_at emp rfl (wpAny_bind (wpAny_newTuple ?_ (by show vs.length <= _; exact fits))))
 refine wpAny_bind (wpAny_newList (wpAny_holding ?_) (Nat.zero_le _))
 show wpAny (model prog w) A _ P E { s with heap:=((s.heap.update a (Obj.mapSeq fun _=>(#[]:Array Value))).push (seqObj "tuple" vs.toArray 0)).push (seqObj "list" #[] 0),toks:=s.toks }
 have sz:vs.toArray.size = vs.length:=by simp
 by_cases h2:vs.toArray.size < 2
 ·rw [if_pos h2,if_pos h2]
  refine wpAny_bind (wpAny_pure ?_)
  dsimp only
  rw [StateT.run_pure]
  refine wpAny_bind (wpAny_pure (wpAny_bind (seqEpoch_at empty rfl (wpAny_bind (listUpdate_at empty rfl ?_ (Nat.zero_le _) ?_)))))
  ·have f:=fin (List.toArray (List.range vs.length)) ⟨by simp,by simp⟩ (fun i j hij hj=>by omega)
   have e:(List.toArray ((List.toArray (List.range vs.length)).toList.map fun i=>vs.getD i Value.none)) = (vs.toArray.zip vs.toArray).map (·.2):=by
    apply Array.toList_inj.mp
    rw [Array.toList_map]
    show (List.range vs.length).map (fun i=>vs.getD i Value.none) = _
    rw [XR,Array.toList_zip]
    show vs = (vs.zip vs).map Prod.snd
    rw [List.map_snd_zip (Nat.le_refl _)]
   rw [e] at f
   have ne:(ep != ep) = false:=by simp
   show wpAny _ _ _ P E _
   simp only [ne,Bool.false_eq_true,if_false]
   exact wpAny_pure f
  ·show ((vs.toArray.zip vs.toArray).map (·.2)).size <= _
   rw [Array.size_map,Array.size_zip,sz]; omega
 have h2':2 <= vs.length:=by omega
 obtain ⟨κ,ok⟩:=asks h2'
 obtain ⟨kd,says⟩:=ok _ old
 rw [if_neg h2,if_neg h2]
 refine wpAny_bind (kd _ _ ?_)
 refine wpAny_bind (wpAny_mono (kat_run (ks:=vs) (Q:=fun st' s'=>s' = { s with heap:=((s.heap.update a (Obj.mapSeq fun _=>(#[]:Array Value))).push (seqObj "tuple" vs.toArray 0)).push (seqObj "list" #[] 0) } /\ failedOf st' = none /\ ∃ p,PmA vs.length p /\ Ups lt p vs.length /\ (arrOf st').map (·.2) = List.toArray (p.toList.map fun i=>vs.getD i Value.none)) (G:=fun p s'=>s' = { s with heap:=((s.heap.update a (Obj.mapSeq fun _=>(#[]:Array Value))).push (seqObj "tuple" vs.toArray 0)).push (seqObj "list" #[] 0) } /\ PmA vs.length p /\ Ups lt p vs.length) rfl h2' few
  (fun p st' s' _ har hf g=>⟨g.1,hf,p,g.2.1,g.2.2,kat_snds rfl har⟩) (XQ o says h2' fun p hp u=>⟨rfl,hp,u⟩)) ?_ fun _ _ e=>e)
 rintro ⟨⟨⟩,st'⟩ s' ⟨rfl,hf,p,hp,u,out⟩
 refine wpAny_bind (seqEpoch_at empty rfl (wpAny_bind (listUpdate_at empty rfl ?_ (Nat.zero_le _) ?_)))
 ·have f:=fin p hp u
  rw [← out] at f
  show wpAny _ _ _ P E _
  have ne:(ep != ep) = false:=by simp
  have hf':failedOf st' = none:=hf
  dsimp only
  rw [hf']
  simp only [ne,Bool.false_eq_true,if_false]
  exact wpAny_pure f
 ·show ((arrOf st').map (·.2)).size <= _
  rw [out,List.size_toArray,List.length_map,Array.length_toList,hp.sz]; omega
end
def ltL:List Int -> List Int -> Bool
 | [],[]=>false
 | [],_ :: _=>true
 | _ :: _,[]=>false
 | a :: as,b :: bs=>if a = b then ltL as bs else decide (a < b)
theorem VC:∀ {a b c:List Int},ltL a b = true -> ltL b c = true -> ltL a c = true
 | [],[],_,h,_=>nomatch h
 | [],_ :: _,[],_,h=>nomatch h
 | [],_ :: _,_ :: _,_,_=>rfl
 | _ :: _,[],_,h,_=>nomatch h
 | _ :: _,_ :: _,[],_,h=>nomatch h
 | a :: as,b :: bs,c :: cs,h,k=>by
  unfold ltL at h k ⊢
  by_cases e:a = b
  ·subst e
   rw [if_pos rfl] at h
   by_cases e':a = c
   ·rw [if_pos e'] at k ⊢; exact VC h k
   ·rw [if_neg e'] at k ⊢; exact k
  ·rw [if_neg e] at h
   have h:=of_decide_eq_true h
   by_cases e':b = c
   ·subst e'; rw [if_neg e]; exact decide_eq_true h
   ·rw [if_neg e'] at k
    have k:=of_decide_eq_true k
    rw [if_neg (by omega)]; exact decide_eq_true (by omega)
theorem XT:∀ {a b:List Int},ltL a b = true -> ltL b a = false
 | [],[],h=>nomatch h
 | [],_ :: _,_=>rfl
 | _ :: _,[],h=>nomatch h
 | a :: as,b :: bs,h=>by
  unfold ltL at h ⊢
  by_cases e:a = b
  ·subst e; rw [if_pos rfl] at h ⊢; exact XT h
  ·rw [if_neg e] at h; rw [if_neg (Ne.symm e)]
   have h:=of_decide_eq_true h
   exact decide_eq_false (by omega)
theorem VD:∀ {a b:List Int},a ≠ b -> ltL a b = false -> ltL b a = true
 | [],[],h,_=>absurd rfl h
 | [],_ :: _,_,h=>nomatch h
 | _ :: _,[],_,_=>rfl
 | a :: as,b :: bs,n,h=>by
  unfold ltL at h ⊢
  by_cases e:a = b
  ·subst e; rw [if_pos rfl] at h ⊢; exact VD (fun z=>n (by rw [z])) h
  ·rw [if_neg e] at h; rw [if_neg (Ne.symm e)]
   have h:=of_decide_eq_false h
   exact decide_eq_true (by omega)
theorem Zg:∀ {a b:List (List Int)},a.Pairwise (fun x y=>ltL x y = true) -> b.Pairwise (fun x y=>ltL x y = true) -> a.Perm b -> a = b
 | [],b,_,_,p=>(List.Perm.nil_eq p)
 | x :: xs,[],_,_,p=>absurd p.length_eq (by simp)
 | x :: xs,y :: ys,ha,hb,p=>by
  obtain ⟨a1,a2⟩:=List.pairwise_cons.mp ha
  obtain ⟨b1,b2⟩:=List.pairwise_cons.mp hb
  have e:x = y:=by
   by_cases e:x = y
   ·exact e
   ·have hx:x ∈ ys:=(List.mem_cons.mp (p.mem_iff.mp List.mem_cons_self)).resolve_left e
    have hy:y ∈ xs:=(List.mem_cons.mp (p.mem_iff.mpr List.mem_cons_self)).resolve_left (Ne.symm e)
    have:=XT (a1 y hy)
    rw [b1 x hx] at this; cases this
  subst e
  rw [Zg a2 b2 ((List.perm_cons x).mp p)]
section
variable {prog:Program} {w:World} {A:Around} {E:VS7} {s:Shared} {b fin:Bool} {Q:Bool -> Shared -> Prop}
theorem Zh:∀ {us vs:List Value} {as bs:List Int} (i:Nat),IntsAre us as -> IntsAre vs bs -> fin = decide (as.length < bs.length) -> Q (ltL as bs) s -> KatLex prog w A b fin Q (us.zip vs) i s
 | _,_,_,_,i,.nil,.nil,e,q=>by rw [e]; exact kat_nil q
 | _,_,_,_,i,.nil,.cons _ _ _,e,q=>by rw [e]; exact kat_nil (by simpa [ltL] using q)
 | _,_,_,_,i,.cons _ _ _,.nil,e,q=>by rw [e]; exact kat_nil (by simpa [ltL] using q)
 | _,_,_,_,i,.cons x t hx,.cons y u hy,e,q=>by
  rename_i us as vs bs
  rw [List.zip_cons_cons]
  refine kat_cons (wpAny_eqBool_int (kat_go (fun h=>?_) fun h=>?_))
  ·have h:=eq_of_beq h
   subst h
   refine kat_yes (Zh (i + 1) hx hy (by rw [e]; simp) ?_)
   unfold ltL at q
   rw [if_pos rfl] at q
   exact q
  ·have h:=ne_of_beq_false h
   unfold ltL at q
   rw [if_neg h] at q
   refine kat_no ?_
   cases (b && i == 0) with
   | true=>exact oneLt_int q
   | false=>exact kat_one _ _ (PyProof.Rows.lt_int (show PySem.W.BoolBack Q (.bool (decide (x < y))) s from q))
structure RowAt (h:Heap) (v:Value) (row:List Int) (x:Addr) (ob:Obj) (its:Array Value) (n:Nat):Prop where
 e:v = .ref x
 g:h.get? x = some ob
 c:ob.cls = .type "tuple"
 d:ob.data = .seq its n
 i:IntsAre its.toList row
def Row1 (h:Heap) (v:Value) (row:List Int):Prop:=∃ x ob its n,RowAt h v row x ob its n
inductive Rows (h:Heap):List Value -> List (List Int) -> Prop
 | nil:Rows h [] []
 | cons {v vs row rows}:Row1 h v row -> Rows h vs rows -> Rows h (v :: vs) (row :: rows)
theorem Rows.len {h:Heap}:∀ {vs rows},Rows h vs rows -> vs.length = rows.length
 | _,_,.nil=>rfl
 | _,_,.cons _ t=>congrArg (· + 1) t.len
theorem Rows.get {h:Heap}:∀ {vs rows} {i:Nat},Rows h vs rows -> i < vs.length -> Row1 h (vs.getD i Value.none) (rows.getD i [])
 | _,_,_,.nil,hi=>absurd hi (by simp)
 | _,_,0,.cons r _,_=>r
 | _,_,i + 1,.cons _ t,hi=>by
  have:=t.get (i:=i) (by simpa using hi)
  exact this
theorem Rows.old {h h':Heap} (k:∀ x ob,h.get? x = some ob -> h'.get? x = some ob):∀ {vs rows},Rows h vs rows -> Rows h' vs rows
 | _,_,.nil=>.nil
 | _,_,.cons ⟨x,ob,its,n,r⟩ t=>.cons ⟨x,ob,its,n,r.e,k _ _ r.g,r.c,r.d,r.i⟩ (t.old k)
theorem Rows.tups {h:Heap}:∀ {vs rows},Rows h vs rows -> (∀ r ∈ rows,r ≠ []) -> ∃ fs,KatTups h vs fs /\ fs.length = vs.length /\ ∀ f ∈ fs,∃ n t,f = Value.int n t
 | _,_,.nil,_=>⟨[],.nil,rfl,fun f hf=>absurd hf (by simp)⟩
 | _,_,.cons ⟨x,ob,its,n,r⟩ t,ne=>by
  rename_i v vs row rows
  obtain ⟨fs,k,l,a⟩:=t.tups fun r hr=>ne r (List.mem_cons_of_mem _ hr)
  have hne:=ne row List.mem_cons_self
  obtain ⟨f,hf,n',t',rfl⟩:∃ f,its[0]? = some f /\ ∃ n t,f = Value.int n t:=by
   have hi:=r.i
   rw [← Array.getElem?_toList]
   revert hi
   generalize its.toList = us
   intro hi
   cases hi with
   | nil=>exact absurd rfl hne
   | cons n t _=>exact ⟨_,rfl,n,t,rfl⟩
  obtain rfl:=r.e
  exact ⟨Value.int n' t' :: fs,.cons r.g r.c r.d hf k,congrArg (· + 1) l,fun f hf=>by
   rcases List.mem_cons.mp hf with rfl | hf
   ·exact ⟨n',t',rfl⟩
   ·exact a f hf⟩
theorem W5 {rows:List (List Int)} (nd:rows.Nodup):OrdB rows.length (fun i j=>ltL (rows.getD i []) (rows.getD j [])) where
 tr:=VC
 as:=XT
 to:=fun {i j} hi hj hne h=>by
  refine VD (fun z=>hne ?_) h
  have e:∀ {i:Nat} (h:i < rows.length),rows.getD i [] = rows[i]:=fun h=>by rw [List.getD_eq_getElem?_getD,List.getElem?_eq_getElem h]; rfl
  rw [e hi,e hj] at z
  exact (List.getElem_inj nd).mp z
theorem XU {vs:List Value} {rows:List (List Int)} {a:Addr} (r:Rows s.heap vs rows) (ne:∀ r ∈ rows,r ≠ []) (ha:∀ x ob,s.heap.get? x = some ob -> (∃ v ∈ vs,v = .ref x) -> x ≠ a) (h2:2 <= vs.length):Asks prog w A s a vs (fun i j=>ltL (rows.getD i []) (rows.getD j [])):=by
 refine ⟨tuples' (Value.type "int" != Value.type "tuple"),fun h' k=>?_⟩
 have r':Rows h' vs rows:=by
  have go:∀ {vs' rows'},Rows s.heap vs' rows' -> (∀ v ∈ vs',v ∈ vs) -> Rows h' vs' rows':=by
   intro vs' rows' q
   induction q with
   | nil=>intro _; exact .nil
   | cons q t ih =>
    intro sub
    obtain ⟨x,ob,its,n,q⟩:=q
    exact .cons ⟨x,ob,its,n,q.e,k x ob (ha x ob q.g ⟨_,sub _ List.mem_cons_self,q.e⟩) q.g,q.c,q.d,q.i⟩ (ih fun v hv=>sub v (List.mem_cons_of_mem _ hv))
  exact go r fun v hv=>hv
 obtain ⟨fs,kt,fl,fi⟩:=r'.tups ne
 refine ⟨fun Q E' q=>kat_kind (s:={ s with heap:=h' }) (T:=.type "int") kt (by omega) (fun v hv=>?_) (by simp) q,fun i j C hi hj c=>?_⟩
 ·obtain ⟨n,t,rfl⟩:=fi v hv
  exact Looks.of_pure rfl
 ·obtain ⟨x,ox,xs,n,p⟩:=r'.get hi
  obtain ⟨y,oy,ys,m,q⟩:=r'.get hj
  unfold kas_ask
  rw [p.e,q.e]
  have l1:xs.toList.length = (rows.getD i []).length:=by have:=(xC p.i).length; rw [List.length_map] at this; exact this.symm
  have l2:ys.toList.length = (rows.getD j []).length:=by have:=(xC q.i).length; rw [List.length_map] at this; exact this.symm
  refine kat_lt (s:={ s with heap:=h' }) p.g p.d q.g q.d (Zh 0 p.i q.i ?_ c)
  rw [← l1,← l2,Array.length_toList,Array.length_toList]
end
section
variable {X:Cx} {K:FG7}
theorem XV {pins:List (Addr × Obj)} {σ:L2.St} {H:Hp} {s:Shared} (I:Inv X pins σ H s):∀ {zs:List V} {rows:List (List Int)} {vs:List Value},AllR (zA X.K H) zs rows -> Vals zs vs -> Rows s.heap vs rows
 | [],[],_,_,.nil=>.nil
 | z :: zs,row :: rows,_,⟨h,t⟩,.cons r rs=>by
  obtain ⟨b,rfl,hb⟩:=h
  obtain ⟨its,rv,⟨ob,eo,ec,m,ed⟩,_⟩:=I.tuple hb
  refine .cons ⟨b,ob,its.toArray,m,r,eo,ec,ed,?_⟩ (XV I t rs)
  show IntsAre its row
  exact uW rv
 | [],_ :: _,_,h,_=>h.elim
 | _ :: _,[],_,h,_=>h.elim
theorem XW {α:Type} {l:List α} {d:α} {is:List Nat} (h:is.Perm (List.range l.length)):(is.map fun i=>l.getD i d).Perm l:=by
 refine (h.map _).trans ?_
 have e:(List.range l.length).map (fun i=>l.getD i d) = l:=by
  refine List.ext_getElem? fun i=>?_
  rw [List.getElem?_map]
  by_cases h:i < l.length
  ·rw [List.getElem?_range h]
   show some (l.getD i d) = _
   rw [List.getD_eq_getElem?_getD,List.getElem?_eq_getElem h]; rfl
  ·rw [List.getElem?_eq_none (by rw [List.length_range]; omega),List.getElem?_eq_none (by omega)]; rfl
 rw [e]
end
section
variable {prog:Program} {w:World} {A:Around} {E:VS7} {s:Shared}
theorem Z6 {l:Addr} {us:List Value} {Q:List Value -> Shared -> Prop} (tu:s.heap.IsList l us.toArray) (hu:us.length <= sizeLine)
  (q:Q us { s with heap:=(s.heap.push (seqObj "list" #[] 0)).update s.heap.objs.size (Obj.mapSeq (· ++ us.toArray)) }):wpAny (model prog w) A (collect (.ref l)) Q E s:=by
 obtain ⟨ob,eo,ec,m,ed⟩:=id tu
 have eo2:(s.heap.push (seqObj "list" #[] 0)).get? l = some ob:=Heap.get?_push_of_some _ eo
 unfold collect
 refine wpAny_bind (wpAny_runValue (codeAny_builtin entry_proto_collect' (show wpAny _ _ (do again (.builtin "list.__iadd__" ⟨[← newList [],.ref l],[]⟩)) _ _ s from ?_)))
 refine wpAny_bind (wpAny_newList (wpAny_pure ⟨Code.quiet_builtin _ (by decide +kernel),codeAny_builtin entry_list_iadd' (show wpAny _ _ (Builtin.List.listExtendWith (.ref s.heap.objs.size) (.ref l) (.ref s.heap.objs.size)) _ _ { s with heap:=s.heap.push (seqObj "list" #[] 0) } from ?_)⟩))
 unfold Builtin.List.listExtendWith
 refine wpAny_bind (wpAny_typeOf (T:="list") ⟨ob,eo2,ec⟩ ?_)
 have k1:(Value.type "list" == Value.type "list") = true:=rfl
 rw [if_pos (by simp [k1])]
 refine wpAny_bind (listItems_at eo2 ed (wpAny_bind (listItems_at (xs:=#[]) (n:=0) (Heap.get?_push_size _ rfl) rfl ?_)))
 rw [if_neg (by simp)]
 refine wpAny_bind (listUpdate_at (xs:=#[]) (n:=0) (Heap.get?_push_size _ rfl) rfl (wpAny_pure ?_) (Nat.zero_le _) (by show (#[] ++ us.toArray).size <= sizeLine + 1; simp only [Array.size_append,List.size_toArray,List.length_nil]; omega))
 refine wpAny_bind (wpAny_load (get?_update_seq (Heap.get?_push_size _ rfl) _) ?_)
 show wpAny _ _ (pure ((#[]:Array Value) ++ us.toArray).toList) Q E _
 rw [show ((#[]:Array Value) ++ us.toArray).toList = us by simp]
 exact wpAny_pure q
theorem sJ {l:Addr} {vs:List Value} {Q:VS7} {lt:Nat -> Nat -> Bool} (tu:s.heap.IsList l vs.toArray) (few:vs.length < 64) (o:OrdB vs.length lt)
  (asks:2 <= vs.length -> ∀ s':Shared,(∀ b ob,s.heap.get? b = some ob -> s'.heap.get? b = some ob /\ b ≠ s.heap.objs.size + 1) -> Asks prog w A.in1.in1 s' (s.heap.objs.size + 1) vs lt)
  (fin:∀ p,PmA vs.length p -> Ups lt p vs.length -> Q (.ref (s.heap.objs.size + 1)) { s with heap:=sortedAll s.heap vs (List.toArray (p.toList.map fun i=>vs.getD i Value.none)) }) :
  wpAny (model prog w) A (call (.builtin "sorted") [.ref l]) Q E s:=by
 refine Calls.call_function_entry kind_sorted plain_sorted entry_sorted (args_sorted1 _) ?_
 unfold Builtin.«sorted»
 refine wpAny_bind (m:=checkCount "sorted" 1 1 _) (wpAny_pure (wpAny_bind (Z6 tu (by rw [sizeLine_eq]; omega) (wpAny_bind (wpAny_newList ?_ (by rw [sizeLine_eq]; omega))))))
 have e1:((s.heap.push (seqObj "list" #[] 0)).update s.heap.objs.size (Obj.mapSeq (· ++ vs.toArray))).objs.size = s.heap.objs.size + 1:=by rw [Heap.size_update,size_push']
 have e2:(((s.heap.push (seqObj "list" #[] 0)).update s.heap.objs.size (Obj.mapSeq (· ++ vs.toArray))).push (seqObj "list" vs.toArray 0)).get? (s.heap.objs.size + 1) = some (seqObj "list" vs.toArray 0):=by
  rw [← e1]; exact Heap.get?_push_size _ rfl
 show wpAny _ _ _ _ _ { s with heap:=((s.heap.push (seqObj "list" #[] 0)).update s.heap.objs.size (Obj.mapSeq (· ++ vs.toArray))).push (seqObj "list" vs.toArray 0) }
 rw [e1]
 refine wpAny_bind (wpAny_holding (wpAny_call_entry slot_list_sort ⟨_,e2,rfl⟩ entry_list_sort (XS (s:={ s with heap:=((s.heap.push (seqObj "list" #[] 0)).update s.heap.objs.size (Obj.mapSeq (· ++ vs.toArray))).push (seqObj "list" vs.toArray 0) }) e2 few o (fun h2=>asks h2 _ fun b ob e=>⟨?_,?_⟩) fun p hp u=>⟨_,rfl,wpAny_pure ⟨_,rfl,fin p hp u⟩⟩) (args_list_sort _)))
 ·have lo:b < s.heap.objs.size:=Heap.lt_size e
  refine Heap.get?_push_of_some _ ?_
  rw [Heap.get?_update_ne _ _ _ _ (Nat.ne_of_lt lo)]
  exact Heap.get?_push_of_some _ e
 ·exact Nat.ne_of_lt (Nat.lt_succ_of_lt (Heap.lt_size e))
end
section
variable {X:Cx} {K:FG7}
def Ui (K:FG7):List V -> Hp -> VK -> Prop:=fun xs H Q=>∃ (l:Addr) (zs:List V) (rows:List (List Int)),xs = [.ref l] /\ SqL K H l zs /\ AllR (zA K H) zs rows /\ rows.Nodup /\ (∀ r ∈ rows,r ≠ []) /\ rows.length < 64 ∧
 ∀ (p:Addr) (zs':List V) (rows':List (List Int)),H p = none -> rows'.Perm rows -> rows'.Pairwise (fun x y=>ltL x y = true) -> AllR (zA K H) zs' rows' -> Q (.ref p) (upd H p (.lst zs'))
theorem qY (hK:X.K = K):xw X (.builtin "sorted") (Ui K):=by
 subst hK
 intro pins s σ H xs us Q I r h
 obtain ⟨l,zs,rows,rfl,hl,hr,nd,ne,few,q⟩:=h
 obtain ⟨u,rfl,rx⟩:=wS r
 cases (show u = Value.ref l from rx)
 obtain ⟨vs,rv,pl,hz⟩:=I.list hl
 have e1:=rv.length
 have e2:=hr.len
 have R:=XV I hr rv
 have e3:=R.len
 have o:=W5 nd
 rw [← e3] at o
 refine sJ pl.isList (by omega) o (fun h2 s' k=>XU (R.old fun x ob e=>(k x ob e).1) ne (fun x ob e ⟨v,hv,ev⟩=>?_) h2) fun p hp u=>?_
 ·subst ev
  obtain ⟨i,hi,ei⟩:=List.getElem_of_mem hv
  obtain ⟨x',ob',its,n,p⟩:=R.get hi
  have ex:vs.getD i Value.none = .ref x:=by rw [List.getD_eq_getElem?_getD,List.getElem?_eq_getElem hi,ei]; rfl
  rw [ex] at p
  cases p.e
  exact (k _ _ p.g).2
 ·obtain ⟨e,he⟩:=sortedAll_at s.heap vs (List.toArray (p.toList.map fun i=>vs.getD i Value.none))
  have hn:H (s.heap.objs.size + 1) = none:=I.hok.fresh (Nat.le_succ _)
  have mem:∀ i ∈ p.toList,i < vs.length:=fun i hi=>List.mem_range.mp (hp.pm.mem_iff.mp hi)
  have rl:∀ is:List Nat,(∀ i ∈ is,i < vs.length) -> Vals (is.map fun i=>zs.getD i .non) (is.map fun i=>vs.getD i Value.none):=by
   intro is
   induction is with
   | nil=>intro _; exact .nil
   | cons i is ih =>
    intro hm
    have hi:=hm i List.mem_cons_self
    refine .cons ?_ (ih fun j hj=>hm j (List.mem_cons_of_mem _ hj))
    obtain ⟨u,hu,ru⟩:=rv.get (List.getElem?_eq_getElem (show i < zs.length by omega))
    dsimp only
    rw [List.getD_eq_getElem?_getD,List.getD_eq_getElem?_getD,hu,List.getElem?_eq_getElem (show i < zs.length by omega)]
    exact ru
  have al:∀ is:List Nat,(∀ i ∈ is,i < vs.length) -> AllR (zA X.K H) (is.map fun i=>zs.getD i .non) (is.map fun i=>rows.getD i []):=by
   intro is
   induction is with
   | nil=>intro _; trivial
   | cons i is ih =>
    intro hm
    have hi:=hm i List.mem_cons_self
    refine ⟨?_,ih fun j hj=>hm j (List.mem_cons_of_mem _ hj)⟩
    obtain ⟨row,hrow,br⟩:=hr.get (List.getElem?_eq_getElem (show i < zs.length by omega))
    dsimp only
    rw [List.getD_eq_getElem?_getD,List.getD_eq_getElem?_getD,hrow,List.getElem?_eq_getElem (show i < zs.length by omega)]
    exact br
  have hpm:p.toList.Perm (List.range rows.length):=by rw [← e3]; exact hp.pm
  have pw:(p.toList.map fun i=>rows.getD i []).Pairwise (fun x y=>ltL x y = true):=by
   rw [List.pairwise_map,List.pairwise_iff_getElem]
   intro i j hi hj hij
   have g:∀ {i:Nat} (h:i < p.toList.length),p.getD i 0 = p.toList[i]:=fun {i} h=>by
    have h':i < p.size:=by simpa using h
    simp [Array.getD,h']
   have:=u i j hij (by rw [← hp.sz,← Array.length_toList]; exact hj)
   rw [g hi,g hj] at this
   exact this
  refine ⟨.ref (s.heap.objs.size + 1),_,?_,rfl,q _ (p.toList.map fun i=>zs.getD i .non) _ hn (XW hpm) pw (al _ mem)⟩
  refine I.laid (t':=s.toks) (fun b o q=>sortedAll_old q) (Nat.le_succ _) (show z5 X.prog X.w _ _ _ (.lst (p.toList.map fun i=>zs.getD i .non)) from ⟨by rw [List.length_map,Array.length_toList,hp.sz]; have:=sizeLine_eq; omega,_,e,rl _ mem,he⟩)
end
def xE (cs:List Call72):List (List Int):=(List.range cs.length).map fun k=>[(cg cs k).ended,(k:Int)]
open Classical in
noncomputable def srtR73 (cs:List Call72):List (List Int):=if h:∃ l:List (List Int),l.Perm (xE cs) /\ l.Pairwise (fun x y=>ltL x y = true) then Classical.choose h else []
noncomputable def vA (cs:List Call72):List Nat:=(srtR73 cs).map fun r=>(r.getD 1 0).toNat
def yV (cs:List Call72):Prop:=∃ l:List (List Int),l.Perm (xE cs) /\ l.Pairwise (fun x y=>ltL x y = true)
theorem uy {cs:List Call72} {l:List (List Int)} (hp:l.Perm (xE cs)) (hs:l.Pairwise (fun x y=>ltL x y = true)):srtR73 cs = l:=by
 have h:∃ l:List (List Int),l.Perm (xE cs) /\ l.Pairwise (fun x y=>ltL x y = true):=⟨l,hp,hs⟩
 unfold srtR73
 rw [dif_pos h]
 have c:=Classical.choose_spec h
 exact Zg c.2 hs (c.1.trans hp.symm)
theorem qZ {cs:List Call72}:(xE cs).map (fun r=>(r.getD 1 0).toNat) = List.range cs.length:=by
 unfold xE
 rw [List.map_map]
 exact (List.map_congr_left fun k _=>Int.toNat_natCast k).trans (List.map_id _)
theorem Z7 {cs:List Call72} (h:yV cs):(vA cs).Perm (List.range cs.length):=by
 obtain ⟨l,hp,hs⟩:=h
 unfold vA
 rw [uy hp hs,← qZ]
 exact hp.map _
theorem W6 {cs:List Call72} (h:yV cs):(vA cs).Pairwise (fun a b=>(cg cs a).ended <= (cg cs b).ended):=by
 obtain ⟨l,hp,hs⟩:=h
 unfold vA
 rw [uy hp hs,List.pairwise_map]
 refine List.Pairwise.imp_of_mem (fun {a b} ha hb hlt=>?_) hs
 obtain ⟨i,_,rfl⟩:=List.mem_map.mp (hp.mem_iff.mp ha)
 obtain ⟨j,_,rfl⟩:=List.mem_map.mp (hp.mem_iff.mp hb)
 show (cg cs ((i:Int)).toNat).ended <= (cg cs ((j:Int)).toNat).ended
 rw [Int.toNat_natCast,Int.toNat_natCast]
 have hlt':(if (cg cs i).ended = (cg cs j).ended then ltL [(i:Int)] [(j:Int)] else decide ((cg cs i).ended < (cg cs j).ended)) = true:=hlt
 split at hlt'
 ·omega
 ·have:=of_decide_eq_true hlt'; omega
def yu (cs:List Call72) (b:List Int) (x:Nat):Option (List Nat):=qL cs (wK cs (nb73 cs x)) b
noncomputable def yt (cs:List Call72) (b:List Int):Option (List Nat) :=
 if (List.range b.length).all (fun x=>(yu cs b x).isSome) = true then some (xQ cs (vA cs) ((List.range b.length).map fun x=>(yu cs b x).getD [])) else none
def yv (b:List Int) (cs:List Call72) (ns:List Nat):Prop:=ns.Perm (List.range cs.length) /\ kl72 cs ns = true /\ an72 cs b ns = true
theorem uz {m:Nat} {cs:List Call72} (C:Calls72 m cs) {k:Nat} (h:k < cs.length):CallOk72 m (cg cs k):=C.ok _ (rJ h)
theorem yP {m:Nat} {cs:List Call72} (C:Calls72 m cs):∀ k < cs.length,0 <= (cg cs k).box /\ (cg cs k).box.toNat < m /\ (cg cs k).begun <= (cg cs k).ended:=fun k h=>by
 have o:=uz C h
 have:=o.b0; have:=o.b1
 exact ⟨o.b0,by omega,o.t1⟩
theorem uA {cs:List Call72} {b:List Int} {x:Nat} {o:List Nat} (h:yu cs b x = some o):o.Perm (nb73 cs x) /\ kl72 cs o = true /\ an72 cs b o = true:=by
 obtain ⟨vs,hr,hl⟩:=ZU h
 have hp:=hr.perm hl
 rw [up] at hp
 exact ⟨hp,WM hr,WK hr⟩
theorem q8 {cs:List Call72} {b:List Int} {x:Nat} (C:Calls72 b.length cs) (h:yu cs b x = none) {o:List Nat} (hp:o.Perm (nb73 cs x)) (hk:kl72 cs o = true) (ha:an72 cs b o = true):False:=by
 obtain ⟨ws,hr⟩:=rT (cs:=cs) (ns:=nb73 cs x) (b:=b) (fun k hk=>(yP C k (xo.mp hk).1).2.2) (r:=o) (p:=[]) (vs:=b) (fun y=>by rw [List.nil_append]; exact hp.mem_iff) (by rw [List.nil_append]; exact hp.nodup_iff.mpr tG) .nil hk ha
 exact ZV h hr (by rw [List.nil_append,w6]; exact hp.length_eq)
theorem XX {cs:List Call72} {b:List Int} {ns:List Nat} (C:Calls72 b.length cs) (h:yv b cs ns) {x:Nat} (hx:x < b.length):(ns.filter (xb cs x)).Perm (nb73 cs x) /\ kl72 cs (ns.filter (xb cs x)) = true /\ an72 cs b (ns.filter (xb cs x)) = true:=by
 obtain ⟨hp,hk,ha⟩:=h
 exact ⟨hp.filter _,yO.mpr ((yO.mp hk).sublist List.filter_sublist),wL (fun k hk'=>(yP C k (List.mem_range.mp (hp.mem_iff.mp hk'))).1) hx ha⟩
theorem xG {cs:List Call72} {b:List Int} (C:Calls72 b.length cs) (h:yt cs b = none):¬ ∃ ns,yv b cs ns:=by
 rintro ⟨ns,hf⟩
 unfold yt at h
 split at h
 ·cases h
 rename_i hn
 refine hn (List.all_eq_true.mpr fun x hx=>?_)
 cases e:yu cs b x with
 | some o=>rfl
 | none =>
  obtain ⟨h1,h2,h3⟩:=XX C hf (List.mem_range.mp hx)
  exact (q8 C e h1 h2 h3).elim
theorem yp {cs:List Call72} {b:List Int} {ns:List Nat} (C:Calls72 b.length cs) (S:yV cs) (h:yt cs b = some ns):yv b cs ns:=by
 unfold yt at h
 split at h
 ·rename_i hall
  obtain rfl:=Option.some.inj h
  have all:=List.all_eq_true.mp hall
  have ex:∀ x < b.length,∃ o,yu cs b x = some o:=fun x hx=>Option.isSome_iff_exists.mp (all x (List.mem_range.mpr hx))
  have gx:∀ x < b.length,((List.range b.length).map fun x=>(yu cs b x).getD []).getD x [] = (yu cs b x).getD []:=fun x hx=>by
   rw [List.getD_eq_getElem?_getD,List.getElem?_map,List.getElem?_range hx]; rfl
  have ln:((List.range b.length).map fun x=>(yu cs b x).getD []).length = b.length:=by rw [List.length_map,List.length_range]
  have fx:∀ x < b.length,(((List.range b.length).map fun x=>(yu cs b x).getD []).getD x []).Perm (nb73 cs x) /\ kl72 cs (((List.range b.length).map fun x=>(yu cs b x).getD []).getD x []) = true /\ an72 cs b (((List.range b.length).map fun x=>(yu cs b x).getD []).getD x []) = true:=fun x hx=>by
   obtain ⟨o,ho⟩:=ex x hx
   rw [gx x hx,ho]
   exact uA ho
  obtain ⟨m1,m2,m3⟩:=qN (cs:=cs) (os:=(List.range b.length).map fun x=>(yu cs b x).getD []) (srt:=vA cs) (by rw [ln]; exact yP C) (fun x hx=>(fx x (by rwa [ln] at hx)).1) (fun x hx=>(fx x (by rwa [ln] at hx)).2.1) (Z7 S) (W6 S)
  refine ⟨m2,m3,sD (fun k hk=>?_) fun x hx=>?_⟩
  ·have:=yP C k (List.mem_range.mp (m2.mem_iff.mp hk))
   exact ⟨this.1,this.2.1⟩
  ·rw [m1 x (by rw [ln]; exact hx)]
   exact (fx x hx).2.2
 ·cases h
def XY (K:FG7) (H:Hp) (x:(Int × List Int) × Addr × V) (e:En73):Prop:=x.1 = ((e.1.1:Int),e.1.2) /\ yN K H x.2.2 e.2
abbrev yR (K:FG7) (H:Hp):List ((Int × List Int) × Addr × V) -> List En73 -> Prop:=Paired (XY K H)
theorem yR.grow {K:FG7} {H H':Hp} {m:List Addr} {kvs:List ((Int × List Int) × Addr × V)} {E:List En73} (g:Grow m H H') (h:yR K H kvs E):yR K H' kvs E:=Paired.mapP h fun _ _ z=>⟨z.1,z.2.grow g⟩
theorem sK {K:FG7} {H:Hp} {x:(Int × List Int) × Addr × V} {e:En73} {t:Nat} {vs:List Int} (h:XY K H x e):x.1 = ((t:Int),vs) ↔ e.1 = (t,vs):=by
 rw [h.1]
 constructor
 ·intro z
  have z1:=congrArg Prod.fst z
  have z2:=congrArg Prod.snd z
  exact Prod.ext (Int.ofNat.inj z1) z2
 ·intro z
  rw [z]
theorem Zi {K:FG7} {H:Hp} {t:Nat} {vs:List Int}:∀ {kvs:List ((Int × List Int) × Addr × V)} {E:List En73},yR K H kvs E -> (kvs.any fun x=>decide (x.1 = ((t:Int),vs))) = E.any fun e=>decide (e.1 = (t,vs))
 | _,_,.nil=>rfl
 | _,_,.cons h r=>by
  rw [List.any_cons,List.any_cons,Zi r]
  congr 1
  exact decide_eq_decide.mpr (sK h)
theorem r6 {K:FG7} {H:Hp} {t:Nat} {vs:List Int} {v:V} {o:List Nat} (hv:yN K H v o):∀ {kvs:List ((Int × List Int) × Addr × V)} {E:List En73},yR K H kvs E →
  yR K H (kvs.map fun x=>if x.1 = ((t:Int),vs) then (x.1,x.2.1,v) else x) (E.map fun e=>if e.1 = (t,vs) then (e.1,o) else e)
 | _,_,.nil=>.nil
 | x :: _,e :: _,.cons h r=>by
  refine .cons ?_ (r6 hv r)
  dsimp only
  by_cases c:e.1 = (t,vs)
  ·rw [if_pos c,if_pos ((sK h).mpr c)]
   exact ⟨h.1,hv⟩
  ·rw [if_neg c,if_neg (fun z=>c ((sK h).mp z))]
   exact h
theorem yR.store {K:FG7} {H:Hp} {kvs:List ((Int × List Int) × Addr × V)} {E:List En73} {t:Nat} {vs:List Int} {b:Addr} {v:V} {o:List Nat} (h:yR K H kvs E) (hv:yN K H v o) :
  yR K H (yA kvs ((t:Int),vs) b v) (wf E (t,vs) o):=by
 unfold yA wf
 rw [Zi h]
 split
 ·exact r6 hv h
 ·exact Paired.snoc h ⟨rfl,hv⟩
theorem yR.get {K:FG7} {H:Hp} {kvs:List ((Int × List Int) × Addr × V)} {E:List En73} {i:Nat} {x:(Int × List Int) × Addr × V} (h:yR K H kvs E) (hx:kvs[i]? = some x):∃ e,E[i]? = some e /\ XY K H x e:=by
 induction h generalizing i with
 | nil=>cases hx
 | @cons y e ys es h t ih =>
  cases i with
  | zero=>cases hx; exact ⟨e,rfl,h⟩
  | succ i=>exact ih hx
def yW (ms:List (Nat × Nat)):List (Key × V):=ms.map fun p=>(Sum.inl (p.1:Int),V.int ((p.2:Nat):Int))
def yS (K:FG7) (H:Hp) (v:V) (o:Option (List Nat)):Prop:=match o with
 | none=>v = .non
 | some ns=>yN K H v ns
theorem yS.grow {K:FG7} {H H':Hp} {v:V} {o:Option (List Nat)} {m:List Addr} (h:yS K H v o) (g:Grow m H H'):yS K H' v o:=by
 cases o with
 | none=>exact h
 | some ns=>exact yN.grow h g
structure MsOk73 (m:Nat) (cs:List Call72) (ms:List (Nat × Nat)):Prop where
 lt:∀ p ∈ ms,p.1 < cs.length
 c40:cs.length <= 40
 ok:∀ c ∈ cs,CallOk72 m c
 m16:m <= 16
 few:ms.length <= 8
def sL (K:FG7):Sp:=sp2 fun x y H Q=>∃ b cs,zA K H x b /\ zz K H y cs /\ b.length <= 16 /\ Calls72 b.length cs ∧
 ∀ l zs H',Grow [] H H' -> H l = none -> H' l = some (.lst zs) -> U5 H' zs ((List.range b.length).map (nb73 cs)) -> Q (.ref l) H'
def r9 (K:FG7):Sp:=sp1 fun x H Q=>∃ ns,WB K H x ns /\ ns.Pairwise (· < ·) /\ (∀ k ∈ ns,k < 40) /\ ∀ H',Grow [] H H' -> Q (.int (mk73 ns:Nat)) H'
def tM (K:FG7):Sp:=sp2 fun x y H Q=>∃ cs ns,zz K H x cs /\ WB K H y ns /\ ns.Pairwise (· < ·) /\ (∀ k ∈ ns,k < cs.length) /\ cs.length <= 40 /\ ∀ d H',H d = none -> Grow [] H H' -> H' d = some (.dK (yW (wK cs ns))) -> Q (.ref d) H'
def Zj (P:Program) (w:World) (K:FG7):Sp:=sp3 fun x y z H Q=>∃ (cs:List Call72) (m:Nat) (am:Addr) (ms:List (Nat × Nat)) (ar:Addr) (kvs:List ((Int × List Int) × Addr × V)) (E:List En73),
 zz K H x cs /\ y = .ref am /\ Rd H am (.dK (yW ms)) /\ z = .ref ar /\ H ar = some (ndO ptI ptT P w ar kvs) /\ am ≠ ar /\ NDc ptI ptT K H kvs /\ yR K H kvs E /\ MsOk73 m cs ms /\ (∀ e ∈ E,e.1.2.length = m /\ e.2.length <= 40) /\ E.length * ms.length <= sizeLine ∧
 ∀ r kvs' H',H r = none -> Grow [am,ar] H H' -> Rd H' am (.dK (yW ms)) -> H' r = some (ndO ptI ptT P w r kvs') -> NDc ptI ptT K H' kvs' -> yR K H' kvs' (jX cs ms E) -> Q (.ref r) H'
def XZ (K:FG7):Sp:=sp3 fun x y z H Q=>∃ (b:List Int) (cs:List Call72) (am:Addr) (ms:List (Nat × Nat)),zA K H x b /\ zz K H y cs /\ z = .ref am /\ Rd H am (.dK (yW ms)) /\ MsOk73 b.length cs ms ∧
 ∀ v H',Grow [am] H H' -> yS K H' v (qL cs ms b) -> Q v H'
def uB (K:FG7):Sp:=sp2 fun x y H Q=>∃ (cs:List Call72) (l:Addr) (vs:List V) (os:List (List Nat)),zz K H x cs /\ y = .ref l /\ SqL K H l vs /\ AllR (yN K H) vs os /\ Calls72 os.length cs /\ os.length <= 16 /\ (∀ o ∈ os,o.length <= 40) ∧
 ∀ v H',Grow [] H H' -> yV cs -> yN K H' v (xQ cs (vA cs) os) -> Q v H'
def w9 (K:FG7):Sp:=sp2 fun x y H Q=>∃ b cs,zA K H x b /\ 1 <= b.length /\ b.length <= 16 /\ zz K H y cs /\ Calls72 b.length cs /\ ∀ v H',Grow [] H H' -> ((yt cs b).isSome = true -> yV cs) -> yS K H' v (yt cs b) -> Q v H'
def sM:V -> Bool
 | .non=>true
 | _=>false
def va:Value -> Bool
 | .none=>true
 | _=>false
def W7 (K:FG7):R2:=fun x y H Q=>x = .non /\ ∃ l vs,y = .ref l /\ SqL K H l vs /\ (∀ v ∈ vs,v = .non \/ ∃ r xs,v = .ref r /\ SqT K H r xs) /\ Q (.bl (vs.any sM)) H
theorem Z8 {X:Cx} {K:FG7} {k:Nat} (hK:X.K = K) (hr:Room k X.A):OpR X (compareOp .In) (W7 K):=by
 subst hK
 intro pins s σ H x y v u Q I rx ry h
 obtain ⟨rfl,l,vs,rfl,hl,hv,q⟩:=h
 obtain rfl:v = Value.none:=rx
 obtain rfl:u = Value.ref l:=ry
 obtain ⟨its,r,pl,hz⟩:=I.list hl
 have hu:X.A.in1.units < cLine:=by have:=hr.un; show X.A.units + 1 < cLine; omega
 have key:∀ {vs:List V} {its:List Value},Vals vs its -> (∀ v ∈ vs,v = .non \/ ∃ r xs,v = .ref r /\ SqT X.K H r xs) -> (∀ w ∈ its,SeqAt.EqAt X.A.in1 s w .none (va w)) /\ its.any va = vs.any sM:=by
  intro vs its r
  induction r with
  | nil=>exact fun _=>⟨nofun,rfl⟩
  | @cons v w vs its rv t ih =>
   intro hv
   obtain ⟨h1,h2⟩:=ih fun z hz=>hv z (List.mem_cons_of_mem _ hz)
   rcases hv v (List.mem_cons_self ..) with rfl | ⟨r,xs,rfl,hs⟩
   ·obtain rfl:w = Value.none:=rv
    refine ⟨fun z hz=>?_,by rw [List.any_cons,List.any_cons,h2]; rfl⟩
    rcases List.mem_cons.mp hz with rfl | hz
    ·exact SeqAt.EqAt.same _
    ·exact h1 z hz
   ·obtain rfl:w = Value.ref r:=rv
    obtain ⟨ws,_,t2,_⟩:=I.tuple hs
    refine ⟨fun z hz=>?_,by rw [List.any_cons,List.any_cons,h2]; rfl⟩
    rcases List.mem_cons.mp hz with rfl | hz
    ·exact SeqAt.EqAt.tuple_none (xD t2) hu
    ·exact h1 z hz
 obtain ⟨h1,h2⟩:=key r hv
 refine SeqAt.in_listAt va pl.isList (fun w hw=>h1 w (by simpa using hw)) ⟨.bl _,H,I,rfl,?_⟩
 rw [show its.toArray.any va = its.any va by simp,h2]
 exact q
theorem uC:∀ {l l':List Nat},l.Nodup -> (∀ x ∈ l,x ∈ l') -> l.length <= l'.length
 | [],_,_,_=>Nat.zero_le _
 | a :: l,l',nd,hm=>by
  obtain ⟨na,nd'⟩:=List.nodup_cons.mp nd
  have pe:=List.perm_cons_erase (hm a (List.mem_cons_self ..))
  have:=uC (l':=l'.erase a) nd' fun n hn=>(List.mem_erase_of_ne (fun z=>na (by rw [← z]; exact hn))).mpr (hm n (List.mem_cons_of_mem _ hn))
  have e:=pe.length_eq
  rw [List.length_cons] at e ⊢
  omega
theorem Tz {ns:List Nat} {n:Nat} (pw:ns.Pairwise (· < ·)) (lt:∀ k ∈ ns,k < n):ns.length <= n:=by
 have nd:ns.Nodup:=pw.imp fun h=>Nat.ne_of_lt h
 have:=uC (l:=ns) (l':=List.range n) nd fun x hx=>List.mem_range.mpr (lt x hx)
 rwa [List.length_range] at this
theorem qa:∀ ns:List Nat,((ns.map fun k:Nat=>(k:Int)).map fun i=>1 * (2:Int) ^ i.toNat).sum = ((ns.map fun i=>2 ^ i).sum:Nat)
 | []=>rfl
 | k :: ns=>by
  rw [List.map_cons,List.map_cons,List.sum_cons,qa ns,List.map_cons,List.sum_cons,Int.toNat_natCast,Int.one_mul,Int.natCast_add,Int.natCast_pow]; rfl
theorem W8 {ms:List (Nat × Nat)} {n:Nat} (h:n ∉ ms.map (·.1)):valV (yW ms) (Sum.inl (n:Int)) = none:=by
 have key:∀ ms:List (Nat × Nat),n ∉ ms.map (·.1) -> valV (yW ms) (Sum.inl (n:Int)) = none:=by
  intro ms
  induction ms with
  | nil=>exact fun _=>rfl
  | cons p ms ih =>
   intro h
   rw [List.map_cons,List.mem_cons,not_or] at h
   show valV ((Sum.inl (p.1:Int),V.int ((p.2:Nat):Int)) :: yW ms) _ = none
   rw [yg (fun z=>h.1 (by injection z with z; omega))]
   exact ih h.2
 exact key ms h
theorem W9 {ms:List (Nat × Nat)} {n M:Nat} (h:n ∉ ms.map (·.1)):putK (yW ms) (Sum.inl (n:Int)) (V.int ((M:Nat):Int)) = yW (ms ++ [(n,M)]):=by
 rw [jZ _ (W8 h)]
 unfold yW
 rw [List.map_append]; rfl
theorem Va {ms:List (Nat × Nat)} {i:Nat} {p:V × V} (h:((yW ms).map fun q=>(kV q.1,q.2))[i]? = some p):∃ q,ms[i]? = some q /\ p = (V.int (q.1:Int),V.int ((q.2:Nat):Int)):=by
 unfold yW at h
 rw [List.map_map,List.getElem?_map] at h
 obtain ⟨q,hq,rfl⟩:=Option.map_eq_some_iff.mp h
 exact ⟨q,hq,rfl⟩
theorem yj {α:Type} {l:List α} {i:Nat} {x:α} (h:l[i]? = some x):l.take (i + 1) = l.take i ++ [x]:=by rw [List.take_succ,h]; rfl
theorem Grow.setK73 {m:List Addr} {H:Hp} {d:Addr} {kvs:List (Key × V)} {o:HO} (h:H d = some (.dK kvs)) (hm:d ∈ m):Grow m H (upd H d o) :=
 ⟨fun b v hb q=>by rw [zo (show b ≠ d from fun z=>hb (by rw [z]; exact hm))]; exact q,fun b zs q=>by rw [zo (fun z=>by subst z; rw [h] at q; cases q)]; exact q,fun b u v q=>by rw [zo (fun z=>by subst z; rw [h] at q; cases q)]; exact q⟩
theorem Grow.setE73 {m:List Addr} {H:Hp} {d:Addr} {φ:Heap -> Prop} {o:HO} (h:H d = some (.ext φ)) (hm:d ∈ m):Grow m H (upd H d o) :=
 ⟨fun b v hb q=>by rw [zo (show b ≠ d from fun z=>hb (by rw [z]; exact hm))]; exact q,fun b zs q=>by rw [zo (fun z=>by subst z; rw [h] at q; cases q)]; exact q,fun b u v q=>by rw [zo (fun z=>by subst z; rw [h] at q; cases q)]; exact q⟩
theorem X1 {cs:List Call72} {i x:Nat}:(List.range (i + 1)).filter (xb cs x) = (List.range i).filter (xb cs x) ++ if (cg cs i).box = (x:Int) then [i] else []:=by
 rw [List.range_succ,List.filter_append]
 congr 1
 by_cases c:(cg cs i).box = (x:Int)
 ·rw [if_pos c,List.filter_cons,if_pos (decide_eq_true c)]; rfl
 ·rw [if_neg c,List.filter_cons,if_neg (by rw [decide_eq_true_eq]; exact c)]; rfl
theorem X2 {t n:Nat}:decide (V.int (Builtin.bitAnd ((t:Int) / 2 ^ ((n:Int)).toNat) 1) = V.int 0) = decide (t.testBit n = false):=by
 rw [Ww,show (1:Int) = ((1:Nat):Int) from rfl,Y5,Nat.and_one_is_mod,Nat.testBit_eq_decide_div_mod_eq]
 refine decide_eq_decide.mpr ⟨fun h=>?_,fun h=>?_⟩
 ·injection h with h
  rw [decide_eq_false_iff_not]; omega
 ·rw [decide_eq_false_iff_not] at h
  have:t / 2 ^ n % 2 = 0:=by omega
  rw [this]; rfl
theorem X3 {t M:Nat}:decide (V.int (Builtin.bitAnd (M:Int) (t:Int)) = V.int (M:Int)) = decide (M &&& t = M):=by
 rw [Y5]
 exact decide_eq_decide.mpr ⟨fun h=>by injection h with h; omega,fun h=>by rw [h]⟩
theorem Vb {t n:Nat}:Builtin.bitOr (t:Int) (1 * 2 ^ ((n:Int)).toNat) = ((t ||| 2 ^ n:Nat):Int):=by rw [VW,U3]
theorem X4 {vs:List Int} {i:Nat} {v:Int} (h:i < vs.length):(vs.map V.int).take i ++ [V.int v] ++ (vs.map V.int).drop (i + 1) = (vs.set i v).map V.int:=by
 rw [← List.map_take,← List.map_drop,show [V.int v] = [v].map V.int from rfl,← List.map_append,← List.map_append,List.set_eq_take_append_cons_drop,if_pos h,List.append_assoc]; rfl
theorem Z9 {cs:List Call72} {ms:List (Nat × Nat)} {E:List En73} {e:En73} {i j:Nat} (hi:i < E.length) (hj:j < ms.length):((ms.take j).foldl (yi cs e) ((E.take i).foldl (zX cs ms) [])).length < E.length * ms.length:=by
 have h1:=vx (cs:=cs) (ms:=ms) (E:=E.take i) (F:=[])
 have h2:=vq (cs:=cs) (e:=e) (ms:=ms.take j) (F:=(E.take i).foldl (zX cs ms) [])
 have h3:((ms.take j).foldl (yi cs e) ((E.take i).foldl (zX cs ms) [])).length <= ((E.take i).foldl (zX cs ms) []).length + (ms.take j).length:=h2
 rw [List.length_take] at h1 h3
 have h4:(i + 1) * ms.length <= E.length * ms.length:=Nat.mul_le_mul_right _ hi
 rw [Nat.min_eq_left (by omega)] at h1 h3
 rw [Nat.add_mul] at h4
 simp only [List.length_nil,Nat.zero_add] at h1
 omega
def Sa73 (σ:L2.St) (x y z u a b c:Option V):Prop:=∃ e7 e8 e9 e10 e11 e12 e13 e14 e15 e16:Option V,σ = [x,y,z,u,a,b,c,e7,e8,e9,e10,e11,e12,e13,e14,e15,e16]
structure Om73 (P:Program) (w:World) (K:FG7) (H:Hp) (am ar d:Addr) (o:Obj) (ms:List (Nat × Nat)) (kvs:List ((Int × List Int) × Addr × V)) (F:List En73) (H':Hp):Prop where
 g:Grow [am,ar,d] H H'
 r:H' ar = some (.frz o (ndO ptI ptT P w ar kvs))
 m:Rd H' am (.dK (yW ms))
 d:∃ kvs',H' d = some (ndO ptI ptT P w d kvs') /\ NDc ptI ptT K H' kvs' /\ yR K H' kvs' F
theorem Om73.grow {P:Program} {w:World} {K:FG7} {H H1 H2:Hp} {am ar d:Addr} {o:Obj} {ms:List (Nat × Nat)} {kvs:List ((Int × List Int) × Addr × V)} {F:List En73} (h:Om73 P w K H am ar d o ms kvs F H1) (g:Grow [] H1 H2):Om73 P w K H am ar d o ms kvs F H2:=by
 obtain ⟨kvs',h1,h2,h3⟩:=h.d
 exact ⟨h.g.trans g.wk,g.keep _ _ (by simp) h.r,h.m.imp (fun z=>g.keep _ _ (by simp) z) fun ⟨o,z⟩=>⟨o,g.keep _ _ (by simp) z⟩,kvs',g.keep _ _ (by simp) h1,h2.grow g,h3.grow g⟩
theorem X5 {cs:List Call72} {ms:List (Nat × Nat)} {b:List Int} {o:List Nat} {vs:List Int} (h:Run73 cs ms b o vs):vs.length = b.length:=by
 induction h with
 | nil=>rfl
 | snoc h hm hn hj ha ih=>unfold wg; rw [List.length_set,ih]
theorem Vc {cs:List Call72} {ms:List (Nat × Nat)} {b:List Int} {r:Nat} (hr:r <= 40):∀ e ∈ wy cs ms b r,e.1.2.length = b.length /\ e.2.length <= 40:=fun e he=>by
 obtain ⟨h1,_,h3⟩:=xP r e he
 exact ⟨X5 h3,by omega⟩
theorem X6 {n r:Nat} (h:n <= 8) (hr:r <= 8):n ^ r <= sizeLine:=by
 have h1:n ^ r <= 8 ^ r:=Nat.pow_le_pow_left h r
 have h2:8 ^ r <= 8 ^ 8:=Nat.pow_le_pow_right (by decide) hr
 rw [sizeLine_eq]
 exact Nat.le_trans (Nat.le_trans h1 h2) (by decide)
theorem X7 {cs:List Call72} {ms:List (Nat × Nat)} {b:List Int} {r:Nat} (h:ms.length <= 8) (hr:r < ms.length):(wy cs ms b r).length * ms.length <= sizeLine:=by
 have h1:=Nat.mul_le_mul_right ms.length (um (cs:=cs) (ms:=ms) (b:=b) r)
 have h2:=X6 h (show r + 1 <= 8 by omega)
 exact Nat.le_trans h1 h2
theorem Ya {cs:List Call72} {ms:List (Nat × Nat)} {b:List Int} (h:ms.length <= 8):(wy cs ms b ms.length).length <= sizeLine:=Nat.le_trans (um _) (X6 h h)
theorem Vd {c x:Nat} {own tog:List Nat} (h:c ∈ x :: own):yI c (x :: own) tog = yI c own (tog ++ [x]):=by
 show (if c ∈ x :: own then yI c own (tog ++ [x]) else (x :: own,tog)) = _
 rw [if_pos h]
theorem X8 {c:Nat} {own tog:List Nat} (h:c ∉ own):yI c own tog = (own,tog):=by
 cases own with
 | nil=>rfl
 | cons x own =>
  show (if c ∈ x :: own then yI c own (tog ++ [x]) else (x :: own,tog)) = _
  rw [if_neg h]
theorem qb {cs:List Call72}:(xE cs).Nodup:=by
 unfold xE
 exact List.pairwise_map.mpr (List.nodup_range.imp fun {a b} h z=>h (by injection z with _ z; injection z with z _; omega))
theorem tN {k:Nat} {ns:List Nat}:inV (V.int (k:Int)) (zp ns) = decide (k ∈ ns):=by
 rw [yh,Wx]
 refine decide_eq_decide.mpr ⟨fun h=>?_,fun h=>List.mem_map.mpr ⟨k,h,rfl⟩⟩
 obtain ⟨j,hj,e⟩:=List.mem_map.mp h
 have:j = k:=Int.ofNat.inj e
 rw [← this]; exact hj
theorem TB {b:List Int} {cs:List Call72} {x:Nat} (b16:b.length <= 16) (C:Calls72 b.length cs):MsOk73 b.length cs (wK cs (nb73 cs x)) where
 lt:=fun p hp=>by
  obtain ⟨n,hn,rfl⟩:=List.mem_map.mp hp
  exact (xo.mp hn).1
 c40:=C.len
 ok:=C.ok
 m16:=b16
 few:=by rw [w6,sC]; exact C.few x
theorem tO {K:FG7} {H:Hp}:∀ {vs:List V} {os:List (Option (List Nat))},AllR (yS K H) vs os -> (vs.any sM) = !(os.all Option.isSome) /\ ∀ v ∈ vs,v = .non \/ ∃ r xs,v = .ref r /\ SqT K H r xs
 | [],[],_=>⟨rfl,nofun⟩
 | v :: vs,o :: os,⟨h,t⟩=>by
  obtain ⟨h1,h2⟩:=tO t
  rw [List.any_cons,List.all_cons,h1]
  cases o with
  | none =>
   obtain rfl:v = .non:=h
   exact ⟨rfl,fun w hw=>(List.mem_cons.mp hw).elim (fun z=>.inl z) (h2 w)⟩
  | some ns =>
   obtain ⟨r,rfl,hr⟩:=(show yN K H v ns from h)
   exact ⟨rfl,fun w hw=>(List.mem_cons.mp hw).elim (fun z=>.inr ⟨r,_,z,hr⟩) (h2 w)⟩
theorem qc {K:FG7} {H:Hp}:∀ {vs:List V} {os:List (Option (List Nat))},AllR (yS K H) vs os -> os.all Option.isSome = true -> AllR (yN K H) vs (os.map (·.getD []))
 | [],[],_,_=>trivial
 | v :: vs,o :: os,⟨h,t⟩,a=>by
  rw [List.all_cons,Bool.and_eq_true] at a
  refine ⟨?_,qc t a.2⟩
  cases o with
  | none=>cases a.1
  | some ns=>exact h
theorem AllR.at73 {K:FG7} {H H':Hp} {m:List Addr} (g:Grow m H H') {vs:List V} {os:List (Option (List Nat))} (h:AllR (yS K H) vs os):AllR (yS K H') vs os:=h.imp fun _ _ z=>z.grow g
theorem xg {b:List Int} {cs:List Call72} {ns:List Nat}:WA b cs (.tuple (ns.map fun k:Nat=>PyData.int (k:Int))) ↔ yv b cs ns:=by
 constructor
 ·rintro ⟨ms,⟨e,hp⟩,h1,h2⟩
  injection e with e
  rw [wI e]
  exact ⟨hp,h1,h2⟩
 ·rintro ⟨hp,h1,h2⟩
  exact ⟨ns,⟨rfl,hp⟩,h1,h2⟩
def Uj (cs:List Call72) (left:List Nat) (v:Int) (k:Nat):Bool:=decide ((cg cs k).answer = v) && !(left.any fun j=>decide ((cg cs j).ended < (cg cs k).begun))
def wo73 (left:List Nat) (k:Nat):List Nat:=left.filter fun j=>!decide (j = k)
def VE (cs:List Call72):Nat -> List Nat -> Int -> Bool
 | _,[],_=>true
 | 0,_ :: _,_=>false
 | n + 1,x :: r,v=>(x :: r).any fun k=>Uj cs (x :: r) v k && VE cs n (wo73 (x :: r) k) ((cg cs k).deed.mk' v)
def wj (cs:List Call72) (left:List Nat) (v:Int):Bool:=VE cs left.length left v
def Kn73 (P:Program) (w:World) (K:FG7) (cs:List Call72) (dk m:Nat) (H:Hp):Prop :=
 ∃ kvs:List ((List Int × Int) × Addr × V),H dk = some (ndO ptT ptI P w dk kvs) /\ NDc ptT ptI K H kvs /\ (∀ x ∈ kvs,∃ (left:List Nat) (v:Int),x.1 = (left.map (fun k:Nat=>(k:Int)),v) /\ x.2.2 = .bl (wj cs left v)) /\ kvs.length <= m
theorem Kn73.grow {P:Program} {w:World} {K:FG7} {cs:List Call72} {dk m:Nat} {H H':Hp} (h:Kn73 P w K cs dk m H) (g:Grow [] H H'):Kn73 P w K cs dk m H':=by
 obtain ⟨kvs,h1,h2,h3,h4⟩:=h
 exact ⟨kvs,g.keep _ _ (by simp) h1,h2.grow g,h3,h4⟩
theorem Kn73.mono {P:Program} {w:World} {K:FG7} {cs:List Call72} {dk m m':Nat} {H:Hp} (h:Kn73 P w K cs dk m H) (hm:m <= m'):Kn73 P w K cs dk m' H:=by
 obtain ⟨kvs,h1,h2,h3,h4⟩:=h
 exact ⟨kvs,h1,h2,h3,Nat.le_trans h4 hm⟩
theorem Kn73.put {P:Program} {w:World} {K:FG7} {cs:List Call72} {dk m:Nat} {H:Hp} {kvs:List ((List Int × Int) × Addr × V)} {left:List Nat} {v:Int} {b:Addr} (h1:H dk = some (ndO ptT ptI P w dk kvs)) (h2:NDc ptT ptI K H kvs)
  (h3:∀ x ∈ kvs,∃ (left:List Nat) (v:Int),x.1 = (left.map (fun k:Nat=>(k:Int)),v) /\ x.2.2 = .bl (wj cs left v)) (h4:kvs.length <= m) (hk:KAt ptT ptI K H (left.map (fun k:Nat=>(k:Int)),v) b) :
  Grow [dk] H (upd H dk (ndO ptT ptI P w dk (yA kvs (left.map (fun k:Nat=>(k:Int)),v) b (.bl (wj cs left v))))) ∧
  NDc ptT ptI K (upd H dk (ndO ptT ptI P w dk (yA kvs (left.map (fun k:Nat=>(k:Int)),v) b (.bl (wj cs left v))))) (yA kvs (left.map (fun k:Nat=>(k:Int)),v) b (.bl (wj cs left v))) ∧
  (∀ x ∈ yA kvs (left.map (fun k:Nat=>(k:Int)),v) b (.bl (wj cs left v)),∃ (left:List Nat) (v:Int),x.1 = (left.map (fun k:Nat=>(k:Int)),v) /\ x.2.2 = .bl (wj cs left v)) ∧
  (yA kvs (left.map (fun k:Nat=>(k:Int)),v) b (.bl (wj cs left v))).length <= m + 1 /\ valV ((yA kvs (left.map (fun k:Nat=>(k:Int)),v) b (.bl (wj cs left v))).map prV) (left.map (fun k:Nat=>(k:Int)),v) = some (.bl (wj cs left v)):=by
 have g:Grow [dk] H (upd H dk (ndO ptT ptI P w dk (yA kvs (left.map (fun k:Nat=>(k:Int)),v) b (.bl (wj cs left v))))):=Grow.setE73 h1 (by simp)
 refine ⟨g,(h2.store hk).grow g,fun x hx=>?_,?_,by rw [Z2,xq,if_pos rfl]⟩
 ·unfold yA at hx
  split at hx
  ·obtain ⟨z,hz,rfl⟩:=List.mem_map.mp hx
   by_cases c:z.1 = (left.map (fun k:Nat=>(k:Int)),v)
   ·rw [if_pos c]; exact ⟨left,v,c,rfl⟩
   ·rw [if_neg c]; exact h3 z hz
  ·rcases List.mem_append.mp hx with z | z
   ·exact h3 x z
   ·rw [List.mem_singleton.mp z]; exact ⟨left,v,rfl,rfl⟩
 ·unfold yA
  split
  ·rw [List.length_map]; omega
  ·rw [List.length_append]; show _ + 1 <= _; omega
def uD (K:FG7):Sp:=sp2 fun x y H Q=>∃ (p:Addr) (cs:List Call72) (n:Nat) (B:Int),x = .ref p /\ Pot H p /\ zz K H y cs /\ Calls72 n cs /\ 0 < cs.length /\ (∀ c ∈ cs,Cb72 B c) ∧
 ∀ (cs':List Call72) (v:V) H',Calls72 n cs' -> cs'.length = cs.length -> (∀ c ∈ cs',Cb72 (B + 1) c) -> Grow [p] H H' -> Pot H' p -> zz K H' v cs' -> Q v H'
theorem q9 {cs:List Call72} {i:Nat} {c:Call72} (h:i < cs.length):(cs.take i ++ [c] ++ cs.drop (i + 1)).length = cs.length:=by
 rw [List.length_append,List.length_append,List.length_singleton,List.length_take,List.length_drop]; omega
def Uk (K:FG7) (H:Hp) (v:V):Prop:=∃ t vb vc vo b cs,v = .ref t /\ SqT K H t [vb,vc,vo] /\ zA K H vb b /\ 1 <= b.length /\ b.length <= 16 /\ zz K H vc cs /\ Calls72 b.length cs /\ yS K H vo (yt cs b) /\ ((yt cs b).isSome = true -> yV cs)
theorem Uk.grow {K:FG7} {H H':Hp} {v:V} {m:List Addr} (h:Uk K H v) (g:Grow m H H'):Uk K H' v:=by
 obtain ⟨t,vb,vc,vo,b,cs,rfl,h1,h2,h3,h4,h5,h6,h7,h8⟩:=h
 exact ⟨t,vb,vc,vo,b,cs,rfl,g.sqT h1,g.board h2,h3,h4,g.calls72 h5,h6,h7.grow g,h8⟩
def qd (K:FG7):Sp:=sp4 fun x y z u H Q=>∃ (p:Addr) (n m:Nat) (w:Bool),x = .ref p /\ y = .int n /\ z = .int m /\ u = .bl w /\ Pot H p /\ 1 <= n /\ n <= 6 /\ m <= 8 * n /\ m <= 40 ∧
 ∀ (b:List Int) (cs:List Call72) (xs:List V) (r rb l:Addr) H',Hist72 n b cs -> cs.length = m -> Grow [p] H H' -> Pot H' p -> SqT K H' r [.ref rb,.ref l] -> SqT K H' rb (b.map V.int) -> H' l = some (.lst xs) -> l ≠ p -> AllR (yf K H') xs cs -> Q (.ref r) H'
theorem sN {α:Type} {c c':α -> Call72}:∀ {o:List α},(∀ j ∈ o,∀ k ∈ o,(c' j).ended < (c' k).begun -> (c j).ended < (c k).begun) -> kc72 (o.map c) = true -> kc72 (o.map c') = true
 | [],_,_=>rfl
 | k :: r,h,hk=>by
  have h1:(!((r.map c).any fun e=>decide (e.ended < (c k).begun)) && kc72 (r.map c)) = true:=hk
  rw [Bool.and_eq_true,Bool.not_eq_true',List.any_eq_false] at h1
  show (!((r.map c').any fun e=>decide (e.ended < (c' k).begun)) && kc72 (r.map c')) = true
  rw [Bool.and_eq_true,Bool.not_eq_true',List.any_eq_false]
  refine ⟨fun e he=>?_,sN (fun j hj k hk=>h j (List.mem_cons_of_mem _ hj) k (List.mem_cons_of_mem _ hk)) h1.2⟩
  obtain ⟨j,hj,rfl⟩:=List.mem_map.mp he
  have:=h1.1 (c j) (List.mem_map_of_mem hj)
  rw [decide_eq_true_eq] at this ⊢
  exact fun z=>this (h j (List.mem_cons_of_mem _ hj) k (List.mem_cons_self ..) z)
theorem Zk {α:Type} {c c':α -> Call72} {bx:Nat -> Nat} {m:Nat} (inj:∀ x y,x < m -> y < m -> bx x = bx y -> x = y):∀ {o:List α} {vs vs':List Int},vs.length = m -> (∀ k ∈ o,(c k).box.toNat < m /\ (c' k).box.toNat = bx (c k).box.toNat /\ (c' k).deed = (c k).deed /\ (c' k).answer = (c k).answer) →
  (∀ x,x < m -> bx x < vs'.length /\ vs'.getD (bx x) 0 = vs.getD x 0) -> (pl72 vs' (o.map c')).isSome = (pl72 vs (o.map c)).isSome
 | [],_,_,_,_,_=>rfl
 | k :: r,vs,vs',hl,hc,hv=>by
  obtain ⟨h1,h2,h3,h4⟩:=hc k (List.mem_cons_self ..)
  show (if vs'.getD (c' k).box.toNat 0 = (c' k).answer then pl72 (vs'.set (c' k).box.toNat ((c' k).deed.mk' (c' k).answer)) (r.map c') else none).isSome = (if vs.getD (c k).box.toNat 0 = (c k).answer then pl72 (vs.set (c k).box.toNat ((c k).deed.mk' (c k).answer)) (r.map c) else none).isSome
  rw [h2,h3,h4,(hv _ h1).2]
  split
  ·refine Zk inj (by rw [List.length_set]; exact hl) (fun k hk=>hc k (List.mem_cons_of_mem _ hk)) fun x hx=>⟨by rw [List.length_set]; exact (hv x hx).1,?_⟩
   by_cases e:(c k).box.toNat = x
   ·subst e
    rw [zW (hv _ hx).1,zW (by rw [hl]; exact hx)]
   ·rw [zL fun z=>e (inj _ _ h1 hx z),zL e]
    exact (hv x hx).2
  ·rfl
def Ve (bx:Nat -> Nat) (s t:Int) (c c':Call72):Prop:=c'.box.toNat = bx c.box.toNat /\ c'.deed = c.deed /\ c'.answer = c.answer /\ c'.begun = c.begun * s + t /\ c'.ended = c.ended * s + t
theorem Zl {s t a b:Int} (hs:1 <= s):a * s + t < b * s + t ↔ a < b:=by
 rw [Int.add_lt_add_iff_right]
 exact Int.mul_lt_mul_right (by omega)
section
variable {b b':List Int} {cs cs':List Call72} {pl:List Nat} {bx:Nat -> Nat} {s t:Int}
theorem tP (C:Calls72 b.length cs) (hs:1 <= s) (inj:∀ x y,x < b.length -> y < b.length -> bx x = bx y -> x = y) (hv:∀ x,x < b.length -> bx x < b'.length /\ b'.getD (bx x) 0 = b.getD x 0)
  (hp:pl.Perm (List.range cs.length)) (hr:∀ i,i < cs.length -> Ve bx s t (cg cs (pl.getD i 0)) (cg cs' i)) {o:List Nat} (ho:∀ k ∈ o,k < cs.length) :
  kl72 cs' o = kl72 cs (o.map fun i=>pl.getD i 0) /\ an72 cs' b' o = an72 cs b (o.map fun i=>pl.getD i 0):=by
 have plt:∀ i,i < cs.length -> pl.getD i 0 < cs.length:=fun i hi=>by
  have hi':i < pl.length:=by rw [hp.length_eq,List.length_range]; exact hi
  rw [List.getD_eq_getElem?_getD,List.getElem?_eq_getElem hi']
  exact List.mem_range.mp (hp.mem_iff.mp (List.getElem_mem hi'))
 rw [uL,uL,sy,sy,List.map_map]
 constructor
 ·rw [Bool.eq_iff_iff]
  constructor
  ·refine sN fun j hj k hk=>?_
   obtain ⟨_,_,_,_,e1⟩:=hr j (ho j hj)
   obtain ⟨_,_,_,e2,_⟩:=hr k (ho k hk)
   rw [e1,e2,Zl hs]
   exact id
  ·refine sN fun j hj k hk=>?_
   obtain ⟨_,_,_,_,e1⟩:=hr j (ho j hj)
   obtain ⟨_,_,_,e2,_⟩:=hr k (ho k hk)
   rw [e1,e2,Zl hs]
   exact id
 ·refine Zk inj rfl (fun k hk=>?_) hv
  obtain ⟨e1,e2,e3,_,_⟩:=hr k (ho k hk)
  exact ⟨(yP C _ (plt k (ho k hk))).2.1,e1,e2,e3⟩
theorem Zm (C:Calls72 b.length cs) (hl:cs'.length = cs.length) (hs:1 <= s) (inj:∀ x y,x < b.length -> y < b.length -> bx x = bx y -> x = y) (hv:∀ x,x < b.length -> bx x < b'.length /\ b'.getD (bx x) 0 = b.getD x 0)
  (hp:pl.Perm (List.range cs.length)) (hr:∀ i,i < cs.length -> Ve bx s t (cg cs (pl.getD i 0)) (cg cs' i)) {o:List Nat} (h:yv b' cs' o):yv b cs (o.map fun i=>pl.getD i 0):=by
 obtain ⟨h1,h2,h3⟩:=h
 rw [hl] at h1
 obtain ⟨e1,e2⟩:=tP C hs inj hv hp hr (o:=o) fun k hk=>List.mem_range.mp (h1.mem_iff.mp hk)
 refine ⟨?_,by rw [← e1]; exact h2,by rw [← e2]; exact h3⟩
 refine (h1.map _).trans ?_
 have:(List.range cs.length).map (fun i=>pl.getD i 0) = pl:=by
  refine List.ext_getElem (by rw [List.length_map,hp.length_eq]) fun i g1 g2=>?_
  rw [List.getElem_map,List.getElem_range,List.getD_eq_getElem?_getD,List.getElem?_eq_getElem g2]; rfl
 rw [this]
 exact hp
theorem Yb (C:Calls72 b.length cs) (hl:cs'.length = cs.length) (hs:1 <= s) (inj:∀ x y,x < b.length -> y < b.length -> bx x = bx y -> x = y) (hv:∀ x,x < b.length -> bx x < b'.length /\ b'.getD (bx x) 0 = b.getD x 0)
  (hp:pl.Perm (List.range cs.length)) (hr:∀ i,i < cs.length -> Ve bx s t (cg cs (pl.getD i 0)) (cg cs' i)) {o:List Nat} (h:yv b cs o):yv b' cs' (o.map fun k=>pl.idxOf k):=by
 obtain ⟨h1,h2,h3⟩:=h
 have hi:∀ k ∈ o,pl.idxOf k < pl.length:=fun k hk=>List.idxOf_lt_length_of_mem (hp.mem_iff.mpr (h1.mem_iff.mp hk))
 have pln:pl.length = cs.length:=by rw [hp.length_eq,List.length_range]
 obtain ⟨e1,e2⟩:=tP C hs inj hv hp hr (o:=o.map fun k=>pl.idxOf k) fun k hk=>by
  obtain ⟨j,hj,rfl⟩:=List.mem_map.mp hk
  rw [← pln]; exact hi j hj
 have e:(o.map fun k=>pl.idxOf k).map (fun i=>pl.getD i 0) = o:=by
  rw [List.map_map]
  conv=>rhs; rw [← List.map_id o]
  refine List.map_congr_left fun k hk=>?_
  show pl.getD (pl.idxOf k) 0 = k
  rw [List.getD_eq_getElem?_getD,List.getElem?_eq_getElem (hi k hk),List.getElem_idxOf (hi k hk)]; rfl
 rw [e] at e1 e2
 refine ⟨?_,by rw [e1]; exact h2,by rw [e2]; exact h3⟩
 rw [hl]
 exact (h1.map _).trans (ZP hp)
end
theorem Yc {b:List Int} {cs cs':List Call72} (hl:cs'.length = cs.length) (hr:∀ i,i < cs.length -> (cg cs' i).box = (cg cs i).box /\ (cg cs' i).deed = (cg cs i).deed /\ (cg cs' i).answer = (cg cs i).answer /\ (cg cs' i).begun <= (cg cs i).begun /\ (cg cs i).ended <= (cg cs' i).ended) {o:List Nat} (h:yv b cs o):yv b cs' o:=by
 obtain ⟨h1,h2,h3⟩:=h
 have lt:∀ k ∈ o,k < cs.length:=fun k hk=>List.mem_range.mp (h1.mem_iff.mp hk)
 refine ⟨by rw [hl]; exact h1,?_,?_⟩
 ·rw [uL] at h2 ⊢
  refine sN (fun j hj k hk z=>?_) h2
  have:=hr j (lt j hj); have:=hr k (lt k hk)
  omega
 ·have go:∀ {o:List Nat} {vs:List Int},(∀ k ∈ o,k < cs.length) -> an72 cs' vs o = an72 cs vs o:=by
   intro o
   induction o with
   | nil=>intros; rfl
   | cons k r ih =>
    intro vs hk
    obtain ⟨e1,e2,e3,_,_⟩:=hr k (hk k (List.mem_cons_self ..))
    rw [y8,y8,e1,e2,e3,ih fun j hj=>hk j (List.mem_cons_of_mem _ hj)]
  rw [go lt]; exact h3
def zG (cs:List Call72) (x:Nat):List Nat:=(List.range cs.length).filter fun k=>!decide ((cg cs k).box = (x:Int))
theorem wr {cs:List Call72} {x k:Nat}:k ∈ zG cs x ↔ k < cs.length /\ (cg cs k).box ≠ (x:Int):=by
 unfold zG
 rw [List.mem_filter,List.mem_range]
 simp
theorem qe {cs:List Call72} {x:Nat}:(zG cs x).Nodup:=List.nodup_range.sublist List.filter_sublist
theorem Yd {b:List Int} {cs:List Call72} {x:Nat} (C:Calls72 b.length cs) {o:List Nat} (h:yv b cs o) :
  yv b ((zG cs x).map (cg cs)) ((o.filter fun k=>decide (k ∈ zG cs x)).map fun k=>(zG cs x).idxOf k):=by
 obtain ⟨h1,h2,h3⟩:=h
 have lt:∀ k ∈ o,k < cs.length:=fun k hk=>List.mem_range.mp (h1.mem_iff.mp hk)
 have m1:∀ k ∈ o.filter (fun k=>decide (k ∈ zG cs x)),k ∈ zG cs x:=fun k hk=>of_decide_eq_true (List.mem_filter.mp hk).2
 have em:((o.filter fun k=>decide (k ∈ zG cs x)).map fun k=>(zG cs x).idxOf k).map (cg ((zG cs x).map (cg cs))) = (o.filter fun k=>decide (k ∈ zG cs x)).map (cg cs):=by
  rw [List.map_map]
  refine List.map_congr_left fun k hk=>?_
  have hi:=List.idxOf_lt_length_of_mem (m1 k hk)
  show cg ((zG cs x).map (cg cs)) ((zG cs x).idxOf k) = cg cs k
  refine yG ?_
  rw [List.getElem?_map,List.getElem?_eq_getElem hi,List.getElem_idxOf hi]; rfl
 refine ⟨?_,?_,?_⟩
 ·rw [List.length_map]
  have p1:(o.filter fun k=>decide (k ∈ zG cs x)).Perm (zG cs x):=by
   have:=h1.filter fun k=>decide (k ∈ zG cs x)
   have e:(List.range cs.length).filter (fun k=>decide (k ∈ zG cs x)) = zG cs x:=by
    conv=>rhs; unfold zG
    refine List.filter_congr fun k hk=>?_
    rw [Bool.eq_iff_iff,decide_eq_true_eq,wr]
    have:=List.mem_range.mp hk
    simp [this]
   rw [e] at this
   exact this
  have:=p1.map fun k=>(zG cs x).idxOf k
  rw [rO qe] at this
  exact this
 ·rw [uL,em,← uL]
  exact yO.mpr ((yO.mp h2).sublist List.filter_sublist)
 ·rw [sy,em,← sy]
  refine sD (fun k hk=>⟨(yP C k (lt k (List.mem_filter.mp hk).1)).1,(yP C k (lt k (List.mem_filter.mp hk).1)).2.1⟩) fun y hy=>?_
  by_cases e:y = x
  ·have:(o.filter fun k=>decide (k ∈ zG cs x)).filter (xb cs y) = []:=by
    rw [List.filter_eq_nil_iff]
    intro k hk
    have:=(wr.mp (m1 k hk)).2
    unfold xb
    rw [decide_eq_true_eq,e]
    exact this
   rw [this]; rfl
  ·have:(o.filter fun k=>decide (k ∈ zG cs x)).filter (xb cs y) = o.filter (xb cs y):=by
    rw [List.filter_filter]
    refine List.filter_congr fun k hk=>?_
    unfold xb
    by_cases c:(cg cs k).box = (y:Int)
    ·have:k ∈ zG cs x:=wr.mpr ⟨lt k hk,by rw [c]; omega⟩
     simp [c,this]
    ·simp [c]
   rw [this]
   exact wL (fun k hk=>(yP C k (lt k hk)).1) hy h3
def vB (cs:List Call72) (x:Int):Int -> List Nat -> Int
 | v,[]=>v
 | v,k :: r=>vB cs x (if (cg cs k).box = x then (cg cs k).deed.mk' v else v) r
theorem Zn {cs:List Call72} {x:Nat}:∀ {o:List Nat} {vs ws:List Int},(∀ k ∈ o,0 <= (cg cs k).box) -> x < vs.length -> pl72 vs (o.map (cg cs)) = some ws -> ws.getD x 0 = vB cs x (vs.getD x 0) o
 | [],vs,ws,_,_,h=>by cases h; rfl
 | k :: r,vs,ws,hb,hx,h=>by
  have h':(if vs.getD (cg cs k).box.toNat 0 = (cg cs k).answer then pl72 (vs.set (cg cs k).box.toNat ((cg cs k).deed.mk' (cg cs k).answer)) (r.map (cg cs)) else none) = some ws:=h
  by_cases ha:vs.getD (cg cs k).box.toNat 0 = (cg cs k).answer
  ·rw [if_pos ha] at h'
   rw [Zn (fun j hj=>hb j (List.mem_cons_of_mem _ hj)) (by rw [List.length_set]; exact hx) h']
   have k0:=hb k (List.mem_cons_self ..)
   show _ = vB cs x (if (cg cs k).box = x then (cg cs k).deed.mk' (vs.getD x 0) else vs.getD x 0) r
   by_cases e:(cg cs k).box = (x:Int)
   ·have en:(cg cs k).box.toNat = x:=by omega
    rw [if_pos e,en,zW hx,← ha,en]
   ·have en:(cg cs k).box.toNat ≠ x:=by omega
    rw [if_neg e,zL en]
  ·rw [if_neg ha] at h'; cases h'
theorem sO {cs:List Call72} {c:Call72} {k:Nat} (h:k < cs.length):cg (cs ++ [c]) k = cg cs k:=by
 unfold cg
 rw [List.getD_eq_getElem?_getD,List.getD_eq_getElem?_getD,List.getElem?_append_left h]
theorem uE {cs:List Call72} {c:Call72}:cg (cs ++ [c]) cs.length = c:=by
 unfold cg
 rw [List.getD_eq_getElem?_getD,List.getElem?_append_right (Nat.le_refl _),Nat.sub_self]; rfl
theorem uF {cs:List Call72} {c:Call72} {o:List Nat} (h:∀ k ∈ o,k < cs.length):o.map (cg (cs ++ [c])) = o.map (cg cs):=List.map_congr_left fun k hk=>sO (h k hk)
theorem Ye {b:List Int} {cs:List Call72} {c:Call72} {x:Nat} (C:Calls72 b.length cs) (hx:x < b.length) (cb:c.box = x) (ce:c.begun <= c.ended) (lt:∀ d ∈ cs,d.ended < c.begun) {o:List Nat} (h:yv b cs o) (ca:c.answer = vB cs x (b.getD x 0) o) :
  yv b (cs ++ [c]) (o ++ [cs.length]):=by
 obtain ⟨h1,h2,h3⟩:=h
 have hk:∀ k ∈ o,k < cs.length:=fun k hk=>List.mem_range.mp (h1.mem_iff.mp hk)
 have em:(o ++ [cs.length]).map (cg (cs ++ [c])) = o.map (cg cs) ++ [c]:=by
  rw [List.map_append,uF hk]
  show _ ++ [cg (cs ++ [c]) cs.length] = _
  rw [uE]
 refine ⟨?_,?_,?_⟩
 ·rw [List.length_append,List.length_singleton,List.range_succ]
  exact h1.append_right _
 ·rw [uL,em]
  refine qK (by rw [← uL]; exact h2) fun e he=>?_
  obtain ⟨k,hk',rfl⟩:=List.mem_map.mp he
  have:=lt _ (rJ (hk k hk')); have:=(yP C k (hk k hk')).2.2
  omega
 ·rw [sy] at h3 ⊢
  obtain ⟨ws,hw⟩:=Option.isSome_iff_exists.mp h3
  rw [em,sA (c:=c) hw ?_]
  ·rfl
  ·rw [cb,ca]
   exact Zn (fun k hk'=>(yP C k (hk k hk')).1) hx hw
theorem Zo:∀ {l r:List Call72} {vs:List Int},(pl72 vs (l ++ r)).isSome = true -> (pl72 vs l).isSome = true
 | [],_,_,_=>rfl
 | c :: l,r,vs,h=>by
  have h':(if vs.getD c.box.toNat 0 = c.answer then pl72 (vs.set c.box.toNat (c.deed.mk' c.answer)) (l ++ r) else none).isSome = true:=h
  show (if vs.getD c.box.toNat 0 = c.answer then pl72 (vs.set c.box.toNat (c.deed.mk' c.answer)) l else none).isSome = true
  split
  ·rename_i e; rw [if_pos e] at h'; exact Zo h'
  ·rename_i e; rw [if_neg e] at h'; cases h'
theorem ja {b:List Int} {cs:List Call72} {c:Call72} (lt:∀ d ∈ cs,d.ended < c.begun) {o:List Nat} (h:yv b (cs ++ [c]) o):∃ o2,yv b cs o2:=by
 obtain ⟨h1,h2,h3⟩:=h
 rw [List.length_append,List.length_singleton] at h1
 have mem:cs.length ∈ o:=h1.mem_iff.mpr (List.mem_range.mpr (Nat.lt_succ_self _))
 obtain ⟨p,r,rfl⟩:=List.append_of_mem mem
 have nd:(p ++ cs.length :: r).Nodup:=h1.nodup_iff.mpr List.nodup_range
 have lt2:∀ k ∈ p ++ cs.length :: r,k ≠ cs.length -> k < cs.length:=fun k hk hn=>by have:=List.mem_range.mp (h1.mem_iff.mp hk); omega
 have rn:r = []:=by
  cases r with
  | nil=>rfl
  | cons j r =>
   exfalso
   have pw:=yO.mp h2
   have pw2:=(List.pairwise_append.mp pw).2.1
   have:=(List.pairwise_cons.mp pw2).1 j (List.mem_cons_self ..)
   have nj:j ≠ cs.length:=fun z=>by
    have nd2:=(List.nodup_append.mp nd).2.1
    exact (List.nodup_cons.mp nd2).1 (by rw [z]; exact List.mem_cons_self ..)
   have jl:=lt2 j (by simp) nj
   unfold NA73 at this
   rw [uE,sO jl] at this
   exact this (lt _ (rJ jl))
 subst rn
 have np:∀ k ∈ p,k < cs.length:=fun k hk=>lt2 k (List.mem_append_left _ hk) fun z=>(List.nodup_append.mp nd).2.2 k hk cs.length (List.mem_cons_self ..) z
 refine ⟨p,?_,?_,?_⟩
 ·have:(p ++ [cs.length]).Perm (List.range cs.length ++ [cs.length]):=by rw [← List.range_succ]; exact h1
  exact (List.perm_append_right_iff _).mp this
 ·rw [uL,← uF (c:=c) np,← uL]
  exact yO.mpr (List.pairwise_append.mp (yO.mp h2)).1
 ·rw [sy,← uF (c:=c) np]
  rw [sy,List.map_append] at h3
  exact Zo h3
theorem Yf {X:Cx} {K:FG7} (hK:X.K = K):MtR X "list.count" (fun x vs H Q=>∃ (l:Addr) (ns:List Int) (j:Int),x = .ref l /\ vs = [.int j] /\ SqL K H l (ns.map V.int) /\ Q (.int ((ns.countP fun i=>decide (i = j):Nat):Int)) H):=by
 subst hK
 intro pins s σ H x vs v us Q I rx rv h
 obtain ⟨l,ns,j,rfl,rfl,hq,q⟩:=h
 cases rx
 obtain ⟨u,rfl,t,rfl⟩:=wS rv
 obtain ⟨its,r,⟨o,n,ho,hc,hdi,hd⟩,hz⟩:=I.list hq
 obtain ⟨oc,od,oda,osl⟩:=o
 cases hc
 cases hd
 have key:∀ {ms:List Int} {ws:List Value},Vals (ms.map V.int) ws -> (ws.countP fun v=>match v with | .int a _=>a == j | _=>false) = ms.countP fun i=>decide (i = j):=by
  intro ms
  induction ms with
  | nil=>intro ws r; cases r; rfl
  | cons a ms ih =>
   intro ws r
   cases r with
   | cons r1 r2 =>
    obtain ⟨t',rfl⟩:=r1
    rw [List.countP_cons,List.countP_cons,ih r2]
    congr 1
 refine call_meets F.slot_list_count ⟨_,ho,rfl⟩ F.entry_list_count (F.args_list_count_2 _ _)
  (SeqAt.list_countAt l its.toArray n od osl (.int j t) (fun v=>match v with | .int a _=>a == j | _=>false)) ⟨ho,fun y hy=>?_,?_⟩
 ·obtain ⟨m,hm,rfl⟩:=List.getElem_of_mem (by simpa using hy:y ∈ its)
  have hm':m < ns.length:=by have:=r.length; rw [List.length_map] at this; omega
  have e1:(ns.map V.int)[m]? = some (.int ns[m]):=by rw [List.getElem?_map,List.getElem?_eq_getElem hm']; rfl
  obtain ⟨u,hu,t',rfl⟩:=r.get e1
  rw [List.getElem?_eq_getElem hm] at hu
  rw [Option.some.inj hu]
  exact SeqAt.EqAt.int_int _ _ _ _
 ·have:its.toArray.toList = its:=List.toList_toArray
  rw [this,key r]
  exact ⟨.int _,H,I.tok _,⟨_,rfl⟩,q⟩
theorem jb {X:Cx} {K:FG7} {k:Nat} (hK:X.K = K) (hr:Room k X.A):OpR X (compareOp .NotEq) (fun x y H Q=>∃ a b xs,x = .ref a /\ y = .ref b /\ SqT K H a xs /\ SqT K H b [] /\ Q (.bl (!xs.isEmpty)) H):=by
 subst hK
 intro pins s σ H x y v u Q I rx ry h
 obtain ⟨a,b,xs,rfl,rfl,ha,hb,q⟩:=h
 cases rx; cases ry
 obtain ⟨us,r1,t1,_⟩:=I.tuple ha
 obtain ⟨ws,r2,t2,_⟩:=I.tuple hb
 have hw:ws.length = 0:=r2.length.symm
 refine SeqAt.RcNeAt.tuples (e:=fun _=>true) (xD t1) (xD t2) hr.units0 (fun j h1 h2=>absurd h2 (by simp; omega)) _ _ _ _ ?_
 rw [sh,Bool.true_and,List.size_toArray,List.size_toArray,hw,← r1.length]
 have e:(xs.length == 0) = xs.isEmpty:=by cases xs <;> rfl
 rw [e]
 exact ⟨.bl (!xs.isEmpty),H,I,rfl,q⟩
theorem vM {α:Type}:∀ {l:List α} {j:Nat} (h:j < l.length),(l[j] :: l.eraseIdx j).Perm l
 | [],_,h=>absurd h (by simp)
 | a :: l,0,_=>List.Perm.refl _
 | a :: l,j + 1,h=>(List.Perm.swap a _ _).trans ((vM (l:=l) (j:=j) (by simpa using h)).cons a)
theorem tQ {β:Type} {R:V -> β -> Prop} {zs xs:List V} (h:zs.Perm xs):∀ {ks:List β},AllR R xs ks -> ∃ ks':List β,ks'.Perm ks /\ AllR R zs ks':=by
 induction h with
 | nil=>intro ks a; cases ks with
  | nil=>exact ⟨[],List.Perm.refl _,trivial⟩
  | cons k ks=>exact a.elim
 | cons x _ ih=>intro ks a; cases ks with
  | nil=>exact a.elim
  | cons k ks =>
   obtain ⟨ks',h1,h2⟩:=ih a.2
   exact ⟨k :: ks',h1.cons k,a.1,h2⟩
 | swap x y l=>intro ks a; cases ks with
  | nil=>exact a.elim
  | cons k ks=>cases ks with
   | nil=>exact a.2.elim
   | cons k2 ks=>exact ⟨k2 :: k :: ks,List.Perm.swap ..,a.2.1,a.1,a.2.2⟩
 | trans _ _ ih1 ih2 =>
  intro ks a
  obtain ⟨k1,p1,a1⟩:=ih2 a
  obtain ⟨k2,p2,a2⟩:=ih1 a1
  exact ⟨k2,p2.trans p1,a2⟩
theorem wN {zs:List V} {ns:List Nat} (h:zs.Perm (zp ns)):∃ ms:List Nat,ms.Perm ns /\ zs = zp ms:=by
 have a0:∀ ns:List Nat,AllR (fun (v:V) (k:Nat)=>v = .int k) (zp ns) ns:=fun ns=>by
  induction ns with
  | nil=>trivial
  | cons k ns ih=>exact ⟨rfl,ih⟩
 obtain ⟨ms,h1,h2⟩:=tQ h (a0 ns)
 refine ⟨ms,h1,?_⟩
 clear h h1 a0
 induction zs generalizing ms with
 | nil=>cases ms with
  | nil=>rfl
  | cons k ms=>exact h2.elim
 | cons z zs ih=>cases ms with
  | nil=>exact h2.elim
  | cons k ms=>rw [h2.1,ih ms h2.2]; rfl
theorem Vf {cs:List Call72} {c:Call72} (h:c ∈ cs):∃ j,j < cs.length /\ cg cs j = c:=by
 obtain ⟨j,hj,e⟩:=List.getElem_of_mem h
 exact ⟨j,hj,by rw [← e]; exact yG (List.getElem?_eq_getElem hj)⟩
theorem sP {cs:List Call72} {x:Int}:yB x cs = (List.range cs.length).countP fun k=>decide ((cg cs k).box = x):=by
 unfold yB
 conv=>lhs; rw [← Vx (cs:=cs),List.countP_map]
 rfl
theorem qf {n:Nat} {cs ds:List Call72} (C:Calls72 n cs) (hl:ds.length = cs.length) (h:∀ j,j < cs.length -> CallOk72 n (cg ds j) /\ (cg ds j).box = (cg cs j).box):Calls72 n ds:=by
 refine ⟨by rw [hl]; exact C.len,fun c hc=>?_,fun x=>?_⟩
 ·obtain ⟨j,hj,rfl⟩:=Vf hc
  exact (h j (by rw [← hl]; exact hj)).1
 ·have:=C.few x
  rw [sP] at this ⊢
  rw [hl]
  refine Nat.le_trans (Nat.le_of_eq ?_) this
  exact List.countP_congr fun k hk=>by rw [(h k (List.mem_range.mp hk)).2]
theorem jc {lo:Int} {n k:Nat} {tt:TT} {te:TE} {Q:VK} {σ:L2.St} {H:Hp} (Pv:Nat -> List V -> Hp -> Prop) (h0:Pv 0 [] H)
  (hs:∀ i ys H',i < n -> Pv i ys H' -> tt (σ.set k (some (.int (lo + i)))) H' fun b H4=>if b = true then te (σ.set k (some (.int (lo + i)))) H4 fun y H5=>ys.length < sizeLine /\ Pv (i + 1) (ys ++ [y]) H5 else Pv (i + 1) ys H4)
  (hd:∀ ys H',Pv n ys H' -> ∀ l,H' l = none -> Q (.ref l) (upd H' l (.lst ys))):wx (Itr lo n) σ H (ww k) tt te Q:=by
 refine ⟨fun i m ys σ' H'=>m = n - i /\ i <= n /\ (σ' = σ \/ ∃ e,σ' = σ.set k e) /\ Pv i ys H',⟨n,by simp,Nat.zero_le _,.inl rfl,h0⟩,?_⟩
 rintro i m ys σ' H' ⟨rfl,hi,hσ,p⟩
 by_cases hlt:i < n
 ·refine .inr ⟨hlt,fun zs σ2 H2=>(σ2 = σ \/ ∃ e,σ2 = σ.set k e) /\ Pv (i + 1) zs H2,fun zs σ2 H2 p'=>⟨n - (i + 1),by omega,rfl,hlt,p'.1,p'.2⟩,fun x H2 y=>?_⟩
  obtain ⟨e,y⟩:=y
  subst e y
  have e:σ'.set k (some (V.int (lo + i))) = σ.set k (some (V.int (lo + i))):=by
   rcases hσ with rfl | ⟨e,rfl⟩
   ·rfl
   ·rw [List.set_set]
  show tt (σ'.set k (some (V.int (lo + i)))) H2 fun b H4=>if b = true then te (σ'.set k (some (V.int (lo + i)))) H4 (fun y H5=>ys.length < sizeLine /\ ((σ'.set k (some (V.int (lo + i))) = σ \/ ∃ e,σ'.set k (some (V.int (lo + i))) = σ.set k e) /\ Pv (i + 1) (ys ++ [y]) H5)) else ((σ'.set k (some (V.int (lo + i))) = σ \/ ∃ e,σ'.set k (some (V.int (lo + i))) = σ.set k e) /\ Pv (i + 1) ys H4)
  rw [e]
  have e2:(fun (y:V) (H5:Hp)=>ys.length < sizeLine /\ ((σ.set k (some (V.int (lo + i))) = σ \/ ∃ e,σ.set k (some (V.int (lo + i))) = σ.set k e) /\ Pv (i + 1) (ys ++ [y]) H5)) = fun y H5=>ys.length < sizeLine /\ Pv (i + 1) (ys ++ [y]) H5:=by
   funext y H5
   exact propext ⟨fun z=>⟨z.1,z.2.2⟩,fun z=>⟨z.1,.inr ⟨_,rfl⟩,z.2⟩⟩
  have e3:(fun (b:Bool) (H4:Hp)=>if b = true then te (σ.set k (some (V.int (lo + i)))) H4 (fun y H5=>ys.length < sizeLine /\ ((σ.set k (some (V.int (lo + i))) = σ \/ ∃ e,σ.set k (some (V.int (lo + i))) = σ.set k e) /\ Pv (i + 1) (ys ++ [y]) H5)) else ((σ.set k (some (V.int (lo + i))) = σ \/ ∃ e,σ.set k (some (V.int (lo + i))) = σ.set k e) /\ Pv (i + 1) ys H4)) = fun b H4=>if b = true then te (σ.set k (some (V.int (lo + i)))) H4 fun y H5=>ys.length < sizeLine /\ Pv (i + 1) (ys ++ [y]) H5 else Pv (i + 1) ys H4:=by
   funext b H4
   rw [e2]
   cases b
   ·exact propext ⟨fun z=>z.2,fun z=>⟨.inr ⟨_,rfl⟩,z⟩⟩
   ·rfl
  rw [e3]
  exact hs i ys H2 hlt p
 ·have e:i = n:=by omega
  subst e
  exact .inl ⟨Nat.le_refl _,hd ys H' p⟩
def wm:Deed:=⟨0,none,none⟩
theorem X9 {cs:List Call72} {c:Call72} {y:Int}:yB y (cs ++ [c]) = yB y cs + if c.box = y then 1 else 0:=by
 unfold yB
 rw [List.countP_append,List.countP_singleton]
 by_cases e:c.box = y <;> simp [e]
theorem Wa {n x:Nat} {cs:List Call72} {c:Call72} (C:Calls72 n cs) (l:cs.length <= 39) (o:CallOk72 n c) (cb:c.box = x) (f:yB (x:Int) cs < 8):Calls72 n (cs ++ [c]):=by
 refine ⟨by rw [List.length_append,List.length_singleton]; omega,fun d hd=>?_,fun y=>?_⟩
 ·rcases List.mem_append.mp hd with z | z
  ·exact C.ok d z
  ·rw [List.mem_singleton.mp z]; exact o
 ·rw [X9]
  have:=C.few y
  split
  ·rename_i e; rw [← e,cb] at this ⊢; omega
  ·omega
theorem jd {cs:List Call72} {x:Nat}:(cs.map fun c=>c.box).countP (fun i=>decide (i = (x:Int))) = yB (x:Int) cs:=by
 unfold yB
 rw [List.countP_map]; rfl
theorem wO {fs:List Nat}:(zp fs).all x9 = true:=by
 rw [List.all_eq_true]
 intro v hv
 obtain ⟨k,_,rfl⟩:=List.mem_map.mp hv
 rfl
theorem Zp {fs:List Nat} (h:fs ≠ []):(if false = true then !eqVs (zp fs) [] else eqVs (zp fs) []) = false:=by
 cases fs with
 | nil=>exact absurd rfl h
 | cons k fs=>rfl
def uG (K:FG7):Sp:=sp2 fun x y H Q=>∃ (p:Addr) (xs:List V),x = .ref p /\ Pot H p /\ (∃ r,y = .ref r /\ (SqL K H r xs \/ SqT K H r xs)) /\ xs.length <= 40 /\ ∀ l zs H',zs.Perm xs -> Grow [p] H H' -> Pot H' p -> H l = none -> l ≠ p -> H' l = some (.lst zs) -> Q (.ref l) H'
structure Rnd79 (b:List Int) (cs:List Call72) (b':List Int) (cs':List Call72) (pl:List Nat) (bx:Nat -> Nat) (s t:Int):Prop where
 s1:1 <= s
 inj:∀ x y,x < b.length -> y < b.length -> bx x = bx y -> x = y
 vs:∀ x,x < b.length -> bx x < b'.length /\ b'.getD (bx x) 0 = b.getD x 0
 per:pl.Perm (List.range cs.length)
 len:cs'.length = cs.length
 ren:∀ i,i < cs.length -> Ve bx s t (cg cs (pl.getD i 0)) (cg cs' i)
 b1:1 <= b'.length
 b16:b'.length <= 16
 ok:Calls72 b'.length cs'
def Yg (hs bs:List Nat) (s t:Int) (c:Call72):Call72:=⟨((hs.getD c.hand.toNat 0:Nat):Int),((bs.idxOf c.box.toNat:Nat):Int),c.deed,c.begun * s + t,c.ended * s + t,c.answer⟩
theorem Sx {b ws:List Int} {cs:List Call72} {hs bs pl:List Nat} {s t:Int} (C:Calls72 b.length cs) (b1:1 <= b.length) (n16:b.length + ws.length <= 16) (hh:hs.Perm (List.range 16)) (hb:bs.Perm (List.range (b.length + ws.length))) (hp:pl.Perm (List.range cs.length)) (s1:1 <= s) (t0:0 <= t) :
  Rnd79 b cs (bs.map fun k=>(b ++ ws).getD k 0) (pl.map fun j=>Yg hs bs s t (cg cs j)) pl (fun x=>bs.idxOf x) s t:=by
 have bl:bs.length = b.length + ws.length:=by rw [hb.length_eq,List.length_range]
 have mem:∀ x,x < b.length -> x ∈ bs:=fun x hx=>hb.mem_iff.mpr (List.mem_range.mpr (by omega))
 have plen:pl.length = cs.length:=by rw [hp.length_eq,List.length_range]
 have back:∀ x (h:x ∈ bs),bs.getD (bs.idxOf x) 0 = x:=fun x h=>by
  rw [List.getD_eq_getElem?_getD,List.getElem?_eq_getElem (List.idxOf_lt_length_of_mem h),List.getElem_idxOf]; rfl
 have cgi:∀ i,i < cs.length -> cg (pl.map fun j=>Yg hs bs s t (cg cs j)) i = Yg hs bs s t (cg cs (pl.getD i 0)):=fun i hi=>by
  refine yG ?_
  rw [List.getElem?_map,List.getElem?_eq_getElem (by omega),List.getD_eq_getElem?_getD,List.getElem?_eq_getElem (by omega)]; rfl
 have pin:∀ i,i < cs.length -> pl.getD i 0 < cs.length:=fun i hi=>by
  rw [List.getD_eq_getElem?_getD,List.getElem?_eq_getElem (by omega)]
  exact List.mem_range.mp (hp.mem_iff.mp (List.getElem_mem _))
 refine ⟨s1,fun x y hx hy e=>?_,fun x hx=>⟨?_,?_⟩,hp,by rw [List.length_map,plen],fun i hi=>?_,by rw [List.length_map,bl]; omega,by rw [List.length_map,bl]; omega,⟨by rw [List.length_map,plen]; exact C.len,fun c hc=>?_,fun y=>?_⟩⟩
 ·have e':bs.idxOf x = bs.idxOf y:=e
  rw [← back x (mem x hx),e',back y (mem y hy)]
 ·rw [List.length_map]; exact List.idxOf_lt_length_of_mem (mem x hx)
 ·have hi:=List.idxOf_lt_length_of_mem (mem x hx)
  show (bs.map fun k=>(b ++ ws).getD k 0).getD (bs.idxOf x) 0 = b.getD x 0
  rw [List.getD_eq_getElem?_getD,List.getElem?_map,List.getElem?_eq_getElem hi,List.getElem_idxOf]
  show (b ++ ws).getD x 0 = b.getD x 0
  rw [List.getD_eq_getElem?_getD,List.getD_eq_getElem?_getD,List.getElem?_append_left hx]
 ·rw [cgi i hi]
  exact ⟨Int.toNat_natCast _,rfl,rfl,rfl,rfl⟩
 ·obtain ⟨j,hj,rfl⟩:=List.mem_map.mp hc
  have hj':=List.mem_range.mp (hp.mem_iff.mp hj)
  have o:=uz C hj'
  have o1:=o.h0; have o2:=o.h1; have o3:=o.b0; have o4:=o.b1; have o5:=o.t0; have o6:=o.t1
  have hbx:=List.idxOf_lt_length_of_mem (mem (cg cs j).box.toNat (by omega))
  have m1:0 <= (cg cs j).begun * s:=Int.mul_nonneg o5 (by omega)
  have m2:(cg cs j).begun * s <= (cg cs j).ended * s:=Int.mul_le_mul_of_nonneg_right o6 (by omega)
  have hl:hs.length = 16:=by rw [hh.length_eq,List.length_range]
  have hh2:hs.getD (cg cs j).hand.toNat 0 < 16:=by
   rw [List.getD_eq_getElem?_getD,List.getElem?_eq_getElem (by omega)]
   exact List.mem_range.mp (hh.mem_iff.mp (List.getElem_mem _))
  refine ⟨?_,?_,?_,?_,o.d,?_,?_⟩
  ·show (0:Int) <= ((hs.getD (cg cs j).hand.toNat 0:Nat):Int); omega
  ·show ((hs.getD (cg cs j).hand.toNat 0:Nat):Int) <= 15; omega
  ·show (0:Int) <= ((bs.idxOf (cg cs j).box.toNat:Nat):Int); omega
  ·show ((bs.idxOf (cg cs j).box.toNat:Nat):Int) < ((bs.map fun k=>(b ++ ws).getD k 0).length:Int)
   rw [List.length_map]; omega
  ·show 0 <= (cg cs j).begun * s + t; omega
  ·show (cg cs j).begun * s + t <= (cg cs j).ended * s + t; omega
 ·have c8:=C.few ((bs.getD y.toNat 0:Nat):Int)
  rw [sP,← hp.countP_eq] at c8
  refine Nat.le_trans ?_ c8
  unfold yB
  rw [List.countP_map]
  refine List.countP_mono_left fun j hj hq=>?_
  have hj':=List.mem_range.mp (hp.mem_iff.mp hj)
  have o:=uz C hj'
  have o3:=o.b0; have o4:=o.b1
  have hq':((bs.idxOf (cg cs j).box.toNat:Nat):Int) = y:=of_decide_eq_true hq
  rw [decide_eq_true_eq,← hq',Int.toNat_natCast,back _ (mem (cg cs j).box.toNat (by omega))]
  omega
def Zq (K:FG7):Sp:=sp3 fun x y z H Q=>∃ (p:Addr) (b:List Int) (cs:List Call72),x = .ref p /\ Pot H p /\ zA K H y b /\ 1 <= b.length /\ b.length <= 16 /\ zz K H z cs /\ Calls72 b.length cs ∧
 ∀ (b':List Int) (cs':List Call72) (pl:List Nat) (bx:Nat -> Nat) (s t:Int) (r lp:Addr) (vb vc:V) H',Rnd79 b cs b' cs' pl bx s t -> Grow [p] H H' -> Pot H' p -> SqT K H' r [vb,vc,.ref lp] -> zA K H' vb b' -> zz K H' vc cs' -> H' lp = some (.lst (zp pl)) -> lp ≠ p -> Q (.ref r) H'
def Wd79 (cs cs':List Call72):Prop:=cs'.length = cs.length /\ ∀ i,i < cs.length -> (cg cs' i).box = (cg cs i).box /\ (cg cs' i).deed = (cg cs i).deed /\ (cg cs' i).answer = (cg cs i).answer /\ (cg cs' i).begun <= (cg cs i).begun /\ (cg cs i).ended <= (cg cs' i).ended
def qg (K:FG7):Sp:=sp2 fun x y H Q=>∃ (p:Addr) (n:Nat) (cs:List Call72),x = .ref p /\ Pot H p /\ zz K H y cs /\ Calls72 n cs /\ (∀ c ∈ cs,Cb72 (10 ^ 29 + 5) c) ∧
 ∀ (cs':List Call72) v H',Wd79 cs cs' -> Calls72 n cs' -> Grow [p] H H' -> Pot H' p -> zz K H' v cs' -> Q v H'
def vd (K:FG7):Sp:=sp4 fun x y z u H Q=>∃ (p:Addr) (b:List Int) (cs:List Call72),x = .ref p /\ Pot H p /\ zA K H y b /\ 1 <= b.length /\ b.length <= 16 /\ zz K H z cs /\ Calls72 b.length cs /\ ((yt cs b).isSome = true -> yV cs) /\ yS K H u (yt cs b) ∧
 ∀ H',Grow [p] H H' -> Pot H' p -> Q (.bl true) H'
def Zr (K:FG7):Sp:=sp4 fun x y z u H Q=>∃ (b:List Int) (cs:List Call72) (o:List Nat) (bx:Nat),zA K H x b /\ zz K H y cs /\ Calls72 b.length cs /\ yN K H z o /\ (∀ k ∈ o,k < cs.length) /\ u = .int bx /\ bx < b.length ∧
 ∀ H',Grow [] H H' -> Q (.int (vB cs bx (b.getD bx 0) o)) H'
def qh (K:FG7):Sp:=sp4 fun x y z u H Q=>∃ (p:Addr) (b:List Int) (cs:List Call72) (o:List Nat),x = .ref p /\ Pot H p /\ zA K H y b /\ 1 <= b.length /\ b.length <= 16 /\ zz K H z cs /\ Calls72 b.length cs /\ yN K H u o /\ yv b cs o ∧
 ∀ H',Grow [p] H H' -> Pot H' p -> Q (.bl true) H'
end L3
namespace My
open PySem PySem.Spec PyProof.Rows L2 L3
def top (i:Nat):Stmt:=PySem.Challenge.pw_joinedasks_k79_whole_stretched_and_renam.main.body.getD i (.Pass ⟨0,0,0,0⟩)
section
variable {P:Program} {w:World} {K:FG7} {mg:Str -> Option Value} {base:Heap} {n:Nat} {f:Addr} {fd:FuncData}
theorem vN:FnScope ["_law_pot_here","_law_many","_law_digit"] ["_law_pot_here","_law_many"] (zj (top 38)):=⟨rfl,rfl,rfl,by decide +kernel,rfl,by decide +kernel,by decide +kernel⟩
theorem qi (F:Fun K "_law_take" "_law_take" (top 38) f fd) (B:Blt mg)      :
  FnOk P w K mg base CX0 (n + 1) f fd ["_law_pot_here","_law_many"] (yM K):=by
 refine F.ok vN z3 (fun cdv A outer s H vs Q E hr h=>?_)
 obtain ⟨x,y,rfl,a,m,rfl,rfl,⟨p0,p1,hp,h0⟩,hm,hm2,q⟩:=h
 refine ⟨_,(ze (ya (zF Yy (zM zZ (pv 0) zg (fun _ _=>rfl)) zg (zI _)) (ze (zr (i:=2) vN.nd rfl (Or.inl rfl) (zB uT (zM zZ (pv 0) zg (fun _ _=>rfl)) (pv 1))) (ze (yY (zB tX (zM zZ (pv 0) zg (fun _ _=>rfl)) (pv 1)) (sZ (pv 0) zg wU)) (zh (zt (pv 2))))) zC) (ze (yY (zB uT (zB yb (zB yw (zM zZ (pv 0) zg (fun _ _=>rfl)) zg) zg) zg) (sZ (pv 0) zg wU)) (zh (zt (zB uT (zB tX (zB uT (zB yw (zM zZ (pv 0) zg (fun _ _=>rfl)) (zM zZ (pv 0) zg (fun _ _=>rfl))) zg) zg) (pv 1)))))),?_⟩
 refine ⟨_,rfl,a,_,_,_,rfl,rfl,SqL.of hp,rfl,_,_,rfl,rfl,_,rfl,?_⟩
 refine ite2 (fun c=>?_) (fun c=>?_)
 ·refine ⟨_,rfl,a,_,_,_,rfl,rfl,SqL.of hp,rfl,_,rfl,p0,m,rfl,rfl,hm,?_⟩
  refine ⟨_,rfl,a,_,_,_,rfl,rfl,SqL.of hp,rfl,_,rfl,p0,m,rfl,rfl,⟨hm,hm2⟩,_,rfl,a,_,0,0,rfl,rfl,hp,rfl,?_⟩
  exact ⟨_,rfl,q _ _ (Int.emod_nonneg _ (by omega)) (Int.emod_lt_of_pos _ hm) (Grow.set hp (by simp) _) ⟨p0 / m,p1,zd,Int.ediv_nonneg h0 (by omega)⟩⟩
 ·refine ⟨_,rfl,a,_,_,_,rfl,rfl,SqL.of hp,rfl,p1,48271,rfl,rfl,u3 ⟨by decide,by decide⟩,_,_,rfl,rfl,_,_,rfl,rfl,(by show (0:Int) < 2147483647; decide),_,rfl,a,_,1,1,rfl,rfl,hp,rfl,?_⟩
  have b0:0 <= (p1 * 48271 + 12345) % 2147483647:=Int.emod_nonneg _ (by decide)
  have b1:(p1 * 48271 + 12345) % 2147483647 < 2147483647:=Int.emod_lt_of_pos _ (by decide)
  refine ⟨_,rfl,a,_,_,_,rfl,rfl,SqL.of zd,rfl,_,rfl,a,_,_,_,rfl,rfl,SqL.of zd,rfl,(p1 * 48271 + 12345) % 2147483647,(p1 * 48271 + 12345) % 2147483647,rfl,rfl,u3 ⟨by omega,by omega⟩,_,_,rfl,rfl,(by show (0:Int) < 2147483629; decide),_,_,rfl,rfl,⟨by decide,by decide⟩,_,rfl,_,_,rfl,rfl,hm,?_⟩
  exact q _ _ (Int.emod_nonneg _ (by omega)) (Int.emod_lt_of_pos _ hm) (Grow.set hp (by simp) _) ⟨p0,(p1 * 48271 + 12345) % 2147483647,zd,h0⟩
theorem xz:FnScope ["_law_pot_here","_law_calls","_law_at_here","_law_answer"] ["_law_pot_here","_law_calls"] (zj (top 46)):=⟨rfl,rfl,rfl,by decide +kernel,rfl,by decide +kernel,by decide +kernel⟩
theorem uO (F:Fun K "_law_spoilt" "_law_spoilt" (top 46) f fd) (B:Blt mg) (qc0:zk P w K mg base n "_law_take" ["_law_pot_here","_law_many"] (yM K))     :
  FnOk P w K mg base CX0 (n + 1) f fd ["_law_pot_here","_law_calls"] (uD K):=by
 refine F.ok xz z3 (fun cdv A outer s H vs Q E hr h=>?_)
 obtain ⟨x,y,rfl,p,cs,n,B0,rfl,pp,hc,ok,c0,bd,q⟩:=h
 refine ⟨_,(ze (zr (i:=2) xz.nd rfl (Or.inl rfl) (zf qc0 hr rfl (za (pv 0) (za (zn zq rfl B.len y0 (za (pv 1) zb)) zb)))) (ze (zr (i:=3) xz.nd rfl (Or.inl rfl) (zM z7 (zM z7 (pv 1) (zf qc0 hr rfl (za (pv 0) (za (zn zq rfl B.len y0 (za (pv 1) zb)) zb))) (fun _ _=>rfl)) zg (fun _ _=>rfl))) (zh (zt (zB (wb (K:=K) rfl) (zB (wb (K:=K) rfl) (xJ (ui (K:=K) rfl) (pv 1) wD (wE (pv 2))) (z6 (za (zB (wb (K:=K) rfl) (xJ (ui (K:=K) rfl) (zM z7 (pv 1) (pv 2) (fun _ _=>rfl)) wD (wE zg)) (z6 (za (pv 3) zb))) zb))) (xJ (ui (K:=K) rfl) (pv 1) (wE (zB yb (pv 2) zg)) wD)))))),?_⟩
 obtain ⟨rc,xs,rfl,hrc,hall⟩:=id hc
 have xl:=hall.len
 have c40:=ok.len
 have x0:0 < xs.length:=by omega
 refine zO (fun v H'=>∃ i:Nat,v = .int i /\ i < cs.length /\ Grow [p] H H' /\ Pot H' p) (fun Kk hk=>⟨_,rfl,_,rfl,rc,_,rfl,.inr hrc,_,_,rfl,p,_,rfl,rfl,pp,by omega,Int.lt_of_le_of_lt (b:=100) (by omega) (by decide),fun k H' k0 k1 g pp'=>hk _ _ ⟨k.toNat,congrArg V.int (by omega),by omega,g,pp'⟩⟩) ?_
 rintro _ H2 ⟨i,rfl,hi,g2,pp2⟩
 obtain ⟨z,hz,rz,rd,rfl,sz,sd⟩:=hall.getR (List.getElem?_eq_getElem hi)
 have o:=ok.ok _ (List.getElem_mem hi)
 have cb:=bd _ (List.getElem_mem hi)
 have hci:cs[i]? = some cs[i]:=List.getElem?_eq_getElem hi
 generalize cs[i] = c at sz sd o cb hci
 refine zO (fun v H'=>∃ a:Int,v = .int a /\ -(B0 + 1) <= a /\ a <= B0 + 1 /\ Grow [p] H2 H' /\ Pot H' p) (fun Kk hk=>⟨_,rfl,_,rfl,_,rfl,rc,_,rfl,.inr (g2.sqT hrc),_,_,rfl,p,_,rfl,rfl,pp2,by omega,Int.lt_of_le_of_lt (b:=100) (by omega) (by decide),fun t H' t0 t1 g pp'=>?_⟩) ?_
 ·have ht:t.toNat < cs.length:=by omega
  obtain ⟨z2,hz2,rz2,rd2,rfl,sz2,sd2⟩:=hall.getR (List.getElem?_eq_getElem ht)
  have cb2:=(bd _ (List.getElem_mem ht)).answer
  generalize cs[t.toNat] = c2 at sz2 sd2 cb2
  have G5:=g2.trans g
  exact ⟨rc,_,t,.ref rz2,rfl,rfl,G5.sqT hrc,by have:=zw hz2; rwa [show ((t.toNat:Nat):Int) = t by omega] at this,rz2,_,5,.int c2.answer,rfl,rfl,G5.sqT sz2,rfl,hk _ _ ⟨c2.answer,rfl,by omega,by omega,g,pp'⟩⟩
 rintro _ H3 ⟨a,rfl,a0,a1,g3,pp3⟩
 have G3:=g2.trans g3
 have ok':CallOk72 n ⟨c.hand,c.box,c.deed,c.begun,c.ended,a⟩:=⟨o.h0,o.h1,o.b0,o.b1,o.d,o.t0,o.t1⟩
 have e1:=cb.hand
 have e2:=cb.box
 have e3:=cb.begun
 have e4:=cb.ended
 have cb':Cb72 (B0 + 1) ⟨c.hand,c.box,c.deed,c.begun,c.ended,a⟩:=by
  refine ⟨?_,?_,cb.deed.mono (by omega),?_,?_,⟨a0,a1⟩⟩
  ·show -(B0 + 1) <= c.hand /\ c.hand <= B0 + 1; omega
  ·show -(B0 + 1) <= c.box /\ c.box <= B0 + 1; omega
  ·show -(B0 + 1) <= c.begun /\ c.begun <= B0 + 1; omega
  ·show -(B0 + 1) <= c.ended /\ c.ended <= B0 + 1; omega
 have cl1:=xK xs
 refine ⟨_,rfl,_,rfl,_,rfl,rc,_,rfl,G3.sqT hrc,fun p1 J6 j6 h6=>?_⟩
 refine ⟨_,rfl,_,rfl,rc,_,_,.ref rz,rfl,rfl,j6.sqT (G3.sqT hrc),zw hz,_,rfl,rz,_,rfl,j6.sqT (G3.sqT sz),fun q1 I1 i1 hq1=>⟨_,rfl,szl rfl,fun q2 hq2=>?_⟩⟩
 have gq:=Grow.new (m:=[]) hq2 (.tup [.int a])
 refine ⟨q1,q2,_,_,rfl,rfl,gq.sqT hq1,SqT.of zd,le72 (by have:=xK (c.vs rd) none (some 5); have e:(c.vs rd).length = 6:=rfl; show _ + 1 <= 5000; omega),fun tc J5 j5 htc=>⟨szl rfl,fun t6 ht6=>?_⟩⟩
 have gc:=j6.trans (i1.trans (gq.trans j5))
 have htc':yf K J5 (.ref tc) ⟨c.hand,c.box,c.deed,c.begun,c.ended,a⟩:=⟨tc,rd,rfl,htc,gc.sqT (G3.sqT sd)⟩
 have gt6:=Grow.new (m:=[]) ht6 (.tup [.ref tc])
 refine ⟨p1,t6,_,_,rfl,rfl,gt6.sqT ((i1.trans (gq.trans j5)).sqT h6),SqT.of zd,?_,fun p2 J7 j7 h7=>?_⟩
 ·have:=cl1 none (some (i:Int)); exact le72 (by show _ + 1 <= 5000; omega)
 have G7:=gc.trans (gt6.trans j7)
 refine ⟨_,rfl,_,rfl,_,_,rfl,rfl,_,rfl,rc,_,rfl,G7.sqT (G3.sqT hrc),fun p3 J8 j8 h8=>⟨p2,p3,_,_,rfl,rfl,j8.sqT h7,h8,?_,fun p4 J9 j9 h9=>?_⟩⟩
 ·have:=cl1 none (some (i:Int)); have:=cl1 (some ((i:Int) + 1)) none
  exact le72 (by rw [List.length_append]; show _ + 1 + _ <= 5000; omega)
 have G9:=G7.trans (j8.trans j9)
 rw [show (i:Int) + 1 = ((i + 1:Nat):Int) from by omega,Y0,Y1] at h9
 refine q (cs.take i ++ [⟨c.hand,c.box,c.deed,c.begun,c.ended,a⟩] ++ cs.drop (i + 1)) _ _ (ok.spoil hci rfl ok') (q9 hi) (fun x hx=>?_) (G3.trans G9.wk) (pp3.grow G9) ⟨p4,_,rfl,h9,?_⟩
 ·rcases List.mem_append.mp hx with hx | hx
  ·rcases List.mem_append.mp hx with hx | hx
   ·exact (bd x (List.mem_of_mem_take hx)).mono (by omega)
   ·rw [List.mem_singleton.mp hx]; exact cb'
  ·exact (bd x (List.mem_of_mem_drop hx)).mono (by omega)
 ·have hA:=(G3.trans G9.wk).callsR hall
  exact ((hA.take (n:=i)).app (AllR.one ((gt6.trans (j7.trans (j8.trans j9))).call72 htc'))).app (hA.drop (n:=i + 1))
theorem wP:FnScope ["deed","value","add","low","high","result"] ["deed","value"] (zj (top 10)):=⟨rfl,rfl,rfl,by decide +kernel,rfl,by decide +kernel,by decide +kernel⟩
theorem Ul (F:Fun K "made" "made" (top 10) f fd) (B:Blt mg)      :
  FnOk P w K mg base CX0 (n + 1) f fd ["deed","value"] (vk K):=by
 refine F.ok wP z3 (fun cdv A outer s H vs Q E hr h=>?_)
 obtain ⟨x,y,rfl,d,v,⟨a,rfl,hs⟩,rfl,q⟩:=h
 refine ⟨_,(ze (yY (pv 0) (yK rfl (zm (zi (i:=2) wP.nd rfl (Or.inl rfl)) (zm (zi (i:=3) wP.nd rfl (Or.inl rfl)) (zm (zi (i:=4) wP.nd rfl (Or.inl rfl)) z9))))) (ze (zr (i:=5) wP.nd rfl (Or.inl rfl) (zB yb (pv 1) (pv 2))) (ze (ya (PW.pt (vF (xT (vW (pv 3))) (wC (zF Yy (pv 3) (pv 5) (zI _))))) (zh (zr (i:=5) wP.nd rfl (Or.inl rfl) (pv 3))) zC) (ze (ya (PW.pt (vF (xT (vW (pv 4))) (wC (zF tU (pv 4) (pv 5) (zI _))))) (zh (zr (i:=5) wP.nd rfl (Or.inl rfl) (pv 4))) zC) (zh (zt (pv 5))))))),?_⟩
 obtain ⟨ad,lo,hi⟩:=d
 refine ⟨_,rfl,a,_,rfl,hs,rfl,_,_,rfl,_,_,rfl,_,_,rfl,rfl,?_⟩
 refine ⟨_,rfl,_,rfl,_,_,rfl,rfl,?_⟩
 cases lo with
 | none =>
  refine ⟨_,rfl,_,rfl,iteF (iteF ?_)⟩
  cases hi with
  | none=>exact ⟨_,rfl,_,rfl,iteF (iteF ⟨_,rfl,q⟩)⟩
  | some u =>
   refine ⟨_,rfl,_,rfl,iteT ⟨_,rfl,_,rfl,_,_,rfl,rfl,_,rfl,?_⟩⟩
   have q':Q (.int (if u < v + ad then u else v + ad)) H:=q
   refine ite2 (fun c=>?_) (fun c=>?_)
   ·have c':u < v + ad:=of_decide_eq_true c
    rw [if_pos c'] at q'
    exact ⟨_,rfl,_,rfl,q'⟩
   ·have c':¬ u < v + ad:=fun z=>c (decide_eq_true z)
    rw [if_neg c'] at q'
    exact ⟨_,rfl,q'⟩
 | some l =>
  refine ⟨_,rfl,_,rfl,iteT ⟨_,rfl,_,rfl,_,_,rfl,rfl,_,rfl,?_⟩⟩
  have q0:Q (.int (tY hi (if l > v + ad then l else v + ad))) H:=q
  clear q
  refine ite2 (fun c=>?_) (fun c=>?_)
  ·have c':l > v + ad:=of_decide_eq_true c
   rw [if_pos c'] at q0
   have q:=q0
   refine ⟨_,rfl,?_⟩
   cases hi with
   | none=>exact ⟨_,rfl,_,rfl,iteF (iteF ⟨_,rfl,q⟩)⟩
   | some u =>
    refine ⟨_,rfl,_,rfl,iteT ⟨_,rfl,_,rfl,_,_,rfl,rfl,_,rfl,?_⟩⟩
    have q':Q (.int (if u < l then u else l)) H:=q
    refine ite2 (fun c=>?_) (fun c=>?_)
    ·have c':u < l:=of_decide_eq_true c
     rw [if_pos c'] at q'
     exact ⟨_,rfl,_,rfl,q'⟩
    ·have c':¬ u < l:=fun z=>c (decide_eq_true z)
     rw [if_neg c'] at q'
     exact ⟨_,rfl,q'⟩
  ·have c':¬ l > v + ad:=fun z=>c (decide_eq_true z)
   rw [if_neg c'] at q0
   have q:=q0
   cases hi with
   | none=>exact ⟨_,rfl,_,rfl,iteF (iteF ⟨_,rfl,q⟩)⟩
   | some u =>
    refine ⟨_,rfl,_,rfl,iteT ⟨_,rfl,_,rfl,_,_,rfl,rfl,_,rfl,?_⟩⟩
    have q':Q (.int (if u < v + ad then u else v + ad)) H:=q
    refine ite2 (fun c=>?_) (fun c=>?_)
    ·have c':u < v + ad:=of_decide_eq_true c
     rw [if_pos c'] at q'
     exact ⟨_,rfl,_,rfl,q'⟩
    ·have c':¬ u < v + ad:=fun z=>c (decide_eq_true z)
     rw [if_neg c'] at q'
     exact ⟨_,rfl,q'⟩
theorem zK:FnScope ["board","calls","order","values","number","hand","box","deed","begun","ended","answer"] ["board","calls","order"] (zj (top 25)):=⟨rfl,rfl,rfl,by decide +kernel,rfl,by decide +kernel,by decide +kernel⟩
theorem uH (F:Fun K "are_answered" "are_answered" (top 25) f fd) (B:Blt mg) (qc0:zk P w K mg base n "made" ["deed","value"] (vk K))     :
  FnOk P w K mg base CX0 (n + 1) f fd ["board","calls","order"] (jU K):=by
 refine F.ok zK wG (fun cdv A outer s H vs Q E hr h=>?_)
 obtain ⟨x,y,z,rfl,b,cs,ns,hb,hc,hn,ok,hlt,q⟩:=h
 refine ⟨_,(ze (zr (i:=3) zK.nd rfl (Or.inl rfl) (zQ xm rfl B.list v8 (za (pv 0) zb))) (ze (xk PassesOwn.never rfl (xB (pv 2)) (zi (i:=4) zK.nd rfl (Or.inl rfl)) (ze (yY (zM z7 (pv 1) (pv 4) (fun _ _=>rfl)) (yK rfl (zm (zi (i:=5) zK.nd rfl (Or.inl rfl)) (zm (zi (i:=6) zK.nd rfl (Or.inl rfl)) (zm (zi (i:=7) zK.nd rfl (Or.inl rfl)) (zm (zi (i:=8) zK.nd rfl (Or.inl rfl)) (zm (zi (i:=9) zK.nd rfl (Or.inl rfl)) (zm (zi (i:=10) zK.nd rfl (Or.inl rfl)) z9)))))))) (ze (ya (zF Yx (zM zZ (pv 3) (pv 6) (fun _ _=>rfl)) (pv 10) (zI _)) (zh (zt yJ)) zC) (zh (yY (zf qc0 hr rfl (za (pv 7) (za (pv 10) zb))) (sZ (pv 3) (pv 6) wU)))))) (zh (zt yJ)))),?_⟩
 obtain ⟨rb,rfl,hrb⟩:=id hb
 obtain ⟨rc,xs,rfl,hrc,hall⟩:=id hc
 obtain ⟨r,rfl,hr0⟩:=id hn
 refine ⟨_,rfl,rb,_,rfl,.inr hrb,fun l hl0=>?_⟩
 have g0:=Grow.new (m:=[l]) hl0 (.lst (b.map V.int))
 refine ⟨_,rfl,r,rfl,⟨_,g0.sqT hr0⟩,tT (xs:=zp ns) (fun i σ H'=>∃ (vs:List Int) (e4 e5 e6 e7 e8 e9 e10:Option V),σ = [some (.ref rb),some (.ref rc),some (.ref r),some (.ref l),e4,e5,e6,e7,e8,e9,e10] /\ H' l = some (.lst (vs.map V.int)) /\ vs.length = b.length /\ Grow [l] H H' /\ an72 cs vs (ns.drop i) = an72 cs b ns) ⟨b,_,_,_,_,_,_,_,rfl,zd,rfl,g0,rfl⟩ (fun i σ H' _ ⟨_,_,_,_,_,_,_,_,_,_,_,g,_⟩=>g.sqT hr0) ?_ ?_⟩
 ·rintro i x σ H1 hx ⟨vs,e4,e5,e6,e7,e8,e9,e10,rfl,hl1,vl,g1,hk⟩
  obtain ⟨k,hki,rfl⟩:=ye hx
  have hk':=hlt k (List.mem_of_getElem? hki)
  obtain ⟨z,hz,rz,rd,rfl,sz,sd⟩:=hall.getR (List.getElem?_eq_getElem hk')
  have o:=ok _ (List.getElem_mem hk')
  have ec:cg cs k = cs[k]:=yG (List.getElem?_eq_getElem hk')
  rw [uk hki,y8,ec] at hk
  refine ⟨_,rfl,_,rfl,rc,_,_,.ref rz,rfl,rfl,g1.sqT hrc,zw hz,rz,_,rfl,g1.sqT sz,rfl,_,_,rfl,_,_,rfl,_,_,rfl,_,_,rfl,_,_,rfl,_,_,rfl,rfl,?_⟩
  try dsimp only
  have b0:=o.b0
  have b1:=o.b1
  have hbx:cs[k].box.toNat < vs.length:=by omega
  have hat:atI (vs.map V.int) cs[k].box = some (.int (vs.getD cs[k].box.toNat 0)):=by
   have:cs[k].box = (cs[k].box.toNat:Int):=by omega
   rw [this]
   refine zw ?_
   rw [List.getElem?_map,List.getElem?_eq_getElem hbx,Int.toNat_natCast,List.getD_eq_getElem?_getD,List.getElem?_eq_getElem hbx]
   rfl
  refine ⟨_,rfl,_,rfl,l,_,_,_,rfl,rfl,SqL.of hl1,hat,_,rfl,rfl,_,rfl,?_⟩
  by_cases ha:vs.getD cs[k].box.toNat 0 = cs[k].answer
  ·rw [if_pos ha] at hk
   refine xi (by rw [decide_eq_true (congrArg V.int ha)]; rfl) (yF ?_)
   refine ⟨_,rfl,_,rfl,_,_,rfl,cs[k].deed,cs[k].answer,⟨rd,rfl,g1.sqT sd⟩,rfl,_,rfl,_,rfl,l,_,_,cs[k].box.toNat,rfl,rfl,hl1,?_,⟨vs.set cs[k].box.toNat (cs[k].deed.mk' cs[k].answer),_,_,_,_,_,_,_,rfl,?_,by rw [List.length_set,vl],g1.trans (Grow.set hl1 (by simp) _),hk⟩⟩
   ·exact qD b0 (by rw [List.length_map]; exact hbx)
   ·rw [zd,List.map_set]
  ·rw [if_neg ha] at hk
   refine y4 (by rw [decide_eq_false fun z=>ha (V.int.inj z)]; rfl) ?_
   have:=q _ (Grow.shrink hl0 g1)
   rw [← hk] at this
   exact this
 ·rintro σ H1 ⟨vs,e4,e5,e6,e7,e8,e9,e10,rfl,hl1,vl,g1,hk⟩
  rw [zx,List.drop_length] at hk
  have:=q _ (Grow.shrink hl0 g1)
  rw [← hk] at this
  exact this
theorem zJ:FnScope ["calls","order","latest","number","hand","box","deed","begun","ended","answer"] ["calls","order"] (zj (top 26)):=⟨rfl,rfl,rfl,by decide +kernel,rfl,by decide +kernel,by decide +kernel⟩
theorem uP (F:Fun K "keeps_ahead" "keeps_ahead" (top 26) f fd) (B:Blt mg)      :
  FnOk P w K mg base CX0 (n + 1) f fd ["calls","order"] (rL K):=by
 refine F.ok zJ z3 (fun cdv A outer s H vs Q E hr h=>?_)
 obtain ⟨x,y,rfl,cs,ns,hc,hn,⟨m,ok⟩,hlt,_,q⟩:=h
 refine ⟨_,(ze (zr (i:=2) zJ.nd rfl (Or.inl rfl) zg) (ze (xk PassesOwn.never rfl (xB (pv 1)) (zi (i:=3) zJ.nd rfl (Or.inl rfl)) (ze (yY (zM z7 (pv 0) (pv 3) (fun _ _=>rfl)) (yK rfl (zm (zi (i:=4) zJ.nd rfl (Or.inl rfl)) (zm (zi (i:=5) zJ.nd rfl (Or.inl rfl)) (zm (zi (i:=6) zJ.nd rfl (Or.inl rfl)) (zm (zi (i:=7) zJ.nd rfl (Or.inl rfl)) (zm (zi (i:=8) zJ.nd rfl (Or.inl rfl)) (zm (zi (i:=9) zJ.nd rfl (Or.inl rfl)) z9)))))))) (ze (ya (zF tU (pv 8) (pv 2) (zI _)) (zh (zt yJ)) zC) (zh (zr (i:=2) zJ.nd rfl (Or.inl rfl) (zn (wT rfl) rfl B.max Zz (za (pv 2) (za (pv 7) zb)))))))) (zh (zt yJ)))),?_⟩
 obtain ⟨rc,xs,rfl,hrc,hall⟩:=id hc
 obtain ⟨r,rfl,hr0⟩:=id hn
 refine ⟨_,rfl,r,rfl,⟨_,hr0⟩,tT (xs:=zp ns) (fun i σ H'=>∃ (t:Int) (e3 e4 e5 e6 e7 e8 e9:Option V),σ = [some (.ref rc),some (.ref r),some (.int t),e3,e4,e5,e6,e7,e8,e9] /\ H' = H /\ kp72 cs t (ns.drop i) = kl72 cs ns) ⟨0,_,_,_,_,_,_,_,rfl,rfl,VZ ok hlt⟩ (fun i σ H' _ ⟨_,_,_,_,_,_,_,_,_,e,_⟩=>by rw [e]; exact hr0) ?_ ?_⟩
 ·rintro i x σ H' hx ⟨t,e3,e4,e5,e6,e7,e8,e9,rfl,rfl,hk⟩
  obtain ⟨k,hki,rfl⟩:=ye hx
  have hk':=hlt k (List.mem_of_getElem? hki)
  obtain ⟨z,hz,rz,rd,rfl,sz,_⟩:=hall.getR (List.getElem?_eq_getElem hk')
  refine ⟨_,rfl,_,rfl,rc,_,_,.ref rz,rfl,rfl,hrc,zw hz,rz,_,rfl,sz,rfl,_,_,rfl,_,_,rfl,_,_,rfl,_,_,rfl,_,_,rfl,_,_,rfl,rfl,?_⟩
  try dsimp only
  have ec:cg cs k = cs[k]:=yG (List.getElem?_eq_getElem hk')
  rw [uk hki] at hk
  unfold kp72 at hk
  rw [ec] at hk
  refine ⟨_,rfl,_,rfl,_,_,rfl,rfl,_,rfl,?_⟩
  by_cases hb:cs[k].ended < t
  ·rw [if_pos hb] at hk
   refine y4 (decide_eq_true hb) ?_
   have:=q _ (Grow.refl _ _)
   rw [← hk] at this
   exact this
  ·rw [if_neg hb] at hk
   exact xi (decide_eq_false hb) (yF ⟨_,rfl,_,rfl,_,_,rfl,⟨_,_,_,_,_,_,_,_,rfl,rfl,hk⟩⟩)
 ·rintro σ H' ⟨t,e3,e4,e5,e6,e7,e8,e9,rfl,rfl,hk⟩
  rw [zx,List.drop_length] at hk
  have:=q _ (Grow.refl _ _)
  rw [← hk] at this
  exact this
theorem je:FnScope ["thing"] ["thing"] (zj (top 5)):=⟨rfl,rfl,rfl,by decide +kernel,rfl,by decide +kernel,by decide +kernel⟩
theorem jf (F:Fun K "is_whole" "is_whole" (top 5) f fd) (B:Blt mg)      :
  FnOk P w K mg base CX0 (n + 1) f fd ["thing"] (yx K):=by
 refine F.ok je wF (fun cdv A outer s H vs Q E hr h=>?_)
 obtain ⟨x,rfl,⟨T,ty⟩,q⟩:=h
 refine ⟨_,(zh (zt (xA (zn yk rfl B.isinstance z8 (za (pv 0) (za (vG rfl B.int UH) zb))) (xU (Uv (zn yk rfl B.isinstance z8 (za (pv 0) (za (vG rfl B.bool UI) zb)))))))),?_⟩
 cases x with
 | non=>cases (show T = "NoneType" from ty); exact ⟨_,rfl,_,_,_,false,rfl,rfl,rfl,_,rfl,iteF q⟩
 | bl y=>cases (show T = "bool" from ty); exact ⟨_,rfl,_,_,_,true,rfl,rfl,rfl,_,rfl,iteT ⟨_,rfl,_,_,_,true,rfl,rfl,rfl,_,rfl,q⟩⟩
 | int i=>cases (show T = "int" from ty); exact ⟨_,rfl,_,_,_,true,rfl,rfl,rfl,_,rfl,iteT ⟨_,rfl,_,_,_,false,rfl,rfl,rfl,_,rfl,q⟩⟩
 | str y=>cases (show T = "str" from ty); exact ⟨_,rfl,_,_,_,false,rfl,rfl,rfl,_,rfl,iteF q⟩
 | byt y=>exact ty.elim
 | flt y=>exact ty.elim
 | ty y=>exact ty.elim
 | ref a =>
  rcases ty with ⟨rfl,xs,hq⟩ | ⟨rfl,xs,hq⟩ | ⟨rfl,kvs,hq⟩
  ·exact ⟨_,rfl,_,_,_,false,rfl,.inl ⟨rfl,xs,hq⟩,rfl,_,rfl,iteF q⟩
  ·exact ⟨_,rfl,_,_,_,false,rfl,.inr (.inl ⟨rfl,xs,hq⟩),rfl,_,rfl,iteF q⟩
  ·exact ⟨_,rfl,_,_,_,false,rfl,.inr (.inr ⟨rfl,kvs,hq⟩),rfl,_,rfl,iteF q⟩
theorem jg:FnScope ["thing","numbers"] ["thing","numbers"] (zj (top 24)):=⟨rfl,rfl,rfl,by decide +kernel,rfl,by decide +kernel,by decide +kernel⟩
theorem jh (F:Fun K "is_order" "is_order" (top 24) f fd) (B:Blt mg) (qc0:zk P w K mg base n "is_whole" ["thing"] (yx K))  (g_sorted:mg "sorted" = none)   :
  FnOk P w K mg base CX0 (n + 1) f fd ["thing","numbers"] (tj K):=by
 refine F.ok jg z3 (fun cdv A outer s H vs Q E hr h=>?_)
 obtain ⟨x,y,rfl,d,m,n,hd,hl,hn,q⟩:=h
 refine ⟨_,(ze (ya (PW.pt (vO (yX (yC (zn (Y9 (K:=K) rfl) rfl B.isinstance z8 (za (pv 0) (za (vG rfl B.tuple yr) zb))))) (x4 (yX (yC (zn (wV rfl) rfl B.all Wr (za (zU (CSc.of (N':=["number"]) (sub:=[none]) (zj (top 24)) ["thing","numbers"] rfl rfl (by decide +kernel) rfl) rfl (xB (pv 0)) (fun _ _ _ _ _ _=>zi (i:=0) (show (["number"]:List Str).Nodup by decide +kernel) rfl (Or.inl rfl)) (fun _ _ _ _ _ _=>zT) (fun _ _ _ _ _ _=>(zf qc0 hr rfl (za (pv 0) zb)))) zb))))))) (zh (zt yJ)) zC) (zh (zt (yT (Vr hr) (zn (rH (K:=K) rfl) rfl g_sorted jA (za (pv 0) zb)) (pv 1) (zI _))))),?_⟩
 refine yL (fun b H'=>Grow [] H H' /\ (b = true -> ¬ ∃ ns,xO n d ns) /\ (b = false -> ∃ (r:Addr) (zs:List Int),x = .ref r /\ d = .tuple (zs.map PyData.int) /\ SqT K H r (zs.map V.int) /\ zs.length < 64)) (fun Kk hk=>⟨_,rfl,_,d,m,_,_,rfl,hd,Xa d,_,rfl,?_⟩) ?_
 ·cases ht:WC d with
  | false=>exact iteT (hk _ _ ⟨Grow.refl _ _,(fun _=>Xb ht n),fun z=>nomatch z⟩)
  | true =>
   obtain ⟨r,xs,ds,rfl,rfl,hs,os⟩:=WD hd ht
   obtain ⟨h64,hnd⟩:=hl ds rfl
   have xl:=os.length
   refine iteF ⟨_,rfl,r,rfl,⟨_,hs⟩,wJ (xs:=xs) (fun i ys H'=>ys = ((ds.take i).map su).map V.bl /\ H' = H) ⟨rfl,rfl⟩ (fun i ys H' z=>by rw [z.2]; exact hs) ?_ ?_⟩
   ·rintro i x ys H' hx ⟨rfl,rfl⟩
    obtain ⟨e,he,oe⟩:=os.get hx
    obtain ⟨t,ty,_,_,hw⟩:=V1 oe (hnd e (List.mem_of_getElem? he))
    refine ⟨_,rfl,_,rfl,⟨t,ty⟩,lt72 (by rw [List.length_map,List.length_map,List.length_take]; omega),?_,rfl⟩
    rw [hw,List.take_succ,he,List.map_append,List.map_append]; rfl
   ·rintro ys H' ⟨rfl,rfl⟩ l hl'
    rw [xl,List.take_length]
    refine ⟨l,ds.map su,rfl,SqL.of zd,_,rfl,hk _ _ ⟨Grow.new hl' _,fun z=>?_,fun z=>?_⟩⟩
    ·intro ho
     rw [List.all_map,show (ds.all (id ∘ su)) = ds.all su from rfl,Xc ho] at z
     cases z
    ·rw [Bool.not_eq_false',List.all_map] at z
     obtain ⟨zs,rfl⟩:=Vw (show ds.all su = true from z)
     rw [tf os] at hs
     exact ⟨r,zs,rfl,rfl,hs,by rw [List.length_map] at h64; exact h64⟩
 rintro b H1 ⟨g1,hb1,hb2⟩
 cases b with
 | true=>exact iteT (q _ _ g1 ⟨(fun z=>nomatch z),fun z=>absurd z (hb1 rfl)⟩)
 | false =>
  obtain ⟨r,zs,rfl,rfl,hs,h64⟩:=hb2 rfl
  obtain ⟨l,rfl,hl'⟩:=hn
  refine iteF (yF ⟨_,rfl,r,zs,rfl,g1.sqT hs,h64,fun p ms hp hperm hpw=>?_⟩)
  have gp:=Grow.new (m:=[]) hp (.lst (ms.map V.int))
  refine ⟨_,rfl,p,l,_,_,rfl,rfl,SqL.of zd,(g1.trans gp).sqL hl',sv _,jS _,q _ _ (g1.trans gp) ?_⟩
  rw [if_neg (by decide),yh,rC,decide_eq_true_eq]
  exact Xd hperm hpw
theorem sQ:FnScope ["board","calls","numbers","order"] ["board","calls","numbers","order"] (zj (top 27)):=⟨rfl,rfl,rfl,by decide +kernel,rfl,by decide +kernel,by decide +kernel⟩
theorem sR (F:Fun K "fits_these" "fits_these" (top 27) f fd) (B:Blt mg) (qc0:zk P w K mg base n "are_answered" ["board","calls","order"] (jU K)) (qc1:zk P w K mg base n "keeps_ahead" ["calls","order"] (rL K)) (qc2:zk P w K mg base n "is_order" ["thing","numbers"] (tj K))     :
  FnOk P w K mg base CX0 (n + 1) f fd ["board","calls","numbers","order"] (tm K):=by
 refine F.ok sQ vn (fun cdv A outer s H vs Q E hr h=>?_)
 obtain ⟨x,y,z,u,rfl,b,cs,d,m,hb,hc,hn,hd,ok,hl,q⟩:=h
 refine ⟨_,(zh (zt (xA (zf qc2 hr rfl (za (pv 3) (za (pv 2) zb))) (xA (zf qc1 hr rfl (za (pv 1) (za (pv 3) zb))) (xU (zf qc0 hr rfl (za (pv 0) (za (pv 1) (za (pv 3) zb))))))))),?_⟩
 refine ⟨_,rfl,_,rfl,_,_,rfl,d,m,cs.length,hd,hl,hn,fun b1 H1 g1 h1=>⟨_,rfl,?_⟩⟩
 cases b1 with
 | false =>
  refine iteF (q _ _ g1 ⟨(fun z=>nomatch z),fun ⟨ns,o,_⟩=>absurd (h1.mpr ⟨ns,o⟩) (by decide)⟩)
 | true =>
  obtain ⟨ns,o⟩:=h1.mp rfl
  have hN:yN K H u ns:=V0 o.1 hd
  have hlt:∀ k ∈ ns,k < cs.length:=fun k hk=>List.mem_range.mp (o.2.mem_iff.mp hk)
  have nl:ns.length = cs.length:=by rw [o.2.length_eq,List.length_range]
  have iff:∀ bb:Bool,bb = (kl72 cs ns && an72 cs b ns) -> (bb = true ↔ WA b cs d):=fun bb e=>by
   rw [e,Bool.and_eq_true]
   exact ⟨fun z=>⟨ns,o,z.1,z.2⟩,fun ⟨ms,o',z1,z2⟩=>by rw [o.uniq o']; exact ⟨z1,z2⟩⟩
  refine iteT ⟨_,rfl,_,rfl,_,_,rfl,cs,ns,g1.calls72 hc,hN.grow g1,⟨_,ok.ok⟩,hlt,by rw [nl]; exact ok.len,fun H2 g2=>⟨_,rfl,?_⟩⟩
  cases hk:kl72 cs ns with
  | false=>exact iteF (q _ _ (g1.trans g2) (iff _ (by rw [hk]; rfl)))
  | true=>exact iteT ⟨_,rfl,_,rfl,_,rfl,_,_,_,rfl,b,cs,ns,(g1.trans g2).board hb,(g1.trans g2).calls72 hc,hN.grow (g1.trans g2),ok.ok,hlt,fun H3 g3=>q _ _ (g1.trans (g2.trans g3)) (iff _ (by rw [hk]; rfl))⟩
theorem xR:FnScope ["board","calls","numbers","number","call"] ["board","calls"] (zj (top 21)):=⟨rfl,rfl,rfl,by decide +kernel,rfl,by decide +kernel,by decide +kernel⟩
theorem ji (F:Fun K "by_boxes" "by_boxes" (top 21) f fd) (B:Blt mg)   (g_enumerate:mg "enumerate" = none)   :
  FnOk P w K mg base CX0 (n + 1) f fd ["board","calls"] (sL K):=by
 refine F.ok xR z3 (fun cdv A outer s H vs Q E hr h=>?_)
 obtain ⟨x,y,rfl,b,cs,hb,hc,b16,ok,q⟩:=h
 refine ⟨_,(ze (vT (i:=2) xR.nd rfl rfl (CSc.of (N':=["value"]) (sub:=[none]) (zj (top 21)) ["board","calls","numbers","number","call"] rfl rfl (by decide +kernel) rfl) rfl (xB (pv 0)) (fun _ _ _ _ _ _=>zi (i:=0) (show (["value"]:List Str).Nodup by decide +kernel) rfl (Or.inl rfl)) (fun _ _ _ _ _ _=>zT) (fun _ _ _ _ _ _=>(xV zb))) (ze (xk PassesOwn.never rfl (se true (K:=K) rfl rfl g_enumerate (za (pv 1) zb)) (yK rfl (zm (zi (i:=3) xR.nd rfl (Or.inl rfl)) (zm (zi (i:=4) xR.nd rfl (Or.inl rfl)) z9))) (zh (x6 (tW PySem.F.plainAttrs_list PySem.F.slot_list_append PySem.F.type_list_append wa (zM zZ (pv 2) (zM z7 (pv 4) zg (fun _ _=>rfl)) (fun _ _=>rfl)) (za (pv 3) zb))))) (zh (zt (pv 2))))),?_⟩
 obtain ⟨rb,rfl,hrb⟩:=id hb
 obtain ⟨rc,xs,rfl,hrc,hall⟩:=id hc
 refine zO (fun v H'=>∃ (l:Addr) (as:List Addr),v = .ref l /\ H' l = some (.lst (as.map V.ref)) /\ l ∉ as /\ H l = none /\ as.length = b.length /\ as.Nodup /\ (∀ a ∈ as,H a = none /\ H' a = some (.lst [])) /\ Grow [] H H') (fun Kk hk=>⟨_,rfl,rb,rfl,⟨_,hrb⟩,wJ (xs:=b.map V.int) (fun i ys H'=>∃ as:List Addr,ys = as.map V.ref /\ as.length = i /\ as.Nodup /\ (∀ a ∈ as,H a = none /\ H' a = some (.lst [])) /\ Grow [] H H') ⟨[],rfl,rfl,List.nodup_nil,(fun a h=>nomatch h),Grow.refl _ _⟩ (fun i ys H' ⟨_,_,_,_,_,g⟩=>g.sqT hrb) ?_ ?_⟩) ?_
 ·rintro i x ys H' hx ⟨as,rfl,al,nd,ha,g⟩
  have hi:=(List.getElem?_eq_some_iff.mp hx).1
  rw [List.length_map] at hi
  refine ⟨szl rfl,fun a h0=>⟨lt72 (by rw [List.length_map]; omega),as ++ [a],by rw [List.map_append]; rfl,by rw [List.length_append,List.length_singleton,al],?_,?_,g.trans (Grow.new h0 _)⟩⟩
  ·refine List.nodup_append.mpr ⟨nd,by simp,fun x hx y hy=>?_⟩
   rw [List.mem_singleton.mp hy]
   rintro rfl
   rw [(ha x hx).2] at h0; cases h0
  ·intro x hx
   rcases List.mem_append.mp hx with hx | hx
   ·exact ⟨(ha x hx).1,by rw [zo (zD (ha x hx).2 h0)]; exact (ha x hx).2⟩
   ·rw [List.mem_singleton.mp hx]
    exact ⟨g.free (by simp) h0,zd⟩
 ·rintro ys H' ⟨as,rfl,al,nd,ha,g⟩ l hl
  rw [List.length_map] at al
  refine hk _ _ ⟨l,as,rfl,zd,fun z=>?_,g.free (by simp) hl,al,nd,fun a h=>⟨(ha a h).1,by rw [zo (zD (ha a h).2 hl)]; exact (ha a h).2⟩,g.trans (Grow.new hl _)⟩
  rw [(ha l z).2] at hl; cases hl
 rintro _ H0 ⟨l,as,rfl,hl0,nl,nl0,al,nd,ha,g0⟩
 have xl:=hall.len
 refine ⟨_,rfl,rc,_,rfl,g0.sqT hrc,YX (xs:=xs) (fun i σ H'=>∃ (nss:List (List Nat)) (e3 e4:Option V),σ = [some (.ref rb),some (.ref rc),some (.ref l),e3,e4] /\ H' l = some (.lst (as.map V.ref)) /\ Bx72 H' as nss /\ (∀ j,j < as.length -> nss.getD j [] = (List.range i).filter (xb cs j)) /\ Grow as H0 H') ⟨as.map fun _=>[],_,_,rfl,hl0,⟨by rw [List.length_map],fun j a h=>?_⟩,fun j hj=>?_,Grow.refl _ _⟩ (fun i σ H' _ ⟨_,_,_,_,_,_,_,g⟩=>(g.sqT (g0.sqT hrc):SqT K H' rc xs)) ?_ ?_⟩
 ·rw [(ha a (List.mem_of_getElem? h)).2,List.getD_eq_getElem?_getD,List.getElem?_map,h]; rfl
 ·rw [List.getD_eq_getElem?_getD,List.getElem?_map,List.getElem?_eq_getElem hj]; rfl
 ·rintro i x σ H1 T hx ⟨nss,e3,e4,rfl,hl1,bx,hn,g1⟩ hT
  obtain ⟨c,hci,hcat⟩:=hall.get hx
  obtain ⟨rz,rd,rfl,sz,_⟩:=(g1.call72 (g0.call72 hcat))
  have gT:=Grow.new (m:=as) hT (.tup [.int i,.ref rz])
  have o:=ok.ok c (List.mem_of_getElem? hci)
  have b0:=o.b0
  have b1:=o.b1
  obtain ⟨j,hj⟩:∃ j:Nat,c.box = j:=⟨c.box.toNat,by omega⟩
  have hjl:j < as.length:=by omega
  have haj:as[j]? = some as[j]:=List.getElem?_eq_getElem hjl
  have aT:∀ {a:Addr} {o:HO},H1 a = some o -> upd H1 T (.tup [.int i,.ref rz]) a = some o:=fun h=>by rw [zo (zD h hT)]; exact h
  have nT:(nss.getD j []).length <= 40:=by
   rw [hn j hjl]
   have h1:=List.length_filter_le (xb cs j) (List.range i)
   have h2:=(List.getElem?_eq_some_iff.mp hci).1
   have h3:=ok.len
   rw [List.length_range] at h1
   omega
  refine ⟨T,_,rfl,SqT.of zd,rfl,_,_,rfl,_,_,rfl,rfl,?_⟩
  refine ⟨_,rfl,_,rfl,rz,_,1,.int c.box,rfl,rfl,gT.sqT sz,zw (j:=1) rfl,l,_,_,.ref as[j],rfl,rfl,SqL.of (aT hl1),by rw [hj]; exact zw (by rw [List.getElem?_map,haj]; rfl),.inl ⟨rfl,_,SqL.of (aT (bx.at_ j _ haj))⟩,_,rfl,as[j],_,_,rfl,rfl,aT (bx.at_ j _ haj),lt72 (by rw [zx]; omega),?_⟩
  refine ⟨nss.set j (nss.getD j [] ++ [i]),_,_,rfl,?_,⟨by rw [List.length_set,bx.len],fun j' a' h'=>?_⟩,fun j' hj'=>?_,g1.trans (gT.trans (Grow.set (aT (bx.at_ j _ haj)) (List.mem_of_getElem? haj) _))⟩
  ·rw [zo (fun z=>nl (by rw [z]; exact List.mem_of_getElem? haj))]; exact aT hl1
  ·by_cases e:j' = j
   ·subst e
    cases h'.symm.trans haj
    rw [zd,zW (by rw [bx.len]; exact hjl),yE]; rfl
   ·have ne:a' ≠ as[j]:=fun z=>e (by
     have h1:as[j']? = as[j]?:=by rw [h',haj,z]
     exact (List.getElem?_inj (by have:=(List.getElem?_eq_some_iff.mp h').1; exact this) nd).mp h1)
    rw [zo ne,aT (bx.at_ j' a' h'),zL (fun z=>e z.symm)]
  ·rw [X1,yG hci]
   by_cases e:j' = j
   ·subst e
    rw [if_pos hj,zW (by rw [bx.len]; exact hjl),hn j' hj']
   ·rw [if_neg (by omega),zL (fun z=>e z.symm),hn j' hj',List.append_nil]
 ·rintro σ H1 ⟨nss,e3,e4,rfl,hl1,bx,hn,g1⟩
  rw [xl] at hn
  refine ⟨_,rfl,q l _ _ (Grow.shrinkL (fun a h=>(ha a h).1) (g0.wk.trans g1)) nl0 hl1 ?_⟩
  have en:nss = (List.range b.length).map (nb73 cs):=by
   refine List.ext_getElem? fun j=>?_
   rw [List.getElem?_map]
   by_cases h:j < b.length
   ·have:=hn j (by omega)
    rw [List.getD_eq_getElem?_getD,List.getElem?_eq_getElem (by rw [bx.len]; omega)] at this
    rw [List.getElem?_range h,List.getElem?_eq_getElem (by rw [bx.len]; omega)]
    exact congrArg some this
   ·rw [List.getElem?_eq_none (by rw [bx.len]; omega),List.getElem?_eq_none (by rw [List.length_range]; omega)]; rfl
  rw [← en]
  exact bx.ls
theorem Wb:FnScope ["thing"] ["thing"] (zj (top 8)):=⟨rfl,rfl,rfl,by decide +kernel,rfl,by decide +kernel,by decide +kernel⟩
theorem Wc (F:Fun K "is_end" "is_end" (top 8) f fd) (B:Blt mg) (qc0:zk P w K mg base n "is_whole" ["thing"] (yx K))     :
  FnOk P w K mg base CX0 (n + 1) f fd ["thing"] (rA K):=by
 refine F.ok Wb wF (fun cdv A outer s H vs Q E hr h=>?_)
 obtain ⟨x,rfl,kn,q⟩:=h
 refine ⟨_,(zh (zt (Uu (ju (xZ (pv 0))) (xU (zf qc0 hr rfl (za (pv 0) zb)))))),?_⟩
 refine ⟨x,rfl,_,rfl,?_⟩
 cases x with
 | non=>exact iteT q
 | _=>exact iteF ⟨_,rfl,_,rfl,kn,q⟩
theorem wu:FnScope ["thing","add","low","high"] ["thing"] (zj (top 9)):=⟨rfl,rfl,rfl,by decide +kernel,rfl,by decide +kernel,by decide +kernel⟩
theorem Yh (F:Fun K "is_deed" "is_deed" (top 9) f fd) (B:Blt mg) (qc0:zk P w K mg base n "is_end" ["thing"] (rA K)) (qc1:zk P w K mg base n "is_whole" ["thing"] (yx K))     :
  FnOk P w K mg base CX0 (n + 1) f fd ["thing"] (uZ K):=by
 refine F.ok wu wF (fun cdv A outer s H vs Q E hr h=>?_)
 obtain ⟨x,rfl,h⟩:=h
 refine ⟨_,(ze (ya (PW.pt (vO (yX (yC (zn yk rfl B.isinstance z8 (za (pv 0) (za (vG rfl B.tuple yr) zb))))) (x4 (zF Yx (zn zq rfl B.len y0 (za (pv 0) zb)) zg (zI _))))) (zh (zt yJ)) zC) (ze (yY (pv 0) (yK rfl (zm (zi (i:=1) wu.nd rfl (Or.inl rfl)) (zm (zi (i:=2) wu.nd rfl (Or.inl rfl)) (zm (zi (i:=3) wu.nd rfl (Or.inl rfl)) z9))))) (ze (ya (yX (PW.pt (vF (yC (zf qc1 hr rfl (za (pv 1) zb))) (vF (yC (zf qc0 hr rfl (za (pv 2) zb))) (wC (yC (zf qc0 hr rfl (za (pv 3) zb)))))))) (zh (zt yJ)) zC) (ze (ya (PW.pt (vO (xT (xZ (pv 2))) (x4 (xT (xZ (pv 3)))))) (zh (zt yJ)) zC) (zh (zt (Uu (yT tU (pv 2) (pv 3) (zI _)) (xU (xA (yT vY (pv 2) (pv 3) (zI _)) (xU (yT vY (pv 1) zg (zI _)))))))))))),?_⟩
 rcases h with ⟨T,hT,ty,q⟩ | ⟨a,xs,rfl,hs,hk,q⟩
 ·have kt:PySem.W.kitOne K (.type T) (.type "tuple") = some false:=by
   cases x with
   | non=>cases (show T = "NoneType" from ty); rfl
   | bl y=>cases (show T = "bool" from ty); rfl
   | int i=>cases (show T = "int" from ty); rfl
   | str y=>cases (show T = "str" from ty); rfl
   | byt y=>exact ty.elim
   | flt y=>exact ty.elim
   | ty y=>exact ty.elim
   | ref a =>
    rcases ty with ⟨rfl,xs,hq⟩ | ⟨rfl,xs,hq⟩ | ⟨rfl,kvs,hq⟩
    ·exact absurd rfl hT
    ·rfl
    ·rfl
  exact ⟨_,rfl,_,_,_,false,rfl,ty,kt,_,rfl,iteT (iteT q)⟩
 ·refine ⟨_,rfl,_,_,_,true,rfl,.inl ⟨rfl,xs,hs⟩,rfl,_,rfl,iteF ⟨_,rfl,a,xs,rfl,.inr hs,rfl,_,rfl,?_⟩⟩
  by_cases hl:xs.length = 3
  ·obtain ⟨y1,y2,y3,rfl⟩:=len3 hl
   refine iteF ⟨_,rfl,a,_,rfl,hs,rfl,_,_,rfl,_,_,rfl,_,_,rfl,rfl,?_⟩
   refine ⟨_,rfl,_,rfl,hk y1 (by simp),_,rfl,?_⟩
   refine ite2 (fun c1=>?_) (fun c1=>?_)
   ·obtain ⟨i1,rfl⟩:=YK c1
    refine ⟨_,rfl,_,rfl,hk y2 (by simp),_,rfl,?_⟩
    refine ite2 (fun c2=>?_) (fun c2=>?_)
    ·obtain ⟨o2,rfl⟩:=Vp c2
     refine ⟨_,rfl,_,rfl,hk y3 (by simp),_,rfl,?_⟩
     by_cases c3:endV y3 = true
     ·obtain ⟨o3,rfl⟩:=Vp c3
      rw [c3]
      refine iteF ?_
      cases o2 with
      | none=>exact ⟨_,rfl,_,rfl,iteT (iteT (by cases o3 <;> exact q))⟩
      | some l =>
       cases o3 with
       | none=>exact ⟨_,rfl,_,rfl,iteF ⟨_,rfl,_,rfl,iteT q⟩⟩
       | some u =>
        refine ⟨_,rfl,_,rfl,iteF ⟨_,rfl,_,rfl,iteF ?_⟩⟩
        refine ⟨_,rfl,_,rfl,_,_,rfl,rfl,_,rfl,?_⟩
        have q':Q (.bl (decide (l < u) || (decide (l = u) && decide (i1 = 0)))) H:=q
        refine ite2 (fun c=>?_) (fun c=>?_)
        ·rw [c] at q'; exact q'
        ·rw [Bool.eq_false_iff.mpr c] at q'
         refine ⟨_,rfl,_,rfl,rfl,_,rfl,?_⟩
         refine ite2 (fun d=>?_) (fun d=>?_)
         ·have d':l = u:=V.int.inj (of_decide_eq_true d)
          refine ⟨_,rfl,rfl,?_⟩
          rw [decide_eq_true d'] at q'
          have e:decide (V.int i1 = V.int 0) = decide (i1 = 0):=by simp
          rw [e]; exact q'
         ·have d':¬ l = u:=fun z=>d (by rw [z]; simp)
          rw [decide_eq_false d'] at q'
          exact q'
     ·have e:endV y3 = false:=Bool.eq_false_iff.mpr c3
      rw [e]
      refine iteT ?_
      have z:vj [V.int i1,ov o2,y3] = false:=by show (true && (endV (ov o2) && (endV y3 && _))) = false; rw [e]; simp
      rw [z] at q; exact q
    ·have e:endV y2 = false:=Bool.eq_false_iff.mpr c2
     refine iteT ?_
     have z:vj [V.int i1,y2,y3] = false:=by show (true && (endV y2 && (endV y3 && _))) = false; rw [e]; simp
     rw [z] at q; exact q
   ·have e:uY y1 = false:=Bool.eq_false_iff.mpr c1
    refine iteT ?_
    have z:vj [y1,y2,y3] = false:=by show (uY y1 && (endV y2 && (endV y3 && _))) = false; rw [e]; simp
    rw [z] at q; exact q
  ·have e:decide (V.int (xs.length:Int) = V.int 3) = false:=decide_eq_false fun z=>hl (by have:=V.int.inj z; omega)
   rw [e]
   refine iteT ?_
   rw [qC hl] at q; exact q
theorem qj:FnScope ["thing","least","greatest"] ["thing","least","greatest"] (zj (top 6)):=⟨rfl,rfl,rfl,by decide +kernel,rfl,by decide +kernel,by decide +kernel⟩
theorem qk (F:Fun K "is_within" "is_within" (top 6) f fd) (B:Blt mg) (qc0:zk P w K mg base n "is_whole" ["thing"] (yx K))     :
  FnOk P w K mg base CX0 (n + 1) f fd ["thing","least","greatest"] (vI K):=by
 refine F.ok qj wG (fun cdv A outer s H vs Q E hr h=>?_)
 obtain ⟨x,y,z,rfl,i,l,u,rfl,rfl,rfl,q⟩:=h
 refine ⟨_,(zh (zt (xA (zf qc0 hr rfl (za (pv 0) zb)) (xU (jx qz qz (pv 1) (pv 0) (pv 2)))))),?_⟩
 refine ⟨_,rfl,_,rfl,ua,_,rfl,iteT ⟨_,rfl,_,rfl,_,_,rfl,rfl,_,rfl,?_⟩⟩
 by_cases c:l <= i
 ·refine y4 (decide_eq_true c) ⟨_,rfl,_,_,rfl,rfl,?_⟩
  rw [decide_eq_true c] at q; exact q
 ·refine xi (decide_eq_false c) ?_
  rw [decide_eq_false c] at q; exact q
theorem ve:FnScope ["board","thing","hand","box","deed"] ["board","thing"] (zj (top 16)):=⟨rfl,rfl,rfl,by decide +kernel,rfl,by decide +kernel,by decide +kernel⟩
theorem Wd (F:Fun K "is_ask" "is_ask" (top 16) f fd) (B:Blt mg) (qc0:zk P w K mg base n "is_deed" ["thing"] (uZ K)) (qc1:zk P w K mg base n "is_within" ["thing","least","greatest"] (vI K))   {t_LAST_HAND:Tok} (g_LAST_HAND:mg "LAST_HAND" = some (.int 15 t_LAST_HAND))  :
  FnOk P w K mg base CX0 (n + 1) f fd ["board","thing"] (rD K):=by
 refine F.ok ve z3 (fun cdv A outer s H vs Q E hr h=>?_)
 obtain ⟨x,y,rfl,b,k,⟨rb,rfl,hb⟩,⟨r,rd,rfl,h1,h2⟩,⟨k1,k2,k3,k4,k5⟩,q⟩:=h
 refine ⟨_,(ze (ya (PW.pt (vO (yX (yC (zn yk rfl B.isinstance z8 (za (pv 1) (za (vG rfl B.tuple yr) zb))))) (x4 (zF Yx (zn zq rfl B.len y0 (za (pv 1) zb)) zg (zI _))))) (zh (zt yJ)) zC) (ze (yY (pv 1) (yK rfl (zm (zi (i:=2) ve.nd rfl (Or.inl rfl)) (zm (zi (i:=3) ve.nd rfl (Or.inl rfl)) (zm (zi (i:=4) ve.nd rfl (Or.inl rfl)) z9))))) (zh (zt (xA (zf qc1 hr rfl (za (pv 2) (za zg (za (tR rfl g_LAST_HAND (show RelV (.int 15) (.int 15 t_LAST_HAND) from ⟨_,rfl⟩)) zb)))) (xA (zf qc1 hr rfl (za (pv 3) (za zg (za (zB wz (zn zq rfl B.len y0 (za (pv 0) zb)) zg) zb)))) (xU (zf qc0 hr rfl (za (pv 4) zb))))))))),?_⟩
 have hl:(b.map V.int).length = b.length:=List.length_map ..
 refine ⟨_,rfl,_,_,_,true,rfl,.inl ⟨rfl,_,h1⟩,rfl,_,rfl,iteF ⟨_,rfl,r,_,rfl,.inr h1,rfl,_,rfl,iteF ?_⟩⟩
 refine ⟨_,rfl,r,_,rfl,h1,rfl,_,_,rfl,_,_,rfl,_,_,rfl,rfl,?_⟩
 refine ⟨_,rfl,_,_,_,rfl,_,_,_,rfl,rfl,rfl,_,rfl,y4 (by rw [decide_eq_true k1,decide_eq_true k2]; rfl) ?_⟩
 refine ⟨_,rfl,_,rfl,rb,_,rfl,.inr hb,_,_,rfl,rfl,_,_,_,rfl,_,_,_,rfl,rfl,rfl,_,rfl,y4 (by rw [decide_eq_true k3,decide_eq_true (show k.box <= ((b.map V.int).length:Int) - 1 by rw [hl]; omega)]; rfl) ?_⟩
 refine ⟨_,rfl,_,rfl,.inr ⟨rd,_,rfl,h2,?_,?_⟩⟩
 ·intro v hv
  simp only [Deed.vs,List.mem_cons,List.mem_nil_iff,or_false] at hv
  rcases hv with rfl | rfl | rfl
  ·exact ua
  ·exact UL _
  ·exact UL _
 ·rw [ZB k5]; exact q
theorem wv:FnScope ["board","thing","begun","ended","answer"] ["board","thing"] (zj (top 20)):=⟨rfl,rfl,rfl,by decide +kernel,rfl,by decide +kernel,by decide +kernel⟩
theorem Yi (F:Fun K "is_call" "is_call" (top 20) f fd) (B:Blt mg) (qc0:zk P w K mg base n "is_whole" ["thing"] (yx K)) (qc1:zk P w K mg base n "is_ask" ["board","thing"] (rD K))     :
  FnOk P w K mg base CX0 (n + 1) f fd ["board","thing"] (vL K):=by
 refine F.ok wv z3 (fun cdv A outer s H vs Q E hr h=>?_)
 obtain ⟨x,y,rfl,b,c,hb,hc,ok,q⟩:=h
 refine ⟨_,(ze (ya (PW.pt (vO (yX (yC (zn yk rfl B.isinstance z8 (za (pv 1) (za (vG rfl B.tuple yr) zb))))) (vO (zF Yx (zn zq rfl B.len y0 (za (pv 1) zb)) zg (zI _)) (x4 (yX (yC (zf qc1 hr rfl (za (pv 0) (za (xJ YE (pv 1) wD (wE zg)) zb))))))))) (zh (zt yJ)) zC) (ze (yY (xJ YE (pv 1) (wE zg) wD) (yK rfl (zm (zi (i:=2) wv.nd rfl (Or.inl rfl)) (zm (zi (i:=3) wv.nd rfl (Or.inl rfl)) (zm (zi (i:=4) wv.nd rfl (Or.inl rfl)) z9))))) (zh (zt (xA (zf qc0 hr rfl (za (pv 2) zb)) (xA (zf qc0 hr rfl (za (pv 3) zb)) (xA (zf qc0 hr rfl (za (pv 4) zb)) (xU (jx qz qz zg (pv 2) (pv 3)))))))))),?_⟩
 obtain ⟨r,rd,rfl,hr0,hrd⟩:=id hc
 refine yL (fun b H'=>b = false /\ Grow [] H H') (fun Kk hk=>⟨_,rfl,_,"tuple","tuple",true,rfl,.inl ⟨rfl,_,hr0⟩,rfl,_,rfl,iteF ⟨_,rfl,r,_,rfl,.inr hr0,rfl,_,rfl,iteF ⟨_,rfl,_,rfl,_,rfl,r,_,rfl,hr0,(fun z=>absurd z.2 (by decide:¬ HT.sIx 6 6 (some 3) = 6)),fun p hp=>⟨_,_,rfl,b,⟨c.hand,c.box,c.deed⟩,(Grow.new (m:=[]) hp _).board hb,⟨p,rd,rfl,SqT.of zd,(Grow.new (m:=[]) hp _).sqT hrd⟩,⟨ok.h0,ok.h1,ok.b0,ok.b1,ok.d⟩,_,rfl,hk _ _ ⟨rfl,Grow.new hp _⟩⟩⟩⟩⟩) ?_
 rintro _ H1 ⟨rfl,g1⟩
 refine iteF (yF ?_)
 refine ⟨_,rfl,_,rfl,r,_,rfl,g1.sqT hr0,(fun z=>absurd z.1 (by decide:¬ HT.sIx 6 0 (some 3) = 0)),fun p hp=>⟨p,_,rfl,SqT.of zd,rfl,_,_,rfl,_,_,rfl,_,_,rfl,rfl,?_⟩⟩
 refine ⟨_,rfl,_,rfl,ua,_,rfl,iteT ⟨_,rfl,_,rfl,ua,_,rfl,iteT ⟨_,rfl,_,rfl,ua,_,rfl,iteT ⟨_,rfl,_,_,rfl,rfl,_,rfl,y4 (decide_eq_true ok.t0) ⟨_,rfl,_,_,rfl,rfl,?_⟩⟩⟩⟩⟩
 have:=q _ (g1.trans (Grow.new hp (.tup (cutV (c.vs rd) (some 3) none))))
 rw [← decide_eq_true ok.t1] at this
 exact this
theorem jj:FnScope ["thing"] ["thing"] (zj (top 14)):=⟨rfl,rfl,rfl,by decide +kernel,rfl,by decide +kernel,by decide +kernel⟩
theorem jk (F:Fun K "is_board" "is_board" (top 14) f fd) (B:Blt mg) (qc0:zk P w K mg base n "is_whole" ["thing"] (yx K))   {t_MOST_BOXES:Tok} (g_MOST_BOXES:mg "MOST_BOXES" = some (.int 16 t_MOST_BOXES))  :
  FnOk P w K mg base CX0 (n + 1) f fd ["thing"] (uc K):=by
 refine F.ok jj wF (fun cdv A outer s H vs Q E hr h=>?_)
 obtain ⟨x,rfl,b,⟨r,rfl,hs⟩,b1,b2,q⟩:=h
 refine ⟨_,(ze (ya (PW.pt (vO (yX (yC (zn yk rfl B.isinstance z8 (za (pv 0) (za (vG rfl B.tuple yr) zb))))) (x4 (yX (Wl qz qz zg (zn zq rfl B.len y0 (za (pv 0) zb)) (tR rfl g_MOST_BOXES (show RelV (.int 16) (.int 16 t_MOST_BOXES) from ⟨_,rfl⟩))))))) (zh (zt yJ)) zC) (zh (zt (zn (wV rfl) rfl B.all Wr (za (zU (CSc.of (N':=["value"]) (sub:=[none]) (zj (top 14)) ["thing"] rfl rfl (by decide +kernel) rfl) rfl (xB (pv 0)) (fun _ _ _ _ _ _=>zi (i:=0) (show (["value"]:List Str).Nodup by decide +kernel) rfl (Or.inl rfl)) (fun _ _ _ _ _ _=>zT) (fun _ _ _ _ _ _=>(zf qc0 hr rfl (za (pv 0) zb)))) zb))))),?_⟩
 have hl:(b.map V.int).length = b.length:=List.length_map ..
 refine ⟨_,rfl,_,_,_,true,rfl,.inl ⟨rfl,_,hs⟩,rfl,_,rfl,iteF ?_⟩
 refine ⟨_,rfl,r,_,rfl,.inr hs,_,_,rfl,rfl,_,rfl,y4 (decide_eq_true (by rw [hl]; omega)) ⟨_,_,rfl,rfl,_,rfl,xi (by rw [decide_eq_true (show ((b.map V.int).length:Int) <= 16 by rw [hl]; omega)]; rfl) ?_⟩⟩
 refine ⟨_,rfl,r,rfl,⟨_,hs⟩,YN (fun _=>V.bl true) hs (by rw [hl]; omega) ?_ ?_⟩
 ·intro x H1 R hx g k
  obtain ⟨i,_,rfl⟩:=List.mem_map.mp hx
  exact ⟨_,rfl,_,rfl,ua,k _ (Grow.refl _ _)⟩
 ·intro H1 p g hp
  refine ⟨p,b.map (fun _=>true),rfl,SqL.of (by rw [zd,Wt]),?_⟩
  rw [YO]
  exact q _ (g.trans (Grow.new hp _))
theorem sS:FnScope ["thing"] ["thing"] (zj (top 15)):=⟨rfl,rfl,rfl,by decide +kernel,rfl,by decide +kernel,by decide +kernel⟩
theorem sT (F:Fun K "need_board" "need_board" (top 15) f fd) (B:Blt mg) (qc0:zk P w K mg base n "is_board" ["thing"] (uc K))     :
  FnOk P w K mg base CX0 (n + 1) f fd ["thing"] (wX K):=by
 refine F.ok sS wF (fun cdv A outer s H vs Q E hr h=>?_)
 obtain ⟨x,rfl,b,hb,b1,b2,q⟩:=h
 refine ⟨_,(zh (ya (yX (yC (zf qc0 hr rfl (za (pv 0) zb)))) (zh jw) zC)),?_⟩
 exact ⟨_,rfl,_,rfl,b,hb,b1,b2,fun H1 g1=>⟨_,rfl,iteF (q _ g1)⟩⟩
theorem ql:FnScope ["board","thing"] ["board","thing"] (zj (top 22)):=⟨rfl,rfl,rfl,by decide +kernel,rfl,by decide +kernel,by decide +kernel⟩
theorem qm (F:Fun K "are_calls" "are_calls" (top 22) f fd) (B:Blt mg) (qc0:zk P w K mg base n "by_boxes" ["board","calls"] (sL K)) (qc1:zk P w K mg base n "is_call" ["board","thing"] (vL K)) (qc2:zk P w K mg base n "need_board" ["thing"] (wX K))   {t_MOST_AT_A_BOX:Tok} (g_MOST_AT_A_BOX:mg "MOST_AT_A_BOX" = some (.int 8 t_MOST_AT_A_BOX)) {t_MOST_CALLS:Tok} (g_MOST_CALLS:mg "MOST_CALLS" = some (.int 40 t_MOST_CALLS))  :
  FnOk P w K mg base CX0 (n + 1) f fd ["board","thing"] (jT K):=by
 refine F.ok ql z3 (fun cdv A outer s H vs Q E hr h=>?_)
 obtain ⟨x,y,rfl,b,cs,hb,b1,b16,hc,ok,q⟩:=h
 refine ⟨_,(ze (x6 (zf qc2 hr rfl (za (pv 0) zb))) (ze (ya (PW.pt (vO (yX (yC (zn yk rfl B.isinstance z8 (za (pv 1) (za (vG rfl B.tuple yr) zb))))) (x4 (zF Yy (zn zq rfl B.len y0 (za (pv 1) zb)) (tR rfl g_MOST_CALLS (show RelV (.int 40) (.int 40 t_MOST_CALLS) from ⟨_,rfl⟩)) (zI _))))) (zh (zt yJ)) zC) (ze (ya (yX (yC (zn (wV rfl) rfl B.all Wr (za (zU (CSc.of (N':=["call","board"]) (sub:=[none,some 0]) (zj (top 22)) ["board","thing"] rfl rfl (by decide +kernel) rfl) rfl (xB (pv 1)) (fun _ _ _ _ _ _=>zi (i:=0) (show (["call","board"]:List Str).Nodup by decide +kernel) rfl (Or.inl rfl)) (fun _ _ _ _ _ _=>zT) (fun _ _ _ _ _ _=>(zf qc1 hr rfl (za (pv 1) (za (pv 0) zb))))) zb)))) (zh (zt yJ)) zC) (zh (zt (zn (wV rfl) rfl B.all Wr (za (zU (CSc.of (N':=["numbers"]) (sub:=[none]) (zj (top 22)) ["board","thing"] rfl rfl (by decide +kernel) rfl) rfl (xv (zf qc0 hr rfl (za (pv 0) (za (pv 1) zb)))) (fun _ _ _ _ _ _=>zi (i:=0) (show (["numbers"]:List Str).Nodup by decide +kernel) rfl (Or.inl rfl)) (fun _ _ _ _ _ _=>zT) (fun _ _ _ _ _ _=>(yT qz (zn (rE (K:=K) rfl) rfl B.len y0 (za (pv 0) zb)) (tR rfl g_MOST_AT_A_BOX (show RelV (.int 8) (.int 8 t_MOST_AT_A_BOX) from ⟨_,rfl⟩)) (zI _)))) zb))))))),?_⟩
 obtain ⟨rc,xs,rfl,hrc,hall⟩:=id hc
 have xl:=hall.len
 have cl:=ok.len
 refine ⟨_,rfl,_,rfl,b,hb,b1,b16,fun H0 g0=>?_⟩
 try dsimp only
 refine yL (fun b H'=>b = false /\ H' = H0) (fun Kk hk=>⟨_,rfl,_,"tuple","tuple",true,rfl,.inl ⟨rfl,_,g0.sqT hrc⟩,rfl,_,rfl,iteF ⟨_,rfl,rc,_,rfl,.inr (g0.sqT hrc),_,_,rfl,rfl,_,rfl,hk _ _ ⟨decide_eq_false (by omega),rfl⟩⟩⟩) ?_
 rintro _ H0 ⟨rfl,rfl⟩
 refine iteF (yF ?_)
 refine yL (fun b H'=>b = false /\ Grow [] H0 H') (fun Kk hk=>⟨_,rfl,rc,rfl,⟨_,g0.sqT hrc⟩,wJ (xs:=xs) (fun i ys H'=>ys = (List.replicate i true).map V.bl /\ Grow [] H0 H') ⟨rfl,Grow.refl _ _⟩ (fun i ys H' ⟨_,g⟩=>(g0.trans g).sqT hrc) ?_ ?_⟩) ?_
 ·rintro i x ys H' hx ⟨rfl,g'⟩
  have hi:=(List.getElem?_eq_some_iff.mp hx).1
  obtain ⟨c,hci,hcat⟩:=hall.get hx
  refine ⟨_,rfl,_,rfl,_,_,rfl,b,c,(g0.trans g').board hb,(g0.trans g').call72 hcat,ok.ok c (List.mem_of_getElem? hci),fun H2 g2=>⟨lt72 (by rw [List.length_map,List.length_replicate]; omega),by rw [List.replicate_succ',List.map_append]; rfl,g'.trans g2⟩⟩
 ·rintro ys H' ⟨rfl,g'⟩ l hl
  exact ⟨l,List.replicate xs.length true,rfl,SqL.of zd,_,rfl,hk _ _ ⟨by rw [rK]; rfl,g'.trans (Grow.new hl _)⟩⟩
 rintro _ H1 ⟨rfl,g1⟩
 refine iteF (yF ?_)
 refine ⟨_,rfl,_,rfl,_,_,rfl,b,cs,(g0.trans g1).board hb,(g0.trans g1).calls72 hc,b16,ok,fun l zs H2 g2 _ hl2 hz=>⟨l,rfl,⟨_,SqL.of hl2⟩,wp (xs:=zs) (fun i ys H'=>ys = (List.replicate i true).map V.bl /\ H' = H2) ⟨rfl,rfl⟩ (fun i ys H' z=>by rw [z.2]; exact SqL.of hl2) ?_ ?_⟩⟩
 ·rintro i x ys H' hx ⟨rfl,rfl⟩
  have hi:=(List.getElem?_eq_some_iff.mp hx).1
  obtain ⟨ns,hni,a,rfl,hA⟩:=hz.get hx
  have zl:=hz.len
  rw [List.length_map,List.length_range] at zl
  have n8':ns.length <= 8:=by
   obtain ⟨j,_,rfl⟩:=List.mem_map.mp (List.mem_of_getElem? hni)
   rw [sC]; exact ok.few j
  refine ⟨_,rfl,a,_,rfl,.inl (SqL.of hA),_,_,rfl,rfl,lt72 (by rw [List.length_map,List.length_replicate]; omega),?_,rfl⟩
  have e8:decide (((zp ns).length:Int) <= 8) = true:=decide_eq_true (by rw [zx]; omega)
  rw [List.replicate_succ',List.map_append]
  show _ ++ [V.bl (decide (((zp ns).length:Int) <= 8))] = _
  rw [e8]; rfl
 ·rintro ys H' ⟨rfl,rfl⟩ l' hl'
  refine ⟨l',List.replicate zs.length true,rfl,SqL.of zd,?_⟩
  rw [rK]
  exact q _ (g0.trans (g1.trans (g2.trans (Grow.new hl' _))))
theorem sU:FnScope ["board","thing"] ["board","thing"] (zj (top 23)):=⟨rfl,rfl,rfl,by decide +kernel,rfl,by decide +kernel,by decide +kernel⟩
theorem sV (F:Fun K "need_calls" "need_calls" (top 23) f fd) (B:Blt mg) (qc0:zk P w K mg base n "are_calls" ["board","thing"] (jT K))     :
  FnOk P w K mg base CX0 (n + 1) f fd ["board","thing"] (ul K):=by
 refine F.ok sU z3 (fun cdv A outer s H vs Q E hr h=>?_)
 obtain ⟨x,y,rfl,b,cs,hb,b1,b16,hc,ok,q⟩:=h
 refine ⟨_,(zh (ya (yX (yC (zf qc0 hr rfl (za (pv 0) (za (pv 1) zb))))) (zh jw) zC)),?_⟩
 exact ⟨_,rfl,_,rfl,_,_,rfl,b,cs,hb,b1,b16,hc,ok,fun H' g=>⟨_,rfl,iteF (q _ g)⟩⟩
theorem Um:FnScope ["board","calls","order"] ["board","calls","order"] (zj (top 28)):=⟨rfl,rfl,rfl,by decide +kernel,rfl,by decide +kernel,by decide +kernel⟩
theorem Uo (F:Fun K "fits" "fits" (top 28) f fd) (B:Blt mg) (qc0:zk P w K mg base n "fits_these" ["board","calls","numbers","order"] (tm K)) (qc1:zk P w K mg base n "need_calls" ["board","thing"] (ul K))     :
  FnOk P w K mg base CX0 (n + 1) f fd ["board","calls","order"] (wc K):=by
 refine F.ok Um wG (fun cdv A outer s H vs Q E hr h=>?_)
 obtain ⟨x,y,z,rfl,b,cs,d,m,hb,b1,b16,hc,hd,ok,hl,q⟩:=h
 refine ⟨_,(ze (x6 (zf qc1 hr rfl (za (pv 0) (za (pv 1) zb)))) (zh (zt (zf qc0 hr rfl (za (pv 0) (za (pv 1) (za (xn rfl rfl B.list rfl B.range (za (zn zq rfl B.len y0 (za (pv 1) zb)) zb)) (za (pv 2) zb)))))))),?_⟩
 refine ⟨_,rfl,_,rfl,_,_,rfl,b,cs,hb,b1,b16,hc,ok,fun H1 g1=>?_⟩
 obtain ⟨rc,xs,rfl,hrc,hall⟩:=id hc
 have xl:=hall.len
 have cl:=ok.len
 refine ⟨_,rfl,_,rfl,_,rfl,rc,_,rfl,.inr (g1.sqT hrc),xs.length,rfl,by omega,fun l hl0=>?_⟩
 have gl:=Grow.new (m:=[]) hl0 (.lst ((List.range xs.length).map fun i:Nat=>V.int i))
 refine ⟨_,rfl,_,_,_,_,rfl,b,cs,d,m,(g1.trans gl).board hb,(g1.trans gl).calls72 hc,⟨l,rfl,?_⟩,hd.grow (g1.trans gl).wk,ok,hl,fun bb H2 g2 h2=>q _ _ (g1.trans (gl.trans g2)) h2⟩
 rw [← xl]
 exact SqL.of zd
theorem xH:FnScope ["calls","orders","left","together","ended","number","own"] ["calls","orders"] (zj (top 33)):=⟨rfl,rfl,rfl,by decide +kernel,rfl,by decide +kernel,by decide +kernel⟩
theorem We (F:Fun K "merged" "merged" (top 33) f fd) (B:Blt mg)   (g_sorted:mg "sorted" = none) (g_enumerate:mg "enumerate" = none)   :
  FnOk P w K mg base CX0 (n + 1) f fd ["calls","orders"] (uB K):=by
 refine F.ok xH z3 (fun cdv A outer s H vs Q E hr h=>?_)
 obtain ⟨x,y,rfl,cs,l,vs,os,hc,rfl,hl,hos,ok,o16,o40,q⟩:=h
 refine ⟨_,(ze (vT (i:=2) xH.nd rfl rfl (CSc.of (N':=["order"]) (sub:=[none]) (zj (top 33)) ["calls","orders","left","together","ended","number","own"] rfl rfl (by decide +kernel) rfl) rfl (xv (pv 1)) (fun _ _ _ _ _ _=>zi (i:=0) (show (["order"]:List Str).Nodup by decide +kernel) rfl (Or.inl rfl)) (fun _ _ _ _ _ _=>zT) (fun _ _ _ _ _ _=>(zQ (u8 (K:=K) rfl) rfl B.list v8 (za (pv 0) zb)))) (ze (zr (i:=3) xH.nd rfl (Or.inl rfl) (xV zb)) (ze (xk PassesOwn.never rfl (xv (zn (qY (K:=K) rfl) rfl g_sorted jA (za (zU (CSc.of (N':=["number","call"]) (sub:=[none,none]) (zj (top 33)) ["calls","orders","left","together","ended","number","own"] rfl rfl (by decide +kernel) rfl) rfl (se true (K:=K) rfl rfl g_enumerate (za (pv 0) zb)) (fun _ _ _ _ _ _=>YY (K:=K) 2 rfl rfl (zm (zi (i:=0) (show (["number","call"]:List Str).Nodup by decide +kernel) rfl (Or.inl rfl) (Or.inr rfl)) (zm (zi (i:=1) (show (["number","call"]:List Str).Nodup by decide +kernel) rfl (Or.inl rfl) (Or.inr rfl)) z9)) rfl rfl) (fun _ _ _ _ _ _=>zT) (fun _ _ _ _ _ _=>(z6 (za (zM (wH (K:=K) rfl) (pv 1) zg (fun _ _=>rfl)) (za (pv 0) zb))))) zb))) (yK rfl (zm (zi (i:=4) xH.nd rfl (Or.inl rfl)) (zm (zi (i:=5) xH.nd rfl (Or.inl rfl)) z9))) (ze (zr (i:=6) xH.nd rfl (Or.inl rfl) (zM zZ (pv 2) (zM z7 (zM z7 (pv 0) (pv 5) (fun _ _=>rfl)) zg (fun _ _=>rfl)) (fun _ _=>rfl))) (zh (Wg PassesOwn.never (zF rk (pv 5) (pv 6) (by with_unfolding_all rfl)) (zh (x6 (tW PySem.F.plainAttrs_list PySem.F.slot_list_append PySem.F.type_list_append wa (pv 3) (za (tW PySem.F.plainAttrs_list PySem.F.slot_list_pop PySem.F.type_list_pop jz (pv 6) (za zg zb)) zb)))))))) (zh (zt (zQ zN rfl B.tuple yr (za (pv 3) zb))))))),?_⟩
 obtain ⟨rc,xs,rfl,hrc,hall⟩:=id hc
 have xl:=hall.len
 have vl:=hos.len
 refine zO (fun v H'=>∃ (ll:Addr) (as:List Addr),v = .ref ll /\ H' ll = some (.lst (as.map V.ref)) /\ ll ∉ as /\ H ll = none /\ as.Nodup /\ (∀ a ∈ as,H a = none) /\ Bx72 H' as os /\ Grow [] H H') (fun Kk hk=>⟨_,rfl,l,rfl,⟨_,hl⟩,wp (xs:=vs) (fun i ys H'=>∃ as:List Addr,ys = as.map V.ref /\ as.length = i /\ as.Nodup /\ (∀ a ∈ as,H a = none) /\ Bx72 H' as (os.take i) /\ Grow [] H H') ⟨[],rfl,rfl,List.nodup_nil,(fun a h=>nomatch h),⟨rfl,fun j a h=>by cases h⟩,Grow.refl _ _⟩ (fun i ys H' ⟨_,_,_,_,_,_,g⟩=>g.sqL hl) ?_ ?_⟩) ?_
 ·rintro i v ys H' hv ⟨as,rfl,al,nd,ha,bx,g⟩
  obtain ⟨o,ho,r,rfl,hr⟩:=hos.get hv
  have hi:=(List.getElem?_eq_some_iff.mp hv).1
  refine ⟨_,rfl,r,_,rfl,.inr (g.sqT hr),fun a h0=>⟨lt72 (by rw [List.length_map]; omega),as ++ [a],by rw [List.map_append]; rfl,by rw [List.length_append,List.length_singleton,al],?_,?_,⟨?_,?_⟩,g.trans (Grow.new h0 _)⟩⟩
  ·refine List.nodup_append.mpr ⟨nd,by simp,fun x hx y hy=>?_⟩
   rw [List.mem_singleton.mp hy]
   rintro rfl
   obtain ⟨j,hj⟩:=List.getElem?_of_mem hx
   rw [bx.at_ j x hj] at h0; cases h0
  ·intro x hx
   rcases List.mem_append.mp hx with hx | hx
   ·exact ha x hx
   ·rw [List.mem_singleton.mp hx]; exact g.free (by simp) h0
  ·rw [yj ho,List.length_append,List.length_append,bx.len]; rfl
  ·rw [yj ho]
   intro j a' h'
   have tl:(os.take i).length = as.length:=bx.len
   by_cases e:j < as.length
   ·rw [List.getElem?_append_left e] at h'
    have:=bx.at_ j a' h'
    rw [zo (zD this h0),this,List.getD_eq_getElem?_getD,List.getD_eq_getElem?_getD,List.getElem?_append_left (by omega)]
   ·have e2:j = as.length:=by
     have:=(List.getElem?_eq_some_iff.mp h').1
     rw [List.length_append,List.length_singleton] at this
     omega
    subst e2
    rw [List.getElem?_append_right (Nat.le_refl _),Nat.sub_self] at h'
    cases h'
    rw [zd,List.getD_eq_getElem?_getD,List.getElem?_append_right (by omega),tl,Nat.sub_self]; rfl
 ·rintro ys H' ⟨as,rfl,al,nd,ha,bx,g⟩ ll hll
  rw [vl,List.take_length] at bx
  refine hk _ _ ⟨ll,as,rfl,zd,fun z=>?_,g.free (by simp) hll,nd,ha,⟨bx.len,fun j a h=>?_⟩,g.trans (Grow.new hll _)⟩
  ·obtain ⟨j,hj⟩:=List.getElem?_of_mem z
   rw [bx.at_ j ll hj] at hll; cases hll
  ·have:=bx.at_ j a h
   rw [zo (zD this hll)]; exact this
 rintro _ H0 ⟨ll,as,rfl,hll,nll,hll0,nd,ha,bx0,g0⟩
 refine zO (fun v H'=>∃ lt,v = .ref lt /\ H0 lt = none /\ H' = upd H0 lt (.lst [])) (fun Kk hk=>⟨szl rfl,fun lt hlt=>hk _ _ ⟨lt,rfl,hlt,rfl⟩⟩) ?_
 rintro _ _ ⟨lt,rfl,hlt,rfl⟩
 have gt:=Grow.new (m:=[]) hlt (.lst [])
 have nt:lt ≠ ll:=fun z=>by rw [z,hll] at hlt; cases hlt
 have nta:lt ∉ as:=fun z=>by
  obtain ⟨j,hj⟩:=List.getElem?_of_mem z
  rw [bx0.at_ j lt hj] at hlt; cases hlt
 have hlt0:=g0.free (by simp) hlt
 have hll1:=gt.keep _ _ (by simp) hll
 have bx1:Bx72 (upd H0 lt (.lst [])) as os:=⟨bx0.len,fun j a h=>gt.keep _ _ (by simp) (bx0.at_ j a h)⟩
 have hlt1:=zd (H:=H0) (a:=lt) (o:=.lst [])
 have g1:=g0.trans gt
 generalize upd H0 lt (.lst []) = H1 at hll1 bx1 hlt1 g1 ⊢
 have rl:(xE cs).length = cs.length:=by unfold xE; rw [List.length_map,List.length_range]
 have al:as.length = os.length:=bx0.len.symm
 refine ⟨_,rfl,rc,_,rfl,g1.sqT hrc,u7 (c:=true) (xs:=xs) (fun i ys σ' H'=>(∃ e0 e1:Option V,σ' = [e0,e1]) /\ Grow [] H1 H' /\ AllR (zA K H') ys ((xE cs).take i)) ⟨⟨_,_,rfl⟩,Grow.refl _ _,trivial⟩ (fun i ys σ' H' z=>((g1.trans z.2.1).sqT hrc:SqT K H' rc xs)) ?_ ?_⟩
 ·rintro i v ys σ' H2 T hv ⟨⟨e0,e1,rfl⟩,g2,hy⟩ hT
  obtain ⟨c,hci,hcat⟩:=hall.get hv
  have hi:=(List.getElem?_eq_some_iff.mp hci).1
  obtain ⟨rz,rd,rfl,sz,_⟩:=(g1.trans g2).call72 hcat
  have gT:=Grow.new (m:=[]) hT (.tup [.int i,.ref rz])
  have hTT:=zd (H:=H2) (a:=T) (o:=.tup [.int i,.ref rz])
  have szT:=gT.sqT sz
  generalize upd H2 T _ = H3 at gT hTT szT ⊢
  refine ⟨T,_,rfl,SqT.of hTT,rfl,_,_,rfl,_,_,rfl,rfl,?_⟩
  refine ⟨_,rfl,rz,_,4,.int c.ended,rfl,rfl,szT,zw (j:=4) rfl,_,rfl,szl rfl,fun t ht=>⟨?_,⟨_,_,rfl⟩,g2.trans (gT.trans (Grow.new ht _)),?_⟩⟩
  ·rw [hy.len,List.length_take,rl]
   exact lt72 (by have:=ok.len; omega)
  ·rw [yj (x:=[c.ended,(i:Int)]) (by unfold xE; rw [List.getElem?_map,List.getElem?_range hi]; show some [(cg cs i).ended,(i:Int)] = _; rw [yG hci])]
   refine AllR.app (hy.imp fun _ _ z=>(gT.trans (Grow.new ht _)).board z) (AllR.one ⟨t,rfl,SqT.of ?_⟩)
   rw [zd]; rfl
 rintro ys σ' H2 ⟨_,g2,hy⟩ l2 hl2
 rw [xl,List.take_of_length_le (by rw [rl]; exact Nat.le_refl _)] at hy
 have gn2:=Grow.new (m:=[]) hl2 (.lst ys)
 refine ⟨l2,ys,xE cs,rfl,SqL.of zd,hy.imp fun _ _ z=>gn2.board z,qb,(fun r hr=>by obtain ⟨k,_,rfl⟩:=List.mem_map.mp hr; exact fun z=>by cases z),by rw [rl]; have:=ok.len; omega,fun l3 zs' rows' hl3 hperm hsrt hzs=>?_⟩
 have so:yV cs:=⟨rows',hperm,hsrt⟩
 have es:vA cs = rows'.map fun r=>(r.getD 1 0).toNat:=by unfold vA; rw [uy hperm hsrt]
 have gn3:=Grow.new (m:=[]) hl3 (.lst zs')
 have hl33:=zd (H:=upd H2 l2 (.lst ys)) (a:=l3) (o:=.lst zs')
 have g3:Grow [] H1 (upd (upd H2 l2 (.lst ys)) l3 (.lst zs')):=g2.trans (gn2.trans gn3)
 have hzs3:AllR (zA K (upd (upd H2 l2 (.lst ys)) l3 (.lst zs'))) zs' rows':=hzs.imp fun _ _ z=>gn3.board z
 have n3:∀ a,a ∈ lt :: as -> l3 ≠ a:=fun a h z=>by
  have k:∀ o,H1 a = some o -> False:=fun o e=>by
   rw [z,(g2.trans gn2).keep _ _ (by simp) e] at hl3; cases hl3
  rcases List.mem_cons.mp h with rfl | h
  ·exact k _ hlt1
  ·obtain ⟨j,hj⟩:=List.getElem?_of_mem h
   exact k _ (bx1.at_ j a hj)
 generalize upd (upd H2 l2 (.lst ys)) l3 (.lst zs') = H3 at g3 hl33 hzs3 ⊢
 have nll':ll ∉ lt :: as:=fun z=>by
  rcases List.mem_cons.mp z with z | z
  ·exact nt z.symm
  ·exact nll z
 have os40:∀ j,(os.getD j []).length <= 40:=fun j=>by
  rw [List.getD_eq_getElem?_getD]
  cases e:os[j]? with
  | none=>exact Nat.zero_le _
  | some o=>exact o40 o (List.mem_of_getElem? e)
 have bx3:Bx72 H3 as os:=⟨bx1.len,fun j a h=>g3.keep _ _ (by simp) (bx1.at_ j a h)⟩
 refine ⟨l3,rfl,⟨_,SqL.of hl33⟩,tS (xs:=zs') (fun i σ H'=>∃ (e4 e5 e6:Option V) (lf:List (List Nat)) (tg:List Nat),σ = [some (.ref rc),some (.ref l),some (.ref ll),some (.ref lt),e4,e5,e6] /\ Grow (lt :: as) H3 H' /\ H' lt = some (.lst (zp tg)) /\ Bx72 H' as lf /\ (((vA cs).take i).foldl (yz cs) (os,[])) = (lf,tg) /\ lf.length = os.length /\ (∀ j,(lf.getD j []).length <= 40) /\ tg.length <= i * 40) ⟨_,_,_,os,[],rfl,Grow.refl _ _,g3.keep _ _ (by simp) hlt1,bx3,rfl,rfl,os40,Nat.zero_le _⟩ (fun i σ H' _ z=>by obtain ⟨_,_,_,_,_,_,g,_⟩:=z; exact SqL.of (g.keep _ _ (fun z=>n3 _ z rfl) hl33)) ?_ ?_⟩
 ·rintro i v σ H4 hv ⟨e4,e5,e6,lf,tg,rfl,g4,hlt4,bx4,hst,lfl,lf40,tg40⟩
  obtain ⟨row,hrow,rz,rfl,hrz⟩:=hzs3.get hv
  obtain ⟨k,hk,rfl⟩:=List.mem_map.mp (hperm.mem_iff.mp (List.mem_of_getElem? hrow))
  have hk':k < cs.length:=List.mem_range.mp hk
  have hsk:(vA cs)[i]? = some k:=by
   rw [es,List.getElem?_map,hrow]
   show some ((k:Int)).toNat = _
   rw [Int.toNat_natCast]
  have hst1:((vA cs).take (i + 1)).foldl (yz cs) (os,[]) = yz cs (lf,tg) k:=by rw [yj hsk,List.foldl_append,hst]; rfl
  obtain ⟨zc,hzc,rzc,rd,rfl,sz,_⟩:=hall.getR (List.getElem?_eq_getElem hk')
  have ec:cg cs k = cs[k]:=yG (List.getElem?_eq_getElem hk')
  rw [← ec] at sz
  have oc:=uz ok hk'
  have b0:=oc.b0
  have b1:=oc.b1
  generalize hX:(cg cs k).box.toNat = X
  have ebx:(cg cs k).box = (X:Int):=by rw [← hX]; exact (Int.toNat_of_nonneg b0).symm
  have hXl:X < as.length:=by omega
  have haX:as[X]? = some as[X]:=List.getElem?_eq_getElem hXl
  generalize as[X] = a at haX
  have ama:=List.mem_of_getElem? haX
  have nalt:a ≠ lt:=fun z=>nta (by rw [← z]; exact ama)
  have G4:Grow (lt :: as) H H4:=((g1.trans g3).wk.trans g4)
  have hll4:=(g3.trans (Grow.refl _ _)).keep _ _ (by simp) hll1
  have hll5:=g4.keep _ _ nll' hll4
  refine ⟨rz,_,rfl,g4.sqT hrz,rfl,_,_,rfl,_,_,rfl,rfl,?_⟩
  try dsimp only
  refine zO (fun v H'=>v = .ref a /\ H' = H4) (fun Kk hk=>⟨_,rfl,_,rfl,_,rfl,rc,_,_,.ref rzc,rfl,rfl,G4.sqT hrc,zw hzc,rzc,_,1,.int (cg cs k).box,rfl,rfl,G4.sqT sz,zw (j:=1) rfl,ll,_,_,.ref a,rfl,rfl,SqL.of hll5,by rw [ebx]; exact zw (by rw [List.getElem?_map,haX]; rfl),hk _ _ ⟨rfl,rfl⟩⟩) ?_
  rintro _ H4 ⟨rfl,rfl⟩
  have ms0:yz cs (lf,tg) k = (lf.set X (yI k (lf.getD X []) tg).1,(yI k (lf.getD X []) tg).2):=by
   unfold yz
   show (lf.set (cg cs k).box.toNat (yI k (lf.getD (cg cs k).box.toNat []) tg).1,(yI k (lf.getD (cg cs k).box.toNat []) tg).2) = _
   rw [hX]
  have lX:X < lf.length:=by omega
  have hz2:zs'.length <= 40:=by
   have:=hzs3.len
   have h2:=hperm.length_eq
   rw [rl] at h2
   have:=ok.len
   omega
  refine Wj (fun σ H'=>∃ (e4:Option V) (own tg':List Nat),σ = [some (.ref rc),some (.ref l),some (.ref ll),some (.ref lt),e4,some (.int (k:Int)),some (.ref a)] /\ Grow (lt :: as) H3 H' /\ H' lt = some (.lst (zp tg')) /\ Bx72 H' as (lf.set X own) /\ yI k own tg' = yI k (lf.getD X []) tg /\ own.length + tg'.length = (lf.getD X []).length + tg.length /\ own.length <= 40) (fun _ H'=>match H' a with | some (.lst xs)=>xs.length | _=>0) ⟨_,lf.getD X [],tg,rfl,g4,hlt4,?_,rfl,rfl,lf40 X⟩ ?_ ?_
  ·have e:lf.set X (lf.getD X []) = lf:=by
    refine List.ext_getElem? fun j=>?_
    by_cases c:X = j
    ·subst c
     rw [List.getElem?_set_self lX,List.getD_eq_getElem?_getD,List.getElem?_eq_getElem lX]; rfl
    ·rw [List.getElem?_set_ne c]
   rw [e]; exact bx4
  ·rintro σ H5 ⟨e4,own,tg',rfl,g5,hlt5,bx5,hpw,hlen,o40'⟩
   have hown:H5 a = some (.lst (zp own)):=by
    have:=bx5.at_ X a haX
    rwa [zW lX] at this
   refine ⟨_,rfl,_,rfl,a,zp own,rfl,.inl (SqL.of hown),rfl,jS own,_,rfl,?_⟩
   rw [if_neg (by decide),tN]
   by_cases c:k ∈ own
   ·rw [decide_eq_true c]
    refine iteT ?_
    cases own with
    | nil=>cases c
    | cons x own =>
     have g6:Grow (lt :: as) H5 (upd H5 a (.lst (zp own))):=Grow.set hown (List.mem_cons_of_mem _ ama) _
     have hlt6:upd H5 a (.lst (zp own)) lt = some (.lst (zp tg')):=by rw [zo (Ne.symm nalt)]; exact hlt5
     have g7:Grow (lt :: as) (upd H5 a (.lst (zp own))) (upd (upd H5 a (.lst (zp own))) lt (.lst (zp tg' ++ [.int (x:Int)]))):=Grow.set hlt6 (List.mem_cons_self ..) _
     have ta:upd (upd H5 a (.lst (zp own))) lt (.lst (zp tg' ++ [.int (x:Int)])) a = some (.lst (zp own)):=by rw [zo nalt,zd]
     refine ⟨_,rfl,.inl ⟨rfl,_,SqL.of hlt5⟩,_,rfl,.inl ⟨rfl,_,SqL.of hown⟩,a,zp (x :: own),0,0,.int (x:Int),rfl,rfl,hown,by decide,by decide,PySem.StrLaws.seqIndex_nonneg (by omega) (by rw [zx]; simp),rfl,lt,zp tg',.int (x:Int),rfl,rfl,hlt6,?_,?_⟩
     ·rw [zx]
      have h1:=lf40 X
      have h2:=(List.getElem?_eq_some_iff.mp hv).1
      have h3:i * 40 <= 40 * 40:=Nat.mul_le_mul_right 40 (by omega)
      exact lt72 (by omega)
     refine ⟨⟨e4,own,tg' ++ [x],rfl,g5.trans (g6.trans g7),by rw [zd,yE]; rfl,⟨?_,fun j a' h'=>?_⟩,by rw [← hpw,Vd c],?_,?_⟩,?_⟩
     ·rw [List.length_set]; exact (List.length_set (as:=lf) (i:=X)).symm.trans bx5.len
     ·have na':a' ≠ lt:=fun z=>nta (by rw [← z]; exact List.mem_of_getElem? h')
      rw [zo na']
      by_cases e:j = X
      ·subst e
       cases h'.symm.trans haX
       rw [zd,zW lX]; rfl
      ·have ne:a' ≠ a:=fun z=>e (by
        have h1:as[j]? = as[X]?:=by rw [h',haX,z]
        exact (List.getElem?_inj (List.getElem?_eq_some_iff.mp h').1 nd).mp h1)
       have:=bx5.at_ j a' h'
       rw [zL (fun z=>e z.symm)] at this
       rw [zo ne,this,zL (fun z=>e z.symm)]
     ·rw [List.length_append]
      simp only [List.length_cons,List.length_nil] at hlen ⊢
      omega
     ·rw [List.length_cons] at o40'; omega
     ·show (match upd (upd H5 a (.lst (zp own))) lt (.lst (zp tg' ++ [.int (x:Int)])) a with | some (.lst xs)=>xs.length | _=>0) < (match H5 a with | some (.lst xs)=>xs.length | _=>0)
      rw [ta,hown]
      show (zp own).length < (zp (x :: own)).length
      rw [zx,zx]
      exact Nat.lt_succ_self _
   ·rw [decide_eq_false c]
    refine iteF ?_
    rw [X8 c] at hpw
    refine ⟨_,_,_,lf.set X own,tg',rfl,g5,hlt5,bx5,?_,by rw [List.length_set]; exact lfl,fun j=>?_,?_⟩
    ·rw [hst1,ms0,← hpw]
    ·by_cases e:j = X
     ·rw [e,zW lX]; exact o40'
     ·rw [zL (fun z=>e z.symm)]; exact lf40 j
    ·have h1:=lf40 X
     rw [Nat.add_mul]
     omega
  ·rintro σ H' Q1 Q2 hQ h
   obtain ⟨x1,e1,x2,e2,p,ys,f1,hq,f2,f3,k,hk,h⟩:=h
   exact ⟨x1,e1,x2,e2,p,ys,f1,hq,f2,f3,k,hk,hQ _ _ h⟩
 ·rintro σ H4 ⟨e4,e5,e6,lf,tg,rfl,g4,hlt4,bx4,hst,lfl,lf40,tg40⟩
  have zl:zs'.length = (vA cs).length:=by rw [es,List.length_map]; exact hzs3.len
  rw [zl,List.take_length] at hst
  refine ⟨_,rfl,lt,_,rfl,.inl ⟨SqL.of hlt4,fun r hr=>q _ _ ?_ so ⟨r,rfl,?_⟩⟩⟩
  ·refine (Grow.shrinkL (fun a h=>?_) (((g1.trans g3).wk.trans g4):Grow (lt :: as) H H4)).trans (Grow.new hr _)
   rcases List.mem_cons.mp h with rfl | h
   ·exact hlt0
   ·exact ha a h
  ·unfold xQ
   rw [hst]
   exact SqT.of zd
theorem zH:FnScope ["calls","masks","reached","following","taken","values","order","number","mask","hand","box","deed","begun","ended","answer","may_follow","left"] ["calls","masks","reached"] (zj (top 31)):=⟨rfl,rfl,rfl,by decide +kernel,rfl,by decide +kernel,by decide +kernel⟩
theorem jm (F:Fun K "one_more" "one_more" (top 31) f fd) (B:Blt mg) (qc0:zk P w K mg base n "made" ["deed","value"] (vk K))     :
  FnOk P w K mg base CX0 (n + 1) f fd ["calls","masks","reached"] (Zj P w K):=by
 refine F.ok zH wG (fun cdv A outer s H vs Q E hr h=>?_)
 obtain ⟨x,y,z,rfl,cs,m,am,ms,ar,kvs,E,hc,rfl,hm,rfl,har,ne,kc,es,ok,ev,few,q⟩:=h
 refine ⟨_,(ze (zr (i:=3) zH.nd rfl (Or.inl rfl) (W2 (P:=P) (w:=w) ptI ptT rfl rfl)) (ze (xk PassesOwn.never rfl (XE (pv 2)) (yK rfl (zm (yK rfl (zm (zi (i:=4) zH.nd rfl (Or.inl rfl)) (zm (zi (i:=5) zH.nd rfl (Or.inl rfl)) z9))) (zm (zi (i:=6) zH.nd rfl (Or.inl rfl)) z9))) (zh (xk PassesOwn.never rfl (XE (pv 1)) (yK rfl (zm (zi (i:=7) zH.nd rfl (Or.inl rfl)) (zm (zi (i:=8) zH.nd rfl (Or.inl rfl)) z9))) (ze (yY (zM z7 (pv 0) (pv 7) (fun _ _=>rfl)) (yK rfl (zm (zi (i:=9) zH.nd rfl (Or.inl rfl)) (zm (zi (i:=10) zH.nd rfl (Or.inl rfl)) (zm (zi (i:=11) zH.nd rfl (Or.inl rfl)) (zm (zi (i:=12) zH.nd rfl (Or.inl rfl)) (zm (zi (i:=13) zH.nd rfl (Or.inl rfl)) (zm (zi (i:=14) zH.nd rfl (Or.inl rfl)) z9)))))))) (ze (zr (i:=15) zH.nd rfl (Or.inl rfl) (xA (yT vY (zB Vi (zB Uz (pv 4) (pv 7)) zg) zg (zI _)) (xU (yT vY (zB Vi (pv 8) (pv 4)) (pv 8) (zI _))))) (zh (ya (PW.pt (vF (yC (pv 15)) (wC (zF vY (zM z7 (pv 5) (pv 10) (fun _ _=>rfl)) (pv 14) (zI _))))) (ze (zr (i:=16) zH.nd rfl (Or.inl rfl) (zB (wb (K:=K) rfl) (zB (wb (K:=K) rfl) (xJ (ui (K:=K) rfl) (pv 5) wD (wE (pv 10))) (z6 (za (zf qc0 hr rfl (za (pv 11) (za (pv 14) zb))) zb))) (xJ (ui (K:=K) rfl) (pv 5) (wE (zB yb (pv 10) zg)) wD))) (zh (W3 (p1:=ptI) (p2:=ptT) (P:=P) (w:=w) (K:=K) rfl rfl rfl (Room.u2 hr) (pv 3) (z6 (za (zB TQ (pv 4) (zB Vh zg (pv 7))) (za (pv 16) zb))) (zB (wb (K:=K) rfl) (pv 6) (z6 (za (pv 7) zb))) rfl))) zC))))))) (zh (zt (pv 3))))),?_⟩
 obtain ⟨rc,xs,rfl,hrc,hall⟩:=id hc
 refine zO (fun v H'=>∃ d,v = .ref d /\ H d = none /\ H' = upd H d (ndO ptI ptT P w d [])) (fun Kk hk=>fun d hd=>hk _ _ ⟨d,rfl,hd,rfl⟩) ?_
 rintro _ _ ⟨d,rfl,hd,rfl⟩
 have g0:=Grow.new (m:=[]) hd (ndO ptI ptT P w d [])
 have hd0:=zd (H:=H) (a:=d) (o:=ndO ptI ptT P w d [])
 have nda:d ≠ ar:=fun z=>by rw [z,har] at hd; cases hd
 have ndm:d ≠ am:=fun z=>by
  rw [z] at hd
  rcases hm with h | ⟨o,h⟩ <;> rw [h] at hd <;> cases hd
 have har0:=g0.keep _ _ (by simp) har
 have hm0:Rd (upd H d (ndO ptI ptT P w d [])) am (.dK (yW ms)):=hm.imp (fun z=>g0.keep _ _ (by simp) z) fun ⟨o,z⟩=>⟨o,g0.keep _ _ (by simp) z⟩
 generalize upd H d _ = H0 at g0 hd0 har0 hm0 ⊢
 refine ⟨_,rfl,ar,_,_,rfl,Tn P w ar kvs,.inl har0,fun o H1 hf1 g1 ho1=>?_⟩
 have om1:Om73 P w K H am ar d o ms kvs [] H1:=⟨g0.wk.trans (g1.mono (by simp)),hf1,hm0.imp (fun z=>by rw [ho1 am ne]; exact z) fun ⟨o,z⟩=>⟨o,g1.frz _ _ _ z⟩,[],by rw [ho1 d nda]; exact hd0,nofun,.nil⟩
 refine Tq (fun i σ H'=>(∃ e4 e5 e6,Sa73 σ (some (.ref rc)) (some (.ref am)) (some (.ref ar)) (some (.ref d)) e4 e5 e6) /\ Om73 P w K H am ar d o ms kvs ((E.take i).foldl (zX cs ms) []) H') ⟨⟨_,_,_,_,_,_,_,_,_,_,_,_,_,rfl⟩,om1⟩ (fun i σ H' _ z=>z.2.r) ?_ ?_
 ·rintro i p T σ H2 hp hT ⟨⟨e4,e5,e6,e7,e8,e9,e10,e11,e12,e13,e14,e15,e16,rfl⟩,om2⟩
  rw [List.getElem?_map] at hp
  obtain ⟨x,hx,rfl⟩:=Option.map_eq_some_iff.mp hp
  obtain ⟨e,he,hk,hn⟩:=es.get hx
  obtain ⟨v1,v2,hb,hv1,hv2⟩:=kc x (List.mem_of_getElem? hx)
  rw [hk] at hv1 hv2
  obtain rfl:v1 = V.int (e.1.1:Int):=hv1
  obtain ⟨rv,rfl,hrv⟩:=hv2
  obtain ⟨ro,ero,hro⟩:=hn
  rw [ero]
  have hi:=(List.getElem?_eq_some_iff.mp he).1
  have evE:=ev e (List.mem_of_getElem? he)
  have gT:=Grow.new (m:=[]) hT (.tup [V.ref x.2.1,.ref ro])
  have om3:=om2.grow gT
  have hTT:=zd (H:=H2) (a:=T) (o:=.tup [V.ref x.2.1,.ref ro])
  generalize upd H2 T _ = H3 at gT om3 hTT ⊢
  refine ⟨T,_,rfl,SqT.of hTT,rfl,_,_,rfl,x.2.1,_,rfl,om3.g.sqT hb,rfl,_,_,rfl,_,_,rfl,rfl,_,_,rfl,rfl,?_⟩
  try dsimp only
  refine ⟨_,rfl,am,_,_,rfl,Tl am (yW ms),om3.m,fun o2 H4 hf4 g4 ho4=>?_⟩
  obtain ⟨kv3,d1,d2,d3⟩:=om3.d
  have om4:Om73 P w K H am ar d o ms kvs ((E.take i).foldl (zX cs ms) []) H4:=⟨om3.g.trans (g4.mono (by simp)),g4.frz _ _ _ om3.r,.inr ⟨o2,hf4⟩,kv3,by rw [ho4 d ndm]; exact d1,d2.grow g4,d3.grow g4⟩
  clear d1 d2 d3 om3 om2
  refine Tq (fun j σ H'=>Sa73 σ (some (.ref rc)) (some (.ref am)) (some (.ref ar)) (some (.ref d)) (some (.int (e.1.1:Int))) (some (.ref rv)) (some (.ref ro)) /\ Om73 P w K H am ar d o ms kvs ((ms.take j).foldl (yi cs e) ((E.take i).foldl (zX cs ms) [])) H' /\ H' am = some (.frz o2 (.dK (yW ms)))) ⟨⟨_,_,_,_,_,_,_,_,_,_,rfl⟩,om4,hf4⟩ (fun j σ H' _ z=>z.2.2) ?_ ?_
  ·rintro j p2 T2 σ H5 hp2 hT2 ⟨⟨e7,e8,e9,e10,e11,e12,e13,e14,e15,e16,rfl⟩,om5,hf5⟩
   obtain ⟨nM,hnM,rfl⟩:=Va hp2
   obtain ⟨n,M⟩:=nM
   have hj:=(List.getElem?_eq_some_iff.mp hnM).1
   have hn':n < cs.length:=ok.lt _ (List.mem_of_getElem? hnM)
   have gT2:=Grow.new (m:=[]) hT2 (.tup [V.int (n:Int),.int ((M:Nat):Int)])
   have om6:=om5.grow gT2
   have hf6:=gT2.keep _ _ (by simp) hf5
   have hTT2:=zd (H:=H5) (a:=T2) (o:=.tup [V.int (n:Int),.int ((M:Nat):Int)])
   generalize upd H5 T2 _ = H6 at gT2 om6 hTT2 hf6 ⊢
   obtain ⟨zc,hzc,rz,rd,rfl,sz,sd⟩:=hall.getR (List.getElem?_eq_getElem hn')
   have ec:cg cs n = cs[n]:=yG (List.getElem?_eq_getElem hn')
   have oc:CallOk72 m (cg cs n):=ok.ok _ (rJ hn')
   rw [← ec] at sz sd
   refine ⟨T2,_,rfl,SqT.of hTT2,rfl,_,_,rfl,_,_,rfl,rfl,?_⟩
   try dsimp only
   refine ⟨_,rfl,_,rfl,rc,_,_,.ref rz,rfl,rfl,om6.g.sqT hrc,zw hzc,rz,_,rfl,om6.g.sqT sz,rfl,_,_,rfl,_,_,rfl,_,_,rfl,_,_,rfl,_,_,rfl,_,_,rfl,rfl,?_⟩
   try dsimp only
   refine zO (fun v H'=>v = .bl (decide (e.1.1.testBit n = false) && decide (M &&& e.1.1 = M)) /\ H' = H6) (fun Kk hk=>⟨_,rfl,_,rfl,_,_,rfl,rfl,by omega,_,_,rfl,rfl,rfl,_,rfl,?_⟩) ?_
   ·rw [X2]
    by_cases c1:e.1.1.testBit n = false
    ·rw [decide_eq_true c1]
     refine iteT ⟨_,rfl,_,rfl,_,_,rfl,rfl,_,rfl,rfl,?_⟩
     rw [X3]
     exact hk _ _ ⟨by rw [decide_eq_true c1]; rfl,rfl⟩
    ·rw [decide_eq_false c1]
     exact iteF (hk _ _ ⟨by rw [decide_eq_false c1]; rfl,rfl⟩)
   rintro _ H6 ⟨rfl,rfl⟩
   have tk:(ms.take (j + 1)).foldl (yi cs e) ((E.take i).foldl (zX cs ms) []) = yi cs e ((ms.take j).foldl (yi cs e) ((E.take i).foldl (zX cs ms) [])) (n,M):=by
    rw [yj hnM,List.foldl_append]; rfl
   generalize hF:(ms.take j).foldl (yi cs e) ((E.take i).foldl (zX cs ms) []) = F at om6 tk
   have flen:F.length < E.length * ms.length:=by rw [← hF]; exact Z9 hi hj
   generalize hc1:(decide (e.1.1.testBit n = false) && decide (M &&& e.1.1 = M)) = c1
   refine ⟨_,rfl,c1,rfl,?_⟩
   have stay:¬ w5 cs e n M = true -> Sa73 [some (.ref rc),some (.ref am),some (.ref ar),some (.ref d),some (.int (e.1.1:Int)),some (.ref rv),some (.ref ro),some (.int (n:Int)),some (.int ((M:Nat):Int)),some (.int (cg cs n).hand),some (.int (cg cs n).box),some (.ref rd),some (.int (cg cs n).begun),some (.int (cg cs n).ended),some (.int (cg cs n).answer),some (.bl c1),e16] (some (.ref rc)) (some (.ref am)) (some (.ref ar)) (some (.ref d)) (some (.int (e.1.1:Int))) (some (.ref rv)) (some (.ref ro)) /\ Om73 P w K H am ar d o ms kvs ((ms.take (j + 1)).foldl (yi cs e) ((E.take i).foldl (zX cs ms) [])) H6 /\ H6 am = some (.frz o2 (.dK (yW ms))):=fun hmay=>by
    refine ⟨⟨_,_,_,_,_,_,_,_,_,_,rfl⟩,?_,hf6⟩
    rw [tk]
    unfold yi
    rw [if_neg hmay]
    exact om6
   cases c1 with
   | false =>
    refine iteF (iteF ?_)
    exact stay (fun z=>by
     unfold w5 at z
     rw [hc1] at z; cases z)
   | true =>
    refine iteT ?_
    have b0:=oc.b0
    have b1:=oc.b1
    have hbx:(cg cs n).box.toNat < e.1.2.length:=by rw [evE.1]; omega
    have ebx:(cg cs n).box = ((cg cs n).box.toNat:Int):=(Int.toNat_of_nonneg b0).symm
    have hat:atI (e.1.2.map V.int) (cg cs n).box = some (.int (e.1.2.getD (cg cs n).box.toNat 0)):=by
     rw [ebx]
     refine zw ?_
     rw [List.getElem?_map,List.getElem?_eq_getElem hbx,Int.toNat_natCast,List.getD_eq_getElem?_getD,List.getElem?_eq_getElem hbx]
     rfl
    have hrv6:=om6.g.sqT hrv
    refine ⟨_,rfl,_,rfl,rv,_,_,_,rfl,rfl,hrv6,hat,_,rfl,rfl,_,rfl,?_⟩
    by_cases ca:e.1.2.getD (cg cs n).box.toNat 0 = (cg cs n).answer
    ·have may:w5 cs e n M = true:=by
      unfold w5
      rw [hc1,decide_eq_true ca]; rfl
     refine y4 (decide_eq_true (congrArg V.int ca)) ?_
     refine zO (fun v H'=>∃ rl,v = .ref rl /\ SqT K H' rl ((wg cs e.1.2 n).map V.int) /\ Grow [] H6 H') (fun Kk hk=>?_) ?_
     ·refine ⟨_,rfl,_,rfl,_,rfl,rv,_,rfl,hrv6,fun p1 H7 g7 h7=>⟨_,rfl,_,rfl,_,_,rfl,(cg cs n).deed,(cg cs n).answer,⟨rd,rfl,g7.sqT (om6.g.sqT sd)⟩,rfl,szl rfl,fun t7 ht7=>?_⟩⟩
      have gt7:=Grow.new (m:=[]) ht7 (.tup [.int ((cg cs n).deed.mk' (cg cs n).answer)])
      have cl1:∀ lo hi,(cutV (e.1.2.map V.int) lo hi).length <= 16:=fun lo hi=>by
       have:=xK (e.1.2.map V.int) lo hi
       rw [List.length_map,evE.1] at this
       exact Nat.le_trans this ok.m16
      refine ⟨p1,t7,_,_,rfl,rfl,gt7.sqT h7,SqT.of zd,?_,fun p2 H8 g8 h8=>?_⟩
      ·exact le72 (Nat.le_trans (Nat.add_le_add (cl1 _ _) (Nat.le_refl 1)) (by decide))
      refine ⟨_,rfl,_,rfl,_,_,rfl,rfl,_,rfl,rv,_,rfl,g8.sqT (gt7.sqT (g7.sqT hrv6)),fun p3 H9 g9 h9=>⟨p2,p3,_,_,rfl,rfl,g9.sqT h8,h9,?_,fun p4 H10 g10 h10=>hk _ _ ⟨p4,rfl,?_,g7.trans (gt7.trans (g8.trans (g9.trans g10)))⟩⟩⟩
      ·rw [List.length_append]
       exact le72 (Nat.le_trans (Nat.add_le_add (Nat.add_le_add (cl1 _ _) (Nat.le_refl 1)) (cl1 _ _)) (by decide))
      ·have e1:(cg cs n).box + 1 = (((cg cs n).box.toNat + 1:Nat):Int):=by omega
       rw [e1,ebx,Int.toNat_natCast,Y0,Y1,X4 hbx] at h10
       exact h10
     rintro _ H7 ⟨rl,rfl,hrl,g7⟩
     have om7:=om6.grow g7
     have hf7:=g7.keep _ _ (by simp) hf6
     refine ⟨_,rfl,_,rfl,szl rfl,fun t8 ht8=>?_⟩
     have gt8:=Grow.new (m:=[]) ht8 (.tup [.int (n:Int)])
     have hro8:=gt8.sqT (om7.g.sqT hro)
     refine ⟨ro,t8,_,_,rfl,rfl,hro8,SqT.of zd,?_,fun po H9 g9 h9=>?_⟩
     ·rw [zx]; exact le72 (by show _ + 1 <= 5000; have:=evE.2; omega)
     have om9:=(om7.grow gt8).grow g9
     have hf9:=g9.keep _ _ (by simp) (gt8.keep _ _ (by simp) hf7)
     refine ⟨_,rfl,_,rfl,_,rfl,_,_,rfl,rfl,⟨by omega,by have:=ok.c40; omega,by decide⟩,_,_,rfl,rfl,_,rfl,szl rfl,fun tkk htk=>?_⟩
     have gtk:=Grow.new (m:=[]) htk (.tup [.int (Builtin.bitOr (e.1.1:Int) (1 * 2 ^ ((n:Int)).toNat)),.ref rl])
     have om10:=om9.grow gtk
     have hf10:=gtk.keep _ _ (by simp) hf9
     have htk10:=zd (H:=H9) (a:=tkk) (o:=.tup [.int (Builtin.bitOr (e.1.1:Int) (1 * 2 ^ ((n:Int)).toNat)),.ref rl])
     have hrl10:=gtk.sqT (g9.sqT (gt8.sqT hrl))
     have h10:=gtk.sqT h9
     generalize upd H9 tkk _ = H10 at om10 hf10 htk10 hrl10 h10 ⊢
     rw [Vb] at htk10
     obtain ⟨kv10,d1,d2,d3⟩:=om10.d
     have kat:KAt ptI ptT K H10 (((e.1.1 ||| 2 ^ n:Nat):Int),wg cs e.1.2 n) tkk:=⟨_,_,SqT.of htk10,rfl,rl,rfl,hrl10⟩
     have nums:yN K H10 (.ref po) (e.2 ++ [n]):=⟨po,rfl,by rw [yE]; exact h10⟩
     refine ⟨d,kv10,_,tkk,rfl,rfl,d1,d2,kat,?_,⟨_,_,_,_,_,_,_,_,_,_,rfl⟩,?_,?_⟩
     ·rw [Paired.length d3]
      exact Nat.lt_of_lt_of_le flen few
     ·have gs:Grow [d] H10 (upd H10 d (ndO ptI ptT P w d (yA kv10 (((e.1.1 ||| 2 ^ n:Nat):Int),wg cs e.1.2 n) tkk (.ref po)))):=Grow.setE73 d1 (by simp)
      refine ⟨om10.g.trans (gs.mono (by simp)),gs.frz _ _ _ om10.r,om10.m.imp (fun z=>gs.keep _ _ (by simpa using Ne.symm ndm) z) (fun ⟨o,z⟩=>⟨o,gs.frz _ _ _ z⟩),_,zd,(d2.store kat).grow gs,?_⟩
      rw [tk]
      unfold yi
      rw [if_pos may]
      exact (d3.store nums).grow gs
     ·rw [zo (Ne.symm ndm)]; exact hf10
    ·refine xi (decide_eq_false (fun z=>ca (V.int.inj z))) ?_
     exact stay (fun z=>by
      unfold w5 at z
      rw [decide_eq_false ca,Bool.and_false] at z; cases z)
  ·rintro σ H5 ⟨⟨e7,e8,e9,e10,e11,e12,e13,e14,e15,e16,rfl⟩,om5,_⟩
   rw [List.length_map,show (yW ms).length = ms.length from List.length_map ..,List.take_length] at om5
   refine ⟨⟨_,_,_,_,_,_,_,_,_,_,_,_,_,rfl⟩,?_⟩
   rw [yj he,List.foldl_append]
   exact om5
 ·rintro σ H2 ⟨⟨e4,e5,e6,e7,e8,e9,e10,e11,e12,e13,e14,e15,e16,rfl⟩,om2⟩
  rw [List.length_map,show kvs.length = E.length from Paired.length es,List.take_length] at om2
  obtain ⟨kv2,d1,d2,d3⟩:=om2.d
  exact ⟨_,rfl,q d kv2 H2 hd (om2.g.less fun b hb=>by
   simp only [List.mem_cons,List.not_mem_nil,or_false] at hb ⊢
   rcases hb with rfl | rfl | rfl
   ·exact .inl (.inl rfl)
   ·exact .inl (.inr rfl)
   ·exact .inr hd) om2.m d1 d2 d3⟩
theorem xh:FnScope ["board","calls","masks","reached","number","orders"] ["board","calls","masks"] (zj (top 32)):=⟨rfl,rfl,rfl,by decide +kernel,rfl,by decide +kernel,by decide +kernel⟩
theorem jn (F:Fun K "order_by" "order_by" (top 32) f fd) (B:Blt mg) (qc0:zk P w K mg base n "one_more" ["calls","masks","reached"] (Zj P w K))     :
  FnOk P w K mg base CX0 (n + 1) f fd ["board","calls","masks"] (XZ K):=by
 refine F.ok xh wG (fun cdv A outer s H vs Q E hr h=>?_)
 obtain ⟨x,y,z,rfl,b,cs,am,ms,hb,hc,rfl,hm,ok,q⟩:=h
 refine ⟨_,(ze (zr (i:=3) xh.nd rfl (Or.inl rfl) (XC (p1:=ptI) (p2:=ptT) (P:=P) (w:=w) (K:=K) rfl rfl rfl (Room.u2 hr) (z6 (za zg (za (pv 0) zb))) (z6 zb))) (ze (xk PassesOwn.never rfl (Ue (pv 2)) (zi (i:=4) xh.nd rfl (Or.inl rfl)) (zh (zr (i:=3) xh.nd rfl (Or.inl rfl) (zf qc0 hr rfl (za (pv 1) (za (pv 2) (za (pv 3) zb))))))) (ze (zr (i:=5) xh.nd rfl (Or.inl rfl) (qV hr rfl B.list (pv 3))) (zh (zt (jv (Wm (pv 5) (fun _=>rfl)) (zM zZ (pv 5) zg (fun _ _=>rfl)) xY)))))),?_⟩
 obtain ⟨rb,rfl,hrb⟩:=id hb
 obtain ⟨rc,xs,rfl,hrc,hall⟩:=id hc
 refine zO (fun v H'=>∃ d kvs,v = .ref d /\ H d = none /\ H' d = some (ndO ptI ptT P w d kvs) /\ NDc ptI ptT K H' kvs /\ yR K H' kvs [((0,b),[])] /\ Grow [] H H') (fun Kk hk=>fun p hp=>⟨_,rfl,szl rfl,fun tk htk=>⟨szl rfl,fun te hte=>?_⟩⟩) ?_
 ·have g0:=Grow.new (m:=[]) hp (ndO ptI ptT P w p [])
  have gk:=Grow.new (m:=[]) htk (.tup [V.int 0,.ref rb])
  have ge:=Grow.new (m:=[]) hte (.tup [])
  have hp1:upd (upd (upd H p (ndO ptI ptT P w p [])) tk (.tup [V.int 0,.ref rb])) te (.tup []) p = some (ndO ptI ptT P w p []):=ge.keep _ _ (by simp) (gk.keep _ _ (by simp) zd)
  have gs:Grow [p] (upd (upd (upd H p (ndO ptI ptT P w p [])) tk (.tup [V.int 0,.ref rb])) te (.tup [])) (upd (upd (upd (upd H p (ndO ptI ptT P w p [])) tk (.tup [V.int 0,.ref rb])) te (.tup [])) p (ndO ptI ptT P w p [(((0:Int),b),tk,.ref te)])):=Grow.setE73 hp1 (by simp)
  have kat:KAt ptI ptT K (upd (upd (upd H p (ndO ptI ptT P w p [])) tk (.tup [V.int 0,.ref rb])) te (.tup [])) ((0:Int),b) tk:=⟨_,_,ge.sqT (SqT.of zd),rfl,rb,rfl,(g0.trans (gk.trans ge)).sqT hrb⟩
  refine ⟨hp1,tk,((0:Int),b),rfl,kat,hk _ _ ⟨p,_,rfl,hp,zd,?_,?_,Grow.shrink hp ((g0.trans (gk.trans ge)).wk.trans gs)⟩⟩
  ·intro x hx
   rw [List.mem_singleton.mp hx]
   exact kat.grow gs
  ·exact .cons ⟨rfl,te,rfl,gs.sqT (SqT.of zd)⟩ .nil
 rintro _ H0 ⟨d,kvs0,rfl,hd,hd0,kc0,es0,g0⟩
 have nda:d ≠ am:=fun z=>by
  rw [z] at hd
  rcases hm with h | ⟨o,h⟩ <;> rw [h] at hd <;> cases hd
 have hm0:Rd H0 am (.dK (yW ms)):=hm.imp (fun z=>g0.keep _ _ (by simp) z) fun ⟨o,z⟩=>⟨o,g0.keep _ _ (by simp) z⟩
 refine ⟨_,rfl,am,_,_,rfl,Tl am (yW ms),hm0,fun o H1 hf1 g1 ho1=>?_⟩
 refine Sw (fun i σ H'=>∃ (r:Addr) (kvs:List ((Int × List Int) × Addr × V)) (e4 e5:Option V),σ = [some (.ref rb),some (.ref rc),some (.ref am),some (.ref r),e4,e5] /\ Grow [am] H H' /\ H' am = some (.frz o (.dK (yW ms))) /\ H' r = some (ndO ptI ptT P w r kvs) /\ am ≠ r /\ H r = none /\ NDc ptI ptT K H' kvs /\ yR K H' kvs (wy cs ms b i)) ⟨d,kvs0,_,_,rfl,g0.wk.trans g1,hf1,by rw [ho1 d nda]; exact hd0,Ne.symm nda,hd,kc0.grow g1,es0.grow g1⟩ (fun i σ H' _ z=>by obtain ⟨_,_,_,_,_,_,h,_⟩:=z; exact h) ?_ ?_
 ·rintro i p σ H2 hp ⟨r,kvs,e4,e5,rfl,g2,hf2,hr2,nr,hr0,kc2,es2⟩
  have hi:=(List.getElem?_eq_some_iff.mp hp).1
  rw [List.length_map,show (yW ms).length = ms.length from List.length_map ..] at hi
  have few8:=ok.few
  try dsimp only
  refine ⟨_,rfl,_,rfl,_,rfl,_,_,_,rfl,cs,b.length,am,ms,r,kvs,wy cs ms b i,⟨rc,xs,rfl,g2.sqT hrc,g2.callsR hall⟩,rfl,.inr ⟨o,hf2⟩,rfl,hr2,nr,kc2,es2,ok,Vc (by omega),X7 ok.few hi,fun r' kvs' H3 hr' g3 hm3 hr3 kc3 es3=>⟨r',kvs',_,_,rfl,?_,g3.frz _ _ _ hf2,hr3,fun z=>?_,?_,kc3,es3⟩⟩
  ·exact (g2.mono (by simp):Grow [am,r] H H2).trans g3 |>.less fun c hc=>by
    simp only [List.mem_cons,List.not_mem_nil,or_false] at hc ⊢
    rcases hc with rfl | rfl
    ·exact .inl rfl
    ·exact .inr hr0
  ·rw [← z,hf2] at hr'; cases hr'
  ·refine g2.free (fun z=>?_) hr'
   rw [List.mem_singleton.mp z,hf2] at hr'; cases hr'
 ·rintro σ H2 ⟨r,kvs,e4,e5,rfl,g2,hf2,hr2,nr,hr0,kc2,es2⟩
  rw [List.length_map,show (yW ms).length = ms.length from List.length_map ..] at es2
  try dsimp only
  have hl:=Paired.length es2
  refine zO (fun v H'=>∃ l,v = .ref l /\ H' l = some (.lst (kvs.map fun x=>x.2.2)) /\ Grow [am] H H' /\ yR K H' kvs (wy cs ms b ms.length)) (fun Kk hk=>⟨_,rfl,r,_,_,rfl,by rw [List.length_map,hl]; exact Ya ok.few,Tn P w r kvs,.inl hr2,fun o' H3 hf3 g3 ho3 l hl3=>hk _ _ ⟨l,rfl,by rw [zd,List.map_map]; rfl,?_,?_⟩⟩) ?_
  ·exact ((g2.mono (by simp):Grow [am,r] H H2).trans ((g3.mono (by simp)).trans (Grow.new hl3 _))).less fun c hc=>by
    simp only [List.mem_cons,List.not_mem_nil,or_false] at hc ⊢
    rcases hc with rfl | rfl
    ·exact .inl rfl
    ·exact .inr hr0
  ·exact (es2.grow g3).grow (Grow.new (m:=[]) hl3 _)
  rintro _ H3 ⟨l,rfl,hl3,g3,es3⟩
  refine ⟨_,rfl,_,.inl ⟨_,SqL.of hl3,rfl⟩,?_⟩
  unfold qL at q
  generalize wy cs ms b ms.length = E at es3 q
  cases es3 with
  | nil=>exact iteF (q _ _ g3 rfl)
  | @cons x e xs' es' hx t =>
   refine iteT ⟨_,rfl,l,_,0,x.2.2,rfl,rfl,SqL.of hl3,zw (j:=0) rfl,q _ _ g3 ?_⟩
   exact hx.2
theorem Yj:FnScope ["numbers"] ["numbers"] (zj (top 29)):=⟨rfl,rfl,rfl,by decide +kernel,rfl,by decide +kernel,by decide +kernel⟩
theorem Yk (F:Fun K "as_mask" "as_mask" (top 29) f fd) (B:Blt mg)   (g_sum:mg "sum" = none)   :
  FnOk P w K mg base CX0 (n + 1) f fd ["numbers"] (r9 K):=by
 refine F.ok Yj wF (fun cdv A outer s H vs Q E hr h=>?_)
 obtain ⟨x,rfl,ns,hn,pw,lt,q⟩:=h
 refine ⟨_,(zh (zt (zn (Y6 rfl) rfl g_sum TZ (za (zU (CSc.of (N':=["number"]) (sub:=[none]) (zj (top 29)) ["numbers"] rfl rfl (by decide +kernel) rfl) rfl (xv (pv 0)) (fun _ _ _ _ _ _=>zi (i:=0) (show (["number"]:List Str).Nodup by decide +kernel) rfl (Or.inl rfl)) (fun _ _ _ _ _ _=>zT) (fun _ _ _ _ _ _=>(zB Vh zg (pv 0)))) zb)))),?_⟩
 obtain ⟨r,rfl,hr⟩:=hn
 have n40:=Tz pw lt
 rw [yh] at hr
 refine ⟨_,rfl,r,rfl,⟨_,hr⟩,ZE (fun i=>1 * 2 ^ i.toNat) hr (by rw [List.length_map]; omega) ?_ ?_⟩
 ·rintro i H' R hi g kk
  obtain ⟨k,hk,rfl⟩:=List.mem_map.mp hi
  have:=lt k hk
  exact ⟨_,rfl,_,_,rfl,rfl,⟨by omega,by omega,by decide⟩,kk _ (Grow.refl _ _)⟩
 ·rintro H' l g hl
  refine ⟨l,_,rfl,SqL.of zd,?_⟩
  rw [qa,jW rfl pw]
  exact q _ (g.trans (Grow.new hl _))
theorem yQ:FnScope ["calls","numbers","masks","number","begun"] ["calls","numbers"] (zj (top 30)):=⟨rfl,rfl,rfl,by decide +kernel,rfl,by decide +kernel,by decide +kernel⟩
theorem uQ (F:Fun K "ahead_masks" "ahead_masks" (top 30) f fd) (B:Blt mg) (qc0:zk P w K mg base n "as_mask" ["numbers"] (r9 K))     :
  FnOk P w K mg base CX0 (n + 1) f fd ["calls","numbers"] (tM K):=by
 refine F.ok yQ z3 (fun cdv A outer s H vs Q E hr h=>?_)
 obtain ⟨x,y,rfl,cs,ns,hc,hn,pw,lt,c40,q⟩:=h
 refine ⟨_,(ze (zr (i:=2) yQ.nd rfl (Or.inl rfl) WP) (ze (xk PassesOwn.never rfl (xv (pv 1)) (zi (i:=3) yQ.nd rfl (Or.inl rfl)) (ze (zr (i:=4) yQ.nd rfl (Or.inr rfl) (zM z7 (zM z7 (pv 0) (pv 3) (fun _ _=>rfl)) zg (fun _ _=>rfl))) (zh (V6 (Room.u173 hr) (pv 2) (pv 3) (zf qc0 hr rfl (za (zU (CSc.of (N':=["other","calls","begun"]) (sub:=[none,some 0,some 4]) (zj (top 30)) ["calls","numbers","masks","number","begun"] rfl rfl (by decide +kernel) rfl) rfl (xv (pv 1)) (fun _ _ _ _ _ _=>zi (i:=0) (show (["other","calls","begun"]:List Str).Nodup by decide +kernel) rfl (Or.inl rfl)) (fun _ _ _ _ _ _=>(vR (zF tU (zM (wH (K:=K) rfl) (zM (wH (K:=K) rfl) (pv 1) (pv 0) (fun _ _=>rfl)) zg (fun _ _=>rfl)) (pv 2) (zI _)))) (fun _ _ _ _ _ _=>(pv 0))) zb)) rfl)))) (zh (zt (pv 2))))),?_⟩
 obtain ⟨rc,xs,rfl,hrc,hall⟩:=id hc
 obtain ⟨rn,rfl,hrn⟩:=hn
 have n40:=Tz pw fun k hk=>Nat.lt_of_lt_of_le (lt k hk) c40
 have nd:ns.Nodup:=pw.imp fun h=>Nat.ne_of_lt h
 refine zO (fun v H'=>∃ d,v = .ref d /\ H d = none /\ H' = upd H d (.dK [])) (fun Kk hk=>fun d hd=>hk _ _ ⟨d,rfl,hd,rfl⟩) ?_
 rintro _ _ ⟨d,rfl,hd,rfl⟩
 have g0:=Grow.new (m:=[]) hd (.dK [])
 refine ⟨_,rfl,rn,rfl,⟨_,g0.sqL hrn⟩,tS (xs:=zp ns) (fun i σ H'=>∃ (e3 e4:Option V),σ = [some (.ref rc),some (.ref rn),some (.ref d),e3,e4] /\ H' d = some (.dK (yW ((wK cs ns).take i))) /\ Grow [d] H H') ⟨_,_,rfl,zd,g0.wk⟩ (fun i σ H' _ z=>by obtain ⟨_,_,_,_,g⟩:=z; exact (Grow.shrink hd g).sqL hrn) ?_ ?_⟩
 ·rintro i x σ H1 hx ⟨e3,e4,rfl,hd1,g1⟩
  obtain ⟨k,hki,rfl⟩:=ye hx
  have hk':=lt k (List.mem_of_getElem? hki)
  have hi:=(List.getElem?_eq_some_iff.mp hki).1
  obtain ⟨z,hz,rz,rd,rfl,sz,sd⟩:=hall.getR (List.getElem?_eq_getElem hk')
  have ec:cg cs k = cs[k]:=yG (List.getElem?_eq_getElem hk')
  try dsimp only
  refine zO (fun v H'=>v = .int (cg cs k).begun /\ H' = H1) (fun Kk hk=>⟨_,rfl,_,rfl,rc,_,_,.ref rz,rfl,rfl,g1.sqT hrc,zw hz,rz,_,3,.int cs[k].begun,rfl,rfl,g1.sqT sz,zw (j:=3) rfl,hk _ _ ⟨by rw [ec],rfl⟩⟩) ?_
  rintro _ H1 ⟨rfl,rfl⟩
  have hrn1:=(Grow.shrink hd g1).sqL hrn
  rw [yh] at hrn1
  refine ⟨_,rfl,rn,rfl,⟨_,hrn1⟩,VY (fun j=>decide ((cg cs j.toNat).ended < (cg cs k).begun)) hrn1 (by rw [List.length_map]; omega) ?_ (fun j H2 R hj g2 kk=>⟨_,rfl,kk _ (Grow.refl _ _)⟩) ?_⟩
  ·rintro j' H2 R hj0 g2 kk
   obtain ⟨j,hj,rfl⟩:=List.mem_map.mp hj0
   have hj':=lt j hj
   obtain ⟨z2,hz2,rz2,rd2,rfl,sz2,_⟩:=hall.getR (List.getElem?_eq_getElem hj')
   have ec2:cg cs j = cs[j]:=yG (List.getElem?_eq_getElem hj')
   refine ⟨_,rfl,_,rfl,rc,_,_,.ref rz2,rfl,rfl,(g1.trans g2.wk).sqT hrc,zw hz2,rz2,_,4,.int cs[j].ended,rfl,rfl,(g1.trans g2.wk).sqT sz2,zw (j:=4) rfl,_,rfl,_,_,rfl,rfl,_,rfl,?_⟩
   rw [← ec2]
   exact kk _ (Grow.refl _ _)
  ·rintro H2 l g2 hl
   have ef:((ns.map fun k:Nat=>(k:Int)).filter fun j=>decide ((cg cs j.toNat).ended < (cg cs k).begun)) = (uo cs ns k).map fun k:Nat=>(k:Int):=by
    unfold uo
    rw [List.filter_map]
    congr 1
   rw [ef,← yh]
   have g3:=g2.trans (Grow.new (m:=[]) hl (.lst (zp (uo cs ns k))))
   have hl3:=zd (H:=H2) (a:=l) (o:=.lst (zp (uo cs ns k)))
   generalize upd H2 l _ = H3 at g3 hl3 ⊢
   refine ⟨_,rfl,uo cs ns k,⟨l,rfl,SqL.of hl3⟩,pw.sublist List.filter_sublist,fun m hm=>Nat.lt_of_lt_of_le (lt m (List.mem_filter.mp hm).1) c40,fun H4 g4=>?_⟩
   have hd4:=(g3.trans g4).keep _ _ (by simp) hd1
   have nk:k ∉ ((wK cs ns).take i).map (·.1):=by
    rw [List.map_take,up]
    intro z
    obtain ⟨j,hj⟩:=List.getElem?_of_mem z
    have hj2:=(List.getElem?_eq_some_iff.mp hj).1
    rw [List.length_take] at hj2
    rw [List.getElem?_take_of_lt (by omega)] at hj
    have:=(List.getElem?_inj (by omega) nd).mp (hj.trans hki.symm)
    omega
   have hat:(wK cs ns)[i]? = some (k,mk73 (uo cs ns k)):=by
    unfold wK; rw [List.getElem?_map,hki]; rfl
   refine ⟨_,rfl,_,rfl,d,_,rfl,DPut.k (k:=Sum.inl (k:Int)) hd4 ?_,⟨_,_,rfl,?_,g1.trans ((g3.trans g4).wk.trans (Grow.setK73 hd4 (by simp)))⟩⟩
   ·unfold yW
    rw [List.length_map,List.length_take,w6]
    exact lt72 (by omega)
   ·rw [zd,W9 nk,yj hat]
 ·rintro σ H1 ⟨e3,e4,rfl,hd1,g1⟩
  rw [zx,List.take_of_length_le (by rw [w6]; exact Nat.le_refl _)] at hd1
  exact ⟨_,rfl,q d _ hd (Grow.shrink hd g1) hd1⟩
theorem uI:FnScope ["board","calls","orders"] ["board","calls"] (zj (top 34)):=⟨rfl,rfl,rfl,by decide +kernel,rfl,by decide +kernel,by decide +kernel⟩
theorem jo (F:Fun K "an_order" "an_order" (top 34) f fd) (B:Blt mg) (qc0:zk P w K mg base n "merged" ["calls","orders"] (uB K)) (qc1:zk P w K mg base n "by_boxes" ["board","calls"] (sL K)) (qc2:zk P w K mg base n "order_by" ["board","calls","masks"] (XZ K)) (qc3:zk P w K mg base n "ahead_masks" ["calls","numbers"] (tM K)) (qc4:zk P w K mg base n "need_calls" ["board","thing"] (ul K))     :
  FnOk P w K mg base CX0 (n + 1) f fd ["board","calls"] (w9 K):=by
 refine F.ok uI z3 (fun cdv A outer s H vs Q E hr h=>?_)
 obtain ⟨x,y,rfl,b,cs,hb,b1,b16,hc,ok,q⟩:=h
 refine ⟨_,(ze (x6 (zf qc4 hr rfl (za (pv 0) (za (pv 1) zb)))) (ze (vT (i:=2) uI.nd rfl rfl (CSc.of (N':=["numbers","board","calls"]) (sub:=[none,some 0,some 1]) (zj (top 34)) ["board","calls","orders"] rfl rfl (by decide +kernel) rfl) rfl (xv (zf qc1 hr rfl (za (pv 0) (za (pv 1) zb)))) (fun _ _ _ _ _ _=>zi (i:=0) (show (["numbers","board","calls"]:List Str).Nodup by decide +kernel) rfl (Or.inl rfl)) (fun _ _ _ _ _ _=>zT) (fun _ _ _ _ _ _=>(zf qc2 hr rfl (za (pv 1) (za (pv 2) (za (zf qc3 hr rfl (za (pv 2) (za (pv 0) zb))) zb)))))) (zh (zt (jv (zF (Z8 (K:=K) rfl hr) xY (pv 2) (by with_unfolding_all rfl)) xY (zf qc0 hr rfl (za (pv 1) (za (pv 2) zb)))))))),?_⟩
 refine ⟨_,rfl,_,rfl,_,_,rfl,b,cs,hb,b1,b16,hc,ok,fun H0 g0=>c_nx ?_⟩
 refine zO (fun v H'=>∃ l vs,v = .ref l /\ H' l = some (.lst vs) /\ AllR (yS K H') vs ((List.range b.length).map (yu cs b)) /\ Grow [] H0 H') (fun Kk hk=>⟨_,rfl,_,rfl,_,_,rfl,b,cs,g0.board hb,g0.calls72 hc,b16,ok,fun lz zs H1 g1 hz0 hz hbx=>⟨lz,rfl,⟨_,SqL.of hz⟩,wp (xs:=zs) (fun i ys H'=>AllR (yS K H') ys (((List.range b.length).map (yu cs b)).take i) /\ Grow [] H1 H') ⟨trivial,Grow.refl _ _⟩ (fun i ys H' z=>SqL.of (z.2.keep _ _ (by simp) hz)) ?_ ?_⟩⟩) ?_
 ·rintro i z ys H2 hzi ⟨hy,g2⟩
  obtain ⟨ns,hns,az,rfl,haz⟩:=hbx.get hzi
  rw [List.getElem?_map] at hns
  obtain ⟨i',hi',rfl⟩:=Option.map_eq_some_iff.mp hns
  have hi:=(List.getElem?_eq_some_iff.mp hi').1
  rw [List.length_range] at hi
  rw [List.getElem?_range hi] at hi'
  obtain rfl:i = i':=Option.some.inj hi'
  have g12:=g1.trans g2
  refine ⟨_,rfl,_,rfl,_,rfl,_,rfl,_,_,rfl,cs,nb73 cs i,(g0.trans g12).calls72 hc,⟨az,rfl,SqL.of (g2.keep _ _ (by simp) haz)⟩,V4,fun k hk=>(xo.mp hk).1,ok.len,fun d H3 hd3 g3 hd=>?_⟩
  refine ⟨_,_,_,rfl,b,cs,d,_,(g0.trans (g12.trans g3)).board hb,(g0.trans (g12.trans g3)).calls72 hc,rfl,.inl hd,TB b16 ok,fun v H4 g4 hv=>⟨?_,?_,g2.trans (Grow.shrink hd3 (g3.wk.trans g4))⟩⟩
  ·have:=hy.len
   rw [this,List.length_take,List.length_map,List.length_range]
   exact lt72 (by omega)
  ·rw [yj (x:=yu cs b i) (by rw [List.getElem?_map,List.getElem?_range hi]; rfl)]
   exact (AllR.at73 (Grow.shrink hd3 (g3.wk.trans g4)) hy).app (AllR.one hv)
 ·rintro ys H2 ⟨hy,g2⟩ l hl
  have zl:=hbx.len
  rw [zl,List.length_map,List.length_range,List.take_of_length_le (by rw [List.length_map,List.length_range]; exact Nat.le_refl _)] at hy
  have gn:=Grow.new (m:=[]) hl (.lst ys)
  exact hk _ _ ⟨l,ys,rfl,zd,AllR.at73 gn hy,g1.trans (g2.trans gn)⟩
 rintro _ H1 ⟨l,vs,rfl,hl1,hall,g1⟩
 obtain ⟨n1,n2⟩:=tO hall
 refine ⟨_,rfl,rfl,l,vs,rfl,SqL.of hl1,n2,_,rfl,?_⟩
 rw [n1]
 have ea:((List.range b.length).map (yu cs b)).all Option.isSome = (List.range b.length).all fun x=>(yu cs b x).isSome:=by rw [List.all_map]; rfl
 by_cases c:((List.range b.length).all fun x=>(yu cs b x).isSome) = true
 ·rw [ea,c]
  refine iteF ?_
  have hn:=qc hall (by rw [ea]; exact c)
  rw [List.map_map] at hn
  have ln:((List.range b.length).map (((·.getD []):Option (List Nat) -> List Nat) ∘ yu cs b)).length = b.length:=by rw [List.length_map,List.length_range]
  refine ⟨_,rfl,_,rfl,_,_,rfl,cs,l,vs,_,(g0.trans g1).calls72 hc,rfl,SqL.of hl1,hn,by rw [ln]; exact ok,by rw [ln]; exact b16,fun o ho=>?_,fun v H2 g2 so hv=>q _ _ (g0.trans (g1.trans g2)) (fun _=>so) ?_⟩
  ·obtain ⟨x,hx,rfl⟩:=List.mem_map.mp ho
   obtain ⟨o,eo⟩:=Option.isSome_iff_exists.mp (List.all_eq_true.mp c x hx)
   show ((yu cs b x).getD []).length <= 40
   rw [eo]
   have h1:=(uA eo).1.length_eq
   have h2:=ok.few x
   rw [sC] at h1
   show o.length <= 40
   omega
  ·unfold yt
   rw [if_pos c]
   exact hv
 ·rw [ea,Bool.eq_false_iff.mpr c]
  refine iteT (q _ _ (g0.trans g1) ?_ ?_)
  ·intro z
   unfold yt at z
   rw [if_neg c] at z; cases z
  ·unfold yt
   rw [if_neg c]; rfl
theorem zP:FnScope ["_law_pot_here","_law_board","_law_calls","_law_order","_law_box","_law_left","_law_some","_law_found"] ["_law_pot_here","_law_board","_law_calls","_law_order"] (zj (top 52)):=⟨rfl,rfl,rfl,by decide +kernel,rfl,by decide +kernel,by decide +kernel⟩
theorem wn (F:Fun K "_law_is_less_right" "_law_is_less_right" (top 52) f fd) (B:Blt mg) (qc0:zk P w K mg base n "fits" ["board","calls","order"] (wc K)) (qc1:zk P w K mg base n "an_order" ["board","calls"] (w9 K)) (qc2:zk P w K mg base n "_law_take" ["_law_pot_here","_law_many"] (yM K))  (g_enumerate:mg "enumerate" = none)   :
  FnOk P w K mg base CX0 (n + 1) f fd ["_law_pot_here","_law_board","_law_calls","_law_order"] (qh K):=by
 refine F.ok zP vn (fun cdv A outer s H vs Q E hr h=>?_)
 obtain ⟨x,y,z,u,rfl,p,b,cs,o,rfl,pp,hb,b1,b16,hc,ok,ho,hf,q⟩:=h
 refine ⟨_,(ze (zr (i:=4) zP.nd rfl (Or.inr rfl) (zf qc2 hr rfl (za (pv 0) (za (zn zq rfl B.len y0 (za (pv 1) zb)) zb)))) (ze (zr (i:=5) zP.nd rfl (Or.inr rfl) (zU (CSc.of (N':=["_law_k","_law_call","_law_box"]) (sub:=[none,none,some 4]) (zj (top 52)) ["_law_pot_here","_law_board","_law_calls","_law_order","_law_box","_law_left","_law_some","_law_found"] rfl rfl (by decide +kernel) rfl) rfl (se true (K:=K) rfl rfl g_enumerate (za (pv 2) zb)) (fun _ _ _ _ _ _=>YY (K:=K) 2 rfl rfl (zm (zi (i:=0) (show (["_law_k","_law_call","_law_box"]:List Str).Nodup by decide +kernel) rfl (Or.inl rfl) (Or.inr rfl)) (zm (zi (i:=1) (show (["_law_k","_law_call","_law_box"]:List Str).Nodup by decide +kernel) rfl (Or.inl rfl) (Or.inr rfl)) z9)) rfl rfl) (fun _ _ _ _ _ _=>(vR (zF Yx (zM (wH (K:=K) rfl) (pv 1) zg (fun _ _=>rfl)) (pv 2) (zI _)))) (fun _ _ _ _ _ _=>(pv 0)))) (ze (zr (i:=6) zP.nd rfl (Or.inl rfl) (zQ zN rfl B.tuple yr (za (zU (CSc.of (N':=["_law_k","_law_calls"]) (sub:=[none,some 2]) (zj (top 52)) ["_law_pot_here","_law_board","_law_calls","_law_order","_law_box","_law_left","_law_some","_law_found"] rfl rfl (by decide +kernel) rfl) rfl (xv (pv 5)) (fun _ _ _ _ _ _=>zi (i:=0) (show (["_law_k","_law_calls"]:List Str).Nodup by decide +kernel) rfl (Or.inl rfl)) (fun _ _ _ _ _ _=>zT) (fun _ _ _ _ _ _=>(zM (wH (K:=K) rfl) (pv 1) (pv 0) (fun _ _=>rfl)))) zb))) (ze (zr (i:=7) zP.nd rfl (Or.inl rfl) (zf qc1 hr rfl (za (pv 1) (za (pv 6) zb)))) (ze (ya (PW.pt (vO (xT (xZ (pv 7))) (x4 (zF uf (zf qc0 hr rfl (za (pv 1) (za (pv 6) (za (pv 7) zb)))) yJ (zI _))))) (zh (zt yJ)) zC) (zh (zt (yT jN (zf qc0 hr rfl (za (pv 1) (za (pv 6) (za (zQ zN rfl B.tuple yr (za (zU (CSc.of (N':=["_law_k","_law_left"]) (sub:=[none,some 5]) (zj (top 52)) ["_law_pot_here","_law_board","_law_calls","_law_order","_law_box","_law_left","_law_some","_law_found"] rfl rfl (by decide +kernel) rfl) rfl (xB (pv 3)) (fun _ _ _ _ _ _=>zi (i:=0) (show (["_law_k","_law_left"]:List Str).Nodup by decide +kernel) rfl (Or.inl rfl)) (fun _ _ _ _ _ _=>(vR (zF (UV (K:=K) rfl) (pv 0) (pv 1) (by with_unfolding_all rfl)))) (fun _ _ _ _ _ _=>(jP (K:=K) rfl PySem.F.plainAttrs_list PySem.F.slot_list_index PySem.F.type_list_index (vU (K:=K) rfl) (pv 1) (za (pv 0) zb)))) zb)) zb)))) yJ (zI _))))))))),?_⟩
 obtain ⟨rb,rfl,hrb⟩:=id hb
 obtain ⟨rc,xs,rfl,hrc,hall⟩:=id hc
 obtain ⟨ru,rfl,hru⟩:=id ho
 have xl:=hall.len
 have c40:=ok.len
 have bml:(b.map V.int).length = b.length:=List.length_map ..
 have ol:o.length = cs.length:=by rw [hf.1.length_eq,List.length_range]
 refine zO (fun v H'=>∃ bx:Nat,v = .int bx /\ bx < b.length /\ Grow [p] H H' /\ Pot H' p) (fun Kk hk=>⟨_,rfl,_,rfl,rb,_,rfl,.inr hrb,_,_,rfl,p,_,rfl,rfl,pp,by omega,Int.lt_of_le_of_lt (b:=100) (by omega) (by decide),fun t H' t0 t1 g pp'=>hk _ _ ⟨t.toNat,congrArg V.int (by omega),by omega,g,pp'⟩⟩) ?_
 rintro _ H1 ⟨bx,rfl,bl,g1,pp1⟩
 have step:∀ j,(List.range (j + 1)).filter (fun k=>!decide ((cg cs k).box = (bx:Int))) = (List.range j).filter (fun k=>!decide ((cg cs k).box = (bx:Int))) ++ if (cg cs j).box = (bx:Int) then [] else [j]:=fun j=>by
  rw [List.range_succ,List.filter_append]
  by_cases c:(cg cs j).box = (bx:Int) <;> simp [c]
 refine zO (fun v H'=>∃ l5,v = .ref l5 /\ H' l5 = some (.lst (zp (zG cs bx))) /\ l5 ≠ p /\ Grow [] H1 H') (fun Kk hk=>⟨_,rfl,rc,_,rfl,g1.sqT hrc,u7 (c:=true) (xs:=xs) (fun j ys σ' H'=>(∃ e0 e1:Option V,σ' = [e0,e1,some (.int (bx:Int))]) /\ Grow [] H1 H' /\ ys = zp ((List.range j).filter (fun k=>!decide ((cg cs k).box = (bx:Int))))) ⟨⟨_,_,rfl⟩,Grow.refl _ _,rfl⟩ (fun j ys σ' H' z=>((g1.trans z.2.1.wk).sqT hrc:SqT K H' rc xs)) ?_ ?_⟩) ?_
 ·rintro j v ys σ' H3 T3 hv3 ⟨⟨e0,e1,rfl⟩,g3,rfl⟩ hT3
  obtain ⟨c,hci,hcat⟩:=hall.get hv3
  have hj:=(List.getElem?_eq_some_iff.mp hci).1
  obtain ⟨rz,rd,rfl,sz,_⟩:=(g1.trans g3.wk).call72 hcat
  have gT3:=Grow.new (m:=[]) hT3 (.tup [.int j,.ref rz])
  have hTT3:=zd (H:=H3) (a:=T3) (o:=.tup [.int j,.ref rz])
  have sz3:=gT3.sqT sz
  generalize upd H3 T3 _ = H4 at gT3 hTT3 sz3 ⊢
  refine ⟨T3,_,rfl,SqT.of hTT3,rfl,_,_,rfl,_,_,rfl,rfl,?_⟩
  refine ⟨_,rfl,rz,_,1,.int c.box,rfl,rfl,sz3,zw (j:=1) rfl,_,rfl,rfl,_,rfl,?_⟩
  have small:(zp ((List.range j).filter (fun k=>!decide ((cg cs k).box = (bx:Int))))).length < sizeLine:=by
   rw [zx]
   have:=List.length_filter_le (fun k=>!decide ((cg cs k).box = (bx:Int))) (List.range j)
   rw [List.length_range] at this
   exact lt72 (by omega)
  by_cases cb:c.box = (bx:Int)
  ·refine xi (by rw [decide_eq_true (congrArg V.int cb)]; rfl) ⟨⟨_,_,rfl⟩,g3.trans gT3,?_⟩
   rw [step,yG hci,if_pos cb,List.append_nil]
  ·refine y4 (by rw [decide_eq_false fun z=>cb (V.int.inj z)]; rfl) ⟨_,rfl,small,⟨_,_,rfl⟩,g3.trans gT3,?_⟩
   rw [step,yG hci,if_neg cb,yE]; rfl
 ·rintro ys σ' H3 ⟨_,g3,rfl⟩ l hl
  rw [xl]
  exact hk _ _ ⟨l,rfl,zd,fun z=>yH (pp1.grow g3) hl (by rw [z]; simp),g3.trans (Grow.new hl _)⟩
 rintro _ H2 ⟨l5,rfl,hl5,n5p,g2⟩
 have G2:=g1.trans g2.wk
 have pp2:=pp1.grow g2
 have lft:=Yd (x:=bx) ok hf
 have lm:∀ k ∈ zG cs bx,k < cs.length:=fun k hk=>(wr.mp hk).1
 have ll:(zG cs bx).length <= cs.length:=by
  have:=List.length_filter_le (fun k=>!decide ((cg cs k).box = (bx:Int))) (List.range cs.length)
  rw [List.length_range] at this
  exact this
 have ok2:Calls72 b.length ((zG cs bx).map (cg cs)):=by
  refine ⟨by rw [List.length_map]; omega,fun c hc=>?_,fun y=>?_⟩
  ·obtain ⟨k,hk,rfl⟩:=List.mem_map.mp hc
   exact uz ok (lm k hk)
  ·have c8:=ok.few y
   rw [sP] at c8
   refine Nat.le_trans ?_ c8
   unfold yB
   rw [List.countP_map]
   exact List.filter_sublist.countP_le
 refine zO (fun v H'=>zz K H' v ((zG cs bx).map (cg cs)) /\ Grow [] H2 H') (fun Kk hk=>⟨_,rfl,l5,rfl,⟨_,SqL.of hl5⟩,ub (xs:=zp (zG cs bx)) (fun i ys σ' H'=>(∃ e0:Option V,σ' = [e0,some (.ref rc)]) /\ H' = H2 /\ AllR (yf K H2) ys (((zG cs bx).take i).map (cg cs)) /\ ys.length = i) ⟨⟨_,rfl⟩,rfl,trivial,rfl⟩ (fun i ys σ' H' _ z=>by rw [z.2.1]; exact SqL.of hl5) ?_ ?_⟩) ?_
 ·rintro i v ys σ' H3 hv ⟨⟨e0,rfl⟩,rfl,hA,yl⟩
  obtain ⟨k,hki,rfl⟩:=ye hv
  have hi:=(List.getElem?_eq_some_iff.mp hki).1
  have hk':=lm k (List.mem_of_getElem? hki)
  obtain ⟨z,hz,hcz⟩:=(G2.callsR hall).getR (List.getElem?_eq_getElem hk')
  refine ⟨_,rfl,_,rfl,rc,_,_,z,rfl,rfl,G2.sqT hrc,zw hz,lt72 (by omega),⟨_,rfl⟩,rfl,?_,by rw [List.length_append,List.length_singleton,yl]⟩
  rw [List.take_succ,hki,List.map_append]
  refine hA.app ⟨?_,trivial⟩
  rw [yG (List.getElem?_eq_getElem hk')]; exact hcz
 ·rintro ys σ' H3 ⟨_,rfl,hA,yl⟩ l3 hl3
  rw [zx,List.take_length] at hA
  refine ⟨l3,_,rfl,.inl ⟨SqL.of zd,fun t ht=>hk _ _ ⟨⟨t,ys,rfl,SqT.of zd,?_⟩,(Grow.new hl3 _).trans (Grow.new ht _)⟩⟩⟩
  exact ((Grow.new (m:=[]) hl3 _).trans (Grow.new ht _)).callsR hA
 rintro vs H3 ⟨hvs,g3⟩
 have G3:=G2.trans g3.wk
 have pp3:=pp2.grow g3
 refine zO (fun v H'=>yS K H' v (yt ((zG cs bx).map (cg cs)) b) /\ ((yt ((zG cs bx).map (cg cs)) b).isSome = true -> yV ((zG cs bx).map (cg cs))) /\ Grow [] H3 H') (fun Kk hk=>⟨_,rfl,_,rfl,_,_,rfl,b,_,G3.board hb,b1,b16,hvs,ok2,fun v H' g so ho=>hk _ _ ⟨ho,so,g⟩⟩) ?_
 rintro vf H4 ⟨ho2,so2,g4⟩
 have G4:=G3.trans g4.wk
 have pp4:=pp3.grow g4
 cases e2:yt ((zG cs bx).map (cg cs)) b with
 | none=>exact (xG ok2 e2 ⟨_,lft⟩).elim
 | some o2 =>
  have fit3:=yp ok2 (so2 (by rw [e2]; rfl)) e2
  have ol2:o2.length <= 40:=by rw [fit3.1.length_eq,List.length_range,List.length_map]; omega
  rw [e2] at ho2
  obtain ⟨rf,rfl,hrf⟩:=(show yN K H4 vf o2 from ho2)
  refine yL (fun c H'=>c = false /\ Grow [] H4 H') (fun Kk hk=>⟨_,rfl,_,rfl,xi (decide_eq_false fun z=>by cases z) ⟨_,rfl,_,rfl,_,rfl,_,_,_,rfl,b,_,_,[],G4.board hb,b1,b16,g4.calls72 hvs,y9 hrf,ok2,xa (by omega),fun bb H5 g5 hbb=>?_⟩⟩) ?_
  ·obtain rfl:bb = true:=hbb.mpr (xg.mpr fit3)
   exact ⟨_,_,rfl,rfl,_,rfl,hk _ _ ⟨rfl,g5⟩⟩
  rintro _ H5 ⟨rfl,g5⟩
  refine iteF (yF ?_)
  have G5:=G4.trans g5.wk
  have pp5:=pp4.grow g5
  have hl55:=(g3.trans (g4.trans g5)).keep _ _ (by simp) hl5
  have hvs5:=(g4.trans g5).calls72 hvs
  refine ⟨_,rfl,_,rfl,_,rfl,ru,rfl,⟨_,G5.sqT hru⟩,xL (xs:=zp o) (fun i ys σ' H'=>(∃ e0:Option V,σ' = [e0,some (.ref l5)]) /\ H' = H5 /\ ys = zp (((o.take i).filter fun k=>decide (k ∈ zG cs bx)).map fun k=>(zG cs bx).idxOf k)) ⟨⟨_,rfl⟩,rfl,rfl⟩ (fun i ys σ' H' _ z=>by rw [z.2.1]; exact G5.sqT hru) ?_ ?_⟩
  ·rintro i v ys σ' H6 hv ⟨⟨e0,rfl⟩,rfl,rfl⟩
   obtain ⟨k,hki,rfl⟩:=ye hv
   have hi:=(List.getElem?_eq_some_iff.mp hki).1
   refine ⟨_,rfl,_,rfl,l5,_,rfl,.inl (SqL.of hl55),rfl,wO,_,rfl,?_⟩
   show if inV (V.int (k:Int)) (zp (zG cs bx)) = true then _ else _
   rw [tN]
   have lfi:((o.take i).filter fun k=>decide (k ∈ zG cs bx)).length <= 40:=by
    have:=List.length_filter_le (fun k=>decide (k ∈ zG cs bx)) (o.take i)
    rw [List.length_take] at this
    omega
   by_cases km:k ∈ zG cs bx
   ·refine y4 (decide_eq_true km) ⟨_,rfl,.inl ⟨rfl,_,SqL.of hl55⟩,_,rfl,l5,_,k,rfl,rfl,SqL.of hl55,km,by omega,lt72 (by rw [zx,List.length_map]; omega),⟨_,rfl⟩,rfl,?_⟩
    rw [List.take_succ,hki,List.filter_append,List.map_append,yE]
    simp [km,zp]
   ·refine xi (decide_eq_false km) ⟨⟨_,rfl⟩,rfl,?_⟩
    rw [List.take_succ,hki,List.filter_append]
    simp [km]
  ·rintro ys σ' H6 ⟨_,rfl,rfl⟩ l hl
   rw [zx,List.take_length]
   refine ⟨l,_,rfl,.inl ⟨SqL.of zd,fun t ht=>?_⟩⟩
   generalize hns:(o.filter fun k=>decide (k ∈ zG cs bx)).map (fun k=>(zG cs bx).idxOf k) = ns at lft ht ⊢
   have g6:=(Grow.new (m:=[]) hl (.lst (zp ns))).trans (Grow.new ht (.tup (zp ns)))
   have G6:=G5.trans g6.wk
   have nl:ns.length <= 40:=by rw [lft.1.length_eq,List.length_range,List.length_map]; omega
   refine ⟨_,_,_,rfl,b,_,_,[],G6.board hb,b1,b16,g6.calls72 hvs5,y9 (SqT.of zd),ok2,xa (by omega),fun bb H7 g7 hbb=>?_⟩
   obtain rfl:bb = true:=hbb.mpr (xg.mpr lft)
   exact ⟨_,_,rfl,rfl,q _ (G6.trans g7.wk) ((pp5.grow g6).grow g7)⟩
theorem zR:FnScope ["_law_pot_here","_law_calls","_law_found","_law_hand","_law_box","_law_deed_here","_law_begun","_law_ended","_law_answer"] ["_law_pot_here","_law_calls"] (zj (top 48)):=⟨rfl,rfl,rfl,by decide +kernel,rfl,by decide +kernel,by decide +kernel⟩
theorem sW (F:Fun K "_law_wider" "_law_wider" (top 48) f fd) (B:Blt mg) (qc0:zk P w K mg base n "_law_take" ["_law_pot_here","_law_many"] (yM K))     :
  FnOk P w K mg base CX0 (n + 1) f fd ["_law_pot_here","_law_calls"] (qg K):=by
 refine F.ok zR z3 (fun cdv A outer s H vs Q E hr h=>?_)
 obtain ⟨x,y,rfl,p,n,cs,rfl,pp,hc,ok,bd,q⟩:=h
 refine ⟨_,(ze (zr (i:=2) zR.nd rfl (Or.inl rfl) (xV zb)) (ze (xk PassesOwn.never rfl (xB (pv 1)) (yK rfl (zm (zi (i:=3) zR.nd rfl (Or.inl rfl)) (zm (zi (i:=4) zR.nd rfl (Or.inl rfl)) (zm (zi (i:=5) zR.nd rfl (Or.inl rfl)) (zm (zi (i:=6) zR.nd rfl (Or.inl rfl)) (zm (zi (i:=7) zR.nd rfl (Or.inl rfl)) (zm (zi (i:=8) zR.nd rfl (Or.inl rfl)) z9))))))) (ze (zr (i:=6) zR.nd rfl (Or.inl rfl) (zB wz (pv 6) (zB yw (zf qc0 hr rfl (za (pv 0) (za (zB yb (pv 6) zg) zb))) (zB tX (zf qc0 hr rfl (za (pv 0) (za zg zb))) zg)))) (zh (x6 (tW PySem.F.plainAttrs_list PySem.F.slot_list_append PySem.F.type_list_append wa (pv 2) (za (z6 (za (pv 3) (za (pv 4) (za (pv 5) (za (pv 6) (za (zB yb (pv 7) (zB yw (zf qc0 hr rfl (za (pv 0) (za zg zb))) (zf qc0 hr rfl (za (pv 0) (za zg zb))))) (za (pv 8) zb))))))) zb)))))) (zh (zt (zQ zN rfl B.tuple yr (za (pv 2) zb)))))),?_⟩
 obtain ⟨rc,xs,rfl,hrc,hall⟩:=id hc
 have xl:=hall.len
 have c40:=ok.len
 refine zO (fun v H'=>∃ l0:Addr,v = .ref l0 /\ H l0 = none /\ H' l0 = some (.lst []) /\ Grow [] H H') (fun Kk hk=>⟨szl rfl,fun l0 hl0=>hk _ _ ⟨l0,rfl,hl0,zd,Grow.new hl0 _⟩⟩) ?_
 rintro _ H0 ⟨l0,rfl,nl0,hl0,g0⟩
 have npl:l0 ≠ p:=fun z=>yH pp nl0 (by rw [z]; simp)
 refine ⟨_,rfl,rc,rfl,⟨_,g0.sqT hrc⟩,tT (xs:=xs) (fun i σ H'=>∃ (e3 e4 e5 e6 e7 e8:Option V) (ys:List V) (ds:List Call72),σ = [some (.ref p),some (.ref rc),some (.ref l0),e3,e4,e5,e6,e7,e8] /\ H' l0 = some (.lst ys) /\ AllR (yf K H') ys ds /\ ds.length = i /\ (∀ j,j < i -> CallOk72 n (cg ds j) /\ (cg ds j).box = (cg cs j).box /\ (cg ds j).deed = (cg cs j).deed /\ (cg ds j).answer = (cg cs j).answer /\ (cg ds j).begun <= (cg cs j).begun /\ (cg cs j).ended <= (cg ds j).ended) /\ Grow [p,l0] H H' /\ Pot H' p) ⟨_,_,_,_,_,_,[],[],rfl,hl0,trivial,rfl,(fun j hj=>absurd hj (Nat.not_lt_zero _)),g0.wk,pp.grow g0⟩ (fun i σ H' _ ⟨_,_,_,_,_,_,_,_,_,_,_,_,_,g,_⟩=>g.sqT hrc) ?_ ?_⟩
 ·rintro i v σ H1 hv ⟨e3,e4,e5,e6,e7,e8,ys,ds,rfl,hy,hd,dl,hr,g1,pp1⟩
  have hi:i < cs.length:=by rw [← xl]; exact (List.getElem?_eq_some_iff.mp hv).1
  obtain ⟨z,hz,rz,rd,rfl,sz,sd⟩:=hall.getR (List.getElem?_eq_getElem hi)
  obtain rfl:v = .ref rz:=Option.some.inj (hv.symm.trans hz)
  have o:=ok.ok _ (List.getElem_mem hi)
  have cb:=bd _ (List.getElem_mem hi)
  have ec:cg cs i = cs[i]:=yG (List.getElem?_eq_getElem hi)
  generalize cs[i] = c at sz sd o cb ec
  refine ⟨rz,_,rfl,g1.sqT sz,rfl,_,_,rfl,_,_,rfl,_,_,rfl,_,_,rfl,_,_,rfl,_,_,rfl,rfl,?_⟩
  have t0:=o.t0
  have t1:=o.t1
  have bb:=cb.begun
  refine zO (fun v H'=>∃ be:Int,v = .int be /\ 0 <= be /\ be <= c.begun /\ Grow [p] H1 H' /\ Pot H' p) (fun Kk hk=>⟨_,rfl,_,rfl,_,rfl,_,_,rfl,rfl,_,_,rfl,p,c.begun + 1,rfl,rfl,pp1,by omega,Int.lt_of_le_of_lt (b:=10 ^ 30) (by omega) (by decide),fun t H2 u0 u1 g2 pp2=>⟨_,rfl,_,_,rfl,p,3,rfl,rfl,pp2,by decide,by decide,fun t2 H3 v0 v1 g3 pp3=>⟨_,_,rfl,rfl,⟨by decide,by decide⟩,_,_,rfl,rfl,u3 ⟨by omega,by omega⟩,_,_,rfl,rfl,?_⟩⟩⟩) ?_
  ·have:t2 / 2 = 0 \/ t2 / 2 = 1:=by omega
   refine hk _ _ ⟨_,rfl,?_,?_,g2.trans g3,pp3⟩
   ·rcases this with e | e <;> rw [e] <;> omega
   ·rcases this with e | e <;> rw [e] <;> omega
  rintro _ H2 ⟨be,rfl,be0,be1,g2,pp2⟩
  refine ⟨_,rfl,.inl ⟨rfl,_,SqL.of (g2.keep _ _ (by simp [npl]) hy)⟩,_,rfl,_,rfl,_,rfl,_,rfl,_,rfl,_,rfl,_,_,rfl,p,6,rfl,rfl,pp2,by decide,by decide,fun t H3 u0 u1 g3 pp3=>⟨_,rfl,_,_,rfl,p,2,rfl,rfl,pp3,by decide,by decide,fun t2 H4 v0 v1 g4 pp4=>⟨_,_,rfl,rfl,wZ ⟨by omega,by omega⟩,_,_,rfl,rfl,_,rfl,szl rfl,fun tc htc=>?_⟩⟩⟩
  have tt:=Int.mul_nonneg u0 v0
  have G4:Grow [p] H1 H4:=g2.trans (g3.trans g4)
  have gn:=Grow.new (m:=[]) htc (.tup [.int c.hand,.int c.box,.ref rd,.int be,.int (c.ended + t * t2),.int c.answer])
  have hyc:=gn.keep _ _ (by simp) (G4.keep _ _ (by simp [npl]) hy)
  have gs:=Grow.set (m:=[p,l0]) hyc (by simp) (ys ++ [.ref tc])
  have ga:Grow [p,l0] H1 _:=(G4.mono (by simp)).trans (gn.wk.trans gs)
  have dlx:ys.length = i:=by rw [← dl]; exact hd.len
  refine ⟨l0,ys,_,rfl,rfl,hyc,lt72 (by omega),⟨_,_,_,_,_,_,ys ++ [.ref tc],ds ++ [⟨c.hand,c.box,c.deed,be,c.ended + t * t2,c.answer⟩],rfl,zd,AllR.app (ga.callsR hd) (AllR.one ⟨tc,rd,rfl,gs.sqT (SqT.of zd),ga.sqT (g1.sqT sd)⟩),by rw [List.length_append,List.length_singleton,dl],fun j hj=>?_,g1.trans ga,?_⟩⟩
  ·by_cases e:j = i
   ·subst e
    have:cg (ds ++ [⟨c.hand,c.box,c.deed,be,c.ended + t * t2,c.answer⟩]) j = ⟨c.hand,c.box,c.deed,be,c.ended + t * t2,c.answer⟩:=by rw [← dl]; exact uE
    rw [this,ec]
    exact ⟨⟨o.h0,o.h1,o.b0,o.b1,o.d,be0,by show be <= c.ended + t * t2; omega⟩,rfl,rfl,rfl,be1,by show c.ended <= c.ended + t * t2; omega⟩
   ·rw [sO (by omega)]
    exact hr j (by omega)
  ·obtain ⟨w0,w1,e,z⟩:=(pp4.new htc (.tup [.int c.hand,.int c.box,.ref rd,.int be,.int (c.ended + t * t2),.int c.answer]))
   exact ⟨w0,w1,by rw [zo (Ne.symm npl)]; exact e,z⟩
 ·rintro σ H1 ⟨e3,e4,e5,e6,e7,e8,ys,ds,rfl,hy,hd,dl,hr,g1,pp1⟩
  rw [xl] at dl hr
  refine ⟨_,rfl,l0,ys,rfl,.inl ⟨SqL.of hy,fun r hr'=>?_⟩⟩
  have gn:=Grow.new (m:=[p]) hr' (.tup ys)
  exact q ds _ _ ⟨dl,fun j hj=>(hr j hj).2⟩ (qf ok dl fun j hj=>⟨(hr j hj).1,(hr j hj).2.1⟩) ((Grow.shrink2 g1 nl0).trans gn) (pp1.new hr' _) ⟨r,ys,rfl,SqT.of zd,gn.callsR hd⟩
theorem xt:FnScope ["_law_deed_here","_law_value_here"] ["_law_deed_here","_law_value_here"] (zj (top 42)):=⟨rfl,rfl,rfl,by decide +kernel,rfl,by decide +kernel,by decide +kernel⟩
theorem qp (F:Fun K "_law_done" "_law_done" (top 42) f fd) (B:Blt mg)      :
  FnOk P w K mg base CX0 (n + 1) f fd ["_law_deed_here","_law_value_here"] (vk K):=by
 refine F.ok xt z3 (fun cdv A outer s H vs Q E hr h=>?_)
 obtain ⟨x,y,rfl,d,v,hd,rfl,q⟩:=h
 refine ⟨_,(ze (zr (i:=1) xt.nd rfl (Or.inl rfl) (zB yb (pv 1) (zM z7 (pv 0) zg (fun _ _=>rfl)))) (ze (ya (PW.pt (vF (xT (vW (zM z7 (pv 0) zg (fun _ _=>rfl)))) (wC (zF tU (pv 1) (zM z7 (pv 0) zg (fun _ _=>rfl)) (zI _))))) (zh (zr (i:=1) xt.nd rfl (Or.inl rfl) (zM z7 (pv 0) zg (fun _ _=>rfl)))) zC) (ze (ya (PW.pt (vF (xT (vW (zM z7 (pv 0) zg (fun _ _=>rfl)))) (wC (zF Yy (pv 1) (zM z7 (pv 0) zg (fun _ _=>rfl)) (zI _))))) (zh (zr (i:=1) xt.nd rfl (Or.inl rfl) (zM z7 (pv 0) zg (fun _ _=>rfl)))) zC) (zh (zt (pv 1)))))),?_⟩
 obtain ⟨a,rfl,hs⟩:=hd
 obtain ⟨ad,lo,hi⟩:=d
 have i0:atI (⟨ad,lo,hi⟩:Deed).vs 0 = some (.int ad):=zw (j:=0) rfl
 have i1:atI (⟨ad,lo,hi⟩:Deed).vs 1 = some (ov lo):=zw (j:=1) rfl
 have i2:atI (⟨ad,lo,hi⟩:Deed).vs 2 = some (ov hi):=zw (j:=2) rfl
 refine zO (fun w H'=>w = .int (v + ad) /\ H' = H) (fun Kk hk=>⟨_,rfl,_,rfl,a,_,_,_,rfl,rfl,hs,i0,_,_,rfl,rfl,hk _ _ ⟨rfl,rfl⟩⟩) ?_
 rintro _ H ⟨rfl,rfl⟩
 refine c_if (fun σ' H'=>σ' = [some (.ref a),some (.int (v9 lo (v + ad)))] /\ H' = H) ?_ (fun hk=>?_)
 rotate_left
 ·refine ⟨_,rfl,a,_,_,_,rfl,rfl,hs,i1,_,rfl,?_⟩
  cases lo with
  | none=>exact iteF (hk _ _ ⟨rfl,rfl⟩)
  | some l =>
   refine iteT ⟨_,rfl,_,rfl,a,_,_,_,rfl,rfl,hs,i1,_,_,rfl,rfl,_,rfl,?_⟩
   by_cases h:v + ad < l
   ·refine y4 (decide_eq_true h) ⟨_,rfl,a,_,_,_,rfl,rfl,hs,i1,hk _ _ ⟨?_,rfl⟩⟩
    show [some (V.ref a),some (V.int l)] = _
    unfold v9; dsimp only; rw [if_pos h]
   ·refine xi (decide_eq_false h) (hk _ _ ⟨?_,rfl⟩)
    unfold v9; dsimp only; rw [if_neg h]; rfl
 rintro _ H ⟨rfl,rfl⟩
 refine c_if (fun σ' H'=>σ' = [some (.ref a),some (.int ((⟨ad,lo,hi⟩:Deed).mk' v))] /\ H' = H) ?_ (fun hk=>?_)
 rotate_left
 ·refine ⟨_,rfl,a,_,_,_,rfl,rfl,hs,i2,_,rfl,?_⟩
  cases hi with
  | none=>exact iteF (hk _ _ ⟨rfl,rfl⟩)
  | some l =>
   refine iteT ⟨_,rfl,_,rfl,a,_,_,_,rfl,rfl,hs,i2,_,_,rfl,rfl,_,rfl,?_⟩
   by_cases h:l < v9 lo (v + ad)
   ·refine y4 (decide_eq_true h) ⟨_,rfl,a,_,_,_,rfl,rfl,hs,i2,hk _ _ ⟨?_,rfl⟩⟩
    show [some (V.ref a),some (V.int l)] = _
    unfold Deed.mk' tY; dsimp only; rw [if_pos h]
   ·refine xi (decide_eq_false h) (hk _ _ ⟨?_,rfl⟩)
    unfold Deed.mk' tY; dsimp only; rw [if_neg h]
 rintro _ H ⟨rfl,rfl⟩
 exact ⟨_,rfl,q⟩
theorem y6:FnScope ["_law_board","_law_calls","_law_order","_law_box","_law_value_here","_law_k"] ["_law_board","_law_calls","_law_order","_law_box"] (zj (top 50)):=⟨rfl,rfl,rfl,by decide +kernel,rfl,by decide +kernel,by decide +kernel⟩
theorem sX (F:Fun K "_law_value" "_law_value" (top 50) f fd) (B:Blt mg) (qc0:zk P w K mg base n "_law_done" ["_law_deed_here","_law_value_here"] (vk K))     :
  FnOk P w K mg base CX0 (n + 1) f fd ["_law_board","_law_calls","_law_order","_law_box"] (Zr K):=by
 refine F.ok y6 vn (fun cdv A outer s H vs Q E hr h=>?_)
 obtain ⟨x,y,z,u,rfl,b,cs,o,bx,hb,hc,ok,ho,olt,rfl,bl,q⟩:=h
 refine ⟨_,(ze (zr (i:=4) y6.nd rfl (Or.inl rfl) (zM z7 (pv 0) (pv 3) (fun _ _=>rfl))) (ze (xk PassesOwn.never rfl (xB (pv 2)) (zi (i:=5) y6.nd rfl (Or.inl rfl)) (zh (ya (zF vY (zM z7 (zM z7 (pv 1) (pv 5) (fun _ _=>rfl)) zg (fun _ _=>rfl)) (pv 3) (zI _)) (zh (zr (i:=4) y6.nd rfl (Or.inl rfl) (zf qc0 hr rfl (za (zM z7 (zM z7 (pv 1) (pv 5) (fun _ _=>rfl)) zg (fun _ _=>rfl)) (za (pv 4) zb))))) zC))) (zh (zt (pv 4))))),?_⟩
 obtain ⟨rb,rfl,hrb⟩:=id hb
 obtain ⟨rc,xs,rfl,hrc,hall⟩:=id hc
 obtain ⟨r,rfl,hr0⟩:=id ho
 have bat:atI (b.map V.int) (bx:Int) = some (.int (b.getD bx 0)):=zw (by rw [List.getElem?_map,List.getElem?_eq_getElem bl,List.getD_eq_getElem?_getD,List.getElem?_eq_getElem bl]; rfl)
 refine zO (fun v H'=>v = .int (b.getD bx 0) /\ H' = H) (fun Kk hk=>⟨_,rfl,_,rfl,rb,_,_,_,rfl,rfl,hrb,bat,hk _ _ ⟨rfl,rfl⟩⟩) ?_
 rintro _ H ⟨rfl,rfl⟩
 refine ⟨_,rfl,r,rfl,⟨_,hr0⟩,tT (xs:=zp o) (fun i σ H'=>∃ (v:Int) (e5:Option V),σ = [some (.ref rb),some (.ref rc),some (.ref r),some (.int bx),some (.int v),e5] /\ vB cs bx v (o.drop i) = vB cs bx (b.getD bx 0) o /\ H' = H) ⟨_,_,rfl,rfl,rfl⟩ (fun i σ H' _ ⟨_,_,_,_,e⟩=>by rw [e]; exact hr0) ?_ ?_⟩
 ·rintro i x σ H1 hx ⟨v,e5,rfl,hv,rfl⟩
  obtain ⟨k,hki,rfl⟩:=ye hx
  have hk':=olt k (List.mem_of_getElem? hki)
  obtain ⟨z,hz,rz,rd,rfl,sz,sd⟩:=hall.getR (List.getElem?_eq_getElem hk')
  have ec:cg cs k = cs[k]:=yG (List.getElem?_eq_getElem hk')
  rw [uk hki] at hv
  have hv':vB cs bx (if cs[k].box = bx then cs[k].deed.mk' v else v) (o.drop (i + 1)) = vB cs bx (b.getD bx 0) o:=by rw [← ec]; exact hv
  have c1:atI (cs[k].vs rd) 1 = some (.int cs[k].box):=zw (j:=1) rfl
  have c2:atI (cs[k].vs rd) 2 = some (.ref rd):=zw (j:=2) rfl
  refine ⟨_,rfl,_,rfl,rc,_,_,.ref rz,rfl,rfl,hrc,zw hz,rz,_,_,_,rfl,rfl,sz,c1,_,rfl,rfl,_,rfl,?_⟩
  by_cases ha:cs[k].box = (bx:Int)
  ·rw [if_pos ha] at hv'
   refine y4 (decide_eq_true (congrArg V.int ha)) ⟨_,rfl,_,rfl,rc,_,_,.ref rz,rfl,rfl,hrc,zw hz,rz,_,_,_,rfl,rfl,sz,c2,_,rfl,_,_,rfl,cs[k].deed,v,⟨rd,rfl,sd⟩,rfl,⟨_,_,rfl,hv',rfl⟩⟩
  ·rw [if_neg ha] at hv'
   exact xi (decide_eq_false fun z=>ha (V.int.inj z)) ⟨v,_,rfl,hv',rfl⟩
 ·rintro σ H1 ⟨v,e5,rfl,hv,rfl⟩
  have:o.drop (zp o).length = []:=by rw [zx]; exact List.drop_length
  rw [this] at hv
  have hv':v = vB cs bx (b.getD bx 0) o:=hv
  have:=q H1 (Grow.refl _ _)
  rw [← hv'] at this
  exact ⟨_,rfl,this⟩
theorem zu:FnScope ["_law_pot_here","_law_board","_law_calls","_law_order","_law_free","_law_box","_law_late","_law_value_here","_law_begun","_law_call","_law_more","_law_found"] ["_law_pot_here","_law_board","_law_calls","_law_order"] (zj (top 51)):=⟨rfl,rfl,rfl,by decide +kernel,rfl,by decide +kernel,by decide +kernel⟩
theorem xS (F:Fun K "_law_is_looked_right" "_law_is_looked_right" (top 51) f fd) (B:Blt mg) (qc0:zk P w K mg base n "fits" ["board","calls","order"] (wc K)) (qc1:zk P w K mg base n "an_order" ["board","calls"] (w9 K)) (qc2:zk P w K mg base n "_law_take" ["_law_pot_here","_law_many"] (yM K)) (qc3:zk P w K mg base n "_law_value" ["_law_board","_law_calls","_law_order","_law_box"] (Zr K))     :
  FnOk P w K mg base CX0 (n + 1) f fd ["_law_pot_here","_law_board","_law_calls","_law_order"] (vd K):=by
 refine F.ok zu vn (fun cdv A outer s H vs Q E hr h=>?_)
 obtain ⟨x,y,z,u,rfl,p,b,cs,rfl,pp,hb,b1,b16,hc,ok,so,ho,q⟩:=h
 refine ⟨_,(ze (vT (i:=4) zu.nd rfl rfl (CSc.of (N':=["_law_box","_law_calls"]) (sub:=[none,some 2]) (zj (top 51)) ["_law_pot_here","_law_board","_law_calls","_law_order","_law_free","_law_box","_law_late","_law_value_here","_law_begun","_law_call","_law_more","_law_found"] rfl rfl (by decide +kernel) rfl) rfl (y7 rfl B.range (za (zn zq rfl B.len y0 (za (pv 1) zb)) zb)) (fun _ _ _ _ _ _=>zi (i:=0) (show (["_law_box","_law_calls"]:List Str).Nodup by decide +kernel) rfl (Or.inl rfl)) (fun _ _ _ _ _ _=>(vR (zF tU (jP (K:=K) rfl PySem.F.plainAttrs_list PySem.F.slot_list_count PySem.F.type_list_count (Yf (K:=K) rfl) (zU (CSc.nest (N2:=["_law_call"]) (sub2:=[none]) (CSc.of (N':=["_law_box","_law_calls"]) (sub:=[none,some 2]) (zj (top 51)) ["_law_pot_here","_law_board","_law_calls","_law_order","_law_free","_law_box","_law_late","_law_value_here","_law_begun","_law_call","_law_more","_law_found"] rfl rfl (by decide +kernel) rfl) rfl (by decide +kernel) rfl) rfl (VX (K:=K) rfl (pv 1)) (fun _ _ _ _ _ _=>zi (i:=0) (show (["_law_call"]:List Str).Nodup by decide +kernel) rfl (Or.inl rfl)) (fun _ _ _ _ _ _=>zT) (fun _ _ _ _ _ _=>(zM (wH (K:=K) rfl) (pv 0) zg (fun _ _=>rfl)))) (za (pv 0) zb)) zg (zI _)))) (fun _ _ _ _ _ _=>(pv 0))) (ze (ya (PW.pt (vO (zF (Vr hr) (pv 4) (xV zb) (zI _)) (x4 (zF Yy (zn zq rfl B.len y0 (za (pv 2) zb)) zg (zI _))))) (zh (zt yJ)) zC) (ze (zr (i:=5) zu.nd rfl (Or.inl rfl) (zM zZ (pv 4) (zf qc2 hr rfl (za (pv 0) (za (zn zq rfl B.len y0 (za (pv 4) zb)) zb))) (fun _ _=>rfl))) (ze (zr (i:=6) zu.nd rfl (Or.inl rfl) (zB yb (zn (rF rfl) rfl B.max Zz (za (zB Vo (zU (CSc.of (N':=["_law_call"]) (sub:=[none]) (zj (top 51)) ["_law_pot_here","_law_board","_law_calls","_law_order","_law_free","_law_box","_law_late","_law_value_here","_law_begun","_law_call","_law_more","_law_found"] rfl rfl (by decide +kernel) rfl) rfl (xB (pv 2)) (fun _ _ _ _ _ _=>zi (i:=0) (show (["_law_call"]:List Str).Nodup by decide +kernel) rfl (Or.inl rfl)) (fun _ _ _ _ _ _=>zT) (fun _ _ _ _ _ _=>(zM (wH (K:=K) rfl) (pv 0) zg (fun _ _=>rfl)))) (xV (za zg zb))) zb)) (zf qc2 hr rfl (za (pv 0) (za zg zb))))) (ze (zr (i:=7) zu.nd rfl (Or.inl rfl) (zf qc3 hr rfl (za (pv 1) (za (pv 2) (za (UP (pv 3) (xU (z6 zb))) (za (pv 5) zb)))))) (ze (zr (i:=8) zu.nd rfl (Or.inl rfl) (zB yb (pv 6) zg)) (ze (zr (i:=9) zu.nd rfl (Or.inl rfl) (z6 (za (zf qc2 hr rfl (za (pv 0) (za zg zb))) (za (pv 5) (za (z6 (za zg (za xY (za xY zb)))) (za (pv 8) (za (zB yb (pv 8) (zf qc2 hr rfl (za (pv 0) (za zg zb)))) (za (pv 7) zb)))))))) (ze (zr (i:=10) zu.nd rfl (Or.inl rfl) (zB (wb (K:=K) rfl) (pv 2) (z6 (za (pv 9) zb)))) (ze (zr (i:=11) zu.nd rfl (Or.inl rfl) (zf qc1 hr rfl (za (pv 1) (za (pv 10) zb)))) (ze (ya (xT (xZ (pv 3))) (zh (zt (ju (xZ (pv 11))))) zC) (ze (ya (PW.pt (vO (xT (xZ (pv 11))) (x4 (zF uf (zf qc0 hr rfl (za (pv 1) (za (pv 10) (za (zB (wb (K:=K) rfl) (pv 3) (z6 (za (zn zq rfl B.len y0 (za (pv 2) zb)) zb))) zb)))) yJ (zI _))))) (zh (zt yJ)) zC) (zh (zt (yT jN (zf qc0 hr rfl (za (pv 1) (za (pv 10) (za (pv 11) zb)))) yJ (zI _))))))))))))))),?_⟩
 obtain ⟨rb,rfl,hrb⟩:=id hb
 obtain ⟨rc,xs,rfl,hrc,hall⟩:=id hc
 have xl:=hall.len
 have c40:=ok.len
 have bml:(b.map V.int).length = b.length:=List.length_map ..
 refine zO (fun v H'=>∃ (l4:Addr) (fs:List Nat),v = .ref l4 /\ H' l4 = some (.lst (zp fs)) /\ (∀ k ∈ fs,k < b.length /\ yB (k:Int) cs < 8) /\ fs.length <= b.length /\ l4 ≠ p /\ Grow [] H H') (fun Kk hk=>⟨_,rfl,rb,_,rfl,.inr hrb,_,rfl,by omega,by omega,jc (fun i ys H'=>∃ fs:List Nat,ys = zp fs /\ (∀ k ∈ fs,k < b.length /\ yB (k:Int) cs < 8) /\ fs.length <= i /\ Grow [] H H') ⟨[],rfl,nofun,Nat.le_refl _,Grow.refl _ _⟩ ?_ ?_⟩) ?_
 ·rintro i ys H1 hi ⟨fs,rfl,hf,fl,g1⟩
  have hi':i < b.length:=by omega
  refine ⟨_,rfl,rc,rfl,⟨_,g1.sqT hrc⟩,xL (xs:=xs) (fun j zs σ' H'=>(∃ e0:Option V,σ' = [e0]) /\ H' = H1 /\ zs = ((cs.take j).map fun c=>c.box).map V.int) ⟨⟨_,rfl⟩,rfl,rfl⟩ (fun j zs σ' H' _ z=>by rw [z.2.1]; exact g1.sqT hrc) ?_ ?_⟩
  ·rintro j v zs σ' H2 hv ⟨⟨e0,rfl⟩,rfl,rfl⟩
   have hj:j < cs.length:=by rw [← xl]; exact (List.getElem?_eq_some_iff.mp hv).1
   obtain ⟨z,hz,rz,rd,rfl,sz,sd⟩:=hall.getR (List.getElem?_eq_getElem hj)
   obtain rfl:v = .ref rz:=Option.some.inj (hv.symm.trans hz)
   have c1:atI (cs[j].vs rd) 1 = some (.int cs[j].box):=zw (j:=1) rfl
   refine ⟨_,rfl,rz,_,_,_,rfl,rfl,g1.sqT sz,c1,lt72 (by rw [List.length_map,List.length_map,List.length_take]; omega),⟨_,rfl⟩,rfl,?_⟩
   rw [List.take_succ,List.getElem?_eq_getElem hj,List.map_append,List.map_append]; rfl
  ·rintro zs σ' H2 ⟨_,rfl,rfl⟩ l hl
   rw [xl,List.take_length]
   have gl:=Grow.new (m:=[]) hl (.lst ((cs.map fun c=>c.box).map V.int))
   refine ⟨.inl ⟨rfl,_,SqL.of zd⟩,_,rfl,l,cs.map (fun c=>c.box),(i:Int),rfl,by rw [Int.zero_add],SqL.of zd,_,_,rfl,rfl,_,rfl,?_⟩
   rw [jd]
   by_cases c8:yB (i:Int) cs < 8
   ·refine y4 (decide_eq_true (by omega)) ⟨_,rfl,lt72 (by rw [zx]; omega),fs ++ [i],?_,fun k hk=>?_,by rw [List.length_append,List.length_singleton]; omega,g1.trans gl⟩
    ·rw [yE,Int.zero_add]; rfl
    ·rcases List.mem_append.mp hk with z | z
     ·exact hf k z
     ·rw [List.mem_singleton.mp z]; exact ⟨hi',c8⟩
   ·exact xi (decide_eq_false (by omega)) ⟨fs,rfl,hf,by omega,g1.trans gl⟩
 ·rintro ys H1 ⟨fs,rfl,hf,fl,g1⟩ l hl
  exact hk _ _ ⟨l,fs,rfl,zd,hf,by omega,fun z=>yH (pp.grow g1) hl (by rw [z]; simp),g1.trans (Grow.new hl _)⟩
 rintro _ H1 ⟨l4,fs,rfl,hl4,hf,fl,n4p,g1⟩
 have pp1:=pp.grow g1
 by_cases f0:fs = []
 ·subst f0
  refine yL (fun c H'=>c = true /\ Grow [] H1 H') (fun Kk hk=>⟨_,rfl,szl rfl,fun ln hln=>⟨l4,ln,_,_,rfl,rfl,SqL.of ((Grow.new (m:=[]) hln _).keep _ _ (by simp) hl4),SqL.of zd,rfl,rfl,_,rfl,iteT (hk _ _ ⟨rfl,Grow.new hln _⟩)⟩⟩) ?_
  rintro _ H2 ⟨rfl,g2⟩
  exact iteT (q _ (g1.trans g2).wk (pp1.grow g2))
 by_cases c39:39 < cs.length
 ·refine yL (fun c H'=>c = true /\ Grow [] H1 H') (fun Kk hk=>⟨_,rfl,szl rfl,fun ln hln=>⟨l4,ln,zp fs,[],rfl,rfl,SqL.of ((Grow.new (m:=[]) hln _).keep _ _ (by simp) hl4),SqL.of zd,wO,rfl,_,rfl,xi (Zp f0) ⟨_,rfl,rc,_,rfl,.inr ((g1.trans (Grow.new hln _)).sqT hrc),_,_,rfl,rfl,_,rfl,hk _ _ ⟨decide_eq_true (by omega),Grow.new hln _⟩⟩⟩⟩) ?_
  rintro _ H2 ⟨rfl,g2⟩
  exact iteT (q _ (g1.trans g2).wk (pp1.grow g2))
 refine yL (fun c H'=>c = false /\ Grow [] H1 H') (fun Kk hk=>⟨_,rfl,szl rfl,fun ln hln=>⟨l4,ln,zp fs,[],rfl,rfl,SqL.of ((Grow.new (m:=[]) hln _).keep _ _ (by simp) hl4),SqL.of zd,wO,rfl,_,rfl,xi (Zp f0) ⟨_,rfl,rc,_,rfl,.inr ((g1.trans (Grow.new hln _)).sqT hrc),_,_,rfl,rfl,_,rfl,hk _ _ ⟨decide_eq_false (by omega),Grow.new hln _⟩⟩⟩⟩) ?_
 rintro _ H2 ⟨rfl,g2⟩
 refine iteF (yF ?_)
 have pp2:=pp1.grow g2
 have hl42:=g2.keep _ _ (by simp) hl4
 have f1:0 < fs.length:=List.length_pos_iff.mpr f0
 refine zO (fun v H'=>∃ bx:Nat,v = .int bx /\ bx < b.length /\ yB (bx:Int) cs < 8 /\ Grow [p] H2 H' /\ Pot H' p) (fun Kk hk=>⟨_,rfl,_,rfl,_,rfl,l4,_,rfl,.inl (SqL.of hl42),_,_,rfl,p,_,rfl,rfl,pp2,by rw [zx]; omega,Int.lt_of_le_of_lt (b:=100) (by rw [zx]; omega) (by decide),fun t H' t0 t1 g pp'=>?_⟩) ?_
 ·rw [zx] at t1
  have ht:t.toNat < fs.length:=by omega
  have:=hf _ (List.getElem_mem ht)
  refine ⟨l4,_,t,.int (fs[t.toNat]:Nat),rfl,rfl,SqL.of (g.keep _ _ (by simp [n4p]) hl42),?_,hk _ _ ⟨fs[t.toNat],rfl,this.1,this.2,g,pp'⟩⟩
  have:=zw (xs:=zp fs) (j:=t.toNat) (v:=.int (fs[t.toNat]:Nat)) (by unfold zp; rw [List.getElem?_map,List.getElem?_eq_getElem ht]; rfl)
  rwa [show ((t.toNat:Nat):Int) = t by omega] at this
 rintro _ H3 ⟨bx,rfl,bl,bf,g3,pp3⟩
 have G3:Grow [p] H H3:=(g1.trans g2).wk.trans g3
 refine zO (fun v H'=>∃ late:Int,v = .int late /\ 0 <= late /\ (∀ c ∈ cs,c.ended <= late) /\ Grow [p] H3 H' /\ Pot H' p) (fun Kk hk=>⟨_,rfl,rc,rfl,⟨_,G3.sqT hrc⟩,xL (xs:=xs) (fun j zs σ' H'=>(∃ e0:Option V,σ' = [e0]) /\ H' = H3 /\ zs = ((cs.take j).map fun c=>c.ended).map V.int) ⟨⟨_,rfl⟩,rfl,rfl⟩ (fun j zs σ' H' _ z=>by rw [z.2.1]; exact G3.sqT hrc) ?_ ?_⟩) ?_
 ·rintro j v zs σ' H4 hv ⟨⟨e0,rfl⟩,rfl,rfl⟩
  have hj:j < cs.length:=by rw [← xl]; exact (List.getElem?_eq_some_iff.mp hv).1
  obtain ⟨z,hz,rz,rd,rfl,sz,sd⟩:=hall.getR (List.getElem?_eq_getElem hj)
  obtain rfl:v = .ref rz:=Option.some.inj (hv.symm.trans hz)
  have c4:atI (cs[j].vs rd) 4 = some (.int cs[j].ended):=zw (j:=4) rfl
  refine ⟨_,rfl,rz,_,_,_,rfl,rfl,G3.sqT sz,c4,lt72 (by rw [List.length_map,List.length_map,List.length_take]; omega),⟨_,rfl⟩,rfl,?_⟩
  rw [List.take_succ,List.getElem?_eq_getElem hj,List.map_append,List.map_append]; rfl
 ·rintro zs σ' H4 ⟨_,rfl,rfl⟩ l hl
  rw [xl,List.take_length]
  have gl:=Grow.new (m:=[]) hl (.lst ((cs.map fun c=>c.ended).map V.int))
  refine ⟨szl rfl,fun l2 hl2=>?_⟩
  have gl2:=Grow.new (m:=[]) hl2 (.lst [V.int 0])
  refine ⟨l,l2,_,_,rfl,rfl,gl2.keep _ _ (by simp) zd,zd,le72 (by rw [List.length_map,List.length_map]; show _ + 1 <= 5000; omega),fun p3 hp3=>?_⟩
  have gl3:=Grow.new (m:=[]) hp3 (.lst ((cs.map fun c=>c.ended).map V.int ++ [V.int 0]))
  have G:=gl.trans (gl2.trans gl3)
  refine ⟨p3,(cs.map fun c=>c.ended) ++ [0],rfl,SqL.of (by rw [zd,List.map_append]; rfl),by rw [List.length_append]; show 0 < _ + 1; omega,fun M hM hmax=>?_⟩
  have m0:0 <= M:=hmax 0 (List.mem_append_right _ (List.mem_cons_self ..))
  refine ⟨_,rfl,_,_,rfl,p,2,rfl,rfl,pp3.grow G,by decide,by decide,fun t H' t0 t1 g pp'=>⟨_,_,rfl,rfl,hk _ _ ⟨M + t,rfl,by omega,fun c hc=>?_,G.wk.trans g,pp'⟩⟩⟩
  have:=hmax c.ended (List.mem_append_left _ (List.mem_map_of_mem hc))
  omega
 rintro _ H4 ⟨late,rfl,l0,lt,g4,pp4⟩
 have G4:=G3.trans g4
 refine zO (fun v H'=>v = .int (vB cs bx (b.getD bx 0) ((yt cs b).getD [])) /\ Grow [] H4 H') (fun Kk hk=>?_) ?_
 ·refine ⟨_,rfl,_,rfl,_,rfl,?_⟩
  have ho4:=ho.grow G4
  cases e:yt cs b with
  | none =>
   rw [e] at ho4 hk
   obtain rfl:u = .non:=ho4
   refine ⟨false,rfl,iteF ⟨szl rfl,fun r hr=>?_⟩⟩
   have gr:=Grow.new (m:=[]) hr (.tup [])
   exact ⟨_,rfl,_,_,_,_,rfl,b,cs,[],bx,(G4.trans gr.wk).board hb,(G4.trans gr.wk).calls72 hc,ok,⟨r,rfl,SqT.of zd⟩,nofun,rfl,bl,fun H' g=>hk _ _ ⟨rfl,gr.trans g⟩⟩
  | some o =>
   rw [e] at ho4 hk
   have fit:=yp ok (so (by rw [e]; rfl)) e
   obtain ⟨ru,rfl,hru⟩:=(show yN K H4 u o from ho4)
   have olt:∀ k ∈ o,k < cs.length:=fun k hk=>List.mem_range.mp (fit.1.mem_iff.mp hk)
   refine ⟨_,.inr (.inl ⟨_,hru,rfl⟩),?_⟩
   cases o with
   | nil =>
    refine iteF ⟨szl rfl,fun r hr=>?_⟩
    have gr:=Grow.new (m:=[]) hr (.tup [])
    exact ⟨_,rfl,_,_,_,_,rfl,b,cs,[],bx,(G4.trans gr.wk).board hb,(G4.trans gr.wk).calls72 hc,ok,⟨r,rfl,SqT.of zd⟩,nofun,rfl,bl,fun H' g=>hk _ _ ⟨rfl,gr.trans g⟩⟩
   | cons k o =>
    exact iteT ⟨_,rfl,_,_,_,_,rfl,b,cs,k :: o,bx,G4.board hb,G4.calls72 hc,ok,⟨ru,rfl,hru⟩,olt,rfl,bl,fun H' g=>hk _ _ ⟨rfl,g⟩⟩
 rintro _ H5 ⟨rfl,g5⟩
 have G5:=G4.trans g5.wk
 have pp5:=pp4.grow g5
 generalize hval:vB cs bx (b.getD bx 0) ((yt cs b).getD []) = val
 refine zO (fun v H'=>v = .int (late + 1) /\ H' = H5) (fun Kk hk=>⟨_,rfl,_,_,rfl,rfl,hk _ _ ⟨rfl,rfl⟩⟩) ?_
 rintro _ H5 ⟨rfl,rfl⟩
 refine zO (fun v H'=>∃ (ha t9:Int) (tc rd:Addr),v = .ref tc /\ 0 <= ha /\ ha < 16 /\ 0 <= t9 /\ SqT K H' tc (Call72.vs ⟨ha,bx,wm,late + 1,late + 1 + t9,val⟩ rd) /\ SqT K H' rd wm.vs /\ Grow [p] H5 H' /\ Pot H' p) (fun Kk hk=>⟨_,rfl,_,_,rfl,p,16,rfl,rfl,pp5,by decide,by decide,fun ha H6 h0 h1 g6 pp6=>⟨_,rfl,szl rfl,fun rd hrd=>⟨_,rfl,_,rfl,_,rfl,_,_,rfl,p,9,rfl,rfl,pp6.new hrd _,by decide,by decide,fun t9 H7 t0 t1 g7 pp7=>⟨_,_,rfl,rfl,_,rfl,szl rfl,fun tc htc=>hk _ _ ⟨ha,t9,tc,rd,rfl,h0,h1,t0,SqT.of zd,?_,?_,pp7.new htc _⟩⟩⟩⟩⟩) ?_
 ·exact (g7.trans (Grow.new htc _).wk).sqT (SqT.of zd)
 ·exact g6.trans ((Grow.new hrd _).wk.trans (g7.trans (Grow.new htc _).wk))
 rintro _ H6 ⟨ha,t9,tc,rd,rfl,h0,h1,t90,htc,hrd,g6,pp6⟩
 have G6:=G5.trans g6
 have cc:yf K H6 (.ref tc) ⟨ha,bx,wm,late + 1,late + 1 + t9,val⟩:=⟨tc,rd,rfl,htc,hrd⟩
 have cok:CallOk72 b.length ⟨ha,bx,wm,late + 1,late + 1 + t9,val⟩:=⟨h0,by show ha <= 15; omega,by show (0:Int) <= (bx:Int); omega,by show (bx:Int) < (b.length:Int); omega,(fun l h z=>by cases z),by show 0 <= late + 1; omega,by show late + 1 <= late + 1 + t9; omega⟩
 have lt2:∀ d ∈ cs,d.ended < late + 1:=fun d hd=>by have:=lt d hd; omega
 have ok2:Calls72 b.length (cs ++ [⟨ha,bx,wm,late + 1,late + 1 + t9,val⟩]):=Wa ok (by omega) cok rfl bf
 have mf:∀ o,yv b cs o -> val = vB cs bx (b.getD bx 0) o -> yv b (cs ++ [⟨ha,bx,wm,late + 1,late + 1 + t9,val⟩]) (o ++ [cs.length]):=fun o fo e=>Ye ok bl rfl (by show late + 1 <= late + 1 + t9; omega) lt2 fo e
 have ml:∀ {o},yv b (cs ++ [⟨ha,bx,wm,late + 1,late + 1 + t9,val⟩]) o -> ∃ o2,yv b cs o2:=fun h=>ja (c:=⟨ha,bx,wm,late + 1,late + 1 + t9,val⟩) lt2 h
 have clen:(cs ++ [(⟨ha,bx,wm,late + 1,late + 1 + t9,val⟩:Call72)]).length = cs.length + 1:=by rw [List.length_append]; rfl
 refine zO (fun v H'=>zz K H' v (cs ++ [⟨ha,bx,wm,late + 1,late + 1 + t9,val⟩]) /\ Grow [] H6 H') (fun Kk hk=>⟨_,rfl,_,rfl,szl rfl,fun t ht=>⟨rc,t,_,_,rfl,rfl,(Grow.new (m:=[]) ht _).sqT (G6.sqT hrc),SqT.of zd,le72 (by show _ + 1 <= 5000; omega),fun p2 H7 g7 h7=>hk _ _ ⟨⟨p2,_,rfl,h7,AllR.app ((G6.trans ((Grow.new ht _).trans g7).wk).callsR hall) (AllR.one (((Grow.new (m:=[]) ht _).trans g7).call72 cc))⟩,(Grow.new ht _).trans g7⟩⟩⟩) ?_
 rintro vm H7 ⟨hm,g7⟩
 generalize cs ++ [(⟨ha,bx,wm,late + 1,late + 1 + t9,val⟩:Call72)] = more at hm ok2 mf ml clen
 have G7:=G6.trans g7.wk
 have pp7:=pp6.grow g7
 refine zO (fun v H'=>yS K H' v (yt more b) /\ ((yt more b).isSome = true -> yV more) /\ Grow [] H7 H') (fun Kk hk=>⟨_,rfl,_,rfl,_,_,rfl,b,more,G7.board hb,b1,b16,hm,ok2,fun v H' g so ho=>hk _ _ ⟨ho,so,g⟩⟩) ?_
 rintro vf H8 ⟨ho2,so2,g8⟩
 have G8:=G7.trans g8.wk
 have pp8:=pp7.grow g8
 have ho8:=ho.grow G8
 cases e:yt cs b with
 | none =>
  rw [e] at ho8
  obtain rfl:u = .non:=ho8
  have e2:yt more b = none:=by
   cases e3:yt more b with
   | none=>rfl
   | some o3 =>
    exact (xG ok e (ml (yp ok2 (so2 (by rw [e3]; rfl)) e3))).elim
  rw [e2] at ho2
  obtain rfl:vf = .non:=ho2
  exact ⟨_,rfl,_,rfl,y4 (decide_eq_true rfl) ⟨_,rfl,q _ G8 pp8⟩⟩
 | some o =>
  have fit:=yp ok (so (by rw [e]; rfl)) e
  have fit2:=mf o fit (by rw [← hval,e]; rfl)
  rw [e] at ho8
  obtain ⟨ru,rfl,hru⟩:=(show yN K H8 u o from ho8)
  have ol:o.length = cs.length:=by rw [fit.1.length_eq,List.length_range]
  cases e2:yt more b with
  | none=>exact (xG ok2 e2 ⟨_,fit2⟩).elim
  | some o2 =>
   have fit3:=yp ok2 (so2 (by rw [e2]; rfl)) e2
   have ol2:o2.length = cs.length + 1:=by rw [fit3.1.length_eq,List.length_range,clen]
   rw [e2] at ho2
   obtain ⟨rf,rfl,hrf⟩:=(show yN K H8 vf o2 from ho2)
   refine yL (fun c H'=>c = false /\ H' = H8) (fun Kk hk=>⟨_,rfl,_,rfl,hk _ _ ⟨decide_eq_false (fun z=>by cases z),rfl⟩⟩) ?_
   rintro _ H8 ⟨rfl,rfl⟩
   refine iteF (yF ?_)
   refine yL (fun c H'=>c = false /\ Grow [] H8 H') (fun Kk hk=>⟨_,rfl,_,rfl,xi (decide_eq_false fun z=>by cases z) ⟨_,rfl,_,rfl,_,rfl,_,rfl,rc,_,rfl,.inr (G8.sqT hrc),szl rfl,fun t ht=>⟨ru,t,_,_,rfl,rfl,(Grow.new (m:=[]) ht _).sqT hru,SqT.of zd,le72 (by rw [zx]; show _ + 1 <= 5000; omega),fun p2 H9 g9 h9=>?_⟩⟩⟩) ?_
   ·have g89:=(Grow.new (m:=[]) ht (.tup [V.int (xs.length:Nat)])).trans g9
    have h9':SqT K H9 p2 (zp (o ++ [cs.length])):=by rw [yE,← xl]; exact h9
    refine ⟨_,_,_,rfl,b,more,_,[],(G8.trans g89.wk).board hb,b1,b16,((g8.trans g89).calls72 hm),y9 h9',ok2,xa (by rw [List.length_append,List.length_singleton]; omega),fun bb H10 g10 hbb=>?_⟩
    obtain rfl:bb = true:=hbb.mpr (xg.mpr fit2)
    exact ⟨_,_,rfl,rfl,_,rfl,hk _ _ ⟨rfl,g89.trans g10⟩⟩
   rintro _ H9 ⟨rfl,g9⟩
   refine iteF (yF ?_)
   have G9:=G8.trans g9.wk
   refine ⟨_,rfl,_,rfl,_,rfl,_,_,_,rfl,b,more,_,[],G9.board hb,b1,b16,(g8.trans g9).calls72 hm,y9 (g9.sqT hrf),ok2,xa (by omega),fun bb H10 g10 hbb=>?_⟩
   obtain rfl:bb = true:=hbb.mpr (xg.mpr fit3)
   exact ⟨_,_,rfl,rfl,q _ (G9.trans g10.wk) ((pp8.grow g9).grow g10)⟩
theorem xX:FnScope ["_law_pot_here","_law_row","_law_left"] ["_law_pot_here","_law_row"] (zj (top 39)):=⟨rfl,rfl,rfl,by decide +kernel,rfl,by decide +kernel,by decide +kernel⟩
theorem vP (F:Fun K "_law_shuffled" "_law_shuffled" (top 39) f fd) (B:Blt mg) (qc0:zk P w K mg base n "_law_take" ["_law_pot_here","_law_many"] (yM K))     :
  FnOk P w K mg base CX0 (n + 1) f fd ["_law_pot_here","_law_row"] (uG K):=by
 refine F.ok xX z3 (fun cdv A outer s H vs Q E hr h=>?_)
 obtain ⟨x,y,rfl,p,xs,rfl,pp,⟨r,rfl,hn⟩,hl,q⟩:=h
 refine ⟨_,(ze (zr (i:=2) xX.nd rfl (Or.inr rfl) (zQ xm rfl B.list v8 (za (pv 1) zb))) (zh (zt (zU (CSc.of (N':=["_law_k","_law_left","_law_pot_here"]) (sub:=[none,some 2,some 0]) (zj (top 39)) ["_law_pot_here","_law_row","_law_left"] rfl rfl (by decide +kernel) rfl) rfl (y7 rfl B.range (za (zn zq rfl B.len y0 (za (pv 1) zb)) zb)) (fun _ _ _ _ _ _=>zi (i:=0) (show (["_law_k","_law_left","_law_pot_here"]:List Str).Nodup by decide +kernel) rfl (Or.inl rfl)) (fun _ _ _ _ _ _=>zT) (fun _ _ _ _ _ _=>(jP (K:=K) rfl PySem.F.plainAttrs_list PySem.F.slot_list_pop PySem.F.type_list_pop jz (pv 1) (za (zf qc0 hr rfl (za (pv 2) (za (zn (rE (K:=K) rfl) rfl B.len y0 (za (pv 1) zb)) zb))) zb))))))),?_⟩
 refine ⟨_,rfl,r,_,rfl,hn,fun l hl0=>?_⟩
 have gl:=Grow.new (m:=[p,l]) hl0 (.lst xs)
 have pl:p ≠ l:=fun z=>yH pp hl0 (by rw [z]; simp)
 have pp0:=pp.grow (Grow.new hl0 (.lst xs))
 have hn0:SqL K (upd H l (.lst xs)) r xs \/ SqT K (upd H l (.lst xs)) r xs:=hn.imp (fun z=>(Grow.new (m:=[]) hl0 _).sqL z) fun z=>(Grow.new (m:=[]) hl0 _).sqT z
 have h0:upd H l (.lst xs) l = some (.lst xs):=zd
 generalize upd H l (.lst xs) = H0 at gl pp0 hn0 h0 ⊢
 refine ⟨_,rfl,r,_,rfl,hn0,_,rfl,by omega,by omega,tZ (fun i ys H'=>∃ ms left:List V,ys = ms /\ ms.length = i /\ (ms ++ left).Perm xs /\ H' l = some (.lst left) /\ Grow [p,l] H0 H' /\ Pot H' p) ⟨[],xs,rfl,rfl,List.Perm.refl _,h0,Grow.refl _ _,pp0⟩ ?_ ?_⟩
 ·rintro i ys H1 hi ⟨_,left,rfl,ml,hp,hl1,g1,pp1⟩
  have hil:i < xs.length:=by
   have:=hi
   omega
  have hlen:=hp.length_eq
  rw [List.length_append] at hlen
  have ll:0 < left.length:=by omega
  refine ⟨_,rfl,.inl ⟨rfl,_,SqL.of hl1⟩,_,rfl,_,rfl,l,_,rfl,.inl (SqL.of hl1),_,_,rfl,p,_,rfl,rfl,pp1,by omega,Int.lt_of_le_of_lt (b:=100) (by omega) (by decide),fun j' H2 j0 j1 g2 pp2=>?_⟩
  obtain ⟨j,rfl⟩:=Int.eq_ofNat_of_zero_le j0
  have hj:j < left.length:=by omega
  have hl2:=g2.keep _ _ (by simpa using pl.symm) hl1
  refine ⟨l,left,_,j,left[j],rfl,rfl,hl2,by omega,Int.lt_of_le_of_lt (b:=100) (by omega) (by decide),?_,?_,lt72 (by omega),ys ++ [left[j]],left.eraseIdx j,rfl,by rw [List.length_append,List.length_singleton,ml],?_,?_,g1.trans ((g2.mono (by simp)).trans (Grow.set hl2 (by simp) _)),?_⟩
  ·exact PySem.StrLaws.seqIndex_nonneg (by omega) (by omega)
  ·exact List.getElem?_eq_getElem hj
  ·refine List.Perm.trans ?_ hp
   rw [List.append_assoc]
   exact List.Perm.append_left _ (vM hj)
  ·rw [zd]
  ·obtain ⟨u,w,e,z⟩:=pp2
   exact ⟨u,w,by rw [zo pl]; exact e,z⟩
 ·rintro ys H1 ⟨_,left,rfl,ml,hp,hl1,g1,pp1⟩ l' hl'
  have hlen:=hp.length_eq
  rw [List.length_append,ml] at hlen
  have e0:left = []:=List.length_eq_zero_iff.mp (by omega)
  subst e0
  rw [List.append_nil] at hp
  have n1:l' ∉ [p,l]:=fun z=>by
   rcases List.mem_cons.mp z with z | z
   ·exact yH pp1 hl' (by rw [z]; simp)
   ·rw [List.mem_singleton.mp z,hl1] at hl'; cases hl'
  have G:=gl.trans (g1.trans (Grow.new hl' (.lst (ys))))
  exact q l' ys _ hp (Grow.shrink2 G hl0) (pp1.grow (Grow.new hl' _)) ((gl.trans g1).free n1 hl') (fun z=>n1 (by rw [z]; simp)) zd
theorem zv:FnScope ["_law_pot_here","_law_board","_law_calls","_law_hands","_law_more","_law_boxes","_law_values","_law_scale","_law_shift","_law_places","_law_found","_law_j","_law_hand","_law_box","_law_deed_here","_law_begun","_law_ended","_law_answer"] ["_law_pot_here","_law_board","_law_calls"] (zj (top 47)):=⟨rfl,rfl,rfl,by decide +kernel,rfl,by decide +kernel,by decide +kernel⟩
theorem uJ (F:Fun K "_law_renamed" "_law_renamed" (top 47) f fd) (B:Blt mg) (qc0:zk P w K mg base n "_law_shuffled" ["_law_pot_here","_law_row"] (uG K)) (qc1:zk P w K mg base n "_law_take" ["_law_pot_here","_law_many"] (yM K))     :
  FnOk P w K mg base CX0 (n + 1) f fd ["_law_pot_here","_law_board","_law_calls"] (Zq K):=by
 refine F.ok zv wG (fun cdv A outer s H vs Q E hr h=>?_)
 obtain ⟨x,y,z,rfl,p,b,cs,rfl,pp,hb,b1,b16,hc,ok,q⟩:=h
 refine ⟨_,(ze (zr (i:=3) zv.nd rfl (Or.inl rfl) (zf qc0 hr rfl (za (pv 0) (za (xn rfl rfl B.list rfl B.range (za zg zb)) zb)))) (ze (zr (i:=4) zv.nd rfl (Or.inr rfl) (zU (CSc.of (N':=["_law_k","_law_pot_here"]) (sub:=[none,some 0]) (zj (top 47)) ["_law_pot_here","_law_board","_law_calls","_law_hands","_law_more","_law_boxes","_law_values","_law_scale","_law_shift","_law_places","_law_found","_law_j","_law_hand","_law_box","_law_deed_here","_law_begun","_law_ended","_law_answer"] rfl rfl (by decide +kernel) rfl) rfl (y7 rfl B.range (za (zf qc1 hr rfl (za (pv 0) (za (zB wz zg (zn zq rfl B.len y0 (za (pv 1) zb))) zb))) zb)) (fun _ _ _ _ _ _=>zi (i:=0) (show (["_law_k","_law_pot_here"]:List Str).Nodup by decide +kernel) rfl (Or.inl rfl)) (fun _ _ _ _ _ _=>zT) (fun _ _ _ _ _ _=>(zB wz (zf qc1 hr rfl (za (pv 1) (za zg zb))) zg)))) (ze (zr (i:=5) zv.nd rfl (Or.inl rfl) (zf qc0 hr rfl (za (pv 0) (za (xn rfl rfl B.list rfl B.range (za (zB yb (zn zq rfl B.len y0 (za (pv 1) zb)) (zn zq rfl B.len y0 (za (pv 4) zb))) zb)) zb)))) (ze (zr (i:=6) zv.nd rfl (Or.inl rfl) (zQ zN rfl B.tuple yr (za (zU (CSc.of (N':=["_law_k","_law_board","_law_more"]) (sub:=[none,some 1,some 4]) (zj (top 47)) ["_law_pot_here","_law_board","_law_calls","_law_hands","_law_more","_law_boxes","_law_values","_law_scale","_law_shift","_law_places","_law_found","_law_j","_law_hand","_law_box","_law_deed_here","_law_begun","_law_ended","_law_answer"] rfl rfl (by decide +kernel) rfl) rfl (xv (pv 5)) (fun _ _ _ _ _ _=>zi (i:=0) (show (["_law_k","_law_board","_law_more"]:List Str).Nodup by decide +kernel) rfl (Or.inl rfl)) (fun _ _ _ _ _ _=>zT) (fun _ _ _ _ _ _=>(zM (jE (K:=K) rfl) (zB Vo (zQ (u8 (K:=K) rfl) rfl B.list v8 (za (pv 1) zb)) (pv 2)) (pv 0) (fun _ _=>rfl)))) zb))) (ze (Uy (i:=7) (j:=8) rfl zv.nd rfl rfl (by decide) rfl rfl (za (zB yb zg (zf qc1 hr rfl (za (pv 0) (za zg zb)))) (za (zf qc1 hr rfl (za (pv 0) (za (zB s9 zg zg) zb))) zb)) rfl) (ze (zr (i:=9) zv.nd rfl (Or.inl rfl) (zf qc0 hr rfl (za (pv 0) (za (xn rfl rfl B.list rfl B.range (za (zn zq rfl B.len y0 (za (pv 2) zb)) zb)) zb)))) (ze (zr (i:=10) zv.nd rfl (Or.inl rfl) (xV zb)) (ze (xk PassesOwn.never rfl (xv (pv 9)) (zi (i:=11) zv.nd rfl (Or.inl rfl)) (ze (yY (zM z7 (pv 2) (pv 11) (fun _ _=>rfl)) (yK rfl (zm (zi (i:=12) zv.nd rfl (Or.inl rfl)) (zm (zi (i:=13) zv.nd rfl (Or.inl rfl)) (zm (zi (i:=14) zv.nd rfl (Or.inl rfl)) (zm (zi (i:=15) zv.nd rfl (Or.inl rfl)) (zm (zi (i:=16) zv.nd rfl (Or.inl rfl)) (zm (zi (i:=17) zv.nd rfl (Or.inl rfl)) z9)))))))) (zh (x6 (tW PySem.F.plainAttrs_list PySem.F.slot_list_append PySem.F.type_list_append wa (pv 10) (za (z6 (za (zM zZ (pv 3) (pv 12) (fun _ _=>rfl)) (za (tW PySem.F.plainAttrs_list PySem.F.slot_list_index PySem.F.type_list_index (vU (K:=K) rfl) (pv 5) (za (pv 13) zb)) (za (pv 14) (za (zB yb (zB yw (pv 15) (pv 7)) (pv 8)) (za (zB yb (zB yw (pv 16) (pv 7)) (pv 8)) (za (pv 17) zb))))))) zb)))))) (zh (zt (z6 (za (pv 6) (za (zQ zN rfl B.tuple yr (za (pv 10) zb)) (za (pv 9) zb)))))))))))))),?_⟩
 obtain ⟨rb,rfl,hrb⟩:=id hb
 obtain ⟨rc,xs,rfl,hrc,hall⟩:=id hc
 have xl:=hall.len
 have c40:=ok.len
 have bml:(b.map V.int).length = b.length:=List.length_map ..
 refine zO (fun v H'=>∃ (l3:Addr) (hs:List Nat),v = .ref l3 /\ hs.Perm (List.range 16) /\ H' l3 = some (.lst (zp hs)) /\ l3 ≠ p /\ Grow [p] H H' /\ Pot H' p) (fun Kk hk=>⟨_,rfl,16,rfl,by decide,fun l1 hl1=>⟨_,_,rfl,p,zp (List.range 16),rfl,pp.grow (Grow.new hl1 _),⟨l1,rfl,.inl (SqL.of zd)⟩,by decide,fun l2 zs H2 hz g2 pp2 _ l2p h2=>?_⟩⟩) ?_
 ·obtain ⟨ms,hm,rfl⟩:=wN hz
  exact hk _ _ ⟨l2,ms,rfl,hm,h2,l2p,(Grow.new hl1 _).wk.trans g2,pp2⟩
 rintro _ H3 ⟨l3,hs,rfl,hhs,hl3,np3,g3,pp3⟩
 refine zO (fun v H'=>∃ (l4:Addr) (ws:List Int),v = .ref l4 /\ H' l4 = some (.lst (ws.map V.int)) /\ b.length + ws.length <= 16 /\ l4 ≠ p /\ Grow [p] H3 H' /\ Pot H' p) (fun Kk hk=>⟨_,rfl,_,rfl,rb,_,rfl,.inr (g3.sqT hrb),_,_,rfl,rfl,_,_,rfl,p,_,rfl,rfl,pp3,by omega,Int.lt_of_le_of_lt (b:=100) (by omega) (by decide),fun m H4 m0 m1 g4 pp4=>⟨_,rfl,by omega,by omega,tZ (fun j ys H'=>∃ ws:List Int,ys = ws.map V.int /\ ws.length = j /\ Grow [p] H4 H' /\ Pot H' p) ⟨[],rfl,rfl,Grow.refl _ _,pp4⟩ ?_ ?_⟩⟩) ?_
 ·rintro j ys H5 hj ⟨ws,rfl,wl,g5,pp5⟩
  exact ⟨_,rfl,_,_,rfl,p,9,rfl,rfl,pp5,by decide,by decide,fun t H6 t0 t1 g6 pp6=>⟨_,_,rfl,rfl,lt72 (by rw [List.length_map]; omega),ws ++ [t - 4],by rw [List.map_append]; rfl,by rw [List.length_append,wl]; rfl,g5.trans g6,pp6⟩⟩
 ·rintro ys H5 ⟨ws,rfl,wl,g5,pp5⟩ l hl
  exact hk _ _ ⟨l,ws,rfl,zd,by omega,fun z=>yH pp5 hl (by rw [z]; simp),g4.trans (g5.trans (Grow.new hl _)),pp5.new hl _⟩
 rintro _ H4 ⟨l4,ws,rfl,hl4,n16,np4,g4,pp4⟩
 have wml:(ws.map V.int).length = ws.length:=List.length_map ..
 have g04:=g3.trans g4
 have hl34:=g4.keep _ _ (by simp [np3]) hl3
 refine zO (fun v H'=>∃ (l5:Addr) (bs:List Nat),v = .ref l5 /\ bs.Perm (List.range (b.length + ws.length)) /\ H' l5 = some (.lst (zp bs)) /\ l5 ≠ p /\ Grow [p] H4 H' /\ Pot H' p) (fun Kk hk=>⟨_,rfl,_,rfl,rb,_,rfl,.inr (g04.sqT hrb),_,rfl,l4,_,rfl,.inl (SqL.of hl4),_,_,rfl,rfl,b.length + ws.length,by rw [List.length_map,List.length_map,Int.natCast_add],by omega,fun l1 hl1=>⟨_,_,rfl,p,zp (List.range (b.length + ws.length)),rfl,pp4.grow (Grow.new hl1 _),⟨l1,rfl,.inl (SqL.of zd)⟩,by rw [zx,List.length_range]; omega,fun l2 zs H2 hz g2 pp2 _ l2p h2=>?_⟩⟩) ?_
 ·obtain ⟨ms,hm,rfl⟩:=wN hz
  exact hk _ _ ⟨l2,ms,rfl,hm,h2,l2p,(Grow.new hl1 _).wk.trans g2,pp2⟩
 rintro _ H5 ⟨l5,bs,rfl,hbs,hl5,np5,g5,pp5⟩
 have bsl:bs.length = b.length + ws.length:=by rw [hbs.length_eq,List.length_range]
 have g05:=g04.trans g5
 have hl35:=g5.keep _ _ (by simp [np3]) hl34
 have hl45:=g5.keep _ _ (by simp [np4]) hl4
 refine zO (fun v H'=>zA K H' v (bs.map fun k=>(b ++ ws).getD k 0) /\ Grow [] H5 H') (fun Kk hk=>⟨_,rfl,l5,rfl,⟨_,SqL.of hl5⟩,wp (xs:=zp bs) (fun i ys H'=>ys = ((bs.take i).map fun k=>(b ++ ws).getD k 0).map V.int /\ Grow [] H5 H') ⟨rfl,Grow.refl _ _⟩ (fun i ys H' z=>SqL.of (z.2.keep _ _ (by simp) hl5)) ?_ ?_⟩) ?_
 ·rintro i x ys H' hx ⟨rfl,g⟩
  obtain ⟨k,hki,rfl⟩:=ye hx
  have hk':k < (b ++ ws).length:=by rw [List.length_append]; exact List.mem_range.mp (hbs.mem_iff.mp (List.mem_of_getElem? hki))
  refine ⟨_,rfl,rb,_,rfl,.inr ((g05.trans g.wk).sqT hrb),fun l1 hl1=>⟨_,rfl,l1,l4,_,_,rfl,rfl,zd,(Grow.new (m:=[]) hl1 _).keep _ _ (by simp) (g.keep _ _ (by simp) hl45),?_,fun p3 hp3=>⟨_,rfl,p3,_,_,.int ((b ++ ws).getD k 0),rfl,rfl,SqL.of zd,zw ?_,?_,?_,g.trans ((Grow.new hl1 _).trans (Grow.new hp3 _))⟩⟩⟩
  ·exact le72 (by rw [List.length_map,List.length_map]; omega)
  ·rw [← List.map_append,List.getElem?_map,List.getElem?_eq_getElem hk',List.getD_eq_getElem?_getD,List.getElem?_eq_getElem hk']; rfl
  ·exact lt72 (by rw [List.length_map,List.length_map,List.length_take]; omega)
  ·rw [List.take_succ,hki,List.map_append,List.map_append]; rfl
 ·rintro ys H' ⟨rfl,g⟩ l hl
  rw [zx,List.take_length]
  exact ⟨l,_,rfl,.inl ⟨SqL.of zd,fun t ht=>hk _ _ ⟨⟨t,rfl,SqT.of zd⟩,g.trans ((Grow.new hl _).trans (Grow.new ht _))⟩⟩⟩
 rintro vb H6 ⟨hvb,g6⟩
 have pp6:=pp5.grow g6
 refine ⟨_,rfl,_,_,rfl,p,3,rfl,rfl,pp6,by decide,by decide,fun s0 H7 s00 s01 g7 pp7=>⟨_,_,rfl,rfl,_,rfl,_,_,rfl,rfl,⟨by decide,by decide,by decide⟩,_,_,rfl,p,10 ^ 25,rfl,rfl,pp7,by decide,by decide,fun t H8 t0 t1 g8 pp8=>⟨_,_,rfl,?_⟩⟩⟩
 try dsimp only
 have g78:=g7.trans g8
 have s1:1 <= 1 + s0:=by omega
 have s3:1 + s0 <= 3:=by omega
 generalize 1 + s0 = s at s1 s3 ⊢
 have g08:=g05.trans (g6.wk.trans g78)
 refine zO (fun v H'=>∃ (l9:Addr) (pl:List Nat),v = .ref l9 /\ pl.Perm (List.range cs.length) /\ H' l9 = some (.lst (zp pl)) /\ l9 ≠ p /\ Grow [p] H8 H' /\ Pot H' p) (fun Kk hk=>⟨_,rfl,_,rfl,rc,_,rfl,.inr (g08.sqT hrc),xs.length,rfl,by omega,fun l1 hl1=>⟨_,_,rfl,p,zp (List.range xs.length),rfl,pp8.grow (Grow.new hl1 _),⟨l1,rfl,.inl (SqL.of zd)⟩,by rw [zx,List.length_range]; omega,fun l2 zs H2 hz g2 pp2 _ l2p h2=>?_⟩⟩) ?_
 ·obtain ⟨ms,hm,rfl⟩:=wN hz
  exact hk _ _ ⟨l2,ms,rfl,by rw [← xl]; exact hm,h2,l2p,(Grow.new hl1 _).wk.trans g2,pp2⟩
 rintro _ H9 ⟨l9,pl,rfl,hpl,hl9,np9,g9,pp9⟩
 have plen:pl.length = cs.length:=by rw [hpl.length_eq,List.length_range]
 have plt:∀ k ∈ pl,k < cs.length:=fun k hk=>List.mem_range.mp (hpl.mem_iff.mp hk)
 have RN:=Sx (b:=b) (ws:=ws) ok b1 n16 hhs hbs hpl s1 t0
 refine zO (fun v H'=>∃ l0:Addr,v = .ref l0 /\ H9 l0 = none /\ H' l0 = some (.lst []) /\ Grow [] H9 H') (fun Kk hk=>⟨szl rfl,fun l0 hl0=>hk _ _ ⟨l0,rfl,hl0,zd,Grow.new hl0 _⟩⟩) ?_
 rintro _ H10 ⟨l0,rfl,nl0,hl0,g10⟩
 have npl:l0 ≠ p:=fun z=>yH pp9 nl0 (by rw [z]; simp)
 have g6A:Grow [p] H6 H10:=g78.trans (g9.trans g10.wk)
 have g5A:Grow [p] H5 H10:=g6.wk.trans g6A
 have g0A:=g05.trans g5A
 have hvbA:=g6A.board hvb
 have hl3A:=g5A.keep _ _ (by simp [np3]) hl35
 have hl5A:=g5A.keep _ _ (by simp [np5]) hl5
 have hl9A:=g10.keep _ _ (by simp) hl9
 have ppA:=pp9.grow g10
 have n93:∀ {l:Addr} {o:HO},H9 l = some o -> l ≠ l0:=fun h z=>by rw [z,nl0] at h; cases h
 have ne3:l3 ≠ l0:=n93 ((g6.wk.trans (g78.trans g9)).keep _ _ (by simp [np3]) hl35)
 have ne5:l5 ≠ l0:=n93 ((g6.wk.trans (g78.trans g9)).keep _ _ (by simp [np5]) hl5)
 have ne9:l9 ≠ l0:=n93 hl9
 refine ⟨_,rfl,l9,rfl,⟨_,SqL.of hl9A⟩,tS (xs:=zp pl) (fun i σ H'=>∃ (e11 e12 e13 e14 e15 e16 e17:Option V) (ys:List V),σ = [some (.ref p),some (.ref rb),some (.ref rc),some (.ref l3),some (.ref l4),some (.ref l5),some vb,some (.int s),some (.int t),some (.ref l9),some (.ref l0),e11,e12,e13,e14,e15,e16,e17] /\ H' l0 = some (.lst ys) /\ AllR (yf K H') ys ((pl.take i).map fun j=>Yg hs bs s t (cg cs j)) /\ ys.length = i /\ Grow [l0] H10 H') ⟨_,_,_,_,_,_,_,[],rfl,hl0,trivial,rfl,Grow.refl _ _⟩ (fun i σ H' _ ⟨_,_,_,_,_,_,_,_,_,_,_,_,g⟩=>SqL.of (g.keep _ _ (by simp [ne9]) hl9A)) ?_ ?_⟩
 ·rintro i v σ H11 hv ⟨e11,e12,e13,e14,e15,e16,e17,ys,rfl,hy,hd,yl,g11⟩
  obtain ⟨k,hki,rfl⟩:=ye hv
  have hk':=plt k (List.mem_of_getElem? hki)
  have i40:i < cs.length:=by rw [← plen]; exact (List.getElem?_eq_some_iff.mp hki).1
  obtain ⟨z,hz,rz,rd,rfl,sz,sd⟩:=hall.getR (List.getElem?_eq_getElem hk')
  have o:=ok.ok _ (List.getElem_mem hk')
  have ec:cg cs k = cs[k]:=yG (List.getElem?_eq_getElem hk')
  generalize cs[k] = c at sz sd o ec
  have g0B:Grow [p,l0] H H11:=(g0A.mono (by simp)).trans (g11.mono (by simp))
  have o1:=o.h0; have o2:=o.h1; have o3:=o.b0; have o4:=o.b1
  have hl3B:=g11.keep _ _ (by simp [ne3]) hl3A
  have hl5B:=g11.keep _ _ (by simp [ne5]) hl5A
  have hsl:c.hand.toNat < hs.length:=by rw [hhs.length_eq,List.length_range]; omega
  have hat:atI (zp hs) c.hand = some (.int ((hs.getD c.hand.toNat 0:Nat):Int)):=by
   have e:c.hand = (c.hand.toNat:Int):=by omega
   rw [e]
   refine zw ?_
   unfold zp
   rw [List.getElem?_map,List.getElem?_eq_getElem hsl,Int.toNat_natCast,List.getD_eq_getElem?_getD,List.getElem?_eq_getElem hsl]; rfl
  have hbm:c.box.toNat ∈ bs:=hbs.mem_iff.mpr (List.mem_range.mpr (by omega))
  try dsimp only
  refine ⟨_,rfl,_,rfl,rc,_,_,.ref rz,rfl,rfl,g0B.sqT hrc,zw hz,rz,_,rfl,g0B.sqT sz,rfl,_,_,rfl,_,_,rfl,_,_,rfl,_,_,rfl,_,_,rfl,_,_,rfl,rfl,?_⟩
  try dsimp only
  refine ⟨_,rfl,.inl ⟨rfl,_,SqL.of hy⟩,_,rfl,_,rfl,l3,_,_,_,rfl,rfl,SqL.of hl3B,hat,_,rfl,.inl ⟨rfl,_,SqL.of hl5B⟩,_,rfl,l5,bs,c.box.toNat,rfl,by rw [Int.toNat_of_nonneg o3],SqL.of hl5B,hbm,by omega,_,rfl,_,rfl,_,rfl,_,_,rfl,rfl,u3 ⟨by omega,by omega⟩,_,rfl,_,_,rfl,rfl,_,rfl,_,rfl,_,_,rfl,rfl,u3 ⟨by omega,by omega⟩,_,rfl,_,_,rfl,rfl,_,rfl,szl rfl,fun tc htc=>?_⟩
  have gn:=Grow.new (m:=[]) htc (.tup ((Yg hs bs s t c).vs rd))
  have hyc:=gn.keep _ _ (by simp) hy
  have gs:=Grow.set (m:=[l0]) hyc (by simp) (ys ++ [.ref tc])
  have ga:Grow [l0] H11 _:=gn.wk.trans gs
  refine ⟨l0,ys,_,rfl,rfl,hyc,lt72 (by omega),⟨_,_,_,_,_,_,_,ys ++ [.ref tc],rfl,zd,?_,by rw [List.length_append,List.length_singleton,yl],g11.trans ga⟩⟩
  rw [List.take_succ,hki,List.map_append]
  refine AllR.app (ga.callsR hd) ⟨?_,trivial⟩
  show yf K _ (.ref tc) (Yg hs bs s t (cg cs k))
  rw [ec]
  exact ⟨tc,rd,rfl,gs.sqT (SqT.of zd),(g0B.trans (ga.mono (by simp))).sqT sd⟩
 ·rintro σ H11 ⟨e11,e12,e13,e14,e15,e16,e17,ys,rfl,hy,hd,yl,g11⟩
  rw [zx,List.take_length] at hd
  have g9B:Grow [l0] H9 H11:=g10.wk.trans g11
  have gB:Grow [p] H H11:=(g08.trans g9).trans (Grow.shrinkTo (m':=[p]) (fun a ha=>.inr (by rw [List.mem_singleton.mp ha]; exact nl0)) g9B)
  have ppB:Pot H11 p:=by
   obtain ⟨u0,u1,e,z⟩:=ppA
   exact ⟨u0,u1,g11.keep _ _ (by simp [Ne.symm npl]) e,z⟩
  refine ⟨_,rfl,_,rfl,l0,ys,rfl,.inl ⟨SqL.of hy,fun r5 hr5=>⟨_,rfl,szl rfl,fun r hr=>?_⟩⟩⟩
  have ge:=(Grow.new (m:=[]) hr5 (.tup ys)).trans (Grow.new hr (.tup [vb,.ref r5,.ref l9]))
  exact q _ _ pl _ s t r l9 vb (.ref r5) _ RN (gB.trans ge.wk) (ppB.grow ge) (SqT.of zd) ((g11.trans ge.wk).board hvbA) ⟨r5,ys,rfl,(Grow.new (m:=[]) hr _).sqT (SqT.of zd),ge.callsR hd⟩ (ge.keep _ _ (by simp) (g11.keep _ _ (by simp [ne9]) hl9A)) np9
theorem zE:FnScope ["_law_pot_here","_law_board","_law_calls","_law_order","_law_values","_law_moved","_law_places","_law_other","_law_there"] ["_law_pot_here","_law_board","_law_calls","_law_order"] (zj (top 49)):=⟨rfl,rfl,rfl,by decide +kernel,rfl,by decide +kernel,by decide +kernel⟩
theorem xI (F:Fun K "_law_is_renamed_right" "_law_is_renamed_right" (top 49) f fd) (B:Blt mg) (qc0:zk P w K mg base n "fits" ["board","calls","order"] (wc K)) (qc1:zk P w K mg base n "an_order" ["board","calls"] (w9 K)) (qc2:zk P w K mg base n "_law_renamed" ["_law_pot_here","_law_board","_law_calls"] (Zq K))     :
  FnOk P w K mg base CX0 (n + 1) f fd ["_law_pot_here","_law_board","_law_calls","_law_order"] (vd K):=by
 refine F.ok zE vn (fun cdv A outer s H vs Q E hr h=>?_)
 obtain ⟨x,y,z,u,rfl,p,b,cs,rfl,pp,hb,b1,b16,hc,ok,so,ho,q⟩:=h
 refine ⟨_,(ze (yY (zf qc2 hr rfl (za (pv 0) (za (pv 1) (za (pv 2) zb)))) (yK rfl (zm (zi (i:=4) zE.nd rfl (Or.inl rfl)) (zm (zi (i:=5) zE.nd rfl (Or.inl rfl)) (zm (zi (i:=6) zE.nd rfl (Or.inr rfl)) z9))))) (ze (zr (i:=7) zE.nd rfl (Or.inl rfl) (zf qc1 hr rfl (za (pv 4) (za (pv 5) zb)))) (ze (ya (PW.pt (vO (xT (xZ (pv 3))) (x4 (xT (xZ (pv 7)))))) (zh (zt (xA (ju (xZ (pv 3))) (xU (ju (xZ (pv 7))))))) zC) (ze (zr (i:=8) zE.nd rfl (Or.inl rfl) (zQ zN rfl B.tuple yr (za (zU (CSc.of (N':=["_law_k","_law_places"]) (sub:=[none,some 6]) (zj (top 49)) ["_law_pot_here","_law_board","_law_calls","_law_order","_law_values","_law_moved","_law_places","_law_other","_law_there"] rfl rfl (by decide +kernel) rfl) rfl (xB (pv 3)) (fun _ _ _ _ _ _=>zi (i:=0) (show (["_law_k","_law_places"]:List Str).Nodup by decide +kernel) rfl (Or.inl rfl)) (fun _ _ _ _ _ _=>zT) (fun _ _ _ _ _ _=>(jP (K:=K) rfl PySem.F.plainAttrs_list PySem.F.slot_list_index PySem.F.type_list_index (vU (K:=K) rfl) (pv 1) (za (pv 0) zb)))) zb))) (zh (zt (xA (yT jN (zf qc0 hr rfl (za (pv 4) (za (pv 5) (za (pv 8) zb)))) yJ (zI _)) (xU (yT jN (zf qc0 hr rfl (za (pv 1) (za (pv 2) (za (zQ zN rfl B.tuple yr (za (zU (CSc.of (N':=["_law_k","_law_places"]) (sub:=[none,some 6]) (zj (top 49)) ["_law_pot_here","_law_board","_law_calls","_law_order","_law_values","_law_moved","_law_places","_law_other","_law_there"] rfl rfl (by decide +kernel) rfl) rfl (xB (pv 7)) (fun _ _ _ _ _ _=>zi (i:=0) (show (["_law_k","_law_places"]:List Str).Nodup by decide +kernel) rfl (Or.inl rfl)) (fun _ _ _ _ _ _=>zT) (fun _ _ _ _ _ _=>(zM (jE (K:=K) rfl) (pv 1) (pv 0) (fun _ _=>rfl)))) zb)) zb)))) yJ (zI _)))))))))),?_⟩
 have c40:=ok.len
 refine ⟨_,rfl,_,rfl,_,rfl,_,_,_,rfl,p,b,cs,rfl,pp,hb,b1,b16,hc,ok,fun b' cs' pl bx s t r lp vb vc H1 R g1 pp1 hr1 hvb hvc hlp nlp=>⟨r,_,rfl,hr1,rfl,_,_,rfl,_,_,rfl,_,_,rfl,rfl,?_⟩⟩
 try dsimp only
 have plen:pl.length = cs.length:=by rw [R.per.length_eq,List.length_range]
 refine zO (fun v H'=>yS K H' v (yt cs' b') /\ ((yt cs' b').isSome = true -> yV cs') /\ Grow [] H1 H') (fun Kk hk=>⟨_,rfl,_,rfl,_,_,rfl,b',cs',hvb,R.b1,R.b16,hvc,R.ok,fun v H' g so ho=>hk _ _ ⟨ho,so,g⟩⟩) ?_
 rintro vo H2 ⟨ho2,so2,g2⟩
 have G2:=g1.trans g2.wk
 have pp2:=pp1.grow g2
 have ho1:=ho.grow G2
 cases e:yt cs b with
 | none =>
  rw [e] at ho1
  obtain rfl:u = .non:=ho1
  cases e2:yt cs' b' with
  | none =>
   rw [e2] at ho2
   obtain rfl:vo = .non:=ho2
   refine yL (fun c H'=>c = true /\ H' = H2) (fun Kk hk=>⟨_,rfl,_,rfl,y4 (decide_eq_true rfl) (hk _ _ ⟨rfl,rfl⟩)⟩) ?_
   rintro _ H2 ⟨rfl,rfl⟩
   exact iteT ⟨_,rfl,_,rfl,y4 (decide_eq_true rfl) ⟨_,rfl,q _ G2 pp2⟩⟩
  | some o2 =>
   exact (xG ok e ⟨_,Zm ok R.len R.s1 R.inj R.vs R.per R.ren (yp R.ok (so2 (by rw [e2]; rfl)) e2)⟩).elim
 | some o =>
  have fit:=yp ok (so (by rw [e]; rfl)) e
  have fit':=Yb ok R.len R.s1 R.inj R.vs R.per R.ren fit
  cases e2:yt cs' b' with
  | none=>exact (xG R.ok e2 ⟨_,fit'⟩).elim
  | some o2 =>
   have fit2:=yp R.ok (so2 (by rw [e2]; rfl)) e2
   have fit3:=Zm ok R.len R.s1 R.inj R.vs R.per R.ren fit2
   rw [e] at ho1
   rw [e2] at ho2
   obtain ⟨ru,rfl,hru⟩:=(show yN K H2 u o from ho1)
   obtain ⟨r2,rfl,hr2⟩:=(show yN K H2 vo o2 from ho2)
   have ol:o.length = cs.length:=by rw [fit.1.length_eq,List.length_range]
   have ol2:o2.length = cs.length:=by rw [fit2.1.length_eq,List.length_range,R.len]
   have hlp2:=g2.keep _ _ (by simp) hlp
   have om:∀ k ∈ o,k ∈ pl:=fun k hk=>R.per.mem_iff.mpr (fit.1.mem_iff.mp hk)
   have om2:∀ k ∈ o2,k < pl.length:=fun k hk=>by rw [plen,← R.len]; exact List.mem_range.mp (fit2.1.mem_iff.mp hk)
   refine yL (fun c H'=>c = false /\ H' = H2) (fun Kk hk=>⟨_,rfl,_,rfl,xi (decide_eq_false fun z=>by cases z) ⟨_,rfl,_,rfl,hk _ _ ⟨decide_eq_false (fun z=>by cases z),rfl⟩⟩⟩) ?_
   rintro _ H2 ⟨rfl,rfl⟩
   refine iteF (yF ?_)
   refine zO (fun v H'=>yN K H' v (o.map fun k=>pl.idxOf k) /\ Grow [] H2 H') (fun Kk hk=>⟨_,rfl,ru,rfl,⟨_,hru⟩,xL (xs:=zp o) (fun i ys σ' H'=>(∃ e0:Option V,σ' = [e0,some (.ref lp)]) /\ H' = H2 /\ ys = zp ((o.take i).map fun k=>pl.idxOf k)) ⟨⟨_,rfl⟩,rfl,rfl⟩ (fun i ys σ' H' _ z=>by rw [z.2.1]; exact hru) ?_ ?_⟩) ?_
   ·rintro i v ys σ' H3 hv ⟨⟨e0,rfl⟩,rfl,rfl⟩
    obtain ⟨k,hki,rfl⟩:=ye hv
    refine ⟨_,rfl,.inl ⟨rfl,_,SqL.of hlp2⟩,_,rfl,lp,pl,k,rfl,rfl,SqL.of hlp2,om k (List.mem_of_getElem? hki),by omega,lt72 (by rw [zx,List.length_map,List.length_take]; omega),⟨_,rfl⟩,rfl,?_⟩
    rw [List.take_succ,hki,List.map_append,yE]; rfl
   ·rintro ys σ' H3 ⟨_,rfl,rfl⟩ l hl
    rw [zx,List.take_length]
    exact ⟨l,_,rfl,.inl ⟨SqL.of zd,fun t ht=>hk _ _ ⟨⟨t,rfl,SqT.of zd⟩,(Grow.new hl _).trans (Grow.new ht _)⟩⟩⟩
   rintro vt H3 ⟨⟨rt,rfl,hrt⟩,g3⟩
   have g23:=g2.trans g3
   have hlp3:=g3.keep _ _ (by simp) hlp2
   refine ⟨_,rfl,_,rfl,_,rfl,_,_,_,rfl,b',cs',_,[],g23.board hvb,R.b1,R.b16,g23.calls72 hvc,y9 hrt,R.ok,xa (by rw [List.length_map]; omega),fun bb H4 g4 hbb=>?_⟩
   obtain rfl:bb = true:=hbb.mpr (xg.mpr fit')
   have G4:=(G2.trans g3.wk).trans g4.wk
   have hr24:=(g3.trans g4).sqT hr2
   have hlp4:=g4.keep _ _ (by simp) hlp3
   refine ⟨_,_,rfl,rfl,_,rfl,y4 rfl ?_⟩
   refine ⟨_,rfl,_,rfl,_,rfl,r2,rfl,⟨_,hr24⟩,xL (xs:=zp o2) (fun i ys σ' H'=>(∃ e0:Option V,σ' = [e0,some (.ref lp)]) /\ H' = H4 /\ ys = zp ((o2.take i).map fun k=>pl.getD k 0)) ⟨⟨_,rfl⟩,rfl,rfl⟩ (fun i ys σ' H' _ z=>by rw [z.2.1]; exact hr24) ?_ ?_⟩
   ·rintro i v ys σ' H5 hv ⟨⟨e0,rfl⟩,rfl,rfl⟩
    obtain ⟨k,hki,rfl⟩:=ye hv
    have hk':=om2 k (List.mem_of_getElem? hki)
    refine ⟨_,rfl,_,rfl,lp,_,_,.int ((pl.getD k 0:Nat):Int),rfl,rfl,SqL.of hlp4,zw ?_,lt72 (by rw [zx,List.length_map,List.length_take]; omega),⟨_,rfl⟩,rfl,?_⟩
    ·unfold zp; rw [List.getElem?_map,List.getElem?_eq_getElem hk',List.getD_eq_getElem?_getD,List.getElem?_eq_getElem hk']; rfl
    ·rw [List.take_succ,hki,List.map_append,yE]; rfl
   ·rintro ys σ' H5 ⟨_,rfl,rfl⟩ l hl
    rw [zx,List.take_length]
    refine ⟨l,_,rfl,.inl ⟨SqL.of zd,fun t ht=>?_⟩⟩
    have g5:=(Grow.new (m:=[]) hl (.lst (zp (o2.map fun k=>pl.getD k 0)))).trans (Grow.new ht (.tup (zp (o2.map fun k=>pl.getD k 0))))
    have G5:=G4.trans g5.wk
    refine ⟨_,_,_,rfl,b,cs,_,[],G5.board hb,b1,b16,G5.calls72 hc,y9 (SqT.of zd),ok,xa (by rw [List.length_map]; omega),fun bb H6 g6 hbb=>?_⟩
    obtain rfl:bb = true:=hbb.mpr (xg.mpr fit3)
    exact ⟨_,_,rfl,rfl,q _ (G5.trans g6.wk) ((((pp2.grow g3).grow g4).grow g5).grow g6)⟩
theorem vg:FnScope ["_law_pot_here","_law_moment","_law_scale","_law_begun"] ["_law_pot_here","_law_moment","_law_scale"] (zj (top 43)):=⟨rfl,rfl,rfl,by decide +kernel,rfl,by decide +kernel,by decide +kernel⟩
theorem sY (F:Fun K "_law_times" "_law_times" (top 43) f fd) (B:Blt mg) (qc0:zk P w K mg base n "_law_take" ["_law_pot_here","_law_many"] (yM K))     :
  FnOk P w K mg base CX0 (n + 1) f fd ["_law_pot_here","_law_moment","_law_scale"] (tq K):=by
 refine F.ok vg wG (fun cdv A outer s H vs Q E hr h=>?_)
 obtain ⟨x,y,z,rfl,p,mo,sc,rfl,rfl,rfl,pp,m0,m1,s0,s1,q⟩:=h
 refine ⟨_,(ze (zr (i:=3) vg.nd rfl (Or.inl rfl) (zn (wT rfl) rfl B.max Zz (za zg (za (zB wz (pv 1) (zf qc0 hr rfl (za (pv 0) (za zg zb)))) zb)))) (zh (zt (z6 (za (zB yw (pv 3) (pv 2)) (za (zB yw (zB yb (pv 1) (zf qc0 hr rfl (za (pv 0) (za zg zb)))) (pv 2)) zb)))))),?_⟩
 refine zO (fun v H'=>∃ be:Int,v = .int be /\ 0 <= be /\ be <= mo /\ Grow [p] H H' /\ Pot H' p) (fun Kk hk=>⟨_,rfl,_,rfl,_,_,rfl,p,4,rfl,rfl,pp,by decide,by decide,fun n H' n0 n1 g pp'=>⟨_,_,rfl,rfl,_,_,rfl,hk _ _ ⟨_,rfl,by split <;> omega,by split <;> omega,g,pp'⟩⟩⟩) ?_
 rintro _ H1 ⟨be,rfl,b0,b1,g1,pp1⟩
 have bs:be * sc <= mo * sc:=Int.mul_le_mul_of_nonneg_right b1 (by omega)
 have bs0:0 <= be * sc:=Int.mul_nonneg b0 (by omega)
 refine ⟨_,rfl,_,rfl,_,_,rfl,rfl,wZ ⟨by omega,by omega⟩,_,rfl,_,rfl,_,_,rfl,p,4,rfl,rfl,pp1,by decide,by decide,fun n H2 n0 n1 g2 pp2=>⟨_,_,rfl,rfl,_,rfl,_,_,rfl,rfl,wZ ⟨by omega,by omega⟩,szl rfl,fun r hr=>?_⟩⟩
 exact q _ _ r _ bs0 bs (Int.mul_le_mul_of_nonneg_right (by omega) (by omega)) (Int.mul_le_mul_of_nonneg_right (by omega) (by omega)) (g1.trans (g2.trans (Grow.new hr _))) (pp2.grow (Grow.new hr _)) (SqT.of zd)
theorem uR:FnScope ["_law_pot_here","_law_wide"] ["_law_pot_here","_law_wide"] (zj (top 40)):=⟨rfl,rfl,rfl,by decide +kernel,rfl,by decide +kernel,by decide +kernel⟩
theorem uS (F:Fun K "_law_number" "_law_number" (top 40) f fd) (B:Blt mg) (qc0:zk P w K mg base n "_law_take" ["_law_pot_here","_law_many"] (yM K))     :
  FnOk P w K mg base CX0 (n + 1) f fd ["_law_pot_here","_law_wide"] (sx K):=by
 refine F.ok uR z3 (fun cdv A outer s H vs Q E hr h=>?_)
 obtain ⟨x,y,rfl,p,b,rfl,rfl,pp,q⟩:=h
 refine ⟨_,(ze (ya (PW.pt (vF (yC (pv 1)) (wC (zF vY (zf qc0 hr rfl (za (pv 0) (za zg zb))) zg (zI _))))) (zh (zt (zB yw (zB wz zg (zB yw zg (zf qc0 hr rfl (za (pv 0) (za zg zb))))) (zf qc0 hr rfl (za (pv 0) (za (zB s9 zg zg) zb)))))) zC) (zh (zt (zB wz (zf qc0 hr rfl (za (pv 0) (za zg zb))) zg)))),?_⟩
 refine yL (fun b H'=>Grow [p] H H' /\ Pot H' p) (fun Kk hk=>⟨_,rfl,_,rfl,?_⟩) ?_
 ·cases b with
  | false=>exact iteF (hk _ _ ⟨Grow.refl _ _,pp⟩)
  | true=>exact iteT ⟨_,rfl,_,_,rfl,p,3,rfl,rfl,pp,by decide,by decide,fun n H' n0 n1 g pp'=>⟨rfl,_,rfl,hk _ _ ⟨g,pp'⟩⟩⟩
 rintro b1 H1 ⟨g1,pp1⟩
 cases b1 with
 | true =>
  refine iteT ⟨_,rfl,_,_,rfl,p,2,rfl,rfl,pp1,by decide,by decide,fun n H2 n0 n1 g2 pp2=>⟨_,_,rfl,rfl,wZ ⟨by decide,by decide⟩,_,_,rfl,rfl,_,rfl,_,_,rfl,rfl,⟨by decide,by decide,by decide⟩,_,_,rfl,p,_,rfl,rfl,pp2,by decide,by decide,fun k H3 k0 k1 g3 pp3=>⟨_,_,rfl,rfl,wZ ⟨by omega,by omega⟩,?_⟩⟩⟩
  refine q _ _ ?_ (g1.trans (g2.trans g3)) pp3
  have k1':k < 10 ^ 27:=k1
  have:n = 0 \/ n = 1:=by omega
  unfold N27
  rcases this with rfl | rfl <;> omega
 | false =>
  refine iteF (yF ⟨_,rfl,_,_,rfl,p,7,rfl,rfl,pp1,by decide,by decide,fun n H2 n0 n1 g2 pp2=>⟨_,_,rfl,rfl,q _ _ ?_ (g1.trans g2) pp2⟩⟩)
  unfold N27; omega
theorem xu:FnScope ["_law_pot_here","_law_wide","_law_add","_law_choice","_law_low"] ["_law_pot_here","_law_wide"] (zj (top 41)):=⟨rfl,rfl,rfl,by decide +kernel,rfl,by decide +kernel,by decide +kernel⟩
theorem qq (F:Fun K "_law_deed" "_law_deed" (top 41) f fd) (B:Blt mg) (qc0:zk P w K mg base n "_law_take" ["_law_pot_here","_law_many"] (yM K)) (qc1:zk P w K mg base n "_law_number" ["_law_pot_here","_law_wide"] (sx K))     :
  FnOk P w K mg base CX0 (n + 1) f fd ["_law_pot_here","_law_wide"] (rM K):=by
 refine F.ok xu z3 (fun cdv A outer s H vs Q E hr h=>?_)
 obtain ⟨x,y,rfl,p,b,rfl,rfl,pp,q⟩:=h
 refine ⟨_,(ze (zr (i:=2) xu.nd rfl (Or.inl rfl) (zf qc1 hr rfl (za (pv 0) (za (pv 1) zb)))) (ze (zr (i:=3) xu.nd rfl (Or.inl rfl) (zf qc0 hr rfl (za (pv 0) (za zg zb)))) (ze (ya (zF tU (pv 3) zg (zI _)) (zh (zt (zM zZ (xV (za (z6 (za zg (za xY (za xY zb)))) (za (z6 (za (pv 2) (za xY (za xY zb)))) zb))) (pv 3) (fun _ _=>rfl)))) zC) (ze (zr (i:=4) xu.nd rfl (Or.inl rfl) (zf qc1 hr rfl (za (pv 0) (za (pv 1) zb)))) (ze (ya (zF vY (pv 3) zg (zI _)) (zh (zt (z6 (za zg (za (pv 4) (za (pv 4) zb)))))) zC) (ze (ya (zF tU (pv 3) zg (zI _)) (zh (zt (zM zZ (xV (za (z6 (za (pv 2) (za (pv 4) (za xY zb)))) (za (z6 (za (pv 2) (za xY (za (pv 4) zb)))) zb))) (zB wz (pv 3) zg) (fun _ _=>rfl)))) zC) (zh (zt (z6 (za (pv 2) (za (pv 4) (za (zB yb (zB yb (pv 4) zg) (zf qc0 hr rfl (za (pv 0) (za zg zb)))) zb)))))))))))),?_⟩
 have Bd3:∀ {ad:Int} {lo hi:Option Int},N27 ad -> (∀ l,lo = some l -> N27 l) -> (∀ u,hi = some u -> -(10 ^ 27) <= u /\ u <= 10 ^ 27 + 6) -> (⟨ad,lo,hi⟩:Deed).Bd (10 ^ 27 + 6):=fun {ad lo hi} h1 h2 h3=>by
  refine ⟨?_,fun l hl=>?_,fun u hu=>?_⟩
  ·have:=h1.1; have:=h1.2; show -(10 ^ 27 + 6) <= ad /\ ad <= 10 ^ 27 + 6; omega
  ·have:=(h2 l hl).1; have:=(h2 l hl).2; exact ⟨by omega,by omega⟩
  ·have:=h3 u hu; exact ⟨by omega,by omega⟩
 have n27:N27 0:=⟨by decide,by decide⟩
 refine zO (fun v H'=>∃ ad:Int,v = .int ad /\ N27 ad /\ Grow [p] H H' /\ Pot H' p) (fun Kk hk=>⟨_,rfl,_,rfl,_,_,rfl,p,b,rfl,rfl,pp,fun n H' hn g pp'=>hk _ _ ⟨n,rfl,hn,g,pp'⟩⟩) ?_
 rintro _ H1 ⟨ad,rfl,had,g1,pp1⟩
 refine zO (fun v H'=>∃ k:Int,v = .int k /\ 0 <= k /\ k < 6 /\ Grow [p] H1 H' /\ Pot H' p) (fun Kk hk=>⟨_,rfl,_,_,rfl,p,6,rfl,rfl,pp1,by decide,by decide,fun n H' n0 n1 g pp'=>hk _ _ ⟨n,rfl,n0,n1,g,pp'⟩⟩) ?_
 rintro _ H2 ⟨k,rfl,k0,k6,g2,pp2⟩
 have G2:=g1.trans g2
 refine ⟨_,rfl,_,_,rfl,rfl,_,rfl,?_⟩
 by_cases hk2:k < 2
 ·refine y4 (decide_eq_true hk2) ⟨szl rfl,fun t1 ht1=>⟨_,rfl,szl rfl,fun t2 ht2=>⟨szl rfl,fun l hl=>?_⟩⟩⟩
  have gl:=(Grow.new (m:=[]) ht1 (.tup [.int 0,.non,.non])).trans ((Grow.new ht2 (.tup [.int ad,.non,.non])).trans (Grow.new hl (.lst [.ref t1,.ref t2])))
  have s1:SqT K (upd (upd (upd H2 t1 (.tup [.int 0,.non,.non])) t2 (.tup [.int ad,.non,.non])) l (.lst [.ref t1,.ref t2])) t1 (⟨0,none,none⟩:Deed).vs:=((Grow.new (m:=[]) ht2 _).trans (Grow.new hl _)).sqT (SqT.of zd)
  have s2:SqT K (upd (upd (upd H2 t1 (.tup [.int 0,.non,.non])) t2 (.tup [.int ad,.non,.non])) l (.lst [.ref t1,.ref t2])) t2 (⟨ad,none,none⟩:Deed).vs:=(Grow.new (m:=[]) hl _).sqT (SqT.of zd)
  have:k = 0 \/ k = 1:=by omega
  rcases this with rfl | rfl
  ·exact ⟨_,rfl,l,_,0,_,rfl,rfl,SqL.of zd,zw (j:=0) rfl,q ⟨0,none,none⟩ _ _ (fun _ _ z=>nomatch z) (Bd3 n27 (fun _ z=>nomatch z) fun _ z=>nomatch z) (G2.trans gl.wk) (pp2.grow gl) ⟨t1,rfl,s1⟩⟩
  ·exact ⟨_,rfl,l,_,1,_,rfl,rfl,SqL.of zd,zw (j:=1) rfl,q ⟨ad,none,none⟩ _ _ (fun _ _ z=>nomatch z) (Bd3 had (fun _ z=>nomatch z) fun _ z=>nomatch z) (G2.trans gl.wk) (pp2.grow gl) ⟨t2,rfl,s2⟩⟩
 refine xi (decide_eq_false hk2) (yF ?_)
 refine zO (fun v H'=>∃ lo:Int,v = .int lo /\ N27 lo /\ Grow [p] H2 H' /\ Pot H' p) (fun Kk hk=>⟨_,rfl,_,rfl,_,_,rfl,p,b,rfl,rfl,pp2,fun n H' hn g pp'=>hk _ _ ⟨n,rfl,hn,g,pp'⟩⟩) ?_
 rintro _ H3 ⟨lo,rfl,hlo,g3,pp3⟩
 have G3:=G2.trans g3
 have lo6:-(10 ^ 27) <= lo /\ lo <= 10 ^ 27 + 6:=by have:=hlo.1; have:=hlo.2; omega
 refine ⟨_,rfl,rfl,_,rfl,?_⟩
 by_cases hk3:k = 2
 ·refine y4 (decide_eq_true (congrArg V.int hk3)) ⟨_,rfl,_,rfl,szl rfl,fun t ht=>q ⟨0,some lo,some lo⟩ _ _ (fun l u h1 h2=>.inr ⟨by cases h1; cases h2; rfl,rfl⟩) (Bd3 n27 (fun l z=>by cases z; exact hlo) fun u z=>by cases z; exact lo6) (G3.trans (Grow.new ht _)) (pp3.grow (Grow.new ht _)) ⟨t,rfl,SqT.of zd⟩⟩
 refine xi (decide_eq_false fun z=>hk3 (V.int.inj z)) (yF ?_)
 refine ⟨_,rfl,_,_,rfl,rfl,_,rfl,?_⟩
 by_cases hk5:k < 5
 ·refine y4 (decide_eq_true hk5) ⟨_,rfl,_,rfl,szl rfl,fun t1 ht1=>⟨_,rfl,_,rfl,szl rfl,fun t2 ht2=>⟨szl rfl,fun l hl=>?_⟩⟩⟩
  have gl:=(Grow.new (m:=[]) ht1 (.tup [.int ad,.int lo,.non])).trans ((Grow.new ht2 (.tup [.int ad,.non,.int lo])).trans (Grow.new hl (.lst [.ref t1,.ref t2])))
  have s1:SqT K (upd (upd (upd H3 t1 (.tup [.int ad,.int lo,.non])) t2 (.tup [.int ad,.non,.int lo])) l (.lst [.ref t1,.ref t2])) t1 (⟨ad,some lo,none⟩:Deed).vs:=((Grow.new (m:=[]) ht2 _).trans (Grow.new hl _)).sqT (SqT.of zd)
  have s2:SqT K (upd (upd (upd H3 t1 (.tup [.int ad,.int lo,.non])) t2 (.tup [.int ad,.non,.int lo])) l (.lst [.ref t1,.ref t2])) t2 (⟨ad,none,some lo⟩:Deed).vs:=(Grow.new (m:=[]) hl _).sqT (SqT.of zd)
  have:k = 3 \/ k = 4:=by omega
  rcases this with rfl | rfl
  ·exact ⟨_,rfl,_,_,rfl,rfl,l,_,0,_,rfl,rfl,SqL.of zd,zw (j:=0) rfl,q ⟨ad,some lo,none⟩ _ _ (fun _ _ _ z=>nomatch z) (Bd3 had (fun l z=>by cases z; exact hlo) fun _ z=>nomatch z) (G3.trans gl.wk) (pp3.grow gl) ⟨t1,rfl,s1⟩⟩
  ·exact ⟨_,rfl,_,_,rfl,rfl,l,_,1,_,rfl,rfl,SqL.of zd,zw (j:=1) rfl,q ⟨ad,none,some lo⟩ _ _ (fun _ _ z=>nomatch z) (Bd3 had (fun _ z=>nomatch z) fun u z=>by cases z; exact lo6) (G3.trans gl.wk) (pp3.grow gl) ⟨t2,rfl,s2⟩⟩
 refine xi (decide_eq_false hk5) (yF ?_)
 refine ⟨_,rfl,_,rfl,_,rfl,_,_,rfl,rfl,_,rfl,_,_,rfl,p,5,rfl,rfl,pp3,by decide,by decide,fun n H4 n0 n1 g4 pp4=>⟨_,_,rfl,rfl,szl rfl,fun t ht=>?_⟩⟩
 refine q ⟨ad,some lo,some (lo + 1 + n)⟩ _ _ (fun l u h1 h2=>.inl (by cases h1; cases h2; omega)) (Bd3 had (fun l z=>by cases z; exact hlo) fun u z=>?_) (G3.trans (g4.trans (Grow.new ht _))) (pp4.grow (Grow.new ht _)) ⟨t,rfl,SqT.of zd⟩
 cases z
 have:=hlo.1; have:=hlo.2
 omega
theorem zy:FnScope ["_law_pot_here","_law_boxes","_law_many","_law_wide","_law_board","_law_values","_law_rooms","_law_scale","_law_moment","_law_found","_law_k","_law_box","_law_deed_here","_law_begun","_law_ended"] ["_law_pot_here","_law_boxes","_law_many","_law_wide"] (zj (top 44)):=⟨rfl,rfl,rfl,by decide +kernel,rfl,by decide +kernel,by decide +kernel⟩
theorem uK (F:Fun K "_law_history" "_law_history" (top 44) f fd) (B:Blt mg) (qc0:zk P w K mg base n "_law_done" ["_law_deed_here","_law_value_here"] (vk K)) (qc1:zk P w K mg base n "_law_take" ["_law_pot_here","_law_many"] (yM K)) (qc2:zk P w K mg base n "_law_times" ["_law_pot_here","_law_moment","_law_scale"] (tq K)) (qc3:zk P w K mg base n "_law_deed" ["_law_pot_here","_law_wide"] (rM K)) (qc4:zk P w K mg base n "_law_number" ["_law_pot_here","_law_wide"] (sx K))     :
  FnOk P w K mg base CX0 (n + 1) f fd ["_law_pot_here","_law_boxes","_law_many","_law_wide"] (qd K):=by
 refine F.ok zy vn (fun cdv A outer s H vs Q E hr h=>?_)
 obtain ⟨x,y,z,u,rfl,p,n,m,w,rfl,rfl,rfl,rfl,pp,n1,n6,m8,m40,q⟩:=h
 refine ⟨_,(ze (zr (i:=4) zy.nd rfl (Or.inl rfl) (zQ zN rfl B.tuple yr (za (zU (CSc.of (N':=["_law_box","_law_pot_here","_law_wide"]) (sub:=[none,some 0,some 3]) (zj (top 44)) ["_law_pot_here","_law_boxes","_law_many","_law_wide","_law_board","_law_values","_law_rooms","_law_scale","_law_moment","_law_found","_law_k","_law_box","_law_deed_here","_law_begun","_law_ended"] rfl rfl (by decide +kernel) rfl) rfl (y7 rfl B.range (za (pv 1) zb)) (fun _ _ _ _ _ _=>zi (i:=0) (show (["_law_box","_law_pot_here","_law_wide"]:List Str).Nodup by decide +kernel) rfl (Or.inl rfl)) (fun _ _ _ _ _ _=>zT) (fun _ _ _ _ _ _=>(zf qc4 hr rfl (za (pv 1) (za (pv 2) zb))))) zb))) (ze (zr (i:=5) zy.nd rfl (Or.inl rfl) (zQ xm rfl B.list v8 (za (pv 4) zb))) (ze (zr (i:=6) zy.nd rfl (Or.inl rfl) (zB UG (xV (za zg zb)) (pv 1))) (ze (zr (i:=7) zy.nd rfl (Or.inl rfl) (zM zZ (xV (za zg (za zg (za (zB yb (zB s9 zg zg) zg) zb)))) (zB yw (zf qc1 hr rfl (za (pv 0) (za zg zb))) (zQ Yz rfl B.int UH (za (pv 3) zb))) (fun _ _=>rfl))) (ze (zr (i:=8) zy.nd rfl (Or.inl rfl) zg) (ze (zr (i:=9) zy.nd rfl (Or.inl rfl) (xV zb)) (ze (xk PassesOwn.never rfl (y7 rfl B.range (za (pv 2) zb)) (zi (i:=10) zy.nd rfl (Or.inl rfl)) (ze (zr (i:=11) zy.nd rfl (Or.inl rfl) (zf qc1 hr rfl (za (pv 0) (za (pv 1) zb)))) (ze (ya (zF vY (zM zZ (pv 6) (pv 11) (fun _ _=>rfl)) zg (zI _)) (zh (zr (i:=11) zy.nd rfl (Or.inl rfl) (tW PySem.F.plainAttrs_list PySem.F.slot_list_index PySem.F.type_list_index (vU (K:=K) rfl) (pv 6) (za (zn (rF rfl) rfl B.max Zz (za (pv 6) zb)) zb)))) zC) (ze (yY (zB wz (zM zZ (pv 6) (pv 11) (fun _ _=>rfl)) zg) (sZ (pv 6) (pv 11) wU)) (ze (zr (i:=8) zy.nd rfl (Or.inl rfl) (zB yb (pv 8) (zf qc1 hr rfl (za (pv 0) (za zg zb))))) (ze (zr (i:=12) zy.nd rfl (Or.inl rfl) (zf qc3 hr rfl (za (pv 0) (za (pv 3) zb)))) (ze (yY (zf qc2 hr rfl (za (pv 0) (za (pv 8) (za (pv 7) zb)))) (yK rfl (zm (zi (i:=13) zy.nd rfl (Or.inl rfl)) (zm (zi (i:=14) zy.nd rfl (Or.inl rfl)) z9)))) (ze (x6 (tW PySem.F.plainAttrs_list PySem.F.slot_list_append PySem.F.type_list_append wa (pv 9) (za (z6 (za (zf qc1 hr rfl (za (pv 0) (za zg zb))) (za (pv 11) (za (pv 12) (za (pv 13) (za (pv 14) (za (zM zZ (pv 5) (pv 11) (fun _ _=>rfl)) zb))))))) zb))) (zh (yY (zf qc0 hr rfl (za (pv 12) (za (zM zZ (pv 5) (pv 11) (fun _ _=>rfl)) zb))) (sZ (pv 5) (pv 11) wU))))))))))) (zh (zt (z6 (za (pv 4) (za (pv 9) zb)))))))))))),?_⟩
 refine zO (fun v H'=>∃ (rb:Addr) (b:List Int),v = .ref rb /\ SqT K H' rb (b.map V.int) /\ b.length = n /\ (∀ v ∈ b,N27 v) /\ Grow [p] H H' /\ Pot H' p) (fun Kk hk=>⟨_,rfl,_,rfl,by omega,by omega,tZ (fun i ys H'=>∃ b:List Int,ys = b.map V.int /\ b.length = i /\ (∀ v ∈ b,N27 v) /\ Grow [p] H H' /\ Pot H' p) ⟨[],rfl,rfl,(fun _ h=>nomatch h),Grow.refl _ _,pp⟩ ?_ ?_⟩) ?_
 ·rintro i ys H' hi ⟨b,rfl,bl,bb,g,pp'⟩
  refine ⟨_,rfl,_,rfl,_,_,rfl,p,w,rfl,rfl,pp',fun k H2 hk g2 pp2=>⟨lt72 (by rw [List.length_map]; omega),b ++ [k],by rw [List.map_append]; rfl,by rw [List.length_append,List.length_singleton,bl],fun v hv=>?_,g.trans g2,pp2⟩⟩
  rcases List.mem_append.mp hv with hv | hv
  ·exact bb v hv
  ·rw [List.mem_singleton.mp hv]; exact hk
 ·rintro ys H' ⟨b,rfl,bl,bb,g,pp'⟩ l hl
  exact ⟨l,_,rfl,.inl ⟨SqL.of zd,fun t ht=>hk _ _ ⟨t,b,rfl,SqT.of zd,by rw [bl]; omega,bb,g.trans ((Grow.new hl _).trans (Grow.new ht _)),pp'.grow ((Grow.new hl _).trans (Grow.new ht _))⟩⟩⟩
 rintro _ H1 ⟨rb,b,rfl,hb1,bl,bb,g1,pp1⟩
 refine zO (fun v H'=>∃ rv,v = .ref rv /\ H1 rv = none /\ H' = upd H1 rv (.lst (b.map V.int))) (fun Kk hk=>⟨_,rfl,rb,_,rfl,.inr hb1,fun rv hv=>hk _ _ ⟨rv,rfl,hv,rfl⟩⟩) ?_
 rintro _ _ ⟨rv,rfl,nv,rfl⟩
 refine zO (fun v H'=>∃ rr,v = .ref rr /\ H' rr = some (.lst (zp (List.replicate n 8))) /\ upd H1 rv (.lst (b.map V.int)) rr = none /\ Grow [] (upd H1 rv (.lst (b.map V.int))) H') (fun Kk hk=>⟨szl rfl,fun l hl=>⟨_,rfl,l,_,_,rfl,rfl,zd,by omega,by omega,le72 (by show 1 * _ <= _; omega),fun rr hrr=>hk _ _ ⟨rr,rfl,?_,(Grow.new (m:=[]) hl _).free (by simp) hrr,(Grow.new hl _).trans (Grow.new hrr _)⟩⟩⟩) ?_
 ·rw [zd,Int.toNat_natCast,WG]
 rintro _ H2 ⟨rr,rfl,hr2,nr,g2⟩
 have hv2:H2 rv = some (.lst (b.map V.int)):=g2.keep _ _ (by simp) zd
 have gv:=Grow.new (m:=[]) nv (.lst (b.map V.int))
 have pp2:Pot H2 p:=(pp1.grow gv).grow g2
 have nvp:=yH pp1 nv
 have nrp:=yH (pp1.grow gv) nr
 have nrv:rr ≠ rv:=fun z=>by rw [z,zd] at nr; cases nr
 refine zO (fun v H'=>∃ sc:Int,v = .int sc /\ 1 <= sc /\ sc <= 10 ^ 24 + 7 /\ Grow [p] H2 H' /\ Pot H' p) (fun Kk hk=>⟨_,_,rfl,rfl,⟨by decide,by decide,by decide⟩,_,_,rfl,rfl,szl rfl,fun l hl=>⟨_,rfl,_,_,rfl,p,3,rfl,rfl,pp2.grow (Grow.new hl _),by decide,by decide,fun t H' t0 t1 g pp'=>⟨_,rfl,.inr ⟨w,rfl,_,_,rfl,rfl,wZ ⟨by omega,by omega⟩,?_⟩⟩⟩⟩) ?_
 ·have nlp:=yH pp2 hl
  have hl':=g.keep _ _ nlp (zd (H:=H2) (a:=l) (o:=.lst [V.int 1,V.int 1,V.int (10 ^ (24:Int).toNat + 7)]))
  have G:=(Grow.new (m:=[p]) hl (.lst [V.int 1,V.int 1,V.int (10 ^ (24:Int).toNat + 7)])).trans g
  have:t * (if w = true then 1 else 0) = 0 \/ t * (if w = true then 1 else 0) = 1 \/ t * (if w = true then 1 else 0) = 2:=by
   cases w
   ·exact .inl (by rw [if_neg (by decide)]; omega)
   ·rw [if_pos rfl]; omega
  rcases this with e | e | e
  ·exact ⟨l,_,_,_,rfl,rfl,SqL.of hl',by rw [e]; exact zw (j:=0) rfl,hk _ _ ⟨1,rfl,by decide,by decide,G,pp'⟩⟩
  ·exact ⟨l,_,_,_,rfl,rfl,SqL.of hl',by rw [e]; exact zw (j:=1) rfl,hk _ _ ⟨1,rfl,by decide,by decide,G,pp'⟩⟩
  ·exact ⟨l,_,_,_,rfl,rfl,SqL.of hl',by rw [e]; exact zw (j:=2) rfl,hk _ _ ⟨_,rfl,by decide,by decide,G,pp'⟩⟩
 rintro _ H3 ⟨sc,rfl,s0,s1,g3,pp3⟩
 have hr3:=g3.keep _ _ nrp hr2
 have hv3:=g3.keep _ _ nvp hv2
 refine ⟨szl rfl,fun rf nf=>?_⟩
 have nfp:=yH pp3 nf
 have nfv:rf ≠ rv:=fun z=>by rw [z,hv3] at nf; cases nf
 have nfr:rf ≠ rr:=fun z=>by rw [z,hr3] at nf; cases nf
 have g4:=Grow.new (m:=[p]) nf (.lst [])
 have G4:Grow [p] H (upd H3 rf (.lst [])):=g1.trans (gv.wk.trans (g2.wk.trans (g3.trans g4)))
 have hv4:upd H3 rf (.lst []) rv = some (.lst (b.map V.int)):=by rw [zo nfv.symm]; exact hv3
 have hr4:upd H3 rf (.lst []) rr = some (.lst (zp (List.replicate n 8))):=by rw [zo nfr.symm]; exact hr3
 have pp4:=pp3.grow (Grow.new nf (.lst []))
 have hf4:upd H3 rf (.lst []) rf = some (.lst []):=zd
 have hb4:=(gv.trans g2).sqT hb1
 have hb4':SqT K (upd H3 rf (.lst [])) rb (b.map V.int):=g4.sqT (g3.sqT hb4)
 have fv:H rv = none:=g1.free nvp nv
 have fr:H rr = none:=g1.free nrp (gv.free (by simp) nr)
 have ff:H rf = none:=(g1.trans (gv.wk.trans (g2.wk.trans g3))).free nfp nf
 have mfree:∀ a ∈ [p,rv,rr,rf],a ∈ [p] \/ H a = none:=fun a ha=>by
  rcases List.mem_cons.mp ha with rfl | ha
  ·exact .inl (by simp)
  rcases List.mem_cons.mp ha with rfl | ha
  ·exact .inr fv
  rcases List.mem_cons.mp ha with rfl | ha
  ·exact .inr fr
  rw [List.mem_singleton.mp ha]; exact .inr ff
 have npv:p ≠ rv:=fun z=>nvp (by rw [z]; simp)
 have npr:p ≠ rr:=fun z=>nrp (by rw [z]; simp)
 have npf:p ≠ rf:=fun z=>nfp (by rw [z]; simp)
 have sub:∀ a ∈ [p],a ∈ [p,rv,rr,rf]:=fun a h=>by rw [List.mem_singleton.mp h]; simp
 have I0:=HI72.start (sc:=sc) bl bb
 have G4':=G4.mono sub
 generalize upd H3 rf (.lst []) = H4 at G4 G4' hv4 hr4 pp4 hf4 hb4' ⊢
 clear g4 hb4 hr3 hv3 hr2 hv2 g3 g2 gv g1
 refine ⟨_,rfl,_,rfl,by omega,by omega,?_⟩
 refine vX (fun i σ H'=>∃ (vs:List Int) (rs:List Nat) (cs:List Call72) (xs:List V) (mo:Int) (e10 e11 e12 e13 e14:Option V),σ = [some (.ref p),some (.int n),some (.int m),some (.bl w),some (.ref rb),some (.ref rv),some (.ref rr),some (.int sc),some (.int mo),some (.ref rf),e10,e11,e12,e13,e14] /\ HI72 n i b vs rs cs mo sc /\ H' rv = some (.lst (vs.map V.int)) /\ H' rr = some (.lst (zp rs)) /\ H' rf = some (.lst xs) /\ AllR (yf K H') xs cs /\ Grow [p,rv,rr,rf] H H' /\ SqT K H' rb (b.map V.int) /\ Pot H' p) ⟨b,_,[],[],0,_,_,_,_,_,rfl,I0,hv4,hr4,hf4,trivial,G4',hb4',pp4⟩ ?_ ?_
 rotate_left
 ·rintro σ H' ⟨vs,rs,cs,xs,mo,e10,e11,e12,e13,e14,rfl,I,hv,hr',hf,ha,g,hb,pp'⟩
  refine ⟨_,rfl,_,rfl,szl rfl,fun r hr0=>?_⟩
  have gr:=Grow.new (m:=[]) hr0 (.tup [.ref rb,.ref rf])
  exact q b cs xs r rb rf _ (I.hist (by omega) bl bb) I.cl ((Grow.shrinkTo mfree g).trans gr.wk) (pp'.grow gr) (SqT.of zd) (gr.sqT hb) (gr.keep _ _ (by simp) hf) (fun z=>npf z.symm) (gr.callsR ha)
 rintro i σ H5 hi ⟨vs,rs,cs,xs,mo,e10,e11,e12,e13,e14,rfl,I,hv5,hr5,hf5,ha5,G5,hb5,pp5⟩
 have him:i < m:=by omega
 have vl:=I.vl
 have rl:=I.rl
 try dsimp only
 refine zO (fun v H'=>∃ bx:Nat,v = .int bx /\ bx < n /\ Grow [p] H5 H' /\ Pot H' p) (fun Kk hk=>⟨_,rfl,_,rfl,_,_,rfl,p,_,rfl,rfl,pp5,by omega,Int.lt_of_le_of_lt (b:=100) (by omega) (by decide),fun k H' k0 k1 g pp'=>hk _ _ ⟨k.toNat,congrArg V.int (by omega),by omega,g,pp'⟩⟩) ?_
 rintro _ H6 ⟨bx0,rfl,hbx0,g6,pp6⟩
 have hv6:=g6.keep _ _ nvp hv5
 have hr6:=g6.keep _ _ nrp hr5
 have hf6:=g6.keep _ _ nfp hf5
 refine c_if (fun σ' H'=>∃ (bx x:Nat),σ' = [some (.ref p),some (.int n),some (.int m),some (.bl w),some (.ref rb),some (.ref rv),some (.ref rr),some (.int sc),some (.int mo),some (.ref rf),some (.int (0 + (i:Int))),some (.int bx),e12,e13,e14] /\ rs[bx]? = some x /\ 0 < x /\ H' = H6) ?_ (fun hk=>?_)
 rotate_left
 ·obtain ⟨x,hx⟩:∃ x,rs[bx0]? = some x:=⟨_,List.getElem?_eq_getElem (by omega)⟩
  refine ⟨_,rfl,_,rfl,rr,_,_,.int x,rfl,rfl,SqL.of hr6,zw (by unfold zp; rw [List.getElem?_map,hx]; rfl),rfl,_,rfl,?_⟩
  by_cases x0:x = 0
  ·refine y4 (decide_eq_true (by rw [x0]; rfl)) ⟨_,rfl,.inl ⟨rfl,_,SqL.of hr6⟩,_,rfl,rr,rs.map (fun k:Nat=>(k:Int)),rfl,by rw [← yh]; exact SqL.of hr6,by rw [List.length_map]; omega,fun M hM hmax=>?_⟩
   obtain ⟨k,hk',rfl⟩:=List.mem_map.mp hM
   have hsum:=I.sm
   obtain ⟨z,hz,z0⟩:=rP (l:=rs) (by omega)
   have hle:=hmax z (List.mem_map.mpr ⟨z,hz,rfl⟩)
   have hlt:=List.idxOf_lt_length_of_mem hk'
   refine ⟨rr,rs,k,rfl,rfl,SqL.of hr6,hk',by omega,hk _ _ ⟨rs.idxOf k,k,rfl,?_,by omega,rfl⟩⟩
   rw [List.getElem?_eq_getElem hlt,List.getElem_idxOf hlt]
  ·exact xi (decide_eq_false fun z=>x0 (by have:=V.int.inj z; omega)) (hk _ _ ⟨bx0,x,rfl,hx,by omega,rfl⟩)
 rintro _ H6 ⟨bx,x,rfl,hx,x0,rfl⟩
 have hbx:bx < n:=by rw [← rl]; exact (List.getElem?_eq_some_iff.mp hx).1
 have hrx:atI (zp rs) bx = some (.int x):=zw (by unfold zp; rw [List.getElem?_map,hx]; rfl)
 have hvx:atI (vs.map V.int) bx = some (.int (vs.getD bx 0)):=zw (by
  have hb':bx < vs.length:=by omega
  rw [List.getElem?_map,List.getElem?_eq_getElem hb',List.getD_eq_getElem?_getD,List.getElem?_eq_getElem hb']; rfl)
 refine ⟨_,rfl,_,rfl,rr,_,_,_,rfl,rfl,SqL.of hr6,hrx,_,_,rfl,rfl,_,rfl,_,rfl,rr,_,_,bx,rfl,rfl,hr6,qD (i:=(bx:Int)) (by omega) (by rw [zx]; omega),?_⟩
 have er:(zp rs).set bx (.int ((x:Int) - 1)) = zp (rs.set bx (x - 1)):=by
  unfold zp
  rw [List.map_set,show ((x:Int) - 1) = ((x - 1:Nat):Int) from by omega]
 have hr7:upd H6 rr (.lst ((zp rs).set bx (.int ((x:Int) - 1)))) rr = some (.lst (zp (rs.set bx (x - 1)))):=by rw [zd,er]
 have hv7:upd H6 rr (.lst ((zp rs).set bx (.int ((x:Int) - 1)))) rv = some (.lst (vs.map V.int)):=by rw [zo nrv.symm]; exact hv6
 have hf7:upd H6 rr (.lst ((zp rs).set bx (.int ((x:Int) - 1)))) rf = some (.lst xs):=by rw [zo nfr]; exact hf6
 have G7:Grow [p,rv,rr,rf] H (upd H6 rr (.lst ((zp rs).set bx (.int ((x:Int) - 1))))):=G5.trans ((g6.mono sub).trans (Grow.set hr6 (by simp) _))
 have g57:Grow [p,rv,rr,rf] H5 (upd H6 rr (.lst ((zp rs).set bx (.int ((x:Int) - 1))))):=(g6.mono sub).trans (Grow.set hr6 (by simp) _)
 have pp7:Pot (upd H6 rr (.lst ((zp rs).set bx (.int ((x:Int) - 1))))) p:=by
  obtain ⟨u0,u1,e,z⟩:=pp6
  exact ⟨u0,u1,by rw [zo npr]; exact e,z⟩
 generalize upd H6 rr (.lst ((zp rs).set bx (.int ((x:Int) - 1)))) = H7 at hr7 hv7 hf7 G7 g57 pp7 ⊢
 try dsimp only
 refine zO (fun v H'=>∃ t:Int,v = .int (mo + t) /\ 0 <= t /\ t <= 2 /\ Grow [p] H7 H' /\ Pot H' p) (fun Kk hk=>⟨_,rfl,_,rfl,_,_,rfl,p,3,rfl,rfl,pp7,by decide,by decide,fun k H' k0 k1 g pp'=>⟨_,_,rfl,rfl,hk _ _ ⟨k,rfl,k0,by omega,g,pp'⟩⟩⟩) ?_
 rintro _ H8 ⟨t,rfl,t0,t1,g8,pp8⟩
 refine zO (fun v H'=>∃ d,yD K H' v d /\ d.Ok /\ d.Bd (10 ^ 27 + 6) /\ Grow [p] H8 H' /\ Pot H' p) (fun Kk hk=>⟨_,rfl,_,rfl,_,_,rfl,p,w,rfl,rfl,pp8,fun d v H' od bd g pp' hd=>hk _ _ ⟨d,hd,od,bd,g,pp'⟩⟩) ?_
 rintro yd H9 ⟨d,hd9,od,bd,g9,pp9⟩
 have mm0:=I.m0
 have mm1:=I.m1
 refine ⟨_,rfl,_,rfl,_,rfl,_,_,_,rfl,p,mo + t,sc,rfl,rfl,rfl,pp9,by omega,by omega,s0,by omega,fun be en rt H10 c0 c1 c2 c3 g10 pp10 ht=>⟨rt,_,rfl,ht,rfl,_,_,rfl,_,_,rfl,rfl,?_⟩⟩
 try dsimp only
 have G10:=g8.trans (g9.trans g10)
 have hv10:=G10.keep _ _ nvp hv7
 have hr10:=G10.keep _ _ nrp hr7
 have hf10:=G10.keep _ _ nfp hf7
 refine ⟨_,rfl,.inl ⟨rfl,_,SqL.of hf10⟩,_,rfl,_,_,rfl,p,16,rfl,rfl,pp10,by decide,by decide,fun hd' H11 h0 h1 g11 pp11=>?_⟩
 have hv11:=g11.keep _ _ nvp hv10
 have hr11:=g11.keep _ _ nrp hr10
 have hf11:=g11.keep _ _ nfp hf10
 refine ⟨_,rfl,_,rfl,_,rfl,_,rfl,_,rfl,_,rfl,rv,_,_,_,rfl,rfl,SqL.of hv11,hvx,szl rfl,fun tc htc=>?_⟩
 obtain ⟨rd,rfl,sd⟩:=(g10.trans g11).deed hd9
 have gtc:=Grow.new (m:=[]) htc (.tup [.int hd',.int bx,.ref rd,.int be,.int en,.int (vs.getD bx 0)])
 have hf12:=gtc.keep _ _ (by simp) hf11
 have hv12:=gtc.keep _ _ (by simp) hv11
 have hr12:=gtc.keep _ _ (by simp) hr11
 have xl:=ha5.len
 have clI:=I.cl
 refine ⟨rf,_,_,rfl,rfl,hf12,lt72 (by omega),?_⟩
 have gap:=Grow.set (m:=[p,rv,rr,rf]) hf12 (by simp) (xs ++ [V.ref tc])
 refine ⟨_,rfl,_,rfl,_,rfl,rv,_,_,_,rfl,rfl,SqL.of (by rw [zo nfv.symm]; exact hv12),hvx,_,_,rfl,d,_,⟨rd,rfl,gap.sqT (gtc.sqT sd)⟩,rfl,_,rfl,_,rfl,rv,_,_,bx,rfl,rfl,by rw [zo nfv.symm]; exact hv12,qD (i:=(bx:Int)) (by omega) (by rw [List.length_map]; omega),?_⟩
 have hv13:upd (upd H11 tc (.tup [.int hd',.int bx,.ref rd,.int be,.int en,.int (vs.getD bx 0)])) rf (.lst (xs ++ [V.ref tc])) rv = some (.lst (vs.map V.int)):=by rw [zo nfv.symm]; exact hv12
 have gfin:=gap.trans (Grow.set (m:=[p,rv,rr,rf]) hv13 (by simp) ((vs.map V.int).set bx (.int (d.mk' (vs.getD bx 0)))))
 have gall:Grow [p,rv,rr,rf] H5 _:=g57.trans ((G10.mono sub).trans ((g11.mono sub).trans (gtc.wk.trans gfin)))
 have I':=I.next (ha:=hd') (be:=be) (en:=en) (by omega) n6 hx x0 t0 t1 s0 s1 h0 (by omega) od bd c0 c1 c2 c3
 refine ⟨_,_,_,xs ++ [V.ref tc],mo + t,_,_,_,_,_,rfl,I',?_,?_,?_,?_,G5.trans gall,gall.sqT hb5,?_⟩
 ·rw [zd,List.map_set]
 ·rw [zo nrv,zo nfr.symm]; exact hr12
 ·rw [zo nfv,zd]
 ·exact (gall.callsR ha5).app (AllR.one ⟨tc,rd,rfl,gfin.sqT (SqT.of zd),gfin.sqT (gtc.sqT sd)⟩)
 ·obtain ⟨u0,u1,e,z⟩:=pp11.grow gtc
  exact ⟨u0,u1,by rw [zo npv,zo npf]; exact e,z⟩
theorem qr:FnScope ["_law_pot_here","_law_boxes"] ["_law_pot_here","_law_boxes"] (zj (top 45)):=⟨rfl,rfl,rfl,by decide +kernel,rfl,by decide +kernel,by decide +kernel⟩
theorem qt (F:Fun K "_law_size" "_law_size" (top 45) f fd) (B:Blt mg) (qc0:zk P w K mg base n "_law_take" ["_law_pot_here","_law_many"] (yM K))     :
  FnOk P w K mg base CX0 (n + 1) f fd ["_law_pot_here","_law_boxes"] (rN K):=by
 refine F.ok qr z3 (fun cdv A outer s H vs Q E hr h=>?_)
 obtain ⟨x,y,rfl,p,n,rfl,rfl,pp,n1,n6,q⟩:=h
 refine ⟨_,(ze (ya (zF vY (zf qc0 hr rfl (za (pv 0) (za zg zb))) zg (zI _)) (zh (zt (zB yw zg (pv 1)))) zC) (zh (zt (zf qc0 hr rfl (za (pv 0) (za (zn (vZ rfl) rfl B.min VR (za zg (za (zB yb (zB yw zg (pv 1)) zg) zb))) zb)))))),?_⟩
 refine yL (fun b H'=>Grow [p] H H' /\ Pot H' p) (fun Kk hk=>⟨_,rfl,_,_,rfl,p,8,rfl,rfl,pp,by decide,by decide,fun n H' n0 n1 g pp'=>⟨rfl,_,rfl,hk _ _ ⟨g,pp'⟩⟩⟩) ?_
 rintro b1 H1 ⟨g1,pp1⟩
 cases b1 with
 | true =>
  refine iteT ⟨_,rfl,_,_,rfl,rfl,wZ ⟨by decide,by decide⟩,?_⟩
  have:=q (5 * n) H1 (by omega) (by omega) g1 pp1
  rw [show ((5 * n:Nat):Int) = 5 * (n:Int) from by omega] at this
  exact this
 | false =>
  refine iteF (yF ⟨_,rfl,_,rfl,_,_,rfl,rfl,wZ ⟨by decide,by decide⟩,_,_,rfl,rfl,_,_,rfl,_,_,rfl,p,_,rfl,rfl,pp1,by split <;> omega,Int.lt_of_le_of_lt (b:=100) (by split <;> omega) (by decide),fun m H2 m0 m1 g2 pp2=>?_⟩)
  obtain ⟨k,rfl⟩:=Int.eq_ofNat_of_zero_le m0
  refine q k H2 ?_ ?_ (g1.trans g2) pp2
  ·split at m1 <;> omega
  ·split at m1 <;> omega
theorem Yl:FnScope ["_law_script","_law_k"] ["_law_script","_law_k"] (zj (top 36)):=⟨rfl,rfl,rfl,by decide +kernel,rfl,by decide +kernel,by decide +kernel⟩
theorem Ym (F:Fun K "_law_at" "_law_at" (top 36) f fd) (B:Blt mg)      :
  FnOk P w K mg base CX0 (n + 1) f fd ["_law_script","_law_k"] (Xe K):=by
 refine F.ok Yl z3 (fun cdv A outer s H vs Q E hr h=>?_)
 obtain ⟨x,y,rfl,a,ns,k,rfl,rfl,hs,k0,q⟩:=h
 refine ⟨_,(ze (ya (zF tU (pv 1) (zn zq rfl B.len y0 (za (pv 0) zb)) (zI _)) (zh (zt (zM zZ (pv 0) (pv 1) (fun _ _=>rfl)))) zC) (zh (zt zg))),?_⟩
 refine ⟨_,rfl,_,rfl,a,_,rfl,.inl hs.sq,_,_,rfl,rfl,_,rfl,?_⟩
 refine ite2 (fun c=>?_) (fun c=>?_)
 ·have c':k < ((ns.map V.int).length:Int):=of_decide_eq_true c
  rw [List.length_map] at c'
  have hk:k.toNat < ns.length:=by omega
  have ek:k = ((k.toNat:Nat):Int):=by omega
  have hat:atI (ns.map V.int) k = some (.int ns[k.toNat]):=by
   have z:atI (ns.map V.int) ((k.toNat:Nat):Int) = some (.int ns[k.toNat]):=zw (by rw [List.getElem?_map,List.getElem?_eq_getElem hk]; rfl)
   rw [← ek] at z; exact z
  exact ⟨_,rfl,_,rfl,a,_,_,_,rfl,rfl,hs.sq,hat,q _ (.inr (List.getElem_mem hk))⟩
 ·exact q 0 (.inl rfl)
theorem wQ:FnScope ["_law_script","_law_k","_law_cell","_law_seed"] ["_law_script","_law_k"] (zj (top 37)):=⟨rfl,rfl,rfl,by decide +kernel,rfl,by decide +kernel,by decide +kernel⟩
theorem jp (F:Fun K "_law_pot" "_law_pot" (top 37) f fd) (B:Blt mg) (qc0:zk P w K mg base n "_law_at" ["_law_script","_law_k"] (Xe K))     :
  FnOk P w K mg base CX0 (n + 1) f fd ["_law_script","_law_k"] (Vq K):=by
 refine F.ok wQ z3 (fun cdv A outer s H vs Q E hr h=>?_)
 obtain ⟨x,y,rfl,a,ns,k,rfl,rfl,hs,k0,k1,q⟩:=h
 refine ⟨_,(ze (zr (i:=2) wQ.nd rfl (Or.inl rfl) (zf qc0 hr rfl (za (pv 0) (za (pv 1) zb)))) (ze (zr (i:=3) wQ.nd rfl (Or.inl rfl) (zB uT (zB s9 (zB yb (zB yw (zB yb (zB uT (pv 2) zg) zg) (zB yb (zB yw zg (pv 1)) zg)) zg) zg) zg)) (zh (zt (xV (za (zn (wT rfl) rfl B.max Zz (za zg (za (zB wz (pv 2) (zB s9 zg zg)) zb))) (za (pv 3) zb))))))),?_⟩
 refine ⟨_,rfl,_,rfl,_,_,rfl,a,ns,k,rfl,rfl,hs,k0,fun c _=>?_⟩
 have c0:0 <= c % 2147483629:=Int.emod_nonneg _ (by decide)
 have c1:c % 2147483629 < 2147483629:=Int.emod_lt_of_pos _ (by decide)
 have m0:0 <= (c % 2147483629 + 11) * (977 * k + 131):=Int.mul_nonneg (by omega) (by omega)
 have m1:(c % 2147483629 + 11) * (977 * k + 131) <= 2147483640 * 1000000:=Int.mul_le_mul (by omega) (by omega) (by omega) (by decide)
 refine ⟨_,rfl,_,_,rfl,rfl,(by show (0:Int) < 2147483629; decide),_,_,rfl,rfl,_,rfl,_,_,rfl,rfl,wZ ⟨by decide,by decide⟩,_,_,rfl,rfl,_,_,rfl,rfl,u3 ⟨by omega,by omega⟩,_,_,rfl,rfl,_,_,rfl,rfl,⟨by decide,by decide,by omega⟩,_,_,rfl,rfl,(by show (0:Int) < 2147483647; decide),?_⟩
 refine ⟨_,rfl,_,_,rfl,rfl,⟨by decide,by decide,by decide⟩,_,_,rfl,rfl,_,_,rfl,_,rfl,szl rfl,fun p hp=>?_⟩
 refine q p _ hp (Grow.new hp _) ⟨_,_,zd,?_⟩
 split <;> omega
theorem wB:FnScope ["_law_script","_law_k","_law_pot_here","_law_boxes","_law_board","_law_some","_law_calls","_law_turn","_law_order"] ["_law_script"] (zj (top 53)):=⟨rfl,rfl,rfl,by decide +kernel,rfl,by decide +kernel,by decide +kernel⟩
theorem TC (F:Fun K "law" "law" (top 53) f fd) (B:Blt mg) (qc0:zk P w K mg base n "_law_spoilt" ["_law_pot_here","_law_calls"] (uD K)) (qc1:zk P w K mg base n "_law_is_less_right" ["_law_pot_here","_law_board","_law_calls","_law_order"] (qh K)) (qc2:zk P w K mg base n "fits" ["board","calls","order"] (wc K)) (qc3:zk P w K mg base n "_law_wider" ["_law_pot_here","_law_calls"] (qg K)) (qc4:zk P w K mg base n "_law_is_looked_right" ["_law_pot_here","_law_board","_law_calls","_law_order"] (vd K)) (qc5:zk P w K mg base n "_law_is_renamed_right" ["_law_pot_here","_law_board","_law_calls","_law_order"] (vd K)) (qc6:zk P w K mg base n "an_order" ["board","calls"] (w9 K)) (qc7:zk P w K mg base n "_law_shuffled" ["_law_pot_here","_law_row"] (uG K)) (qc8:zk P w K mg base n "_law_history" ["_law_pot_here","_law_boxes","_law_many","_law_wide"] (qd K)) (qc9:zk P w K mg base n "_law_take" ["_law_pot_here","_law_many"] (yM K)) (qc10:zk P w K mg base n "_law_size" ["_law_pot_here","_law_boxes"] (rN K)) (qc11:zk P w K mg base n "_law_pot" ["_law_script","_law_k"] (Vq K))     :
  FnOk P w K mg base CX0 (n + 1) f fd ["_law_script"] (jB K):=by
 refine F.ok wB wF (fun cdv A outer s H vs Q E hr h=>?_)
 obtain ⟨x,rfl,a,ns,rfl,hs,h63,q⟩:=h
 refine ⟨_,(ze (xk PassesOwn.never rfl (y7 rfl B.range (za (zn (wT rfl) rfl B.max Zz (za zg (za (zn (vZ rfl) rfl B.min VR (za zg (za (zn zq rfl B.len y0 (za (pv 0) zb)) zb))) zb))) zb)) (zi (i:=1) wB.nd rfl (Or.inl rfl)) (ze (zr (i:=2) wB.nd rfl (Or.inl rfl) (zf qc11 hr rfl (za (pv 0) (za (pv 1) zb)))) (ze (zr (i:=3) wB.nd rfl (Or.inl rfl) (zB yb zg (zf qc9 hr rfl (za (pv 2) (za zg zb))))) (ze (yY (zf qc8 hr rfl (za (pv 2) (za (pv 3) (za (zf qc10 hr rfl (za (pv 2) (za (pv 3) zb))) (za (yT vY (zf qc9 hr rfl (za (pv 2) (za zg zb))) zg (zI _)) zb))))) (yK rfl (zm (zi (i:=4) wB.nd rfl (Or.inl rfl)) (zm (zi (i:=5) wB.nd rfl (Or.inl rfl)) z9)))) (ze (zr (i:=6) wB.nd rfl (Or.inl rfl) (zQ zN rfl B.tuple yr (za (zf qc7 hr rfl (za (pv 2) (za (pv 5) zb))) zb))) (zh (xk PassesOwn.never rfl (y7 rfl B.range (za (zn (vZ rfl) rfl B.min VR (za zg (za (zB yb zg (zn zq rfl B.len y0 (za (pv 6) zb))) zb))) zb)) (zi (i:=7) wB.nd rfl (Or.inl rfl)) (ze (zr (i:=8) wB.nd rfl (Or.inl rfl) (zf qc6 hr rfl (za (pv 4) (za (pv 6) zb)))) (ze (ya (yX (yC (zf qc5 hr rfl (za (pv 2) (za (pv 4) (za (pv 6) (za (pv 8) zb))))))) (zh (zt yJ)) zC) (ze (ya (yX (yC (zf qc4 hr rfl (za (pv 2) (za (pv 4) (za (pv 6) (za (pv 8) zb))))))) (zh (zt yJ)) zC) (ze (ya (xT (vW (pv 8))) (ze (ya (zF uf (zf qc2 hr rfl (za (pv 4) (za (zf qc3 hr rfl (za (pv 2) (za (pv 6) zb))) (za (pv 8) zb)))) yJ (zI _)) (zh (zt yJ)) zC) (zh (ya (yX (yC (zf qc1 hr rfl (za (pv 2) (za (pv 4) (za (pv 6) (za (pv 8) zb))))))) (zh (zt yJ)) zC))) zC) (zh (ya (zF (jb (K:=K) rfl hr) (pv 6) (z6 zb) (zI _)) (zh (zr (i:=6) wB.nd rfl (Or.inl rfl) (zf qc0 hr rfl (za (pv 2) (za (pv 6) zb))))) zC))))))))))))) (zh (zt yJ))),?_⟩
 have hl:(ns.map V.int).length = ns.length:=List.length_map ..
 refine ⟨_,rfl,a,_,rfl,.inl hs.sq,_,_,rfl,_,_,rfl,_,rfl,?_,?_,?_⟩
 ·split <;> split <;> omega
 ·rw [hl]; split <;> split <;> omega
 refine vX (fun i σ H'=>∃ (e1 e2 e3 e4 e5 e6 e7 e8:Option V),σ = [some (.ref a),e1,e2,e3,e4,e5,e6,e7,e8] /\ Grow [] H H') ⟨_,_,_,_,_,_,_,_,rfl,Grow.refl _ _⟩ ?_ ?_
 rotate_left
 ·rintro σ H1 _
  exact q _
 rintro i σ H1 hi ⟨e1,e2,e3,e4,e5,e6,e7,e8,rfl,g⟩
 have i63:i < 1000:=by
  have hi':=hi
  revert hi'
  split <;> split <;> omega
 try dsimp only
 refine zO (fun v H'=>∃ p,v = .ref p /\ H1 p = none /\ Grow [] H1 H' /\ Pot H' p) (fun Kk hk=>⟨_,rfl,_,rfl,_,_,rfl,a,ns,_,rfl,rfl,g.scr hs,by omega,by omega,fun p H2 hp g2 pp=>hk _ _ ⟨p,rfl,hp,g2,pp⟩⟩) ?_
 rintro _ H2 ⟨p,rfl,np,g2,pp2⟩
 refine zO (fun v H'=>∃ n:Nat,v = .int n /\ 1 <= n /\ n <= 6 /\ Grow [p] H2 H' /\ Pot H' p) (fun Kk hk=>⟨_,rfl,_,_,rfl,p,6,rfl,rfl,pp2,by decide,by decide,fun t H' t0 t1 g pp'=>⟨_,_,rfl,rfl,hk _ _ ⟨(1 + t).toNat,congrArg V.int (by omega),by omega,by omega,g,pp'⟩⟩⟩) ?_
 rintro _ H3 ⟨n,rfl,n1,n6,g3,pp3⟩
 refine ⟨_,rfl,_,rfl,_,rfl,_,rfl,_,_,rfl,p,n,rfl,rfl,pp3,n1,n6,fun m H4 m8 m40 g4 pp4=>⟨_,rfl,_,_,rfl,p,2,rfl,rfl,pp4,by decide,by decide,fun t H5 t0 t1 g5 pp5=>⟨rfl,_,_,_,_,rfl,p,n,m,decide (V.int t = V.int 1),rfl,rfl,rfl,rfl,pp5,n1,n6,m8,m40,fun b cs xs r rb l H6 hist csl g6 pp6 hr6 hrb6 hl6 lp6 ha6=>⟨r,_,rfl,hr6,rfl,_,_,rfl,_,_,rfl,rfl,?_⟩⟩⟩⟩
 try dsimp only
 have c40:=hist.ok.len
 have xl:=ha6.len
 have b1:1 <= b.length:=by rw [hist.bl]; exact n1
 have b16:b.length <= 16:=by rw [hist.bl]; omega
 refine zO (fun v H'=>∃ ds:List Call72,zz K H' v ds /\ ds.Perm cs /\ Grow [p] H6 H' /\ Pot H' p) (fun Kk hk=>⟨_,rfl,_,rfl,_,_,rfl,p,xs,rfl,pp6,⟨l,rfl,.inl (SqL.of hl6)⟩,by omega,fun l2 zs H7 hz g7 pp7 _ l2p h2=>⟨l2,zs,rfl,.inl ⟨SqL.of h2,fun r8 hr8=>?_⟩⟩⟩) ?_
 ·obtain ⟨ds,hp,hd⟩:=tQ hz ha6
  exact hk _ _ ⟨ds,⟨r8,zs,rfl,SqT.of zd,(g7.trans (Grow.new hr8 _).wk).callsR hd⟩,hp,g7.trans (Grow.new hr8 _).wk,pp7.new hr8 _⟩
 rintro yc H7 ⟨ds,hc7,hp,g7,pp7⟩
 have hb7:zA K H7 (.ref rb) b:=⟨rb,rfl,g7.sqT hrb6⟩
 have ok7:Calls72 b.length ds:=by rw [hist.bl]; exact hist.ok.perm hp
 have bd7:∀ c ∈ ds,Cb72 (10 ^ 29) c:=fun c hc=>hist.bd c (hp.mem_iff.mp hc)
 have G7:Grow [p] H1 H7:=g2.wk.trans (g3.trans (g4.trans (g5.trans (g6.trans g7))))
 have d40:=ok7.len
 obtain ⟨rc,xc,rfl,hrc,hac⟩:=id hc7
 have xcl:=hac.len
 refine ⟨_,rfl,rc,_,rfl,.inr hrc,_,_,rfl,rfl,_,_,rfl,_,rfl,?_,?_,?_⟩
 ·split <;> omega
 ·split <;> omega
 refine vX (fun j σ H'=>∃ (cs':List Call72) (y:V) (e7 e8:Option V),σ = [some (.ref a),some (.int (0 + (i:Int))),some (.ref p),some (.int n),some (.ref rb),some (.ref l),some y,e7,e8] /\ zz K H' y cs' /\ Calls72 b.length cs' /\ (∀ c ∈ cs',Cb72 (10 ^ 29 + j) c) /\ Grow [p] H7 H' /\ Pot H' p) ⟨ds,_,_,_,rfl,hc7,ok7,(fun c hc=>(bd7 c hc).mono (by omega)),Grow.refl _ _,pp7⟩ ?_ ?_
 rotate_left
 ·rintro σ H10 ⟨cs',y,e7,e8,rfl,_,_,_,g10,_⟩
  exact ⟨_,_,_,_,_,_,_,_,rfl,g.trans ((G7.trans g10).shrink np)⟩
 rintro j σ H10 hj ⟨cs',y,e7,e8,rfl,hc10,ok10,bd10,g10,pp10⟩
 have j3:j < 3:=by
  revert hj
  split <;> omega
 try dsimp only
 have hb10:=g10.board hb7
 refine zO (fun v H'=>yS K H' v (yt cs' b) /\ ((yt cs' b).isSome = true -> yV cs') /\ Grow [] H10 H') (fun Kk hk=>⟨_,rfl,_,rfl,_,_,rfl,b,cs',hb10,b1,b16,hc10,ok10,fun v H' g so ho=>hk _ _ ⟨ho,so,g⟩⟩) ?_
 rintro vo H11 ⟨ho,so,g11⟩
 have pp11:=pp10.grow g11
 have hb11:=g11.board hb10
 have hc11:=g11.calls72 hc10
 refine yL (fun c H'=>c = false /\ Grow [p] H11 H' /\ Pot H' p) (fun Kk hk=>⟨_,rfl,_,rfl,_,rfl,_,rfl,_,_,_,_,rfl,p,b,cs',rfl,pp11,hb11,b1,b16,hc11,ok10,so,ho,fun H' g' pp'=>⟨_,rfl,hk _ _ ⟨rfl,g',pp'⟩⟩⟩) ?_
 rintro _ H12 ⟨rfl,g12,pp12⟩
 refine iteF (yF ?_)
 refine yL (fun c H'=>c = false /\ Grow [p] H12 H' /\ Pot H' p) (fun Kk hk=>⟨_,rfl,_,rfl,_,rfl,_,rfl,_,_,_,_,rfl,p,b,cs',rfl,pp12,g12.board hb11,b1,b16,g12.calls72 hc11,ok10,so,ho.grow g12,fun H' g' pp'=>⟨_,rfl,hk _ _ ⟨rfl,g',pp'⟩⟩⟩) ?_
 rintro _ H13 ⟨rfl,g13,pp13⟩
 refine iteF (yF ?_)
 have g113:Grow [p] H11 H13:=g12.trans g13
 have hb13:=g113.board hb11
 have hc13:=g113.calls72 hc11
 have ho13:=ho.grow g113
 refine c_if (fun σ' H'=>σ' = [some (.ref a),some (.int (0 + (i:Int))),some (.ref p),some (.int n),some (.ref rb),some (.ref l),some y,some (.int (0 + (j:Int))),some vo] /\ Grow [p] H13 H' /\ Pot H' p) ?_ (fun hk=>?_)
 rotate_left
 ·cases e:yt cs' b with
  | none =>
   rw [e] at ho13
   obtain rfl:vo = .non:=ho13
   exact ⟨_,rfl,_,rfl,xi rfl (hk _ _ ⟨rfl,Grow.refl _ _,pp13⟩)⟩
  | some o =>
   have fit:=yp ok10 (so (by rw [e]; rfl)) e
   rw [e] at ho13
   obtain ⟨ro,rfl,hro⟩:=(show yN K H13 vo o from ho13)
   have ol:o.length <= 40:=by rw [fit.1.length_eq,List.length_range]; exact ok10.len
   refine ⟨_,rfl,_,rfl,y4 rfl ?_⟩
   refine yL (fun c H'=>c = false /\ Grow [p] H13 H' /\ Pot H' p) (fun Kk hk=>⟨_,rfl,_,rfl,_,rfl,_,_,rfl,p,b.length,cs',rfl,pp13,hc13,ok10,(fun c hc=>(bd10 c hc).mono (by omega)),fun ws vw H14 wd okw g14 pp14 hw=>⟨_,rfl,_,_,_,rfl,b,ws,_,[],g14.board hb13,b1,b16,hw,y9 (g14.sqT hro),okw,xa (by omega),fun bb H15 g15 hbb=>?_⟩⟩) ?_
   ·obtain rfl:bb = true:=hbb.mpr (xg.mpr (Yc wd.1 wd.2 fit))
    exact ⟨_,_,rfl,rfl,_,rfl,hk _ _ ⟨rfl,g14.trans g15.wk,pp14.grow g15⟩⟩
   rintro _ H14 ⟨rfl,g14,pp14⟩
   refine iteF (yF ?_)
   refine yL (fun c H'=>c = false /\ Grow [p] H14 H' /\ Pot H' p) (fun Kk hk=>⟨_,rfl,_,rfl,_,rfl,_,rfl,_,_,_,_,rfl,p,b,cs',o,rfl,pp14,g14.board hb13,b1,b16,g14.calls72 hc13,ok10,⟨ro,rfl,g14.sqT hro⟩,fit,fun H' g' pp'=>⟨_,rfl,hk _ _ ⟨rfl,g',pp'⟩⟩⟩) ?_
   rintro _ H15 ⟨rfl,g15,pp15⟩
   refine iteF ?_
   exact hk _ _ ⟨rfl,g14.trans g15,pp15⟩
 rintro _ H14 ⟨rfl,g14,pp14⟩
 try dsimp only
 have g1014:Grow [p] H10 H14:=g11.wk.trans (g113.trans g14)
 have hc14:=g1014.calls72 hc10
 obtain ⟨ry,xy,rfl,hry,hay⟩:=id hc14
 have xyl:=hay.len
 by_cases c0:cs' = []
 ·refine ⟨_,rfl,szl rfl,fun t ht=>⟨ry,t,xy,rfl,rfl,(Grow.new (m:=[]) ht _).sqT hry,SqT.of zd,_,rfl,xi ?_ ?_⟩⟩
  ·have:xy = []:=List.length_eq_zero_iff.mp (by rw [xyl,c0]; rfl)
   rw [this]; rfl
  have g15:=Grow.new (m:=[]) ht (.tup [])
  exact ⟨cs',_,_,_,rfl,g15.calls72 hc14,ok10,(fun c hc=>(bd10 c hc).mono (by omega)),g10.trans (g1014.trans g15.wk),pp14.grow g15⟩
 ·have cpos:0 < cs'.length:=List.length_pos_iff.mpr c0
  refine ⟨_,rfl,szl rfl,fun t ht=>⟨ry,t,xy,rfl,rfl,(Grow.new (m:=[]) ht _).sqT hry,SqT.of zd,_,rfl,y4 ?_ ?_⟩⟩
  ·cases xy with
   | nil=>simp at xyl; omega
   | cons v xy=>rfl
  have g15:=Grow.new (m:=[]) ht (.tup [])
  exact ⟨_,rfl,_,rfl,_,_,rfl,p,cs',b.length,10 ^ 29 + j,rfl,pp14.grow g15,g15.calls72 hc14,ok10,cpos,bd10,fun cs2 v H16 ok2 cl2 bd2 g16 pp16 hc2=>⟨cs2,v,_,_,rfl,hc2,ok2,(fun c hc=>(bd2 c hc).mono (by omega)),g10.trans (g1014.trans (g15.wk.trans g16)),pp16⟩⟩
end
theorem vC:∀ {us:List Value},us.length = 1 -> ∃ x0,us = [x0]
 | [x0],_=>⟨x0,rfl⟩
theorem z4:∀ {us:List Value},us.length = 2 -> ∃ x0,∃ x1,us = [x0,x1]
 | [x0,x1],_=>⟨x0,x1,rfl⟩
theorem wR:∀ {us:List Value},us.length = 3 -> ∃ x0,∃ x1,∃ x2,us = [x0,x1,x2]
 | [x0,x1,x2],_=>⟨x0,x1,x2,rfl⟩
theorem vD:∀ {us:List Value},us.length = 4 -> ∃ x0,∃ x1,∃ x2,∃ x3,us = [x0,x1,x2,x3]
 | [x0,x1,x2,x3],_=>⟨x0,x1,x2,x3,rfl⟩
def FA (K:FG7) (x:Str) (t:Stmt) (f:Addr) (d:FuncData):Prop:=PySem.W.nsIn K mainGlobals x = some (some (.ref f)) /\ Fun K x x t f d
theorem FA.cl {P:Program} {w:World} {K:FG7} {h base:Heap} {mg:Str -> Option Value} {x:Str} {t:Stmt} {f:Addr} {d:FuncData} {k:Nat} {ps:List Str} {sp:Sp} (a:FA K x t f d) (X:K.In h) (G:h.Ns mainGlobals mg) (F:FnOk P w K mg base CX0 k f d ps sp) (b:v4 K d ps []):zk P w K mg base k x ps sp:=⟨_,_,F,b,a.2.kp,PySem.W.mg_of X G a.1⟩
theorem all_mk {l:PySem.W.OpenLaw} {w:World} {K:FG7} {h:Heap} {mg:Str -> Option Value} {fa f1 f2 f3 f4 f5 f6 f7 f8 f9 f10 f11 f12 f13 f14 f15 f16 f17 f18 f19 f20 f21 f22 f23 f24 f25 f26 f27 f28 f29 f30 f31 f32 f33 f34 f35 f36 f37 f38 f39 f40 f41:Addr} (X:K.In h) (G:h.Ns mainGlobals mg) (hfa:mg "law" = some (.ref fa))
    {d1 d2 d3 d4 d5 d6 d7 d8 d9 d10 d11 d12 d13 d14 d15 d16 d17 d18 d19 d20 d21 d22 d23 d24 d25 d26 d27 d28 d29 d30 d31 d32 d33 d34 d35 d36 d37 d38 d39 d40 d41:FuncData}
 (h1:FA K "_law_take" ((top 38)) f1 d1)
 (h2:FA K "_law_spoilt" ((top 46)) f2 d2)
 (h3:FA K "made" ((top 10)) f3 d3)
 (h4:FA K "are_answered" ((top 25)) f4 d4)
 (h5:FA K "keeps_ahead" ((top 26)) f5 d5)
 (h6:FA K "is_whole" ((top 5)) f6 d6)
 (h7:FA K "is_order" ((top 24)) f7 d7)
 (h8:FA K "fits_these" ((top 27)) f8 d8)
 (h9:FA K "by_boxes" ((top 21)) f9 d9)
 (h10:FA K "is_end" ((top 8)) f10 d10)
 (h11:FA K "is_deed" ((top 9)) f11 d11)
 (h12:FA K "is_within" ((top 6)) f12 d12)
 (h13:FA K "is_ask" ((top 16)) f13 d13)
 (h14:FA K "is_call" ((top 20)) f14 d14)
 (h15:FA K "is_board" ((top 14)) f15 d15)
 (h16:FA K "need_board" ((top 15)) f16 d16)
 (h17:FA K "are_calls" ((top 22)) f17 d17)
 (h18:FA K "need_calls" ((top 23)) f18 d18)
 (h19:FA K "fits" ((top 28)) f19 d19)
 (h20:FA K "merged" ((top 33)) f20 d20)
 (h21:FA K "one_more" ((top 31)) f21 d21)
 (h22:FA K "order_by" ((top 32)) f22 d22)
 (h23:FA K "as_mask" ((top 29)) f23 d23)
 (h24:FA K "ahead_masks" ((top 30)) f24 d24)
 (h25:FA K "an_order" ((top 34)) f25 d25)
 (h26:FA K "_law_is_less_right" ((top 52)) f26 d26)
 (h27:FA K "_law_wider" ((top 48)) f27 d27)
 (h28:FA K "_law_done" ((top 42)) f28 d28)
 (h29:FA K "_law_value" ((top 50)) f29 d29)
 (h30:FA K "_law_is_looked_right" ((top 51)) f30 d30)
 (h31:FA K "_law_shuffled" ((top 39)) f31 d31)
 (h32:FA K "_law_renamed" ((top 47)) f32 d32)
 (h33:FA K "_law_is_renamed_right" ((top 49)) f33 d33)
 (h34:FA K "_law_times" ((top 43)) f34 d34)
 (h35:FA K "_law_number" ((top 40)) f35 d35)
 (h36:FA K "_law_deed" ((top 41)) f36 d36)
 (h37:FA K "_law_history" ((top 44)) f37 d37)
 (h38:FA K "_law_size" ((top 45)) f38 d38)
 (h39:FA K "_law_at" ((top 36)) f39 d39)
 (h40:FA K "_law_pot" ((top 37)) f40 d40)
 (h41:FA K "law" ((top 53)) f41 d41)
    {t_LAST_HAND:Tok} (ga_LAST_HAND:PySem.W.nsIn K mainGlobals "LAST_HAND" = some (some (.int 15 t_LAST_HAND)))
    {t_MOST_AT_A_BOX:Tok} (ga_MOST_AT_A_BOX:PySem.W.nsIn K mainGlobals "MOST_AT_A_BOX" = some (some (.int 8 t_MOST_AT_A_BOX)))
    {t_MOST_BOXES:Tok} (ga_MOST_BOXES:PySem.W.nsIn K mainGlobals "MOST_BOXES" = some (some (.int 16 t_MOST_BOXES)))
    {t_MOST_CALLS:Tok} (ga_MOST_CALLS:PySem.W.nsIn K mainGlobals "MOST_CALLS" = some (some (.int 40 t_MOST_CALLS)))
    (ga_enumerate:PySem.W.nsIn K mainGlobals "enumerate" = some none)
    (ga_sorted:PySem.W.nsIn K mainGlobals "sorted" = some none)
    (ga_sum:PySem.W.nsIn K mainGlobals "sum" = some none)
    (z_abs:PySem.W.nsIn K mainGlobals "abs" = some none)
    (z_len:PySem.W.nsIn K mainGlobals "len" = some none)
    (z_max:PySem.W.nsIn K mainGlobals "max" = some none)
    (z_min:PySem.W.nsIn K mainGlobals "min" = some none)
    (z_divmod:PySem.W.nsIn K mainGlobals "divmod" = some none)
    (z_repr:PySem.W.nsIn K mainGlobals "repr" = some none)
    (z_isinstance:PySem.W.nsIn K mainGlobals "isinstance" = some none)
    (z_all:PySem.W.nsIn K mainGlobals "all" = some none)
    (z_range:PySem.W.nsIn K mainGlobals "range" = some none)
    (z_int:PySem.W.nsIn K mainGlobals "int" = some none)
    (z_bool:PySem.W.nsIn K mainGlobals "bool" = some none)
    (z_str:PySem.W.nsIn K mainGlobals "str" = some none)
    (z_tuple:PySem.W.nsIn K mainGlobals "tuple" = some none)
    (z_list:PySem.W.nsIn K mainGlobals "list" = some none)
    (z_dict:PySem.W.nsIn K mainGlobals "dict" = some none)
    :
    ∃ fd:FuncData,(∀ (s:Shared) (v:Value),BindsTo s fd ⟨[v],[]⟩ [("_law_script",v)]) /\ ∀ base:Heap,K.In base -> base.Ns mainGlobals mg -> FnOk l.prog w K mg base CX0 10 fa fd ["_law_script"] (jB K):=by
  have e:=hfa.symm.trans (PySem.W.mg_of X G h41.1)
  cases e
  have B:Blt mg:=⟨PySem.W.mg_none_of X G z_abs,PySem.W.mg_none_of X G z_len,PySem.W.mg_none_of X G z_max,PySem.W.mg_none_of X G z_min,PySem.W.mg_none_of X G z_divmod,PySem.W.mg_none_of X G z_repr,PySem.W.mg_none_of X G z_isinstance,PySem.W.mg_none_of X G z_all,PySem.W.mg_none_of X G z_range,PySem.W.mg_none_of X G z_int,PySem.W.mg_none_of X G z_bool,PySem.W.mg_none_of X G z_str,PySem.W.mg_none_of X G z_tuple,PySem.W.mg_none_of X G z_list,PySem.W.mg_none_of X G z_dict⟩
  obtain ⟨oc,od,kV,dc,pm,an,cd,ct,sl,rfl,lk,hc⟩:=h41.2.ex
  refine ⟨PySem.W.fnOf "law" "law" (v6 (top 53)) (vh (top 53)) (zj (top 53)) .none kV dc pm an cd ct,fun s v=>.of_eq rfl,fun base _ _=>?_⟩
  have C1:zk l.prog w K mg base 1 _ _ _:=h1.cl X G (qi h1.2 B       ) (h1.2.binds fun _ _ _ _ _ _ us hl=>by obtain ⟨_,_,rfl⟩:=z4 hl; rfl)
  have C2:zk l.prog w K mg base 2 _ _ _:=h2.cl X G (uO h2.2 B    (C1.mono (by decide))   ) (h2.2.binds fun _ _ _ _ _ _ us hl=>by obtain ⟨_,_,rfl⟩:=z4 hl; rfl)
  have C3:zk l.prog w K mg base 1 _ _ _:=h3.cl X G (Ul h3.2 B       ) (h3.2.binds fun _ _ _ _ _ _ us hl=>by obtain ⟨_,_,rfl⟩:=z4 hl; rfl)
  have C4:zk l.prog w K mg base 2 _ _ _:=h4.cl X G (uH h4.2 B    (C3.mono (by decide))   ) (h4.2.binds fun _ _ _ _ _ _ us hl=>by obtain ⟨_,_,_,rfl⟩:=wR hl; rfl)
  have C5:zk l.prog w K mg base 1 _ _ _:=h5.cl X G (uP h5.2 B       ) (h5.2.binds fun _ _ _ _ _ _ us hl=>by obtain ⟨_,_,rfl⟩:=z4 hl; rfl)
  have C6:zk l.prog w K mg base 1 _ _ _:=h6.cl X G (jf h6.2 B       ) (h6.2.binds fun _ _ _ _ _ _ us hl=>by obtain ⟨_,rfl⟩:=vC hl; rfl)
  have C7:zk l.prog w K mg base 2 _ _ _:=h7.cl X G (jh h7.2 B    (C6.mono (by decide)) (PySem.W.mg_none_of X G ga_sorted)  ) (h7.2.binds fun _ _ _ _ _ _ us hl=>by obtain ⟨_,_,rfl⟩:=z4 hl; rfl)
  have C8:zk l.prog w K mg base 3 _ _ _:=h8.cl X G (sR h8.2 B    (C4.mono (by decide)) (C5.mono (by decide)) (C7.mono (by decide))   ) (h8.2.binds fun _ _ _ _ _ _ us hl=>by obtain ⟨_,_,_,_,rfl⟩:=vD hl; rfl)
  have C9:zk l.prog w K mg base 1 _ _ _:=h9.cl X G (ji h9.2 B     (PySem.W.mg_none_of X G ga_enumerate)  ) (h9.2.binds fun _ _ _ _ _ _ us hl=>by obtain ⟨_,_,rfl⟩:=z4 hl; rfl)
  have C10:zk l.prog w K mg base 2 _ _ _:=h10.cl X G (Wc h10.2 B    (C6.mono (by decide))   ) (h10.2.binds fun _ _ _ _ _ _ us hl=>by obtain ⟨_,rfl⟩:=vC hl; rfl)
  have C11:zk l.prog w K mg base 3 _ _ _:=h11.cl X G (Yh h11.2 B    (C10.mono (by decide)) (C6.mono (by decide))   ) (h11.2.binds fun _ _ _ _ _ _ us hl=>by obtain ⟨_,rfl⟩:=vC hl; rfl)
  have C12:zk l.prog w K mg base 2 _ _ _:=h12.cl X G (qk h12.2 B    (C6.mono (by decide))   ) (h12.2.binds fun _ _ _ _ _ _ us hl=>by obtain ⟨_,_,_,rfl⟩:=wR hl; rfl)
  have C13:zk l.prog w K mg base 4 _ _ _:=h13.cl X G (Wd h13.2 B    (C11.mono (by decide)) (C12.mono (by decide))  (PySem.W.mg_of X G ga_LAST_HAND) ) (h13.2.binds fun _ _ _ _ _ _ us hl=>by obtain ⟨_,_,rfl⟩:=z4 hl; rfl)
  have C14:zk l.prog w K mg base 5 _ _ _:=h14.cl X G (Yi h14.2 B    (C6.mono (by decide)) (C13.mono (by decide))   ) (h14.2.binds fun _ _ _ _ _ _ us hl=>by obtain ⟨_,_,rfl⟩:=z4 hl; rfl)
  have C15:zk l.prog w K mg base 2 _ _ _:=h15.cl X G (jk h15.2 B    (C6.mono (by decide))  (PySem.W.mg_of X G ga_MOST_BOXES) ) (h15.2.binds fun _ _ _ _ _ _ us hl=>by obtain ⟨_,rfl⟩:=vC hl; rfl)
  have C16:zk l.prog w K mg base 3 _ _ _:=h16.cl X G (sT h16.2 B    (C15.mono (by decide))   ) (h16.2.binds fun _ _ _ _ _ _ us hl=>by obtain ⟨_,rfl⟩:=vC hl; rfl)
  have C17:zk l.prog w K mg base 6 _ _ _:=h17.cl X G (qm h17.2 B    (C9.mono (by decide)) (C14.mono (by decide)) (C16.mono (by decide))  (PySem.W.mg_of X G ga_MOST_AT_A_BOX) (PySem.W.mg_of X G ga_MOST_CALLS) ) (h17.2.binds fun _ _ _ _ _ _ us hl=>by obtain ⟨_,_,rfl⟩:=z4 hl; rfl)
  have C18:zk l.prog w K mg base 7 _ _ _:=h18.cl X G (sV h18.2 B    (C17.mono (by decide))   ) (h18.2.binds fun _ _ _ _ _ _ us hl=>by obtain ⟨_,_,rfl⟩:=z4 hl; rfl)
  have C19:zk l.prog w K mg base 8 _ _ _:=h19.cl X G (Uo h19.2 B    (C8.mono (by decide)) (C18.mono (by decide))   ) (h19.2.binds fun _ _ _ _ _ _ us hl=>by obtain ⟨_,_,_,rfl⟩:=wR hl; rfl)
  have C20:zk l.prog w K mg base 1 _ _ _:=h20.cl X G (We h20.2 B     (PySem.W.mg_none_of X G ga_sorted) (PySem.W.mg_none_of X G ga_enumerate)  ) (h20.2.binds fun _ _ _ _ _ _ us hl=>by obtain ⟨_,_,rfl⟩:=z4 hl; rfl)
  have C21:zk l.prog w K mg base 2 _ _ _:=h21.cl X G (jm h21.2 B    (C3.mono (by decide))   ) (h21.2.binds fun _ _ _ _ _ _ us hl=>by obtain ⟨_,_,_,rfl⟩:=wR hl; rfl)
  have C22:zk l.prog w K mg base 3 _ _ _:=h22.cl X G (jn h22.2 B    (C21.mono (by decide))   ) (h22.2.binds fun _ _ _ _ _ _ us hl=>by obtain ⟨_,_,_,rfl⟩:=wR hl; rfl)
  have C23:zk l.prog w K mg base 1 _ _ _:=h23.cl X G (Yk h23.2 B     (PySem.W.mg_none_of X G ga_sum)  ) (h23.2.binds fun _ _ _ _ _ _ us hl=>by obtain ⟨_,rfl⟩:=vC hl; rfl)
  have C24:zk l.prog w K mg base 2 _ _ _:=h24.cl X G (uQ h24.2 B    (C23.mono (by decide))   ) (h24.2.binds fun _ _ _ _ _ _ us hl=>by obtain ⟨_,_,rfl⟩:=z4 hl; rfl)
  have C25:zk l.prog w K mg base 8 _ _ _:=h25.cl X G (jo h25.2 B    (C20.mono (by decide)) (C9.mono (by decide)) (C22.mono (by decide)) (C24.mono (by decide)) (C18.mono (by decide))   ) (h25.2.binds fun _ _ _ _ _ _ us hl=>by obtain ⟨_,_,rfl⟩:=z4 hl; rfl)
  have C26:zk l.prog w K mg base 9 _ _ _:=h26.cl X G (wn h26.2 B    (C19.mono (by decide)) (C25.mono (by decide)) (C1.mono (by decide)) (PySem.W.mg_none_of X G ga_enumerate)  ) (h26.2.binds fun _ _ _ _ _ _ us hl=>by obtain ⟨_,_,_,_,rfl⟩:=vD hl; rfl)
  have C27:zk l.prog w K mg base 2 _ _ _:=h27.cl X G (sW h27.2 B    (C1.mono (by decide))   ) (h27.2.binds fun _ _ _ _ _ _ us hl=>by obtain ⟨_,_,rfl⟩:=z4 hl; rfl)
  have C28:zk l.prog w K mg base 1 _ _ _:=h28.cl X G (qp h28.2 B       ) (h28.2.binds fun _ _ _ _ _ _ us hl=>by obtain ⟨_,_,rfl⟩:=z4 hl; rfl)
  have C29:zk l.prog w K mg base 2 _ _ _:=h29.cl X G (sX h29.2 B    (C28.mono (by decide))   ) (h29.2.binds fun _ _ _ _ _ _ us hl=>by obtain ⟨_,_,_,_,rfl⟩:=vD hl; rfl)
  have C30:zk l.prog w K mg base 9 _ _ _:=h30.cl X G (xS h30.2 B    (C19.mono (by decide)) (C25.mono (by decide)) (C1.mono (by decide)) (C29.mono (by decide))   ) (h30.2.binds fun _ _ _ _ _ _ us hl=>by obtain ⟨_,_,_,_,rfl⟩:=vD hl; rfl)
  have C31:zk l.prog w K mg base 2 _ _ _:=h31.cl X G (vP h31.2 B    (C1.mono (by decide))   ) (h31.2.binds fun _ _ _ _ _ _ us hl=>by obtain ⟨_,_,rfl⟩:=z4 hl; rfl)
  have C32:zk l.prog w K mg base 3 _ _ _:=h32.cl X G (uJ h32.2 B    (C31.mono (by decide)) (C1.mono (by decide))   ) (h32.2.binds fun _ _ _ _ _ _ us hl=>by obtain ⟨_,_,_,rfl⟩:=wR hl; rfl)
  have C33:zk l.prog w K mg base 9 _ _ _:=h33.cl X G (xI h33.2 B    (C19.mono (by decide)) (C25.mono (by decide)) (C32.mono (by decide))   ) (h33.2.binds fun _ _ _ _ _ _ us hl=>by obtain ⟨_,_,_,_,rfl⟩:=vD hl; rfl)
  have C34:zk l.prog w K mg base 2 _ _ _:=h34.cl X G (sY h34.2 B    (C1.mono (by decide))   ) (h34.2.binds fun _ _ _ _ _ _ us hl=>by obtain ⟨_,_,_,rfl⟩:=wR hl; rfl)
  have C35:zk l.prog w K mg base 2 _ _ _:=h35.cl X G (uS h35.2 B    (C1.mono (by decide))   ) (h35.2.binds fun _ _ _ _ _ _ us hl=>by obtain ⟨_,_,rfl⟩:=z4 hl; rfl)
  have C36:zk l.prog w K mg base 3 _ _ _:=h36.cl X G (qq h36.2 B    (C1.mono (by decide)) (C35.mono (by decide))   ) (h36.2.binds fun _ _ _ _ _ _ us hl=>by obtain ⟨_,_,rfl⟩:=z4 hl; rfl)
  have C37:zk l.prog w K mg base 4 _ _ _:=h37.cl X G (uK h37.2 B    (C28.mono (by decide)) (C1.mono (by decide)) (C34.mono (by decide)) (C36.mono (by decide)) (C35.mono (by decide))   ) (h37.2.binds fun _ _ _ _ _ _ us hl=>by obtain ⟨_,_,_,_,rfl⟩:=vD hl; rfl)
  have C38:zk l.prog w K mg base 2 _ _ _:=h38.cl X G (qt h38.2 B    (C1.mono (by decide))   ) (h38.2.binds fun _ _ _ _ _ _ us hl=>by obtain ⟨_,_,rfl⟩:=z4 hl; rfl)
  have C39:zk l.prog w K mg base 1 _ _ _:=h39.cl X G (Ym h39.2 B       ) (h39.2.binds fun _ _ _ _ _ _ us hl=>by obtain ⟨_,_,rfl⟩:=z4 hl; rfl)
  have C40:zk l.prog w K mg base 2 _ _ _:=h40.cl X G (jp h40.2 B    (C39.mono (by decide))   ) (h40.2.binds fun _ _ _ _ _ _ us hl=>by obtain ⟨_,_,rfl⟩:=z4 hl; rfl)
  exact TC (P:=l.prog) (w:=w) (base:=base) (n:=9) h41.2 B    (C2.mono (by decide)) (C26.mono (by decide)) (C19.mono (by decide)) (C27.mono (by decide)) (C30.mono (by decide)) (C33.mono (by decide)) (C25.mono (by decide)) (C31.mono (by decide)) (C37.mono (by decide)) (C1.mono (by decide)) (C38.mono (by decide)) (C40.mono (by decide))
theorem walk {l:PySem.W.OpenLaw} {q:Program} {loose:List Str} {XP:(Str -> Option Value) -> Heap -> Prop} {YP:World -> Heap -> Prop} {d:DefRec} {K:Params -> FG7} (hn:l.most = some 63) (hdf:d.params.defaults = [])
  (hY:∀ (w:World) (h:Heap),YP w h -> (K w.params).In h)
  (F:∀ (w:World) (mg:Str -> Option Value) (fa:Addr) (h:Heap),(K w.params).In h -> h.Ns mainGlobals mg -> mg d.name = some (.ref fa) →
   ∃ fd:FuncData,(∀ (s:Shared) (u:Value),BindsTo s fd ⟨[u],[]⟩ [("_law_script",u)]) /\ ∀ base:Heap,(K w.params).In base -> base.Ns mainGlobals mg -> FnOk l.prog w (K w.params) mg base CX0 10 fa fd ["_law_script"] (jB (K w.params))) :
  PySem.W.WalkO q loose XP YP l.row.toRowW d [] (fun f vs=>PySem.call f vs) :=
 L2.walk_of (n:=63) (k:=10) (x:="_law_script") (CX:=fun _=>CX0) (sp:=fun w=>jB (K w.params)) hn (by decide) hdf ⟨rfl,by decide,by decide,rfl⟩ hY F (fun _ _ a ns hl hO hS=>⟨_,rfl,a,ns,rfl,Scr.of hO hS,hl,fun _=>rfl⟩) fun _ _ _ _ _ z=>z
theorem walkX {q:Program} {loose:List Str} {XP:(Str -> Option Value) -> Heap -> Prop} {K:Params -> FG7} {as:List Addr} {n t:Nat} {r:PySem.W.RowW} {d:DefRec} {kwd:List (Str × Expr)} {run:Value -> List Value -> Sem Value}
  (e:∀ P,as = (K P).map (·.1)) (W:PySem.W.WalkO q loose XP (PySem.W.InK K) r d kwd run):PySem.W.WalkX q loose XP (PySem.W.X.obsZ as) (PySem.W.X.valZ K n t) r d kwd run :=
 fun w s₀ s₁ mg mb G Y a o pm cd doc dV kV h2 h3 h4 h5 h6 h7 args vals as' L hpre hlay hrd hwl hlo =>
  W w s₀ s₁ mg mb G (PySem.W.InK.keeps w s₀.heap s₁.heap (PySem.W.X.z_facts e Y).2.1 L.keeps) a o pm cd doc dV kV h2 h3 h4 h5 h6 h7 args vals as' hpre hlay hrd hwl hlo
end My
open PySem PySem.W PyProof.Rows
def PySem.W.Fast.tw8926516646654285759:Unit:=()
def PySem.W.Fast.tw6113211636569825446:Unit:=()
def PySem.W.Fast.tw6397093447580314729:Unit:=()
def PySem.W.Fast.tw1660897314911418973:Unit:=()
def PySem.W.Fast.tw1026583615488768166:Unit:=()
def PySem.W.Fast.tw14942248221629300537:Unit:=()
def PySem.W.Fast.tw13883171467949643481:Unit:=()
def PySem.W.Fast.tw17737173446949098425:Unit:=()
def PySem.W.Fast.tw7929098239802191277:Unit:=()
def PySem.W.Fast.tw1761876420829365239:Unit:=()
def PySem.W.Fast.tw8970358148699436461:Unit:=()
def PySem.W.Fast.tw8436197246038557376:Unit:=()
def PySem.W.Fast.tw5950409649523883625:Unit:=()
def PySem.W.Fast.tw12487769569403030651:Unit:=()
def PySem.W.Fast.tw2079030859397226692:Unit:=()
def PySem.W.Fast.tw13085475334038331825:Unit:=()
def PySem.W.Fast.tw15935899479713146982:Unit:=()
def PySem.W.Fast.tw17840558290517317745:Unit:=()
def PySem.W.Fast.tw7164354340136365246:Unit:=()
def PySem.W.Fast.tw10145310835981852183:Unit:=()
def PySem.W.Fast.tw5416908237622975201:Unit:=()
def PySem.W.Fast.tw13420820722385661900:Unit:=()
def PySem.W.Fast.tw12830541471239155120:Unit:=()
def PySem.W.Fast.tw6671851866664250475:Unit:=()
def PySem.W.Fast.tw18146963333738467980:Unit:=()
def PySem.W.Fast.tw13966224678084721555:Unit:=()
def PySem.W.Fast.tw9387180313341126278:Unit:=()
def PySem.W.Fast.tw1734946635225832511:Unit:=()
def PySem.W.Fast.tw12006477158213431154:Unit:=()
def PySem.W.Fast.tw6228518686488943078:Unit:=()
def PySem.W.Fast.tw3351543265497633322:Unit:=()
def PySem.W.Fast.tw12466646657803191640:Unit:=()
def PySem.W.Fast.tw492920875708694301:Unit:=()
def PySem.W.Fast.tw1479387712112827920:Unit:=()
def PySem.W.Fast.tw16304579697992574376:Unit:=()
def PySem.W.Fast.tw16602647528961764972:Unit:=()
def PySem.W.Fast.tw8653722632256583398:Unit:=()
def PySem.W.Fast.tw1508571647485316601:Unit:=()
def PySem.W.Fast.tw17728901330537474918:Unit:=()
def PySem.W.Fast.tw16475156596727260367:Unit:=()
def PySem.W.Fast.tw7286939810374922927:Unit:=()
def PySem.W.Fast.tw15251984193045489524:Unit:=()
def PySem.W.Fast.tw5022043328625154140:Unit:=()
def PySem.W.Fast.tw8105118472085774912:Unit:=()
def PySem.W.Fast.tw3626660934643676860:Unit:=()
def PySem.W.Fast.tw11246058244553346766:Unit:=()
def PySem.W.Fast.tw3871699513090752927:Unit:=()
def PySem.W.Fast.tw8579579241429897230:Unit:=()
def PySem.W.Fast.tw6889202964181816091:Unit:=()
def PySem.W.Fast.tw18035309355510289068:Unit:=()
def PySem.W.Fast.tw9456360227835321448:Unit:=()
def PySem.W.Fast.tw7965262187018683800:Unit:=()
def PySem.W.Fast.tw1557706557033937140:Unit:=()
def PySem.W.Fast.tw4613140769859649487:Unit:=()
def PySem.W.Fast.tw17288394453072814632:Unit:=()
def PySem.W.Fast.tw15288521440771227201:Unit:=()
def PySem.W.Fast.tw9148559221932835085:Unit:=()
def PySem.W.Fast.tw12873484102047000902:Unit:=()
def PySem.W.Fast.tw8901539263974554817:Unit:=()
def PySem.W.Fast.tw4193262673416441396:Unit:=()
def PySem.W.Fast.tw3040713235497996147:Unit:=()
def PySem.W.Fast.tw3089566997468782336:Unit:=()
def PySem.W.Fast.tw6009150623903706278:Unit:=()
def PySem.W.Fast.tw14189328505335895673:Unit:=()
def PySem.W.Fast.tw1256085914420884449:Unit:=()
def PySem.W.Fast.tw11997934450667242192:Unit:=()
def PySem.W.Fast.tw4144505963489018010:Unit:=()
def PySem.W.Fast.tw5491086734069576168:Unit:=()
def PySem.W.Fast.tw11159139618777658337:Unit:=()
def PySem.W.Fast.tw17734557384720295412:Unit:=()
def PySem.W.Fast.tw14393069919718389731:Unit:=()
def PySem.W.Fast.tw12655907518777821106:Unit:=()
def PySem.W.Fast.tw9421498800028931029:Unit:=()
def PySem.W.Fast.tw756918576333512395:Unit:=()
def PySem.W.Fast.tw17598791694633082486:Unit:=()
def PySem.W.Fast.tw8866138920790464796:Unit:=()
def PySem.W.Fast.tw18266888641916237896:Unit:=()
def PySem.W.Fast.tw10736111024662269387:Unit:=()
def PySem.W.Fast.tw10815239770816155643:Unit:=()
def PySem.W.Fast.tw3059534127721224762:Unit:=()
def PySem.W.Fast.tw11243164919569197291:Unit:=()
def PySem.W.Fast.tw6863675432267332164:Unit:=()
def PySem.W.Fast.tw8228474499335289105:Unit:=()
def PySem.W.Fast.tw6238087415635975496:Unit:=()
def PySem.W.Fast.tw10920047565535601647:Unit:=()
def PySem.W.Fast.tw403921638912486166:Unit:=()
def PySem.W.Fast.tw3533058916911005175:Unit:=()
def PySem.W.Fast.tw3682528774116236791:Unit:=()
def PySem.W.Fast.tw292626771152698797:Unit:=()
def PySem.W.Fast.tw2354451334845971397:Unit:=()
def PySem.W.Fast.tw5244358047333178320:Unit:=()
def PySem.W.Fast.tw10008869117856425636:Unit:=()
def PySem.W.Fast.tw156663794174765864:Unit:=()
def PySem.W.Fast.tw9634406286413902136:Unit:=()
def PySem.W.Fast.tw1336446795210277920:Unit:=()
def PySem.W.Fast.tw8812658544015532604:Unit:=()
def PySem.W.Fast.tw5845303626124935341:Unit:=()
def PySem.W.Fast.tw7970323759226886179:Unit:=()
def PySem.W.Fast.tw14606057401070868160:Unit:=()
def PySem.W.Fast.tw10761484539088066225:Unit:=()
def PySem.W.Fast.tw2615506282348792912:Unit:=()
def PySem.W.Fast.tw2778148404156073978:Unit:=()
def PySem.W.Fast.tw3715815728158275289:Unit:=()
def PySem.W.Fast.tw12565179491676960647:Unit:=()
def PySem.W.Fast.tw3478161320205299470:Unit:=()
def PySem.W.Fast.tw8866881913611405282:Unit:=()
def PySem.W.Fast.tw15210465043133878684:Unit:=()
def PySem.W.Fast.tw14988697363613381079:Unit:=()
def PySem.W.Fast.tw6452625922472051275:Unit:=()
def PySem.W.Fast.tw15074366184477311722:Unit:=()
def PySem.W.Fast.tw13880138471645831275:Unit:=()
def PySem.W.Fast.tw12670086325171395268:Unit:=()
def PySem.W.Fast.tw2026429436959586792:Unit:=()
def PySem.W.Fast.tw13535807991247296301:Unit:=()
def PySem.W.Fast.tw7485378542633482816:Unit:=()
def PySem.W.Fast.tw9401825271628624980:Unit:=()
def PySem.W.Fast.tw10475813118172203707:Unit:=()
def PySem.W.Fast.tw5974942366272895507:Unit:=()
def PySem.W.Fast.tw17146944293995366025:Unit:=()
def PySem.W.Fast.tw14142113783719298978:Unit:=()
def PySem.W.Fast.tw14252154340294685155:Unit:=()
def PySem.W.Fast.tw14580533558594536438:Unit:=()
def PySem.W.Fast.tw10249940111036702861:Unit:=()
def PySem.W.Fast.tw4705938486609353225:Unit:=()
def PySem.W.Fast.tw8616219249834723238:Unit:=()
def PySem.W.Fast.tw16464731783382447742:Unit:=()
def PySem.W.Fast.tw12314848285488364926:Unit:=()
def PySem.W.Fast.tw9606903917199689464:Unit:=()
def PySem.W.Fast.tw1393863531721656613:Unit:=()
def PySem.W.Fast.tw18010256565227964125:Unit:=()
def PySem.W.Fast.tw15339059777551960577:Unit:=()
def PySem.W.Fast.tw5180783728748215419:Unit:=()
def PySem.W.Fast.tw16682194293967868429:Unit:=()
def PySem.W.Fast.tw13085540594751883749:Unit:=()
def PySem.W.Fast.tw15486293083859951626:Unit:=()
def PySem.W.Fast.tw9614183506566545636:Unit:=()
def PySem.W.Fast.tw12739082460382373805:Unit:=()
def PySem.W.Fast.tw14632819094531953701:Unit:=()
def PySem.W.Fast.tw7248532180901096177:Unit:=()
def PySem.W.Fast.tw5278585869192569113:Unit:=()
def PySem.W.Fast.tw11575180540893940729:Unit:=()
def PySem.W.Fast.tw7829703363579563799:Unit:=()
def PySem.W.Fast.tw3108990954851650618:Unit:=()
def PySem.W.Fast.tw10960187552975997016:Unit:=()
def PySem.W.Fast.tw11700346470964074422:Unit:=()
def PySem.W.Fast.tw16513790570592501101:Unit:=()
set_option maxRecDepth 100000 in
theorem PySem.Challenge.cw_joinedasks_k79_whole_stretched_and_renam_holds : PySem.Challenge.rw_joinedasks_k79_whole_stretched_and_renam.Holds := by
 w_on; o_law; z_head; (case hw=>w_witness2)
 refine My.walkX (fun _=>by kernel_rfl) (My.walk (l:=PySem.Challenge.rw_joinedasks_k79_whole_stretched_and_renam) rfl rfl (fun w h Y=>Y) ?F)
 case F =>
  intro w mg fa h KX G hmg
  refine' My.all_mk KX G hmg        ?h1 ?h2 ?h3 ?h4 ?h5 ?h6 ?h7 ?h8 ?h9 ?h10 ?h11 ?h12 ?h13 ?h14 ?h15 ?h16 ?h17 ?h18 ?h19 ?h20 ?h21 ?h22 ?h23 ?h24 ?h25 ?h26 ?h27 ?h28 ?h29 ?h30 ?h31 ?h32 ?h33 ?h34 ?h35 ?h36 ?h37 ?h38 ?h39 ?h40 ?h41 ?ga_LAST_HAND ?ga_MOST_AT_A_BOX ?ga_MOST_BOXES ?ga_MOST_CALLS ?ga_enumerate ?ga_sorted ?ga_sum ?z_abs ?z_len ?z_max ?z_min ?z_divmod ?z_repr ?z_isinstance ?z_all ?z_range ?z_int ?z_bool ?z_str ?z_tuple ?z_list ?z_dict
  (case h1=>exact ⟨by k_is,L2.fun_mk (by k_is) (by k_is) (by k_is)⟩)
  (case h2=>exact ⟨by k_is,L2.fun_mk (by k_is) (by k_is) (by k_is)⟩)
  (case h3=>exact ⟨by k_is,L2.fun_mk (by k_is) (by k_is) (by k_is)⟩)
  (case h4=>exact ⟨by k_is,L2.fun_mk (by k_is) (by k_is) (by k_is)⟩)
  (case h5=>exact ⟨by k_is,L2.fun_mk (by k_is) (by k_is) (by k_is)⟩)
  (case h6=>exact ⟨by k_is,L2.fun_mk (by k_is) (by k_is) (by k_is)⟩)
  (case h7=>exact ⟨by k_is,L2.fun_mk (by k_is) (by k_is) (by k_is)⟩)
  (case h8=>exact ⟨by k_is,L2.fun_mk (by k_is) (by k_is) (by k_is)⟩)
  (case h9=>exact ⟨by k_is,L2.fun_mk (by k_is) (by k_is) (by k_is)⟩)
  (case h10=>exact ⟨by k_is,L2.fun_mk (by k_is) (by k_is) (by k_is)⟩)
  (case h11=>exact ⟨by k_is,L2.fun_mk (by k_is) (by k_is) (by k_is)⟩)
  (case h12=>exact ⟨by k_is,L2.fun_mk (by k_is) (by k_is) (by k_is)⟩)
  (case h13=>exact ⟨by k_is,L2.fun_mk (by k_is) (by k_is) (by k_is)⟩)
  (case h14=>exact ⟨by k_is,L2.fun_mk (by k_is) (by k_is) (by k_is)⟩)
  (case h15=>exact ⟨by k_is,L2.fun_mk (by k_is) (by k_is) (by k_is)⟩)
  (case h16=>exact ⟨by k_is,L2.fun_mk (by k_is) (by k_is) (by k_is)⟩)
  (case h17=>exact ⟨by k_is,L2.fun_mk (by k_is) (by k_is) (by k_is)⟩)
  (case h18=>exact ⟨by k_is,L2.fun_mk (by k_is) (by k_is) (by k_is)⟩)
  (case h19=>exact ⟨by k_is,L2.fun_mk (by k_is) (by k_is) (by k_is)⟩)
  (case h20=>exact ⟨by k_is,L2.fun_mk (by k_is) (by k_is) (by k_is)⟩)
  (case h21=>exact ⟨by k_is,L2.fun_mk (by k_is) (by k_is) (by k_is)⟩)
  (case h22=>exact ⟨by k_is,L2.fun_mk (by k_is) (by k_is) (by k_is)⟩)
  (case h23=>exact ⟨by k_is,L2.fun_mk (by k_is) (by k_is) (by k_is)⟩)
  (case h24=>exact ⟨by k_is,L2.fun_mk (by k_is) (by k_is) (by k_is)⟩)
  (case h25=>exact ⟨by k_is,L2.fun_mk (by k_is) (by k_is) (by k_is)⟩)
  (case h26=>exact ⟨by k_is,L2.fun_mk (by k_is) (by k_is) (by k_is)⟩)
  (case h27=>exact ⟨by k_is,L2.fun_mk (by k_is) (by k_is) (by k_is)⟩)
  (case h28=>exact ⟨by k_is,L2.fun_mk (by k_is) (by k_is) (by k_is)⟩)
  (case h29=>exact ⟨by k_is,L2.fun_mk (by k_is) (by k_is) (by k_is)⟩)
  (case h30=>exact ⟨by k_is,L2.fun_mk (by k_is) (by k_is) (by k_is)⟩)
  (case h31=>exact ⟨by k_is,L2.fun_mk (by k_is) (by k_is) (by k_is)⟩)
  (case h32=>exact ⟨by k_is,L2.fun_mk (by k_is) (by k_is) (by k_is)⟩)
  (case h33=>exact ⟨by k_is,L2.fun_mk (by k_is) (by k_is) (by k_is)⟩)
  (case h34=>exact ⟨by k_is,L2.fun_mk (by k_is) (by k_is) (by k_is)⟩)
  (case h35=>exact ⟨by k_is,L2.fun_mk (by k_is) (by k_is) (by k_is)⟩)
  (case h36=>exact ⟨by k_is,L2.fun_mk (by k_is) (by k_is) (by k_is)⟩)
  (case h37=>exact ⟨by k_is,L2.fun_mk (by k_is) (by k_is) (by k_is)⟩)
  (case h38=>exact ⟨by k_is,L2.fun_mk (by k_is) (by k_is) (by k_is)⟩)
  (case h39=>exact ⟨by k_is,L2.fun_mk (by k_is) (by k_is) (by k_is)⟩)
  (case h40=>exact ⟨by k_is,L2.fun_mk (by k_is) (by k_is) (by k_is)⟩)
  (case h41=>exact ⟨by k_is,L2.fun_mk (by k_is) (by k_is) (by k_is)⟩)
  (case ga_LAST_HAND=>k_is)
  (case ga_MOST_AT_A_BOX=>k_is)
  (case ga_MOST_BOXES=>k_is)
  (case ga_MOST_CALLS=>k_is)
  (case ga_enumerate=>k_is)
  (case ga_sorted=>k_is)
  (case ga_sum=>k_is)
  (case z_abs=>k_is); (case z_len=>k_is); (case z_max=>k_is); (case z_min=>k_is); (case z_divmod=>k_is); (case z_repr=>k_is); (case z_isinstance=>k_is); (case z_all=>k_is); (case z_range=>k_is); (case z_int=>k_is); (case z_bool=>k_is); (case z_str=>k_is); (case z_tuple=>k_is); (case z_list=>k_is); (case z_dict=>k_is)
