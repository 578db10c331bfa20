import PyProof.Rows.All
import Wide.All
import OpenK.AllK
import Wide.FinOn
import Lean
import PyProof.EqAt
import PyProof.EqKinds
import PyProof.TupleCall
import PyProof.NeKinds
import PyProof.ReprRoads
import PyProof.ReprLen
import PyProof.Rows.RegStrFacts
import PyProof.Draws
import PyProof.EnumStmt
import PyProof.ZipIter
import PyProof.ListNew
import PyProof.TupleOfGen
import PyProof.ListRange
import PyProof.Rows.Range3
import PyProof.SumWalkG
import PyProof.Rows.RuleB_lshift
import PyProof.AutoSeq1
import PyProof.Cells
import PyProof.AutoListH
import PyProof.DictTable
import PyProof.RulesAs
import PyProof.NsDelKeeps
import KE.KDictList
import PyProof.DictCompW
import PyProof.DictItems
import PyProof.Rows.SetFrom
import PyProof.SetRoads
import PyProof.IsiH_list
import PyProof.AttrMiss
import KE.KDictOf
import KE.KSortTup
import PyProof.DictWalks
import PySem.Challenge.RW_joinedasks_k97_whole_rounds_shared_out
set_option Elab.async false
set_option linter.all false
set_option maxRecDepth 100000
set_option maxHeartbeats 0
abbrev FG7:=PySem.W.Frag
abbrev VS7:=PySem.Value -> PySem.Shared -> Prop
namespace L2
open PySem PySem.Spec PyProof.Rows
abbrev Key:=Sum Int Str
def Ze:Key -> Value -> Bool
 | .inl k,v=>Value.isInt k v
 | .inr x,v=>Value.isStrOf x v
def keyH (w:World):Key -> Int
 | .inl k=>hashInt k
 | .inr x=>hashStr w x
theorem zZ:∀ {k:Key} {v:Value},Ze k v = true -> (∃ i t,k = Sum.inl i /\ v = Value.int i t) \/ (∃ x t,k = Sum.inr x /\ v = Value.str x t)
 | .inl i,v,h=>by
  obtain ⟨t,e⟩:=Value.isInt_shape (k:=i) (v:=v) h
  exact .inl ⟨i,t,rfl,e⟩
 | .inr x,v,h=>by
  obtain ⟨t,e⟩:=Value.isStrOf_shape (x:=x) (v:=v) h
  exact .inr ⟨x,t,rfl,e⟩
theorem ZW (i:Int) (t:Tok):Ze (.inl i) (.int i t) = true:=by simp [Ze,Value.isInt]
theorem ZX (x:Str) (t:Tok):Ze (.inr x) (.str x t) = true:=by simp [Ze,Value.isStrOf]
theorem VV (a b:Int):decide ((Sum.inl a:Key) = Sum.inl b) = (a == b):=by
 by_cases e:a = b
 ·subst e; simp
 ·have h:¬ (Sum.inl a:Key) = Sum.inl b:=fun q=>e (Sum.inl.inj q)
  rw [decide_eq_false h]
  exact (beq_eq_false_iff_ne.mpr e).symm
theorem VW (a b:Str):decide ((Sum.inr a:Key) = Sum.inr b) = decide (a = b):=by
 by_cases e:a = b
 ·subst e; simp
 ·have h:¬ (Sum.inr a:Key) = Sum.inr b:=fun q=>e (Sum.inr.inj q)
  rw [decide_eq_false h,decide_eq_false e]
theorem VX (a:Int) (b:Str):decide ((Sum.inl a:Key) = Sum.inr b) = false:=decide_eq_false (fun q=>nomatch q)
theorem VY (a:Str) (b:Int):decide ((Sum.inr a:Key) = Sum.inl b) = false:=decide_eq_false (fun q=>nomatch q)
def zM (prog:Program) (w:World):PySem.KeyKind prog w Key where
 is:=Ze
 hash:=keyH w
 inj:=fun v a b ha hb=>by
  rcases zZ ha with ⟨i,t,rfl,rfl⟩ | ⟨x,t,rfl,rfl⟩
  ·rcases zZ hb with ⟨j,u,rfl,e⟩ | ⟨y,u,rfl,e⟩
   ·injection e with e1 _; rw [e1]
   ·exact nomatch e
  ·rcases zZ hb with ⟨j,u,rfl,e⟩ | ⟨y,u,rfl,e⟩
   ·exact nomatch e
   ·injection e with e1 _; rw [e1]
 byValue:=fun k v h=>by
  rcases zZ h with ⟨i,t,rfl,rfl⟩ | ⟨x,t,rfl,rfl⟩ <;> rfl
 pyHash:=fun hv h=>by
  rcases zZ hv with ⟨i,t,rfl,rfl⟩ | ⟨x,t,rfl,rfl⟩
  ·exact wpAny_pyHash_int h
  ·exact wpAny_pyHash_str h
 eqBool:=fun hu hv h=>by
  rcases zZ hu with ⟨i,t,rfl,rfl⟩ | ⟨x,t,rfl,rfl⟩
  ·rcases zZ hv with ⟨j,u,rfl,rfl⟩ | ⟨y,u,rfl,rfl⟩
   ·rw [VV] at h; exact wpAny_eqBool_int h
   ·rw [VX] at h; exact SeqAt.EqAt.int_str i t y u _ _ _ _ h
  ·rcases zZ hv with ⟨j,u,rfl,rfl⟩ | ⟨y,u,rfl,rfl⟩
   ·rw [VY] at h; exact SeqAt.EqAt.str_int x t j u _ _ _ _ h
   ·rw [VW] at h; exact wpAny_eqBool_str h
 «strs»:=fun k x t v h=>by
  rcases zZ h with ⟨i,u,rfl,e⟩ | ⟨y,u,rfl,e⟩
  ·exact nomatch e
  ·injection e with e1 _
   subst e1
   cases v <;> rfl
theorem qJ (prog:Program) (w:World) (i:Int) (t:Tok):(zM prog w).is (.inl i) (.int i t) = true:=ZW i t
theorem qK (prog:Program) (w:World) (x:Str) (t:Tok):(zM prog w).is (.inr x) (.str x t) = true:=ZX x t
end L2
namespace L2
open PySem PySem.Spec PyProof.Rows
inductive V where
 | non | bl (b:Bool) | int (i:Int) | str (x:Str) | byt (b:Array UInt8) | flt (b:UInt64) | ref (a:Addr) | ty (n:String)
 deriving DecidableEq
def RelV:V -> Value -> Prop
 | .non,u=>u = Value.none
 | .bl b,u=>u = Value.bool b
 | .int i,u=>∃ t,u = Value.int i t
 | .str x,u=>∃ t,u = Value.str x t
 | .byt b,u=>∃ t,u = Value.bytes b t
 | .flt b,u=>∃ t,u = Value.float b t
 | .ref a,u=>u = Value.ref a
 | .ty n,u=>u = Value.type n
abbrev Vals:List V -> List Value -> Prop:=Paired RelV
theorem Vals.length {xs:List V} {us:List Value} (r:Vals xs us):xs.length = us.length:=Paired.length r
theorem Vals.get:∀ {xs:List V} {us:List Value} {i:Nat} {x:V},Vals xs us -> xs[i]? = some x -> ∃ u,us[i]? = some u /\ RelV x u
 | _,_,_,_,.nil,e=>by simp at e
 | _,_,0,_,.cons r _,e=>by simp at e; subst e; exact ⟨_,rfl,r⟩
 | _,_,i + 1,x,.cons _ t,e=>by
  obtain ⟨u,h1,h2⟩:=Vals.get (i:=i) (x:=x) t (by simpa using e)
  exact ⟨u,by simpa using h1,h2⟩
theorem Vals.set {x:V} {u:Value} (r:RelV x u):∀ {xs:List V} {us:List Value} (i:Nat),Vals xs us -> Vals (xs.set i x) (us.set i u)
 | _,_,_,.nil=>.nil
 | _,_,0,.cons _ t=>.cons r t
 | _,_,i + 1,.cons q t=>.cons q (Vals.set r i t)
theorem Vals.append:∀ {xs ys:List V} {us ws:List Value},Vals xs us -> Vals ys ws -> Vals (xs ++ ys) (us ++ ws)
 | _,_,_,_,.nil,s=>s
 | _,_,_,_,.cons r t,s=>.cons r (Vals.append t s)
theorem Vals.take:∀ {xs:List V} {us:List Value} (n:Nat),Vals xs us -> Vals (xs.take n) (us.take n)
 | _,_,0,_=>.nil
 | _,_,_ + 1,.nil=>.nil
 | _,_,n + 1,.cons r t=>.cons r (Vals.take n t)
theorem Vals.drop:∀ {xs:List V} {us:List Value} (n:Nat),Vals xs us -> Vals (xs.drop n) (us.drop n)
 | _,_,0,r=>r
 | _,_,_ + 1,.nil=>.nil
 | _,_,n + 1,.cons _ t=>Vals.drop n t
def RelO:Option V -> Option Value -> Prop
 | some v,some u=>RelV v u
 | none,none=>True
 | _,_=>False
def KV {κ:Type}:List (κ × V) -> List (κ × Value) -> Prop:=Paired fun (p:κ × V) (q:κ × Value)=>p.1 = q.1 /\ RelV p.2 q.2
def kV:Key -> V
 | .inl i=>.int i
 | .inr x=>.str x
inductive HO where
 /-- a list -/
 | lst (xs:List V)
 /-- a tuple (never changes) -/
 | tup (xs:List V)
 /-- a dict whose keys are ints and texts; one whose keys are tuples of ints and texts (the empty one is both) -/
 | dK (kvs:List (Key × V)) | dT (kvs:List (List Key × V))
 /-- a set of ints: its members,its size -/
 | set (S:Int -> Bool) (n:Nat)
 /-- an instance of the class at C,its dict at dx,its attributes -/
 | ins (C dx:Addr) (fs:List (Str × V))
 /-- the dict of the instance at x -/
 | own (x:Addr)
 /-- the dict of an exception -/
 | xd (fs:List (Str × V))
 /-- a bound method,f of x -/
 | met (f x:Addr)
 /-- a range object lo,lo + 1,.. below hi -/
 | rng (lo hi:Int)
 /-- a thing that is known to the object (the script; a dict while a loop walks it): read,never written while it is so -/
 | frz (o:Obj) (u:HO)
 /-- a code object's table -/
 | tbl (ps:Array Value)
 /-- any other thing,by what is true of its one object (a def of one's own: SetO a S n:=HO.ext fun h=>..) -/
 | ext (φ:Heap -> Prop)
abbrev Hp:=Addr -> Option HO
def upd (H:Hp) (a:Addr) (o:HO):Hp:=fun b=>if b = a then some o else H b
theorem zc {H:Hp} {a:Addr} {o:HO}:upd H a o a = some o:=by unfold upd; rw [if_pos rfl]
theorem zn {H:Hp} {a b:Addr} {o:HO} (h:b ≠ a):upd H a o b = H b:=by unfold upd; rw [if_neg h]
theorem WZ {H:Hp} {a b:Addr} {o u:HO} (h:H a = some o) (h':H b = some u) (d:o ≠ u):a ≠ b:=by
 intro e; subst e; rw [h] at h'; exact d (Option.some.inj h')
theorem zt {H:Hp} {a b:Addr} {o:HO} (h:H a = some o) (h':H b = none):a ≠ b:=by
 intro e; subst e; rw [h] at h'; cases h'
section
variable (P:Program) (w:World)
def z6 (H:Hp) (h:Heap) (a:Addr):HO -> Prop
 | .lst xs=>xs.length <= sizeLine /\ ∃ (its:List Value) (n:Nat),Vals xs its /\ h.get? a = some { cls:=.type "list",data:=.seq its.toArray n }
 | .tup xs=>xs.length <= sizeLine /\ ∃ its:List Value,Vals xs its /\ IsTup h a its.toArray
 | .dK kvs=>kvs.length <= sizeLine /\ (a == sysModules) = false /\ ∃ vs,KV kvs vs /\ h.DictOf (zM P w) a vs
 | .dT kvs=>kvs.length <= sizeLine /\ (a == sysModules) = false /\ ∃ xs:List (List Key × Addr × Value),
   Paired (fun (p:List Key × V) (q:List Key × Addr × Value)=>p.1 = q.1 /\ H q.2.1 = some (.tup (p.1.map kV)) /\ RelV p.2 q.2.2) kvs xs ∧
   ∃ o es ep,h.get? a = some o /\ o.ExactDict /\ o.data = .dict es ep /\ es.toList = xs.map (entryOfKey (tupleKind (zM P w))) /\ (xs.map (·.1)).Nodup
 | .set S n=>h.SetOf (intKind P w) a S n
 | .ins C dx fs=>H dx = some (.own a) /\ fs.length <= 1000 /\ dx ≠ a /\ h.get? a = some (PySem.W.instObj C dx) ∧
   ∃ mA,h.Ns1 dx mA /\ (∀ f,RelO (fs.lookup f) (mA f)) /\ PySem.Within mA (fs.map (·.1))
 | .own _=>∃ o,h.get? a = some o
 | .xd fs=>∃ mA,h.Ns1 a mA /\ ∀ f,RelO (fs.lookup f) (mA f)
 | .rng lo hi=>∃ t u v,h.get? a = some { cls:=.type "range",data:=.fields #[.int lo t,.int hi u,.int 1 v] }
 | .frz o u=>h.get? a = some o /\ z6 H h a u
 | .tbl ps=>h.get? a = some { cls:=.none,data:=.fields ps }
 | .met f x=>h.get? a = some (PySem.W.methodObj (.ref f) (.ref x))
 | .ext φ=>φ h /\ (∃ o,h.get? a = some o) /\ ∀ h1 h2:Heap,φ h1 -> (∀ o,h1.get? a = some o -> h2.get? a = some o) -> φ h2
def HOk (H:Hp) (h:Heap):Prop:=∀ a o,H a = some o -> z6 P w H h a o
end
section
variable {P:Program} {w:World} {H H':Hp} {h h':Heap} {a:Addr} {o:HO}
theorem z6.lt (x:z6 P w H h a o):a < h.objs.size:=by
 cases o with
 | lst xs=>obtain ⟨_,_,_,_,e⟩:=x; exact Heap.lt_size e
 | tup xs=>obtain ⟨_,_,_,p⟩:=x; exact p.lt
 | dK kvs=>obtain ⟨_,_,_,_,o,_,_,e,_⟩:=x; exact Heap.lt_size e
 | dT kvs=>obtain ⟨_,_,_,_,o,_,_,e,_⟩:=x; exact Heap.lt_size e
 | set S n=>obtain ⟨o,_,_,_,e,_⟩:=x; exact Heap.lt_size e
 | ins C dx fs=>obtain ⟨_,_,_,e,_⟩:=x; exact Heap.lt_size e
 | own y=>obtain ⟨_,e⟩:=x; exact Heap.lt_size e
 | xd fs=>obtain ⟨_,⟨_,_,_,e,_⟩,_⟩:=x; exact Heap.lt_size e
 | rng lo hi=>obtain ⟨_,_,_,e⟩:=x; exact Heap.lt_size e
 | frz ob u=>obtain ⟨e,_⟩:=x; exact Heap.lt_size e
 | tbl ps=>exact Heap.lt_size (show h.get? a = some _ from x)
 | met f y=>exact Heap.lt_size (show h.get? a = some _ from x)
 | ext φ=>obtain ⟨_,⟨_,e⟩,_⟩:=x; exact Heap.lt_size e
theorem Paired.mapP {α β:Type} {F G:α -> β -> Prop}:∀ {l₁:List α} {l₂:List β},Paired F l₁ l₂ -> (∀ a b,F a b -> G a b) -> Paired G l₁ l₂
 | _,_,.nil,_=>.nil
 | _,_,.cons r t,f=>.cons (f _ _ r) (Paired.mapP t f)
theorem z6.stay (x:z6 P w H h a o) (k:∀ b u,(b = a \/ H b = some (.own a)) -> h.get? b = some u -> h'.get? b = some u)
  (ho:∀ b,H b = some (.own a) -> H' b = some (.own a)) (ht:∀ b xs,H b = some (.tup xs) -> H' b = some (.tup xs)):z6 P w H' h' a o:=by
 induction o with
 | lst xs=>obtain ⟨z,its,n,r,e⟩:=x; exact ⟨z,its,n,r,k _ _ (.inl rfl) e⟩
 | tup xs=>obtain ⟨z,its,r,ob,e,c⟩:=x; exact ⟨z,its,r,ob,k _ _ (.inl rfl) e,c⟩
 | dK kvs=>obtain ⟨z,y,vs,r,ob,es,ep,e,c⟩:=x; exact ⟨z,y,vs,r,ob,es,ep,k _ _ (.inl rfl) e,c⟩
 | dT kvs =>
  obtain ⟨z,y,xs,r,ob,es,ep,e,c⟩:=x
  exact ⟨z,y,xs,Paired.mapP r fun p q z=>⟨z.1,ht _ _ z.2.1,z.2.2⟩,ob,es,ep,k _ _ (.inl rfl) e,c⟩
 | set S n=>obtain ⟨ob,es,ep,t,e,c⟩:=x; exact ⟨ob,es,ep,t,k _ _ (.inl rfl) e,c⟩
 | ins C dx fs =>
  obtain ⟨d,z,ne,e,mA,⟨od,es,ep,e2,c⟩,r⟩:=x
  exact ⟨ho _ d,z,ne,k _ _ (.inl rfl) e,mA,⟨od,es,ep,k _ _ (.inr d) e2,c⟩,r⟩
 | own y=>obtain ⟨ob,e⟩:=x; exact ⟨ob,k _ _ (.inl rfl) e⟩
 | xd fs=>obtain ⟨mA,⟨od,es,ep,e,c⟩,r⟩:=x; exact ⟨mA,⟨od,es,ep,k _ _ (.inl rfl) e,c⟩,r⟩
 | rng lo hi=>obtain ⟨t,u,v,e⟩:=x; exact ⟨t,u,v,k _ _ (.inl rfl) e⟩
 | frz ob u ih=>obtain ⟨e,q⟩:=x; exact ⟨k _ _ (.inl rfl) e,ih q⟩
 | tbl ps =>
  have e:h.get? a = some { cls:=.none,data:=.fields ps }:=x
  show h'.get? a = some { cls:=.none,data:=.fields ps }
  exact k a _ (.inl rfl) e
 | met f y =>
  have e:h.get? a = some (PySem.W.methodObj (.ref f) (.ref y)):=x
  show h'.get? a = some (PySem.W.methodObj (.ref f) (.ref y))
  exact k a _ (.inl rfl) e
 | ext φ=>obtain ⟨p,⟨o,e⟩,st⟩:=x; exact ⟨st _ _ p fun o q=>k _ _ (.inl rfl) q,⟨o,k _ _ (.inl rfl) e⟩,st⟩
theorem HOk.lt (x:HOk P w H h) (e:H a = some o):a < h.objs.size:=(x a o e).lt
theorem HOk.fresh (x:HOk P w H h) (e:h.objs.size <= a):H a = none:=by
 cases q:H a with
 | none=>rfl
 | some u=>exact absurd (Nat.lt_of_lt_of_le (x.lt q) e) (Nat.lt_irrefl _)
theorem HOk.kept (x:HOk P w H h) (k:∀ b u,h.get? b = some u -> h'.get? b = some u):HOk P w H h':=fun a o e =>
 (x a o e).stay (fun b u _ q=>k b u q) (fun _ q=>q) fun _ _ q=>q
theorem HOk.laid (x:HOk P w H h) (k:∀ b u,h.get? b = some u -> h'.get? b = some u) (hp:h.objs.size <= a) (new:z6 P w (upd H a o) h' a o):HOk P w (upd H a o) h':=fun b u e=>by
 have hn:=x.fresh hp
 by_cases hb:b = a
 ·subst hb; rw [zc] at e; cases e; exact new
 ·rw [zn hb] at e
  exact (x b u e).stay (fun c v _ q=>k c v q) (fun c q=>by rw [zn (zt q hn)]; exact q) fun c xs q=>by rw [zn (zt q hn)]; exact q
end
def Rd (H:Hp) (a:Addr) (u:HO):Prop:=H a = some u \/ ∃ o,H a = some (.frz o u)
theorem Rd.ok {P:Program} {w:World} {H:Hp} {h:Heap} {a:Addr} {u:HO} (r:Rd H a u) (x:HOk P w H h):z6 P w H h a u:=by
 rcases r with r | ⟨o,r⟩
 ·exact x a u r
 ·obtain ⟨_,q⟩:=x a _ r
  exact q
def Mut:Option HO -> Prop
 | some (.lst _)=>True
 | some (.dK _)=>True
 | some (.dT _)=>True
 | some (.set _ _)=>True
 | some (.ins _ _ _)=>True
 | some (.ext _)=>True
 | _=>False
section
variable {P:Program} {w:World} {H:Hp} {h h':Heap} {x e:Addr} {o':HO}
theorem HOk.write (ok:HOk P w H h) (mu:Mut (H x)) (he:e = x \/ H e = some (.own x)) (k:∀ b u,b ≠ e -> h.get? b = some u -> h'.get? b = some u) (heo:∃ u,h'.get? e = some u)
  (new:z6 P w (upd H x o') h' x o'):HOk P w (upd H x o') h':=fun b u q=>by
 have nown:∀ c y,H c = some (.own y) -> c ≠ x:=fun c y r z=>by subst z; rw [r] at mu; exact mu
 have ntup:∀ c xs,H c = some (.tup xs) -> c ≠ x:=fun c xs r z=>by subst z; rw [r] at mu; exact mu
 by_cases hb:b = x
 ·subst hb; rw [zc] at q; cases q; exact new
 ·rw [zn hb] at q
  by_cases hbe:b = e
  ·have q':H b = some (.own x):=by
    rcases he with z | z
    ·exact absurd (hbe.trans z) hb
    ·rw [hbe]; exact z
   rw [q] at q'; cases q'
   obtain ⟨v,hv⟩:=heo
   exact ⟨v,by rw [hbe]; exact hv⟩
  ·refine (ok b u q).stay (fun c v hc r=>k c v ?_ r) (fun c r=>by rw [zn (nown c b r)]; exact r) fun c xs r=>by rw [zn (ntup c xs r)]; exact r
   rcases hc with rfl | hc
   ·exact hbe
   ·rintro rfl
    rcases he with z | z
    ·exact nown c b hc z
    ·rw [hc] at z; cases z; exact hb rfl
end
structure Un (fs ex:List Addr) (H H':Hp) (h h':Heap):Prop where
 keep:∀ b o,h.get? b = some o -> H b = none -> b ∉ fs -> b ∉ ex -> h'.get? b = some o
 slot:∀ b o,h.get? b = some o -> H b = none -> b ∈ fs -> b ∉ ex -> ∃ sl,h'.get? b = some { o with slots:=sl }
 free:∀ b o,h.get? b = some o -> H b = none -> b ∉ ex -> H' b = none
 there:∀ b o,h.get? b = some o -> b ∉ ex -> ∃ o',h'.get? b = some o'
 tups:∀ b xs,H b = some (.tup xs) -> H' b = some (.tup xs)
 frzs:∀ b o u,H b = some (.frz o u) -> H' b = some (.frz o u)
 tbls:∀ b ps,H b = some (.tbl ps) -> ∃ more,H' b = some (.tbl (ps ++ more))
section
variable {fs fs' ex ex':List Addr} {H H1 H2:Hp} {h h1 h2 h':Heap} {a x e:Addr} {o:HO}
theorem Un.any (u:Un fs ex H H1 h h1) {b:Addr} {ob:Obj} (q:h.get? b = some ob) (n:H b = none) (hx:b ∉ ex):∃ sl,h1.get? b = some { ob with slots:=sl }:=by
 by_cases hb:b ∈ fs
 ·exact u.slot b ob q n hb hx
 ·exact ⟨ob.slots,u.keep b ob q n hb hx⟩
theorem Un.kept (k:∀ b u,h.get? b = some u -> h'.get? b = some u):Un fs ex H H h h' :=
 ⟨fun b ob q _ _ _=>k b ob q,fun b ob q _ _ _=>⟨ob.slots,k b ob q⟩,fun _ _ _ n _=>n,fun b ob q _=>⟨ob,k b ob q⟩,fun _ _ q=>q,fun _ _ _ q=>q,fun _ ps q=>⟨#[],by rw [q]; simp⟩⟩
theorem Un.refl:Un fs ex H H h h:=Un.kept fun _ _ q=>q
theorem Un.laid (k:∀ b u,h.get? b = some u -> h'.get? b = some u) (hp:h.objs.size <= a) (hn:H a = none):Un fs ex H (upd H a o) h h' where
 keep:=fun b u q _ _ _=>k b u q
 slot:=fun b u q _ _ _=>⟨u.slots,k b u q⟩
 free:=fun b u q n _=>by rw [zn (Nat.ne_of_lt (Nat.lt_of_lt_of_le (Heap.lt_size q) hp))]; exact n
 there:=fun b u q _=>⟨u,k b u q⟩
 tups:=fun b xs q=>by rw [zn (zt q hn)]; exact q
 frzs:=fun b u xs q=>by rw [zn (zt q hn)]; exact q
 tbls:=fun b ps q=>⟨#[],by rw [zn (zt q hn),q]; simp⟩
theorem Un.write (mu:Mut (H x)) (he:e = x \/ H e = some (.own x)) (k:∀ b u,b ≠ e -> h.get? b = some u -> h'.get? b = some u) (heo:∃ u,h'.get? e = some u):Un fs ex H (upd H x o) h h':=by
 have hx:∀ b,H b = none -> b ≠ x:=fun b n z=>by subst z; rw [n] at mu; exact mu
 have hb:∀ b,H b = none -> b ≠ e:=fun b n z=>by
  subst z
  rcases he with r | r
  ·exact hx b n r
  ·rw [n] at r; cases r
 have hm:∀ b u,H b = some u -> ¬ Mut (some u) -> b ≠ x:=fun b u q nm z=>by subst z; rw [q] at mu; exact nm mu
 refine ⟨fun b u q n _ _=>k b u (hb b n) q,fun b u q n _ _=>⟨u.slots,k b u (hb b n) q⟩,fun b u q n _=>by rw [zn (hx b n)]; exact n,fun b u q _=>?_,
  fun b xs q=>by rw [zn (hm b _ q fun z=>z)]; exact q,fun b u xs q=>by rw [zn (hm b _ q fun z=>z)]; exact q,fun b ps q=>⟨#[],by rw [zn (hm b _ q fun z=>z),q]; simp⟩⟩
 by_cases hbe:b = e
 ·subst hbe; exact heo
 ·exact ⟨u,k b u hbe q⟩
end
def trk (h:Heap) (H:Hp):List Addr:=(List.range h.objs.size).filter fun a=>(H a).isSome
def hidT (h:Heap) (H:Hp):Heap:=PySem.W.hideAll h (trk h H)
theorem ZY (h:Heap) (H:Hp):(hidT h H).objs.size = h.objs.size:=PySem.W.hideAll_size _ _
theorem XN {h:Heap} {H:Hp} {b:Addr} {o:Obj} (e:h.get? b = some o) (n:H b = none):(hidT h H).get? b = some o :=
 PySem.W.hideAll_get _ e fun hm=>by
  have q:(H b).isSome = true:=(List.mem_filter.mp hm).2
  rw [n] at q; simp at q
theorem W0 {h:Heap} {H:Hp} {b:Addr} {o:Obj} (e:(hidT h H).get? b = some o):h.get? b = some o /\ H b = none:=by
 have e':h.get? b = some o:=PySem.W.of_hideAll (trk h H) e
 refine ⟨e',?_⟩
 cases q:H b with
 | none=>rfl
 | some x =>
  have hm:b ∈ trk h H:=List.mem_filter.mpr ⟨List.mem_range.mpr (Heap.lt_size e'),by simp [q]⟩
  have z:(hidT h H).get? b = none:=PySem.W.hideAll_none (trk h H) hm
  rw [z] at e; cases e
def W3 (g h:Heap) (L:Addr):List (Addr × Obj):=(List.range h.objs.size).filterMap fun a=>if a = L \/ (g.get? a).isSome = true then none else (h.get? a).map fun o=>(a,o)
def rest (g h:Heap) (L d:Addr):List (Addr × Obj):=(W3 g h L).filter fun p=>decide (p.1 ≠ d)
end L2
namespace L2
open PySem PySem.Spec PyProof.Rows
structure Mod (K:FG7) (mg:Str -> Option Value) (base:Heap):Prop where
 kin:K.In base
 glob:base.Ns mainGlobals mg
 blt:∃ mb,base.Ns builtinsNs mb /\ ∀ x:Str,x ≠ "__name__" -> mb x = bootBuiltins x
 nolimit:base.NoLimit
structure Cx where
 prog:Program
 w:World
 K:FG7
 mg:Str -> Option Value
 base:Heap
 A:Around
 N:List Str
 s₀:Shared
 H₀:Hp
 env:Env
 outer:List Env
 stack:List Env
 ex:List Addr
 fn:Str -> Bool
 calm:Bool
 pn:List (Addr × Obj)
 xe:VS7
def frs (l:List Env):List Addr:=l.filterMap (·.frame)
abbrev Cx.fs (X:Cx):List Addr:=frs X.outer
def Vis (sc:Scope) (x:Str):Prop:=sc.names.lookup x = some .local \/ sc.names.lookup x = some .cell \/ sc.names.lookup x = some .free
def Loc (sc:Scope) (x:Str):Prop:=sc.names.lookup x = some .local \/ sc.names.lookup x = some .cell
def Look (env:Env) (h:Heap) (m:Str -> Option Value) (x:Str) (u:Value):Prop :=
 (env.kindOf x = some .local /\ m x = some u) \/ ((env.kindOf x = some .cell \/ env.kindOf x = some .free) /\ ∃ c,env.cells.lookup x = some c /\ h.IsCell c (some u))
structure Cx.Ok (X:Cx):Prop where
 mod:Mod X.K X.mg X.base
 kind:X.env.scope.kind = .function
 glob:X.env.globals = mainGlobals
 blt:X.env.builtins = builtinsNs
 above:X.s₀.heap.objs.size <= X.env.locals
 inj:∀ x y c,X.env.cells.lookup x = some c -> X.env.cells.lookup y = some c -> x = y
 has:∀ x,(X.env.kindOf x = some .cell \/ X.env.kindOf x = some .free) -> ∃ c,X.env.cells.lookup x = some c
 cab:∀ x c,X.fn x = true -> X.env.cells.lookup x = some c -> X.s₀.heap.objs.size <= c
 hd:X.calm = true -> X.A.handled = none
 frames:X.A.frames = some X.stack
 stk:X.stack = X.outer \/ (X.stack = X.env :: X.outer /\ X.env.frame = some X.env.locals)
 exf:∀ b ∈ X.ex,b ≠ X.env.locals /\ ∀ x c,X.env.cells.lookup x = some c -> c ≠ b
 bs:∀ b o,X.base.get? b = some o -> X.s₀.heap.get? b = some o /\ X.H₀ b = none
 bsz:X.base.objs.size <= X.s₀.heap.objs.size
 noex:∀ b o,X.base.get? b = some o -> b ∉ X.ex
 exfs:∀ b ∈ X.ex,b ∉ X.fs
 funs:X.s₀.heap.FunFrames X.base X.outer
 frf:∀ b ∈ X.fs,X.H₀ b = none
structure Inv (X:Cx) (pins:List (Addr × Obj)) (σ:List (Option V)) (H:Hp) (s:Shared):Prop where
 ok:X.Ok
 os:s.os = X.s₀.os
 bare:AllBare s.gens
 base:Un X.fs X.ex X.H₀ H X.s₀.heap s.heap
 loc:∃ m,s.heap.Ns X.env.locals m /\ ∀ (i:Nat) (x:Str) (v:V),X.N[i]? = some x -> σ[i]? = some (some v) -> Vis X.env.scope x -> ∃ u,RelV v u /\ Look X.env s.heap m x u
 cell:∀ x c,X.env.cells.lookup x = some c -> ∃ v,s.heap.IsCell c v
 free:H X.env.locals = none
 freeC:∀ x c,X.env.cells.lookup x = some c -> H c = none
 pin:∀ p ∈ X.pn ++ pins,s.heap.get? p.1 = some p.2 /\ H p.1 = none /\ p.1 ≠ X.env.locals /\ p.1 ∉ X.fs /\ ∀ v,p.2.data ≠ .cell v
 hok:HOk X.prog X.w H s.heap
 len:σ.length = X.N.length
section
variable {X:Cx} {pins:List (Addr × Obj)} {σ:List (Option V)} {H H':Hp} {s:Shared} {h':Heap}
theorem Cx.Ok.nofr (ok:X.Ok) {b:Addr} {o:Obj} (e:X.base.get? b = some o):b ∉ X.fs:=fun hb=>by
 have:=(ok.funs.mem hb).1
 rw [e] at this; cases this
theorem Inv.bs (I:Inv X pins σ H s):∀ b o,X.base.get? b = some o -> s.heap.get? b = some o /\ H b = none:=fun b o e =>
 ⟨I.base.keep b o (I.ok.bs b o e).1 (I.ok.bs b o e).2 (I.ok.nofr e) (I.ok.noex b o e),I.base.free b o (I.ok.bs b o e).1 (I.ok.bs b o e).2 (I.ok.noex b o e)⟩
theorem Inv.bk (I:Inv X pins σ H s):∀ b o,X.base.get? b = some o -> s.heap.get? b = some o:=fun b o e=>(I.bs b o e).1
theorem Inv.mod (I:Inv X pins σ H s):Mod X.K X.mg X.base:=I.ok.mod
theorem Inv.kIn (I:Inv X pins σ H s):X.K.In s.heap:=I.ok.mod.kin.keeps I.bk
theorem Inv.lt (I:Inv X pins σ H s):X.env.locals < s.heap.objs.size:=let ⟨_,hn,_⟩:=I.loc; hn.lt
theorem Inv.sz (I:Inv X pins σ H s):X.s₀.heap.objs.size <= s.heap.objs.size:=Nat.le_trans I.ok.above (Nat.le_of_lt I.lt)
theorem Inv.nofs (I:Inv X pins σ H s) {a:Addr} (h:s.heap.objs.size <= a):a ∉ X.fs:=fun hb=>by
 obtain ⟨_,o,ho,_⟩:=I.ok.funs.mem hb
 exact absurd (Nat.lt_of_lt_of_le (Heap.lt_size ho) (Nat.le_trans I.sz h)) (Nat.lt_irrefl _)
theorem Inv.cne (I:Inv X pins σ H s):∀ x c,X.env.cells.lookup x = some c -> c ≠ X.env.locals:=fun x c e z=>by
 obtain ⟨v,o,ho,hd⟩:=I.cell x c e
 obtain ⟨m,⟨o',es,ep,ho',hd',_⟩,_⟩:=I.loc
 rw [z,ho'] at ho; cases ho; rw [hd'] at hd; cases hd
theorem Inv.funs (I:Inv X pins σ H s):s.heap.FunFrames X.base X.outer:=by
 have all:∀ (l:List Env),(∀ b ∈ frs l,b ∈ X.fs) -> X.s₀.heap.FunFrames X.base l -> s.heap.FunFrames X.base l:=by
  intro l
  induction l with
  | nil=>intro _ _; trivial
  | cons env r ih =>
   intro hs hl
   obtain ⟨hk,⟨L,o,hf,hn,ho,hd⟩,hr⟩:=hl
   have hL:L ∈ X.fs:=hs L (by unfold frs; rw [List.filterMap_cons,hf]; exact List.mem_cons_self)
   obtain ⟨sl,e⟩:=I.base.slot L o ho (I.ok.frf L hL) hL fun z=>I.ok.exfs L z hL
   exact ⟨hk,⟨L,_,hf,hn,e,hd⟩,ih (fun b hb=>hs b (by unfold frs; rw [List.filterMap_cons,hf]; exact List.mem_cons_of_mem _ hb)) hr⟩
 exact all X.outer (fun _ hb=>hb) I.ok.funs
theorem Inv.stack (I:Inv X pins σ H s):s.heap.FunFrames X.base X.stack:=by
 rcases I.ok.stk with e | ⟨e,hf⟩
 ·rw [e]; exact I.funs
 ·rw [e]
  obtain ⟨m,hn,_⟩:=I.loc
  refine .cons (by rw [I.ok.kind]; decide) hf hn ?_ I.funs
  exact Heap.get?_none_of_le (Nat.le_trans I.ok.bsz I.ok.above)
theorem Inv.stkSub (I:Inv X pins σ H s):∀ b ∈ frs X.stack,b ∈ X.env.locals :: X.fs:=fun b hb=>by
 rcases I.ok.stk with e | ⟨e,hf⟩
 ·rw [e] at hb; exact List.mem_cons_of_mem _ hb
 ·rw [e] at hb
  unfold frs at hb
  rw [List.filterMap_cons,hf] at hb
  exact hb
theorem Inv.stkFree (I:Inv X pins σ H s):∀ b ∈ frs X.stack,H b = none:=fun b hb=>by
 rcases List.mem_cons.mp (I.stkSub b hb) with e | hb
 ·rw [e]; exact I.free
 ·obtain ⟨_,o,ho,_⟩:=I.ok.funs.mem hb
  exact I.base.free b o ho (I.ok.frf b hb) fun z=>I.ok.exfs b z hb
theorem Inv.step {g':Array GenState} {t':Nat} {d':Drawn} {ch:List Addr} (I:Inv X pins σ H s)
  (hch:∀ b ∈ ch,(b ∈ X.ex \/ X.s₀.heap.objs.size <= b) /\ b ≠ X.env.locals /\ (∀ x c,X.env.cells.lookup x = some c -> c ≠ b) /\ ∀ p ∈ X.pn ++ pins,p.1 ≠ b)
  (keep:∀ b o,b ≠ X.env.locals -> b ∉ X.fs -> b ∉ ch -> s.heap.get? b = some o -> H b = none -> h'.get? b = some o)
  (slot:∀ b o,b ≠ X.env.locals -> b ∈ X.fs -> b ∉ ch -> s.heap.get? b = some o -> H b = none -> ∃ sl,h'.get? b = some { o with slots:=sl }) (free:∀ b o,b ∉ ch -> s.heap.get? b = some o -> H b = none -> H' b = none)
  (there:∀ b o,b ∉ ch -> s.heap.get? b = some o -> ∃ o',h'.get? b = some o')
  (tups:∀ b xs,H b = some (.tup xs) -> H' b = some (.tup xs)) (frzs:∀ b o u,H b = some (.frz o u) -> H' b = some (.frz o u)) (tbls:∀ b ps,H b = some (.tbl ps) -> ∃ more,H' b = some (.tbl (ps ++ more)))
  (ns:∀ m,s.heap.Ns X.env.locals m -> h'.Ns X.env.locals m) (hok:HOk X.prog X.w H' h') (hg:AllBare g') :
  Inv X pins σ H' { s with heap:=h',gens:=g',drawn:=d',toks:=t' }:=by
 have neL:∀ b o,X.s₀.heap.get? b = some o -> b ≠ X.env.locals:=fun b o e=>Nat.ne_of_lt (Nat.lt_of_lt_of_le (Heap.lt_size e) I.ok.above)
 have neC:∀ b o,X.s₀.heap.get? b = some o -> b ∉ X.ex -> b ∉ ch:=fun b o e hx hb=>by
  rcases (hch b hb).1 with z | z
  ·exact hx z
  ·exact absurd (Nat.lt_of_lt_of_le (Heap.lt_size e) z) (Nat.lt_irrefl _)
 have cellK:∀ x c,X.env.cells.lookup x = some c -> ∀ v,s.heap.IsCell c v -> h'.IsCell c v:=fun x c e v ⟨o,ho,hd⟩=>by
  have nch:c ∉ ch:=fun z=>(hch c z).2.2.1 x c e rfl
  by_cases hc:c ∈ X.fs
  ·obtain ⟨sl,q⟩:=slot c o (I.cne x c e) hc nch ho (I.freeC x c e)
   exact ⟨_,q,hd⟩
  ·exact ⟨o,keep c o (I.cne x c e) hc nch ho (I.freeC x c e),hd⟩
 refine ⟨I.ok,I.os,hg,⟨fun b o e n hb hx=>?_,fun b o e n hb hx=>?_,fun b o e n hx=>?_,fun b o e hx=>?_,fun b xs e=>tups b xs (I.base.tups b xs e),fun b o xs e=>frzs b o xs (I.base.frzs b o xs e),fun b ps e=>?_⟩,?_,fun x c e=>?_,?_,fun x c e=>?_,fun p hp=>?_,hok,I.len⟩
 ·exact keep b o (neL b o e) hb (neC b o e hx) (I.base.keep b o e n hb hx) (I.base.free b o e n hx)
 ·obtain ⟨sl,e1⟩:=I.base.slot b o e n hb hx
  obtain ⟨sl',e2⟩:=slot b _ (neL b o e) hb (neC b o e hx) e1 (I.base.free b o e n hx)
  exact ⟨sl',e2⟩
 ·obtain ⟨o',e1⟩:=I.base.there b o e hx
  exact free b o' (neC b o e hx) e1 (I.base.free b o e n hx)
 ·obtain ⟨o',e1⟩:=I.base.there b o e hx
  exact there b o' (neC b o e hx) e1
 ·obtain ⟨m1,e1⟩:=I.base.tbls b ps e
  obtain ⟨m2,e2⟩:=tbls b _ e1
  exact ⟨m1 ++ m2,by rw [e2,Array.append_assoc]⟩
 ·obtain ⟨m,hn,hl⟩:=I.loc
  refine ⟨m,ns m hn,fun i x v e1 e2 e3=>?_⟩
  obtain ⟨u,r,l⟩:=hl i x v e1 e2 e3
  refine ⟨u,r,?_⟩
  rcases l with l | ⟨k,c,e,z⟩
  ·exact .inl l
  ·exact .inr ⟨k,c,e,cellK x c e _ z⟩
 ·obtain ⟨v,z⟩:=I.cell x c e
  exact ⟨v,cellK x c e v z⟩
 ·obtain ⟨m,⟨o,_,_,ho,_⟩,_⟩:=I.loc
  exact free _ o (fun z=>(hch _ z).2.1 rfl) ho I.free
 ·obtain ⟨v,o,ho,hd⟩:=I.cell x c e
  exact free c o (fun z=>(hch c z).2.2.1 x c e rfl) ho (I.freeC x c e)
 ·obtain ⟨e,n,ne,nf,d⟩:=I.pin p hp
  have nch:p.1 ∉ ch:=fun z=>(hch p.1 z).2.2.2 p hp rfl
  exact ⟨keep p.1 p.2 ne nf nch e n,free p.1 p.2 nch e n,ne,nf,d⟩
theorem Inv.un {t':Nat} (I:Inv X pins σ H s) (u:Un X.fs [] H H' s.heap h') (hok:HOk X.prog X.w H' h'):Inv X pins σ H' { s with heap:=h',toks:=t' }:=by
 obtain ⟨m,⟨o,es,ep,ho,r⟩,_⟩:=id I.loc
 obtain ⟨sl,hL⟩:=u.any ho I.free (by simp)
 exact I.step (g':=s.gens) (d':=s.drawn) (ch:=[]) (fun _ z=>nomatch z) (fun b o _ hb _ e n=>u.keep b o e n hb (by simp)) (fun b o _ hb _ e n=>u.slot b o e n hb (by simp)) (fun b o _ e n=>u.free b o e n (by simp)) (fun b o _ e=>u.there b o e (by simp)) u.tups u.frzs u.tbls (fun m' hm=>by
  obtain ⟨o',es',ep',ho',r'⟩:=hm
  rw [ho] at ho'; cases ho'
  exact ⟨_,es',ep',hL,r'⟩) hok I.bare
theorem Inv.call {g':Array GenState} {t':Nat} {d':Drawn} {ch:List Addr} (I:Inv X pins σ H s) (u:Un (frs X.stack) ch H H' s.heap h') (hok:HOk X.prog X.w H' h') (hg:AllBare g')
  (hch:∀ b ∈ ch,(b ∈ X.ex \/ X.s₀.heap.objs.size <= b) /\ b ≠ X.env.locals /\ (∀ x c,X.env.cells.lookup x = some c -> c ≠ b) /\ ∀ p ∈ X.pn ++ pins,p.1 ≠ b) :
  Inv X pins σ H' { s with heap:=h',gens:=g',drawn:=d',toks:=t' }:=by
 obtain ⟨m,⟨o,es,ep,ho,r⟩,_⟩:=id I.loc
 obtain ⟨sl,hL⟩:=u.any ho I.free fun z=>(hch _ z).2.1 rfl
 exact I.step (ch:=ch) hch (fun b o hL hb hc e n=>u.keep b o e n (fun z=>(List.mem_cons.mp (I.stkSub b z)).elim hL hb) hc) (fun b o _ _ hc e n=>u.any e n hc) (fun b o hc e n=>u.free b o e n hc) (fun b o hc e=>u.there b o e hc) u.tups u.frzs u.tbls (fun m' hm=>by
  obtain ⟨o',es',ep',ho',r'⟩:=hm
  rw [ho] at ho'; cases ho'
  exact ⟨_,es',ep',hL,r'⟩) hok hg
theorem Inv.turned {t':Nat} {it:Addr} (I:Inv X pins σ H s) (k:∀ b o,b ≠ it -> s.heap.get? b = some o -> h'.get? b = some o) (hn:H it = none) (hL:it ≠ X.env.locals)
  (h1:it ∈ X.ex \/ X.s₀.heap.objs.size <= it) (h2:∀ x c,X.env.cells.lookup x = some c -> c ≠ it) (h3:∀ p ∈ X.pn ++ pins,p.1 ≠ it):Inv X pins σ H { s with heap:=h',toks:=t' }:=by
 have nit:∀ b u,H b = some u -> b ≠ it:=fun b u e z=>by rw [z,hn] at e; cases e
 refine I.step (g':=s.gens) (d':=s.drawn) (ch:=[it]) (fun b hb=>?_) (fun b o _ _ hc e _=>k b o (fun z=>hc (by simp [z])) e) (fun b o _ _ hc e _=>⟨o.slots,k b o (fun z=>hc (by simp [z])) e⟩) (fun _ _ _ _ n=>n)
  (fun b o hc e=>⟨o,k b o (fun z=>hc (by simp [z])) e⟩) (fun _ _ e=>e) (fun _ _ _ e=>e) (fun b ps e=>⟨#[],by rw [e]; simp⟩) (fun m hm=>?_) (fun b u e=>?_) I.bare
 ·have e:b = it:=by simpa using hb
  subst e
  exact ⟨h1,hL,h2,h3⟩
 ·obtain ⟨o,es,ep,ho,r⟩:=hm
  exact ⟨o,es,ep,k _ o (Ne.symm hL) ho,r⟩
 ·refine (I.hok b u e).stay (fun c v hc q=>k c v ?_ q) (fun _ q=>q) fun _ _ q=>q
  rcases hc with z | z
  ·rw [z]; exact nit b u e
  ·exact nit c _ z
theorem Inv.tok (I:Inv X pins σ H s) (t:Nat):Inv X pins σ H { s with toks:=t }:=I.un (h':=s.heap) (t':=t) Un.refl I.hok
theorem Inv.kept {t':Nat} (I:Inv X pins σ H s) (k:∀ b u,s.heap.get? b = some u -> h'.get? b = some u):Inv X pins σ H { s with heap:=h',toks:=t' }:=I.un (Un.kept k) (I.hok.kept k)
theorem Inv.laid {a:Addr} {o:HO} {t':Nat} (I:Inv X pins σ H s) (k:∀ b u,s.heap.get? b = some u -> h'.get? b = some u) (hp:s.heap.objs.size <= a) (new:z6 X.prog X.w (upd H a o) h' a o) :
  Inv X pins σ (upd H a o) { s with heap:=h',toks:=t' }:=I.un (Un.laid k hp (I.hok.fresh hp)) (I.hok.laid k hp new)
theorem Inv.write {x e:Addr} {o:HO} {t':Nat} (I:Inv X pins σ H s) (mu:Mut (H x)) (he:e = x \/ H e = some (.own x)) (k:∀ b u,b ≠ e -> s.heap.get? b = some u -> h'.get? b = some u) (heo:∃ u,h'.get? e = some u)
  (new:z6 X.prog X.w (upd H x o) h' x o):Inv X pins σ (upd H x o) { s with heap:=h',toks:=t' }:=I.un (Un.write mu he k heo) (I.hok.write mu he k heo new)
theorem Inv.pins_of {pins':List (Addr × Obj)} (I:Inv X pins σ H s) (h:∀ p ∈ pins',s.heap.get? p.1 = some p.2 /\ H p.1 = none /\ p.1 ≠ X.env.locals /\ p.1 ∉ X.fs /\ ∀ v,p.2.data ≠ .cell v):Inv X pins' σ H s :=
 ⟨I.ok,I.os,I.bare,I.base,I.loc,I.cell,I.free,I.freeC,fun p hp=>(List.mem_append.mp hp).elim (fun z=>I.pin p (List.mem_append_left _ z)) (h p),I.hok,I.len⟩
theorem jB {N:List Str} (hN:N.Nodup) {i j:Nat} {x:Str} (a:N[i]? = some x) (b:N[j]? = some x):i = j:=by
 obtain ⟨h1,e1⟩:=List.getElem?_eq_some_iff.mp a
 obtain ⟨h2,e2⟩:=List.getElem?_eq_some_iff.mp b
 exact (List.getElem_inj hN).mp (e1.trans e2.symm)
theorem ZZ {M:Model} {A:Around} {E:VS7} {i:Nat} {x:Str} {v:V} {u:Value} {Q:Unit -> Shared -> Prop} (I:Inv X pins σ H s) (hN:X.N.Nodup) (hi:X.N[i]? = some x) (hx:Loc X.env.scope x) (r:RelV v u)
  (h:∀ s',Inv X pins (σ.set i (some v)) H s' -> (∃ a,Heap.SameBut a s.heap s'.heap /\ (a = X.env.locals \/ X.env.cells.lookup x = some a)) -> Q () s') (hf:X.fn x = true \/ X.env.scope.names.lookup x = some .local :=by first | exact .inl rfl | exact .inr rfl | assumption):wpAny M A (storeName X.env x u) Q E s:=by
 obtain ⟨m,hn,hl⟩:=id I.loc
 have hcls:(X.env.scope.kind == .class || (X.env.scope.kind == .module && X.env.locals != X.env.globals)) = false:=by rw [I.ok.kind]; rfl
 have hiσ:i < σ.length:=by rw [I.len]; exact (List.getElem?_eq_some_iff.mp hi).1
 have cne:=I.cne
 have tracked:∀ {a:Addr} {h':Heap},(∃ o,s.heap.get? a = some o /\ H a = none) -> Heap.SameBut a s.heap h' -> HOk X.prog X.w H h':=fun {a h'} ha hs b ob e=>by
  obtain ⟨_,_,hfree⟩:=ha
  refine (I.hok b ob e).stay (fun c w' hc q=>(hs.2 c ?_).trans q) (fun _ q=>q) fun _ _ q=>q
  rintro rfl
  rcases hc with rfl | hc
  ·rw [hfree] at e; cases e
  ·rw [hfree] at hc; cases hc
 rcases hx with hk | hk
 ·refine wpAny_storeName_local hk hn (fun h' hn' hs=>?_) hcls
  obtain ⟨oL,_,_,hoL,_⟩:=id hn
  refine h _ ⟨I.ok,I.os,I.bare,⟨fun b o e n hb hx=>?_,fun b o e n hb hx=>?_,I.base.free,fun b o e hx=>?_,I.base.tups,I.base.frzs,I.base.tbls⟩,⟨_,hn',fun j y v' e1 e2 e3=>?_⟩,fun y c e=>?_,I.free,I.freeC,fun p hp=>?_,tracked ⟨oL,hoL,I.free⟩ hs,by simpa using I.len⟩ ⟨_,hs,.inl rfl⟩
  ·exact (hs.2 b (Nat.ne_of_lt (Nat.lt_of_lt_of_le (Heap.lt_size e) I.ok.above))).trans (I.base.keep b o e n hb hx)
  ·obtain ⟨sl,e1⟩:=I.base.slot b o e n hb hx
   exact ⟨sl,(hs.2 b (Nat.ne_of_lt (Nat.lt_of_lt_of_le (Heap.lt_size e) I.ok.above))).trans e1⟩
  ·obtain ⟨o',e1⟩:=I.base.there b o e hx
   exact ⟨o',(hs.2 b (Nat.ne_of_lt (Nat.lt_of_lt_of_le (Heap.lt_size e) I.ok.above))).trans e1⟩
  ·by_cases hj:j = i
   ·subst hj
    rw [hi] at e1; cases e1
    rw [List.getElem?_set_self hiσ] at e2
    cases e2
    exact ⟨u,r,.inl ⟨hk,by simp⟩⟩
   ·rw [List.getElem?_set_ne (Ne.symm hj)] at e2
    obtain ⟨u',r',q⟩:=hl j y v' e1 e2 e3
    refine ⟨u',r',?_⟩
    rcases q with ⟨k,e⟩ | ⟨k,c,e,z⟩
    ·refine .inl ⟨k,?_⟩
     have:y ≠ x:=fun e=>hj (jB hN e1 (e ▸ hi))
     simp [this,e]
    ·exact .inr ⟨k,c,e,z.sameBut hs (cne y c e)⟩
  ·obtain ⟨w',z⟩:=I.cell y c e
   exact ⟨w',z.sameBut hs (cne y c e)⟩
  ·obtain ⟨e,n,ne,nf,d⟩:=I.pin p hp
   exact ⟨(hs.2 p.1 ne).trans e,n,ne,nf,d⟩
 ·have hfn:X.fn x = true:=by
   rcases hf with z | z
   ·exact z
   ·rw [z] at hk; cases hk
  obtain ⟨c,hc⟩:=I.ok.has x (.inl hk)
  obtain ⟨w',z⟩:=I.cell x c hc
  refine wpAny_storeName_cell I.ok.kind hk hc z (fun h' hc' hs=>?_)
  obtain ⟨oc,hoc,hocd⟩:=id z
  refine h { s with heap:=h' } ⟨I.ok,I.os,I.bare,⟨fun b o e n hb hx=>?_,fun b o e n hb hx=>?_,I.base.free,fun b o e hx=>?_,I.base.tups,I.base.frzs,I.base.tbls⟩,⟨m,hn.sameBut hs (Ne.symm (cne x c hc)),fun j y v' e1 e2 e3=>?_⟩,fun y c' e=>?_,I.free,I.freeC,fun p hp=>?_,tracked ⟨oc,hoc,I.freeC x c hc⟩ hs,by simpa using I.len⟩ ⟨c,hs,.inr hc⟩
  ·exact (hs.2 b (Nat.ne_of_lt (Nat.lt_of_lt_of_le (Heap.lt_size e) (I.ok.cab x c hfn hc)))).trans (I.base.keep b o e n hb hx)
  ·obtain ⟨sl,e1⟩:=I.base.slot b o e n hb hx
   exact ⟨sl,(hs.2 b (Nat.ne_of_lt (Nat.lt_of_lt_of_le (Heap.lt_size e) (I.ok.cab x c hfn hc)))).trans e1⟩
  ·obtain ⟨o',e1⟩:=I.base.there b o e hx
   exact ⟨o',(hs.2 b (Nat.ne_of_lt (Nat.lt_of_lt_of_le (Heap.lt_size e) (I.ok.cab x c hfn hc)))).trans e1⟩
  ·by_cases hj:j = i
   ·subst hj
    rw [hi] at e1; cases e1
    rw [List.getElem?_set_self hiσ] at e2
    cases e2
    exact ⟨u,r,.inr ⟨.inl hk,c,hc,hc'⟩⟩
   ·rw [List.getElem?_set_ne (Ne.symm hj)] at e2
    obtain ⟨u',r',q⟩:=hl j y v' e1 e2 e3
    refine ⟨u',r',?_⟩
    rcases q with q | ⟨k,c',e,z'⟩
    ·exact .inl q
    ·refine .inr ⟨k,c',e,z'.sameBut hs ?_⟩
     rintro rfl
     exact hj (jB hN e1 (I.ok.inj _ _ _ e hc ▸ hi))
  ·by_cases hcc:c' = c
   ·subst hcc; exact ⟨_,hc'⟩
   ·obtain ⟨w2,z2⟩:=I.cell y c' e
    exact ⟨w2,z2.sameBut hs hcc⟩
  ·obtain ⟨e,n,ne,nf,d⟩:=I.pin p hp
   refine ⟨(hs.2 p.1 ?_).trans e,n,ne,nf,d⟩
   intro q
   rw [q,hoc] at e
   have q':oc = p.2:=Option.some.inj e
   exact d w' (by rw [← q']; exact hocd)
theorem tT {M:Model} {A:Around} {E:VS7} {i:Nat} {x:Str} {v:V} {u:Value} {Q:Unit -> Shared -> Prop} (I:Inv X pins σ H s) (hN:X.N.Nodup) (hi:X.N[i]? = some x) (hx:Loc X.env.scope x) (r:RelV v u)
  (h:∀ s',Inv X pins (σ.set i (some v)) H s' -> Q () s') (hf:X.fn x = true \/ X.env.scope.names.lookup x = some .local :=by first | exact .inl rfl | exact .inr rfl | assumption):wpAny M A (storeName X.env x u) Q E s :=
 ZZ I hN hi hx r (fun s' I' _=>h s' I') hf
theorem Inv.call' {s':Shared} {ch:List Addr} (I:Inv X pins σ H s) (ho:s'.os = s.os) (u:Un (frs X.stack) ch H H' s.heap s'.heap) (hok:HOk X.prog X.w H' s'.heap) (hg:AllBare s'.gens)
  (hch:∀ b ∈ ch,(b ∈ X.ex \/ X.s₀.heap.objs.size <= b) /\ b ≠ X.env.locals /\ (∀ x c,X.env.cells.lookup x = some c -> c ≠ b) /\ ∀ p ∈ X.pn ++ pins,p.1 ≠ b):Inv X pins σ H' s':=by
 obtain ⟨h',g',d',t',o'⟩:=s'
 have e:o' = s.os:=ho
 subst e
 exact I.call (g':=g') (t':=t') (d':=d') u hok hg hch
end
abbrev XK:=Value -> Option Addr -> Hp -> Prop
abbrev St:=List (Option V)
abbrev VK:=V -> Hp -> Prop
abbrev TE:=St -> Hp -> VK -> Prop
abbrev TT:=St -> Hp -> (Bool -> Hp -> Prop) -> Prop
abbrev TA:=St -> Hp -> (List V -> Hp -> Prop) -> Prop
structure Ends where
 nx:St -> Hp -> Prop
 rt:VK
 bk:St -> Hp -> Prop:=fun _ _=>False
 ct:St -> Hp -> Prop:=fun _ _=>False
abbrev TS:=Ends -> St -> Hp -> Prop
def EP (X:Cx) (pins:List (Addr × Obj)) (σ:St) (Q:VK) (u:Value) (s':Shared):Prop:=∃ v H',Inv X pins σ H' s' /\ RelV v u /\ Q v H'
def TP (X:Cx) (pins:List (Addr × Obj)) (σ:St) (Q:Bool -> Hp -> Prop) (b:Bool) (s':Shared):Prop:=∃ H',Inv X pins σ H' s' /\ Q b H'
def AP (X:Cx) (pins:List (Addr × Obj)) (σ:St) (Q:List V -> Hp -> Prop) (us:List Value) (s':Shared):Prop:=∃ vs H',Inv X pins σ H' s' /\ Vals vs us /\ Q vs H'
def SP (X:Cx) (pins:List (Addr × Obj)) (D:Ends) (f:Flow) (s':Shared):Prop :=
 match f with
 | .next=>∃ σ' H',Inv X pins σ' H' s' /\ D.nx σ' H'
 | .brk=>∃ σ' H',Inv X pins σ' H' s' /\ D.bk σ' H'
 | .cont=>∃ σ' H',Inv X pins σ' H' s' /\ D.ct σ' H'
 | .ret u=>∃ v σ' H',Inv X pins σ' H' s' /\ RelV v u /\ D.rt v H'
def PE (X:Cx) (e:Expr) (t:TE):Prop :=
 ∀ (pins:List (Addr × Obj)) (s:Shared) (σ:St) (H:Hp) (Q:VK),Inv X pins σ H s -> t σ H Q -> wpAny (model X.prog X.w) X.A (eval e X.env) (EP X pins σ Q) X.xe s
def PT (X:Cx) (e:Expr) (t:TT):Prop :=
 ∀ (pins:List (Addr × Obj)) (s:Shared) (σ:St) (H:Hp) (Q:Bool -> Hp -> Prop),Inv X pins σ H s -> t σ H Q -> wpAny (model X.prog X.w) X.A (isTrue e X.env (eval e X.env)) (TP X pins σ Q) X.xe s
def PW (X:Cx) (e:Expr) (t:TT):Prop :=
 ∀ (whole:Sem Value) (pins:List (Addr × Obj)) (s:Shared) (σ:St) (H:Hp) (Q:Bool -> Hp -> Prop),Inv X pins σ H s -> t σ H Q -> wpAny (model X.prog X.w) X.A (isTrue e X.env whole) (TP X pins σ Q) X.xe s
theorem PW.pt {X:Cx} {e:Expr} {t:TT} (h:PW X e t):PT X e t:=h _
def PA (X:Cx) (es:List Expr) (t:TA):Prop :=
 ∀ (pos:Pos) (pins:List (Addr × Obj)) (s:Shared) (σ:St) (H:Hp) (Q:List V -> Hp -> Prop),Inv X pins σ H s -> t σ H Q -> wpAny (model X.prog X.w) X.A (spliced (backTo pos (starEach es X.env))) (AP X pins σ Q) X.xe s
def PS (X:Cx) (st:Stmt) (t:TS):Prop :=
 ∀ (pins:List (Addr × Obj)) (s:Shared) (σ:St) (H:Hp) (D:Ends),Inv X pins σ H s -> t D σ H -> wpAny (model X.prog X.w) X.A (exec st X.env) (SP X pins D) X.xe s
def PSs (X:Cx) (st:List Stmt) (t:TS):Prop :=
 ∀ (pins:List (Addr × Obj)) (s:Shared) (σ:St) (H:Hp) (D:Ends),Inv X pins σ H s -> t D σ H -> wpAny (model X.prog X.w) X.A (execs st X.env) (SP X pins D) X.xe s
theorem thn {α:Type} {t:Sem α} {Q Q':α -> Shared -> Prop} {M:Model} {A:Around} {E:VS7} {s:Shared} (h:wpAny M A t Q E s) (hQ:∀ a s,Q a s -> Q' a s):wpAny M A t Q' E s:=wpAny_mono h hQ fun _ _ x=>x
end L2
namespace L2
open PySem PySem.Spec PyProof.Rows
section
variable {X:Cx}
def tVar (i:Nat):TE:=fun σ H Q=>∃ v,σ[i]? = some (some v) /\ Q v H
def tC (v:V):TE:=fun _ H Q=>Q v H
theorem VZ {i:Nat} {x:Str} {pos:Pos} (hN:X.N[i]? = some x) (hv:Vis X.env.scope x) (hd:(x == ("__debug__":Str)) = false:=by decide) (hcd:(x == ("__classdict__":Str)) = false:=by decide):PE X (.Name x pos) (tVar i):=by
 intro pins s σ H Q I h
 obtain ⟨v,e,h⟩:=h
 obtain ⟨m,hn,hl⟩:=I.loc
 obtain ⟨u,r,l⟩:=hl i x v hN e hv
 have fin:EP X pins σ Q u s:=⟨v,H,I,r,h⟩
 rcases l with ⟨hk,hm⟩ | ⟨hk,c,hc,hcell⟩
 ·exact wpAny_Name (wpAny_loadName_local I.ok.kind hk hn hm fin) hd
 ·rcases hk with hk | hk
  ·exact wpAny_Name (wpAny_loadName_cell I.ok.kind hk hc hcell fin) hd
  ·exact wpAny_Name (wpAny_loadName_free I.ok.kind hk hc hcell fin hcd) hd
theorem zi {i j pos}:PE X (.Constant (.int i) j pos) (tC (.int i)):=fun _ _ _ H _ I h=>wpAny_Constant_int ⟨.int i,H,I.tok _,⟨_,rfl⟩,h⟩
theorem wH {b j pos}:PE X (.Constant (.bool b) j pos) (tC (.bl b)):=fun _ _ _ H _ I h=>Constant_bool ⟨.bl b,H,I,rfl,h⟩
theorem jC {j pos}:PE X (.Constant .none j pos) (tC .non):=fun _ _ _ H _ I h=>Constant_none ⟨.non,H,I,rfl,h⟩
def Gl (X:Cx) (x:Str):Prop:=X.env.kindOf x = some .globalImplicit
theorem Z0 {E:VS7} {pins:List (Addr × Obj)} {s:Shared} {σ:St} {H:Hp} {x:Str} {u:Value} {pos:Pos} {Q:VS7} (I:Inv X pins σ H s) (hg:Gl X x) (hm:X.mg x = some u) (h:Q u s)
  (hd:(x == ("__debug__":Str)) = false:=by decide):wpAny (model X.prog X.w) X.A (eval (.Name x pos) X.env) Q E s :=
 Calls.Name_function_global I.ok.kind hg (Calls.loadGlobal_global (by rw [I.ok.glob]; exact I.mod.glob.keeps I.bk) hm h) hd
theorem v8 {E:VS7} {pins:List (Addr × Obj)} {s:Shared} {σ:St} {H:Hp} {x:Str} {u:Value} {pos:Pos} {Q:VS7} (I:Inv X pins σ H s) (hg:Gl X x) (hm:X.mg x = none) (hv:bootBuiltins x = some u) (h:Q u s)
  (hn:x ≠ "__name__":=by decide) (hd:(x == ("__debug__":Str)) = false:=by decide):wpAny (model X.prog X.w) X.A (eval (.Name x pos) X.env) Q E s:=by
 obtain ⟨mb,h1,h2⟩:=I.mod.blt
 exact Calls.Name_function_global I.ok.kind hg (Calls.loadGlobal_builtin (by rw [I.ok.glob]; exact I.mod.glob.keeps I.bk) hm (by rw [I.ok.blt]; exact h1.keeps I.bk) ((h2 x hn).trans hv) h) hd
theorem ve {x:Str} {v:V} {u:Value} {pos:Pos} (hg:Gl X x) (hm:X.mg x = some u) (r:RelV v u) (hd:(x == ("__debug__":Str)) = false:=by decide):PE X (.Name x pos) (tC v) :=
 fun _ _ _ H _ I h=>Z0 I hg hm ⟨v,H,I,r,h⟩ hd
theorem W4 {x:Str} {v:V} {u:Value} {pos:Pos} (hg:Gl X x) (hm:X.mg x = none) (hv:bootBuiltins x = some u) (r:RelV v u) (hn:x ≠ "__name__":=by decide) (hd:(x == ("__debug__":Str)) = false:=by decide):PE X (.Name x pos) (tC v) :=
 fun _ _ _ H _ I h=>v8 I hg hm hv ⟨v,H,I,r,h⟩ hn hd
variable {a b:Expr} {ta tb:TE} {pos:Pos}
def PC (X:Cx) (op:CmpOp) (a b:Expr) (t:TE):Prop :=
 ∀ (pins:List (Addr × Obj)) (s:Shared) (σ:St) (H:Hp) (Q:VK),Inv X pins σ H s -> t σ H Q →
  wpAny (model X.prog X.w) X.A (eval a X.env) (fun v s₁=>wpAny (model X.prog X.w) X.A (eval b X.env) (fun u s₂=>wpAny (model X.prog X.w) X.A (compareOp op v u) (EP X pins σ Q) X.xe s₂) X.xe s₁) X.xe s
theorem jD (b:Expr) {op:CmpOp} (h:op ≠ .In) (h2:op ≠ .NotIn):behindInMarks op b = false:=by
 have e1:(op == CmpOp.In) = false:=by cases op <;> first | rfl | exact absurd rfl h
 have e2:(op == CmpOp.NotIn) = false:=by cases op <;> first | rfl | exact absurd rfl h2
 cases b <;> simp [behindInMarks,e1,e2]
def tIsN (ta:TE):TE:=fun σ H Q=>ta σ H fun x H1=>Q (.bl (decide (x = .non))) H1
def U5 (ta:TE):TE:=fun σ H Q=>ta σ H fun x H1=>Q (.bl (!decide (x = .non))) H1
theorem RelV.none_iff {x:V} {v:Value} (r:RelV x v):(v == Value.none) = decide (x = .non):=by
 cases x with
 | non=>cases r; rfl
 | bl _=>cases r; rfl
 | int _=>obtain ⟨t,rfl⟩:=r; rfl
 | str _=>obtain ⟨t,rfl⟩:=r; rfl
 | byt _=>obtain ⟨t,rfl⟩:=r; rfl
 | flt _=>obtain ⟨t,rfl⟩:=r; rfl
 | ref _=>cases r; rfl
 | ty _=>cases r; rfl
theorem sU {j pos'} (ha:PE X a ta):PC X .Is a (.Constant .none j pos') (tIsN ta):=by
 intro pins s σ H Q I h
 refine thn (ha pins s σ H _ I h) fun v s1 ⟨x,H1,I1,r1,q1⟩=>?_
 exact Constant_none (is_none_gen ⟨.bl _,H1,I1,by rw [r1.none_iff]; rfl,q1⟩)
theorem qL {j pos'} (ha:PE X a ta):PC X .IsNot a (.Constant .none j pos') (U5 ta):=by
 intro pins s σ H Q I h
 refine thn (ha pins s σ H _ I h) fun v s1 ⟨x,H1,I1,r1,q1⟩=>?_
 exact Constant_none (isnot_none_gen ⟨.bl _,H1,I1,by rw [r1.none_iff]; rfl,q1⟩)
def tB (t:TE):TT:=fun σ H Q=>t σ H fun x H1=>∃ c,x = .bl c /\ Q c H1
theorem V0 {op:CmpOp} {t:TE} (h:PC X op a b t) (h1:behindInMarks op b = false:=by first | exact jD _ (by decide) (by decide) | rfl):PE X (.Compare a [op] [b] pos) t:=fun pins s σ H Q I hw=>wpAny_Compare1 (h pins s σ H Q I hw) h1
theorem wQ {op:CmpOp} {t:TE} (h:PC X op a b t) (h1:behindInMarks op b = false:=by first | exact jD _ (by decide) (by decide) | rfl):PT X (.Compare a [op] [b] pos) (tB t):=by
 intro pins s σ H Q I hw
 refine wpAny_isTrue_Compare1 (thn (h pins s σ H _ I hw) fun v s1 h1=>thn h1 fun u s2 h2=>thn h2 fun c s3 ⟨x,H1,I1,r1,q1⟩=>?_) h1
 obtain ⟨d,rfl,q⟩:=q1
 cases r1
 exact wpAny_truthy_bool ⟨H1,I1,q⟩
theorem zY {e:Expr} {t:TE} (h:PE X e t) (he:∀ whole,isTrue e X.env whole = (do let v ← whole; standAt e.pos; holding [v] (truthy v)):=by intro _; rfl):PT X e (tB t):=by
 intro pins s σ H Q I hw
 refine isTrue_plain (thn (h pins s σ H _ I hw) fun v s1 ⟨x,H1,I1,r1,q1⟩=>?_) (he _)
 obtain ⟨d,rfl,q⟩:=q1
 cases r1
 exact wpAny_truthy_bool ⟨H1,I1,q⟩
variable {tA tB':TT} {rest:List Expr}
def tAnd (t u:TT):TT:=fun σ H Q=>t σ H fun c H1=>if c = true then u σ H1 Q else Q false H1
def tOr (t u:TT):TT:=fun σ H Q=>t σ H fun c H1=>if c = true then Q true H1 else u σ H1 Q
def tNot (t:TT):TT:=fun σ H Q=>t σ H fun c H1=>Q (!c) H1
theorem xC (ha:PT X a tA):PW X (.BoolOp .And [a] pos) tA:=by
 intro wh pins s σ H Q I h
 refine isTrue_and (thn (ha pins s σ H Q I h) fun c s1 e=>?_)
 cases c with
 | true=>exact isTrue_and_nil e
 | false=>exact e
theorem xY (ha:PT X a tA):PW X (.BoolOp .Or [a] pos) tA:=by
 intro wh pins s σ H Q I h
 refine isTrue_or (thn (ha pins s σ H Q I h) fun c s1 e=>?_)
 cases c with
 | false=>exact isTrue_or_nil e
 | true=>exact e
theorem wy (ha:PT X a tA) (hb:PW X (.BoolOp .And (b :: rest) pos) tB'):PW X (.BoolOp .And (a :: b :: rest) pos) (tAnd tA tB'):=by
 intro wh pins s σ H Q I h
 refine isTrue_and (thn (ha pins s σ H _ I h) fun c s1 ⟨H1,I1,q1⟩=>?_)
 cases c with
 | true=>exact hb wh pins s1 σ H1 Q I1 q1
 | false=>exact ⟨H1,I1,q1⟩
theorem v9 (ha:PT X a tA) (hb:PW X (.BoolOp .Or (b :: rest) pos) tB'):PW X (.BoolOp .Or (a :: b :: rest) pos) (tOr tA tB'):=by
 intro wh pins s σ H Q I h
 refine isTrue_or (thn (ha pins s σ H _ I h) fun c s1 ⟨H1,I1,q1⟩=>?_)
 cases c with
 | true=>exact ⟨H1,I1,q1⟩
 | false=>exact hb wh pins s1 σ H1 Q I1 q1
theorem yq (ha:PT X a tA):PT X (.UnaryOp .Not a pos) (tNot tA):=by
 intro pins s σ H Q I h
 exact isTrue_not (ha pins s σ H (fun c H1=>Q (!c) H1) I h)
def U6 (ta tb:TE):TE:=fun σ H Q=>ta σ H fun x H1=>∃ c,x = .bl c /\ if c = true then tb σ H1 Q else Q (.bl false) H1
def tOrV (ta tb:TE):TE:=fun σ H Q=>ta σ H fun x H1=>∃ c,x = .bl c /\ if c = true then Q (.bl true) H1 else tb σ H1 Q
def U7 (ta:TE):TE:=fun σ H Q=>ta σ H fun x H1=>∃ c,x = .bl c /\ Q (.bl (!c)) H1
theorem wR {op} {t:TE} (h:PE X a t):PE X (.BoolOp op [a] pos) t:=fun pins s σ H Q I hw=>BoolOp_one (h pins s σ H Q I hw)
theorem vD (ha:PE X a ta) (hb:PE X (.BoolOp .And (b :: rest) pos) tb):PE X (.BoolOp .And (a :: b :: rest) pos) (U6 ta tb):=by
 intro pins s σ H Q I h
 refine BoolOp_and (thn (ha pins s σ H _ I h) fun v s1 ⟨x,H1,I1,r1,q1⟩=>?_)
 obtain ⟨c,rfl,q1⟩:=q1
 cases r1
 refine wpAny_truthy_bool ?_
 cases c with
 | true=>exact hb pins s1 σ H1 Q I1 q1
 | false=>exact ⟨.bl false,H1,I1,rfl,q1⟩
theorem V1 (ha:PE X a ta) (hb:PE X (.BoolOp .Or (b :: rest) pos) tb):PE X (.BoolOp .Or (a :: b :: rest) pos) (tOrV ta tb):=by
 intro pins s σ H Q I h
 refine BoolOp_or (thn (ha pins s σ H _ I h) fun v s1 ⟨x,H1,I1,r1,q1⟩=>?_)
 obtain ⟨c,rfl,q1⟩:=q1
 cases r1
 refine wpAny_truthy_bool ?_
 cases c with
 | false=>exact hb pins s1 σ H1 Q I1 q1
 | true=>exact ⟨.bl true,H1,I1,rfl,q1⟩
theorem V3 (ha:PE X a ta):PE X (.UnaryOp .Not a pos) (U7 ta):=by
 intro pins s σ H Q I h
 refine UnaryOp_ (thn (ha pins s σ H _ I h) fun v s1 ⟨x,H1,I1,r1,q1⟩=>?_)
 obtain ⟨c,rfl,q1⟩:=q1
 cases r1
 exact not_of (wpAny_truthy_bool ⟨.bl (!c),H1,I1,rfl,q1⟩)
def tIf (t:TT) (ta tb:TE):TE:=fun σ H Q=>t σ H fun c H1=>if c = true then ta σ H1 Q else tb σ H1 Q
theorem jE {c:Expr} (hc:PT X c tA) (ha:PE X a ta) (hb:PE X b tb):PE X (.IfExp c a b pos) (tIf tA ta tb):=by
 intro pins s σ H Q I h
 refine wpAny_IfExp (thn (hc pins s σ H _ I h) fun d s1 ⟨H1,I1,q1⟩=>?_)
 cases d with
 | true=>exact ha pins s1 σ H1 Q I1 q1
 | false=>exact hb pins s1 σ H1 Q I1 q1
end
end L2
namespace L2
open PySem PySem.Spec PyProof.Rows
def SqL (K:FG7) (H:Hp) (a:Addr) (xs:List V):Prop :=
 Rd H a (.lst xs) ∨
  ∃ (o:Obj) (its:Array Value) (n:Nat),K.lookup a = some o /\ o.cls = .type "list" /\ o.dict = none /\ o.data = .seq its n /\ its.size <= sizeLine /\ Vals xs its.toList
def SqT (K:FG7) (H:Hp) (a:Addr) (xs:List V):Prop :=
 Rd H a (.tup xs) ∨
  ∃ (o:Obj) (its:Array Value) (n:Nat),K.lookup a = some o /\ o.cls = .type "tuple" /\ o.data = .seq its n /\ its.size <= sizeLine /\ Vals xs its.toList
def absV:Value -> Option V
 | .none=>some .non
 | .bool b=>some (.bl b)
 | .int i _=>some (.int i)
 | .str x _=>some (.str x)
 | .bytes b _=>some (.byt b)
 | .float b _=>some (.flt b)
 | .ref a=>some (.ref a)
 | .type n=>some (.ty n)
 | _=>none
theorem RelV.abs {x:V} {u:Value} (r:RelV x u):absV u = some x:=by
 cases x with
 | non=>cases r; rfl
 | bl _=>cases r; rfl
 | int _=>obtain ⟨t,rfl⟩:=r; rfl
 | str _=>obtain ⟨t,rfl⟩:=r; rfl
 | byt _=>obtain ⟨t,rfl⟩:=r; rfl
 | flt _=>obtain ⟨t,rfl⟩:=r; rfl
 | ref _=>cases r; rfl
 | ty _=>cases r; rfl
theorem RelV.inj {x y:V} {u:Value} (r:RelV x u) (q:RelV y u):x = y:=Option.some.inj (r.abs.symm.trans q.abs)
theorem Vals.inj:∀ {xs ys:List V} {us:List Value},Vals xs us -> Vals ys us -> xs = ys
 | _,_,_,.nil,.nil=>rfl
 | _,_,_,.cons r t,.cons r' t'=>by rw [r.inj r',Vals.inj t t']
section
variable {X:Cx} {pins:List (Addr × Obj)} {σ:St} {H:Hp} {s:Shared} {a:Addr} {xs ys:List V}
theorem SqL.of {K:FG7} (h:H a = some (.lst xs)):SqL K H a xs:=.inl (.inl h)
theorem SqT.of {K:FG7} (h:H a = some (.tup xs)):SqT K H a xs:=.inl (.inl h)
theorem Inv.list (I:Inv X pins σ H s) (h:SqL X.K H a xs):∃ its:List Value,Vals xs its /\ PlainL s.heap a its.toArray /\ xs.length <= sizeLine:=by
 rcases h with h | ⟨o,its,n,hk,hc,hd,hs,hz,r⟩
 ·obtain ⟨z,its,n,r,e⟩:=h.ok I.hok
  exact ⟨its,r,⟨_,n,e,rfl,rfl,rfl⟩,z⟩
 ·refine ⟨its.toList,r,⟨o,n,I.kIn a o hk,hc,hd,by simpa using hs⟩,?_⟩
  have e:=r.length
  simp only [Array.length_toList] at e
  omega
theorem Inv.tuple (I:Inv X pins σ H s) (h:SqT X.K H a xs):∃ its:List Value,Vals xs its /\ IsTup s.heap a its.toArray /\ xs.length <= sizeLine:=by
 rcases h with h | ⟨o,its,n,hk,hc,hs,hz,r⟩
 ·obtain ⟨z,its,r,p⟩:=h.ok I.hok
  exact ⟨its,r,p,z⟩
 ·refine ⟨its.toList,r,⟨o,I.kIn a o hk,hc,n,by simpa using hs⟩,?_⟩
  have e:=r.length
  simp only [Array.length_toList] at e
  omega
theorem Inv.list_inj (I:Inv X pins σ H s) (h:SqL X.K H a xs) (h':SqL X.K H a ys):xs = ys:=by
 obtain ⟨its,r,⟨o,n,e,_,_,d⟩,_⟩:=I.list h
 obtain ⟨its',r',⟨o',n',e',_,_,d'⟩,_⟩:=I.list h'
 rw [e] at e'; cases e'
 rw [d] at d'
 injection d' with d1 _
 have:its = its':=by simpa using congrArg Array.toList d1
 subst this
 exact r.inj r'
theorem Inv.tuple_inj (I:Inv X pins σ H s) (h:SqT X.K H a xs) (h':SqT X.K H a ys):xs = ys:=by
 obtain ⟨its,r,⟨o,e,_,n,d⟩,_⟩:=I.tuple h
 obtain ⟨its',r',⟨o',e',_,n',d'⟩,_⟩:=I.tuple h'
 rw [e] at e'; cases e'
 rw [d] at d'
 injection d' with d1 _
 have:its = its':=by simpa using congrArg Array.toList d1
 subst this
 exact r.inj r'
end
abbrev Cx.wish (X:Cx) (E:VS7):Cx:={ X with xe:=E }
abbrev Cx.nox (X:Cx):Cx:=X.wish fun _ _=>False
theorem Cx.Ok.wish {X:Cx} (ok:X.Ok) (E:VS7):(X.wish E).Ok :=
 ⟨ok.mod,ok.kind,ok.glob,ok.blt,ok.above,ok.inj,ok.has,ok.cab,ok.hd,ok.frames,ok.stk,ok.exf,ok.bs,ok.bsz,ok.noex,ok.exfs,ok.funs,ok.frf⟩
theorem Cx.Ok.unwish {X:Cx} {E:VS7} (ok:(X.wish E).Ok):X.Ok :=
 ⟨ok.mod,ok.kind,ok.glob,ok.blt,ok.above,ok.inj,ok.has,ok.cab,ok.hd,ok.frames,ok.stk,ok.exf,ok.bs,ok.bsz,ok.noex,ok.exfs,ok.funs,ok.frf⟩
section
variable {X:Cx} {pins:List (Addr × Obj)} {σ:St} {H:Hp} {s:Shared} {E:VS7}
theorem Inv.wish (I:Inv X pins σ H s) (E:VS7):Inv (X.wish E) pins σ H s:=⟨I.ok.wish E,I.os,I.bare,I.base,I.loc,I.cell,I.free,I.freeC,I.pin,I.hok,I.len⟩
theorem Inv.unwish (I:Inv (X.wish E) pins σ H s):Inv X pins σ H s:=⟨I.ok.unwish,I.os,I.bare,I.base,I.loc,I.cell,I.free,I.freeC,I.pin,I.hok,I.len⟩
theorem SP.unwish {D:Ends} {f:Flow} {s':Shared} (h:SP (X.wish E) pins D f s'):SP X pins D f s':=by
 cases f with
 | next=>obtain ⟨σ',H',I,q⟩:=h; exact ⟨σ',H',I.unwish,q⟩
 | brk=>obtain ⟨σ',H',I,q⟩:=h; exact ⟨σ',H',I.unwish,q⟩
 | cont=>obtain ⟨σ',H',I,q⟩:=h; exact ⟨σ',H',I.unwish,q⟩
 | ret u=>obtain ⟨v,σ',H',I,r,q⟩:=h; exact ⟨v,σ',H',I.unwish,r,q⟩
theorem PSs.nox {st:List Stmt} {t:TS} (h:PSs X.nox st t):PSs X st t:=fun pins s σ H D I hw =>
 wpAny_mono (h pins s σ H D (I.wish _) hw) (fun _ _ q=>q.unwish) fun _ _ z=>False.elim z
end
section
variable {X:Cx} {st:Stmt} {rest:List Stmt} {t u:TS} {e:Expr} {te:TE} {pos:Pos}
def V4:TS:=fun D σ H=>D.nx σ H
def tSeq (t u:TS):TS:=fun D σ H=>t { D with nx:=u D } σ H
theorem zu:PSs X [] V4:=fun _ _ σ H _ I h=>wpAny_execs_nil ⟨σ,H,I,h⟩
theorem zd (h1:PS X st t) (h2:PSs X rest u):PSs X (st :: rest) (tSeq t u):=by
 intro pins s σ H D I h
 refine wpAny_execs_cons (thn (h1 pins s σ H { D with nx:=u D } I h) fun f s1 q=>?_)
 cases f with
 | next =>
  obtain ⟨σ',H',I',q⟩:=q
  exact h2 pins s1 σ' H' D I' q
 | ret v=>exact q
 | brk=>exact q
 | cont=>exact q
theorem zg (h1:PS X st t):PSs X [st] t:=by
 intro pins s σ H D I h
 refine wpAny_execs_cons (thn (h1 pins s σ H D I h) fun f s1 q=>?_)
 cases f with
 | next=>exact wpAny_execs_nil q
 | ret v=>exact q
 | brk=>exact q
 | cont=>exact q
theorem Inv.quiet {pins:List (Addr × Obj)} {σ:St} {H:Hp} {s:Shared} (I:Inv X pins σ H s):interactive X.env = false:=by simp [interactive,I.ok.kind]
def U8 (te:TE):TS:=fun D σ H=>te σ H fun _ H1=>D.nx σ H1
theorem zz (he:PE X e te) (hs:swapsWith e none pos.line X.env = pure false:=by rfl):PS X (.Expr e pos) (U8 te):=by
 intro pins s σ H D I h
 exact wpAny_Expr_any (thn (he pins s σ H _ I h) fun v s1 ⟨x,H1,I1,r1,q1⟩=>⟨σ,H1,I1,q1⟩) I.quiet hs
def tRet (te:TE):TS:=fun D σ H=>te σ H D.rt
theorem zo (he:PE X e te):PS X (.Return (some e) pos) (tRet te):=by
 intro pins s σ H D I h
 exact wpAny_Return_some (thn (he pins s σ H _ I h) fun v s1 ⟨x,H1,I1,r1,q1⟩=>⟨x,σ,H1,I1,r1,q1⟩)
def tIfS (c:TT) (t u:TS):TS:=fun D σ H=>c σ H fun b H1=>if b = true then t D σ H1 else u D σ H1
theorem zV {c:Expr} {a b:List Stmt} {tc:TT} (hc:PT X c tc) (ha:PSs X a t) (hb:PSs X b u):PS X (.If c a b pos) (tIfS tc t u):=by
 intro pins s σ H D I h
 refine wpAny_If (thn (hc pins s σ H _ I h) fun d s1 ⟨H1,I1,q1⟩=>?_)
 cases d with
 | true=>exact ha pins s1 σ H1 D I1 q1
 | false=>exact hb pins s1 σ H1 D I1 q1
def V5:TS:=fun _ _ _=>False
theorem yz:PS X st V5:=fun _ _ _ _ _ _ h=>h.elim
end
abbrev TG:=V -> St -> Hp -> (St -> Hp -> Prop) -> Prop
abbrev TGs:=List V -> St -> Hp -> (St -> Hp -> Prop) -> Prop
def PG (X:Cx) (target:Expr) (t:TG):Prop :=
 ∀ (pins:List (Addr × Obj)) (s:Shared) (σ:St) (H:Hp) (v:V) (u:Value) (Q:St -> Hp -> Prop),Inv X pins σ H s -> RelV v u -> t v σ H Q →
  wpAny (model X.prog X.w) X.A (assign target X.env u) (fun _ s'=>∃ σ' H',Inv X pins σ' H' s' /\ Q σ' H') X.xe s
def PGs (X:Cx) (ts:List Expr) (t:TGs):Prop :=
 ∀ (pins:List (Addr × Obj)) (s:Shared) (σ:St) (H:Hp) (vs:List V) (us:List Value) (Q:St -> Hp -> Prop),Inv X pins σ H s -> Vals vs us -> t vs σ H Q →
  wpAny (model X.prog X.w) X.A (assignInOrder ((assignEach ts X.env).map (·.2)) us) (fun _ s'=>∃ σ' H',Inv X pins σ' H' s' /\ Q σ' H') X.xe s
abbrev TSet:=V -> V -> V -> Hp -> (Hp -> Prop) -> Prop
def PSet (X:Cx) (t:TSet):Prop :=
 ∀ (pins:List (Addr × Obj)) (s:Shared) (σ:St) (H:Hp) (o i v:V) (ov iv u:Value) (Q:Hp -> Prop),Inv X pins σ H s -> RelV o ov -> RelV i iv -> RelV v u -> t o i v H Q →
  wpAny (model X.prog X.w) X.A (setItem ov iv u) (fun _ s'=>∃ H',Inv X pins σ H' s' /\ Q H') X.xe s
abbrev TIp:=V -> V -> Hp -> VK -> Prop
def PIp (X:Cx) (op:Operator) (t:TIp):Prop :=
 ∀ (pins:List (Addr × Obj)) (s:Shared) (σ:St) (H:Hp) (x y:V) (v u:Value) (Q:VK),Inv X pins σ H s -> RelV x v -> RelV y u -> t x y H Q →
  wpAny (model X.prog X.w) X.A (inplaceOp op v u) (EP X pins σ Q) X.xe s
section
variable {X:Cx} {pos:Pos}
def vN (i:Nat):TG:=fun v σ H Q=>Q (σ.set i (some v)) H
theorem zj {i:Nat} {x:Str} (hN:X.N.Nodup) (hi:X.N[i]? = some x) (hx:Loc X.env.scope x) (hf:X.fn x = true \/ X.env.scope.names.lookup x = some .local :=by first | exact .inl rfl | exact .inr rfl | assumption):PG X (.Name x pos) (vN i):=by
 intro pins s σ H v u Q I r h
 exact wpAny_assign_Name (tT I hN hi hx r (fun s' I'=>⟨_,H,I',h⟩) hf)
def gNil:TGs:=fun vs σ H Q=>vs = [] /\ Q σ H
def U9 (t:TG) (u:TGs):TGs:=fun vs σ H Q=>∃ v r,vs = v :: r /\ t v σ H fun σ' H'=>u r σ' H' Q
theorem zW:PGs X [] gNil:=by
 intro pins s σ H vs us Q I r h
 obtain ⟨e,h⟩:=h
 subst e
 cases r
 exact assignInOrder_nil ⟨σ,H,I,h⟩
theorem zk {e:Expr} {es:List Expr} {t:TG} {u:TGs} (h1:PG X e t) (h2:PGs X es u)
  (hs:(assignEach (e :: es) X.env).map (·.2) = assign e X.env :: (assignEach es X.env).map (·.2):=by rfl):PGs X (e :: es) (U9 t u):=by
 intro pins s σ H vs us Q I r h
 obtain ⟨v,vr,e1,h⟩:=h
 subst e1
 cases r with
 | cons r rr =>
  rw [hs]
  refine assignInOrder_cons (thn (h1 pins s σ H _ _ _ I r h) fun _ s1 ⟨σ1,H1,I1,q1⟩=>?_)
  exact h2 pins s1 σ1 H1 _ _ Q I1 rr q1
def gTup (K:FG7) (n:Nat) (t:TGs):TG:=fun v σ H Q=>∃ a xs,v = .ref a /\ SqT K H a xs /\ xs.length = n /\ t xs σ H Q
theorem xc {es:List Expr} {k:Nat} {t:TGs} {n:Nat} (hc:X.calm = true) (h:PGs X es t)
  (hn:(assignEach es X.env).length = n:=by rfl) (hst:(assignEach es X.env).findIdx? (·.1) = none:=by rfl):PG X (.Tuple es k pos) (gTup X.K n t):=by
 intro pins s σ H v u Q I r hw
 obtain ⟨a,xs,e1,hq,hl,hw⟩:=hw
 subst e1
 cases r
 obtain ⟨its,rv,ht,hz⟩:=I.tuple hq
 refine assign_Tuple_tuple (I.ok.hd hc) ht (by simp [hn,← hl,rv.length]) hst fun h' hx=>?_
 have I1:Inv X pins σ H { s with heap:=h' }:=I.kept (t':=s.toks) fun b o e=>hx b o (Nat.ne_of_lt (Heap.lt_size e)) e
 exact h pins _ σ H xs _ Q I1 (by simpa using rv) hw
def gSub (to ti:TE) (t:TSet):TG:=fun v σ H Q=>to σ H fun o H1=>ti σ H1 fun i H2=>t o i v H2 fun H3=>Q σ H3
theorem sV {o i:Expr} {to ti:TE} {t:TSet} (ho:PE X o to) (hi:PE X i ti) (hs:PSet X t)
  (ha:∀ v,assign (.Subscript o i pos) X.env v = (do
   let ov ← holding [v] (eval o X.env)
   let iv ← holding [v,ov] (eval i X.env)
   standAt pos
   holding [v,ov,iv] (setItem ov iv v)
   release [v,ov,iv] []):=by intro _; rfl):PG X (.Subscript o i pos) (gSub to ti t):=by
 intro pins s σ H v u Q I r h
 rw [ha]
 refine wpAny_bind (wpAny_holding (thn (ho pins s σ H _ I h) fun ov s1 ⟨x,H1,I1,r1,q1⟩=>?_))
 refine wpAny_bind (wpAny_holding (thn (hi pins s1 σ H1 _ I1 q1) fun iv s2 ⟨y,H2,I2,r2,q2⟩=>?_))
 refine wpAny_bind (wpAny_standAt (wpAny_bind (wpAny_holding (thn (hs pins s2 σ H2 x y v ov iv u _ I2 r1 r2 r q2) fun _ s3 ⟨H3,I3,q3⟩=>?_))))
 exact wpAny_release ⟨σ,H3,I3,q3⟩
def tAsg (te:TE) (g:TG):TS:=fun D σ H=>te σ H fun x H1=>g x σ H1 D.nx
theorem xU {tg e:Expr} {te:TE} {g:TG} (he:PE X e te) (hg:PG X tg g) (hs:swapsWithSole [tg] e pos.line X.env = pure false:=by rfl) (hw:swappedStores [tg] e X.env = pure none:=by rfl)
  (h1:(assignEach [tg] X.env).map (·.2) = [assign tg X.env]:=by rfl):PS X (.Assign [tg] e pos) (tAsg te g):=by
 intro pins s σ H D I h
 refine wpAny_Assign_stores (thn (he pins s σ H _ I h) fun v s1 ⟨x,H1,I1,r1,q1⟩=>?_) hs hw
 rw [h1]
 exact thn (hg pins s1 σ H1 x v _ I1 r1 q1) fun _ s2 q=>q
theorem zr {i:Nat} {x:Str} {e:Expr} {te:TE} {pos':Pos} (hN:X.N.Nodup) (hi:X.N[i]? = some x) (hx:Loc X.env.scope x) (he:PE X e te) (hs:swapsWith e (some (.Name x pos')) pos.line X.env = pure false:=by rfl) (hf:X.fn x = true \/ X.env.scope.names.lookup x = some .local :=by first | exact .inl rfl | exact .inr rfl | assumption) :
  PS X (.Assign [.Name x pos'] e pos) (tAsg te (vN i)):=by
 intro pins s σ H D I h
 refine wpAny_Assign_Name (thn (he pins s σ H _ I h) fun v s1 ⟨y,H1,I1,r1,q1⟩=>?_) hs
 exact tT I1 hN hi hx r1 (fun s2 I2=>⟨_,H1,I2,q1⟩) hf
def tAug (i:Nat) (te:TE) (ti:TIp):TS:=fun D σ H=>∃ x,σ[i]? = some (some x) /\ te σ H fun y H1=>ti x y H1 fun z H2=>D.nx (σ.set i (some z)) H2
theorem V6 {i:Nat} {x:Str} {e:Expr} {te:TE} {op:Operator} {ti:TIp} {pos':Pos} (hN:X.N.Nodup) (hi:X.N[i]? = some x) (hx:Loc X.env.scope x) (he:PE X e te) (ho:PIp X op ti) (hf:X.fn x = true \/ X.env.scope.names.lookup x = some .local :=by first | exact .inl rfl | exact .inr rfl | assumption) :
  PS X (.AugAssign (.Name x pos') op e pos) (tAug i te ti):=by
 intro pins s σ H D I h
 obtain ⟨v,e1,h⟩:=h
 obtain ⟨m,hn,hl⟩:=I.loc
 have vis:Vis X.env.scope x:=by rcases hx with k | k; exact .inl k; exact .inr (.inl k)
 obtain ⟨u,r,l⟩:=hl i x v hi e1 vis
 refine wpAny_AugAssign_Name ?_
 have go:wpAny (model X.prog X.w) X.A (eval e X.env) (fun w s₂=>wpAny (model X.prog X.w) X.A (inplaceOp op u w) (fun r s₃=>wpAny (model X.prog X.w) X.A (storeName X.env x r) (fun _=>SP X pins D .next) X.xe s₃) X.xe s₂) X.xe s:=by
  refine thn (he pins s σ H _ I h) fun w s1 ⟨y,H1,I1,r1,q1⟩=>?_
  refine thn (ho pins s1 σ H1 v y u w _ I1 r r1 q1) fun z s2 ⟨zv,H2,I2,r2,q2⟩=>?_
  exact tT I2 hN hi hx r2 (fun s3 I3=>⟨_,H2,I3,q2⟩) hf
 rcases l with ⟨hk,hm⟩ | ⟨hk,c,hc,hcell⟩
 ·exact wpAny_loadName_local I.ok.kind hk hn hm go
 ·rcases hk with hk | hk
  ·exact wpAny_loadName_cell I.ok.kind hk hc hcell go
  ·rcases hx with k | k
   ·have:X.env.scope.names.lookup x = some .free:=hk
    rw [k] at this; cases this
   ·have:X.env.scope.names.lookup x = some .free:=hk
    rw [k] at this; cases this
def ipI (f:Int -> Int -> Int):TIp:=fun x y H Q=>∃ i j,x = .int i /\ y = .int j /\ Q (.int (f i j)) H
theorem V7:PIp X .Add (ipI fun i j=>i + j):=by
 intro pins s σ H x y v u Q I r1 r2 h
 obtain ⟨i,j,e1,e2,q⟩:=h
 subst e1; subst e2
 obtain ⟨t,rfl⟩:=r1
 obtain ⟨t',rfl⟩:=r2
 exact iadd_int ⟨.int _,H,I.tok _,⟨_,rfl⟩,q⟩
end
section
variable {X:Cx} {pos:Pos}
def V8 (c:TT) (tb:TS):TS:=fun D σ H=>∃ W:Nat -> St -> Hp -> Prop,(∃ m,W m σ H) /\ ∀ m σ H,W m σ H →
 c σ H fun b H1=>if b = true then ∃ N:St -> Hp -> Prop,(∀ σ' H',N σ' H' -> ∃ m',m' < m /\ W m' σ' H') /\ tb { D with nx:=N,ct:=N,bk:=D.nx } σ H1 else D.nx σ H1
theorem XO {c:Expr} {body:List Stmt} {tc:TT} {tb:TS} (hp:PassesOwn (model X.prog X.w) X.A X.env X.xe) (hc:PT X c tc) (hb:PSs X body tb):PS X (.While c body [] pos) (V8 tc tb):=by
 intro pins s σ H D I h
 obtain ⟨W,⟨m0,w0⟩,turn⟩:=h
 refine wpAny_While (codeAny_whileLoop (fun n s'=>∃ σ' H',Inv X pins σ' H' s' /\ W n σ' H') ?_ m0 ⟨σ,H,I,w0⟩)
 rintro n s1 ⟨σ1,H1,I1,w1⟩
 refine wpAny_passesOwn hp (thn (hc pins s1 σ1 H1 _ I1 (turn n σ1 H1 w1)) fun b s2 ⟨H2,I2,q2⟩=>?_)
 cases b with
 | true =>
  obtain ⟨N,hN,q2⟩:=q2
  rw [if_pos rfl]
  refine wpAny_passesOwn hp (thn (hb pins s2 σ1 H2 _ I2 q2) fun f s3 q3=>?_)
  cases f with
  | next =>
   obtain ⟨σ3,H3,I3,n3⟩:=q3
   obtain ⟨m',hm,w3⟩:=hN σ3 H3 n3
   exact ⟨m',hm,σ3,H3,I3,w3⟩
  | cont =>
   obtain ⟨σ3,H3,I3,n3⟩:=q3
   obtain ⟨m',hm,w3⟩:=hN σ3 H3 n3
   exact ⟨m',hm,σ3,H3,I3,w3⟩
  | brk=>exact q3
  | ret v=>exact q3
 | false =>
  rw [if_neg Bool.false_ne_true]
  exact wpAny_execs_nil ⟨σ1,H2,I2,q2⟩
end
structure It where
 go:Nat -> Hp -> Prop
 yld:Nat -> Hp -> V -> Hp -> Prop
 stop:Nat -> Hp -> Prop
def FpOk (X:Cx) (pins:List (Addr × Obj)) (H:Hp) (b:Addr):Prop :=
 H b = none /\ b ≠ X.env.locals /\ b ∉ X.fs /\ (b ∈ X.ex \/ X.s₀.heap.objs.size <= b) /\ (∀ x c,X.env.cells.lookup x = some c -> c ≠ b) /\ ∀ p ∈ X.pn ++ pins,p.1 ≠ b
theorem Inv.fpOk {X:Cx} {pins:List (Addr × Obj)} {σ:St} {H H':Hp} {s:Shared} {b:Addr} (I:Inv X pins σ H s) (hb:s.heap.objs.size <= b) (hn:H' b = none):FpOk X pins H' b:=by
 refine ⟨hn,Nat.ne_of_gt (Nat.lt_of_lt_of_le I.lt hb),I.nofs hb,.inr (Nat.le_trans I.sz hb),fun x c e z=>?_,fun p hp z=>?_⟩
 ·obtain ⟨v,q⟩:=I.cell x c e
  exact absurd (Nat.lt_of_lt_of_le q.lt (by rw [z]; exact hb)) (Nat.lt_irrefl _)
 ·exact absurd (Nat.lt_of_lt_of_le (Heap.lt_size (I.pin p hp).1) (by rw [z]; exact hb)) (Nat.lt_irrefl _)
structure Turn (P:Program) (w:World) (K:FG7) (tg:Expr) (J:It) (fp:List Addr) (it:Addr) (tn:Nat -> Heap -> Prop):Prop where
 mem:it ∈ fp
 obj:∀ i h,tn i h -> ∀ b ∈ fp,∃ o,h.get? b = some o /\ ∀ v,o.data ≠ .cell v
 keep:∀ i h h',tn i h -> (∀ b ∈ fp,∀ o,h.get? b = some o -> h'.get? b = some o) -> tn i h'
 item:∀ (X:Cx),X.prog = P -> X.w = w -> X.K = K -> X.calm = true -> ∀ (i:Nat) (pins:List (Addr × Obj)) (s:Shared) (σ:St) (H:Hp) (E:VS7),Inv X pins σ H s -> (∀ b ∈ fp,FpOk X pins H b) -> tn i s.heap -> J.go i H →
  wpAny (model P w) X.A (pyNext (.ref it)) (fun r s1=>∃ u,r = some u ∧
   wpAny (model P w) X.A (letOwnedTupleGo tg (.ref it) u) (fun _ s2=>∃ x H',Inv X pins σ H' s2 /\ RelV x u /\ J.yld i H x H' /\ tn (i + 1) s2.heap /\ ∀ b ∈ fp,H' b = none) E s1) E s
 done:∀ (X:Cx),X.prog = P -> X.w = w -> X.K = K -> X.calm = true -> ∀ (i:Nat) (pins:List (Addr × Obj)) (s:Shared) (σ:St) (H:Hp) (E:VS7),Inv X pins σ H s -> (∀ b ∈ fp,FpOk X pins H b) -> tn i s.heap -> J.stop i H →
  wpAny (model P w) X.A (pyNext (.ref it)) (fun r s1=>r = none /\ Inv X pins σ H s1) E s
 self:∀ (A:Around) (i:Nat) (s:Shared) (Q:VS7) (E:VS7),tn i s.heap -> Q (.ref it) s -> wpAny (model P w) A (pyIter (.ref it)) Q E s
abbrev TI:=St -> Hp -> (It -> Hp -> Prop) -> Prop
def PIE (X:Cx) (pins:List (Addr × Obj)) (σ:St) (tg:Expr) (R:It -> Hp -> Prop) (itv:Value) (s2:Shared):Prop :=
 ∃ (it:Addr) (fp:List Addr) (tn:Nat -> Heap -> Prop) (J:It) (H':Hp),itv = .ref it /\ Inv X pins σ H' s2 /\ Turn X.prog X.w X.K tg J fp it tn /\ tn 0 s2.heap /\ (∀ b ∈ fp,FpOk X pins H' b) /\ R J H'
def PI (X:Cx) (tg iter:Expr) (wi:TI):Prop :=
 ∀ (pins:List (Addr × Obj)) (s:Shared) (σ:St) (H:Hp) (R:It -> Hp -> Prop),Inv X pins σ H s -> wi σ H R →
  wpAny (model X.prog X.w) X.A (eval iter X.env) (fun v s1=>wpAny (model X.prog X.w) X.A (pyIter v) (PIE X pins σ tg R) X.xe s1) X.xe s
theorem Z1 {M:Model} {A:Around} {E:VS7} {s:Shared} {tg:Expr} {it:Addr} {u:Value} {o:Obj} {n:String} {vs:Array Value} {Q:Unit -> Shared -> Prop} (ho:s.heap.get? it = some o) (hc:o.cls = .type n) (hd:o.data = .fields vs)
    (hn:["enumerate","zip","dict_itemiterator","dict_reverseitemiterator","odict_iterator","itertools.zip_longest","itertools.pairwise"].contains n = false) (hQ:Q () s):wpAny M A (letOwnedTupleGo tg (.ref it) u) Q E s:=by
  unfold letOwnedTupleGo
  cases tg <;> first
    | exact wpAny_pure hQ
    | (cases u <;> first
        | exact wpAny_pure hQ
        | (refine wpAny_bind (wpAny_load ho ?_)
           rw [hc,hd]
           show wpAny M A (if (["enumerate","zip","dict_itemiterator","dict_reverseitemiterator","odict_iterator","itertools.zip_longest","itertools.pairwise"].contains n && vs[0]? == some (rawInt _)) = true then _ else _) Q E s
           rw [if_neg (by intro h; rw [hn,Bool.false_and] at h; cases h)]
           exact wpAny_pure hQ))
def Itl (K:FG7) (a:Addr):It :=
 ⟨fun i H=>∃ xs x,SqL K H a xs /\ xs[i]? = some x,fun i H x H'=>H' = H /\ ∀ xs,SqL K H a xs -> xs[i]? = some x,fun i H=>∃ xs,SqL K H a xs /\ xs.length <= i⟩
def Itt (K:FG7) (a:Addr):It :=
 ⟨fun i H=>∃ xs x,SqT K H a xs /\ xs[i]? = some x,fun i H x H'=>H' = H /\ ∀ xs,SqT K H a xs -> xs[i]? = some x,fun i H=>∃ xs,SqT K H a xs /\ xs.length <= i⟩
def Itr (lo:Int) (n:Nat):It:=⟨fun i _=>i < n,fun i H x H'=>H' = H /\ x = .int (lo + i),fun i _=>n <= i⟩
theorem Z2 {P:Program} {w:World} {K:FG7} {tg:Expr} (a it:Addr):Turn P w K tg (Itl K a) [it] it (fun i h=>h.IsListIter it a i) where
 mem:=by simp
 obj:=fun i h st b hb=>by
  have e:b = it:=by simpa using hb
  subst e
  obtain ⟨o,e,c,d⟩:=st
  exact ⟨o,e,fun v z=>by rw [d] at z; cases z⟩
 keep:=fun i h h' st k=>st.at fun o e=>k it (by simp) o e
 item:=by
  intro X hP hw hK hc i pins s σ H E I hf st hg
  subst hP hw hK
  obtain ⟨xs,x,hq,hx⟩:=hg
  obtain ⟨its,rv,p,hz⟩:=I.list hq
  obtain ⟨u,hu,ru⟩:=rv.get hx
  obtain ⟨f0,f1,f2,f3,f4,f5⟩:=hf it (by simp)
  refine wpAny_pyNext_list_item st p.isList (x:=u) (by simpa using hu) fun h' st' sb=>?_
  have I1:Inv X pins σ H { s with heap:=h' }:=I.turned (t':=s.toks) (fun b o hb e=>(sb.2 b hb).trans e) f0 f1 f3 f4 f5
  obtain ⟨o,e,c,d⟩:=id st'
  exact ⟨u,rfl,Z1 (s:={ s with heap:=h' }) e c d (by decide) ⟨x,H,I1,ru,⟨rfl,fun ys hy=>by rw [I.list_inj hy hq]; exact hx⟩,st',fun b hb=>(hf b hb).1⟩⟩
 done:=by
  intro X hP hw hK hc i pins s σ H E I hf st hg
  subst hP hw hK
  obtain ⟨xs,hq,hx⟩:=hg
  obtain ⟨its,rv,p,hz⟩:=I.list hq
  obtain ⟨f0,f1,f2,f3,f4,f5⟩:=hf it (by simp)
  have hl:=rv.length
  exact wpAny_pyNext_list_end (I.ok.hd hc) st p.isList (by simp; omega) fun h' eb=>⟨rfl,I.turned (t':=s.toks) (fun b o hb e=>eb b o hb e) f0 f1 f3 f4 f5⟩
 self:=fun _ _ _ _ _ st h=>wpAny_pyIter_listiter st h
theorem Zf {P:Program} {w:World} {K:FG7} {tg:Expr} (a it:Addr):Turn P w K tg (Itt K a) [it] it (fun i h=>h.IsTupleIter it a i) where
 mem:=by simp
 obj:=fun i h st b hb=>by
  have e:b = it:=by simpa using hb
  subst e
  obtain ⟨o,e,c,d⟩:=st
  exact ⟨o,e,fun v z=>by rw [d] at z; cases z⟩
 keep:=fun i h h' st k=>st.at fun o e=>k it (by simp) o e
 item:=by
  intro X hP hw hK hc i pins s σ H E I hf st hg
  subst hP hw hK
  obtain ⟨xs,x,hq,hx⟩:=hg
  obtain ⟨its,rv,p,hz⟩:=I.tuple hq
  obtain ⟨u,hu,ru⟩:=rv.get hx
  obtain ⟨f0,f1,f2,f3,f4,f5⟩:=hf it (by simp)
  refine wpAny_pyNext_tuple_item st (show s.heap.IsTuple a its.toArray from p) (x:=u) (by simpa using hu) fun h' st' sb=>?_
  have I1:Inv X pins σ H { s with heap:=h' }:=I.turned (t':=s.toks) (fun b o hb e=>(sb.2 b hb).trans e) f0 f1 f3 f4 f5
  obtain ⟨o,e,c,d⟩:=id st'
  exact ⟨u,rfl,Z1 (s:={ s with heap:=h' }) e c d (by decide) ⟨x,H,I1,ru,⟨rfl,fun ys hy=>by rw [I.tuple_inj hy hq]; exact hx⟩,st',fun b hb=>(hf b hb).1⟩⟩
 done:=by
  intro X hP hw hK hc i pins s σ H E I hf st hg
  subst hP hw hK
  obtain ⟨xs,hq,hx⟩:=hg
  obtain ⟨its,rv,p,hz⟩:=I.tuple hq
  obtain ⟨f0,f1,f2,f3,f4,f5⟩:=hf it (by simp)
  have hl:=rv.length
  exact wpAny_pyNext_tuple_end (I.ok.hd hc) st (show s.heap.IsTuple a its.toArray from p) (by simp; omega) fun h' eb=>⟨rfl,I.turned (t':=s.toks) (fun b o hb e=>eb b o hb e) f0 f1 f3 f4 f5⟩
 self:=fun _ _ _ _ _ st h=>wpAny_pyIter_tupleiter st h
theorem Zg {P:Program} {w:World} {K:FG7} {tg:Expr} (it:Addr) (lo:Int) (n:Nat):Turn P w K tg (Itr lo n) [it] it (fun i h=>IsRangeIter h it (lo + (i:Nat) * 1) ((n:Int) - (i:Nat)) 1) where
 mem:=by simp
 obj:=fun i h st b hb=>by
  have e:b = it:=by simpa using hb
  subst e
  exact ⟨_,st,fun v z=>by
   have z':Data.fields _ = Data.cell v:=z
   cases z'⟩
 keep:=fun i h h' st k=>k it (by simp) _ st
 item:=by
  intro X hP hw hK hc i pins s σ H E I hf st hg
  subst hP hw hK
  obtain ⟨f0,f1,f2,f3,f4,f5⟩:=hf it (by simp)
  have W:=Walks.range (prog:=X.prog) (w:=X.w) (I.ok.hd hc) it lo 1 n
  refine W.item i s _ _ hg st fun v h' tk hv st' kk=>?_
  obtain ⟨t,rfl⟩:=hv
  have I1:Inv X pins σ H { s with heap:=h',toks:=tk }:=I.turned (fun b o hb e=>kk b o (by simpa using hb) e) f0 f1 f3 f4 f5
  refine ⟨_,rfl,Z1 (s:={ s with heap:=h',toks:=tk }) (n:="range_iterator") st' rfl rfl (by decide) ⟨.int (lo + i),H,I1,⟨t,?_⟩,⟨rfl,rfl⟩,st',fun b hb=>(hf b hb).1⟩⟩
  rw [Int.mul_one]
 done:=by
  intro X hP hw hK hc i pins s σ H E I hf st hg
  subst hP hw hK
  obtain ⟨f0,f1,f2,f3,f4,f5⟩:=hf it (by simp)
  exact wpAny_pyNext_range_end (I.ok.hd hc) st (by have:n <= i:=hg; omega) fun h' eb=>⟨rfl,I.turned (t':=s.toks) (fun b o hb e=>eb b o hb e) f0 f1 f3 f4 f5⟩
 self:=fun _ _ _ _ _ st h=>wpAny_pyIter_rangeiter st h
end L2
namespace L2
open PySem PySem.Spec PyProof.Rows
section
variable {X:Cx} {tg:Expr}
def Ta (K:FG7) (tl:TE):TI:=fun σ H R=>tl σ H fun x H1=>∃ a,x = .ref a /\ (∃ xs,SqL K H1 a xs) /\ R (Itl K a) H1
def iTup (K:FG7) (tl:TE):TI:=fun σ H R=>tl σ H fun x H1=>∃ a,x = .ref a /\ (∃ xs,SqT K H1 a xs) /\ R (Itt K a) H1
theorem tU {l:Expr} {tl:TE} (hl:PE X l tl):PI X tg l (Ta X.K tl):=by
 intro pins s σ H R I h
 refine thn (hl pins s σ H _ I h) fun v s1 ⟨x,H1,I1,r1,q1⟩=>?_
 obtain ⟨a,e,⟨xs,hq⟩,q⟩:=q1
 subst e
 cases r1
 obtain ⟨its,rv,p,hz⟩:=I1.list hq
 refine wpAny_pyIter_list p.isList ?_
 refine ⟨s1.heap.objs.size,[s1.heap.objs.size],_,_,H1,rfl,I1.kept (t':=s1.toks) fun b o e=>Heap.get?_push_of_some _ e,Z2 a _,⟨_,Heap.get?_push_size _ rfl,rfl,rfl⟩,fun b hb=>?_,q⟩
 have e:b = s1.heap.objs.size:=by simpa using hb
 subst e
 exact I1.fpOk (Nat.le_refl _) (I1.hok.fresh (Nat.le_refl _))
theorem yM {l:Expr} {tl:TE} (hl:PE X l tl):PI X tg l (iTup X.K tl):=by
 intro pins s σ H R I h
 refine thn (hl pins s σ H _ I h) fun v s1 ⟨x,H1,I1,r1,q1⟩=>?_
 obtain ⟨a,e,⟨xs,hq⟩,q⟩:=q1
 subst e
 cases r1
 obtain ⟨its,rv,p,hz⟩:=I1.tuple hq
 refine wpAny_pyIter_tuple (show s1.heap.IsTuple a its.toArray from p) ?_
 refine ⟨s1.heap.objs.size,[s1.heap.objs.size],_,_,H1,rfl,I1.kept (t':=s1.toks) fun b o e=>Heap.get?_push_of_some _ e,Zf a _,⟨_,Heap.get?_push_size _ rfl,rfl,rfl⟩,fun b hb=>?_,q⟩
 have e:b = s1.heap.objs.size:=by simpa using hb
 subst e
 exact I1.fpOk (Nat.le_refl _) (I1.hok.fresh (Nat.le_refl _))
theorem jF {pins:List (Addr × Obj)} {σ:St} {H:Hp} {s:Shared} {R:It -> Hp -> Prop} {E:VS7} {lo hi:Int} {t u v:Tok} {tk:Nat} (I:Inv X pins σ H s) (h1:-(2 ^ 62) <= lo) (h2:lo < 2 ^ 62) (h3:-(2 ^ 62) <= hi) (h4:hi < 2 ^ 62)
  (q:R (Itr lo (hi - lo).toNat) H):wpAny (model X.prog X.w) X.A (pyIter (.ref s.heap.objs.size)) (PIE X pins σ tg R) E { s with heap:=s.heap.push { cls:=.type "range",data:=.fields #[.int lo t,.int hi u,.int 1 v] },toks:=tk }:=by
 refine wpAny_pyIter_range (IsRange.new ..) (small_one h1 h2 h3 h4) ?_
 have I1:Inv X pins σ H { s with heap:=s.heap.push { cls:=.type "range",data:=.fields #[.int lo t,.int hi u,.int 1 v] },toks:=tk }:=I.kept fun b o e=>Heap.get?_push_of_some _ e
 refine ⟨(s.heap.push { cls:=.type "range",data:=.fields #[.int lo t,.int hi u,.int 1 v] }).objs.size,[(s.heap.push { cls:=.type "range",data:=.fields #[.int lo t,.int hi u,.int 1 v] }).objs.size],_,_,H,rfl,
  I1.kept (t':=tk) fun b o e=>Heap.get?_push_of_some _ e,Zg _ lo (hi - lo).toNat,?_,fun b hb=>?_,q⟩
 ·have e1:lo + ((0:Nat):Int) * 1 = lo:=by simp
  have e2:(((hi - lo).toNat:Nat):Int) - ((0:Nat):Int) = Builtin.Range.rangeSize lo hi 1:=by rw [rangeSize_one]; split <;> omega
  show IsRangeIter _ _ (lo + ((0:Nat):Int) * 1) ((((hi - lo).toNat:Nat):Int) - ((0:Nat):Int)) 1
  rw [e1,e2]
  exact Heap.get?_push_size _ rfl
 ·have e:b = (s.heap.push { cls:=.type "range",data:=.fields #[.int lo t,.int hi u,.int 1 v] }).objs.size:=by simpa using hb
  subst e
  exact I1.fpOk (Nat.le_refl _) (I1.hok.fresh (Nat.le_refl _))
def Tb (ta:TA):TI:=fun σ H R=>ta σ H fun vs H1=>∃ j:Int,vs = [.int j] /\ -(2 ^ 62) <= j /\ j < 2 ^ 62 /\ R (Itr 0 j.toNat) H1
def Tc (ta:TA):TI:=fun σ H R=>ta σ H fun vs H1=>∃ i j:Int,vs = [.int i,.int j] /\ (-(2 ^ 62) <= i /\ i < 2 ^ 62 /\ -(2 ^ 62) <= j /\ j < 2 ^ 62) /\ R (Itr i (j - i).toNat) H1
theorem yY {a:Expr} {ta:TA} {p pos:Pos} (hg:Gl X "range") (hm:X.mg "range" = none) (ha:PA X [a] ta) (hs:starEach [a] X.env = [(false,eval a X.env)]:=by rfl):PI X tg (.Call (.Name "range" p) [a] [] pos) (Tb ta):=by
 intro pins s σ H R I h
 refine Call_ (v8 I hg hm boot_range (PyProof.Rows.callWith_type1 (thn (ha pos pins s σ H _ I h) fun us s1 ⟨vs,H1,I1,r1,q1⟩=>?_) hs rfl))
 obtain ⟨j,e,q1,q2,q⟩:=q1
 subst e
 cases r1 with
 | cons r rr =>
  cases rr
  obtain ⟨t,rfl⟩:=r
  exact call_range_1 (jF I1 (by omega) (by omega) q1 q2 (by simpa using q))
theorem sW {a b:Expr} {ta:TA} {p pos:Pos} (hg:Gl X "range") (hm:X.mg "range" = none) (ha:PA X [a,b] ta) (hs:starEach [a,b] X.env = [(false,eval a X.env),(false,eval b X.env)]:=by rfl) (hs2:starEach [b] X.env = [(false,eval b X.env)]:=by rfl) :
  PI X tg (.Call (.Name "range" p) [a,b] [] pos) (Tc ta):=by
 intro pins s σ H R I h
 refine Call_ (v8 I hg hm boot_range (PyProof.Rows.callWith_type1 (thn (ha pos pins s σ H _ I h) fun us s1 ⟨vs,H1,I1,r1,q1⟩=>?_) (by rw [hs,hs2]) (by rw [hs2]; rfl)))
 obtain ⟨i,j,e,⟨q1,q2,q3,q4⟩,q⟩:=q1
 subst e
 cases r1 with
 | cons r rr =>
  cases rr with
  | cons r' rr =>
   cases rr
   obtain ⟨t,rfl⟩:=r
   obtain ⟨t',rfl⟩:=r'
   exact call_range_2 (jF I1 q1 q2 q3 q4 q)
def tFor (wi:TI) (g:TG) (tb:TS):TS:=fun D σ H=>wi σ H fun J H1=>∃ W:Nat -> Nat -> St -> Hp -> Prop,(∃ m,W 0 m σ H1) /\ ∀ i m σ H,W i m σ H →
 (J.stop i H /\ D.nx σ H) \/ (J.go i H /\ ∃ N:St -> Hp -> Prop,(∀ σ' H',N σ' H' -> ∃ m',m' < m /\ W (i + 1) m' σ' H') /\ ∀ x H',J.yld i H x H' -> g x σ H' fun σ2 H2=>tb { D with nx:=N,ct:=N,bk:=D.nx } σ2 H2)
def wz (fp:List Addr) (h:Heap):List (Addr × Obj):=fp.filterMap fun b=>(h.get? b).map fun o=>(b,o)
theorem yf {fp:List Addr} {h:Heap} {b:Addr} {o:Obj} (hb:b ∈ fp) (e:h.get? b = some o):(b,o) ∈ wz fp h:=List.mem_filterMap.mpr ⟨b,hb,by rw [e]; rfl⟩
theorem Z3 {fp:List Addr} {h:Heap} {p:Addr × Obj} (hp:p ∈ wz fp h):p.1 ∈ fp /\ h.get? p.1 = some p.2:=by
 obtain ⟨b,hb,e⟩:=List.mem_filterMap.mp hp
 cases q:h.get? b with
 | none=>rw [q] at e; cases e
 | some o =>
  rw [q] at e
  have e':(b,o) = p:=Option.some.inj e
  subst e'
  exact ⟨hb,q⟩
theorem Inv.pinned {pins:List (Addr × Obj)} {σ:St} {H:Hp} {s:Shared} {fp:List Addr} (I:Inv X pins σ H s) (hf:∀ b ∈ fp,FpOk X pins H b) (ho:∀ b ∈ fp,∃ o,s.heap.get? b = some o /\ ∀ v,o.data ≠ .cell v):Inv X (pins ++ wz fp s.heap) σ H s :=
 I.pins_of fun p hp=>(List.mem_append.mp hp).elim (fun z=>I.pin p (List.mem_append_right _ z)) fun z=>by
  obtain ⟨hb,e⟩:=Z3 z
  obtain ⟨f0,f1,f2,_⟩:=hf p.1 hb
  obtain ⟨o,e',d⟩:=ho p.1 hb
  rw [e] at e'; cases e'
  exact ⟨e,f0,f1,f2,d⟩
theorem Inv.unpinned {pins pl:List (Addr × Obj)} {σ:St} {H:Hp} {s:Shared} (I:Inv X (pins ++ pl) σ H s):Inv X pins σ H s:=I.pins_of fun p hp=>I.pin p (List.mem_append_right _ (List.mem_append_left _ hp))
theorem xf {iter:Expr} {body:List Stmt} {wi:TI} {g:TG} {tb:TS} {pos:Pos} (hp:PassesOwn (model X.prog X.w) X.A X.env X.xe) (hc:X.calm = true) (hi:PI X tg iter wi) (hg:PG X tg g) (hb:PSs X body tb)
  (hs:∀ x,foldedSetIterable iter X.env x = pure x:=by intro _; rfl):PS X (.For tg iter body [] pos) (tFor wi g tb):=by
 intro pins s σ H D I h
 refine wpAny_For (thn (hi pins s σ H _ I h) fun v s1 h1=>thn h1 fun itv s2 h2=>?_) hs
 obtain ⟨it,fp,tn,J,H2,e,I2,T,st2,f2,W,⟨m0,w0⟩,turn⟩:=h2
 subst e
 -- what stays true of the iterator's objects through the loop
 have stat:∀ {H':Hp},(∀ b ∈ fp,H' b = none) -> ∀ b ∈ fp,FpOk X pins H' b:=fun hn b hb=>⟨hn b hb,(f2 b hb).2⟩
 refine codeAny_forLoop_any (fun n s'=>∃ i σ' H',Inv X pins σ' H' s' /\ tn i s'.heap /\ (∀ b ∈ fp,H' b = none) /\ W i n σ' H') ?_ m0 ⟨0,σ,H2,I2,st2,fun b hb=>(f2 b hb).1,w0⟩
 rintro n s3 ⟨i,σ3,H3,I3,st3,fr3,w3⟩
 rcases turn i n σ3 H3 w3 with ⟨stop,qn⟩ | ⟨go,N,hN,step⟩
 ·refine wpAny_passesOwn hp (thn (T.done X rfl rfl rfl hc i pins s3 σ3 H3 X.xe I3 (stat fr3) st3 stop) fun r s4 ⟨hr,I4⟩=>?_)
  subst hr
  exact wpAny_execs_nil ⟨σ3,H3,I4,qn⟩
 ·refine wpAny_passesOwn hp (thn (T.item X rfl rfl rfl hc i pins s3 σ3 H3 X.xe I3 (stat fr3) st3 go) fun r s4 ⟨u,hr,h4⟩=>?_)
  subst hr
  refine wpAny_passesOwn hp (thn h4 fun _ s5 ⟨x,H5,I5,r5,y5,st5,fr5⟩=>?_)
  have I5':=I5.pinned (stat fr5) (T.obj _ _ st5)
  refine wpAny_passesOwn hp (thn (hg _ s5 σ3 H5 x u _ I5' r5 (step x H5 y5)) fun _ s6 ⟨σ6,H6,I6,q6⟩=>?_)
  refine wpAny_passesOwn hp (thn (hb _ s6 σ6 H6 _ I6 q6) fun f s7 q7=>?_)
  have again:∀ {σ7:St} {H7:Hp},Inv X (pins ++ wz fp s5.heap) σ7 H7 s7 -> N σ7 H7 -> ∃ m,m < n /\ ∃ i σ' H',Inv X pins σ' H' s7 /\ tn i s7.heap /\ (∀ b ∈ fp,H' b = none) /\ W i m σ' H':=fun {σ7 H7} I7 n7=>by
   obtain ⟨m',hm,w7⟩:=hN σ7 H7 n7
   refine ⟨m',hm,i + 1,σ7,H7,I7.unpinned,T.keep _ _ _ st5 fun b hb o e=>(I7.pin (b,o) (List.mem_append_right _ (List.mem_append_right _ (yf hb e)))).1,fun b hb=>?_,w7⟩
   obtain ⟨o,e,d⟩:=T.obj _ _ st5 b hb
   exact (I7.pin (b,o) (List.mem_append_right _ (List.mem_append_right _ (yf hb e)))).2.1
  cases f with
  | next=>obtain ⟨σ7,H7,I7,n7⟩:=q7; exact again I7 n7
  | cont=>obtain ⟨σ7,H7,I7,n7⟩:=q7; exact again I7 n7
  | brk=>obtain ⟨σ7,H7,I7,q7⟩:=q7; exact ⟨σ7,H7,I7.unpinned,q7⟩
  | ret v=>obtain ⟨x7,σ7,H7,I7,r7,q7⟩:=q7; exact ⟨x7,σ7,H7,I7.unpinned,r7,q7⟩
end
theorem tV {K:FG7} {a:Addr} {xs:List V} {g:TG} {tb:TS} {D:Ends} {σ:St} {H:Hp} (Pv:Nat -> St -> Hp -> Prop) (h0:Pv 0 σ H) (hl:∀ i σ H,i <= xs.length -> Pv i σ H -> SqT K H a xs)
  (hs:∀ i x σ H,xs[i]? = some x -> Pv i σ H -> g x σ H fun σ2 H2=>tb { D with nx:=Pv (i + 1),ct:=Pv (i + 1),bk:=D.nx } σ2 H2) (hd:∀ σ H,Pv xs.length σ H -> D.nx σ H) :
  ∃ W:Nat -> Nat -> St -> Hp -> Prop,(∃ m,W 0 m σ H) /\ ∀ i m σ H,W i m σ H →
   ((Itt K a).stop i H /\ D.nx σ H) \/ ((Itt K a).go i H /\ ∃ N:St -> Hp -> Prop,(∀ σ' H',N σ' H' -> ∃ m',m' < m /\ W (i + 1) m' σ' H') /\ ∀ x H',(Itt K a).yld i H x H' -> g x σ H' fun σ2 H2=>tb { D with nx:=N,ct:=N,bk:=D.nx } σ2 H2):=by
 refine ⟨fun i m σ H=>m = xs.length - i /\ i <= xs.length /\ Pv i σ H,⟨xs.length,by simp,Nat.zero_le _,h0⟩,?_⟩
 rintro i m σ H ⟨rfl,hi,p⟩
 have q:=hl i σ H hi p
 by_cases hlt:i < xs.length
 ·refine .inr ⟨⟨xs,xs[i],q,by simp [hlt]⟩,Pv (i + 1),fun σ' H' p'=>⟨xs.length - (i + 1),by omega,rfl,hlt,p'⟩,fun x H' y=>?_⟩
  obtain ⟨e,y⟩:=y
  subst e
  exact hs i x σ _ (y xs q) p
 ·have e:i = xs.length:=by omega
  subst e
  exact .inl ⟨⟨xs,q,Nat.le_refl _⟩,hd σ H p⟩
theorem xZ {lo:Int} {n:Nat} {g:TG} {tb:TS} {D:Ends} {σ:St} {H:Hp} (Pv:Nat -> St -> Hp -> Prop) (h0:Pv 0 σ H)
  (hs:∀ i σ H,i < n -> Pv i σ H -> g (.int (lo + i)) σ H fun σ2 H2=>tb { D with nx:=Pv (i + 1),ct:=Pv (i + 1),bk:=D.nx } σ2 H2) (hd:∀ σ H,Pv n σ H -> D.nx σ H) :
  ∃ W:Nat -> Nat -> St -> Hp -> Prop,(∃ m,W 0 m σ H) /\ ∀ i m σ H,W i m σ H →
   ((Itr lo n).stop i H /\ D.nx σ H) \/ ((Itr lo n).go i H /\ ∃ N:St -> Hp -> Prop,(∀ σ' H',N σ' H' -> ∃ m',m' < m /\ W (i + 1) m' σ' H') /\ ∀ x H',(Itr lo n).yld i H x H' -> g x σ H' fun σ2 H2=>tb { D with nx:=N,ct:=N,bk:=D.nx } σ2 H2):=by
 refine ⟨fun i m σ H=>m = n - i /\ i <= n /\ Pv i σ H,⟨n,by simp,Nat.zero_le _,h0⟩,?_⟩
 rintro i m σ H ⟨rfl,hi,p⟩
 by_cases hlt:i < n
 ·refine .inr ⟨hlt,Pv (i + 1),fun σ' H' p'=>⟨n - (i + 1),by omega,rfl,hlt,p'⟩,fun x H' y=>?_⟩
  obtain ⟨e,y⟩:=y
  subst e y
  exact hs i σ _ hlt p
 ·have e:i = n:=by omega
  subst e
  exact .inl ⟨Nat.le_refl _,hd σ H p⟩
end L2
namespace L2
open PySem PySem.Spec PyProof.Rows
abbrev R2:=V -> V -> Hp -> VK -> Prop
def OpR (X:Cx) (f:Value -> Value -> Sem Value) (r:R2):Prop :=
 ∀ (pins:List (Addr × Obj)) (s:Shared) (σ:St) (H:Hp) (x y:V) (v u:Value) (Q:VK),Inv X pins σ H s -> RelV x v -> RelV y u -> r x y H Q →
  wpAny (model X.prog X.w) X.A (f v u) (EP X pins σ Q) X.xe s
def UnR (X:Cx) (f:Value -> Sem Value) (r:V -> Hp -> VK -> Prop):Prop :=
 ∀ (pins:List (Addr × Obj)) (s:Shared) (σ:St) (H:Hp) (x:V) (v:Value) (Q:VK),Inv X pins σ H s -> RelV x v -> r x H Q →
  wpAny (model X.prog X.w) X.A (f v) (EP X pins σ Q) X.xe s
def wI (X:Cx) (f:Value) (r:List V -> Hp -> VK -> Prop):Prop :=
 ∀ (pins:List (Addr × Obj)) (s:Shared) (σ:St) (H:Hp) (xs:List V) (us:List Value) (Q:VK),Inv X pins σ H s -> Vals xs us -> r xs H Q →
  wpAny (model X.prog X.w) X.A (call f us) (EP X pins σ Q) X.xe s
def TruR (X:Cx) (r:V -> Hp -> (Bool -> Hp -> Prop) -> Prop):Prop :=
 ∀ (pins:List (Addr × Obj)) (s:Shared) (σ:St) (H:Hp) (x:V) (v:Value) (Q:Bool -> Hp -> Prop),Inv X pins σ H s -> RelV x v -> r x H Q →
  wpAny (model X.prog X.w) X.A (truthy v) (TP X pins σ Q) X.xe s
def tOp (r:R2) (ta tb:TE):TE:=fun σ H Q=>ta σ H fun x H1=>tb σ H1 fun y H2=>r x y H2 Q
def tUn (r:V -> Hp -> VK -> Prop) (ta:TE):TE:=fun σ H Q=>ta σ H fun x H1=>r x H1 Q
def rI (C:Int -> Int -> Prop) (g:Int -> Int -> V):R2:=fun x y H Q=>∃ i j,x = .int i /\ y = .int j /\ C i j /\ Q (g i j) H
def rI0 (g:Int -> Int -> V):R2:=fun x y H Q=>∃ i j,x = .int i /\ y = .int j /\ Q (g i j) H
def rU (g:Int -> V):V -> Hp -> VK -> Prop:=fun x H Q=>∃ i,x = .int i /\ Q (g i) H
section
variable {X:Cx} {a b c:Expr} {ta tb tc:TE} {pos:Pos}
theorem binT (ha:PE X a ta) (hb:PE X b tb) {pins:List (Addr × Obj)} {s:Shared} {σ:St} {H:Hp} {R:V -> V -> Hp -> Prop} (I:Inv X pins σ H s)
  (h:ta σ H fun x H1=>tb σ H1 fun y H2=>R x y H2) {Q:VS7} {f:Value -> Value -> Sem Value}
  (hf:∀ v u s2 x y H2,Inv X pins σ H2 s2 -> RelV x v -> RelV y u -> R x y H2 -> wpAny (model X.prog X.w) X.A (f v u) Q X.xe s2) :
  wpAny (model X.prog X.w) X.A (eval a X.env) (fun v s₁=>wpAny (model X.prog X.w) X.A (eval b X.env) (fun u s₂=>wpAny (model X.prog X.w) X.A (f v u) Q X.xe s₂) X.xe s₁) X.xe s:=by
 refine thn (ha pins s σ H _ I h) fun v s1 ⟨x,H1,I1,r1,q1⟩=>?_
 refine thn (hb pins s1 σ H1 _ I1 q1) fun u s2 ⟨y,H2,I2,r2,q2⟩=>?_
 exact hf v u s2 x y H2 I2 r1 r2 q2
theorem zA {op:Operator} {r:R2} (ho:OpR X (binaryOp op) r) (ha:PE X a ta) (hb:PE X b tb):PE X (.BinOp a op b pos) (tOp r ta tb):=by
 intro pins s σ H Q I h
 exact wpAny_BinOp (binT ha hb I h fun v u s2 x y H2 I2 rx ry q=>ho pins s2 σ H2 x y v u Q I2 rx ry q)
theorem W5 {op:UnaryOp} {r:V -> Hp -> VK -> Prop} (ho:UnR X (unaryOp op) r) (ha:PE X a ta):PE X (.UnaryOp op a pos) (tUn r ta):=by
 intro pins s σ H Q I h
 exact UnaryOp_ (thn (ha pins s σ H _ I h) fun v s1 ⟨x,H1,I1,r1,q1⟩=>ho pins s1 σ H1 x v Q I1 r1 q1)
theorem opI {f:Value -> Value -> Sem Value} {C:Int -> Int -> Prop} {g:Int -> Int -> Int}
  (rule:∀ (i j:Int) (t u:Tok) (s:Shared) (Q:VS7) (E:VS7),C i j -> Q (.int (g i j) s.toks) { s with toks:=s.toks + 1 } -> wpAny (model X.prog X.w) X.A (f (.int i t) (.int j u)) Q E s) :
  OpR X f (rI C fun i j=>.int (g i j)):=by
 intro pins s σ H x y v u Q I rx ry h
 obtain ⟨i,j,rfl,rfl,hc,q⟩:=h
 obtain ⟨t,rfl⟩:=rx
 obtain ⟨t',rfl⟩:=ry
 exact rule i j t t' s _ _ hc ⟨.int (g i j),H,I.tok _,⟨_,rfl⟩,q⟩
theorem opI0 {f:Value -> Value -> Sem Value} {g:Int -> Int -> Int}
  (rule:∀ (i j:Int) (t u:Tok) (s:Shared) (Q:VS7) (E:VS7),Q (.int (g i j) s.toks) { s with toks:=s.toks + 1 } -> wpAny (model X.prog X.w) X.A (f (.int i t) (.int j u)) Q E s) :
  OpR X f (rI0 fun i j=>.int (g i j)):=by
 intro pins s σ H x y v u Q I rx ry h
 obtain ⟨i,j,rfl,rfl,q⟩:=h
 obtain ⟨t,rfl⟩:=rx
 obtain ⟨t',rfl⟩:=ry
 exact rule i j t t' s _ _ ⟨.int (g i j),H,I.tok _,⟨_,rfl⟩,q⟩
theorem opB0 {f:Value -> Value -> Sem Value} {g:Int -> Int -> Bool}
  (rule:∀ (i j:Int) (t u:Tok) (s:Shared) (Q:VS7) (E:VS7),Q (.bool (g i j)) s -> wpAny (model X.prog X.w) X.A (f (.int i t) (.int j u)) Q E s) :
  OpR X f (rI0 fun i j=>.bl (g i j)):=by
 intro pins s σ H x y v u Q I rx ry h
 obtain ⟨i,j,rfl,rfl,q⟩:=h
 obtain ⟨t,rfl⟩:=rx
 obtain ⟨t',rfl⟩:=ry
 exact rule i j t t' s _ _ ⟨.bl (g i j),H,I,rfl,q⟩
def CPow (i j:Int):Prop:=0 <= j /\ j <= 1000000 /\ i.natAbs < 2 ^ 64
theorem Zh (k:Nat):(0:Int) <= 2 ^ k:=by
 rw [two_pow_cast]
 exact Int.natCast_nonneg _
theorem xt:OpR X (binaryOp .Add) (rI0 fun i j=>.int (i + j)):=opI0 fun _ _ _ _ _ _ _ q=>add_int q
theorem yH:OpR X (binaryOp .Sub) (rI0 fun i j=>.int (i - j)):=opI0 fun _ _ _ _ _ _ _ q=>sub_int q
theorem wA:OpR X (binaryOp .Mod) (rI (fun _ j=>0 < j) fun i j=>.int (i % j)):=opI fun i j _ _ _ _ _ hc q=>by
 have h1:(0:Int) < j:=hc
 exact mod_int' (by omega) (by rw [Int.fmod_eq_emod_of_nonneg i (by omega)]; exact q)
theorem sX:OpR X (binaryOp .Pow) (rI CPow fun i j=>.int (i ^ j.toNat)):=opI fun _ _ _ _ _ _ _ hc q=>pow_int_small hc.1 hc.2.1 hc.2.2 q
theorem ua:OpR X (binaryOp .LShift) (rI CPow fun i j=>.int (i * 2 ^ j.toNat)):=opI fun _ _ _ _ _ _ _ hc q=>lshift_int_small hc.1 hc.2.1 hc.2.2 q
theorem Z4:OpR X (binaryOp .RShift) (rI (fun _ j=>0 <= j) fun i j=>.int (i / 2 ^ j.toNat)):=opI fun i j _ _ _ _ _ hc q =>
 rshift_int hc (by rw [Int.fdiv_eq_ediv_of_nonneg i (Zh _)]; exact q)
theorem Z5:OpR X (binaryOp .BitAnd) (rI0 fun i j=>.int (Builtin.bitAnd i j)):=opI0 fun _ _ _ _ _ _ _ q=>and_int q
theorem Td:OpR X (binaryOp .BitOr) (rI0 fun i j=>.int (Builtin.bitOr i j)):=opI0 fun _ _ _ _ _ _ _ q=>or_int q
theorem Wy:OpR X (binaryOp .BitXor) (rI0 fun i j=>.int (Builtin.bitXor i j)):=opI0 fun _ _ _ _ _ _ _ q=>xor_int q
theorem unI {f:Value -> Sem Value} {g:Int -> Int}
  (rule:∀ (i:Int) (t:Tok) (s:Shared) (Q:VS7) (E:VS7),Q (.int (g i) s.toks) { s with toks:=s.toks + 1 } -> wpAny (model X.prog X.w) X.A (f (.int i t)) Q E s) :
  UnR X f (rU fun i=>.int (g i)):=by
 intro pins s σ H x v Q I rx h
 obtain ⟨i,rfl,q⟩:=h
 obtain ⟨t,rfl⟩:=rx
 exact rule i t s _ _ ⟨.int (g i),H,I.tok _,⟨_,rfl⟩,q⟩
theorem Z6:UnR X (unaryOp .USub) (rU fun i=>.int (-i)):=unI fun _ _ _ _ _ q=>neg_int q
end
def scal:V -> V -> Bool
 | .non,.non=>true | .non,.int _=>true | .int _,.non=>true | .non,.bl _=>true | .bl _,.non=>true | .non,.str _=>true | .str _,.non=>true
 | .int _,.int _=>true | .bl _,.bl _=>true | .str _,.str _=>true | .byt _,.byt _=>true
 | .int _,.str _=>true | .str _,.int _=>true | .bl _,.str _=>true | .str _,.bl _=>true
 | _,_=>false
def rEq:R2:=fun x y H Q=>scal x y = true /\ Q (.bl (decide (x = y))) H
def rNe:R2:=fun x y H Q=>scal x y = true /\ Q (.bl (!decide (x = y))) H
theorem Z7 {i j:Int}:decide (V.int i = V.int j) = (i == j):=by
 rw [Bool.eq_iff_iff]
 simp
theorem Wz {i j:Bool}:decide (V.bl i = V.bl j) = (i == j):=by
 rw [Bool.eq_iff_iff]
 simp
theorem Z8 {i j:Str}:decide (V.str i = V.str j) = (i == j):=by
 rw [Bool.eq_iff_iff]
 simp
theorem Z9 {i j:Array UInt8}:decide (V.byt i = V.byt j) = (i.toList == j.toList):=by
 rw [Bool.eq_iff_iff]
 cases i
 cases j
 simp
section
variable {X:Cx} {a b c:Expr} {ta tb tc:TE} {pos:Pos}
theorem zS {pins:List (Addr × Obj)} {σ:St} {H:Hp} {s:Shared} {Q:VK} {k k':Bool} (I:Inv X pins σ H s) (q:Q (.bl k) H) (e:k = k'):EP X pins σ Q (.bool k') s:=by
 subst e
 exact ⟨.bl k,H,I,rfl,q⟩
theorem xV:OpR X (compareOp .Eq) rEq:=by
 intro pins s σ H x y v u Q I rx ry h
 obtain ⟨hs,q⟩:=h
 cases x with
 | non =>
  cases rx
  cases y with
  | non=>cases ry; exact PySem.EqNone.eq_none_none (zS I q (by simp))
  | bl j=>cases ry; exact PySem.EqNone.eq_none_bool (zS I q (by simp))
  | int j=>obtain ⟨t',rfl⟩:=ry; exact PySem.EqNone.eq_none_int (zS I q (by simp))
  | str j=>obtain ⟨t',rfl⟩:=ry; exact PySem.EqNone.eq_none_str (zS I q (by simp))
  | _=>exact absurd (show false = true from hs) Bool.false_ne_true
 | bl i =>
  cases rx
  cases y with
  | non=>cases ry; exact PySem.EqNone.eq_bool_none (zS I q (by simp))
  | bl j=>cases ry; exact eq_bool (zS I q Wz)
  | str j=>obtain ⟨t',rfl⟩:=ry; exact PySem.EqMixed.eq_bool_str (zS I q (by simp))
  | _=>exact absurd (show false = true from hs) Bool.false_ne_true
 | int i =>
  obtain ⟨t,rfl⟩:=rx
  cases y with
  | non=>cases ry; exact PySem.EqNone.eq_int_none (zS I q (by simp))
  | int j=>obtain ⟨t',rfl⟩:=ry; exact eq_int (zS I q Z7)
  | str j=>obtain ⟨t',rfl⟩:=ry; exact PySem.EqMixed.eq_int_str (zS I q (by simp))
  | _=>exact absurd (show false = true from hs) Bool.false_ne_true
 | str i =>
  obtain ⟨t,rfl⟩:=rx
  cases y with
  | non=>cases ry; exact PySem.EqNone.eq_str_none (zS I q (by simp))
  | bl j=>cases ry; exact PySem.EqMixed.eq_str_bool (zS I q (by simp))
  | int j=>obtain ⟨t',rfl⟩:=ry; exact PySem.EqMixed.eq_str_int (zS I q (by simp))
  | str j=>obtain ⟨t',rfl⟩:=ry; exact eq_str (zS I q Z8)
  | _=>exact absurd (show false = true from hs) Bool.false_ne_true
 | byt i =>
  obtain ⟨t,rfl⟩:=rx
  cases y with
  | byt j=>obtain ⟨t',rfl⟩:=ry; exact PySem.W.eq_bytes (zS I q Z9)
  | _=>exact absurd (show false = true from hs) Bool.false_ne_true
 | _=>cases y <;> exact absurd (show false = true from hs) Bool.false_ne_true
theorem sY:OpR X (compareOp .NotEq) rNe:=by
 intro pins s σ H x y v u Q I rx ry h
 obtain ⟨hs,q⟩:=h
 cases x with
 | non =>
  cases rx
  cases y with
  | non=>cases ry; exact PySem.EqNone.ne_none_none (zS I q (by simp))
  | bl j=>cases ry; exact PySem.EqNone.ne_none_bool (zS I q (by simp))
  | int j=>obtain ⟨t',rfl⟩:=ry; exact PySem.EqNone.ne_none_int (zS I q (by simp))
  | str j=>obtain ⟨t',rfl⟩:=ry; exact PySem.EqNone.ne_none_str (zS I q (by simp))
  | _=>exact absurd (show false = true from hs) Bool.false_ne_true
 | bl i =>
  cases rx
  cases y with
  | non=>cases ry; exact PySem.EqNone.ne_bool_none (zS I q (by simp))
  | bl j=>cases ry; exact ne_bool (zS I q (congrArg not Wz))
  | str j=>obtain ⟨t',rfl⟩:=ry; exact PySem.EqMixed.ne_bool_str (zS I q (by simp))
  | _=>exact absurd (show false = true from hs) Bool.false_ne_true
 | int i =>
  obtain ⟨t,rfl⟩:=rx
  cases y with
  | non=>cases ry; exact PySem.EqNone.ne_int_none (zS I q (by simp))
  | int j=>obtain ⟨t',rfl⟩:=ry; exact ne_int (zS I q (congrArg not Z7))
  | str j=>obtain ⟨t',rfl⟩:=ry; exact PySem.EqMixed.ne_int_str (zS I q (by simp))
  | _=>exact absurd (show false = true from hs) Bool.false_ne_true
 | str i =>
  obtain ⟨t,rfl⟩:=rx
  cases y with
  | non=>cases ry; exact PySem.EqNone.ne_str_none (zS I q (by simp))
  | bl j=>cases ry; exact PySem.EqMixed.ne_str_bool (zS I q (by simp))
  | int j=>obtain ⟨t',rfl⟩:=ry; exact PySem.EqMixed.ne_str_int (zS I q (by simp))
  | str j=>obtain ⟨t',rfl⟩:=ry; exact ne_str (zS I q (congrArg not Z8))
  | _=>exact absurd (show false = true from hs) Bool.false_ne_true
 | byt i =>
  obtain ⟨t,rfl⟩:=rx
  cases y with
  | byt j=>obtain ⟨t',rfl⟩:=ry; exact PySem.W.ne_bytes (zS I q (congrArg not Z9))
  | _=>exact absurd (show false = true from hs) Bool.false_ne_true
 | _=>cases y <;> exact absurd (show false = true from hs) Bool.false_ne_true
theorem XQ:OpR X (compareOp .Lt) (rI0 fun i j=>.bl (decide (i < j))):=opB0 fun _ _ _ _ _ _ _ q=>lt_int q
theorem Zi:OpR X (compareOp .LtE) (rI0 fun i j=>.bl (decide (i <= j))):=opB0 fun _ _ _ _ _ _ _ q=>le_int q
theorem V9:OpR X (compareOp .Gt) (rI0 fun i j=>.bl (decide (j < i))):=opB0 fun _ _ _ _ _ _ _ q=>gt_int q
theorem Te:OpR X (compareOp .GtE) (rI0 fun i j=>.bl (decide (j <= i))):=opB0 fun _ _ _ _ _ _ _ q=>ge_int q
theorem zE (b:Expr) {op:CmpOp} (h:op ≠ .In:=by decide) (h2:op ≠ .NotIn:=by decide):behindInMarks op b = false:=by
 have e1:(op == CmpOp.In) = false:=by cases op <;> first | rfl | exact absurd rfl h
 have e2:(op == CmpOp.NotIn) = false:=by cases op <;> first | rfl | exact absurd rfl h2
 cases b <;> simp [behindInMarks,e1,e2]
theorem wJ {op:CmpOp} {r:R2} (ho:OpR X (compareOp op) r) (ha:PE X a ta) (hb:PE X b tb) (hm:behindInMarks op b = false):PE X (.Compare a [op] [b] pos) (tOp r ta tb):=by
 intro pins s σ H Q I h
 exact wpAny_Compare1 (binT ha hb I h fun v u s2 x y H2 I2 rx ry q=>ho pins s2 σ H2 x y v u Q I2 rx ry q) hm
def Ua (t:TE):TT:=fun σ H Q=>t σ H fun x H'=>∃ k,x = .bl k /\ Q k H'
theorem zB {op:CmpOp} {r:R2} (ho:OpR X (compareOp op) r) (ha:PE X a ta) (hb:PE X b tb) (hm:behindInMarks op b = false):PT X (.Compare a [op] [b] pos) (Ua (tOp r ta tb)):=by
 intro pins s σ H Q I h
 refine wpAny_isTrue_Compare1 (thn (ha pins s σ H _ I h) fun v s1 ⟨x,H1,I1,r1,q1⟩=>thn (hb pins s1 σ H1 _ I1 q1) fun u s2 ⟨y,H2,I2,r2,q2⟩ =>
  thn (ho pins s2 σ H2 x y v u _ I2 r1 r2 q2) fun c s3 ⟨z,H3,I3,r3,k,e,q3⟩=>?_) hm
 subst e
 cases r3
 exact wpAny_truthy_bool ⟨H3,I3,q3⟩
def WA (r r':R2) (ta tb tc:TE):TE:=fun σ H Q=>ta σ H fun x H1=>tb σ H1 fun y H2=>r x y H2 fun z H3=>∃ k,z = .bl k ∧
 (if k = true then tc σ H3 fun w' H4=>r' y w' H4 Q else Q (.bl false) H3)
theorem jG {op op':CmpOp} {r r':R2} (ho:OpR X (compareOp op) r) (ho':OpR X (compareOp op') r') (ha:PE X a ta) (hb:PE X b tb) (hc:PE X c tc)
  (hm:lastMarks [op,op'] [b,c] = false:=by with_unfolding_all rfl):PE X (.Compare a [op,op'] [b,c] pos) (WA r r' ta tb tc):=by
 intro pins s σ H Q I h
 refine Compare_chain (thn (ha pins s σ H _ I h) fun v s1 ⟨x,H1,I1,r1,q1⟩=>chain_link (thn (hb pins s1 σ H1 _ I1 q1) fun u s2 ⟨y,H2,I2,r2,q2⟩ =>
  thn (ho pins s2 σ H2 x y v u _ I2 r1 r2 q2) fun d s3 ⟨z,H3,I3,r3,k,e,q3⟩=>?_)) hm
 subst e
 cases r3
 refine wpAny_truthy_bool ?_
 cases k with
 | false=>exact ite_ff ⟨.bl false,H3,I3,rfl,q3⟩
 | true=>exact ite_tt (chain_last (thn (hc pins s3 σ H3 _ I3 q3) fun w' s4 ⟨z',H4,I4,r4,q4⟩=>ho' pins s4 σ H4 y z' u w' Q I4 r2 r4 q4))
theorem XR {op op':CmpOp} {r r':R2} (ho:OpR X (compareOp op) r) (ho':OpR X (compareOp op') r') (ha:PE X a ta) (hb:PE X b tb) (hc:PE X c tc)
  (hm:lastMarks [op,op'] [b,c] = false:=by with_unfolding_all rfl):PT X (.Compare a [op,op'] [b,c] pos) (Ua (WA r r' ta tb tc)):=by
 intro pins s σ H Q I h
 refine isTrue_chain (thn (ha pins s σ H _ I h) fun v s1 ⟨x,H1,I1,r1,q1⟩=>test_link (thn (hb pins s1 σ H1 _ I1 q1) fun u s2 ⟨y,H2,I2,r2,q2⟩ =>
  thn (ho pins s2 σ H2 x y v u _ I2 r1 r2 q2) fun d s3 ⟨z,H3,I3,r3,k,e,q3⟩=>?_)) hm
 subst e
 cases r3
 refine wpAny_truthy_bool ?_
 cases k with
 | false =>
  obtain ⟨k',e',q'⟩:=q3
  cases e'
  exact ite_ff ⟨H3,I3,q'⟩
 | true =>
  refine ite_tt (test_last (thn (hc pins s3 σ H3 _ I3 q3) fun w' s4 ⟨z',H4,I4,r4,q4⟩=>thn (ho' pins s4 σ H4 y z' u w' _ I4 r2 r4 q4) fun d' s5 ⟨z2,H5,I5,r5,k2,e2,q5⟩=>?_))
  subst e2
  cases r5
  exact wpAny_truthy_bool ⟨H5,I5,q5⟩
def TruV (K:FG7) (x:V) (H:Hp) (k:Bool):Prop :=
 match x with
 | .non=>k = false
 | .bl b=>k = b
 | .int i=>k = (i != 0)
 | .str y=>y.length <= sizeLine /\ k = ((y.length:Int) != 0)
 | .byt y=>y.size <= sizeLine /\ k = ((y.size:Int) != 0)
 | .ref p=>(∃ xs,SqL K H p xs /\ k = !xs.isEmpty) \/ (∃ xs,SqT K H p xs /\ k = !xs.isEmpty) \/ ∃ kvs,H p = some (.dK kvs) /\ k = !kvs.isEmpty
 | _=>False
theorem Zj {κ:Type} {kvs:List (κ × V)} {vs:List (κ × Value)} (r:KV kvs vs):(!vs.isEmpty) = !kvs.isEmpty:=by
 cases r <;> rfl
theorem uX {xs:List V} {its:List Value} (r:Vals xs its):(!its.toArray.isEmpty) = !xs.isEmpty:=by
 cases r <;> simp
theorem uY:(sizeLine:Nat) < 2 ^ 63:=by rw [sizeLine_eq]; decide
theorem Ub:TruR X (fun x H Q=>∃ k,TruV X.K x H k /\ Q k H):=by
 intro pins s σ H x v Q I rx h
 obtain ⟨k,e,q⟩:=h
 have hl:=uY
 have hs:sizeLine = 16777216:=sizeLine_eq
 cases x with
 | non =>
  cases rx
  have e':k = false:=e
  subst e'
  exact truthy_none ⟨H,I,q⟩
 | bl b =>
  cases rx
  have e':k = b:=e
  subst e'
  exact wpAny_truthy_bool ⟨H,I,q⟩
 | int i =>
  obtain ⟨t,rfl⟩:=rx
  have e':k = (i != 0):=e
  subst e'
  exact PySem.P.truthy_int ⟨H,I,q⟩
 | str y =>
  obtain ⟨t,rfl⟩:=rx
  obtain ⟨hy,e'⟩:y.length <= sizeLine /\ k = ((y.length:Int) != 0):=e
  subst e'
  exact PySem.P.truthy_str (by omega) ⟨H,I.tok _,q⟩
 | byt y =>
  obtain ⟨t,rfl⟩:=rx
  obtain ⟨hy,e'⟩:y.size <= sizeLine /\ k = ((y.size:Int) != 0):=e
  subst e'
  exact PySem.W.truthy_bytes (by omega) ⟨H,I.tok _,q⟩
 | ref p =>
  cases rx
  have e':(∃ xs,SqL X.K H p xs /\ k = !xs.isEmpty) \/ (∃ xs,SqT X.K H p xs /\ k = !xs.isEmpty) \/ ∃ kvs,H p = some (.dK kvs) /\ k = !kvs.isEmpty:=e
  rcases e' with ⟨xs,hx,e'⟩ | ⟨xs,hx,e'⟩ | ⟨kvs,hx,e'⟩
  ·subst e'
   obtain ⟨its,r,pl,hz⟩:=I.list hx
   have hlen:=r.length
   exact wpAny_truthy_list pl.isList (by simp only [List.size_toArray]; omega) ⟨H,I.tok _,by rw [uX r]; exact q⟩
  ·subst e'
   obtain ⟨its,r,pl,hz⟩:=I.tuple hx
   have hlen:=r.length
   exact truthy_tuple pl (by simp only [List.size_toArray]; omega) ⟨H,I.tok _,by rw [uX r]; exact q⟩
  ·subst e'
   obtain ⟨hz,hS,vs,r,m⟩:kvs.length <= sizeLine /\ (p == sysModules) = false /\ ∃ vs,KV kvs vs /\ s.heap.DictOf (zM X.prog X.w) p vs:=I.hok p _ hx
   have hlen:kvs.length = vs.length:=Paired.length r
   exact wpAny_truthy_dict hS m (by omega) ⟨H,I.tok _,by rw [Zj r]; exact q⟩
 | _=>exact (show False from e).elim
theorem XS (ha:PE X a ta) (he:∀ whole,isTrue a X.env whole = (do let v ← whole; standAt a.pos; holding [v] (truthy v))) :
  PT X a (fun σ H Q=>ta σ H fun x H'=>∃ k,TruV X.K x H' k /\ Q k H'):=by
 intro pins s σ H Q I h
 exact isTrue_plain (thn (ha pins s σ H _ I h) fun v s1 ⟨x,H1,I1,r1,q1⟩=>Ub pins s1 σ H1 x v Q I1 r1 q1) (he _)
theorem tW {x:V} {us:List Value} (r:Vals [x] us):∃ u,us = [u] /\ RelV x u:=by
 cases r with
 | cons r1 r2=>cases r2; exact ⟨_,rfl,r1⟩
theorem Ya {x y:V} {us:List Value} (r:Vals [x,y] us):∃ u w',us = [u,w'] /\ RelV x u /\ RelV y w':=by
 cases r with
 | cons r1 r2 =>
  cases r2 with
  | cons r3 r4=>cases r4; exact ⟨_,_,rfl,r1,r3⟩
theorem ub (hc:X.calm = true):wI X (.builtin "max") (fun xs H Q=>∃ i j,xs = [.int i,.int j] /\ Q (.int (if j > i then j else i)) H):=by
 intro pins s σ H xs us Q I r h
 obtain ⟨i,j,rfl,q⟩:=h
 obtain ⟨u,w',rfl,⟨t,rfl⟩,⟨t',rfl⟩⟩:=Ya r
 refine max_two_ints (I.ok.hd hc) fun h' tk k=>⟨_,H,I.kept k,?_,q⟩
 by_cases hj:j > i
 ·rw [if_pos hj,if_pos hj]; exact ⟨_,rfl⟩
 ·rw [if_neg hj,if_neg hj]; exact ⟨_,rfl⟩
theorem sZ (hc:X.calm = true):wI X (.builtin "min") (fun xs H Q=>∃ i j,xs = [.int i,.int j] /\ Q (.int (if j < i then j else i)) H):=by
 intro pins s σ H xs us Q I r h
 obtain ⟨i,j,rfl,q⟩:=h
 obtain ⟨u,w',rfl,⟨t,rfl⟩,⟨t',rfl⟩⟩:=Ya r
 refine min_two_ints (I.ok.hd hc) fun h' tk k=>⟨_,H,I.kept k,?_,q⟩
 by_cases hj:j < i
 ·rw [if_pos hj,if_pos hj]; exact ⟨_,rfl⟩
 ·rw [if_neg hj,if_neg hj]; exact ⟨_,rfl⟩
end
end L2
namespace L2
open PySem PySem.Spec PyProof.Rows
structure ObjM (h:Heap) (x dx C:Addr) (mA:Str -> Option Value):Prop where
 obj:h.get? x = some (PySem.W.instObj C dx)
 ns:h.Ns1 dx mA
 ne:dx ≠ x
theorem Yb {h:Heap} {dx:Addr} {mA:Str -> Option Value} (n:h.Ns1 dx mA):∃ od,h.get? dx = some od /\ ∀ name,PySem.W.lookIn name od = some (mA name):=by
 obtain ⟨o,es,ep,ho,hd,hk,_,hm⟩:=n
 refine ⟨o,ho,fun name=>?_⟩
 have e:=hm name
 unfold nsFind findBy at e
 rw [← Array.find?_toList] at e
 unfold PySem.W.lookIn
 rw [hd]
 dsimp only
 split
 ·rename_i y q
  rw [q] at e
  exact congrArg some e
 ·rename_i q
  rw [q] at e
  have a:es.toList.any (·.refKey) = false:=by
   rw [List.any_eq_false]
   intro y hy
   obtain ⟨z,t,hkey⟩:=hk y (Array.mem_toList_iff.mp hy)
   simp [DictEntry.refKey,hkey]
  have a':¬ es.toList.any (·.refKey) = true:=by rw [a]; exact Bool.false_ne_true
  rw [if_neg a']
  exact congrArg some e
theorem ObjM.look {h:Heap} {x dx C:Addr} {mA:Str -> Option Value} (I:ObjM h x dx C mA):∃ od,PySem.W.InstAt h x (PySem.W.instObj C dx) C (some od) /\ ∀ name,PySem.W.lookIn name od = some (mA name) :=
 let ⟨od,ho,hl⟩:=Yb I.ns
 ⟨od,⟨I.obj,rfl,rfl,ho⟩,hl⟩
theorem RelO.some_of {v:V} {o:Option Value} (r:RelO (some v) o):∃ u,o = some u /\ RelV v u:=by
 cases o with
 | none=>exact (show False from r).elim
 | some u=>exact ⟨u,rfl,r⟩
section
variable {P:Program} {w:World} {H H':Hp} {h h':Heap} {a C dx:Addr} {fs fs':List (Str × V)}
theorem W6 (hok:HOk P w H h) (e:H a = some (.ins C dx fs)):∃ mA,ObjM h a dx C mA /\ (∀ f,RelO (fs.lookup f) (mA f)) /\ PySem.Within mA (fs.map (·.1)) /\ fs.length <= 1000 /\ H dx = some (.own a):=by
 obtain ⟨d,z,ne,ob,mA,n,r,q⟩:=(show z6 P w H h a (.ins C dx fs) from hok a _ e)
 exact ⟨mA,⟨ob,n,ne⟩,r,q,z,d⟩
end
structure Cls (K:FG7) (C:Addr):Prop where
 pg:PySem.W.plainGet K C Str.empty = true
 hd:PySem.W.hasDictIn K C = true
 po:PySem.W.plainOver K C = true
 sa:PySem.W.findIn K (.ref C) "__setattr__" = some (some (.builtin "object.__setattr__"))
theorem Cls.get {K:FG7} {C:Addr} (c:Cls K C) (f:Str):PySem.W.plainGet K C f = true:=c.pg
section
variable {X:Cx} {pins:List (Addr × Obj)} {σ:St} {H:Hp} {s:Shared} {A:Around} {E:VS7} {Q:VS7} {c:Value} {b:Bool}
inductive TyOf (K:FG7) (H:Hp):V -> Value -> Prop where
 | non:TyOf K H .non (.type "NoneType")
 | bl (x:Bool):TyOf K H (.bl x) (.type "bool")
 | int (i:Int):TyOf K H (.int i) (.type "int")
 | str (x:Str):TyOf K H (.str x) (.type "str")
 | flt (x:UInt64):TyOf K H (.flt x) (.type "float")
 | lst {a:Addr} {xs:List V} (e:H a = some (.lst xs)):TyOf K H (.ref a) (.type "list")
 | frz {a:Addr} {o:Obj} {xs:List V} (e:H a = some (.frz o (.lst xs))):TyOf K H (.ref a) (.type "list")
 | tup {a:Addr} {xs:List V} (e:H a = some (.tup xs)):TyOf K H (.ref a) (.type "tuple")
 | dK {a:Addr} {kvs:List (Key × V)} (e:H a = some (.dK kvs)):TyOf K H (.ref a) (.type "dict")
 | dT {a:Addr} {kvs:List (List Key × V)} (e:H a = some (.dT kvs)):TyOf K H (.ref a) (.type "dict")
 | ins {a C dx:Addr} {fs:List (Str × V)} (e:H a = some (.ins C dx fs)) (cl:Cls K C) (ha:PySem.W.findIn K (.ref C) "__class__" = some (some (.builtin "object.__class__")))
   (hn:PySem.W.specialIn K (.builtin "object.__class__") "__get__" = some (some (.builtin "getset_descriptor.__get__"))) (htk:PySem.W.takesIn K (.builtin "object.__class__") = some true)
   (hm:PySem.W.mroIn K C (.type "object") = some true):TyOf K H (.ref a) (.ref C)
theorem x6 {x:V} {u t:Value} (I:Inv X pins σ H s) (rx:RelV x u) (ty:TyOf X.K H x t) (e:PySem.W.kitOne X.K t c = some b) (h:∀ tk,Q (.bool b) { s with toks:=tk }) :
  wpAny (model X.prog X.w) A (call (.builtin "isinstance") [u,c]) Q E s:=by
 cases ty with
 | non=>cases (show u = Value.none from rx); exact PySem.W.kia_one PySem.W.kitx_none I.kIn True.intro e (fun z=>nomatch z) h
 | bl y=>cases (show u = Value.bool y from rx); exact PySem.W.kia_one PySem.W.kitx_bool I.kIn True.intro e (fun z=>nomatch z) h
 | int i=>obtain ⟨t,q⟩:=(show ∃ t,u = Value.int i t from rx); cases q; exact PySem.W.kia_one PySem.W.kitx_int I.kIn True.intro e (fun z=>nomatch z) h
 | str y=>obtain ⟨t,q⟩:=(show ∃ t,u = Value.str y t from rx); cases q; exact PySem.W.kia_one PySem.W.kitx_str I.kIn True.intro e (fun z=>nomatch z) h
 | flt y=>obtain ⟨t,q⟩:=(show ∃ t,u = Value.float y t from rx); cases q; exact PySem.W.kia_one PySem.W.kitx_float I.kIn True.intro e (fun z=>nomatch z) h
 | @lst a xs ea =>
  cases (show u = Value.ref a from rx)
  obtain ⟨_,_,n,_,h1⟩:=(show z6 X.prog X.w H s.heap a (.lst xs) from I.hok a _ ea)
  exact PySem.W.kia_one PySem.W.kitx_list I.kIn ⟨_,h1,rfl⟩ e (fun z=>nomatch z) h
 | @frz a ob xs ea =>
  cases (show u = Value.ref a from rx)
  obtain ⟨_,_,_,n,_,h1⟩:=(show z6 X.prog X.w H s.heap a (.frz ob (.lst xs)) from I.hok a _ ea)
  exact PySem.W.kia_one PySem.W.kitx_list I.kIn ⟨_,h1,rfl⟩ e (fun z=>nomatch z) h
 | @tup a xs ea =>
  cases (show u = Value.ref a from rx)
  obtain ⟨_,_,_,p⟩:=(show z6 X.prog X.w H s.heap a (.tup xs) from I.hok a _ ea)
  obtain ⟨o,h1,h2,_⟩:=p
  exact PySem.W.kia_one PySem.W.kitx_tuple I.kIn ⟨o,h1,h2⟩ e (fun z=>nomatch z) h
 | @dK a kvs ea =>
  cases (show u = Value.ref a from rx)
  obtain ⟨_,_,vs,_,p⟩:=(show z6 X.prog X.w H s.heap a (.dK kvs) from I.hok a _ ea)
  obtain ⟨o,es,ep,h1,h2,_⟩:=p
  exact PySem.W.kia_one PySem.W.kitx_dict I.kIn ⟨o,h1,h2.1⟩ e (fun z=>nomatch z) h
 | @dT a kvs ea =>
  cases (show u = Value.ref a from rx)
  obtain ⟨_,_,xs,_,o,es,ep,h1,h2,_⟩:=(show z6 X.prog X.w H s.heap a (.dT kvs) from I.hok a _ ea)
  exact PySem.W.kia_one PySem.W.kitx_dict I.kIn ⟨o,h1,h2.1⟩ e (fun z=>nomatch z) h
 | @ins a C dx fs ea cl ha hn htk hm =>
  cases (show u = Value.ref a from rx)
  obtain ⟨mA,O,_⟩:=W6 I.hok ea
  obtain ⟨od,J,_⟩:=O.look
  exact PySem.W.kia_one (PySem.W.kitx_own (cl.get _) cl.hd ha hn htk hm) I.kIn J e (fun z=>nomatch z) h
end
end L2
namespace L2
open PySem PySem.Spec PyProof.Rows
structure Room (k:Nat) (A:Around):Prop where
 hd:A.handled = none
 dp:A.depth + 3 * k + 5 < recursionLimit
 un:A.units + 16 * k + 200 < cLine
 gd:A.guards = some []
theorem Room.mono {j k:Nat} {A:Around} (r:Room k A) (h:j <= k):Room j A:=⟨r.hd,by have:=r.dp; omega,by have:=r.un; omega,r.gd⟩
theorem Room.deeper {k:Nat} {A:Around} (r:Room (k + 1) A) (env:Env):Room k (A.deeper env) :=
 ⟨r.hd,by have:=r.dp; show A.depth + 1 + 3 * k + 5 < _; omega,by have:=r.un; show A.units + 3 + 16 * k + 200 < _; omega,r.gd⟩
theorem Room.depth {k:Nat} {A:Around} (r:Room k A):A.depth < recursionLimit:=by have:=r.dp; omega
theorem Room.units0 {k:Nat} {A:Around} (r:Room k A):A.units < cLine:=by have:=r.un; omega
def tNil:TA:=fun _ H Q=>Q [] H
def Yc (ta:TE) (tr:TA):TA:=fun σ H Q=>ta σ H fun x H1=>tr σ H1 fun xs H2=>Q (x :: xs) H2
section
variable {X:Cx} {e:Expr} {es:List Expr} {te:TE} {t:TA} {pos:Pos}
theorem zb:PA X [] tNil:=fun _ _ _ _ H Q I h=>Calls.spliced_nil ⟨[],H,I,.nil,h⟩
theorem za (ha:PE X e te) (hr:PA X es t) (hs:starEach (e :: es) X.env = (false,eval e X.env) :: starEach es X.env:=by rfl):PA X (e :: es) (Yc te t):=by
 intro pos pins s σ H Q I h
 rw [hs]
 show wpAny _ _ (spliced ((false,eval e X.env) :: backTo pos (starEach es X.env))) _ _ s
 refine Calls.spliced_cons (thn (ha pins s σ H _ I h) fun u s1 ⟨x,H1,I1,r1,q1⟩=>?_)
 exact thn (hr pos pins s1 σ H1 _ I1 q1) fun us s2 ⟨xs,H2,I2,r2,q2⟩=>⟨x :: xs,H2,I2,.cons r1 r2,q2⟩
def tTup (t:TA):TE:=fun σ H Q=>t σ H fun xs H1=>xs.length <= sizeLine /\ ∀ p,H1 p = none -> Q (.ref p) (upd H1 p (.tup xs))
def tLst (t:TA):TE:=fun σ H Q=>t σ H fun xs H1=>xs.length <= sizeLine /\ ∀ p,H1 p = none -> Q (.ref p) (upd H1 p (.lst xs))
theorem zN {x1} (h:PA X es t):PE X (.Tuple es x1 pos) (tTup t):=by
 intro pins s σ H Q I hq
 refine wpAny_Tuple_spliced (thn (h pos pins s σ H _ I hq) fun us s1 ⟨xs,H1,I1,r,z,q⟩=>⟨by rw [← r.length]; exact z,?_⟩)
 have hf:H1 s1.heap.objs.size = none:=I1.hok.fresh (Nat.le_refl _)
 refine ⟨.ref s1.heap.objs.size,upd H1 s1.heap.objs.size (.tup xs),I1.laid (t':=s1.toks) (fun b u e=>Heap.get?_push_of_some _ e) (Nat.le_refl _) ?_,rfl,q _ hf⟩
 exact ⟨z,us,r,⟨_,Heap.get?_push_size _ rfl,rfl,_,rfl⟩⟩
theorem yA (h:PA X es t):PE X (.List es pos) (tLst t):=by
 intro pins s σ H Q I hq
 refine wpAny_List_spliced (thn (h pos pins s σ H _ I hq) fun us s1 ⟨xs,H1,I1,r,z,q⟩=>⟨by rw [← r.length]; exact z,?_⟩)
 have hf:H1 s1.heap.objs.size = none:=I1.hok.fresh (Nat.le_refl _)
 refine ⟨.ref s1.heap.objs.size,upd H1 s1.heap.objs.size (.lst xs),I1.laid (t':=s1.toks) (fun b u e=>Heap.get?_push_of_some _ e) (Nat.le_refl _) ?_,rfl,q _ hf⟩
 exact ⟨z,us,0,r,Heap.get?_push_size _ rfl⟩
end
abbrev Sp:=List V -> Hp -> VK -> XK -> Prop
abbrev CXT:=List Env -> Hp -> Shared -> XK -> Value -> Shared -> Prop
structure Env0 (P:Program) (w:World) (K:FG7) (mg:Str -> Option Value) (base:Heap) (A:Around) (outer:List Env) (s:Shared) (H:Hp):Prop where
 frames:A.frames = some outer
 mod:Mod K mg base
 bs:∀ b o,base.get? b = some o -> s.heap.get? b = some o /\ H b = none
 bsz:base.objs.size <= s.heap.objs.size
 funs:s.heap.FunFrames base outer
 frf:∀ b ∈ frs outer,H b = none
 hok:HOk P w H s.heap
 bare:AllBare s.gens
def CE (outer:List Env) (P:Program) (w:World) (H:Hp) (s:Shared) (Q:VK) (u:Value) (s':Shared):Prop :=
 ∃ v H',s'.os = s.os /\ AllBare s'.gens /\ Un (frs outer) [] H H' s.heap s'.heap /\ HOk P w H' s'.heap /\ RelV v u /\ Q v H'
def CR (CX:CXT) (outer:List Env) (P:Program) (w:World) (H:Hp) (s:Shared) (Q:VK) (E:XK) (r:Result) (s':Shared):Prop :=
 match r with
 | .ok (.ret u)=>CE outer P w H s Q u s'
 | .ok _=>False
 | .error e=>CX outer H s E e s'
structure FnOk (P:Program) (w:World) (K:FG7) (mg:Str -> Option Value) (base:Heap) (CX:CXT) (k:Nat) (f:Addr) (fd:FuncData) (ps:List Str) (sp:Sp):Prop where
 len:∀ vs H Q E,sp vs H Q E -> vs.length = ps.length
 run:∀ (A:Around) (outer:List Env) (s:Shared) (H:Hp) (args:Args) (us:List Value) (vs:List V) (Q:VK) (E:XK),Room k A -> Env0 P w K mg base A outer s H -> BindsTo s fd args (ps.zip us) -> Vals vs us -> sp vs H Q E →
  codeAny (model P w) A (.call (.ref f) args) (CR CX outer P w H s Q E) s
theorem FnOk.mono {P:Program} {w:World} {K:FG7} {mg:Str -> Option Value} {base:Heap} {CX:CXT} {j k:Nat} {f:Addr} {fd:FuncData} {ps:List Str} {sp:Sp} (F:FnOk P w K mg base CX j f fd ps sp) (h:j <= k) :
  FnOk P w K mg base CX k f fd ps sp:=⟨F.len,fun A outer s H args us vs Q E hr=>F.run A outer s H args us vs Q E (hr.mono h)⟩
section
variable {X:Cx} {pins:List (Addr × Obj)} {σ:St} {H:Hp} {s s':Shared}
theorem Inv.env0 (I:Inv X pins σ H s):Env0 X.prog X.w X.K X.mg X.base X.A X.stack s H :=
 ⟨I.ok.frames,I.ok.mod,I.bs,Nat.le_trans I.ok.bsz I.sz,I.stack,I.stkFree,I.hok,I.bare⟩
theorem Inv.after {Q:VK} {u:Value} (I:Inv X pins σ H s) (h:CE X.stack X.prog X.w H s Q u s'):EP X pins σ Q u s':=by
 obtain ⟨v,H',os,bare,un,hok,r,q⟩:=h
 obtain ⟨hh,g,d,t,os'⟩:=s'
 obtain rfl:os' = s.os:=os
 exact ⟨v,H',I.call (h':=hh) (g':=g) (d':=d) (t':=t) (ch:=[]) un hok bare (fun b z=>absurd z (by simp)),r,q⟩
end
def Uc (sp:Sp) (dvs:List V) (E:XK) (t:TA):TE:=fun σ H Q=>t σ H fun vs H1=>sp (vs ++ dvs) H1 Q E
def qM (K:FG7) (fd:FuncData) (ps:List Str) (ds:List Value):Prop :=
 ∀ (s:Shared) (us:List Value),K.In s.heap -> (us ++ ds).length = ps.length -> BindsTo s fd ⟨us,[]⟩ (ps.zip (us ++ ds))
theorem qM.all {K:FG7} {fd:FuncData} {ps:List Str} (h:∀ us:List Value,us.length = ps.length -> bindArgs fd ⟨us,[]⟩ = pure (ps.zip us)):qM K fd ps []:=fun s us _ hl=>by
 rw [List.append_nil] at hl ⊢
 exact .of_eq (h us hl)
def Yd (CX:CXT) (X:Cx) (E:XK):Prop:=∀ (pins:List (Addr × Obj)) (σ:St) (H:Hp) (s:Shared) (e:Value) (s':Shared),Inv X pins σ H s -> CX X.stack H s E e s' -> X.xe e s'
section
variable {X:Cx} {CX:CXT} {k:Nat} {f C:Addr} {fd:FuncData} {ps:List Str} {sp:Sp} {dvs:List V} {ds:List Value} {E:XK} {x m:Str} {p pos apos:Pos} {e o:Expr} {es:List Expr} {ta:TE} {t:TA}
theorem Ud {pins:List (Addr × Obj)} {σ:St} {H:Hp} {s:Shared} {Q:VK} {us:List Value} {vs:List V} (F:FnOk X.prog X.w X.K X.mg X.base CX k f fd ps sp) (hr:Room k X.A) (hb:qM X.K fd ps ds) (hd:Vals dvs ds) (hx:Yd CX X E)
  (I:Inv X pins σ H s) (r:Vals vs us) (h:sp (vs ++ dvs) H Q E):wpAny (model X.prog X.w) X.A (call (.ref f) us) (EP X pins σ Q) X.xe s:=by
 have r2:Vals (vs ++ dvs) (us ++ ds):=r.append hd
 have hl:(us ++ ds).length = ps.length:=by rw [← r2.length]; exact F.len _ _ _ _ h
 refine wpAny_call (codeAny_mono (F.run X.A X.stack s H ⟨us,[]⟩ (us ++ ds) (vs ++ dvs) Q E hr I.env0 (hb s us I.kIn hl) r2 h) fun r s' hq=>?_)
 cases r with
 | error e=>exact hx pins σ H s e s' I hq
 | ok fl =>
  cases fl with
  | ret u=>exact I.after hq
  | next=>exact False.elim hq
  | brk=>exact False.elim hq
  | cont=>exact False.elim hq
theorem W8 (F:FnOk X.prog X.w X.K X.mg X.base CX k f fd ps sp) (hr:Room k X.A) (hg:Gl X x) (hm:X.mg x = some (.ref f)) (hk:PySem.W.keepIn X.K (.ref f) = true) (hb:qM X.K fd ps ds) (hd:Vals dvs ds) (hx:Yd CX X E)
  (ha:PA X (e :: es) t) (hdb:(x == ("__debug__":Str)) = false:=by decide) (he:starEach (e :: es) X.env = (false,eval e X.env) :: starEach es X.env:=by rfl) (hpl:(backTo pos (starEach es X.env)).any (·.1) = false:=by rfl) :
  PE X (.Call (.Name x p) (e :: es) [] pos) (Uc sp dvs E t):=by
 intro pins s σ H Q I h
 refine wpAny_Call_Name_kw (Z0 I hg hm ?_ hdb)
 refine PySem.W.callWith_K (h₀:=X.base) I.ok.mod.kin hk (thn (ha pos pins s σ H _ I h) fun us s1 ⟨vs,H1,I1,r,q⟩=>⟨I1.kIn,?_⟩) he hpl
 exact Ud F hr hb hd hx I1 r q
end
structure FnScope (N P:List Str) (sc:Scope):Prop where
 kind:sc.kind = .function
 co:sc.isCoroutine = false
 gen:sc.isGenerator = false
 nd:N.Nodup
 pre:N.take P.length = P
 par:∀ x ∈ P,sc.names.lookup x = some .local \/ sc.names.lookup x = some .cell
 nofree:∀ y ∈ sc.names,y.2 ≠ .free
theorem s8 {kindOf:Str -> Option NameKind} {x:Str}:∀ {binds:List (Str × Value)} {m:Str -> Option Value},(∀ v,(x,v) ∉ binds) -> bindL kindOf binds m x = m x
 | [],_,_=>rfl
 | (n,v) :: r,m,h=>by
  unfold bindL
  rw [s8 fun w hw=>h w (List.mem_cons_of_mem _ hw)]
  split
  ·have:x ≠ n:=by rintro rfl; exact h v List.mem_cons_self
   simp [this]
  ·rfl
theorem rc {kindOf:Str -> Option NameKind} {x:Str}:∀ {binds:List (Str × Value)} {m:Str -> Option Value},(∀ v,(x,v) ∉ binds) -> bindC kindOf binds m x = m x
 | [],_,_=>rfl
 | (n,v) :: r,m,h=>by
  unfold bindC
  rw [rc fun w hw=>h w (List.mem_cons_of_mem _ hw)]
  split
  ·rfl
  ·have:x ≠ n:=by rintro rfl; exact h v List.mem_cons_self
   simp [this]
theorem re {kindOf:Str -> Option NameKind} {x:Str} {v:Value}:∀ {P:List Str} {vs:List Value} {i:Nat} {m:Str -> Option Value},P.Nodup -> P[i]? = some x -> vs[i]? = some v -> kindOf x = some .local →
  bindL kindOf (P.zip vs) m x = some v
 | [],_,_,_,_,h,_,_=>by simp at h
 | _ :: _,[],_,_,_,_,h,_=>by simp at h
 | p :: P,w :: vs,0,m,nd,h1,h2,hk=>by
  simp at h1 h2; subst h1; subst h2
  show bindL kindOf ((p,w) :: P.zip vs) m p = _
  unfold bindL
  rw [s8 fun v hv=>(List.nodup_cons.mp nd).1 (List.of_mem_zip hv).1,if_pos hk]
  simp
 | p :: P,w :: vs,i + 1,m,nd,h1,h2,hk=>by
  show bindL kindOf ((p,w) :: P.zip vs) m x = _
  unfold bindL
  exact re (i:=i) (List.nodup_cons.mp nd).2 (by simpa using h1) (by simpa using h2) hk
theorem rf {kindOf:Str -> Option NameKind} {x:Str} {v:Value}:∀ {P:List Str} {vs:List Value} {i:Nat} {m:Str -> Option Value},P.Nodup -> P[i]? = some x -> vs[i]? = some v -> kindOf x ≠ some .local →
  bindC kindOf (P.zip vs) m x = some v
 | [],_,_,_,_,h,_,_=>by simp at h
 | _ :: _,[],_,_,_,_,h,_=>by simp at h
 | p :: P,w :: vs,0,m,nd,h1,h2,hk=>by
  simp at h1 h2; subst h1; subst h2
  show bindC kindOf ((p,w) :: P.zip vs) m p = _
  unfold bindC
  rw [rc fun v hv=>(List.nodup_cons.mp nd).1 (List.of_mem_zip hv).1,if_neg hk]
  simp
 | p :: P,w :: vs,i + 1,m,nd,h1,h2,hk=>by
  show bindC kindOf ((p,w) :: P.zip vs) m x = _
  unfold bindC
  exact rf (i:=i) (List.nodup_cons.mp nd).2 (by simpa using h1) (by simpa using h2) hk
def rh (N:List Str) (vs:List V):St:=vs.map some ++ List.replicate (N.length - vs.length) none
def cxOf (CX:CXT) (P:Program) (w:World) (K:FG7) (mg:Str -> Option Value) (base:Heap) (N:List Str) (qual:Str) (scope:Scope) (f:Addr) (cd:Value) (A:Around) (outer:List Env) (s:Shared) (H:Hp) (E:XK):Cx where
 prog:=P
 w:=w
 K:=K
 mg:=mg
 base:=base
 A:=A.deeper (envOfC qual scope s.heap.objs.size f cd)
 N:=N
 s₀:=s
 H₀:=H
 env:=envOfC qual scope s.heap.objs.size f cd
 outer:=outer
 stack:=envOfC qual scope s.heap.objs.size f cd :: outer
 ex:=[]
 calm:=true
 fn:=fun _=>true
 pn:=[]
 xe:=fun e s'=>wpAny (model P w) (A.deeper (envOfC qual scope s.heap.objs.size f cd)) (leaving (envOfC qual scope s.heap.objs.size f cd) e) (fun _ s''=>CX outer H s E e s'') (fun e' s''=>CX outer H s E e' s'') s'
theorem jH {sc:Scope} {n:Nat} {x:Str} (h:sc.names.lookup x = some .cell):∃ c,(cellsFrom n sc.names []).lookup x = some c:=by
 have q:=PySem.W.cellsFrom_some sc.names n [] (.inl h)
 exact Option.isSome_iff_exists.mp q
theorem Ye {CX:CXT} {P:Program} {w:World} {K:FG7} {mg:Str -> Option Value} {base:Heap} {N ps:List Str} {qual:Str} {scope:Scope} {f:Addr} {cd:Value} {A:Around} {outer:List Env} {s s1:Shared} {H:Hp} {E:XK} {us:List Value} {vs:List V}
  (S:FnScope N ps scope) (hd:A.handled = none) (e0:Env0 P w K mg base A outer s H) (hl:vs.length = ps.length) (r:Vals vs us)
  (x:InCallC s s.heap.objs.size (bindL (envOfC qual scope s.heap.objs.size f cd).kindOf (ps.zip us) fun _=>none) (cellsFrom (s.heap.objs.size + 1) scope.names []) (bindC (envOfC qual scope s.heap.objs.size f cd).kindOf (ps.zip us) fun _=>none) s1) :
  Inv (cxOf CX P w K mg base N qual scope f cd A outer s H E) [] (rh N vs) H s1:=by
 have hpl:ps.length <= N.length:=by have:=congrArg List.length S.pre; rw [List.length_take] at this; omega
 obtain ⟨h1,tk,rfl,hk⟩:=x.done
 have noA:∀ b:Addr,b ∉ (cxOf CX P w K mg base N qual scope f cd A outer s H E).ex:=fun b z=>absurd (show b ∈ ([]:List Addr) from z) (by simp)
 refine ⟨⟨e0.mod,S.kind,rfl,rfl,Nat.le_refl _,fun y z c h1 h2=>?_,fun y hy=>?_,fun y c _ h=>?_,fun _=>hd,Around.frames_deeper e0.frames,.inr ⟨rfl,rfl⟩,fun b z=>absurd z (noA b),e0.bs,e0.bsz,fun b _ _=>noA b,fun b z=>absurd z (noA b),e0.funs,e0.frf⟩,
  rfl,e0.bare,Un.kept hk,⟨_,x.toInCall.ns,fun i y v h1 h2 h3=>?_⟩,fun y c h=>⟨_,x.cell y c h⟩,e0.hok.fresh (Nat.le_refl _),fun y c h=>?_,fun p hp=>absurd (show p ∈ ([]:List (Addr × Obj)) from hp) (by simp),e0.hok.kept hk,?_⟩
 ·exact name_of_addr x.apart (PySem.mem_of_lookup h1) (PySem.mem_of_lookup h2)
 ·have hy:scope.names.lookup y = some .cell \/ scope.names.lookup y = some .free:=hy
  rcases hy with hy | hy
  ·exact jH hy
  ·exact absurd rfl (S.nofree _ (PySem.mem_of_lookup hy))
 ·exact Nat.le_of_lt (x.above y c (PySem.mem_of_lookup h))
 ·have hi:i < vs.length:=by
   unfold rh at h2
   by_cases hi:i < vs.length
   ·exact hi
   ·rw [List.getElem?_append_right (by simpa using hi)] at h2
    rw [List.getElem?_replicate] at h2
    split at h2 <;> cases h2
  have ha:vs[i]? = some v:=by
   unfold rh at h2
   rw [List.getElem?_append_left (by simpa using hi),List.getElem?_map] at h2
   cases e:vs[i]? with
   | none=>rw [e] at h2; cases h2
   | some a=>rw [e] at h2; cases h2; rfl
  obtain ⟨u,hu,rv⟩:=r.get ha
  have hp:ps[i]? = some y:=by
   rw [← S.pre,List.getElem?_take_of_lt (by omega)]; exact h1
  have ndP:ps.Nodup:=by rw [← S.pre]; exact S.nd.sublist (List.take_sublist _ _)
  refine ⟨u,rv,?_⟩
  rcases S.par y (List.mem_of_getElem? hp) with k | k
  ·exact .inl ⟨k,re ndP hp hu k⟩
  ·obtain ⟨c,e⟩:=jH (n:=s.heap.objs.size + 1) k
   refine .inr ⟨.inl k,c,e,?_⟩
   have q:=x.cell y c e
   rw [rf ndP hp hu (by show scope.names.lookup y ≠ _; rw [k]; decide)] at q
   exact q
 ·exact e0.hok.fresh (Nat.le_of_lt (x.above y c (PySem.mem_of_lookup h)))
 ·unfold rh
  show _ = N.length
  rw [List.length_append,List.length_map,List.length_replicate]
  omega
theorem Tf {CX:CXT} {P:Program} {w:World} {K:FG7} {mg:Str -> Option Value} {base:Heap} {k:Nat} {f:Addr} {name qual:Str} {params:Arguments} {body:List Stmt} {scope:Scope} {dV kV doc pm cdv ct oc:Value} {an od:Option Addr}
  {osl:Array (Option Value)} {N ps:List Str} {sp:Sp} (lk:K.lookup f = some ⟨oc,od,.func (PySem.W.fnOf name qual params body scope dV kV doc pm an cdv ct),osl⟩) (hcd:PySem.W.codeIn K cdv qual = true) (S:FnScope N ps scope)
  (len:∀ vs H Q E,sp vs H Q E -> vs.length = ps.length)
  (hbody:∀ (A:Around) (outer:List Env) (s:Shared) (H:Hp) (vs:List V) (Q:VK) (E:XK),Room k (A.deeper (envOfC qual scope s.heap.objs.size f cdv)) -> sp vs H Q E →
   ∃ t,PSs (cxOf CX P w K mg base N qual scope f cdv A outer s H E) body t /\ t { nx:=fun _ H'=>Q .non H',rt:=Q } (rh N vs) H) :
  FnOk P w K mg base CX (k + 1) f (PySem.W.fnOf name qual params body scope dV kV doc pm an cdv ct) ps sp:=by
 refine ⟨len,fun A outer s H args us vs Q E hr e0 hb r hsp=>?_⟩
 have hl:=len _ _ _ _ hsp
 have KX:K.In s.heap:=e0.mod.kin.keeps fun b o e=>(e0.bs b o e).1
 have lim:s.heap.NoLimit:=e0.mod.nolimit.keeps fun b o e=>(e0.bs b o e).1
 have hkind:∀ y ∈ ps.zip us,scope.names.lookup y.1 = some .local \/ (scope.names.lookup y.1 = some .cell /\ ((cellsFrom (s.heap.objs.size + 1) scope.names []).lookup y.1).isSome = true):=fun ⟨n,v⟩ hy=>by
  rcases S.par n (List.of_mem_zip hy).1 with q | q
  ·exact .inl q
  ·exact .inr ⟨q,PySem.W.cellsFrom_some _ _ _ (.inl q)⟩
 refine codeAny_call_function hr.depth (KX _ _ lk) rfl S.co S.gen rfl (PySem.W.codeRec_of KX hcd) (hb _ _ _ _ ?_)
 refine wpAny_newFunctionEnv_cells S.kind hkind fun env he s1 x=>?_
 subst he
 refine ⟨lim.keeps x.toInCall.keep,codeAny_func ?_⟩
 obtain ⟨t,ht,hq⟩:=hbody A outer s H vs Q E (hr.deeper _) hsp
 have I:Inv (cxOf CX P w K mg base N qual scope f cdv A outer s H E) [] (rh N vs) H s1:=Ye S hr.hd e0 hl r x
 refine wpAny_mono (ht [] s1 (rh N vs) H _ I hq) (fun fl s' hs=>?_) fun e s' hs=>hs
 have fin:∀ {σ':St} {H':Hp} {v:V} {u:Value},Inv (cxOf CX P w K mg base N qual scope f cdv A outer s H E) [] σ' H' s' -> RelV v u -> Q v H' -> CE outer P w H s Q u s' :=
  fun {σ' H' v u} J rv q=>⟨v,H',J.os,J.bare,J.base,J.hok,rv,q⟩
 cases fl with
 | ret u =>
  obtain ⟨v,σ',H',J,rv,q⟩:=hs
  exact fin J rv q
 | next =>
  obtain ⟨σ',H',J,q⟩:=hs
  exact fin (v:=V.non) (u:=Value.none) J rfl q
 | brk =>
  obtain ⟨_,_,_,q⟩:=hs
  exact False.elim q
 | cont =>
  obtain ⟨_,_,_,q⟩:=hs
  exact False.elim q
end L2
namespace L2
open PySem PySem.Spec PyProof.Rows
section
variable {X:Cx} {x:Str} {p pos:Pos} {e:Expr} {es:List Expr} {t:TA} {id T:String} {r:List V -> Hp -> VK -> Prop}
def tCB (r:List V -> Hp -> VK -> Prop) (t:TA):TE:=fun σ H Q=>t σ H fun vs H1=>r vs H1 Q
theorem zm (hc:wI X (.builtin id) r) (hg:Gl X x) (hm:X.mg x = none) (hv:bootBuiltins x = some (.builtin id)) (ha:PA X (e :: es) t) (hn:x ≠ "__name__":=by decide) (hdb:(x == ("__debug__":Str)) = false:=by decide)
  (he:starEach (e :: es) X.env = (false,eval e X.env) :: starEach es X.env:=by rfl) (hpl:(backTo pos (starEach es X.env)).any (·.1) = false:=by rfl):PE X (.Call (.Name x p) (e :: es) [] pos) (tCB r t):=by
 intro pins s σ H Q I h
 refine wpAny_Call_Name_kw (v8 I hg hm hv ?_ hn hdb)
 exact PyProof.Rows.callWith_builtin1 (thn (ha pos pins s σ H _ I h) fun us s1 ⟨vs,H1,I1,r1,q1⟩=>hc pins s1 σ H1 vs us Q I1 r1 q1) he hpl
theorem zx (hc:wI X (.type T) r) (hg:Gl X x) (hm:X.mg x = none) (hv:bootBuiltins x = some (.type T)) (ha:PA X (e :: es) t) (hn:x ≠ "__name__":=by decide) (hdb:(x == ("__debug__":Str)) = false:=by decide)
  (he:starEach (e :: es) X.env = (false,eval e X.env) :: starEach es X.env:=by rfl) (hpl:(backTo pos (starEach es X.env)).any (·.1) = false:=by rfl):PE X (.Call (.Name x p) (e :: es) [] pos) (tCB r t):=by
 intro pins s σ H Q I h
 refine wpAny_Call_Name_kw (v8 I hg hm hv ?_ hn hdb)
 exact PyProof.Rows.callWith_type1 (thn (ha pos pins s σ H _ I h) fun us s1 ⟨vs,H1,I1,r1,q1⟩=>hc pins s1 σ H1 vs us Q I1 r1 q1) he hpl
end
end L2
namespace HT
open PySem PyProof.Rows
end HT
namespace L2
open PySem PySem.Spec PyProof.Rows
abbrev TO:=St -> Hp -> (Option Int -> Hp -> Prop) -> Prop
end L2
namespace L2
open PySem PySem.Spec PyProof.Rows
def ixN (n:Nat) (i:Int):Option Nat:=if 0 <= i then (if i < n then some i.toNat else none) else if -(n:Int) <= i then some (i + n).toNat else none
def atI {α:Type} (xs:List α) (i:Int):Option α:=(ixN xs.length i).bind fun j=>xs[j]?
theorem Yf {n:Nat} {i:Int} {j:Nat} (h:ixN n i = some j):seqIndex? i n = some j /\ j < n /\ -(n:Int) <= i /\ i < n:=by
 unfold ixN at h
 by_cases h0:0 <= i
 ·rw [if_pos h0] at h
  by_cases h1:i < n
  ·rw [if_pos h1] at h
   have e:i.toNat = j:=Option.some.inj h
   exact ⟨by rw [seqIndex_of h0 h1,e],by omega,by omega,h1⟩
  ·rw [if_neg h1] at h; cases h
 ·rw [if_neg h0] at h
  by_cases h1:-(n:Int) <= i
  ·rw [if_pos h1] at h
   have e:(i + n).toNat = j:=Option.some.inj h
   exact ⟨by rw [seqIndex_neg (by omega) h1,e],by omega,h1,by omega⟩
  ·rw [if_neg h1] at h; cases h
theorem Yg {α:Type} {xs:List α} {i:Int} {v:α} (h:atI xs i = some v):∃ j,seqIndex? i xs.length = some j /\ xs[j]? = some v /\ j < xs.length /\ -(xs.length:Int) <= i /\ i < xs.length:=by
 unfold atI at h
 cases e:ixN xs.length i with
 | none=>rw [e] at h; cases h
 | some j =>
  rw [e] at h
  obtain ⟨h1,h2,h3,h4⟩:=Yf e
  exact ⟨j,h1,h,h2,h3,h4⟩
def W9 (b:Expr):Prop:=∀ o i,subscripted b false o i = operate [o,i] (getItem o i)
def IxR (X:Cx) (r:R2):Prop :=
 ∀ (value slice:Expr) (pins:List (Addr × Obj)) (s:Shared) (σ:St) (H:Hp) (x y:V) (v u:Value) (Q:VK),Inv X pins σ H s -> RelV x v -> RelV y u -> r x y H Q →
  subscripted slice false v u = operate [v,u] (getItem v u) -> wpAny (model X.prog X.w) X.A (subscriptTail value slice v u) (EP X pins σ Q) X.xe s
def MtR (X:Cx) (id:String) (r:V -> List V -> Hp -> VK -> Prop):Prop :=
 ∀ (pins:List (Addr × Obj)) (s:Shared) (σ:St) (H:Hp) (x:V) (xs:List V) (v:Value) (us:List Value) (Q:VK),Inv X pins σ H s -> RelV x v -> Vals xs us -> r x xs H Q →
  wpAny (model X.prog X.w) X.A (call (.builtin id) (v :: us)) (EP X pins σ Q) X.xe s
section
variable {X:Cx} {a b:Expr} {ta tb:TE} {pos:Pos}
theorem zC {r:R2} (hr:IxR X r) (ha:PE X a ta) (hb:PE X b tb) (hs:W9 b):PE X (.Subscript a b pos) (tOp r ta tb):=by
 intro pins s σ H Q I h
 exact Subscript_ (binT ha hb I h fun v u s2 x y H2 I2 rx ry q=>hr a b pins s2 σ H2 x y v u Q I2 rx ry q (hs _ _))
def rIxL (K:FG7):R2:=fun x y H Q=>∃ p xs i v,x = .ref p /\ y = .int i /\ SqL K H p xs /\ atI xs i = some v /\ Q v H
def rIxT (K:FG7):R2:=fun x y H Q=>∃ p xs i v,x = .ref p /\ y = .int i /\ SqT K H p xs /\ atI xs i = some v /\ Q v H
theorem zI:IxR X (rIxL X.K):=by
 intro value slice pins s σ H x y v u Q I rx ry h hs
 obtain ⟨p,xs,i,z,rfl,rfl,hq,he,q⟩:=h
 cases rx
 obtain ⟨t,rfl⟩:=ry
 obtain ⟨its,r,pl,hz⟩:=I.list hq
 obtain ⟨j,h1,h2,h3,h4,h5⟩:=Yg he
 obtain ⟨w,ew,rw'⟩:=r.get h2
 have hl:=r.length
 have hn:=uY
 have fin:EP X pins σ Q w s:=⟨z,H,I,rw',q⟩
 by_cases h0:0 <= i
 ·have hj:i.toNat = j:=by
   rw [seqIndex_of h0 h5] at h1
   exact Option.some.inj h1
  exact item_listR pl.isList h0 (by omega) (by rw [hj]; simpa using ew) fin hs
 ·have hj:(i + (its.toArray.size:Int)).toNat = j:=by
   rw [seqIndex_neg (by omega) h4] at h1
   rw [List.size_toArray,← hl]
   exact Option.some.inj h1
  exact subscriptTail_builtinR (x:=w) pl.isList.typeIs slot_list_getitem.lookup
   (wpAny_getItem_list_neg (Q:=fun r s'=>r = w /\ EP X pins σ Q r s') pl.isList (by omega) (by rw [List.size_toArray] <;> omega) (by omega) (by rw [hj]; simpa using ew) ⟨rfl,fin⟩) hs
theorem zT:IxR X (rIxT X.K):=by
 intro value slice pins s σ H x y v u Q I rx ry h hs
 obtain ⟨p,xs,i,z,rfl,rfl,hq,he,q⟩:=h
 cases rx
 obtain ⟨t,rfl⟩:=ry
 obtain ⟨its,r,pl,hz⟩:=I.tuple hq
 obtain ⟨j,h1,h2,h3,h4,h5⟩:=Yg he
 obtain ⟨w,ew,rw'⟩:=r.get h2
 have hl:=r.length
 have hn:=uY
 have fin:EP X pins σ Q w s:=⟨z,H,I,rw',q⟩
 exact subscriptTail_builtinR (x:=w) pl.typeIs slot_tuple_getitem.lookup
  (getItem_tuple (j:=j) (Q:=fun r s'=>r = w /\ EP X pins σ Q r s') pl (by omega) (by omega) (by rw [List.size_toArray,← hl]; exact h1) (by simpa using ew) ⟨rfl,fin⟩) hs
theorem Zk (its:List Value) (n j:Nat) (u:Value):Obj.mapSeq (·.setIfInBounds j u) { cls:=.type "list",data:=.seq its.toArray n } = { cls:=.type "list",data:=.seq (its.set j u).toArray n }:=by
 simp [Obj.mapSeq]
theorem Inv.lst {pins:List (Addr × Obj)} {σ:St} {H:Hp} {s:Shared} {p:Addr} {xs:List V} (I:Inv X pins σ H s) (h:H p = some (.lst xs)) :
  ∃ (its:List Value) (n:Nat),Vals xs its /\ s.heap.get? p = some { cls:=.type "list",data:=.seq its.toArray n } /\ xs.length <= sizeLine:=by
 obtain ⟨z,its,n,r,e⟩:=I.hok p _ h
 exact ⟨its,n,r,e,z⟩
theorem Inv.lstUpd {pins:List (Addr × Obj)} {σ:St} {H:Hp} {s:Shared} {p:Addr} {xs ys:List V} {its its':List Value} {n n':Nat} {f:Obj -> Obj} (I:Inv X pins σ H s) (h:H p = some (.lst xs))
  (ho:s.heap.get? p = some { cls:=.type "list",data:=.seq its.toArray n }) (hf:f { cls:=.type "list",data:=.seq its.toArray n } = { cls:=.type "list",data:=.seq its'.toArray n' }) (r:Vals ys its') (hz:ys.length <= sizeLine) (t:Nat) :
  Inv X pins σ (upd H p (.lst ys)) { s with heap:=s.heap.update p f,toks:=t }:=by
 have e:(s.heap.update p f).get? p = some { cls:=.type "list",data:=.seq its'.toArray n' }:=by
  rw [Heap.get?_update_self f ho (by rw [hf] <;> rfl),hf]
 refine I.write (x:=p) (e:=p) (by rw [h]; trivial) (.inl rfl) (fun b u hb q=>(Heap.get?_update_other _ _ (Ne.symm hb)).trans q) ⟨_,e⟩ ?_
 exact ⟨hz,its',n',r,e⟩
def Tg:V -> V -> V -> Hp -> (Hp -> Prop) -> Prop:=fun o i v H Q=>∃ p xs k j,o = .ref p /\ i = .int k /\ H p = some (.lst xs) /\ ixN xs.length k = some j /\ Q (upd H p (.lst (xs.set j v)))
theorem wS:PSet X Tg:=by
 intro pins s σ H o i v ov iv u Q I ro ri rv h
 obtain ⟨p,xs,k,j,rfl,rfl,hp,hj,q⟩:=h
 cases ro
 obtain ⟨t,rfl⟩:=ri
 obtain ⟨its,n,r,ho,hz⟩:=I.lst hp
 obtain ⟨h1,h2,h3,h4⟩:=Yf hj
 have hl:=r.length
 have hn:=uY
 have I':Inv X pins σ (upd H p (.lst (xs.set j v))) { s with heap:=s.heap.update p (Obj.mapSeq (·.setIfInBounds j u)) } :=
  I.lstUpd hp ho (Zk its n j u) (r.set rv j) (by rw [List.length_set]; exact hz) s.toks
 by_cases h0:0 <= k
 ·have hk:k.toNat = j:=by
   rw [seqIndex_of h0 h4] at h1
   exact Option.some.inj h1
  exact PySem.W.ki_setAt ho h0 (by omega) (by rw [List.size_toArray,← hl]; exact h4) (by rw [hk]; exact ⟨_,I',q⟩)
 ·have hk:(k + (its.toArray.size:Int)).toNat = j:=by
   rw [seqIndex_neg (by omega) h3] at h1
   rw [List.size_toArray,← hl]
   exact Option.some.inj h1
  exact PySem.W.ki_setBack ho (by omega) (by rw [List.size_toArray,← hl]; exact h3) (by omega) (by rw [hk]; exact ⟨_,I',q⟩)
def uc:V -> Bool
 | .non=>true
 | .bl _=>true
 | .int _=>true
 | .str _=>true
 | _=>false
def eqV:V -> V -> Bool
 | .non,.non=>true
 | .bl a,.bl b=>a == b
 | .bl a,.int b=>(if a then 1 else 0) == b
 | .int a,.bl b=>a == (if b then 1 else 0)
 | .int a,.int b=>a == b
 | .str a,.str b=>a == b
 | _,_=>false
theorem Ue {A:Around} {s:Shared} {y x:V} {u v:Value} (ry:RelV y u) (rx:RelV x v) (fy:uc y = true) (fx:uc x = true):SeqAt.EqAt A s u v (eqV y x):=by
 cases y with
 | non =>
  cases ry
  cases x with
  | non=>cases rx; exact SeqAt.EqAt.same _
  | bl b=>cases rx; exact SeqAt.EqAt.none_bool b
  | int b=>obtain ⟨t,rfl⟩:=rx; exact SeqAt.EqAt.none_int b t
  | str b=>obtain ⟨t,rfl⟩:=rx; exact SeqAt.EqAt.none_str b t
  | _=>exact absurd (show false = true from fx) Bool.false_ne_true
 | bl a =>
  cases ry
  cases x with
  | non=>cases rx; exact SeqAt.EqAt.bool_none a
  | bl b=>cases rx; exact SeqAt.EqAt.bool_bool a b
  | int b=>obtain ⟨t,rfl⟩:=rx; exact SeqAt.EqAt.bool_int a b t
  | str b=>obtain ⟨t,rfl⟩:=rx; exact SeqAt.EqAt.bool_str a b t
  | _=>exact absurd (show false = true from fx) Bool.false_ne_true
 | int a =>
  obtain ⟨t',rfl⟩:=ry
  cases x with
  | non=>cases rx; exact SeqAt.EqAt.int_none a t'
  | bl b=>cases rx; exact SeqAt.EqAt.int_bool a t' b
  | int b=>obtain ⟨t,rfl⟩:=rx; exact SeqAt.EqAt.int_int a t' b t
  | str b=>obtain ⟨t,rfl⟩:=rx; exact SeqAt.EqAt.int_str a t' b t
  | _=>exact absurd (show false = true from fx) Bool.false_ne_true
 | str a =>
  obtain ⟨t',rfl⟩:=ry
  cases x with
  | non=>cases rx; exact SeqAt.EqAt.str_none a t'
  | bl b=>cases rx; exact SeqAt.EqAt.str_bool a t' b
  | int b=>obtain ⟨t,rfl⟩:=rx; exact SeqAt.EqAt.str_int a t' b t
  | str b=>obtain ⟨t,rfl⟩:=rx; exact SeqAt.EqAt.str_str a t' b t
  | _=>exact absurd (show false = true from fx) Bool.false_ne_true
 | _=>exact absurd (show false = true from fy) Bool.false_ne_true
theorem zp:wI X (.builtin "len") (fun xs H Q=>∃ p ys,xs = [.ref p] /\ (SqL X.K H p ys \/ SqT X.K H p ys) /\ Q (.int ys.length) H):=by
 intro pins s σ H xs us Q I r h
 obtain ⟨p,ys,rfl,hq,q⟩:=h
 obtain ⟨u,rfl,rx⟩:=tW r
 cases rx
 have hn:=uY
 rcases hq with hq | hq
 ·obtain ⟨its,r',pl,hz⟩:=I.list hq
  have hlen:=r'.length
  exact Calls.call_len_list pl.isList (by simp only [List.size_toArray] <;> omega) ⟨.int ys.length,H,I.tok _,⟨s.toks + 1,by rw [List.size_toArray,hlen]⟩,q⟩
 ·obtain ⟨its,r',pl,hz⟩:=I.tuple hq
  have hlen:=r'.length
  exact len_tuple pl (by simp only [List.size_toArray] <;> omega) ⟨.int ys.length,H,I.tok _,⟨s.toks + 1,by rw [List.size_toArray,hlen]⟩,q⟩
theorem x8:wI X (.type "list") (fun xs H Q=>∃ p ys,xs = [.ref p] /\ (SqL X.K H p ys \/ SqT X.K H p ys) /\ ∀ l,H l = none -> Q (.ref l) (upd H l (.lst ys))):=by
 intro pins s σ H xs us Q I r h
 obtain ⟨p,ys,rfl,hq,q⟩:=h
 obtain ⟨u,rfl,rx⟩:=tW r
 cases rx
 have fin:∀ (its:List Value),Vals ys its -> ys.length <= sizeLine -> ∀ (h':Heap) (c':Nat),(∀ b o',s.heap.get? b = some o' -> h'.get? b = some o') →
   h'.get? s.heap.objs.size = some { cls:=.type "list",dict:=none,data:=.seq its.toArray c',slots:=#[] } -> EP X pins σ Q (.ref s.heap.objs.size) { s with heap:=h' }:=fun its r' hz h' c' kp e =>
  ⟨.ref s.heap.objs.size,_,I.laid (t':=s.toks) kp (Nat.le_refl _) (show z6 X.prog X.w _ h' _ (.lst ys) from ⟨hz,its,c',r',e⟩),rfl,q _ (I.hok.fresh (Nat.le_refl _))⟩
 rcases hq with hq | hq
 ·obtain ⟨its,r',pl,hz⟩:=I.list hq
  have hlen:=r'.length
  obtain ⟨o,ho,hc,n,hd⟩:=pl.isList
  exact call_list_seq p (.inl rfl) ho hc hd (fun h' c' kp e=>fin its r' hz h' c' kp e) (by simp only [List.size_toArray] <;> omega)
 ·obtain ⟨its,r',pl,hz⟩:=I.tuple hq
  have hlen:=r'.length
  obtain ⟨o,ho,hc,n,hd⟩:=pl
  exact call_list_seq p (.inr rfl) ho hc hd (fun h' c' kp e=>fin its r' hz h' c' kp e) (by simp only [List.size_toArray] <;> omega)
theorem zq:wI X (.type "tuple") (fun xs H Q=>∃ p ys,xs = [.ref p] /\ ((SqL X.K H p ys /\ ∀ l,H l = none -> Q (.ref l) (upd H l (.tup ys))) \/ (SqT X.K H p ys /\ Q (.ref p) H))):=by
 intro pins s σ H xs us Q I r h
 obtain ⟨p,ys,rfl,h⟩:=h
 obtain ⟨u,rfl,rx⟩:=tW r
 cases rx
 rcases h with ⟨hq,q⟩ | ⟨hq,q⟩
 ·obtain ⟨its,r',pl,hz⟩:=I.list hq
  have hlen:=r'.length
  refine call_tuple_list pl.isList (fun h' kp=>?_) (by simp only [List.size_toArray] <;> omega)
  have I1:Inv X pins σ H { s with heap:=h' }:=I.kept (t':=s.toks) kp
  have I2:Inv X pins σ (upd H h'.objs.size (.tup ys)) { s with heap:=h'.push { cls:=.type "tuple",data:=.seq its.toArray } } :=
   I1.laid (t':=s.toks) (fun b o e=>Heap.get?_push_of_some _ e) (Nat.le_refl _) (show z6 X.prog X.w _ _ _ (.tup ys) from ⟨hz,its,r',IsTup.new _ _⟩)
  exact ⟨.ref h'.objs.size,_,I2,rfl,q _ (I1.hok.fresh (Nat.le_refl _))⟩
 ·obtain ⟨its,r',pl,hz⟩:=I.tuple hq
  exact call_tuple_same pl ⟨.ref p,H,I,rfl,q⟩
def tyV (K:FG7) (T:String) (x:V) (H:Hp):Prop:=match x with
 | .str _=>T = "str"
 | .int _=>T = "int"
 | .ref p=>(T = "list" /\ ∃ xs,SqL K H p xs) \/ (T = "tuple" /\ ∃ o,K.lookup p = some o /\ o.cls = .type "tuple" /\ o.dict = none) ∨
   (T = "dict" /\ ((∃ kvs,H p = some (.dK kvs)) \/ ∃ kvs,H p = some (.dT kvs))) \/ (T = "set" /\ ∃ S n,H p = some (.set S n))
 | _=>False
theorem WB {pins:List (Addr × Obj)} {σ:St} {H:Hp} {s:Shared} {T:String} {x:V} {v:Value} (I:Inv X pins σ H s) (r:RelV x v) (ty:tyV X.K T x H) :
  s.TypeIs v T /\ ∀ a,v = .ref a -> ∃ ob,s.heap.get? a = some ob /\ ob.dict = none:=by
 cases x with
 | str z =>
  obtain ⟨t,rfl⟩:=r
  cases (show T = "str" from ty)
  exact ⟨typeIs_str s z t,fun _ e=>nomatch e⟩
 | int i =>
  obtain ⟨t,rfl⟩:=r
  cases (show T = "int" from ty)
  exact ⟨typeIs_int s i t,fun _ e=>nomatch e⟩
 | ref p =>
  cases r
  rcases ty with ⟨rfl,xs,hq⟩ | ⟨rfl,o,hk,hc,hd⟩ | ⟨rfl,hk⟩ | ⟨rfl,S,n,hk⟩
  ·obtain ⟨its,_,pl,_⟩:=I.list hq
   refine ⟨pl.isList.typeIs,fun a e=>?_⟩
   cases e
   obtain ⟨o,n,e,c,hd,_⟩:=pl
   exact ⟨o,e,hd⟩
  ·refine ⟨⟨o,I.kIn p o hk,hc⟩,fun a e=>?_⟩
   cases e
   exact ⟨o,I.kIn _ o hk,hd⟩
  ·have z:∃ o,s.heap.get? p = some o /\ o.ExactDict:=by
    rcases hk with ⟨kvs,hk⟩ | ⟨kvs,hk⟩
    ·obtain ⟨_,_,_,_,o,_,_,e,ex,_⟩:=I.hok p _ hk
     exact ⟨o,e,ex⟩
    ·obtain ⟨_,_,_,_,o,_,_,e,ex,_⟩:=I.hok p _ hk
     exact ⟨o,e,ex⟩
   obtain ⟨o,e,ex⟩:=z
   refine ⟨⟨o,e,ex.1⟩,fun a e2=>?_⟩
   cases e2
   exact ⟨o,e,ex.2.1⟩
  ·obtain ⟨o,_,_,_,e,ex,_⟩:=I.hok p _ hk
   refine ⟨⟨o,e,ex.1⟩,fun a e2=>?_⟩
   cases e2
   exact ⟨o,e,ex.2.1⟩
 | _=>exact False.elim ty
def tBM0 (K:FG7) (T:String) (r:V -> List V -> Hp -> VK -> Prop) (to:TE):TE:=fun σ H Q=>to σ H fun x H1=>tyV K T x H1 /\ r x [] H1 Q
def tBM (K:FG7) (T:String) (r:V -> List V -> Hp -> VK -> Prop) (to:TE) (t:TA):TE:=fun σ H Q=>to σ H fun x H1=>tyV K T x H1 /\ t σ H1 fun xs H2=>r x xs H2 Q
variable {o e:Expr} {es:List Expr} {to:TE} {t:TA} {name:Str} {apos cpos:Pos} {T id:String} {r:V -> List V -> Hp -> VK -> Prop}
theorem Uf (pa:PlainAttrs T) (slot:Slot T name id) (hty:typeOf (.builtin id) = pure (.type "method_descriptor")) (hm:MtR X id r) (ho:PE X o to)
  (hbase:attributeBase o name X.env (eval o X.env) = eval o X.env:=by rfl) (hline:(apos.endLine == cpos.line) = true:=by rfl):PE X (.Call (.Attribute o name apos) [] [] cpos) (tBM0 X.K T r to):=by
 intro pins s σ H Q I h
 refine wpAny_Call_method0_late hbase hline (thn (ho pins s σ H _ I h) fun v s1 ⟨x,H1,I1,r1,ty,q1⟩=>?_)
 obtain ⟨h1,h2⟩:=WB I1 r1 ty
 exact ⟨T,id,pa,slot,hty,h1,h2,Calls.callWith_builtin rfl (PySem.evalArgs_none (hm pins s1 σ H1 x [] v [] Q I1 r1 .nil q1))⟩
theorem ud (pa:PlainAttrs T) (slot:Slot T name id) (hty:typeOf (.builtin id) = pure (.type "method_descriptor")) (hm:MtR X id r) (ho:PE X o to) (ha:PA X (e :: es) t)
  (hbase:attributeBase o name X.env (eval o X.env) = eval o X.env:=by rfl)
  (hfew:((backTo cpos (starEach (e :: es) X.env)).all (fun x=>!x.1) && (backToKw cpos (keywordEach [] X.env)).all (fun x=>x.1.isSome)
   && decide ((e :: es).length + ([]:List Keyword).length + (if ([]:List Keyword).isEmpty then 0 else 1) < 30)) = true:=by rfl)
  (hline:(apos.endLine == cpos.line) = true:=by rfl) (hs:starEach (e :: es) X.env = (false,eval e X.env) :: starEach es X.env:=by rfl) (hplain:(backTo cpos (starEach es X.env)).any (·.1) = false:=by rfl) :
  PE X (.Call (.Attribute o name apos) (e :: es) [] cpos) (tBM X.K T r to t):=by
 intro pins s σ H Q I h
 refine wpAny_Call_method_late hbase hfew hline rfl (thn (ho pins s σ H _ I h) fun v s1 ⟨x,H1,I1,r1,ty,q1⟩=>?_)
 obtain ⟨h1,h2⟩:=WB I1 r1 ty
 refine ⟨T,id,pa,slot,hty,h1,h2,?_⟩
 have hA:=ha cpos pins s1 σ H1 _ I1 q1
 rw [hs] at hA ⊢
 refine Calls.callWith_builtin (by show (false || (backTo cpos (starEach es X.env)).any (·.1)) = false; rw [hplain] <;> rfl) (Calls.evalArgs_plain ?_)
 exact thn hA fun us s2 ⟨vs,H2,I2,r2,q2⟩=>hm pins s2 σ H2 x vs v us Q I2 r1 r2 q2
end
end L2
namespace L2
open PySem PySem.Spec PyProof.Rows
def MtM (X:Cx) (id:String) (r:V -> List V -> Hp -> VK -> Prop):Prop :=
 ∀ (pins:List (Addr × Obj)) (s:Shared) (σ:St) (H:Hp) (x:V) (xs:List V) (v:Value) (us:List Value) (Q:VK),Inv X pins σ H s -> RelV x v -> Vals xs us -> r x xs H Q →
  wpAny (model X.prog X.w) X.A (call (.builtin id) (v :: us)) (EP X pins σ Q) X.xe s
theorem Vals.one:∀ {x:V} {us:List Value},Vals [x] us -> ∃ u,us = [u] /\ RelV x u
 | _,_,.cons r .nil=>⟨_,rfl,r⟩
theorem Vals.zero:∀ {us:List Value},Vals [] us -> us = []
 | _,.nil=>rfl
theorem Vals.dropLast {xs:List V} {us:List Value} (h:Vals xs us):Vals xs.dropLast us.dropLast:=by
 induction h with
 | nil=>exact .nil
 | cons r t ih =>
  cases t with
  | nil=>exact .nil
  | cons q t'=>exact .cons r ih
theorem Zl {α:Type} (l:List α):l.eraseIdx (l.length - 1) = l.dropLast:=by
 induction l with
 | nil=>rfl
 | cons a r ih =>
  cases r with
  | nil=>rfl
  | cons b r =>
   have e:(a :: b :: r).length - 1 = ((b :: r).length - 1) + 1:=by
    have h1:(a :: b :: r).length = r.length + 2:=rfl
    have h2:(b :: r).length = r.length + 1:=rfl
    omega
   rw [e,List.eraseIdx_cons_succ,ih]
   all_goals rfl
section
variable {X:Cx} {pins:List (Addr × Obj)} {σ:St} {H:Hp} {s:Shared} {l b:Addr} {xs ys zs:List V}
theorem Inv.lset {its its':List Value} {n:Nat} {f:Array Value -> Array Value} {t':Nat} (I:Inv X pins σ H s) (hH:H l = some (.lst xs))
  (e:s.heap.get? l = some { cls:=.type "list",data:=.seq its.toArray n }) (hf:f its.toArray = its'.toArray) (hv:Vals ys its') (hz:ys.length <= sizeLine) :
  Inv X pins σ (upd H l (.lst ys)) { s with heap:=s.heap.update l (Obj.mapSeq f),toks:=t' }:=by
 have q:=PySem.IsL.update e f
 rw [hf] at q
 refine I.write (x:=l) (e:=l) (by rw [hH]; exact trivial) (.inl rfl) (fun b' u hb hu=>(Heap.get?_update_other s.heap (Obj.mapSeq f) (Ne.symm hb)).trans hu) ⟨_,q⟩ ?_
 exact ⟨hz,its',_,hv,q⟩
theorem Inv.lstM (I:Inv X pins σ H s) (hH:H l = some (.lst xs)):xs.length <= sizeLine /\ ∃ (its:List Value) (n:Nat),Vals xs its /\ xs.length = its.length /\ s.heap.get? l = some { cls:=.type "list",data:=.seq its.toArray n }:=by
 obtain ⟨z,its,n,r,e⟩:=I.hok l _ hH
 exact ⟨z,its,n,r,r.length,e⟩
theorem XT {n:Nat} (h:n <= sizeLine):Builtin.List.listTooLong n = false:=by
 unfold Builtin.List.listTooLong
 exact decide_eq_false (by omega)
end
section
variable {X:Cx}
def Va:V -> List V -> Hp -> VK -> Prop:=fun x vs H Q=>∃ l xs y,x = .ref l /\ vs = [y] /\ H l = some (.lst xs) /\ xs.length < sizeLine /\ Q .non (upd H l (.lst (xs ++ [y])))
theorem yN:MtM X "list.append" Va:=by
 intro pins s σ H x vs v us Q I rx rv h
 obtain ⟨l,xs,y,rfl,rfl,hH,hz,q⟩:=h
 cases rx
 obtain ⟨u,rfl,ru⟩:=rv.one
 obtain ⟨z,its,n,r,hl,e⟩:=I.lstM hH
 refine call_meets F.slot_list_append ⟨_,e,rfl⟩ F.entry_list_append (F.args_list_append_2 _ _) (PySem.list_append l its.toArray n u (by rw [List.size_toArray]; omega)) ⟨e,?_⟩
 refine ⟨.non,_,I.lset (its':=its ++ [u]) hH e (by simp) (r.append (.cons ru .nil)) ?_,rfl,q⟩
 rw [List.length_append,List.length_singleton]
 omega
def Vb:V -> List V -> Hp -> VK -> Prop:=fun x vs H Q=>∃ l b xs zs,x = .ref l /\ vs = [.ref b] /\ H l = some (.lst xs) /\ H b = some (.lst zs) /\ xs.length + zs.length <= sizeLine /\ Q .non (upd H l (.lst (xs ++ zs)))
theorem rj:MtM X "list.extend" Vb:=by
 intro pins s σ H x vs v us Q I rx rv h
 obtain ⟨l,b,xs,zs,rfl,rfl,hH,hB,hz,q⟩:=h
 cases rx
 obtain ⟨u,rfl,ru⟩:=rv.one
 cases ru
 obtain ⟨z,its,n,r,hl,e⟩:=I.lstM hH
 obtain ⟨z2,its2,n2,r2,hl2,e2⟩:=I.lstM hB
 have hsz:its.toArray.size + its2.toArray.size <= sizeLine:=by rw [List.size_toArray,List.size_toArray]; omega
 have hlong:¬ (!its.toArray.isEmpty && Builtin.List.listTooLong (its.toArray.size + its2.toArray.size)) = true:=by
  rw [XT hsz,Bool.and_false]
  exact Bool.false_ne_true
 refine call_meets F.slot_list_extend ⟨_,e,rfl⟩ F.entry_list_extend (F.args_list_extend_2 _ _)
  (AutoSeq1.list_extend_list_list_0 l its.toArray n b its2.toArray n2 hlong (by rw [List.size_toArray]; omega) (by omega)) ⟨e,e2,?_⟩
 refine ⟨.non,_,I.lset (its':=its ++ its2) hH e (by simp) (r.append r2) ?_,rfl,q⟩
 rw [List.length_append]
 omega
def rPop:V -> List V -> Hp -> VK -> Prop:=fun x vs H Q=>∃ l xs y,x = .ref l /\ vs = [] /\ H l = some (.lst xs) /\ xs[xs.length - 1]? = some y /\ Q y (upd H l (.lst xs.dropLast))
theorem Ug:MtM X "list.pop" rPop:=by
 intro pins s σ H x vs v us Q I rx rv h
 obtain ⟨l,xs,y,rfl,rfl,hH,hy,q⟩:=h
 cases rx
 have hus:=rv.zero
 subst hus
 obtain ⟨z,its,n,r,hl,e⟩:=I.lstM hH
 obtain ⟨u,hu,ru⟩:=r.get hy
 have hy':its.toArray[its.toArray.size - 1]? = some u:=by
  show its.toArray[its.length - 1]? = some u
  rw [← Array.getElem?_toList,← hl]
  exact hu
 refine call_meets F.slot_list_pop ⟨_,e,rfl⟩ F.entry_list_pop (F.args_list_pop_1 _) (MeetsSeq.list_pop_last l its.toArray n u hy' (by rw [List.size_toArray]; omega)) ⟨e,?_⟩
 refine ⟨y,_,I.lset (its':=its.dropLast) hH e ?_ r.dropLast ?_,ru,q⟩
 ·show its.toArray.eraseIdxIfInBounds (its.toArray.size - 1) = its.dropLast.toArray
  rw [List.size_toArray,List.eraseIdxIfInBounds_toArray,Zl]
 ·rw [List.length_dropLast]
  omega
end
end L2
namespace Att
open PySem PySem.W PySem.Calls PyProof.Rows
theorem ue {P:Params} {h:Heap}:∀ (ns:List Int) (vs:List Value),WellAll P h vs (ns.map WData.int) -> IntsAre vs ns:=by
 intro ns
 induction ns with
 | nil =>
  intro vs w
  rw [List.map_nil] at w
  cases w
  exact .nil
 | cons n ns ih =>
  intro vs w
  rw [List.map_cons] at w
  cases w with
  | cons a b =>
   cases a
   exact .cons _ _ (ih _ b)
theorem Yh {l:OpenLaw} {n:Nat} (hn:l.most = some n) {P:Params} {h:Heap} {args:List WData} {vals:List Value}
  (hpre:l.row.toRowW.claim.pre args = true) (hwl:WellAll P h vals args) :
  ∃ a vs ns,vals = [Value.ref a] /\ args = [WData.list (ns.map WData.int)] /\ h.get? a = some { cls:=.type "list",data:=.seq vs.toArray } /\ IntsAre vs ns /\ ns.length <= n:=by
 have hsh:WShape.hasAll [] args [.list .int] = true:=(pre_splitW hpre).1
 have hc:l.pre.holds [] { args:=args } = true:=(pre_splitW hpre).2
 obtain ⟨d,r,rfl,h1,h2⟩:=hasAllW_cons hsh
 obtain rfl:=hasAllW_nil h2
 obtain ⟨xs,rfl,h3⟩:=hasW_list h1
 obtain ⟨ns,rfl⟩:=items_int h3
 have hlen:ns.length <= n:=by
  unfold OpenLaw.pre at hc
  have h4:(WTm.not (.lt (.lit (.int (n:Int))) (.len (.arg 0)))).holds [] { args:=[.list (ns.map .int)] } = true:=by
   have h4:=(holds_andW hc).1
   rw [hn] at h4
   exact h4
  have h5:=condW_of h4 (w_not (w_lt w_lit (w_len_list (w_arg rfl))))
  rw [List.length_map] at h5
  refine Nat.le_of_not_lt fun q=>?_
  have q':(n:Int) < ((ns.length:Nat):Int):=by omega
  first
   | (rw [decide_eq_true q'] at h5; exact absurd h5 (by decide))
   | (simp at h5; omega)
 cases hwl with
 | cons w1 w2 =>
  cases w2
  cases w1 with
  | list ho hall=>exact ⟨_,_,ns,rfl,rfl,ho,ue ns _ hall,hlen⟩
theorem Yi (l:OpenLaw) (args:List WData):l.row.toRowW.claim.post args (.bool true) args = true :=
 postW_of (r:=l.row.toRowW) (X:=(true == true))
  (show WShape.has [] (.bool true) .bool = true by first | rfl | decide | simp [WShape.has,WShape.arms,WShape.armsAll])
  (show (WTm.eq .res (.lit (.bool true))).value [] { args:=args,res:=some (.bool true),after:=args } = some (.bool (true == true)) from w_eq_bool (w_res rfl) w_lit) rfl
theorem attach_call {l:OpenLaw} {n:Nat} {q:Program} {loose:List Str} {XP:(Str -> Option Value) -> Heap -> Prop} {YP:World -> Heap -> Prop} {d:DefRec}
  (hn:l.most = some n) (hdf:d.params.defaults = [])
  (call:∀ (w:World) (s₀ s₁:Shared) (mg mb:Str -> Option Value) (fa:Addr) (o:Obj) (pm cd doc:Value) (a:Addr) (vs:List Value) (ns:List Int),
   Ground q loose [] XP w s₀ mg mb s₁.heap -> YP w s₁.heap →
   s₁.heap.get? fa = some o -> o.data = .func (docDef d.name d.params d.body d.scope pm cd doc) -> s₁.heap.CodeRec cd d.name -> mg d.name = some (.ref fa) →
   s₁.heap.get? a = some { cls:=.type "list",data:=.seq vs.toArray } -> IntsAre vs ns -> ns.length <= n -> s₁.gens = #[] →
   codeAny (model l.prog w) callerA (.call (.ref fa) ⟨[.ref a],[]⟩) (fun r s'=>r = .ok (.ret (.bool true)) /\ OldK s₁.heap s'.heap /\ s'.os = s₁.os /\ AllBare s'.gens) s₁) :
  WalkO q loose XP YP l.row.toRowW d [] (fun f vs=>PySem.call f vs):=by
 intro w s₀ s₁ mg mb G Y fa o pm cd doc dV kV ho hd hcd hD hmg hg args vals as hpre hlay hrd hwl hlo
 obtain rfl:dV = .none:=Dflts.none hD hdf
 obtain rfl:kV = .none:=Dflts.noKw hD
 obtain ⟨a,vs,ns,rfl,rfl,hobj,hints,hlen⟩:=Yh hn hpre hwl
 refine enter_call (codeAny_mono (call w s₀ s₁ mg mb fa o pm cd doc a vs ns G Y ho (fd_plain hd) hcd hmg hobj hints hlen hg) fun r s' hq=>?_)
 obtain ⟨rfl,h2,h3,h4⟩:=hq
 exact ⟨.inl ⟨.bool true,.bool true,[],rfl,fun _=>rfl,.bool true,Yi l _,fun _=>⟨List.Pairwise.nil,fun _ hm=>(nomatch hm)⟩⟩,h2,h3,h4⟩
end Att
namespace L2
open PySem PySem.Spec PyProof.Rows
theorem uf:∀ {vs:List Value} {ns:List Int},IntsAre vs ns -> Vals (ns.map V.int) vs
 | _,_,.nil=>.nil
 | _,_,.cons n t h=>.cons ⟨t,rfl⟩ (uf h)
def Only (H:Hp):Prop:=∀ b,H b = none \/ ∃ o xs,H b = some (.frz o (.lst xs))
theorem XU {P:Program} {w:World} {K:FG7} {mg mb:Str -> Option Value} {CX:CXT} {k:Nat} {fa a:Addr} {fd:FuncData} {x:Str} {sp:Sp} {s₁:Shared} {vs:List Value} {ns:List Int}
  (KX:K.In s₁.heap) (hns:s₁.heap.Ns mainGlobals mg) (hb:s₁.heap.Ns builtinsNs mb) (hbb:∀ x:Str,x ≠ "__name__" -> mb x = bootBuiltins x) (hlim:s₁.heap.NoLimit) (hg:s₁.gens = #[])
  (ha:s₁.heap.get? a = some { cls:=.type "list",data:=.seq vs.toArray }) (hi:IntsAre vs ns) (hl:ns.length <= sizeLine) (hr:Room k callerA)
  (F:∀ base:Heap,K.In base -> base.Ns mainGlobals mg -> FnOk P w K mg base CX k fa fd [x] sp) (hbind:∀ (s:Shared) (u:Value),BindsTo s fd ⟨[u],[]⟩ [(x,u)])
  (hsp:∀ H:Hp,Only H -> SqL K H a (ns.map V.int) -> sp [.ref a] H (fun v _=>v = .bl true) fun _ _ _=>False)
  (hCX:∀ H e s',CX [] H s₁ (fun _ _ _=>False) e s' -> False) :
  codeAny (model P w) callerA (.call (.ref fa) ⟨[.ref a],[]⟩) (fun r s'=>r = .ok (.ret (.bool true)) /\ OldK s₁.heap s'.heap /\ s'.os = s₁.os /\ AllBare s'.gens) s₁:=by
 have rv:=uf hi
 have lenV:=hi.length
 -- from an abstract heap in which nothing but the script may be tracked
 have core:∀ H:Hp,Only H -> SqL K H a (ns.map V.int) -> HOk P w H s₁.heap -> (∀ b,H b ≠ none -> b = a) -> (H a ≠ none -> K.lookup a = none) →
   codeAny (model P w) callerA (.call (.ref fa) ⟨[.ref a],[]⟩) (fun r s'=>r = .ok (.ret (.bool true)) /\ OldK s₁.heap s'.heap /\ s'.os = s₁.os /\ AllBare s'.gens) s₁:=by
  intro H hO hS hok hA hK
  have base_of:∀ {b:Addr} {o:Obj},s₁.heap.get? b = some o -> H b = none -> (hidT s₁.heap H).get? b = some o:=fun e n=>XN e n
  have noA:∀ {b:Addr} {o:Obj} {es:Array DictEntry} {ep:Nat},s₁.heap.get? b = some o -> o.data = .dict es ep -> H b = none:=fun {b o es ep} e d=>by
   cases q:H b with
   | none=>rfl
   | some u =>
    have e':b = a:=hA b (by rw [q]; simp)
    subst e'
    rw [ha] at e; cases e
    have d':Data.seq vs.toArray _ = Data.dict es ep:=d
    cases d'
  have nsK:∀ {b:Addr} {m:Str -> Option Value},s₁.heap.Ns b m -> (hidT s₁.heap H).Ns b m:=fun {b m} ⟨o,es,ep,e,d,r⟩=>⟨o,es,ep,base_of e (noA e d),d,r⟩
  have hKb:K.In (hidT s₁.heap H):=fun b o e=>base_of (KX b o e) (by
   cases q:H b with
   | none=>rfl
   | some u =>
    have e':b = a:=hA b (by rw [q]; simp)
    subst e'
    rw [hK (by rw [q]; simp)] at e; cases e)
  have hM:Mod K mg (hidT s₁.heap H):=⟨hKb,nsK hns,⟨mb,nsK hb,hbb⟩,let ⟨mc,h1,h2⟩:=hlim; ⟨mc,nsK h1,h2⟩⟩
  have e0:Env0 P w K mg (hidT s₁.heap H) callerA [] s₁ H:=⟨rfl,hM,fun b o e=>W0 e,Nat.le_of_eq (ZY _ _),trivial,fun b hb=>absurd (show b ∈ ([]:List Addr) from hb) (by simp),hok,.of_eq hg⟩
  refine codeAny_mono ((F _ hKb (nsK hns)).run callerA [] s₁ H ⟨[.ref a],[]⟩ [.ref a] [.ref a] _ _ hr e0 (hbind s₁ (.ref a)) (.cons rfl .nil) (hsp H hO hS)) fun r s' h=>?_
  cases r with
  | error e=>exact (hCX H e s' h).elim
  | ok fl =>
   cases fl with
   | next=>exact False.elim h
   | brk=>exact False.elim h
   | cont=>exact False.elim h
   | ret u =>
    obtain ⟨v,H',os,bare,un,hok',r',q⟩:=h
    have q':v = .bl true:=q
    subst q'
    obtain rfl:u = Value.bool true:=r'
    refine ⟨rfl,OldK.of_keep fun b o e=>?_,os,bare⟩
    cases q:H b with
    | none=>exact un.keep b o e q (by intro z; exact absurd (show b ∈ ([]:List Addr) from z) (by simp)) (by simp)
    | some u =>
     rcases hO b with z | ⟨ob,xs,z⟩
     ·rw [q] at z; cases z
     ·have z2:=un.frzs b ob _ z
      obtain ⟨e1,_⟩:=hok b _ z
      obtain ⟨e2,_⟩:=hok' b _ z2
      rw [e] at e1; cases e1
      exact e2
 cases hk:K.lookup a with
 | some o =>
  -- the script is one of the module's own objects
  have e:=KX a o hk
  rw [ha] at e
  cases e
  refine core (fun _=>none) (fun _=>.inl rfl) (.inr ⟨_,vs.toArray,_,hk,rfl,rfl,rfl,by rw [List.size_toArray,lenV]; exact hl,by simpa using rv⟩) (fun b u z=>by have z':(none:Option HO) = some u:=z; cases z') (fun b z=>absurd rfl z) fun z=>absurd rfl z
 | none =>
  refine core (fun b=>if b = a then some (.frz { cls:=.type "list",data:=.seq vs.toArray } (.lst (ns.map V.int))) else none) (fun b=>?_) (.inl (.inr ⟨{ cls:=.type "list",data:=.seq vs.toArray },if_pos rfl⟩)) (fun b u z=>?_) (fun b z=>?_) fun _=>hk
  ·by_cases hb:b = a
   ·exact .inr ⟨_,_,if_pos hb⟩
   ·exact .inl (if_neg hb)
  ·by_cases hb:b = a
   ·have z':=(if_pos hb).symm.trans z
    cases z'
    subst hb
    exact ⟨ha,by rw [List.length_map]; exact hl,vs,_,rv,ha⟩
   ·have z':=(if_neg hb).symm.trans z
    cases z'
  ·by_cases hb:b = a
   ·exact hb
   ·exact absurd (if_neg hb) z
end L2
namespace L2
open PySem PySem.Spec PyProof.Rows
theorem walk_of {l:PySem.W.OpenLaw} {n k:Nat} {q:Program} {loose:List Str} {XP:(Str -> Option Value) -> Heap -> Prop} {YP:World -> Heap -> Prop} {d:DefRec} {K:Params -> FG7} {CX:World -> CXT} {sp:World -> Sp} {x:Str}
  (hn:l.most = some n) (hn2:n <= sizeLine) (hdf:d.params.defaults = []) (hr:Room k callerA)
  (hY:∀ (w:World) (h:Heap),YP w h -> (K w.params).In h)
  (F:∀ (w:World) (mg:Str -> Option Value) (fa:Addr) (h:Heap),(K w.params).In h -> h.Ns mainGlobals mg -> mg d.name = some (.ref fa) →
   ∃ fd:FuncData,(∀ (s:Shared) (u:Value),BindsTo s fd ⟨[u],[]⟩ [(x,u)]) ∧
    ∀ base:Heap,(K w.params).In base -> base.Ns mainGlobals mg -> FnOk l.prog w (K w.params) mg base (CX w) k fa fd [x] (sp w))
  (hsp:∀ (w:World) (H:Hp) (a:Addr) (ns:List Int),ns.length <= n -> Only H -> SqL (K w.params) H a (ns.map V.int) -> sp w [.ref a] H (fun v _=>v = .bl true) fun _ _ _=>False)
  (hCX:∀ (w:World) (H:Hp) (s:Shared) (e:Value) (s':Shared),CX w [] H s (fun _ _ _=>False) e s' -> False) :
  PySem.W.WalkO q loose XP YP l.row.toRowW d [] (fun f vs=>PySem.call f vs):=by
 refine Att.attach_call hn hdf fun w s₀ s₁ mg mb fa o pm cd doc a vs ns G Y ho hd hcd hmg hobj hints hlen hg=>?_
 have KX:=hY w _ Y
 obtain ⟨fd,hb,hF⟩:=F w mg fa _ KX G.T.g hmg
 exact XU KX G.T.g G.T.b G.T.builtins G.T.nolimit hg hobj hints (Nat.le_trans hlen hn2) hr hF hb (fun H hO hS=>hsp w H a ns hlen hO hS) fun H e s'=>hCX w H s₁ e s'
end L2
namespace L2
open PySem PySem.Spec PyProof.Rows
def ug (s:Stmt):Arguments:=match s with
 | .FunctionDef _ a _ _ _ _ _ _ _ _=>a
 | _=>{ posonlyargs:=[],args:=[],vararg:=none,kwonlyargs:=[],kw_defaults:=[],kwarg:=none,defaults:=[] }
def vf (s:Stmt):List Stmt:=match s with
 | .FunctionDef _ _ b _ _ _ _ _ _ _=>b
 | _=>[]
def zh (s:Stmt):Scope:=match s with
 | .FunctionDef _ _ _ _ _ _ sc _ _ _=>sc
 | _=>{ kind:=.function,names:=[],isGenerator:=false,isCoroutine:=false }
abbrev CX0:CXT:=fun _ _ _ _ _ _=>False
abbrev E0:XK:=fun _ _ _=>False
theorem Th {X:Cx}:Yd CX0 X E0:=fun _ _ _ _ _ _ _ h=>h.elim
structure Fun (K:FG7) (x qual:Str) (st:Stmt) (f:Addr) (fd:FuncData):Prop where
 ex:∃ (oc:Value) (od:Option Addr) (kV doc pm:Value) (an:Option Addr) (cdv ct:Value) (osl:Array (Option Value)),
  fd = PySem.W.fnOf x qual (ug st) (vf st) (zh st) .none kV doc pm an cdv ct /\ K.lookup f = some ⟨oc,od,.func fd,osl⟩ /\ PySem.W.codeIn K cdv qual = true
 kp:PySem.W.keepIn K (.ref f) = true
section
variable {P:Program} {w:World} {K:FG7} {mg:Str -> Option Value} {base:Heap}
theorem Fun.ok {x qual:Str} {st:Stmt} {f:Addr} {fd:FuncData} {N ps:List Str} {k:Nat} {sp:Sp} (F:Fun K x qual st f fd) (S:FnScope N ps (zh st)) (len:∀ vs H Q E,sp vs H Q E -> vs.length = ps.length)
  (hbody:∀ (cdv:Value) (A:Around) (outer:List Env) (s:Shared) (H:Hp) (vs:List V) (Q:VK) (E:XK),Room k (A.deeper (envOfC qual (zh st) s.heap.objs.size f cdv)) -> sp vs H Q E →
   ∃ t,PSs (cxOf CX0 P w K mg base N qual (zh st) f cdv A outer s H E).nox (vf st) t /\ t { nx:=fun _ H'=>Q .non H',rt:=Q } (rh N vs) H):FnOk P w K mg base CX0 (k + 1) f fd ps sp:=by
 obtain ⟨oc,od,kV,doc,pm,an,cdv,ct,osl,rfl,lk,hcd⟩:=F.ex
 refine Tf lk hcd S len fun A outer s H vs Q E hr hsp=>?_
 obtain ⟨t,h,q⟩:=hbody cdv A outer s H vs Q E hr hsp
 exact ⟨t,h.nox,q⟩
theorem Fun.binds {x qual:Str} {st:Stmt} {f:Addr} {fd:FuncData} {ps:List Str} (F:Fun K x qual st f fd)
  (h:∀ (kV doc pm:Value) (an:Option Addr) (cdv ct:Value) (us:List Value),us.length = ps.length -> bindArgs (PySem.W.fnOf x qual (ug st) (vf st) (zh st) .none kV doc pm an cdv ct) ⟨us,[]⟩ = pure (ps.zip us)):qM K fd ps []:=by
 obtain ⟨oc,od,kV,doc,pm,an,cdv,ct,osl,rfl,lk,hcd⟩:=F.ex
 exact .all (h kV doc pm an cdv ct)
theorem fun_mk {x qual:Str} {st:Stmt} {f:Addr} {oc:Value} {od an:Option Addr} {osl:Array (Option Value)} {kV doc pm cdv ct:Value} (l:K.lookup f = some ⟨oc,od,.func (PySem.W.fnOf x qual (ug st) (vf st) (zh st) .none kV doc pm an cdv ct),osl⟩)
  (c:PySem.W.codeIn K cdv qual = true) (k:PySem.W.keepIn K (.ref f) = true):Fun K x qual st f (PySem.W.fnOf x qual (ug st) (vf st) (zh st) .none kV doc pm an cdv ct):=⟨⟨oc,od,kV,doc,pm,an,cdv,ct,osl,rfl,l,c⟩,k⟩
end
theorem z9 {n:Nat} (h:n <= 1000):n < sizeLine:=Nat.lt_of_le_of_lt h (by decide)
section
variable {X:Cx}
theorem pv (i:Nat) {x:Str} {pos:Pos} (hN:X.N[i]? = some x:=by rfl) (hv:Vis X.env.scope x:=by first | exact Or.inl rfl | exact Or.inr (Or.inl rfl) | exact Or.inr (Or.inr rfl)) (hd:(x == ("__debug__":Str)) = false:=by decide)
  (hcd:(x == ("__classdict__":Str)) = false:=by decide):PE X (.Name x pos) (tVar i):=VZ hN hv hd hcd
end
theorem iteF {A B:Prop} (h:B):if false = true then A else B:=by
 rw [if_neg Bool.false_ne_true]
 exact h
theorem iteT {A B:Prop} (h:A):if true = true then A else B:=by
 rw [if_pos rfl]
 exact h
theorem ite2 {c A B:Prop} [Decidable c] (h1:c -> A) (h2:¬ c -> B):if c then A else B:=by
 by_cases h:c
 ·rw [if_pos h]
  exact h1 h
 ·rw [if_neg h]
  exact h2 h
end L2
namespace L3
open PySem PySem.Spec PyProof.Rows L2
theorem yZ:bootBuiltins "len" = some (.builtin "len"):=by decide +kernel
theorem Vc:bootBuiltins "max" = some (.builtin "max"):=by decide +kernel
theorem Uh:bootBuiltins "min" = some (.builtin "min"):=by decide +kernel
theorem WC:bootBuiltins "repr" = some (.builtin "repr"):=by decide +kernel
theorem zK:bootBuiltins "isinstance" = some (.builtin "isinstance"):=by decide +kernel
theorem rk:bootBuiltins "all" = some (.builtin "all"):=by decide +kernel
theorem XV:bootBuiltins "sorted" = some (.builtin "sorted"):=by decide +kernel
theorem Ti:bootBuiltins "int" = some (.type "int"):=by decide +kernel
theorem Ui:bootBuiltins "bool" = some (.type "bool"):=by decide +kernel
theorem zG:bootBuiltins "tuple" = some (.type "tuple"):=by decide +kernel
theorem Yj:bootBuiltins "list" = some (.type "list"):=by decide +kernel
theorem Uj:bootBuiltins "dict" = some (.type "dict"):=by decide +kernel
def TyV (K:FG7) (H:Hp) (x:V) (T:String):Prop:=match x with
 | .non=>T = "NoneType"
 | .bl _=>T = "bool"
 | .int _=>T = "int"
 | .str _=>T = "str"
 | .ref a=>(T = "tuple" /\ ∃ xs,SqT K H a xs) \/ (T = "list" /\ ∃ xs,SqL K H a xs) \/ (T = "dict" /\ ∃ kvs,H a = some (.dK kvs))
 | _=>False
section
variable {X:Cx} {a b c:Expr} {ta tb tc:TE} {pos:Pos}
def rIsi (K:FG7):List V -> Hp -> VK -> Prop:=fun xs H Q=>∃ x T t k,xs = [x,.ty T] /\ TyV K H x t /\ PySem.W.kitOne K (.type t) (.type T) = some k /\ Q (.bl k) H
theorem yK:wI X (.builtin "isinstance") (rIsi X.K):=by
 intro pins s σ H xs us Q I r h
 obtain ⟨x,T,t,k,rfl,ty,e,q⟩:=h
 obtain ⟨u,w',rfl,rx,rt⟩:=Ya r
 cases (show w' = Value.type T from rt)
 have fin:∀ tk,EP X pins σ Q (.bool k) { s with toks:=tk }:=fun tk=>⟨.bl k,H,I.tok _,rfl,q⟩
 cases x with
 | non=>cases (show t = "NoneType" from ty); exact x6 I rx .non e fin
 | bl y=>cases (show t = "bool" from ty); exact x6 I rx (.bl y) e fin
 | int i=>cases (show t = "int" from ty); exact x6 I rx (.int i) e fin
 | str y=>cases (show t = "str" from ty); exact x6 I rx (.str y) e fin
 | byt y=>exact ty.elim
 | flt y=>exact ty.elim
 | ty y=>exact ty.elim
 | ref a =>
  cases (show u = Value.ref a from rx)
  rcases ty with ⟨rfl,xs,hq⟩ | ⟨rfl,xs,hq⟩ | ⟨rfl,kvs,hq⟩
  ·obtain ⟨its,_,⟨o,h1,h2,_⟩,_⟩:=I.tuple hq
   exact PySem.W.kia_one PySem.W.kitx_tuple I.kIn ⟨o,h1,h2⟩ e (fun z=>nomatch z) fin
  ·obtain ⟨its,_,pl,_⟩:=I.list hq
   obtain ⟨o,h1,h2,_⟩:=pl.isList
   exact PySem.W.kia_one PySem.W.kitx_list I.kIn ⟨o,h1,h2⟩ e (fun z=>nomatch z) fin
  ·exact x6 (x:=V.ref a) I (show RelV (.ref a) (.ref a) from rfl) (.dK hq) e fin
theorem wB {x:Str} {T:String} {pos:Pos} (hg:Gl X x) (hm:X.mg x = none) (hv:bootBuiltins x = some (.type T)) (hn:x ≠ "__name__":=by decide) (hd:(x == ("__debug__":Str)) = false:=by decide):PE X (.Name x pos) (tC (.ty T)) :=
 W4 hg hm hv (show RelV (.ty T) (Value.type T) from rfl) hn hd
theorem wK:OpR X (binaryOp .Mult) (rI IntMulOk fun i j=>.int (i * j)):=opI fun _ _ _ _ _ _ _ hc q=>mul_int q hc
def Vd (i j:Int):Prop:=0 < j /\ j < 2 ^ 200
theorem Vd.py {i j:Int} (h:Vd i j):Builtin.divisionGoesByPylong i j = false:=by
 refine PyProof.noPylong_of_log2 ?_
 obtain ⟨h1,h2⟩:=h
 have h0:j.natAbs ≠ 0:=by omega
 have h3:j.natAbs < 2 ^ 200:=by
  have:(j.natAbs:Int) = j:=by omega
  have h4:((j.natAbs:Nat):Int) < ((2 ^ 200:Nat):Int):=by rw [this]; exact h2
  exact Int.ofNat_lt.mp h4
 exact Nat.lt_of_lt_of_le ((Nat.log2_lt h0).mpr h3) (by decide)
theorem vW:OpR X (binaryOp .FloorDiv) (rI Vd fun i j=>.int (i / j)):=opI fun i j _ _ _ _ _ hc q=>by
 have:=hc.1
 refine floordiv_int (by omega) ?_ (.inl hc.py)
 rw [Int.fdiv_eq_ediv_of_nonneg i (by omega)]
 exact q
def RepI (i:Int):Prop:=i.natAbs.log2 < 1920
end
def zf (P:Program) (w:World) (K:FG7) (mg:Str -> Option Value) (base:Heap) (k:Nat) (x:Str) (ps:List Str) (sp:Sp):Prop :=
 ∃ (f:Addr) (fd:FuncData),FnOk P w K mg base CX0 k f fd ps sp /\ qM K fd ps [] /\ PySem.W.keepIn K (.ref f) = true /\ mg x = some (.ref f)
theorem zf.mono {P:Program} {w:World} {K:FG7} {mg:Str -> Option Value} {base:Heap} {j k:Nat} {x:Str} {ps:List Str} {sp:Sp} (C:zf P w K mg base j x ps sp) (h:j <= k):zf P w K mg base k x ps sp:=by
 obtain ⟨f,fd,F,b,kp,m⟩:=C
 exact ⟨f,fd,F.mono h,b,kp,m⟩
section
variable {X:Cx} {k:Nat} {ps:List Str} {sp:Sp} {x:Str} {p pos:Pos} {e:Expr} {es:List Expr} {t:TA}
theorem ze (C:zf X.prog X.w X.K X.mg X.base k x ps sp) (hr:Room k X.A) (hg:Gl X x)
  (ha:PA X (e :: es) t) (hdb:(x == ("__debug__":Str)) = false:=by decide) (he:starEach (e :: es) X.env = (false,eval e X.env) :: starEach es X.env:=by rfl) (hpl:(backTo pos (starEach es X.env)).any (·.1) = false:=by rfl) :
  PE X (.Call (.Name x p) (e :: es) [] pos) (Uc sp [] E0 t):=by
 obtain ⟨f,fd,F,b,kp,m⟩:=C
 exact W8 F hr hg m kp b .nil Th ha hdb he hpl
end
structure Grow (m:List Addr) (H H':Hp):Prop where
 keep:∀ b o,b ∉ m -> H b = some o -> H' b = some o
 tup:∀ b xs,H b = some (.tup xs) -> H' b = some (.tup xs)
 frz:∀ b o u,H b = some (.frz o u) -> H' b = some (.frz o u)
theorem Grow.refl (m:List Addr) (H:Hp):Grow m H H:=⟨fun _ _ _ h=>h,fun _ _ h=>h,fun _ _ _ h=>h⟩
theorem Grow.trans {m:List Addr} {H H1 H2:Hp} (a:Grow m H H1) (b:Grow m H1 H2):Grow m H H2 :=
 ⟨fun c o n h=>b.keep c o n (a.keep c o n h),fun c xs h=>b.tup c xs (a.tup c xs h),fun c o u h=>b.frz c o u (a.frz c o u h)⟩
theorem Grow.new {m:List Addr} {H:Hp} {p:Addr} (h:H p = none) (o:HO):Grow m H (upd H p o) :=
 ⟨fun b u _ q=>by rw [zn (zt q h)]; exact q,fun b xs q=>by rw [zn (zt q h)]; exact q,fun b u v q=>by rw [zn (zt q h)]; exact q⟩
theorem Grow.set {m:List Addr} {H:Hp} {p:Addr} {xs:List V} (h:H p = some (.lst xs)) (hm:p ∈ m) (ys:List V):Grow m H (upd H p (.lst ys)) :=
 ⟨fun b u hb q=>by rw [zn (show b ≠ p from fun z=>hb (by rw [z]; exact hm))]; exact q,fun b zs q=>by rw [zn (fun z=>by subst z; rw [h] at q; cases q)]; exact q,fun b u v q=>by rw [zn (fun z=>by subst z; rw [h] at q; cases q)]; exact q⟩
theorem Grow.mono {m m':List Addr} {H H':Hp} (a:Grow m H H') (h:∀ b ∈ m,b ∈ m'):Grow m' H H':=⟨fun b o n q=>a.keep b o (fun z=>n (h b z)) q,a.tup,a.frz⟩
theorem Grow.sqT {m:List Addr} {H H':Hp} (g:Grow m H H') {K:FG7} {a:Addr} {xs:List V} (h:SqT K H a xs):SqT K H' a xs:=by
 rcases h with (h | ⟨o,h⟩) | h
 ·exact .inl (.inl (g.tup _ _ h))
 ·exact .inl (.inr ⟨o,g.frz _ _ _ h⟩)
 ·exact .inr h
theorem Grow.free {H H':Hp} {m:List Addr} (g:Grow m H H') {l:Addr} (hm:l ∉ m) (h:H' l = none):H l = none:=by
 cases q:H l with
 | none=>rfl
 | some o=>rw [g.keep l o hm q] at h; cases h
def Scr (K:FG7) (H:Hp) (a:Addr) (ns:List Int):Prop :=
 (∃ o,H a = some (.frz o (.lst (ns.map V.int)))) ∨
  ∃ (o:Obj) (its:Array Value) (n:Nat),K.lookup a = some o /\ o.cls = .type "list" /\ o.dict = none /\ o.data = .seq its n /\ its.size <= sizeLine /\ Vals (ns.map V.int) its.toList
theorem Scr.sq {K:FG7} {H:Hp} {a:Addr} {ns:List Int} (h:Scr K H a ns):SqL K H a (ns.map V.int):=by
 rcases h with ⟨o,h⟩ | h
 ·exact .inl (.inr ⟨o,h⟩)
 ·exact .inr h
theorem Scr.of {K:FG7} {H:Hp} {a:Addr} {ns:List Int} (hO:Only H) (h:SqL K H a (ns.map V.int)):Scr K H a ns:=by
 rcases h with (h | ⟨o,h⟩) | h
 ·rcases hO a with z | ⟨o,xs,z⟩
  ·rw [h] at z; cases z
  ·rw [h] at z; cases z
 ·exact .inl ⟨o,h⟩
 ·exact .inr h
theorem Grow.scr {m:List Addr} {H H':Hp} (g:Grow m H H') {K:FG7} {a:Addr} {ns:List Int} (h:Scr K H a ns):Scr K H' a ns:=by
 rcases h with ⟨o,h⟩ | h
 ·exact .inl ⟨o,g.frz _ _ _ h⟩
 ·exact .inr h
structure Blt (mg:Str -> Option Value):Prop where
 abs:mg "abs" = none
 len:mg "len" = none
 max:mg "max" = none
 min:mg "min" = none
 divmod:mg "divmod" = none
 repr:mg "repr" = none
 isinstance:mg "isinstance" = none
 all:mg "all" = none
 range:mg "range" = none
 int:mg "int" = none
 bool:mg "bool" = none
 str:mg "str" = none
 tuple:mg "tuple" = none
 list:mg "list" = none
 dict:mg "dict" = none
def sp1 (b:V -> Hp -> VK -> Prop):Sp:=fun vs H Q _=>∃ x,vs = [x] /\ b x H Q
def sp2 (b:V -> V -> Hp -> VK -> Prop):Sp:=fun vs H Q _=>∃ x y,vs = [x,y] /\ b x y H Q
def sp3 (b:V -> V -> V -> Hp -> VK -> Prop):Sp:=fun vs H Q _=>∃ x y z,vs = [x,y,z] /\ b x y z H Q
theorem yh {b:V -> Hp -> VK -> Prop} {p:Str}:∀ vs H Q E,sp1 b vs H Q E -> vs.length = [p].length:=fun vs H Q E h=>by
 obtain ⟨x,rfl,_⟩:=h; rfl
theorem zO {b:V -> V -> Hp -> VK -> Prop} {p q:Str}:∀ vs H Q E,sp2 b vs H Q E -> vs.length = [p,q].length:=fun vs H Q E h=>by
 obtain ⟨x,y,rfl,_⟩:=h; rfl
theorem xj {b:V -> V -> V -> Hp -> VK -> Prop} {p q r:Str}:∀ vs H Q E,sp3 b vs H Q E -> vs.length = [p,q,r].length:=fun vs H Q E h=>by
 obtain ⟨x,y,z,rfl,_⟩:=h; rfl
def rm:V -> Bool
 | .int _=>true
 | _=>false
def endV:V -> Bool
 | .non=>true
 | .int _=>true
 | _=>false
def Kn (K:FG7) (H:Hp) (x:V):Prop:=∃ T,TyV K H x T
structure Deed where
 add:Int
 lo:Option Int
 hi:Option Int
 deriving DecidableEq
def ov:Option Int -> V
 | none=>.non
 | some i=>.int i
def Deed.vs (d:Deed):List V:=[.int d.add,ov d.lo,ov d.hi]
def Deed.Ok (d:Deed):Prop:=∀ l h,d.lo = some l -> d.hi = some h -> l < h \/ (l = h /\ d.add = 0)
def yi (lo:Option Int) (r:Int):Int:=match lo with
 | none=>r
 | some l=>if l > r then l else r
def yj (hi:Option Int) (r:Int):Int:=match hi with
 | none=>r
 | some h=>if h < r then h else r
def Deed.mk' (d:Deed) (v:Int):Int:=yj d.hi (yi d.lo (v + d.add))
def ordV:V -> V -> V -> Bool
 | .int a,.int l,.int h=>decide (l < h) || (decide (l = h) && decide (a = 0))
 | _,_,_=>true
def vg:List V -> Bool
 | [x,y,z]=>rm x && (endV y && (endV z && ordV x y z))
 | _=>false
theorem vh {d:Deed} (h:d.Ok):vg d.vs = true:=by
 obtain ⟨a,lo,hi⟩:=d
 cases lo with
 | none=>cases hi <;> rfl
 | some l =>
  cases hi with
  | none=>rfl
  | some u =>
   have:=h l u rfl rfl
   show (decide (l < u) || (decide (l = u) && decide (a = 0))) = true
   rcases this with q | ⟨q,q2⟩
   ·simp [q]
   ·have q2':a = 0:=q2
    simp [q,q2']
theorem Yk {x:V} (h:rm x = true):∃ i,x = .int i:=by
 cases x <;> first | exact ⟨_,rfl⟩ | cases h
theorem WD {x:V} (h:endV x = true):∃ o,x = ov o:=by
 cases x <;> first | exact ⟨none,rfl⟩ | exact ⟨some _,rfl⟩ | cases h
theorem len3 {xs:List V} (h:xs.length = 3):∃ x y z,xs = [x,y,z]:=by
 match xs,h with
 | [x,y,z],_=>exact ⟨x,y,z,rfl⟩
theorem qN {xs:List V} (h:xs.length ≠ 3):vg xs = false:=by
 match xs,h with
 | [],_=>rfl
 | [_],_=>rfl
 | [_,_],_=>rfl
 | [_,_,_],h=>exact absurd rfl h
 | _ :: _ :: _ :: _ :: _,_=>rfl
def zw (K:FG7) (H:Hp) (x:V) (d:Deed):Prop:=∃ a,x = .ref a /\ SqT K H a d.vs
theorem Grow.deed {m:List Addr} {H H':Hp} (g:Grow m H H') {K:FG7} {x:V} {d:Deed} (h:zw K H x d):zw K H' x d:=by
 obtain ⟨a,e,h⟩:=h
 exact ⟨a,e,g.sqT h⟩
theorem x9 {K:FG7} {H:Hp} {i:Int}:Kn K H (.int i):=⟨"int",rfl⟩
theorem Uk {K:FG7} {H:Hp}:Kn K H .non:=⟨"NoneType",rfl⟩
theorem Zm {K:FG7} {H:Hp} (o:Option Int):Kn K H (ov o):=by cases o; exact Uk; exact x9
def z7 (K:FG7):Sp:=sp1 fun x H Q=>Kn K H x /\ Q (.bl (rm x)) H
def rn (K:FG7):Sp:=sp1 fun x H Q=>Kn K H x /\ Q (.bl (endV x)) H
def wm (K:FG7):Sp:=sp1 fun x H Q=>(∃ T,T ≠ "tuple" /\ TyV K H x T /\ Q (.bl false) H) \/ ∃ a xs,x = .ref a /\ SqT K H a xs /\ (∀ y ∈ xs,Kn K H y) /\ Q (.bl (vg xs)) H
def xD (_:FG7):Sp:=sp1 fun x H Q=>∃ i,x = .int i /\ Q .non H
def vE (K:FG7):Sp:=sp1 fun x H Q=>∃ d,zw K H x d /\ d.Ok /\ Q .non H
def wL (K:FG7):Sp:=sp2 fun x y H Q=>∃ d v,zw K H x d /\ y = .int v /\ Q (.int (d.mk' v)) H
def qO (K:FG7):Sp:=sp2 fun x y H Q=>∃ d v,zw K H x d /\ d.Ok /\ y = .int v /\ Q (.int (d.mk' v)) H
def Pot (H:Hp) (a:Addr):Prop:=∃ p0 p1:Int,H a = some (.lst [.int p0,.int p1]) /\ 0 <= p0
def Sm (n:Int):Prop:=-(10 ^ 30) < n /\ n < 10 ^ 30
def Deed.Sm (d:Deed):Prop:=L3.Sm d.add /\ (∀ l,d.lo = some l -> L3.Sm l) /\ ∀ h,d.hi = some h -> L3.Sm h
def WE (K:FG7):Sp:=sp2 fun x y H Q=>∃ a ns k,x = .ref a /\ y = .int k /\ Scr K H a ns /\ 0 <= k /\ k < 1000 /\ ∀ p H',H p = none -> Grow [] H H' -> Pot H' p -> Q (.ref p) H'
def Yl (K:FG7):Sp:=sp1 fun x H Q=>∃ a,x = .ref a /\ Pot H a /\ ∀ d y H',d.Ok -> d.Sm -> Grow [a] H H' -> Pot H' a -> zw K H' y d -> Q y H'
def jI (K:FG7):Sp:=sp1 fun x H Q=>∃ a ns,x = .ref a /\ Scr K H a ns /\ ns.length <= 63 /\ ∀ H',Q (.bl true) H'
theorem wb:Deed.Ok ⟨0,none,none⟩:=fun l h z=>by cases z
theorem Tj {A:Int} (h:Sm A):Deed.Sm ⟨A,none,none⟩:=⟨h,(fun l z=>by cases z),(fun l z=>by cases z)⟩
theorem Tk {A l:Int} (h:Sm A) (h2:Sm l):Deed.Sm ⟨A,some l,none⟩:=⟨h,(fun l z=>by cases z; exact h2),(fun l z=>by cases z)⟩
theorem Tl {A l:Int} (h:Sm A) (h2:Sm l):Deed.Sm ⟨A,none,some l⟩:=⟨h,(fun l z=>by cases z),(fun l z=>by cases z; exact h2)⟩
theorem ok_n {A:Int} {o:Option Int}:Deed.Ok ⟨A,none,o⟩:=fun l h z=>by cases z
theorem Tm {A l:Int}:Deed.Ok ⟨A,some l,none⟩:=fun l h z z2=>by cases z2
theorem szl {n:Nat} (h:Nat.ble n 1000 = true):n <= sizeLine:=Nat.le_of_lt (z9 (Nat.le_of_ble_eq_true h))
theorem Grow.shrink {H H':Hp} {l:Addr} (h:H l = none) (g:Grow [l] H H'):Grow [] H H' :=
 ⟨fun b o _ q=>g.keep b o (fun z=>by rw [List.mem_singleton.mp z] at q; rw [h] at q; cases q) q,g.tup,g.frz⟩
theorem Grow.wk {m:List Addr} {H H':Hp} (g:Grow [] H H'):Grow m H H':=g.mono (by simp)
theorem Pot.grow {H H':Hp} {a:Addr} (p:Pot H a) (g:Grow [] H H'):Pot H' a:=by
 obtain ⟨u0,u1,hu,hn⟩:=p
 exact ⟨u0,u1,g.keep _ _ (by simp) hu,hn⟩
theorem Pot.new {H:Hp} {a l:Addr} (p:Pot H a) (hl:H l = none) (o:HO):Pot (upd H l o) a:=p.grow (Grow.new hl o)
theorem Ym {k:Int} (h:-(2 ^ 200) < k /\ k < 2 ^ 200):Builtin.Int.intBits k <= 200:=PySem.intBits_le_iff.mpr (by
 have h1:((k.natAbs:Nat):Int) < ((2 ^ 200:Nat):Int):=by
  have e:((2 ^ 200:Nat):Int) = 2 ^ 200:=rfl
  rw [e]; obtain ⟨a,b⟩:=h; omega
 exact Int.ofNat_lt.mp h1)
theorem Ul {i j:Int} (h1:-(2 ^ 200) < i /\ i < 2 ^ 200) (h2:-(2 ^ 200) < j /\ j < 2 ^ 200):IntMulOk i j:=PySem.IntMulOk.of_le (Ym h1) (Ym h2) (by decide)
theorem uZ {i j:Int} (h2:-(2 ^ 60) < j /\ j < 2 ^ 60):IntMulOk i j:=PySem.IntMulOk.of_right (Nat.le_trans ((PySem.intBits_le_iff (m:=60)).mpr (by obtain ⟨a,b⟩:=h2; omega)) (by decide))
section
variable {prog:Program} {w:World} {A:Around} {R:Result -> Shared -> Prop} {s:Shared}
theorem Yn {elt target iter:Expr} {ifs:List Expr} {scope:Scope} {pos:Pos} {it acc:Value} {env:Env} (I:Nat -> Shared -> Prop)
  (turn:∀ n s,I n s -> wpAny (model prog w) A (pyNext it) (fun r s₁=>match r with
   | none=>R (.ok .next) s₁
   | some v=>wpAny (model prog w) A (letOwnedTupleGo target it v) (fun _ s₂=>wpAny (model prog w) A (assign target env v) (fun _ s₃ =>
     wpAny (model prog w) A (forIn ifs true fun c r=>if r = true then do let ok ← isTrue c env (eval c env); pure (ForInStep.yield ok) else pure (ForInStep.yield r)) (fun ok s₄ =>
      if ok = true then wpAny (model prog w) A (eval elt env) (fun x s₅ =>
       wpAny (model prog w) A (call (.builtin "list.append") [acc,x]) (fun _ s₆=>∃ m,m < n /\ I m s₆) (fun _ _=>False) s₅) (fun _ _=>False) s₄
      else ∃ m,m < n /\ I m s₄) (fun _ _=>False) s₃) (fun _ _=>False) s₂) (fun _ _=>False) s₁) (fun _ _=>False) s)
  (n:Nat) (h:I n s) :
  codeAny (model prog w) A (.compLoop (.ListComp elt [⟨target,iter,ifs,0⟩] scope pos) 0 it acc env) R s:=by
 refine codeAny_loop rfl I (fun n s hI=>?_) n h
 show wpAny _ A ((compTurn (.ListComp elt [⟨target,iter,ifs,0⟩] scope pos) 0 it acc env).onRaise (fun x=>do noteFrame x env; theTreesLotGoes x)) _ _ s
 refine wpAny_noted ?_
 rw [compTurn_list]
 have no:∀ (E:VS7) (e:Value) (s:Shared),(fun (_:Value) (_:Shared)=>False) e s -> E e s:=fun _ _ _ f=>f.elim
 refine wpAny_bind (wpAny_standAt (wpAny_bind (wpAny_mono (turn n s hI) (fun r s₁ h₁=>?_) (no _))))
 cases r with
 | none=>exact wpAny_pure h₁
 | some v =>
  refine wpAny_bind (wpAny_mono h₁ (fun _ s₂ h₂=>?_) (no _))
  refine wpAny_bind (wpAny_mono h₂ (fun _ s₃ h₃=>wpAny_bind (wpAny_mono h₃ (fun ok s₄ h₄=>?_) (no _))) (no _))
  cases ok with
  | true =>
   simp only [if_true] at h₄ ⊢
   exact wpAny_bind (wpAny_bind (wpAny_mono h₄ (fun x s₅ h₅=>wpAny_bind (wpAny_mono h₅ (fun _ s₆ h₆=>wpAny_pure (wpAny_pure ⟨rfl,h₆⟩)) (no _))) (no _)))
  | false =>
   simp only [Bool.false_eq_true,if_false] at h₄ ⊢
   first
    | exact wpAny_bind (wpAny_pure (wpAny_pure ⟨rfl,h₄⟩))
    | exact wpAny_pure ⟨rfl,h₄⟩
end
theorem Zn {scope:Scope} {env:Env} (hfree:∀ y ∈ scope.names,y.2 = .free -> ∃ c,env.cells.lookup y.1 = some c) :
  ∃ cl,closureFor scope env = pure cl /\ (∀ x c,cl.lookup x = some c -> env.cells.lookup x = some c) /\ ∀ y ∈ scope.names,y.2 = .free -> ∃ c,cl.lookup y.1 = some c:=by
 have key:∀ (l:List (Str × NameKind)) (cs:List (Str × Addr)),(∀ y ∈ l,y.2 = .free -> ∃ c,env.cells.lookup y.1 = some c) -> (∀ x c,cs.lookup x = some c -> env.cells.lookup x = some c) →
   ∃ cl,(forIn l cs (fun (x:Str × NameKind) r=>do if x.2 == .free then do let c ← cellOf env x.1; pure (ForInStep.yield ((x.1,c) :: r)) else pure (ForInStep.yield r)):Sem (List (Str × Addr))) = pure cl ∧
    (∀ x c,cl.lookup x = some c -> env.cells.lookup x = some c) /\ (∀ y ∈ l,y.2 = .free -> ∃ c,cl.lookup y.1 = some c) /\ ∀ x c,cs.lookup x = some c -> ∃ c',cl.lookup x = some c':=by
  intro l
  induction l with
  | nil=>intro cs _ h2; exact ⟨cs,rfl,h2,fun y hy=>absurd hy (by simp),fun x c h=>⟨c,h⟩⟩
  | cons y r ih =>
   intro cs h1 h2
   obtain ⟨n,k⟩:=y
   by_cases hk:k = .free
   ·subst hk
    obtain ⟨c,hc⟩:=h1 (n,.free) (by simp) rfl
    have hc':env.cells.lookup n = some c:=hc
    have e0:cellOf env n = pure c:=by unfold cellOf; rw [hc']
    obtain ⟨cl,e,p1,p2,p3⟩:=ih ((n,c) :: cs) (fun z hz=>h1 z (List.mem_cons_of_mem _ hz)) (fun x d h=>by
     by_cases hx:x = n
     ·subst hx
      rw [List.lookup_cons_self] at h
      cases h; exact hc'
     ·rw [List.lookup_cons,beq_eq_false_iff_ne.mpr hx] at h
      exact h2 x d h)
    refine ⟨cl,?_,p1,fun z hz=>?_,fun x d h=>?_⟩
    ·rw [List.forIn_cons]
     simp only [beq_self_eq_true,if_true,e0,pure_bind]
     exact e
    ·rcases List.mem_cons.mp hz with rfl | hz
     ·intro _
      exact p3 n c List.lookup_cons_self
     ·exact p2 z hz
    ·by_cases hx:x = n
     ·subst hx; exact p3 x c List.lookup_cons_self
     ·exact p3 x d (by rw [List.lookup_cons,beq_eq_false_iff_ne.mpr hx]; exact h)
   ·have hb:(k == NameKind.free) = false:=beq_eq_false_iff_ne.mpr hk
    obtain ⟨cl,e,p1,p2,p3⟩:=ih cs (fun z hz=>h1 z (List.mem_cons_of_mem _ hz)) h2
    refine ⟨cl,?_,p1,fun z hz=>?_,p3⟩
    ·rw [List.forIn_cons]
     simp only [hb,Bool.false_eq_true,if_false,pure_bind]
     exact e
    ·rcases List.mem_cons.mp hz with rfl | hz
     ·intro h; exact absurd h hk
     ·exact p2 z hz
 obtain ⟨cl,e,p1,p2,_⟩:=key scope.names [] hfree (fun x c h=>by cases h)
 refine ⟨cl,?_,p1,p2⟩
 unfold closureFor
 first
  | (rw [show (forIn scope.names [] _:Sem (List (Str × Addr))) = pure cl from e]; rfl)
  | (simp only [bind_pure]; exact e)
  | exact e
def PIfs (X:Cx) (ifs:List Expr) (t:TT):Prop :=
 ∀ (pins:List (Addr × Obj)) (s:Shared) (σ:L2.St) (H:Hp) (Q:Bool -> Hp -> Prop),Inv X pins σ H s -> t σ H Q →
  wpAny (model X.prog X.w) X.A (forIn ifs true fun c r=>if r = true then do let ok ← isTrue c X.env (eval c X.env); pure (ForInStep.yield ok) else pure (ForInStep.yield r)) (TP X pins σ Q) X.xe s
def rp:TT:=fun _ H Q=>Q true H
theorem zF {X:Cx}:PIfs X [] rp:=fun pins s σ H Q I h=>wpAny_pure ⟨H,I,h⟩
theorem jJ {X:Cx} {c:Expr} {t:TT} (hc:PT X c t):PIfs X [c] t:=fun pins s σ H Q I h=>wpAny_tests_one (hc pins s σ H Q I h)
abbrev cxC (X:Cx) (N':List Str) (scope:Scope) (cl:List (Str × Addr)) (C D:Addr) (fp:List Addr) (s:Shared) (H:Hp):Cx :=
 { X with N:=N',s₀:=s,H₀:=H,env:=compEnvC scope cl C X.env,outer:=X.stack,ex:=D :: fp,fn:=fun _=>false,xe:=fun _ _=>False }
def capt (sub:List (Option Nat)) (σ:L2.St):L2.St:=sub.map fun o=>match o with
 | none=>none
 | some i=>(match σ[i]? with | some v=>v | none=>none)
def vO (J:It) (σ0:L2.St) (H1:Hp) (g:TG) (tt:TT) (te:TE) (Q:VK):Prop :=
 ∃ W:Nat -> Nat -> List V -> L2.St -> Hp -> Prop,(∃ m,W 0 m [] σ0 H1) /\ ∀ i m ys σ' H',W i m ys σ' H' →
  (J.stop i H' /\ ∀ l,H' l = none -> Q (.ref l) (upd H' l (.lst ys))) ∨
  (J.go i H' /\ ∃ Nn:List V -> L2.St -> Hp -> Prop,(∀ zs σ2 H2,Nn zs σ2 H2 -> ∃ m',m' < m /\ W (i + 1) m' zs σ2 H2) ∧
   ∀ x H2,J.yld i H' x H2 -> g x σ' H2 fun σ2 H3=>tt σ2 H3 fun b H4=>if b = true then te σ2 H4 fun y H5=>ys.length < sizeLine /\ Nn (ys ++ [y]) σ2 H5 else Nn ys σ2 H4)
def Um (wi:TI) (sub:List (Option Nat)) (g:TG) (tt:TT) (te:TE):TE:=fun σ H Q=>wi σ H fun J H1=>vO J (capt sub σ) H1 g tt te Q
structure CSc (X:Cx) (scope:Scope) (N':List Str) (sub:List (Option Nat)):Prop where
 free:∀ y ∈ scope.names,y.2 = .free -> X.env.kindOf y.1 = some .cell
 nocell:∀ y ∈ scope.names,y.2 ≠ .cell
 kind:scope.kind = .function
 names:∀ y ∈ scope.names,y.2 = .local -> scope.names.lookup y.1 = some .local
 len:sub.length = N'.length
 cap:∀ (j:Nat) (y:Str) (i:Nat),N'[j]? = some y -> sub[j]? = some (some i) -> X.N[i]? = some y /\ X.env.scope.names.lookup y = some .cell /\ scope.names.lookup y = some .free
theorem HOk.track {P:Program} {w:World} {H:Hp} {h:Heap} {a:Addr} {o:HO} (x:HOk P w H h) (hn:H a = none) (new:z6 P w (upd H a o) h a o):HOk P w (upd H a o) h:=fun b u e=>by
 by_cases hb:b = a
 ·subst hb; rw [zc] at e; cases e; exact new
 ·rw [zn hb] at e
  exact (x b u e).stay (fun c v _ q=>q) (fun c q=>by rw [zn (zt q hn)]; exact q) fun c xs q=>by rw [zn (zt q hn)]; exact q
theorem wC {scope:Scope} {env:Env} {y:Str} {k:NameKind} (h:(relabel scope env).names.lookup y = some k) :
  ∃ k',scope.names.lookup y = some k' /\ (k = k' \/ (k = .cell /\ k' = .free)):=by
 have key:∀ l:List (Str × NameKind),(l.map fun (n,k)=>if (k == NameKind.free && env.scope.kind == .function && env.kindOf n == some .cell) then (n,NameKind.cell) else (n,k)).lookup y = some k →
   ∃ k',l.lookup y = some k' /\ (k = k' \/ (k = .cell /\ k' = .free)):=by
  intro l
  induction l with
  | nil=>intro h; cases h
  | cons p r ih =>
   obtain ⟨n,k0⟩:=p
   intro h
   rw [List.map_cons] at h
   by_cases hc:(k0 == NameKind.free && env.scope.kind == .function && env.kindOf n == some .cell) = true
   ·have hf:k0 = .free:=by
     simp only [Bool.and_eq_true,beq_iff_eq] at hc
     exact hc.1.1
    dsimp only at h
    rw [if_pos hc,List.lookup_cons] at h
    rw [List.lookup_cons]
    cases hx:y == n with
    | true=>rw [hx] at h; cases h; exact ⟨k0,rfl,.inr ⟨rfl,hf⟩⟩
    | false=>rw [hx] at h; exact ih h
   ·dsimp only at h
    rw [if_neg hc,List.lookup_cons] at h
    rw [List.lookup_cons]
    cases hx:y == n with
    | true=>rw [hx] at h; cases h; exact ⟨_,rfl,.inl rfl⟩
    | false=>rw [hx] at h; exact ih h
 exact key scope.names h
theorem vF {scope:Scope} {env:Env} {y:Str} (hk:env.scope.kind = .function) (hc:env.kindOf y = some .cell) (h:scope.names.lookup y = some .free):(relabel scope env).names.lookup y = some .cell:=by
 have key:∀ l:List (Str × NameKind),l.lookup y = some .free -> (l.map fun (n,k)=>if (k == NameKind.free && env.scope.kind == .function && env.kindOf n == some .cell) then (n,NameKind.cell) else (n,k)).lookup y = some .cell:=by
  intro l
  induction l with
  | nil=>intro h; cases h
  | cons p r ih =>
   obtain ⟨n,k0⟩:=p
   intro h
   rw [List.map_cons]
   rw [List.lookup_cons] at h
   dsimp only
   cases hx:y == n with
   | true =>
    rw [hx] at h
    cases h
    have e:y = n:=by simpa using hx
    subst e
    rw [if_pos (by simp [hk,hc]),List.lookup_cons,hx]
   | false =>
    rw [hx] at h
    by_cases hc2:(k0 == NameKind.free && env.scope.kind == .function && env.kindOf n == some .cell) = true
    ·rw [if_pos hc2,List.lookup_cons,hx]; exact ih h
    ·rw [if_neg hc2,List.lookup_cons,hx]; exact ih h
 exact key scope.names h
section
variable {X:Cx} {pins:List (Addr × Obj)} {σ:L2.St} {H2:Hp} {s₂:Shared} {it:Addr} {fp:List Addr} {tn:Nat -> Heap -> Prop} {J:It} {scope:Scope} {cl:List (Str × Addr)} {N':List Str} {sub:List (Option Nat)}
theorem vi {h₁:Heap} {tk:Nat} (I:Inv X pins σ H2 s₂) (S:CSc X scope N' sub) (hcl1:∀ x c,cl.lookup x = some c -> X.env.cells.lookup x = some c) (hcl2:∀ y ∈ scope.names,y.2 = .free -> ∃ c,cl.lookup y.1 = some c)
    (f2:∀ b ∈ fp,FpOk X pins H2 b) (hfp:∀ b ∈ fp,b < s₂.heap.objs.size) {m:Str -> Option Value} {ob:Obj}
    (hns:h₁.Ns (s₂.heap.objs.size + 1) m) (hk:∀ b o,(s₂.heap.push ob).get? b = some o -> h₁.get? b = some o) :
    Inv (cxC X N' scope cl (s₂.heap.objs.size + 1) s₂.heap.objs.size fp { s₂ with heap:=s₂.heap.push ob } H2) pins (capt sub σ) H2 { s₂ with heap:=h₁,toks:=tk }:=by
  have old:∀ b o,s₂.heap.get? b = some o -> (s₂.heap.push ob).get? b = some o:=fun b o e=>Heap.get?_push_of_some _ e
  have old2:∀ b o,s₂.heap.get? b = some o -> h₁.get? b = some o:=fun b o e=>hk b o (old b o e)
  have sz:(s₂.heap.push ob).objs.size = s₂.heap.objs.size + 1:=Heap.size_push ..
  have cells:∀ x c,cl.lookup x = some c -> c < s₂.heap.objs.size:=fun x c e=>let ⟨v,q⟩:=I.cell x c (hcl1 x c e); q.lt
  have has:∀ x,((relabel scope X.env).names.lookup x = some .cell \/ (relabel scope X.env).names.lookup x = some .free) -> ∃ c,cl.lookup x = some c:=fun x hx=>by
    rcases hx with hx | hx
    · obtain ⟨k',e,z⟩:=wC hx
      rcases z with z | ⟨_,z⟩
      · subst z; exact absurd rfl (S.nocell _ (PySem.mem_of_lookup e))
      · subst z; exact hcl2 _ (PySem.mem_of_lookup e) rfl
    · obtain ⟨k',e,z⟩:=wC hx
      rcases z with z | ⟨z,_⟩
      · subst z; exact hcl2 _ (PySem.mem_of_lookup e) rfl
      · cases z
  have frsz:∀ b ∈ frs X.stack,b < s₂.heap.objs.size:=fun b hb=>by
    rcases List.mem_cons.mp (I.stkSub b hb) with z | z
    · rw [z]; exact I.lt
    · exact Nat.lt_of_not_le fun q=>I.nofs q z
  refine
    { ok :=
      { mod:=I.ok.mod,kind:=S.kind,glob:=I.ok.glob,blt:=I.ok.blt
        above:=by show (s₂.heap.push ob).objs.size <= s₂.heap.objs.size + 1; rw [sz]; exact Nat.le_refl _
        inj:=fun x y c h1 h2=>I.ok.inj x y c (hcl1 x c h1) (hcl1 y c h2)
        has:=has
        cab:=fun x c z=>by cases z
        hd:=I.ok.hd,frames:=I.ok.frames,stk:=.inl rfl
        exf:=fun b hb=>?exf
        bs:=fun b o e=>⟨old b o (I.bk b o e),(I.bs b o e).2⟩
        bsz:=by show X.base.objs.size <= (s₂.heap.push ob).objs.size; rw [sz]; exact Nat.le_succ_of_le (Nat.le_trans I.ok.bsz I.sz)
        noex:=fun b o e hb=>?noex
        exfs:=fun b hb=>?exfs
        funs:=?funs
        frf:=I.stkFree }
      os:=rfl,bare:=I.bare,base:=Un.kept fun b u e=>hk b u e
      loc:=⟨m,hns,?loc⟩
      cell:=fun x c e=>?cell
      free:=I.hok.fresh (Nat.le_succ _)
      freeC:=fun x c e=>I.freeC x c (hcl1 x c e)
      pin:=fun p hp=>?pin
      hok:=I.hok.kept old2
      len:=?len }
  case exf =>
    rcases List.mem_cons.mp hb with rfl | hb
    · exact ⟨Nat.ne_of_lt (Nat.lt_succ_self _),fun x c e=>Nat.ne_of_lt (cells x c e)⟩
    · exact ⟨Nat.ne_of_lt (Nat.lt_succ_of_lt (hfp b hb)),fun x c e=>(f2 b hb).2.2.2.2.1 x c (hcl1 x c e)⟩
  case noex =>
    have hl:b < X.s₀.heap.objs.size:=Nat.lt_of_lt_of_le (Heap.lt_size e) I.ok.bsz
    rcases List.mem_cons.mp hb with rfl | hb
    · exact absurd (Nat.lt_of_lt_of_le hl I.sz) (Nat.lt_irrefl _)
    · rcases (f2 b hb).2.2.2.1 with z | z
      · exact I.ok.noex b o e z
      · exact absurd (Nat.lt_of_lt_of_le hl z) (Nat.lt_irrefl _)
  case exfs =>
    intro hs
    rcases List.mem_cons.mp hb with rfl | hb
    · exact absurd (frsz _ hs) (Nat.lt_irrefl _)
    · rcases List.mem_cons.mp (I.stkSub b hs) with z | z
      · exact (f2 b hb).2.1 z
      · exact (f2 b hb).2.2.1 z
  case funs=>exact Heap.FunFrames.of_keeps (fun b o e _=>⟨o,old b o e,rfl⟩) I.stack
  case loc =>
    intro j y v hj hv hvis
    obtain ⟨mX,_,lX⟩:=I.loc
    unfold capt at hv
    rw [List.getElem?_map] at hv
    cases hs:sub[j]? with
    | none=>rw [hs] at hv; cases hv
    | some o =>
      rw [hs] at hv
      cases o with
      | none=>cases hv
      | some i =>
        obtain ⟨hN,hc,hf⟩:=S.cap j y i hj hs
        have hv':σ[i]? = some (some v):=by
          have z:(match σ[i]? with | some v=>v | none=>none) = some v:=Option.some.inj hv
          cases q:σ[i]? with
          | none=>rw [q] at z; cases z
          | some w=>rw [q] at z; rw [show w = some v from z]
        obtain ⟨u,ru,hl⟩:=lX i y v hN hv' (.inr (.inl hc))
        refine ⟨u,ru,?_⟩
        have kc:(relabel scope X.env).names.lookup y = some .cell:=vF I.ok.kind hc hf
        rcases hl with ⟨z,_⟩ | ⟨_,c,e,ic⟩
        · have z':X.env.scope.names.lookup y = some .local :=z
          rw [hc] at z'; cases z'
        · obtain ⟨c',e'⟩:=hcl2 _ (PySem.mem_of_lookup hf) rfl
          have:=hcl1 _ _ e'
          rw [e] at this; cases this
          refine .inr ⟨.inl kc,c,e',?_⟩
          obtain ⟨oc,h1,h2⟩:=ic
          exact ⟨oc,old2 _ _ h1,h2⟩
  case cell =>
    obtain ⟨v,oc,h1,h2⟩:=I.cell x c (hcl1 x c e)
    exact ⟨v,oc,old2 _ _ h1,h2⟩
  case pin =>
    obtain ⟨p1,p2,p3,p4,p5⟩:=I.pin p hp
    refine ⟨old2 _ _ p1,p2,Nat.ne_of_lt (Nat.lt_succ_of_lt (Heap.lt_size p1)),fun hs=>?_,p5⟩
    rcases List.mem_cons.mp (I.stkSub _ hs) with z | z
    · exact p3 z
    · exact p4 z
  case len =>
    show (capt sub σ).length = N'.length
    unfold capt
    rw [List.length_map]; exact S.len
theorem jK {C D:Addr} {s₀:Shared} {s':Shared} {σ':L2.St} {H':Hp} {ys:List V} {us:List Value} {k:Nat} {oC:Obj} (I:Inv X pins σ H2 s₂)
    (hs₀:∀ b o,s₂.heap.get? b = some o -> s₀.heap.get? b = some o) (hos:s₀.os = s₂.os) (hD:s₂.heap.objs.size <= D) (hC:s₂.heap.objs.size <= C) (hDC:D ≠ C) (f2:∀ b ∈ fp,FpOk X pins H2 b)
    (I':Inv (cxC X N' scope cl C D fp s₀ H2) pins σ' H' s') (hn:H' D = none) (hy:s'.heap.get? D = some { cls:=.type "list",data:=.seq us.toArray k }) (rv:Vals ys us) (hz:ys.length <= sizeLine)
    (ho:s'.heap.get? C = some oC) (hd:∀ v,oC.data ≠ .cell v):Inv X (pins ++ [(C,oC)]) σ (upd H' D (.lst ys)) s' /\ FpOk X pins (upd H' D (.lst ys)) C:=by
  have neD:∀ b o,s₂.heap.get? b = some o -> b ≠ D:=fun b o e=>Nat.ne_of_lt (Nat.lt_of_lt_of_le (Heap.lt_size e) hD)
  have nm:∀ b o,s₂.heap.get? b = some o -> b ∉ fp -> b ∉ D :: fp:=fun b o e h z=>(List.mem_cons.mp z).elim (neD b o e) h
  have U:=I'.base
  have HC:upd H' D (.lst ys) C = none:=by rw [zn (Ne.symm hDC)]; exact I'.free
  have fpc:FpOk X pins (upd H' D (.lst ys)) C:=I.fpOk hC HC
  have un:Un (frs X.stack) fp H2 (upd H' D (.lst ys)) s₂.heap s'.heap :=
    { keep:=fun b o e n h1 h2=>U.keep b o (hs₀ b o e) n h1 (nm b o e h2)
      slot:=fun b o e n h1 h2=>U.slot b o (hs₀ b o e) n h1 (nm b o e h2)
      free:=fun b o e n h2=>by rw [zn (neD b o e)]; exact U.free b o (hs₀ b o e) n (nm b o e h2)
      there:=fun b o e h2=>U.there b o (hs₀ b o e) (nm b o e h2)
      tups:=fun b xs e=>by have z:=U.tups b xs e; rw [zn (zt z hn)]; exact z
      frzs:=fun b o u e=>by have z:=U.frzs b o u e; rw [zn (zt z hn)]; exact z
      tbls:=fun b ps e=>by obtain ⟨more,z⟩:=U.tbls b ps e; exact ⟨more,by rw [zn (zt z hn)]; exact z⟩ }
  have hok:HOk X.prog X.w (upd H' D (.lst ys)) s'.heap:=HOk.track I'.hok hn ⟨hz,us,k,rv,hy⟩
  have IX:Inv X pins σ (upd H' D (.lst ys)) s':=I.call' (I'.os.trans hos) un hok I'.bare fun b hb=>⟨(f2 b hb).2.2.2.1,(f2 b hb).2.1,(f2 b hb).2.2.2.2.1,(f2 b hb).2.2.2.2.2⟩
  refine ⟨IX.pins_of fun p hp=>?_,fpc⟩
  rcases List.mem_append.mp hp with hp | hp
  · exact IX.pin p (List.mem_append_right _ hp)
  · rw [List.mem_singleton.mp hp]
    exact ⟨ho,HC,fpc.2.1,fpc.2.2.1,hd⟩
end
section
variable {X:Cx} {scope:Scope} {N':List Str} {sub:List (Option Nat)} {x:Str} {px pos:Pos} {elt iter:Expr} {ifs:List Expr} {wi:TI} {g:TG} {tt:TT} {te:TE}
theorem CSc.clos {pins:List (Addr × Obj)} {σ:L2.St} {H:Hp} {s:Shared} (S:CSc X scope N' sub) (I:Inv X pins σ H s):∃ cl,closureFor scope X.env = pure cl /\ (∀ x c,cl.lookup x = some c -> X.env.cells.lookup x = some c) /\ ∀ y ∈ scope.names,y.2 = .free -> ∃ c,cl.lookup y.1 = some c :=
 Zn fun y hy hf=>I.ok.has y.1 (.inl (S.free y hy hf))
end
def eqVs:List V -> List V -> Bool
 | [],[]=>true
 | x :: xs,y :: ys=>eqV x y && eqVs xs ys
 | _,_=>false
theorem jL:∀ {xs ys:List V},eqVs xs ys = true -> xs.length = ys.length
 | [],[],_=>rfl
 | x :: xs,y :: ys,h=>by
  have h':(eqV x y && eqVs xs ys) = true:=h
  rw [Bool.and_eq_true] at h'
  simp [jL h'.2]
 | [],_ :: _,h=>by cases h
 | _ :: _,[],h=>by cases h
theorem jM:∀ {xs ys:List V},eqVs xs ys = true ↔ xs.length = ys.length /\ ∀ (j:Nat) (x y:V),xs[j]? = some x -> ys[j]? = some y -> eqV x y = true
 | [],[]=>by simp [eqVs]
 | x :: xs,y :: ys=>by
  show (eqV x y && eqVs xs ys) = true ↔ _
  rw [Bool.and_eq_true,jM]
  constructor
  ·rintro ⟨h1,h2,h3⟩
   refine ⟨by simp [h2],fun j a b ha hb=>?_⟩
   cases j with
   | zero=>simp at ha hb; subst ha hb; exact h1
   | succ j=>exact h3 j a b (by simpa using ha) (by simpa using hb)
  ·rintro ⟨h1,h2⟩
   exact ⟨h2 0 x y rfl rfl,by simpa using h1,fun j a b ha hb=>h2 (j + 1) a b (by simpa using ha) (by simpa using hb)⟩
 | [],_ :: _=>by simp [eqVs]
 | _ :: _,[]=>by simp [eqVs]
theorem u5 {xs ys:List V}:((List.range (min xs.length ys.length)).all (fun j=>match xs[j]?,ys[j]? with | some x,some y=>eqV x y | _,_=>true) && xs.length == ys.length) = eqVs xs ys:=by
 rw [Bool.eq_iff_iff,Bool.and_eq_true,List.all_eq_true,beq_iff_eq,jM]
 constructor
 ·rintro ⟨h1,h2⟩
  refine ⟨h2,fun j x y hx hy=>?_⟩
  have hj:j < xs.length:=(List.getElem?_eq_some_iff.mp hx).1
  have:=h1 j (List.mem_range.mpr (by rw [← h2]; simpa using hj))
  rw [hx,hy] at this
  exact this
 ·rintro ⟨h1,h2⟩
  refine ⟨fun j hj=>?_,h1⟩
  have hj':=List.mem_range.mp hj
  have a:j < xs.length:=by omega
  have b:j < ys.length:=by omega
  rw [List.getElem?_eq_getElem a,List.getElem?_eq_getElem b]
  exact h2 j _ _ (List.getElem?_eq_getElem a) (List.getElem?_eq_getElem b)
theorem Yo {xs:List V} {us:List Value} (r:Vals xs us) (j:Nat) (h:j < us.length):∃ x,xs[j]? = some x /\ RelV x us[j]:=by
 have hl:=r.length
 have hx:xs[j]? = some xs[j]:=List.getElem?_eq_getElem (by omega)
 obtain ⟨u,e,q⟩:=r.get hx
 rw [List.getElem?_eq_getElem h] at e
 cases e
 exact ⟨_,hx,q⟩
theorem WF {A:Around} {s:Shared} {xs ys:List V} {us ws:List Value} (r1:Vals xs us) (r2:Vals ys ws) (f1:xs.all uc = true) (f2:ys.all uc = true) :
  ∀ j (h1:j < us.toArray.size) (h2:j < ws.toArray.size),SeqAt.EqAt A s us.toArray[j] ws.toArray[j] ((fun j=>match xs[j]?,ys[j]? with | some x,some y=>eqV x y | _,_=>true) j):=by
 intro j h1 h2
 obtain ⟨x,ex,qx⟩:=Yo r1 j (by simpa using h1)
 obtain ⟨y,ey,qy⟩:=Yo r2 j (by simpa using h2)
 have fx:uc x = true:=List.all_eq_true.mp f1 x (List.mem_of_getElem? ex)
 have fy:uc y = true:=List.all_eq_true.mp f2 y (List.mem_of_getElem? ey)
 show SeqAt.EqAt A s _ _ (match xs[j]?,ys[j]? with | some x,some y=>eqV x y | _,_=>true)
 rw [ex,ey]
 simpa using Ue qx qy fx fy
section
variable {X:Cx}
def rEqT (K:FG7) (neg:Bool):R2:=fun x y H Q=>∃ a b xs ys,x = .ref a /\ y = .ref b /\ SqT K H a xs /\ SqT K H b ys /\ xs.all uc = true /\ ys.all uc = true /\ Q (.bl (if neg then !eqVs xs ys else eqVs xs ys)) H
theorem yx {h:Heap} {a:Addr} {its:Array Value} (t:IsTup h a its):h.IsTuple a its:=t
theorem Uo {k:Nat} (hr:Room k X.A):OpR X (compareOp .NotEq) (rEqT X.K true):=by
 intro pins s σ H x y v u Q I rx ry h
 obtain ⟨a,b,xs,ys,rfl,rfl,ha,hb,f1,f2,q⟩:=h
 cases rx; cases ry
 obtain ⟨us,r1,t1,_⟩:=I.tuple ha
 obtain ⟨ws,r2,t2,_⟩:=I.tuple hb
 refine SeqAt.RcNeAt.tuples (yx t1) (yx t2) hr.units0 (WF r1 r2 f1 f2) _ _ _ _ ?_
 rw [List.size_toArray,List.size_toArray,← r1.length,← r2.length,u5]
 exact ⟨.bl _,H,I,rfl,q⟩
end
section
variable {X:Cx} {pos:Pos}
theorem rq:∀ {bs:List Bool} {us:List Value},Vals (bs.map V.bl) us -> LSm.BoolsAre us bs
 | [],_,.nil=>.nil
 | b :: bs,_,.cons r t=>by
  cases r
  exact .cons b (rq t)
theorem yO (hcalm:X.calm = true):wI X (.builtin "all") (fun xs H Q=>∃ (l:Addr) (bs:List Bool),xs = [.ref l] /\ SqL X.K H l (bs.map V.bl) /\ Q (.bl (bs.all id)) H):=by
 intro pins s σ H xs us Q I r h
 obtain ⟨l,bs,rfl,hl,q⟩:=h
 obtain ⟨u,rfl,rx⟩:=tW r
 cases (show u = Value.ref l from rx)
 obtain ⟨vs,rv,pl,_⟩:=I.list hl
 have hl':s.heap.IsList l vs.toArray:=pl.isList
 have hb:LSm.BoolsAre vs bs:=rq rv
 have hlt:l < s.heap.objs.size:=by obtain ⟨_,e,_⟩:=hl'; exact Heap.lt_size e
 refine call_all_walk (wpAny_pyIter_list hl' ?_)
 refine ⟨s.heap.objs.size,[s.heap.objs.size,l],[s.heap.objs.size],vs.toArray.size,_,_,fun i=>(bs[i]?).getD true,rfl,Walks.list (A:=X.A.in1) (I.ok.hd hcalm) _ l (Nat.ne_of_lt hlt) vs.toArray,
  ⟨⟨_,Heap.get?_push_size _ rfl,rfl,rfl⟩,hl'.push _⟩,fun i v s' Q' E' hP hQ=>?_,fun h' tk hk=>?_⟩
 ·obtain ⟨b,e,rfl⟩:=hb.get i v (by simpa using hP)
  simp only [e,Option.getD_some] at hQ
  exact wpAny_truthy_bool hQ
 ·have e:((List.range vs.toArray.size).all fun i=>(bs[i]?).getD true) = bs.all id:=by
   have hlen:bs.length = vs.length:=by rw [← rv.length,List.length_map]
   rw [List.size_toArray,← hlen,Bool.eq_iff_iff,List.all_eq_true,List.all_eq_true]
   constructor
   ·intro z b hb'
    obtain ⟨i,hi,rfl⟩:=List.getElem_of_mem hb'
    have:=z i (List.mem_range.mpr hi)
    simpa [List.getElem?_eq_getElem hi] using this
   ·intro z i hi
    have hi':=List.mem_range.mp hi
    simpa [List.getElem?_eq_getElem hi'] using z _ (List.getElem_mem hi')
  rw [e]
  exact ⟨.bl (bs.all id),H,I.kept (t':=tk) (h':=h') (LSm.kept_iter hk),rfl,q⟩
end
theorem CSc.of {X:Cx} {scope:Scope} {N':List Str} {sub:List (Option Nat)} (sc:Scope) (NN:List Str) (e:X.env.scope = sc) (en:X.N = NN)
  (h:((scope.names.all fun y=>(y.2 != .free || sc.names.lookup y.1 == some .cell) && (y.2 != .cell) && (y.2 != .local || scope.names.lookup y.1 == some .local)) && (sub.length == N'.length) &&
   ((N'.zip sub).all fun p=>match p.2 with | none=>true | some i=>NN[i]? == some p.1 && sc.names.lookup p.1 == some .cell && scope.names.lookup p.1 == some .free)) = true)
  (hk:scope.kind = .function):CSc X scope N' sub:=by
 rw [Bool.and_eq_true,Bool.and_eq_true] at h
 obtain ⟨⟨h1,h2⟩,h3⟩:=h
 have k1:=fun y hy=>List.all_eq_true.mp h1 y hy
 refine ⟨fun y hy hf=>?_,fun y hy hc=>?_,hk,fun y hy hl=>?_,by simpa using h2,fun j y i hj hs=>?_⟩
 ·have:=k1 y hy
  simp only [hf,Bool.and_eq_true] at this
  have z:=this.1.1
  show X.env.scope.names.lookup y.1 = _
  rw [e]; simpa using z
 ·have:=k1 y hy
  simp only [hc,Bool.and_eq_true] at this
  simp at this
 ·have:=k1 y hy
  simp only [hl,Bool.and_eq_true] at this
  simpa using this.2
 ·have hm:(y,some i) ∈ N'.zip sub:=by
   have:(N'.zip sub)[j]? = some (y,some i):=by
    rw [List.getElem?_zip_eq_some]; exact ⟨hj,hs⟩
   exact List.mem_of_getElem? this
  have:=List.all_eq_true.mp h3 _ hm
  simp only [Bool.and_eq_true,beq_iff_eq] at this
  rw [e,en]
  exact ⟨this.1.1,this.1.2,this.2⟩
def vj (a:Int) (lo hi:Option Int):Deed:=if lo ≠ none /\ lo = hi then ⟨0,lo,hi⟩ else ⟨a,lo,hi⟩
def thrO (e:Deed) (o:Option Int) (d:Option Int):Option Int:=match o with
 | none=>d
 | some l=>some (e.mk' l)
def zP (d e:Deed):Deed:=vj (d.add + e.add) (thrO e d.lo e.lo) (thrO e d.hi e.hi)
def Deed.Bd (B:Int) (d:Deed):Prop:=(-B <= d.add /\ d.add <= B) /\ (∀ l,d.lo = some l -> -B <= l /\ l <= B) /\ ∀ h,d.hi = some h -> -B <= h /\ h <= B
theorem Up (a v:Int):(Deed.mk a none none).mk' v = v + a:=rfl
theorem XW (a l v:Int):(Deed.mk a (some l) none).mk' v = if l > v + a then l else v + a:=rfl
theorem XX (a h v:Int):(Deed.mk a none (some h)).mk' v = if h < v + a then h else v + a:=rfl
theorem tX (a l h v:Int):(Deed.mk a (some l) (some h)).mk' v = if h < (if l > v + a then l else v + a) then h else (if l > v + a then l else v + a):=rfl
theorem tY {a l h:Int} (o:Deed.Ok ⟨a,some l,some h⟩):l < h \/ (l = h /\ a = 0):=o l h rfl rfl
theorem jN {B:Int} {d:Deed} (o:d.Ok) (b:d.Bd B) {v:Int} (hv:v <= -(4 * B)) (hB:0 < B):d.mk' v = (match d.lo with | some l=>l | none=>v + d.add):=by
 obtain ⟨a,lo,hi⟩:=d
 obtain ⟨⟨b1,b2⟩,b3,b4⟩:=b
 have b1':-B <= a:=b1
 have b2':a <= B:=b2
 cases lo with
 | none =>
  cases hi with
  | none=>rfl
  | some h =>
   have:=b4 h rfl
   rw [XX]; show _ = v + a; rw [if_neg (by omega)]
 | some l =>
  have:=b3 l rfl
  cases hi with
  | none=>rw [XW]; show _ = l; rw [if_pos (by omega)]
  | some h =>
   have q:=tY o
   rw [tX]; show _ = l; rw [if_pos (show l > v + a by omega),if_neg (by omega)]
theorem XY {B:Int} {d:Deed} (o:d.Ok) (b:d.Bd B) {v:Int} (hv:4 * B <= v) (hB:0 < B):d.mk' v = (match d.hi with | some h=>h | none=>v + d.add):=by
 obtain ⟨a,lo,hi⟩:=d
 obtain ⟨⟨b1,b2⟩,b3,b4⟩:=b
 have b1':-B <= a:=b1
 have b2':a <= B:=b2
 cases hi with
 | none =>
  cases lo with
  | none=>rfl
  | some l =>
   have:=b3 l rfl
   rw [XW]; show _ = v + a; rw [if_neg (by omega)]
 | some h =>
  have:=b4 h rfl
  cases lo with
  | none=>rw [XX]; show _ = h; rw [if_pos (by omega)]
  | some l =>
   have q:=tY o
   have:=b3 l rfl
   rw [tX]; show _ = h; rw [if_neg (show ¬ l > v + a by omega),if_pos (by omega)]
def optA (o:Option Int):Int:=match o with | none=>0 | some i=>(i.natAbs:Int)
def Deed.big (d:Deed):Int:=(d.add.natAbs:Int) + optA d.lo + optA d.hi + 1
theorem vk (o:Option Int):0 <= optA o:=by cases o with
 | none=>exact Int.le_refl _
 | some i=>show 0 <= (i.natAbs:Int); omega
theorem WG {d:Deed} {B:Int} (h:d.big <= B):d.Bd B /\ 0 < B:=by
 obtain ⟨a,lo,hi⟩:=d
 have h':(a.natAbs:Int) + optA lo + optA hi + 1 <= B:=h
 have n1:=vk lo
 have n2:=vk hi
 refine ⟨⟨⟨?_,?_⟩,fun l e=>?_,fun u e=>?_⟩,by omega⟩
 ·show -B <= a; omega
 ·show a <= B; omega
 ·have e':lo = some l:=e
  subst e'
  have:optA (some l) = (l.natAbs:Int):=rfl
  omega
 ·have e':hi = some u:=e
  subst e'
  have:optA (some u) = (u.natAbs:Int):=rfl
  omega
theorem WH (l r:Int):(if l > r then l else r) = max l r:=by
 split <;> omega
theorem WI (h r:Int):(if h < r then h else r) = min h r:=by
 split <;> omega
theorem vX {a a' l u:Int} (c:l < u) (h:∀ v,(Deed.mk a (some l) (some u)).mk' v = (Deed.mk a' (some l) (some u)).mk' v):a' <= a:=by
 have m:=h (l - a)
 rw [tX,tX,WH,WI,WH,WI,show l - a + a = l by omega,Int.max_self,Int.min_eq_right (Int.le_of_lt c)] at m
 rcases Int.lt_or_le a a' with d | d
 ·exfalso
  rw [Int.max_eq_right (show l <= l - a + a' by omega)] at m
  rcases Int.le_total u (l - a + a') with z | z
  ·rw [Int.min_eq_left z] at m; omega
  ·rw [Int.min_eq_right z] at m; omega
 ·exact d
theorem Uq {a a' l u:Int} (od:Deed.Ok ⟨a,some l,some u⟩) (oe:Deed.Ok ⟨a',some l,some u⟩) (h:∀ v,(Deed.mk a (some l) (some u)).mk' v = (Deed.mk a' (some l) (some u)).mk' v):a = a':=by
 rcases tY od with c | c
 ·exact Int.le_antisymm (vX c fun v=>(h v).symm) (vX c h)
 ·rcases tY oe with d | d
  ·exact Int.le_antisymm (vX d fun v=>(h v).symm) (vX d h)
  ·rw [c.2,d.2]
theorem tZ {d e:Deed} (od:d.Ok) (oe:e.Ok) (h:∀ v,d.mk' v = e.mk' v):d = e:=by
  have n1:=vk d.lo
  have n2:=vk d.hi
  have n3:=vk e.lo
  have n4:=vk e.hi
  have k1:1 <= d.big:=by unfold Deed.big; omega
  have k2:1 <= e.big:=by unfold Deed.big; omega
  obtain ⟨bd,hB⟩:=WG (d:=d) (B:=d.big + e.big) (by omega)
  obtain ⟨be,hB2⟩:=WG (d:=e) (B:=d.big + e.big) (by omega)
  generalize d.big + e.big = B at bd be hB
  have l1:=(jN od bd (v:=-(4 * B)) (Int.le_refl _) hB).symm.trans ((h _).trans (jN oe be (Int.le_refl _) hB))
  have l2:=(jN od bd (v:=-(4 * B) - 1) (by omega) hB).symm.trans ((h _).trans (jN oe be (by omega) hB))
  have h1:=(XY od bd (v:=4 * B) (Int.le_refl _) hB).symm.trans ((h _).trans (XY oe be (Int.le_refl _) hB))
  have h2:=(XY od bd (v:=4 * B + 1) (by omega) hB).symm.trans ((h _).trans (XY oe be (by omega) hB))
  obtain ⟨a,lo,hi⟩:=d
  obtain ⟨a',lo',hi'⟩:=e
  cases lo <;> cases lo' <;> cases hi <;> cases hi' <;> simp only at l1 l2 h1 h2 <;> first
    | (exfalso; omega)
    | (have:a = a':=by omega
       subst this
       first | rfl | (have z:=h1; subst z; rfl) | (have z:=l1; subst z; rfl))
    | skip
  cases l1
  cases h1
  rw [Uq od oe h]
theorem qP {a:Int} {lo hi:Option Int} (h:∀ l u,lo = some l -> hi = some u -> l <= u):(vj a lo hi).Ok:=by
 unfold vj
 split
 ·rename_i c
  intro l u e1 e2
  have e1':lo = some l:=e1
  have e2':hi = some u:=e2
  right
  refine ⟨?_,rfl⟩
  have:=c.2
  rw [e1',e2'] at this
  exact Option.some.inj this
 ·rename_i c
  intro l u e1 e2
  have e1':lo = some l:=e1
  have e2':hi = some u:=e2
  left
  have:=h l u e1' e2'
  have ne:l ≠ u:=fun z=>c ⟨by rw [e1']; simp,by rw [e1',e2',z]⟩
  omega
theorem Ve {a:Int} {lo hi:Option Int} (v:Int):(vj a lo hi).mk' v = (Deed.mk a lo hi).mk' v:=by
 unfold vj
 split
 ·rename_i c
  obtain ⟨c1,c2⟩:=c
  subst c2
  cases lo with
  | none=>exact absurd rfl c1
  | some l =>
   rw [tX,tX]
   split <;> split <;> split <;> (try split) <;> omega
 ·rfl
theorem uM (l r:Int):yi (some l) r = max l r:=by
 show (if l > r then l else r) = _
 split <;> omega
theorem vm (h r:Int):yj (some h) r = min h r:=by
 show (if h < r then h else r) = _
 split <;> omega
theorem WJ (r:Int):yi none r = r:=rfl
theorem WK (r:Int):yj none r = r:=rfl
theorem jO {l x y:Int} (h:x <= y):max l x <= max l y:=by omega
theorem jP {l x y:Int} (h:x <= y):min l x <= min l y:=by omega
theorem uh {d:Deed} {v w:Int} (h:v <= w):d.mk' v <= d.mk' w:=by
 obtain ⟨a,lo,hi⟩:=d
 have h':v + a <= w + a:=Int.add_le_add_right h a
 cases lo with
 | none =>
  cases hi with
  | none=>exact h'
  | some u=>simp only [Deed.mk',vm,WJ]; exact jP h'
 | some l =>
  cases hi with
  | none=>simp only [Deed.mk',uM,WK]; exact jO h'
  | some u=>simp only [Deed.mk',uM,vm]; exact jP (jO h')
theorem yn {d e:Deed} (od:d.Ok) (oe:e.Ok):(zP d e).Ok:=by
 refine qP fun l u e1 e2=>?_
 obtain ⟨a,lo,hi⟩:=d
 obtain ⟨a',lo',hi'⟩:=e
 cases lo with
 | none =>
  have e1':lo' = some l:=e1
  subst e1'
  cases hi with
  | none =>
   have e2':hi' = some u:=e2
   subst e2'
   have:=tY oe; omega
  | some h =>
   have e2':(Deed.mk a' (some l) hi').mk' h = u:=Option.some.inj e2
   subst e2'
   cases hi' with
   | none=>rw [XW]; split <;> omega
   | some h' =>
    have:=tY oe
    rw [tX]; (repeat' split) <;> omega
 | some l0 =>
  have e1':(Deed.mk a' lo' hi').mk' l0 = l:=Option.some.inj e1
  subst e1'
  cases hi with
  | none =>
   have e2':hi' = some u:=e2
   subst e2'
   cases lo' with
   | none=>rw [XX]; split <;> omega
   | some l' =>
    have:=tY oe
    rw [tX]; (repeat' split) <;> omega
  | some h =>
   have e2':(Deed.mk a' lo' hi').mk' h = u:=Option.some.inj e2
   subst e2'
   have:=tY od
   exact uh (by omega)
theorem WL {d:Deed} (x y:Int):d.mk' (max x y) = max (d.mk' x) (d.mk' y):=by
 rcases Int.le_total x y with h | h
 ·rw [Int.max_eq_right h,Int.max_eq_right (uh h)]
 ·rw [Int.max_eq_left h,Int.max_eq_left (uh h)]
theorem WM {d:Deed} (x y:Int):d.mk' (min x y) = min (d.mk' x) (d.mk' y):=by
 rcases Int.le_total x y with h | h
 ·rw [Int.min_eq_left h,Int.min_eq_left (uh h)]
 ·rw [Int.min_eq_right h,Int.min_eq_right (uh h)]
theorem Tn {F m W:Int} (h:m <= F):max F W = max F (max m W):=by omega
theorem To {F u L:Int} (h:F <= u):min F L = min F (min u L):=by omega
theorem mm_x {F u W:Int} (h:F <= u):min u (max F W) = max F (min u W):=by omega
theorem Tp {F G C W:Int} (h:C = W \/ (W < C /\ C <= F) \/ (C < W /\ F <= C /\ G <= C)):min G (max F W) = min G (max F C):=by
 rcases h with rfl | ⟨h1,h2⟩ | ⟨h1,h2,h3⟩
 ·rfl
 ·rw [Int.max_eq_left h2,Int.max_eq_left (Int.le_trans (Int.le_of_lt h1) h2)]
 ·rw [Int.max_eq_right h2,Int.max_eq_right (Int.le_trans h2 (Int.le_of_lt h1)),Int.min_eq_left h3,Int.min_eq_left (Int.le_trans h3 (Int.le_of_lt h1))]
theorem Ur {a:Int} {lo hi:Option Int} (o:∀ l h,lo = some l -> hi = some h -> l <= h) (W:Int) :
  yj hi (yi lo W) = W \/ (W < yj hi (yi lo W) /\ ∀ x,yj hi (yi lo W) <= (Deed.mk a lo hi).mk' x) \/ (yj hi (yi lo W) < W /\ ∀ x,(Deed.mk a lo hi).mk' x <= yj hi (yi lo W)):=by
 cases lo with
 | none =>
  cases hi with
  | none=>exact .inl rfl
  | some h =>
   simp only [Deed.mk',vm,WJ]
   rcases Int.le_total W h with c | c
   ·exact .inl (Int.min_eq_right c)
   ·rw [Int.min_eq_left c]
    rcases Int.lt_or_eq_of_le c with d | d
    ·exact .inr (.inr ⟨d,fun x=>Int.min_le_left _ _⟩)
    ·exact .inl d
 | some l =>
  cases hi with
  | none =>
   simp only [Deed.mk',uM,WK]
   rcases Int.le_total l W with c | c
   ·exact .inl (Int.max_eq_right c)
   ·rw [Int.max_eq_left c]
    rcases Int.lt_or_eq_of_le c with d | d
    ·exact .inr (.inl ⟨d,fun x=>Int.le_max_left _ _⟩)
    ·exact .inl d.symm
  | some h =>
   have lh:=o l h rfl rfl
   simp only [Deed.mk',uM,vm]
   rcases Int.lt_or_le W l with c | c
   ·rw [Int.max_eq_left (Int.le_of_lt c),Int.min_eq_right lh]
    exact .inr (.inl ⟨c,fun x=>Int.le_min.mpr ⟨lh,Int.le_max_left _ _⟩⟩)
   ·rw [Int.max_eq_right c]
    rcases Int.lt_or_le h W with d | d
    ·rw [Int.min_eq_left (Int.le_of_lt d)]
     exact .inr (.inr ⟨d,fun x=>Int.min_le_left _ _⟩)
    ·exact .inl (Int.min_eq_right d)
theorem yU {d e:Deed} (od:d.Ok) (oe:e.Ok) (v:Int):(zP d e).mk' v = e.mk' (d.mk' v):=by
 unfold zP
 rw [Ve]
 obtain ⟨a,lo,hi⟩:=d
 obtain ⟨a',lo',hi'⟩:=e
 have q2:∀ l h,lo' = some l -> hi' = some h -> l <= h:=fun l h e1 e2=>by
  subst e1 e2
  rcases tY oe with z | z
  ·exact Int.le_of_lt z
  ·exact Int.le_of_eq z.1
 have ew:v + (a + a') = v + a + a':=(Int.add_assoc v a a').symm
 have ef:∀ w,(Deed.mk a' lo' hi').mk' w = yj hi' (yi lo' (w + a')):=fun _=>rfl
 have fu:∀ u,hi' = some u -> ∀ w,(Deed.mk a' lo' hi').mk' w <= u:=fun u e w=>by
  rw [ef,e,vm]; exact Int.min_le_left _ _
 have fm:∀ m,lo' = some m -> ∀ w,m <= (Deed.mk a' lo' hi').mk' w:=fun m e w=>by
  rw [ef,e,uM]
  cases hi' with
  | none=>exact Int.le_max_left _ _
  | some h=>rw [vm]; exact Int.le_min.mpr ⟨q2 m h e rfl,Int.le_max_left _ _⟩
 cases lo with
 | none =>
  cases hi with
  | none =>
   show yj hi' (yi lo' (v + (a + a'))) = yj hi' (yi lo' (v + a + a'))
   rw [ew]
  | some h =>
   show yj (some ((Deed.mk a' lo' hi').mk' h)) (yi lo' (v + (a + a'))) = (Deed.mk a' lo' hi').mk' (yj (some h) (v + a))
   rw [vm,vm,WM,ew,ef (v + a)]
   cases hi' with
   | none=>rfl
   | some u=>rw [vm u]; exact To (fu u rfl h)
 | some l =>
  cases hi with
  | none =>
   show yj hi' (yi (some ((Deed.mk a' lo' hi').mk' l)) (v + (a + a'))) = (Deed.mk a' lo' hi').mk' (yi (some l) (v + a))
   rw [uM,uM,WL,ew,ef (v + a)]
   have g:max ((Deed.mk a' lo' hi').mk' l) (v + a + a') = max ((Deed.mk a' lo' hi').mk' l) (yi lo' (v + a + a')):=by
    cases lo' with
    | none=>rfl
    | some m=>rw [uM]; exact Tn (fm m rfl l)
   rw [g]
   cases hi' with
   | none=>rfl
   | some u=>rw [vm,vm]; exact mm_x (fu u rfl l)
  | some h =>
   show yj (some ((Deed.mk a' lo' hi').mk' h)) (yi (some ((Deed.mk a' lo' hi').mk' l)) (v + (a + a'))) = (Deed.mk a' lo' hi').mk' (yj (some h) (yi (some l) (v + a)))
   rw [vm,uM,vm,uM,WM,WL,ew,ef (v + a)]
   refine Tp ?_
   rcases Ur (a:=a') q2 (v + a + a') with z | z | z
   ·exact .inl z
   ·exact .inr (.inl ⟨z.1,z.2 l⟩)
   ·exact .inr (.inr ⟨z.1,z.2 l,z.2 h⟩)
theorem qQ {a b c:Deed} (oa:a.Ok) (ob:b.Ok) (oc:c.Ok):zP (zP a b) c = zP a (zP b c) :=
 tZ (yn (yn oa ob) oc) (yn oa (yn ob oc)) fun v=>by
  rw [yU (yn oa ob) oc,yU oa ob,yU oa (yn ob oc),yU ob oc]
theorem t6 (v:Int):(Deed.mk 0 none none).mk' v = v:=by rw [Up]; omega
theorem u6 {a:Deed} (oa:a.Ok):zP a ⟨0,none,none⟩ = a :=
 tZ (yn oa wb) oa fun v=>by rw [yU oa wb,t6]
theorem vn {a:Deed} (oa:a.Ok):zP ⟨0,none,none⟩ a = a :=
 tZ (yn wb oa) oa fun v=>by rw [yU wb oa,t6]
theorem Us {e:Deed} {B C:Int} (b:e.Bd B) (hB:0 <= B) {v:Int} (h1:-C <= v) (h2:v <= C) (hC:0 <= C):-(B + C) <= e.mk' v /\ e.mk' v <= B + C:=by
 obtain ⟨a,lo,hi⟩:=e
 obtain ⟨⟨b1,b2⟩,b3,b4⟩:=b
 have b1':-B <= a:=b1
 have b2':a <= B:=b2
 cases lo with
 | none =>
  cases hi with
  | none=>rw [Up]; omega
  | some h=>have:=b4 h rfl; rw [XX]; split <;> omega
 | some l =>
  have:=b3 l rfl
  cases hi with
  | none=>rw [XW]; split <;> omega
  | some h=>have:=b4 h rfl; rw [tX]; (repeat' split) <;> omega
theorem XZ {d e:Deed} {B C:Int} (b:d.Bd B) (c:e.Bd C) (hB:0 <= B) (hC:0 <= C):(zP d e).Bd (B + C):=by
 have key:Deed.Bd (B + C) ⟨d.add + e.add,thrO e d.lo e.lo,thrO e d.hi e.hi⟩:=by
  obtain ⟨a,lo,hi⟩:=d
  obtain ⟨⟨b1,b2⟩,b3,b4⟩:=b
  obtain ⟨⟨c1,c2⟩,c3,c4⟩:=id c
  have b1':-B <= a:=b1
  have b2':a <= B:=b2
  refine ⟨⟨by show -(B + C) <= a + e.add; omega,by show a + e.add <= B + C; omega⟩,fun l h=>?_,fun l h=>?_⟩
  ·cases lo with
   | none=>have:=c3 l h; omega
   | some x =>
    have h':e.mk' x = l:=Option.some.inj h
    have:=b3 x rfl
    have:=Us (C:=B) (v:=x) c hC (by omega) (by omega) hB
    rw [h'] at this
    omega
  ·cases hi with
   | none=>have:=c4 l h; omega
   | some x =>
    have h':e.mk' x = l:=Option.some.inj h
    have:=b4 x rfl
    have:=Us (C:=B) (v:=x) c hC (by omega) (by omega) hB
    rw [h'] at this
    omega
 unfold zP vj
 split
 ·exact ⟨⟨by show -(B + C) <= 0; omega,by show 0 <= B + C; omega⟩,key.2.1,key.2.2⟩
 ·exact key
theorem Deed.Sm.bd {d:Deed} (h:d.Sm):d.Bd (10 ^ 30):=by
 obtain ⟨⟨a1,a2⟩,h1,h2⟩:=h
 exact ⟨⟨by omega,by omega⟩,fun l e=>by have:=h1 l e; exact ⟨by have:=this.1; omega,by have:=this.2; omega⟩,fun l e=>by have:=h2 l e; exact ⟨by have:=this.1; omega,by have:=this.2; omega⟩⟩
theorem ui {σ:L2.St} {H:Hp} {A B:Hp -> Prop} (h:A H):rp σ H (fun b H4=>if b = true then A H4 else B H4):=by
 show if true = true then A H else B H
 rw [if_pos rfl]; exact h
theorem yG {c:Bool} {A B:Prop} (e:c = false) (h:B):if c = true then A else B:=by rw [e]; exact iteF h
theorem y0 {c:Bool} {A B:Prop} (e:c = true) (h:A):if c = true then A else B:=by rw [e]; exact iteT h
theorem vY {K:FG7} {a:Addr} {xs:List V} {g:TG} {tt:TT} {te:TE} {Q:VK} {σ:L2.St} {H:Hp} (Pv:Nat -> List V -> L2.St -> Hp -> Prop) (h0:Pv 0 [] σ H) (hl:∀ i ys σ H,i <= xs.length -> Pv i ys σ H -> SqT K H a xs)
  (hs:∀ i x ys σ H,xs[i]? = some x -> Pv i ys σ H -> g x σ H fun σ2 H3=>tt σ2 H3 fun b H4=>if b = true then te σ2 H4 fun y H5=>ys.length < sizeLine /\ Pv (i + 1) (ys ++ [y]) σ2 H5 else Pv (i + 1) ys σ2 H4)
  (hd:∀ ys σ H,Pv xs.length ys σ H -> ∀ l,H l = none -> Q (.ref l) (upd H l (.lst ys))) :
  vO (Itt K a) σ H g tt te Q:=by
 refine ⟨fun i m ys σ H=>m = xs.length - i /\ i <= xs.length /\ Pv i ys σ H,⟨xs.length,by simp,Nat.zero_le _,h0⟩,?_⟩
 rintro i m ys σ H ⟨rfl,hi,p⟩
 have q:=hl i ys σ H hi p
 by_cases hlt:i < xs.length
 ·refine .inr ⟨⟨xs,xs[i],q,by simp [hlt]⟩,Pv (i + 1),fun zs σ' H' p'=>⟨xs.length - (i + 1),by omega,rfl,hlt,p'⟩,fun x H' y=>?_⟩
  obtain ⟨e,y⟩:=y
  subst e
  exact hs i x ys σ _ (y xs q) p
 ·have e:i = xs.length:=by omega
  subst e
  exact .inl ⟨⟨xs,q,Nat.le_refl _⟩,hd ys σ H p⟩
theorem rA {K:FG7} {a:Addr} {xs:List V} {g:TG} {tt:TT} {te:TE} {Q:VK} {σ:L2.St} {H:Hp} (Pv:Nat -> List V -> L2.St -> Hp -> Prop) (h0:Pv 0 [] σ H) (hl:∀ i ys σ H,i <= xs.length -> Pv i ys σ H -> SqL K H a xs)
  (hs:∀ i x ys σ H,xs[i]? = some x -> Pv i ys σ H -> g x σ H fun σ2 H3=>tt σ2 H3 fun b H4=>if b = true then te σ2 H4 fun y H5=>ys.length < sizeLine /\ Pv (i + 1) (ys ++ [y]) σ2 H5 else Pv (i + 1) ys σ2 H4)
  (hd:∀ ys σ H,Pv xs.length ys σ H -> ∀ l,H l = none -> Q (.ref l) (upd H l (.lst ys))) :
  vO (Itl K a) σ H g tt te Q:=by
 refine ⟨fun i m ys σ H=>m = xs.length - i /\ i <= xs.length /\ Pv i ys σ H,⟨xs.length,by simp,Nat.zero_le _,h0⟩,?_⟩
 rintro i m ys σ H ⟨rfl,hi,p⟩
 have q:=hl i ys σ H hi p
 by_cases hlt:i < xs.length
 ·refine .inr ⟨⟨xs,xs[i],q,by simp [hlt]⟩,Pv (i + 1),fun zs σ' H' p'=>⟨xs.length - (i + 1),by omega,rfl,hlt,p'⟩,fun x H' y=>?_⟩
  obtain ⟨e,y⟩:=y
  subst e
  exact hs i x ys σ _ (y xs q) p
 ·have e:i = xs.length:=by omega
  subst e
  exact .inl ⟨⟨xs,q,Nat.le_refl _⟩,hd ys σ H p⟩
theorem xE {X:Cx} {K:FG7} (h:X.K = K):IxR X (rIxT K):=by subst h; exact zT
theorem Ut {a:Int} {hi:Option Int}:vj a none hi = ⟨a,none,hi⟩:=by simp [vj]
theorem Uu {a l:Int}:vj a (some l) (some l) = ⟨0,some l,some l⟩:=by simp [vj]
theorem WN {a l:Int} {hi:Option Int} (h:some l ≠ hi):vj a (some l) hi = ⟨a,some l,hi⟩:=by simp [vj,h]
def Yp (_:FG7):Sp:=sp3 fun x y z H Q=>∃ a lo hi,x = .int a /\ y = ov lo /\ z = ov hi /\ ∀ t,H t = none -> Q (.ref t) (upd H t (.tup (vj a lo hi).vs))
def wc (K:FG7):Sp:=sp2 fun x y H Q=>∃ d e,zw K H x d /\ zw K H y e /\ ∀ t,H t = none -> Q (.ref t) (upd H t (.tup (zP d e).vs))
theorem Deed.Bd.mono {d:Deed} {B C:Int} (b:d.Bd B) (h:B <= C):d.Bd C:=by
 obtain ⟨⟨b1,b2⟩,b3,b4⟩:=b
 exact ⟨⟨by omega,by omega⟩,fun l e=>by have:=b3 l e; omega,fun l e=>by have:=b4 l e; omega⟩
theorem Vf:Deed.Bd 0 ⟨0,none,none⟩:=⟨⟨by decide,by decide⟩,(fun l z=>by cases z),(fun l z=>by cases z)⟩
section
variable {X:Cx}
def rEqL (K:FG7) (neg:Bool):R2:=fun x y H Q=>∃ a b xs ys,x = .ref a /\ y = .ref b /\ SqL K H a xs /\ SqL K H b ys /\ xs.all uc = true /\ ys.all uc = true /\ Q (.bl (if neg then !eqVs xs ys else eqVs xs ys)) H
theorem Uv {k:Nat} (hr:Room k X.A):OpR X (compareOp .NotEq) (rEqL X.K true):=by
 intro pins s σ H x y v u Q I rx ry h
 obtain ⟨a,b,xs,ys,rfl,rfl,ha,hb,f1,f2,q⟩:=h
 cases rx; cases ry
 obtain ⟨us,r1,t1,_⟩:=I.list ha
 obtain ⟨ws,r2,t2,_⟩:=I.list hb
 by_cases hl:us.length = ws.length
 ·refine SeqAt.RcNeAt.lists t1.isList t2.isList (by simpa using hl) hr.units0 (WF r1 r2 f1 f2) _ _ _ _ ?_
  have e:=u5 (xs:=xs) (ys:=ys)
  have e2:(xs.length == ys.length) = true:=by rw [beq_iff_eq,r1.length,r2.length]; exact hl
  rw [e2,Bool.and_true,show min xs.length ys.length = xs.length by rw [r1.length,r2.length]; omega] at e
  rw [List.size_toArray,← r1.length,e]
  exact ⟨.bl _,H,I,rfl,q⟩
 ·refine SeqAt.RcNeAt.lists_lengths t1.isList t2.isList (by simpa using hl) hr.units0 _ _ _ _ ?_
  have e:eqVs xs ys = false:=by
   cases z:eqVs xs ys with
   | false=>rfl
   | true=>exact absurd (by rw [← r1.length,← r2.length]; exact jL z) hl
  rw [e] at q
  exact ⟨.bl _,H,I,rfl,q⟩
end
theorem Vg {i j:Int}:eqV (.int i) (.int j) = decide (i = j):=by rw [Bool.eq_iff_iff]; simp [eqV]
theorem uj:∀ {xs ys:List Int},eqVs (xs.map V.int) (ys.map V.int) = decide (xs = ys)
 | [],[]=>rfl
 | x :: xs,y :: ys=>by
  show (eqV (.int x) (.int y) && eqVs (xs.map V.int) (ys.map V.int)) = _
  rw [Vg,uj,Bool.eq_iff_iff]
  simp
 | [],_ :: _=>by simp [eqVs]
 | _ :: _,[]=>by simp [eqVs]
theorem wT {xs:List Int}:(xs.map V.int).all uc = true:=by
 rw [List.all_eq_true]; intro x hx; obtain ⟨i,_,rfl⟩:=List.mem_map.mp hx; rfl
section
variable {K:FG7} {a:Addr} {xs:List V} {n:Nat} {tt:TT} {te:TE} {Q:VK} {σ:L2.St} {H:Hp}
theorem rB {p:V -> Bool} {f:V -> V} {i:Nat} {x:V} (hx:xs[i]? = some x):((xs.take (i + 1)).filter p).map f = ((xs.take i).filter p).map f ++ (if p x = true then [f x] else []):=by
 rw [List.take_add_one,hx,List.filter_append,List.map_append]
 congr 1
 show ((([x]:List V)).filter p).map f = _
 by_cases c:p x = true
 ·rw [if_pos c,List.filter_cons_of_pos c]; rfl
 ·rw [if_neg c,List.filter_cons_of_neg c]; rfl
theorem X1 {p:V -> Bool} {f:V -> V} {i:Nat} (h:xs.length <= 1000):(((xs.take i).filter p).map f).length < sizeLine:=by
 rw [List.length_map]
 refine z9 ?_
 have:=List.length_filter_le p (xs.take i)
 have:=List.length_take_le i xs
 have:(xs.take i).length <= xs.length:=by rw [List.length_take]; omega
 omega
theorem X2 {p:V -> Bool} {f:V -> V}:((xs.take xs.length).filter p).map f = (xs.filter p).map f:=by rw [List.take_length]
theorem Zo (p:V -> Bool) (f:V -> V) (hl:SqT K H a xs) (hlen:xs.length <= 1000)
  (ht:∀ x H' (R:Bool -> Hp -> Prop),x ∈ xs -> Grow [] H H' -> (∀ H2,Grow [] H' H2 -> R (p x) H2) -> tt (σ.set n (some x)) H' R)
  (hs:∀ x H' (R:VK),x ∈ xs -> p x = true -> Grow [] H H' -> (∀ H2,Grow [] H' H2 -> R (f x) H2) -> te (σ.set n (some x)) H' R)
  (hd:∀ H' l,Grow [] H H' -> H' l = none -> Q (.ref l) (upd H' l (.lst ((xs.filter p).map f)))):vO (Itt K a) σ H (vN n) tt te Q:=by
 refine vY (xs:=xs) (fun i ys σ' H'=>Grow [] H H' /\ (σ' = σ \/ ∃ e,σ' = σ.set n e) /\ ys = ((xs.take i).filter p).map f) ⟨Grow.refl _ _,.inl rfl,rfl⟩ ?_ ?_ ?_
 ·rintro i ys σ' H' _ ⟨g,_⟩
  exact g.sqT hl
 ·rintro i x ys σ' H' hx ⟨g,hσ,rfl⟩
  have e:σ'.set n (some x) = σ.set n (some x):=by
   rcases hσ with rfl | ⟨e,rfl⟩
   ·rfl
   ·rw [List.set_set]
  show tt (σ'.set n (some x)) H' _
  rw [e]
  refine ht x H' _ (List.mem_of_getElem? hx) g fun H2 g2=>?_
  by_cases c:p x = true
  ·rw [if_pos c]
   refine hs x H2 _ (List.mem_of_getElem? hx) c (g.trans g2) fun H3 g3=>⟨X1 hlen,(g.trans g2).trans g3,.inr ⟨_,rfl⟩,?_⟩
   rw [rB hx,if_pos c]
  ·rw [if_neg c]
   refine ⟨g.trans g2,.inr ⟨_,rfl⟩,?_⟩
   rw [rB hx,if_neg c,List.append_nil]
 ·rintro ys σ' H' ⟨g,_,rfl⟩ l hl
  rw [X2]
  exact hd H' l g hl
theorem X3 {p:V -> Bool} (h:∀ x,p x = true):xs.filter p = xs:=List.filter_eq_self.mpr fun x _=>h x
theorem xu (f:V -> V) (hl:SqT K H a xs) (hlen:xs.length <= 1000)
  (hs:∀ x H' (R:VK),x ∈ xs -> Grow [] H H' -> (∀ H2,Grow [] H' H2 -> R (f x) H2) -> te (σ.set n (some x)) H' R)
  (hd:∀ H' l,Grow [] H H' -> H' l = none -> Q (.ref l) (upd H' l (.lst (xs.map f)))):vO (Itt K a) σ H (vN n) rp te Q :=
 Zo (fun _=>true) f hl hlen (fun x H' R _ _ k=>k H' (Grow.refl _ _)) (fun x H' R hx _ g k=>hs x H' R hx g k) (fun H' l g hl=>by rw [X3 fun _=>rfl]; exact hd H' l g hl)
end
theorem nd {d e:Deed} (h:d = e):(!decide (d = e)) = false:=by rw [decide_eq_true h]; rfl
mutual
inductive Dat (K:FG7) (H:Hp):V -> PyData -> Prop
 | non:Dat K H .non .none
 | bl (b:Bool):Dat K H (.bl b) (.bool b)
 | int (i:Int):Dat K H (.int i) (.int i)
 | tup {a:Addr} {xs:List V} {ds:List PyData}:SqT K H a xs -> DatAll K H xs ds -> Dat K H (.ref a) (.tuple ds)
 | lst {a:Addr} {xs:List V} {ds:List PyData}:SqL K H a xs -> DatAll K H xs ds -> Dat K H (.ref a) (.list ds)
inductive DatAll (K:FG7) (H:Hp):List V -> List PyData -> Prop
 | nil:DatAll K H [] []
 | cons {x:V} {xs:List V} {d:PyData} {ds:List PyData}:Dat K H x d -> DatAll K H xs ds -> DatAll K H (x :: xs) (d :: ds)
end
section
variable {X:Cx} {pins:List (Addr × Obj)} {σ:L2.St} {H:Hp} {s:Shared}
mutual
theorem Dat.reads (I:Inv X pins σ H s):∀ {x:V} {d:PyData} {u:Value},Dat X.K H x d -> RelV x u -> ∃ as,Reads s.heap u d as
 | _,_,u,.non,r=>by
  cases (show u = Value.none from r)
  exact ⟨_,.none⟩
 | _,_,u,.bl b,r=>by
  cases (show u = Value.bool b from r)
  exact ⟨_,.bool b⟩
 | _,_,u,.int i,r=>by
  obtain ⟨t,rfl⟩:=r
  exact ⟨_,.int i t⟩
 | _,_,u,.tup (a:=a) hs hd,r=>by
  cases (show u = Value.ref a from r)
  obtain ⟨its,r1,⟨o,e1,e2,n,e3⟩,_⟩:=I.tuple hs
  obtain ⟨as,q⟩:=DatAll.reads I hd r1
  exact ⟨_,.tuple e1 e2 e3 q⟩
 | _,_,u,.lst (a:=a) hs hd,r=>by
  cases (show u = Value.ref a from r)
  obtain ⟨its,r1,⟨o,n,e1,e2,_,e3⟩,_⟩:=I.list hs
  obtain ⟨as,q⟩:=DatAll.reads I hd r1
  exact ⟨_,.list e1 e2 e3 q⟩
theorem DatAll.reads (I:Inv X pins σ H s):∀ {xs:List V} {ds:List PyData} {us:List Value},DatAll X.K H xs ds -> Vals xs us -> ∃ as,ReadsAll s.heap us ds as
 | _,_,_,.nil,.nil=>⟨_,.nil⟩
 | _,_,_,.cons h t,.cons r rs=>by
  obtain ⟨as,q⟩:=Dat.reads I h r
  obtain ⟨bs,q2⟩:=DatAll.reads I t rs
  exact ⟨_,.cons q q2⟩
end
def Tq (K:FG7):List V -> Hp -> VK -> Prop:=fun xs H Q=>∃ x d,xs = [x] /\ Dat K H x d /\ d.showable = true /\ d.hasDict = false /\ d.depth <= 60 /\ d.shown.length <= sizeLine /\ Q (.str d.shown) H
theorem u7 {k:Nat} (hr:Room k X.A):wI X (.builtin "repr") (Tq X.K):=by
 intro pins s σ H xs us Q I r h
 obtain ⟨x,d,rfl,hd,h1,h2,h3,h4,q⟩:=h
 obtain ⟨u,rfl,rx⟩:=tW r
 cases hd with
 | non =>
  cases (show u = Value.none from rx)
  exact PySem.P.repr_of_none ⟨.str _,H,I.tok _,⟨_,rfl⟩,q⟩
 | bl b =>
  cases (show u = Value.bool b from rx)
  exact PySem.P.repr_of_bool ⟨.str _,H,I.tok _,⟨_,rfl⟩,q⟩
 | int i =>
  obtain ⟨t,rfl⟩:=rx
  exact PySem.P.repr_of_int (of_decide_eq_true h1) ⟨.str _,H,I.tok _,⟨_,rfl⟩,q⟩
 | tup hs ha =>
  rename_i a ys ds
  cases (show u = Value.ref a from rx)
  obtain ⟨as,rd⟩:=Dat.reads I (.tup hs ha) rx
  refine repr_of_reads' rd h1 (fun z=>by rw [h2] at z; cases z) hr.gd (by have:=hr.un; omega) (fun _ _ e=>e) (fun h' t tk hk=>?_) h4
  exact ⟨.str _,H,I.kept hk,⟨_,rfl⟩,q⟩
 | lst hs ha =>
  rename_i a ys ds
  cases (show u = Value.ref a from rx)
  obtain ⟨as,rd⟩:=Dat.reads I (.lst hs ha) rx
  refine repr_of_reads' rd h1 (fun z=>by rw [h2] at z; cases z) hr.gd (by have:=hr.un; omega) (fun _ _ e=>e) (fun h' t tk hk=>?_) h4
  exact ⟨.str _,H,I.kept hk,⟨_,rfl⟩,q⟩
end
mutual
/-- a bound of the text's length -/
def wtD:PyData -> Nat
 | .list xs | .tuple xs=>wtAll xs + 3
 | .int _=>1921
 | .none | .bool _=>5
 | _=>20000000
def wtAll:List PyData -> Nat
 | []=>0
 | x :: xs=>wtD x + 2 + wtAll xs
end
mutual
theorem shown_wt:∀ {d:PyData},d.showable = true -> d.hasDict = false -> wtD d <= 16777216 -> d.shown.length <= wtD d
 | .none,_,_,_=>by decide
 | .bool b,_,_,_=>by cases b <;> decide
 | .int i,h,_,_=>int_text_len_1921 (of_decide_eq_true h)
 | .str _,_,_,z=>absurd (show 20000000 <= 16777216 from z) (by decide)
 | .list xs,h,h2,z=>by
  have z':wtAll xs + 3 <= 16777216:=z
  have q:=shown_wtAll (xs:=xs) h h2 (by omega)
  have l:=listText_len_le (PyData.shownAll xs)
  show (listText (PyData.shownAll xs)).length <= wtAll xs + 3
  omega
 | .tuple xs,h,h2,z=>by
  have z':wtAll xs + 3 <= 16777216:=z
  have q:=shown_wtAll (xs:=xs) h h2 (by omega)
  have l:=tupleText_len_le (PyData.shownAll xs)
  show (tupleText (PyData.shownAll xs)).length <= wtAll xs + 3
  omega
 | .dict _,_,h,_=>by cases h
theorem shown_wtAll:∀ {xs:List PyData},PyData.showableAll xs = true -> PyData.hasDictAll xs = false -> wtAll xs <= 16777216 -> ((PyData.shownAll xs).map (·.length)).sum + 2 * (PyData.shownAll xs).length <= wtAll xs
 | [],_,_,_=>by decide
 | x :: xs,h,h2,z=>by
  have h':(x.showable && PyData.showableAll xs) = true:=h
  have h2':(x.hasDict || PyData.hasDictAll xs) = false:=h2
  rw [Bool.and_eq_true] at h'
  rw [Bool.or_eq_false_iff] at h2'
  have z':wtD x + 2 + wtAll xs <= 16777216:=z
  have q1:=shown_wt (d:=x) h'.1 h2'.1 (by omega)
  have q2:=shown_wtAll (xs:=xs) h'.2 h2'.2 (by omega)
  show (x.shown.length :: (PyData.shownAll xs).map (·.length)).sum + 2 * ((PyData.shownAll xs).length + 1) <= wtD x + 2 + wtAll xs
  rw [List.sum_cons]
  omega
end
theorem Zp {d:PyData} (h1:d.showable = true) (h2:d.hasDict = false) (h3:wtD d <= 16777216):d.shown.length <= sizeLine:=by
 rw [sizeLine_eq]; exact Nat.le_trans (shown_wt h1 h2 h3) h3
def I200 (i:Int):Prop:=-(2 ^ 300) < i /\ i < 2 ^ 300
theorem Ts {i:Int} (h:I200 i):RepI i:=by
 show i.natAbs.log2 < 1920
 by_cases h0:i.natAbs = 0
 ·rw [h0]; decide
 ·exact Nat.lt_of_lt_of_le ((Nat.log2_lt h0).mpr (show i.natAbs < 2 ^ 300 by obtain ⟨a,b⟩:=h; omega)) (by decide)
def oD:Option Int -> PyData
 | none=>.none
 | some i=>.int i
theorem WO {K:FG7} {H:Hp} (o:Option Int):Dat K H (ov o) (oD o):=by cases o; exact .non; exact .int _
theorem wd {α:Type} (xs:List α):(xs.map (fun _=>true)).all id = true:=by rw [List.all_eq_true]; intro x hx; obtain ⟨_,_,rfl⟩:=List.mem_map.mp hx; rfl
theorem X4 (gs:List Int):(gs.map V.int).map (fun _=>V.bl true) = (gs.map (fun _=>true)).map V.bl:=by rw [List.map_map,List.map_map]; rfl
section
variable {K:FG7} {a:Addr} {xs:List V} {lo:Int} {n k:Nat} {te:TE} {Q:VK} {σ:L2.St} {H:Hp}
theorem vZ (Pv:Nat -> List V -> Hp -> Prop) (h0:Pv 0 [] H)
  (hs:∀ i ys H',i < n -> Pv i ys H' -> te (σ.set k (some (.int (lo + i)))) H' fun y H5=>ys.length < sizeLine /\ Pv (i + 1) (ys ++ [y]) H5)
  (hd:∀ ys H',Pv n ys H' -> ∀ l,H' l = none -> Q (.ref l) (upd H' l (.lst ys))):vO (Itr lo n) σ H (vN k) rp te Q:=by
 refine ⟨fun i m ys σ' H'=>m = n - i /\ i <= n /\ (σ' = σ \/ ∃ e,σ' = σ.set k e) /\ Pv i ys H',⟨n,by simp,Nat.zero_le _,.inl rfl,h0⟩,?_⟩
 rintro i m ys σ' H' ⟨rfl,hi,hσ,p⟩
 by_cases hlt:i < n
 ·refine .inr ⟨hlt,fun zs σ2 H2=>(σ2 = σ \/ ∃ e,σ2 = σ.set k e) /\ Pv (i + 1) zs H2,fun zs σ2 H2 p'=>⟨n - (i + 1),by omega,rfl,hlt,p'.1,p'.2⟩,fun x H2 y=>?_⟩
  obtain ⟨e,y⟩:=y
  subst e y
  have e:σ'.set k (some (V.int (lo + i))) = σ.set k (some (V.int (lo + i))):=by
   rcases hσ with rfl | ⟨e,rfl⟩
   ·rfl
   ·rw [List.set_set]
  show if true = true then te (σ'.set k (some (V.int (lo + i)))) H2 (fun y H5=>ys.length < sizeLine /\ ((σ'.set k (some (V.int (lo + i))) = σ \/ ∃ e,σ'.set k (some (V.int (lo + i))) = σ.set k e) /\ Pv (i + 1) (ys ++ [y]) H5)) else ((σ'.set k (some (V.int (lo + i))) = σ \/ ∃ e,σ'.set k (some (V.int (lo + i))) = σ.set k e) /\ Pv (i + 1) ys H2)
  rw [if_pos rfl,e]
  have e2:(fun (y:V) (H5:Hp)=>ys.length < sizeLine /\ ((σ.set k (some (V.int (lo + i))) = σ \/ ∃ e,σ.set k (some (V.int (lo + i))) = σ.set k e) /\ Pv (i + 1) (ys ++ [y]) H5)) = fun y H5=>ys.length < sizeLine /\ Pv (i + 1) (ys ++ [y]) H5:=by
   funext y H5
   exact propext ⟨fun z=>⟨z.1,z.2.2⟩,fun z=>⟨z.1,.inr ⟨_,rfl⟩,z.2⟩⟩
  rw [e2]
  exact hs i ys H2 hlt p
 ·have e:i = n:=by omega
  subst e
  exact .inl ⟨Nat.le_refl _,hd ys H' p⟩
theorem u9 (Pv:Nat -> List V -> Hp -> Prop) (h0:Pv 0 [] H) (hl:∀ i ys H',Pv i ys H' -> SqL K H' a xs)
  (hs:∀ i x ys H',xs[i]? = some x -> Pv i ys H' -> te (σ.set k (some x)) H' fun y H5=>ys.length < sizeLine /\ Pv (i + 1) (ys ++ [y]) H5)
  (hd:∀ ys H',Pv xs.length ys H' -> ∀ l,H' l = none -> Q (.ref l) (upd H' l (.lst ys))):vO (Itl K a) σ H (vN k) rp te Q:=by
 refine rA (xs:=xs) (fun i ys σ' H'=>(σ' = σ \/ ∃ e,σ' = σ.set k e) /\ Pv i ys H') ⟨.inl rfl,h0⟩ (fun i ys σ' H' _ p=>hl i ys H' p.2) ?_ (fun ys σ' H' p l hl=>hd ys H' p.2 l hl)
 rintro i x ys σ' H' hx ⟨hσ,p⟩
 have e:σ'.set k (some x) = σ.set k (some x):=by
  rcases hσ with rfl | ⟨e,rfl⟩
  ·rfl
  ·rw [List.set_set]
 show if true = true then te (σ'.set k (some x)) H' (fun y H5=>ys.length < sizeLine /\ ((σ'.set k (some x) = σ \/ ∃ e,σ'.set k (some x) = σ.set k e) /\ Pv (i + 1) (ys ++ [y]) H5)) else ((σ'.set k (some x) = σ \/ ∃ e,σ'.set k (some x) = σ.set k e) /\ Pv (i + 1) ys H')
 rw [if_pos rfl,e]
 have e2:(fun (y:V) (H5:Hp)=>ys.length < sizeLine /\ ((σ.set k (some x) = σ \/ ∃ e,σ.set k (some x) = σ.set k e) /\ Pv (i + 1) (ys ++ [y]) H5)) = fun y H5=>ys.length < sizeLine /\ Pv (i + 1) (ys ++ [y]) H5:=by
  funext y H5
  exact propext ⟨fun z=>⟨z.1,z.2.2⟩,fun z=>⟨z.1,.inr ⟨_,rfl⟩,z.2⟩⟩
 rw [e2]
 exact hs i x ys H' hx p
end
theorem Grow.fresh {m:List Addr} {H H':Hp} (h:∀ b ∈ m,H b = none) (g:Grow m H H'):Grow [] H H' :=
 ⟨fun b o _ q=>g.keep b o (fun z=>by rw [h b z] at q; cases q) q,g.tup,g.frz⟩
theorem Grow.less {m m':List Addr} {H H':Hp} (g:Grow m H H') (h:∀ b ∈ m,b ∈ m' \/ H b = none):Grow m' H H' :=
 ⟨fun b o n q=>g.keep b o (fun z=>by
  rcases h b z with w | w
  ·exact n w
  ·rw [w] at q; cases q) q,g.tup,g.frz⟩
theorem xk {n:Nat} {i:Int} (h0:0 <= i) (h:i.toNat < n):ixN n i = some i.toNat:=by
 unfold ixN; rw [if_pos h0,if_pos (by omega)]
theorem vP {xs:List V} {i:Int} {j:Nat} {v:V} (h:ixN xs.length i = some j) (hv:xs[j]? = some v):atI xs i = some v:=by
 unfold atI; rw [h]; exact hv
structure Ask where
 hand:Int
 box:Int
 deed:Deed
def uN (K:FG7) (H:Hp) (x:V) (k:Ask):Prop:=∃ r rd,x = .ref r /\ SqT K H r [.int k.hand,.int k.box,.ref rd] /\ SqT K H rd k.deed.vs
def AllA (K:FG7) (H:Hp):List V -> List Ask -> Prop
 | [],[]=>True
 | x :: xs,k :: ks=>uN K H x k /\ AllA K H xs ks
 | _,_=>False
def yB (K:FG7) (H:Hp) (x:V) (ks:List Ask):Prop:=∃ r xs,x = .ref r /\ SqT K H r xs /\ AllA K H xs ks
def zD (K:FG7) (H:Hp) (x:V) (b:List Int):Prop:=∃ r,x = .ref r /\ SqT K H r (b.map V.int)
def vQ (m:Nat) (k:Ask):Prop:=0 <= k.hand /\ k.hand <= 15 /\ 0 <= k.box /\ k.box < m /\ k.deed.Ok
theorem Grow.ask {m:List Addr} {H H':Hp} (g:Grow m H H') {K:FG7} {x:V} {k:Ask} (h:uN K H x k):uN K H' x k:=by
 obtain ⟨r,rd,e,h1,h2⟩:=h
 exact ⟨r,rd,e,g.sqT h1,g.sqT h2⟩
theorem Grow.allA {m:List Addr} {H H':Hp} (g:Grow m H H') {K:FG7}:∀ {xs:List V} {ks:List Ask},AllA K H xs ks -> AllA K H' xs ks
 | [],[],_=>trivial
 | _ :: _,_ :: _,⟨h,t⟩=>⟨g.ask h,g.allA t⟩
 | [],_ :: _,h=>h.elim
 | _ :: _,[],h=>h.elim
theorem Grow.asks {m:List Addr} {H H':Hp} (g:Grow m H H') {K:FG7} {x:V} {ks:List Ask} (h:yB K H x ks):yB K H' x ks:=by
 obtain ⟨r,xs,e,h1,h2⟩:=h
 exact ⟨r,xs,e,g.sqT h1,g.allA h2⟩
theorem Grow.board {m:List Addr} {H H':Hp} (g:Grow m H H') {K:FG7} {x:V} {b:List Int} (h:zD K H x b):zD K H' x b:=by
 obtain ⟨r,e,h1⟩:=h
 exact ⟨r,e,g.sqT h1⟩
theorem AllA.len {K:FG7} {H:Hp}:∀ {xs:List V} {ks:List Ask},AllA K H xs ks -> xs.length = ks.length
 | [],[],_=>rfl
 | _ :: xs,_ :: ks,⟨_,t⟩=>congrArg (· + 1) (AllA.len t)
 | [],_ :: _,h=>h.elim
 | _ :: _,[],h=>h.elim
theorem AllA.get {K:FG7} {H:Hp}:∀ {xs:List V} {ks:List Ask} {i:Nat} {x:V},AllA K H xs ks -> xs[i]? = some x -> ∃ k,ks[i]? = some k /\ uN K H x k
 | _ :: _,k :: _,0,x,⟨h,_⟩,e=>by
  obtain rfl:=Option.some.inj e
  exact ⟨k,rfl,h⟩
 | _ :: _,_ :: _,i + 1,x,⟨_,t⟩,e=>AllA.get (i:=i) t e
 | [],[],i,x,_,e=>by cases e
 | [],_ :: _,_,_,h,_=>h.elim
 | _ :: _,[],_,_,h,_=>h.elim
theorem AllA.snoc {K:FG7} {H:Hp}:∀ {xs:List V} {ks:List Ask} {x:V} {k:Ask},AllA K H xs ks -> uN K H x k -> AllA K H (xs ++ [x]) (ks ++ [k])
 | [],[],_,_,_,h=>⟨h,trivial⟩
 | _ :: _,_ :: _,_,_,⟨h,t⟩,q=>⟨h,AllA.snoc t q⟩
 | [],_ :: _,_,_,h,_=>h.elim
 | _ :: _,[],_,_,h,_=>h.elim
def rC (st:List Int × List Int) (k:Ask):List Int × List Int:=(st.1 ++ [st.2.getD k.box.toNat 0],st.2.set k.box.toNat (k.deed.mk' (st.2.getD k.box.toNat 0)))
def xv (b:List Int) (ks:List Ask):List Int × List Int:=ks.foldl rC ([],b)
theorem vo {b:List Int} {ks:List Ask} {i:Nat} {k:Ask} (h:ks[i]? = some k):xv b (ks.take (i + 1)) = rC (xv b (ks.take i)) k:=by
 unfold xv
 rw [List.take_add_one,h,List.foldl_append]; rfl
theorem Yq {b:List Int}:∀ {ks:List Ask},(xv b ks).2.length = b.length /\ (xv b ks).1.length = ks.length:=by
 intro ks
 have key:∀ (ks:List Ask) (st:List Int × List Int),(ks.foldl rC st).2.length = st.2.length /\ (ks.foldl rC st).1.length = st.1.length + ks.length:=by
  intro ks
  induction ks with
  | nil=>intro st; exact ⟨rfl,rfl⟩
  | cons k ks ih =>
   intro st
   have:=ih (rC st k)
   refine ⟨this.1.trans (by simp [rC]),this.2.trans ?_⟩
   simp [rC]; omega
 have:=key ks ([],b)
 exact ⟨this.1,this.2.trans (Nat.zero_add _)⟩
theorem t7 {xs:List Int} {i:Nat} (h:i < xs.length):xs[i]? = some (xs.getD i 0):=by
 rw [List.getD_eq_getElem?_getD,List.getElem?_eq_getElem h]; rfl
def InB (B:Int) (xs:List Int):Prop:=∀ v ∈ xs,-B < v /\ v < B
def wU (xs:List Int):PyData:=.tuple (xs.map PyData.int)
def Yr (d:Deed):PyData:=.tuple [.int d.add,oD d.lo,oD d.hi]
def askD (k:Ask):PyData:=.tuple [.int k.hand,.int k.box,Yr k.deed]
def Zq (ks:List Ask):PyData:=.tuple (ks.map askD)
theorem v2 {K:FG7} {H:Hp}:∀ xs:List Int,DatAll K H (xs.map V.int) (xs.map PyData.int)
 | []=>.nil
 | x :: xs=>.cons (.int x) (v2 xs)
theorem zD.dat {K:FG7} {H:Hp} {x:V} {b:List Int} (h:zD K H x b):Dat K H x (wU b):=by
 obtain ⟨r,rfl,h⟩:=h
 exact .tup h (v2 b)
theorem jQ {K:FG7} {H:Hp} {r:Addr} {d:Deed} (h:SqT K H r d.vs):Dat K H (.ref r) (Yr d):=.tup h (.cons (.int _) (.cons (WO _) (.cons (WO _) .nil)))
theorem uN.dat {K:FG7} {H:Hp} {x:V} {k:Ask} (h:uN K H x k):Dat K H x (askD k):=by
 obtain ⟨r,rd,rfl,h1,h2⟩:=h
 exact .tup h1 (.cons (.int _) (.cons (.int _) (.cons (jQ h2) .nil)))
theorem AllA.dat {K:FG7} {H:Hp}:∀ {xs:List V} {ks:List Ask},AllA K H xs ks -> DatAll K H xs (ks.map askD)
 | [],[],_=>.nil
 | _ :: _,_ :: _,⟨h,t⟩=>.cons h.dat (AllA.dat t)
 | [],_ :: _,h=>h.elim
 | _ :: _,[],h=>h.elim
theorem yB.dat {K:FG7} {H:Hp} {x:V} {ks:List Ask} (h:yB K H x ks):Dat K H x (Zq ks):=by
 obtain ⟨r,xs,rfl,h1,h2⟩:=h
 exact .tup h1 h2.dat
def Sh (d:PyData) (w n:Nat):Prop:=d.showable = true /\ d.hasDict = false /\ wtD d <= w /\ d.depth <= n
theorem Sh.mono {d:PyData} {w w' n n':Nat} (h:Sh d w n) (h1:w <= w') (h2:n <= n'):Sh d w' n':=⟨h.1,h.2.1,Nat.le_trans h.2.2.1 h1,Nat.le_trans h.2.2.2 h2⟩
def ShA (ds:List PyData) (w n:Nat):Prop:=PyData.showableAll ds = true /\ PyData.hasDictAll ds = false /\ wtAll ds <= w /\ PyData.depthAll ds <= n
theorem t8 {n:Nat}:ShA [] 0 n:=⟨rfl,rfl,Nat.le_refl _,Nat.zero_le _⟩
theorem yL {d:PyData} {ds:List PyData} {w v n:Nat} (h:Sh d w n) (t:ShA ds v n):ShA (d :: ds) (w + 2 + v) n:=by
 obtain ⟨a1,a2,a3,a4⟩:=h
 obtain ⟨b1,b2,b3,b4⟩:=t
 refine ⟨?_,?_,?_,?_⟩
 ·show (d.showable && PyData.showableAll ds) = true
  rw [a1,b1]; rfl
 ·show (d.hasDict || PyData.hasDictAll ds) = false
  rw [a2,b2]; rfl
 ·show wtD d + 2 + wtAll ds <= _; omega
 ·show max d.depth (PyData.depthAll ds) <= n; omega
theorem rD {ds:List PyData} {w n:Nat} (h:ShA ds w n):Sh (.tuple ds) (w + 3) (n + 1):=⟨h.1,h.2.1,Nat.add_le_add_right h.2.2.1 3,Nat.add_le_add_right h.2.2.2 1⟩
theorem Uw {ds:List PyData} {w n:Nat} (h:ShA ds w n):Sh (.list ds) (w + 3) (n + 1):=⟨h.1,h.2.1,Nat.add_le_add_right h.2.2.1 3,Nat.add_le_add_right h.2.2.2 1⟩
theorem rE {i:Int} {n:Nat} (h:I200 i):Sh (.int i) 1921 n:=⟨decide_eq_true (Ts h),rfl,Nat.le_refl _,Nat.zero_le _⟩
theorem Ux {o:Option Int} {n:Nat} (h:∀ i,o = some i -> I200 i):Sh (oD o) 1921 n:=by
 cases o with
 | none=>exact ⟨rfl,rfl,(by show (5:Nat) <= 1921; decide),Nat.zero_le _⟩
 | some i=>exact rE (h i rfl)
theorem t9 {α:Type} {f:α -> PyData} {w n:Nat}:∀ {xs:List α},(∀ x ∈ xs,Sh (f x) w n) -> ShA (xs.map f) (xs.length * (w + 2)) n
 | [],_=>by rw [show ([]:List α).length * (w + 2) = 0 from Nat.zero_mul _]; exact t8
 | x :: xs,h=>by
  have z:=yL (h x (by simp)) (t9 (xs:=xs) fun y hy=>h y (List.mem_cons_of_mem _ hy))
  rw [show (x :: xs).length * (w + 2) = w + 2 + xs.length * (w + 2) by rw [List.length_cons,Nat.add_mul,Nat.one_mul,Nat.add_comm]]
  exact z
theorem Ys {xs:List Int} {n:Nat} (h:InB (2 ^ 300) xs):Sh (wU xs) (xs.length * 1923 + 3) (n + 1):=rD (t9 fun x hx=>rE (h x hx))
theorem Vh {n:Int} (h:Sm n):I200 n:=⟨by have:=h.1; omega,by have:=h.2; omega⟩
theorem Vi {d:Deed} {n:Nat} (h:d.Sm):Sh (Yr d) 5772 (n + 1):=rD (yL (rE (Vh h.1)) (yL (Ux fun i e=>Vh (h.2.1 i e)) (yL (Ux fun i e=>Vh (h.2.2 i e)) t8)))
theorem Uy {k:Ask} {n:Nat} (h:k.deed.Sm) (h1:I200 k.hand) (h2:I200 k.box):Sh (askD k) 9623 (n + 2):=rD (yL (rE h1) (yL (rE h2) (yL (Vi h) t8)))
theorem Vj {ks:List Ask} {n:Nat} (h:∀ k ∈ ks,k.deed.Sm /\ I200 k.hand /\ I200 k.box):Sh (Zq ks) (ks.length * 9625 + 3) (n + 3):=rD (t9 fun k hk=>Uy (h k hk).1 (h k hk).2.1 (h k hk).2.2)
theorem Sh.fits {d:PyData} {w n:Nat} (h:Sh d w n) (hw:w <= 16777216):d.shown.length <= sizeLine:=Zp h.1 h.2.1 (Nat.le_trans h.2.2.1 hw)
def vG (K:FG7) (H:Hp) (x:V) (p:List Int × List Int):Prop:=∃ r r1 r2,x = .ref r /\ SqT K H r [.ref r1,.ref r2] /\ SqT K H r1 (p.1.map V.int) /\ SqT K H r2 (p.2.map V.int)
def Vk (p:List Int × List Int):PyData:=.tuple [wU p.1,wU p.2]
theorem vG.dat {K:FG7} {H:Hp} {x:V} {p:List Int × List Int} (h:vG K H x p):Dat K H x (Vk p):=by
 obtain ⟨r,r1,r2,rfl,h0,h1,h2⟩:=h
 exact .tup h0 (.cons (.tup h1 (v2 _)) (.cons (.tup h2 (v2 _)) .nil))
theorem Grow.told {m:List Addr} {H H':Hp} (g:Grow m H H') {K:FG7} {x:V} {p:List Int × List Int} (h:vG K H x p):vG K H' x p:=by
 obtain ⟨r,r1,r2,e,h0,h1,h2⟩:=h
 exact ⟨r,r1,r2,e,g.sqT h0,g.sqT h1,g.sqT h2⟩
theorem InB.mono {B C:Int} {xs:List Int} (h:InB B xs) (hC:B <= C):InB C xs:=fun v hv=>by have:=h v hv; omega
theorem X5 {m:Nat} {k:Ask} (h:vQ m k) (hm:m <= 16):I200 k.hand /\ I200 k.box:=by
 obtain ⟨a,b,c,d,_⟩:=h
 exact ⟨⟨by omega,by omega⟩,by omega,by omega⟩
def vp (_:FG7):Sp:=sp2 fun x y H Q=>∃ a m,x = .ref a /\ y = .int m /\ Pot H a /\ 0 < m /\ m < 2 ^ 200 /\ ∀ n H',0 <= n -> n < m -> Grow [a] H H' -> Pot H' a -> Q (.int n) H'
def vq (_:FG7):Sp:=sp1 fun x H Q=>∃ a,x = .ref a /\ Pot H a /\ ∀ n H',Sm n -> Grow [a] H H' -> Pot H' a -> Q (.int n) H'
def jR (K:FG7):Sp:=sp1 fun x H Q=>∃ a,x = .ref a /\ Pot H a /\ ∀ y b H',Grow [a] H H' -> Pot H' a -> zD K H' y b -> 1 <= b.length -> b.length <= 16 -> InB (10 ^ 30) b -> Q y H'
def yy (K:FG7):Sp:=sp3 fun x y z H Q=>∃ i l u,x = .int i /\ y = .int l /\ z = .int u /\ Q (.bl (decide (l <= i) && decide (i <= u))) H
def uk (K:FG7):Sp:=sp1 fun x H Q=>∃ b,zD K H x b /\ 1 <= b.length /\ b.length <= 16 /\ ∀ H',Grow [] H H' -> Q (.bl true) H'
def wV (K:FG7):Sp:=sp1 fun x H Q=>∃ b,zD K H x b /\ 1 <= b.length /\ b.length <= 16 /\ ∀ H',Grow [] H H' -> Q .non H'
def rF (K:FG7):Sp:=sp2 fun x y H Q=>∃ b k,zD K H x b /\ uN K H y k /\ vQ b.length k /\ Q (.bl true) H
def um (K:FG7):Sp:=sp2 fun x y H Q=>∃ b ks,zD K H x b /\ 1 <= b.length /\ b.length <= 16 /\ yB K H y ks /\ ks.length <= 1000 /\ (∀ k ∈ ks,vQ b.length k) /\ ∀ H',Grow [] H H' -> Q (.bl true) H'
def yP (K:FG7):Sp:=sp2 fun x y H Q=>∃ b ks,zD K H x b /\ 1 <= b.length /\ b.length <= 16 /\ yB K H y ks /\ ks.length <= 1000 /\ (∀ k ∈ ks,vQ b.length k) /\ ∀ H',Grow [] H H' -> Q .non H'
def rG (K:FG7):Sp:=sp2 fun x y H Q=>∃ b ks,zD K H x b /\ 1 <= b.length /\ b.length <= 16 /\ yB K H y ks /\ ks.length <= 900 /\ (∀ k ∈ ks,vQ b.length k) /\ ∀ y H',Grow [] H H' -> vG K H' y (xv b ks) -> Q y H'
def tf (K:FG7):Sp:=sp1 fun x H Q=>∃ a,x = .ref a /\ Pot H a /\ ∀ H',Grow [a] H H' -> Q (.bl true) H'
theorem sd {P:Program} {w:World} {K:FG7} {mg:Str -> Option Value} {base:Heap} {CX:CXT} {k:Nat} {f:Addr} {fd:FuncData} {ps:List Str} {sp:Sp} (h:∀ vs H Q E,¬ sp vs H Q E):FnOk P w K mg base CX k f fd ps sp :=
 ⟨fun vs H Q E z=>(h vs H Q E z).elim,by
  intros
  first
   | exact (h _ _ _ _ (by assumption)).elim⟩
inductive Tr where
 | leaf (n:Int)
 | node (l r:Tr)
def Tr.count:Tr -> Int
 | .leaf _=>1
 | .node l r=>l.count + r.count
def Tr.ht:Tr -> Nat
 | .leaf _=>0
 | .node l r=>max l.ht r.ht + 1
def yp (K:FG7) (H:Hp) (x:V):Tr -> Prop
 | .leaf n=>x = .int n
 | .node l r=>∃ a xl xr,x = .ref a /\ SqT K H a [xl,xr] /\ yp K H xl l /\ yp K H xr r
theorem Grow.tree {m:List Addr} {H H':Hp} (g:Grow m H H') {K:FG7}:∀ {t:Tr} {x:V},yp K H x t -> yp K H' x t
 | .leaf n,x,h=>h
 | .node l r,x,h=>by
  obtain ⟨a,xl,xr,e,hs,h1,h2⟩:=h
  exact ⟨a,xl,xr,e,g.sqT hs,g.tree h1,g.tree h2⟩
def Tr.Nums (t:Tr):Prop:=match t with
 | .leaf n=>I200 n
 | .node l r=>l.Nums /\ r.Nums
def Tr.wt:Tr -> Nat
 | .leaf _=>1
 | .node l r=>l.wt + r.wt + 1
theorem Yt {K:FG7} {H:Hp} {t:Tr} {x:V} (h:yp K H x t):Kn K H x:=by
 cases t with
 | leaf n=>cases (show x = V.int n from h); exact x9
 | node l r =>
  obtain ⟨a,xl,xr,e,hs,_⟩:=h
  subst e
  exact ⟨"tuple",.inl ⟨rfl,_,hs⟩⟩
def y9 (f:Int) (m:Nat):Tr:=if h:m <= 1 then .leaf f else .node (y9 f ((m + 1) / 2)) (y9 (f + ((m + 1) / 2:Nat)) (m - (m + 1) / 2))
termination_by m
decreasing_by
 ·omega
 ·omega
theorem uo {f:Int} {m:Nat} (h:m <= 1):y9 f m = .leaf f:=by rw [y9,dif_pos h]
theorem vt {f:Int} {m:Nat} (h:¬ m <= 1):y9 f m = .node (y9 f ((m + 1) / 2)) (y9 (f + ((m + 1) / 2:Nat)) (m - (m + 1) / 2)):=by rw [y9,dif_neg h]
theorem rH (B:Int):∀ (n m:Nat) (f:Int),m <= n -> 1 <= m -> -B < f -> f + m < B -> B <= 2 ^ 200 -> (y9 f m).count = m /\ (y9 f m).Nums /\ (y9 f m).ht < m /\ (y9 f m).wt < 2 * m:=by
 intro n
 induction n with
 | zero=>intro m f h1 h2; omega
 | succ n ih =>
  intro m f h1 h2 h3 h4 h5
  by_cases c:m <= 1
  ·rw [uo c]
   exact ⟨by show (1:Int) = m; omega,⟨by omega,by omega⟩,by show 0 < m; omega,by show 1 < 2 * m; omega⟩
  ·rw [vt c]
   obtain ⟨a1,a2,a3,a4⟩:=ih ((m + 1) / 2) f (by omega) (by omega) h3 (by omega) h5
   obtain ⟨b1,b2,b3,b4⟩:=ih (m - (m + 1) / 2) (f + ((m + 1) / 2:Nat)) (by omega) (by omega) (by omega) (by omega) h5
   refine ⟨?_,⟨a2,b2⟩,?_,?_⟩
   ·show (y9 f ((m + 1) / 2)).count + (y9 (f + ((m + 1) / 2:Nat)) (m - (m + 1) / 2)).count = m
    rw [a1,b1]; omega
   ·show max (y9 f ((m + 1) / 2)).ht (y9 (f + ((m + 1) / 2:Nat)) (m - (m + 1) / 2)).ht + 1 < m
    omega
   ·show (y9 f ((m + 1) / 2)).wt + (y9 (f + ((m + 1) / 2:Nat)) (m - (m + 1) / 2)).wt + 1 < 2 * m
    omega
def chT:Nat -> Tr
 | 0=>.leaf 0
 | n + 1=>.node (chT n) (.leaf ((n:Int) + 1))
theorem Yu:∀ n:Nat,n < 1000 -> (chT n).Nums /\ (chT n).ht = n /\ (chT n).wt <= 2 * n + 1
 | 0,_=>⟨⟨by decide,by decide⟩,rfl,by decide⟩
 | n + 1,h=>by
  obtain ⟨a,b,c⟩:=Yu n (by omega)
  refine ⟨⟨a,by omega,by omega⟩,?_,?_⟩
  ·show max (chT n).ht 0 + 1 = n + 1; omega
  ·show (chT n).wt + 1 + 1 <= 2 * (n + 1) + 1; omega
def yg (N:Nat) (K:FG7):Sp:=sp2 fun x y H Q=>∃ f m,x = .int f /\ y = .int m /\ 1 <= m /\ m <= N /\ ∀ y H',Grow [] H H' -> yp K H' y (y9 f m.toNat) -> Q y H'
theorem uq {K:FG7}:∀ vs H Q E,¬ yg 0 K vs H Q E:=by
 rintro vs H Q E ⟨x,y,_,f,m,_,_,h1,h2,_⟩
 omega
def rJ (K:FG7):Sp:=sp1 fun x H Q=>∃ m,x = .int m /\ 1 <= m /\ m <= 40 /\ ∀ y H',Grow [] H H' -> yp K H' y (y9 0 m.toNat) -> Q y H'
def th (K:FG7):Sp:=sp1 fun x H Q=>∃ m,x = .int m /\ 1 <= m /\ m <= 40 /\ ∀ y H',Grow [] H H' -> yp K H' y (chT (m - 1).toNat) -> Q y H'
def xg (_:FG7):Sp:=sp1 fun x H Q=>∃ m,x = .int m /\ 1 <= m /\ m <= 40 /\ Q .non H
def sp4 (b:V -> V -> V -> V -> Hp -> VK -> Prop):Sp:=fun vs H Q _=>∃ x y z u,vs = [x,y,z,u] /\ b x y z u H Q
theorem xG {b:V -> V -> V -> V -> Hp -> VK -> Prop} {p q r s:Str}:∀ vs H Q E,sp4 b vs H Q E -> vs.length = [p,q,r,s].length:=fun vs H Q E h=>by
 obtain ⟨x,y,z,u,rfl,_⟩:=h; rfl
def AllR {α:Type} (R:V -> α -> Prop):List V -> List α -> Prop
 | [],[]=>True
 | x :: xs,k :: ks=>R x k /\ AllR R xs ks
 | _,_=>False
section
variable {α:Type} {R S:V -> α -> Prop}
theorem AllR.imp (h:∀ x k,R x k -> S x k):∀ {xs:List V} {ks:List α},AllR R xs ks -> AllR S xs ks
 | [],[],_=>trivial
 | _ :: _,_ :: _,⟨a,t⟩=>⟨h _ _ a,AllR.imp h t⟩
 | [],_ :: _,z=>z.elim
 | _ :: _,[],z=>z.elim
theorem AllR.len:∀ {xs:List V} {ks:List α},AllR R xs ks -> xs.length = ks.length
 | [],[],_=>rfl
 | _ :: xs,_ :: ks,⟨_,t⟩=>congrArg (· + 1) (AllR.len t)
 | [],_ :: _,h=>h.elim
 | _ :: _,[],h=>h.elim
theorem AllR.get:∀ {xs:List V} {ks:List α} {i:Nat} {x:V},AllR R xs ks -> xs[i]? = some x -> ∃ k,ks[i]? = some k /\ R x k
 | _ :: _,k :: _,0,x,⟨h,_⟩,e=>by
  obtain rfl:=Option.some.inj e
  exact ⟨k,rfl,h⟩
 | _ :: _,_ :: _,i + 1,x,⟨_,t⟩,e=>AllR.get (i:=i) t e
 | [],[],i,x,_,e=>by cases e
 | [],_ :: _,_,_,h,_=>h.elim
 | _ :: _,[],_,_,h,_=>h.elim
theorem AllR.getR:∀ {xs:List V} {ks:List α} {i:Nat} {k:α},AllR R xs ks -> ks[i]? = some k -> ∃ x,xs[i]? = some x /\ R x k
 | x :: _,_ :: _,0,k,⟨h,_⟩,e=>by
  obtain rfl:=Option.some.inj e
  exact ⟨x,rfl,h⟩
 | _ :: _,_ :: _,i + 1,k,⟨_,t⟩,e=>AllR.getR (i:=i) t e
 | [],[],i,k,_,e=>by cases e
 | [],_ :: _,_,_,h,_=>h.elim
 | _ :: _,[],_,_,h,_=>h.elim
theorem AllR.app:∀ {xs ys:List V} {ks js:List α},AllR R xs ks -> AllR R ys js -> AllR R (xs ++ ys) (ks ++ js)
 | [],_,[],_,_,h=>h
 | _ :: _,_,_ :: _,_,⟨h,t⟩,q=>⟨h,AllR.app t q⟩
 | [],_,_ :: _,_,h,_=>h.elim
 | _ :: _,_,[],_,h,_=>h.elim
theorem AllR.one {x:V} {k:α} (h:R x k):AllR R [x] [k]:=⟨h,trivial⟩
theorem AllR.snocE {xs:List V} {x:V} {ks:List α} (h:AllR R (xs ++ [x]) ks):∃ js j,ks = js ++ [j] /\ AllR R xs js /\ R x j:=by
 induction xs generalizing ks with
 | nil =>
  cases ks with
  | nil=>exact h.elim
  | cons k ks =>
   obtain ⟨a,b⟩:=h
   cases ks with
   | nil=>exact ⟨[],k,rfl,trivial,a⟩
   | cons _ _=>exact b.elim
 | cons y ys ih =>
  cases ks with
  | nil=>exact h.elim
  | cons k ks =>
   obtain ⟨a,b⟩:=h
   obtain ⟨js,j,rfl,p,q⟩:=ih b
   exact ⟨k :: js,j,rfl,⟨a,p⟩,q⟩
end
def xh (K:FG7) (H:Hp) (x:V) (ds:List Deed):Prop:=∃ r xs,x = .ref r /\ SqT K H r xs /\ AllR (zw K H) xs ds
theorem Grow.deedsR {m:List Addr} {H H':Hp} (g:Grow m H H') {K:FG7} {xs:List V} {ds:List Deed} (h:AllR (zw K H) xs ds):AllR (zw K H') xs ds:=h.imp fun _ _ z=>g.deed z
theorem Grow.deedsT {m:List Addr} {H H':Hp} (g:Grow m H H') {K:FG7} {x:V} {ds:List Deed} (h:xh K H x ds):xh K H' x ds:=by
 obtain ⟨r,xs,e,h1,h2⟩:=h
 exact ⟨r,xs,e,g.sqT h1,g.deedsR h2⟩
theorem zw.dat {K:FG7} {H:Hp} {x:V} {d:Deed} (h:zw K H x d):Dat K H x (Yr d):=by
 obtain ⟨r,rfl,h⟩:=h
 exact jQ h
theorem datR {α:Type} {K:FG7} {H:Hp} {R:V -> α -> Prop} {f:α -> PyData} (h:∀ x k,R x k -> Dat K H x (f k)):∀ {xs:List V} {ks:List α},AllR R xs ks -> DatAll K H xs (ks.map f)
 | [],[],_=>.nil
 | _ :: _,_ :: _,⟨a,t⟩=>.cons (h _ _ a) (datR h t)
 | [],_ :: _,h=>h.elim
 | _ :: _,[],h=>h.elim
def Ordd:Tr -> Int -> Prop
 | .leaf n,f=>n = f
 | .node l r,f=>Ordd l f /\ Ordd r (f + l.count)
def look:Deed:=⟨0,none,none⟩
def wW (ds:List Deed):Tr -> Deed
 | .leaf n=>ds.getD n.toNat look
 | .node l r=>zP (wW ds l) (wW ds r)
def wD (ds:List Deed):Tr -> Int -> List Int
 | .leaf _,v=>[v]
 | .node l r,v=>wD ds l v ++ wD ds r ((wW ds l).mk' v)
def xw (ds:List Deed):Prop:=∀ d ∈ ds,d.Ok
theorem yu:∀ t:Tr,1 <= t.count
 | .leaf _=>Int.le_refl 1
 | .node l r=>by have:=yu l; have:=yu r; show 1 <= l.count + r.count; omega
theorem Yv {ds:List Deed} (h:xw ds) (i:Nat):(ds.getD i look).Ok:=by
 rw [List.getD_eq_getElem?_getD]
 cases e:ds[i]? with
 | none=>exact wb
 | some d=>exact h d (List.mem_of_getElem? e)
def runD (ds:List Deed):Deed:=ds.foldl zP look
def runA:List Deed -> Int -> List Int
 | [],_=>[]
 | d :: ds,v=>v :: runA ds (d.mk' v)
def runV:List Deed -> Int -> Int
 | [],v=>v
 | d :: ds,v=>runV ds (d.mk' v)
theorem tj {ds:List Deed} (h:xw ds):∀ {d:Deed},d.Ok -> ds.foldl zP d = zP d (runD ds):=by
 induction ds with
 | nil=>intro d o; exact (u6 o).symm
 | cons e es ih =>
  intro d o
  have he:e.Ok:=h e (by simp)
  have hes:xw es:=fun x hx=>h x (List.mem_cons_of_mem _ hx)
  have r0:(runD es).Ok:=by
   have key:∀ (ds:List Deed) (d:Deed),xw ds -> d.Ok -> (ds.foldl zP d).Ok:=by
    intro ds
    induction ds with
    | nil=>intro d _ o; exact o
    | cons x xs ih2=>intro d hh o; exact ih2 _ (fun y hy=>hh y (List.mem_cons_of_mem _ hy)) (yn o (hh x (by simp)))
   exact key es look hes wb
  show es.foldl zP (zP d e) = zP d (es.foldl zP (zP look e))
  rw [show zP look e = e from vn he,ih hes (yn o he),ih hes he,qQ o he r0]
theorem qR:∀ {ds:List Deed},xw ds -> (runD ds).Ok:=by
 have key:∀ (ds:List Deed) (d:Deed),xw ds -> d.Ok -> (ds.foldl zP d).Ok:=by
  intro ds
  induction ds with
  | nil=>intro d _ o; exact o
  | cons x xs ih2=>intro d hh o; exact ih2 _ (fun y hy=>hh y (List.mem_cons_of_mem _ hy)) (yn o (hh x (by simp)))
 exact fun {ds} h=>key ds look h wb
theorem jS {as bs:List Deed} (ha:xw as) (hb:xw bs):runD (as ++ bs) = zP (runD as) (runD bs):=by
 unfold runD
 rw [List.foldl_append]
 exact tj hb (qR ha)
theorem rK {d:Deed} {ds:List Deed} (o:d.Ok) (h:xw ds):runD (d :: ds) = zP d (runD ds):=by
 show ds.foldl zP (zP look d) = _
 rw [show zP look d = d from vn o]
 exact tj h o
theorem qS:∀ {ds:List Deed},xw ds -> ∀ v,(runD ds).mk' v = runV ds v
 | [],_,v=>t6 v
 | d :: ds,h,v=>by
  have o:d.Ok:=h d (by simp)
  have h':xw ds:=fun x hx=>h x (List.mem_cons_of_mem _ hx)
  rw [rK o h',yU o (qR h'),qS h']
  rfl
theorem jT:∀ {as bs:List Deed} (v:Int),runA (as ++ bs) v = runA as v ++ runA bs (runV as v)
 | [],_,_=>rfl
 | a :: as,bs,v=>by show v :: runA (as ++ bs) (a.mk' v) = v :: (runA as (a.mk' v) ++ runA bs (runV as (a.mk' v))); rw [jT]
def seg (ds:List Deed) (f n:Int):List Deed:=(ds.drop f.toNat).take n.toNat
theorem Yw {ds:List Deed} {f a b:Int} (hf:0 <= f) (ha:0 <= a) (hb:0 <= b):seg ds f (a + b) = seg ds f a ++ seg ds (f + a) b:=by
 unfold seg
 rw [show (a + b).toNat = a.toNat + b.toNat by omega,show (f + a).toNat = f.toNat + a.toNat by omega,List.take_add,List.drop_drop]
theorem Yx {ds:List Deed} (h:xw ds) (f n:Int):xw (seg ds f n):=fun d hd=>h d (List.mem_of_mem_drop (List.mem_of_mem_take hd))
theorem Yy {ds:List Deed} {f:Int} (h0:0 <= f) (h:f < ds.length):seg ds f 1 = [ds.getD f.toNat look]:=by
 unfold seg
 have hj:f.toNat < ds.length:=by omega
 rw [List.drop_eq_getElem_cons hj,List.getD_eq_getElem?_getD,List.getElem?_eq_getElem hj]
 rfl
theorem Yz (ds:List Deed):seg ds 0 ds.length = ds:=by
 unfold seg
 rw [Int.toNat_natCast,show (0:Int).toNat = 0 from rfl,List.drop_zero,List.take_length]
theorem wX {ds:List Deed} (h:xw ds):∀ {t:Tr} {f:Int},Ordd t f -> 0 <= f -> f + t.count <= ds.length -> wW ds t = runD (seg ds f t.count)
 | .leaf n,f,o,h0,h1=>by
  cases (show n = f from o)
  have h1':n + 1 <= ds.length:=h1
  show ds.getD n.toNat look = runD (seg ds n 1)
  rw [Yy h0 (by omega),rK (Yv h _) (fun x hx=>by cases hx)]
  exact (u6 (Yv h _)).symm
 | .node l r,f,o,h0,h1=>by
  have c1:=yu l
  have c2:=yu r
  have h1':f + (l.count + r.count) <= ds.length:=h1
  show zP (wW ds l) (wW ds r) = runD (seg ds f (l.count + r.count))
  rw [Yw h0 (by omega) (by omega),jS (Yx h _ _) (Yx h _ _),wX h o.1 h0 (by omega),wX h o.2 (by omega) (by omega)]
theorem vu {ds:List Deed} (h:xw ds):∀ {t:Tr} {f:Int} (v:Int),Ordd t f -> 0 <= f -> f + t.count <= ds.length -> wD ds t v = runA (seg ds f t.count) v
 | .leaf n,f,v,o,h0,h1=>by
  cases (show n = f from o)
  have h1':n + 1 <= ds.length:=h1
  show [v] = runA (seg ds n 1) v
  rw [Yy h0 (by omega)]; rfl
 | .node l r,f,v,o,h0,h1=>by
  have c1:=yu l
  have c2:=yu r
  have h1':f + (l.count + r.count) <= ds.length:=h1
  show wD ds l v ++ wD ds r ((wW ds l).mk' v) = runA (seg ds f (l.count + r.count)) v
  rw [Yw h0 (by omega) (by omega),jT,vu h v o.1 h0 (by omega),vu h _ o.2 (by omega) (by omega),wX h o.1 h0 (by omega),qS (Yx h _ _)]
theorem vw (ds:List Deed):∀ (t:Tr) (v:Int),((wD ds t v).length:Int) = t.count
 | .leaf _,_=>rfl
 | .node l r,v=>by
  show ((wD ds l v ++ wD ds r _).length:Int) = l.count + r.count
  rw [List.length_append,Int.natCast_add,vw ds l,vw ds r]
theorem YA:∀ (n m:Nat) (f:Int),m <= n -> 1 <= m -> -(2 ^ 100) < f -> f + m < 2 ^ 100 -> Ordd (y9 f m) f:=by
 intro n
 induction n with
 | zero=>intro m f h1 h2; omega
 | succ n ih =>
  intro m f h1 h2 h3 h4
  by_cases c:m <= 1
  ·rw [uo c]; exact rfl
  ·rw [vt c]
   have e1:=(rH (2 ^ 100) n ((m + 1) / 2) f (by omega) (by omega) h3 (by omega) (by decide)).1
   refine ⟨ih _ _ (by omega) (by omega) h3 (by omega),?_⟩
   rw [e1]
   exact ih _ _ (by omega) (by omega) (by omega) (by omega)
theorem YB:∀ n:Nat,Ordd (chT n) 0 /\ (chT n).count = n + 1
 | 0=>⟨rfl,rfl⟩
 | n + 1=>by
  obtain ⟨a,b⟩:=YB n
  refine ⟨⟨a,?_⟩,?_⟩
  ·show (n:Int) + 1 = 0 + (chT n).count; omega
  ·show (chT n).count + 1 = ((n + 1:Nat):Int) + 1; omega
theorem Vl {xs:List V} (h:xs ≠ []):∃ ys y,xs = ys ++ [y]:=by
 cases e:xs.reverse with
 | nil=>exact absurd (List.reverse_eq_nil_iff.mp e) h
 | cons y r=>exact ⟨r.reverse,y,by rw [← List.reverse_reverse xs,e,List.reverse_cons]⟩
def OrdR:List Tr -> Int -> Int -> Prop
 | [],f,m=>f = m
 | t :: ts,f,m=>Ordd t f /\ OrdR ts (f + t.count) m
def wsum (ts:List Tr):Nat:=(ts.map Tr.wt).sum
theorem y6 {ts:List Tr} {t:Tr}:wsum (ts ++ [t]) = wsum ts + t.wt:=by
 unfold wsum
 rw [List.map_append,List.sum_append]; simp
theorem Uz:∀ t:Tr,1 <= t.wt
 | .leaf _=>Nat.le_refl 1
 | .node l r=>by show 1 <= l.wt + r.wt + 1; omega
theorem se:∀ t:Tr,(t.wt:Int) = 2 * t.count - 1
 | .leaf _=>rfl
 | .node l r=>by
  have a:=se l
  have b:=se r
  show ((l.wt + r.wt + 1:Nat):Int) = 2 * (l.count + r.count) - 1
  omega
theorem jU:∀ ts:List Tr,ts.length <= wsum ts
 | []=>Nat.le_refl 0
 | t :: ts=>by
  have a:=jU ts
  have b:=Uz t
  show ts.length + 1 <= (t.wt :: ts.map Tr.wt).sum
  rw [List.sum_cons]
  have:wsum ts = (ts.map Tr.wt).sum:=rfl
  omega
theorem Grow.treesR {m:List Addr} {H H':Hp} (g:Grow m H H') {K:FG7} {xs:List V} {ts:List Tr} (h:AllR (yp K H) xs ts):AllR (yp K H') xs ts:=h.imp fun _ _ z=>g.tree z
def xH (K:FG7):Sp:=sp1 fun x H Q=>∃ ds,xh K H x ds /\ 1 <= ds.length /\ ds.length <= 40 /\ xw ds /\ ∀ H',Grow [] H H' -> Q .non H'
def tm (K:FG7):Sp:=sp2 fun x y H Q=>∃ t m,yp K H x t /\ y = .int m /\ Ordd t 0 /\ t.count = m /\ 1 <= m /\ m <= 40 /\ ∀ H',Grow [] H H' -> Q (.bl true) H'
def we (K:FG7):Sp:=sp2 fun x y H Q=>∃ t m,yp K H x t /\ y = .int m /\ Ordd t 0 /\ t.count = m /\ 1 <= m /\ m <= 40 /\ ∀ H',Grow [] H H' -> Q .non H'
def yW (N:Nat) (K:FG7):Sp:=sp2 fun x y H Q=>∃ ds t f,xh K H x ds /\ yp K H y t /\ Ordd t f /\ 0 <= f /\ f + t.count <= ds.length /\ t.ht < N /\ ∀ y H',Grow [] H H' -> zw K H' y (wW ds t) -> Q y H'
theorem qT {K:FG7}:∀ vs H Q E,¬ yW 0 K vs H Q E:=by
 rintro vs H Q E ⟨x,y,_,ds,t,f,_,_,_,_,_,h,_⟩
 omega
def wn (N:Nat) (K:FG7):Sp:=sp4 fun x y z u H Q=>∃ (ds:List Deed) (t:Tr) (f v:Int) (l:Addr) (xs:List Int),xh K H x ds /\ yp K H y t /\ Ordd t f /\ 0 <= f /\ f + t.count <= ds.length /\ t.ht < N /\ z = .int v /\ u = .ref l /\ H l = some (.lst (xs.map V.int)) /\ (xs.length:Int) + t.count <= 500 /\ ∀ y H',Grow [l] H H' -> H' l = some (.lst ((xs ++ wD ds t v).map V.int)) -> zw K H' y (wW ds t) -> Q y H'
theorem YC {K:FG7}:∀ vs H Q E,¬ wn 0 K vs H Q E:=by
 rintro vs H Q E ⟨x,y,z,u,_,ds,t,f,v,l,xs,_,_,_,_,_,h,_⟩
 omega
def rL (K:FG7):Sp:=sp2 fun x y H Q=>∃ ds t,xh K H x ds /\ 1 <= ds.length /\ ds.length <= 40 /\ xw ds /\ yp K H y t /\ Ordd t 0 /\ t.count = ds.length /\ t.ht < 41 /\ ∀ y H',Grow [] H H' -> zw K H' y (runD ds) -> Q y H'
def wY (K:FG7):Sp:=sp3 fun x y z H Q=>∃ ds t v,xh K H x ds /\ 1 <= ds.length /\ ds.length <= 40 /\ xw ds /\ yp K H y t /\ Ordd t 0 /\ t.count = ds.length /\ t.ht < 41 /\ z = .int v /\ ∀ y H',Grow [] H H' -> zD K H' y (runA ds v) -> Q y H'
theorem CSc.nest {X0:Cx} {scope scope2:Scope} {N' N2:List Str} {sub sub2:List (Option Nat)} {cl:List (Str × Addr)} {C D:Addr} {fp:List Addr} {s:Shared} {H:Hp} (S:CSc X0 scope N' sub) (hk0:X0.env.scope.kind = .function)
  (h:((scope2.names.all fun y=>(y.2 != .free || scope.names.lookup y.1 == some .free) && (y.2 != .cell) && (y.2 != .local || scope2.names.lookup y.1 == some .local)) && (sub2.length == N2.length) &&
   ((N2.zip sub2).all fun p=>match p.2 with | none=>true | some i=>N'[i]? == some p.1 && scope.names.lookup p.1 == some .free && scope2.names.lookup p.1 == some .free)) = true)
  (hk:scope2.kind = .function):CSc (cxC X0 N' scope cl C D fp s H) scope2 N2 sub2:=by
 rw [Bool.and_eq_true,Bool.and_eq_true] at h
 obtain ⟨⟨h1,h2⟩,h3⟩:=h
 have k1:=fun y hy=>List.all_eq_true.mp h1 y hy
 have cellOf:∀ y:Str,scope.names.lookup y = some .free -> (relabel scope X0.env).names.lookup y = some .cell:=fun y hy=>vF hk0 (S.free (y,.free) (PySem.mem_of_lookup hy) rfl) hy
 refine ⟨fun y hy hf=>?_,fun y hy hc=>?_,hk,fun y hy hl=>?_,by simpa using h2,fun j y i hj hs=>?_⟩
 ·have:=k1 y hy
  simp only [hf,Bool.and_eq_true] at this
  have z:=this.1.1
  exact cellOf y.1 (by simpa using z)
 ·have:=k1 y hy
  simp only [hc,Bool.and_eq_true] at this
  simp at this
 ·have:=k1 y hy
  simp only [hl,Bool.and_eq_true] at this
  simpa using this.2
 ·have hm:(y,some i) ∈ N2.zip sub2:=by
   have:(N2.zip sub2)[j]? = some (y,some i):=by
    rw [List.getElem?_zip_eq_some]; exact ⟨hj,hs⟩
   exact List.mem_of_getElem? this
  have:=List.all_eq_true.mp h3 _ hm
  simp only [Bool.and_eq_true,beq_iff_eq] at this
  exact ⟨this.1.1,cellOf y this.1.2,this.2⟩
theorem qU {X:Cx} {K:FG7} (h:X.K = K):wI X (.type "tuple") (fun xs H Q=>∃ p ys,xs = [.ref p] /\ ((SqL K H p ys /\ ∀ l,H l = none -> Q (.ref l) (upd H l (.tup ys))) \/ (SqT K H p ys /\ Q (.ref p) H))):=by subst h; exact zq
def sp6 (b:V -> V -> V -> V -> V -> V -> Hp -> VK -> Prop):Sp:=fun vs H Q _=>∃ x y z u w k,vs = [x,y,z,u,w,k] /\ b x y z u w k H Q
theorem Vm {b:V -> V -> V -> V -> V -> V -> Hp -> VK -> Prop} {p q r s t u:Str}:∀ vs H Q E,sp6 b vs H Q E -> vs.length = [p,q,r,s,t,u].length:=fun vs H Q E h=>by
 obtain ⟨x,y,z,u,w,k,rfl,_⟩:=h; rfl
def xy (K:FG7) (H:Hp) (x:V) (rows:List (List Int)):Prop:=∃ r xs,x = .ref r /\ SqT K H r xs /\ AllR (zD K H) xs rows
theorem Grow.boardsR {m:List Addr} {H H':Hp} (g:Grow m H H') {K:FG7} {xs:List V} {rows:List (List Int)} (h:AllR (zD K H) xs rows):AllR (zD K H') xs rows:=h.imp fun _ _ z=>g.board z
theorem Grow.rows {m:List Addr} {H H':Hp} (g:Grow m H H') {K:FG7} {x:V} {rows:List (List Int)} (h:xy K H x rows):xy K H' x rows:=by
 obtain ⟨r,xs,e,h1,h2⟩:=h
 exact ⟨r,xs,e,g.sqT h1,g.boardsR h2⟩
theorem getI {xs:List Int} {i:Int} (h0:0 <= i) (h:i < xs.length):atI (xs.map V.int) i = some (V.int (xs.getD i.toNat 0)):=by
 have hj:i.toNat < xs.length:=by omega
 exact vP (xk h0 (by rw [List.length_map]; exact hj)) (by rw [List.getElem?_map,t7 hj]; rfl)
theorem UA {K:FG7} {H:Hp} {xs:List V} {rows:List (List Int)} (h:AllR (zD K H) xs rows) {i:Int} (h0:0 <= i) (h1:i < rows.length):∃ a,atI xs i = some (V.ref a) /\ SqT K H a ((rows.getD i.toNat []).map V.int):=by
 have hj:i.toNat < rows.length:=by omega
 have e:rows[i.toNat]? = some (rows.getD i.toNat []):=by rw [List.getD_eq_getElem?_getD,List.getElem?_eq_getElem hj]; rfl
 obtain ⟨x,hx,a,rfl,hs⟩:=h.getR e
 exact ⟨a,vP (xk h0 (by rw [h.len]; exact hj)) hx,hs⟩
section
variable {prog:Program} {w:World} {A:Around} {E:VS7} {s:Shared}
theorem qV {jt t:Addr} {i:Nat} {vs:Array Value} {v:Value} {Q:VS7} (hit:s.heap.IsTupleIter jt t i) (ht:s.heap.IsTuple t vs) (hv:vs[i]? = some v)
  (hQ:∀ h',h'.IsTupleIter jt t (i + 1) -> Heap.SameBut jt s.heap h' -> Q v { s with heap:=h' }):wpAny (model prog w) A (Builtin.SmallTypes.nextOf (.ref jt)) Q E s:=by
 obtain ⟨oj,hoj,cj,dj⟩:=id hit
 obtain ⟨ot,hot,_,nt,dt⟩:=ht
 unfold Builtin.SmallTypes.nextOf
 refine wpAny_bind (wpAny_callSpecial?_slot (name:=Str.ofString "__next__") hit.typeIs F.slot_tuple_iterator_next (wpAny_call_entry F.slot_tuple_iterator_next hit.typeIs F.entry_tuple_iterator_next ?_ (F.args_tuple_iterator_next_1 _)))
 show wpAny _ _ (field (.ref jt) 0 >>= _) _ _ s
 refine wpAny_bind (wpAny_field hoj dj (x:=.ref t) rfl ?_); show wpAny _ _ (if (Value.ref t == Value.none) = true then _ else _) _ _ s
 rw [if_neg (show ¬ ((Value.ref t == Value.none) = true) by exact Bool.false_ne_true)]; show wpAny _ _ (field (.ref jt) 1 >>= _) _ _ s
 refine wpAny_bind (wpAny_field hoj dj (x:=.int i 0) rfl ?_); show wpAny _ _ (seqItems? (.ref t) >>= _) _ _ s
 refine wpAny_bind (wpAny_seqItems hot dt ?_); simp only [Int.toNat_natCast,hv]
 refine wpAny_bind (wpAny_setField hoj dj (by simp) (wpAny_pure ⟨v,rfl,wpAny_pure (hQ _ ⟨_,Heap.get?_update_self _ hoj (Obj.isFreed_of_fields (Obj.data_mapFields dj _)),(Obj.cls_mapFields ..).trans cj,by rw [Obj.data_mapFields dj]; simp [rawInt]⟩ (Heap.SameBut.update ..))⟩))
theorem tq {jt t:Addr} {i:Nat} {vs:Array Value} {Q:VS7} (hh:A.handled = none) (hit:s.heap.IsTupleIter jt t i) (ht:s.heap.IsTuple t vs) (hv:vs[i]? = none)
  (hE:∀ h' e,Heap.ExtBut jt s.heap h' -> (∃ o,h'.get? e = some o /\ o.cls = .type "StopIteration") -> E (.ref e) { s with heap:=h' }):wpAny (model prog w) A (Builtin.SmallTypes.nextOf (.ref jt)) Q E s:=by
 obtain ⟨oj,hoj,cj,dj⟩:=id hit
 obtain ⟨ot,hot,_,nt,dt⟩:=ht
 unfold Builtin.SmallTypes.nextOf
 refine wpAny_bind (wpAny_callSpecial?_slot (name:=Str.ofString "__next__") hit.typeIs F.slot_tuple_iterator_next (wpAny_call_entry F.slot_tuple_iterator_next hit.typeIs F.entry_tuple_iterator_next ?_ (F.args_tuple_iterator_next_1 _)))
 show wpAny _ _ (field (.ref jt) 0 >>= _) _ _ s
 refine wpAny_bind (wpAny_field hoj dj (x:=.ref t) rfl ?_); show wpAny _ _ (if (Value.ref t == Value.none) = true then _ else _) _ _ s
 rw [if_neg (show ¬ ((Value.ref t == Value.none) = true) by exact Bool.false_ne_true)]; show wpAny _ _ (field (.ref jt) 1 >>= _) _ _ s
 refine wpAny_bind (wpAny_field hoj dj (x:=.int i 0) rfl ?_); show wpAny _ _ (seqItems? (.ref t) >>= _) _ _ s
 refine wpAny_bind (wpAny_seqItems hot dt ?_); simp only [Int.toNat_natCast,hv]
 refine wpAny_bind (wpAny_rule (wpAny_bind (wpAny_setField hoj dj (by simp) ?_))); show wpAny _ _ (newExc (.type "StopIteration") [] >>= _) _ _ _
 refine wpAny_bind ?_; simp only [newExc,newTuple]
 refine wpAny_bind (wpAny_newObj_type ?_ (by size_fits)); refine wpAny_bind (m:=firstArgMember _ _) (wpAny_of_eq (a:=Value.none) (by first | rfl | (simp only [firstArgMember]; rfl)) ?_)
 refine wpAny_newObj_type ?_ (by size_fits); simp only [raiseNew]
 refine wpAny_bind (wpAny_handled ?_); (first | rw [show A.in1.handled = none from hh] | rw [hh])
 exact wpAny_bind (wpAny_pure (wpAny_throw (hE _ _ (((Heap.SameBut.update ..).extBut.push _).push _) ⟨_,Heap.get?_push_size _ rfl,rfl⟩)))
end
theorem YD {prog:Program} {w:World} {A:Around} (hh:A.handled = none) (jt t:Addr) (hne:t ≠ jt) (vs:Array Value) :
  Draws prog w A jt [jt,t] vs.size (fun i v=>vs[i]? = some v) (fun i h=>h.IsTupleIter jt t i /\ h.IsTuple t vs) where
 live:=fun _ _ st=>let ⟨o,ho,_⟩:=st.1; ⟨o,ho⟩
 frame:=fun _ _ _ st hk=>⟨st.1.at (hk jt (by simp)),st.2.at (hk t (by simp))⟩
 item:=fun i s Q E hi st hQ=>qV st.1 st.2 (v:=vs[i]) (by simp [hi]) fun h' hit' hs'=>hQ _ h' s.toks (by simp [hi]) ⟨hit',st.2.extBut hs'.extBut hne⟩ hs'
 done:=fun s Q E st hE=>tq hh st.1 st.2 (by simp) hE
theorem YE {prog:Program} {w:World} {A:Around} (hh:A.handled = none) (jt t:Addr) (vs:Array Value) {i:Nat} (hv:vs[i]? = none) :
  Draws prog w A jt [jt,t] i (fun _ _=>True) (fun j h=>j = i /\ h.IsTupleIter jt t i /\ h.IsTuple t vs) where
 live:=fun _ _ st=>let ⟨o,ho,_⟩:=st.2.1; ⟨o,ho⟩
 frame:=fun _ _ _ st hk=>⟨st.1,st.2.1.at (hk jt (by simp)),st.2.2.at (hk t (by simp))⟩
 item:=fun j s Q E hj st hQ=>absurd st.1 (Nat.ne_of_lt hj)
 done:=fun s Q E st hE=>tq hh st.2.1 st.2.2 hv hE
section
variable {X:Cx} {pins:List (Addr × Obj)} {σ:L2.St} {H:Hp} {s:Shared} {h':Heap}
theorem qW {fp:List Addr} {t':Nat} (I:Inv X pins σ H s) (k:∀ b o,b ∉ fp -> s.heap.get? b = some o -> h'.get? b = some o) (ff:∀ b ∈ fp,FpOk X pins H b):Inv X pins σ H { s with heap:=h',toks:=t' }:=by
 have nit:∀ b u,H b = some u -> b ∉ fp:=fun b u e z=>by rw [(ff b z).1] at e; cases e
 refine I.step (g':=s.gens) (d':=s.drawn) (ch:=fp) (fun b hb=>?_) (fun b o _ _ hc e _=>k b o hc e) (fun b o _ _ hc e _=>⟨o.slots,k b o hc e⟩) (fun _ _ _ _ n=>n) (fun b o hc e=>⟨o,k b o hc e⟩) (fun _ _ e=>e) (fun _ _ _ e=>e) (fun b ps e=>⟨#[],by rw [e]; simp⟩) (fun m hm=>?_) (fun b u e=>?_) I.bare
 ·obtain ⟨_,f1,_,f3,f4,f5⟩:=ff b hb
  exact ⟨f3,f1,f4,f5⟩
 ·obtain ⟨o,es,ep,ho,r⟩:=hm
  exact ⟨o,es,ep,k _ o (fun z=>(ff _ z).2.1 rfl) ho,r⟩
 ·refine (I.hok b u e).stay (fun c v hc q=>k c v ?_ q) (fun _ q=>q) fun _ _ q=>q
  rcases hc with z | z
  ·rw [z]; exact nit b u e
  ·exact nit c _ z
theorem jV {fp:List Addr} {T:Addr} {o:HO} {t':Nat} (I:Inv X pins σ H s) (k:∀ b o,b ∉ fp -> s.heap.get? b = some o -> h'.get? b = some o) (ff:∀ b ∈ fp,FpOk X pins H b) (hT:s.heap.objs.size <= T)
  (new:z6 X.prog X.w (upd H T o) h' T o):Inv X pins σ (upd H T o) { s with heap:=h',toks:=t' }:=by
 have hn:H T = none:=I.hok.fresh hT
 have I1:Inv X pins σ H { s with heap:=h',toks:=t' }:=qW I k ff
 have hok:HOk X.prog X.w (upd H T o) h':=HOk.track I1.hok hn new
 refine I.step (g':=s.gens) (d':=s.drawn) (ch:=fp) (fun b hb=>?_) (fun b o _ _ hc e _=>k b o hc e) (fun b o _ _ hc e _=>⟨o.slots,k b o hc e⟩) (fun b u _ e n=>by rw [zn (Nat.ne_of_lt (Nat.lt_of_lt_of_le (Heap.lt_size e) hT))]; exact n) (fun b o hc e=>⟨o,k b o hc e⟩)
  (fun b xs e=>by rw [zn (zt e hn)]; exact e) (fun b u xs e=>by rw [zn (zt e hn)]; exact e) (fun b ps e=>⟨#[],by rw [zn (zt e hn),e]; simp⟩) (fun m hm=>?_) hok I.bare
 ·obtain ⟨_,f1,_,f3,f4,f5⟩:=ff b hb
  exact ⟨f3,f1,f4,f5⟩
 ·obtain ⟨o,es,ep,ho,r⟩:=hm
  exact ⟨o,es,ep,k _ o (fun z=>(ff _ z).2.1 rfl) ho,r⟩
end
def qX (st:List Deed × List Deed) (k:Ask):List Deed × List Deed:=(st.1.set k.box.toNat (zP (st.1.getD k.box.toNat look) k.deed),st.2 ++ [st.1.getD k.box.toNat look])
def xa (n:Nat) (ks:List Ask):List Deed × List Deed:=ks.foldl qX (List.replicate n look,[])
theorem tw {n:Nat} {ks:List Ask} {i:Nat} {k:Ask} (h:ks[i]? = some k):xa n (ks.take (i + 1)) = qX (xa n (ks.take i)) k:=by
 unfold xa
 rw [List.take_add_one,h,List.foldl_append]; rfl
theorem Vn {ds:List Deed} {i:Nat} (h:i < ds.length):ds[i]? = some (ds.getD i look):=by
 rw [List.getD_eq_getElem?_getD,List.getElem?_eq_getElem h]; rfl
theorem rM {ds:List Deed} {i j:Nat} {d:Deed} (h:i < ds.length):(ds.set i d).getD j look = if i = j then d else ds.getD j look:=by
 rw [List.getD_eq_getElem?_getD,List.getD_eq_getElem?_getD,List.getElem?_set]
 by_cases e:i = j
 ·subst e; rw [if_pos rfl,if_pos h,if_pos rfl]; rfl
 ·rw [if_neg e,if_neg e]
theorem YF {xs:List Int} {i j:Nat} {v:Int} (h:i < xs.length):(xs.set i v).getD j 0 = if i = j then v else xs.getD j 0:=by
 rw [List.getD_eq_getElem?_getD,List.getD_eq_getElem?_getD,List.getElem?_set]
 by_cases e:i = j
 ·subst e; rw [if_pos rfl,if_pos h,if_pos rfl]; rfl
 ·rw [if_neg e,if_neg e]
def qY (j:Int) (ks:List Ask):List Deed:=(ks.filter fun k=>decide (k.box = j)).map Ask.deed
structure GInv (b:List Int) (ks:List Ask) (g:List Deed × List Deed) (p:List Int × List Int):Prop where
 l1:g.1.length = b.length
 l2:g.2.length = ks.length
 p1:p.1.length = ks.length
 p2:p.2.length = b.length
 bd1:∀ d ∈ g.1,d.Ok /\ d.Bd (ks.length * 10 ^ 30)
 bd2:∀ d ∈ g.2,d.Ok /\ d.Bd (ks.length * 10 ^ 30)
 run:∀ j:Nat,j < b.length -> g.1.getD j look = runD (qY j ks)
 val:∀ j:Nat,j < b.length -> p.2.getD j 0 = (g.1.getD j look).mk' (b.getD j 0)
 ans:∀ i k,ks[i]? = some k -> p.1.getD i 0 = (g.2.getD i look).mk' (b.getD k.box.toNat 0)
theorem ginv {b:List Int}:∀ (ks:List Ask),(∀ k ∈ ks,vQ b.length k /\ k.deed.Sm) -> GInv b ks (xa b.length ks) (xv b ks):=by
 intro ks
 have key:∀ n:Nat,n <= ks.length -> (∀ k ∈ ks,vQ b.length k /\ k.deed.Sm) -> GInv b (ks.take n) (xa b.length (ks.take n)) (xv b (ks.take n)):=by
  intro n
  induction n with
  | zero =>
   intro _ _
   refine ⟨by simp [xa],rfl,rfl,rfl,fun d hd=>?_,(fun d hd=>by cases hd),fun j hj=>?_,fun j hj=>?_,(fun i k hk=>by simp at hk)⟩
   ·have:d = look:=(List.mem_replicate.mp hd).2
    rw [this]; exact ⟨wb,Vf.mono (Int.mul_nonneg (Int.natCast_nonneg _) (by decide))⟩
   ·show (List.replicate b.length look).getD j look = look
    rw [List.getD_eq_getElem?_getD,List.getElem?_replicate]; split <;> rfl
   ·show b.getD j 0 = ((List.replicate b.length look).getD j look).mk' (b.getD j 0)
    rw [List.getD_eq_getElem?_getD (l:=List.replicate b.length look),List.getElem?_replicate]
    split <;> exact (t6 _).symm
  | succ n ih =>
   intro hn hok
   have I:=ih (by omega) hok
   have hk:ks[n]? = some ks[n]:=List.getElem?_eq_getElem (by omega)
   generalize ks[n] = k at hk
   obtain ⟨⟨o1,o2,o3,o4,o5⟩,osm⟩:=hok k (List.mem_of_getElem? hk)
   have htl:(ks.take n).length = n:=by rw [List.length_take]; omega
   have htl1:(ks.take (n + 1)).length = n + 1:=by rw [List.length_take]; omega
   rw [tw hk,vo hk]
   have hbx:k.box.toNat < b.length:=by omega
   generalize xa b.length (ks.take n) = g at I
   generalize xv b (ks.take n) = p at I
   obtain ⟨g1,g2⟩:=g
   obtain ⟨p1,p2⟩:=p
   have il1:g1.length = b.length:=I.l1
   have il2:g2.length = n:=I.l2.trans htl
   have ip1:p1.length = n:=I.p1.trans htl
   have ip2:p2.length = b.length:=I.p2
   have hg:(g1.getD k.box.toNat look).Ok /\ (g1.getD k.box.toNat look).Bd (n * 10 ^ 30):=by
    have:=I.bd1 _ (List.mem_of_getElem? (Vn (ds:=g1) (i:=k.box.toNat) (by omega)))
    rw [htl] at this; exact this
   have nn:(0:Int) <= (n:Int) * 10 ^ 30:=Int.mul_nonneg (Int.natCast_nonneg n) (by decide)
   have en:(n:Int) * 10 ^ 30 + 10 ^ 30 = ((n + 1:Nat):Int) * 10 ^ 30:=by rw [Int.natCast_add,Int.add_mul]; simp
   have hj:(zP (g1.getD k.box.toNat look) k.deed).Ok /\ (zP (g1.getD k.box.toNat look) k.deed).Bd (((n + 1:Nat):Int) * 10 ^ 30) :=
    ⟨yn hg.1 o5,by rw [← en]; exact XZ hg.2 osm.bd nn (by decide)⟩
   have up:∀ d:Deed,d.Bd ((n:Int) * 10 ^ 30) -> d.Bd (((n + 1:Nat):Int) * 10 ^ 30):=fun d h=>h.mono (by rw [← en]; omega)
   refine ⟨?_,?_,?_,?_,?_,?_,?_,?_,?_⟩
   ·show (g1.set _ _).length = _; rw [List.length_set]; exact il1
   ·show (g2 ++ [_]).length = _; rw [List.length_append,htl1,il2]; rfl
   ·show (p1 ++ [_]).length = _; rw [List.length_append,htl1,ip1]; rfl
   ·show (p2.set _ _).length = _; rw [List.length_set]; exact ip2
   ·intro d hd
    rw [htl1]
    rcases List.mem_or_eq_of_mem_set hd with z | z
    ·have:=I.bd1 d z; rw [htl] at this; exact ⟨this.1,up d this.2⟩
    ·rw [z]; exact hj
   ·intro d hd
    rw [htl1]
    rcases List.mem_append.mp hd with z | z
    ·have:=I.bd2 d z; rw [htl] at this; exact ⟨this.1,up d this.2⟩
    ·rw [List.mem_singleton.mp z]; exact ⟨hg.1,up _ hg.2⟩
   ·intro j hjb
    show (g1.set k.box.toNat _).getD j look = _
    rw [rM (by omega)]
    have ir:g1.getD j look = runD (qY j (ks.take n)):=I.run j hjb
    have ea:qY j (ks.take (n + 1)) = qY j (ks.take n) ++ (if k.box = (j:Int) then [k.deed] else []):=by
     unfold qY
     rw [List.take_add_one,hk,List.filter_append,List.map_append]
     congr 1
     show (([k]:List Ask).filter _).map _ = _
     by_cases c:k.box = (j:Int)
     ·rw [if_pos c,List.filter_cons_of_pos (by simpa using c)]; rfl
     ·rw [if_neg c,List.filter_cons_of_neg (by simpa using c)]; rfl
    rw [ea]
    by_cases c:k.box.toNat = j
    ·rw [if_pos c,if_pos (by omega)]
     unfold runD
     rw [List.foldl_append,c]
     show zP (g1.getD j look) k.deed = zP (List.foldl zP look (qY j (ks.take n))) k.deed
     rw [ir]; rfl
    ·rw [if_neg c,if_neg (by omega),List.append_nil]; exact ir
   ·intro j hjb
    show (p2.set k.box.toNat _).getD j 0 = ((g1.set k.box.toNat _).getD j look).mk' _
    rw [rM (by omega),YF (by omega)]
    have iv:∀ j:Nat,j < b.length -> p2.getD j 0 = (g1.getD j look).mk' (b.getD j 0):=I.val
    by_cases c:k.box.toNat = j
    ·rw [if_pos c,if_pos c,yU hg.1 o5,c]
     show k.deed.mk' (p2.getD j 0) = _
     rw [iv j hjb]
    ·rw [if_neg c,if_neg c]; exact iv j hjb
   ·intro i k' hk'
    show (p1 ++ [p2.getD k.box.toNat 0]).getD i 0 = ((g2 ++ [g1.getD k.box.toNat look]).getD i look).mk' _
    by_cases hi:i < n
    ·have hk2:(ks.take n)[i]? = some k':=by
      rw [List.getElem?_take] at hk' ⊢
      rw [if_pos (by omega)] at hk'
      rw [if_pos hi]; exact hk'
     have:=I.ans i k' hk2
     rw [List.getD_eq_getElem?_getD,List.getElem?_append_left (by omega),← List.getD_eq_getElem?_getD,List.getD_eq_getElem?_getD (l:=g2 ++ _),List.getElem?_append_left (by omega),← List.getD_eq_getElem?_getD]
     exact this
    ·have hi2:i = n:=by
      have:=(List.getElem?_eq_some_iff.mp hk').1
      rw [htl1] at this; omega
     subst hi2
     have ek:k' = k:=by
      rw [List.getElem?_take,if_pos (by omega),hk] at hk'
      exact (Option.some.inj hk').symm
     subst ek
     rw [List.getD_eq_getElem?_getD,List.getElem?_append_right (by omega),List.getD_eq_getElem?_getD (l:=g2 ++ _),List.getElem?_append_right (by omega)]
     have z1:i - p1.length = 0:=by omega
     have z2:i - g2.length = 0:=by omega
     rw [z1,z2]
     exact I.val _ hbx
 intro hok
 have:=key ks.length (Nat.le_refl _) hok
 rw [List.take_length] at this
 exact this
theorem AllR.set {α:Type} {R:V -> α -> Prop} {x:V} {k:α} (h:R x k):∀ {xs:List V} {ks:List α} {n:Nat},AllR R xs ks -> AllR R (xs.set n x) (ks.set n k)
 | [],[],n,_=>by cases n <;> trivial
 | _ :: _,_ :: _,0,⟨_,t⟩=>⟨h,t⟩
 | _ :: _,_ :: _,n + 1,⟨a,t⟩=>⟨a,AllR.set h t⟩
 | [],_ :: _,_,z=>z.elim
 | _ :: _,[],_,z=>z.elim
theorem jW {α β:Type} {R:V -> α -> Prop} {x:V} {k:α} (h:R x k):∀ (ys:List β),AllR R (ys.map fun _=>x) (List.replicate ys.length k)
 | []=>trivial
 | _ :: ys=>⟨h,jW h ys⟩
def UB (K:FG7) (H:Hp) (x:V) (g:List Deed × List Deed):Prop:=∃ r r1 r2,x = .ref r /\ SqT K H r [.ref r1,.ref r2] /\ xh K H (.ref r1) g.1 /\ xh K H (.ref r2) g.2
def wM (K:FG7):Sp:=sp2 fun x y H Q=>∃ b ks,zD K H x b /\ 1 <= b.length /\ b.length <= 16 /\ yB K H y ks /\ ks.length <= 900 /\ (∀ k ∈ ks,vQ b.length k) /\ ∀ y H',Grow [] H H' -> UB K H' y (xa b.length ks) -> Q y H'
def ur (K:FG7):Sp:=sp2 fun x y H Q=>∃ b ks,zD K H x b /\ 1 <= b.length /\ b.length <= 16 /\ yB K H y ks /\ ks.length <= 900 /\ (∀ k ∈ ks,vQ b.length k) /\ ∀ y H',Grow [] H H' -> xh K H' y (xa b.length ks).1 -> Q y H'
def ut (K:FG7):Sp:=sp2 fun x y H Q=>∃ b ks,zD K H x b /\ 1 <= b.length /\ b.length <= 16 /\ yB K H y ks /\ ks.length <= 900 /\ (∀ k ∈ ks,vQ b.length k) /\ ∀ y H',Grow [] H H' -> xh K H' y (xa b.length ks).2 -> Q y H'
def figI (k st l:Int):Int:=Builtin.bitAnd (l / 2 ^ (k - st).toNat) 1
def wfI (k st l w:Int):Int:=Builtin.bitXor l (Builtin.bitXor (figI k st l) w * 2 ^ (k - st).toNat)
def swI (k st l:Int):Int:=Builtin.bitOr (l / 2 ^ (k - st + 1).toNat * 2 ^ (k - st).toNat) (Builtin.bitAnd l (1 * 2 ^ (k - st).toNat - 1))
def vR (k n:Int):List Int:=(List.range k.toNat).map fun i:Nat=>Builtin.bitAnd (n / 2 ^ (k - 1 - (0 + (i:Int))).toNat) 1
def numL (xs:List Int):Int:=xs.foldl (fun f o=>2 * f + o) 0
def Zr (k l:Int) (st:Nat):Int:=numL ((vR k l).take (st - 1) ++ (vR k l).drop st)
theorem YG:∀ k:Fin 5,∀ st:Fin 5,st.val <= k.val -> ∀ l:Fin 16,(figI k.val st.val l.val = 0 \/ figI k.val st.val l.val = 1) /\ ∀ w:Fin 2,(Builtin.bitXor (figI k.val st.val l.val) w.val).natAbs < 2:=by
 decide +kernel
theorem jX {k:Nat} (h:k <= 4):CPow 1 (k:Int):=⟨by omega,by omega,by decide⟩
theorem xm {k:Nat} (h:k <= 4):(2:Nat) ^ k <= 16:=Nat.le_trans (Nat.pow_le_pow_right (by decide) h) (by decide)
theorem YH {k:Nat}:(1:Int) * 2 ^ ((k:Int)).toNat = ((2 ^ k:Nat):Int):=by rw [Int.toNat_natCast,Int.one_mul,Int.natCast_pow]; rfl
theorem figF {k st:Nat} {l:Int} (k4:k <= 4) (hs:st <= k) (l0:0 <= l) (l1:l < 16):(figI k st l = 0 \/ figI k st l = 1) /\ ∀ w:Int,w = 0 \/ w = 1 -> (Builtin.bitXor (figI k st l) w).natAbs < 2 ^ 64:=by
 obtain ⟨n,rfl⟩:∃ n:Nat,l = n:=⟨l.toNat,by omega⟩
 have z:=YG ⟨k,by omega⟩ ⟨st,by omega⟩ hs ⟨n,by omega⟩
 refine ⟨z.1,fun w hw=>?_⟩
 rcases hw with rfl | rfl
 ·exact Nat.lt_trans (z.2 0) (by decide)
 ·exact Nat.lt_trans (z.2 1) (by decide)
def vy (_:FG7):Sp:=sp2 fun x y H Q=>∃ k l:Nat,x = .int k /\ y = .int l /\ k <= 4 /\ l < 2 ^ k /\ Q (.bl true) H
def xI (_:FG7):Sp:=sp1 fun x H Q=>∃ k:Nat,x = .int k /\ k <= 4 /\ Q .non H
def vH (_:FG7):Sp:=sp2 fun x y H Q=>∃ k l:Nat,x = .int k /\ y = .int l /\ k <= 4 /\ l < 2 ^ k /\ Q .non H
def uu (_:FG7):Sp:=sp3 fun x y z H Q=>∃ (k st:Nat) (l:Int),x = .int k /\ y = .int st /\ z = .int l /\ st <= k /\ Q (.int (figI k st l)) H
def xn (_:FG7):Sp:=sp4 fun x y z u H Q=>∃ (k st:Nat) (l w:Int),x = .int k /\ y = .int st /\ z = .int l /\ u = .int w /\ k <= 4 /\ st <= k /\ 0 <= l /\ l < 16 /\ (w = 0 \/ w = 1) /\ Q (.int (wfI k st l w)) H
def uw (_:FG7):Sp:=sp4 fun x y z u H Q=>∃ (k st:Nat) (l s:Int),x = .int k /\ y = .int st /\ z = .int l /\ u = .int s /\ k <= 4 /\ st <= k /\ 0 <= l /\ l < 16 /\ 0 <= s /\ s < 16 /\ Q (.int (wfI k st l (figI k st s))) H
def xi (_:FG7):Sp:=sp3 fun x y z H Q=>∃ (k st:Nat) (l:Int),x = .int k /\ y = .int st /\ z = .int l /\ k <= 4 /\ st <= k /\ 0 <= l /\ l < 16 /\ Q (.int (swI k st l)) H
abbrev lc2 (elt t0 i0 t1 i1:Expr) (ifs:List Expr) (scope:Scope) (pos:Pos):Expr:=.ListComp elt [⟨t0,i0,[],0⟩,⟨t1,i1,ifs,0⟩] scope pos
section
variable {prog:Program} {w:World} {A:Around} {R:Result -> Shared -> Prop} {s:Shared}
variable {elt t0 i0 t1 i1:Expr} {ifs:List Expr} {scope:Scope} {pos:Pos} {it acc:Value} {env:Env}
theorem Vo:compTurn (lc2 elt t0 i0 t1 i1 ifs scope pos) 0 it acc env = (do
      standAt i0.pos
      match ← pyNext it with
      | none=>pure (.done .next)
      | some u =>
        letOwnedTupleGo t0 it u
        assign t0 env u
        let mut ko:=true
        for d in ([]:List Expr) do
          if ko then ko ← isTrue d env (eval d env)
        if ko then
          let y ← eval i1 env
          standAt i1.pos
          let y ← foldedSetIterable i1 env y
          let _ ← runOwn (.compStart (lc2 elt t0 i0 t1 i1 ifs scope pos) 1 (← holding [y] (pyIter y)) acc env) env
        again (.compLoop (lc2 elt t0 i0 t1 i1 ifs scope pos) 0 it acc env)):=by rfl
theorem Vp:compTurn (lc2 elt t0 i0 t1 i1 ifs scope pos) 1 it acc env = (do
      standAt i1.pos
      match ← pyNext it with
      | none=>pure (.done .next)
      | some u =>
        letOwnedTupleGo t1 it u
        assign t1 env u
        let mut ko:=true
        for d in ifs do
          if ko then ko ← isTrue d env (eval d env)
        if ko then
          (do let _ ← call (.builtin "list.append") [acc,← eval elt env])
        again (.compLoop (lc2 elt t0 i0 t1 i1 ifs scope pos) 1 it acc env)):=by rfl
def noX:VS7:=fun _ _=>False
theorem Vq (I:Nat -> Shared -> Prop)
  (turn:∀ n s,I n s -> wpAny (model prog w) A (pyNext it) (fun r s₁=>match r with
   | none=>R (.ok .next) s₁
   | some v=>wpAny (model prog w) A (letOwnedTupleGo t1 it v) (fun _ s₂=>wpAny (model prog w) A (assign t1 env v) (fun _ s₃ =>
     wpAny (model prog w) A (forIn ifs true fun c r=>if r = true then do let ok ← isTrue c env (eval c env); pure (ForInStep.yield ok) else pure (ForInStep.yield r)) (fun ok s₄ =>
      if ok = true then wpAny (model prog w) A (eval elt env) (fun x s₅=>wpAny (model prog w) A (call (.builtin "list.append") [acc,x]) (fun _ s₆=>∃ m,m < n /\ I m s₆) noX s₅) noX s₄
      else ∃ m,m < n /\ I m s₄) noX s₃) noX s₂) noX s₁) noX s)
  (n:Nat) (h:I n s):codeAny (model prog w) A (.compLoop (lc2 elt t0 i0 t1 i1 ifs scope pos) 1 it acc env) R s:=by
 refine codeAny_loop rfl I (fun n s hI=>?_) n h
 show wpAny _ A ((compTurn (lc2 elt t0 i0 t1 i1 ifs scope pos) 1 it acc env).onRaise (fun x=>do noteFrame x env; theTreesLotGoes x)) _ _ s
 refine wpAny_noted ?_
 rw [Vp]
 have no:∀ (E:VS7) (e:Value) (s:Shared),noX e s -> E e s:=fun _ _ _ f=>f.elim
 refine wpAny_bind (wpAny_standAt (wpAny_bind (wpAny_mono (turn n s hI) (fun r s₁ h₁=>?_) (no _))))
 cases r with
 | none=>exact wpAny_pure h₁
 | some v =>
  refine wpAny_bind (wpAny_mono h₁ (fun _ s₂ h₂=>?_) (no _))
  refine wpAny_bind (wpAny_mono h₂ (fun _ s₃ h₃=>wpAny_bind (wpAny_mono h₃ (fun ok s₄ h₄=>?_) (no _))) (no _))
  cases ok with
  | true =>
   simp only [if_true] at h₄ ⊢
   exact wpAny_bind (wpAny_bind (wpAny_mono h₄ (fun x s₅ h₅=>wpAny_bind (wpAny_mono h₅ (fun _ s₆ h₆=>wpAny_pure (wpAny_pure ⟨rfl,h₆⟩)) (no _))) (no _)))
  | false =>
   simp only [Bool.false_eq_true,if_false] at h₄ ⊢
   first
    | exact wpAny_bind (wpAny_pure (wpAny_pure ⟨rfl,h₄⟩))
    | exact wpAny_pure ⟨rfl,h₄⟩
theorem Vr (I:Nat -> Shared -> Prop) (hs:∀ x,foldedSetIterable i1 env x = pure x)
  (turn:∀ n s,I n s -> wpAny (model prog w) A (pyNext it) (fun r s₁=>match r with
   | none=>R (.ok .next) s₁
   | some v=>wpAny (model prog w) A (letOwnedTupleGo t0 it v) (fun _ s₂=>wpAny (model prog w) A (assign t0 env v) (fun _ s₃ =>
     wpAny (model prog w) A (eval i1 env) (fun y s₄=>wpAny (model prog w) A (pyIter y) (fun j s₅ =>
      codeAny (model prog w) A (.compStart (lc2 elt t0 i0 t1 i1 ifs scope pos) 1 j acc env) (fun r s'=>match r with | .ok _=>∃ m,m < n /\ I m s' | .error _=>False) s₅) noX s₄) noX s₃) noX s₂) noX s₁) noX s)
  (n:Nat) (h:I n s):codeAny (model prog w) A (.compLoop (lc2 elt t0 i0 t1 i1 ifs scope pos) 0 it acc env) R s:=by
 refine codeAny_loop rfl I (fun n s hI=>?_) n h
 show wpAny _ A ((compTurn (lc2 elt t0 i0 t1 i1 ifs scope pos) 0 it acc env).onRaise (fun x=>do noteFrame x env; theTreesLotGoes x)) _ _ s
 refine wpAny_noted ?_
 rw [Vo]
 have no:∀ (E:VS7) (e:Value) (s:Shared),noX e s -> E e s:=fun _ _ _ f=>f.elim
 refine wpAny_bind (wpAny_standAt (wpAny_bind (wpAny_mono (turn n s hI) (fun r s₁ h₁=>?_) (no _))))
 cases r with
 | none=>exact wpAny_pure h₁
 | some v =>
  refine wpAny_bind (wpAny_mono h₁ (fun _ s₂ h₂=>?_) (no _))
  refine wpAny_bind (wpAny_mono h₂ (fun _ s₃ h₃=>wpAny_bind (wpAny_pure ?_)) (no _))
  simp only [if_true]
  refine wpAny_bind (wpAny_mono h₃ (fun y s₄ h₄=>wpAny_bind (wpAny_standAt (wpAny_bind (wpAny_of_eq (hs y) (wpAny_bind (wpAny_holding (wpAny_mono h₄ (fun j s₅ h₅=>?_) (no _)))))))) (no _))
  refine wpAny_bind (wpAny_runOwn (codeAny_mono h₅ fun r s' hr=>?_))
  cases r with
  | ok f=>first
    | exact wpAny_pure ⟨rfl,hr⟩
    | exact wpAny_pure (wpAny_pure ⟨rfl,hr⟩)
  | error e=>exact hr.elim
theorem X6 (h0:codeAny (model prog w) A (.compLoop (lc2 elt t0 i0 t1 i1 ifs scope pos) 1 it acc env) R s)
  (h:wpAny (model prog w) A (pyIter it) (fun it' s'=>codeAny (model prog w) A (.compLoop (lc2 elt t0 i0 t1 i1 ifs scope pos) 1 it' acc env) R s') noX s) :
  codeAny (model prog w) A (.compStart (lc2 elt t0 i0 t1 i1 ifs scope pos) 1 it acc env) R s:=by
 refine codeAny_of_tree ?_
 show wpAny _ _ ((compStart (lc2 elt t0 i0 t1 i1 ifs scope pos) 1 it acc env).onRaise (fun x=>do noteFrame x env; standAt theWindowsPlace)) _ _ s
 refine wpAny_notedAt ?_
 unfold compStart
 show wpAny _ _ (ask >>= _) _ _ s
 have no:∀ (E:VS7) (e:Value) (s:Shared),noX e s -> E e s:=fun _ _ _ f=>f.elim
 refine wpAny_bind (wpAny_askSetting (wpAny_ite ?_))
 split
 ·first
   | exact wpAny_bind (wpAny_pure (wpAny_pure ⟨rfl,h0⟩))
   | exact wpAny_pure ⟨rfl,h0⟩
 ·first
   | exact wpAny_bind (wpAny_rule (wpAny_bind (wpAny_standAt (wpAny_bind (wpAny_mono h (fun jt s' q=>wpAny_pure ⟨rfl,q⟩) (no _))))))
   | (refine wpAny_bind (wpAny_rule ?_); show wpAny _ _ (standAt i1.pos >>= _) _ _ s; exact wpAny_bind (wpAny_standAt (wpAny_bind (wpAny_mono h (fun jt s' q=>wpAny_pure ⟨rfl,q⟩) (no _)))))
end
def InW (J:It) (ys0:List V) (σ0:L2.St) (H1:Hp) (g:TG) (tt:TT) (te:TE) (Out:List V -> L2.St -> Hp -> Prop):Prop :=
 ∃ W:Nat -> Nat -> List V -> L2.St -> Hp -> Prop,(∃ m,W 0 m ys0 σ0 H1) /\ ∀ i m ys σ' H',W i m ys σ' H' →
  (J.stop i H' /\ Out ys σ' H') ∨
  (J.go i H' /\ ∃ Nn:List V -> L2.St -> Hp -> Prop,(∀ zs σ2 H2,Nn zs σ2 H2 -> ∃ m',m' < m /\ W (i + 1) m' zs σ2 H2) ∧
   ∀ x H2,J.yld i H' x H2 -> g x σ' H2 fun σ2 H3=>tt σ2 H3 fun b H4=>if b = true then te σ2 H4 fun y H5=>ys.length < sizeLine /\ Nn (ys ++ [y]) σ2 H5 else Nn ys σ2 H4)
def YI (J:It) (σ0:L2.St) (H1:Hp) (g0:TG) (wi1:TI) (g1:TG) (tt:TT) (te:TE) (Q:VK):Prop :=
 ∃ W:Nat -> Nat -> List V -> L2.St -> Hp -> Prop,(∃ m,W 0 m [] σ0 H1) /\ ∀ i m ys σ' H',W i m ys σ' H' →
  (J.stop i H' /\ ∀ l,H' l = none -> Q (.ref l) (upd H' l (.lst ys))) ∨
  (J.go i H' /\ ∃ Nn:List V -> L2.St -> Hp -> Prop,(∀ zs σ2 H2,Nn zs σ2 H2 -> ∃ m',m' < m /\ W (i + 1) m' zs σ2 H2) ∧
   ∀ x H2,J.yld i H' x H2 -> g0 x σ' H2 fun σ2 H3=>wi1 σ2 H3 fun J2 H4=>InW J2 ys σ2 H4 g1 tt te Nn)
def UC (wi:TI) (sub:List (Option Nat)) (g0:TG) (wi1:TI) (g1:TG) (tt:TT) (te:TE):TE:=fun σ H Q=>wi σ H fun J H1=>YI J (capt sub σ) H1 g0 wi1 g1 tt te Q
section
variable {Y:Cx} {pins:List (Addr × Obj)} {D it2:Addr} {fp2:List Addr} {tn2:Nat -> Heap -> Prop} {J2:It} {y:Str} {py pos:Pos} {elt t0 i0 i1:Expr} {ifs:List Expr} {scope:Scope} {g1:TG} {tt:TT} {te:TE} {Out:List V -> L2.St -> Hp -> Prop} {W:Nat -> Nat -> List V -> L2.St -> Hp -> Prop} {R:Result -> Shared -> Prop}
theorem UD (hxe:Y.xe = noX) (hcalm:Y.calm = true) (T:Turn Y.prog Y.w Y.K (.Name y py) J2 fp2 it2 tn2) (hD:∀ H':Hp,H' D = none -> FpOk Y pins H' D) (f2:∀ b ∈ fp2,∀ H':Hp,H' b = none -> FpOk Y pins H' b) (hDf:D ∉ fp2)
  (hg:PG Y (.Name y py) g1) (ht:PIfs Y ifs tt) (he:PE Y elt te)
  (turn:∀ i m ys σ' H',W i m ys σ' H' -> (J2.stop i H' /\ Out ys σ' H') ∨
   (J2.go i H' /\ ∃ Nn:List V -> L2.St -> Hp -> Prop,(∀ zs σ2 H2,Nn zs σ2 H2 -> ∃ m',m' < m /\ W (i + 1) m' zs σ2 H2) ∧
    ∀ x H2,J2.yld i H' x H2 -> g1 x σ' H2 fun σ2 H3=>tt σ2 H3 fun b H4=>if b = true then te σ2 H4 fun y H5=>ys.length < sizeLine /\ Nn (ys ++ [y]) σ2 H5 else Nn ys σ2 H4))
  (hR:∀ (ys:List V) (us:List Value) (k:Nat) (σ':L2.St) (H':Hp) (s':Shared),Inv Y pins σ' H' s' -> H' D = none -> s'.heap.get? D = some { cls:=.type "list",data:=.seq us.toArray k } -> Vals ys us -> ys.length <= sizeLine -> Out ys σ' H' -> R (.ok .next) s')
  (n:Nat) (s:Shared) (h:∃ i ys us k σ' H',Inv Y pins σ' H' s /\ tn2 i s.heap /\ (∀ b ∈ fp2,H' b = none) /\ H' D = none ∧
   s.heap.get? D = some { cls:=.type "list",data:=.seq (us:List Value).toArray k } /\ Vals ys us /\ ys.length <= sizeLine /\ W i n ys σ' H') :
  codeAny (model Y.prog Y.w) Y.A (.compLoop (lc2 elt t0 i0 (.Name y py) i1 ifs scope pos) 1 (.ref it2) (.ref D) Y.env) R s:=by
 refine Vq (fun n s=>∃ i ys us k σ' H',Inv Y pins σ' H' s /\ tn2 i s.heap /\ (∀ b ∈ fp2,H' b = none) /\ H' D = none ∧
   s.heap.get? D = some { cls:=.type "list",data:=.seq (us:List Value).toArray k } /\ Vals ys us /\ ys.length <= sizeLine /\ W i n ys σ' H') ?_ n h
 rintro n s ⟨i,ys,us,k,σ',H',I',st',fr,hn,hy,rv,hz,w'⟩
 obtain ⟨_,dL,dF,dE,dC,dP⟩:=hD H' hn
 have pD:Inv Y (pins ++ [(D,{ cls:=.type "list",data:=.seq us.toArray k })]) σ' H' s:=I'.pins_of fun p hp=>by
  rcases List.mem_append.mp hp with hp | hp
  ·exact I'.pin p (List.mem_append_right _ hp)
  ·rw [List.mem_singleton.mp hp]
   exact ⟨hy,hn,dL,dF,fun v z=>by cases z⟩
 have fpok:∀ {H'':Hp},(∀ b ∈ fp2,H'' b = none) -> ∀ b ∈ fp2,FpOk Y (pins ++ [(D,{ cls:=.type "list",data:=.seq us.toArray k })]) H'' b:=fun hz b hb=>by
  obtain ⟨q0,q1,q2,q3,q4,q5⟩:=f2 b hb _ (hz b hb)
  refine ⟨q0,q1,q2,q3,q4,fun p hp=>?_⟩
  rcases List.mem_append.mp hp with hp | hp
  ·exact q5 p (List.mem_append_left _ hp)
  ·rcases List.mem_append.mp hp with hp | hp
   ·exact q5 p (List.mem_append_right _ hp)
   ·rw [List.mem_singleton.mp hp]; exact fun z=>hDf (by rw [show D = b from z]; exact hb)
 rcases turn i n ys σ' H' w' with ⟨stop,q⟩ | ⟨go,Nn,hN,step⟩
 ·refine thn (T.done Y rfl rfl rfl hcalm i _ s σ' H' noX pD (fpok fr) st' stop) fun r s1 ⟨hr,I1⟩=>?_
  subst hr
  exact hR ys us k σ' H' s1 I1.unpinned hn (I1.pin (D,{ cls:=.type "list",data:=.seq us.toArray k }) (by simp)).1 rv hz q
 ·refine thn (T.item Y rfl rfl rfl hcalm i _ s σ' H' noX pD (fpok fr) st' go) fun r s1 ⟨u,hr,h4⟩=>?_
  subst hr
  refine thn h4 fun _ s2 ⟨x5,H5,I5,r5,y5,st5,fr5⟩=>?_
  have I5':=I5.pinned (fpok fr5) (T.obj _ _ st5)
  have hg5:=hg _ s2 σ' H5 x5 u _ I5' r5 (step x5 H5 y5)
  rw [hxe] at hg5
  refine thn hg5 fun _ s3 ⟨σ6,H6,I6,q6⟩=>?_
  have ht6:=ht _ s3 σ6 H6 _ I6 q6
  rw [hxe] at ht6
  refine thn ht6 fun ok s4 ⟨H7,I7,q7⟩=>?_
  have stay:∀ {σ7:L2.St} {H7:Hp} {s7:Shared},Inv Y (pins ++ [(D,{ cls:=.type "list",data:=.seq us.toArray k })] ++ wz fp2 s2.heap) σ7 H7 s7 →
    (∀ b ∈ fp2,∀ o,s2.heap.get? b = some o -> s7.heap.get? b = some o) /\ (∀ b ∈ fp2,H7 b = none) /\ H7 D = none /\ s7.heap.get? D = some { cls:=.type "list",data:=.seq us.toArray k }:=fun {σ7 H7 s7} I7=>by
   have d:=I7.pin (D,{ cls:=.type "list",data:=.seq us.toArray k }) (by simp)
   refine ⟨fun b hb o e=>(I7.pin (b,o) (List.mem_append_right _ (List.mem_append_right _ (yf hb e)))).1,fun b hb=>?_,d.2.1,d.1⟩
   obtain ⟨o,e,_⟩:=T.obj _ _ st5 b hb
   exact (I7.pin (b,o) (List.mem_append_right _ (List.mem_append_right _ (yf hb e)))).2.1
  cases ok with
  | false =>
   rw [if_neg (by decide)] at q7 ⊢
   obtain ⟨k1,k2,k3,k4⟩:=stay I7
   obtain ⟨m',hm,w7⟩:=hN ys σ6 H7 q7
   exact ⟨m',hm,i + 1,ys,us,k,σ6,H7,I7.unpinned.unpinned,T.keep _ _ _ st5 k1,k2,k3,k4,rv,hz,w7⟩
  | true =>
   rw [if_pos rfl] at q7 ⊢
   have he7:=he _ s4 σ6 H7 _ I7 q7
   rw [hxe] at he7
   refine thn he7 fun v s5 ⟨z8,H8,I8,r8,hl8,n8⟩=>?_
   obtain ⟨k1,k2,k3,k4⟩:=stay I8
   refine wpAny_list_append_plain (l:=D) ⟨k,k4⟩ (fun h' pl sb=>?_) (by rw [List.size_toArray,← rv.length]; exact hz)
   obtain ⟨k',e'⟩:=pl
   obtain ⟨m',hm,w8⟩:=hN _ σ6 H8 n8
   refine ⟨m',hm,i + 1,ys ++ [z8],us ++ [v],k',σ6,H8,?_,T.keep _ _ _ (T.keep _ _ _ st5 k1) fun b hb o e=>sb.extBut b o (fun z=>hDf (by rw [← z]; exact hb)) e,k2,k3,?_,rv.append (.cons r8 .nil),?_,w8⟩
   ·exact (I8.unpinned.unpinned).turned (it:=D) (t':=s5.toks) (h':=h') (fun b o hb e=>sb.extBut b o hb e) k3 dL dE dC dP
   ·rw [e']; simp
   ·rw [List.length_append]; exact hl8
end
section
variable {X:Cx} {pins:List (Addr × Obj)} {σ:L2.St} {H2:Hp} {s₂:Shared} {it:Addr} {fp:List Addr} {tn:Nat -> Heap -> Prop} {J:It} {scope:Scope} {cl:List (Str × Addr)} {N':List Str} {sub:List (Option Nat)}
theorem run2 {C D:Addr} {s₀:Shared} {x y:Str} {px py pos:Pos} {elt i0 i1:Expr} {ifs:List Expr} {g0 g1:TG} {wi1:TI} {tt:TT} {te:TE} {Q:VK} {RR:Value -> Addr -> Result -> Shared -> Prop} {W:Nat -> Nat -> List V -> L2.St -> Hp -> Prop}
  (I:Inv X pins σ H2 s₂) (hcalm:X.calm = true) (T:Turn X.prog X.w X.K (.Name x px) J fp it tn) (f2:∀ b ∈ fp,FpOk X pins H2 b) (hfp:∀ b ∈ fp,b < s₂.heap.objs.size)
  (hs₀:∀ b o,s₂.heap.get? b = some o -> s₀.heap.get? b = some o) (hos:s₀.os = s₂.os) (hD:s₂.heap.objs.size <= D) (hC:s₂.heap.objs.size <= C) (hDC:D ≠ C)
  (hcl1:∀ x c,cl.lookup x = some c -> X.env.cells.lookup x = some c)
  (hg0:PG (cxC X N' scope cl C D fp s₀ H2) (.Name x px) g0) (hi1:PI (cxC X N' scope cl C D fp s₀ H2) (.Name y py) i1 wi1) (hg1:PG (cxC X N' scope cl C D fp s₀ H2) (.Name y py) g1) (ht:PIfs (cxC X N' scope cl C D fp s₀ H2) ifs tt) (he:PE (cxC X N' scope cl C D fp s₀ H2) elt te)
  (hss:∀ v,foldedSetIterable i1 (compEnvC scope cl C X.env) v = pure v)
  (turn:∀ i m ys σ' H',W i m ys σ' H' →
   (J.stop i H' /\ ∀ l,H' l = none -> Q (.ref l) (upd H' l (.lst ys))) ∨
   (J.go i H' /\ ∃ Nn:List V -> L2.St -> Hp -> Prop,(∀ zs σ2 H2,Nn zs σ2 H2 -> ∃ m',m' < m /\ W (i + 1) m' zs σ2 H2) ∧
    ∀ x H2,J.yld i H' x H2 -> g0 x σ' H2 fun σ2 H3=>wi1 σ2 H3 fun J2 H4=>InW J2 ys σ2 H4 g1 tt te Nn))
  (hRR:∀ (D C:Addr) (oC:Obj) (m:Str -> Option Value) (s':Shared) (Hf:Hp),Inv X (pins ++ [(C,oC)]) σ Hf s' -> s'.heap.Ns C m -> FpOk X pins Hf C -> Q (.ref D) Hf -> RR (.ref D) C (.ok .next) s')
  (n:Nat) (s:Shared) (h:∃ i ys us k σ' H',Inv (cxC X N' scope cl C D fp s₀ H2) pins σ' H' s /\ tn i s.heap /\ (∀ b ∈ fp,H' b = none) /\ H' D = none ∧
   s.heap.get? D = some { cls:=.type "list",data:=.seq (us:List Value).toArray k } /\ Vals ys us /\ ys.length <= sizeLine /\ W i n ys σ' H') :
  codeAny (model X.prog X.w) X.A (.compLoop (lc2 elt (.Name x px) i0 (.Name y py) i1 ifs scope pos) 0 (.ref it) (.ref D) (compEnvC scope cl C X.env)) (RR (.ref D) C) s:=by
 have frsz:∀ b ∈ frs X.stack,b < s₂.heap.objs.size:=fun b hb=>by
  rcases List.mem_cons.mp (I.stkSub b hb) with z | z
  ·rw [z]; exact I.lt
  ·exact Nat.lt_of_not_le fun q=>I.nofs q z
 have cells:∀ x c,cl.lookup x = some c -> c < s₂.heap.objs.size:=fun x c e=>let ⟨v,q⟩:=I.cell x c (hcl1 x c e); q.lt
 have pinsz:∀ p ∈ X.pn ++ pins,p.1 < s₂.heap.objs.size:=fun p hp=>Heap.lt_size (I.pin p hp).1
 refine Vr (fun n s=>∃ i ys us k σ' H',Inv (cxC X N' scope cl C D fp s₀ H2) pins σ' H' s /\ tn i s.heap /\ (∀ b ∈ fp,H' b = none) /\ H' D = none ∧
   s.heap.get? D = some { cls:=.type "list",data:=.seq (us:List Value).toArray k } /\ Vals ys us /\ ys.length <= sizeLine /\ W i n ys σ' H') hss ?_ n h
 rintro n s ⟨i,ys,us,k,σ',H',I',st',fr,hn,hy,rv,hz,w'⟩
 have pD:Inv (cxC X N' scope cl C D fp s₀ H2) (pins ++ [(D,{ cls:=.type "list",data:=.seq us.toArray k })]) σ' H' s:=I'.pins_of fun p hp=>by
  rcases List.mem_append.mp hp with hp | hp
  ·exact I'.pin p (List.mem_append_right _ hp)
  ·rw [List.mem_singleton.mp hp]
   exact ⟨hy,hn,hDC,fun z=>absurd (Nat.lt_of_lt_of_le (frsz _ z) hD) (Nat.lt_irrefl _),fun v z=>by cases z⟩
 have fpok:∀ {H'':Hp},(∀ b ∈ fp,H'' b = none) -> ∀ b ∈ fp,FpOk (cxC X N' scope cl C D fp s₀ H2) (pins ++ [(D,{ cls:=.type "list",data:=.seq us.toArray k })]) H'' b:=fun hz b hb=>by
  refine ⟨hz b hb,Nat.ne_of_lt (Nat.lt_of_lt_of_le (hfp b hb) hC),fun z=>?_,.inl (List.mem_cons_of_mem _ hb),fun x c e=>(f2 b hb).2.2.2.2.1 x c (hcl1 x c e),fun p hp=>?_⟩
  ·rcases List.mem_cons.mp (I.stkSub b z) with z | z
   ·exact (f2 b hb).2.1 z
   ·exact (f2 b hb).2.2.1 z
  ·rcases List.mem_append.mp hp with hp | hp
   ·exact (f2 b hb).2.2.2.2.2 p (List.mem_append_left _ hp)
   ·rcases List.mem_append.mp hp with hp | hp
    ·exact (f2 b hb).2.2.2.2.2 p (List.mem_append_right _ hp)
    ·rw [List.mem_singleton.mp hp]
     exact Nat.ne_of_gt (Nat.lt_of_lt_of_le (hfp b hb) hD)
 rcases turn i n ys σ' H' w' with ⟨stop,q⟩ | ⟨go,Nn,hN,step⟩
 ·refine thn (T.done (cxC X N' scope cl C D fp s₀ H2) rfl rfl rfl hcalm i _ s σ' H' noX pD (fpok fr) st' stop) fun r s1 ⟨hr,I1⟩=>?_
  subst hr
  have hy1:=(I1.pin (D,{ cls:=.type "list",data:=.seq us.toArray k }) (by simp)).1
  obtain ⟨m,hm,_⟩:=I1.loc
  obtain ⟨oC,es,ep,hoC,hdC,_⟩:=id hm
  obtain ⟨IX,fpc⟩:=jK I hs₀ hos hD hC hDC f2 I1.unpinned hn hy1 rv hz hoC (by intro v z; rw [hdC] at z; cases z)
  exact hRR D C oC m s1 _ IX hm fpc (q D hn)
 ·refine thn (T.item (cxC X N' scope cl C D fp s₀ H2) rfl rfl rfl hcalm i _ s σ' H' noX pD (fpok fr) st' go) fun r s1 ⟨u,hr,h4⟩=>?_
  subst hr
  refine thn h4 fun _ s2 ⟨x5,H5,I5,r5,y5,st5,fr5⟩=>?_
  have I5':=I5.pinned (fpok fr5) (T.obj _ _ st5)
  refine thn (hg0 _ s2 σ' H5 x5 u _ I5' r5 (step x5 H5 y5)) fun _ s3 ⟨σ6,H6,I6,q6⟩=>?_
  refine thn (hi1 _ s3 σ6 H6 _ I6 q6) fun v s4 h4'=>?_
  refine thn h4' fun itv s5 ⟨it2,fp2,tn2,J2,H7,e2,I7,T2,st7,f7,W2,⟨m2,w2⟩,turn2⟩=>?_
  subst e2
  have dpin:=I7.pin (D,{ cls:=.type "list",data:=.seq us.toArray k }) (by simp)
  have I8:Inv (cxC X N' scope cl C D fp s₀ H2) (pins ++ wz fp s2.heap) σ6 H7 s5:=I7.pins_of fun p hp=>I7.pin p (by
   rcases List.mem_append.mp hp with hp | hp
   ·exact List.mem_append_right _ (List.mem_append_left _ (List.mem_append_left _ hp))
   ·exact List.mem_append_right _ (List.mem_append_right _ hp))
  have hDfp2:D ∉ fp2:=fun z=>(f7 D z).2.2.2.2.2 (D,{ cls:=.type "list",data:=.seq us.toArray k }) (by simp) rfl
  have hDok:∀ H':Hp,H' D = none -> FpOk (cxC X N' scope cl C D fp s₀ H2) (pins ++ wz fp s2.heap) H' D:=fun H' hn'=>by
   refine ⟨hn',hDC,fun z=>absurd (Nat.lt_of_lt_of_le (frsz _ z) hD) (Nat.lt_irrefl _),.inl (by simp),fun x c e=>Nat.ne_of_lt (Nat.lt_of_lt_of_le (cells x c e) hD),fun p hp=>?_⟩
   rcases List.mem_append.mp hp with hp | hp
   ·exact Nat.ne_of_lt (Nat.lt_of_lt_of_le (pinsz p (List.mem_append_left _ hp)) hD)
   ·rcases List.mem_append.mp hp with hp | hp
    ·exact Nat.ne_of_lt (Nat.lt_of_lt_of_le (pinsz p (List.mem_append_right _ hp)) hD)
    ·obtain ⟨b,hb,e⟩:=List.mem_filterMap.mp hp
     have:p.1 = b:=by
      cases q:s2.heap.get? b with
      | none=>rw [q] at e; cases e
      | some o=>rw [q] at e; cases e; rfl
     rw [this]; exact Nat.ne_of_lt (Nat.lt_of_lt_of_le (hfp b hb) hD)
  have f8:∀ b ∈ fp2,∀ H':Hp,H' b = none -> FpOk (cxC X N' scope cl C D fp s₀ H2) (pins ++ wz fp s2.heap) H' b:=fun b hb H' hn'=>by
   obtain ⟨_,q1,q2,q3,q4,q5⟩:=f7 b hb
   refine ⟨hn',q1,q2,q3,q4,fun p hp=>q5 p ?_⟩
   rcases List.mem_append.mp hp with hp | hp
   ·exact List.mem_append_left _ hp
   ·rcases List.mem_append.mp hp with hp | hp
    ·exact List.mem_append_right _ (List.mem_append_left _ (List.mem_append_left _ hp))
    ·exact List.mem_append_right _ (List.mem_append_right _ hp)
  have loop:codeAny (model X.prog X.w) X.A (.compLoop (lc2 elt (.Name x px) i0 (.Name y py) i1 ifs scope pos) 1 (.ref it2) (.ref D) (compEnvC scope cl C X.env)) (fun r s'=>match r with
    | .ok _=>∃ m,m < n /\ ∃ i ys us k σ' H',Inv (cxC X N' scope cl C D fp s₀ H2) pins σ' H' s' /\ tn i s'.heap /\ (∀ b ∈ fp,H' b = none) /\ H' D = none ∧
      s'.heap.get? D = some { cls:=.type "list",data:=.seq (us:List Value).toArray k } /\ Vals ys us /\ ys.length <= sizeLine /\ W i m ys σ' H'
    | .error _=>False) s5:=by
   refine UD (Y:=cxC X N' scope cl C D fp s₀ H2) rfl hcalm T2 hDok f8 hDfp2 hg1 ht he turn2 ?_ m2 s5 ⟨0,ys,us,k,σ6,H7,I8,st7,fun b hb=>(f7 b hb).1,dpin.2.1,dpin.1,rv,hz,w2⟩
   intro ys9 us9 k9 σ9 H9 s9 I9 hn9 hy9 rv9 hz9 o9
   obtain ⟨m',hm,w9⟩:=hN ys9 σ9 H9 o9
   refine ⟨m',hm,i + 1,ys9,us9,k9,σ9,H9,I9.unpinned,T.keep _ _ _ st5 fun b hb o e=>(I9.pin (b,o) (List.mem_append_right _ (List.mem_append_right _ (yf hb e)))).1,fun b hb=>?_,hn9,hy9,rv9,hz9,w9⟩
   obtain ⟨o,e,_⟩:=T.obj _ _ st5 b hb
   exact (I9.pin (b,o) (List.mem_append_right _ (List.mem_append_right _ (yf hb e)))).2.1
  exact X6 loop (T2.self _ _ _ _ _ st7 loop)
end
section
variable {X:Cx} {pins:List (Addr × Obj)} {σ:L2.St} {H2:Hp} {s₂:Shared} {it:Addr} {fp:List Addr} {tn:Nat -> Heap -> Prop} {J:It} {scope:Scope} {cl:List (Str × Addr)} {N':List Str} {sub:List (Option Nat)}
theorem qZ {x y:Str} {px py pos:Pos} {elt i0 i1:Expr} {ifs:List Expr} {g0 g1:TG} {wi1:TI} {tt:TT} {te:TE} {E:VS7} {Q:VK} {RR:Value -> Addr -> Result -> Shared -> Prop}
  (I:Inv X pins σ H2 s₂) (hcalm:X.calm = true) (T:Turn X.prog X.w X.K (.Name x px) J fp it tn) (st:tn 0 s₂.heap) (f2:∀ b ∈ fp,FpOk X pins H2 b)
  (S:CSc X scope N' sub) (hcl1:∀ x c,cl.lookup x = some c -> X.env.cells.lookup x = some c) (hcl2:∀ y ∈ scope.names,y.2 = .free -> ∃ c,cl.lookup y.1 = some c)
  (hg0:∀ C D fp s H,PG (cxC X N' scope cl C D fp s H) (.Name x px) g0) (hi1:∀ C D fp s H,PI (cxC X N' scope cl C D fp s H) (.Name y py) i1 wi1) (hg1:∀ C D fp s H,PG (cxC X N' scope cl C D fp s H) (.Name y py) g1) (ht:∀ C D fp s H,PIfs (cxC X N' scope cl C D fp s H) ifs tt) (he:∀ C D fp s H,PE (cxC X N' scope cl C D fp s H) elt te)
  (hss:∀ C v,foldedSetIterable i1 (compEnvC scope cl C X.env) v = pure v)
  (hW:YI J (capt sub σ) H2 g0 wi1 g1 tt te Q)
  (hRR:∀ (D C:Addr) (oC:Obj) (m:Str -> Option Value) (s':Shared) (Hf:Hp),Inv X (pins ++ [(C,oC)]) σ Hf s' -> s'.heap.Ns C m -> FpOk X pins Hf C -> Q (.ref D) Hf -> RR (.ref D) C (.ok .next) s') :
  wpAny (model X.prog X.w) X.A (newList []) (fun acc s₃=>wpAny (model X.prog X.w) X.A (newFunctionEnv scope X.env.globals cl [] X.env.qual none .none (some X.env)) (fun cenv s₄ =>
   codeAny (model X.prog X.w) X.A (.compStart (lc2 elt (.Name x px) i0 (.Name y py) i1 ifs scope pos) 0 (.ref it) acc { cenv with scope:=relabel scope X.env }) (RR acc cenv.locals) s₄) E s₃) E s₂:=by
 obtain ⟨W,⟨m0,w0⟩,turn⟩:=hW
 refine wpAny_newObj_type (wpAny_newFunctionEnv S.nocell (by intro y hy; simp at hy) (fun h₁ hns₁ hsb₁=>?_) S.kind)
 dsimp only at hns₁ hsb₁ ⊢
 have hC:(s₂.heap.push { cls:=.type "list",dict:=none,data:=.seq ([]:List Value).toArray }).objs.size = s₂.heap.objs.size + 1:=Heap.size_push ..
 rw [hC] at hns₁ hsb₁ ⊢
 have hk:∀ b o,(s₂.heap.push { cls:=.type "list",dict:=none,data:=.seq ([]:List Value).toArray }).get? b = some o -> h₁.get? b = some o:=fun b o e =>
  hsb₁.extBut b o (by have:=Heap.lt_size e; rw [hC] at this; exact Nat.ne_of_lt this) (Heap.get?_push_of_some _ e)
 have hfp:∀ b ∈ fp,b < s₂.heap.objs.size:=fun b hb=>by
  obtain ⟨o,e,_⟩:=T.obj _ _ st b hb
  exact Heap.lt_size e
 have I0:=vi (tk:=s₂.toks + ([]:List (Str × Value)).length) I S hcl1 hcl2 f2 hfp hns₁ hk
 have hD0:h₁.get? s₂.heap.objs.size = some { cls:=.type "list",data:=.seq ([]:List Value).toArray 0 }:=hk _ _ (Heap.get?_push_size _ rfl)
 have loop:codeAny (model X.prog X.w) X.A (.compLoop (lc2 elt (.Name x px) i0 (.Name y py) i1 ifs scope pos) 0 (.ref it) (.ref s₂.heap.objs.size) (compEnvC scope cl (s₂.heap.objs.size + 1) X.env)) (RR (.ref s₂.heap.objs.size) (s₂.heap.objs.size + 1)) { s₂ with heap:=h₁,toks:=s₂.toks + ([]:List (Str × Value)).length } :=
  run2 (s₀:={ s₂ with heap:=s₂.heap.push { cls:=.type "list",dict:=none,data:=.seq ([]:List Value).toArray } }) (C:=s₂.heap.objs.size + 1) (D:=s₂.heap.objs.size) I hcalm T f2 hfp (fun b o e=>Heap.get?_push_of_some _ e) rfl (Nat.le_refl _) (Nat.le_succ _) (Nat.ne_of_lt (Nat.lt_succ_self _)) hcl1 (hg0 _ _ _ _ _) (hi1 _ _ _ _ _) (hg1 _ _ _ _ _) (ht _ _ _ _ _) (he _ _ _ _ _) (hss _) turn hRR m0 _
   ⟨0,[],[],0,capt sub σ,H2,I0,T.keep _ _ _ st fun b hb o e=>hk b o (Heap.get?_push_of_some _ e),fun b hb=>(f2 b hb).1,I.hok.fresh (Nat.le_refl _),hD0,.nil,Nat.zero_le _,w0⟩
 exact codeAny_compStart_list loop (T.self _ _ _ _ _ (T.keep _ _ _ st fun b hb o e=>hk b o (Heap.get?_push_of_some _ e)) loop)
end
section
variable {X:Cx} {scope:Scope} {N':List Str} {sub:List (Option Nat)} {x y:Str} {px py pos:Pos} {elt i0 i1:Expr} {ifs:List Expr} {wi wi1:TI} {g0 g1:TG} {tt:TT} {te:TE}
theorem X7 {i:Nat} {z:Str} {pz spos:Pos} (hN:X.N.Nodup) (hiN:X.N[i]? = some z) (hy:X.env.scope.names.lookup z = some .local) (S:CSc X scope N' sub) (hcalm:X.calm = true) (hi:PI X (.Name x px) i0 wi)
  (hg0:∀ cl C D fp s H,PG (cxC X N' scope cl C D fp s H) (.Name x px) g0) (hi1:∀ cl C D fp s H,PI (cxC X N' scope cl C D fp s H) (.Name y py) i1 wi1) (hg1:∀ cl C D fp s H,PG (cxC X N' scope cl C D fp s H) (.Name y py) g1) (ht:∀ cl C D fp s H,PIfs (cxC X N' scope cl C D fp s H) ifs tt) (he:∀ cl C D fp s H,PE (cxC X N' scope cl C D fp s H) elt te)
  (hsw:swapsWith (lc2 elt (.Name x px) i0 (.Name y py) i1 ifs scope pos) (some (.Name z pz)) spos.line X.env = pure true:=by rfl)
  (hs:∀ x,foldedSetIterable i0 X.env x = pure x:=by intro _; rfl) (hss:∀ cl C v,foldedSetIterable i1 (compEnvC scope cl C X.env) v = pure v:=by intro _ _ _; rfl):PS X (.Assign [.Name z pz] (lc2 elt (.Name x px) i0 (.Name y py) i1 ifs scope pos) spos) (tAsg (UC wi sub g0 wi1 g1 tt te) (vN i)):=by
 intro pins s σ H D I h
 obtain ⟨cl,hclos,hcl1,hcl2⟩:=S.clos I
 rw [exec_Assign_Name_used _ _ _ _ hsw]
 refine wpAny_bind (wpAny_standAt (wpAny_bind ?_))
 show wpAny _ X.A (do let _ ← comprehension (lc2 elt (.Name x px) i0 (.Name y py) i1 ifs scope pos) scope X.env _ (newList []) false (eval i0 X.env) (some (assign (.Name z pz) X.env))) _ _ s
 refine wpAny_bind (wpAny_mono (wpAny_comprehension_free (use:=some (assign (.Name z pz) X.env)) (Q:=fun _ s'=>SP X pins D .next s') rfl hs hclos S.kind S.names
  (thn (hi pins s σ H _ I h) fun v s1 h1=>thn h1 fun itv s2 h2=>?_)) (fun _ s' hq=>wpAny_pure (wpAny_pure hq)) fun _ _ e=>e)
 obtain ⟨it,fp,tn,J,H2,e,I2,T,st2,f2,hW⟩:=h2
 subst e
 refine qZ (Q:=fun x H1=>vN i x σ H1 D.nx) (RR:=fun acc C=>compPost (model X.prog X.w) X.A X.xe (some (assign (.Name z pz) X.env)) (fun _ s'=>SP X pins D .next s') acc C) I2 hcalm T st2 f2 S hcl1 hcl2 (hg0 cl) (hi1 cl) (hg1 cl) (ht cl) (he cl) (hss cl) hW ?_
 intro L C oC m s' Hf IX hm fpc q
 have st:=zj (X:=X) (pos:=pz) hN hiN (.inl hy) (.inr hy) _ s' σ Hf (.ref L) (.ref L) D.nx IX rfl q
 refine thn st fun _ s'' ⟨σ2,H2,I2',q2⟩=>?_
 have p:=I2'.pin (C,oC) (by simp)
 have hm':s''.heap.Ns C m:=by
  obtain ⟨o,es,ep,e1,r⟩:=hm
  have z:=(IX.pin (C,oC) (by simp)).1
  rw [e1] at z; cases z
  exact ⟨_,es,ep,p.1,r⟩
 refine ⟨m,hm',fun h' sb=>⟨σ2,H2,?_,q2⟩⟩
 exact (I2'.unpinned).turned (it:=C) (t':=s''.toks) (h':=h') (fun b o hb e=>sb.extBut b o hb e) p.2.1 fpc.2.1 fpc.2.2.2.1 fpc.2.2.2.2.1 fpc.2.2.2.2.2
end
theorem Vs {K:FG7} {a:Addr} {xs ys0:List V} {g:TG} {tt:TT} {te:TE} {Out:List V -> L2.St -> Hp -> Prop} {σ:L2.St} {H:Hp} (Pv:Nat -> List V -> L2.St -> Hp -> Prop) (h0:Pv 0 ys0 σ H) (hl:∀ i ys σ H,i <= xs.length -> Pv i ys σ H -> SqT K H a xs)
  (hs:∀ i x ys σ H,xs[i]? = some x -> Pv i ys σ H -> g x σ H fun σ2 H3=>tt σ2 H3 fun b H4=>if b = true then te σ2 H4 fun y H5=>ys.length < sizeLine /\ Pv (i + 1) (ys ++ [y]) σ2 H5 else Pv (i + 1) ys σ2 H4)
  (hd:∀ ys σ H,Pv xs.length ys σ H -> Out ys σ H) :
  InW (Itt K a) ys0 σ H g tt te Out:=by
 refine ⟨fun i m ys σ H=>m = xs.length - i /\ i <= xs.length /\ Pv i ys σ H,⟨xs.length,by simp,Nat.zero_le _,h0⟩,?_⟩
 rintro i m ys σ H ⟨rfl,hi,p⟩
 have q:=hl i ys σ H hi p
 by_cases hlt:i < xs.length
 ·refine .inr ⟨⟨xs,xs[i],q,by simp [hlt]⟩,Pv (i + 1),fun zs σ' H' p'=>⟨xs.length - (i + 1),by omega,rfl,hlt,p'⟩,fun x H' y=>?_⟩
  obtain ⟨e,y⟩:=y
  subst e
  exact hs i x ys σ _ (y xs q) p
 ·have e:i = xs.length:=by omega
  subst e
  exact .inl ⟨⟨xs,q,Nat.le_refl _⟩,hd ys σ H p⟩
theorem Vt {X:Cx} {K:FG7} {tg l:Expr} {tl:TE} (h:X.K = K) (hl:PE X l tl):PI X tg l (iTup K tl):=by subst h; exact yM hl
section
variable {X:Cx} {pins:List (Addr × Obj)} {σ:L2.St} {H2:Hp} {s₂:Shared} {it:Addr} {fp:List Addr} {tn:Nat -> Heap -> Prop} {J:It} {scope:Scope} {cl:List (Str × Addr)} {N':List Str} {sub:List (Option Nat)}
theorem YJ {C D:Addr} {s₀:Shared} {tg:Expr} {pos:Pos} {elt iter:Expr} {ifs:List Expr} {g:TG} {tt:TT} {te:TE} {Q:VK} {RR:Value -> Addr -> Result -> Shared -> Prop} {W:Nat -> Nat -> List V -> L2.St -> Hp -> Prop}
  (I:Inv X pins σ H2 s₂) (hcalm:X.calm = true) (T:Turn X.prog X.w X.K tg J fp it tn) (f2:∀ b ∈ fp,FpOk X pins H2 b) (hfp:∀ b ∈ fp,b < s₂.heap.objs.size)
  (hs₀:∀ b o,s₂.heap.get? b = some o -> s₀.heap.get? b = some o) (hos:s₀.os = s₂.os) (hD:s₂.heap.objs.size <= D) (hC:s₂.heap.objs.size <= C) (hDC:D ≠ C)
  (hcl1:∀ x c,cl.lookup x = some c -> X.env.cells.lookup x = some c)
  (hg:PG (cxC X N' scope cl C D fp s₀ H2) tg g) (ht:PIfs (cxC X N' scope cl C D fp s₀ H2) ifs tt) (he:PE (cxC X N' scope cl C D fp s₀ H2) elt te)
  (turn:∀ i m ys σ' H',W i m ys σ' H' →
   (J.stop i H' /\ ∀ l,H' l = none -> Q (.ref l) (upd H' l (.lst ys))) ∨
   (J.go i H' /\ ∃ Nn:List V -> L2.St -> Hp -> Prop,(∀ zs σ2 H2,Nn zs σ2 H2 -> ∃ m',m' < m /\ W (i + 1) m' zs σ2 H2) ∧
    ∀ x H2,J.yld i H' x H2 -> g x σ' H2 fun σ2 H3=>tt σ2 H3 fun b H4=>if b = true then te σ2 H4 fun y H5=>ys.length < sizeLine /\ Nn (ys ++ [y]) σ2 H5 else Nn ys σ2 H4))
  (hRR:∀ (D C:Addr) (oC:Obj) (m:Str -> Option Value) (s':Shared) (Hf:Hp),Inv X (pins ++ [(C,oC)]) σ Hf s' -> s'.heap.Ns C m -> FpOk X pins Hf C -> Q (.ref D) Hf -> RR (.ref D) C (.ok .next) s')
  (n:Nat) (s:Shared) (h:∃ i ys us k σ' H',Inv (cxC X N' scope cl C D fp s₀ H2) pins σ' H' s /\ tn i s.heap /\ (∀ b ∈ fp,H' b = none) /\ H' D = none ∧
   s.heap.get? D = some { cls:=.type "list",data:=.seq (us:List Value).toArray k } /\ Vals ys us /\ ys.length <= sizeLine /\ W i n ys σ' H') :
  codeAny (model X.prog X.w) X.A (.compLoop (.ListComp elt [⟨tg,iter,ifs,0⟩] scope pos) 0 (.ref it) (.ref D) (compEnvC scope cl C X.env)) (RR (.ref D) C) s:=by
 have frsz:∀ b ∈ frs X.stack,b < s₂.heap.objs.size:=fun b hb=>by
  rcases List.mem_cons.mp (I.stkSub b hb) with z | z
  ·rw [z]; exact I.lt
  ·exact Nat.lt_of_not_le fun q=>I.nofs q z
 have cells:∀ x c,cl.lookup x = some c -> c < s₂.heap.objs.size:=fun x c e=>let ⟨v,q⟩:=I.cell x c (hcl1 x c e); q.lt
 have pinsz:∀ p ∈ X.pn ++ pins,p.1 < s₂.heap.objs.size:=fun p hp=>Heap.lt_size (I.pin p hp).1
 refine Yn (fun n s=>∃ i ys us k σ' H',Inv (cxC X N' scope cl C D fp s₀ H2) pins σ' H' s /\ tn i s.heap /\ (∀ b ∈ fp,H' b = none) /\ H' D = none ∧
   s.heap.get? D = some { cls:=.type "list",data:=.seq (us:List Value).toArray k } /\ Vals ys us /\ ys.length <= sizeLine /\ W i n ys σ' H') ?_ n h
 rintro n s ⟨i,ys,us,k,σ',H',I',st',fr,hn,hy,rv,hz,w'⟩
 have pD:Inv (cxC X N' scope cl C D fp s₀ H2) (pins ++ [(D,{ cls:=.type "list",data:=.seq us.toArray k })]) σ' H' s:=I'.pins_of fun p hp=>by
  rcases List.mem_append.mp hp with hp | hp
  ·exact I'.pin p (List.mem_append_right _ hp)
  ·rw [List.mem_singleton.mp hp]
   exact ⟨hy,hn,hDC,fun z=>absurd (Nat.lt_of_lt_of_le (frsz _ z) hD) (Nat.lt_irrefl _),fun v z=>by cases z⟩
 have fpok:∀ {H'':Hp},(∀ b ∈ fp,H'' b = none) -> ∀ b ∈ fp,FpOk (cxC X N' scope cl C D fp s₀ H2) (pins ++ [(D,{ cls:=.type "list",data:=.seq us.toArray k })]) H'' b:=fun hz b hb=>by
  refine ⟨hz b hb,Nat.ne_of_lt (Nat.lt_of_lt_of_le (hfp b hb) hC),fun z=>?_,.inl (List.mem_cons_of_mem _ hb),fun x c e=>(f2 b hb).2.2.2.2.1 x c (hcl1 x c e),fun p hp=>?_⟩
  ·rcases List.mem_cons.mp (I.stkSub b z) with z | z
   ·exact (f2 b hb).2.1 z
   ·exact (f2 b hb).2.2.1 z
  ·rcases List.mem_append.mp hp with hp | hp
   ·exact (f2 b hb).2.2.2.2.2 p (List.mem_append_left _ hp)
   ·rcases List.mem_append.mp hp with hp | hp
    ·exact (f2 b hb).2.2.2.2.2 p (List.mem_append_right _ hp)
    ·rw [List.mem_singleton.mp hp]
     exact Nat.ne_of_gt (Nat.lt_of_lt_of_le (hfp b hb) hD)
 rcases turn i n ys σ' H' w' with ⟨stop,q⟩ | ⟨go,Nn,hN,step⟩
 ·refine thn (T.done (cxC X N' scope cl C D fp s₀ H2) rfl rfl rfl hcalm i _ s σ' H' (fun _ _=>False) pD (fpok fr) st' stop) fun r s1 ⟨hr,I1⟩=>?_
  subst hr
  have hy1:=(I1.pin (D,{ cls:=.type "list",data:=.seq us.toArray k }) (by simp)).1
  obtain ⟨m,hm,_⟩:=I1.loc
  obtain ⟨oC,es,ep,hoC,hdC,_⟩:=id hm
  obtain ⟨IX,fpc⟩:=jK I hs₀ hos hD hC hDC f2 I1.unpinned hn hy1 rv hz hoC (by intro v z; rw [hdC] at z; cases z)
  exact hRR D C oC m s1 _ IX hm fpc (q D hn)
 ·refine thn (T.item (cxC X N' scope cl C D fp s₀ H2) rfl rfl rfl hcalm i _ s σ' H' (fun _ _=>False) pD (fpok fr) st' go) fun r s1 ⟨u,hr,h4⟩=>?_
  subst hr
  refine thn h4 fun _ s2 ⟨x5,H5,I5,r5,y5,st5,fr5⟩=>?_
  have I5':=I5.pinned (fpok fr5) (T.obj _ _ st5)
  refine thn (hg _ s2 σ' H5 x5 u _ I5' r5 (step x5 H5 y5)) fun _ s3 ⟨σ6,H6,I6,q6⟩=>?_
  refine thn (ht _ s3 σ6 H6 _ I6 q6) fun ok s4 ⟨H7,I7,q7⟩=>?_
  have stay:∀ {σ7:L2.St} {H7:Hp} {s7:Shared},Inv (cxC X N' scope cl C D fp s₀ H2) (pins ++ [(D,{ cls:=.type "list",data:=.seq us.toArray k })] ++ wz fp s2.heap) σ7 H7 s7 →
    (∀ b ∈ fp,∀ o,s2.heap.get? b = some o -> s7.heap.get? b = some o) /\ (∀ b ∈ fp,H7 b = none) /\ H7 D = none /\ s7.heap.get? D = some { cls:=.type "list",data:=.seq us.toArray k }:=fun {σ7 H7 s7} I7=>by
   have d:=I7.pin (D,{ cls:=.type "list",data:=.seq us.toArray k }) (by simp)
   refine ⟨fun b hb o e=>(I7.pin (b,o) (List.mem_append_right _ (List.mem_append_right _ (yf hb e)))).1,fun b hb=>?_,d.2.1,d.1⟩
   obtain ⟨o,e,_⟩:=T.obj _ _ st5 b hb
   exact (I7.pin (b,o) (List.mem_append_right _ (List.mem_append_right _ (yf hb e)))).2.1
  cases ok with
  | false =>
   rw [if_neg (by decide)] at q7 ⊢
   obtain ⟨k1,k2,k3,k4⟩:=stay I7
   obtain ⟨m',hm,w7⟩:=hN ys σ6 H7 q7
   exact ⟨m',hm,i + 1,ys,us,k,σ6,H7,I7.unpinned.unpinned,T.keep _ _ _ st5 k1,k2,k3,k4,rv,hz,w7⟩
  | true =>
   rw [if_pos rfl] at q7 ⊢
   refine thn (he _ s4 σ6 H7 _ I7 q7) fun v s5 ⟨y,H8,I8,r8,hl8,n8⟩=>?_
   obtain ⟨k1,k2,k3,k4⟩:=stay I8
   refine wpAny_list_append_plain (l:=D) ⟨k,k4⟩ (fun h' pl sb=>?_) (by rw [List.size_toArray,← rv.length]; exact hz)
   obtain ⟨k',e'⟩:=pl
   obtain ⟨m',hm,w8⟩:=hN _ σ6 H8 n8
   refine ⟨m',hm,i + 1,ys ++ [y],us ++ [v],k',σ6,H8,?_,T.keep _ _ _ (T.keep _ _ _ st5 k1) fun b hb o e=>sb.extBut b o (Nat.ne_of_lt (Nat.lt_of_lt_of_le (hfp b hb) hD)) e,k2,k3,?_,rv.append (.cons r8 .nil),?_,w8⟩
   ·exact (I8.unpinned.unpinned).turned (it:=D) (t':=s5.toks) (h':=h') (fun b o hb e=>sb.extBut b o hb e) k3 hDC (.inl (by simp)) (fun x c e=>Nat.ne_of_lt (Nat.lt_of_lt_of_le (cells x c e) hD)) (fun p hp=>Nat.ne_of_lt (Nat.lt_of_lt_of_le (pinsz p hp) hD))
   ·rw [e']; simp
   ·rw [List.length_append]; exact hl8
theorem ux {tg:Expr} {pos:Pos} {elt iter:Expr} {ifs:List Expr} {g:TG} {tt:TT} {te:TE} {E:VS7} {Q:VK} {RR:Value -> Addr -> Result -> Shared -> Prop}
  (I:Inv X pins σ H2 s₂) (hcalm:X.calm = true) (T:Turn X.prog X.w X.K tg J fp it tn) (st:tn 0 s₂.heap) (f2:∀ b ∈ fp,FpOk X pins H2 b)
  (S:CSc X scope N' sub) (hcl1:∀ x c,cl.lookup x = some c -> X.env.cells.lookup x = some c) (hcl2:∀ y ∈ scope.names,y.2 = .free -> ∃ c,cl.lookup y.1 = some c)
  (hg:∀ C D fp s H,PG (cxC X N' scope cl C D fp s H) tg g) (ht:∀ C D fp s H,PIfs (cxC X N' scope cl C D fp s H) ifs tt) (he:∀ C D fp s H,PE (cxC X N' scope cl C D fp s H) elt te)
  (hW:vO J (capt sub σ) H2 g tt te Q)
  (hRR:∀ (D C:Addr) (oC:Obj) (m:Str -> Option Value) (s':Shared) (Hf:Hp),Inv X (pins ++ [(C,oC)]) σ Hf s' -> s'.heap.Ns C m -> FpOk X pins Hf C -> Q (.ref D) Hf -> RR (.ref D) C (.ok .next) s') :
  wpAny (model X.prog X.w) X.A (newList []) (fun acc s₃=>wpAny (model X.prog X.w) X.A (newFunctionEnv scope X.env.globals cl [] X.env.qual none .none (some X.env)) (fun cenv s₄ =>
   codeAny (model X.prog X.w) X.A (.compStart (.ListComp elt [⟨tg,iter,ifs,0⟩] scope pos) 0 (.ref it) acc { cenv with scope:=relabel scope X.env }) (RR acc cenv.locals) s₄) E s₃) E s₂:=by
 obtain ⟨W,⟨m0,w0⟩,turn⟩:=hW
 refine wpAny_newObj_type (wpAny_newFunctionEnv S.nocell (by intro y hy; simp at hy) (fun h₁ hns₁ hsb₁=>?_) S.kind)
 dsimp only at hns₁ hsb₁ ⊢
 have hC:(s₂.heap.push { cls:=.type "list",dict:=none,data:=.seq ([]:List Value).toArray }).objs.size = s₂.heap.objs.size + 1:=Heap.size_push ..
 rw [hC] at hns₁ hsb₁ ⊢
 have hk:∀ b o,(s₂.heap.push { cls:=.type "list",dict:=none,data:=.seq ([]:List Value).toArray }).get? b = some o -> h₁.get? b = some o:=fun b o e =>
  hsb₁.extBut b o (by have:=Heap.lt_size e; rw [hC] at this; exact Nat.ne_of_lt this) (Heap.get?_push_of_some _ e)
 have hfp:∀ b ∈ fp,b < s₂.heap.objs.size:=fun b hb=>by
  obtain ⟨o,e,_⟩:=T.obj _ _ st b hb
  exact Heap.lt_size e
 have I0:=vi (tk:=s₂.toks + ([]:List (Str × Value)).length) I S hcl1 hcl2 f2 hfp hns₁ hk
 have hD0:h₁.get? s₂.heap.objs.size = some { cls:=.type "list",data:=.seq ([]:List Value).toArray 0 }:=hk _ _ (Heap.get?_push_size _ rfl)
 have loop:codeAny (model X.prog X.w) X.A (.compLoop (.ListComp elt [⟨tg,iter,ifs,0⟩] scope pos) 0 (.ref it) (.ref s₂.heap.objs.size) (compEnvC scope cl (s₂.heap.objs.size + 1) X.env)) (RR (.ref s₂.heap.objs.size) (s₂.heap.objs.size + 1)) { s₂ with heap:=h₁,toks:=s₂.toks + ([]:List (Str × Value)).length } :=
  YJ (s₀:={ s₂ with heap:=s₂.heap.push { cls:=.type "list",dict:=none,data:=.seq ([]:List Value).toArray } }) (C:=s₂.heap.objs.size + 1) (D:=s₂.heap.objs.size) I hcalm T f2 hfp (fun b o e=>Heap.get?_push_of_some _ e) rfl (Nat.le_refl _) (Nat.le_succ _) (Nat.ne_of_lt (Nat.lt_succ_self _)) hcl1 (hg _ _ _ _ _) (ht _ _ _ _ _) (he _ _ _ _ _) turn hRR m0 _
   ⟨0,[],[],0,capt sub σ,H2,I0,T.keep _ _ _ st fun b hb o e=>hk b o (Heap.get?_push_of_some _ e),fun b hb=>(f2 b hb).1,I.hok.fresh (Nat.le_refl _),hD0,.nil,Nat.zero_le _,w0⟩
 exact codeAny_compStart_list loop (T.self _ _ _ _ _ (T.keep _ _ _ st fun b hb o e=>hk b o (Heap.get?_push_of_some _ e)) loop)
end
section
variable {X:Cx} {scope:Scope} {N':List Str} {sub:List (Option Nat)} {tg:Expr} {pos:Pos} {elt iter:Expr} {ifs:List Expr} {wi:TI} {g:TG} {tt:TT} {te:TE}
theorem zJ (S:CSc X scope N' sub) (hcalm:X.calm = true) (hi:PI X tg iter wi)
  (hg:∀ cl C D fp s H,PG (cxC X N' scope cl C D fp s H) tg g) (ht:∀ cl C D fp s H,PIfs (cxC X N' scope cl C D fp s H) ifs tt) (he:∀ cl C D fp s H,PE (cxC X N' scope cl C D fp s H) elt te)
  (hs:∀ x,foldedSetIterable iter X.env x = pure x:=by intro _; rfl):PE X (.ListComp elt [⟨tg,iter,ifs,0⟩] scope pos) (Um wi sub g tt te):=by
 intro pins s σ H Q I h
 obtain ⟨cl,hclos,hcl1,hcl2⟩:=S.clos I
 rw [eval_ListComp]
 refine wpAny_comprehension_free (use:=none) rfl hs hclos S.kind S.names (thn (hi pins s σ H _ I h) fun v s1 h1=>thn h1 fun itv s2 h2=>?_)
 obtain ⟨it,fp,tn,J,H2,e,I2,T,st2,f2,hW⟩:=h2
 subst e
 refine ux (RR:=fun acc C=>compPost (model X.prog X.w) X.A X.xe none (EP X pins σ Q) acc C) I2 hcalm T st2 f2 S hcl1 hcl2 (hg cl) (ht cl) (he cl) hW ?_
 intro D C oC m s' Hf IX hm fpc q
 refine ⟨m,hm,fun h' sb=>⟨.ref D,Hf,?_,rfl,q⟩⟩
 exact (IX.unpinned).turned (it:=C) (t':=s'.toks) (h':=h') (fun b o hb e=>sb.extBut b o hb e) fpc.1 fpc.2.1 fpc.2.2.2.1 fpc.2.2.2.2.1 fpc.2.2.2.2.2
theorem sf {i:Nat} {y:Str} {py spos:Pos} (hN:X.N.Nodup) (hiN:X.N[i]? = some y) (hy:X.env.scope.names.lookup y = some .local) (S:CSc X scope N' sub) (hcalm:X.calm = true) (hi:PI X tg iter wi)
  (hg:∀ cl C D fp s H,PG (cxC X N' scope cl C D fp s H) tg g) (ht:∀ cl C D fp s H,PIfs (cxC X N' scope cl C D fp s H) ifs tt) (he:∀ cl C D fp s H,PE (cxC X N' scope cl C D fp s H) elt te)
  (hsw:swapsWith (.ListComp elt [⟨tg,iter,ifs,0⟩] scope pos) (some (.Name y py)) spos.line X.env = pure true:=by rfl)
  (hs:∀ x,foldedSetIterable iter X.env x = pure x:=by intro _; rfl):PS X (.Assign [.Name y py] (.ListComp elt [⟨tg,iter,ifs,0⟩] scope pos) spos) (tAsg (Um wi sub g tt te) (vN i)):=by
 intro pins s σ H D I h
 obtain ⟨cl,hclos,hcl1,hcl2⟩:=S.clos I
 rw [exec_Assign_Name_used _ _ _ _ hsw]
 refine wpAny_bind (wpAny_standAt (wpAny_bind ?_))
 show wpAny _ X.A (do let _ ← comprehension (.ListComp elt [⟨tg,iter,ifs,0⟩] scope pos) scope X.env _ (newList []) false (eval iter X.env) (some (assign (.Name y py) X.env))) _ _ s
 refine wpAny_bind (wpAny_mono (wpAny_comprehension_free (use:=some (assign (.Name y py) X.env)) (Q:=fun _ s'=>SP X pins D .next s') rfl hs hclos S.kind S.names
  (thn (hi pins s σ H _ I h) fun v s1 h1=>thn h1 fun itv s2 h2=>?_)) (fun _ s' hq=>wpAny_pure (wpAny_pure hq)) fun _ _ e=>e)
 obtain ⟨it,fp,tn,J,H2,e,I2,T,st2,f2,hW⟩:=h2
 subst e
 refine ux (Q:=fun x H1=>vN i x σ H1 D.nx) (RR:=fun acc C=>compPost (model X.prog X.w) X.A X.xe (some (assign (.Name y py) X.env)) (fun _ s'=>SP X pins D .next s') acc C) I2 hcalm T st2 f2 S hcl1 hcl2 (hg cl) (ht cl) (he cl) hW ?_
 intro L C oC m s' Hf IX hm fpc q
 have st:=zj (X:=X) (pos:=py) hN hiN (.inl hy) (.inr hy) _ s' σ Hf (.ref L) (.ref L) D.nx IX rfl q
 refine thn st fun _ s'' ⟨σ2,H2,I2',q2⟩=>?_
 have p:=I2'.pin (C,oC) (by simp)
 have hm':s''.heap.Ns C m:=by
  obtain ⟨o,es,ep,e1,r⟩:=hm
  have z:=(IX.pin (C,oC) (by simp)).1
  rw [e1] at z; cases z
  exact ⟨_,es,ep,p.1,r⟩
 refine ⟨m,hm',fun h' sb=>⟨σ2,H2,?_,q2⟩⟩
 exact (I2'.unpinned).turned (it:=C) (t':=s''.toks) (h':=h') (fun b o hb e=>sb.extBut b o hb e) p.2.1 fpc.2.1 fpc.2.2.2.1 fpc.2.2.2.2.1 fpc.2.2.2.2.2
end
section
variable {prog:Program} {w:World} {A:Around} {E:VS7} {s:Shared}
theorem tD {h:Heap} {z TI TO:Addr} {f0:Value} (hz:IsZip h z TI TO f0) (v:Value):IsZip (h.update z (Obj.mapFields fun x=>x.setIfInBounds 0 v)) z TI TO v /\ Heap.SameBut z h (h.update z (Obj.mapFields fun x=>x.setIfInBounds 0 v)) :=
 ⟨Heap.get?_update_self _ hz rfl,Heap.SameBut.update ..⟩
theorem UE {h:Heap} {z TI TO:Addr} {f0:Value} (hz:IsZip h z TI TO f0):IsZip (h.update z (Obj.mapFields fun x=>x.setIfInBounds 1 (.bool false))) z TI TO f0 /\ Heap.SameBut z h (h.update z (Obj.mapFields fun x=>x.setIfInBounds 1 (.bool false))) :=
 ⟨Heap.get?_update_self _ hz rfl,Heap.SameBut.update ..⟩
theorem WP {h:Heap} {T:Addr} {a b:Value} (hp:IsPair h T a b) (v:Value):IsPair (h.update T (Obj.mapSeq fun x=>x.setIfInBounds 0 v)) T v b /\ Heap.SameBut T h (h.update T (Obj.mapSeq fun x=>x.setIfInBounds 0 v)) :=
 ⟨Heap.get?_update_self _ hp rfl,Heap.SameBut.update ..⟩
theorem UF {h:Heap} {T:Addr} {a b:Value} (hp:IsPair h T a b) (v:Value):IsPair (h.update T (Obj.mapSeq fun x=>x.setIfInBounds 1 v)) T a v /\ Heap.SameBut T h (h.update T (Obj.mapSeq fun x=>x.setIfInBounds 1 v)) :=
 ⟨Heap.get?_update_self _ hp rfl,Heap.SameBut.update ..⟩
theorem YK {z TI TO i1 i2:Addr} {fp1 fp2:List Addr} {n1 n2 i:Nat} {P1 P2:Nat -> Value -> Prop} {St1 St2:Nat -> Heap -> Prop} {a b:Value} {Q:VS7}
  (D1:Draws prog w A i1 fp1 n1 P1 St1) (D2:Draws prog w A i2 fp2 n2 P2 St2)
  (hz:IsZip s.heap z TI TO .none) (hI:IsPair s.heap TI (.ref i1) (.ref i2)) (hO:IsPair s.heap TO a b) (st1:St1 i s.heap) (st2:St2 i s.heap) (l1:i < n1) (l2:i < n2)
  (z1:z ∉ fp1) (z2:z ∉ fp2) (o1:TO ∉ fp1) (o2:TO ∉ fp2) (x12:i2 ∉ fp1) (x21:i1 ∉ fp2) (iz1:i1 ≠ z) (iz2:i2 ≠ z) (io1:i1 ≠ TO) (io2:i2 ≠ TO) (oz:TO ≠ z) (tz:TI ≠ z) (tO:TI ≠ TO) (ti1:TI ≠ i1) (ti2:TI ≠ i2)
  (hQ:∀ x y h' tk,P1 i x -> P2 i y -> IsZip h' z TI TO (rawInt s.heap.objs.size) -> IsPair h' TI (.ref i1) (.ref i2) -> IsPair h' TO x y -> St1 (i + 1) h' -> St2 (i + 1) h' -> IsPair h' s.heap.objs.size x y -> h'.objs.size = s.heap.objs.size + 1 →
   (∀ c o,c ≠ z -> c ≠ TO -> c ≠ i1 -> c ≠ i2 -> s.heap.get? c = some o -> h'.get? c = some o) -> Q (.ref s.heap.objs.size) { s with heap:=h',toks:=tk }) :
  wpAny (model prog w) A (Builtin.«zip.__next__» { pos:=[.ref z] }) (fun fin s'=>∃ v,fin = Fin.done (Flow.ret v) /\ Q v s') E s:=by
 show wpAny _ _ (field (.ref z) 2 >>= _) _ _ s
 refine wpAny_bind (wpAny_field hz rfl (x:=.bool false) rfl ?_)
 show wpAny _ _ (field (.ref z) 3 >>= _) _ _ s
 refine wpAny_bind (wpAny_field hz rfl (x:=.ref TI) rfl ?_)
 show wpAny _ _ (seqItems? (.ref TI) >>= _) _ _ s
 refine wpAny_bind (wpAny_seqItems hI rfl ?_)
 show wpAny _ _ (Builtin.SmallTypes.ownedTupleIsFree (.ref z) >>= _) _ _ s
 refine wpAny_bind ?_
 unfold Builtin.SmallTypes.ownedTupleIsFree
 refine wpAny_bind (wpAny_field hz rfl (x:=.none) rfl (wpAny_pure ?_))
 show wpAny _ _ (rule _ >>= _) _ _ s
 refine wpAny_bind (wpAny_rule ?_)
 show wpAny _ _ (field (.ref z) 4 >>= _) _ _ s
 refine wpAny_bind (wpAny_field hz rfl (x:=.ref TO) rfl ?_)
 show wpAny _ _ (setField (.ref z) 0 .ellipsis >>= _) _ _ s
 refine wpAny_bind (wpAny_setField hz rfl (by show 0 < 5; decide) ?_)
 obtain ⟨hz0,sb0⟩:=tD hz .ellipsis
 revert hz0 sb0
 generalize s.heap.update z (Obj.mapFields fun x=>x.setIfInBounds 0 Value.ellipsis) = h0
 intro hz0 sb0
 have no:∀ b,b ≠ z -> ∀ o,s.heap.get? b = some o -> h0.get? b = some o:=fun b hb o e=>(sb0.2 b hb).trans e
 refine wpAny_bind ?_
 show wpAny _ _ (forIn [(Value.ref i1,0),(Value.ref i2,1)] (none,()) _) _ _ _
 rw [List.forIn_cons]
 refine wpAny_bind (wpAny_bind (wpAny_onRaise ?_))
 show wpAny _ _ (Builtin.SmallTypes.nextOf (.ref i1) >>= fun x=>pure (some x)) _ _ _
 refine wpAny_bind (D1.item i { s with heap:=h0 } _ _ l1 (D1.frame _ _ _ st1 fun b hb o e=>no b (fun q=>z1 (q ▸ hb)) o e) fun x h1 tk1 p1 st1' sb1=>wpAny_pure ?_)
 have hO1:IsPair h1 TO a b:=(sb1.2 TO (Ne.symm io1)).trans (no TO oz _ hO)
 show wpAny _ _ (seqItems? (.ref TO) >>= _) _ _ _
 refine wpAny_bind (wpAny_seqItems (s:={ s with heap:=h1,toks:=tk1 }) hO1 rfl ?_)
 show wpAny _ _ (updateSeq TO _ >>= _) _ _ _
 refine wpAny_bind (wpAny_updateSeq (s:={ s with heap:=h1,toks:=tk1 }) hO1 rfl ?_)
 obtain ⟨hO2,sb2⟩:=WP hO1 x
 revert hO2 sb2
 show IsPair (h1.update TO (Obj.mapSeq fun q=>q.setIfInBounds 0 x)) TO x b -> Heap.SameBut TO h1 (h1.update TO (Obj.mapSeq fun q=>q.setIfInBounds 0 x)) -> wpAny _ _ _ _ _ { s with heap:=h1.update TO (Obj.mapSeq fun q=>q.setIfInBounds 0 x),toks:=tk1 }
 generalize h1.update TO (Obj.mapSeq fun q=>q.setIfInBounds 0 x) = h2
 intro hO2 sb2
 refine wpAny_bind (wpAny_letGo (wpAny_pure ?_))
 show wpAny _ _ (forIn [(Value.ref i2,1)] (none,()) _) _ _ _
 rw [List.forIn_cons]
 refine wpAny_bind (wpAny_bind (wpAny_onRaise ?_))
 show wpAny _ _ (Builtin.SmallTypes.nextOf (.ref i2) >>= fun x=>pure (some x)) _ _ _
 have k2:∀ c o,c ≠ z -> c ≠ TO -> c ≠ i1 -> s.heap.get? c = some o -> h2.get? c = some o:=fun c o c1 c2 c3 e=>(sb2.2 c c2).trans ((sb1.2 c c3).trans (no c c1 o e))
 refine wpAny_bind (D2.item i { s with heap:=h2,toks:=tk1 } _ _ l2 (D2.frame _ _ _ st2 fun c hc o e=>k2 c o (fun q=>z2 (q ▸ hc)) (fun q=>o2 (q ▸ hc)) (fun q=>x21 (q ▸ hc)) e) fun y h3 tk3 p2 st2' sb3=>wpAny_pure ?_)
 have hO3:IsPair h3 TO x b:=(sb3.2 TO (Ne.symm io2)).trans hO2
 show wpAny _ _ (seqItems? (.ref TO) >>= _) _ _ _
 refine wpAny_bind (wpAny_seqItems (s:={ s with heap:=h3,toks:=tk3 }) hO3 rfl ?_)
 show wpAny _ _ (updateSeq TO _ >>= _) _ _ _
 refine wpAny_bind (wpAny_updateSeq (s:={ s with heap:=h3,toks:=tk3 }) hO3 rfl ?_)
 obtain ⟨hO4,sb4⟩:=UF hO3 y
 revert hO4 sb4
 show IsPair (h3.update TO (Obj.mapSeq fun q=>q.setIfInBounds 1 y)) TO x y -> Heap.SameBut TO h3 (h3.update TO (Obj.mapSeq fun q=>q.setIfInBounds 1 y)) -> wpAny _ _ _ _ _ { s with heap:=h3.update TO (Obj.mapSeq fun q=>q.setIfInBounds 1 y),toks:=tk3 }
 generalize h3.update TO (Obj.mapSeq fun q=>q.setIfInBounds 1 y) = h4
 intro hO4 sb4
 refine wpAny_bind (wpAny_letGo (wpAny_pure ?_))
 show wpAny _ _ (forIn [] (none,()) _) _ _ _
 rw [List.forIn_nil]
 refine wpAny_pure ?_
 show wpAny _ _ (seqItems? (.ref TO) >>= _) _ _ _
 refine wpAny_bind (wpAny_seqItems (s:={ s with heap:=h4,toks:=tk3 }) hO4 rfl ?_)
 show wpAny _ _ (newTuple [x,y] >>= _) _ _ _
 refine wpAny_bind ?_
 simp only [newTuple]
 have k4:∀ c o,c ≠ z -> c ≠ TO -> c ≠ i1 -> c ≠ i2 -> s.heap.get? c = some o -> h4.get? c = some o:=fun c o c1 c2 c3 c4 e=>(sb4.2 c c2).trans ((sb3.2 c c4).trans (k2 c o c1 c2 c3 e))
 have hz4:IsZip h4 z TI TO .ellipsis:=(sb4.2 z (Ne.symm oz)).trans ((sb3.2 z (Ne.symm iz2)).trans ((sb2.2 z (Ne.symm oz)).trans ((sb1.2 z (Ne.symm iz1)).trans hz0)))
 have s1':St1 (i + 1) h4:=D1.frame _ _ _ st1' fun c hc o e=>(sb4.2 c (fun q=>o1 (q ▸ hc))).trans ((sb3.2 c (fun q=>x12 (q ▸ hc))).trans ((sb2.2 c (fun q=>o1 (q ▸ hc))).trans e))
 have s2':St2 (i + 1) h4:=D2.frame _ _ _ st2' fun c hc o e=>(sb4.2 c (fun q=>o2 (q ▸ hc))).trans e
 have sz4:h4.objs.size = s.heap.objs.size:=by rw [sb4.1,sb3.1,sb2.1,sb1.1,sb0.1]
 refine wpAny_newObj_type ?_ (by size_fits)
 have hz5:IsZip (h4.push { cls:=.type "tuple",data:=.seq #[x,y] }) z TI TO .ellipsis:=Heap.get?_push_of_some _ hz4
 have hT5:IsPair (h4.push { cls:=.type "tuple",data:=.seq #[x,y] }) h4.objs.size x y:=Heap.get?_push_size _ rfl
 have sz5:(h4.push { cls:=.type "tuple",data:=.seq #[x,y] }).objs.size = h4.objs.size + 1:=Heap.size_push ..
 have k5:∀ c o,h4.get? c = some o -> (h4.push { cls:=.type "tuple",data:=.seq #[x,y] }).get? c = some o:=fun c o e=>Heap.get?_push_of_some _ e
 show wpAny _ _ _ _ _ { s with heap:=h4.push { cls:=.type "tuple",data:=.seq #[x,y] },toks:=tk3 }
 revert hz5 hT5 sz5 k5
 generalize h4.push { cls:=.type "tuple",data:=.seq #[x,y] } = h5
 intro hz5 hT5 sz5 k5
 show wpAny _ _ (Builtin.SmallTypes.ownedTupleHandOut (.ref z) (.ref h4.objs.size) >>= fun _=>pure (Fin.done (Flow.ret (.ref h4.objs.size)))) _ _ _
 rw [sz4] at hT5 sz5 ⊢
 refine wpAny_bind ?_
 show wpAny _ _ (setField (.ref z) 0 (rawInt s.heap.objs.size) >>= fun _=>setField (.ref z) 1 (.bool false)) _ _ _
 refine wpAny_bind (wpAny_setField (s:={ s with heap:=h5,toks:=tk3 }) hz5 rfl (by show 0 < 5; decide) ?_)
 obtain ⟨hz6,sb6⟩:=tD hz5 (rawInt s.heap.objs.size)
 obtain ⟨hz7,sb7⟩:=UE hz6
 refine wpAny_setField hz6 rfl (by show 1 < 5; decide) (wpAny_pure ⟨_,rfl,?_⟩)
 have k7:∀ c o,c ≠ z -> h4.get? c = some o -> ((h5.update z (Obj.mapFields fun x=>x.setIfInBounds 0 (rawInt s.heap.objs.size))).update z (Obj.mapFields fun x=>x.setIfInBounds 1 (.bool false))).get? c = some o:=fun c o c1 e=>(sb7.2 c c1).trans ((sb6.2 c c1).trans (k5 c o e))
 have nT:s.heap.objs.size ≠ z:=Nat.ne_of_gt (Heap.lt_size hz)
 exact hQ x y _ tk3 p1 p2 hz7 (k7 TI _ tz (k4 TI _ tz tO ti1 ti2 hI)) (k7 TO _ oz hO4) (D1.frame _ _ _ s1' fun c hc o e=>k7 c o (fun q=>z1 (q ▸ hc)) e) (D2.frame _ _ _ s2' fun c hc o e=>k7 c o (fun q=>z2 (q ▸ hc)) e) ((sb7.2 _ nT).trans ((sb6.2 _ nT).trans hT5)) (by rw [sb7.1,sb6.1,sz5]) fun c o c1 c2 c3 c4 e=>k7 c o c1 (k4 c o c1 c2 c3 c4 e)
theorem X8 {z TI TO i1 i2:Addr} {fp1:List Addr} {n1:Nat} {P1:Nat -> Value -> Prop} {St1:Nat -> Heap -> Prop} {a b:Value} {Q:Fin -> Shared -> Prop}
  (D1:Draws prog w A i1 fp1 n1 P1 St1)
  (hz:IsZip s.heap z TI TO .none) (hI:IsPair s.heap TI (.ref i1) (.ref i2)) (hO:IsPair s.heap TO a b) (st1:St1 n1 s.heap)
  (z1:z ∉ fp1) (iz1:i1 ≠ z)
  (hE:∀ h' e tk,(∀ c o,c ≠ z -> c ≠ TO -> c ≠ i1 -> c ≠ i2 -> s.heap.get? c = some o -> h'.get? c = some o) -> (∃ o,h'.get? e = some o /\ o.cls = .type "StopIteration") -> E (.ref e) { s with heap:=h',toks:=tk }) :
  wpAny (model prog w) A (Builtin.«zip.__next__» { pos:=[.ref z] }) Q E s:=by
 show wpAny _ _ (field (.ref z) 2 >>= _) _ _ s
 refine wpAny_bind (wpAny_field hz rfl (x:=.bool false) rfl ?_)
 show wpAny _ _ (field (.ref z) 3 >>= _) _ _ s
 refine wpAny_bind (wpAny_field hz rfl (x:=.ref TI) rfl ?_)
 show wpAny _ _ (seqItems? (.ref TI) >>= _) _ _ s
 refine wpAny_bind (wpAny_seqItems hI rfl ?_)
 show wpAny _ _ (Builtin.SmallTypes.ownedTupleIsFree (.ref z) >>= _) _ _ s
 refine wpAny_bind ?_
 unfold Builtin.SmallTypes.ownedTupleIsFree
 refine wpAny_bind (wpAny_field hz rfl (x:=.none) rfl (wpAny_pure ?_))
 show wpAny _ _ (rule _ >>= _) _ _ s
 refine wpAny_bind (wpAny_rule ?_)
 show wpAny _ _ (field (.ref z) 4 >>= _) _ _ s
 refine wpAny_bind (wpAny_field hz rfl (x:=.ref TO) rfl ?_)
 show wpAny _ _ (setField (.ref z) 0 .ellipsis >>= _) _ _ s
 refine wpAny_bind (wpAny_setField hz rfl (by show 0 < 5; decide) ?_)
 obtain ⟨hz0,sb0⟩:=tD hz .ellipsis
 revert hz0 sb0
 generalize s.heap.update z (Obj.mapFields fun x=>x.setIfInBounds 0 Value.ellipsis) = h0
 intro hz0 sb0
 have no:∀ b,b ≠ z -> ∀ o,s.heap.get? b = some o -> h0.get? b = some o:=fun b hb o e=>(sb0.2 b hb).trans e
 refine wpAny_bind ?_
 show wpAny _ _ (forIn [(Value.ref i1,0),(Value.ref i2,1)] (none,()) _) _ _ _
 rw [List.forIn_cons]
 refine wpAny_bind (wpAny_bind (wpAny_onRaise ?_))
 show wpAny _ _ (Builtin.SmallTypes.nextOf (.ref i1) >>= fun x=>pure (some x)) _ _ _
 refine wpAny_bind (D1.done { s with heap:=h0 } _ _ (D1.frame _ _ _ st1 fun b hb o e=>no b (fun q=>z1 (q ▸ hb)) o e) fun h1 e xb hs=>?_)
 have hz1:IsZip h1 z TI TO .ellipsis:=xb z _ (Ne.symm iz1) hz0
 obtain ⟨hz2,sb2⟩:=tD hz1 .none
 refine wpAny_setField (s:={ s with heap:=h1 }) hz1 rfl (by show 0 < 5; decide) (hE _ e s.toks (fun c o c1 c2 c3 c4 q=>(sb2.2 c c1).trans (xb c o c3 (no c c1 o q))) ?_)
 obtain ⟨o,ho,hc⟩:=hs
 refine ⟨o,(sb2.2 e fun q=>?_).trans ho,hc⟩
 rw [q,hz1] at ho
 obtain rfl:=Option.some.inj ho
 exact absurd hc (by show ¬ (Value.type "zip" = Value.type "StopIteration"); decide)
theorem X9 {z TI TO i1 i2:Addr} {fp1 fp2:List Addr} {n1 i:Nat} {P1 P2:Nat -> Value -> Prop} {St1 St2:Nat -> Heap -> Prop} {a b:Value} {Q:Fin -> Shared -> Prop}
  (D1:Draws prog w A i1 fp1 n1 P1 St1) (D2:Draws prog w A i2 fp2 i P2 St2)
  (hz:IsZip s.heap z TI TO .none) (hI:IsPair s.heap TI (.ref i1) (.ref i2)) (hO:IsPair s.heap TO a b) (st1:St1 i s.heap) (st2:St2 i s.heap) (l1:i < n1)
  (z1:z ∉ fp1) (z2:z ∉ fp2) (o2:TO ∉ fp2) (x21:i1 ∉ fp2) (iz1:i1 ≠ z) (iz2:i2 ≠ z) (io1:i1 ≠ TO) (oz:TO ≠ z)
  (hE:∀ h' e tk,(∀ c o,c ≠ z -> c ≠ TO -> c ≠ i1 -> c ≠ i2 -> s.heap.get? c = some o -> h'.get? c = some o) -> (∃ o,h'.get? e = some o /\ o.cls = .type "StopIteration") -> E (.ref e) { s with heap:=h',toks:=tk }) :
  wpAny (model prog w) A (Builtin.«zip.__next__» { pos:=[.ref z] }) Q E s:=by
 show wpAny _ _ (field (.ref z) 2 >>= _) _ _ s
 refine wpAny_bind (wpAny_field hz rfl (x:=.bool false) rfl ?_)
 show wpAny _ _ (field (.ref z) 3 >>= _) _ _ s
 refine wpAny_bind (wpAny_field hz rfl (x:=.ref TI) rfl ?_)
 show wpAny _ _ (seqItems? (.ref TI) >>= _) _ _ s
 refine wpAny_bind (wpAny_seqItems hI rfl ?_)
 show wpAny _ _ (Builtin.SmallTypes.ownedTupleIsFree (.ref z) >>= _) _ _ s
 refine wpAny_bind ?_
 unfold Builtin.SmallTypes.ownedTupleIsFree
 refine wpAny_bind (wpAny_field hz rfl (x:=.none) rfl (wpAny_pure ?_))
 show wpAny _ _ (rule _ >>= _) _ _ s
 refine wpAny_bind (wpAny_rule ?_)
 show wpAny _ _ (field (.ref z) 4 >>= _) _ _ s
 refine wpAny_bind (wpAny_field hz rfl (x:=.ref TO) rfl ?_)
 show wpAny _ _ (setField (.ref z) 0 .ellipsis >>= _) _ _ s
 refine wpAny_bind (wpAny_setField hz rfl (by show 0 < 5; decide) ?_)
 obtain ⟨hz0,sb0⟩:=tD hz .ellipsis
 revert hz0 sb0
 generalize s.heap.update z (Obj.mapFields fun x=>x.setIfInBounds 0 Value.ellipsis) = h0
 intro hz0 sb0
 have no:∀ b,b ≠ z -> ∀ o,s.heap.get? b = some o -> h0.get? b = some o:=fun b hb o e=>(sb0.2 b hb).trans e
 refine wpAny_bind ?_
 show wpAny _ _ (forIn [(Value.ref i1,0),(Value.ref i2,1)] (none,()) _) _ _ _
 rw [List.forIn_cons]
 refine wpAny_bind (wpAny_bind (wpAny_onRaise ?_))
 show wpAny _ _ (Builtin.SmallTypes.nextOf (.ref i1) >>= fun x=>pure (some x)) _ _ _
 refine wpAny_bind (D1.item i { s with heap:=h0 } _ _ l1 (D1.frame _ _ _ st1 fun b hb o e=>no b (fun q=>z1 (q ▸ hb)) o e) fun x h1 tk1 p1 st1' sb1=>wpAny_pure ?_)
 have hO1:IsPair h1 TO a b:=(sb1.2 TO (Ne.symm io1)).trans (no TO oz _ hO)
 show wpAny _ _ (seqItems? (.ref TO) >>= _) _ _ _
 refine wpAny_bind (wpAny_seqItems (s:={ s with heap:=h1,toks:=tk1 }) hO1 rfl ?_)
 show wpAny _ _ (updateSeq TO _ >>= _) _ _ _
 refine wpAny_bind (wpAny_updateSeq (s:={ s with heap:=h1,toks:=tk1 }) hO1 rfl ?_)
 obtain ⟨hO2,sb2⟩:=WP hO1 x
 revert hO2 sb2
 show IsPair (h1.update TO (Obj.mapSeq fun q=>q.setIfInBounds 0 x)) TO x b -> Heap.SameBut TO h1 (h1.update TO (Obj.mapSeq fun q=>q.setIfInBounds 0 x)) -> wpAny _ _ _ _ _ { s with heap:=h1.update TO (Obj.mapSeq fun q=>q.setIfInBounds 0 x),toks:=tk1 }
 generalize h1.update TO (Obj.mapSeq fun q=>q.setIfInBounds 0 x) = h2
 intro hO2 sb2
 refine wpAny_bind (wpAny_letGo (wpAny_pure ?_))
 show wpAny _ _ (forIn [(Value.ref i2,1)] (none,()) _) _ _ _
 rw [List.forIn_cons]
 refine wpAny_bind (wpAny_bind (wpAny_onRaise ?_))
 show wpAny _ _ (Builtin.SmallTypes.nextOf (.ref i2) >>= fun x=>pure (some x)) _ _ _
 have k2:∀ c o,c ≠ z -> c ≠ TO -> c ≠ i1 -> s.heap.get? c = some o -> h2.get? c = some o:=fun c o c1 c2 c3 e=>(sb2.2 c c2).trans ((sb1.2 c c3).trans (no c c1 o e))
 have hz2:IsZip h2 z TI TO .ellipsis:=(sb2.2 z (Ne.symm oz)).trans ((sb1.2 z (Ne.symm iz1)).trans hz0)
 refine wpAny_bind (D2.done { s with heap:=h2,toks:=tk1 } _ _ (D2.frame _ _ _ st2 fun c hc o e=>k2 c o (fun q=>z2 (q ▸ hc)) (fun q=>o2 (q ▸ hc)) (fun q=>x21 (q ▸ hc)) e) fun h3 e xb hs=>?_)
 have hz3:IsZip h3 z TI TO .ellipsis:=xb z _ (Ne.symm iz2) hz2
 obtain ⟨hz4,sb4⟩:=tD hz3 .none
 refine wpAny_setField (s:={ s with heap:=h3,toks:=tk1 }) hz3 rfl (by show 0 < 5; decide) (hE _ e tk1 (fun c o c1 c2 c3 c4 q=>(sb4.2 c c1).trans (xb c o c4 (k2 c o c1 c2 c3 q))) ?_)
 obtain ⟨o,ho,hc⟩:=hs
 refine ⟨o,(sb4.2 e fun q=>?_).trans ho,hc⟩
 rw [q,hz3] at ho
 obtain rfl:=Option.some.inj ho
 exact absurd hc (by show ¬ (Value.type "zip" = Value.type "StopIteration"); decide)
end
section
variable {prog:Program} {w:World} {A:Around} {E:VS7} {s:Shared}
theorem YL {e:Addr} {Q:Option Value -> Shared -> Prop} (h:∃ o,s.heap.get? e = some o /\ o.cls = .type "StopIteration") (q:Q none s) :
  wpAny (model prog w) A (do if ← isInstance (.ref e) (.type "StopIteration") then pure none else throw (.ref e):Sem (Option Value)) Q E s:=by
 refine wpAny_bind (wpAny_isInstance (T:="StopIteration") (b:=true) h (by first | rfl | decide) ?_)
 rw [if_pos rfl]
 exact wpAny_pure q
theorem WQ {z TI TO:Addr} {f0:Value} (hz:IsZip s.heap z TI TO f0):s.TypeIs (.ref z) "zip":=⟨_,hz,rfl⟩
theorem YM {z TI TO:Addr} {f0:Value} {Q:Option Value -> Shared -> Prop} (hz:IsZip s.heap z TI TO f0)
  (h:wpAny (model prog w) A.in1 (Builtin.«zip.__next__» { pos:=[.ref z] }) (fun fin s'=>∃ v,fin = Fin.done (Flow.ret v) /\ Q (some v) s')
   (fun e s'=>∃ a,e = .ref a /\ (∃ o,s'.heap.get? a = some o /\ o.cls = .type "StopIteration") /\ Q none s') s):wpAny (model prog w) A (pyNext (.ref z)) Q E s:=by
 unfold pyNext
 refine wpAny_bind (wpAny_attempt (wpAny_callSpecial?_slot (name:=Str.ofString "__next__") (WQ hz) F.slot_zip_next (wpAny_call_entry F.slot_zip_next (WQ hz) F.entry_zip_next (wpAny_mono h (fun fin s' hq=>?_) (fun e s' hq=>?_)) (F.args_zip_next_1 _))))
 ·obtain ⟨v,rfl,q⟩:=hq
  exact ⟨v,rfl,wpAny_pure q⟩
 ·obtain ⟨a,rfl,ho,q⟩:=hq
  exact YL ho q
def vz (h:Heap) (a:Addr) (cn:String) (vs:Array Value):Prop:=(cn = "tuple_iterator" /\ h.IsTuple a vs) \/ (cn = "list_iterator" /\ h.IsList a vs)
theorem vz.iter {a:Addr} {cn:String} {vs:Array Value} {Q:VS7} (h:vz s.heap a cn vs)
  (q:Q (.ref s.heap.objs.size) { s with heap:=s.heap.push { cls:=.type cn,data:=.fields #[.ref a,.int 0 0] } }):wpAny (model prog w) A (pyIter (.ref a)) Q E s:=by
 rcases h with ⟨rfl,h⟩ | ⟨rfl,h⟩
 ·exact wpAny_pyIter_tuple h q
 ·exact wpAny_pyIter_list h q
theorem vz.push {h:Heap} {a:Addr} {cn:String} {vs:Array Value} (x:vz h a cn vs) (o:Obj):vz (h.push o) a cn vs:=by
 rcases x with ⟨rfl,x⟩ | ⟨rfl,x⟩
 ·exact .inl ⟨rfl,x.push o⟩
 ·exact .inr ⟨rfl,x.push o⟩
def zpO (c:String) (a:Addr):Obj:={ cls:=.type c,data:=.fields #[.ref a,.int 0 0] }
def zpT (a b:Value):Obj:={ cls:=.type "tuple",data:=.seq #[a,b] }
def zpZ (TI TO:Addr):Obj:={ cls:=.type "zip",data:=.fields #[.none,.bool false,.bool false,.ref TI,.ref TO] }
def zpN (h:Heap) (c1:String) (a:Addr) (c2:String) (b:Addr):Addr :=
 let h1:=h.push (zpO c1 a)
 let h2:=h1.push (zpO c2 b)
 let h3:=h2.push (zpT (.ref h.objs.size) (.ref h1.objs.size))
 (h3.push (zpT .none .none)).objs.size
def zpH (h:Heap) (c1:String) (a:Addr) (c2:String) (b:Addr):Heap :=
 let h1:=h.push (zpO c1 a)
 let h2:=h1.push (zpO c2 b)
 let h3:=h2.push (zpT (.ref h.objs.size) (.ref h1.objs.size))
 let h4:=h3.push (zpT .none .none)
 h4.push (zpZ h2.objs.size h3.objs.size)
theorem Vu (a b:Addr) (c1 c2:String) (xs ys:Array Value) :
  Meets (Builtin.«zip.__new__» ⟨[.type "zip",.ref a,.ref b],[]⟩) (fun _ R s=>vz s.heap a c1 xs /\ vz s.heap b c2 ys ∧
   R (.ok (.ret (.ref (zpN s.heap c1 a c2 b)))) { s with heap:=zpH s.heap c1 a c2 b }) :=
 .of_wp fun prog w A R s h=>by
  obtain ⟨hp,g,d,tk,os⟩:=s; obtain ⟨h1,h2,h⟩:=h
  have hsub:=sub_zip
  have h2':vz (Shared.heap ⟨hp.push { cls:=.type c1,data:=.fields #[.ref a,.int 0 0] },g,d,tk,os⟩) b c2 ys:=h2.push _
  wp_walk using vz.iter h1,vz.iter h2'
  exact ⟨_,rfl,h⟩
theorem YN {a b:Addr} {c1 c2:String} {xs ys:Array Value} {Q:VS7} (ha:vz s.heap a c1 xs) (hb:vz s.heap b c2 ys)
  (h:∀ h',IsZip h' (s.heap.objs.size + 4) (s.heap.objs.size + 2) (s.heap.objs.size + 3) .none -> IsPair h' (s.heap.objs.size + 2) (.ref s.heap.objs.size) (.ref (s.heap.objs.size + 1)) -> IsPair h' (s.heap.objs.size + 3) .none .none →
   h'.get? s.heap.objs.size = some (zpO c1 a) -> h'.get? (s.heap.objs.size + 1) = some (zpO c2 b) -> (∀ c o,s.heap.get? c = some o -> h'.get? c = some o) -> Q (.ref (s.heap.objs.size + 4)) { s with heap:=h' }) :
  wpAny (model prog w) A (call (.type "zip") [.ref a,.ref b]) Q E s:=by
 refine callType_new F.called_zip (by decide) (F.typeCall_zip_2 _ _) (F.newCall_zip_2 _ _) (fun obj=>F.args_object_init_3 obj _ _) F.entry_zip_new (Vu a b c1 c2 xs ys) ⟨ha,hb,?_⟩
 have gs:∀ (h:Heap) (o:Obj) (m:Nat),o.isFreed = false -> h.objs.size = m -> (h.push o).get? m = some o /\ (h.push o).objs.size = m + 1:=fun h o m f e=>by
  subst e; exact ⟨Heap.get?_push_size _ f,Heap.size_push ..⟩
 obtain ⟨e1,z1⟩:=gs s.heap (zpO c1 a) _ rfl rfl
 obtain ⟨e2,z2⟩:=gs (s.heap.push (zpO c1 a)) (zpO c2 b) _ rfl z1
 obtain ⟨e3,z3⟩:=gs ((s.heap.push (zpO c1 a)).push (zpO c2 b)) (zpT (.ref s.heap.objs.size) (.ref (s.heap.push (zpO c1 a)).objs.size)) _ rfl z2
 obtain ⟨e4,z4⟩:=gs (((s.heap.push (zpO c1 a)).push (zpO c2 b)).push (zpT (.ref s.heap.objs.size) (.ref (s.heap.push (zpO c1 a)).objs.size))) (zpT .none .none) _ rfl z3
 obtain ⟨e5,z5⟩:=gs ((((s.heap.push (zpO c1 a)).push (zpO c2 b)).push (zpT (.ref s.heap.objs.size) (.ref (s.heap.push (zpO c1 a)).objs.size))).push (zpT .none .none)) (zpZ ((s.heap.push (zpO c1 a)).push (zpO c2 b)).objs.size (((s.heap.push (zpO c1 a)).push (zpO c2 b)).push (zpT (.ref s.heap.objs.size) (.ref (s.heap.push (zpO c1 a)).objs.size))).objs.size) _ rfl z4
 have eN:zpN s.heap c1 a c2 b = s.heap.objs.size + 4:=z4
 have ps:∀ (h:Heap) (o:Obj) (c:Addr) (q:Obj),h.get? c = some q -> (h.push o).get? c = some q:=fun h o c q e=>Heap.get?_push_of_some _ e
 have f5:(zpH s.heap c1 a c2 b).get? (s.heap.objs.size + 4) = some (zpZ (s.heap.objs.size + 2) (s.heap.objs.size + 3)):=by
  have:=e5
  rw [z2,z3] at this
  unfold zpH
  dsimp only
  rw [z2,z3]
  exact this
 have f3:(zpH s.heap c1 a c2 b).get? (s.heap.objs.size + 2) = some (zpT (.ref s.heap.objs.size) (.ref (s.heap.objs.size + 1))):=by
  have:=ps _ (zpZ ((s.heap.push (zpO c1 a)).push (zpO c2 b)).objs.size (((s.heap.push (zpO c1 a)).push (zpO c2 b)).push (zpT (.ref s.heap.objs.size) (.ref (s.heap.push (zpO c1 a)).objs.size))).objs.size) _ _ (ps _ (zpT .none .none) _ _ e3)
  unfold zpH
  dsimp only
  exact this.trans (by rw [z1])
 have f4:(zpH s.heap c1 a c2 b).get? (s.heap.objs.size + 3) = some (zpT .none .none):=ps _ _ _ _ e4
 have f1:(zpH s.heap c1 a c2 b).get? s.heap.objs.size = some (zpO c1 a):=ps _ _ _ _ (ps _ _ _ _ (ps _ _ _ _ (ps _ _ _ _ e1)))
 have f2:(zpH s.heap c1 a c2 b).get? (s.heap.objs.size + 1) = some (zpO c2 b):=ps _ _ _ _ (ps _ _ _ _ (ps _ _ _ _ e2))
 have fk:∀ c o,s.heap.get? c = some o -> (zpH s.heap c1 a c2 b).get? c = some o:=fun c o e=>ps _ _ _ _ (ps _ _ _ _ (ps _ _ _ _ (ps _ _ _ _ (ps _ _ _ _ e))))
 show _ /\ _
 rw [eN]
 exact ⟨⟨_,f5,rfl⟩,h _ f5 f3 f4 f1 f2 fk⟩
end
def SqC (c:Bool) (K:FG7) (H:Hp) (a:Addr) (xs:List V):Prop:=match c with
 | true=>SqT K H a xs
 | false=>SqL K H a xs
def uy (c:Bool) (h:Heap) (j a:Addr) (i:Nat):Prop:=match c with
 | true=>h.IsTupleIter j a i
 | false=>h.IsListIter j a i
def SeqC (c:Bool) (h:Heap) (a:Addr) (vs:Array Value):Prop:=match c with
 | true=>h.IsTuple a vs
 | false=>h.IsList a vs
def cnC (c:Bool):String:=match c with
 | true=>"tuple_iterator"
 | false=>"list_iterator"
theorem uy.at {c:Bool} {h h':Heap} {j a:Addr} {i:Nat} (x:uy c h j a i) (k:∀ o,h.get? j = some o -> h'.get? j = some o):uy c h' j a i:=by
 cases c
 ·exact Heap.IsListIter.at x k
 ·exact Heap.IsTupleIter.at x k
theorem uy.obj {c:Bool} {h:Heap} {j a:Addr} {i:Nat} (x:uy c h j a i):∃ o,h.get? j = some o /\ ∀ v,o.data ≠ .cell v:=by
 cases c
 ·obtain ⟨o,e,_,d⟩:=x
  exact ⟨o,e,fun v z=>by rw [d] at z; cases z⟩
 ·obtain ⟨o,e,_,d⟩:=x
  exact ⟨o,e,fun v z=>by rw [d] at z; cases z⟩
theorem uy.mk {c:Bool} {h:Heap} {j a:Addr} (e:h.get? j = some (zpO (cnC c) a)):uy c h j a 0:=by
 cases c
 ·exact ⟨_,e,rfl,rfl⟩
 ·exact ⟨_,e,rfl,rfl⟩
theorem SeqC.src {c:Bool} {h:Heap} {a:Addr} {vs:Array Value} (x:SeqC c h a vs):vz h a (cnC c) vs:=by
 cases c
 ·exact .inr ⟨rfl,x⟩
 ·exact .inl ⟨rfl,x⟩
theorem SeqC.lt {c:Bool} {h:Heap} {a:Addr} {vs:Array Value} (x:SeqC c h a vs):a < h.objs.size:=by
 cases c
 ·obtain ⟨_,e,_⟩:=(show h.IsList a vs from x); exact Heap.lt_size e
 ·obtain ⟨_,e,_⟩:=(show h.IsTuple a vs from x); exact Heap.lt_size e
theorem YO {prog:Program} {w:World} {A:Around} (hh:A.handled = none) (c:Bool) (j t:Addr) (hne:t ≠ j) (vs:Array Value) :
  Draws prog w A j [j,t] vs.size (fun i v=>vs[i]? = some v) (fun i h=>uy c h j t i /\ SeqC c h t vs):=by
 cases c
 ·exact Draws.list hh j t hne vs
 ·exact YD hh j t hne vs
theorem Zs {prog:Program} {w:World} {A:Around} (hh:A.handled = none) (jt t:Addr) (vs:Array Value) {i:Nat} (hv:vs[i]? = none) :
  Draws prog w A jt [jt,t] i (fun _ _=>True) (fun j h=>j = i /\ h.IsListIter jt t i /\ h.IsList t vs) where
 live:=fun _ _ st=>let ⟨o,ho,_⟩:=st.2.1; ⟨o,ho⟩
 frame:=fun _ _ _ st hk=>⟨st.1,st.2.1.at (hk jt (by simp)),st.2.2.at (hk t (by simp))⟩
 item:=fun j s Q E hj st hQ=>absurd st.1 (Nat.ne_of_lt hj)
 done:=fun s Q E st hE=>wpAny_nextOf_list_end hh st.2.1 st.2.2 hv hE
theorem tE {prog:Program} {w:World} {A:Around} (hh:A.handled = none) (c:Bool) (j t:Addr) (vs:Array Value) {i:Nat} (hv:vs[i]? = none) :
  Draws prog w A j [j,t] i (fun _ _=>True) (fun k h=>k = i /\ uy c h j t i /\ SeqC c h t vs):=by
 cases c
 ·exact Zs hh j t vs hv
 ·exact YE hh j t vs hv
theorem wo {X:Cx} {pins:List (Addr × Obj)} {σ:L2.St} {H:Hp} {s:Shared} {c:Bool} {a:Addr} {xs:List V} (I:Inv X pins σ H s) (h:SqC c X.K H a xs):∃ its:List Value,Vals xs its /\ SeqC c s.heap a its.toArray:=by
 cases c
 ·obtain ⟨its,r,p,_⟩:=I.list h
  exact ⟨its,r,p.isList⟩
 ·obtain ⟨its,r,p,_⟩:=I.tuple h
  exact ⟨its,r,p⟩
theorem vI {X:Cx} {pins:List (Addr × Obj)} {σ:L2.St} {H:Hp} {s:Shared} {c:Bool} {a:Addr} {xs ys:List V} (I:Inv X pins σ H s) (h:SqC c X.K H a xs) (h':SqC c X.K H a ys):xs = ys:=by
 cases c
 ·exact I.list_inj h h'
 ·exact I.tuple_inj h h'
theorem nne {i j:Nat} (h:i ≠ j):i ≠ j:=h
theorem nin2 {z j t:Nat} (h1:z ≠ j) (h2:z ≠ t):z ∉ ([j,t]:List Nat):=by simp [h1,h2]
def Itz (K:FG7) (c:Bool) (a:Addr) (d:Bool) (b:Addr):It :=
  ⟨fun i H=>∃ xs ys x y,SqC c K H a xs /\ SqC d K H b ys /\ xs[i]? = some x /\ ys[i]? = some y,
   fun i H x H'=>∃ T v w,H T = none /\ x = .ref T /\ H' = upd H T (.tup [v,w]) /\ (∀ xs,SqC c K H a xs -> xs[i]? = some v) /\ ∀ ys,SqC d K H b ys -> ys[i]? = some w,
   fun i H=>∃ xs ys,SqC c K H a xs /\ SqC d K H b ys /\ (xs.length <= i \/ ys.length <= i)⟩
def UG (c d:Bool) (z TI TO i1 i2 a b:Addr) (i:Nat) (h:Heap):Prop :=
 IsZip h z TI TO .none /\ IsPair h TI (.ref i1) (.ref i2) /\ (∃ u v,IsPair h TO u v) /\ uy c h i1 a i /\ uy d h i2 b i
theorem nad {n:Nat} (i j:Nat) (h:i ≠ j):n + i ≠ n + j:=fun z=>h (Nat.add_left_cancel z)
theorem nad0 {n:Nat} (i:Nat) (h:i ≠ 0):n + i ≠ n:=fun z=>h (Nat.add_left_cancel (z.trans (Nat.add_zero n).symm))
theorem Wa {P:Program} {w:World} {K:FG7} {elts:List Expr} {kt:Nat} {pt:Pos} (c d:Bool) (a b n:Nat) (ha:a < n) (hb:b < n) :
  Turn P w K (.Tuple elts kt pt) (Itz K c a d b) [n + 4,n + 3,n + 2,n + 1,n] (n + 4) (UG c d (n + 4) (n + 2) (n + 3) n (n + 1) a b) where
 mem:=by simp
 obj:=fun i h st q hq=>by
  obtain ⟨hz,hI,⟨u,v,hO⟩,s1,s2⟩:=st
  simp only [List.mem_cons,List.mem_nil_iff,or_false] at hq
  rcases hq with rfl | rfl | rfl | rfl | rfl
  ·exact ⟨_,hz,fun v z=>by cases z⟩
  ·exact ⟨_,hO,fun v z=>by cases z⟩
  ·exact ⟨_,hI,fun v z=>by cases z⟩
  ·exact s2.obj
  ·exact s1.obj
 keep:=fun i h h' st k=>by
  obtain ⟨hz,hI,⟨u,v,hO⟩,s1,s2⟩:=st
  exact ⟨k _ (by simp) _ hz,k _ (by simp) _ hI,⟨u,v,k _ (by simp) _ hO⟩,s1.at (k _ (by simp)),s2.at (k _ (by simp))⟩
 item:=by
  intro X hP hw hK hc i pins s σ H E I hf st hg
  subst hP hw hK
  obtain ⟨hz,hI,⟨u0,v0,hO⟩,s1,s2⟩:=st
  obtain ⟨xs,ys,x,y,hqa,hqb,hx,hy⟩:=hg
  obtain ⟨ia,ra,pa⟩:=wo I hqa
  obtain ⟨ib,rb,pb⟩:=wo I hqb
  obtain ⟨u,hu,ru⟩:=ra.get hx
  obtain ⟨v,hv,rv⟩:=rb.get hy
  have l1:i < ia.toArray.size:=by have:=(List.getElem?_eq_some_iff.mp hu).1; simpa using this
  have l2:i < ib.toArray.size:=by have:=(List.getElem?_eq_some_iff.mp hv).1; simpa using this
  have an:a ≠ n:=Nat.ne_of_lt ha
  have bn:b ≠ n + 1:=by omega
  refine YM hz (wpAny_mono (YK (A:=X.A.in1) (Q:=fun v s1=>∃ u,some v = some u /\ wpAny (model X.prog X.w) X.A (letOwnedTupleGo (.Tuple elts kt pt) (.ref (n + 4)) u) (fun _ s2=>∃ x H',Inv X pins σ H' s2 /\ RelV x u /\ (Itz X.K c a d b).yld i H x H' /\ UG c d (n + 4) (n + 2) (n + 3) n (n + 1) a b (i + 1) s2.heap /\ ∀ b ∈ [n + 4,n + 3,n + 2,n + 1,n],H' b = none) E s1) (YO (A:=X.A.in1) (I.ok.hd hc) c n a an ia.toArray) (YO (A:=X.A.in1) (I.ok.hd hc) d (n + 1) b bn ib.toArray) hz hI hO ⟨s1,pa⟩ ⟨s2,pb⟩ l1 l2
   (nin2 (by first | exact nad _ _ (by decide) | exact nad0 _ (by decide) | exact (nad0 _ (by decide)).symm | omega) (by first | exact nad _ _ (by decide) | exact nad0 _ (by decide) | exact (nad0 _ (by decide)).symm | omega)) (nin2 (by first | exact nad _ _ (by decide) | exact nad0 _ (by decide) | exact (nad0 _ (by decide)).symm | omega) (by first | exact nad _ _ (by decide) | exact nad0 _ (by decide) | exact (nad0 _ (by decide)).symm | omega)) (nin2 (by first | exact nad _ _ (by decide) | exact nad0 _ (by decide) | exact (nad0 _ (by decide)).symm | omega) (by first | exact nad _ _ (by decide) | exact nad0 _ (by decide) | exact (nad0 _ (by decide)).symm | omega)) (nin2 (by first | exact nad _ _ (by decide) | exact nad0 _ (by decide) | exact (nad0 _ (by decide)).symm | omega) (by first | exact nad _ _ (by decide) | exact nad0 _ (by decide) | exact (nad0 _ (by decide)).symm | omega)) (nin2 (by first | exact nad _ _ (by decide) | exact nad0 _ (by decide) | exact (nad0 _ (by decide)).symm | omega) (by first | exact nad _ _ (by decide) | exact nad0 _ (by decide) | exact (nad0 _ (by decide)).symm | omega)) (nin2 (by first | exact nad _ _ (by decide) | exact nad0 _ (by decide) | exact (nad0 _ (by decide)).symm | omega) (by first | exact nad _ _ (by decide) | exact nad0 _ (by decide) | exact (nad0 _ (by decide)).symm | omega)) (nne (by first | exact nad _ _ (by decide) | exact nad0 _ (by decide) | exact (nad0 _ (by decide)).symm | omega)) (nne (by first | exact nad _ _ (by decide) | exact nad0 _ (by decide) | exact (nad0 _ (by decide)).symm | omega)) (nne (by first | exact nad _ _ (by decide) | exact nad0 _ (by decide) | exact (nad0 _ (by decide)).symm | omega)) (nne (by first | exact nad _ _ (by decide) | exact nad0 _ (by decide) | exact (nad0 _ (by decide)).symm | omega)) (nne (by first | exact nad _ _ (by decide) | exact nad0 _ (by decide) | exact (nad0 _ (by decide)).symm | omega)) (nne (by first | exact nad _ _ (by decide) | exact nad0 _ (by decide) | exact (nad0 _ (by decide)).symm | omega)) (nne (by first | exact nad _ _ (by decide) | exact nad0 _ (by decide) | exact (nad0 _ (by decide)).symm | omega)) (nne (by first | exact nad _ _ (by decide) | exact nad0 _ (by decide) | exact (nad0 _ (by decide)).symm | omega)) (nne (by first | exact nad _ _ (by decide) | exact nad0 _ (by decide) | exact (nad0 _ (by decide)).symm | omega)) ?_) (fun fin s' hq=>hq) (fun e s' (hq:False)=>hq.elim))
  intro p q h1 tk hp hq hz1 hI1 hO1 st1 st2 hT hsz hk
  have ep:p = u:=by
   have e1:ia.toArray[i]? = some p:=hp
   have e2:ia.toArray[i]? = some u:=by simpa using hu
   rw [e1] at e2; exact Option.some.inj e2
  have eq':q = v:=by
   have e1:ib.toArray[i]? = some q:=hq
   have e2:ib.toArray[i]? = some v:=by simpa using hv
   rw [e1] at e2; exact Option.some.inj e2
  subst ep eq'
  refine ⟨_,rfl,wpAny_letOwnedTupleGo_zip (s:={ s with heap:=h1,toks:=tk }) hz1 fun h2 hz2 hs2=>?_⟩
  have hk2:∀ b o,b ∉ [n + 4,n + 3,n + 2,n + 1,n] -> s.heap.get? b = some o -> h2.get? b = some o:=fun b o hb q=>by
   have n1:b ≠ n + 4:=fun z=>hb (by simp [z])
   have n2:b ≠ n + 3:=fun z=>hb (by simp [z])
   have n3:b ≠ n + 1:=fun z=>hb (by simp [z])
   have n4:b ≠ n:=fun z=>hb (by simp [z])
   exact (hs2.2 b n1).trans (hk b o n1 n2 n4 n3 q)
  have zs:n + 4 < s.heap.objs.size:=Heap.lt_size hz
  have hT2:h2.get? s.heap.objs.size = some { cls:=.type "tuple",data:=.seq #[p,q] }:=(hs2.2 _ (Nat.ne_of_gt zs)).trans hT
  have hn:H s.heap.objs.size = none:=I.hok.fresh (Nat.le_refl _)
  have I2:Inv X pins σ (upd H s.heap.objs.size (.tup [x,y])) { s with heap:=h2,toks:=tk }:=jV (s:=s) I hk2 hf (Nat.le_refl _) ⟨by show 2 <= sizeLine; decide,[p,q],.cons ru (.cons rv .nil),_,hT2,rfl,0,rfl⟩
  refine ⟨.ref s.heap.objs.size,upd H s.heap.objs.size (.tup [x,y]),I2,rfl,⟨_,x,y,hn,rfl,rfl,fun zs hz=>by rw [vI I hz hqa]; exact hx,fun zs hz=>by rw [vI I hz hqb]; exact hy⟩,⟨hz2,(hs2.2 _ (nne (by first | exact nad _ _ (by decide) | exact nad0 _ (by decide) | exact (nad0 _ (by decide)).symm | omega))).trans hI1,⟨p,q,(hs2.2 _ (nne (by first | exact nad _ _ (by decide) | exact nad0 _ (by decide) | exact (nad0 _ (by decide)).symm | omega))).trans hO1⟩,st1.1.at fun o e=>(hs2.2 _ (nne (by first | exact nad _ _ (by decide) | exact nad0 _ (by decide) | exact (nad0 _ (by decide)).symm | omega))).trans e,st2.1.at fun o e=>(hs2.2 _ (nne (by first | exact nad _ _ (by decide) | exact nad0 _ (by decide) | exact (nad0 _ (by decide)).symm | omega))).trans e⟩,fun q hq=>?_⟩
  have nb:q ≠ s.heap.objs.size:=by
   simp only [List.mem_cons,List.mem_nil_iff,or_false] at hq
   omega
  rw [zn nb]; exact (hf q hq).1
 done:=by
  intro X hP hw hK hc i pins s σ H E I hf st hg
  subst hP hw hK
  obtain ⟨hz,hI,⟨u0,v0,hO⟩,s1,s2⟩:=st
  obtain ⟨xs,ys,hqa,hqb,hl⟩:=hg
  obtain ⟨ia,ra,pa⟩:=wo I hqa
  obtain ⟨ib,rb,pb⟩:=wo I hqb
  have la:=ra.length
  have lb:=rb.length
  have an:a ≠ n:=Nat.ne_of_lt ha
  have fin:∀ (h':Heap) (e:Addr) (tk:Nat),(∀ c o,c ≠ n + 4 -> c ≠ n + 3 -> c ≠ n -> c ≠ n + 1 -> s.heap.get? c = some o -> h'.get? c = some o) -> Inv X pins σ H { s with heap:=h',toks:=tk }:=fun h' e tk k =>
   qW (fp:=[n + 4,n + 3,n + 2,n + 1,n]) I (fun b o hb q=>k b o (fun z=>hb (by simp [z])) (fun z=>hb (by simp [z])) (fun z=>hb (by simp [z])) (fun z=>hb (by simp [z])) q) hf
  by_cases h1:xs.length <= i
  ·refine YM hz (X8 (A:=X.A.in1) (tE (A:=X.A.in1) (I.ok.hd hc) c n a ia.toArray (i:=i) (by simp; omega)) hz hI hO ⟨rfl,s1,pa⟩ (nin2 (by first | exact nad _ _ (by decide) | exact nad0 _ (by decide) | exact (nad0 _ (by decide)).symm | omega) (by first | exact nad _ _ (by decide) | exact nad0 _ (by decide) | exact (nad0 _ (by decide)).symm | omega)) (nne (by first | exact nad _ _ (by decide) | exact nad0 _ (by decide) | exact (nad0 _ (by decide)).symm | omega)) fun h' e tk k ho=>⟨e,rfl,ho,rfl,fin h' e tk k⟩)
  ·have h2:ys.length <= i:=by omega
   refine YM hz (X9 (A:=X.A.in1) (YO (A:=X.A.in1) (I.ok.hd hc) c n a an ia.toArray) (tE (A:=X.A.in1) (I.ok.hd hc) d (n + 1) b ib.toArray (i:=i) (by simp; omega)) hz hI hO ⟨s1,pa⟩ ⟨rfl,s2,pb⟩ (by simp; omega) (nin2 (by first | exact nad _ _ (by decide) | exact nad0 _ (by decide) | exact (nad0 _ (by decide)).symm | omega) (by first | exact nad _ _ (by decide) | exact nad0 _ (by decide) | exact (nad0 _ (by decide)).symm | omega)) (nin2 (by first | exact nad _ _ (by decide) | exact nad0 _ (by decide) | exact (nad0 _ (by decide)).symm | omega) (by first | exact nad _ _ (by decide) | exact nad0 _ (by decide) | exact (nad0 _ (by decide)).symm | omega)) (nin2 (by first | exact nad _ _ (by decide) | exact nad0 _ (by decide) | exact (nad0 _ (by decide)).symm | omega) (by first | exact nad _ _ (by decide) | exact nad0 _ (by decide) | exact (nad0 _ (by decide)).symm | omega)) (nin2 (by first | exact nad _ _ (by decide) | exact nad0 _ (by decide) | exact (nad0 _ (by decide)).symm | omega) (by first | exact nad _ _ (by decide) | exact nad0 _ (by decide) | exact (nad0 _ (by decide)).symm | omega)) (nne (by first | exact nad _ _ (by decide) | exact nad0 _ (by decide) | exact (nad0 _ (by decide)).symm | omega)) (nne (by first | exact nad _ _ (by decide) | exact nad0 _ (by decide) | exact (nad0 _ (by decide)).symm | omega)) (nne (by first | exact nad _ _ (by decide) | exact nad0 _ (by decide) | exact (nad0 _ (by decide)).symm | omega)) (nne (by first | exact nad _ _ (by decide) | exact nad0 _ (by decide) | exact (nad0 _ (by decide)).symm | omega)) fun h' e tk k ho=>⟨e,rfl,ho,rfl,fin h' e tk k⟩)
 self:=fun _ _ _ _ _ st h=>wpAny_pyIter_zip st.1 h
section
variable {X:Cx} {elts:List Expr} {kt:Nat} {pt:Pos}
theorem Tt:bootBuiltins "zip" = some (.type "zip"):=by decide +kernel
def iZip (K:FG7) (ta:TA):TI:=fun σ H R=>ta σ H fun vs H1=>∃ (c d:Bool) (a b:Addr),vs = [.ref a,.ref b] /\ (∃ xs,SqC c K H1 a xs) /\ (∃ ys,SqC d K H1 b ys) /\ R (Itz K c a d b) H1
end
section
variable {X:Cx} {elts:List Expr} {kt:Nat} {pt:Pos} {K:FG7}
theorem YQ {a b:Expr} {ta:TA} {p pos:Pos} (hK:X.K = K) (hg:Gl X "zip") (hm:X.mg "zip" = none) (ha:PA X [a,b] ta) (hs:starEach [a,b] X.env = [(false,eval a X.env),(false,eval b X.env)]:=by rfl) (hs2:starEach [b] X.env = [(false,eval b X.env)]:=by rfl) :
  PI X (.Tuple elts kt pt) (.Call (.Name "zip" p) [a,b] [] pos) (iZip K ta):=by
 subst hK
 intro pins s σ H R I h
 refine Call_ (v8 I hg hm Tt (PyProof.Rows.callWith_type1 (thn (ha pos pins s σ H _ I h) fun us s1 ⟨vs,H1,I1,r1,q1⟩=>?_) (by rw [hs,hs2]) (by rw [hs2]; rfl)))
 obtain ⟨c,d,ra,rb,e,⟨xs,hqa⟩,⟨ys,hqb⟩,q⟩:=q1
 subst e
 obtain ⟨u,w',rfl,e1,e2⟩:=Ya r1
 cases (show u = Value.ref ra from e1)
 cases (show w' = Value.ref rb from e2)
 obtain ⟨ia,va,pa⟩:=wo I1 hqa
 obtain ⟨ib,vb,pb⟩:=wo I1 hqb
 refine YN pa.src pb.src fun h' hz hI hO h1 h2 hk=>?_
 refine wpAny_pyIter_zip (s:={ s1 with heap:=h' }) hz ?_
 have I2:Inv X pins σ H1 { s1 with heap:=h' }:=I1.kept (t':=s1.toks) hk
 refine ⟨s1.heap.objs.size + 4,[s1.heap.objs.size + 4,s1.heap.objs.size + 3,s1.heap.objs.size + 2,s1.heap.objs.size + 1,s1.heap.objs.size],_,_,H1,rfl,I2,Wa c d ra rb s1.heap.objs.size pa.lt pb.lt,⟨hz,hI,⟨_,_,hO⟩,.mk h1,.mk h2⟩,fun b hb=>?_,q⟩
 have hle:s1.heap.objs.size <= b:=by
  simp only [List.mem_cons,List.mem_nil_iff,or_false] at hb
  rcases hb with rfl | rfl | rfl | rfl | rfl <;> first | exact Nat.le_add_right _ _ | exact Nat.le_refl _
 exact I1.fpOk hle (I1.hok.fresh hle)
end
section
variable {K:FG7} {a b:Addr} {c d:Bool} {xs ys:List V} {g:TG} {tt:TT} {te:TE} {tb:TS} {D:Ends} {Q:VK} {σ:L2.St} {H:Hp}
theorem sg (Pv:Nat -> List V -> L2.St -> Hp -> Prop) (h0:Pv 0 [] σ H) (hl:∀ i zs σ H,Pv i zs σ H -> SqC c K H a xs /\ SqC d K H b ys)
  (hs:∀ i x y zs σ H T,xs[i]? = some x -> ys[i]? = some y -> Pv i zs σ H -> H T = none -> g (.ref T) σ (upd H T (.tup [x,y])) fun σ2 H3=>tt σ2 H3 fun b H4=>if b = true then te σ2 H4 fun y H5=>zs.length < sizeLine /\ Pv (i + 1) (zs ++ [y]) σ2 H5 else Pv (i + 1) zs σ2 H4)
  (hd:∀ zs σ H,Pv (min xs.length ys.length) zs σ H -> ∀ l,H l = none -> Q (.ref l) (upd H l (.lst zs))) :
  vO (Itz K c a d b) σ H g tt te Q:=by
 refine ⟨fun i m zs σ H=>m = min xs.length ys.length - i /\ i <= min xs.length ys.length /\ Pv i zs σ H,⟨min xs.length ys.length,by simp,Nat.zero_le _,h0⟩,?_⟩
 rintro i m zs σ H ⟨rfl,hi,p⟩
 obtain ⟨q1,q2⟩:=hl i zs σ H p
 by_cases hlt:i < min xs.length ys.length
 ·have l1:i < xs.length:=by omega
  have l2:i < ys.length:=by omega
  refine .inr ⟨⟨xs,ys,xs[i],ys[i],q1,q2,by simp [l1],by simp [l2]⟩,Pv (i + 1),fun ws σ' H' p'=>⟨min xs.length ys.length - (i + 1),by omega,rfl,hlt,p'⟩,fun x H' y=>?_⟩
  obtain ⟨T,v,w,hT,rfl,rfl,y1,y2⟩:=y
  exact hs i v w zs σ H T (y1 xs q1) (y2 ys q2) p hT
 ·have e:i = min xs.length ys.length:=by omega
  subst e
  exact .inl ⟨⟨xs,ys,q1,q2,by omega⟩,hd zs σ H p⟩
end
section
variable {X:Cx}
variable {K:FG7}
theorem wf {es:List Expr} {k:Nat} {pos:Pos} {t:TGs} (n:Nat) (h0:X.K = K) (hc:X.calm = true) (h:PGs X es t)
  (hn:(assignEach es X.env).length = n) (hst:(assignEach es X.env).findIdx? (·.1) = none):PG X (.Tuple es k pos) (gTup K n t):=by subst h0; exact xc hc h hn hst
end
theorem uf:∀ {ns:List Int} {us:List Value},IntsAre us ns -> Vals (ns.map V.int) us:=by
 intro ns us h
 induction h with
 | nil=>exact .nil
 | cons n t _ ih=>exact .cons ⟨t,rfl⟩ ih
section
variable {X:Cx} {K:FG7}
theorem Wb {k:Nat} (hK:X.K = K) (hr:Room k X.A):OpR X (compareOp .NotEq) (fun x y H Q=>∃ a b xs,x = .ref a /\ y = .ref b /\ SqL K H a xs /\ SqL K H b [] /\ Q (.bl (!xs.isEmpty)) H):=by
 subst hK
 intro pins s σ H x y v u Q I rx ry h
 obtain ⟨a,b,xs,rfl,rfl,ha,hb,q⟩:=h
 cases rx; cases ry
 obtain ⟨us,r1,t1,_⟩:=I.list ha
 obtain ⟨ws,r2,t2,_⟩:=I.list hb
 have hw:ws.length = 0:=r2.length.symm
 by_cases hl:us.length = ws.length
 ·refine SeqAt.RcNeAt.lists (e:=fun _=>true) t1.isList t2.isList (by simpa using hl) hr.units0 (fun j h1 h2=>absurd h2 (by simp; omega)) _ _ _ _ ?_
  have e:xs = []:=List.length_eq_zero_iff.mp (by rw [r1.length]; omega)
  subst e
  have e2:us = []:=List.length_eq_zero_iff.mp (by omega)
  subst e2
  exact ⟨.bl _,H,I,rfl,q⟩
 ·refine SeqAt.RcNeAt.lists_lengths t1.isList t2.isList (by simpa using hl) hr.units0 _ _ _ _ ?_
  have e:xs.isEmpty = false:=by
   cases xs with
   | nil=>exact absurd (by rw [← r1.length,hw]; rfl) hl
   | cons _ _=>rfl
  rw [e] at q
  exact ⟨.bl _,H,I,rfl,q⟩
end
def zQ (k:Nat) (rows:List (List Int)):Prop:=rows.length = k /\ ∀ r ∈ rows,r.length = 2 ^ (k - 1) /\ ∀ b ∈ r,b = 0 \/ b = 1
mutual
inductive Dq (K:FG7) (H:Hp):V -> PyData -> Prop
 | non:Dq K H .non .none
 | bl (b:Bool):Dq K H (.bl b) (.bool b)
 | int (i:Int):Dq K H (.int i) (.int i)
 | str (x:Str):Dq K H (.str x) (.str x)
 | tup {a:Addr} {xs:List V} {ds:List PyData}:SqT K H a xs -> DqAll K H xs ds -> Dq K H (.ref a) (.tuple ds)
 | lst {a:Addr} {xs:List V} {ds:List PyData}:SqL K H a xs -> DqAll K H xs ds -> Dq K H (.ref a) (.list ds)
inductive DqAll (K:FG7) (H:Hp):List V -> List PyData -> Prop
 | nil:DqAll K H [] []
 | cons {x:V} {xs:List V} {d:PyData} {ds:List PyData}:Dq K H x d -> DqAll K H xs ds -> DqAll K H (x :: xs) (d :: ds)
end
mutual
theorem Dat.dq {K:FG7} {H:Hp}:∀ {x:V} {d:PyData},Dat K H x d -> Dq K H x d
 | _,_,.non=>.non
 | _,_,.bl b=>.bl b
 | _,_,.int i=>.int i
 | _,_,.tup h t=>.tup h (DatAll.dq t)
 | _,_,.lst h t=>.lst h (DatAll.dq t)
theorem DatAll.dq {K:FG7} {H:Hp}:∀ {xs:List V} {ds:List PyData},DatAll K H xs ds -> DqAll K H xs ds
 | _,_,.nil=>.nil
 | _,_,.cons h t=>.cons (Dat.dq h) (DatAll.dq t)
end
theorem DqAll.len {K:FG7} {H:Hp}:∀ {xs:List V} {ds:List PyData},DqAll K H xs ds -> xs.length = ds.length
 | _,_,.nil=>rfl
 | _,_,.cons _ t=>congrArg (· + 1) (DqAll.len t)
theorem wp (n:Nat):(List.range n).all (fun _=>true) = true:=List.all_eq_true.mpr fun _ _=>rfl
section
variable {X:Cx} {pins:List (Addr × Obj)} {σ:L2.St} {H:Hp} {s:Shared}
mutual
theorem dq_eq (I:Inv X pins σ H s):∀ {d:PyData} {x y:V} {u v:Value} {A:Around},Dq X.K H x d -> Dq X.K H y d -> RelV x u -> RelV y v -> A.units + d.depth < cLine -> SeqAt.EqAt A s u v true
 | _,_,y,u,v,A,.non,hy,ru,rv,_=>by
  cases hy
  cases (show u = Value.none from ru)
  cases (show v = Value.none from rv)
  exact SeqAt.EqAt.same _
 | _,_,y,u,v,A,.bl b,hy,ru,rv,_=>by
  cases hy
  cases (show u = Value.bool b from ru)
  cases (show v = Value.bool b from rv)
  exact SeqAt.EqAt.same _
 | _,_,y,u,v,A,.int i,hy,ru,rv,_=>by
  cases hy
  obtain ⟨t,rfl⟩:=ru
  obtain ⟨t',rfl⟩:=rv
  have z:=SeqAt.EqAt.int_int (A:=A) (s:=s) i t i t'
  rw [beq_self_eq_true] at z
  exact z
 | _,_,y,u,v,A,.str x,hy,ru,rv,_=>by
  cases hy
  obtain ⟨t,rfl⟩:=ru
  obtain ⟨t',rfl⟩:=rv
  have z:=SeqAt.EqAt.str_str (A:=A) (s:=s) x t x t'
  rw [beq_self_eq_true] at z
  exact z
 | _,_,y,u,v,A,.tup (a:=a) (xs:=xs) (ds:=ds) hs ha,hy,ru,rv,hu=>by
  cases hy with
  | tup hs' ha' =>
   rename_i a' xs'
   cases (show u = Value.ref a from ru)
   cases (show v = Value.ref a' from rv)
   obtain ⟨us,r1,t1,_⟩:=I.tuple hs
   obtain ⟨ws,r2,t2,_⟩:=I.tuple hs'
   have hd:A.units + (PyData.depthAll ds + 1) < cLine:=hu
   by_cases e:a = a'
   ·subst e; exact SeqAt.EqAt.same _
   ·have l1:=ha.len
    have l2:=ha'.len
    have q:=SeqAt.RcAt.tuples (e:=fun _=>true) (yx t1) (yx t2) (by omega) (dqs_eq I ha ha' r1 r2 (A:=A.in1) (by show A.units + 1 + PyData.depthAll ds < cLine; omega))
    rw [wp,Bool.true_and,List.size_toArray,List.size_toArray,← r1.length,← r2.length,l1,l2,beq_self_eq_true] at q
    exact SeqAt.EqAt.of_refs e q
 | _,_,y,u,v,A,.lst (a:=a) (xs:=xs) (ds:=ds) hs ha,hy,ru,rv,hu=>by
  cases hy with
  | lst hs' ha' =>
   rename_i a' xs'
   cases (show u = Value.ref a from ru)
   cases (show v = Value.ref a' from rv)
   obtain ⟨us,r1,t1,_⟩:=I.list hs
   obtain ⟨ws,r2,t2,_⟩:=I.list hs'
   have hd:A.units + (PyData.depthAll ds + 1) < cLine:=hu
   by_cases e:a = a'
   ·subst e; exact SeqAt.EqAt.same _
   ·have l1:=ha.len
    have l2:=ha'.len
    have q:=SeqAt.RcAt.lists (e:=fun _=>true) t1.isList t2.isList (by rw [List.size_toArray,List.size_toArray,← r1.length,← r2.length,l1,l2]) (by omega) (dqs_eq I ha ha' r1 r2 (A:=A.in1) (by show A.units + 1 + PyData.depthAll ds < cLine; omega))
    rw [wp] at q
    exact SeqAt.EqAt.of_refs e q
theorem dqs_eq (I:Inv X pins σ H s):∀ {ds:List PyData} {xs ys:List V} {us vs:List Value} {A:Around},DqAll X.K H xs ds -> DqAll X.K H ys ds -> Vals xs us -> Vals ys vs -> A.units + PyData.depthAll ds < cLine →
  ∀ j (h1:j < us.toArray.size) (h2:j < vs.toArray.size),SeqAt.EqAt A s us.toArray[j] vs.toArray[j] true
 | _,_,_,_,_,A,.nil,hy,ru,rv,_=>fun j h1 _=>by
  cases ru
  exact absurd h1 (Nat.not_lt_zero j)
 | _,_,_,_,_,A,.cons (d:=d) (ds:=ds) hx tx,hy,ru,rv,hd=>fun j h1 h2=>by
  cases hy with
  | cons hy ty =>
   cases ru with
   | cons r1 rr1 =>
    cases rv with
    | cons r2 rr2 =>
     have hd':A.units + max d.depth (PyData.depthAll ds) < cLine:=hd
     cases j with
     | zero=>simpa using dq_eq I hx hy r1 r2 (A:=A) (by omega)
     | succ j =>
      have z:=dqs_eq I tx ty rr1 rr2 (A:=A) (by omega) j (by simpa using h1) (by simpa using h2)
      simpa using z
end
variable {K:FG7}
def Wc (K:FG7) (neg:Bool):R2:=fun x y H Q=>∃ d,Dq K H x d /\ Dq K H y d /\ (∃ a,x = .ref a) /\ d.depth <= 100 /\ Q (.bl neg) H
theorem UH {k:Nat} (hK:X.K = K) (hr:Room k X.A):OpR X (compareOp .Eq) (Wc K true):=by
 subst hK
 intro pins s σ H x y u v Q I rx ry h
 obtain ⟨d,hx,hy,⟨a0,e0⟩,hd,q⟩:=h
 have hu:=hr.un
 cases hx with
 | non=>cases e0
 | bl b=>cases e0
 | int i=>cases e0
 | str x=>cases e0
 | tup hs ha =>
  cases hy with
  | tup hs' ha' =>
   rename_i a xs ds a' xs'
   cases (show u = Value.ref a from rx)
   cases (show v = Value.ref a' from ry)
   obtain ⟨us,r1,t1,_⟩:=I.tuple hs
   obtain ⟨ws,r2,t2,_⟩:=I.tuple hs'
   have hd':PyData.depthAll ds + 1 <= 100:=hd
   refine SeqAt.eq_tupleAt (e:=fun _=>true) (yx t1) (yx t2) hr.units0 (dqs_eq I ha ha' r1 r2 (A:=X.A.in1) (by show X.A.units + 1 + PyData.depthAll ds < cLine; omega)) ?_
   rw [wp,Bool.true_and,List.size_toArray,List.size_toArray,← r1.length,← r2.length,ha.len,ha'.len,beq_self_eq_true]
   exact ⟨.bl true,H,I,rfl,q⟩
 | lst hs ha =>
  cases hy with
  | lst hs' ha' =>
   rename_i a xs ds a' xs'
   cases (show u = Value.ref a from rx)
   cases (show v = Value.ref a' from ry)
   obtain ⟨us,r1,t1,_⟩:=I.list hs
   obtain ⟨ws,r2,t2,_⟩:=I.list hs'
   have hd':PyData.depthAll ds + 1 <= 100:=hd
   refine SeqAt.eq_listAt (e:=fun _=>true) t1.isList t2.isList (by rw [List.size_toArray,List.size_toArray,← r1.length,← r2.length,ha.len,ha'.len]) hr.units0 (dqs_eq I ha ha' r1 r2 (A:=X.A.in1) (by show X.A.units + 1 + PyData.depthAll ds < cLine; omega)) ?_
   rw [wp]
   exact ⟨.bl true,H,I,rfl,q⟩
theorem UI {k:Nat} (hK:X.K = K) (hr:Room k X.A):OpR X (compareOp .NotEq) (Wc K false):=by
 subst hK
 intro pins s σ H x y u v Q I rx ry h
 obtain ⟨d,hx,hy,⟨a0,e0⟩,hd,q⟩:=h
 have hu:=hr.un
 cases hx with
 | non=>cases e0
 | bl b=>cases e0
 | int i=>cases e0
 | str x=>cases e0
 | tup hs ha =>
  cases hy with
  | tup hs' ha' =>
   rename_i a xs ds a' xs'
   cases (show u = Value.ref a from rx)
   cases (show v = Value.ref a' from ry)
   obtain ⟨us,r1,t1,_⟩:=I.tuple hs
   obtain ⟨ws,r2,t2,_⟩:=I.tuple hs'
   have hd':PyData.depthAll ds + 1 <= 100:=hd
   refine SeqAt.RcNeAt.tuples (e:=fun _=>true) (yx t1) (yx t2) hr.units0 (dqs_eq I ha ha' r1 r2 (A:=X.A.in1) (by show X.A.units + 1 + PyData.depthAll ds < cLine; omega)) _ _ _ _ ?_
   rw [wp,Bool.true_and,List.size_toArray,List.size_toArray,← r1.length,← r2.length,ha.len,ha'.len,beq_self_eq_true]
   exact ⟨.bl false,H,I,rfl,q⟩
 | lst hs ha =>
  cases hy with
  | lst hs' ha' =>
   rename_i a xs ds a' xs'
   cases (show u = Value.ref a from rx)
   cases (show v = Value.ref a' from ry)
   obtain ⟨us,r1,t1,_⟩:=I.list hs
   obtain ⟨ws,r2,t2,_⟩:=I.list hs'
   have hd':PyData.depthAll ds + 1 <= 100:=hd
   refine SeqAt.RcNeAt.lists (e:=fun _=>true) t1.isList t2.isList (by rw [List.size_toArray,List.size_toArray,← r1.length,← r2.length,ha.len,ha'.len]) hr.units0 (dqs_eq I ha ha' r1 r2 (A:=X.A.in1) (by show X.A.units + 1 + PyData.depthAll ds < cLine; omega)) _ _ _ _ ?_
   rw [wp]
   exact ⟨.bl false,H,I,rfl,q⟩
end
def xN (k st a:Nat):Nat:=a ^^^ 2 ^ (k - st)
def nN (k st a:Nat):Nat:=(Zr k a st).toNat
theorem YR:∀ k:Fin 5,∀ st:Fin 5,1 <= st.val -> st.val <= k.val -> ∀ a:Fin 16,a.val < 2 ^ k.val →
  (swI k.val st.val a.val = Zr k.val a.val st.val /\ Zr k.val a.val st.val = (nN k.val st.val a.val:Int) /\ nN k.val st.val a.val < 2 ^ (k.val - 1) /\ nN k.val st.val (xN k.val st.val a.val) = nN k.val st.val a.val) ∧
  (xN k.val st.val (xN k.val st.val a.val) = a.val /\ xN k.val st.val a.val ≠ a.val /\ xN k.val st.val a.val < 2 ^ k.val) ∧
  (wfI k.val st.val a.val (Builtin.bitXor (figI k.val st.val a.val) 0) = (a.val:Int) /\ wfI k.val st.val a.val (Builtin.bitXor (figI k.val st.val a.val) 1) = (xN k.val st.val a.val:Int)) ∧
  (Builtin.bitXor (figI k.val st.val a.val) (figI k.val st.val (xN k.val st.val a.val)) = 1 /\ Builtin.bitXor (figI k.val st.val a.val) (figI k.val st.val a.val) = 0) ∧
  ((Builtin.bitXor (figI k.val st.val a.val) 0 = 0 \/ Builtin.bitXor (figI k.val st.val a.val) 0 = 1) /\ (Builtin.bitXor (figI k.val st.val a.val) 1 = 0 \/ Builtin.bitXor (figI k.val st.val a.val) 1 = 1)):=by
 decide +kernel
theorem YS:∀ k:Fin 5,∀ st:Fin 5,1 <= st.val -> st.val <= k.val -> ∀ a:Fin 16,a.val < 2 ^ k.val -> ∀ b:Fin 16,b.val < 2 ^ k.val -> nN k.val st.val a.val = nN k.val st.val b.val -> b.val = a.val \/ b.val = xN k.val st.val a.val:=by
 decide +kernel
structure OneF (k st a:Nat):Prop where
 sw:swI k st a = Zr k a st
 num:Zr k a st = (nN k st a:Int)
 lt:nN k st a < 2 ^ (k - 1)
 nx:nN k st (xN k st a) = nN k st a
 xx:xN k st (xN k st a) = a
 xne:xN k st a ≠ a
 xlt:xN k st a < 2 ^ k
 w0:wfI k st a (Builtin.bitXor (figI k st a) 0) = (a:Int)
 w1:wfI k st a (Builtin.bitXor (figI k st a) 1) = (xN k st a:Int)
 c1:Builtin.bitXor (figI k st a) (figI k st (xN k st a)) = 1
 c0:Builtin.bitXor (figI k st a) (figI k st a) = 0
 b0:Builtin.bitXor (figI k st a) 0 = 0 \/ Builtin.bitXor (figI k st a) 0 = 1
 b1:Builtin.bitXor (figI k st a) 1 = 0 \/ Builtin.bitXor (figI k st a) 1 = 1
theorem oneF {k st a:Nat} (k4:k <= 4) (s1:1 <= st) (s2:st <= k) (ha:a < 2 ^ k):OneF k st a:=by
 have p:=xm k4
 obtain ⟨⟨a1,a2,a3,a4⟩,⟨b1,b2,b3⟩,⟨c1,c2⟩,⟨d1,d2⟩,e1,e2⟩:=YR ⟨k,by omega⟩ ⟨st,by omega⟩ s1 s2 ⟨a,by omega⟩ ha
 exact ⟨a1,a2,a3,a4,b1,b2,b3,c1,c2,d1,d2,e1,e2⟩
theorem twoF {k st a b:Nat} (k4:k <= 4) (s1:1 <= st) (s2:st <= k) (ha:a < 2 ^ k) (hb:b < 2 ^ k) (e:nN k st a = nN k st b):b = a \/ b = xN k st a:=by
 have p:=xm k4
 exact YS ⟨k,by omega⟩ ⟨st,by omega⟩ s1 s2 ⟨a,by omega⟩ ha ⟨b,by omega⟩ hb e
theorem Vv {k:Nat} (h:1 <= k):2 ^ k / 2 = 2 ^ (k - 1):=by
 obtain ⟨n,rfl⟩:∃ n,k = n + 1:=⟨k - 1,by omega⟩
 rw [Nat.pow_succ,Nat.mul_div_cancel _ (by decide)]; rfl
theorem Vw {k:Nat} (h:k <= 4):(1:Int) * 2 ^ ((k:Int)).toNat / 2 ^ (1:Int).toNat = ((2 ^ k / 2:Nat):Int):=by
 have key:∀ k:Fin 5,(1:Int) * 2 ^ ((k.val:Int)).toNat / 2 ^ (1:Int).toNat = ((2 ^ k.val / 2:Nat):Int):=by decide
 exact key ⟨k,by omega⟩
def Bits (r:List Int):Prop:=∀ b ∈ r,b = 0 \/ b = 1
def wE (_:FG7):Sp:=sp1 fun x H Q=>∃ k:Nat,x = .int k /\ k <= 4 /\ Q (.int (2 ^ k / 2:Nat)) H
def vJ (K:FG7):Sp:=sp2 fun x y H Q=>∃ (k:Nat) (row:List Int),x = .int k /\ k <= 4 /\ zD K H y row /\ row.length = 2 ^ k / 2 /\ Bits row /\ ∀ H',Grow [] H H' -> Q (.bl true) H'
def wF (K:FG7):Sp:=sp2 fun x y H Q=>∃ (k:Nat) (rows:List (List Int)),x = .int k /\ k <= 4 /\ xy K H y rows /\ zQ k rows /\ ∀ H',Grow [] H H' -> Q (.bl true) H'
def yw (K:FG7):Sp:=sp2 fun x y H Q=>∃ (k:Nat) (rows:List (List Int)),x = .int k /\ k <= 4 /\ xy K H y rows /\ zQ k rows /\ ∀ H',Grow [] H H' -> Q .non H'
def xJ (gs:List Nat):List V:=gs.map fun g:Nat=>V.int g
theorem zQ.bits {k n:Nat} {rows:List (List Int)} (h:zQ k rows) (hn:n < k):(rows.getD n []).length = 2 ^ (k - 1) /\ Bits (rows.getD n []):=by
 have e:rows[n]? = some (rows.getD n []):=by rw [List.getD_eq_getElem?_getD,List.getElem?_eq_getElem (by rw [h.1]; exact hn)]; rfl
 exact h.2 _ (List.mem_of_getElem? e)
theorem rN {gs:List Nat} {i:Nat} {x:V} (h:(xJ gs)[i]? = some x):i < gs.length /\ x = .int (gs.getD i 0:Nat):=by
 unfold xJ at h
 rw [List.getElem?_map] at h
 cases e:gs[i]? with
 | none=>rw [e] at h; cases h
 | some g =>
  rw [e] at h
  refine ⟨(List.getElem?_eq_some_iff.mp e).1,?_⟩
  rw [List.getD_eq_getElem?_getD,e]
  exact (Option.some.inj h).symm
theorem sh:∀ ns:List Int,PyData.depthAll (ns.map PyData.int) = 0
 | []=>rfl
 | n :: ns=>by
  show max (PyData.depth (.int n)) (PyData.depthAll (ns.map PyData.int)) = 0
  rw [sh ns]; rfl
theorem AllR.of_get {α:Type} {R:V -> α -> Prop}:∀ {xs:List V} {ks:List α},xs.length = ks.length -> (∀ (i:Nat) (x:V),xs[i]? = some x -> ∃ k,ks[i]? = some k /\ R x k) -> AllR R xs ks
 | [],[],_,_=>trivial
 | x :: xs,k :: ks,hl,h=>by
  refine ⟨?_,AllR.of_get (by simpa using hl) fun i y hy=>by simpa using h (i + 1) y (by simpa using hy)⟩
  obtain ⟨k',e,r⟩:=h 0 x rfl
  cases e
  exact r
 | [],_ :: _,hl,_=>by simp at hl
 | _ :: _,[],hl,_=>by simp at hl
section
variable {X:Cx} {K:FG7}
def ItrD (lo:Int) (n:Nat):It:=⟨fun i _=>i < n,fun i H x H'=>H' = H /\ x = .int (lo - i),fun i _=>n <= i⟩
theorem q9 {P:Program} {w:World} {K:FG7} {tg:Expr} (it:Addr) (lo:Int) (n:Nat):Turn P w K tg (ItrD lo n) [it] it (fun i h=>IsRangeIter h it (lo + (i:Nat) * (-1)) ((n:Int) - (i:Nat)) (-1)) where
 mem:=by simp
 obj:=fun i h st b hb=>by
  obtain rfl:b = it:=by simpa using hb
  refine ⟨_,st,fun v z=>?_⟩
  have z':Data.fields _ = Data.cell v:=z
  cases z'
 keep:=fun i h h' st k=>k it (by simp) _ st
 item:=by
  intro X hP hw hK hc i pins s σ H E I hf st hg
  subst hP hw hK
  obtain ⟨f0,f1,f2,f3,f4,f5⟩:=hf it (by simp)
  have W:=Walks.range (prog:=X.prog) (w:=X.w) (I.ok.hd hc) it lo (-1) n
  refine W.item i s _ _ hg st fun v h' tk hv st' kk=>?_
  obtain ⟨t,rfl⟩:=hv
  have J:Inv X pins σ H { s with heap:=h',toks:=tk }:=I.turned (fun b o hb e=>kk b o (by simpa using hb) e) f0 f1 f3 f4 f5
  refine ⟨_,rfl,Z1 (s:={ s with heap:=h',toks:=tk }) (n:="range_iterator") st' rfl rfl (by decide) ⟨.int (lo - i),H,J,⟨t,?_⟩,⟨rfl,rfl⟩,st',fun b hb=>(hf b hb).1⟩⟩
  rw [show lo + (i:Int) * (-1) = lo - i by omega]
 done:=by
  intro X hP hw hK hc i pins s σ H E I hf st hg
  subst hP hw hK
  obtain ⟨f0,f1,f2,f3,f4,f5⟩:=hf it (by simp)
  exact wpAny_pyNext_range_end (I.ok.hd hc) st (by have:n <= i:=hg; omega) fun h' eb=>⟨rfl,I.turned (t':=s.toks) (fun b o hb e=>eb b o hb e) f0 f1 f3 f4 f5⟩
 self:=fun _ _ _ _ _ st h=>wpAny_pyIter_rangeiter st h
theorem UJ (a b:Int):Builtin.Range.rangeSize a b (-1) = ((a - b).toNat:Int):=by
 unfold Builtin.Range.rangeSize
 simp only [show ¬ ((-1:Int) > 0) by decide,if_false,show (- -1:Int) = 1 from rfl,Int.ediv_one]
 split <;> omega
theorem UK {a b:Int} (h1:-1000 <= a) (h2:a <= 1000) (h3:-1000 <= b) (h4:b <= 1000):Builtin.Range.small a b (-1) = true:=by
 unfold Builtin.Range.small
 rw [UJ]
 simp only [Builtin.Range.rangeFitsLong,Bool.and_eq_true,Bool.or_eq_true,decide_eq_true_eq,beq_iff_eq,show ¬ ((-1:Int) > 0) by decide,if_false]
 omega
def Tu (ta:TA):TI:=fun σ H R=>ta σ H fun vs H1=>∃ i j:Int,vs = [.int i,.int j,.int (-1)] /\ -1000 <= i /\ i <= 1000 /\ -1000 <= j /\ j <= 1000 /\ R (ItrD i (i - j).toNat) H1
theorem rO {tg a b c:Expr} {ta:TA} {p pos:Pos} (hg:Gl X "range") (hm:X.mg "range" = none) (ha:PA X [a,b,c] ta)
  (hs:starEach [a,b,c] X.env = [(false,eval a X.env),(false,eval b X.env),(false,eval c X.env)]:=by rfl) (hs2:starEach [b,c] X.env = [(false,eval b X.env),(false,eval c X.env)]:=by rfl) :
  PI X tg (.Call (.Name "range" p) [a,b,c] [] pos) (Tu ta):=by
 intro pins s σ H R I h
 refine Call_ (v8 I hg hm boot_range (PyProof.Rows.callWith_type1 (thn (ha pos pins s σ H _ I h) fun us s1 ⟨vs,H1,I1,r1,q1⟩=>?_) (by rw [hs,hs2]) (by rw [hs2]; rfl)))
 obtain ⟨i,j,e,b1,b2,b3,b4,q⟩:=q1
 subst e
 cases r1 with
 | cons r rr =>
  cases rr with
  | cons r' rr =>
   cases rr with
   | cons r'' rr =>
    cases rr
    obtain ⟨t,rfl⟩:=r
    obtain ⟨t',rfl⟩:=r'
    obtain ⟨t'',rfl⟩:=r''
    refine call_range_3 (by decide) ?_ (Or.inl (PyProof.noPylong_small (by omega)))
    refine wpAny_pyIter_range (IsRange.new ..) (UK b1 b2 b3 b4) ?_
    have I2:Inv X pins σ H1 { s1 with heap:=s1.heap.push { cls:=.type "range",data:=.fields #[.int i t,.int j t',.int (-1) t''] },toks:=s1.toks }:=I1.kept fun b o e=>Heap.get?_push_of_some _ e
    refine ⟨(s1.heap.push { cls:=.type "range",data:=.fields #[.int i t,.int j t',.int (-1) t''] }).objs.size,[(s1.heap.push { cls:=.type "range",data:=.fields #[.int i t,.int j t',.int (-1) t''] }).objs.size],_,_,H1,rfl,
     I2.kept (t':=s1.toks) fun b o e=>Heap.get?_push_of_some _ e,q9 _ i (i - j).toNat,?_,fun b hb=>?_,q⟩
    ·show IsRangeIter _ _ (i + ((0:Nat):Int) * (-1)) ((((i - j).toNat:Nat):Int) - ((0:Nat):Int)) (-1)
     rw [show i + ((0:Nat):Int) * (-1) = i by simp,show (((i - j).toNat:Nat):Int) - ((0:Nat):Int) = Builtin.Range.rangeSize i j (-1) by rw [UJ]; simp]
     exact Heap.get?_push_size _ rfl
    ·obtain rfl:b = (s1.heap.push { cls:=.type "range",data:=.fields #[.int i t,.int j t',.int (-1) t''] }).objs.size:=by simpa using hb
     exact I2.fpOk (Nat.le_refl _) (I2.hok.fresh (Nat.le_refl _))
theorem tF {lo:Int} {n:Nat} {g:TG} {tb:TS} {D:Ends} {σ:L2.St} {H:Hp} (Pv:Nat -> L2.St -> Hp -> Prop) (h0:Pv 0 σ H)
  (hs:∀ i σ H,i < n -> Pv i σ H -> g (.int (lo - i)) σ H fun σ2 H2=>tb { D with nx:=Pv (i + 1),ct:=Pv (i + 1),bk:=D.nx } σ2 H2) (hd:∀ σ H,Pv n σ H -> D.nx σ H) :
  ∃ W:Nat -> Nat -> L2.St -> Hp -> Prop,(∃ m,W 0 m σ H) /\ ∀ i m σ H,W i m σ H →
   ((ItrD lo n).stop i H /\ D.nx σ H) \/ ((ItrD lo n).go i H /\ ∃ N:L2.St -> Hp -> Prop,(∀ σ' H',N σ' H' -> ∃ m',m' < m /\ W (i + 1) m' σ' H') /\ ∀ x H',(ItrD lo n).yld i H x H' -> g x σ H' fun σ2 H2=>tb { D with nx:=N,ct:=N,bk:=D.nx } σ2 H2):=by
 refine ⟨fun i m σ H=>m = n - i /\ i <= n /\ Pv i σ H,⟨n,by simp,Nat.zero_le _,h0⟩,?_⟩
 rintro i m σ H ⟨rfl,hi,p⟩
 by_cases c:i < n
 ·refine .inr ⟨c,Pv (i + 1),fun σ' H' p'=>⟨n - (i + 1),by omega,rfl,c,p'⟩,?_⟩
  rintro x H' ⟨rfl,rfl⟩
  exact hs i σ _ c p
 ·obtain rfl:i = n:=by omega
  exact .inl ⟨Nat.le_refl _,hd σ H p⟩
end
def wfN (k s l:Nat) (w:Int):Nat:=(wfI k s l w).toNat
theorem YT:∀ k:Fin 5,∀ s:Fin 5,1 <= s.val -> s.val <= k.val -> ∀ l:Fin 16,l.val < 2 ^ k.val -> ∀ w:Fin 2,
  (wfI k.val s.val l.val w.val = (wfN k.val s.val l.val w.val:Int) /\ wfN k.val s.val l.val w.val < 2 ^ k.val /\ figI k.val s.val (wfN k.val s.val l.val w.val) = w.val) /\ ∀ t:Fin 5,t.val <= k.val -> t.val ≠ s.val -> figI k.val t.val (wfN k.val s.val l.val w.val) = figI k.val t.val l.val:=by
 decide +kernel
theorem tG:∀ k:Fin 5,∀ l:Fin 16,l.val < 2 ^ k.val -> (∀ t:Fin 5,figI k.val t.val l.val = 0 \/ figI k.val t.val l.val = 1) /\ ∀ m:Fin 16,m.val < 2 ^ k.val -> (∀ t:Fin 5,1 <= t.val -> t.val <= k.val -> figI k.val t.val l.val = figI k.val t.val m.val) -> l = m:=by
 decide +kernel
structure WfF (k s l:Nat) (w:Int):Prop where
 eq:wfI k s l w = (wfN k s l w:Int)
 lt:wfN k s l w < 2 ^ k
 at_:figI k s (wfN k s l w) = w
 off:∀ t:Nat,t <= k -> t ≠ s -> figI k t (wfN k s l w) = figI k t l
theorem wfF {k s l:Nat} {w:Int} (k4:k <= 4) (s1:1 <= s) (s2:s <= k) (hl:l < 2 ^ k) (hw:w = 0 \/ w = 1):WfF k s l w:=by
 have p:=xm k4
 have z:=YT ⟨k,by omega⟩ ⟨s,by omega⟩ s1 s2 ⟨l,by omega⟩ hl
 rcases hw with rfl | rfl
 ·exact ⟨(z 0).1.1,(z 0).1.2.1,(z 0).1.2.2,fun t ht hn=>(z 0).2 ⟨t,by omega⟩ ht hn⟩
 ·exact ⟨(z 1).1.1,(z 1).1.2.1,(z 1).1.2.2,fun t ht hn=>(z 1).2 ⟨t,by omega⟩ ht hn⟩
theorem Wd {k t l:Nat} (k4:k <= 4) (ht:t <= k) (hl:l < 2 ^ k):figI k t l = 0 \/ figI k t l = 1:=by
 have p:=xm k4
 exact (tG ⟨k,by omega⟩ ⟨l,by omega⟩ hl).1 ⟨t,by omega⟩
theorem wg {k l m:Nat} (k4:k <= 4) (hl:l < 2 ^ k) (hm:m < 2 ^ k) (h:∀ t:Nat,1 <= t -> t <= k -> figI k t l = figI k t m):l = m:=by
 have p:=xm k4
 have z:=(tG ⟨k,by omega⟩ ⟨l,by omega⟩ hl).2 ⟨m,by omega⟩ hm fun t h1 h2=>h t.val h1 h2
 exact congrArg Fin.val z
theorem vA {k i:Nat} {n:Int} (hi:i < k):(vR k n)[i]? = some (figI k ((i + 1:Nat):Int) n):=by
 unfold vR figI
 rw [List.getElem?_map,List.getElem?_range (by rw [Int.toNat_natCast]; exact hi)]
 show some (Builtin.bitAnd (n / 2 ^ _) 1) = _
 congr 4
 omega
theorem v3 {k:Nat} {n:Int}:(vR k n).length = k:=by unfold vR; rw [List.length_map,List.length_range,Int.toNat_natCast]
def mixN (k e x t:Nat):Nat:=(numL ((vR k e).take (t - 1) ++ (vR k x).drop t)).toNat
theorem YU {k e x l t:Nat} (t1:1 <= t) (tk:t <= k) (h1:∀ u:Nat,1 <= u -> u < t -> figI k u l = figI k u e) (h2:∀ u:Nat,t < u -> u <= k -> figI k u l = figI k u x):nN k t l = mixN k e x t:=by
 unfold nN Zr mixN
 have a:(vR k (l:Int)).take (t - 1) = (vR k (e:Int)).take (t - 1):=by
  refine List.ext_getElem? fun i=>?_
  by_cases hi:i < t - 1
  ·rw [List.getElem?_take_of_lt hi,List.getElem?_take_of_lt hi,vA (by omega),vA (by omega),h1 (i + 1) (by omega) (by omega)]
  ·rw [List.getElem?_eq_none (by rw [List.length_take]; omega),List.getElem?_eq_none (by rw [List.length_take]; omega)]
 have b:(vR k (l:Int)).drop t = (vR k (x:Int)).drop t:=by
  refine List.ext_getElem? fun i=>?_
  rw [List.getElem?_drop,List.getElem?_drop]
  by_cases hi:t + i < k
  ·rw [vA hi,vA hi,h2 (t + i + 1) (by omega) (by omega)]
  ·rw [List.getElem?_eq_none (by rw [v3]; omega),List.getElem?_eq_none (by rw [v3]; omega)]
 rw [a,b]
def fstI (rows:List (List Int)) (t n:Nat):Int:=(rows.getD (t - 1) []).getD n 0
def inO (k:Nat) (rows:List (List Int)) (s l:Nat):List Nat:=[wfN k s l (fstI rows s (nN k s l)),wfN k s l (1 - fstI rows s (nN k s l))]
def ordL (k:Nat) (rows:List (List Int)) (e:Nat):Nat -> List Nat
 | 0=>[e]
 | n + 1=>(ordL k rows e n).flatMap (inO k rows (k - n))
def Tv (k:Nat) (rows:List (List Int)) (e m x y:Nat):Prop:=∃ t:Nat,m < t /\ t <= k /\ figI k t x ≠ figI k t y /\ (∀ u:Nat,t < u -> u <= k -> figI k u x = figI k u y) /\ figI k t x = fstI rows t (mixN k e x t)
theorem Zt {k t l:Nat} {rows:List (List Int)} (k4:k <= 4) (hs:zQ k rows) (t1:1 <= t) (tk:t <= k) (hl:l < 2 ^ k):fstI rows t (nN k t l) = 0 \/ fstI rows t (nN k t l) = 1:=by
 have b:=hs.bits (show t - 1 < k by omega)
 have O:=oneF k4 t1 tk hl
 exact b.2 _ (List.mem_of_getElem? (t7 (by rw [b.1]; exact O.lt)))
structure OrdF (k:Nat) (rows:List (List Int)) (e n:Nat) (L:List Nat):Prop where
 len:L.length = 2 ^ n
 mem:∀ x ∈ L,x < 2 ^ k /\ ∀ t:Nat,1 <= t -> t <= k - n -> figI k t x = figI k t e
 all:∀ x:Nat,x < 2 ^ k -> (∀ t:Nat,1 <= t -> t <= k - n -> figI k t x = figI k t e) -> x ∈ L
 row:L.Pairwise (Tv k rows e (k - n))
theorem len2 {f:Nat -> List Nat} (h:∀ a,(f a).length = 2):∀ l:List Nat,(l.flatMap f).length = l.length * 2
 | []=>rfl
 | a :: l=>by rw [List.flatMap_cons,List.length_append,h,len2 h l,List.length_cons]; omega
theorem ordF {k e:Nat} {rows:List (List Int)} (k4:k <= 4) (hs:zQ k rows) (he:e < 2 ^ k):∀ n,n <= k -> OrdF k rows e n (ordL k rows e n)
 | 0,_=>by
  refine ⟨rfl,fun x hx=>?_,fun x hx h=>?_,List.pairwise_singleton _ _⟩
  ·rw [List.mem_singleton.mp hx]; exact ⟨he,fun _ _ _=>rfl⟩
  ·rw [wg k4 hx he fun t a b=>h t a (by omega)]; exact List.mem_singleton.mpr rfl
 | n + 1,hn=>by
  have ih:=ordF (rows:=rows) k4 hs he n (by omega)
  have s1:1 <= k - n:=by omega
  have s2:k - n <= k:=by omega
  have mx:∀ a ∈ ordL k rows e n,∀ x ∈ inO k rows (k - n) a,∃ w:Int,(w = 0 \/ w = 1) /\ x = wfN k (k - n) a w:=by
   intro a ha x hx
   have f:=Zt k4 hs s1 s2 (ih.mem a ha).1
   unfold inO at hx
   rcases List.mem_cons.mp hx with rfl | hx
   ·exact ⟨_,f,rfl⟩
   ·rw [List.mem_singleton.mp hx]
    exact ⟨_,by omega,rfl⟩
  refine ⟨?_,fun x hx=>?_,fun x hx h=>?_,?_⟩
  ·show ((ordL k rows e n).flatMap (inO k rows (k - n))).length = _
   rw [len2 (fun _=>rfl),ih.len,Nat.pow_succ]
  ·obtain ⟨a,ha,hxa⟩:=List.mem_flatMap.mp hx
   obtain ⟨w,hw,rfl⟩:=mx a ha x hxa
   have W:=wfF k4 s1 s2 (ih.mem a ha).1 hw
   exact ⟨W.lt,fun t t1 t2=>by rw [W.off t (by omega) (by omega)]; exact (ih.mem a ha).2 t t1 (by omega)⟩
  ·have W:=wfF k4 s1 s2 hx (Wd (l:=e) k4 s2 he)
   have ha:=ih.all (wfN k (k - n) x (figI k ((k - n:Nat):Int) e)) W.lt fun t t1 t2=>by
    by_cases c:t = k - n
    ·rw [c]; exact W.at_
    ·rw [W.off t (by omega) c]; exact h t t1 (by omega)
   refine List.mem_flatMap.mpr ⟨_,ha,?_⟩
   have f:=Zt k4 hs s1 s2 W.lt
   have g:=Wd (l:=x) k4 s2 hx
   have V2:=wfF k4 s1 s2 W.lt g
   have ex:x = wfN k (k - n) (wfN k (k - n) x (figI k ((k - n:Nat):Int) e)) (figI k ((k - n:Nat):Int) x):=by
    refine wg k4 hx V2.lt fun t t1 t2=>?_
    by_cases c:t = k - n
    ·rw [c]; exact V2.at_.symm
    ·rw [V2.off t t2 c,W.off t t2 c]
   unfold inO
   by_cases c:figI k ((k - n:Nat):Int) x = fstI rows (k - n) (nN k (k - n) (wfN k (k - n) x (figI k ((k - n:Nat):Int) e)))
   ·rw [← c,← ex]; simp
   ·have c2:figI k ((k - n:Nat):Int) x = 1 - fstI rows (k - n) (nN k (k - n) (wfN k (k - n) x (figI k ((k - n:Nat):Int) e))):=by omega
    rw [← c2,← ex]; simp
  ·show ((ordL k rows e n).flatMap (inO k rows (k - n))).Pairwise _
   refine List.pairwise_flatMap.mpr ⟨fun a ha=>?_,?_⟩
   ·have f:=Zt k4 hs s1 s2 (ih.mem a ha).1
    have A1:=wfF k4 s1 s2 (ih.mem a ha).1 f
    have A2:=wfF k4 s1 s2 (ih.mem a ha).1 (show 1 - fstI rows (k - n) (nN k (k - n) a) = 0 \/ 1 - fstI rows (k - n) (nN k (k - n) a) = 1 by omega)
    unfold inO
    refine List.pairwise_cons.mpr ⟨fun y hy=>?_,List.pairwise_singleton _ _⟩
    rw [List.mem_singleton.mp hy]
    refine ⟨k - n,by omega,s2,by rw [A1.at_,A2.at_]; omega,fun u u1 u2=>by rw [A1.off u u2 (by omega),A2.off u u2 (by omega)],?_⟩
    rw [A1.at_]
    congr 1
    exact YU s1 s2 (fun u u1 u2=>(ih.mem a ha).2 u u1 (by omega)) fun u u1 u2=>(A1.off u u2 (by omega)).symm
   ·refine ih.row.imp_of_mem fun {a b} ha hb hab x hx y hy=>?_
    obtain ⟨w,hw,rfl⟩:=mx a ha x hx
    obtain ⟨v,hv,rfl⟩:=mx b hb y hy
    have A1:=wfF k4 s1 s2 (ih.mem a ha).1 hw
    have A2:=wfF k4 s1 s2 (ih.mem b hb).1 hv
    obtain ⟨t,t1,t2,t3,t4,t5⟩:=hab
    refine ⟨t,by omega,t2,by rw [A1.off t t2 (by omega),A2.off t t2 (by omega)]; exact t3,fun u u1 u2=>by rw [A1.off u u2 (by omega),A2.off u u2 (by omega)]; exact t4 u u1 u2,?_⟩
    rw [A1.off t t2 (by omega),t5]
    unfold mixN
    congr 4
    refine List.ext_getElem? fun i=>?_
    rw [List.getElem?_drop,List.getElem?_drop]
    by_cases hi:t + i < k
    ·rw [vA hi,vA hi,A1.off (t + i + 1) (by omega) (by omega)]
    ·rw [List.getElem?_eq_none (by rw [v3]; omega),List.getElem?_eq_none (by rw [v3]; omega)]
theorem We {k e:Nat} {rows:List (List Int)} (k4:k <= 4) (hs:zQ k rows) (he:e < 2 ^ k):(ordL k rows e k).Perm (List.range (2 ^ k)):=by
 have F:=ordF (rows:=rows) k4 hs he k (Nat.le_refl k)
 refine (List.perm_ext_iff_of_nodup ?_ List.nodup_range).mpr fun x=>⟨fun hx=>List.mem_range.mpr (F.mem x hx).1,fun hx=>F.all x (List.mem_range.mp hx) fun t t1 t2=>by omega⟩
 exact F.row.imp fun ⟨t,_,_,h,_⟩ e=>h (by rw [e])
theorem Zu {K:FG7} {a:Addr} {xs:List V} {g0 g1:TG} {wi1:TI} {tt:TT} {te:TE} {Q:VK} {σ:L2.St} {H:Hp} (Pv:Nat -> List V -> L2.St -> Hp -> Prop) (h0:Pv 0 [] σ H) (hl:∀ i ys σ H,i <= xs.length -> Pv i ys σ H -> SqL K H a xs)
  (hs:∀ i x ys σ H,xs[i]? = some x -> Pv i ys σ H -> g0 x σ H fun σ2 H3=>wi1 σ2 H3 fun J2 H4=>InW J2 ys σ2 H4 g1 tt te (Pv (i + 1)))
  (hd:∀ ys σ H,Pv xs.length ys σ H -> ∀ l,H l = none -> Q (.ref l) (upd H l (.lst ys))) :
  YI (Itl K a) σ H g0 wi1 g1 tt te Q:=by
 refine ⟨fun i m ys σ H=>m = xs.length - i /\ i <= xs.length /\ Pv i ys σ H,⟨xs.length,by simp,Nat.zero_le _,h0⟩,?_⟩
 rintro i m ys σ H ⟨rfl,hi,p⟩
 have q:=hl i ys σ H hi p
 by_cases hlt:i < xs.length
 ·refine .inr ⟨⟨xs,xs[i],q,by simp [hlt]⟩,Pv (i + 1),fun zs σ' H' p'=>⟨xs.length - (i + 1),by omega,rfl,hlt,p'⟩,fun x H' y=>?_⟩
  obtain ⟨e,y⟩:=y
  subst e
  exact hs i x ys σ _ (y xs q) p
 ·obtain rfl:i = xs.length:=by omega
  exact .inl ⟨⟨xs,q,Nat.le_refl _⟩,hd ys σ H p⟩
def Wf (K:FG7) (H:Hp) (x:V) (gs:List Nat):Prop:=∃ r,x = .ref r /\ SqT K H r (xJ gs)
def xK (K:FG7):Sp:=sp4 fun x y z u H Q=>∃ (k st l:Nat) (rows:List (List Int)),x = .int k /\ y = .int st /\ z = .int l /\ xy K H u rows /\ k <= 4 /\ 1 <= st /\ st <= k /\ l < 2 ^ k /\ zQ k rows /\ ∀ y H',Grow [] H H' -> Wf K H' y (inO k rows st l) -> Q y H'
def rP (K:FG7):Sp:=sp3 fun x y z H Q=>∃ (k e:Nat) (rows:List (List Int)),x = .int k /\ y = .int e /\ xy K H z rows /\ k <= 4 /\ e < 2 ^ k /\ zQ k rows /\ ∀ y H',Grow [] H H' -> Wf K H' y (ordL k rows e k) -> Q y H'
theorem jY {xs:List Nat} {i:Nat} (h:i < xs.length):xs[i]? = some (xs.getD i 0):=by rw [List.getD_eq_getElem?_getD,List.getElem?_eq_getElem h]; rfl
section
variable {X:Cx} {K:FG7}
theorem YV:MtM X "list.insert" (fun x vs H Q=>∃ (l:Addr) (xs:List V) (i:Nat) (y:V),x = .ref l /\ vs = [.int i,y] /\ H l = some (.lst xs) /\ i <= xs.length /\ xs.length < sizeLine /\ Q .non (upd H l (.lst (xs.take i ++ [y] ++ xs.drop i)))):=by
 intro pins s σ H x vs v us Q I rx rv h
 obtain ⟨l,xs,i,y,rfl,rfl,hH,hi,hz,q⟩:=h
 cases rx
 obtain ⟨u,u2,rfl,⟨t,rfl⟩,ru⟩:=Ya rv
 obtain ⟨z,its,n,r,hl,e⟩:=I.lstM hH
 have hn:=uY
 have sz:its.toArray.size <= sizeLine:=by rw [List.size_toArray]; omega
 have key:∀ (x:Int),x = (i:Int) -> wpAny (model X.prog X.w) X.A (call (.builtin "list.insert") (.ref l :: [.int x t,u2])) (EP X pins σ Q) X.xe s:=by
  intro x hx
  have hfit:¬ (!Builtin.List.listFitsIndex x) = true:=by
   unfold Builtin.List.listFitsIndex
   simp only [Bool.not_eq_true',Bool.not_eq_false,Bool.and_eq_true,decide_eq_true_eq]
   omega
  refine call_meets F.slot_list_insert ⟨_,e,rfl⟩ F.entry_list_insert (F.args_list_insert_3 _ _ _) (PySem.AutoListH.list_insert_list_int_val_1 l its.toArray n x t u2 hfit sz) ⟨e,?_⟩
  refine ⟨.non,_,I.lset (its':=its.take i ++ [u2] ++ its.drop i) hH e ?_ ?_ ?_,rfl,q⟩
  ·rw [if_neg (by omega),hx,Int.toNat_natCast,List.size_toArray,Nat.min_eq_left (by omega)]
   apply Array.ext'
   simp [List.take_of_length_le]
  ·exact ((r.take i).append (.cons ru .nil)).append (r.drop i)
  ·rw [List.length_append,List.length_append,List.length_take,List.length_drop,List.length_singleton]
   omega
 exact key _ rfl
end
open PySem PySem.Spec PyProof.Rows L2 HT
theorem Wg (p:List Int × List Int):(Vk p).depth <= 100:=by
 show max (PyData.depthAll (p.1.map PyData.int) + 1) (max (PyData.depthAll (p.2.map PyData.int) + 1) 0) + 1 <= 100
 rw [sh,sh]; decide
theorem UL (o:Option Int):(oD o).depth = 0:=by cases o <;> rfl
theorem YW {K:FG7} {H:Hp} {x y:V} {p:List Int × List Int} {neg:Bool} {Q:VK} (hx:vG K H x p) (hy:vG K H y p) (q:Q (.bl neg) H):Wc K neg x y H Q :=
 ⟨Vk p,hx.dat.dq,hy.dat.dq,(by obtain ⟨a,_,_,e,_⟩:=hx; exact ⟨a,e⟩),Wg p,q⟩
section
variable {P:Program} {w:World} {K:FG7} {mg:Str -> Option Value} {base:Heap} {N:List Str} {qual:Str} {scope:Scope} {f:Addr} {cd:Value} {A:Around} {outer:List Env} {s0:Shared} {H0:Hp} {E:XK}
 {pins:List (Addr × Obj)} {σ:L2.St} {H:Hp} {s:Shared}
end
structure ApX (X:Cx) (pins:List (Addr × Obj)) (H:Hp) (a T:Addr):Prop where
 s0:∀ b o,X.s₀.heap.get? b = some o -> b ≠ a /\ b ≠ T
 loc:X.env.locals ≠ a /\ X.env.locals ≠ T
 cel:∀ x c,X.env.cells.lookup x = some c -> c ≠ a /\ c ≠ T
 pin:∀ p ∈ X.pn ++ pins,p.1 ≠ a /\ p.1 ≠ T
 ha:H a = none
 hT:H T = none
theorem Inv.leftK {X:Cx} {pins:List (Addr × Obj)} {σ:L2.St} {H:Hp} {s:Shared} {a T0:Addr} {h2:Heap} (I:Inv X pins σ H s) (hx:X.ex = []) (ap:ApX X pins H a T0)
  (lk:∀ b o,b ∉ frs X.stack -> b ≠ a -> b ≠ T0 -> s.heap.get? b = some o -> h2.get? b = some o) (ls:∀ b o,b ∈ frs X.stack -> b ≠ a -> b ≠ T0 -> s.heap.get? b = some o -> ∃ sl,h2.get? b = some { o with slots:=sl }):Inv X pins σ H { s with heap:=h2 }:=by
 have stk:∀ b,b ∈ frs X.stack -> b = X.env.locals \/ b ∈ X.fs:=fun b hb=>List.mem_cons.mp (I.stkSub b hb)
 have any:∀ b o,b ≠ a -> b ≠ T0 -> s.heap.get? b = some o -> ∃ sl,h2.get? b = some { o with slots:=sl }:=fun b o n1 n2 ho=>by
  by_cases z:b ∈ frs X.stack
  ·exact ls b o z n1 n2 ho
  ·exact ⟨o.slots,lk b o z n1 n2 ho⟩
 have cellK:∀ x c,X.env.cells.lookup x = some c -> ∀ v,s.heap.IsCell c v -> h2.IsCell c v:=fun x c e v ⟨o,ho,hd⟩=>by
  obtain ⟨n1,n2⟩:=ap.cel x c e
  obtain ⟨sl,h1⟩:=any c o n1 n2 ho
  exact ⟨_,h1,hd⟩
 refine ⟨I.ok,I.os,I.bare,⟨fun b o hb hn hf hx'=>?_,fun b o hb hn hf hx'=>?_,I.base.free,fun b o hb hx'=>?_,I.base.tups,I.base.frzs,I.base.tbls⟩,?_,fun x c hc=>?_,I.free,I.freeC,fun p hp=>?_,fun b u q=>?_,I.len⟩
 ·obtain ⟨n1,n2⟩:=ap.s0 b o hb
  refine lk b o (fun z=>?_) n1 n2 (I.base.keep b o hb hn hf hx')
  rcases stk b z with z | z
  ·exact absurd (Nat.lt_of_lt_of_le (Heap.lt_size hb) I.ok.above) (by rw [z]; exact Nat.lt_irrefl _)
  ·exact hf z
 ·obtain ⟨n1,n2⟩:=ap.s0 b o hb
  obtain ⟨sl,h1⟩:=I.base.slot b o hb hn hf hx'
  obtain ⟨sl',h3⟩:=any b _ n1 n2 h1
  exact ⟨sl',h3⟩
 ·obtain ⟨n1,n2⟩:=ap.s0 b o hb
  obtain ⟨o',h1⟩:=I.base.there b o hb hx'
  obtain ⟨sl,h3⟩:=any b o' n1 n2 h1
  exact ⟨_,h3⟩
 ·obtain ⟨m,⟨o,es,ep,ho,r⟩,hl⟩:=I.loc
  obtain ⟨sl,h1⟩:=any _ o ap.loc.1 ap.loc.2 ho
  refine ⟨m,⟨_,es,ep,h1,r⟩,fun i x v e1 e2 e3=>?_⟩
  obtain ⟨u,ru,lk⟩:=hl i x v e1 e2 e3
  refine ⟨u,ru,?_⟩
  rcases lk with lk | ⟨k1,c,k2,k3⟩
  ·exact .inl lk
  ·exact .inr ⟨k1,c,k2,cellK x c k2 _ k3⟩
 ·obtain ⟨v,hv⟩:=I.cell x c hc
  exact ⟨v,cellK x c hc v hv⟩
 ·obtain ⟨p1,p2,p3,p4,p5⟩:=I.pin p hp
  obtain ⟨n1,n2⟩:=ap.pin p hp
  refine ⟨lk _ _ (fun z=>?_) n1 n2 p1,p2,p3,p4,p5⟩
  rcases stk _ z with z | z
  ·exact p3 z
  ·exact p4 z
 ·refine (I.hok b u q).stay (fun c v hc r=>?_) (fun _ r=>r) fun _ _ r=>r
  have hn:H c ≠ none:=by
   rcases hc with rfl | hc
   ·rw [q]; exact fun z=>nomatch z
   ·rw [hc]; exact fun z=>nomatch z
  exact lk c v (fun z=>hn (I.stkFree c z)) (fun z=>hn (by rw [z]; exact ap.ha)) (fun z=>hn (by rw [z]; exact ap.hT)) r
open PySem PySem.Spec PyProof.Rows L2 PySem.W
open PySem PySem.Spec PyProof.Rows L2 PySem.W
open PySem PySem.Spec PyProof.Rows L2 PySem.W
end L3
namespace L2
open PySem PySem.Spec PyProof.Rows
end L2
namespace L2
open PySem PySem.Spec PyProof.Rows
end L2
namespace L2
open PySem PySem.Spec PyProof.Rows
end L2
namespace L2
open PySem PySem.Spec PyProof.Rows
end L2
namespace L2
open PySem PySem.Spec PyProof.Rows
end L2
namespace L2
open PySem PySem.Spec PyProof.Rows
end L2
namespace L2
open PySem PySem.Spec PyProof.Rows
section
variable {κ:Type} [DecidableEq κ]
def valV (kvs:List (κ × V)) (k:κ):Option V:=(kvs.find? fun kv=>decide (kv.1 = k)).map (·.2)
def putK (kvs:List (κ × V)) (k:κ) (v:V):List (κ × V) :=
 if (kvs.any fun kv=>decide (kv.1 = k)) = true then kvs.map (fun kv=>if kv.1 = k then (kv.1,v) else kv) else kvs ++ [(k,v)]
theorem yC {p:κ × V} {r:List (κ × V)} {k:κ} (e:p.1 = k):valV (p :: r) k = some p.2:=by simp [valV,List.find?_cons,e]
theorem yD {p:κ × V} {r:List (κ × V)} {k:κ} (e:¬ p.1 = k):valV (p :: r) k = valV r k:=by simp [valV,List.find?_cons,e]
theorem xL (k:κ):∀ kvs:List (κ × V),(kvs.any fun kv=>decide (kv.1 = k)) = (valV kvs k).isSome
 | []=>rfl
 | p :: r=>by
  rw [List.any_cons]
  by_cases e:p.1 = k
  ·simp only [yC e,decide_eq_true e,Bool.true_or,Option.isSome_some]
  ·rw [yD e,decide_eq_false e,Bool.false_or]; exact xL k r
theorem jZ (k j:κ) (y:V):∀ kvs:List (κ × V),valV (kvs.map fun kv=>if kv.1 = k then (kv.1,y) else kv) j = (valV kvs j).map fun x=>if j = k then y else x
 | []=>rfl
 | p :: r=>by
  have ih:=jZ k j y r
  rw [List.map_cons]
  by_cases h:p.1 = k
  ·rw [if_pos h]
   by_cases e:p.1 = j
   ·rw [yC (p:=(p.1,y)) e,yC e,Option.map_some,if_pos (e.symm.trans h)]
   ·rw [yD (p:=(p.1,y)) e,yD e,ih]
  ·rw [if_neg h]
   by_cases e:p.1 = j
   ·rw [yC (p:=p) e,yC e,Option.map_some,if_neg (fun z=>h (e.trans z))]
   ·rw [yD (p:=p) e,yD e,ih]
theorem rQ (k j:κ) (y:V):∀ kvs:List (κ × V),valV kvs k = none -> valV (kvs ++ [(k,y)]) j = if j = k then some y else valV kvs j
 | [],_=>by
  by_cases e:k = j
  ·rw [if_pos e.symm]; exact yC (p:=(k,y)) e
  ·rw [if_neg (fun z=>e z.symm)]; exact yD (p:=(k,y)) e
 | p :: r,hn=>by
  rw [List.cons_append]
  have hk:¬ p.1 = k:=fun z=>by rw [yC z] at hn; cases hn
  rw [yD hk] at hn
  have ih:=rQ k j y r hn
  by_cases e:p.1 = j
  ·rw [yC e,yC e,if_neg (fun z=>hk (e.trans z))]
  ·rw [yD e,yD e,ih]
theorem v4 (kvs:List (κ × V)) (k j:κ) (y:V):valV (putK kvs k y) j = if j = k then some y else valV kvs j:=by
 unfold putK
 by_cases a:(kvs.any fun kv=>decide (kv.1 = k)) = true
 ·rw [if_pos a,jZ]
  rw [xL] at a
  by_cases e:j = k
  ·obtain ⟨x,hx⟩:=Option.isSome_iff_exists.mp a
   rw [if_pos e,e,hx,Option.map_some,if_pos rfl]
  ·rw [if_neg e]
   cases valV kvs j with
   | none=>rfl
   | some x=>rw [Option.map_some,if_neg e]
 ·rw [if_neg a]
  refine rQ k j y kvs ?_
  rw [xL] at a
  cases q:valV kvs k with
  | none=>rfl
  | some x=>rw [q] at a; exact (a rfl).elim
theorem yk (kvs:List (κ × V)) (k:κ) (v:V):(putK kvs k v).length <= kvs.length + 1:=by
 unfold putK
 split
 ·rw [List.length_map]; omega
 ·rw [List.length_append,List.length_cons,List.length_nil]; omega
theorem j0 {kvs:List (κ × V)} {k:κ} (v:V) (h:valV kvs k = none):putK kvs k v = kvs ++ [(k,v)]:=by
 unfold putK
 rw [xL,h]
 exact if_neg (by decide)
theorem RelO.isSome_eq {o:Option V} {u:Option Value} (r:RelO o u):o.isSome = u.isSome:=by
 cases o with
 | none=>cases u with
  | none=>rfl
  | some _=>exact (show False from r).elim
 | some _=>cases u with
  | none=>exact (show False from r).elim
  | some _=>rfl
theorem KV.val {kvs:List (κ × V)} {vs:List (κ × Value)} (r:KV kvs vs) (k:κ):RelO (valV kvs k) (valueAt vs k):=by
 unfold KV at r
 induction r with
 | nil=>exact True.intro
 | @cons p q ps qs h t ih =>
  obtain ⟨h1,h2⟩:=h
  by_cases e:p.1 = k
  ·have e':q.1 = k:=h1.symm.trans e
   have b:valueAt (q :: qs) k = some q.2:=by simp [valueAt,List.find?_cons,e']
   rw [yC e,b]; exact h2
  ·have e':¬ q.1 = k:=fun z=>e (h1.trans z)
   have b:valueAt (q :: qs) k = valueAt qs k:=by simp [valueAt,List.find?_cons,e']
   rw [yD e,b]; exact ih
theorem KV.any {kvs:List (κ × V)} {vs:List (κ × Value)} (r:KV kvs vs) (k:κ):(kvs.any fun kv=>decide (kv.1 = k)) = vs.any fun kv=>decide (kv.1 = k):=by
 unfold KV at r
 induction r with
 | nil=>rfl
 | cons h t ih=>rw [List.any_cons,List.any_cons,ih,h.1]
theorem KV.repl {kvs:List (κ × V)} {vs:List (κ × Value)} (r:KV kvs vs) (k:κ) {y:V} {u:Value} (ry:RelV y u) :
  KV (kvs.map fun kv=>if kv.1 = k then (kv.1,y) else kv) (vs.map fun kv=>if kv.1 = k then (kv.1,u) else kv):=by
 unfold KV at r ⊢
 induction r with
 | nil=>exact .nil
 | @cons p q ps qs h t ih =>
  rw [List.map_cons,List.map_cons]
  refine .cons ?_ ih
  obtain ⟨h1,h2⟩:=h
  by_cases e:p.1 = k
  ·rw [if_pos e,if_pos (h1.symm.trans e)]; exact ⟨h1,ry⟩
  ·rw [if_neg e,if_neg (fun z=>e (h1.trans z))]; exact ⟨h1,h2⟩
theorem KV.put {kvs:List (κ × V)} {vs:List (κ × Value)} (r:KV kvs vs) (k:κ) {y:V} {u:Value} (ry:RelV y u):KV (putK kvs k y) (stored vs k u):=by
 unfold putK stored
 rw [r.any k]
 by_cases e:(vs.any fun kv=>decide (kv.1 = k)) = true
 ·rw [if_pos e,if_pos e]; exact r.repl k ry
 ·rw [if_neg e,if_neg e]; exact Paired.snoc r ⟨rfl,ry⟩
theorem KV.length {kvs:List (κ × V)} {vs:List (κ × Value)} (r:KV kvs vs):kvs.length = vs.length:=Paired.length r
end
theorem YX {P:Program} {w:World} {k:Key} {u:Value} (r:RelV (kV k) u):(zM P w).is k u = true:=by
 cases k with
 | inl i=>obtain ⟨t,e⟩:=(show ∃ t,u = Value.int i t from r); subst e; exact qJ P w i t
 | inr x=>obtain ⟨t,e⟩:=(show ∃ t,u = Value.str x t from r); subst e; exact qK P w x t
theorem rR {P:Program} {w:World}:∀ {ks:List Key} {us:List Value},Vals (ks.map kV) us -> ItemsAre (zM P w) ks us
 | [],_,r=>by rw [List.map_nil] at r; cases r; exact .nil
 | k :: ks,_,r=>by
  rw [List.map_cons] at r
  cases r with
  | cons h t=>exact .cons (YX h) (rR t)
abbrev KT (H:Hp):List (List Key × V) -> List (List Key × Addr × Value) -> Prop:=Paired fun p q=>p.1 = q.1 /\ H q.2.1 = some (.tup (p.1.map kV)) /\ RelV p.2 q.2.2
theorem KT.val {H:Hp} {kvs:List (List Key × V)} {xs:List (List Key × Addr × Value)} (r:KT H kvs xs) (k:List Key):RelO (valV kvs k) ((atKey xs k).map (·.2)):=by
 induction r with
 | nil=>exact True.intro
 | @cons p q ps qs h t ih =>
  obtain ⟨h1,_,h2⟩:=h
  by_cases e:p.1 = k
  ·have e':q.1 = k:=h1.symm.trans e
   have b:atKey (q :: qs) k = some q.2:=by simp [atKey,List.find?_cons,e']
   rw [yC e,b]; exact h2
  ·have e':¬ q.1 = k:=fun z=>e (h1.trans z)
   have b:atKey (q :: qs) k = atKey qs k:=by simp [atKey,List.find?_cons,e']
   rw [yD e,b]; exact ih
theorem KT.repl {H:Hp} {kvs:List (List Key × V)} {xs:List (List Key × Addr × Value)} (r:KT H kvs xs) (k:List Key) {y:V} {u:Value} (ry:RelV y u) :
  KT H (kvs.map fun kv=>if kv.1 = k then (kv.1,y) else kv) (xs.map (putAt k u)):=by
 induction r with
 | nil=>exact .nil
 | @cons p q ps qs h t ih =>
  rw [List.map_cons,List.map_cons]
  refine .cons ?_ ih
  obtain ⟨h1,h2,h3⟩:=h
  unfold putAt
  by_cases e:p.1 = k
  ·rw [if_pos e,if_pos (h1.symm.trans e)]; exact ⟨h1,h2,ry⟩
  ·rw [if_neg e,if_neg (fun z=>e (h1.trans z))]; exact ⟨h1,h2,h3⟩
theorem KT.put {H:Hp} {kvs:List (List Key × V)} {xs:List (List Key × Addr × Value)} (r:KT H kvs xs) (k:List Key) {b:Addr} {y:V} {u:Value} (hb:H b = some (.tup (k.map kV))) (ry:RelV y u) :
  KT H (putK kvs k y) (storedH xs k b u):=by
 have e:(kvs.any fun kv=>decide (kv.1 = k)) = (atKey xs k).isSome:=by
  rw [xL,(r.val k).isSome_eq,Option.isSome_map]
 unfold putK storedH
 rw [e]
 by_cases q:(atKey xs k).isSome = true
 ·rw [if_pos q,if_pos q]; exact r.repl k ry
 ·rw [if_neg q,if_neg q]; exact Paired.snoc r ⟨rfl,hb,ry⟩
theorem KT.keeps {H H':Hp} {kvs:List (List Key × V)} {xs:List (List Key × Addr × Value)} (r:KT H kvs xs) (ht:∀ b ys,H b = some (.tup ys) -> H' b = some (.tup ys)):KT H' kvs xs :=
 Paired.mapP r fun _ _ z=>⟨z.1,ht _ _ z.2.1,z.2.2⟩
section
variable {P:Program} {w:World} {H:Hp} {h:Heap} {a:Addr}
theorem UM {u:HO} (ok:HOk P w H h) (e:Rd H a u):z6 P w H h a u:=e.ok ok
theorem Wh {kvs:List (Key × V)} (ok:HOk P w H h) (e:Rd H a (.dK kvs)):kvs.length <= sizeLine /\ (a == sysModules) = false /\ ∃ vs,KV kvs vs /\ h.DictOf (zM P w) a vs :=
 show z6 P w H h a (.dK kvs) from UM ok e
theorem Tw {kvs:List (Key × V)} (ok:HOk P w H h) (e:H a = some (.dK kvs)):kvs.length <= sizeLine /\ (a == sysModules) = false /\ ∃ vs,KV kvs vs /\ h.DictOf (zM P w) a vs:=Wh ok (.inl e)
theorem tH {ks:List Key} (ok:HOk P w H h) (e:H a = some (.tup (ks.map kV))):(tupleKind (zM P w)).is h ks a:=by
 obtain ⟨_,its,r,o,h1,h2,n,h3⟩:=(show z6 P w H h a (.tup (ks.map kV)) from ok a _ e)
 exact ⟨o,its.toArray,n,h1,h2,h3,by simpa using rR r⟩
theorem Wi {kvs:List (List Key × V)} (ok:HOk P w H h) (e:Rd H a (.dT kvs)):kvs.length <= sizeLine /\ (a == sysModules) = false ∧
  ∃ xs,KT H kvs xs /\ h.DictOfH (tupleKind (zM P w)) a xs:=by
 obtain ⟨z,y,xs,r,o,es,ep,h1,h2,h3,h4,h5⟩:=(show z6 P w H h a (.dT kvs) from UM ok e)
 refine ⟨z,y,xs,r,o,es,ep,h1,h2,h3,h4,fun x hx=>?_,h5⟩
 have all:∀ {l:List (List Key × V)} {m:List (List Key × Addr × Value)},KT H l m -> ∀ x ∈ m,(tupleKind (zM P w)).is h x.1 x.2.1:=by
  intro l m q
  induction q with
  | nil=>intro x hx; exact nomatch hx
  | @cons p q ps qs hq t ih =>
   intro x hx
   rcases List.mem_cons.mp hx with e | hx
   ·subst e
    exact tH ok (by rw [← hq.1]; exact hq.2.1)
   ·exact ih x hx
 exact all r x hx
theorem Tx {kvs:List (List Key × V)} (ok:HOk P w H h) (e:H a = some (.dT kvs)):kvs.length <= sizeLine /\ (a == sysModules) = false ∧
  ∃ xs,KT H kvs xs /\ h.DictOfH (tupleKind (zM P w)) a xs:=Wi ok (.inl e)
end
def DGet (H:Hp) (a:Addr) (y:V) (r:Option V):Prop :=
 (∃ kvs k,Rd H a (.dK kvs) /\ y = kV k /\ r = valV kvs k) \/ ∃ kvs k b,Rd H a (.dT kvs) /\ y = .ref b /\ H b = some (.tup (k.map kV)) /\ r = valV kvs k
def DPut (H:Hp) (a:Addr) (y v:V) (H':Hp):Prop :=
 (∃ kvs k,H a = some (.dK kvs) /\ y = kV k /\ kvs.length < sizeLine /\ H' = upd H a (.dK (putK kvs k v))) ∨
 ∃ kvs k b,H a = some (.dT kvs) /\ y = .ref b /\ H b = some (.tup (k.map kV)) /\ kvs.length < sizeLine /\ H' = upd H a (.dT (putK kvs k v))
theorem DPut.t {H:Hp} {a b:Addr} {kvs:List (List Key × V)} {k:List Key} {v:V} (e:H a = some (.dT kvs)) (eb:H b = some (.tup (k.map kV))) (hl:kvs.length < sizeLine) :
  DPut H a (.ref b) v (upd H a (.dT (putK kvs k v))):=.inr ⟨kvs,k,b,e,rfl,eb,hl,rfl⟩
section
variable {X:Cx} {pins:List (Addr × Obj)} {σ:St} {H:Hp} {s:Shared} {a:Addr} {y v:V} {u r:Value} {o:Option V} {A:Around} {E:VS7}
theorem Inv.big (I:Inv X pins σ H s):sysModules < s.heap.objs.size:=by
 have h:mainGlobals < s.heap.objs.size:=(I.mod.glob.keeps I.bk).lt
 exact Nat.lt_trans (by decide) h
theorem YY {Q:VS7} (hu:A.units + 1 < cLine) (I:Inv X pins σ H s) (g:DGet H a y (some v)) (ry:RelV y u) (h:∀ w' s',Inv X pins σ H s' -> RelV v w' -> Q w' s') :
  wpAny (model X.prog X.w) A (getItem (.ref a) u) Q E s:=by
 rcases g with ⟨kvs,k,e,ey,l⟩ | ⟨kvs,k,b,e,ey,eb,l⟩
 ·subst ey
  obtain ⟨z,hd,vs,rel,dd⟩:=Wh I.hok e
  obtain ⟨w',hw,rw'⟩:=RelO.some_of (v:=v) (o:=valueAt vs k) (by rw [l]; exact rel.val k)
  exact wpAny_getItem_of (YX ry) dd.mapOf hw (h w' _ (I.tok _) rw')
 ·subst ey
  cases (show u = Value.ref b from ry)
  obtain ⟨z,hd,xs,rel,dd⟩:=Wi I.hok e
  obtain ⟨w',hw,rw'⟩:=RelO.some_of (v:=v) (o:=(atKey xs k).map (·.2)) (by rw [l]; exact rel.val k)
  obtain ⟨p,hp,hp2⟩:=Option.map_eq_some_iff.mp hw
  refine wpAny_getItem_heap (tupleKind_room_in1 hu) (tH I.hok eb) dd hp ?_
  rw [hp2]
  exact h w' _ (I.tok _) rw'
theorem d_in {Q:VS7} (hu:A.units + 1 < cLine) (I:Inv X pins σ H s) (g:DGet H a y o) (ry:RelV y u) (h:∀ s',Inv X pins σ H s' -> Q (.bool o.isSome) s') :
  wpAny (model X.prog X.w) A (compareOp .In u (.ref a)) Q E s:=by
 rcases g with ⟨kvs,k,e,ey,l⟩ | ⟨kvs,k,b,e,ey,eb,l⟩
 ·subst ey
  obtain ⟨z,hd,vs,rel,dd⟩:=Wh I.hok e
  refine wpAny_in_of (YX ry) hd dd.mapOf ?_
  rw [← (rel.val k).isSome_eq,← l]
  exact h _ (I.tok _)
 ·subst ey
  cases (show u = Value.ref b from ry)
  obtain ⟨z,hd,xs,rel,dd⟩:=Wi I.hok e
  refine wpAny_in_heap (tupleKind_room_in1 hu) (tH I.hok eb) hd dd ?_
  have q:=(rel.val k).isSome_eq
  rw [Option.isSome_map] at q
  rw [← q,← l]
  exact h _ (I.tok _)
theorem si {h':Heap} {t':Nat} {ob:HO} (I:Inv X pins σ H s) (mu:Mut (H a)) (hs:Heap.SameBut a s.heap h') (he:∃ q,h'.get? a = some q) (new:z6 X.prog X.w (upd H a ob) h' a ob) :
  Inv X pins σ (upd H a ob) { s with heap:=h',toks:=t' } :=
 I.write (x:=a) (e:=a) mu (.inl rfl) (fun b q hb z=>(hs.2 b hb).trans z) he new
theorem UN {P:Program} {w:World} {H':Hp} {h':Heap} {kvs:List (Key × V)} {vs:List (Key × Value)} (z:kvs.length <= sizeLine) (hd:(a == sysModules) = false) (rel:KV kvs vs) (dd:h'.DictOf (zM P w) a vs) :
  z6 P w H' h' a (.dK kvs):=⟨z,hd,vs,rel,dd⟩
theorem YZ {H':Hp} {Q:Unit -> Shared -> Prop} (hu:A.units + 1 < cLine) (I:Inv X pins σ H s) (g:DPut H a y v H') (ry:RelV y u) (rv:RelV v r) (h:∀ s',Inv X pins σ H' s' -> Q () s') :
  wpAny (model X.prog X.w) A (setItem (.ref a) u r) Q E s:=by
 rcases g with ⟨kvs,k,e,ey,l,eH⟩ | ⟨kvs,k,b,e,ey,eb,l,eH⟩
 ·subst ey eH
  obtain ⟨z,hd,vs,rel,dd⟩:=Tw I.hok e
  have hz:vs.length <= sizeLine:=by rw [← rel.length]; exact z
  have hl:(putK kvs k v).length <= sizeLine:=by have:=yk kvs k v; omega
  refine wpAny_setItem_pairs (hsz:=hz) (YX ry) dd fun h' dd' hs=>h _ ?_
  have he:∃ q,h'.get? a = some q:=let ⟨q,_,_,hq,_⟩:=dd'; ⟨q,hq⟩
  exact si I (by rw [e]; exact True.intro) hs he (UN hl hd (rel.put k rv) dd')
 ·subst ey eH
  cases (show u = Value.ref b from ry)
  obtain ⟨z,hd,xs,rel,dd⟩:=Tx I.hok e
  have hz:xs.length <= sizeLine:=by rw [← Paired.length rel]; exact z
  have hl:(putK kvs k v).length <= sizeLine:=by have:=yk kvs k v; omega
  refine wpAny_setItem_heap (hsz:=hz) (tupleKind_room_in1 hu) (tH I.hok eb) dd fun h' dd' hs=>h _ ?_
  obtain ⟨q,es,ep,hq,h2,h3,h4,_,h5⟩:=dd'
  refine si I (by rw [e]; exact True.intro) hs ⟨q,hq⟩ ⟨hl,hd,_,(rel.put k eb rv).keeps fun c ys ec=>?_,q,es,ep,hq,h2,h3,h4,h5⟩
  rw [zn (WZ ec e (fun z=>nomatch z))]
  exact ec
end
def NoSl (i:Expr):Prop:=∀ ov iv,subscripted i false ov iv = operate [ov,iv] (getItem ov iv)
theorem Vx {prog:Program} {w:World} {A:Around} {E:VS7} {s:Shared} {env:Env} {value slice:Expr} {pos:Pos} {T id:String} {Q:VS7}
  (hl:typeLookup (.type T) "__getitem__" = pure (some (.builtin id))) (hs:NoSl slice)
  (h:wpAny (model prog w) A (eval value env) (fun o s₁=>wpAny (model prog w) A (eval slice env) (fun i s₂=>s₂.TypeIs o T /\ wpAny (model prog w) A (getItem o i) Q E s₂) E s₁) E s) :
  wpAny (model prog w) A (eval (.Subscript value slice pos) env) Q E s:=by
 refine Subscript_ (wpAny_mono h (fun o s₁ h₁=>wpAny_mono h₁ (fun i s₂ h₂=>?_) fun _ _ x=>x) fun _ _ x=>x)
 obtain ⟨hT,h₂⟩:=h₂
 unfold subscriptTail
 refine wpAny_bind ?_
 rw [getitemInPython_of_ne hT.not_modules]
 refine wpAny_bind (wpAny_specialOf hT hl ?_)
 have fin:wpAny (model prog w) A (subscripted slice false o i) (fun r s₃=>wpAny (model prog w) A (letTemporaryGo value o r >>= fun _=>pure r) Q E s₃) E s₂:=by
  rw [hs o i]
  exact wpAny_operating (wpAny_mono h₂ (fun r s₃ h₃=>wpAny_bind (wpAny_letTemporaryGo (wpAny_pure h₃))) fun _ _ x=>x)
 first
  | exact wpAny_pure (wpAny_bind fin)
  | exact wpAny_bind (wpAny_pure (wpAny_bind fin))
  | exact wpAny_bind fin
theorem ja {X:Cx} {pins:List (Addr × Obj)} {σ:St} {H:Hp} {s:Shared} {a:Addr} {y:V} {o:Option V} (I:Inv X pins σ H s) (g:DGet H a y o):s.TypeIs (.ref a) "dict":=by
 rcases g with ⟨kvs,k,e,_,_⟩ | ⟨kvs,k,b,e,_,_,_⟩
 ·obtain ⟨_,_,vs,_,dd⟩:=Wh I.hok e
  exact dd.typeIs
 ·obtain ⟨_,_,xs,_,dd⟩:=Wi I.hok e
  exact dd.typeIs
def UO (td ty:TE):TE:=fun σ H Q=>td σ H fun x H1=>ty σ H1 fun y H2=>∃ a v,x = .ref a /\ DGet H2 a y (some v) /\ Q v H2
def tDIn (ty td:TE):TE:=fun σ H Q=>ty σ H fun y H1=>td σ H1 fun x H2=>∃ a o,x = .ref a /\ DGet H2 a y o /\ Q (.bl o.isSome) H2
def Ty (td ty tv:TE):TS:=fun D σ H=>tv σ H fun v H1=>td σ H1 fun x H2=>ty σ H2 fun y H3=>∃ a H4,x = .ref a /\ DPut H3 a y v H4 /\ D.nx σ H4
section
variable {X:Cx} {o i e value:Expr} {pos pos' tpos:Pos} {td ty tv:TE}
theorem wN (hu:X.A.units + 1 < cLine) (ho:PE X o td) (hi:PE X i ty) (hs:NoSl i):PE X (.Subscript o i pos) (UO td ty):=by
 intro pins s σ H Q I h
 refine Vx PySem.F.slot_dict_getitem.lookup hs (thn (ho pins s σ H _ I h) fun u s1 ⟨x,H1,I1,rx,q1⟩=>thn (hi pins s1 σ H1 _ I1 q1) fun iv s2 ⟨y,H2,I2,ry,a,v,ex,g,q2⟩=>?_)
 subst ex
 obtain rfl:u = Value.ref a:=rx
 exact ⟨ja I2 g,YY hu I2 g ry fun w' s3 I3 rw'=>⟨v,H2,I3,rw',q2⟩⟩
theorem WR (hu:X.A.units + 1 < cLine) (hi:PE X i ty) (ho:PE X o td):PC X .In i o (tDIn ty td):=by
 intro pins s σ H Q I h
 refine thn (hi pins s σ H _ I h) fun iv s1 ⟨y,H1,I1,ry,q1⟩=>thn (ho pins s1 σ H1 _ I1 q1) fun u s2 ⟨x,H2,I2,rx,a,ov,ex,g,q2⟩=>?_
 subst ex
 obtain rfl:u = Value.ref a:=rx
 exact d_in hu I2 g ry fun s3 I3=>⟨.bl ov.isSome,H2,I3,rfl,q2⟩
theorem uz (hu:X.A.units + 1 < cLine) (ho:PE X o td) (hi:PE X i ty) (hv:PE X value tv) (hs:swapsWith value (some (.Subscript o i pos')) pos.line X.env = pure false) :
  PS X (.Assign [.Subscript o i pos'] value pos) (Ty td ty tv):=by
 intro pins s σ H D I h
 refine wpAny_Assign_Subscript (thn (hv pins s σ H _ I h) fun r s1 ⟨v,H1,I1,rv,q1⟩=>thn (ho pins s1 σ H1 _ I1 q1) fun u s2 ⟨x,H2,I2,rx,q2⟩=>thn (hi pins s2 σ H2 _ I2 q2) fun iv s3 ⟨y,H3,I3,ry,a,H4,ex,g,q3⟩=>?_) hs
 subst ex
 obtain rfl:u = Value.ref a:=rx
 exact YZ hu I3 g ry rv fun s4 I4=>⟨σ,H4,I4,q3⟩
end
theorem j1 {P:Program} {w:World} {H:Hp} (h:Heap) (hb:sysModules < h.objs.size):z6 P w H (h.push { cls:=.type "dict",data:=.dict #[] }) h.objs.size (.dT []) :=
 ⟨Nat.zero_le _,beq_eq_false_iff_ne.mpr (Ne.symm (Nat.ne_of_lt hb)),[],.nil,_,#[],0,Heap.get?_push_size _ rfl,⟨rfl,rfl,rfl⟩,rfl,rfl,List.nodup_nil⟩
def UP:TE:=fun _ H Q=>∀ p,H p = none -> Q (.ref p) (upd H p (.dT []))
section
variable {X:Cx} {pos:Pos}
theorem v5:PE X (.Dict [] [] pos) UP:=fun pins s σ H Q I h =>
 wpAny_Dict_empty ⟨.ref s.heap.objs.size,_,I.laid (a:=s.heap.objs.size) (o:=.dT []) (t':=s.toks) (fun _ _ q=>Heap.get?_push_of_some _ q) (Nat.le_refl _) (j1 s.heap I.big),rfl,h _ (I.hok.fresh (Nat.le_refl _))⟩
end
end L2
namespace Att
open PySem PySem.W PySem.Calls PyProof.Rows
end Att
namespace L2
open PySem PySem.Spec PyProof.Rows
section
variable {κ:Type} [DecidableEq κ]
theorem j2 {kvs:List (κ × V)} {k:κ} (h:valV kvs k = none):¬ k ∈ kvs.map (·.1):=by
 intro m
 obtain ⟨p,hp,e⟩:=List.mem_map.mp m
 have q:(kvs.any fun kv=>decide (kv.1 = k)) = true:=List.any_eq_true.mpr ⟨p,hp,decide_eq_true e⟩
 rw [xL,h] at q
 exact absurd q (by simp)
theorem Y0:∀ {l:List κ} {k:κ},l.Nodup -> ¬ k ∈ l -> (l ++ [k]).Nodup
 | [],k,_,_=>by simp
 | a :: r,k,h,hk=>by
  obtain ⟨h1,h2⟩:=List.nodup_cons.mp h
  show (a :: (r ++ [k])).Nodup
  refine List.nodup_cons.mpr ⟨fun m=>?_,Y0 h2 fun m=>hk (List.mem_cons.mpr (Or.inr m))⟩
  rcases List.mem_append.mp m with q | q
  ·exact h1 q
  ·exact hk (List.mem_cons.mpr (Or.inl (List.mem_singleton.mp q).symm))
theorem Vy {kvs:List (κ × V)} {k:κ} (v:V) (hn:(kvs.map (·.1)).Nodup) (h:valV kvs k = none):((putK kvs k v).map (·.1)).Nodup:=by
 rw [j0 v h,List.map_append]
 exact Y0 hn (j2 h)
end
end L2
namespace L3
open PySem PySem.Spec PyProof.Rows L2
open PySem PySem.Spec PyProof.Rows L2 PySem.W
def wZ (es:Array DictEntry) (d:Addr) (ep:Nat) (h:Heap):Prop:=∃ o,h.get? d = some o /\ o.ExactDict /\ o.data = .dict es ep
section
variable {prog:Program} {w:World} {A:Around} {E:VS7} {s:Shared} {es:Array DictEntry} {d it:Addr} {ep i:Nat}
theorem wZ.typeIs (h:wZ es d ep s.heap):s.TypeIs (.ref d) "dict":=let ⟨o,ho,hc,_⟩:=h; ⟨o,ho,hc.1⟩
theorem wZ.keep {h h':Heap} (x:wZ es d ep h) (e:∀ o,h.get? d = some o -> h'.get? d = some o):wZ es d ep h':=let ⟨o,ho,r⟩:=x; ⟨o,e o ho,r⟩
theorem Wj {Q:VS7} (hd:(d == sysModules) = false) (hm:wZ es d ep s.heap)
  (hQ:Q (.ref s.heap.objs.size) { s with heap:=s.heap.push { cls:=.type "dict_keyiterator",data:=.fields #[.ref d,.int 0 0,.int es.size 0,.int ep 0] } }) :
  wpAny (model prog w) A (pyIter (.ref d)) Q E s:=by
 obtain ⟨o,ho,hc,hdat⟩:=id hm
 have hT:s.TypeIs (.ref d) "dict":=hm.typeIs
 refine wpAny_pyIter_slot hT PySem.F.slot_dict_iter (wpAny_call_entry PySem.F.slot_dict_iter hT PySem.F.entry_dict_iter ?_ (PySem.F.args_dict_iter_1 _))
 unfold Builtin.«dict.__iter__»
 refine wpAny_bind ?_
 unfold Builtin.Dict.dictSlotNone
 refine wpAny_bind (wpAny_notOrdered_dict hT ?_)
 show wpAny _ _ (pure (Value.ref d)) _ _ s
 refine wpAny_pure ?_
 show wpAny _ _ (Builtin.Dict.showsAll d >>= _) _ _ s
 unfold Builtin.Dict.showsAll
 rw [if_neg (by rw [hd]; exact Bool.false_ne_true)]
 refine wpAny_bind (wpAny_pure ?_)
 refine wpAny_bind (wpAny_dictEntries ho hdat ?_)
 refine wpAny_bind (wpAny_dictEpoch ho hdat ?_)
 refine wpAny_bind (wpAny_newObj_type (wpAny_pure ⟨_,rfl,"dict_keyiterator",_,⟨_,Heap.get?_push_size _ rfl,rfl⟩,PySem.F.slot_dict_keyiterator_next.lookup,?_⟩))
 simpa [rawInt] using hQ
theorem Wk {Q:Option Value -> Shared -> Prop} (hit:s.heap.IsKeyIter it d i es.size ep) (hm:wZ es d ep s.heap) (hlt:i < es.size)
  (hQ:∀ h',h'.IsKeyIter it d (i + 1) es.size ep -> Heap.SameBut it s.heap h' -> Q (some es[i].key) { s with heap:=h' }) :
  wpAny (model prog w) A (pyNext (.ref it)) Q E s:=by
 obtain ⟨o,ho,hc,hd⟩:=id hit
 obtain ⟨od,hod,hcd,hdd⟩:=id hm
 unfold pyNext
 refine wpAny_bind (wpAny_attempt (wpAny_callSpecial?_slot (name:=Str.ofString "__next__") hit.typeIs PySem.F.slot_dict_keyiterator_next
  (wpAny_call_entry PySem.F.slot_dict_keyiterator_next hit.typeIs PySem.F.entry_dict_keyiterator_next ?_ (PySem.F.args_dict_keyiterator_next_1 _))))
 refine wpAny_bind (wpAny_pure ?_)
 refine wpAny_bind ?_
 refine wpAny_bind ?_
 first | refine wpAny_bind (wpAny_typeNameOfWhole_keyiter hit.typeIs (wpAny_pure ?_)) | refine wpAny_bind (wpAny_typeNameOf_keyiter hit.typeIs (wpAny_pure ?_))
 refine wpAny_bind (wpAny_fieldsOf ho hd ?_)
 have hown:Builtin.Dict_items.ownsTuple "dict_keyiterator" = false:=by decide
 simp only [hown,Bool.false_eq_true,if_false]
 show wpAny _ _ (if (Value.ref d == Value.none) = true then _ else _) _ _ s
 rw [if_neg (show ¬ ((Value.ref d == Value.none) = true) from Bool.false_ne_true)]
 refine wpAny_bind (wpAny_pure ?_)
 refine wpAny_bind (wpAny_dictEntries hod hdd ?_)
 rw [if_neg (by simp)]
 refine wpAny_bind (wpAny_pure ?_)
 refine wpAny_bind (wpAny_dictEpoch hod hdd ?_)
 rw [if_neg (by simp)]
 refine wpAny_pure ?_
 simp only [show ¬ ((i:Int) < 0) from by omega,if_false,Int.toNat_natCast,Array.getElem?_eq_getElem hlt]
 refine wpAny_bind ?_
 first | refine wpAny_bind (wpAny_typeNameOfWhole_keyiter hit.typeIs (wpAny_pure ?_)) | refine wpAny_bind (wpAny_typeNameOf_keyiter hit.typeIs (wpAny_pure ?_))
 refine wpAny_bind (wpAny_isOneOf_keyiter hit.typeIs ?_)
 show wpAny _ _ (setField (.ref it) 1 (rawInt ((i:Int) + 1)) >>= _) _ _ s
 refine wpAny_bind (wpAny_setField ho hd (by simp) ?_)
 have hit':(s.heap.update it (Obj.mapFields (·.setIfInBounds 1 (rawInt ((i:Int) + 1))))).IsKeyIter it d (i + 1) es.size ep :=
  ⟨_,Heap.get?_update_self _ ho (Obj.isFreed_of_fields (Obj.data_mapFields hd _)),(Obj.cls_mapFields ..).trans hc,by rw [Obj.data_mapFields hd]; simp [rawInt]⟩
 refine wpAny_bind (wpAny_holding ?_)
 refine wpAny_bind (wpAny_isOneOf_keyiter (s:={ s with heap:=s.heap.update it (Obj.mapFields (·.setIfInBounds 1 (rawInt ((i:Int) + 1)))) }) hit'.typeIs ?_)
 show wpAny _ _ (pure es[i].key) _ _ _
 exact wpAny_pure (wpAny_pure ⟨_,rfl,wpAny_pure (hQ _ hit' (Heap.SameBut.update ..))⟩)
theorem Vz {Q:Option Value -> Shared -> Prop} (hh:A.handled = none) (hit:s.heap.IsKeyIter it d es.size es.size ep) (hm:wZ es d ep s.heap)
  (hQ:∀ h',Heap.ExtBut it s.heap h' -> Q none { s with heap:=h' }):wpAny (model prog w) A (pyNext (.ref it)) Q E s:=by
 obtain ⟨o,ho,hc,hd⟩:=id hit
 obtain ⟨od,hod,hcd,hdd⟩:=id hm
 unfold pyNext
 refine wpAny_bind (wpAny_attempt (wpAny_callSpecial?_slot (name:=Str.ofString "__next__") hit.typeIs PySem.F.slot_dict_keyiterator_next
  (wpAny_call_entry PySem.F.slot_dict_keyiterator_next hit.typeIs PySem.F.entry_dict_keyiterator_next ?_ (PySem.F.args_dict_keyiterator_next_1 _))))
 refine wpAny_bind (wpAny_pure ?_)
 refine wpAny_bind ?_
 refine wpAny_bind ?_
 first | refine wpAny_bind (wpAny_typeNameOfWhole_keyiter hit.typeIs (wpAny_pure ?_)) | refine wpAny_bind (wpAny_typeNameOf_keyiter hit.typeIs (wpAny_pure ?_))
 refine wpAny_bind (wpAny_fieldsOf ho hd ?_)
 have hown:Builtin.Dict_items.ownsTuple "dict_keyiterator" = false:=by decide
 simp only [hown,Bool.false_eq_true,if_false]
 show wpAny _ _ (if (Value.ref d == Value.none) = true then _ else _) _ _ s
 rw [if_neg (show ¬ ((Value.ref d == Value.none) = true) from Bool.false_ne_true)]
 refine wpAny_bind (wpAny_pure ?_)
 refine wpAny_bind (wpAny_dictEntries hod hdd ?_)
 rw [if_neg (by simp)]
 refine wpAny_bind (wpAny_pure ?_)
 refine wpAny_bind (wpAny_dictEpoch hod hdd ?_)
 rw [if_neg (by simp)]
 refine wpAny_pure ?_
 simp only [show ¬ ((es.size:Int) < 0) from by omega,if_false,Int.toNat_natCast,Array.getElem?_eq_none (Nat.le_refl es.size)]
 refine wpAny_bind ?_
 first | refine wpAny_bind (wpAny_typeNameOfWhole_keyiter hit.typeIs (wpAny_pure ?_)) | refine wpAny_bind (wpAny_typeNameOf_keyiter hit.typeIs (wpAny_pure ?_))
 show wpAny _ _ (setField (.ref it) 0 .none >>= _) _ _ s
 refine wpAny_bind (wpAny_setField ho hd (by simp) ?_)
 show wpAny _ _ (newExc (.type "StopIteration") [] >>= _) _ _ _
 refine wpAny_bind ?_
 simp only [newExc,newTuple]
 refine wpAny_bind (wpAny_newObj_type ?_ (by size_fits))
 refine wpAny_bind (m:=firstArgMember _ _) (wpAny_of_eq (a:=Value.none) (by first | rfl | (simp only [firstArgMember]; rfl)) ?_)
 refine wpAny_newObj_type ?_ (by size_fits)
 simp only [raiseNew]
 refine wpAny_bind (wpAny_handled ?_)
 rw [show A.in1.handled = none from hh]
 refine wpAny_bind (wpAny_pure (wpAny_throw ?_))
 refine wpAny_bind (wpAny_isInstance (T:="StopIteration") (b:=true) ⟨_,Heap.get?_push_size _ rfl,rfl⟩ isSubtype_stop ?_)
 exact wpAny_pure (hQ _ (((Heap.SameBut.update ..).extBut.push _).push _))
end
def UQ (H:Hp) (z:V) (p:List Key × V):Prop:=∃ b,z = .ref b /\ H b = some (.tup (p.1.map kV))
theorem j3 {H:Hp}:∀ {kvs:List (List Key × V)} {xs:List (List Key × Addr × Value)},KT H kvs xs -> AllR (UQ H) (xs.map fun q=>V.ref q.2.1) kvs
 | _,_,.nil=>trivial
 | _,_,.cons h t=>⟨⟨_,rfl,h.2.1⟩,j3 t⟩
open PySem PySem.Spec PyProof.Rows L2 HT
theorem nd1 {α:Type} {a:α}:[a].Nodup:=List.nodup_cons.mpr ⟨(fun z=>nomatch z),List.nodup_nil⟩
theorem Room.u1F {k:Nat} {A:Around} (r:Room k A):A.units + 1 < cLine:=by have:=r.un; omega
section
variable {prog:Program} {w:World} {A:Around} {R:Result -> Shared -> Prop} {s:Shared}
theorem Zv {kx vx target iter:Expr} {ifs:List Expr} {scope:Scope} {pos:Pos} {it:Value} {D:Addr} {env:Env} (I:Nat -> Shared -> Prop)
  (turn:∀ n s,I n s -> wpAny (model prog w) A (pyNext it) (fun r s₁=>match r with
   | none=>R (.ok .next) s₁
   | some v=>wpAny (model prog w) A (letOwnedTupleGo target it v) (fun _ s₂=>wpAny (model prog w) A (assign target env v) (fun _ s₃ =>
     wpAny (model prog w) A (forIn ifs true fun c r=>if r = true then do let ok ← isTrue c env (eval c env); pure (ForInStep.yield ok) else pure (ForInStep.yield r)) (fun ok s₄ =>
      if ok = true then wpAny (model prog w) A (eval kx env) (fun kv s₅=>wpAny (model prog w) A (eval vx env) (fun vv s₆ =>
       wpAny (model prog w) A (dictSet D kv vv) (fun _ s₇=>∃ m,m < n /\ I m s₇) (fun _ _=>False) s₆) (fun _ _=>False) s₅) (fun _ _=>False) s₄
      else ∃ m,m < n /\ I m s₄) (fun _ _=>False) s₃) (fun _ _=>False) s₂) (fun _ _=>False) s₁) (fun _ _=>False) s)
  (n:Nat) (h:I n s) :
  codeAny (model prog w) A (.compLoop (.DictComp kx vx [⟨target,iter,ifs,0⟩] scope pos) 0 it (.ref D) env) R s:=by
 refine codeAny_loop rfl I (fun n s hI=>?_) n h
 show wpAny _ A ((compTurn (.DictComp kx vx [⟨target,iter,ifs,0⟩] scope pos) 0 it (.ref D) env).onRaise (fun x=>do noteFrame x env; theTreesLotGoes x)) _ _ s
 refine wpAny_noted ?_
 rw [compTurn_dict]
 have no:∀ (E:VS7) (e:Value) (s:Shared),(fun (_:Value) (_:Shared)=>False) e s -> E e s:=fun _ _ _ f=>f.elim
 refine wpAny_bind (wpAny_standAt (wpAny_bind (wpAny_mono (turn n s hI) (fun r s₁ h₁=>?_) (no _))))
 cases r with
 | none=>exact wpAny_pure h₁
 | some v =>
  refine wpAny_bind (wpAny_mono h₁ (fun _ s₂ h₂=>?_) (no _))
  refine wpAny_bind (wpAny_mono h₂ (fun _ s₃ h₃=>wpAny_bind (wpAny_mono h₃ (fun ok s₄ h₄=>?_) (no _))) (no _))
  cases ok with
  | false=>exact wpAny_pure ⟨rfl,h₄⟩
  | true =>
   exact wpAny_bind (wpAny_bind (wpAny_mono h₄ (fun kv s₅ h₅=>wpAny_bind (wpAny_holding (wpAny_mono h₅ (fun vv s₆ h₆=>wpAny_bind (wpAny_standAt (wpAny_holding (wpAny_mono h₆ (fun _ s₇ h₇=>wpAny_pure ⟨rfl,h₇⟩) (no _))))) (no _)))) (no _)))
end
def DRaw (prog:Program) (w:World) (Hb:Hp) (h:Heap) (D:Addr) (o:Obj) (kvs:List (List Key × V)):Prop :=
 kvs.length <= sizeLine /\ (D == sysModules) = false /\ ∃ xs:List (List Key × Addr × Value),KT Hb kvs xs /\ ∃ es ep,h.get? D = some o /\ o.ExactDict /\ o.data = .dict es ep /\ es.toList = xs.map (entryOfKey (tupleKind (zM prog w))) /\ (xs.map (·.1)).Nodup
theorem DRaw.at {prog:Program} {w:World} {Hb:Hp} {h h':Heap} {D:Addr} {o:Obj} {kvs:List (List Key × V)} (r:DRaw prog w Hb h D o kvs) (e:h'.get? D = some o):DRaw prog w Hb h' D o kvs :=
 let ⟨z,y,xs,k,es,ep,_,h2,h3,h4,h5⟩:=r; ⟨z,y,xs,k,es,ep,e,h2,h3,h4,h5⟩
theorem DRaw.obj {prog:Program} {w:World} {Hb H':Hp} {h:Heap} {D:Addr} {o:Obj} {kvs:List (List Key × V)} (r:DRaw prog w Hb h D o kvs) (hk:∀ b xs,Hb b = some (.tup xs) -> H' b = some (.tup xs)):z6 prog w H' h D (.dT kvs) :=
 let ⟨z,y,xs,k,es,ep,h1,h2,h3,h4,h5⟩:=r; ⟨z,y,xs,k.keeps hk,o,es,ep,h1,h2,h3,h4,h5⟩
theorem DRaw.nocell {prog:Program} {w:World} {Hb:Hp} {h:Heap} {D:Addr} {o:Obj} {kvs:List (List Key × V)} (r:DRaw prog w Hb h D o kvs) (v:Option Value):o.data ≠ .cell v:=by
 obtain ⟨_,_,_,_,es,ep,_,_,h3,_⟩:=r
 rw [h3]; intro z; cases z
def Y1 (J:It) (σ0:L2.St) (H1:Hp) (g:TG) (tt:TT) (tk tv:TE) (Q:VK):Prop :=
 ∃ W:Nat -> Nat -> List (List Key × V) -> Hp -> L2.St -> Hp -> Prop,(∃ m,W 0 m [] H1 σ0 H1) /\ ∀ i m kvs Hb σ' H',W i m kvs Hb σ' H' →
  (J.stop i H' /\ (∀ b xs,Hb b = some (.tup xs) -> H' b = some (.tup xs)) /\ ∀ l,H' l = none -> Q (.ref l) (upd H' l (.dT kvs))) ∨
  (J.go i H' /\ ∃ Nn:List (List Key × V) -> Hp -> L2.St -> Hp -> Prop,(∀ zs Hc σ2 H2,Nn zs Hc σ2 H2 -> ∃ m',m' < m /\ W (i + 1) m' zs Hc σ2 H2) ∧
   ∀ x H2,J.yld i H' x H2 -> g x σ' H2 fun σ2 H3=>tt σ2 H3 fun b H4=>if b = true then tk σ2 H4 fun y H5=>tv σ2 H5 fun v H6=>kvs.length < sizeLine /\ ∃ b ks,y = .ref b /\ H6 b = some (.tup (ks.map kV)) /\ (∀ c xs,Hb c = some (.tup xs) -> H6 c = some (.tup xs)) /\ Nn (putK kvs ks v) H6 σ2 H6 else Nn kvs Hb σ2 H4)
def UR (wi:TI) (sub:List (Option Nat)) (g:TG) (tt:TT) (tk tv:TE):TE:=fun σ H Q=>wi σ H fun J H1=>Y1 J (capt sub σ) H1 g tt tk tv Q
section
variable {X:Cx} {pins:List (Addr × Obj)} {σ:L2.St} {H2:Hp} {s₂:Shared} {it:Addr} {fp:List Addr} {tn:Nat -> Heap -> Prop} {J:It} {scope:Scope} {cl:List (Str × Addr)} {N':List Str} {sub:List (Option Nat)}
theorem Y2 {C D:Addr} {s₀:Shared} {s':Shared} {σ':L2.St} {H' Hb:Hp} {kvs:List (List Key × V)} {o oC:Obj} (I:Inv X pins σ H2 s₂)
    (hs₀:∀ b o,s₂.heap.get? b = some o -> s₀.heap.get? b = some o) (hos:s₀.os = s₂.os) (hD:s₂.heap.objs.size <= D) (hC:s₂.heap.objs.size <= C) (hDC:D ≠ C) (f2:∀ b ∈ fp,FpOk X pins H2 b)
    (I':Inv (cxC X N' scope cl C D fp s₀ H2) pins σ' H' s') (hn:H' D = none) (hb:∀ b xs,Hb b = some (.tup xs) -> H' b = some (.tup xs)) (rv:DRaw X.prog X.w Hb s'.heap D o kvs)
    (ho:s'.heap.get? C = some oC) (hd:∀ v,oC.data ≠ .cell v):Inv X (pins ++ [(C,oC)]) σ (upd H' D (.dT kvs)) s' /\ FpOk X pins (upd H' D (.dT kvs)) C:=by
  have neD:∀ b o,s₂.heap.get? b = some o -> b ≠ D:=fun b o e=>Nat.ne_of_lt (Nat.lt_of_lt_of_le (Heap.lt_size e) hD)
  have nm:∀ b o,s₂.heap.get? b = some o -> b ∉ fp -> b ∉ D :: fp:=fun b o e h z=>(List.mem_cons.mp z).elim (neD b o e) h
  have U:=I'.base
  have HC:upd H' D (.dT kvs) C = none:=by rw [zn (Ne.symm hDC)]; exact I'.free
  have fpc:FpOk X pins (upd H' D (.dT kvs)) C:=I.fpOk hC HC
  have tp:∀ b xs,H2 b = some (.tup xs) -> upd H' D (.dT kvs) b = some (.tup xs):=fun b xs e=>by have z:=U.tups b xs e; rw [zn (zt z hn)]; exact z
  have un:Un (frs X.stack) fp H2 (upd H' D (.dT kvs)) s₂.heap s'.heap :=
    { keep:=fun b o e n h1 h2=>U.keep b o (hs₀ b o e) n h1 (nm b o e h2)
      slot:=fun b o e n h1 h2=>U.slot b o (hs₀ b o e) n h1 (nm b o e h2)
      free:=fun b o e n h2=>by rw [zn (neD b o e)]; exact U.free b o (hs₀ b o e) n (nm b o e h2)
      there:=fun b o e h2=>U.there b o (hs₀ b o e) (nm b o e h2)
      tups:=tp
      frzs:=fun b o u e=>by have z:=U.frzs b o u e; rw [zn (zt z hn)]; exact z
      tbls:=fun b ps e=>by obtain ⟨more,z⟩:=U.tbls b ps e; exact ⟨more,by rw [zn (zt z hn)]; exact z⟩ }
  have hok:HOk X.prog X.w (upd H' D (.dT kvs)) s'.heap:=HOk.track I'.hok hn (rv.obj fun b xs e=>by have z:=hb b xs e; rw [zn (zt z hn)]; exact z)
  have IX:Inv X pins σ (upd H' D (.dT kvs)) s':=I.call' (I'.os.trans hos) un hok I'.bare fun b hb=>⟨(f2 b hb).2.2.2.1,(f2 b hb).2.1,(f2 b hb).2.2.2.2.1,(f2 b hb).2.2.2.2.2⟩
  refine ⟨IX.pins_of fun p hp=>?_,fpc⟩
  rcases List.mem_append.mp hp with hp | hp
  · exact IX.pin p (List.mem_append_right _ hp)
  · rw [List.mem_singleton.mp hp]
    exact ⟨ho,HC,fpc.2.1,fpc.2.2.1,hd⟩
theorem Y3 {C D:Addr} {s₀:Shared} {tg:Expr} {pos:Pos} {kx vx iter:Expr} {ifs:List Expr} {g:TG} {tt:TT} {tk tv:TE} {Q:VK} {RR:Value -> Addr -> Result -> Shared -> Prop} {W:Nat -> Nat -> List (List Key × V) -> Hp -> L2.St -> Hp -> Prop}
  (hu:X.A.units + 1 < cLine) (I:Inv X pins σ H2 s₂) (hcalm:X.calm = true) (T:Turn X.prog X.w X.K tg J fp it tn) (f2:∀ b ∈ fp,FpOk X pins H2 b) (hfp:∀ b ∈ fp,b < s₂.heap.objs.size)
  (hs₀:∀ b o,s₂.heap.get? b = some o -> s₀.heap.get? b = some o) (hos:s₀.os = s₂.os) (hD:s₂.heap.objs.size <= D) (hC:s₂.heap.objs.size <= C) (hDC:D ≠ C)
  (hcl1:∀ x c,cl.lookup x = some c -> X.env.cells.lookup x = some c)
  (hg:PG (cxC X N' scope cl C D fp s₀ H2) tg g) (ht:PIfs (cxC X N' scope cl C D fp s₀ H2) ifs tt) (hk:PE (cxC X N' scope cl C D fp s₀ H2) kx tk) (he:PE (cxC X N' scope cl C D fp s₀ H2) vx tv)
  (turn:∀ i m kvs Hb σ' H',W i m kvs Hb σ' H' →
   (J.stop i H' /\ (∀ b xs,Hb b = some (.tup xs) -> H' b = some (.tup xs)) /\ ∀ l,H' l = none -> Q (.ref l) (upd H' l (.dT kvs))) ∨
   (J.go i H' /\ ∃ Nn:List (List Key × V) -> Hp -> L2.St -> Hp -> Prop,(∀ zs Hc σ2 H2,Nn zs Hc σ2 H2 -> ∃ m',m' < m /\ W (i + 1) m' zs Hc σ2 H2) ∧
    ∀ x H3,J.yld i H' x H3 -> g x σ' H3 fun σ2 H3=>tt σ2 H3 fun b H4=>if b = true then tk σ2 H4 fun y H5=>tv σ2 H5 fun v H6=>kvs.length < sizeLine /\ ∃ b ks,y = .ref b /\ H6 b = some (.tup (ks.map kV)) /\ (∀ c xs,Hb c = some (.tup xs) -> H6 c = some (.tup xs)) /\ Nn (putK kvs ks v) H6 σ2 H6 else Nn kvs Hb σ2 H4))
  (hRR:∀ (D C:Addr) (oC:Obj) (m:Str -> Option Value) (s':Shared) (Hf:Hp),Inv X (pins ++ [(C,oC)]) σ Hf s' -> s'.heap.Ns C m -> FpOk X pins Hf C -> Q (.ref D) Hf -> RR (.ref D) C (.ok .next) s')
  (n:Nat) (s:Shared) (h:∃ i kvs Hb o σ' H',Inv (cxC X N' scope cl C D fp s₀ H2) pins σ' H' s /\ tn i s.heap /\ (∀ b ∈ fp,H' b = none) /\ H' D = none ∧
   DRaw X.prog X.w Hb s.heap D o kvs /\ W i n kvs Hb σ' H') :
  codeAny (model X.prog X.w) X.A (.compLoop (.DictComp kx vx [⟨tg,iter,ifs,0⟩] scope pos) 0 (.ref it) (.ref D) (compEnvC scope cl C X.env)) (RR (.ref D) C) s:=by
 have frsz:∀ b ∈ frs X.stack,b < s₂.heap.objs.size:=fun b hb=>by
  rcases List.mem_cons.mp (I.stkSub b hb) with z | z
  ·rw [z]; exact I.lt
  ·exact Nat.lt_of_not_le fun q=>I.nofs q z
 have cells:∀ x c,cl.lookup x = some c -> c < s₂.heap.objs.size:=fun x c e=>let ⟨v,q⟩:=I.cell x c (hcl1 x c e); q.lt
 have pinsz:∀ p ∈ X.pn ++ pins,p.1 < s₂.heap.objs.size:=fun p hp=>Heap.lt_size (I.pin p hp).1
 refine Zv (fun n s=>∃ i kvs Hb o σ' H',Inv (cxC X N' scope cl C D fp s₀ H2) pins σ' H' s /\ tn i s.heap /\ (∀ b ∈ fp,H' b = none) /\ H' D = none ∧
   DRaw X.prog X.w Hb s.heap D o kvs /\ W i n kvs Hb σ' H') ?_ n h
 rintro n s ⟨i,kvs,Hb,o,σ',H',I',st',fr,hn,rv,w'⟩
 have hy:s.heap.get? D = some o:=let ⟨_,_,_,_,_,_,e,_⟩:=rv; e
 have pD:Inv (cxC X N' scope cl C D fp s₀ H2) (pins ++ [(D,o)]) σ' H' s:=I'.pins_of fun p hp=>by
  rcases List.mem_append.mp hp with hp | hp
  ·exact I'.pin p (List.mem_append_right _ hp)
  ·rw [List.mem_singleton.mp hp]
   exact ⟨hy,hn,hDC,fun z=>absurd (Nat.lt_of_lt_of_le (frsz _ z) hD) (Nat.lt_irrefl _),rv.nocell⟩
 have fpok:∀ {H'':Hp},(∀ b ∈ fp,H'' b = none) -> ∀ b ∈ fp,FpOk (cxC X N' scope cl C D fp s₀ H2) (pins ++ [(D,o)]) H'' b:=fun hz b hb=>by
  refine ⟨hz b hb,Nat.ne_of_lt (Nat.lt_of_lt_of_le (hfp b hb) hC),fun z=>?_,.inl (List.mem_cons_of_mem _ hb),fun x c e=>(f2 b hb).2.2.2.2.1 x c (hcl1 x c e),fun p hp=>?_⟩
  ·rcases List.mem_cons.mp (I.stkSub b z) with z | z
   ·exact (f2 b hb).2.1 z
   ·exact (f2 b hb).2.2.1 z
  ·rcases List.mem_append.mp hp with hp | hp
   ·exact (f2 b hb).2.2.2.2.2 p (List.mem_append_left _ hp)
   ·rcases List.mem_append.mp hp with hp | hp
    ·exact (f2 b hb).2.2.2.2.2 p (List.mem_append_right _ hp)
    ·rw [List.mem_singleton.mp hp]
     exact Nat.ne_of_gt (Nat.lt_of_lt_of_le (hfp b hb) hD)
 rcases turn i n kvs Hb σ' H' w' with ⟨stop,hbt,q⟩ | ⟨go,Nn,hN,step⟩
 ·refine thn (T.done (cxC X N' scope cl C D fp s₀ H2) rfl rfl rfl hcalm i _ s σ' H' (fun _ _=>False) pD (fpok fr) st' stop) fun r s1 ⟨hr,I1⟩=>?_
  subst hr
  have hy1:=(I1.pin (D,o) (by simp)).1
  obtain ⟨m,hm,_⟩:=I1.loc
  obtain ⟨oC,es,ep,hoC,hdC,_⟩:=id hm
  obtain ⟨IX,fpc⟩:=Y2 I hs₀ hos hD hC hDC f2 I1.unpinned hn hbt (rv.at hy1) hoC (by intro v z; rw [hdC] at z; cases z)
  exact hRR D C oC m s1 _ IX hm fpc (q D hn)
 ·refine thn (T.item (cxC X N' scope cl C D fp s₀ H2) rfl rfl rfl hcalm i _ s σ' H' (fun _ _=>False) pD (fpok fr) st' go) fun r s1 ⟨u,hr,h4⟩=>?_
  subst hr
  refine thn h4 fun _ s2 ⟨x5,H5,I5,r5,y5,st5,fr5⟩=>?_
  have I5':=I5.pinned (fpok fr5) (T.obj _ _ st5)
  refine thn (hg _ s2 σ' H5 x5 u _ I5' r5 (step x5 H5 y5)) fun _ s3 ⟨σ6,H6,I6,q6⟩=>?_
  refine thn (ht _ s3 σ6 H6 _ I6 q6) fun ok s4 ⟨H7,I7,q7⟩=>?_
  have stay:∀ {σ7:L2.St} {H7:Hp} {s7:Shared},Inv (cxC X N' scope cl C D fp s₀ H2) (pins ++ [(D,o)] ++ wz fp s2.heap) σ7 H7 s7 →
    (∀ b ∈ fp,∀ o,s2.heap.get? b = some o -> s7.heap.get? b = some o) /\ (∀ b ∈ fp,H7 b = none) /\ H7 D = none /\ s7.heap.get? D = some o:=fun {σ7 H7 s7} I7=>by
   have d:=I7.pin (D,o) (by simp)
   refine ⟨fun b hb o e=>(I7.pin (b,o) (List.mem_append_right _ (List.mem_append_right _ (yf hb e)))).1,fun b hb=>?_,d.2.1,d.1⟩
   obtain ⟨o,e,_⟩:=T.obj _ _ st5 b hb
   exact (I7.pin (b,o) (List.mem_append_right _ (List.mem_append_right _ (yf hb e)))).2.1
  cases ok with
  | false =>
   rw [if_neg (by decide)] at q7 ⊢
   obtain ⟨k1,k2,k3,k4⟩:=stay I7
   obtain ⟨m',hm,w7⟩:=hN kvs Hb σ6 H7 q7
   exact ⟨m',hm,i + 1,kvs,Hb,o,σ6,H7,I7.unpinned.unpinned,T.keep _ _ _ st5 k1,k2,k3,rv.at k4,w7⟩
  | true =>
   rw [if_pos rfl] at q7 ⊢
   refine thn (hk _ s4 σ6 H7 _ I7 q7) fun kv s5 ⟨y,H8,I8,ry,q8⟩=>?_
   refine thn (he _ s5 σ6 H8 _ I8 q8) fun vv s6 ⟨v,H9,I9,r9,hl9,b,ks,ey,eb,tp,n9⟩=>?_
   subst ey
   cases (show kv = Value.ref b from ry)
   obtain ⟨k1,k2,k3,k4⟩:=stay I9
   obtain ⟨z,hd,xs,rel,es,ep,h1,h2,h3,h4',h5⟩:=rv.at k4
   have dd:s6.heap.DictOfH (tupleKind (zM X.prog X.w)) D xs:=by
    refine ⟨o,es,ep,h1,h2,h3,h4',fun x hx=>?_,h5⟩
    have all:∀ {l:List (List Key × V)} {m:List (List Key × Addr × Value)},KT Hb l m -> ∀ x ∈ m,(tupleKind (zM X.prog X.w)).is s6.heap x.1 x.2.1:=by
     intro l m q
     induction q with
     | nil=>intro x hx; exact nomatch hx
     | @cons p q ps qs hq t ih =>
      intro x hx
      rcases List.mem_cons.mp hx with e | hx
      ·subst e
       exact tH I9.hok (by rw [← hq.1]; exact tp _ _ hq.2.1)
      ·exact ih x hx
    exact all rel x hx
   have xl:xs.length <= sizeLine:=by rw [← Paired.length rel]; exact z
   refine wpAny_dictSet_heap (hsz:=xl) (show (tupleKind (zM X.prog X.w)).room X.A from Nat.lt_of_succ_lt hu) (tH I9.hok eb) dd fun h' dd' sb=>?_
   obtain ⟨o',es',ep',hq1,hq2,hq3,hq4,_,hq5⟩:=dd'
   obtain ⟨m',hm,w9⟩:=hN _ _ σ6 H9 n9
   have pl:=yk kvs ks v
   refine ⟨m',hm,i + 1,putK kvs ks v,H9,o',σ6,H9,?_,T.keep _ _ _ (T.keep _ _ _ st5 k1) fun b hb o e=>sb.extBut b o (Nat.ne_of_lt (Nat.lt_of_lt_of_le (hfp b hb) hD)) e,k2,k3,⟨by omega,hd,_,(KT.keeps rel tp).put ks eb r9,es',ep',hq1,hq2,hq3,hq4,hq5⟩,w9⟩
   exact (I9.unpinned.unpinned).turned (it:=D) (t':=_) (h':=h') (fun b o hb e=>sb.extBut b o hb e) k3 hDC (.inl (by simp)) (fun x c e=>Nat.ne_of_lt (Nat.lt_of_lt_of_le (cells x c e) hD)) (fun p hp=>Nat.ne_of_lt (Nat.lt_of_lt_of_le (pinsz p hp) hD))
theorem jb {tg:Expr} {pos:Pos} {kx vx iter:Expr} {ifs:List Expr} {g:TG} {tt:TT} {tk tv:TE} {E:VS7} {Q:VK} {RR:Value -> Addr -> Result -> Shared -> Prop}
  (hu:X.A.units + 1 < cLine) (I:Inv X pins σ H2 s₂) (hcalm:X.calm = true) (T:Turn X.prog X.w X.K tg J fp it tn) (st:tn 0 s₂.heap) (f2:∀ b ∈ fp,FpOk X pins H2 b)
  (S:CSc X scope N' sub) (hcl1:∀ x c,cl.lookup x = some c -> X.env.cells.lookup x = some c) (hcl2:∀ y ∈ scope.names,y.2 = .free -> ∃ c,cl.lookup y.1 = some c)
  (hg:∀ C D fp s H,PG (cxC X N' scope cl C D fp s H) tg g) (ht:∀ C D fp s H,PIfs (cxC X N' scope cl C D fp s H) ifs tt) (hk:∀ C D fp s H,PE (cxC X N' scope cl C D fp s H) kx tk) (he:∀ C D fp s H,PE (cxC X N' scope cl C D fp s H) vx tv)
  (hW:Y1 J (capt sub σ) H2 g tt tk tv Q)
  (hRR:∀ (D C:Addr) (oC:Obj) (m:Str -> Option Value) (s':Shared) (Hf:Hp),Inv X (pins ++ [(C,oC)]) σ Hf s' -> s'.heap.Ns C m -> FpOk X pins Hf C -> Q (.ref D) Hf -> RR (.ref D) C (.ok .next) s') :
  wpAny (model X.prog X.w) X.A newDict (fun acc s₃=>wpAny (model X.prog X.w) X.A (newFunctionEnv scope X.env.globals cl [] X.env.qual none .none (some X.env)) (fun cenv s₄ =>
   codeAny (model X.prog X.w) X.A (.compStart (.DictComp kx vx [⟨tg,iter,ifs,0⟩] scope pos) 0 (.ref it) acc { cenv with scope:=relabel scope X.env }) (RR acc cenv.locals) s₄) E s₃) E s₂:=by
 obtain ⟨W,⟨m0,w0⟩,turn⟩:=hW
 refine wpAny_newObj_type (wpAny_newFunctionEnv S.nocell (by intro y hy; simp at hy) (fun h₁ hns₁ hsb₁=>?_) S.kind)
 dsimp only at hns₁ hsb₁ ⊢
 have hC:(s₂.heap.push { cls:=.type "dict",dict:=none,data:=.dict #[] }).objs.size = s₂.heap.objs.size + 1:=Heap.size_push ..
 rw [hC] at hns₁ hsb₁ ⊢
 have hk1:∀ b o,(s₂.heap.push { cls:=.type "dict",dict:=none,data:=.dict #[] }).get? b = some o -> h₁.get? b = some o:=fun b o e =>
  hsb₁.extBut b o (by have:=Heap.lt_size e; rw [hC] at this; exact Nat.ne_of_lt this) (Heap.get?_push_of_some _ e)
 have hfp:∀ b ∈ fp,b < s₂.heap.objs.size:=fun b hb=>by
  obtain ⟨o,e,_⟩:=T.obj _ _ st b hb
  exact Heap.lt_size e
 have I0:=vi (tk:=s₂.toks + ([]:List (Str × Value)).length) I S hcl1 hcl2 f2 hfp hns₁ hk1
 have hD0:h₁.get? s₂.heap.objs.size = some { cls:=.type "dict",data:=.dict #[] }:=hk1 _ _ (Heap.get?_push_size _ rfl)
 obtain ⟨_,hd0,xs0,rel0,o0,es0,ep0,q1,q2,q3,q4,q5⟩:=(j1 (P:=X.prog) (w:=X.w) (H:=H2) s₂.heap I.big)
 rw [Heap.get?_push_size _ rfl] at q1
 cases q1
 have loop:codeAny (model X.prog X.w) X.A (.compLoop (.DictComp kx vx [⟨tg,iter,ifs,0⟩] scope pos) 0 (.ref it) (.ref s₂.heap.objs.size) (compEnvC scope cl (s₂.heap.objs.size + 1) X.env)) (RR (.ref s₂.heap.objs.size) (s₂.heap.objs.size + 1)) { s₂ with heap:=h₁,toks:=s₂.toks + ([]:List (Str × Value)).length } :=
  Y3 (s₀:={ s₂ with heap:=s₂.heap.push { cls:=.type "dict",dict:=none,data:=.dict #[] } }) (C:=s₂.heap.objs.size + 1) (D:=s₂.heap.objs.size) hu I hcalm T f2 hfp (fun b o e=>Heap.get?_push_of_some _ e) rfl (Nat.le_refl _) (Nat.le_succ _) (Nat.ne_of_lt (Nat.lt_succ_self _)) hcl1 (hg _ _ _ _ _) (ht _ _ _ _ _) (hk _ _ _ _ _) (he _ _ _ _ _) turn hRR m0 _
   ⟨0,[],H2,_,capt sub σ,H2,I0,T.keep _ _ _ st fun b hb o e=>hk1 b o (Heap.get?_push_of_some _ e),fun b hb=>(f2 b hb).1,I.hok.fresh (Nat.le_refl _),⟨Nat.zero_le _,hd0,[],.nil,es0,ep0,hD0,q2,q3,by cases rel0; exact q4,List.nodup_nil⟩,w0⟩
 exact codeAny_compStart_dict loop (T.self _ _ _ _ _ (T.keep _ _ _ st fun b hb o e=>hk1 b o (Heap.get?_push_of_some _ e)) loop)
end
section
variable {X:Cx} {scope:Scope} {N':List Str} {sub:List (Option Nat)} {tg:Expr} {pos:Pos} {kx vx iter:Expr} {ifs:List Expr} {wi:TI} {g:TG} {tt:TT} {tk tv:TE}
theorem Wl (hu:X.A.units + 1 < cLine) (S:CSc X scope N' sub) (hcalm:X.calm = true) (hi:PI X tg iter wi)
  (hg:∀ cl C D fp s H,PG (cxC X N' scope cl C D fp s H) tg g) (ht:∀ cl C D fp s H,PIfs (cxC X N' scope cl C D fp s H) ifs tt) (hk:∀ cl C D fp s H,PE (cxC X N' scope cl C D fp s H) kx tk) (he:∀ cl C D fp s H,PE (cxC X N' scope cl C D fp s H) vx tv)
  (hs:∀ x,foldedSetIterable iter X.env x = pure x:=by intro _; rfl):PE X (.DictComp kx vx [⟨tg,iter,ifs,0⟩] scope pos) (UR wi sub g tt tk tv):=by
 intro pins s σ H Q I h
 obtain ⟨cl,hclos,hcl1,hcl2⟩:=S.clos I
 rw [arm_eval_DictComp]
 refine wpAny_comprehension_free (use:=none) rfl hs hclos S.kind S.names (thn (hi pins s σ H _ I h) fun v s1 h1=>thn h1 fun itv s2 h2=>?_)
 obtain ⟨it,fp,tn,J,H2,e,I2,T,st2,f2,hW⟩:=h2
 subst e
 refine jb (RR:=fun acc C=>compPost (model X.prog X.w) X.A X.xe none (EP X pins σ Q) acc C) hu I2 hcalm T st2 f2 S hcl1 hcl2 (hg cl) (ht cl) (hk cl) (he cl) hW ?_
 intro D C oC m s' Hf IX hm fpc q
 refine ⟨m,hm,fun h' sb=>⟨.ref D,Hf,?_,rfl,q⟩⟩
 exact (IX.unpinned).turned (it:=C) (t':=s'.toks) (h':=h') (fun b o hb e=>sb.extBut b o hb e) fpc.1 fpc.2.1 fpc.2.2.2.1 fpc.2.2.2.2.1 fpc.2.2.2.2.2
end
open PySem PySem.Spec PyProof.Rows L2 PySem.W
def Itd (a:Addr) (o:Obj) (kvs:List (List Key × V)):It :=
 ⟨fun i H=>i < kvs.length /\ H a = some (.frz o (.dT kvs)),fun i H x H'=>H' = H /\ ∃ p b,kvs[i]? = some p /\ x = .ref b /\ H b = some (.tup (p.1.map kV)),fun i H=>i = kvs.length /\ H a = some (.frz o (.dT kvs))⟩
theorem j4 {P:Program} {w:World} {H:Hp} {h:Heap} {a:Addr} {o:Obj} {es:Array DictEntry} {ep:Nat} {kvs:List (List Key × V)} (x:z6 P w H h a (.frz o (.dT kvs))) (hd:o.data = .dict es ep) :
  ∃ xs:List (List Key × Addr × Value),KT H kvs xs /\ h.get? a = some o /\ es.toList = xs.map (entryOfKey (tupleKind (zM P w))):=by
 obtain ⟨g,z,lo,xs,rel,o',es',ep',g',hx,hd',he,nd⟩:=x
 rw [g] at g'
 cases g'
 rw [hd] at hd'
 injection hd' with e1 e2
 subst e1
 exact ⟨xs,rel,g,he⟩
theorem VA {P:Program} {w:World} {K:FG7} {tg:Expr} (a it:Addr) (o:Obj) (es:Array DictEntry) (ep:Nat) (kvs:List (List Key × V)) (hx:o.ExactDict) (hd:o.data = .dict es ep) (hes:es.size = kvs.length) :
  Turn P w K tg (Itd a o kvs) [it] it (fun i h=>h.IsKeyIter it a i es.size ep) where
 mem:=by simp
 obj:=fun i h st b hb=>by
  have e:b = it:=by simpa using hb
  subst e
  obtain ⟨o,e,c,d⟩:=st
  exact ⟨o,e,fun v z=>by rw [d] at z; cases z⟩
 keep:=fun i h h' st k=>st.at fun o e=>k it (by simp) o e
 item:=by
  intro X hP hw hK hc i pins s σ H E I hf st hg
  subst hP hw hK
  obtain ⟨hi,hH⟩:=hg
  obtain ⟨xs,rel,g,he⟩:=j4 (I.hok a _ hH) hd
  have hl:kvs.length = xs.length:=Paired.length rel
  obtain ⟨f0,f1,f2,f3,f4,f5⟩:=hf it (by simp)
  refine Wk st ⟨o,g,hx,hd⟩ (by omega) fun h' st' sb=>?_
  have I1:Inv X pins σ H { s with heap:=h' }:=I.turned (t':=s.toks) (fun b o hb e=>(sb.2 b hb).trans e) f0 f1 f3 f4 f5
  obtain ⟨oi,e,c,d⟩:=id st'
  have hy:i < xs.length:=by omega
  have ee:=entry_at he i
  rw [Array.getElem?_eq_getElem (by omega),List.getElem?_eq_getElem hy,Option.map_some] at ee
  have ek:es[i].key = Value.ref xs[i].2.1:=by rw [Option.some.inj ee]; rfl
  obtain ⟨p,hp,hr⟩:∃ p,kvs[i]? = some p /\ H xs[i].2.1 = some (.tup (p.1.map kV)):=by
   have hz:(xs.map fun q=>V.ref q.2.1)[i]? = some (V.ref xs[i].2.1):=by rw [List.getElem?_map,List.getElem?_eq_getElem hy]; rfl
   have hk:=j3 rel
   have:∀ {zs:List V} {ps:List (List Key × V)} {j:Nat} {b:Addr},AllR (UQ H) zs ps -> zs[j]? = some (V.ref b) -> ∃ p,ps[j]? = some p /\ H b = some (.tup (p.1.map kV)):=by
    intro zs
    induction zs with
    | nil=>intro ps j b _ h; cases h
    | cons z zs ih =>
     intro ps j b hA h
     cases ps with
     | nil=>exact hA.elim
     | cons p ps =>
      cases j with
      | zero =>
       obtain ⟨b',e',hb'⟩:=hA.1
       have:z = V.ref b:=Option.some.inj h
       rw [this] at e'
       cases e'
       exact ⟨p,rfl,hb'⟩
      | succ j =>
       obtain ⟨p',h1,h2⟩:=ih (ps:=ps) (j:=j) hA.2 (show zs[j]? = some (V.ref b) from h)
       exact ⟨p',h1,h2⟩
   exact this hk hz
  exact ⟨_,rfl,Z1 (s:={ s with heap:=h' }) e c d (by decide) ⟨V.ref xs[i].2.1,H,I1,ek,⟨rfl,p,_,hp,rfl,hr⟩,st',fun b hb=>(hf b hb).1⟩⟩
 done:=by
  intro X hP hw hK hc i pins s σ H E I hf st hg
  subst hP hw hK
  obtain ⟨hi,hH⟩:=hg
  obtain ⟨xs,rel,g,he⟩:=j4 (I.hok a _ hH) hd
  obtain ⟨f0,f1,f2,f3,f4,f5⟩:=hf it (by simp)
  have ei:i = es.size:=by omega
  subst ei
  exact Vz (I.ok.hd hc) st ⟨o,g,hx,hd⟩ fun h' eb=>⟨rfl,I.turned (t':=s.toks) (fun b o hb e=>eb b o hb e) f0 f1 f3 f4 f5⟩
 self:=fun _ _ _ _ _ st h=>wpAny_pyIter_keyiter st h
section
variable {X:Cx} {tg:Expr}
theorem Grow.frzR {m:List Addr} {H:Hp} {d:Addr} {kvs:List (List Key × V)} {o:Obj} (h:H d = some (.dT kvs)) (hm:d ∈ m):Grow m H (upd H d (.frz o (.dT kvs))) :=
 ⟨fun b u hb q=>by rw [zn (show b ≠ d from fun z=>hb (by rw [z]; exact hm))]; exact q,fun b zs q=>by rw [zn (fun z=>by subst z; rw [h] at q; cases q)]; exact q,fun b u v q=>by rw [zn (fun z=>by subst z; rw [h] at q; cases q)]; exact q⟩
def iDT (tl:TE):TI:=fun σ H R=>tl σ H fun x H1=>∃ a kvs,x = .ref a /\ Rd H1 a (.dT kvs) /\ ∀ o H',H' a = some (.frz o (.dT kvs)) -> Grow [a] H1 H' -> (∀ b,b ≠ a -> H' b = H1 b) -> R (Itd a o kvs) H'
theorem US {l:Expr} {tl:TE} (hl:PE X l tl):PI X tg l (iDT tl):=by
 intro pins s σ H R I h
 refine thn (hl pins s σ H _ I h) fun v s1 ⟨x,H1,I1,r1,q1⟩=>?_
 obtain ⟨a,kvs,e,hrd,q⟩:=q1
 subst e
 cases r1
 have key:∀ (H2:Hp) (o:Obj),Inv X pins σ H2 s1 -> H2 a = some (.frz o (.dT kvs)) -> R (Itd a o kvs) H2 -> wpAny (model X.prog X.w) X.A (pyIter (.ref a)) (PIE X pins σ tg R) X.xe s1:=by
  intro H2 o I2 hH hR
  obtain ⟨g,z,lo,xs,rel,o',es,ep,g',hx,hd,he,nd⟩:=(show z6 X.prog X.w H2 s1.heap a (.frz o (.dT kvs)) from I2.hok a _ hH)
  rw [g] at g'
  cases g'
  have hl:kvs.length = xs.length:=Paired.length rel
  have hes:es.size = xs.length:=size_of_entries he
  refine Wj lo ⟨o,g,hx,hd⟩ ?_
  refine ⟨s1.heap.objs.size,[s1.heap.objs.size],_,_,H2,rfl,I2.kept (t':=s1.toks) fun b o e=>Heap.get?_push_of_some _ e,VA a _ o es ep kvs hx hd (by omega),⟨_,Heap.get?_push_size _ rfl,rfl,rfl⟩,fun b hb=>?_,hR⟩
  have e:b = s1.heap.objs.size:=by simpa using hb
  subst e
  exact I2.fpOk (Nat.le_refl _) (I2.hok.fresh (Nat.le_refl _))
 rcases hrd with ha | ⟨o,ha⟩
 ·obtain ⟨z,lo,xs,rel,o,es,ep,g,hx,hd,he,nd⟩:=(show z6 X.prog X.w H1 s1.heap a (.dT kvs) from I1.hok a _ ha)
  have I2:Inv X pins σ (upd H1 a (.frz o (.dT kvs))) { s1 with heap:=s1.heap,toks:=s1.toks }:=si I1 (by rw [ha]; trivial) (Heap.SameBut.refl ..) ⟨o,g⟩ ⟨g,z,lo,xs,?_,o,es,ep,g,hx,hd,he,nd⟩
  ·exact key _ o I2 zc (q o _ zc (Grow.frzR ha (by simp)) fun b hb=>zn hb)
  ·refine KT.keeps rel fun b ys e=>?_
   have:b ≠ a:=fun z=>by rw [z,ha] at e; cases e
   rw [zn this]; exact e
 ·exact key _ o I1 ha (q o _ ha (Grow.refl _ _) fun _ _=>rfl)
end
theorem WS {a:Addr} {o:Obj} {kvs:List (List Key × V)} {g:TG} {tb:TS} {D:Ends} {σ:L2.St} {H:Hp} (Pv:Nat -> L2.St -> Hp -> Prop) (h0:Pv 0 σ H) (hl:∀ i σ H,i <= kvs.length -> Pv i σ H -> H a = some (.frz o (.dT kvs)))
  (hs:∀ i p b σ H,kvs[i]? = some p -> H b = some (.tup (p.1.map kV)) -> Pv i σ H -> g (.ref b) σ H fun σ2 H2=>tb { D with nx:=Pv (i + 1),ct:=Pv (i + 1),bk:=D.nx } σ2 H2) (hd:∀ σ H,Pv kvs.length σ H -> D.nx σ H) :
  ∃ W:Nat -> Nat -> L2.St -> Hp -> Prop,(∃ m,W 0 m σ H) /\ ∀ i m σ H,W i m σ H →
   ((Itd a o kvs).stop i H /\ D.nx σ H) \/ ((Itd a o kvs).go i H /\ ∃ N:L2.St -> Hp -> Prop,(∀ σ' H',N σ' H' -> ∃ m',m' < m /\ W (i + 1) m' σ' H') /\ ∀ x H',(Itd a o kvs).yld i H x H' -> g x σ H' fun σ2 H2=>tb { D with nx:=N,ct:=N,bk:=D.nx } σ2 H2):=by
 refine ⟨fun i m σ H=>m = kvs.length - i /\ i <= kvs.length /\ Pv i σ H,⟨kvs.length,by simp,Nat.zero_le _,h0⟩,?_⟩
 rintro i m σ H ⟨rfl,hi,p⟩
 have q:=hl i σ H hi p
 by_cases hlt:i < kvs.length
 ·refine .inr ⟨⟨hlt,q⟩,Pv (i + 1),fun σ' H' p'=>⟨kvs.length - (i + 1),by omega,rfl,hlt,p'⟩,fun x H' y=>?_⟩
  obtain ⟨rfl,pk,b,hp,rfl,hb⟩:=y
  exact hs i pk b σ _ hp hb p
 ·have e:i = kvs.length:=by omega
  exact .inl ⟨⟨e,q⟩,hd σ H (e ▸ p)⟩
def x0R (k:Nat) (rows:List (List Int)) (s l:Nat):Nat:=wfN k s l (fstI rows s (nN k s l))
def x1R (k:Nat) (rows:List (List Int)) (s l:Nat):Nat:=wfN k s l (1 - fstI rows s (nN k s l))
def outR (k s l b:Nat):Nat:=wfN k s l (figI k s ((b % 2 ^ k:Nat):Int))
theorem UT {k s l m:Nat} {w:Int} (k4:k <= 4) (s1:1 <= s) (sk:s <= k) (hl:l < 2 ^ k) (hm:m < 2 ^ k) (hw:w = 0 \/ w = 1) (h:∀ t:Nat,1 <= t -> t <= k -> t ≠ s -> figI k t l = figI k t m):wfN k s l w = wfN k s m w:=by
 have A:=wfF k4 s1 sk hl hw
 have B:=wfF k4 s1 sk hm hw
 refine wg k4 A.lt B.lt fun t t1 tk=>?_
 by_cases c:t = s
 ·rw [c,A.at_,B.at_]
 ·rw [A.off t tk c,B.off t tk c,h t t1 tk c]
theorem UU {k s l m:Nat} (s1:1 <= s) (sk:s <= k) (h:∀ t:Nat,1 <= t -> t <= k -> t ≠ s -> figI k t l = figI k t m):nN k s l = nN k s m:=by
 rw [YU (e:=m) (x:=m) s1 sk (fun u u1 u2=>h u u1 (by omega) (by omega)) fun u u1 u2=>h u (by omega) u2 (by omega)]
 exact (YU (e:=m) (x:=m) s1 sk (fun u _ _=>rfl) fun u _ _=>rfl).symm
section
variable {k:Nat} {rows:List (List Int)}
theorem WT {s l m:Nat} (k4:k <= 4) (hs:zQ k rows) (s1:1 <= s) (sk:s <= k) (hl:l < 2 ^ k) (hm:m < 2 ^ k) (h:∀ t:Nat,1 <= t -> t <= k -> t ≠ s -> figI k t l = figI k t m) :
  x0R k rows s l = x0R k rows s m /\ x1R k rows s l = x1R k rows s m:=by
 have e:=UU s1 sk h
 have f:=Zt k4 hs s1 sk hm
 unfold x0R x1R
 rw [e]
 exact ⟨UT k4 s1 sk hl hm f h,UT k4 s1 sk hl hm (by omega) h⟩
structure XF (k:Nat) (rows:List (List Int)) (s l:Nat):Prop where
 lt0:x0R k rows s l < 2 ^ k
 lt1:x1R k rows s l < 2 ^ k
 ne:x0R k rows s l ≠ x1R k rows s l
 or:l = x0R k rows s l \/ l = x1R k rows s l
 off0:∀ t:Nat,t <= k -> t ≠ s -> figI k t (x0R k rows s l) = figI k t l
 off1:∀ t:Nat,t <= k -> t ≠ s -> figI k t (x1R k rows s l) = figI k t l
theorem xF {s l:Nat} (k4:k <= 4) (hs:zQ k rows) (s1:1 <= s) (sk:s <= k) (hl:l < 2 ^ k):XF k rows s l:=by
 have f:=Zt k4 hs s1 sk hl
 have A:=wfF k4 s1 sk hl f
 have B:=wfF k4 s1 sk hl (show 1 - fstI rows s (nN k s l) = 0 \/ 1 - fstI rows s (nN k s l) = 1 by omega)
 have g:=Wd (l:=l) k4 sk hl
 refine ⟨A.lt,B.lt,fun e=>?_,?_,A.off,B.off⟩
 ·have e':wfN k s l (fstI rows s (nN k s l)) = wfN k s l (1 - fstI rows s (nN k s l)):=e
  have a:=A.at_
  rw [e',B.at_] at a
  omega
 ·by_cases c:figI k s l = fstI rows s (nN k s l)
  ·refine .inl (wg k4 hl A.lt fun t t1 tk=>?_)
   by_cases d:t = s
   ·rw [d]; exact c.trans A.at_.symm
   ·exact (A.off t tk d).symm
  ·refine .inr (wg k4 hl B.lt fun t t1 tk=>?_)
   by_cases d:t = s
   ·rw [d,show figI k s (x1R k rows s l) = 1 - fstI rows s (nN k s l) from B.at_]; omega
   ·exact (B.off t tk d).symm
theorem yS {b:Nat}:b % 2 ^ k < 2 ^ k:=Nat.mod_lt _ (Nat.two_pow_pos k)
theorem outF {s l b:Nat} (k4:k <= 4) (s1:1 <= s) (sk:s <= k) (hl:l < 2 ^ k):WfF k s l (figI k s ((b % 2 ^ k:Nat):Int)):=wfF k4 s1 sk hl (Wd k4 sk yS)
theorem UV {s l b:Nat} (k4:k <= 4) (hs:zQ k rows) (s1:1 <= s) (sk:s <= k) (hl:l < 2 ^ k):x0R k rows s (outR k s l b) = x0R k rows s l /\ x1R k rows s (outR k s l b) = x1R k rows s l:=by
 have W:=outF (b:=b) k4 s1 sk hl
 exact WT k4 hs s1 sk W.lt hl fun t _ tk h=>W.off t tk h
def Zw:Option Deed -> Option Deed -> Option Deed
 | some d,some e=>some (zP d e)
 | some d,none=>some d
 | none,o=>o
def lvR (k:Nat) (rows:List (List Int)) (ks:List Ask):Nat -> Nat -> Nat -> Option Deed
 | 0,l,b=>(ks.find? fun a=>decide (a.hand = (l:Int) /\ a.box = (b:Int))).map (·.deed)
 | s + 1,l,b=>if figI k ((s + 1:Nat):Int) l = figI k ((s + 1:Nat):Int) ((b % 2 ^ k:Nat):Int) then Zw (lvR k rows ks s (x0R k rows (s + 1) l) b) (lvR k rows ks s (x1R k rows (s + 1) l) b) else none
def arrR (k:Nat) (rows:List (List Int)) (ks:List Ask):Nat -> Nat -> Nat -> List Ask
 | 0,l,b=>ks.filter fun a=>decide (a.hand = (l:Int) /\ a.box = (b:Int))
 | s + 1,l,b=>if figI k ((s + 1:Nat):Int) l = figI k ((s + 1:Nat):Int) ((b % 2 ^ k:Nat):Int) then arrR k rows ks s (x0R k rows (s + 1) l) b ++ arrR k rows ks s (x1R k rows (s + 1) l) b else []
def runR (v:Int) (as:List Ask):Int:=as.foldl (fun v a=>a.deed.mk' v) v
theorem xM {v:Int} {as bs:List Ask}:runR v (as ++ bs) = runR (runR v as) bs:=List.foldl_append
structure RndOk (k m:Nat) (ks:List Ask):Prop where
 nd:(ks.map (·.hand)).Nodup
 hand:∀ a ∈ ks,0 <= a.hand /\ a.hand < 2 ^ k
 box:∀ a ∈ ks,0 <= a.box /\ a.box < m
 ok:∀ a ∈ ks,a.deed.Ok
theorem rS {ks:List Ask} {l b:Int} (nd:(ks.map (·.hand)).Nodup):(ks.filter fun a=>decide (a.hand = l /\ a.box = b)) = ((ks.find? fun a=>decide (a.hand = l /\ a.box = b)).toList):=by
 induction ks with
 | nil=>rfl
 | cons a ks ih =>
  rw [List.map_cons,List.nodup_cons] at nd
  rw [List.filter_cons,List.find?_cons]
  by_cases c:a.hand = l /\ a.box = b
  ·rw [decide_eq_true c]
   show a :: ks.filter _ = [a]
   congr 1
   rw [List.filter_eq_nil_iff]
   intro x hx hd
   have:=of_decide_eq_true hd
   exact nd.1 (List.mem_map.mpr ⟨x,hx,by rw [this.1,c.1]⟩)
  ·rw [decide_eq_false c]
   exact ih nd.2
structure LvF (k:Nat) (rows:List (List Int)) (ks:List Ask) (s l b:Nat):Prop where
 non:lvR k rows ks s l b = none ↔ arrR k rows ks s l b = []
 run:∀ d,lvR k rows ks s l b = some d -> d.Ok /\ ∀ v,d.mk' v = runR v (arrR k rows ks s l b)
theorem lvF {m:Nat} {ks:List Ask} (R:RndOk k m ks):∀ s l b,LvF k rows ks s l b
 | 0,l,b=>by
  have e:=rS (l:=l) (b:=b) R.nd
  have e1:arrR k rows ks 0 l b = (ks.find? fun a=>decide (a.hand = (l:Int) /\ a.box = (b:Int))).toList:=e
  have e2:lvR k rows ks 0 l b = (ks.find? fun a=>decide (a.hand = (l:Int) /\ a.box = (b:Int))).map (·.deed):=rfl
  cases h:ks.find? fun a=>decide (a.hand = (l:Int) /\ a.box = (b:Int)) with
  | none =>
   rw [h] at e1 e2
   exact ⟨by rw [e1,e2]; exact ⟨fun _=>rfl,fun _=>rfl⟩,fun d hd=>by rw [e2] at hd; cases hd⟩
  | some a =>
   rw [h] at e1 e2
   refine ⟨by rw [e1,e2]; exact ⟨(fun z=>nomatch z),(fun z=>nomatch z)⟩,fun d hd=>?_⟩
   rw [e2] at hd
   cases Option.some.inj hd
   exact ⟨R.ok a (List.mem_of_find?_eq_some h),fun v=>by rw [e1]; rfl⟩
 | s + 1,l,b=>by
  have A:=lvF R s (x0R k rows (s + 1) l) b
  have B:=lvF R s (x1R k rows (s + 1) l) b
  by_cases c:figI k ((s + 1:Nat):Int) l = figI k ((s + 1:Nat):Int) ((b % 2 ^ k:Nat):Int)
  ·have e1:arrR k rows ks (s + 1) l b = arrR k rows ks s (x0R k rows (s + 1) l) b ++ arrR k rows ks s (x1R k rows (s + 1) l) b:=if_pos c
   have e2:lvR k rows ks (s + 1) l b = Zw (lvR k rows ks s (x0R k rows (s + 1) l) b) (lvR k rows ks s (x1R k rows (s + 1) l) b):=if_pos c
   cases h0:lvR k rows ks s (x0R k rows (s + 1) l) b with
   | none =>
    have a0:=A.non.mp h0
    rw [h0] at e2
    rw [a0,List.nil_append] at e1
    exact ⟨by rw [e1,e2]; exact B.non,fun d hd=>by rw [e2] at hd; rw [e1]; exact B.run d hd⟩
   | some d0 =>
    have r0:=A.run d0 h0
    have n0:arrR k rows ks s (x0R k rows (s + 1) l) b ≠ []:=fun z=>by rw [A.non.mpr z] at h0; cases h0
    cases h1:lvR k rows ks s (x1R k rows (s + 1) l) b with
    | none =>
     have a1:=B.non.mp h1
     rw [h0,h1] at e2
     rw [a1,List.append_nil] at e1
     refine ⟨by rw [e1,e2]; exact ⟨(fun z=>nomatch z),(fun z=>absurd z n0)⟩,fun d hd=>?_⟩
     rw [e2] at hd
     cases Option.some.inj hd
     rw [e1]; exact r0
    | some d1 =>
     have r1:=B.run d1 h1
     rw [h0,h1] at e2
     refine ⟨by rw [e1,e2]; exact ⟨(fun z=>nomatch z),fun z=>absurd (List.append_eq_nil_iff.mp z).1 n0⟩,fun d hd=>?_⟩
     rw [e2] at hd
     cases Option.some.inj hd
     refine ⟨yn r0.1 r1.1,fun v=>?_⟩
     rw [e1,xM,yU r0.1 r1.1,r1.2,r0.2]
  ·have e1:arrR k rows ks (s + 1) l b = []:=if_neg c
   have e2:lvR k rows ks (s + 1) l b = none:=if_neg c
   exact ⟨by rw [e1,e2]; exact ⟨fun _=>rfl,fun _=>rfl⟩,fun d hd=>by rw [e2] at hd; cases hd⟩
theorem sj {ks:List Ask} (k4:k <= 4) (hs:zQ k rows):∀ {s l b:Nat},s <= k -> l < 2 ^ k -> arrR k rows ks s l b ≠ [] -> ∀ t:Nat,1 <= t -> t <= s -> figI k t l = figI k t ((b % 2 ^ k:Nat):Int)
 | 0,l,b,_,_,_,t,t1,t2=>by omega
 | s + 1,l,b,sk,hl,h,t,t1,t2=>by
  by_cases c:figI k ((s + 1:Nat):Int) l = figI k ((s + 1:Nat):Int) ((b % 2 ^ k:Nat):Int)
  ·by_cases d:t = s + 1
   ·rw [d]; exact c
   ·have X:=xF k4 hs (show 1 <= s + 1 by omega) sk hl
    have e1:arrR k rows ks (s + 1) l b = arrR k rows ks s (x0R k rows (s + 1) l) b ++ arrR k rows ks s (x1R k rows (s + 1) l) b:=if_pos c
    rw [e1] at h
    by_cases n0:arrR k rows ks s (x0R k rows (s + 1) l) b = []
    ·have n1:arrR k rows ks s (x1R k rows (s + 1) l) b ≠ []:=fun z=>h (by rw [n0,z]; rfl)
     have:=sj k4 hs (show s <= k by omega) X.lt1 n1 t t1 (by omega)
     rw [X.off1 t (by omega) d] at this; exact this
    ·have:=sj k4 hs (show s <= k by omega) X.lt0 n0 t t1 (by omega)
     rw [X.off0 t (by omega) d] at this; exact this
  ·exact absurd (if_neg c) h
theorem VB {ks:List Ask} (k4:k <= 4) (hs:zQ k rows) {s l b:Nat} (sk:s + 1 <= k) (hl:l < 2 ^ k):arrR k rows ks (s + 1) (outR k (s + 1) l b) b = arrR k rows ks s (x0R k rows (s + 1) l) b ++ arrR k rows ks s (x1R k rows (s + 1) l) b:=by
 have W:=outF (b:=b) k4 (show 1 <= s + 1 by omega) sk hl
 have X:=UV (b:=b) k4 hs (show 1 <= s + 1 by omega) sk hl
 show (if figI k ((s + 1:Nat):Int) (outR k (s + 1) l b) = _ then _ else _) = _
 rw [if_pos (show figI k ((s + 1:Nat):Int) (outR k (s + 1) l b) = figI k ((s + 1:Nat):Int) ((b % 2 ^ k:Nat):Int) from W.at_),X.1,X.2]
theorem WU {ks:List Ask} (k4:k <= 4) (hs:zQ k rows) {s l b:Nat} (sk:s + 1 <= k) (hl:l < 2 ^ k):lvR k rows ks (s + 1) (outR k (s + 1) l b) b = Zw (lvR k rows ks s (x0R k rows (s + 1) l) b) (lvR k rows ks s (x1R k rows (s + 1) l) b):=by
 have W:=outF (b:=b) k4 (show 1 <= s + 1 by omega) sk hl
 have X:=UV (b:=b) k4 hs (show 1 <= s + 1 by omega) sk hl
 show (if figI k ((s + 1:Nat):Int) (outR k (s + 1) l b) = _ then _ else _) = _
 rw [if_pos (show figI k ((s + 1:Nat):Int) (outR k (s + 1) l b) = figI k ((s + 1:Nat):Int) ((b % 2 ^ k:Nat):Int) from W.at_),X.1,X.2]
theorem UW {ks:List Ask} (k4:k <= 4) (hs:zQ k rows) {s l b:Nat} (sk:s + 1 <= k) (hl:l < 2 ^ k) (h:lvR k rows ks (s + 1) l b ≠ none):∃ x,x < 2 ^ k /\ outR k (s + 1) x b = l /\ lvR k rows ks s x b ≠ none:=by
 by_cases c:figI k ((s + 1:Nat):Int) l = figI k ((s + 1:Nat):Int) ((b % 2 ^ k:Nat):Int)
 ·have e2:lvR k rows ks (s + 1) l b = Zw (lvR k rows ks s (x0R k rows (s + 1) l) b) (lvR k rows ks s (x1R k rows (s + 1) l) b):=if_pos c
  have X:=xF k4 hs (show 1 <= s + 1 by omega) sk hl
  have back:∀ x:Nat,x < 2 ^ k -> (∀ t:Nat,t <= k -> t ≠ s + 1 -> figI k t x = figI k t l) -> outR k (s + 1) x b = l:=by
   intro x hx ho
   have W:=outF (b:=b) k4 (show 1 <= s + 1 by omega) sk hx
   refine wg k4 W.lt hl fun t t1 tk=>?_
   by_cases d:t = s + 1
   ·rw [d]; exact W.at_.trans c.symm
   ·exact (W.off t tk d).trans (ho t tk d)
  cases h0:lvR k rows ks s (x0R k rows (s + 1) l) b with
  | some d=>exact ⟨_,X.lt0,back _ X.lt0 X.off0,by rw [h0]; exact fun z=>nomatch z⟩
  | none =>
   refine ⟨_,X.lt1,back _ X.lt1 X.off1,fun z=>h ?_⟩
   rw [e2,h0,z]; rfl
 ·exact absurd (if_neg c) h
def stvR (k:Nat) (rows:List (List Int)) (ks:List Ask) (bd:Nat -> Int):Nat -> Nat -> Nat -> Int
 | 0,_,b=>bd b
 | n + 1,l,b=>match lvR k rows ks (k - n - 1) (x0R k rows (k - n) l) b,lvR k rows ks (k - n - 1) (x1R k rows (k - n) l) b with
  | some d,some _=>if l = x1R k rows (k - n) l then d.mk' (stvR k rows ks bd n (outR k (k - n) l b) b) else stvR k rows ks bd n (outR k (k - n) l b) b
  | _,_=>stvR k rows ks bd n (outR k (k - n) l b) b
theorem Y4 {m:Nat} {ks:List Ask} {bd:Nat -> Int} (R:RndOk k m ks) (k4:k <= 4) (hs:zQ k rows) {b:Nat}:∀ n,n <= k -> ∀ l,l < 2 ^ k -> arrR k rows ks (k - n) l b ≠ [] →
  ∃ pre post,arrR k rows ks k (b % 2 ^ k) b = pre ++ arrR k rows ks (k - n) l b ++ post /\ stvR k rows ks bd n l b = runR (bd b) pre
 | 0,_,l,hl,h=>by
  have e:l = b % 2 ^ k:=wg k4 hl yS fun t t1 tk=>sj k4 hs (Nat.le_refl k) hl h t t1 tk
  exact ⟨[],[],by rw [← e]; simp,rfl⟩
 | n + 1,hn,l,hl,h=>by
  have s1:1 <= k - n:=by omega
  have sk:k - n <= k:=by omega
  have es:k - n = k - (n + 1) + 1:=by omega
  have W:=outF (b:=b) k4 s1 sk hl
  have X:=xF k4 hs s1 sk hl
  have ao:arrR k rows ks (k - n) (outR k (k - n) l b) b = arrR k rows ks (k - (n + 1)) (x0R k rows (k - n) l) b ++ arrR k rows ks (k - (n + 1)) (x1R k rows (k - n) l) b:=by
   have:=VB (ks:=ks) (b:=b) k4 hs (s:=k - (n + 1)) (show k - (n + 1) + 1 <= k by omega) hl
   rw [← es] at this; exact this
  have F0:=lvF (rows:=rows) R (k - (n + 1)) (x0R k rows (k - n) l) b
  have F1:=lvF (rows:=rows) R (k - (n + 1)) (x1R k rows (k - n) l) b
  have ne:arrR k rows ks (k - n) (outR k (k - n) l b) b ≠ []:=by
   rw [ao]
   intro z
   obtain ⟨z0,z1⟩:=List.append_eq_nil_iff.mp z
   rcases X.or with e | e
   ·rw [← e] at z0; exact h z0
   ·rw [← e] at z1; exact h z1
  obtain ⟨pre,post,e1,e2⟩:=Y4 R k4 hs n (by omega) (outR k (k - n) l b) W.lt ne
  rw [ao] at e1
  have es':k - n - 1 = k - (n + 1):=by omega
  have eu:stvR k rows ks bd (n + 1) l b = match lvR k rows ks (k - (n + 1)) (x0R k rows (k - n) l) b,lvR k rows ks (k - (n + 1)) (x1R k rows (k - n) l) b with
   | some d,some _=>if l = x1R k rows (k - n) l then d.mk' (stvR k rows ks bd n (outR k (k - n) l b) b) else stvR k rows ks bd n (outR k (k - n) l b) b
   | _,_=>stvR k rows ks bd n (outR k (k - n) l b) b:=by
   rw [← es']; rfl
  rcases X.or with e | e
  ·have ne1:¬ l = x1R k rows (k - n) l:=fun z=>X.ne (e.symm.trans z)
   refine ⟨pre,arrR k rows ks (k - (n + 1)) (x1R k rows (k - n) l) b ++ post,by rw [e1,← e]; simp,?_⟩
   rw [eu]
   split
   ·rw [if_neg ne1]; exact e2
   ·exact e2
  ·refine ⟨pre ++ arrR k rows ks (k - (n + 1)) (x0R k rows (k - n) l) b,post,by rw [e1,← e]; simp,?_⟩
   rw [eu,xM]
   split
   ·rename_i d0 d1 h0 h1
    rw [if_pos e,e2]
    exact (F0.run d0 h0).2 _
   ·rename_i hno
    cases h0:lvR k rows ks (k - (n + 1)) (x0R k rows (k - n) l) b with
    | none=>rw [F0.non.mp h0]; exact e2
    | some d0 =>
     cases h1:lvR k rows ks (k - (n + 1)) (x1R k rows (k - n) l) b with
     | none=>have z:=F1.non.mp h1; rw [← e] at z; exact absurd z h
     | some d1=>exact absurd h1 (hno d0 d1 h0)
theorem xz {α β:Type} {f g:α -> List β}:∀ {xs:List α},(∀ x ∈ xs,f x = g x) -> xs.flatMap f = xs.flatMap g
 | [],_=>rfl
 | x :: xs,h=>by rw [List.flatMap_cons,List.flatMap_cons,h x (by simp),xz fun y hy=>h y (by simp [hy])]
theorem uA {ks:List Ask} (k4:k <= 4) (hs:zQ k rows) {b:Nat}:∀ n,n <= k -> arrR k rows ks k (b % 2 ^ k) b = (ordL k rows (b % 2 ^ k) n).flatMap fun l=>arrR k rows ks (k - n) l b
 | 0,_=>by show _ = ([b % 2 ^ k]:List Nat).flatMap _; simp
 | n + 1,hn=>by
  rw [uA k4 hs n (by omega)]
  show _ = ((ordL k rows (b % 2 ^ k) n).flatMap (inO k rows (k - n))).flatMap _
  rw [List.flatMap_assoc]
  have F:=ordF (rows:=rows) k4 hs (yS (k:=k) (b:=b)) n (by omega)
  refine xz fun l hl=>?_
  obtain ⟨h1,h2⟩:=F.mem l hl
  have es:k - n = k - (n + 1) + 1:=by omega
  show _ = [x0R k rows (k - n) l,x1R k rows (k - n) l].flatMap _
  simp only [List.flatMap_cons,List.flatMap_nil,List.append_nil]
  have c:figI k ((k - (n + 1) + 1:Nat):Int) l = figI k ((k - (n + 1) + 1:Nat):Int) ((b % 2 ^ k:Nat):Int):=h2 _ (by omega) (by omega)
  have e:arrR k rows ks (k - (n + 1) + 1) l b = arrR k rows ks (k - (n + 1)) (x0R k rows (k - (n + 1) + 1) l) b ++ arrR k rows ks (k - (n + 1)) (x1R k rows (k - (n + 1) + 1) l) b:=if_pos c
  rw [← es] at e
  exact e
end
open PySem PySem.Spec PyProof.Rows L2 PySem.W
section
variable {prog:Program} {w:World} {A:Around} {E:VS7} {s:Shared} {es:Array DictEntry} {d it r:Addr} {ep i:Nat} {ok ov:Value}
theorem Wm {Q:VS7} (lo:(d == sysModules) = false) (hm:wZ es d ep s.heap) (q:Q (.ref s.heap.objs.size) { s with heap:=s.heap.push { cls:=.type "dict_items",data:=.fields #[.ref d] } }) :
  wpAny (model prog w) A (call (.builtin "dict.items") [.ref d]) Q E s:=by
 have hT:s.TypeIs (.ref d) "dict":=hm.typeIs
 refine wpAny_call_entry PySem.F.slot_dict_items hT PySem.F.entry_dict_items ?_ (PySem.F.args_dict_items_1 _)
 unfold Builtin.«dict.items»
 refine wpAny_bind ?_
 unfold Builtin.Dict.noArgs
 refine wpAny_bind (wpAny_notOrdered_dict hT (show wpAny _ _ (pure d) _ _ s from wpAny_pure ?_))
 show wpAny _ _ (Builtin.Dict.showsAll d >>= _) _ _ s
 unfold Builtin.Dict.showsAll
 rw [if_neg (by rw [lo]; exact Bool.false_ne_true)]
 exact wpAny_bind (wpAny_pure (wpAny_bind (wpAny_newObj_type (wpAny_pure ⟨_,rfl,q⟩))))
theorem Wn {Q:VS7} (hv:s.heap.IsItemsView r d) (hm:wZ es d ep s.heap)
  (hQ:Q (.ref s.heap.objs.size) { s with heap:=s.heap.push { cls:=.type "dict_itemiterator",data:=.fields #[.none,.bool false,.ref d,.int 0 0,.int es.size 0,.int ep 0,.none,.none] } }) :
  wpAny (model prog w) A (pyIter (.ref r)) Q E s:=by
 obtain ⟨o1,h1,c1,d1⟩:=id hv
 obtain ⟨o,ho,hc,hdat⟩:=id hm
 refine wpAny_pyIter_slot hv.typeIs PySem.F.slot_dict_items_iter (wpAny_call_entry PySem.F.slot_dict_items_iter hv.typeIs PySem.F.entry_dict_items_iter ?_ (PySem.F.args_dict_items_iter_1 _))
 unfold Builtin.«dict_items.__iter__»
 refine wpAny_bind (wpAny_pure (wpAny_bind ?_))
 unfold Builtin.Dict_items.dictOf
 refine wpAny_bind (wpAny_field h1 d1 (x:=.ref d) rfl (wpAny_pure (wpAny_bind ?_)))
 unfold Builtin.Dict_items.newIterator
 refine wpAny_bind (wpAny_dictEntries ho hdat (wpAny_bind (wpAny_dictEpoch ho hdat ?_)))
 have own:Builtin.Dict_items.ownsTuple "dict_itemiterator" = true:=by decide
 simp only [own,if_true]
 refine wpAny_newObj_type (wpAny_pure ⟨_,rfl,"dict_itemiterator",_,⟨_,Heap.get?_push_size _ rfl,rfl⟩,PySem.F.slot_dict_itemiterator_next.lookup,?_⟩)
  (by simp only [sizeOk,Builtin.Dict_items.ownedTupleFields,List.size_toArray,List.length_append,List.length_cons,List.length_nil,sizeLine_eq]; omega)
 simpa [rawInt,Builtin.Dict_items.ownedTupleFields] using hQ
theorem Wo {Q:Option Value -> Shared -> Prop} (hit:IsItemIter s.heap it d i es.size ep ok ov) (hm:wZ es d ep s.heap) (hlt:i < es.size)
  (hQ:∀ h',IsItemIterOut h' it d (i + 1) es.size ep es[i].key es[i].val s.heap.objs.size -> h'.get? s.heap.objs.size = some { cls:=.type "tuple",data:=.seq #[es[i].key,es[i].val] } →
   (∀ b o,b ≠ it -> s.heap.get? b = some o -> h'.get? b = some o) -> Q (some (.ref s.heap.objs.size)) { s with heap:=h' }) :
  wpAny (model prog w) A (pyNext (.ref it)) Q E s:=by
 obtain ⟨hp,g,dr,tk,os⟩:=s
 obtain ⟨od,hod,hcd,hdd⟩:=id hm
 have hT:Shared.TypeIs ⟨hp,g,dr,tk,os⟩ (.ref it) "dict_itemiterator":=⟨_,hit,rfl⟩
 unfold pyNext
 refine wpAny_bind (wpAny_attempt (wpAny_callSpecial?_slot (name:=Str.ofString "__next__") hT PySem.F.slot_dict_itemiterator_next
  (wpAny_call_entry PySem.F.slot_dict_itemiterator_next hT PySem.F.entry_dict_itemiterator_next ?_ (PySem.F.args_dict_itemiterator_next_1 _))))
 refine wpAny_bind (wpAny_pure (wpAny_bind (wpAny_bind ?_)))
 first | refine wpAny_bind (wpAny_typeNameOfWhole_itemiter hT (wpAny_pure ?_)) | refine wpAny_bind (wpAny_typeNameOf_itemiter hT (wpAny_pure ?_))
 refine wpAny_bind (wpAny_fieldsOf hit rfl ?_)
 have own:Builtin.Dict_items.ownsTuple "dict_itemiterator" = true:=by decide
 simp only [own,if_true]
 show wpAny _ _ (if (Value.ref d == Value.none) = true then _ else _) _ _ _
 rw [if_neg (show ¬ ((Value.ref d == Value.none) = true) from Bool.false_ne_true)]
 refine wpAny_bind (wpAny_pure (wpAny_bind (wpAny_dictEntries hod hdd ?_)))
 rw [if_neg (by simp)]
 refine wpAny_bind (wpAny_pure (wpAny_bind (wpAny_dictEpoch hod hdd ?_)))
 rw [if_neg (by simp)]
 refine wpAny_pure ?_
 simp only [show ¬ ((i:Int) < 0) from by omega,if_false,Int.toNat_natCast,Array.getElem?_eq_getElem hlt]
 refine wpAny_bind ?_
 first | refine wpAny_bind (wpAny_typeNameOfWhole_itemiter hT (wpAny_pure ?_)) | refine wpAny_bind (wpAny_typeNameOf_itemiter hT (wpAny_pure ?_))
 refine wpAny_bind (wpAny_isOneOf_itemiter hT ?_)
 show wpAny _ _ (setField (.ref it) 3 (rawInt ((i:Int) + 1)) >>= _) _ _ ⟨hp,g,dr,tk,os⟩
 refine wpAny_bind (wpAny_setField_rec hit (by simp) fun h1 he1 hs1=>?_)
 replace hs1:Heap.SameBut it hp h1:=hs1
 replace he1:IsItemIter h1 it d (i + 1) es.size ep ok ov:=by
  have e:((i + 1:Nat):Int) = (i:Int) + 1:=by omega
  unfold IsItemIter; rw [e]; simpa [rawInt] using he1
 have hT1:Shared.TypeIs ⟨h1,g,dr,tk,os⟩ (.ref it) "dict_itemiterator":=⟨_,he1,rfl⟩
 refine wpAny_bind (wpAny_holding (wpAny_bind (wpAny_isOneOf_itemiter hT1 (wpAny_bind (wpAny_isOneOf_itemiter hT1 ?_)))))
 show wpAny _ _ (Builtin.Dict_items.pairFromOwner (.ref it) 6 es[i].key es[i].val) _ _ ⟨h1,g,dr,tk,os⟩
 unfold Builtin.Dict_items.pairFromOwner
 refine wpAny_bind (wpAny_newTuple ?_)
 have he2:IsItemIter (h1.push { cls:=.type "tuple",data:=.seq #[es[i].key,es[i].val] }) it d (i + 1) es.size ep ok ov:=Heap.get?_push_of_some _ he1
 generalize hh2:h1.push { cls:=.type "tuple",data:=.seq #[es[i].key,es[i].val] } = h2 at he2
 have hz1:h1.objs.size = hp.objs.size:=hs1.1
 have hil:it < hp.objs.size:=Heap.lt_size hit
 have ht2:h2.get? hp.objs.size = some { cls:=.type "tuple",data:=.seq #[es[i].key,es[i].val] }:=by rw [← hh2,← hz1]; exact Heap.get?_push_size _ rfl
 have hk2:∀ b o,b ≠ it -> hp.get? b = some o -> h2.get? b = some o:=fun b o hb e=>by rw [← hh2]; exact Heap.get?_push_of_some _ (hs1.extBut b o hb e)
 show wpAny _ _ (Builtin.Dict_items.ownedTupleIsFree (.ref it) >>= _) _ _ ⟨h2,g,dr,tk,os⟩
 rw [hz1]
 clear hh2 he1 hs1 hT1 hz1 h1
 refine wpAny_bind ?_
 unfold Builtin.Dict_items.ownedTupleIsFree
 refine wpAny_bind (wpAny_field he2 rfl (x:=.none) rfl (wpAny_pure ?_))
 simp only [if_true]
 refine wpAny_bind (wpAny_field he2 rfl (x:=ok) rfl (wpAny_bind (wpAny_field he2 rfl (x:=ov) rfl ?_)))
 refine wpAny_bind (wpAny_setField_rec he2 (by simp) fun h3 he3 hs3=>?_)
 replace hs3:Heap.SameBut it h2 h3:=hs3
 replace he3:IsItemIter h3 it d (i + 1) es.size ep es[i].key ov:=he3
 refine wpAny_bind (wpAny_setField_rec he3 (by simp) fun h4 he4 hs4=>?_)
 replace hs4:Heap.SameBut it h3 h4:=hs4
 replace he4:IsItemIter h4 it d (i + 1) es.size ep es[i].key es[i].val:=he4
 refine wpAny_bind (wpAny_setField_rec he4 (by simp) fun h5 he5 hs5=>?_)
 replace hs5:Heap.SameBut it h4 h5:=hs5
 replace he5:IsItemIterOut h5 it d (i + 1) es.size ep es[i].key es[i].val hp.objs.size:=he5
 refine wpAny_bind (wpAny_setField_rec he5 (by simp) fun h6 he6 hs6=>?_)
 replace hs6:Heap.SameBut it h5 h6:=hs6
 replace he6:IsItemIterOut h6 it d (i + 1) es.size ep es[i].key es[i].val hp.objs.size:=he6
 have keep:∀ b o,b ≠ it -> h2.get? b = some o -> h6.get? b = some o:=fun b o hb e=>hs6.extBut b o hb (hs5.extBut b o hb (hs4.extBut b o hb (hs3.extBut b o hb e)))
 exact wpAny_bind (wpAny_letGo (wpAny_pure (wpAny_pure ⟨_,rfl,wpAny_pure (hQ h6 he6 (keep _ _ (Nat.ne_of_gt hil) ht2) fun b o hb e=>keep b o hb (hk2 b o hb e))⟩)))
theorem VC {Q:Option Value -> Shared -> Prop} (hh:A.handled = none) (hit:IsItemIter s.heap it d es.size es.size ep ok ov) (hm:wZ es d ep s.heap)
  (hQ:∀ h',Heap.ExtBut it s.heap h' -> Q none { s with heap:=h' }):wpAny (model prog w) A (pyNext (.ref it)) Q E s:=by
 obtain ⟨od,hod,hcd,hdd⟩:=id hm
 have hT:s.TypeIs (.ref it) "dict_itemiterator":=⟨_,hit,rfl⟩
 unfold pyNext
 refine wpAny_bind (wpAny_attempt (wpAny_callSpecial?_slot (name:=Str.ofString "__next__") hT PySem.F.slot_dict_itemiterator_next
  (wpAny_call_entry PySem.F.slot_dict_itemiterator_next hT PySem.F.entry_dict_itemiterator_next ?_ (PySem.F.args_dict_itemiterator_next_1 _))))
 refine wpAny_bind (wpAny_pure (wpAny_bind (wpAny_bind ?_)))
 first | refine wpAny_bind (wpAny_typeNameOfWhole_itemiter hT (wpAny_pure ?_)) | refine wpAny_bind (wpAny_typeNameOf_itemiter hT (wpAny_pure ?_))
 refine wpAny_bind (wpAny_fieldsOf hit rfl ?_)
 have own:Builtin.Dict_items.ownsTuple "dict_itemiterator" = true:=by decide
 simp only [own,if_true]
 show wpAny _ _ (if (Value.ref d == Value.none) = true then _ else _) _ _ s
 rw [if_neg (show ¬ ((Value.ref d == Value.none) = true) from Bool.false_ne_true)]
 refine wpAny_bind (wpAny_pure (wpAny_bind (wpAny_dictEntries hod hdd ?_)))
 rw [if_neg (by simp)]
 refine wpAny_bind (wpAny_pure (wpAny_bind (wpAny_dictEpoch hod hdd ?_)))
 rw [if_neg (by simp)]
 refine wpAny_pure ?_
 simp only [show ¬ ((es.size:Int) < 0) from by omega,if_false,Int.toNat_natCast,Array.getElem?_eq_none (Nat.le_refl es.size)]
 refine wpAny_bind ?_
 first | refine wpAny_bind (wpAny_typeNameOfWhole_itemiter hT (wpAny_pure ?_)) | refine wpAny_bind (wpAny_typeNameOf_itemiter hT (wpAny_pure ?_))
 show wpAny _ _ (setField (.ref it) 2 .none >>= _) _ _ s
 refine wpAny_bind (wpAny_setField hit rfl (by simp) ?_)
 show wpAny _ _ (newExc (.type "StopIteration") [] >>= _) _ _ _
 refine wpAny_bind ?_
 simp only [newExc,newTuple]
 refine wpAny_bind (wpAny_newObj_type ?_ (by size_fits))
 refine wpAny_bind (m:=firstArgMember _ _) (wpAny_of_eq (a:=Value.none) (by first | rfl | (simp only [firstArgMember]; rfl)) ?_)
 refine wpAny_newObj_type ?_ (by size_fits)
 simp only [raiseNew]
 refine wpAny_bind (wpAny_handled ?_)
 rw [show A.in1.handled = none from hh]
 refine wpAny_bind (wpAny_pure (wpAny_throw ?_))
 refine wpAny_bind (wpAny_isInstance (T:="StopIteration") (b:=true) ⟨_,Heap.get?_push_size _ rfl,rfl⟩ isSubtype_stop ?_)
 exact wpAny_pure (hQ _ (((Heap.SameBut.update ..).extBut.push _).push _))
end
theorem Zx:entryFor table "dict_itemiterator.__iter__" = some Builtin.«dict_keyiterator.__iter__»:=entryFor_alias (id':="dict_keyiterator.__iter__") (by kernel_rfl) rfl (by decide +kernel) (by kernel_rfl)
theorem rT {α β:Type} {R:α -> β -> Prop}:∀ {as:List α} {bs:List β} {i:Nat} {b:β},Paired R as bs -> bs[i]? = some b -> ∃ a,as[i]? = some a /\ R a b
 | _,_,0,_,.cons r _,e=>⟨_,rfl,by cases Option.some.inj e; exact r⟩
 | _,_,i + 1,_,.cons _ t,e=>rT (i:=i) t e
def Iti (a:Addr) (o:Obj) (kvs:List (List Key × V)):It :=
 ⟨fun i H=>i < kvs.length /\ H a = some (.frz o (.dT kvs)),fun i H x H'=>∃ T b p,H T = none /\ x = .ref T /\ kvs[i]? = some p /\ H b = some (.tup (p.1.map kV)) /\ H' = upd H T (.tup [.ref b,p.2]),fun i H=>i = kvs.length /\ H a = some (.frz o (.dT kvs))⟩
theorem Wp {P:Program} {w:World} {K:FG7} {elts:List Expr} {kt:Nat} {pt:Pos} (a it:Addr) (o:Obj) (es:Array DictEntry) (ep:Nat) (kvs:List (List Key × V)) (hx:o.ExactDict) (hd:o.data = .dict es ep) (hes:es.size = kvs.length) :
  Turn P w K (.Tuple elts kt pt) (Iti a o kvs) [it] it (fun i h=>∃ ok ov,IsItemIter h it a i es.size ep ok ov) where
 mem:=by simp
 obj:=fun i h st b hb=>by
  have e:b = it:=by simpa using hb
  subst e
  obtain ⟨ok,ov,st⟩:=st
  exact ⟨_,st,fun v z=>by cases z⟩
 keep:=fun i h h' st k=>by
  obtain ⟨ok,ov,st⟩:=st
  exact ⟨ok,ov,k it (by simp) _ st⟩
 item:=by
  intro X hP hw hK hc i pins s σ H E I hf st hg
  subst hP hw hK
  obtain ⟨ok,ov,st⟩:=st
  obtain ⟨hi,hH⟩:=hg
  obtain ⟨xs,rel,g,he⟩:=j4 (I.hok a _ hH) hd
  have hl:kvs.length = xs.length:=Paired.length rel
  have hy:i < xs.length:=by omega
  have hie:i < es.size:=by omega
  have ee:=entry_at he i
  rw [Array.getElem?_eq_getElem hie,List.getElem?_eq_getElem hy,Option.map_some] at ee
  have ek:es[i].key = Value.ref xs[i].2.1:=by rw [Option.some.inj ee]; rfl
  have ev:es[i].val = xs[i].2.2:=by rw [Option.some.inj ee]; rfl
  obtain ⟨p,hp,r1,r2,r3⟩:=rT rel (List.getElem?_eq_getElem hy)
  refine Wo st ⟨o,g,hx,hd⟩ hie fun h1 hout hT hk=>?_
  refine ⟨_,rfl,wpAny_letOwnedTupleGo_items (s:={ s with heap:=h1 }) hout fun h2 he2 hs2=>?_⟩
  have eT:s.heap.objs.size ≠ it:=Nat.ne_of_gt (Heap.lt_size st)
  have hk2:∀ b o,b ∉ [it] -> s.heap.get? b = some o -> h2.get? b = some o:=fun b o hb q=>by
   have n1:b ≠ it:=fun z=>hb (by simp [z])
   exact (hs2.2 b n1).trans (hk b o n1 q)
  have hT2:h2.get? s.heap.objs.size = some { cls:=.type "tuple",data:=.seq #[es[i].key,es[i].val] }:=(hs2.2 _ eT).trans hT
  have hn:H s.heap.objs.size = none:=I.hok.fresh (Nat.le_refl _)
  have I2:Inv X pins σ (upd H s.heap.objs.size (.tup [.ref xs[i].2.1,p.2])) { s with heap:=h2,toks:=s.toks }:=jV (s:=s) I hk2 hf (Nat.le_refl _) ⟨by show 2 <= sizeLine; decide,[es[i].key,es[i].val],.cons ek (.cons (by rw [ev]; exact r3) .nil),_,hT2,rfl,0,rfl⟩
  refine ⟨.ref s.heap.objs.size,_,I2,rfl,⟨_,_,p,hn,rfl,hp,r2,rfl⟩,⟨_,_,he2⟩,fun b hb=>?_⟩
  have e:b = it:=by simpa using hb
  subst e
  rw [zn (Ne.symm eT)]
  exact (hf b (by simp)).1
 done:=by
  intro X hP hw hK hc i pins s σ H E I hf st hg
  subst hP hw hK
  obtain ⟨ok,ov,st⟩:=st
  obtain ⟨hi,hH⟩:=hg
  obtain ⟨xs,rel,g,he⟩:=j4 (I.hok a _ hH) hd
  have ei:i = es.size:=by omega
  subst ei
  exact VC (I.ok.hd hc) st ⟨o,g,hx,hd⟩ fun h' eb=>⟨rfl,qW (fp:=[it]) (t':=s.toks) I (fun b o hb q=>eb b o (fun z=>hb (by simp [z])) q) hf⟩
 self:=fun _ _ _ _ _ st h=>by
  obtain ⟨ok,ov,st⟩:=st
  have hT:Shared.TypeIs _ (.ref it) "dict_itemiterator":=⟨_,st,rfl⟩
  refine wpAny_pyIter_slot hT PySem.F.slot_dict_itemiterator_iter (wpAny_call_entry PySem.F.slot_dict_itemiterator_iter hT Zx ?_ (PySem.F.args_dict_itemiterator_iter_1 _))
  show wpAny _ _ (ret (.ref it)) _ _ _
  exact wpAny_pure ⟨_,rfl,"dict_itemiterator",_,hT,PySem.F.slot_dict_itemiterator_next.lookup,h⟩
section
variable {X:Cx} {elts:List Expr} {kt:Nat} {pt:Pos}
def iItm (tl:TE):TI:=fun σ H R=>tl σ H fun x H1=>∃ a kvs,x = .ref a /\ Rd H1 a (.dT kvs) /\ ∀ o H',H' a = some (.frz o (.dT kvs)) -> Grow [a] H1 H' -> (∀ b,b ≠ a -> H' b = H1 b) -> R (Iti a o kvs) H'
theorem WV {o:Expr} {to:TE} {apos cpos:Pos} (ho:PE X o to)
  (hbase:attributeBase o "items" X.env (eval o X.env) = eval o X.env:=by rfl) (hline:(apos.endLine == cpos.line) = true:=by rfl) :
  PI X (.Tuple elts kt pt) (.Call (.Attribute o "items" apos) [] [] cpos) (iItm to):=by
 intro pins s σ H R I h
 refine wpAny_Call_method0_late hbase hline (thn (ho pins s σ H _ I h) fun v s1 ⟨x,H1,I1,r1,a,kvs,ex,hrd,q⟩=>?_)
 subst ex
 obtain rfl:v = Value.ref a:=r1
 have key:∀ (H2:Hp) (ob:Obj),Inv X pins σ H2 s1 -> H2 a = some (.frz ob (.dT kvs)) -> R (Iti a ob kvs) H2 -> MethodOn X.prog X.w X.A "items" cpos (.ref a) [] (fun v s1=>wpAny (model X.prog X.w) X.A (pyIter v) (PIE X pins σ (.Tuple elts kt pt) R) X.xe s1) X.xe s1:=by
  intro H2 ob I2 hH hR
  obtain ⟨g,z,lo,xs,rel,o',es,ep,g',hx,hd,he,nd⟩:=(show z6 X.prog X.w H2 s1.heap a (.frz ob (.dT kvs)) from I2.hok a _ hH)
  rw [g] at g'
  cases g'
  have hl:kvs.length = xs.length:=Paired.length rel
  have hes:es.size = xs.length:=size_of_entries he
  have em:wZ es a ep s1.heap:=⟨ob,g,hx,hd⟩
  refine ⟨"dict","dict.items",PySem.F.plainAttrs_dict,PySem.F.slot_dict_items,PySem.F.type_dict_items,em.typeIs,fun b e=>by cases e; exact ⟨ob,g,hx.2.1⟩,Calls.callWith_builtin rfl (PySem.evalArgs_none (Wm lo em ?_))⟩
  have em':wZ es a ep (s1.heap.push { cls:=.type "dict_items",data:=.fields #[.ref a] }):=em.keep fun o e=>Heap.get?_push_of_some _ e
  have I3:Inv X pins σ H2 { s1 with heap:=s1.heap.push { cls:=.type "dict_items",data:=.fields #[.ref a] } }:=I2.kept (t':=s1.toks) fun b o e=>Heap.get?_push_of_some _ e
  refine Wn (s:={ s1 with heap:=s1.heap.push { cls:=.type "dict_items",data:=.fields #[.ref a] } }) ⟨_,Heap.get?_push_size _ rfl,rfl,rfl⟩ em' ?_
  refine ⟨_,[_],_,_,H2,rfl,I3.kept (t':=s1.toks) fun b o e=>Heap.get?_push_of_some _ e,Wp a _ ob es ep kvs hx hd (by omega),⟨_,_,Heap.get?_push_size _ rfl⟩,fun b hb=>?_,hR⟩
  have e:=List.mem_singleton.mp hb
  subst e
  exact I3.fpOk (Nat.le_refl _) (I3.hok.fresh (Nat.le_refl _))
 rcases hrd with ha | ⟨ob,ha⟩
 ·obtain ⟨z,lo,xs,rel,ob,es,ep,g,hx,hd,he,nd⟩:=(show z6 X.prog X.w H1 s1.heap a (.dT kvs) from I1.hok a _ ha)
  have I2:Inv X pins σ (upd H1 a (.frz ob (.dT kvs))) { s1 with heap:=s1.heap,toks:=s1.toks }:=si I1 (by rw [ha]; trivial) (Heap.SameBut.refl ..) ⟨ob,g⟩ ⟨g,z,lo,xs,?_,ob,es,ep,g,hx,hd,he,nd⟩
  ·exact key _ ob I2 zc (q ob _ zc (Grow.frzR ha (by simp)) fun b hb=>zn hb)
  ·refine KT.keeps rel fun b ys e=>?_
   have:b ≠ a:=fun z=>by rw [z,ha] at e; cases e
   rw [zn this]; exact e
 ·exact key _ ob I1 ha (q ob _ ha (Grow.refl _ _) fun _ _=>rfl)
end
theorem VD {a:Addr} {o:Obj} {kvs:List (List Key × V)} {g:TG} {tb:TS} {D:Ends} {σ:L2.St} {H:Hp} (Pv:Nat -> L2.St -> Hp -> Prop) (h0:Pv 0 σ H) (hl:∀ i σ H,i <= kvs.length -> Pv i σ H -> H a = some (.frz o (.dT kvs)))
  (hs:∀ i p b T σ H,kvs[i]? = some p -> H b = some (.tup (p.1.map kV)) -> H T = none -> Pv i σ H -> g (.ref T) σ (upd H T (.tup [.ref b,p.2])) fun σ2 H2=>tb { D with nx:=Pv (i + 1),ct:=Pv (i + 1),bk:=D.nx } σ2 H2) (hd:∀ σ H,Pv kvs.length σ H -> D.nx σ H) :
  ∃ W:Nat -> Nat -> L2.St -> Hp -> Prop,(∃ m,W 0 m σ H) /\ ∀ i m σ H,W i m σ H →
   ((Iti a o kvs).stop i H /\ D.nx σ H) \/ ((Iti a o kvs).go i H /\ ∃ N:L2.St -> Hp -> Prop,(∀ σ' H',N σ' H' -> ∃ m',m' < m /\ W (i + 1) m' σ' H') /\ ∀ x H',(Iti a o kvs).yld i H x H' -> g x σ H' fun σ2 H2=>tb { D with nx:=N,ct:=N,bk:=D.nx } σ2 H2):=by
 refine ⟨fun i m σ H=>m = kvs.length - i /\ i <= kvs.length /\ Pv i σ H,⟨kvs.length,by simp,Nat.zero_le _,h0⟩,?_⟩
 rintro i m σ H ⟨rfl,hi,p⟩
 have q:=hl i σ H hi p
 by_cases hlt:i < kvs.length
 ·refine .inr ⟨⟨hlt,q⟩,Pv (i + 1),fun σ' H' p'=>⟨kvs.length - (i + 1),by omega,rfl,hlt,p'⟩,fun x H' y=>?_⟩
  obtain ⟨T,b,pk,hT,rfl,hp,hb,rfl⟩:=y
  exact hs i pk b T σ H hp hb hT p
 ·have e:i = kvs.length:=by omega
  exact .inl ⟨⟨e,q⟩,hd σ H (e ▸ p)⟩
theorem Wq {a:Addr} {o:Obj} {kvs:List (List Key × V)} {g:TG} {tt:TT} {te:TE} {Q:VK} {σ:L2.St} {H:Hp} (Pv:Nat -> List V -> L2.St -> Hp -> Prop) (h0:Pv 0 [] σ H) (hl:∀ i ys σ H,i <= kvs.length -> Pv i ys σ H -> H a = some (.frz o (.dT kvs)))
  (hs:∀ i p b T ys σ H,kvs[i]? = some p -> H b = some (.tup (p.1.map kV)) -> H T = none -> Pv i ys σ H -> g (.ref T) σ (upd H T (.tup [.ref b,p.2])) fun σ2 H3=>tt σ2 H3 fun t H4=>if t = true then te σ2 H4 fun y H5=>ys.length < sizeLine /\ Pv (i + 1) (ys ++ [y]) σ2 H5 else Pv (i + 1) ys σ2 H4)
  (hd:∀ ys σ H,Pv kvs.length ys σ H -> ∀ l,H l = none -> Q (.ref l) (upd H l (.lst ys))):vO (Iti a o kvs) σ H g tt te Q:=by
 refine ⟨fun i m ys σ H=>m = kvs.length - i /\ i <= kvs.length /\ Pv i ys σ H,⟨kvs.length,by simp,Nat.zero_le _,h0⟩,?_⟩
 rintro i m ys σ H ⟨rfl,hi,p⟩
 have q:=hl i ys σ H hi p
 by_cases hlt:i < kvs.length
 ·refine .inr ⟨⟨hlt,q⟩,Pv (i + 1),fun zs σ' H' p'=>⟨kvs.length - (i + 1),by omega,rfl,hlt,p'⟩,fun x H' y=>?_⟩
  obtain ⟨T,b,pk,hT,rfl,hp,hb,rfl⟩:=y
  exact hs i pk b T ys σ H hp hb hT p
 ·have e:i = kvs.length:=by omega
  exact .inl ⟨⟨e,q⟩,hd ys σ H (e ▸ p)⟩
def dedI (ns:List Int):List Int:=ns.foldl step_dedup []
theorem Y5 {ns:List Int}:firstMet (fun i=>ns.getD i 0) ns.length = dedI ns:=by
 unfold firstMet dedI
 congr 1
 refine List.ext_getElem? fun i=>?_
 by_cases h:i < ns.length
 ·rw [List.getElem?_map,List.getElem?_range h,Option.map_some,List.getD_eq_getElem?_getD,List.getElem?_eq_getElem h]; rfl
 ·rw [List.getElem?_map,List.getElem?_eq_none (by rw [List.length_range]; omega),List.getElem?_eq_none (by omega)]; rfl
theorem j5:∀ {ns:List Int} {us:List Value},Vals (ns.map V.int) us -> IntsAre us ns
 | [],_,.nil=>.nil
 | n :: ns,_,.cons r t=>by
  obtain ⟨tk,rfl⟩:=r
  exact .cons n tk (j5 t)
section
variable {X:Cx}
theorem Y6 {k:Nat} (hr:Room k X.A):wI X (.type "set") (fun xs H Q=>∃ a ns,xs = [V.ref a] /\ SqL X.K H a (ns.map V.int) /\ ns.length <= 1000 /\ ∀ l,H l = none -> Q (.ref l) (upd H l (.set (fun j=>(dedI ns).any (· == j)) (dedI ns).length))):=by
 intro pins s σ H xs us Q I r h
 obtain ⟨a,ns,rfl,ha,hl,q⟩:=h
 obtain ⟨u,rfl,ru⟩:=tW r
 cases ru
 obtain ⟨its,rv,p,hz⟩:=I.list ha
 have hlen:=rv.length
 rw [List.length_map] at hlen
 refine call_set_list hr.hd p.isList (ns:=ns) (by simpa using j5 rv) (by simp only [List.size_toArray]; have:scanBound = 4096:=rfl; omega) fun h' tk hS kp=>?_
 have e:(its.toArray).size = ns.length:=by simp [hlen]
 rw [e,Y5] at hS
 refine ⟨.ref s.heap.objs.size,_,I.laid (t':=tk) (fun b o eb=>kp b o (Heap.lt_size eb) eb) (Nat.le_refl _) (show z6 X.prog X.w _ h' _ (.set _ _) from hS),rfl,q _ (I.hok.fresh (Nat.le_refl _))⟩
theorem Y7:wI X (.builtin "len") (fun xs H Q=>∃ a S n,xs = [V.ref a] /\ H a = some (.set S n) /\ Q (.int n) H):=by
 intro pins s σ H xs us Q I r h
 obtain ⟨a,S,n,rfl,ha,q⟩:=h
 obtain ⟨u,rfl,ru⟩:=tW r
 cases ru
 obtain ⟨o,es,ep,t,ho,hex,hd,_,_,hb,hf,hn⟩:=(show s.heap.SetOf (intKind X.prog X.w) a S n from I.hok a _ ha)
 refine call_len_set ho hex hd hf (by have:scanBound = 4096:=rfl; omega) ?_
 rw [hn]
 exact ⟨.int n,H,I.tok _,⟨_,rfl⟩,q⟩
end
theorem UX {ns:List Int} (h:ns.Nodup):(dedI ns).length = ns.length:=by
 have key:∀ (ns acc:List Int),ns.Nodup -> (∀ x ∈ ns,x ∉ acc) -> (ns.foldl step_dedup acc).length = acc.length + ns.length:=by
  intro ns
  induction ns with
  | nil=>intro acc _ _; rfl
  | cons a ns ih =>
   intro acc nd hx
   rw [List.nodup_cons] at nd
   have h0:¬ acc.any (· == a) = true:=fun z=>by
    obtain ⟨y,hy,e⟩:=List.any_eq_true.mp z
    rw [beq_iff_eq] at e
    exact hx a (by simp) (e ▸ hy)
   rw [List.foldl_cons,show step_dedup acc a = acc ++ [a] from by unfold step_dedup; rw [if_neg h0],ih _ nd.2,List.length_append]
   ·simp only [List.length_cons,List.length_nil]; omega
   ·intro x hx' hm
    rcases List.mem_append.mp hm with z | z
    ·exact hx x (by simp [hx']) z
    ·rw [List.mem_singleton.mp z] at hx'; exact nd.1 hx'
 unfold dedI
 rw [key ns [] h (fun _ _ z=>nomatch z)]; simp
section
variable {c:TT} {e:TE} {i:Nat} {v v':V} {t u r:TS} {D:Ends} {σ:L2.St} {H:Hp} {rt:VK} {bk ct:L2.St -> Hp -> Prop}
theorem c_if (Good:L2.St -> Hp -> Prop) (hr:∀ σ' H',Good σ' H' -> r D σ' H') (hc:(∀ σ' H',Good σ' H' -> r D σ' H') -> tIfS c t u { D with nx:=r D } σ H):tSeq (tIfS c t u) r D σ H:=hc hr
theorem yE (Good:V -> Hp -> Prop) (hc:∀ K:VK,(∀ v H',Good v H' -> K v H') -> e σ H K) (hr:∀ v H',Good v H' -> t D (σ.set i (some v)) H'):tSeq (tAsg e (vN i)) t D σ H:=hc _ fun v H' g=>hr v H' g
theorem tI (h:t D σ H):V4 ({ nx:=t D,rt:=rt,bk:=bk,ct:=ct }:Ends) σ H:=h
theorem c_nx (h:t D σ H):({ nx:=t D,rt:=rt,bk:=bk,ct:=ct }:Ends).nx σ H:=h
theorem tJ (Good:Bool -> Hp -> Prop) (hc:∀ K:Bool -> Hp -> Prop,(∀ b H',Good b H' -> K b H') -> c σ H K) (hr:∀ b H',Good b H' -> if b = true then t { D with nx:=r D } σ H' else u { D with nx:=r D } σ H'):tSeq (tIfS c t u) r D σ H:=hc _ hr
end
theorem uB {K:FG7} {a:Addr} {xs:List V} {g:TG} {te:TE} {Q:VK} {σ:L2.St} {H:Hp} (Pv:Nat -> List V -> L2.St -> Hp -> Prop) (h0:Pv 0 [] σ H) (hl:∀ i ys σ H,i <= xs.length -> Pv i ys σ H -> SqT K H a xs)
  (hs:∀ i x ys σ H,xs[i]? = some x -> Pv i ys σ H -> g x σ H fun σ2 H3=>te σ2 H3 fun y H5=>ys.length < sizeLine /\ Pv (i + 1) (ys ++ [y]) σ2 H5)
  (hd:∀ ys σ H,Pv xs.length ys σ H -> ∀ l,H l = none -> Q (.ref l) (upd H l (.lst ys))):vO (Itt K a) σ H g rp te Q:=vY Pv h0 hl (fun i x ys σ H hx hp=>hs i x ys σ H hx hp) hd
theorem zX {n:Nat} (h:n <= 1000):n < sizeLine:=Nat.lt_of_le_of_lt h (by decide)
theorem Y8 {K:FG7} {a:Addr} {xs:List V} {g:TG} {tk tv:TE} {Q:VK} {σ:L2.St} {H:Hp} (Pv:Nat -> List (List Key × V) -> Hp -> L2.St -> Hp -> Prop) (h0:Pv 0 [] H σ H) (hl:∀ i kvs Hb σ H,Pv i kvs Hb σ H -> SqT K H a xs)
  (hs:∀ i x kvs Hb σ H,xs[i]? = some x -> Pv i kvs Hb σ H -> g x σ H fun σ2 H3=>tk σ2 H3 fun y H5=>tv σ2 H5 fun v H6=>kvs.length < sizeLine /\ ∃ b ks,y = .ref b /\ H6 b = some (.tup (ks.map kV)) /\ (∀ c xs,Hb c = some (.tup xs) -> H6 c = some (.tup xs)) /\ Pv (i + 1) (putK kvs ks v) H6 σ2 H6)
  (hd:∀ kvs Hb σ H,Pv xs.length kvs Hb σ H -> (∀ b xs,Hb b = some (.tup xs) -> H b = some (.tup xs)) /\ ∀ l,H l = none -> Q (.ref l) (upd H l (.dT kvs))):Y1 (Itt K a) σ H g rp tk tv Q:=by
 refine ⟨fun i m kvs Hb σ H=>m = xs.length - i /\ i <= xs.length /\ Pv i kvs Hb σ H,⟨xs.length,by simp,Nat.zero_le _,h0⟩,?_⟩
 rintro i m kvs Hb σ H ⟨rfl,hi,p⟩
 have q:=hl i kvs Hb σ H p
 by_cases hlt:i < xs.length
 ·refine .inr ⟨⟨xs,xs[i],q,List.getElem?_eq_getElem hlt⟩,Pv (i + 1),fun zs Hc σ' H' p'=>⟨xs.length - (i + 1),by omega,rfl,hlt,p'⟩,fun x H' y=>?_⟩
  obtain ⟨rfl,y⟩:=y
  exact hs i x kvs Hb σ _ (y xs q) p
 ·have e:i = xs.length:=by omega
  obtain ⟨h1,h2⟩:=hd kvs Hb σ H (e ▸ p)
  exact .inl ⟨⟨xs,q,by omega⟩,h1,h2⟩
def keyR (l b:Nat):List Key:=[.inl (l:Int),.inl (b:Int)]
theorem yF {l b l' b':Nat} (h:keyR l b = keyR l' b'):l = l' /\ b = b':=by
 unfold keyR at h
 injection h with h1 h2
 injection h2 with h2 _
 injection h1 with h1
 injection h2 with h2
 exact ⟨by omega,by omega⟩
structure TabR {α:Type} (kvs:List (List Key × V)) (n m:Nat) (f:Nat -> Nat -> Option α) (R:V -> α -> Prop):Prop where
 keys:∀ p ∈ kvs,∃ l b x,p.1 = keyR l b /\ l < n /\ b < m /\ f l b = some x /\ R p.2 x
 nd:(kvs.map (·.1)).Nodup
 all:∀ l b,l < n -> b < m -> f l b ≠ none -> (valV kvs (keyR l b)).isSome = true
theorem sr {kvs:List (List Key × V)} {k:List Key} {v:V} (h:valV kvs k = some v):(k,v) ∈ kvs:=by
 unfold valV at h
 cases e:kvs.find? fun kv=>decide (kv.1 = k) with
 | none=>rw [e] at h; cases h
 | some p =>
  rw [e] at h
  have h2:p.2 = v:=Option.some.inj h
  have h0:decide (p.1 = k) = true:=by have z:=List.find?_some e; exact z
  have h1:=of_decide_eq_true h0
  have h3:=List.mem_of_find?_eq_some e
  rw [← h2,← h1]; exact h3
theorem TabR.val {α:Type} {kvs:List (List Key × V)} {n m:Nat} {f:Nat -> Nat -> Option α} {R:V -> α -> Prop} (t:TabR kvs n m f R) {l b:Nat} (hl:l < n) (hb:b < m) :
  match f l b with | some x=>∃ v,valV kvs (keyR l b) = some v /\ R v x | none=>valV kvs (keyR l b) = none:=by
 cases hv:valV kvs (keyR l b) with
 | some v =>
  obtain ⟨l',b',x,e,_,_,hf,hR⟩:=t.keys _ (sr hv)
  obtain ⟨rfl,rfl⟩:=yF e
  rw [hf]
  exact ⟨v,rfl,hR⟩
 | none =>
  cases hf:f l b with
  | none=>rfl
  | some x =>
   have:=t.all l b hl hb (by rw [hf]; exact fun z=>nomatch z)
   rw [hv] at this; cases this
theorem v6 {kvs:List (List Key × V)} {k:List Key} {v:V}:∀ p ∈ putK kvs k v,p = (k,v) \/ (p ∈ kvs /\ p.1 ≠ k):=by
 intro p hp
 unfold putK at hp
 split at hp
 ·obtain ⟨q,hq,rfl⟩:=List.mem_map.mp hp
  by_cases c:q.1 = k
  ·left; rw [if_pos c]; exact Prod.ext c rfl
  ·right; rw [if_neg c]; exact ⟨hq,c⟩
 ·rename_i h
  rcases List.mem_append.mp hp with z | z
  ·by_cases c:p.1 = k
   ·exfalso; exact h (List.any_eq_true.mpr ⟨p,z,decide_eq_true c⟩)
   ·exact .inr ⟨z,c⟩
  ·exact .inl (List.mem_singleton.mp z)
theorem j6 {kvs:List (List Key × V)} {k:List Key} {v:V} (h:(kvs.map (·.1)).Nodup):((putK kvs k v).map (·.1)).Nodup:=by
 cases e:valV kvs k with
 | none=>exact Vy v h e
 | some u =>
  have:(putK kvs k v).map (·.1) = kvs.map (·.1):=by
   unfold putK
   rw [if_pos (by rw [xL,e]; rfl),List.map_map]
   refine List.map_congr_left fun p _=>?_
   show (if p.1 = k then (p.1,v) else p).1 = p.1
   split <;> rfl
  rw [this]; exact h
theorem TabR.nil {α:Type} {n m:Nat} {R:V -> α -> Prop}:TabR [] n m (fun _ _=>(none:Option α)) R:=⟨(fun _ h=>nomatch h),List.nodup_nil,fun _ _ _ _ h=>absurd rfl h⟩
theorem TabR.imp {α:Type} {kvs:List (List Key × V)} {n m:Nat} {f:Nat -> Nat -> Option α} {R R':V -> α -> Prop} (t:TabR kvs n m f R) (h:∀ v x,R v x -> R' v x):TabR kvs n m f R' :=
 ⟨fun p hp=>by obtain ⟨l,b,x,e,h1,h2,h3,h4⟩:=t.keys p hp; exact ⟨l,b,x,e,h1,h2,h3,h _ _ h4⟩,t.nd,t.all⟩
def UY {α:Type} (H:Hp) (d:Addr) (n m:Nat) (f:Nat -> Nat -> Option α) (R:V -> α -> Prop):Prop:=∃ kvs,Rd H d (.dT kvs) /\ TabR kvs n m f R /\ kvs.length <= 16
def LvAt (K:FG7) (H:Hp) (k m:Nat) (rows:List (List Int)) (ks:List Ask) (s:Nat) (d:Addr):Prop:=UY H d (2 ^ k) m (lvR k rows ks s) (zw K H)
def kpR (k:Nat) (rows:List (List Int)) (ks:List Ask) (s l b:Nat):Option Deed:=match lvR k rows ks (s - 1) (x0R k rows s l) b,lvR k rows ks (s - 1) (x1R k rows s l) b with
 | some d,some _=>some d
 | _,_=>none
def KpAt (K:FG7) (H:Hp) (k m:Nat) (rows:List (List Int)) (ks:List Ask) (s:Nat) (d:Addr):Prop :=
 ∃ kvs,Rd H d (.dT kvs) /\ kvs.length <= 16 /\ (∀ p ∈ kvs,∃ l b x,p.1 = keyR (nN k s l) b /\ l < 2 ^ k /\ b < m /\ kpR k rows ks s l b = some x /\ zw K H p.2 x) /\ (kvs.map (·.1)).Nodup ∧
  ∀ l b,l < 2 ^ k -> b < m -> kpR k rows ks s l b ≠ none -> (valV kvs (keyR (nN k s l) b)).isSome = true
theorem Rd.growR {m:List Addr} {H H':Hp} {d:Addr} {u:HO} (g:Grow m H H') (hm:d ∉ m \/ ∃ o,H d = some (.frz o u)) (h:Rd H d u):Rd H' d u:=by
 rcases hm with hm | ⟨o,ho⟩
 ·rcases h with h | ⟨o,h⟩
  ·exact .inl (g.keep _ _ hm h)
  ·exact .inr ⟨o,g.frz _ _ _ h⟩
 ·exact .inr ⟨o,g.frz _ _ _ ho⟩
theorem LvAt.grow {K:FG7} {m':List Addr} {H H':Hp} {k m:Nat} {rows:List (List Int)} {ks:List Ask} {s:Nat} {d:Addr} (g:Grow m' H H') (hm:d ∉ m') (h:LvAt K H k m rows ks s d):LvAt K H' k m rows ks s d:=by
 obtain ⟨kvs,h1,h2,h3⟩:=h
 exact ⟨kvs,Rd.growR g (.inl hm) h1,h2.imp fun v x hv=>g.deed hv,h3⟩
theorem KpAt.grow {K:FG7} {m':List Addr} {H H':Hp} {k m:Nat} {rows:List (List Int)} {ks:List Ask} {s:Nat} {d:Addr} (g:Grow m' H H') (hm:d ∉ m') (h:KpAt K H k m rows ks s d):KpAt K H' k m rows ks s d:=by
 obtain ⟨kvs,h1,h2,h3,h4,h5⟩:=h
 exact ⟨kvs,Rd.growR g (.inl hm) h1,h2,fun p hp=>by obtain ⟨l,b,x,e,a1,a2,a3,a4⟩:=h3 p hp; exact ⟨l,b,x,e,a1,a2,a3,g.deed a4⟩,h4,h5⟩
theorem Zy:∀ k:Fin 5,∀ s:Fin 5,1 <= s.val -> s.val <= k.val -> ∀ l:Fin 16,l.val < 2 ^ k.val -> ∀ t:Fin 5,1 <= t.val -> t.val <= k.val -> t.val ≠ s.val -> figI k.val t.val (xN k.val s.val l.val) = figI k.val t.val l.val:=by decide +kernel
theorem Y9 {k:Nat} {rows:List (List Int)} {ks:List Ask} {s l l' b:Nat} (k4:k <= 4) (hs:zQ k rows) (s1:1 <= s) (sk:s <= k) (hl:l < 2 ^ k) (hl':l' < 2 ^ k) (e:nN k s l = nN k s l'):kpR k rows ks s l b = kpR k rows ks s l' b:=by
 have key:x0R k rows s l = x0R k rows s l' /\ x1R k rows s l = x1R k rows s l':=by
  refine WT k4 hs s1 sk hl hl' fun t t1 tk hne=>?_
  rcases twoF k4 s1 sk hl' hl e.symm with rfl | rfl
  ·rfl
  ·have p:=xm k4
   have:=Zy ⟨k,by omega⟩ ⟨s,by omega⟩ s1 sk ⟨l',by omega⟩ hl' ⟨t,by omega⟩ t1 tk (by simpa using hne)
   exact this
 unfold kpR
 rw [key.1,key.2]
theorem Zz:∀ k:Fin 5,∀ b:Fin 16,Builtin.bitAnd (b.val:Int) (1 * 2 ^ ((k.val:Int)).toNat - 1) = ((b.val % 2 ^ k.val:Nat):Int):=by decide +kernel
theorem Wr {k b:Nat} (k4:k <= 4) (hb:b < 16):Builtin.bitAnd (b:Int) (1 * 2 ^ ((k:Int)).toNat - 1) = ((b % 2 ^ k:Nat):Int):=Zz ⟨k,by omega⟩ ⟨b,hb⟩
theorem tK {K:FG7} {H:Hp}:∀ {xs:List V} {ks:List Ask},AllA K H xs ks -> xs.length = ks.length
 | [],[],_=>rfl
 | _ :: _,_ :: _,⟨_,t⟩=>by rw [List.length_cons,List.length_cons,tK t]
 | [],_ :: _,h=>h.elim
 | _ :: _,[],h=>h.elim
theorem yX {k:Nat} {i:Int} (h0:0 <= i) (h1:i < 2 ^ k):i.toNat < 2 ^ k:=by
 have e:((2 ^ k:Nat):Int) = 2 ^ k:=by rw [Int.natCast_pow]; rfl
 omega
theorem RndOk.ask {k m:Nat} {ks:List Ask} (R:RndOk k m ks) (k4:k <= 4):∀ a ∈ ks,vQ m a:=fun a ha=>by
 have h:=R.hand a ha
 have p:=xm k4
 have:=yX h.1 h.2
 exact ⟨h.1,by omega,(R.box a ha).1,(R.box a ha).2,R.ok a ha⟩
structure Beh (K:FG7) (H:Hp) (k m:Nat) (rows:List (List Int)) (ks:List Ask) (st:Nat) (kvs:List (List Key × V)) (i:Nat) (bk kk:List (List Key × V)):Prop where
 b1:∀ p ∈ bk,∃ l b x,p.1 = keyR l b /\ l < 2 ^ k /\ b < m /\ lvR k rows ks st l b = some x /\ zw K H p.2 x
 b2:(bk.map (·.1)).Nodup
 b3:∀ j l b v,j < i -> kvs[j]? = some (keyR l b,v) -> (valV bk (keyR (outR k st l b) b)).isSome = true
 bl:bk.length <= i
 k1:∀ p ∈ kk,∃ l b x,p.1 = keyR (nN k st l) b /\ l < 2 ^ k /\ b < m /\ kpR k rows ks st l b = some x /\ zw K H p.2 x
 k2:(kk.map (·.1)).Nodup
 k3:∀ j l b v,j < i -> kvs[j]? = some (keyR l b,v) -> kpR k rows ks st l b ≠ none -> (valV kk (keyR (nN k st l) b)).isSome = true
 kl:kk.length <= i
section
variable {K:FG7} {H H':Hp} {k m:Nat} {rows:List (List Int)} {ks:List Ask} {st:Nat} {kvs:List (List Key × V)} {i:Nat} {bk kk:List (List Key × V)}
theorem Beh.grow {m':List Addr} (g:Grow m' H H') (B:Beh K H k m rows ks st kvs i bk kk):Beh K H' k m rows ks st kvs i bk kk :=
 ⟨fun p hp=>by obtain ⟨l,b,x,e,h1,h2,h3,h4⟩:=B.b1 p hp; exact ⟨l,b,x,e,h1,h2,h3,g.deed h4⟩,B.b2,B.b3,B.bl,fun p hp=>by obtain ⟨l,b,x,e,h1,h2,h3,h4⟩:=B.k1 p hp; exact ⟨l,b,x,e,h1,h2,h3,g.deed h4⟩,B.k2,B.k3,B.kl⟩
theorem Beh.nil:Beh K H k m rows ks st kvs 0 [] []:=⟨(fun _ h=>nomatch h),List.nodup_nil,(fun _ _ _ _ h=>absurd h (Nat.not_lt_zero _)),Nat.le_refl _,(fun _ h=>nomatch h),List.nodup_nil,(fun _ _ _ _ h=>absurd h (Nat.not_lt_zero _)),Nat.le_refl _⟩
theorem wq {bk:List (List Key × V)} {k j:List Key} {v:V} (h:(valV bk j).isSome = true):(valV (putK bk k v) j).isSome = true:=by
 rw [v4]
 split
 ·rfl
 ·exact h
theorem xO {bk:List (List Key × V)} {k:List Key} {v:V}:(valV (putK bk k v) k).isSome = true:=by rw [v4,if_pos rfl]; rfl
theorem Beh.one {l b:Nat} {v w:V} {x:Deed} (B:Beh K H k m rows ks st kvs i bk kk) (hp:kvs[i]? = some (keyR l b,v)) (ho:outR k st l b < 2 ^ k) (hb:b < m) (hx:lvR k rows ks st (outR k st l b) b = some x) (hd:zw K H w x) (hk:kpR k rows ks st l b = none) :
  Beh K H k m rows ks st kvs (i + 1) (putK bk (keyR (outR k st l b) b) w) kk where
 b1:=fun p hp'=>by
  rcases v6 p hp' with rfl | ⟨hm,_⟩
  ·exact ⟨_,b,x,rfl,ho,hb,hx,hd⟩
  ·exact B.b1 p hm
 b2:=j6 B.b2
 b3:=fun j l' b' v' hj hj'=>by
  by_cases c:j < i
  ·exact wq (B.b3 j l' b' v' c hj')
  ·have e:j = i:=by omega
   rw [e,hp] at hj'
   obtain ⟨rfl,rfl⟩:=yF (congrArg Prod.fst (Option.some.inj hj'))
   exact xO
 bl:=Nat.le_trans (yk ..) (Nat.succ_le_succ B.bl)
 k1:=B.k1
 k2:=B.k2
 k3:=fun j l' b' v' hj hj' hne=>by
  by_cases c:j < i
  ·exact B.k3 j l' b' v' c hj' hne
  ·have e:j = i:=by omega
   rw [e,hp] at hj'
   obtain ⟨rfl,rfl⟩:=yF (congrArg Prod.fst (Option.some.inj hj'))
   exact absurd hk hne
 kl:=Nat.le_succ_of_le B.kl
theorem Beh.two {l b:Nat} {v w w2:V} {x y:Deed} (B:Beh K H k m rows ks st kvs i bk kk) (hp:kvs[i]? = some (keyR l b,v)) (hl:l < 2 ^ k) (ho:outR k st l b < 2 ^ k) (hb:b < m) (hx:lvR k rows ks st (outR k st l b) b = some x) (hd:zw K H w x) (hk:kpR k rows ks st l b = some y) (hy:zw K H w2 y) :
  Beh K H k m rows ks st kvs (i + 1) (putK bk (keyR (outR k st l b) b) w) (putK kk (keyR (nN k st l) b) w2) where
 b1:=fun p hp'=>by
  rcases v6 p hp' with rfl | ⟨hm,_⟩
  ·exact ⟨_,b,x,rfl,ho,hb,hx,hd⟩
  ·exact B.b1 p hm
 b2:=j6 B.b2
 b3:=fun j l' b' v' hj hj'=>by
  by_cases c:j < i
  ·exact wq (B.b3 j l' b' v' c hj')
  ·have e:j = i:=by omega
   rw [e,hp] at hj'
   obtain ⟨rfl,rfl⟩:=yF (congrArg Prod.fst (Option.some.inj hj'))
   exact xO
 bl:=Nat.le_trans (yk ..) (Nat.succ_le_succ B.bl)
 k1:=fun p hp'=>by
  rcases v6 p hp' with rfl | ⟨hm,_⟩
  ·exact ⟨l,b,y,rfl,hl,hb,hk,hy⟩
  ·exact B.k1 p hm
 k2:=j6 B.k2
 k3:=fun j l' b' v' hj hj' hne=>by
  by_cases c:j < i
  ·exact wq (B.k3 j l' b' v' c hj' hne)
  ·have e:j = i:=by omega
   rw [e,hp] at hj'
   obtain ⟨rfl,rfl⟩:=yF (congrArg Prod.fst (Option.some.inj hj'))
   exact xO
 kl:=Nat.le_trans (yk ..) (Nat.succ_le_succ B.kl)
theorem uC {kvs:List (List Key × V)} {k:List Key} (h:(valV kvs k).isSome = true):∃ j v,kvs[j]? = some (k,v) /\ j < kvs.length:=by
 obtain ⟨v,hv⟩:=Option.isSome_iff_exists.mp h
 obtain ⟨j,hj,e⟩:=List.getElem_of_mem (sr hv)
 exact ⟨j,v,by rw [List.getElem?_eq_getElem hj,e],hj⟩
theorem Beh.done {b0 k0:Addr} (k4:k <= 4) (hs:zQ k rows) (s1:1 <= st) (sk:st <= k) (tab:TabR kvs (2 ^ k) m (lvR k rows ks (st - 1)) (zw K H)) (kl:kvs.length <= 16) (B:Beh K H k m rows ks st kvs kvs.length bk kk) (hB:H b0 = some (.dT bk)) (hK:H k0 = some (.dT kk)) :
  LvAt K H k m rows ks st b0 /\ KpAt K H k m rows ks st k0:=by
 have es:st = st - 1 + 1:=by omega
 refine ⟨⟨bk,.inl hB,⟨B.b1,B.b2,fun l b hl hb hne=>?_⟩,Nat.le_trans B.bl kl⟩,kk,.inl hK,Nat.le_trans B.kl kl,B.k1,B.k2,fun l b hl hb hne=>?_⟩
 ·rw [es] at hne
  obtain ⟨x,hx,hox,hxn⟩:=UW k4 hs (by omega) hl hne
  obtain ⟨j,v,hj,hjl⟩:=uC (tab.all x b hx hb hxn)
  have:=B.b3 j x b v hjl hj
  rw [← es] at hox
  rw [hox] at this; exact this
 ·have X:=xF (rows:=rows) k4 hs s1 sk hl
  have nx:nN k st (x0R k rows st l) = nN k st l:=UU s1 sk fun t _ tk hne=>X.off0 t tk hne
  have h0:lvR k rows ks (st - 1) (x0R k rows st l) b ≠ none:=by
   intro z
   unfold kpR at hne
   rw [z] at hne
   exact hne rfl
  obtain ⟨j,v,hj,hjl⟩:=uC (tab.all _ b X.lt0 hb h0)
  have:=B.k3 j _ b v hjl hj (by rw [Y9 k4 hs s1 sk X.lt0 hl nx]; exact hne)
  rw [nx] at this; exact this
end
theorem Grow.setR {m:List Addr} {H:Hp} {d:Addr} {kvs kvs':List (List Key × V)} (h:H d = some (.dT kvs)) (hm:d ∈ m):Grow m H (upd H d (.dT kvs')) :=
 ⟨fun b u hb q=>by rw [zn (show b ≠ d from fun z=>hb (by rw [z]; exact hm))]; exact q,fun b zs q=>by rw [zn (fun z=>by subst z; rw [h] at q; cases q)]; exact q,fun b u v q=>by rw [zn (fun z=>by subst z; rw [h] at q; cases q)]; exact q⟩
theorem Xa {H:Hp} {d t:Addr} {o:Obj} {kvs:List (List Key × V)} {l b:Nat} (h:H d = some (.frz o (.dT kvs))) (ht:H t = some (.tup [.int l,.int b])):DGet H d (.ref t) (valV kvs (keyR l b)):=.inr ⟨kvs,keyR l b,t,.inr ⟨o,h⟩,rfl,ht,rfl⟩
theorem jc {H:Hp} {d t:Addr} {kvs:List (List Key × V)} {l b:Nat} (h:Rd H d (.dT kvs)) (ht:H t = some (.tup [.int l,.int b])):DGet H d (.ref t) (valV kvs (keyR l b)):=.inr ⟨kvs,keyR l b,t,h,rfl,ht,rfl⟩
def uD (_:FG7):Sp:=sp2 fun x y H Q=>∃ (k b:Nat),x = .int k /\ y = .int b /\ k <= 4 /\ b < 16 /\ Q (.int ((b % 2 ^ k:Nat):Int)) H
def xP (K:FG7):Sp:=sp3 fun x y z H Q=>∃ (k:Nat) (b:List Int) (ks:List Ask),x = .int k /\ k <= 4 /\ zD K H y b /\ 1 <= b.length /\ b.length <= 16 /\ yB K H z ks /\ ks.length <= 16 /\ RndOk k b.length ks /\ ∀ H',Grow [] H H' -> Q .non H'
def rV (K:FG7):Sp:=sp4 fun x y z u H Q=>∃ (k st m:Nat) (d:Addr) (rows:List (List Int)) (ks:List Ask),x = .int k /\ y = .int st /\ z = .ref d /\ k <= 4 /\ 1 <= st /\ st <= k /\ m <= 16 /\ LvAt K H k m rows ks (st - 1) d /\ xy K H u rows /\ zQ k rows /\ RndOk k m ks ∧
 ∀ r b' kp H',Grow [d] H H' -> H b' = none -> H kp = none -> b' ≠ kp -> SqT K H' r [.ref b',.ref kp] -> LvAt K H' k m rows ks st b' -> KpAt K H' k m rows ks st kp -> LvAt K H' k m rows ks (st - 1) d -> Q (.ref r) H'
structure NetR (K:FG7) (H:Hp) (k m:Nat) (rows:List (List Int)) (ks:List Ask) (ds kps:List Addr):Prop where
 lv:∀ s d,ds[s]? = some d -> LvAt K H k m rows ks s d
 kp:∀ s d,kps[s]? = some d -> KpAt K H k m rows ks (s + 1) d
 nd:(ds ++ kps).Nodup
theorem LvAt.isD {K:FG7} {H:Hp} {k m:Nat} {rows:List (List Int)} {ks:List Ask} {s:Nat} {d:Addr} (h:LvAt K H k m rows ks s d):∃ kvs,Rd H d (.dT kvs):=by obtain ⟨kvs,h1,_⟩:=h; exact ⟨kvs,h1⟩
theorem KpAt.isD {K:FG7} {H:Hp} {k m:Nat} {rows:List (List Int)} {ks:List Ask} {s:Nat} {d:Addr} (h:KpAt K H k m rows ks s d):∃ kvs,Rd H d (.dT kvs):=by obtain ⟨kvs,h1,_⟩:=h; exact ⟨kvs,h1⟩
theorem NetR.isD {K:FG7} {H:Hp} {k m:Nat} {rows:List (List Int)} {ks:List Ask} {ds kps:List Addr} (N:NetR K H k m rows ks ds kps) {d:Addr} (h:d ∈ ds ++ kps):∃ kvs,Rd H d (.dT kvs):=by
 rcases List.mem_append.mp h with z | z
 ·obtain ⟨i,hi,rfl⟩:=List.getElem_of_mem z; exact (N.lv i _ (List.getElem?_eq_getElem hi)).isD
 ·obtain ⟨i,hi,rfl⟩:=List.getElem_of_mem z; exact (N.kp i _ (List.getElem?_eq_getElem hi)).isD
theorem Rd.ne_none {H:Hp} {d:Addr} {u:HO} (h:Rd H d u):H d ≠ none:=by rcases h with z | ⟨o,z⟩ <;> rw [z] <;> exact fun z=>nomatch z
theorem Rd.ne_lst {H:Hp} {d l:Addr} {kvs:List (List Key × V)} {xs:List V} (h:Rd H d (.dT kvs)) (hl:H l = some (.lst xs)):d ≠ l:=fun e=>by
 rw [e] at h
 rcases h with z | ⟨o,z⟩ <;> rw [hl] at z <;> cases z
theorem NetR.grow {K:FG7} {H H':Hp} {m':List Addr} {k m:Nat} {rows:List (List Int)} {ks:List Ask} {ds kps:List Addr} (g:Grow m' H H') (hm:∀ d ∈ ds ++ kps,d ∉ m') (N:NetR K H k m rows ks ds kps):NetR K H' k m rows ks ds kps :=
 ⟨fun s d h=>(N.lv s d h).grow g (hm d (List.mem_append_left _ (List.mem_of_getElem? h))),fun s d h=>(N.kp s d h).grow g (hm d (List.mem_append_right _ (List.mem_of_getElem? h))),N.nd⟩
def uE (K:FG7):Sp:=sp3 fun x y z H Q=>∃ (k m:Nat) (rows:List (List Int)) (ks:List Ask),x = .int k /\ k <= 4 /\ m <= 16 /\ ks.length <= 16 /\ yB K H y ks /\ xy K H z rows /\ zQ k rows /\ RndOk k m ks ∧
 ∀ r lL lS ds kps H',Grow [] H H' -> SqT K H' r [.ref lL,.ref lS] -> H' lL = some (.lst (ds.map V.ref)) -> H' lS = some (.lst (kps.map V.ref)) -> ds.length = k + 1 -> kps.length = k -> NetR K H' k m rows ks ds kps -> (∀ d ∈ ds ++ kps,H d = none) -> Q (.ref r) H'
def lv0K (ks:List Ask) (vs:List V):List (List Key × V):=(ks.zip vs).map fun p=>(keyR p.1.hand.toNat p.1.box.toNat,p.2)
theorem Ws {a:Ask} (h0:0 <= a.hand) (h1:0 <= a.box):(keyR a.hand.toNat a.box.toNat).map kV = [.int a.hand,.int a.box]:=by
 show [V.int ((a.hand.toNat:Nat):Int),V.int ((a.box.toNat:Nat):Int)] = _
 rw [Int.toNat_of_nonneg h0,Int.toNat_of_nonneg h1]
theorem uF {ks:List Ask} {a:Ask} (nd:(ks.map (·.hand)).Nodup) (ha:a ∈ ks):(ks.find? fun c=>decide (c.hand = a.hand /\ c.box = a.box)) = some a:=by
 induction ks with
 | nil=>cases ha
 | cons c ks ih =>
  rw [List.map_cons,List.nodup_cons] at nd
  rw [List.find?_cons]
  rcases List.mem_cons.mp ha with rfl | ha
  ·rw [decide_eq_true ⟨rfl,rfl⟩]
  ·have:¬ (c.hand = a.hand /\ c.box = a.box):=fun z=>nd.1 (List.mem_map.mpr ⟨a,ha,z.1.symm⟩)
   rw [decide_eq_false this]
   exact ih nd.2 ha
theorem VE {K:FG7} {H:Hp} {k m:Nat} {rows:List (List Int)} {ks:List Ask} {vs:List V} (R:RndOk k m ks) (hl:vs.length = ks.length) (hv:∀ (i:Nat) (a:Ask) (v:V),ks[i]? = some a -> vs[i]? = some v -> zw K H v a.deed):TabR (lv0K ks vs) (2 ^ k) m (lvR k rows ks 0) (zw K H):=by
 have ek:(lv0K ks vs).map (·.1) = ks.map fun a=>keyR a.hand.toNat a.box.toNat:=by
  unfold lv0K
  rw [List.map_map]
  refine List.ext_getElem? fun i=>?_
  rw [List.getElem?_map,List.getElem?_map]
  by_cases h:i < ks.length
  ·rw [List.getElem?_eq_getElem (show i < (ks.zip vs).length by rw [List.length_zip]; omega),List.getElem?_eq_getElem h,List.getElem_zip]; rfl
  ·rw [List.getElem?_eq_none (by rw [List.length_zip]; omega),List.getElem?_eq_none (by omega)]; rfl
 refine ⟨fun p hp=>?_,?_,fun l b hlt hb hne=>?_⟩
 ·unfold lv0K at hp
  obtain ⟨⟨a,v⟩,hm,rfl⟩:=List.mem_map.mp hp
  obtain ⟨i,hi,e⟩:=List.getElem_of_mem hm
  rw [List.getElem_zip] at e
  have hi':i < ks.length:=by rw [List.length_zip] at hi; omega
  have hiv:i < vs.length:=by omega
  have ea:ks[i] = a:=congrArg Prod.fst e
  have ev:vs[i] = v:=congrArg Prod.snd e
  have ha:a ∈ ks:=ea ▸ List.getElem_mem hi'
  have hh:=R.hand a ha
  have hbx:=R.box a ha
  refine ⟨a.hand.toNat,a.box.toNat,a.deed,rfl,yX hh.1 hh.2,by omega,?_,hv i a v (by rw [List.getElem?_eq_getElem hi',ea]) (by rw [List.getElem?_eq_getElem hiv,ev])⟩
  show (ks.find? fun c=>decide (c.hand = ((a.hand.toNat:Nat):Int) /\ c.box = ((a.box.toNat:Nat):Int))).map (·.deed) = _
  rw [Int.toNat_of_nonneg hh.1,Int.toNat_of_nonneg hbx.1,uF R.nd ha]; rfl
 ·rw [ek]
  have nd:=R.nd
  unfold List.Nodup at nd ⊢
  rw [List.pairwise_map] at nd ⊢
  refine nd.imp_of_mem fun {a c} ha hc hne e=>hne ?_
  have:=yF e
  have h1:=(R.hand a ha).1
  have h2:=(R.hand c hc).1
  omega
 ·have hne':(ks.find? fun c=>decide (c.hand = (l:Int) /\ c.box = (b:Int))).map (·.deed) ≠ none:=hne
  cases hf:ks.find? fun c=>decide (c.hand = (l:Int) /\ c.box = (b:Int)) with
  | none=>rw [hf] at hne'; exact absurd rfl hne'
  | some a =>
   have ha:=List.mem_of_find?_eq_some hf
   have hd:decide (a.hand = (l:Int) /\ a.box = (b:Int)) = true:=by have z:=List.find?_some hf; exact z
   obtain ⟨h1,h2⟩:=of_decide_eq_true hd
   have hm:keyR l b ∈ (lv0K ks vs).map (·.1):=by
    rw [ek]
    exact List.mem_map.mpr ⟨a,ha,by rw [h1,h2]; rfl⟩
   cases hv':valV (lv0K ks vs) (keyR l b) with
   | none=>exact absurd hm (j2 hv')
   | some v=>rfl
theorem Xb {ks:List Ask} {vs:List V}:(lv0K ks vs).length = min ks.length vs.length:=by unfold lv0K; rw [List.length_map,List.length_zip]
theorem VF {k m n:Nat} {ks:List Ask} {vs:List V} {v:V} {a:Ask} (R:RndOk k m ks) (ha:ks[n]? = some a) (vl:vs.length = n):putK (lv0K (ks.take n) vs) (keyR a.hand.toNat a.box.toNat) v = lv0K (ks.take (n + 1)) (vs ++ [v]):=by
 have hn:=(List.getElem?_eq_some_iff.mp ha).1
 rw [j0]
 ·unfold lv0K
  rw [List.take_succ,ha,List.zip_append (by rw [List.length_take]; omega),List.map_append]; rfl
 ·cases hv:valV (lv0K (ks.take n) vs) (keyR a.hand.toNat a.box.toNat) with
  | none=>rfl
  | some u =>
   exfalso
   have:=sr hv
   unfold lv0K at this
   obtain ⟨⟨c,w⟩,hm,e⟩:=List.mem_map.mp this
   have hc:c ∈ ks.take n:=(List.of_mem_zip hm).1
   obtain ⟨h1,_⟩:=yF (congrArg Prod.fst e)
   have hck:=List.mem_of_mem_take hc
   have ha':=List.mem_of_getElem? ha
   have e1:c.hand = a.hand:=by have:=(R.hand c hck).1; have:=(R.hand a ha').1; have h1':c.hand.toNat = a.hand.toNat:=h1; omega
   obtain ⟨j,hj,ej⟩:=List.getElem_of_mem hc
   rw [List.length_take] at hj
   rw [List.getElem_take] at ej
   have nd:=R.nd
   have h2:(ks.map (·.hand))[j]'(by rw [List.length_map]; omega) = (ks.map (·.hand))[n]'(by rw [List.length_map]; omega):=by
    rw [List.getElem_map,List.getElem_map,ej,e1]
    rw [List.getElem?_eq_getElem hn] at ha
    rw [Option.some.inj ha]
   have:=(List.getElem_inj nd).mp h2
   omega
theorem Wt {α:Type} {xs:List α} (h:xs ≠ []):∃ ys y,xs = ys ++ [y]:=⟨xs.dropLast,xs.getLast h,(List.dropLast_concat_getLast h).symm⟩
theorem ZA {as bs:List Addr} {b c:Addr} (h:(as ++ bs).Nodup) (h1:∀ e ∈ as ++ bs,e ≠ b) (h2:∀ e ∈ as ++ bs,e ≠ c) (h3:b ≠ c):((as ++ [b]) ++ (bs ++ [c])).Nodup:=by
 have p:((as ++ [b]) ++ (bs ++ [c])).Perm (b :: c :: (as ++ bs)):=by
  have e1:(as ++ [b]) ++ (bs ++ [c]) = as ++ (b :: (bs ++ [c])):=by simp
  rw [e1]
  refine List.perm_middle.trans (List.Perm.cons b ?_)
  rw [← List.append_assoc]
  exact List.perm_append_singleton c (as ++ bs)
 refine p.nodup_iff.mpr ?_
 rw [List.nodup_cons,List.nodup_cons]
 refine ⟨fun z=>?_,fun z=>h2 c z rfl,h⟩
 rcases List.mem_cons.mp z with e | e
 ·exact h3 e
 ·exact h1 b e rfl
theorem Tz {ys:List Addr} {v:Addr}:atI ((ys ++ [v]).map V.ref) (-1) = some (V.ref v):=by
 refine vP (j:=ys.length) ?_ ?_
 ·unfold ixN
  rw [List.length_map,List.length_append,if_neg (by decide),if_pos (by show -((ys.length + 1:Nat):Int) <= -1; omega)]
  congr 1
  show (((ys.length + 1:Nat):Int) + -1).toNat = _
  omega
 ·rw [List.map_append,← List.length_map (f:=V.ref) (as:=ys)]
  exact List.getElem?_concat_length
structure PTab {α:Type} (kvs:List (List Key × V)) (n m:Nat) (f:Nat -> Nat -> Option α) (R:V -> α -> Prop) (i:Nat) (tk:List (List Key × V)):Prop where
 p1:∀ p ∈ tk,∃ l b x,p.1 = keyR l b /\ l < n /\ b < m /\ f l b = some x /\ R p.2 x
 p2:(tk.map (·.1)).Nodup
 p3:∀ j l b v,j < i -> kvs[j]? = some (keyR l b,v) -> (valV tk (keyR l b)).isSome = true
 p4:tk.length <= i
theorem PTab.nil {α:Type} {kvs:List (List Key × V)} {n m:Nat} {f:Nat -> Nat -> Option α} {R:V -> α -> Prop}:PTab kvs n m f R 0 []:=⟨(fun _ h=>nomatch h),List.nodup_nil,(fun _ _ _ _ h=>absurd h (Nat.not_lt_zero _)),Nat.le_refl _⟩
theorem PTab.step {α:Type} {kvs:List (List Key × V)} {n m:Nat} {f:Nat -> Nat -> Option α} {R:V -> α -> Prop} {i:Nat} {tk:List (List Key × V)} {l b:Nat} {v w:V} {x:α} (P:PTab kvs n m f R i tk) (hp:kvs[i]? = some (keyR l b,v)) (hl:l < n) (hb:b < m) (hx:f l b = some x) (hR:R w x):PTab kvs n m f R (i + 1) (putK tk (keyR l b) w) where
 p1:=fun p hp'=>by
  rcases v6 p hp' with rfl | ⟨hm,_⟩
  ·exact ⟨l,b,x,rfl,hl,hb,hx,hR⟩
  ·exact P.p1 p hm
 p2:=j6 P.p2
 p3:=fun j l' b' v' hj hj'=>by
  by_cases c:j < i
  ·exact wq (P.p3 j l' b' v' c hj')
  ·have e:j = i:=by omega
   rw [e,hp] at hj'
   obtain ⟨rfl,rfl⟩:=yF (congrArg Prod.fst (Option.some.inj hj'))
   exact xO
 p4:=Nat.le_trans (yk ..) (Nat.succ_le_succ P.p4)
theorem PTab.done {α β:Type} {kvs:List (List Key × V)} {n m:Nat} {f:Nat -> Nat -> Option α} {R:V -> α -> Prop} {f':Nat -> Nat -> Option β} {R':V -> β -> Prop} {tk:List (List Key × V)} (P:PTab kvs n m f R kvs.length tk) (T:TabR kvs n m f' R') (h:∀ l b,l < n -> b < m -> f l b ≠ none -> f' l b ≠ none):TabR tk n m f R :=
 ⟨P.p1,P.p2,fun l b hl hb hne=>by
  obtain ⟨j,v,hj,hjl⟩:=uC (T.all l b hl hb (h l b hl hb hne))
  exact P.p3 j l b v hjl hj⟩
def anF (k:Nat) (rows:List (List Int)) (ks:List Ask) (bd:Nat -> Int) (s l b:Nat):Option Int:=(lvR k rows ks s l b).map fun _=>stvR k rows ks bd (k - s) l b
def AnAt (H:Hp) (k m:Nat) (rows:List (List Int)) (ks:List Ask) (bd:Nat -> Int) (s:Nat) (d:Addr):Prop:=UY H d (2 ^ k) m (anF k rows ks bd s) (fun v x=>v = .int x)
section
variable {K:FG7} {H:Hp} {k m:Nat} {rows:List (List Int)} {ks:List Ask} {bd:Nat -> Int} {s:Nat} {d:Addr}
theorem Wu {st l b:Nat} (s1:1 <= st) (sk:st <= k):stvR k rows ks bd (k - (st - 1)) l b = match kpR k rows ks st l b with
  | some d=>if l = x1R k rows st l then d.mk' (stvR k rows ks bd (k - st) (outR k st l b) b) else stvR k rows ks bd (k - st) (outR k st l b) b
  | none=>stvR k rows ks bd (k - st) (outR k st l b) b:=by
 have e1:k - (st - 1) = k - st + 1:=by omega
 have e2:k - (k - st) = st:=by omega
 have e:stvR k rows ks bd (k - st + 1) l b = match lvR k rows ks (k - (k - st) - 1) (x0R k rows (k - (k - st)) l) b,lvR k rows ks (k - (k - st) - 1) (x1R k rows (k - (k - st)) l) b with
  | some d,some _=>if l = x1R k rows (k - (k - st)) l then d.mk' (stvR k rows ks bd (k - st) (outR k (k - (k - st)) l b) b) else stvR k rows ks bd (k - st) (outR k (k - (k - st)) l b) b
  | _,_=>stvR k rows ks bd (k - st) (outR k (k - (k - st)) l b) b:=rfl
 rw [e1,e,e2]
 unfold kpR
 cases lvR k rows ks (st - 1) (x0R k rows st l) b with
 | none=>rfl
 | some d=>cases lvR k rows ks (st - 1) (x1R k rows st l) b <;> rfl
theorem KpAt.val {st l b:Nat} {kvs:List (List Key × V)} (k4:k <= 4) (hs:zQ k rows) (s1:1 <= st) (sk:st <= k) (hl:l < 2 ^ k) (hb:b < m)
  (h3:∀ p ∈ kvs,∃ l b x,p.1 = keyR (nN k st l) b /\ l < 2 ^ k /\ b < m /\ kpR k rows ks st l b = some x /\ zw K H p.2 x)
  (h5:∀ l b,l < 2 ^ k -> b < m -> kpR k rows ks st l b ≠ none -> (valV kvs (keyR (nN k st l) b)).isSome = true) :
  match kpR k rows ks st l b with | some x=>∃ v,valV kvs (keyR (nN k st l) b) = some v /\ zw K H v x | none=>valV kvs (keyR (nN k st l) b) = none:=by
 have sound:∀ v,valV kvs (keyR (nN k st l) b) = some v -> ∃ x,kpR k rows ks st l b = some x /\ zw K H v x:=fun v hv=>by
  obtain ⟨l',b',x,e,h1,h2,h4,h6⟩:=h3 _ (sr hv)
  obtain ⟨e1,rfl⟩:=yF e
  exact ⟨x,(Y9 k4 hs s1 sk hl h1 e1).trans h4,h6⟩
 cases hv:valV kvs (keyR (nN k st l) b) with
 | some v =>
  obtain ⟨x,e,hd⟩:=sound v hv
  rw [e]
  exact ⟨v,rfl,hd⟩
 | none =>
  cases hk:kpR k rows ks st l b with
  | none=>rfl
  | some x =>
   have:=h5 l b hl hb (by rw [hk]; exact fun z=>nomatch z)
   rw [hv] at this; cases this
theorem ss {l b:Nat} (R:RndOk k m ks) (k4:k <= 4) (hs:zQ k rows) (hl:l < 2 ^ k) (h:lvR k rows ks k l b ≠ none):l = b % 2 ^ k :=
 wg k4 hl yS fun t t1 tk=>sj k4 hs (Nat.le_refl k) hl (fun z=>h ((lvF R k l b).non.mpr z)) t t1 tk
def finR (k:Nat) (rows:List (List Int)) (ks:List Ask) (bd:Nat -> Int) (j:Nat):Int:=match lvR k rows ks k (j % 2 ^ k) j with
 | some d=>d.mk' (bd j)
 | none=>bd j
def bdF (b:List Int) (j:Nat):Int:=b.getD j 0
def ansR (k:Nat) (rows:List (List Int)) (ks:List Ask) (b:List Int):List Int:=ks.map fun a=>stvR k rows ks (bdF b) k a.hand.toNat a.box.toNat
def finL (k:Nat) (rows:List (List Int)) (ks:List Ask) (b:List Int):List Int:=(List.range b.length).map (finR k rows ks (bdF b))
def tL (K:FG7):Sp:=sp6 fun x y z u w v H Q=>∃ (k st m:Nat) (d kp an:Addr) (rows:List (List Int)) (ks:List Ask) (bd:Nat -> Int),x = .int k /\ y = .int st /\ z = .ref d /\ u = .ref kp /\ v = .ref an /\ k <= 4 /\ 1 <= st /\ st <= k /\ m <= 16 /\ LvAt K H k m rows ks (st - 1) d /\ KpAt K H k m rows ks st kp /\ xy K H w rows /\ zQ k rows /\ RndOk k m ks ∧
 AnAt H k m rows ks bd st an /\ d ≠ kp /\ d ≠ an /\ ∀ a' H',Grow [d] H H' -> H a' = none -> AnAt H' k m rows ks bd (st - 1) a' -> LvAt K H' k m rows ks (st - 1) d -> Q (.ref a') H'
def tM (K:FG7):Sp:=sp4 fun x y z u H Q=>∃ (k:Nat) (b:List Int) (ks:List Ask) (rows:List (List Int)),x = .int k /\ k <= 4 /\ zD K H y b /\ 1 <= b.length /\ b.length <= 16 /\ yB K H z ks /\ ks.length <= 16 /\ RndOk k b.length ks /\ xy K H u rows /\ zQ k rows ∧
 ∀ y H',Grow [] H H' -> vG K H' y (ansR k rows ks b,finL k rows ks b) -> Q y H'
end
structure VI (kvs:List (List Key × V)) (b:List Int) (fin:Nat -> Int) (i:Nat) (w:List Int):Prop where
 len:w.length = b.length
 or:∀ j,j < b.length -> w[j]? = some (bdF b j) \/ w[j]? = some (fin j)
 dn:∀ i' l c v,i' < i -> kvs[i']? = some (keyR l c,v) -> c < b.length -> w[c]? = some (fin c)
theorem wO {b:List Int} {j:Nat} (h:j < b.length):b[j]? = some (bdF b j):=by
 unfold bdF; rw [List.getD_eq_getElem?_getD,List.getElem?_eq_getElem h]; rfl
theorem VI.nil {kvs:List (List Key × V)} {b:List Int} {fin:Nat -> Int}:VI kvs b fin 0 b:=⟨rfl,fun _ h=>.inl (wO h),fun _ _ _ _ h=>absurd h (Nat.not_lt_zero _)⟩
theorem VI.step {kvs:List (List Key × V)} {b:List Int} {fin:Nat -> Int} {i l c:Nat} {w:List Int} {v:V} (h:VI kvs b fin i w) (hp:kvs[i]? = some (keyR l c,v)) (hc:c < b.length):VI kvs b fin (i + 1) (w.set c (fin c)):=by
 have hw:c < w.length:=by rw [h.len]; exact hc
 refine ⟨by rw [List.length_set]; exact h.len,fun j hj=>?_,fun i' l' c' v' hi hp' hc'=>?_⟩
 ·by_cases e:c = j
  ·subst e; exact .inr (List.getElem?_set_self hw)
  ·rw [List.getElem?_set_ne e]; exact h.or j hj
 ·by_cases e:c = c'
  ·subst e; exact List.getElem?_set_self hw
  ·rw [List.getElem?_set_ne e]
   by_cases hii:i' < i
   ·exact h.dn i' l' c' v' hii hp' hc'
   ·have:i' = i:=by omega
    rw [this,hp] at hp'
    exact absurd (yF (congrArg Prod.fst (Option.some.inj hp'))).2 e
theorem VI.done {kvs:List (List Key × V)} {k:Nat} {rows:List (List Int)} {ks:List Ask} {b w:List Int} {R:V -> Deed -> Prop} (h:VI kvs b (finR k rows ks (bdF b)) kvs.length w) (T:TabR kvs (2 ^ k) b.length (lvR k rows ks k) R):w = finL k rows ks b:=by
 have el:(finL k rows ks b).length = b.length:=by unfold finL; rw [List.length_map,List.length_range]
 have gf:∀ j,j < b.length -> (finL k rows ks b)[j]? = some (finR k rows ks (bdF b) j):=fun j hj=>by
  unfold finL; rw [List.getElem?_map,List.getElem?_range hj]; rfl
 refine List.ext_getElem? fun j=>?_
 by_cases hj:j < b.length
 ·rw [gf j hj]
  cases hl:lvR k rows ks k (j % 2 ^ k) j with
  | none =>
   have e:finR k rows ks (bdF b) j = bdF b j:=by unfold finR; rw [hl]
   rcases h.or j hj with z | z
   ·rw [z,e]
   ·exact z
  | some d =>
   obtain ⟨i',v,hp,hi⟩:=uC (T.all (j % 2 ^ k) j (yS (k:=k) (b:=j)) hj (by rw [hl]; exact fun z=>nomatch z))
   exact h.dn i' _ j v hi hp hj
 ·rw [List.getElem?_eq_none (by rw [h.len]; omega),List.getElem?_eq_none (by omega)]
theorem NetR.walk {K:FG7} {H H':Hp} {k m:Nat} {rows:List (List Int)} {ks:List Ask} {ds kps:List Addr} {s:Nat} {d:Addr} (N:NetR K H k m rows ks ds kps) (hd:ds[s]? = some d) (g:Grow [d] H H') (L:LvAt K H' k m rows ks s d):NetR K H' k m rows ks ds kps:=by
 have nd:=List.nodup_append.mp N.nd
 refine ⟨fun s' d' h=>?_,fun s' d' h=>?_,N.nd⟩
 ·by_cases c:d' = d
  ·subst c
   have e:s' = s:=by
    obtain ⟨h1,h2⟩:=List.getElem?_eq_some_iff.mp h
    obtain ⟨h3,h4⟩:=List.getElem?_eq_some_iff.mp hd
    exact (List.getElem_inj nd.1).mp (h2.trans h4.symm)
   rw [e]; exact L
  ·exact (N.lv s' d' h).grow g (by simpa using c)
 ·exact (N.kp s' d' h).grow g (by simpa using fun z=>nd.2.2 d (List.mem_of_getElem? hd) d' (List.mem_of_getElem? h) z.symm)
theorem NetR.ndk {K:FG7} {H:Hp} {k m:Nat} {rows:List (List Int)} {ks:List Ask} {ds kps:List Addr} {d e:Addr} (N:NetR K H k m rows ks ds kps) (h:d ∈ ds) (h':e ∈ kps):d ≠ e:=(List.nodup_append.mp N.nd).2.2 d h e h'
theorem Grow.tfresh {ms:List Addr} {H H1 H2:Hp} (g:Grow [] H H1) (g':Grow ms H1 H2) (h:∀ d ∈ ms,H d = none):Grow [] H H2:=(g.wk.trans g').less fun b hb=>.inr (h b hb)
theorem xo {α:Type} {xs:List α} {f:α -> V} {i:Int} {j:Nat} {x:α} (e:i = j) (h:xs[j]? = some x):atI (xs.map f) i = some (f x):=by
 subst e
 have hj:=(List.getElem?_eq_some_iff.mp h).1
 exact vP (xk (by omega) (by rw [List.length_map]; exact hj)) (by rw [List.getElem?_map,show ((j:Int).toNat) = j from rfl,h]; rfl)
theorem UZ {k m:Nat} {rows:List (List Int)} {ks:List Ask} {bd:Nat -> Int} {a:Ask} (R:RndOk k m ks) (ha:a ∈ ks):anF k rows ks bd 0 a.hand.toNat a.box.toNat = some (stvR k rows ks bd k a.hand.toNat a.box.toNat):=by
 have e:lvR k rows ks 0 a.hand.toNat a.box.toNat ≠ none:=by
  unfold lvR
  intro z
  have f:=uF R.nd ha
  simp only [Option.map_eq_none_iff] at z
  rw [List.find?_eq_none] at z
  exact z a ha (by simp [Int.toNat_of_nonneg (R.hand a ha).1,Int.toNat_of_nonneg (R.box a ha).1])
 unfold anF
 cases h:lvR k rows ks 0 a.hand.toNat a.box.toNat with
 | none=>exact absurd h e
 | some d=>rfl
theorem rW:typeLookup (.type "list") "keys" = pure none:=by rw [typeLookup_type,builtinLookup_eq_fast]; kernel_rfl
theorem wx:typeLookup (.type "list") "__getattr__" = pure none:=by rw [typeLookup_type,builtinLookup_eq_fast]; kernel_rfl
section
variable {prog:Program} {w:World} {A:Around} {E:VS7}
theorem ZB (a:Addr) (u:Tok):MeetsIn prog w (Builtin.«object.__getattribute__» ⟨[.ref a,.str "keys" u],[]⟩)
  (fun A R s=>A.handled = none /\ (∃ its n,s.heap.get? a = some { cls:=.type "list",data:=.seq its n }) /\ ∀ h' tk e,Heap.NewAttrErr s.heap h' e (.ref a) "keys" -> R (.error (.ref e)) { s with heap:=h',toks:=tk }) :=
 .of_wp fun A R s ⟨hh,⟨its,n,hx⟩,hR⟩=>by
  obtain ⟨h,g,d,t,os⟩:=s
  have hT:(⟨h,g,d,t,os⟩:Shared).TypeIs (.ref a) "list":=⟨_,hx,rfl⟩
  have f4:=rW
  unfold Builtin.«object.__getattribute__»
  repeat (any_goals (first | assumption | wp_step))
  exact wpAny_raiseAttrError hh hR (attrMsg_fits (by decide +kernel) (by size_fits))
theorem uO {s:Shared} {a:Addr} {its:Array Value} {n:Nat} {Q:Option Value -> Shared -> Prop} (hx:s.heap.get? a = some { cls:=.type "list",data:=.seq its n }) (hA:A.handled = none)
  (hq:∀ h' tk,(∀ b o,s.heap.get? b = some o -> h'.get? b = some o) -> Q none { s with heap:=h',toks:=tk }) :
  wpAny (model prog w) A (getAttr? (.ref a) "keys") Q E s:=by
 obtain ⟨h,g,d,t,os⟩:=s
 have hT:∀ t',(⟨h,g,d,t',os⟩:Shared).TypeIs (.ref a) "list":=fun _=>⟨_,hx,rfl⟩
 have f1:=sub_AttributeError
 have f3:=F.slot_list_getattribute.lookup
 have f4:=F.slot_list_getattribute.bind (.ref a)
 have f5:=wx
 unfold getAttr? getAttrBy? getAttrBy
 repeat (any_goals (first | assumption | exact hT _ | ((with_reducible show wpAny _ _ (call (Value.builtin "list.__getattribute__") _ _) _ _ _); refine call_meetsIn F.slot_list_getattribute (hT _) F.entry_list_ga (F.args_list_getattribute_2 _ _) (ZB a _) ⟨hA,⟨_,_,hx⟩,fun h' tk' e hxx=>?_⟩) | wp_step))
 obtain ⟨t',u',he⟩:=hxx.there
 show wpAny _ _ (getattributeRaised _ _ _ _ _ _ _) _ _ _
 unfold getattributeRaised
 have hE:∀ t2,(⟨h',g,d,t2,os⟩:Shared).TypeIs (.ref e) "AttributeError":=fun _=>⟨_,he,rfl⟩
 repeat (any_goals (first | assumption | exact hE _ | wp_step))
 exact hq _ _ hxx.keeps
end
def su (ps:List (Key × V)):List (Key × V):=ps.foldl (fun d p=>putK d p.1 p.2) []
theorem rX (ps:List (Key × V)):(su ps).length <= ps.length:=by
 have go:∀ (ps d:List (Key × V)),(ps.foldl (fun d p=>putK d p.1 p.2) d).length <= d.length + ps.length:=by
  intro ps
  induction ps with
  | nil=>intro d; exact Nat.le_refl _
  | cons p ps ih =>
   intro d
   have h1:=ih (putK d p.1 p.2)
   have h2:=yk d p.1 p.2
   rw [List.foldl_cons,List.length_cons]
   omega
 have:=go ps []
 rw [List.length_nil,Nat.zero_add] at this
 exact this
theorem ZC {ps:List (Key × V)} {i:Nat} {p:Key × V} (h:ps[i]? = some p):su (ps.take (i + 1)) = putK (su (ps.take i)) p.1 p.2:=by
 unfold su
 rw [List.take_succ,h,Option.toList_some,List.foldl_append]
 rfl
theorem tN:entryFor table "dict.update.loop" = some Builtin.«dict.update.loop»:=entryFor_of_tree (by kernel_rfl)
theorem wu:plainId "dict.update.loop" = true:=by decide +kernel
theorem rY:∀ {zs:List V} {us:List Value} {i:Nat} {u:Value},Vals zs us -> us[i]? = some u -> ∃ z,zs[i]? = some z /\ RelV z u
 | _,_,_,_,.nil,h=>by cases h
 | _,_,0,_,.cons r _,h=>by cases h; exact ⟨_,rfl,r⟩
 | _,_,i + 1,_,.cons _ t,h=>rY (i:=i) t h
def jd (H:Hp) (ys:List V) (ps:List (Key × V)):Prop:=ys.length = ps.length /\ ∀ (i:Nat) (p:Key × V),ps[i]? = some p -> ∃ t,ys[i]? = some (V.ref t) /\ H t = some (.tup [kV p.1,p.2])
section
variable {prog:Program} {w:World} {A:Around} {E:VS7} {R:Result -> Shared -> Prop} {I D:Addr} {fp wr:List Addr} {n:Nat} {P:Nat -> Value -> Prop} {St:Nat -> Heap -> Prop} {H:Hp} {s₀:Shared}
theorem ZD {zs:List V} {ps:List (Key × V)} (ok:HOk prog w H s₀.heap) (W:Walks prog w A.in1 I fp wr n P St) (hDf:D ∉ fp) (hD:s₀.heap.objs.size <= D) (hwr:∀ b ∈ wr,s₀.heap.objs.size <= b)
  (hn:n <= sizeLine) (hpl:ps.length = n) (ha:jd H zs ps) (hP:∀ i v,P i v -> ∃ z,zs[i]? = some z /\ RelV z v) :
  ∀ (k i:Nat) (s:Shared),n - i = k -> i <= n -> St i s.heap -> (∀ b o,b ≠ D -> b ∉ wr -> s₀.heap.get? b = some o -> s.heap.get? b = some o) -> (∃ us,KV (su (ps.take i)) us /\ s.heap.DictOf (zM prog w) D us) →
   (∀ h' tk,(∀ b o,b ≠ D -> b ∉ wr -> s₀.heap.get? b = some o -> h'.get? b = some o) -> (∃ us,KV (su ps) us /\ h'.DictOf (zM prog w) D us) -> R (.ok (.ret .none)) { s with heap:=h',toks:=tk }) →
   codeAny (model prog w) A (.builtin "dict.update.loop" ⟨[.ref D,.ref I,rawInt i,.none],[]⟩) R s:=by
 have hDw:D ∉ wr:=fun h=>hDf (W.sub _ h)
 have old:∀ b o,s₀.heap.get? b = some o -> b ≠ D /\ b ∉ wr:=fun b o e=>⟨Nat.ne_of_lt (Nat.lt_of_lt_of_le (Heap.lt_size e) hD),fun z=>absurd (Heap.lt_size e) (Nat.not_lt.mpr (hwr b z))⟩
 intro k
 induction k with
 | zero =>
  intro i s hk hi hst kp hS hR
  have hin:i = n:=by omega
  subst hin
  refine codeAny_builtin tN ?_
  rw [Around.under_plainId wu _]
  show wpAny _ A.in1 (pyNext (.ref I) >>= _) _ _ s
  refine wpAny_bind (W.done s _ _ hst fun h' tk hm=>?_)
  show wpAny _ A.in1 (Builtin.Dict.addKeywords D [] >>= fun _=>ret Value.none) _ _ _
  unfold Builtin.Dict.addKeywords
  refine wpAny_bind (wpAny_pure (wpAny_pure (hR h' tk (fun b o h1 h2 e=>hm b o h2 (kp b o h1 h2 e)) ?_)))
  obtain ⟨us,v1,o,es,ep,ho,r⟩:=hS
  rw [← hpl,List.take_length] at v1
  exact ⟨us,v1,o,es,ep,hm D o hDw ho,r⟩
 | succ k ih =>
  intro i s hk hi hst kp hS hR
  have hlt:i < n:=by omega
  refine codeAny_builtin tN ?_
  rw [Around.under_plainId wu _]
  show wpAny _ A.in1 (pyNext (.ref I) >>= _) _ _ s
  refine wpAny_bind (W.item i s _ _ hlt hst fun v h1 tk1 hPv hst1 hk1=>?_)
  obtain ⟨z,hz,rz⟩:=hP i v hPv
  obtain ⟨x,hx⟩:∃ x,ps[i]? = some x:=⟨_,List.getElem?_eq_getElem (by omega)⟩
  obtain ⟨t,hzt,ht⟩:=ha.2 i x hx
  rw [hz] at hzt
  obtain rfl:=Option.some.inj hzt
  cases (show v = Value.ref t from rz)
  have kp1:∀ b o,b ≠ D -> b ∉ wr -> s₀.heap.get? b = some o -> h1.get? b = some o:=fun b o h1 h2 e=>hk1 b o h2 (kp b o h1 h2 e)
  have kps:∀ b o,s₀.heap.get? b = some o -> h1.get? b = some o:=fun b o e=>kp1 b o (old b o e).1 (old b o e).2 e
  obtain ⟨_,its,rits,hit⟩:=(show z6 prog w H s₀.heap t (.tup [kV x.1,x.2]) from ok t _ ht)
  obtain ⟨u1,uv,rfl,r1,rv⟩:∃ u1 uv,its = [u1,uv] /\ RelV (kV x.1) u1 /\ RelV x.2 uv:=by
   cases rits with
   | cons a c=>cases c with | cons b d=>cases d; exact ⟨_,_,rfl,a,b⟩
  obtain ⟨ot,hot,hct,m,hdt⟩:=hit
  have hot1:=kps t ot hot
  obtain ⟨us,v1,o,es,ep,ho,r⟩:=hS
  have ul:us.length <= i:=by have:=v1.length; have h2:=rX (ps.take i); rw [List.length_take] at h2; omega
  have dd:h1.DictOf (zM prog w) D us:=⟨o,es,ep,hk1 D o hDw ho,r⟩
  refine wpAny_bind (wpAny_holding ?_)
  show wpAny _ A.in1 ((Builtin.Dict.pairItems (.ref t)).tryCatch _ >>= _) _ _ _
  refine wpAny_bind (wpAny_tryCatch ?_)
  unfold Builtin.Dict.pairItems
  refine wpAny_bind (wpAny_typeOf (T:="tuple") ⟨ot,hot1,hct⟩ ?_)
  show wpAny _ _ (if (Value.type "tuple" == Value.type "list" || Value.type "tuple" == Value.type "tuple") = true then _ else _) _ _ _
  rw [if_pos (by decide)]
  refine wpAny_bind (wpAny_seqItems hot1 hdt (wpAny_pure ?_))
  show wpAny _ _ (holding [u1,uv] (dictSet D u1 uv)) _ _ _
  refine wpAny_holding ?_
  refine wpAny_dictSet_pairs (knd:=zM prog w) (k:=x.1) (hsz:=by omega) (YX r1) dd fun h2 dd2 sb=>?_
  refine wpAny_pure ⟨plainId_quiet wu _,?_⟩
  have e1:((i:Int) + 1) = ((i + 1:Nat):Int):=by omega
  have kp2:∀ b o,b ≠ D -> b ∉ wr -> s₀.heap.get? b = some o -> h2.get? b = some o:=fun b o hb hw e=>sb.extBut b o hb (kp1 b o hb hw e)
  show codeAny (model prog w) A (.builtin "dict.update.loop" ⟨[.ref D,.ref I,rawInt ((i:Int) + 1),.none],[]⟩) R _
  rw [e1]
  refine ih (i + 1) _ (by omega) hlt (W.frame _ _ _ hst1 fun b hb o e=>sb.extBut b o (fun h=>hDf (h ▸ hb)) e) kp2 ⟨_,?_,dd2⟩ fun h' tk k' d'=>hR h' tk k' d'
  rw [ZC hx]
  exact v1.put _ rv
end
section
variable {X:Cx}
theorem ZE {k:Nat} (hr:Room k X.A):wI X (.type "dict") (fun xs H Q=>∃ a zs ps,xs = [V.ref a] /\ H a = some (.lst zs) /\ jd H zs ps /\ ∀ l,H l = none -> Q (.ref l) (upd H l (.dK (su ps)))):=by
 intro pins s σ H xs us Q I r h
 obtain ⟨a,zs,ps,rfl,ha,hall,q⟩:=h
 obtain ⟨u,rfl,ru⟩:=tW r
 cases ru
 obtain ⟨z,its,m,rits,ea⟩:=(show z6 X.prog X.w H s.heap a (.lst zs) from I.hok a _ ha)
 have zl:=hall.1
 have il:=rits.length
 refine callType_codes (Q₁:=fun obj s₁=>obj = .ref s.heap.objs.size /\ s₁ = { s with heap:=s.heap.push { cls:=.type "dict",data:=.dict #[] } }) F.kt_called_dict (F.kt_typeCall_dict_1 _) F.entry_dict_init (kt_code_dict_new _ ⟨rfl,rfl⟩) ?_
 rintro obj s₁ ⟨rfl,rfl⟩
 have hT:(s.heap.push { cls:=.type "dict",data:=.dict #[] }).get? s.heap.objs.size = some { cls:=.type "dict",data:=.dict #[] }:=Heap.get?_push_size _ rfl
 refine ⟨⟨_,hT,rfl⟩,F.args_dict_init_2 _ _,?_⟩
 unfold Builtin.«dict.__init__»
 refine wpAny_bind ?_
 unfold Builtin.Dict.selfAndRest
 refine wpAny_bind (wpAny_notOrdered_dict ⟨_,hT,rfl⟩ (show wpAny _ _ (pure (s.heap.objs.size,[Value.ref a])) _ _ _ from wpAny_pure ?_))
 show wpAny _ _ (Builtin.Dict.updateFrom "dict.__init__" s.heap.objs.size (.ref a) [] .none) _ _ _
 unfold Builtin.Dict.updateFrom
 have ea1:(s.heap.push { cls:=.type "dict",data:=.dict #[] }).get? a = some { cls:=.type "list",data:=.seq its.toArray m }:=Heap.get?_push_of_some _ ea
 refine wpAny_bind (wpAny_typeOf (T:="list") ⟨_,ea1,rfl⟩ ?_)
 rw [if_pos (by decide)]
 refine wpAny_bind (uO ea1 hr.hd fun h1 tk1 k1=>?_)
 rw [if_pos (by rfl)]
 refine wpAny_bind (wpAny_rule ?_)
 have eah:h1.get? a = some { cls:=.type "list",data:=.seq its.toArray m }:=k1 _ _ ea1
 have hla:h1.IsList a its.toArray:=⟨_,eah,rfl,_,rfl⟩
 have hsz:s.heap.objs.size < h1.objs.size:=Heap.lt_size (k1 _ _ hT)
 have ks:∀ b o,s.heap.get? b = some o -> h1.get? b = some o:=fun b o e=>k1 b o (Heap.get?_push_of_some _ e)
 have alt:a < h1.objs.size:=Heap.lt_size eah
 refine wpAny_bind (wpAny_pyIter_list (l:=a) (items:=its.toArray) hla ?_)
 refine wpAny_pure ⟨plainId_quiet wu _,?_⟩
 refine ZD (A:=X.A.in1) (H:=H) (s₀:=s) (D:=s.heap.objs.size) (I:=h1.objs.size) I.hok (Walks.list (A:=X.A.in1.in1) hr.hd h1.objs.size a (Nat.ne_of_lt alt) its.toArray) ?_ (Nat.le_refl _) ?_ (by rw [List.size_toArray,← il]; exact z) (by rw [List.size_toArray,← il,zl]) hall ?_ _ 0 _ rfl (Nat.zero_le _) ⟨⟨_,Heap.get?_push_size _ rfl,rfl,rfl⟩,hla.push _⟩ (fun b o _ _ e=>Heap.get?_push_of_some _ (ks b o e)) ⟨[],.nil,_,#[],0,Heap.get?_push_of_some _ (k1 _ _ hT),⟨rfl,rfl,rfl⟩,rfl,fun e he=>by simp at he,.nil,List.nodup_nil⟩ ?_
 ·intro hm
  simp only [List.mem_cons,List.mem_nil_iff,or_false] at hm
  rcases hm with e | e
  ·exact absurd e (Nat.ne_of_lt hsz)
  ·rw [← e] at ea; exact absurd (Heap.lt_size ea) (Nat.lt_irrefl _)
 ·intro b hb
  rw [List.mem_singleton.mp hb]; exact Nat.le_of_lt hsz
 ·intro i v hv
  exact rY rits (show its[i]? = some v by simpa using hv)
 ·rintro h' tk kp' ⟨us,rel,dd⟩
  have hf:H s.heap.objs.size = none:=I.hok.fresh (Nat.le_refl _)
  have hsM:(s.heap.objs.size == sysModules) = false:=beq_false_of_ne (Nat.ne_of_gt I.big)
  have hzz:(su ps).length <= sizeLine:=Nat.le_trans (rX ps) (by rw [← zl]; exact z)
  refine ⟨rfl,.ref s.heap.objs.size,_,I.laid (t':=tk) (o:=.dK (su ps)) (fun b ob e=>kp' b ob (Nat.ne_of_lt (Heap.lt_size e)) (fun w=>?_) e) (Nat.le_refl _) ⟨hzz,hsM,us,rel,dd⟩,rfl,q _ hf⟩
  have:=Heap.lt_size e
  rw [List.mem_singleton.mp w] at this; exact absurd hsz (Nat.not_lt.mpr (Nat.le_of_lt this))
end
def atB (j:Nat) (as:List Ask):List Ask:=as.filter fun a=>decide (a.box = (j:Int))
def hndE (k:Nat) (ks:List Ask) (e h:Nat):List Ask:=ks.filter fun a=>decide (a.hand = (h:Int) /\ a.box % ((2 ^ k:Nat):Int) = (e:Int))
def dueE (k:Nat) (rows:List (List Int)) (ks:List Ask) (e:Nat):List Ask:=(ordL k rows e k).flatMap (hndE k ks e)
def dueN (k:Nat) (rows:List (List Int)) (ks:List Ask) (n:Nat):List Ask:=(List.range n).flatMap (dueE k rows ks)
def valD (b:List Int) (as:List Ask):List Int:=(List.range b.length).map fun j=>runR (bdF b j) (atB j as)
def AnsD (b:List Int) (as:List Ask) (tk:List (Key × V)):Prop:=tk.length <= as.length /\ ∀ a ∈ as,∃ a' pre post,a' ∈ as /\ a'.hand = a.hand /\ as = pre ++ [a'] ++ post /\ valV tk (.inl a.hand) = some (.int (runR (bdF b a'.box.toNat) (atB a'.box.toNat pre)))
theorem Wv {b:List Int}:valD b [] = b:=by
 unfold valD
 refine List.ext_getElem? fun j=>?_
 by_cases c:j < b.length
 ·rw [List.getElem?_map,List.getElem?_range c,wO c]; rfl
 ·rw [List.getElem?_eq_none (by rw [List.length_map,List.length_range]; omega),List.getElem?_eq_none (by omega)]
theorem sx {b:List Int} {as:List Ask}:(valD b as).length = b.length:=by unfold valD; rw [List.length_map,List.length_range]
theorem sy {b:List Int} {as:List Ask} {j:Nat} (h:j < b.length):(valD b as)[j]? = some (runR (bdF b j) (atB j as)):=by
 unfold valD; rw [List.getElem?_map,List.getElem?_range h]; rfl
theorem Xc {b:List Int} {as:List Ask} {a:Ask} {c:Nat} (hc:c < b.length) (e:a.box = (c:Int)):(valD b as).set c (a.deed.mk' (runR (bdF b c) (atB c as))) = valD b (as ++ [a]):=by
 refine List.ext_getElem? fun j=>?_
 by_cases hj:j < b.length
 ·rw [sy hj]
  by_cases z:c = j
  ·subst z
   rw [List.getElem?_set_self (by rw [sx]; exact hj)]
   unfold atB
   rw [List.filter_append,List.filter_cons,if_pos (by simp [e]),List.filter_nil,xM]
   rfl
  ·rw [List.getElem?_set_ne z,sy hj]
   unfold atB
   rw [List.filter_append,List.filter_cons,if_neg (by simp [e]; omega),List.filter_nil,List.append_nil]
 ·rw [List.getElem?_eq_none (by rw [List.length_set,sx]; omega),List.getElem?_eq_none (by rw [sx]; omega)]
theorem AnsD.nil {b:List Int}:AnsD b [] []:=⟨Nat.le_refl _,fun _ h=>nomatch h⟩
section
variable {k m:Nat} {rows:List (List Int)} {ks:List Ask} {b:List Int}
theorem sB {j e:Nat}:((j:Int) % ((2 ^ k:Nat):Int) = (e:Int)) ↔ j % 2 ^ k = e:=by
 rw [← Int.natCast_emod]; exact Int.ofNat_inj
theorem Xd (k4:k <= 4) (hs:zQ k rows) {j:Nat}:atB j (dueN k rows ks (2 ^ k)) = arrR k rows ks k (j % 2 ^ k) j:=by
 rw [uA k4 hs k (Nat.le_refl k),Nat.sub_self]
 have e1:∀ e,atB j (dueE k rows ks e) = if e = j % 2 ^ k then (ordL k rows (j % 2 ^ k) k).flatMap fun l=>arrR k rows ks 0 l j else []:=fun e=>by
  unfold atB dueE
  rw [List.filter_flatMap]
  by_cases c:e = j % 2 ^ k
  ·rw [if_pos c,← c]
   refine xz fun h _=>?_
   unfold hndE
   rw [List.filter_filter]
   show _ = ks.filter fun a=>decide (a.hand = (h:Int) /\ a.box = (j:Int))
   congr 1
   funext a
   rw [← Bool.decide_and]
   refine decide_eq_decide.mpr ⟨fun z=>⟨z.2.1,z.1⟩,fun z=>⟨z.2,z.1,by rw [z.2]; exact sB.mpr c.symm⟩⟩
  ·rw [if_neg c]
   refine List.flatMap_eq_nil_iff.mpr fun h _=>List.filter_eq_nil_iff.mpr fun a ha z=>?_
   have z1:=of_decide_eq_true z
   have z2:=of_decide_eq_true (List.mem_filter.mp ha).2
   exact c (sB.mp (by rw [← z1]; exact z2.2)).symm
 unfold dueN
 have e2:atB j ((List.range (2 ^ k)).flatMap (dueE k rows ks)) = (List.range (2 ^ k)).flatMap fun e=>atB j (dueE k rows ks e):=by unfold atB; rw [List.filter_flatMap]
 rw [e2]
 have e3:(List.range (2 ^ k)).flatMap (fun e=>atB j (dueE k rows ks e)) = (List.range (2 ^ k)).flatMap fun e=>if e = j % 2 ^ k then (ordL k rows (j % 2 ^ k) k).flatMap fun l=>arrR k rows ks 0 l j else []:=xz fun e _=>e1 e
 rw [e3]
 have one:∀ (L:List Ask) (n x:Nat),(List.range n).flatMap (fun e=>if e = x then L else []) = if x < n then L else []:=by
  intro L n x
  induction n with
  | zero=>rfl
  | succ n ih =>
   rw [List.range_succ,List.flatMap_append,ih,List.flatMap_cons,List.flatMap_nil,List.append_nil]
   by_cases c:x < n
   ·rw [if_pos c,if_neg (by omega),if_pos (by omega),List.append_nil]
   ·rw [if_neg c]
    by_cases c2:n = x
    ·rw [if_pos c2,if_pos (by omega),List.nil_append]
    ·rw [if_neg c2,if_neg (by omega),List.nil_append]
 rw [one,if_pos (yS (k:=k) (b:=j))]
theorem VG (k4:k <= 4) (hs:zQ k rows) (R:RndOk k m ks):valD b (dueN k rows ks (2 ^ k)) = finL k rows ks b:=by
 unfold valD finL
 refine List.map_congr_left fun j _=>?_
 rw [Xd k4 hs]
 have F:=lvF (rows:=rows) R k (j % 2 ^ k) j
 unfold finR
 cases h:lvR k rows ks k (j % 2 ^ k) j with
 | none=>rw [F.non.mp h]; rfl
 | some d=>exact ((F.run d h).2 _).symm
theorem rZ (k4:k <= 4) (hs:zQ k rows) (R:RndOk k m ks) {j:Nat}:(arrR k rows ks k (j % 2 ^ k) j).Nodup:=by
 rw [uA k4 hs k (Nat.le_refl k),Nat.sub_self]
 have ndk:ks.Nodup:=List.Pairwise.of_map (f:=(·.hand)) (S:=(· ≠ ·)) (fun a b h z=>h (by rw [z])) R.nd
 have ndo:(ordL k rows (j % 2 ^ k) k).Nodup:=(We k4 hs (yS (k:=k) (b:=j))).nodup_iff.mpr List.nodup_range
 unfold List.Nodup
 rw [List.pairwise_flatMap]
 refine ⟨fun l _=>ndk.filter _,ndo.imp fun {x y} hxy a ha c hc z=>?_⟩
 have h1:=of_decide_eq_true (List.mem_filter.mp ha).2
 have h2:=of_decide_eq_true (List.mem_filter.mp hc).2
 rw [z] at h1
 have:=h1.1.symm.trans h2.1
 exact hxy (by omega)
theorem r6 {α:Type} {a:α}:∀ {p1 p2 q1 q2:List α},(p1 ++ a :: q1).Nodup -> p1 ++ a :: q1 = p2 ++ a :: q2 -> p1 = p2
 | [],[],_,_,_,_=>rfl
 | [],x :: p2,q1,q2,nd,h=>by
  rw [List.nil_append,List.cons_append] at h
  obtain ⟨rfl,h2⟩:=List.cons.inj h
  rw [List.nil_append,List.nodup_cons,h2] at nd
  exact absurd (by simp) nd.1
 | x :: p1,[],q1,q2,nd,h=>by
  rw [List.nil_append,List.cons_append] at h
  obtain ⟨rfl,h2⟩:=List.cons.inj h
  rw [List.cons_append,List.nodup_cons] at nd
  exact absurd (by simp) nd.1
 | x :: p1,y :: p2,q1,q2,nd,h=>by
  rw [List.cons_append,List.cons_append] at h
  obtain ⟨rfl,h2⟩:=List.cons.inj h
  rw [List.cons_append,List.nodup_cons] at nd
  rw [r6 nd.2 h2]
theorem VH (k4:k <= 4) (hs:zQ k rows) (R:RndOk k m ks) {a:Ask} (ha:a ∈ ks):a ∈ dueN k rows ks (2 ^ k):=by
 have hh:=R.hand a ha
 have hb:=R.box a ha
 have he:a.box.toNat % 2 ^ k < 2 ^ k:=yS (k:=k) (b:=a.box.toNat)
 have hl:a.hand.toNat < 2 ^ k:=yX hh.1 hh.2
 refine List.mem_flatMap.mpr ⟨a.box.toNat % 2 ^ k,List.mem_range.mpr he,List.mem_flatMap.mpr ⟨a.hand.toNat,?_,?_⟩⟩
 ·exact (ordF k4 hs he k (Nat.le_refl k)).all _ hl fun t t1 t2=>by omega
 ·refine List.mem_filter.mpr ⟨ha,decide_eq_true ⟨(Int.toNat_of_nonneg hh.1).symm,?_⟩⟩
  have:=(sB (k:=k) (j:=a.box.toNat) (e:=a.box.toNat % 2 ^ k)).mpr rfl
  rw [Int.toNat_of_nonneg hb.1] at this; exact this
theorem U0 {n:Nat} {a:Ask} (h:a ∈ dueN k rows ks n):a ∈ ks:=by
 obtain ⟨e,_,h⟩:=List.mem_flatMap.mp h
 obtain ⟨l,_,h⟩:=List.mem_flatMap.mp h
 exact (List.mem_filter.mp h).1
end
theorem len1 {α β:Type} {f:α -> List β}:∀ {xs:List α},(∀ x ∈ xs,(f x).length <= 1) -> (xs.flatMap f).length <= xs.length
 | [],_=>Nat.le_refl _
 | x :: xs,h=>by
  rw [List.flatMap_cons,List.length_append,List.length_cons]
  have h1:=h x (by simp)
  have h2:=len1 (f:=f) (xs:=xs) fun y hy=>h y (by simp [hy])
  omega
section
variable {k m:Nat} {rows:List (List Int)} {ks:List Ask} {b:List Int}
theorem VJ (k4:k <= 4) (hs:zQ k rows) (R:RndOk k m ks) {j:Nat}:(arrR k rows ks k (j % 2 ^ k) j).length <= 16:=by
 rw [uA k4 hs k (Nat.le_refl k),Nat.sub_self]
 refine Nat.le_trans (len1 fun l _=>?_) (by rw [(ordF k4 hs (yS (k:=k) (b:=j)) k (Nat.le_refl k)).len]; exact xm k4)
 show (ks.filter fun a=>decide (a.hand = (l:Int) /\ a.box = (j:Int))).length <= 1
 rw [rS R.nd]
 cases ks.find? fun a=>decide (a.hand = (l:Int) /\ a.box = (j:Int)) <;> simp
theorem tP {K:FG7} {H:Hp} {x:V} {rows:List (List Int)} (h:xy K H x rows):Dat K H x (.tuple (rows.map wU)):=by
 obtain ⟨r,xs,rfl,hs,ha⟩:=h
 exact .tup hs (datR (fun _ _ z=>z.dat) ha)
theorem Xe (k4:k <= 4) (hs:zQ k rows):Sh (.tuple (rows.map wU)) 100000 3:=by
 have p:2 ^ (k - 1) <= 8:=by
  have:k = 0 \/ k = 1 \/ k = 2 \/ k = 3 \/ k = 4:=by omega
  rcases this with rfl | rfl | rfl | rfl | rfl <;> decide
 have h:∀ r ∈ rows,Sh (wU r) 15387 1:=fun r hr=>by
  obtain ⟨h1,h2⟩:=hs.2 r hr
  refine (Ys (n:=0) fun v hv=>?_).mono (by have h8:r.length <= 8:=(by rw [h1]; exact p); have:=Nat.mul_le_mul_right 1923 h8; omega) (Nat.le_refl 1)
  rcases h2 v hv with rfl | rfl <;> decide
 refine (rD (t9 h)).mono ?_ (by decide)
 have:=Nat.mul_le_mul_right (15387 + 2) (show rows.length <= 4 by rw [hs.1]; exact k4)
 omega
theorem Xf (k4:k <= 4) (hs:zQ k rows) (R:RndOk k b.length ks) (sm:∀ a ∈ ks,a.deed.Sm) (hb:InB (10 ^ 30) b) (k16:ks.length <= 16) (b16:b.length <= 16):Sh (.list [wU b,Zq ks,.tuple (rows.map wU)]) 600000 4:=by
 have z1:Sh (wU b) 30771 3:=(Ys (n:=0) (hb.mono (by decide))).mono (by have:=Nat.mul_le_mul_right 1923 b16; omega) (by decide)
 have z2:Sh (Zq ks) 385003 3:=(Vj (n:=0) fun a ha=>⟨sm a ha,X5 (R.ask k4 a ha) b16⟩).mono (by have:=Nat.mul_le_mul_right 9625 k16; omega) (by decide)
 exact (Uw (yL z1 (yL z2 (yL (Xe k4 hs) t8)))).mono (by decide) (Nat.le_refl 4)
end
theorem Xg {xs:List V} {j:Nat} {v:V} (h:xs[j]? = some v):atI xs (j:Int) = some v:=vP (xk (by omega) (List.getElem?_eq_some_iff.mp h).1) h
theorem uG {key:Key}:∀ {ps d:List (Key × V)},(∀ p ∈ ps,p.1 ≠ key) -> valV (ps.foldl (fun d p=>putK d p.1 p.2) d) key = valV d key
 | [],d,_=>rfl
 | p :: ps,d,h=>by
  rw [List.foldl_cons,uG fun q hq=>h q (by simp [hq]),v4,if_neg (fun z=>h p (by simp) z.symm)]
theorem uH {p:Key × V}:∀ {ps d:List (Key × V)},(ps.map (·.1)).Nodup -> p ∈ ps -> valV (ps.foldl (fun d p=>putK d p.1 p.2) d) p.1 = some p.2
 | q :: ps,d,nd,h=>by
  rw [List.map_cons,List.nodup_cons] at nd
  rw [List.foldl_cons]
  rcases List.mem_cons.mp h with rfl | h
  ·rw [uG fun x hx z=>nd.1 (List.mem_map.mpr ⟨x,hx,z⟩),v4,if_pos rfl]
  ·exact uH nd.2 h
theorem AllA.ins {K:FG7} {H:Hp} {y:V} {a:Ask} (ha:uN K H y a):∀ {xs:List V} {ks:List Ask} {i:Nat},AllA K H xs ks -> AllA K H (xs.take i ++ [y] ++ xs.drop i) (ks.take i ++ [a] ++ ks.drop i)
 | xs,ks,0,h=>⟨ha,h⟩
 | [],[],i + 1,h=>⟨ha,trivial⟩
 | x :: xs,k :: ks,i + 1,h=>⟨h.1,AllA.ins ha (i:=i) h.2⟩
structure RndS (j m:Nat) (ks:List Ask):Prop where
 nd:(ks.map (·.hand)).Nodup
 hand:∀ a ∈ ks,0 <= a.hand /\ a.hand < (j:Int)
 box:∀ a ∈ ks,0 <= a.box /\ a.box < (m:Int)
 ok:∀ a ∈ ks,a.deed.Ok
 sm:∀ a ∈ ks,a.deed.Sm
theorem RndS.nil {j m:Nat}:RndS j m []:=⟨List.nodup_nil,(fun _ h=>nomatch h),(fun _ h=>nomatch h),(fun _ h=>nomatch h),(fun _ h=>nomatch h)⟩
theorem RndS.next {j m:Nat} {ks:List Ask} (h:RndS j m ks):RndS (j + 1) m ks:=⟨h.nd,fun a ha=>by have:=h.hand a ha; omega,h.box,h.ok,h.sm⟩
theorem RndS.ins {j m i:Nat} {ks:List Ask} {a:Ask} (h:RndS j m ks) (h1:a.hand = (j:Int)) (h2:0 <= a.box /\ a.box < (m:Int)) (h3:a.deed.Ok) (h4:a.deed.Sm):RndS (j + 1) m (ks.take i ++ [a] ++ ks.drop i):=by
 have mem:∀ c ∈ ks.take i ++ [a] ++ ks.drop i,c = a \/ c ∈ ks:=fun c hc=>by
  rcases List.mem_append.mp hc with hc | hc
  ·rcases List.mem_append.mp hc with hc | hc
   ·exact .inr (List.mem_of_mem_take hc)
   ·exact .inl (List.mem_singleton.mp hc)
  ·exact .inr (List.mem_of_mem_drop hc)
 have pm:(ks.take i ++ [a] ++ ks.drop i).Perm (a :: ks):=by
  have p1:(ks.take i ++ [a]).Perm (a :: ks.take i):=List.perm_append_singleton a (ks.take i)
  have p2:=p1.append_right (ks.drop i)
  rw [List.cons_append,List.take_append_drop] at p2
  exact p2
 refine ⟨?_,fun c hc=>?_,fun c hc=>?_,fun c hc=>?_,fun c hc=>?_⟩
 ·refine ((pm.map (·.hand)).nodup_iff).mpr ?_
  rw [List.map_cons,List.nodup_cons]
  refine ⟨fun z=>?_,h.nd⟩
  obtain ⟨c,hc,e⟩:=List.mem_map.mp z
  have:=(h.hand c hc).2
  rw [e,h1] at this
  omega
 ·rcases mem c hc with rfl | hc
  ·rw [h1]; omega
  ·have:=h.hand c hc; omega
 ·rcases mem c hc with rfl | hc
  ·exact h2
  ·exact h.box c hc
 ·rcases mem c hc with rfl | hc
  ·exact h3
  ·exact h.ok c hc
 ·rcases mem c hc with rfl | hc
  ·exact h4
  ·exact h.sm c hc
theorem RndS.done {k m:Nat} {ks:List Ask} (h:RndS (2 ^ k) m ks):RndOk k m ks:=by
 have e:((2 ^ k:Nat):Int) = 2 ^ k:=by simp
 refine ⟨h.nd,fun a ha=>?_,h.box,h.ok⟩
 have:=h.hand a ha
 rw [e] at this
 exact this
theorem Xh {c:TT} {t u:TS} {D:Ends} {σ:L2.St} {H:Hp} (Good:Hp -> Prop) (hc:∀ K:Bool -> Hp -> Prop,(∀ b H',Good H' -> K b H') -> c σ H K) (ht:∀ H',Good H' -> t D σ H') (hu:∀ H',Good H' -> u D σ H'):tIfS c t u D σ H:=hc _ fun b H' g=>by
 cases b with
 | true=>exact iteT (ht H' g)
 | false=>exact iteF (hu H' g)
open PySem PySem.Spec PyProof.Rows L2 PySem.W
open PySem PySem.Spec PyProof.Rows L2 PySem.W
structure OrdB (n:Nat) (lt:Nat -> Nat -> Bool):Prop where
 tr:∀ {i j k:Nat},lt i j = true -> lt j k = true -> lt i k = true
 as:∀ {i j:Nat},lt i j = true -> lt j i = false
 to:∀ {i j:Nat},i < n -> j < n -> i ≠ j -> lt i j = false -> lt j i = true
structure PmA (n:Nat) (p:Array Nat):Prop where
 sz:p.size = n
 pm:p.toList.Perm (List.range n)
theorem PmA.lt {n:Nat} {p:Array Nat} (h:PmA n p) {i:Nat} (hi:i < n):p.getD i 0 < n:=by
 have hi':i < p.toList.length:=by rw [Array.length_toList,h.sz]; exact hi
 have e:p.getD i 0 = p.toList[i]:=by simp [Array.getD,h.sz,hi]
 rw [e]
 exact List.mem_range.mp (h.pm.mem_iff.mp (List.getElem_mem hi'))
theorem PmA.inj {n:Nat} {p:Array Nat} (h:PmA n p) {i j:Nat} (hi:i < n) (hj:j < n) (hne:i ≠ j):p.getD i 0 ≠ p.getD j 0:=by
 have hi':i < p.toList.length:=by rw [Array.length_toList,h.sz]; exact hi
 have hj':j < p.toList.length:=by rw [Array.length_toList,h.sz]; exact hj
 have e:p.getD i 0 = p.toList[i]:=by simp [Array.getD,h.sz,hi]
 have e':p.getD j 0 = p.toList[j]:=by simp [Array.getD,h.sz,hj]
 rw [e,e']
 intro z
 exact hne ((List.getElem_inj (h.pm.nodup_iff.mpr List.nodup_range)).mp z)
theorem PmA.of_perm {n:Nat} {p q:Array Nat} (h:PmA n p) (hq:q.Perm p):PmA n q :=
 ⟨hq.size_eq.trans h.sz,(Array.perm_iff_toList_perm.mp hq).trans h.pm⟩
def Ups (lt:Nat -> Nat -> Bool) (p:Array Nat) (k:Nat):Prop:=∀ i j,i < j -> j < k -> lt (p.getD i 0) (p.getD j 0) = true
def je (lt:Nat -> Nat -> Bool) (p:Array Nat) (k:Nat):Prop:=∀ i j,i < j -> j < k -> lt (p.getD j 0) (p.getD i 0) = true
theorem j7 {p q:Array Nat} {i j:Nat} (h:p[i]? = q[j]?):p.getD i 0 = q.getD j 0:=by
 rw [Array.getD_eq_getD_getElem?,Array.getD_eq_getD_getElem?,h]
section
variable {n:Nat} {lt:Nat -> Nat -> Bool} {cmp:Nat -> Nat -> (Bool -> Shared -> Prop) -> Shared -> Prop} {s:Shared}
def Says (n:Nat) (lt:Nat -> Nat -> Bool) (cmp:Nat -> Nat -> (Bool -> Shared -> Prop) -> Shared -> Prop) (s:Shared):Prop:=∀ i j (C:Bool -> Shared -> Prop),i < n -> j < n -> C (lt i j) s -> cmp i j C s
theorem Ups.snoc {p:Array Nat} {m:Nat} (o:OrdB n lt) (h1:1 <= m) (u:Ups lt p m) (e:lt (p.getD (m - 1) 0) (p.getD m 0) = true):Ups lt p (m + 1):=by
 intro i j hij hj
 by_cases hjm:j < m
 ·exact u i j hij hjm
 ·obtain rfl:j = m:=by omega
  by_cases hi:i = j - 1
  ·subst hi; exact e
  ·exact o.tr (u i (j - 1) (by omega) (by omega)) e
theorem sC (o:OrdB n lt) (hc:Says n lt cmp s) {p:Array Nat} (hp:PmA n p):∀ (f m:Nat) {Q:Nat -> Shared -> Prop},1 <= m -> m + f = n -> Ups lt p m →
  (∀ k,m <= k -> k <= n -> Ups lt p k -> (k = n \/ lt (p.getD k 0) (p.getD (k - 1) 0) = true) -> Q k s) -> (kas_asc p f m).kasWp cmp Q s
 | 0,m,Q,h1,e,u,q=>q m (Nat.le_refl _) (by omega) u (.inl (by omega))
 | f + 1,m,Q,h1,e,u,q=>by
  refine hc _ _ _ (hp.lt (by omega)) (hp.lt (by omega)) ?_
  cases c:lt (p.getD m 0) (p.getD (m - 1) 0) with
  | true =>
   dsimp only
   rw [if_pos rfl]
   exact q m (Nat.le_refl _) (by omega) u (.inr c)
  | false =>
   dsimp only
   rw [if_neg (by decide)]
   exact sC o hc hp f (m + 1) (by omega) (by omega) (u.snoc o h1 (o.to (hp.lt (by omega)) (hp.lt (by omega)) (hp.inj (by omega) (by omega) (by omega)) c)) fun k hk=>q k (by omega)
theorem je.snoc {p:Array Nat} {m:Nat} (o:OrdB n lt) (h1:1 <= m) (u:je lt p m) (e:lt (p.getD m 0) (p.getD (m - 1) 0) = true):je lt p (m + 1):=by
 intro i j hij hj
 by_cases hjm:j < m
 ·exact u i j hij hjm
 ·obtain rfl:j = m:=by omega
  by_cases hi:i = j - 1
  ·subst hi; exact e
  ·exact o.tr e (u i (j - 1) (by omega) (by omega))
theorem qa (o:OrdB n lt) (hc:Says n lt cmp s) {p:Array Nat} (hp:PmA n p):∀ (f m:Nat) {Q:Array Nat × Nat × Nat -> Shared -> Prop},1 <= m -> m + f = n -> je lt p m →
  (∀ k,m <= k -> k <= n -> je lt p k -> Q (p,k,0) s) -> (kas_desc f p m 0).kasWp cmp Q s
 | 0,m,Q,h1,e,u,q=>q m (Nat.le_refl _) (by omega) u
 | f + 1,m,Q,h1,e,u,q=>by
  refine hc _ _ _ (hp.lt (by omega)) (hp.lt (by omega)) ?_
  cases c:lt (p.getD m 0) (p.getD (m - 1) 0) with
  | true =>
   dsimp only
   rw [if_pos rfl,if_neg (by decide)]
   exact qa o hc hp f (m + 1) (by omega) (by omega) (u.snoc o h1 c) fun k hk=>q k (by omega)
  | false =>
   dsimp only
   rw [if_neg (by decide)]
   refine hc _ _ _ (hp.lt (by omega)) (hp.lt (by omega)) ?_
   rw [o.to (hp.lt (by omega)) (hp.lt (by omega)) (hp.inj (by omega) (by omega) (by omega)) c]
   dsimp only
   rw [if_pos rfl]
   exact q m (Nat.le_refl _) (by omega) u
theorem VL {p:Array Nat} {k:Nat} (hp:PmA n p) (hk:k <= n) (d:je lt p k):Ups lt (kas_rev p 0 k) k:=by
 intro i j hij hj
 have g:∀ x,x < k -> (kas_rev p 0 k).getD x 0 = p.getD (k - 1 - x) 0:=fun x hx=>by
  refine j7 ?_
  unfold kas_rev
  rw [getElem?_mirror_all (by rw [hp.sz]; exact hk),if_pos (by omega)]
  congr 1; omega
 rw [g i (by omega),g j hj]
 exact d _ _ (by omega) (by omega)
theorem Xi (o:OrdB n lt) (hc:Says n lt cmp s) {p:Array Nat} (hp:PmA n p) {k:Nat} (h1:1 <= k) (hk:k <= n) (d:je lt p k) {Q:Nat × Array Nat -> Shared -> Prop}
  (q:∀ m p',PmA n p' -> 1 <= m -> m <= n -> Ups lt p' m -> Q (m,p') s):(kas_tail3 k n p).kasWp cmp Q s:=by
 unfold kas_tail3
 rw [KasT.kasWp_bind]
 have hp':PmA n (kas_rev p 0 k):=hp.of_perm (mirror_perm _ _ _ _)
 exact sC o hc hp' (n - k) k h1 (by omega) (VL hp hk d) fun m hm hm' u _=>q m _ hp' (by omega) hm' u
theorem Xj (o:OrdB n lt) (hc:Says n lt cmp s) {p:Array Nat} (hp:PmA n p) (h2:2 <= n) (c:lt (p.getD 1 0) (p.getD 0 0) = true) {Q:Nat × Array Nat -> Shared -> Prop}
  (q:∀ m p',PmA n p' -> 1 <= m -> m <= n -> Ups lt p' m -> Q (m,p') s):(kas_descPart 1 n p).kasWp cmp Q s:=by
 unfold kas_descPart
 rw [KasT.kasWp_bind]
 refine qa o hc hp (n - 2) 2 (by decide) (by omega) (fun i j hij hj=>?_) fun k hk hk' d=>?_
 ·obtain rfl:i = 0:=by omega
  obtain rfl:j = 1:=by omega
  exact c
 ·dsimp only
  rw [if_neg (by omega)]
  exact Xi o hc hp (by omega) hk' d q
theorem ZF (o:OrdB n lt) (hc:Says n lt cmp s) {p:Array Nat} (hp:PmA n p) (h2:2 <= n) {Q:Nat × Array Nat -> Shared -> Prop}
  (q:∀ m p',PmA n p' -> 1 <= m -> m <= n -> Ups lt p' m -> Q (m,p') s):(kas_count n p).kasWp cmp Q s:=by
 unfold kas_count
 rw [KasT.kasWp_bind]
 refine sC o hc hp (n - 1) 1 (Nat.le_refl _) (by omega) (fun i j hij hj=>by omega) fun k h1 hk u e=>?_
 by_cases hkn:k = n
 ·rw [if_pos (by simpa using hkn)]
  exact q k p hp h1 hk u
 rw [if_neg (by simpa using hkn)]
 have e:=e.resolve_left hkn
 by_cases hg:k > 1
 ·rw [if_pos hg]
  refine hc _ _ _ (hp.lt (by omega)) (hp.lt (by omega)) ?_
  rw [u 0 (k - 1) (by omega) (by omega)]
  dsimp only
  rw [if_pos rfl]
  exact q k p hp h1 hk u
 ·rw [if_neg hg]
  obtain rfl:k = 1:=by omega
  exact Xj o hc hp h2 e q
theorem vB (o:OrdB n lt) (hc:Says n lt cmp s) {p:Array Nat} (hp:PmA n p) {k:Nat} (hk:k < n) (u:Ups lt p k):∀ (f l r:Nat) {Q:Nat -> Shared -> Prop},l <= r -> r <= k -> r - l <= f →
  (∀ i,i < l -> lt (p.getD i 0) (p.getD k 0) = true) -> (∀ i,r <= i -> i < k -> lt (p.getD k 0) (p.getD i 0) = true) →
  (∀ x,x <= k -> (∀ i,i < x -> lt (p.getD i 0) (p.getD k 0) = true) -> (∀ i,x <= i -> i < k -> lt (p.getD k 0) (p.getD i 0) = true) -> Q x s) -> (kas_place p k f l r).kasWp cmp Q s
 | 0,l,r,Q,h1,h2,h3,a,b,q=>q l (by omega) a fun i hi=>b i (by omega)
 | f + 1,l,r,Q,h1,h2,h3,a,b,q=>by
  unfold kas_place
  by_cases hlr:l >= r
  ·rw [if_pos hlr]
   exact q l (by omega) a fun i hi=>b i (by omega)
  rw [if_neg hlr]
  refine hc _ _ _ (hp.lt hk) (hp.lt (by omega)) ?_
  cases c:lt (p.getD k 0) (p.getD ((l + r) / 2) 0) with
  | true =>
   dsimp only
   rw [if_pos rfl]
   refine vB o hc hp hk u f l ((l + r) / 2) (by omega) (by omega) (by omega) a (fun i hi hik=>?_) q
   by_cases e:i = (l + r) / 2
   ·rw [e]; exact c
   ·exact o.tr c (u _ i (by omega) hik)
  | false =>
   dsimp only
   rw [if_neg (by decide)]
   have c':=o.to (hp.lt hk) (hp.lt (by omega)) (hp.inj hk (by omega) (by omega)) c
   refine vB o hc hp hk u f ((l + r) / 2 + 1) r (by omega) h2 (by omega) (fun i hi=>?_) b q
   by_cases e:i = (l + r) / 2
   ·rw [e]; exact c'
   ·exact o.tr (u i _ (by omega) (by omega)) c'
theorem VM {p:Array Nat} {k x:Nat} (o:OrdB n lt) (hp:PmA n p) (hk:k < n) (u:Ups lt p k) (hx:x <= k) (a:∀ i,i < x -> lt (p.getD i 0) (p.getD k 0) = true) (b:∀ i,x <= i -> i < k -> lt (p.getD k 0) (p.getD i 0) = true):Ups lt (bubble p k (k - x)) (k + 1):=by
 have g:=fun i=>getElem?_bubble (xs:=p) (src:=k) (by rw [hp.sz]; exact hk) (k - x) (by omega) i
 have e:k - (k - x) = x:=by omega
 rw [e] at g
 have g1:∀ i,i < x -> (bubble p k (k - x)).getD i 0 = p.getD i 0:=fun i hi=>j7 (by rw [g,if_neg (by omega),if_neg (by omega)])
 have g2:(bubble p k (k - x)).getD x 0 = p.getD k 0:=j7 (by rw [g,if_pos rfl])
 have g3:∀ i,x < i -> i <= k -> (bubble p k (k - x)).getD i 0 = p.getD (i - 1) 0:=fun i hi hik=>j7 (by rw [g,if_neg (by omega),if_pos ⟨hi,hik⟩])
 intro i j hij hj
 rcases Nat.lt_trichotomy j x with h | h | h
 ·rw [g1 i (by omega),g1 j h]; exact u i j hij (by omega)
 ·subst h; rw [g1 i hij,g2]; exact a i hij
 ·rw [g3 j h (by omega)]
  rcases Nat.lt_trichotomy i x with h' | h' | h'
  ·rw [g1 i h']; exact u i _ (by omega) (by omega)
  ·subst h'; rw [g2]; exact b _ (by omega) (by omega)
  ·rw [g3 i h' (by omega)]; exact u _ _ (by omega) (by omega)
theorem j8 (o:OrdB n lt) (hc:Says n lt cmp s):∀ (f:Nat) (p:Array Nat) (k:Nat) {Q:Array Nat -> Shared -> Prop},PmA n p -> k + f = n -> Ups lt p k -> (∀ p',PmA n p' -> Ups lt p' n -> Q p' s) -> (kas_bin f p k).kasWp cmp Q s
 | 0,p,k,Q,hp,e,u,q=>q p hp (by rw [← show k = n by omega]; exact u)
 | f + 1,p,k,Q,hp,e,u,q=>by
  unfold kas_bin
  rw [KasT.kasWp_bind]
  refine vB o hc hp (by omega) u k 0 k (Nat.zero_le _) (Nat.le_refl _) (by omega) (fun i hi=>by omega) (fun i h1 h2=>by omega) fun x hx a b=>?_
  exact j8 o hc f _ (k + 1) (hp.of_perm (bubble_perm _ _ _)) (by omega) (VM o hp (by omega) u hx a b) q
theorem Xk (o:OrdB n lt) (hc:Says n lt cmp s) (h2:2 <= n) {Q:Array Nat -> Shared -> Prop} (q:∀ p,PmA n p -> Ups lt p n -> Q p s):(kas_sort n).kasWp cmp Q s:=by
 unfold kas_sort
 rw [KasT.kasWp_bind]
 have h0:PmA n (List.toArray (List.range n)):=⟨by simp,by simp⟩
 refine ZF o hc h0 h2 fun m p hp h1 hm u=>?_
 by_cases hmn:m < n
 ·rw [if_pos hmn]
  have e:max m 1 = m:=by omega
  show (kas_bin (n - max m 1) p (max m 1)).kasWp cmp Q s
  rw [e]
  exact j8 o hc (n - m) p m hp (by omega) u q
 ·rw [if_neg hmn]
  obtain rfl:m = n:=by omega
  exact q p hp u
end
open PySem PySem.Spec PyProof.Rows L2 PySem.W
section
variable {prog:Program} {w:World} {A:Around} {E:VS7} {s:Shared}
def Asks (prog:Program) (w:World) (A:Around) (s:Shared) (a:Addr) (vs:List Value) (lt:Nat -> Nat -> Bool):Prop:=∃ κ,∀ h':Heap,(∀ b ob,b ≠ a -> s.heap.get? b = some ob -> h'.get? b = some ob) →
 (∀ (Q:SortKind -> Shared -> Prop) (E':VS7),Q κ { s with heap:=h' } -> wpAny (model prog w) A (keyKind' vs.toArray) Q E' { s with heap:=h' }) /\ Says vs.length lt (kas_ask prog w A κ vs) { s with heap:=h' }
theorem Xl (vs:List Value):((List.range vs.length).map fun i=>vs.getD i Value.none) = vs:=by
 refine List.ext_getElem? fun i=>?_
 rw [List.getElem?_map]
 by_cases h:i < vs.length
 ·rw [List.getElem?_range h]
  show some (vs.getD i Value.none) = _
  rw [List.getD_eq_getElem?_getD,List.getElem?_eq_getElem h]; rfl
 ·rw [List.getElem?_eq_none (by rw [List.length_range]; omega),List.getElem?_eq_none (by omega)]; rfl
theorem Xm {a:Addr} {vs:List Value} {n:Nat} {P:PySem.Fin -> Shared -> Prop} {lt:Nat -> Nat -> Bool} (here:s.heap.get? a = some (seqObj "list" vs.toArray n)) (few:vs.length < 64) (o:OrdB vs.length lt) (asks:2 <= vs.length -> Asks prog w A s a vs lt)
  (fin:∀ p,PmA vs.length p -> Ups lt p vs.length -> P (.done (.ret .none)) { s with heap:=sortedHeap s.heap a vs (List.toArray (p.toList.map fun i=>vs.getD i Value.none)) }) :
  wpAny (model prog w) A (Builtin.«list.sort» ⟨[.ref a],[]⟩) P E s:=by
 have low:a < s.heap.objs.size:=Heap.lt_size here
 obtain ⟨ep,emp⟩:∃ ep,(s.heap.update a (Obj.mapSeq fun _=>(#[]:Array Value))).get? a = some (seqObj "list" #[] ep):=⟨_,get?_update_seq here fun _=>#[]⟩
 have big:sizeLine = sizeLine:=rfl
 have fits:vs.length <= sizeLine:=by have:=sizeLine_eq; omega
 have empty:(((s.heap.update a (Obj.mapSeq fun _=>(#[]:Array Value))).push (seqObj "tuple" vs.toArray 0)).push (seqObj "list" #[] 0)).get? a = some (seqObj "list" #[] ep):=Heap.get?_push_of_some _ (Heap.get?_push_of_some _ emp)
 have old:∀ b ob,b ≠ a -> s.heap.get? b = some ob -> (((s.heap.update a (Obj.mapSeq fun _=>(#[]:Array Value))).push (seqObj "tuple" vs.toArray 0)).push (seqObj "list" #[] 0)).get? b = some ob:=fun b ob ne e =>
  Heap.get?_push_of_some _ (Heap.get?_push_of_some _ (by rw [Heap.get?_update_ne _ _ _ _ ne]; exact e))
 rw [list_sort_plain]
 refine wpAny_bind (listItems_at here rfl (wpAny_bind (listUpdate_at here rfl ?_ (by rw [List.size_toArray]; exact fits) (Nat.zero_le _))))
 refine wpAny_bind (seqEpoch_at emp rfl (wpAny_bind (wpAny_newTuple ?_ (by show vs.length <= _; exact fits))))
 refine wpAny_bind (wpAny_newList (wpAny_holding ?_) (Nat.zero_le _))
 show wpAny (model prog w) A _ P E { s with heap:=((s.heap.update a (Obj.mapSeq fun _=>(#[]:Array Value))).push (seqObj "tuple" vs.toArray 0)).push (seqObj "list" #[] 0),toks:=s.toks }
 have sz:vs.toArray.size = vs.length:=by simp
 by_cases h2:vs.toArray.size < 2
 ·rw [if_pos h2,if_pos h2]
  refine wpAny_bind (wpAny_pure ?_)
  dsimp only
  rw [StateT.run_pure]
  refine wpAny_bind (wpAny_pure (wpAny_bind (seqEpoch_at empty rfl (wpAny_bind (listUpdate_at empty rfl ?_ (Nat.zero_le _) ?_)))))
  ·have f:=fin (List.toArray (List.range vs.length)) ⟨by simp,by simp⟩ (fun i j hij hj=>by omega)
   have e:(List.toArray ((List.toArray (List.range vs.length)).toList.map fun i=>vs.getD i Value.none)) = (vs.toArray.zip vs.toArray).map (·.2):=by
    apply Array.toList_inj.mp
    rw [Array.toList_map]
    show (List.range vs.length).map (fun i=>vs.getD i Value.none) = _
    rw [Xl,Array.toList_zip]
    show vs = (vs.zip vs).map Prod.snd
    rw [List.map_snd_zip (Nat.le_refl _)]
   rw [e] at f
   have ne:(ep != ep) = false:=by simp
   show wpAny _ _ _ P E _
   simp only [ne,Bool.false_eq_true,if_false]
   exact wpAny_pure f
  ·show ((vs.toArray.zip vs.toArray).map (·.2)).size <= _
   rw [Array.size_map,Array.size_zip,sz]; omega
 have h2':2 <= vs.length:=by omega
 obtain ⟨κ,ok⟩:=asks h2'
 obtain ⟨kd,says⟩:=ok _ old
 rw [if_neg h2,if_neg h2]
 refine wpAny_bind (kd _ _ ?_)
 refine wpAny_bind (wpAny_mono (kat_run (ks:=vs) (Q:=fun st' s'=>s' = { s with heap:=((s.heap.update a (Obj.mapSeq fun _=>(#[]:Array Value))).push (seqObj "tuple" vs.toArray 0)).push (seqObj "list" #[] 0) } /\ failedOf st' = none /\ ∃ p,PmA vs.length p /\ Ups lt p vs.length /\ (arrOf st').map (·.2) = List.toArray (p.toList.map fun i=>vs.getD i Value.none)) (G:=fun p s'=>s' = { s with heap:=((s.heap.update a (Obj.mapSeq fun _=>(#[]:Array Value))).push (seqObj "tuple" vs.toArray 0)).push (seqObj "list" #[] 0) } /\ PmA vs.length p /\ Ups lt p vs.length) rfl h2' few
  (fun p st' s' _ har hf g=>⟨g.1,hf,p,g.2.1,g.2.2,kat_snds rfl har⟩) (Xk o says h2' fun p hp u=>⟨rfl,hp,u⟩)) ?_ fun _ _ e=>e)
 rintro ⟨⟨⟩,st'⟩ s' ⟨rfl,hf,p,hp,u,out⟩
 refine wpAny_bind (seqEpoch_at empty rfl (wpAny_bind (listUpdate_at empty rfl ?_ (Nat.zero_le _) ?_)))
 ·have f:=fin p hp u
  rw [← out] at f
  show wpAny _ _ _ P E _
  have ne:(ep != ep) = false:=by simp
  have hf':failedOf st' = none:=hf
  dsimp only
  rw [hf']
  simp only [ne,Bool.false_eq_true,if_false]
  exact wpAny_pure f
 ·show ((arrOf st').map (·.2)).size <= _
  rw [out,List.size_toArray,List.length_map,Array.length_toList,hp.sz]; omega
end
open PySem PySem.Spec PyProof.Rows L2 PySem.W
def ltL:List Int -> List Int -> Bool
 | [],[]=>false
 | [],_ :: _=>true
 | _ :: _,[]=>false
 | a :: as,b :: bs=>if a = b then ltL as bs else decide (a < b)
theorem WW:∀ {a b c:List Int},ltL a b = true -> ltL b c = true -> ltL a c = true
 | [],[],_,h,_=>nomatch h
 | [],_ :: _,[],_,h=>nomatch h
 | [],_ :: _,_ :: _,_,_=>rfl
 | _ :: _,[],_,h,_=>nomatch h
 | _ :: _,_ :: _,[],_,h=>nomatch h
 | a :: as,b :: bs,c :: cs,h,k=>by
  unfold ltL at h k ⊢
  by_cases e:a = b
  ·subst e
   rw [if_pos rfl] at h
   by_cases e':a = c
   ·rw [if_pos e'] at k ⊢; exact WW h k
   ·rw [if_neg e'] at k ⊢; exact k
  ·rw [if_neg e] at h
   have h:=of_decide_eq_true h
   by_cases e':b = c
   ·subst e'; rw [if_neg e]; exact decide_eq_true h
   ·rw [if_neg e'] at k
    have k:=of_decide_eq_true k
    rw [if_neg (by omega)]; exact decide_eq_true (by omega)
theorem j9:∀ {a b:List Int},ltL a b = true -> ltL b a = false
 | [],[],h=>nomatch h
 | [],_ :: _,_=>rfl
 | _ :: _,[],h=>nomatch h
 | a :: as,b :: bs,h=>by
  unfold ltL at h ⊢
  by_cases e:a = b
  ·subst e; rw [if_pos rfl] at h ⊢; exact j9 h
  ·rw [if_neg e] at h; rw [if_neg (Ne.symm e)]
   have h:=of_decide_eq_true h
   exact decide_eq_false (by omega)
theorem WX:∀ {a b:List Int},a ≠ b -> ltL a b = false -> ltL b a = true
 | [],[],h,_=>absurd rfl h
 | [],_ :: _,_,h=>nomatch h
 | _ :: _,[],_,_=>rfl
 | a :: as,b :: bs,n,h=>by
  unfold ltL at h ⊢
  by_cases e:a = b
  ·subst e; rw [if_pos rfl] at h ⊢; exact WX (fun z=>n (by rw [z])) h
  ·rw [if_neg e] at h; rw [if_neg (Ne.symm e)]
   have h:=of_decide_eq_false h
   exact decide_eq_true (by omega)
theorem Xn {a:List Int}:ltL a a = false:=by
 cases h:ltL a a with
 | false=>rfl
 | true=>have:=j9 h; rw [h] at this; cases this
theorem Za:∀ {a b:List (List Int)},a.Pairwise (fun x y=>ltL x y = true) -> b.Pairwise (fun x y=>ltL x y = true) -> a.Perm b -> a = b
 | [],b,_,_,p=>(List.Perm.nil_eq p)
 | x :: xs,[],_,_,p=>absurd p.length_eq (by simp)
 | x :: xs,y :: ys,ha,hb,p=>by
  obtain ⟨a1,a2⟩:=List.pairwise_cons.mp ha
  obtain ⟨b1,b2⟩:=List.pairwise_cons.mp hb
  have e:x = y:=by
   by_cases e:x = y
   ·exact e
   ·have hx:x ∈ ys:=(List.mem_cons.mp (p.mem_iff.mp List.mem_cons_self)).resolve_left e
    have hy:y ∈ xs:=(List.mem_cons.mp (p.mem_iff.mpr List.mem_cons_self)).resolve_left (Ne.symm e)
    have:=j9 (a1 y hy)
    rw [b1 x hx] at this; cases this
  subst e
  rw [Za a2 b2 ((List.perm_cons x).mp p)]
section
variable {prog:Program} {w:World} {A:Around} {E:VS7} {s:Shared} {b fin:Bool} {Q:Bool -> Shared -> Prop}
theorem Ww {rows:List (List Int)} (nd:rows.Nodup):OrdB rows.length (fun i j=>ltL (rows.getD i []) (rows.getD j [])) where
 tr:=WW
 as:=j9
 to:=fun {i j} hi hj hne h=>by
  refine WX (fun z=>hne ?_) h
  have e:∀ {i:Nat} (h:i < rows.length),rows.getD i [] = rows[i]:=fun h=>by rw [List.getD_eq_getElem?_getD,List.getElem?_eq_getElem h]; rfl
  rw [e hi,e hj] at z
  exact (List.getElem_inj nd).mp z
end
section
variable {X:Cx} {K:FG7}
theorem Xo {α:Type} {l:List α} {d:α} {is:List Nat} (h:is.Perm (List.range l.length)):(is.map fun i=>l.getD i d).Perm l:=by
 refine (h.map _).trans ?_
 have e:(List.range l.length).map (fun i=>l.getD i d) = l:=by
  refine List.ext_getElem? fun i=>?_
  rw [List.getElem?_map]
  by_cases h:i < l.length
  ·rw [List.getElem?_range h]
   show some (l.getD i d) = _
   rw [List.getD_eq_getElem?_getD,List.getElem?_eq_getElem h]; rfl
  ·rw [List.getElem?_eq_none (by rw [List.length_range]; omega),List.getElem?_eq_none (by omega)]; rfl
 rw [e]
end
open PySem PySem.Spec PyProof.Rows L2 PySem.W
section
variable {prog:Program} {w:World} {A:Around} {E:VS7} {s:Shared}
theorem ZG {l:Addr} {us:List Value} {Q:List Value -> Shared -> Prop} (tu:s.heap.IsList l us.toArray) (hu:us.length <= sizeLine)
  (q:Q us { s with heap:=(s.heap.push (seqObj "list" #[] 0)).update s.heap.objs.size (Obj.mapSeq (· ++ us.toArray)) }):wpAny (model prog w) A (collect (.ref l)) Q E s:=by
 obtain ⟨ob,eo,ec,m,ed⟩:=id tu
 have eo2:(s.heap.push (seqObj "list" #[] 0)).get? l = some ob:=Heap.get?_push_of_some _ eo
 unfold collect
 refine wpAny_bind (wpAny_runValue (codeAny_builtin entry_proto_collect' (show wpAny _ _ (do again (.builtin "list.__iadd__" ⟨[← newList [],.ref l],[]⟩)) _ _ s from ?_)))
 refine wpAny_bind (wpAny_newList (wpAny_pure ⟨Code.quiet_builtin _ (by decide +kernel),codeAny_builtin entry_list_iadd' (show wpAny _ _ (Builtin.List.listExtendWith (.ref s.heap.objs.size) (.ref l) (.ref s.heap.objs.size)) _ _ { s with heap:=s.heap.push (seqObj "list" #[] 0) } from ?_)⟩))
 unfold Builtin.List.listExtendWith
 refine wpAny_bind (wpAny_typeOf (T:="list") ⟨ob,eo2,ec⟩ ?_)
 have k1:(Value.type "list" == Value.type "list") = true:=rfl
 rw [if_pos (by simp [k1])]
 refine wpAny_bind (listItems_at eo2 ed (wpAny_bind (listItems_at (xs:=#[]) (n:=0) (Heap.get?_push_size _ rfl) rfl ?_)))
 rw [if_neg (by simp)]
 refine wpAny_bind (listUpdate_at (xs:=#[]) (n:=0) (Heap.get?_push_size _ rfl) rfl (wpAny_pure ?_) (Nat.zero_le _) (by show (#[] ++ us.toArray).size <= sizeLine + 1; simp only [Array.size_append,List.size_toArray,List.length_nil]; omega))
 refine wpAny_bind (wpAny_load (get?_update_seq (Heap.get?_push_size _ rfl) _) ?_)
 show wpAny _ _ (pure ((#[]:Array Value) ++ us.toArray).toList) Q E _
 rw [show ((#[]:Array Value) ++ us.toArray).toList = us by simp]
 exact wpAny_pure q
theorem sD {l:Addr} {vs:List Value} {Q:VS7} {lt:Nat -> Nat -> Bool} (tu:s.heap.IsList l vs.toArray) (few:vs.length < 64) (o:OrdB vs.length lt)
  (asks:2 <= vs.length -> ∀ s':Shared,(∀ b ob,s.heap.get? b = some ob -> s'.heap.get? b = some ob /\ b ≠ s.heap.objs.size + 1) -> Asks prog w A.in1.in1 s' (s.heap.objs.size + 1) vs lt)
  (fin:∀ p,PmA vs.length p -> Ups lt p vs.length -> Q (.ref (s.heap.objs.size + 1)) { s with heap:=sortedAll s.heap vs (List.toArray (p.toList.map fun i=>vs.getD i Value.none)) }) :
  wpAny (model prog w) A (call (.builtin "sorted") [.ref l]) Q E s:=by
 refine Calls.call_function_entry kind_sorted plain_sorted entry_sorted (args_sorted1 _) ?_
 unfold Builtin.«sorted»
 refine wpAny_bind (m:=checkCount "sorted" 1 1 _) (wpAny_pure (wpAny_bind (ZG tu (by rw [sizeLine_eq]; omega) (wpAny_bind (wpAny_newList ?_ (by rw [sizeLine_eq]; omega))))))
 have e1:((s.heap.push (seqObj "list" #[] 0)).update s.heap.objs.size (Obj.mapSeq (· ++ vs.toArray))).objs.size = s.heap.objs.size + 1:=by rw [Heap.size_update,size_push']
 have e2:(((s.heap.push (seqObj "list" #[] 0)).update s.heap.objs.size (Obj.mapSeq (· ++ vs.toArray))).push (seqObj "list" vs.toArray 0)).get? (s.heap.objs.size + 1) = some (seqObj "list" vs.toArray 0):=by
  rw [← e1]; exact Heap.get?_push_size _ rfl
 show wpAny _ _ _ _ _ { s with heap:=((s.heap.push (seqObj "list" #[] 0)).update s.heap.objs.size (Obj.mapSeq (· ++ vs.toArray))).push (seqObj "list" vs.toArray 0) }
 rw [e1]
 refine wpAny_bind (wpAny_holding (wpAny_call_entry slot_list_sort ⟨_,e2,rfl⟩ entry_list_sort (Xm (s:={ s with heap:=((s.heap.push (seqObj "list" #[] 0)).update s.heap.objs.size (Obj.mapSeq (· ++ vs.toArray))).push (seqObj "list" vs.toArray 0) }) e2 few o (fun h2=>asks h2 _ fun b ob e=>⟨?_,?_⟩) fun p hp u=>⟨_,rfl,wpAny_pure ⟨_,rfl,fin p hp u⟩⟩) (args_list_sort _)))
 ·have lo:b < s.heap.objs.size:=Heap.lt_size e
  refine Heap.get?_push_of_some _ ?_
  rw [Heap.get?_update_ne _ _ _ _ (Nat.ne_of_lt lo)]
  exact Heap.get?_push_of_some _ e
 ·exact Nat.ne_of_lt (Nat.lt_succ_of_lt (Heap.lt_size e))
end
section
variable {k m:Nat} {rows:List (List Int)} {ks:List Ask} {bd:Nat -> Int}
theorem Xp (k4:k <= 4) (hs:zQ k rows) (R:RndOk k m ks) {j:Nat} {a:Ask}:a ∈ arrR k rows ks k (j % 2 ^ k) j ↔ a ∈ ks.filter fun a=>decide (a.box = (j:Int)):=by
 rw [← Xd k4 hs]
 constructor
 ·intro h
  obtain ⟨h1,h2⟩:=List.mem_filter.mp h
  exact List.mem_filter.mpr ⟨U0 h1,h2⟩
 ·intro h
  obtain ⟨h1,h2⟩:=List.mem_filter.mp h
  exact List.mem_filter.mpr ⟨VH k4 hs R h1,h2⟩
theorem Xq (k4:k <= 4) (hs:zQ k rows) (R:RndOk k m ks) {a:Ask} {j:Nat} {pre post:List Ask} (ha:a ∈ ks) (hj:a.box = (j:Int)) (e:arrR k rows ks k (j % 2 ^ k) j = pre ++ a :: post):stvR k rows ks bd k a.hand.toNat a.box.toNat = runR (bd j) pre:=by
 have hh:=R.hand a ha
 have hl:a.hand.toNat < 2 ^ k:=yX hh.1 hh.2
 have ej:a.box.toNat = j:=by rw [hj]; rfl
 have e0:arrR k rows ks (k - k) a.hand.toNat j = [a]:=by
  rw [Nat.sub_self]
  show (ks.filter fun c=>decide (c.hand = ((a.hand.toNat:Nat):Int) /\ c.box = (j:Int))) = [a]
  rw [Int.toNat_of_nonneg hh.1,← hj,rS R.nd,uF R.nd ha]; rfl
 obtain ⟨p',q',e1,e2⟩:=Y4 (bd:=bd) R k4 hs (b:=j) k (Nat.le_refl k) a.hand.toNat hl (by rw [e0]; exact fun z=>nomatch z)
 rw [e0] at e1
 rw [ej,e2]
 have nd:=rZ (j:=j) k4 hs R
 rw [e] at nd
 have e5:pre ++ a :: post = p' ++ a :: q':=by rw [← e,e1,List.append_assoc]; rfl
 rw [r6 nd e5]
end
theorem qb {K:FG7} {a:Addr} {xs:List V} {g:TG} {te:TE} {Q:VK} {σ:L2.St} {H:Hp} (Pv:Nat -> List V -> L2.St -> Hp -> Prop) (h0:Pv 0 [] σ H) (hl:∀ i ys σ H,i <= xs.length -> Pv i ys σ H -> SqL K H a xs)
  (hs:∀ i x ys σ H,xs[i]? = some x -> Pv i ys σ H -> g x σ H fun σ2 H3=>te σ2 H3 fun y H5=>ys.length < sizeLine /\ Pv (i + 1) (ys ++ [y]) σ2 H5)
  (hd:∀ ys σ H,Pv xs.length ys σ H -> ∀ l,H l = none -> Q (.ref l) (upd H l (.lst ys))):vO (Itl K a) σ H g rp te Q:=rA Pv h0 hl (fun i x ys σ H hx hp=>hs i x ys σ H hx hp) hd
open PySem PySem.Spec PyProof.Rows L2 PySem.W
section
variable {prog:Program} {w:World} {A:Around} {E:VS7} {s:Shared} {b fin:Bool} {Q:Bool -> Shared -> Prop}
theorem Xr {v:Value} {Q:Bool -> Shared -> Prop} (h:Q true s):wpAny (model prog w) A (eqBool v v) Q E s:=by
 unfold eqBool
 refine wpAny_holding ?_
 rw [if_pos (beq_self_eq_true v)]
 exact wpAny_bind (wpAny_rule (wpAny_pure h))
theorem tQ:∀ {us:List Value} (i:Nat),Q fin s -> KatLex prog w A b fin Q (us.zip us) i s
 | [],_,q=>kat_nil q
 | u :: us,i,q=>by
  rw [List.zip_cons_cons]
  exact kat_cons (Xr (kat_yes (tQ (i + 1) q)))
theorem qc:∀ {us vs rs ts:List Value} {as bs:List Int} (i:Nat),IntsAre us as -> IntsAre vs bs -> as.length = bs.length -> as ≠ bs -> Q (ltL as bs) s -> KatLex prog w A b fin Q ((us ++ rs).zip (vs ++ ts)) i s
 | _,_,_,_,_,_,i,.nil,.nil,_,ne,_=>absurd rfl ne
 | _,_,_,_,_,_,i,.nil,.cons _ _ _,l,_,_=>absurd l (by simp)
 | _,_,_,_,_,_,i,.cons _ _ _,.nil,l,_,_=>absurd l (by simp)
 | _,_,rs,ts,_,_,i,.cons x t hx,.cons y u hy,l,ne,q=>by
  rename_i us as vs bs
  rw [List.cons_append,List.cons_append,List.zip_cons_cons]
  refine kat_cons (wpAny_eqBool_int (kat_go (fun h=>?_) fun h=>?_))
  ·have h:=eq_of_beq h
   subst h
   refine kat_yes (qc (i + 1) hx hy (by simpa using l) (fun z=>ne (by rw [z])) ?_)
   unfold ltL at q
   rw [if_pos rfl] at q
   exact q
  ·have h:=ne_of_beq_false h
   unfold ltL at q
   rw [if_neg h] at q
   refine kat_no ?_
   cases (b && i == 0) with
   | true=>exact oneLt_int q
   | false=>exact kat_one _ _ (PyProof.Rows.lt_int (show PySem.W.BoolBack Q (.bool (decide (x < y))) s from q))
structure RowAtP (h:Heap) (v:Value) (row:List Int) (x:Addr) (ob:Obj) (its:Array Value) (n:Nat) (us rest:List Value):Prop where
 e:v = .ref x
 g:h.get? x = some ob
 c:ob.cls = .type "tuple"
 d:ob.data = .seq its n
 t:its.toList = us ++ rest
 i:IntsAre us row
def U1 (h:Heap) (v:Value) (row:List Int):Prop:=∃ x ob its n us rest,RowAtP h v row x ob its n us rest
inductive RowsP (h:Heap):List Value -> List (List Int) -> Prop
 | nil:RowsP h [] []
 | cons {v vs row rows}:U1 h v row -> RowsP h vs rows -> RowsP h (v :: vs) (row :: rows)
theorem RowsP.len {h:Heap}:∀ {vs rows},RowsP h vs rows -> vs.length = rows.length
 | _,_,.nil=>rfl
 | _,_,.cons _ t=>congrArg (· + 1) t.len
theorem RowsP.get {h:Heap}:∀ {vs rows} {i:Nat},RowsP h vs rows -> i < vs.length -> U1 h (vs.getD i Value.none) (rows.getD i [])
 | _,_,_,.nil,hi=>absurd hi (by simp)
 | _,_,0,.cons r _,_=>r
 | _,_,i + 1,.cons _ t,hi=>by
  have:=t.get (i:=i) (by simpa using hi)
  exact this
theorem RowsP.old {h h':Heap} (k:∀ x ob,h.get? x = some ob -> h'.get? x = some ob):∀ {vs rows},RowsP h vs rows -> RowsP h' vs rows
 | _,_,.nil=>.nil
 | _,_,.cons ⟨x,ob,its,n,us,rest,r⟩ t=>.cons ⟨x,ob,its,n,us,rest,r.e,k _ _ r.g,r.c,r.d,r.t,r.i⟩ (t.old k)
theorem RowsP.tups {h:Heap}:∀ {vs rows},RowsP h vs rows -> (∀ r ∈ rows,r ≠ []) -> ∃ fs,KatTups h vs fs /\ fs.length = vs.length /\ ∀ f ∈ fs,∃ n t,f = Value.int n t
 | _,_,.nil,_=>⟨[],.nil,rfl,fun f hf=>absurd hf (by simp)⟩
 | _,_,.cons ⟨x,ob,its,n,us,rest,r⟩ t,ne=>by
  rename_i v vs row rows
  obtain ⟨fs,k,l,a⟩:=t.tups fun r hr=>ne r (List.mem_cons_of_mem _ hr)
  have hne:=ne row List.mem_cons_self
  obtain ⟨f,hf,n',t',rfl⟩:∃ f,its[0]? = some f /\ ∃ n t,f = Value.int n t:=by
   have hi:=r.i
   rw [← Array.getElem?_toList,r.t]
   revert hi
   generalize us = us'
   intro hi
   cases hi with
   | nil=>exact absurd rfl hne
   | cons n t _=>exact ⟨_,rfl,n,t,rfl⟩
  obtain rfl:=r.e
  exact ⟨Value.int n' t' :: fs,.cons r.g r.c r.d hf k,congrArg (· + 1) l,fun f hf=>by
   rcases List.mem_cons.mp hf with rfl | hf
   ·exact ⟨n',t',rfl⟩
   ·exact a f hf⟩
theorem ZH {vs:List Value} {rows:List (List Int)} {a:Addr} {m:Nat} (r:RowsP s.heap vs rows) (nd:rows.Nodup) (m1:1 <= m) (hm:∀ r ∈ rows,r.length = m) (ha:∀ x ob,s.heap.get? x = some ob -> (∃ v ∈ vs,v = .ref x) -> x ≠ a) (h2:2 <= vs.length):Asks prog w A s a vs (fun i j=>ltL (rows.getD i []) (rows.getD j [])):=by
 refine ⟨tuples' (Value.type "int" != Value.type "tuple"),fun h' k=>?_⟩
 have ne:∀ r ∈ rows,r ≠ []:=fun r hr z=>by have:=hm r hr; rw [z] at this; have:0 = m:=this; omega
 have r':RowsP h' vs rows:=by
  have go:∀ {vs' rows'},RowsP s.heap vs' rows' -> (∀ v ∈ vs',v ∈ vs) -> RowsP h' vs' rows':=by
   intro vs' rows' q
   induction q with
   | nil=>intro _; exact .nil
   | cons q t ih =>
    intro sub
    obtain ⟨x,ob,its,n,us,rest,q⟩:=q
    exact .cons ⟨x,ob,its,n,us,rest,q.e,k x ob (ha x ob q.g ⟨_,sub _ List.mem_cons_self,q.e⟩) q.g,q.c,q.d,q.t,q.i⟩ (ih fun v hv=>sub v (List.mem_cons_of_mem _ hv))
  exact go r fun v hv=>hv
 have rl:=r'.len
 have get:∀ {i:Nat} (h:i < rows.length),rows.getD i [] = rows[i]:=fun h=>by rw [List.getD_eq_getElem?_getD,List.getElem?_eq_getElem h]; rfl
 obtain ⟨fs,kt,fl,fi⟩:=r'.tups ne
 refine ⟨fun Q E' q=>kat_kind (s:={ s with heap:=h' }) (T:=.type "int") kt (by omega) (fun v hv=>?_) (by simp) q,fun i j C hi hj c=>?_⟩
 ·obtain ⟨n,t,rfl⟩:=fi v hv
  exact Looks.of_pure rfl
 ·obtain ⟨x,ox,xs,n,us,rest,p⟩:=r'.get hi
  obtain ⟨y,oy,ys,m',us',rest',q⟩:=r'.get hj
  unfold kas_ask
  by_cases hij:i = j
  ·subst hij
   rw [p.e]
   refine kat_lt (s:={ s with heap:=h' }) p.g p.d p.g p.d (tQ 0 ?_)
   dsimp only at c
   rw [Xn] at c
   rw [decide_eq_false (Nat.lt_irrefl _)]; exact c
  ·rw [p.e,q.e]
   refine kat_lt (s:={ s with heap:=h' }) p.g p.d q.g q.d ?_
   rw [p.t,q.t]
   have hi':i < rows.length:=by omega
   have hj':j < rows.length:=by omega
   refine qc 0 p.i q.i ?_ (fun z=>hij ?_) c
   ·rw [get hi',get hj',hm _ (List.getElem_mem hi'),hm _ (List.getElem_mem hj')]
   ·rw [get hi',get hj'] at z
    exact (List.getElem_inj nd).mp z
end
section
variable {X:Cx} {K:FG7}
def vS (K:FG7) (H:Hp) (z:V) (p:List Int × List V):Prop:=∃ r,z = .ref r /\ SqT K H r (p.1.map V.int ++ p.2)
def U2 (K:FG7):List V -> Hp -> VK -> Prop:=fun xs H Q=>∃ (l:Addr) (zs:List V) (items:List (List Int × List V)) (m:Nat),xs = [.ref l] /\ SqL K H l zs /\ AllR (vS K H) zs items /\ (items.map (·.1)).Nodup /\ 1 <= m /\ (∀ p ∈ items,p.1.length = m) /\ items.length < 64 ∧
 ∀ (p:Addr) (zs':List V) (items':List (List Int × List V)),H p = none -> items'.Perm items -> items'.Pairwise (fun x y=>ltL x.1 y.1 = true) -> AllR (vS K H) zs' items' -> Q (.ref p) (upd H p (.lst zs'))
theorem tR:∀ {ns:List Int} {rest:List V} {us:List Value},Vals (ns.map V.int ++ rest) us -> ∃ a b,us = a ++ b /\ IntsAre a ns
 | [],_,us,_=>⟨[],us,rfl,.nil⟩
 | n :: ns,rest,_,.cons r t=>by
  obtain ⟨a,b,rfl,h⟩:=tR (ns:=ns) (rest:=rest) t
  obtain ⟨tk,rfl⟩:=r
  exact ⟨_ :: a,b,rfl,.cons n tk h⟩
theorem Zb {pins:List (Addr × Obj)} {σ:L2.St} {H:Hp} {s:Shared} (I:Inv X pins σ H s):∀ {zs:List V} {items:List (List Int × List V)} {vs:List Value},AllR (vS X.K H) zs items -> Vals zs vs -> RowsP s.heap vs (items.map (·.1))
 | [],[],_,_,.nil=>.nil
 | z :: zs,it :: items,_,⟨h,t⟩,.cons r rs=>by
  obtain ⟨b,rfl,hb⟩:=h
  obtain ⟨its,rv,⟨ob,eo,ec,m,ed⟩,_⟩:=I.tuple hb
  obtain ⟨a,c,e,hi⟩:=tR rv
  exact .cons ⟨b,ob,its.toArray,m,a,c,r,eo,ec,ed,e,hi⟩ (Zb I t rs)
 | [],_ :: _,_,h,_=>h.elim
 | _ :: _,[],_,h,_=>h.elim
theorem ZI (hK:X.K = K):wI X (.builtin "sorted") (U2 K):=by
 subst hK
 intro pins s σ H xs us Q I r h
 obtain ⟨l,zs,items,m,rfl,hl,hr,nd,m1,hm,few,q⟩:=h
 obtain ⟨rows,hrows⟩:∃ rows,rows = items.map (·.1):=⟨_,rfl⟩
 have rlen:rows.length = items.length:=by rw [hrows,List.length_map]
 rw [← hrows] at nd
 have hm':∀ r ∈ rows,r.length = m:=fun r hr=>by rw [hrows] at hr; obtain ⟨p,hp,rfl⟩:=List.mem_map.mp hr; exact hm p hp
 obtain ⟨u,rfl,rx⟩:=tW r
 cases (show u = Value.ref l from rx)
 obtain ⟨vs,rv,pl,hz⟩:=I.list hl
 have e1:=rv.length
 have e2:=hr.len
 have R:=Zb I hr rv
 rw [← hrows] at R
 have e3:=R.len
 have o:=Ww nd
 rw [← e3] at o
 refine sD pl.isList (by omega) o (fun h2 s' k=>ZH (R.old fun x ob e=>(k x ob e).1) nd m1 hm' (fun x ob e ⟨v,hv,ev⟩=>?_) h2) fun p hp u=>?_
 ·subst ev
  obtain ⟨i,hi,ei⟩:=List.getElem_of_mem hv
  obtain ⟨x',ob',its,n,us,rest,p⟩:=R.get hi
  have ex:vs.getD i Value.none = .ref x:=by rw [List.getD_eq_getElem?_getD,List.getElem?_eq_getElem hi,ei]; rfl
  rw [ex] at p
  cases p.e
  exact (k _ _ p.g).2
 ·obtain ⟨e,he⟩:=sortedAll_at s.heap vs (List.toArray (p.toList.map fun i=>vs.getD i Value.none))
  have hn:H (s.heap.objs.size + 1) = none:=I.hok.fresh (Nat.le_succ _)
  have mem:∀ i ∈ p.toList,i < vs.length:=fun i hi=>List.mem_range.mp (hp.pm.mem_iff.mp hi)
  have rl:∀ is:List Nat,(∀ i ∈ is,i < vs.length) -> Vals (is.map fun i=>zs.getD i .non) (is.map fun i=>vs.getD i Value.none):=by
   intro is
   induction is with
   | nil=>intro _; exact .nil
   | cons i is ih =>
    intro hm
    have hi:=hm i List.mem_cons_self
    refine .cons ?_ (ih fun j hj=>hm j (List.mem_cons_of_mem _ hj))
    obtain ⟨u,hu,ru⟩:=rv.get (List.getElem?_eq_getElem (show i < zs.length by omega))
    dsimp only
    rw [List.getD_eq_getElem?_getD,List.getD_eq_getElem?_getD,hu,List.getElem?_eq_getElem (show i < zs.length by omega)]
    exact ru
  have al:∀ is:List Nat,(∀ i ∈ is,i < vs.length) -> AllR (vS X.K H) (is.map fun i=>zs.getD i .non) (is.map fun i=>items.getD i ([],[])):=by
   intro is
   induction is with
   | nil=>intro _; trivial
   | cons i is ih =>
    intro hm
    have hi:=hm i List.mem_cons_self
    refine ⟨?_,ih fun j hj=>hm j (List.mem_cons_of_mem _ hj)⟩
    obtain ⟨row,hrow,br⟩:=hr.get (List.getElem?_eq_getElem (show i < zs.length by omega))
    dsimp only
    rw [List.getD_eq_getElem?_getD,List.getD_eq_getElem?_getD,hrow,List.getElem?_eq_getElem (show i < zs.length by omega)]
    exact br
  have hpm:p.toList.Perm (List.range items.length):=by rw [← rlen,← e3]; exact hp.pm
  have pw:(p.toList.map fun i=>items.getD i ([],[])).Pairwise (fun x y=>ltL x.1 y.1 = true):=by
   rw [List.pairwise_map,List.pairwise_iff_getElem]
   intro i j hi hj hij
   have g:∀ {i:Nat} (h:i < p.toList.length),p.getD i 0 = p.toList[i]:=fun {i} h=>by
    have h':i < p.size:=by simpa using h
    simp [Array.getD,h']
   have:=u i j hij (by rw [← hp.sz,← Array.length_toList]; exact hj)
   rw [g hi,g hj] at this
   have gg:∀ n:Nat,rows.getD n [] = (items.getD n ([],[])).1:=fun n=>by
    rw [hrows,List.getD_eq_getElem?_getD,List.getD_eq_getElem?_getD,List.getElem?_map]
    cases items[n]? <;> rfl
   dsimp only at this
   rw [gg,gg] at this
   exact this
  refine ⟨.ref (s.heap.objs.size + 1),_,?_,rfl,q _ (p.toList.map fun i=>zs.getD i .non) _ hn (Xo hpm) pw (al _ mem)⟩
  refine I.laid (t':=s.toks) (fun b o q=>sortedAll_old q) (Nat.le_succ _) (show z6 X.prog X.w _ _ _ (.lst (p.toList.map fun i=>zs.getD i .non)) from ⟨by rw [List.length_map,Array.length_toList,hp.sz]; have:=sizeLine_eq; omega,_,e,rl _ mem,he⟩)
end
theorem TB:bootBuiltins "set" = some (.type "set"):=by decide +kernel
def xQ (k:Nat) (rows:List (List Int)) (ks:List Ask) (m:Nat):List (Nat × Deed):=(List.range m).filterMap fun j=>(lvR k rows ks k (j % 2 ^ k) j).map fun d=>(j,d)
def BdAt (K:FG7) (H:Hp) (z:V) (p:Nat × Deed):Prop:=∃ r dv,z = .ref r /\ SqT K H r [.int (p.1:Nat),dv] /\ zw K H dv p.2
def vK (K:FG7) (H:Hp) (y:V) (ps:List (Nat × Deed)):Prop:=∃ r zs,y = .ref r /\ SqT K H r zs /\ AllR (BdAt K H) zs ps
def qd (K:FG7):Sp:=sp4 fun x y z u H Q=>∃ (k:Nat) (b:List Int) (ks:List Ask) (rows:List (List Int)),x = .int k /\ k <= 4 /\ zD K H y b /\ 1 <= b.length /\ b.length <= 16 /\ yB K H z ks /\ ks.length <= 16 /\ RndOk k b.length ks /\ xy K H u rows /\ zQ k rows ∧
 ∀ y H',Grow [] H H' -> vK K H' y (xQ k rows ks b.length) -> Q y H'
section
variable {k m:Nat} {rows:List (List Int)} {ks:List Ask}
theorem sE {j:Nat} {d:Deed}:(j,d) ∈ xQ k rows ks m ↔ j < m /\ lvR k rows ks k (j % 2 ^ k) j = some d:=by
 unfold xQ
 rw [List.mem_filterMap]
 constructor
 ·rintro ⟨i,hi,e⟩
  obtain ⟨d',h1,h2⟩:=Option.map_eq_some_iff.mp e
  cases h2
  exact ⟨List.mem_range.mp hi,h1⟩
 ·rintro ⟨h1,h2⟩
  exact ⟨j,List.mem_range.mpr h1,by rw [h2]; rfl⟩
theorem Xs:((xQ k rows ks m).map fun p=>[(p.1:Int)]).Pairwise (fun x y=>ltL x y = true):=by
 rw [List.pairwise_map]
 unfold xQ
 rw [List.pairwise_filterMap]
 refine (List.pairwise_lt_range (n:=m)).imp fun {a b} hab p hp q hq=>?_
 obtain ⟨_,_,e1⟩:=Option.map_eq_some_iff.mp hp
 obtain ⟨_,_,e2⟩:=Option.map_eq_some_iff.mp hq
 rw [← e1,← e2]
 show (if (a:Int) = (b:Int) then _ else decide ((a:Int) < (b:Int))) = true
 rw [if_neg (by omega)]
 exact decide_eq_true (by omega)
theorem Xt {K:FG7} {H:Hp} {kvs:List (List Key × V)} {items:List (List Int × List V)} {zs:List V} {its:List (List Int × List V)} (R:RndOk k m ks) (k4:k <= 4) (hs:zQ k rows) (T:TabR kvs (2 ^ k) m (lvR k rows ks k) (zw K H))
  (hi:∀ p,p ∈ its ↔ ∃ l c v,(keyR l c,v) ∈ kvs /\ p = ([(c:Int)],[v])) (nd:(its.map (·.1)).Nodup)
  (pm:items.Perm its) (pw:items.Pairwise (fun x y=>ltL x.1 y.1 = true)) (al:AllR (vS K H) zs items):AllR (BdAt K H) zs (xQ k rows ks m):=by
 have look:∀ p ∈ items,∃ (c:Nat) (v:V) (d:Deed),p = ([(c:Int)],[v]) /\ c < m /\ lvR k rows ks k (c % 2 ^ k) c = some d /\ zw K H v d:=fun p hp=>by
  obtain ⟨l,c,v,h1,h2⟩:=(hi p).mp (pm.mem_iff.mp hp)
  obtain ⟨l',c',d,e,hl,hc,hd,hv⟩:=T.keys _ h1
  obtain ⟨rfl,rfl⟩:=yF e
  have el:=ss R k4 hs hl (by rw [hd]; exact fun z=>nomatch z)
  rw [el] at hd
  exact ⟨_,v,d,h2,hc,hd,hv⟩
 have boxes:(items.map (·.1)) = (xQ k rows ks m).map fun p=>[(p.1:Int)]:=by
  have pw1:(items.map (·.1)).Pairwise (fun x y=>ltL x y = true):=List.pairwise_map.mpr pw
  have nd1:(items.map (·.1)).Nodup:=((pm.map _).nodup_iff).mpr nd
  have nd2:((xQ k rows ks m).map fun p=>[(p.1:Int)]).Nodup:=Xs.imp fun {x y} h z=>by rw [z,Xn] at h; cases h
  refine Za pw1 Xs ((List.perm_ext_iff_of_nodup nd1 nd2).mpr fun x=>⟨fun hx=>?_,fun hx=>?_⟩)
  ·obtain ⟨p,hp,rfl⟩:=List.mem_map.mp hx
   obtain ⟨c,v,d,rfl,hc,hd,_⟩:=look p hp
   exact List.mem_map.mpr ⟨(c,d),sE.mpr ⟨hc,hd⟩,rfl⟩
  ·obtain ⟨⟨c,d⟩,hp,rfl⟩:=List.mem_map.mp hx
   obtain ⟨hc,hd⟩:=sE.mp hp
   obtain ⟨i,v,h1,h2⟩:=uC (T.all (c % 2 ^ k) c (yS (k:=k) (b:=c)) hc (by rw [hd]; exact fun z=>nomatch z))
   exact List.mem_map.mpr ⟨([(c:Int)],[v]),pm.mem_iff.mpr ((hi _).mpr ⟨_,c,v,List.mem_of_getElem? h1,rfl⟩),rfl⟩
 have len:zs.length = (xQ k rows ks m).length:=by
  rw [al.len]
  have:=congrArg List.length boxes
  rw [List.length_map,List.length_map] at this; exact this
 refine AllR.of_get len fun i z hz=>?_
 obtain ⟨p,hp,r,rfl,hr⟩:=al.get hz
 obtain ⟨c,v,d,rfl,hc,hd,hv⟩:=look p (List.mem_of_getElem? hp)
 have e:=congrArg (fun l=>l[i]?) boxes
 simp only [List.getElem?_map,hp,Option.map_some] at e
 obtain ⟨⟨c',d'⟩,h1,h2⟩:=Option.map_eq_some_iff.mp e.symm
 have ec:c' = c:=by have:=(List.cons.inj h2).1; omega
 subst ec
 have hd':=(sE.mp (List.mem_of_getElem? h1)).2
 rw [hd] at hd'
 cases Option.some.inj hd'
 exact ⟨_,h1,r,v,rfl,hr,hv⟩
end
def qe (p:List Key × V):List Int × List V:=match p.1 with
 | [_,.inl c]=>([c],[p.2])
 | _=>([],[])
section
variable {k m:Nat} {rows:List (List Int)} {ks:List Ask} {K:FG7} {H:Hp} {kvs:List (List Key × V)}
theorem Xu (T:TabR kvs (2 ^ k) m (lvR k rows ks k) (zw K H)) (p:List Int × List V):p ∈ kvs.map qe ↔ ∃ l c v,(keyR l c,v) ∈ kvs /\ p = ([(c:Int)],[v]):=by
 rw [List.mem_map]
 constructor
 ·rintro ⟨⟨pk,v⟩,h,rfl⟩
  obtain ⟨l,c,d,e,_⟩:=T.keys _ h
  cases (show pk = keyR l c from e)
  exact ⟨l,c,v,h,rfl⟩
 ·rintro ⟨l,c,v,h,rfl⟩
  exact ⟨_,h,rfl⟩
theorem WY (R:RndOk k m ks) (k4:k <= 4) (hs:zQ k rows) (T:TabR kvs (2 ^ k) m (lvR k rows ks k) (zw K H)):((kvs.map qe).map (·.1)).Nodup:=by
 have nd:=List.pairwise_map.mp T.nd
 rw [List.map_map]
 refine List.pairwise_map.mpr (nd.imp_of_mem fun {a b} ha hb hab z=>hab ?_)
 obtain ⟨pk,v⟩:=a
 obtain ⟨pk',v'⟩:=b
 obtain ⟨l,c,d,e,hl,hc,hd,_⟩:=T.keys _ ha
 obtain ⟨l',c',d',e',hl',hc',hd',_⟩:=T.keys _ hb
 cases (show pk = keyR l c from e)
 cases (show pk' = keyR l' c' from e')
 have z':[(c:Int)] = [(c':Int)]:=z
 have ec:c = c':=by have:=(List.cons.inj z').1; omega
 subst ec
 have h1:=ss R k4 hs hl (by rw [hd]; exact fun z=>nomatch z)
 have h2:=ss R k4 hs hl' (by rw [hd']; exact fun z=>nomatch z)
 rw [h1,h2]
theorem VN (T:TabR kvs (2 ^ k) m (lvR k rows ks k) (zw K H)):∀ p ∈ kvs.map qe,p.1.length = 1:=fun p hp=>by
 obtain ⟨l,c,v,_,rfl⟩:=(Xu T p).mp hp
 rfl
end
theorem vS.grow {K:FG7} {H H':Hp} {m:List Addr} {z:V} {p:List Int × List V} (g:Grow m H H') (h:vS K H z p):vS K H' z p:=by
 obtain ⟨r,e,hr⟩:=h
 exact ⟨r,e,g.sqT hr⟩
def qf (K:FG7):Sp:=sp3 fun x y z H Q=>∃ (a:Addr) (k:Nat) (b:List Int),x = .ref a /\ y = .int ((2 ^ k:Nat):Int) /\ k <= 4 /\ zD K H z b /\ 1 <= b.length /\ b.length <= 16 /\ Pot H a /\ ∀ y ks H',Grow [a] H H' -> Pot H' a -> yB K H' y ks -> ks.length <= 16 -> RndOk k b.length ks -> (∀ a ∈ ks,a.deed.Sm) -> Q y H'
def ZJ (ks:List Ask) (j:Nat) (gs:List Nat):List Ask:=gs.flatMap fun h:Nat=>ks.filter fun a=>decide (a.hand = (h:Int) /\ a.box = (j:Int))
def Zc (K:FG7):Sp:=sp3 fun x y z H Q=>∃ (ks:List Ask) (j:Nat) (gs:List Nat),yB K H x ks /\ y = .int j /\ ks.length <= 16 /\ Wf K H z gs /\ gs.length <= 16 /\ (ks.map (·.hand)).Nodup /\ ∀ l zs H',H l = none -> Grow [] H H' -> H' l = some (.lst zs) -> AllA K H' zs (ZJ ks j gs) -> Q (.ref l) H'
theorem VO {k:Nat} {rows:List (List Int)} {ks:List Ask} {j:Nat} (k4:k <= 4) (hs:zQ k rows):ZJ ks j (ordL k rows (j % 2 ^ k) k) = arrR k rows ks k (j % 2 ^ k) j:=by
 rw [uA k4 hs k (Nat.le_refl k),Nat.sub_self]; rfl
theorem AllA.app97 {K:FG7} {H:Hp}:∀ {xs ys:List V} {ks js:List Ask},AllA K H xs ks -> AllA K H ys js -> AllA K H (xs ++ ys) (ks ++ js)
 | [],_,[],_,_,h=>h
 | _ :: _,_,_ :: _,_,⟨a,t⟩,h=>⟨a,AllA.app97 t h⟩
theorem qg {ks:List Ask} {h j:Nat} (nd:(ks.map (·.hand)).Nodup):(ks.filter fun a=>decide (a.hand = (h:Int) /\ a.box = (j:Int))).length <= 1:=by
 rw [rS nd]
 cases ks.find? fun a=>decide (a.hand = (h:Int) /\ a.box = (j:Int)) <;> simp
theorem uI:∀ {as:List Ask} {v:Int},runR v as = runV (as.map (·.deed)) v
 | [],_=>rfl
 | a :: as,v=>uI (as:=as) (v:=a.deed.mk' v)
def uJ (K:FG7):Sp:=sp4 fun x y z u H Q=>∃ (l:Addr) (zs:List V) (as:List Ask) (v:Int),x = .ref l /\ H l = some (.lst zs) /\ AllA K H zs as /\ 1 <= as.length /\ as.length <= 16 /\ (∀ a ∈ as,a.deed.Ok) /\ y = .int v /\ zD K H z (runA (as.map (·.deed)) v) /\ u = .int (runR v as) /\ ∀ H',Grow [] H H' -> Q (.bl true) H'
def ansP (b:List Int) (as:List Ask) (i:Nat):Int:=match as[i]? with
 | some a=>runR (bdF b a.box.toNat) (atB a.box.toNat (as.take i))
 | none=>0
theorem qh {b:List Int} {as:List Ask} (hb:∀ a ∈ as,0 <= a.box /\ a.box < (b.length:Int)):∀ n,n <= as.length -> xv b (as.take n) = ((List.range n).map (ansP b as),valD b (as.take n))
 | 0,_=>by rw [List.take_zero,Wv]; rfl
 | n + 1,hn=>by
  have h:as[n]? = some as[n]:=List.getElem?_eq_getElem (by omega)
  have hbx:=hb _ (List.mem_of_getElem? h)
  have hc:as[n].box.toNat < b.length:=by omega
  have ec:as[n].box = ((as[n].box.toNat:Nat):Int):=(Int.toNat_of_nonneg hbx.1).symm
  rw [vo h,qh hb n (by omega)]
  have hg:(valD b (as.take n)).getD as[n].box.toNat 0 = runR (bdF b as[n].box.toNat) (atB as[n].box.toNat (as.take n)):=by
   rw [List.getD_eq_getElem?_getD,sy hc]; rfl
  show ((List.range n).map (ansP b as) ++ [(valD b (as.take n)).getD as[n].box.toNat 0],(valD b (as.take n)).set as[n].box.toNat (as[n].deed.mk' ((valD b (as.take n)).getD as[n].box.toNat 0))) = _
  rw [hg,Xc hc ec,List.take_succ,h,List.range_succ,List.map_append]
  have e:ansP b as n = runR (bdF b as[n].box.toNat) (atB as[n].box.toNat (as.take n)):=by unfold ansP; rw [h]
  show _ = ((List.range n).map (ansP b as) ++ [ansP b as n],_)
  rw [e]; rfl
def rowB (k:Nat) (rows:List (List Int)) (ks:List Ask) (m:Nat):List Ask:=(List.range m).flatMap fun j=>arrR k rows ks k (j % 2 ^ k) j
section
variable {k m:Nat} {rows:List (List Int)} {ks:List Ask} {b:List Int}
theorem jf {L:List Ask} {n x:Nat}:(List.range n).flatMap (fun e=>if e = x then L else []) = if x < n then L else []:=by
 induction n with
 | zero=>rfl
 | succ n ih =>
  rw [List.range_succ,List.flatMap_append,ih,List.flatMap_cons,List.flatMap_nil,List.append_nil]
  by_cases c:x < n
  ·rw [if_pos c,if_neg (by omega),if_pos (by omega),List.append_nil]
  ·rw [if_neg c]
   by_cases c2:n = x
   ·rw [if_pos c2,if_pos (by omega),List.nil_append]
   ·rw [if_neg c2,if_neg (by omega),List.nil_append]
theorem ye (k4:k <= 4) (hs:zQ k rows) (R:RndOk k m ks) {j:Nat} {a:Ask} (h:a ∈ arrR k rows ks k (j % 2 ^ k) j):a ∈ ks /\ a.box = (j:Int):=by
 obtain ⟨h1,h2⟩:=List.mem_filter.mp ((Xp k4 hs R).mp h)
 exact ⟨h1,of_decide_eq_true h2⟩
theorem Zd (k4:k <= 4) (hs:zQ k rows) (R:RndOk k m ks) {n j:Nat} (hj:j < n):atB j (rowB k rows ks n) = arrR k rows ks k (j % 2 ^ k) j:=by
 unfold rowB atB
 rw [List.filter_flatMap]
 have e:(List.range n).flatMap (fun e=>(arrR k rows ks k (e % 2 ^ k) e).filter fun a=>decide (a.box = (j:Int))) = (List.range n).flatMap fun e=>if e = j then arrR k rows ks k (j % 2 ^ k) j else []:=xz fun e _=>by
  by_cases c:e = j
  ·subst c
   rw [if_pos rfl]
   exact List.filter_eq_self.mpr fun a ha=>decide_eq_true (ye k4 hs R ha).2
  ·rw [if_neg c]
   refine List.filter_eq_nil_iff.mpr fun a ha z=>c ?_
   have h1:=(ye k4 hs R ha).2
   rw [of_decide_eq_true z] at h1
   omega
 rw [e,jf,if_pos hj]
theorem ZK (k4:k <= 4) (hs:zQ k rows) (R:RndOk k b.length ks):xv b (rowB k rows ks b.length) = ((rowB k rows ks b.length).map fun a=>stvR k rows ks (bdF b) k a.hand.toNat a.box.toNat,finL k rows ks b):=by
 have mem:∀ a ∈ rowB k rows ks b.length,a ∈ ks /\ ∃ j:Nat,j < b.length /\ a.box = (j:Int):=fun a ha=>by
  obtain ⟨j,hj,h⟩:=List.mem_flatMap.mp ha
  obtain ⟨h1,h2⟩:=ye k4 hs R h
  exact ⟨h1,j,List.mem_range.mp hj,h2⟩
 have h:=qh (b:=b) (as:=rowB k rows ks b.length) (fun a ha=>R.box a (mem a ha).1) _ (Nat.le_refl _)
 rw [List.take_length] at h
 rw [h]
 refine Prod.ext ?_ ?_
 ·refine List.ext_getElem? fun i=>?_
  rw [List.getElem?_map,List.getElem?_map]
  by_cases c:i < (rowB k rows ks b.length).length
  ·rw [List.getElem?_range c,List.getElem?_eq_getElem c]
   obtain ⟨hm,j,hj,hbx⟩:=mem _ (List.getElem_mem c)
   have e:rowB k rows ks b.length = (rowB k rows ks b.length).take i ++ (rowB k rows ks b.length)[i] :: (rowB k rows ks b.length).drop (i + 1):=by
    have:=List.take_append_drop i (rowB k rows ks b.length)
    rw [List.drop_eq_getElem_cons c] at this
    exact this.symm
   have ea:arrR k rows ks k (j % 2 ^ k) j = atB j ((rowB k rows ks b.length).take i) ++ (rowB k rows ks b.length)[i] :: atB j ((rowB k rows ks b.length).drop (i + 1)):=by
    rw [← Zd k4 hs R hj]
    conv=>lhs; rw [e]
    unfold atB
    rw [List.filter_append,List.filter_cons,if_pos (decide_eq_true hbx)]
   have ej:((rowB k rows ks b.length)[i]).box.toNat = j:=by rw [hbx]; rfl
   show some (ansP b (rowB k rows ks b.length) i) = some (stvR k rows ks (bdF b) k _ _)
   rw [Xq (bd:=bdF b) k4 hs R hm hbx ea]
   unfold ansP
   rw [List.getElem?_eq_getElem c]
   dsimp only
   rw [ej]
  ·rw [List.getElem?_eq_none (by rw [List.length_range]; omega),List.getElem?_eq_none (by omega)]; rfl
 ·rw [← VG (b:=b) k4 hs R]
  unfold valD
  exact List.map_congr_left fun j hj=>by rw [Zd k4 hs R (List.mem_range.mp hj),Xd k4 hs]
end
def tS (K:FG7):Sp:=sp4 fun x y z u H Q=>∃ (k:Nat) (b:List Int) (ks:List Ask) (rows:List (List Int)) (da:Addr) (tk:List (Key × V)),k <= 4 /\ zQ k rows /\ zD K H x b /\ 1 <= b.length /\ b.length <= 16 /\ RndOk k b.length ks /\ (∀ a ∈ ks,a.deed.Sm) /\ yB K H y (rowB k rows ks b.length) /\ (rowB k rows ks b.length).length <= 16 ∧
 z = .ref da /\ H da = some (.dK tk) /\ (∀ a ∈ ks,valV tk (.inl a.hand) = some (.int (stvR k rows ks (bdF b) k a.hand.toNat a.box.toNat))) /\ zD K H u (finL k rows ks b) /\ ∀ H',Grow [] H H' -> Q (.bl true) H'
section
variable {X:Cx} {K:FG7}
theorem ZL {k:Nat} (hK:X.K = K) (hr:Room k X.A):OpR X (compareOp .Eq) (fun x y H Q=>∃ a b xs,x = .ref a /\ y = .ref b /\ SqL K H a xs /\ SqL K H b [] /\ Q (.bl xs.isEmpty) H):=by
 subst hK
 intro pins s σ H x y v u Q I rx ry h
 obtain ⟨a,b,xs,rfl,rfl,ha,hb,q⟩:=h
 cases rx; cases ry
 obtain ⟨us,r1,t1,_⟩:=I.list ha
 obtain ⟨ws,r2,t2,_⟩:=I.list hb
 have hw:ws.length = 0:=r2.length.symm
 by_cases hl:us.length = ws.length
 ·refine SeqAt.RcAt.lists (e:=fun _=>true) t1.isList t2.isList (by simpa using hl) hr.units0 (fun j h1 h2=>absurd h2 (by simp; omega)) _ _ _ _ ?_
  have e:xs = []:=List.length_eq_zero_iff.mp (by rw [r1.length]; omega)
  subst e
  have e2:us = []:=List.length_eq_zero_iff.mp (by omega)
  subst e2
  exact ⟨.bl _,H,I,rfl,q⟩
 ·refine SeqAt.RcAt.lists_lengths t1.isList t2.isList (by simpa using hl) hr.units0 _ _ _ _ ?_
  have e:xs.isEmpty = false:=by
   cases xs with
   | nil=>exact absurd (by rw [← r1.length]; exact hw.symm) hl
   | cons _ _=>rfl
  rw [e] at q
  exact ⟨.bl _,H,I,rfl,q⟩
end
section
variable {k m:Nat} {rows:List (List Int)} {ks:List Ask}
theorem v7 (R:RndOk k m ks):∀ s l b,xw ((arrR k rows ks s l b).map (·.deed))
 | 0,l,b,d,hd=>by
  obtain ⟨a,ha,rfl⟩:=List.mem_map.mp hd
  exact R.ok a (List.mem_filter.mp ha).1
 | s + 1,l,b,d,hd=>by
  obtain ⟨a,ha,rfl⟩:=List.mem_map.mp hd
  by_cases c:figI k ((s + 1:Nat):Int) l = figI k ((s + 1:Nat):Int) ((b % 2 ^ k:Nat):Int)
  ·have e1:arrR k rows ks (s + 1) l b = arrR k rows ks s (x0R k rows (s + 1) l) b ++ arrR k rows ks s (x1R k rows (s + 1) l) b:=if_pos c
   rw [e1] at ha
   rcases List.mem_append.mp ha with h | h
   ·exact v7 R s _ b _ (List.mem_map.mpr ⟨a,h,rfl⟩)
   ·exact v7 R s _ b _ (List.mem_map.mpr ⟨a,h,rfl⟩)
  ·have e1:arrR k rows ks (s + 1) l b = []:=if_neg c
   rw [e1] at ha; cases ha
theorem w4 (R:RndOk k m ks):∀ s l b d,lvR k rows ks s l b = some d -> d = runD ((arrR k rows ks s l b).map (·.deed))
 | 0,l,b,d,h=>by
  have e:=rS (l:=l) (b:=b) R.nd
  have e1:arrR k rows ks 0 l b = (ks.find? fun a=>decide (a.hand = (l:Int) /\ a.box = (b:Int))).toList:=e
  have e2:lvR k rows ks 0 l b = (ks.find? fun a=>decide (a.hand = (l:Int) /\ a.box = (b:Int))).map (·.deed):=rfl
  rw [e2] at h
  obtain ⟨a,ha,rfl⟩:=Option.map_eq_some_iff.mp h
  rw [e1,ha]
  exact (vn (R.ok a (List.mem_of_find?_eq_some ha))).symm
 | s + 1,l,b,d,h=>by
  have A:=lvF (rows:=rows) R s (x0R k rows (s + 1) l) b
  have B:=lvF (rows:=rows) R s (x1R k rows (s + 1) l) b
  by_cases c:figI k ((s + 1:Nat):Int) l = figI k ((s + 1:Nat):Int) ((b % 2 ^ k:Nat):Int)
  ·have e1:arrR k rows ks (s + 1) l b = arrR k rows ks s (x0R k rows (s + 1) l) b ++ arrR k rows ks s (x1R k rows (s + 1) l) b:=if_pos c
   have e2:lvR k rows ks (s + 1) l b = Zw (lvR k rows ks s (x0R k rows (s + 1) l) b) (lvR k rows ks s (x1R k rows (s + 1) l) b):=if_pos c
   rw [e2] at h
   rw [e1,List.map_append]
   cases h0:lvR k rows ks s (x0R k rows (s + 1) l) b with
   | none =>
    rw [h0] at h
    rw [A.non.mp h0,List.map_nil,List.nil_append]
    exact w4 R s _ b d h
   | some d0 =>
    cases h1:lvR k rows ks s (x1R k rows (s + 1) l) b with
    | none =>
     rw [h0,h1] at h
     cases Option.some.inj h
     rw [B.non.mp h1,List.map_nil,List.append_nil]
     exact w4 R s _ b _ h0
    | some d1 =>
     rw [h0,h1] at h
     cases Option.some.inj h
     rw [jS (v7 R s _ b) (v7 R s _ b),← w4 R s _ b _ h0,← w4 R s _ b _ h1]
  ·have e2:lvR k rows ks (s + 1) l b = none:=if_neg c
   rw [e2] at h; cases h
end
section
variable {k m:Nat} {rows:List (List Int)} {ks:List Ask} {b:List Int}
theorem vC (k4:k <= 4) (hs:zQ k rows) (R:RndOk k m ks):(rowB k rows ks m).Perm ks:=by
 have ndk:ks.Nodup:=List.Pairwise.of_map (f:=(·.hand)) (S:=(· ≠ ·)) (fun a b h z=>h (by rw [z])) R.nd
 have ndr:(rowB k rows ks m).Nodup:=by
  unfold rowB List.Nodup
  rw [List.pairwise_flatMap]
  refine ⟨fun j _=>rZ k4 hs R,List.nodup_range.imp fun {x y} hxy a ha c hc z=>hxy ?_⟩
  have h1:=(ye k4 hs R ha).2
  have h2:=(ye k4 hs R hc).2
  rw [z,h2] at h1
  omega
 refine (List.perm_ext_iff_of_nodup ndr ndk).mpr fun a=>⟨fun h=>?_,fun h=>?_⟩
 ·obtain ⟨j,_,h⟩:=List.mem_flatMap.mp h
  exact (ye k4 hs R h).1
 ·have hb:=R.box a h
  refine List.mem_flatMap.mpr ⟨a.box.toNat,List.mem_range.mpr (by omega),(Xp k4 hs R).mpr (List.mem_filter.mpr ⟨h,decide_eq_true (Int.toNat_of_nonneg hb.1).symm⟩)⟩
theorem ZM {n:Nat}:rowB k rows ks (n + 1) = rowB k rows ks n ++ arrR k rows ks k (n % 2 ^ k) n:=by
 unfold rowB
 rw [List.range_succ,List.flatMap_append,List.flatMap_cons,List.flatMap_nil,List.append_nil]
theorem jg {n:Nat}:xQ k rows ks (n + 1) = xQ k rows ks n ++ ((lvR k rows ks k (n % 2 ^ k) n).map fun d=>(n,d)).toList:=by
 unfold xQ
 rw [List.range_succ,List.filterMap_append]
 congr 1
theorem ZN (R:RndOk k m ks) {j:Nat} (hj:j < b.length):(finL k rows ks b)[j]? = some (runR (bdF b j) (arrR k rows ks k (j % 2 ^ k) j)):=by
 unfold finL
 rw [List.getElem?_map,List.getElem?_range hj]
 show some (finR k rows ks (bdF b) j) = _
 have F:=lvF (rows:=rows) R k (j % 2 ^ k) j
 unfold finR
 cases h:lvR k rows ks k (j % 2 ^ k) j with
 | none=>rw [F.non.mp h]; rfl
 | some d=>rw [← (F.run d h).2]
theorem ZO (k4:k <= 4) (hs:zQ k rows) (R:RndOk k b.length ks) (sm:∀ a ∈ ks,a.deed.Sm) {j:Nat} {d:Deed} (hj:j < b.length) (h:lvR k rows ks k (j % 2 ^ k) j = some d):(xa b.length (arrR k rows ks k (j % 2 ^ k) j)).1[j]? = some d:=by
 have GI:=ginv (b:=b) (arrR k rows ks k (j % 2 ^ k) j) (fun a ha=>⟨R.ask k4 a (ye k4 hs R ha).1,sm a (ye k4 hs R ha).1⟩)
 rw [Vn (by rw [GI.l1]; exact hj),GI.run j hj,w4 R k _ j d h]
 unfold qY
 rw [List.filter_eq_self.mpr fun a ha=>decide_eq_true (ye k4 hs R ha).2]
theorem qi (k4:k <= 4) (hs:zQ k rows) (R:RndOk k m ks) {bd:Nat -> Int} {j:Nat}:∀ (T pre:List Ask),arrR k rows ks k (j % 2 ^ k) j = pre ++ T -> (T.map fun a=>stvR k rows ks bd k a.hand.toNat a.box.toNat) = runA (T.map (·.deed)) (runR (bd j) pre)
 | [],_,_=>rfl
 | a :: T,pre,e=>by
  have hm:a ∈ arrR k rows ks k (j % 2 ^ k) j:=by rw [e]; simp
  obtain ⟨ha,hb⟩:=ye k4 hs R hm
  rw [List.map_cons,Xq (bd:=bd) k4 hs R ha hb e,qi k4 hs R T (pre ++ [a]) (by rw [e,List.append_assoc]; rfl),xM]
  rfl
end
theorem BdAt.grow97 {K:FG7} {H H':Hp} {m:List Addr} {z:V} {p:Nat × Deed} (g:Grow m H H') (h:BdAt K H z p):BdAt K H' z p:=by
 obtain ⟨r,dv,e,h1,h2⟩:=h
 exact ⟨r,dv,e,g.sqT h1,g.deed h2⟩
theorem AllR.back97 {α:Type} {R:V -> α -> Prop}:∀ {xs:List V} {ks:List α} {i:Nat} {k:α},AllR R xs ks -> ks[i]? = some k -> ∃ x,xs[i]? = some x /\ R x k
 | x :: _,_ :: _,0,_,⟨h,_⟩,e=>by cases Option.some.inj e; exact ⟨x,rfl,h⟩
 | _ :: xs,_ :: ks,i + 1,k,⟨_,t⟩,e=>AllR.back97 (xs:=xs) (ks:=ks) (i:=i) t e
 | [],[],_,_,_,e=>by simp at e
 | [],_ :: _,_,_,h,_=>h.elim
 | _ :: _,[],_,_,h,_=>h.elim
def jh (p:Nat × Deed):PyData:=.tuple [.int p.1,Yr p.2]
theorem BdAt.dat97 {K:FG7} {H:Hp} {x:V} {p:Nat × Deed} (h:BdAt K H x p):Dat K H x (jh p):=by
 obtain ⟨r,dv,rfl,h1,h2⟩:=h
 exact .tup h1 (.cons (.int _) (.cons h2.dat .nil))
theorem qj {K:FG7} {H:Hp}:∀ {xs:List V} {ps:List (Nat × Deed)},AllR (BdAt K H) xs ps -> DatAll K H xs (ps.map jh)
 | [],[],_=>.nil
 | _ :: _,_ :: _,⟨h,t⟩=>.cons h.dat97 (qj t)
 | [],_ :: _,h=>h.elim
 | _ :: _,[],h=>h.elim
theorem vK.dat97 {K:FG7} {H:Hp} {x:V} {ps:List (Nat × Deed)} (h:vK K H x ps):Dat K H x (.tuple (ps.map jh)):=by
 obtain ⟨r,zs,rfl,h1,h2⟩:=h
 exact .tup h1 (qj h2)
theorem qk:∀ ps:List (Nat × Deed),PyData.depthAll (ps.map jh) <= 2
 | []=>Nat.zero_le _
 | p :: ps=>by
  show max (max 0 (max (max 0 (max (oD p.2.lo).depth (max (oD p.2.hi).depth 0)) + 1) 0) + 1) (PyData.depthAll (ps.map jh)) <= 2
  have:=qk ps
  rw [UL,UL]; omega
theorem ji {K:FG7} {H:Hp} {x y:V} {ps:List (Nat × Deed)} {neg:Bool} {Q:VK} (hx:vK K H x ps) (hy:vK K H y ps) (q:Q (.bl neg) H):Wc K neg x y H Q :=
 ⟨.tuple (ps.map jh),hx.dat97.dq,hy.dat97.dq,(by obtain ⟨a,_,e,_⟩:=hx; exact ⟨a,e⟩),by have:=qk ps; show PyData.depthAll (ps.map jh) + 1 <= 100; omega,q⟩
theorem vK.grow97 {K:FG7} {H H':Hp} {m:List Addr} {z:V} {ps:List (Nat × Deed)} (g:Grow m H H') (h:vK K H z ps):vK K H' z ps:=by
 obtain ⟨r,zs,e,h1,h2⟩:=h
 exact ⟨r,zs,e,g.sqT h1,h2.imp fun _ _ h=>BdAt.grow97 g h⟩
end L3
namespace My
open PySem PySem.Spec PyProof.Rows L2 L3
def top (i:Nat):Stmt:=PySem.Challenge.pw_joinedasks_k97_whole_rounds_shared_out.main.body.getD i (.Pass ⟨0,0,0,0⟩)
section
variable {P:Program} {w:World} {K:FG7} {mg:Str -> Option Value} {base:Heap} {n:Nat} {f:Addr} {fd:FuncData}
theorem VP:FnScope ["add","low","high"] ["add","low","high"] (zh (top 22)):=⟨rfl,rfl,rfl,by decide +kernel,rfl,by decide +kernel,by decide +kernel⟩
theorem qP (F:Fun K "tidy" "tidy" (top 22) f fd) (B:Blt mg)     :
  FnOk P w K mg base CX0 (n + 1) f fd ["add","low","high"] (Yp K):=by
 refine F.ok VP xj (fun cdv A outer s H vs Q E hr h=>?_)
 obtain ⟨x,y,z,rfl,a,lo,hi,rfl,rfl,rfl,q⟩:=h
 refine ⟨_,(zd (zV (PW.pt (wy (wQ (qL (pv 1))) (xC (zB xV (pv 1) (pv 2) (zE _))))) (zg (zo (zN (za zi (za (pv 1) (za (pv 2) zb)))))) zu) (zg (zo (zN (za (pv 0) (za (pv 1) (za (pv 2) zb))))))),?_⟩
 cases lo with
 | none =>
  refine ⟨_,rfl,_,rfl,iteF (iteF ⟨_,rfl,_,rfl,_,rfl,szl rfl,fun t ht=>?_⟩)⟩
  have:=q t ht
  rw [Ut] at this; exact this
 | some l =>
  cases hi with
  | none =>
   refine ⟨_,rfl,_,rfl,iteT ⟨_,rfl,_,rfl,rfl,_,rfl,iteF ⟨_,rfl,_,rfl,_,rfl,szl rfl,fun t ht=>?_⟩⟩⟩
   have:=q t ht
   rw [WN (by simp)] at this; exact this
  | some u =>
   refine ⟨_,rfl,_,rfl,iteT ⟨_,rfl,_,rfl,rfl,_,rfl,?_⟩⟩
   refine ite2 (fun c=>?_) (fun c=>?_)
   ·have c':l = u:=V.int.inj (of_decide_eq_true c)
    subst c'
    refine ⟨_,rfl,_,rfl,szl rfl,fun t ht=>?_⟩
    have:=q t ht
    rw [Uu] at this; exact this
   ·have c':l ≠ u:=fun z=>c (by rw [z]; simp)
    refine ⟨_,rfl,_,rfl,_,rfl,szl rfl,fun t ht=>?_⟩
    have:=q t ht
    rw [WN (fun z=>c' (Option.some.inj z))] at this; exact this
theorem wP:FnScope ["deed","value","add","low","high","result"] ["deed","value"] (zh (top 20)):=⟨rfl,rfl,rfl,by decide +kernel,rfl,by decide +kernel,by decide +kernel⟩
theorem VQ (F:Fun K "made" "made" (top 20) f fd) (B:Blt mg)     :
  FnOk P w K mg base CX0 (n + 1) f fd ["deed","value"] (wL K):=by
 refine F.ok wP zO (fun cdv A outer s H vs Q E hr h=>?_)
 obtain ⟨x,y,rfl,d,v,⟨a,rfl,hs⟩,rfl,q⟩:=h
 refine ⟨_,(zd (xU (pv 0) (xc rfl (zk (zj (i:=2) wP.nd rfl (Or.inl rfl)) (zk (zj (i:=3) wP.nd rfl (Or.inl rfl)) (zk (zj (i:=4) wP.nd rfl (Or.inl rfl)) zW))))) (zd (zr (i:=5) wP.nd rfl (Or.inl rfl) (zA xt (pv 1) (pv 2))) (zd (zV (PW.pt (wy (wQ (qL (pv 3))) (xC (zB V9 (pv 3) (pv 5) (zE _))))) (zg (zr (i:=5) wP.nd rfl (Or.inl rfl) (pv 3))) zu) (zd (zV (PW.pt (wy (wQ (qL (pv 4))) (xC (zB XQ (pv 4) (pv 5) (zE _))))) (zg (zr (i:=5) wP.nd rfl (Or.inl rfl) (pv 4))) zu) (zg (zo (pv 5))))))),?_⟩
 obtain ⟨ad,lo,hi⟩:=d
 refine ⟨_,rfl,a,_,rfl,hs,rfl,_,_,rfl,_,_,rfl,_,_,rfl,rfl,?_⟩
 refine ⟨_,rfl,_,rfl,_,_,rfl,rfl,?_⟩
 cases lo with
 | none =>
  refine ⟨_,rfl,_,rfl,iteF (iteF ?_)⟩
  cases hi with
  | none=>exact ⟨_,rfl,_,rfl,iteF (iteF ⟨_,rfl,q⟩)⟩
  | some u =>
   refine ⟨_,rfl,_,rfl,iteT ⟨_,rfl,_,rfl,_,_,rfl,rfl,_,rfl,?_⟩⟩
   have q':Q (.int (if u < v + ad then u else v + ad)) H:=q
   refine ite2 (fun c=>?_) (fun c=>?_)
   ·have c':u < v + ad:=of_decide_eq_true c
    rw [if_pos c'] at q'
    exact ⟨_,rfl,_,rfl,q'⟩
   ·have c':¬ u < v + ad:=fun z=>c (decide_eq_true z)
    rw [if_neg c'] at q'
    exact ⟨_,rfl,q'⟩
 | some l =>
  refine ⟨_,rfl,_,rfl,iteT ⟨_,rfl,_,rfl,_,_,rfl,rfl,_,rfl,?_⟩⟩
  have q0:Q (.int (yj hi (if l > v + ad then l else v + ad))) H:=q
  clear q
  refine ite2 (fun c=>?_) (fun c=>?_)
  ·have c':l > v + ad:=of_decide_eq_true c
   rw [if_pos c'] at q0
   have q:=q0
   refine ⟨_,rfl,?_⟩
   cases hi with
   | none=>exact ⟨_,rfl,_,rfl,iteF (iteF ⟨_,rfl,q⟩)⟩
   | some u =>
    refine ⟨_,rfl,_,rfl,iteT ⟨_,rfl,_,rfl,_,_,rfl,rfl,_,rfl,?_⟩⟩
    have q':Q (.int (if u < l then u else l)) H:=q
    refine ite2 (fun c=>?_) (fun c=>?_)
    ·have c':u < l:=of_decide_eq_true c
     rw [if_pos c'] at q'
     exact ⟨_,rfl,_,rfl,q'⟩
    ·have c':¬ u < l:=fun z=>c (decide_eq_true z)
     rw [if_neg c'] at q'
     exact ⟨_,rfl,q'⟩
  ·have c':¬ l > v + ad:=fun z=>c (decide_eq_true z)
   rw [if_neg c'] at q0
   have q:=q0
   cases hi with
   | none=>exact ⟨_,rfl,_,rfl,iteF (iteF ⟨_,rfl,q⟩)⟩
   | some u =>
    refine ⟨_,rfl,_,rfl,iteT ⟨_,rfl,_,rfl,_,_,rfl,rfl,_,rfl,?_⟩⟩
    have q':Q (.int (if u < v + ad then u else v + ad)) H:=q
    refine ite2 (fun c=>?_) (fun c=>?_)
    ·have c':u < v + ad:=of_decide_eq_true c
     rw [if_pos c'] at q'
     exact ⟨_,rfl,_,rfl,q'⟩
    ·have c':¬ u < v + ad:=fun z=>c (decide_eq_true z)
     rw [if_neg c'] at q'
     exact ⟨_,rfl,q'⟩
theorem uK:FnScope ["one","other","low","high"] ["one","other"] (zh (top 23)):=⟨rfl,rfl,rfl,by decide +kernel,rfl,by decide +kernel,by decide +kernel⟩
theorem Xv (F:Fun K "joined" "joined" (top 23) f fd) (B:Blt mg) (qc0:zf P w K mg base n "tidy" ["add","low","high"] (Yp K)) (qc1:zf P w K mg base n "made" ["deed","value"] (wL K))    :
  FnOk P w K mg base CX0 (n + 1) f fd ["one","other"] (wc K):=by
 refine F.ok uK zO (fun cdv A outer s H vs Q E hr h=>?_)
 obtain ⟨x,y,rfl,d,e,⟨a,rfl,hsa⟩,⟨b,rfl,hsb⟩,q⟩:=h
 refine ⟨_,(zd (zr (i:=2) uK.nd rfl (Or.inl rfl) (jE (wQ (sU (zC zT (pv 0) zi (fun _ _=>rfl)))) (zC zT (pv 1) zi (fun _ _=>rfl)) (ze qc1 hr rfl (za (pv 1) (za (zC zT (pv 0) zi (fun _ _=>rfl)) zb))))) (zd (zr (i:=3) uK.nd rfl (Or.inl rfl) (jE (wQ (sU (zC zT (pv 0) zi (fun _ _=>rfl)))) (zC zT (pv 1) zi (fun _ _=>rfl)) (ze qc1 hr rfl (za (pv 1) (za (zC zT (pv 0) zi (fun _ _=>rfl)) zb))))) (zg (zo (ze qc0 hr rfl (za (zA xt (zC zT (pv 0) zi (fun _ _=>rfl)) (zC zT (pv 1) zi (fun _ _=>rfl))) (za (pv 2) (za (pv 3) zb)))))))),?_⟩
 obtain ⟨da,lo,hi⟩:=d
 obtain ⟨ea,elo,ehi⟩:=e
 refine ⟨_,rfl,a,_,_,_,rfl,rfl,hsa,rfl,_,rfl,?_⟩
 cases lo with
 | none =>
  refine iteT ⟨_,rfl,b,_,_,_,rfl,rfl,hsb,rfl,?_⟩
  refine ⟨_,rfl,a,_,_,_,rfl,rfl,hsa,rfl,_,rfl,?_⟩
  cases hi with
  | none =>
   refine iteT ⟨_,rfl,b,_,_,_,rfl,rfl,hsb,rfl,?_⟩
   exact ⟨_,rfl,a,_,_,_,rfl,rfl,hsa,rfl,_,rfl,b,_,_,_,rfl,rfl,hsb,rfl,_,_,rfl,rfl,_,rfl,_,rfl,_,_,_,rfl,_,elo,ehi,rfl,rfl,rfl,q⟩
  | some u =>
   refine iteF ⟨_,rfl,_,rfl,a,_,_,_,rfl,rfl,hsa,rfl,_,_,rfl,⟨ea,elo,ehi⟩,u,⟨b,rfl,hsb⟩,rfl,?_⟩
   exact ⟨_,rfl,a,_,_,_,rfl,rfl,hsa,rfl,_,rfl,b,_,_,_,rfl,rfl,hsb,rfl,_,_,rfl,rfl,_,rfl,_,rfl,_,_,_,rfl,_,elo,some ((Deed.mk ea elo ehi).mk' u),rfl,rfl,rfl,q⟩
 | some l =>
  refine iteF ⟨_,rfl,_,rfl,a,_,_,_,rfl,rfl,hsa,rfl,_,_,rfl,⟨ea,elo,ehi⟩,l,⟨b,rfl,hsb⟩,rfl,?_⟩
  refine ⟨_,rfl,a,_,_,_,rfl,rfl,hsa,rfl,_,rfl,?_⟩
  cases hi with
  | none =>
   refine iteT ⟨_,rfl,b,_,_,_,rfl,rfl,hsb,rfl,?_⟩
   exact ⟨_,rfl,a,_,_,_,rfl,rfl,hsa,rfl,_,rfl,b,_,_,_,rfl,rfl,hsb,rfl,_,_,rfl,rfl,_,rfl,_,rfl,_,_,_,rfl,_,(some ((Deed.mk ea elo ehi).mk' l)),ehi,rfl,rfl,rfl,q⟩
  | some u =>
   refine iteF ⟨_,rfl,_,rfl,a,_,_,_,rfl,rfl,hsa,rfl,_,_,rfl,⟨ea,elo,ehi⟩,u,⟨b,rfl,hsb⟩,rfl,?_⟩
   exact ⟨_,rfl,a,_,_,_,rfl,rfl,hsa,rfl,_,rfl,b,_,_,_,rfl,rfl,hsb,rfl,_,_,rfl,rfl,_,rfl,_,rfl,_,_,_,rfl,_,(some ((Deed.mk ea elo ehi).mk' l)),some ((Deed.mk ea elo ehi).mk' u),rfl,rfl,rfl,q⟩
theorem vL:FnScope ["k","stage","line","behind"] ["k","stage","line"] (zh (top 44)):=⟨rfl,rfl,rfl,by decide +kernel,rfl,by decide +kernel,by decide +kernel⟩
theorem ql (F:Fun K "switch_at" "switch_at" (top 44) f fd) (B:Blt mg)     :
  FnOk P w K mg base CX0 (n + 1) f fd ["k","stage","line"] (xi K):=by
 refine F.ok vL xj (fun cdv A outer s H vs Q E hr h=>?_)
 obtain ⟨x,y,z,rfl,k,st,l,rfl,rfl,rfl,k4,hs,l0,l1,q⟩:=h
 refine ⟨_,(zd (zr (i:=3) vL.nd rfl (Or.inl rfl) (zA yH (pv 0) (pv 1))) (zg (zo (zA Td (zA ua (zA Z4 (pv 2) (zA xt (pv 3) zi)) (pv 3)) (zA Z5 (pv 2) (zA yH (zA ua zi (pv 3)) zi)))))),?_⟩
 have e1:(0:Int) <= l / 2 ^ ((k:Int) - st + 1).toNat:=Int.ediv_nonneg l0 (Int.le_of_lt (Int.pow_pos (by decide)))
 have e2:l / 2 ^ ((k:Int) - st + 1).toNat <= l:=Int.ediv_le_self _ l0
 refine ⟨_,rfl,_,rfl,_,_,rfl,rfl,_,rfl,_,rfl,_,_,rfl,rfl,_,_,rfl,rfl,(by show (0:Int) <= (k:Int) - st + 1; omega),_,rfl,_,_,rfl,rfl,⟨by show (0:Int) <= (k:Int) - st; omega,by show (k:Int) - st <= 1000000; omega,by show (l / 2 ^ ((k:Int) - st + 1).toNat).natAbs < 2 ^ 64; omega⟩,?_⟩
 exact ⟨_,rfl,_,rfl,_,_,rfl,rfl,⟨by show (0:Int) <= (k:Int) - st; omega,by show (k:Int) - st <= 1000000; omega,by decide⟩,_,_,rfl,rfl,_,_,rfl,rfl,_,_,rfl,rfl,q⟩
theorem Xw:FnScope ["k","stage","line"] ["k","stage","line"] (zh (top 41)):=⟨rfl,rfl,rfl,by decide +kernel,rfl,by decide +kernel,by decide +kernel⟩
theorem Xx (F:Fun K "figure" "figure" (top 41) f fd) (B:Blt mg)     :
  FnOk P w K mg base CX0 (n + 1) f fd ["k","stage","line"] (uu K):=by
 refine F.ok Xw xj (fun cdv A outer s H vs Q E hr h=>?_)
 obtain ⟨x,y,z,rfl,k,st,l,rfl,rfl,rfl,hs,q⟩:=h
 refine ⟨_,(zg (zo (zA Z5 (zA Z4 (pv 2) (zA yH (pv 0) (pv 1))) zi))),?_⟩
 exact ⟨_,rfl,_,rfl,_,rfl,_,_,rfl,rfl,_,_,rfl,rfl,(by show (0:Int) <= (k:Int) - st; omega),_,_,rfl,rfl,q⟩
theorem uP:FnScope ["k","stage","line","wanted"] ["k","stage","line","wanted"] (zh (top 42)):=⟨rfl,rfl,rfl,by decide +kernel,rfl,by decide +kernel,by decide +kernel⟩
theorem uQ (F:Fun K "with_figure" "with_figure" (top 42) f fd) (B:Blt mg) (qc0:zf P w K mg base n "figure" ["k","stage","line"] (uu K))    :
  FnOk P w K mg base CX0 (n + 1) f fd ["k","stage","line","wanted"] (xn K):=by
 refine F.ok uP xG (fun cdv A outer s H vs Q E hr h=>?_)
 obtain ⟨x,y,z,u,rfl,k,st,l,w,rfl,rfl,rfl,rfl,k4,hs,l0,l1,hw,q⟩:=h
 refine ⟨_,(zg (zo (zA Wy (pv 2) (zA ua (zA Wy (ze qc0 hr rfl (za (pv 0) (za (pv 1) (za (pv 2) zb)))) (pv 3)) (zA yH (pv 0) (pv 1)))))),?_⟩
 have F:=figF k4 hs l0 l1
 refine ⟨_,rfl,_,rfl,_,rfl,_,rfl,_,_,_,rfl,k,st,l,rfl,rfl,rfl,hs,_,rfl,_,_,rfl,rfl,_,rfl,_,rfl,_,_,rfl,rfl,_,_,rfl,rfl,⟨by show (0:Int) <= (k:Int) - st; omega,by show (k:Int) - st <= 1000000; omega,F.2 w hw⟩,_,_,rfl,rfl,q⟩
theorem Xy:FnScope ["k","stage","line","side"] ["k","stage","line","side"] (zh (top 43)):=⟨rfl,rfl,rfl,by decide +kernel,rfl,by decide +kernel,by decide +kernel⟩
theorem Xz (F:Fun K "onward" "onward" (top 43) f fd) (B:Blt mg) (qc0:zf P w K mg base n "with_figure" ["k","stage","line","wanted"] (xn K)) (qc1:zf P w K mg base n "figure" ["k","stage","line"] (uu K))    :
  FnOk P w K mg base CX0 (n + 1) f fd ["k","stage","line","side"] (uw K):=by
 refine F.ok Xy xG (fun cdv A outer s H vs Q E hr h=>?_)
 obtain ⟨x,y,z,u,rfl,k,st,l,s,rfl,rfl,rfl,rfl,k4,hs,l0,l1,s0,s1,q⟩:=h
 refine ⟨_,(zg (zo (ze qc0 hr rfl (za (pv 0) (za (pv 1) (za (pv 2) (za (ze qc1 hr rfl (za (pv 0) (za (pv 1) (za (pv 3) zb)))) zb))))))),?_⟩
 have F:=figF k4 hs s0 s1
 exact ⟨_,rfl,_,rfl,_,rfl,_,rfl,_,rfl,_,rfl,_,_,_,rfl,k,st,s,rfl,rfl,rfl,hs,_,_,_,_,rfl,k,st,l,_,rfl,rfl,rfl,rfl,k4,hs,l0,l1,F.1,q⟩
theorem jj:FnScope ["k","box"] ["k","box"] (zh (top 51)):=⟨rfl,rfl,rfl,by decide +kernel,rfl,by decide +kernel,by decide +kernel⟩
theorem jk (F:Fun K "side_for" "side_for" (top 51) f fd) (B:Blt mg)     :
  FnOk P w K mg base CX0 (n + 1) f fd ["k","box"] (uD K):=by
 refine F.ok jj zO (fun cdv A outer s H vs Q E hr h=>?_)
 obtain ⟨x,y,rfl,k,b,rfl,rfl,k4,b16,q⟩:=h
 refine ⟨_,(zg (zo (zA Z5 (pv 1) (zA yH (zA ua zi (pv 0)) zi)))),?_⟩
 refine ⟨_,rfl,_,rfl,_,_,rfl,rfl,jX k4,_,_,rfl,rfl,_,_,rfl,rfl,?_⟩
 have e:=Wr k4 b16
 show Q (.int (Builtin.bitAnd (b:Int) (1 * 2 ^ ((k:Int)).toNat - 1))) H
 rw [e]
 exact q
theorem uL:FnScope ["k","stage","line","firsts","first"] ["k","stage","line","firsts"] (zh (top 53)):=⟨rfl,rfl,rfl,by decide +kernel,rfl,by decide +kernel,by decide +kernel⟩
theorem jl (F:Fun K "in_order" "in_order" (top 53) f fd) (B:Blt mg) (qc0:zf P w K mg base n "with_figure" ["k","stage","line","wanted"] (xn K)) (qc1:zf P w K mg base n "switch_at" ["k","stage","line"] (xi K))    :
  FnOk P w K mg base CX0 (n + 1) f fd ["k","stage","line","firsts"] (xK K):=by
 refine F.ok uL xG (fun cdv A outer s H vs Q E hr h=>?_)
 obtain ⟨x,y,z,u,rfl,k,st,l,rows,rfl,rfl,rfl,⟨rs,xs,rfl,hs,hall⟩,k4,s1,s2,hl,hset,q⟩:=h
 refine ⟨_,(zd (zr (i:=4) uL.nd rfl (Or.inl rfl) (zC zT (zC zT (pv 3) (zA yH (pv 1) zi) (fun _ _=>rfl)) (ze qc1 hr rfl (za (pv 0) (za (pv 1) (za (pv 2) zb)))) (fun _ _=>rfl))) (zg (zo (zN (za (ze qc0 hr rfl (za (pv 0) (za (pv 1) (za (pv 2) (za (pv 4) zb))))) (za (ze qc0 hr rfl (za (pv 0) (za (pv 1) (za (pv 2) (za (zA yH zi (pv 4)) zb))))) zb)))))),?_⟩
 have p:=xm k4
 have O:=oneF k4 s1 s2 hl
 have hlt:=O.lt
 have hf:=Zt k4 hset s1 s2 hl
 have hb:=hset.bits (show st - 1 < k by omega)
 obtain ⟨ra,hra,hsa⟩:=UA hall (i:=(st:Int) - 1) (by omega) (by rw [hset.1]; omega)
 rw [show ((st:Int) - 1).toNat = st - 1 by omega] at hsa
 refine ⟨_,rfl,_,rfl,_,_,rfl,rfl,rs,_,_,_,rfl,rfl,hs,hra,_,rfl,_,rfl,_,rfl,_,_,_,rfl,k,st,l,rfl,rfl,rfl,k4,s2,by omega,by omega,?_⟩
 rw [O.sw,O.num]
 have hg:=getI (xs:=rows.getD (st - 1) []) (i:=(nN k st l:Int)) (by omega) (by rw [hb.1]; omega)
 rw [Int.toNat_natCast] at hg
 refine ⟨ra,_,_,_,rfl,rfl,hsa,hg,?_⟩
 have W1:=wfF k4 s1 s2 hl hf
 have W2:=wfF k4 s1 s2 hl (show 1 - fstI rows st (nN k st l) = 0 \/ 1 - fstI rows st (nN k st l) = 1 by omega)
 refine ⟨_,rfl,_,rfl,_,rfl,_,rfl,_,_,_,_,rfl,k,st,l,fstI rows st (nN k st l),rfl,rfl,rfl,rfl,k4,s2,by omega,by omega,hf,?_⟩
 refine ⟨_,rfl,_,rfl,_,rfl,_,rfl,_,_,rfl,rfl,_,_,_,_,rfl,k,st,l,1 - fstI rows st (nN k st l),rfl,rfl,rfl,rfl,k4,s2,by omega,by omega,by omega,szl rfl,fun t ht=>?_⟩
 refine q _ _ (Grow.new ht _) ⟨t,rfl,SqT.of ?_⟩
 rw [zc,W1.eq,W2.eq]; rfl
theorem zU:FnScope ["k","stage","asked","firsts","behind","kept","line","box","in_lines","deeds","out"] ["k","stage","asked","firsts"] (zh (top 54)):=⟨rfl,rfl,rfl,by decide +kernel,rfl,by decide +kernel,by decide +kernel⟩
theorem sF (F:Fun K "pass_stage" "pass_stage" (top 54) f fd) (B:Blt mg) (qc0:zf P w K mg base n "joined" ["one","other"] (wc K)) (qc1:zf P w K mg base n "switch_at" ["k","stage","line"] (xi K)) (qc2:zf P w K mg base n "onward" ["k","stage","line","side"] (uw K)) (qc3:zf P w K mg base n "side_for" ["k","box"] (uD K)) (qc4:zf P w K mg base n "in_order" ["k","stage","line","firsts"] (xK K))    :
  FnOk P w K mg base CX0 (n + 1) f fd ["k","stage","asked","firsts"] (rV K):=by
 refine F.ok zU xG (fun cdv A outer s H vs Q E hr h=>?_)
 obtain ⟨x,y,z,u,rfl,k,st,m,d,rows,ks,rfl,rfl,rfl,k4,s1,sk,m16,hd,hrw,hs,R,q⟩:=h
 refine ⟨_,(zd (zr (i:=4) zU.nd rfl (Or.inl rfl) v5) (zd (zr (i:=5) zU.nd rfl (Or.inl rfl) v5) (zd (xf PassesOwn.never rfl (US (pv 2)) (xc rfl (zk (zj (i:=6) zU.nd rfl (Or.inl rfl)) (zk (zj (i:=7) zU.nd rfl (Or.inr rfl)) zW))) (zd (zr (i:=8) zU.nd rfl (Or.inl rfl) (ze qc4 hr rfl (za (pv 0) (za (pv 1) (za (pv 6) (za (pv 3) zb)))))) (zd (sf (i:=9) zU.nd rfl rfl (CSc.of (N':=["in_line","asked","box"]) (sub:=[none,some 2,some 7]) (zh (top 54)) ["k","stage","asked","firsts","behind","kept","line","box","in_lines","deeds","out"] rfl rfl (by decide +kernel) rfl) rfl (yM (pv 8)) (fun _ _ _ _ _ _=>zj (i:=0) (show (["in_line","asked","box"]:List Str).Nodup by decide +kernel) rfl (Or.inl rfl)) (fun _ _ _ _ _ _=>(jJ (wQ (WR (Room.u1F hr) (zN (za (pv 0) (za (pv 2) zb))) (pv 1))))) (fun _ _ _ _ _ _=>(wN (Room.u1F hr) (pv 1) (zN (za (pv 0) (za (pv 2) zb))) (fun _ _=>rfl)))) (zd (zr (i:=10) zU.nd rfl (Or.inl rfl) (zN (za (ze qc2 hr rfl (za (pv 0) (za (pv 1) (za (pv 6) (za (ze qc3 hr rfl (za (pv 0) (za (pv 7) zb))) zb))))) (za (pv 7) zb)))) (zg (zV (zB xV (zm zp rfl B.len yZ (za (pv 9) zb)) zi (zE _)) (zd (uz (Room.u1F hr) (pv 5) (zN (za (ze qc1 hr rfl (za (pv 0) (za (pv 1) (za (pv 6) zb)))) (za (pv 7) zb))) (zC zI (pv 9) zi (fun _ _=>rfl)) rfl) (zg (uz (Room.u1F hr) (pv 4) (pv 10) (ze qc0 hr rfl (za (zC zI (pv 9) zi (fun _ _=>rfl)) (za (zC zI (pv 9) zi (fun _ _=>rfl)) zb))) rfl))) (zg (uz (Room.u1F hr) (pv 4) (pv 10) (zC zI (pv 9) zi (fun _ _=>rfl)) rfl)))))))) (zg (zo (zN (za (pv 4) (za (pv 5) zb)))))))),?_⟩
 have p16:=xm k4
 obtain ⟨kvs,hrd,tab,kl⟩:=hd
 have es:st = st - 1 + 1:=by omega
 have hdn:H d ≠ none:=by rcases hrd with z | ⟨o,z⟩ <;> rw [z] <;> exact fun z=>nomatch z
 refine yE (fun v H'=>∃ b0,v = .ref b0 /\ H b0 = none /\ H' = upd H b0 (.dT [])) (fun Kk hk=>fun p hp=>hk _ _ ⟨p,rfl,hp,rfl⟩) ?_
 rintro _ _ ⟨b0,rfl,hb0,rfl⟩
 have g1:=Grow.new (m:=[]) hb0 (.dT [])
 have eB1:=zc (H:=H) (a:=b0) (o:=.dT [])
 generalize upd H b0 (.dT []) = H1 at g1 eB1 ⊢
 refine yE (fun v H'=>∃ k0,v = .ref k0 /\ H1 k0 = none /\ H' = upd H1 k0 (.dT [])) (fun Kk hk=>fun p hp=>hk _ _ ⟨p,rfl,hp,rfl⟩) ?_
 rintro _ _ ⟨k0,rfl,hk1,rfl⟩
 have g2:=Grow.new (m:=[]) hk1 (.dT [])
 have eK2:=zc (H:=H1) (a:=k0) (o:=.dT [])
 have hk0:H k0 = none:=g1.free (by simp) hk1
 have bk0:b0 ≠ k0:=fun z=>by rw [z,hk1] at eB1; cases eB1
 have eB2:=g2.keep _ _ (by simp) eB1
 have g12:=g1.trans g2
 generalize upd H1 k0 (.dT []) = H2 at g2 g12 eK2 eB2 ⊢
 have nb:d ≠ b0:=fun z=>hdn (z ▸ hb0)
 have nk:d ≠ k0:=fun z=>hdn (z ▸ hk0)
 have hrd2:=Rd.growR g12 (.inl (by simp)) hrd
 refine ⟨_,rfl,d,kvs,rfl,hrd2,fun o H3 hd3 g3 same3=>?_⟩
 have eB3:H3 b0 = some (.dT []):=by rw [same3 b0 (Ne.symm nb)]; exact eB2
 have eK3:H3 k0 = some (.dT []):=by rw [same3 k0 (Ne.symm nk)]; exact eK2
 have hrw3:=g3.rows (g12.rows hrw)
 have tab3:TabR kvs (2 ^ k) m (lvR k rows ks (st - 1)) (zw K H3):=tab.imp fun v x hv=>g3.deed (g12.deed hv)
 refine WS (fun i σ H'=>∃ (e6 e7 e8 e9 e10:Option V) (bk kk:List (List Key × V)),σ = [some (.int k),some (.int st),some (.ref d),some u,some (.ref b0),some (.ref k0),e6,e7,e8,e9,e10] /\ Grow [b0,k0] H3 H' /\ H' b0 = some (.dT bk) /\ H' k0 = some (.dT kk) /\ Beh K H' k m rows ks st kvs i bk kk) ?_ ?_ ?_ ?_
 ·exact ⟨_,_,_,_,_,[],[],rfl,Grow.refl _ _,eB3,eK3,Beh.nil⟩
 ·rintro i σ H' _ ⟨e6,e7,e8,e9,e10,bk,kk,rfl,g,_⟩
  exact g.frz _ _ _ hd3
 ·rintro i p bb σ H4 hp hbb ⟨e6,e7,e8,e9,e10,bk,kk,rfl,g4,hB4,hK4,beh⟩
  obtain ⟨l,b,dd,ep,hl,hb,hlv,hdd⟩:=tab3.keys p (List.mem_of_getElem? hp)
  obtain ⟨pk,v⟩:=p
  cases (show pk = keyR l b from ep)
  have b16:b < 16:=by omega
  have hi:i < kvs.length:=(List.getElem?_eq_some_iff.mp hp).1
  refine ⟨bb,[.int l,.int b],rfl,SqT.of hbb,rfl,_,_,rfl,_,_,rfl,rfl,?_⟩
  refine yE (fun v H'=>Wf K H' v [x0R k rows st l,x1R k rows st l] /\ Grow [] H4 H') (fun Kk hk=>⟨_,rfl,_,rfl,_,rfl,_,rfl,_,_,_,_,rfl,k,st,l,rows,rfl,rfl,rfl,g4.rows hrw3,k4,s1,sk,hl,hs,fun y H' g hn=>hk _ _ ⟨hn,g⟩⟩) ?_
  rintro _ H5 ⟨⟨ri,rfl,hri⟩,g5⟩
  have X:=xF (rows:=rows) k4 hs s1 sk hl
  have fz:∀ H',Grow [] H4 H' -> H' d = some (.frz o (.dT kvs)):=fun H' g=>g.frz _ _ _ (g4.frz _ _ _ hd3)
  have fz5:=fz H5 g5
  refine yE (fun v H'=>∃ l9,v = .ref l9 /\ H' l9 = some (.lst ((valV kvs (keyR (x0R k rows st l) b)).toList ++ (valV kvs (keyR (x1R k rows st l) b)).toList)) /\ Grow [] H5 H') (fun Kk hk=>⟨_,rfl,ri,rfl,⟨_,hri⟩,vY (xs:=xJ [x0R k rows st l,x1R k rows st l]) (fun n ys σ' H'=>Grow [] H5 H' /\ (∃ e,σ' = [e,some (.ref d),some (.int b)]) /\ ys = (([x0R k rows st l,x1R k rows st l].take n).flatMap fun x=>(valV kvs (keyR x b)).toList)) ⟨Grow.refl _ _,⟨_,rfl⟩,rfl⟩ (fun n ys σ' H' _ z=>z.1.sqT hri) ?_ ?_⟩) ?_
  ·rintro n y ys σ' H' hy ⟨g,⟨e,rfl⟩,rfl⟩
   have fin:∀ x:Nat,y = .int x -> (([x0R k rows st l,x1R k rows st l].take (n + 1)).flatMap fun x=>(valV kvs (keyR x b)).toList) = (([x0R k rows st l,x1R k rows st l].take n).flatMap fun x=>(valV kvs (keyR x b)).toList) ++ (valV kvs (keyR x b)).toList -> (([x0R k rows st l,x1R k rows st l].take n).flatMap fun x=>(valV kvs (keyR x b)).toList).length < sizeLine →
     tB (tDIn (tTup (Yc (tVar 0) (Yc (tVar 2) tNil))) (tVar 1)) [some y,some (.ref d),some (.int b)] H' (fun t H4=>if t = true then UO (tVar 1) (tTup (Yc (tVar 0) (Yc (tVar 2) tNil))) [some y,some (.ref d),some (.int b)] H4 fun y' H5'=>(([x0R k rows st l,x1R k rows st l].take n).flatMap fun x=>(valV kvs (keyR x b)).toList).length < sizeLine /\ Grow [] H5 H5' /\ (∃ e,[some y,some (V.ref d),some (V.int b)] = [e,some (.ref d),some (.int b)]) /\ (([x0R k rows st l,x1R k rows st l].take n).flatMap fun x=>(valV kvs (keyR x b)).toList) ++ [y'] = (([x0R k rows st l,x1R k rows st l].take (n + 1)).flatMap fun x=>(valV kvs (keyR x b)).toList) else Grow [] H5 H4 /\ (∃ e,[some y,some (V.ref d),some (V.int b)] = [e,some (.ref d),some (.int b)]) /\ (([x0R k rows st l,x1R k rows st l].take n).flatMap fun x=>(valV kvs (keyR x b)).toList) = (([x0R k rows st l,x1R k rows st l].take (n + 1)).flatMap fun x=>(valV kvs (keyR x b)).toList)):=by
    rintro x rfl et hsz
    rw [et]
    refine ⟨_,rfl,_,rfl,szl rfl,fun t ht=>?_⟩
    have gt:=Grow.new (m:=[]) ht (.tup [.int x,.int b])
    refine ⟨_,rfl,d,valV kvs (keyR x b),rfl,Xa (gt.frz _ _ _ (g.frz _ _ _ fz5)) zc,_,rfl,?_⟩
    cases hv:valV kvs (keyR x b) with
    | none=>exact iteF ⟨g.trans gt,⟨_,rfl⟩,by rw [show (none:Option V).toList = [] from rfl,List.append_nil]⟩
    | some v =>
     refine y0 rfl ⟨_,rfl,_,rfl,_,rfl,szl rfl,fun t2 ht2=>?_⟩
     have gt2:=Grow.new (m:=[]) ht2 (.tup [.int x,.int b])
     have gx:=Xa (l:=x) (b:=b) (gt2.frz _ _ _ (gt.frz _ _ _ (g.frz _ _ _ fz5))) (zc (H:=upd H' t (.tup [.int x,.int b])) (a:=t2) (o:=.tup [.int x,.int b]))
     rw [hv] at gx
     exact ⟨d,v,rfl,gx,hsz,g.trans (gt.trans gt2),⟨_,rfl⟩,rfl⟩
   have small:∀ o:Option V,o.toList.length <= 1:=fun o=>by cases o <;> simp
   match n,hy with
   | 0,hy=>cases Option.some.inj hy; exact fin _ rfl (by simp [List.flatMap_cons]) (zX (by simp))
   | 1,hy =>
    cases Option.some.inj hy
    refine fin _ rfl (by simp [List.flatMap_cons]) (zX ?_)
    have:=small (valV kvs (keyR (x0R k rows st l) b))
    simp [List.flatMap_cons]; omega
  ·rintro ys σ' H' ⟨g,_,rfl⟩ l9 hl9
   refine hk _ _ ⟨l9,rfl,?_,g.trans (Grow.new hl9 _)⟩
   rw [zc]
   simp [List.flatMap_cons,xJ]
  rintro _ H6 ⟨l9,rfl,h9,g6⟩
  have fz6:=g6.frz _ _ _ fz5
  have W:=outF (b:=b) k4 s1 sk hl
  refine yE (fun v H'=>∃ t,v = .ref t /\ H' t = some (.tup [.int (outR k st l b:Nat),.int b]) /\ Grow [] H6 H') (fun Kk hk=>⟨_,rfl,_,rfl,_,rfl,_,rfl,_,rfl,_,_,rfl,k,b,rfl,rfl,k4,b16,_,_,_,_,rfl,k,st,l,((b % 2 ^ k:Nat):Int),rfl,rfl,rfl,rfl,k4,sk,by omega,by omega,by omega,by have:=yS (k:=k) (b:=b); omega,_,rfl,szl rfl,fun t ht=>hk _ _ ⟨t,rfl,?_,Grow.new ht _⟩⟩) ?_
  ·rw [zc,W.eq]; rfl
  rintro _ H7 ⟨t,rfl,ht,g7⟩
  have G7:=g5.trans (g6.trans g7)
  have h97:=g7.keep _ _ (by simp) h9
  have tab7:TabR kvs (2 ^ k) m (lvR k rows ks (st - 1)) (zw K H7):=tab3.imp fun v x hv=>G7.deed (g4.deed hv)
  have B7:=beh.grow G7
  have hB7:=G7.keep _ _ (by simp) hB4
  have hK7:=G7.keep _ _ (by simp) hK4
  have G37:Grow [b0,k0] H3 H7:=g4.trans G7.wk
  have lvo:lvR k rows ks st (outR k st l b) b = Zw (lvR k rows ks (st - 1) (x0R k rows st l) b) (lvR k rows ks (st - 1) (x1R k rows st l) b):=by
   have:=WU (ks:=ks) (b:=b) k4 hs (s:=st - 1) (by omega) hl
   rw [← es] at this; exact this
  have val0:=tab7.val X.lt0 hb
  have val1:=tab7.val X.lt1 hb
  have tb:=beh.bl
  have tk:=beh.kl
  have O:=oneF k4 s1 sk hl
  have single:∀ (w:V) (x:Deed),H7 l9 = some (.lst [w]) -> lvR k rows ks st (outR k st l b) b = some x -> zw K H7 w x -> kpR k rows ks st l b = none -> ∃ (e6 e7 e8 e9 e10:Option V) (bk' kk':List (List Key × V)),[some (V.int k),some (.int st),some (.ref d),some u,some (.ref b0),some (.ref k0),some (.int l),some (.int b),some (.ref ri),some (.ref l9),some (.ref t)] = [some (.int k),some (.int st),some (.ref d),some u,some (.ref b0),some (.ref k0),e6,e7,e8,e9,e10] /\ Grow [b0,k0] H3 (upd H7 b0 (.dT (putK bk (keyR (outR k st l b) b) w))) /\ upd H7 b0 (.dT (putK bk (keyR (outR k st l b) b) w)) b0 = some (.dT bk') /\ upd H7 b0 (.dT (putK bk (keyR (outR k st l b) b) w)) k0 = some (.dT kk') /\ Beh K (upd H7 b0 (.dT (putK bk (keyR (outR k st l b) b) w))) k m rows ks st kvs (i + 1) bk' kk':=fun w x _ hx hw hkp=>by
   have gs:Grow [b0,k0] H7 (upd H7 b0 (.dT (putK bk (keyR (outR k st l b) b) w))):=Grow.setR hB7 (by simp)
   exact ⟨_,_,_,_,_,_,kk,rfl,G37.trans gs,zc,by rw [zn (Ne.symm bk0)]; exact hK7,(B7.one hp W.lt hb hx hw hkp).grow gs⟩
  cases h0:lvR k rows ks (st - 1) (x0R k rows st l) b with
  | none =>
   rw [h0] at val0 lvo
   cases h1:lvR k rows ks (st - 1) (x1R k rows st l) b with
   | none =>
    rcases X.or with e | e
    ·rw [← e,hlv] at h0; cases h0
    ·rw [← e,hlv] at h1; cases h1
   | some d1 =>
    rw [h1] at val1 lvo
    obtain ⟨v1,e1,w1⟩:=val1
    have kn:kpR k rows ks st l b = none:=by unfold kpR; rw [h0]
    rw [(show valV kvs (keyR (x0R k rows st l) b) = none from val0),e1] at h97
    refine ⟨_,rfl,l9,_,rfl,.inl (SqL.of h97),rfl,_,rfl,yG (decide_eq_false fun z=>nomatch V.int.inj z) ?_⟩
    exact ⟨_,rfl,l9,_,0,v1,rfl,rfl,SqL.of h97,rfl,_,rfl,_,rfl,b0,_,rfl,DPut.t (k:=keyR (outR k st l b) b) hB7 ht (zX (by omega)),single v1 d1 h97 lvo w1 kn⟩
  | some d0 =>
   rw [h0] at val0
   obtain ⟨v0,e0,w0⟩:=val0
   cases h1:lvR k rows ks (st - 1) (x1R k rows st l) b with
   | none =>
    rw [h0,h1] at lvo
    rw [h1] at val1
    have kn:kpR k rows ks st l b = none:=by unfold kpR; rw [h0,h1]
    rw [e0,(show valV kvs (keyR (x1R k rows st l) b) = none from val1)] at h97
    refine ⟨_,rfl,l9,_,rfl,.inl (SqL.of h97),rfl,_,rfl,yG (decide_eq_false fun z=>nomatch V.int.inj z) ?_⟩
    exact ⟨_,rfl,l9,_,0,v0,rfl,rfl,SqL.of h97,rfl,_,rfl,_,rfl,b0,_,rfl,DPut.t (k:=keyR (outR k st l b) b) hB7 ht (zX (by omega)),single v0 d0 h97 lvo w0 kn⟩
   | some d1 =>
    rw [h0,h1] at lvo
    rw [h1] at val1
    obtain ⟨v1,e1,w1⟩:=val1
    have kn:kpR k rows ks st l b = some d0:=by unfold kpR; rw [h0,h1]
    rw [e0,e1] at h97
    refine ⟨_,rfl,l9,_,rfl,.inl (SqL.of h97),rfl,_,rfl,y0 (decide_eq_true rfl) ?_⟩
    refine ⟨_,rfl,l9,_,0,v0,rfl,rfl,SqL.of h97,rfl,_,rfl,_,rfl,_,rfl,_,rfl,_,_,_,rfl,k,st,l,rfl,rfl,rfl,k4,sk,by omega,by omega,_,rfl,szl rfl,fun t2 ht2=>?_⟩
    rw [O.sw,O.num]
    have g8:=Grow.new (m:=[]) ht2 (.tup [.int (nN k st l:Nat),.int b])
    have e8:=zc (H:=H7) (a:=t2) (o:=.tup [.int (nN k st l:Nat),.int b])
    have hB8:=g8.keep _ _ (by simp) hB7
    have hK8:=g8.keep _ _ (by simp) hK7
    have h98:=g8.keep _ _ (by simp) h97
    have ht8:=g8.keep _ _ (by simp) ht
    have w0':=g8.deed w0
    have w1':=g8.deed w1
    have B8:=B7.grow g8
    generalize upd H7 t2 (.tup [.int (nN k st l:Nat),.int b]) = H8 at g8 e8 hB8 hK8 h98 ht8 w0' w1' B8 ⊢
    refine ⟨k0,_,rfl,DPut.t (k:=keyR (nN k st l) b) hK8 e8 (zX (by omega)),?_⟩
    have g9:Grow [b0,k0] H8 (upd H8 k0 (.dT (putK kk (keyR (nN k st l) b) v0))):=Grow.setR hK8 (by simp)
    have hB9:upd H8 k0 (.dT (putK kk (keyR (nN k st l) b) v0)) b0 = some (.dT bk):=by rw [zn bk0]; exact hB8
    have hK9:=zc (H:=H8) (a:=k0) (o:=.dT (putK kk (keyR (nN k st l) b) v0))
    have n9:l9 ≠ k0:=WZ h98 hK8 (fun z=>nomatch z)
    have nt9:t ≠ k0:=WZ ht8 hK8 (fun z=>nomatch z)
    have h99:upd H8 k0 (.dT (putK kk (keyR (nN k st l) b) v0)) l9 = some (.lst [v0,v1]):=by rw [zn n9]; exact h98
    have ht9:upd H8 k0 (.dT (putK kk (keyR (nN k st l) b) v0)) t = some (.tup [.int (outR k st l b:Nat),.int b]):=by rw [zn nt9]; exact ht8
    generalize upd H8 k0 (.dT (putK kk (keyR (nN k st l) b) v0)) = H9 at g9 hB9 hK9 h99 ht9 ⊢
    refine ⟨_,rfl,l9,_,0,v0,rfl,rfl,SqL.of h99,rfl,_,rfl,l9,_,1,v1,rfl,rfl,SqL.of h99,rfl,_,_,rfl,d0,d1,g9.deed w0',g9.deed w1',fun t3 ht3=>?_⟩
    have ga:=Grow.new (m:=[]) ht3 (.tup (zP d0 d1).vs)
    have hBa:=ga.keep _ _ (by simp) hB9
    have hKa:=ga.keep _ _ (by simp) hK9
    have hta:=ga.keep _ _ (by simp) ht9
    have wj:zw K (upd H9 t3 (.tup (zP d0 d1).vs)) (.ref t3) (zP d0 d1):=⟨t3,rfl,SqT.of zc⟩
    have Ga:Grow [b0,k0] H3 (upd H9 t3 (.tup (zP d0 d1).vs)):=G37.trans (g8.wk.trans (g9.trans ga.wk))
    have Ba:=(B8.grow g9).grow ga
    have wa:=ga.deed (g9.deed w0')
    generalize upd H9 t3 (.tup (zP d0 d1).vs) = Ha at ga hBa hKa hta wj Ga Ba wa ⊢
    refine ⟨_,rfl,_,rfl,b0,_,rfl,DPut.t (k:=keyR (outR k st l b) b) hBa hta (zX (by omega)),?_⟩
    have gs:Grow [b0,k0] Ha (upd Ha b0 (.dT (putK bk (keyR (outR k st l b) b) (.ref t3)))):=Grow.setR hBa (by simp)
    exact ⟨_,_,_,_,_,_,_,rfl,Ga.trans gs,zc,by rw [zn (Ne.symm bk0)]; exact hKa,(Ba.two hp hl W.lt hb lvo wj kn wa).grow gs⟩
 ·rintro σ H4 ⟨e6,e7,e8,e9,e10,bk,kk,rfl,g4,hB4,hK4,beh⟩
  have tab4:TabR kvs (2 ^ k) m (lvR k rows ks (st - 1)) (zw K H4):=tab3.imp fun v x hv=>g4.deed hv
  obtain ⟨L1,L2⟩:=beh.done k4 hs s1 sk tab4 kl hB4 hK4
  refine ⟨_,rfl,_,rfl,szl rfl,fun r hr'=>?_⟩
  have g5:=Grow.new (m:=[]) hr' (.tup [.ref b0,.ref k0])
  have G:Grow [d] H (upd H4 r (.tup [.ref b0,.ref k0])):=by
   have a1:Grow [d,b0,k0] H H3:=(g12.wk.trans (g3.mono (by simp)))
   have a2:Grow [d,b0,k0] H3 H4:=g4.mono (by simp)
   refine (a1.trans (a2.trans g5.wk)).less fun b hb=>?_
   simp only [List.mem_cons,List.mem_nil_iff,or_false] at hb
   rcases hb with rfl | rfl | rfl
   ·exact .inl (by simp)
   ·exact .inr hb0
   ·exact .inr hk0
  exact q r b0 k0 _ G hb0 hk0 bk0 (SqT.of zc) (L1.grow g5 (by simp)) (L2.grow g5 (by simp)) ⟨kvs,.inr ⟨o,g5.frz _ _ _ (g4.frz _ _ _ hd3)⟩,tab4.imp fun v x hv=>g5.deed hv,kl⟩
theorem yI:FnScope ["k","asks","firsts","levels","stages","stage","behind","kept"] ["k","asks","firsts"] (zh (top 55)):=⟨rfl,rfl,rfl,by decide +kernel,rfl,by decide +kernel,by decide +kernel⟩
theorem jm (F:Fun K "pass_net" "pass_net" (top 55) f fd) (B:Blt mg) (qc0:zf P w K mg base n "pass_stage" ["k","stage","asked","firsts"] (rV K))    :
  FnOk P w K mg base CX0 (n + 1) f fd ["k","asks","firsts"] (uE K):=by
 refine F.ok yI xj (fun cdv A outer s H vs Q E hr h=>?_)
 obtain ⟨x,y,z,rfl,k,m,rows,ks,rfl,k4,m16,k16,hks,hrw,hs,R,q⟩:=h
 refine ⟨_,(zd (zr (i:=3) yI.nd rfl (Or.inl rfl) (yA (za (Wl (Room.u1F hr) (CSc.of (N':=["hand","box","deed"]) (sub:=[none,none,none]) (zh (top 55)) ["k","asks","firsts","levels","stages","stage","behind","kept"] rfl rfl (by decide +kernel) rfl) rfl (yM (pv 1)) (fun _ _ _ _ _ _=>wf (K:=K) 3 rfl rfl (zk (zj (i:=0) (show (["hand","box","deed"]:List Str).Nodup by decide +kernel) rfl (Or.inl rfl) (Or.inr rfl)) (zk (zj (i:=1) (show (["hand","box","deed"]:List Str).Nodup by decide +kernel) rfl (Or.inl rfl) (Or.inr rfl)) (zk (zj (i:=2) (show (["hand","box","deed"]:List Str).Nodup by decide +kernel) rfl (Or.inl rfl) (Or.inr rfl)) zW))) rfl rfl) (fun _ _ _ _ _ _=>zF) (fun _ _ _ _ _ _=>(zN (za (pv 0) (za (pv 1) zb)))) (fun _ _ _ _ _ _=>(pv 2))) zb))) (zd (zr (i:=4) yI.nd rfl (Or.inl rfl) (yA zb)) (zd (xf PassesOwn.never rfl (sW rfl B.range (za zi (za (zA xt (pv 0) zi) zb))) (zj (i:=5) yI.nd rfl (Or.inl rfl)) (zd (xU (ze qc0 hr rfl (za (pv 0) (za (pv 5) (za (zC zI (pv 3) (W5 Z6 zi) (fun _ _=>rfl)) (za (pv 2) zb))))) (xc rfl (zk (zj (i:=6) yI.nd rfl (Or.inl rfl)) (zk (zj (i:=7) yI.nd rfl (Or.inl rfl)) zW)))) (zd (zz (ud PySem.F.plainAttrs_list PySem.F.slot_list_append PySem.F.type_list_append yN (pv 3) (za (pv 6) zb))) (zg (zz (ud PySem.F.plainAttrs_list PySem.F.slot_list_append PySem.F.type_list_append yN (pv 4) (za (pv 7) zb))))))) (zg (zo (zN (za (pv 3) (za (pv 4) zb)))))))),?_⟩
 have p16:=xm k4
 obtain ⟨ra,xs,rfl,hra,hxs⟩:=hks
 have xl:=hxs.len
 refine yE (fun v H'=>∃ lL d0 vs,v = .ref lL /\ H' lL = some (.lst [.ref d0]) /\ H' d0 = some (.dT (lv0K ks vs)) /\ vs.length = ks.length /\ (∀ (i:Nat) (a:Ask) (v:V),ks[i]? = some a -> vs[i]? = some v -> zw K H' v a.deed) /\ Grow [] H H' /\ H d0 = none /\ H lL = none) (fun Kk hk=>⟨_,rfl,ra,rfl,⟨_,hra⟩,Y8 (xs:=xs) (fun n kvs Hb σ' H'=>Grow [] H H' /\ Grow [] Hb H' /\ (∃ e1 e2 e3,σ' = [e1,e2,e3]) /\ n <= ks.length /\ ∃ vs,kvs = lv0K (ks.take n) vs /\ vs.length = n /\ ∀ (i:Nat) (a:Ask) (v:V),ks[i]? = some a -> vs[i]? = some v -> zw K H' v a.deed) ⟨Grow.refl _ _,Grow.refl _ _,⟨_,_,_,rfl⟩,Nat.zero_le _,[],rfl,rfl,fun i a v _ h=>by cases h⟩ (fun n kvs Hb σ' H' z=>z.1.sqT hra) ?_ ?_⟩) ?_
 ·rintro n x kvs Hb σ' H' hx ⟨g,gb,⟨e1,e2,e3,rfl⟩,hn,vs,rfl,vl,hv⟩
  obtain ⟨a,ha,r,rd,rfl,h1,h2⟩:=hxs.get hx
  have hn':=(List.getElem?_eq_some_iff.mp ha).1
  have am:=List.mem_of_getElem? ha
  refine ⟨r,_,rfl,g.sqT h1,rfl,_,_,rfl,_,_,rfl,_,_,rfl,rfl,?_⟩
  refine ⟨_,rfl,_,rfl,szl rfl,fun t ht=>?_⟩
  have gt:=Grow.new (m:=[]) ht (.tup [.int a.hand,.int a.box])
  refine ⟨_,rfl,zX (by rw [Xb]; omega),t,keyR a.hand.toNat a.box.toNat,rfl,?_,(fun c xs e=>gt.tup _ _ (gb.tup _ _ e)),g.trans gt,Grow.refl _ _,⟨_,_,_,rfl⟩,hn',vs ++ [.ref rd],VF R ha vl,by rw [List.length_append]; show vs.length + 1 = _; omega,?_⟩
  ·rw [Ws (R.hand a am).1 (R.box a am).1]; exact zc
  ·intro i a' v' hi hv'
   by_cases c:i < vs.length
   ·rw [List.getElem?_append_left c] at hv'
    exact gt.deed (hv i a' v' hi hv')
   ·have e:i = n:=by have:=(List.getElem?_eq_some_iff.mp hv').1; rw [List.length_append] at this; have:i < vs.length + 1:=this; omega
    rw [e,ha] at hi
    rw [e,← vl,List.getElem?_concat_length] at hv'
    cases Option.some.inj hi
    cases Option.some.inj hv'
    exact ⟨rd,rfl,gt.sqT (g.sqT h2)⟩
 ·rintro kvs Hb σ' H' ⟨g,gb,_,_,vs,rfl,vl,hv⟩
  refine ⟨fun b xs e=>gb.tup _ _ e,fun d0 hd0=>⟨szl rfl,fun lL hlL=>?_⟩⟩
  have g1:=Grow.new (m:=[]) hd0 (.dT (lv0K (ks.take xs.length) vs))
  have g2:=Grow.new (m:=[]) hlL (.lst [.ref d0])
  rw [xl,List.take_length] at g1 g2 hlL ⊢
  exact hk _ _ ⟨lL,d0,vs,rfl,zc,g2.keep _ _ (by simp) zc,by omega,fun i a v h1 h2=>g2.deed (g1.deed (hv i a v h1 h2)),g.trans (g1.trans g2),g.free (by simp) hd0,g.free (by simp) (g1.free (by simp) hlL)⟩
 rintro _ H1 ⟨lL,d0,vs,rfl,hL1,hd1,vl,hv1,g1,hd0,hlL⟩
 refine yE (fun v H'=>∃ lS,v = .ref lS /\ H1 lS = none /\ H' = upd H1 lS (.lst [])) (fun Kk hk=>⟨szl rfl,fun lS hlS=>hk _ _ ⟨lS,rfl,hlS,rfl⟩⟩) ?_
 rintro _ _ ⟨lS,rfl,hlS,rfl⟩
 have g2:=Grow.new (m:=[]) hlS (.lst [])
 have hS2:=zc (H:=H1) (a:=lS) (o:=.lst [])
 have hL2:=g2.keep _ _ (by simp) hL1
 have hd2:=g2.keep _ _ (by simp) hd1
 have nLS:lL ≠ lS:=fun z=>by rw [z,hlS] at hL1; cases hL1
 have hlS0:H lS = none:=g1.free (by simp) hlS
 have G2:=g1.trans g2
 have N2:NetR K (upd H1 lS (.lst [])) k m rows ks [d0] []:=by
  refine ⟨fun s d h=>?_,fun s d h=>(by cases h),by simp⟩
  match s,h with
  | 0,h =>
   cases Option.some.inj h
   exact ⟨_,.inl hd2,VE R vl fun i a v h1 h2=>g2.deed (hv1 i a v h1 h2),by rw [Xb]; omega⟩
 generalize upd H1 lS (.lst []) = H2 at g2 hS2 hL2 hd2 G2 N2 ⊢
 refine ⟨_,rfl,_,_,rfl,rfl,_,_,rfl,⟨by omega,by omega,by omega,by omega⟩,xZ (fun i σ H'=>∃ (ds kps:List Addr) (e5 e6 e7:Option V),σ = [some (.int k),some (.ref ra),some z,some (.ref lL),some (.ref lS),e5,e6,e7] /\ ds.length = i + 1 /\ kps.length = i /\ H' lL = some (.lst (ds.map V.ref)) /\ H' lS = some (.lst (kps.map V.ref)) /\ NetR K H' k m rows ks ds kps /\ (∀ d ∈ ds ++ kps,H d = none) /\ Grow [] H H') ?_ ?_ ?_⟩
 ·exact ⟨[d0],[],_,_,_,rfl,rfl,rfl,hL2,hS2,N2,(fun d hd=>by rw [show d = d0 from by simpa using hd]; exact hd0),G2⟩
 ·rintro i σ H3 hi ⟨ds,kps,e5,e6,e7,rfl,dl,kpl,hL3,hS3,N3,fr3,G3⟩
  have hik:i + 1 <= k:=by omega
  obtain ⟨ds0,d,rfl⟩:=Wt (xs:=ds) (fun z=>by rw [z] at dl; cases dl)
  have dl0:ds0.length = i:=by rw [List.length_append] at dl; have:ds0.length + 1 = i + 1:=dl; omega
  have hLd:LvAt K H3 k m rows ks i d:=N3.lv i d (by rw [← dl0,List.getElem?_concat_length])
  have last:atI ((ds0 ++ [d]).map V.ref) (-1) = some (.ref d):=Tz
  have nL:∀ e ∈ (ds0 ++ [d]) ++ kps,e ≠ lL /\ e ≠ lS:=fun e he=>by
   obtain ⟨kv,hk⟩:=N3.isD he
   exact ⟨Rd.ne_lst hk hL3,Rd.ne_lst hk hS3⟩
  have nLd:=nL d (by simp)
  refine ⟨_,rfl,_,rfl,_,rfl,_,rfl,lL,_,_,_,rfl,rfl,SqL.of hL3,last,_,rfl,_,_,_,_,rfl,k,i + 1,m,d,rows,ks,rfl,congrArg V.int (by omega),rfl,k4,by omega,hik,m16,hLd,G3.rows hrw,hs,R,fun r b' kp H4 g4 hb' hkp nbk s4 L4 K4 L4'=>?_⟩
  refine ⟨r,[.ref b',.ref kp],rfl,s4,rfl,_,_,rfl,_,_,rfl,rfl,?_⟩
  have hL4:=g4.keep _ _ (by simpa using Ne.symm nLd.1) hL3
  have hS4:=g4.keep _ _ (by simpa using Ne.symm nLd.2) hS3
  have nb:∀ e ∈ (ds0 ++ [d]) ++ kps,e ≠ b' /\ e ≠ kp:=fun e he=>by
   obtain ⟨kv,hk⟩:=N3.isD he
   exact ⟨fun z=>Rd.ne_none hk (z ▸ hb'),fun z=>Rd.ne_none hk (z ▸ hkp)⟩
  have ndd:∀ e ∈ ds0 ++ kps,e ≠ d:=fun e he z=>by
   have nd:=N3.nd
   rw [List.append_assoc] at nd
   rcases List.mem_append.mp he with h | h
   ·exact (List.nodup_append.mp nd).2.2 e h d (by simp) z
   ·have:=(List.nodup_append.mp nd).2.1
    rw [List.singleton_append,List.nodup_cons] at this
    exact this.1 (z ▸ h)
  have N4:NetR K H4 k m rows ks (ds0 ++ [d] ++ [b']) (kps ++ [kp]):=by
   refine ⟨fun s e h=>?_,fun s e h=>?_,?_⟩
   ·by_cases c:s < (ds0 ++ [d]).length
    ·rw [List.getElem?_append_left c] at h
     by_cases c2:s < ds0.length
     ·rw [List.getElem?_append_left c2] at h
      exact (N3.lv s e (by rw [List.getElem?_append_left c2]; exact h)).grow g4 (by simpa using ndd e (List.mem_append_left _ (List.mem_of_getElem? h)))
     ·have es:s = ds0.length:=by rw [List.length_append] at c; have:s < ds0.length + 1:=c; omega
      rw [es,List.getElem?_concat_length] at h
      cases Option.some.inj h
      rw [es,dl0]; exact L4'
    ·have es:s = (ds0 ++ [d]).length:=by have:=(List.getElem?_eq_some_iff.mp h).1; rw [List.length_append (bs:=[b'])] at this; have:s < (ds0 ++ [d]).length + 1:=this; omega
     rw [es,List.getElem?_concat_length] at h
     cases Option.some.inj h
     rw [es,dl]; exact L4
   ·by_cases c:s < kps.length
    ·rw [List.getElem?_append_left c] at h
     exact (N3.kp s e h).grow g4 (by simpa using ndd e (List.mem_append_right _ (List.mem_of_getElem? h)))
    ·have es:s = kps.length:=by have:=(List.getElem?_eq_some_iff.mp h).1; rw [List.length_append] at this; have:s < kps.length + 1:=this; omega
     rw [es,List.getElem?_concat_length] at h
     cases Option.some.inj h
     rw [es,kpl]; exact K4
   ·exact ZA N3.nd (fun e he=>(nb e he).1) (fun e he=>(nb e he).2) nbk
  have fr4:∀ e ∈ (ds0 ++ [d] ++ [b']) ++ (kps ++ [kp]),H e = none:=fun e he=>by
   rcases List.mem_append.mp he with h | h
   ·rcases List.mem_append.mp h with h | h
    ·exact fr3 e (List.mem_append_left _ h)
    ·rw [List.mem_singleton.mp h]; exact G3.free (by simp) hb'
   ·rcases List.mem_append.mp h with h | h
    ·exact fr3 e (List.mem_append_right _ h)
    ·rw [List.mem_singleton.mp h]; exact G3.free (by simp) hkp
  have G4:Grow [] H H4:=(G3.wk.trans g4).fresh fun b hb=>by rw [List.mem_singleton.mp hb]; exact fr3 d (by simp)
  have nL4:∀ e ∈ (ds0 ++ [d] ++ [b']) ++ (kps ++ [kp]),e ∉ [lL]:=fun e he z=>by
   obtain ⟨kv,hk⟩:=N4.isD he
   exact Rd.ne_lst hk hL4 (by simpa using z)
  have nS4:∀ e ∈ (ds0 ++ [d] ++ [b']) ++ (kps ++ [kp]),e ∉ [lS]:=fun e he z=>by
   obtain ⟨kv,hk⟩:=N4.isD he
   exact Rd.ne_lst hk hS4 (by simpa using z)
  refine ⟨_,rfl,.inl ⟨rfl,_,SqL.of hL4⟩,_,rfl,lL,_,_,rfl,rfl,hL4,zX (by rw [List.length_map]; omega),?_⟩
  have g5:Grow [lL] H4 (upd H4 lL (.lst ((ds0 ++ [d]).map V.ref ++ [.ref b']))):=Grow.set hL4 (by simp) _
  have hL5:=zc (H:=H4) (a:=lL) (o:=.lst ((ds0 ++ [d]).map V.ref ++ [.ref b']))
  have hS5:upd H4 lL (.lst ((ds0 ++ [d]).map V.ref ++ [.ref b'])) lS = some (.lst (kps.map V.ref)):=by rw [zn (Ne.symm nLS)]; exact hS4
  have N5:=N4.grow g5 nL4
  have G5:Grow [] H (upd H4 lL (.lst ((ds0 ++ [d]).map V.ref ++ [.ref b']))):=(G4.wk.trans g5).fresh fun b hb=>by rw [List.mem_singleton.mp hb]; exact hlL
  generalize upd H4 lL (.lst ((ds0 ++ [d]).map V.ref ++ [.ref b'])) = H5 at g5 hL5 hS5 N5 G5 ⊢
  refine ⟨_,rfl,.inl ⟨rfl,_,SqL.of hS5⟩,_,rfl,lS,_,_,rfl,rfl,hS5,zX (by rw [List.length_map]; omega),?_⟩
  have g6:Grow [lS] H5 (upd H5 lS (.lst (kps.map V.ref ++ [.ref kp]))):=Grow.set hS5 (by simp) _
  refine ⟨ds0 ++ [d] ++ [b'],kps ++ [kp],_,_,_,rfl,by rw [List.length_append,dl]; rfl,by rw [List.length_append,kpl]; rfl,?_,?_,N5.grow g6 nS4,fr4,(G5.wk.trans g6).fresh fun b hb=>by rw [List.mem_singleton.mp hb]; exact hlS0⟩
  ·rw [zn nLS,hL5,List.map_append (l₂:=[b'])]; rfl
  ·rw [zc,List.map_append (l₂:=[kp])]; rfl
 ·rintro σ H3 ⟨ds,kps,e5,e6,e7,rfl,dl,kpl,hL3,hS3,N3,fr3,G3⟩
  have ek:((k:Int) + 1 - 1).toNat = k:=by omega
  rw [ek] at dl kpl
  refine ⟨_,rfl,_,rfl,szl rfl,fun r hr'=>?_⟩
  have g5:=Grow.new (m:=[]) hr' (.tup [.ref lL,.ref lS])
  exact q r lL lS ds kps _ (G3.trans g5) (SqT.of zc) (g5.keep _ _ (by simp) hL3) (g5.keep _ _ (by simp) hS3) dl kpl (N3.grow g5 (by simp)) fr3
theorem jn:FnScope ["thing"] ["thing"] (zh (top 12)):=⟨rfl,rfl,rfl,by decide +kernel,rfl,by decide +kernel,by decide +kernel⟩
theorem jo (F:Fun K "is_whole" "is_whole" (top 12) f fd) (B:Blt mg)     :
  FnOk P w K mg base CX0 (n + 1) f fd ["thing"] (z7 K):=by
 refine F.ok jn yh (fun cdv A outer s H vs Q E hr h=>?_)
 obtain ⟨x,rfl,⟨T,ty⟩,q⟩:=h
 refine ⟨_,(zg (zo (vD (zm yK rfl B.isinstance zK (za (pv 0) (za (wB rfl B.int Ti) zb))) (wR (V3 (zm yK rfl B.isinstance zK (za (pv 0) (za (wB rfl B.bool Ui) zb)))))))),?_⟩
 cases x with
 | non=>cases (show T = "NoneType" from ty); exact ⟨_,rfl,_,_,_,false,rfl,rfl,rfl,_,rfl,iteF q⟩
 | bl y=>cases (show T = "bool" from ty); exact ⟨_,rfl,_,_,_,true,rfl,rfl,rfl,_,rfl,iteT ⟨_,rfl,_,_,_,true,rfl,rfl,rfl,_,rfl,q⟩⟩
 | int i=>cases (show T = "int" from ty); exact ⟨_,rfl,_,_,_,true,rfl,rfl,rfl,_,rfl,iteT ⟨_,rfl,_,_,_,false,rfl,rfl,rfl,_,rfl,q⟩⟩
 | str y=>cases (show T = "str" from ty); exact ⟨_,rfl,_,_,_,false,rfl,rfl,rfl,_,rfl,iteF q⟩
 | byt y=>exact ty.elim
 | flt y=>exact ty.elim
 | ty y=>exact ty.elim
 | ref a =>
  rcases ty with ⟨rfl,xs,hq⟩ | ⟨rfl,xs,hq⟩ | ⟨rfl,kvs,hq⟩
  ·exact ⟨_,rfl,_,_,_,false,rfl,.inl ⟨rfl,xs,hq⟩,rfl,_,rfl,iteF q⟩
  ·exact ⟨_,rfl,_,_,_,false,rfl,.inr (.inl ⟨rfl,xs,hq⟩),rfl,_,rfl,iteF q⟩
  ·exact ⟨_,rfl,_,_,_,false,rfl,.inr (.inr ⟨rfl,kvs,hq⟩),rfl,_,rfl,iteF q⟩
theorem qm:FnScope ["thing","least","greatest"] ["thing","least","greatest"] (zh (top 13)):=⟨rfl,rfl,rfl,by decide +kernel,rfl,by decide +kernel,by decide +kernel⟩
theorem qo (F:Fun K "is_within" "is_within" (top 13) f fd) (B:Blt mg) (qc0:zf P w K mg base n "is_whole" ["thing"] (z7 K))    :
  FnOk P w K mg base CX0 (n + 1) f fd ["thing","least","greatest"] (yy K):=by
 refine F.ok qm xj (fun cdv A outer s H vs Q E hr h=>?_)
 obtain ⟨x,y,z,rfl,i,l,u,rfl,rfl,rfl,q⟩:=h
 refine ⟨_,(zg (zo (vD (ze qc0 hr rfl (za (pv 0) zb)) (wR (jG Zi Zi (pv 1) (pv 0) (pv 2)))))),?_⟩
 refine ⟨_,rfl,_,rfl,x9,_,rfl,iteT ⟨_,rfl,_,rfl,_,_,rfl,rfl,_,rfl,?_⟩⟩
 by_cases c:l <= i
 ·refine y0 (decide_eq_true c) ⟨_,rfl,_,_,rfl,rfl,?_⟩
  rw [decide_eq_true c] at q; exact q
 ·refine yG (decide_eq_false c) ?_
  rw [decide_eq_false c] at q; exact q
theorem xW:FnScope ["k"] ["k"] (zh (top 46)):=⟨rfl,rfl,rfl,by decide +kernel,rfl,by decide +kernel,by decide +kernel⟩
theorem xX (F:Fun K "switches_in_a_stage" "switches_in_a_stage" (top 46) f fd) (B:Blt mg)     :
  FnOk P w K mg base CX0 (n + 1) f fd ["k"] (wE K):=by
 refine F.ok xW yh (fun cdv A outer s H vs Q E hr h=>?_)
 obtain ⟨x,rfl,k,rfl,k4,q⟩:=h
 refine ⟨_,(zg (zo (zA Z4 (zA ua zi (pv 0)) zi))),?_⟩
 refine ⟨_,rfl,_,_,rfl,rfl,jX k4,_,_,rfl,rfl,(by show (0:Int) <= 1; decide),?_⟩
 show Q (V.int (1 * 2 ^ ((k:Int)).toNat / 2 ^ (1:Int).toNat)) H
 rw [Vw k4]
 exact q
theorem qp:FnScope ["k","thing"] ["k","thing"] (zh (top 47)):=⟨rfl,rfl,rfl,by decide +kernel,rfl,by decide +kernel,by decide +kernel⟩
theorem qr (F:Fun K "are_marks" "are_marks" (top 47) f fd) (B:Blt mg) (qc0:zf P w K mg base n "is_within" ["thing","least","greatest"] (yy K)) (qc1:zf P w K mg base n "switches_in_a_stage" ["k"] (wE K))    :
  FnOk P w K mg base CX0 (n + 1) f fd ["k","thing"] (vJ K):=by
 refine F.ok qp zO (fun cdv A outer s H vs Q E hr h=>?_)
 obtain ⟨x,y,rfl,k,row,rfl,k4,⟨r,rfl,hs⟩,hl,hb,q⟩:=h
 refine ⟨_,(zd (zV (PW.pt (v9 (yq (zY (zm yK rfl B.isinstance zK (za (pv 1) (za (wB rfl B.tuple zG) zb))))) (xY (zB sY (zm zp rfl B.len yZ (za (pv 1) zb)) (ze qc1 hr rfl (za (pv 0) zb)) (zE _))))) (zg (zo wH)) zu) (zg (zo (zm (yO rfl) rfl B.all rk (za (zJ (CSc.of (N':=["mark"]) (sub:=[none]) (zh (top 47)) ["k","thing"] rfl rfl (by decide +kernel) rfl) rfl (yM (pv 1)) (fun _ _ _ _ _ _=>zj (i:=0) (show (["mark"]:List Str).Nodup by decide +kernel) rfl (Or.inl rfl)) (fun _ _ _ _ _ _=>zF) (fun _ _ _ _ _ _=>(ze qc0 hr rfl (za (pv 0) (za zi (za zi zb)))))) zb))))),?_⟩
 refine ⟨_,rfl,_,_,_,true,rfl,.inl ⟨rfl,_,hs⟩,rfl,_,rfl,iteF ?_⟩
 have hl2:(row.map V.int).length = 2 ^ k / 2:=by rw [List.length_map,hl]
 have p:=xm k4
 refine ⟨_,rfl,r,_,rfl,.inr hs,_,rfl,_,rfl,k,rfl,k4,rfl,_,rfl,yG (by rw [hl2]; simp) ?_⟩
 refine ⟨_,rfl,r,rfl,⟨_,hs⟩,xu (fun _=>V.bl true) hs (by omega) ?_ ?_⟩
 ·intro v H2 R hv g kk
  obtain ⟨i,hi,rfl⟩:=List.mem_map.mp hv
  have:=hb i hi
  refine ⟨_,rfl,_,_,_,rfl,_,_,_,rfl,rfl,rfl,?_⟩
  rw [decide_eq_true (show (0:Int) <= i by omega),decide_eq_true (show i <= (1:Int) by omega)]
  exact kk _ (Grow.refl _ _)
 intro H2 p g hp
 refine ⟨p,row.map (fun _=>true),rfl,SqL.of (by rw [zc,List.map_map,List.map_map]; rfl),?_⟩
 rw [wd]
 exact q _ (g.trans (Grow.new hp _))
theorem jp:FnScope ["thing"] ["thing"] (zh (top 38)):=⟨rfl,rfl,rfl,by decide +kernel,rfl,by decide +kernel,by decide +kernel⟩
theorem jq (F:Fun K "need_net" "need_net" (top 38) f fd) (B:Blt mg) (qc0:zf P w K mg base n "is_within" ["thing","least","greatest"] (yy K))  {t_DEEPEST:Tok} (g_DEEPEST:mg "DEEPEST" = some (.int 4 t_DEEPEST))  :
  FnOk P w K mg base CX0 (n + 1) f fd ["thing"] (xI K):=by
 refine F.ok jp yh (fun cdv A outer s H vs Q E hr h=>?_)
 obtain ⟨x,rfl,k,rfl,k4,q⟩:=h
 refine ⟨_,(zg (zV (yq (zY (ze qc0 hr rfl (za (pv 0) (za zi (za (ve rfl g_DEEPEST (show RelV (.int 4) (.int 4 t_DEEPEST) from ⟨_,rfl⟩)) zb)))))) (zg yz) zu)),?_⟩
 exact ⟨_,rfl,_,_,_,rfl,_,_,_,rfl,rfl,rfl,_,rfl,yG (by rw [decide_eq_true (show (0:Int) <= k by omega),decide_eq_true (show (k:Int) <= 4 by omega)]; rfl) q⟩
theorem uR:FnScope ["k","thing"] ["k","thing"] (zh (top 48)):=⟨rfl,rfl,rfl,by decide +kernel,rfl,by decide +kernel,by decide +kernel⟩
theorem uS (F:Fun K "is_settings" "is_settings" (top 48) f fd) (B:Blt mg) (qc0:zf P w K mg base n "are_marks" ["k","thing"] (vJ K)) (qc1:zf P w K mg base n "need_net" ["thing"] (xI K))    :
  FnOk P w K mg base CX0 (n + 1) f fd ["k","thing"] (wF K):=by
 refine F.ok uR zO (fun cdv A outer s H vs Q E hr h=>?_)
 obtain ⟨x,y,rfl,k,rows,rfl,k4,⟨r,xs,rfl,hs,hall⟩,hset,q⟩:=h
 refine ⟨_,(zd (zz (ze qc1 hr rfl (za (pv 0) zb))) (zd (zV (PW.pt (v9 (yq (zY (zm yK rfl B.isinstance zK (za (pv 1) (za (wB rfl B.tuple zG) zb))))) (xY (zB sY (zm zp rfl B.len yZ (za (pv 1) zb)) (pv 0) (zE _))))) (zg (zo wH)) zu) (zg (zo (zm (yO rfl) rfl B.all rk (za (zJ (CSc.of (N':=["marks","k"]) (sub:=[none,some 0]) (zh (top 48)) ["k","thing"] rfl rfl (by decide +kernel) rfl) rfl (yM (pv 1)) (fun _ _ _ _ _ _=>zj (i:=0) (show (["marks","k"]:List Str).Nodup by decide +kernel) rfl (Or.inl rfl)) (fun _ _ _ _ _ _=>zF) (fun _ _ _ _ _ _=>(ze qc0 hr rfl (za (pv 1) (za (pv 0) zb))))) zb)))))),?_⟩
 have hxl:xs.length = k:=hall.len.trans hset.1
 refine ⟨_,rfl,_,rfl,k,rfl,k4,?_⟩
 refine ⟨_,rfl,_,_,_,true,rfl,.inl ⟨rfl,_,hs⟩,rfl,_,rfl,iteF ?_⟩
 refine ⟨_,rfl,r,_,rfl,.inr hs,_,rfl,rfl,_,rfl,yG (by rw [hxl]; simp) ?_⟩
 refine ⟨_,rfl,r,rfl,⟨_,hs⟩,xu (fun _=>V.bl true) hs (by omega) ?_ ?_⟩
 ·intro v H2 R hv g kk
  obtain ⟨i,hi⟩:=List.getElem?_of_mem hv
  obtain ⟨row,hrow,hb⟩:=hall.get hi
  have o:=hset.2 row (List.mem_of_getElem? hrow)
  have hk1:1 <= k:=by have:=(List.getElem?_eq_some_iff.mp hi).1; omega
  exact ⟨_,rfl,_,rfl,_,_,rfl,k,row,rfl,k4,g.board hb,by rw [Vv hk1]; exact o.1,o.2,fun H3 g3=>kk _ g3⟩
 intro H2 p g hp
 refine ⟨p,xs.map (fun _=>true),rfl,SqL.of (by rw [zc,List.map_map]; rfl),?_⟩
 rw [wd]
 exact q _ (g.trans (Grow.new hp _))
theorem vT:FnScope ["k","thing"] ["k","thing"] (zh (top 49)):=⟨rfl,rfl,rfl,by decide +kernel,rfl,by decide +kernel,by decide +kernel⟩
theorem vU (F:Fun K "need_settings" "need_settings" (top 49) f fd) (B:Blt mg) (qc0:zf P w K mg base n "is_settings" ["k","thing"] (wF K))    :
  FnOk P w K mg base CX0 (n + 1) f fd ["k","thing"] (yw K):=by
 refine F.ok vT zO (fun cdv A outer s H vs Q E hr h=>?_)
 obtain ⟨x,y,rfl,k,rows,rfl,k4,hR,hset,q⟩:=h
 refine ⟨_,(zg (zV (yq (zY (ze qc0 hr rfl (za (pv 0) (za (pv 1) zb))))) (zg yz) zu)),?_⟩
 exact ⟨_,rfl,_,rfl,_,_,rfl,k,rows,rfl,k4,hR,hset,fun H1 g1=>⟨_,rfl,iteF (q _ g1)⟩⟩
theorem ZP:FnScope ["k","thing"] ["k","thing"] (zh (top 39)):=⟨rfl,rfl,rfl,by decide +kernel,rfl,by decide +kernel,by decide +kernel⟩
theorem ZQ (F:Fun K "is_line" "is_line" (top 39) f fd) (B:Blt mg) (qc0:zf P w K mg base n "is_within" ["thing","least","greatest"] (yy K))    :
  FnOk P w K mg base CX0 (n + 1) f fd ["k","thing"] (vy K):=by
 refine F.ok ZP zO (fun cdv A outer s H vs Q E hr h=>?_)
 obtain ⟨x,y,rfl,k,l,rfl,rfl,k4,hl,q⟩:=h
 refine ⟨_,(zg (zo (ze qc0 hr rfl (za (pv 1) (za zi (za (zA yH (zA ua zi (pv 0)) zi) zb)))))),?_⟩
 refine ⟨_,rfl,_,rfl,_,_,rfl,rfl,jX k4,_,_,rfl,rfl,_,_,_,rfl,_,_,_,rfl,rfl,rfl,?_⟩
 rw [decide_eq_true (show (0:Int) <= l by omega),decide_eq_true (show (l:Int) <= 1 * 2 ^ ((k:Int)).toNat - 1 by rw [YH]; omega)]
 exact q
theorem XA:FnScope ["thing"] ["thing"] (zh (top 16)):=⟨rfl,rfl,rfl,by decide +kernel,rfl,by decide +kernel,by decide +kernel⟩
theorem XB (F:Fun K "is_end" "is_end" (top 16) f fd) (B:Blt mg) (qc0:zf P w K mg base n "is_whole" ["thing"] (z7 K))    :
  FnOk P w K mg base CX0 (n + 1) f fd ["thing"] (rn K):=by
 refine F.ok XA yh (fun cdv A outer s H vs Q E hr h=>?_)
 obtain ⟨x,rfl,kn,q⟩:=h
 refine ⟨_,(zg (zo (V1 (V0 (sU (pv 0))) (wR (ze qc0 hr rfl (za (pv 0) zb)))))),?_⟩
 refine ⟨x,rfl,_,rfl,?_⟩
 cases x with
 | non=>exact iteT q
 | _=>exact iteF ⟨_,rfl,_,rfl,kn,q⟩
theorem wv:FnScope ["thing","add","low","high"] ["thing"] (zh (top 17)):=⟨rfl,rfl,rfl,by decide +kernel,rfl,by decide +kernel,by decide +kernel⟩
theorem ZR (F:Fun K "is_deed" "is_deed" (top 17) f fd) (B:Blt mg) (qc0:zf P w K mg base n "is_end" ["thing"] (rn K)) (qc1:zf P w K mg base n "is_whole" ["thing"] (z7 K))    :
  FnOk P w K mg base CX0 (n + 1) f fd ["thing"] (wm K):=by
 refine F.ok wv yh (fun cdv A outer s H vs Q E hr h=>?_)
 obtain ⟨x,rfl,h⟩:=h
 refine ⟨_,(zd (zV (PW.pt (v9 (yq (zY (zm yK rfl B.isinstance zK (za (pv 0) (za (wB rfl B.tuple zG) zb))))) (xY (zB sY (zm zp rfl B.len yZ (za (pv 0) zb)) zi (zE _))))) (zg (zo wH)) zu) (zd (xU (pv 0) (xc rfl (zk (zj (i:=1) wv.nd rfl (Or.inl rfl)) (zk (zj (i:=2) wv.nd rfl (Or.inl rfl)) (zk (zj (i:=3) wv.nd rfl (Or.inl rfl)) zW))))) (zd (zV (yq (PW.pt (wy (zY (ze qc1 hr rfl (za (pv 1) zb))) (wy (zY (ze qc0 hr rfl (za (pv 2) zb))) (xC (zY (ze qc0 hr rfl (za (pv 3) zb)))))))) (zg (zo wH)) zu) (zd (zV (PW.pt (v9 (wQ (sU (pv 2))) (xY (wQ (sU (pv 3)))))) (zg (zo wH)) zu) (zg (zo (V1 (wJ XQ (pv 2) (pv 3) (zE _)) (wR (vD (wJ xV (pv 2) (pv 3) (zE _)) (wR (wJ xV (pv 1) zi (zE _)))))))))))),?_⟩
 rcases h with ⟨T,hT,ty,q⟩ | ⟨a,xs,rfl,hs,hk,q⟩
 ·have kt:PySem.W.kitOne K (.type T) (.type "tuple") = some false:=by
   cases x with
   | non=>cases (show T = "NoneType" from ty); rfl
   | bl y=>cases (show T = "bool" from ty); rfl
   | int i=>cases (show T = "int" from ty); rfl
   | str y=>cases (show T = "str" from ty); rfl
   | byt y=>exact ty.elim
   | flt y=>exact ty.elim
   | ty y=>exact ty.elim
   | ref a =>
    rcases ty with ⟨rfl,xs,hq⟩ | ⟨rfl,xs,hq⟩ | ⟨rfl,kvs,hq⟩
    ·exact absurd rfl hT
    ·rfl
    ·rfl
  exact ⟨_,rfl,_,_,_,false,rfl,ty,kt,_,rfl,iteT (iteT q)⟩
 ·refine ⟨_,rfl,_,_,_,true,rfl,.inl ⟨rfl,xs,hs⟩,rfl,_,rfl,iteF ⟨_,rfl,a,xs,rfl,.inr hs,rfl,_,rfl,?_⟩⟩
  by_cases hl:xs.length = 3
  ·obtain ⟨y1,y2,y3,rfl⟩:=len3 hl
   refine iteF ⟨_,rfl,a,_,rfl,hs,rfl,_,_,rfl,_,_,rfl,_,_,rfl,rfl,?_⟩
   refine ⟨_,rfl,_,rfl,hk y1 (by simp),_,rfl,?_⟩
   refine ite2 (fun c1=>?_) (fun c1=>?_)
   ·obtain ⟨i1,rfl⟩:=Yk c1
    refine ⟨_,rfl,_,rfl,hk y2 (by simp),_,rfl,?_⟩
    refine ite2 (fun c2=>?_) (fun c2=>?_)
    ·obtain ⟨o2,rfl⟩:=WD c2
     refine ⟨_,rfl,_,rfl,hk y3 (by simp),_,rfl,?_⟩
     by_cases c3:endV y3 = true
     ·obtain ⟨o3,rfl⟩:=WD c3
      rw [c3]
      refine iteF ?_
      cases o2 with
      | none=>exact ⟨_,rfl,_,rfl,iteT (iteT (by cases o3 <;> exact q))⟩
      | some l =>
       cases o3 with
       | none=>exact ⟨_,rfl,_,rfl,iteF ⟨_,rfl,_,rfl,iteT q⟩⟩
       | some u =>
        refine ⟨_,rfl,_,rfl,iteF ⟨_,rfl,_,rfl,iteF ?_⟩⟩
        refine ⟨_,rfl,_,rfl,_,_,rfl,rfl,_,rfl,?_⟩
        have q':Q (.bl (decide (l < u) || (decide (l = u) && decide (i1 = 0)))) H:=q
        refine ite2 (fun c=>?_) (fun c=>?_)
        ·rw [c] at q'; exact q'
        ·rw [Bool.eq_false_iff.mpr c] at q'
         refine ⟨_,rfl,_,rfl,rfl,_,rfl,?_⟩
         refine ite2 (fun d=>?_) (fun d=>?_)
         ·have d':l = u:=V.int.inj (of_decide_eq_true d)
          refine ⟨_,rfl,rfl,?_⟩
          rw [decide_eq_true d'] at q'
          have e:decide (V.int i1 = V.int 0) = decide (i1 = 0):=by simp
          rw [e]; exact q'
         ·have d':¬ l = u:=fun z=>d (by rw [z]; simp)
          rw [decide_eq_false d'] at q'
          exact q'
     ·have e:endV y3 = false:=Bool.eq_false_iff.mpr c3
      rw [e]
      refine iteT ?_
      have z:vg [V.int i1,ov o2,y3] = false:=by show (true && (endV (ov o2) && (endV y3 && _))) = false; rw [e]; simp
      rw [z] at q; exact q
    ·have e:endV y2 = false:=Bool.eq_false_iff.mpr c2
     refine iteT ?_
     have z:vg [V.int i1,y2,y3] = false:=by show (true && (endV y2 && (endV y3 && _))) = false; rw [e]; simp
     rw [z] at q; exact q
   ·have e:rm y1 = false:=Bool.eq_false_iff.mpr c1
    refine iteT ?_
    have z:vg [y1,y2,y3] = false:=by show (rm y1 && (endV y2 && (endV y3 && _))) = false; rw [e]; simp
    rw [z] at q; exact q
  ·have e:decide (V.int (xs.length:Int) = V.int 3) = false:=decide_eq_false fun z=>hl (by have:=V.int.inj z; omega)
   rw [e]
   refine iteT ?_
   rw [qN hl] at q; exact q
theorem w5:FnScope ["board","thing","hand","box","deed"] ["board","thing"] (zh (top 29)):=⟨rfl,rfl,rfl,by decide +kernel,rfl,by decide +kernel,by decide +kernel⟩
theorem XC (F:Fun K "is_ask" "is_ask" (top 29) f fd) (B:Blt mg) (qc0:zf P w K mg base n "is_deed" ["thing"] (wm K)) (qc1:zf P w K mg base n "is_within" ["thing","least","greatest"] (yy K))  {t_LAST_HAND:Tok} (g_LAST_HAND:mg "LAST_HAND" = some (.int 15 t_LAST_HAND))  :
  FnOk P w K mg base CX0 (n + 1) f fd ["board","thing"] (rF K):=by
 refine F.ok w5 zO (fun cdv A outer s H vs Q E hr h=>?_)
 obtain ⟨x,y,rfl,b,k,⟨rb,rfl,hb⟩,⟨r,rd,rfl,h1,h2⟩,⟨k1,k2,k3,k4,k5⟩,q⟩:=h
 refine ⟨_,(zd (zV (PW.pt (v9 (yq (zY (zm yK rfl B.isinstance zK (za (pv 1) (za (wB rfl B.tuple zG) zb))))) (xY (zB sY (zm zp rfl B.len yZ (za (pv 1) zb)) zi (zE _))))) (zg (zo wH)) zu) (zd (xU (pv 1) (xc rfl (zk (zj (i:=2) w5.nd rfl (Or.inl rfl)) (zk (zj (i:=3) w5.nd rfl (Or.inl rfl)) (zk (zj (i:=4) w5.nd rfl (Or.inl rfl)) zW))))) (zg (zo (vD (ze qc1 hr rfl (za (pv 2) (za zi (za (ve rfl g_LAST_HAND (show RelV (.int 15) (.int 15 t_LAST_HAND) from ⟨_,rfl⟩)) zb)))) (vD (ze qc1 hr rfl (za (pv 3) (za zi (za (zA yH (zm zp rfl B.len yZ (za (pv 0) zb)) zi) zb)))) (wR (ze qc0 hr rfl (za (pv 4) zb))))))))),?_⟩
 have hl:(b.map V.int).length = b.length:=List.length_map ..
 refine ⟨_,rfl,_,_,_,true,rfl,.inl ⟨rfl,_,h1⟩,rfl,_,rfl,iteF ⟨_,rfl,r,_,rfl,.inr h1,rfl,_,rfl,iteF ?_⟩⟩
 refine ⟨_,rfl,r,_,rfl,h1,rfl,_,_,rfl,_,_,rfl,_,_,rfl,rfl,?_⟩
 refine ⟨_,rfl,_,_,_,rfl,_,_,_,rfl,rfl,rfl,_,rfl,y0 (by rw [decide_eq_true k1,decide_eq_true k2]; rfl) ?_⟩
 refine ⟨_,rfl,_,rfl,rb,_,rfl,.inr hb,_,_,rfl,rfl,_,_,_,rfl,_,_,_,rfl,rfl,rfl,_,rfl,y0 (by rw [decide_eq_true k3,decide_eq_true (show k.box <= ((b.map V.int).length:Int) - 1 by rw [hl]; omega)]; rfl) ?_⟩
 refine ⟨_,rfl,_,rfl,.inr ⟨rd,_,rfl,h2,?_,?_⟩⟩
 ·intro v hv
  simp only [Deed.vs,List.mem_cons,List.mem_nil_iff,or_false] at hv
  rcases hv with rfl | rfl | rfl
  ·exact x9
  ·exact Zm _
  ·exact Zm _
 ·rw [vh k5]; exact q
theorem jr:FnScope ["thing"] ["thing"] (zh (top 27)):=⟨rfl,rfl,rfl,by decide +kernel,rfl,by decide +kernel,by decide +kernel⟩
theorem ju (F:Fun K "is_board" "is_board" (top 27) f fd) (B:Blt mg) (qc0:zf P w K mg base n "is_whole" ["thing"] (z7 K))  {t_MOST_BOXES:Tok} (g_MOST_BOXES:mg "MOST_BOXES" = some (.int 16 t_MOST_BOXES))  :
  FnOk P w K mg base CX0 (n + 1) f fd ["thing"] (uk K):=by
 refine F.ok jr yh (fun cdv A outer s H vs Q E hr h=>?_)
 obtain ⟨x,rfl,b,⟨r,rfl,hs⟩,b1,b2,q⟩:=h
 refine ⟨_,(zd (zV (PW.pt (v9 (yq (zY (zm yK rfl B.isinstance zK (za (pv 0) (za (wB rfl B.tuple zG) zb))))) (xY (yq (XR Zi Zi zi (zm zp rfl B.len yZ (za (pv 0) zb)) (ve rfl g_MOST_BOXES (show RelV (.int 16) (.int 16 t_MOST_BOXES) from ⟨_,rfl⟩))))))) (zg (zo wH)) zu) (zg (zo (zm (yO rfl) rfl B.all rk (za (zJ (CSc.of (N':=["value"]) (sub:=[none]) (zh (top 27)) ["thing"] rfl rfl (by decide +kernel) rfl) rfl (yM (pv 0)) (fun _ _ _ _ _ _=>zj (i:=0) (show (["value"]:List Str).Nodup by decide +kernel) rfl (Or.inl rfl)) (fun _ _ _ _ _ _=>zF) (fun _ _ _ _ _ _=>(ze qc0 hr rfl (za (pv 0) zb)))) zb))))),?_⟩
 have hl:(b.map V.int).length = b.length:=List.length_map ..
 refine ⟨_,rfl,_,_,_,true,rfl,.inl ⟨rfl,_,hs⟩,rfl,_,rfl,iteF ?_⟩
 refine ⟨_,rfl,r,_,rfl,.inr hs,_,_,rfl,rfl,_,rfl,y0 (decide_eq_true (by rw [hl]; omega)) ⟨_,_,rfl,rfl,_,rfl,yG (by rw [decide_eq_true (show ((b.map V.int).length:Int) <= 16 by rw [hl]; omega)]; rfl) ?_⟩⟩
 refine ⟨_,rfl,r,rfl,⟨_,hs⟩,xu (fun _=>V.bl true) hs (by rw [hl]; omega) ?_ ?_⟩
 ·intro x H1 R hx g k
  obtain ⟨i,_,rfl⟩:=List.mem_map.mp hx
  exact ⟨_,rfl,_,rfl,x9,k _ (Grow.refl _ _)⟩
 ·intro H1 p g hp
  refine ⟨p,b.map (fun _=>true),rfl,SqL.of (by rw [zc,X4]),?_⟩
  rw [wd]
  exact q _ (g.trans (Grow.new hp _))
theorem sG:FnScope ["thing"] ["thing"] (zh (top 28)):=⟨rfl,rfl,rfl,by decide +kernel,rfl,by decide +kernel,by decide +kernel⟩
theorem sH (F:Fun K "need_board" "need_board" (top 28) f fd) (B:Blt mg) (qc0:zf P w K mg base n "is_board" ["thing"] (uk K))    :
  FnOk P w K mg base CX0 (n + 1) f fd ["thing"] (wV K):=by
 refine F.ok sG yh (fun cdv A outer s H vs Q E hr h=>?_)
 obtain ⟨x,rfl,b,hb,b1,b2,q⟩:=h
 refine ⟨_,(zg (zV (yq (zY (ze qc0 hr rfl (za (pv 0) zb)))) (zg yz) zu)),?_⟩
 exact ⟨_,rfl,_,rfl,b,hb,b1,b2,fun H1 g1=>⟨_,rfl,iteF (q _ g1)⟩⟩
theorem jv:FnScope ["board","thing"] ["board","thing"] (zh (top 30)):=⟨rfl,rfl,rfl,by decide +kernel,rfl,by decide +kernel,by decide +kernel⟩
theorem jw (F:Fun K "are_asks" "are_asks" (top 30) f fd) (B:Blt mg) (qc0:zf P w K mg base n "is_ask" ["board","thing"] (rF K)) (qc1:zf P w K mg base n "need_board" ["thing"] (wV K))    :
  FnOk P w K mg base CX0 (n + 1) f fd ["board","thing"] (um K):=by
 refine F.ok jv zO (fun cdv A outer s H vs Q E hr h=>?_)
 obtain ⟨x,y,rfl,b,ks,hb,b1,b2,ha,hk,hok,q⟩:=h
 refine ⟨_,(zd (zz (ze qc1 hr rfl (za (pv 0) zb))) (zg (zo (vD (zm yK rfl B.isinstance zK (za (pv 1) (za (wB rfl B.tuple zG) zb))) (wR (zm (yO rfl) rfl B.all rk (za (zJ (CSc.of (N':=["ask","board"]) (sub:=[none,some 0]) (zh (top 30)) ["board","thing"] rfl rfl (by decide +kernel) rfl) rfl (yM (pv 1)) (fun _ _ _ _ _ _=>zj (i:=0) (show (["ask","board"]:List Str).Nodup by decide +kernel) rfl (Or.inl rfl)) (fun _ _ _ _ _ _=>zF) (fun _ _ _ _ _ _=>(ze qc0 hr rfl (za (pv 1) (za (pv 0) zb))))) zb))))))),?_⟩
 refine ⟨_,rfl,_,rfl,b,hb,b1,b2,fun H1 g1=>?_⟩
 obtain ⟨r,xs,rfl,hs,hall⟩:=g1.asks ha
 refine ⟨_,rfl,_,_,_,true,rfl,.inl ⟨rfl,_,hs⟩,rfl,_,rfl,iteT ?_⟩
 have hl:=hall.len
 refine ⟨_,rfl,r,rfl,⟨_,hs⟩,xu (fun _=>V.bl true) hs (by omega) ?_ ?_⟩
 ·intro v H2 R hv g k
  obtain ⟨i,hi⟩:=List.getElem?_of_mem hv
  obtain ⟨kk,hkk,hak⟩:=hall.get hi
  exact ⟨_,rfl,_,rfl,_,_,rfl,b,kk,(g1.trans g).board hb,g.ask hak,hok kk (List.mem_of_getElem? hkk),k _ (Grow.refl _ _)⟩
 ·intro H2 p g hp
  refine ⟨p,xs.map (fun _=>true),rfl,SqL.of (by rw [zc,List.map_map]; rfl),?_⟩
  rw [wd]
  exact q _ (g1.trans (g.trans (Grow.new hp _)))
theorem qt:FnScope ["board","thing"] ["board","thing"] (zh (top 31)):=⟨rfl,rfl,rfl,by decide +kernel,rfl,by decide +kernel,by decide +kernel⟩
theorem qu (F:Fun K "need_asks" "need_asks" (top 31) f fd) (B:Blt mg) (qc0:zf P w K mg base n "are_asks" ["board","thing"] (um K))    :
  FnOk P w K mg base CX0 (n + 1) f fd ["board","thing"] (yP K):=by
 refine F.ok qt zO (fun cdv A outer s H vs Q E hr h=>?_)
 obtain ⟨x,y,rfl,b,ks,hb,b1,b2,ha,hk,hok,q⟩:=h
 refine ⟨_,(zg (zV (yq (zY (ze qc0 hr rfl (za (pv 0) (za (pv 1) zb))))) (zg yz) zu)),?_⟩
 exact ⟨_,rfl,_,rfl,_,_,rfl,b,ks,hb,b1,b2,ha,hk,hok,fun H1 g1=>⟨_,rfl,iteF (q _ g1)⟩⟩
theorem w6:FnScope ["k","board","asks","hands"] ["k","board","asks"] (zh (top 52)):=⟨rfl,rfl,rfl,by decide +kernel,rfl,by decide +kernel,by decide +kernel⟩
theorem sI (F:Fun K "need_round" "need_round" (top 52) f fd) (B:Blt mg) (qc0:zf P w K mg base n "is_line" ["k","thing"] (vy K)) (qc1:zf P w K mg base n "need_asks" ["board","thing"] (yP K)) (qc2:zf P w K mg base n "need_net" ["thing"] (xI K)) (g_set:mg "set" = none)   :
  FnOk P w K mg base CX0 (n + 1) f fd ["k","board","asks"] (xP K):=by
 refine F.ok w6 xj (fun cdv A outer s H vs Q E hr h=>?_)
 obtain ⟨x,y,z,rfl,k,b,ks,rfl,k4,hb,b1,b16,hks,k16,R,q⟩:=h
 refine ⟨_,(zd (zz (ze qc2 hr rfl (za (pv 0) zb))) (zd (zz (ze qc1 hr rfl (za (pv 1) (za (pv 2) zb)))) (zd (sf (i:=3) w6.nd rfl rfl (CSc.of (N':=["hand","box","deed"]) (sub:=[none,none,none]) (zh (top 52)) ["k","board","asks","hands"] rfl rfl (by decide +kernel) rfl) rfl (yM (pv 2)) (fun _ _ _ _ _ _=>wf (K:=K) 3 rfl rfl (zk (zj (i:=0) (show (["hand","box","deed"]:List Str).Nodup by decide +kernel) rfl (Or.inl rfl) (Or.inr rfl)) (zk (zj (i:=1) (show (["hand","box","deed"]:List Str).Nodup by decide +kernel) rfl (Or.inl rfl) (Or.inr rfl)) (zk (zj (i:=2) (show (["hand","box","deed"]:List Str).Nodup by decide +kernel) rfl (Or.inl rfl) (Or.inr rfl)) zW))) rfl rfl) (fun _ _ _ _ _ _=>zF) (fun _ _ _ _ _ _=>(pv 0))) (zg (zV (PW.pt (v9 (zB sY (zm Y7 rfl B.len yZ (za (zx (Y6 hr) rfl g_set TB (za (pv 3) zb)) zb)) (zm zp rfl B.len yZ (za (pv 3) zb)) (zE _)) (xY (yq (zY (zm (yO rfl) rfl B.all rk (za (zJ (CSc.of (N':=["hand","k"]) (sub:=[none,some 0]) (zh (top 52)) ["k","board","asks","hands"] rfl rfl (by decide +kernel) rfl) rfl (tU (pv 3)) (fun _ _ _ _ _ _=>zj (i:=0) (show (["hand","k"]:List Str).Nodup by decide +kernel) rfl (Or.inl rfl)) (fun _ _ _ _ _ _=>zF) (fun _ _ _ _ _ _=>(ze qc0 hr rfl (za (pv 1) (za (pv 0) zb))))) zb))))))) (zg yz) zu))))),?_⟩
 have aok:=R.ask k4
 refine ⟨_,rfl,_,rfl,k,rfl,k4,?_⟩
 refine ⟨_,rfl,_,rfl,_,_,rfl,b,ks,hb,b1,b16,hks,by omega,aok,fun H1 g1=>?_⟩
 obtain ⟨ra,xs,rfl,hra,hxs⟩:=g1.asks hks
 have xl:xs.length = ks.length:=tK hxs
 refine c_nx (yE (fun v H'=>∃ l,v = .ref l /\ H' l = some (.lst ((ks.map (·.hand)).map V.int)) /\ Grow [] H1 H') (fun Kk hk=>⟨_,rfl,ra,rfl,⟨_,hra⟩,uB (xs:=xs) (fun n ys σ' H'=>H' = H1 /\ (∃ e1 e2 e3,σ' = [e1,e2,e3]) /\ ys = ((ks.take n).map (·.hand)).map V.int) ⟨rfl,⟨_,_,_,rfl⟩,rfl⟩ (fun n ys σ' H' _ z=>by rw [z.1]; exact hra) ?_ ?_⟩) ?_)
 ·rintro n y ys σ' H' hy ⟨rfl,⟨e1,e2,e3,rfl⟩,rfl⟩
  obtain ⟨a,ha,r,rd,rfl,h1,h2⟩:=hxs.get hy
  have hn:=(List.getElem?_eq_some_iff.mp ha).1
  refine ⟨r,_,rfl,h1,rfl,_,_,rfl,_,_,rfl,_,_,rfl,rfl,?_⟩
  refine ⟨_,rfl,z9 (by rw [List.length_map,List.length_map,List.length_take]; omega),rfl,⟨_,_,_,rfl⟩,?_⟩
  rw [List.take_succ,ha,List.map_append,List.map_append]; rfl
 ·rintro ys σ' H' ⟨rfl,_,rfl⟩ l hl
  rw [xl,List.take_length]
  exact hk _ _ ⟨l,rfl,zc,Grow.new hl _⟩
 rintro _ H2 ⟨l,rfl,hl,g2⟩
 have nl:(ks.map (·.hand)).length <= 1000:=by rw [List.length_map]; omega
 refine ⟨_,rfl,l,_,rfl,SqL.of hl,nl,fun l3 hl3=>⟨l3,_,_,rfl,zc,_,rfl,?_⟩⟩
 have g3:=Grow.new (m:=[]) hl3 (.set (fun j=>(dedI (ks.map (·.hand))).any (· == j)) (dedI (ks.map (·.hand))).length)
 have hl3':=g3.keep _ _ (by simp) hl
 have e:decide (V.int ((dedI (ks.map (·.hand))).length:Int) = V.int (((ks.map (·.hand)).map V.int).length:Int)) = true:=decide_eq_true (congrArg V.int (by rw [UX R.nd]; simp only [List.length_map]))
 refine ⟨l,_,rfl,.inl (SqL.of hl3'),rfl,_,rfl,yG (by rw [e]; rfl) ?_⟩
 generalize upd H2 l3 (.set (fun j=>(dedI (ks.map (·.hand))).any (· == j)) (dedI (ks.map (·.hand))).length) = H3 at g3 hl3' ⊢
 refine ⟨_,rfl,l,rfl,⟨_,SqL.of hl3'⟩,u9 (xs:=(ks.map (·.hand)).map V.int) (fun i ys H'=>H' = H3 /\ ys = (List.replicate i true).map V.bl) ⟨rfl,rfl⟩ (fun i ys H' z=>by rw [z.1]; exact SqL.of hl3') ?_ ?_⟩
 ·rintro i x ys H' hx ⟨rfl,rfl⟩
  rw [List.map_map,List.getElem?_map] at hx
  obtain ⟨a,ha,rfl⟩:=Option.map_eq_some_iff.mp hx
  have hn:=(List.getElem?_eq_some_iff.mp ha).1
  obtain ⟨h0,h1⟩:=R.hand a (List.mem_of_getElem? ha)
  have h1':=yX h0 h1
  refine ⟨_,rfl,_,rfl,_,_,rfl,k,a.hand.toNat,rfl,congrArg V.int (Int.toNat_of_nonneg h0).symm,k4,h1',z9 (by rw [List.length_map,List.length_replicate]; omega),rfl,?_⟩
  rw [List.replicate_succ',List.map_append]; rfl
 ·rintro ys H' ⟨rfl,rfl⟩ l4 hl4
  refine ⟨l4,_,rfl,SqL.of zc,_,rfl,yG ?_ (q _ (g1.trans (g2.trans (g3.trans (Grow.new hl4 _)))))⟩
  rw [show (List.replicate ((ks.map (·.hand)).map V.int).length true).all id = true from List.all_eq_true.mpr fun x hx=>(List.eq_of_mem_replicate hx)]; rfl
theorem XD:FnScope ["k","board","asks","firsts","levels"] ["k","board","asks","firsts"] (zh (top 60)):=⟨rfl,rfl,rfl,by decide +kernel,rfl,by decide +kernel,by decide +kernel⟩
theorem VR (F:Fun K "came" "came" (top 60) f fd) (B:Blt mg) (qc0:zf P w K mg base n "pass_net" ["k","asks","firsts"] (uE K)) (qc1:zf P w K mg base n "need_settings" ["k","thing"] (yw K)) (qc2:zf P w K mg base n "need_round" ["k","board","asks"] (xP K)) (g_sorted:mg "sorted" = none)   :
  FnOk P w K mg base CX0 (n + 1) f fd ["k","board","asks","firsts"] (qd K):=by
 refine F.ok XD xG (fun cdv A outer s H vs Q E hr h=>?_)
 obtain ⟨x,y,z,u,rfl,k,b,ks,rows,rfl,k4,hb,b1,b16,hks,k16,R,hrw,hs,q⟩:=h
 refine ⟨_,(zd (zz (ze qc2 hr rfl (za (pv 0) (za (pv 1) (za (pv 2) zb))))) (zd (zz (ze qc1 hr rfl (za (pv 0) (za (pv 3) zb)))) (zd (zr (i:=4) XD.nd rfl (Or.inl rfl) (zC zT (ze qc0 hr rfl (za (pv 0) (za (pv 2) (za (pv 3) zb)))) zi (fun _ _=>rfl))) (zg (zo (zx zq rfl B.tuple zG (za (zm (ZI (K:=K) rfl) rfl g_sorted XV (za (zJ (CSc.of (N':=["deed","line","box"]) (sub:=[none,none,none]) (zh (top 60)) ["k","board","asks","firsts","levels"] rfl rfl (by decide +kernel) rfl) rfl (WV (zC zI (pv 4) (pv 0) (fun _ _=>rfl))) (fun _ _ _ _ _ _=>wf (K:=K) 2 rfl rfl (zk (wf (K:=K) 2 rfl rfl (zk (zj (i:=1) (show (["deed","line","box"]:List Str).Nodup by decide +kernel) rfl (Or.inl rfl) (Or.inr rfl)) (zk (zj (i:=2) (show (["deed","line","box"]:List Str).Nodup by decide +kernel) rfl (Or.inl rfl) (Or.inr rfl)) zW)) rfl rfl) (zk (zj (i:=0) (show (["deed","line","box"]:List Str).Nodup by decide +kernel) rfl (Or.inl rfl) (Or.inr rfl)) zW)) rfl rfl) (fun _ _ _ _ _ _=>zF) (fun _ _ _ _ _ _=>(zN (za (pv 2) (za (pv 0) zb))))) zb)) zb))))))),?_⟩
 have p16:=xm k4
 refine ⟨_,rfl,_,rfl,_,rfl,_,_,_,rfl,k,b,ks,rfl,k4,hb,b1,b16,hks,k16,R,fun H1 g1=>?_⟩
 refine ⟨_,rfl,_,rfl,_,_,rfl,k,rows,rfl,k4,g1.rows hrw,hs,fun H2 g2=>?_⟩
 have G2:=g1.trans g2
 refine ⟨_,rfl,_,rfl,_,rfl,_,_,_,rfl,k,b.length,rows,ks,rfl,k4,b16,k16,G2.asks hks,G2.rows hrw,hs,R,fun r0 lL lS ds kps H3 g3 s3 hL3 hS3 dl kpl N3 fr3=>?_⟩
 have G3:=G2.trans g3
 refine ⟨r0,_,0,.ref lL,rfl,rfl,s3,rfl,?_⟩
 obtain ⟨dk,hdk⟩:∃ d,ds[k]? = some d:=⟨_,List.getElem?_eq_getElem (by omega)⟩
 have mdk:dk ∈ ds ++ kps:=List.mem_append_left _ (List.mem_of_getElem? hdk)
 have hdkH:H dk = none:=G2.free (by simp) (fr3 dk mdk)
 obtain ⟨kvs,hrd,tab,kl⟩:=N3.lv k dk hdk
 refine ⟨_,rfl,_,rfl,lL,_,_,_,rfl,rfl,SqL.of hL3,xo rfl hdk,dk,kvs,rfl,hrd,fun o H6 hd6 g6 same6=>?_⟩
 have tab6:TabR kvs (2 ^ k) b.length (lvR k rows ks k) (zw K H6):=tab.imp fun v x hv=>g6.deed hv
 have G6:Grow [] H H6:=Grow.tfresh G3 g6 (fun d hd=>by rw [List.mem_singleton.mp hd]; exact hdkH)
 refine Wq (fun i ys σ' H'=>Grow [] H6 H' /\ (∃ e0 e1 e2,σ' = [e0,e1,e2]) /\ AllR (vS K H') ys ((kvs.take i).map qe)) ⟨Grow.refl _ _,⟨_,_,_,rfl⟩,trivial⟩ (fun i ys σ' H' _ z=>z.1.frz _ _ _ hd6) ?_ ?_
 ·rintro i p bb T ys σ' H7 hp hbb hT ⟨g7,⟨e0,e1,e2,rfl⟩,al7⟩
  obtain ⟨l,c,dd,ep,hl,hc,hlv',hdd⟩:=tab6.keys p (List.mem_of_getElem? hp)
  obtain ⟨pk,v⟩:=p
  cases (show pk = keyR l c from ep)
  have hi:i < kvs.length:=(List.getElem?_eq_some_iff.mp hp).1
  have g8:=Grow.new (m:=[]) hT (.tup [.ref bb,v])
  have hT8:=zc (H:=H7) (a:=T) (o:=.tup [.ref bb,v])
  have hbb8:upd H7 T (.tup [.ref bb,v]) bb = some (.tup [.int l,.int c]):=g8.keep _ _ (by simp) hbb
  have al8:=al7.imp fun x p h=>vS.grow g8 h
  have G8:=g7.trans g8
  show gTup _ _ _ _ _ _ _
  generalize upd H7 T (.tup [.ref bb,v]) = H8 at g8 hT8 hbb8 al8 G8 ⊢
  refine ⟨T,[.ref bb,v],rfl,SqT.of hT8,rfl,_,_,rfl,bb,[.int l,.int c],rfl,SqT.of hbb8,rfl,_,_,rfl,_,_,rfl,rfl,_,_,rfl,rfl,?_⟩
  refine ui ?_
  have yl:ys.length <= i:=by rw [al7.len,List.length_map,List.length_take]; omega
  refine ⟨_,rfl,_,rfl,szl rfl,fun t ht=>⟨zX (by omega),G8.trans (Grow.new ht _),⟨_,_,_,rfl⟩,?_⟩⟩
  rw [List.take_succ,hp,List.map_append]
  exact (al8.imp fun x p h=>vS.grow (Grow.new (m:=[]) ht _) h).app (AllR.one ⟨t,rfl,SqT.of zc⟩)
 ·rintro ys σ' H7 ⟨g7,_,al7⟩ l8 hl8
  rw [List.take_length] at al7
  have g8:=Grow.new (m:=[]) hl8 (.lst ys)
  have tab8:TabR kvs (2 ^ k) b.length (lvR k rows ks k) (zw K (upd H7 l8 (.lst ys))):=tab6.imp fun v x hv=>g8.deed (g7.deed hv)
  refine ⟨l8,ys,kvs.map qe,1,rfl,SqL.of zc,al7.imp (fun x p h=>vS.grow g8 h),WY R k4 hs tab6,Nat.le_refl 1,VN tab6,by rw [List.length_map]; omega,fun p9 zs' items' hp9 pm pw al9=>?_⟩
  have g9:=Grow.new (m:=[]) hp9 (.lst zs')
  refine ⟨p9,zs',rfl,.inl ⟨SqL.of zc,fun r hr'=>q _ _ (G6.trans (g7.trans (g8.trans (g9.trans (Grow.new hr' _))))) ⟨r,zs',rfl,SqT.of zc,?_⟩⟩⟩
  have fin:=Xt R k4 hs tab8 (Xu tab8) (WY R k4 hs tab8) pm pw al9
  exact fin.imp fun x p ⟨r',dv,e,h1,h2⟩=>⟨r',dv,e,(g9.trans (Grow.new hr' _)).sqT h1,(g9.trans (Grow.new (m:=[]) hr' _)).deed h2⟩
theorem qv:FnScope ["thing"] ["thing"] (zh (top 19)):=⟨rfl,rfl,rfl,by decide +kernel,rfl,by decide +kernel,by decide +kernel⟩
theorem qw (F:Fun K "need_deed" "need_deed" (top 19) f fd) (B:Blt mg) (qc0:zf P w K mg base n "is_deed" ["thing"] (wm K))    :
  FnOk P w K mg base CX0 (n + 1) f fd ["thing"] (vE K):=by
 refine F.ok qv yh (fun cdv A outer s H vs Q E hr h=>?_)
 obtain ⟨x,rfl,d,⟨a,rfl,hs⟩,hd,q⟩:=h
 refine ⟨_,(zg (zV (yq (zY (ze qc0 hr rfl (za (pv 0) zb)))) (zg yz) zu)),?_⟩
 have e:=vh hd
 refine ⟨_,rfl,_,rfl,.inr ⟨a,_,rfl,hs,?_,_,rfl,?_⟩⟩
 ·intro y hy
  rcases List.mem_cons.mp hy with rfl | hy
  ·exact x9
  rcases List.mem_cons.mp hy with rfl | hy
  ·exact Zm _
  rcases List.mem_cons.mp hy with rfl | hy
  ·exact Zm _
  cases hy
 ·rw [e]; exact iteF q
theorem sJ:FnScope ["thing"] ["thing"] (zh (top 18)):=⟨rfl,rfl,rfl,by decide +kernel,rfl,by decide +kernel,by decide +kernel⟩
theorem sL (F:Fun K "need_value" "need_value" (top 18) f fd) (B:Blt mg) (qc0:zf P w K mg base n "is_whole" ["thing"] (z7 K))    :
  FnOk P w K mg base CX0 (n + 1) f fd ["thing"] (xD K):=by
 refine F.ok sJ yh (fun cdv A outer s H vs Q E hr h=>?_)
 obtain ⟨x,rfl,i,rfl,q⟩:=h
 refine ⟨_,(zg (zV (yq (zY (ze qc0 hr rfl (za (pv 0) zb)))) (zg yz) zu)),?_⟩
 exact ⟨_,rfl,_,rfl,x9,_,rfl,iteF q⟩
theorem VS:FnScope ["deed","value"] ["deed","value"] (zh (top 21)):=⟨rfl,rfl,rfl,by decide +kernel,rfl,by decide +kernel,by decide +kernel⟩
theorem VT (F:Fun K "done" "done" (top 21) f fd) (B:Blt mg) (qc0:zf P w K mg base n "made" ["deed","value"] (wL K)) (qc1:zf P w K mg base n "need_deed" ["thing"] (vE K)) (qc2:zf P w K mg base n "need_value" ["thing"] (xD K))    :
  FnOk P w K mg base CX0 (n + 1) f fd ["deed","value"] (qO K):=by
 refine F.ok VS zO (fun cdv A outer s H vs Q E hr h=>?_)
 obtain ⟨x,y,rfl,d,v,hd,ok,rfl,q⟩:=h
 refine ⟨_,(zd (zz (ze qc2 hr rfl (za (pv 1) zb))) (zd (zz (ze qc1 hr rfl (za (pv 0) zb))) (zg (zo (ze qc0 hr rfl (za (pv 0) (za (pv 1) zb))))))),?_⟩
 refine ⟨_,rfl,_,rfl,v,rfl,?_⟩
 refine ⟨_,rfl,_,rfl,d,hd,ok,?_⟩
 exact ⟨_,rfl,_,rfl,_,_,rfl,d,v,hd,rfl,q⟩
theorem yJ:FnScope ["board","asks","together","ahead","hand","box","deed"] ["board","asks"] (zh (top 33)):=⟨rfl,rfl,rfl,by decide +kernel,rfl,by decide +kernel,by decide +kernel⟩
theorem jx (F:Fun K "gathered" "gathered" (top 33) f fd) (B:Blt mg) (qc0:zf P w K mg base n "joined" ["one","other"] (wc K))   {a_LOOK:Addr} (g_LOOK:mg "LOOK" = some (.ref a_LOOK)) (s_LOOK:∀ H,SqT K H a_LOOK ([V.int 0,V.non,V.non])) :
  FnOk P w K mg base CX0 (n + 1) f fd ["board","asks"] (wM K):=by
 refine F.ok yJ zO (fun cdv A outer s H vs Q E hr h=>?_)
 obtain ⟨x,y,rfl,b,ks,⟨br,rfl,hbs⟩,b1,b2,⟨ar,xs,rfl,hs,hall⟩,hk,hok,q⟩:=h
 refine ⟨_,(zd (sf (i:=2) yJ.nd rfl rfl (CSc.of (N':=["value"]) (sub:=[none]) (zh (top 33)) ["board","asks","together","ahead","hand","box","deed"] rfl rfl (by decide +kernel) rfl) rfl (yM (pv 0)) (fun _ _ _ _ _ _=>zj (i:=0) (show (["value"]:List Str).Nodup by decide +kernel) rfl (Or.inl rfl)) (fun _ _ _ _ _ _=>zF) (fun _ _ _ _ _ _=>(ve rfl g_LOOK (show RelV (.ref a_LOOK) (.ref a_LOOK) from rfl)))) (zd (zr (i:=3) yJ.nd rfl (Or.inl rfl) (yA zb)) (zd (xf PassesOwn.never rfl (yM (pv 1)) (xc rfl (zk (zj (i:=4) yJ.nd rfl (Or.inl rfl)) (zk (zj (i:=5) yJ.nd rfl (Or.inl rfl)) (zk (zj (i:=6) yJ.nd rfl (Or.inl rfl)) zW)))) (zd (zz (ud PySem.F.plainAttrs_list PySem.F.slot_list_append PySem.F.type_list_append yN (pv 3) (za (zC zI (pv 2) (pv 5) (fun _ _=>rfl)) zb))) (zg (xU (ze qc0 hr rfl (za (zC zI (pv 2) (pv 5) (fun _ _=>rfl)) (za (pv 6) zb))) (sV (pv 2) (pv 5) wS))))) (zg (zo (zN (za (zx zq rfl B.tuple zG (za (pv 2) zb)) (za (zx zq rfl B.tuple zG (za (pv 3) zb)) zb)))))))),?_⟩
 have glen:∀ {i:Nat},(xa b.length (ks.take i)).1.length = b.length /\ (xa b.length (ks.take i)).2.length = (ks.take i).length:=by
  intro i
  have key:∀ (ks:List Ask) (st:List Deed × List Deed),(ks.foldl qX st).1.length = st.1.length /\ (ks.foldl qX st).2.length = st.2.length + ks.length:=by
   intro ks
   induction ks with
   | nil=>intro st; exact ⟨rfl,rfl⟩
   | cons k ks ih =>
    intro st
    have:=ih (qX st k)
    refine ⟨this.1.trans (by simp [qX]),this.2.trans ?_⟩
    simp [qX]; omega
  have:=key (ks.take i) (List.replicate b.length look,[])
  exact ⟨this.1.trans (by simp),this.2.trans (Nat.zero_add _)⟩
 refine ⟨_,rfl,br,rfl,⟨_,hbs⟩,xu (fun _=>V.ref a_LOOK) hbs (by rw [List.length_map]; omega) (fun x H' R _ _ k=>k _ (Grow.refl _ _)) ?_⟩
 intro H1 lt g1 hlt
 refine ⟨szl rfl,fun la hla=>?_⟩
 have nta:lt ≠ la:=fun z=>by rw [← z,zc] at hla; cases hla
 have gv:Grow [lt,la] H1 (upd (upd H1 lt (.lst ((b.map V.int).map fun _=>V.ref a_LOOK))) la (.lst [])):=(Grow.new hlt _).trans (Grow.new hla _)
 have laf:H1 la = none:=by rw [zn (Ne.symm nta)] at hla; exact hla
 have hs1:=g1.sqT hs
 have hall1:=g1.allA hall
 have hrep:AllR (zw K (upd (upd H1 lt (.lst ((b.map V.int).map fun _=>V.ref a_LOOK))) la (.lst []))) ((b.map V.int).map fun _=>V.ref a_LOOK) (List.replicate b.length look):=by
  have z:=jW (R:=zw K (upd (upd H1 lt (.lst ((b.map V.int).map fun _=>V.ref a_LOOK))) la (.lst []))) (x:=V.ref a_LOOK) (k:=look) ⟨a_LOOK,rfl,s_LOOK _⟩ (b.map V.int)
  rw [List.length_map] at z
  exact z
 refine ⟨_,rfl,ar,rfl,⟨_,gv.sqT hs1⟩,tV (xs:=xs) (fun i σ H'=>∃ e4 e5 e6,σ = [some (.ref br),some (.ref ar),some (.ref lt),some (.ref la),e4,e5,e6] /\ Grow [lt,la] H1 H' /\ ∃ ys zs,H' lt = some (.lst ys) /\ AllR (zw K H') ys (xa b.length (ks.take i)).1 /\ H' la = some (.lst zs) /\ AllR (zw K H') zs (xa b.length (ks.take i)).2) ⟨_,_,_,rfl,gv,_,[],by rw [zn nta,zc],hrep,zc,trivial⟩ ?_ ?_ ?_⟩
 ·rintro i σ H' _ ⟨e4,e5,e6,_,g,_⟩
  exact g.sqT hs1
 ·rintro i x σ H' hx ⟨e4,e5,e6,rfl,g,ys,zs,h1,a1,h2,a2⟩
  obtain ⟨k,hk',hak⟩:=hall1.get hx
  obtain ⟨r,rd,rfl,hr1,hr2⟩:=g.ask hak
  obtain ⟨o1,o2,o3,o4,o5⟩:=hok k (List.mem_of_getElem? hk')
  have hst:=tw (n:=b.length) hk'
  have hlg:(xa b.length (ks.take i)).1.length = b.length /\ (xa b.length (ks.take i)).2.length = (ks.take i).length:=glen
  generalize xa b.length (ks.take i) = st at a1 a2 hst hlg
  obtain ⟨g1,g2⟩:=st
  have hj:k.box.toNat < g1.length:=by rw [hlg.1]; omega
  obtain ⟨xd,hxd,hdx⟩:=a1.getR (Vn hj)
  have hix:ixN ys.length k.box = some k.box.toNat:=xk o3 (by rw [a1.len]; exact hj)
  have hti:(ks.take i).length <= 900:=by rw [List.length_take]; omega
  have hz:zs.length = (ks.take i).length:=by rw [a2.len]; exact hlg.2
  refine ⟨r,_,rfl,hr1,rfl,_,_,rfl,_,_,rfl,_,_,rfl,rfl,?_⟩
  refine ⟨_,rfl,.inl ⟨rfl,_,SqL.of h2⟩,?_⟩
  refine ⟨_,rfl,_,rfl,lt,_,_,_,rfl,rfl,SqL.of h1,vP hix hxd,?_⟩
  refine ⟨la,_,_,rfl,rfl,h2,z9 (by omega),?_⟩
  have hlt2:upd H' la (.lst (zs ++ [xd])) lt = some (.lst ys):=by rw [zn nta]; exact h1
  have gla:Grow [lt,la] H' (upd H' la (.lst (zs ++ [xd]))):=Grow.set h2 (by simp) _
  refine ⟨_,rfl,_,rfl,lt,_,_,_,rfl,rfl,SqL.of hlt2,vP hix hxd,_,rfl,_,_,rfl,g1.getD k.box.toNat look,k.deed,gla.deed hdx,⟨rd,rfl,gla.sqT hr2⟩,fun t ht=>?_⟩
  have gt:Grow [lt,la] (upd H' la (.lst (zs ++ [xd]))) (upd (upd H' la (.lst (zs ++ [xd]))) t (.tup (zP (g1.getD k.box.toNat look) k.deed).vs)):=Grow.new ht _
  have hlt3:upd (upd H' la (.lst (zs ++ [xd]))) t (.tup (zP (g1.getD k.box.toNat look) k.deed).vs) lt = some (.lst ys):=by rw [zn (zt hlt2 ht)]; exact hlt2
  have hla3:upd (upd H' la (.lst (zs ++ [xd]))) t (.tup (zP (g1.getD k.box.toNat look) k.deed).vs) la = some (.lst (zs ++ [xd])):=by rw [zn (zt zc ht)]; exact zc
  refine ⟨_,rfl,_,rfl,lt,_,_,_,rfl,rfl,hlt3,hix,?_⟩
  have gs:Grow [lt,la] (upd (upd H' la (.lst (zs ++ [xd]))) t (.tup (zP (g1.getD k.box.toNat look) k.deed).vs)) (upd (upd (upd H' la (.lst (zs ++ [xd]))) t (.tup (zP (g1.getD k.box.toNat look) k.deed).vs)) lt (.lst (ys.set k.box.toNat (.ref t)))):=Grow.set hlt3 (by simp) _
  have gall:=gla.trans (gt.trans gs)
  rw [hst]
  refine ⟨_,_,_,rfl,g.trans gall,ys.set k.box.toNat (.ref t),zs ++ [xd],zc,(gall.deedsR a1).set ⟨t,rfl,gs.sqT (SqT.of zc)⟩,by rw [zn (Ne.symm nta)]; exact hla3,(gall.deedsR a2).app (.one (gall.deed hdx))⟩

 rintro σ H' ⟨e4,e5,e6,rfl,g,ys,zs,h1,a1,h2,a2⟩
 rw [hall1.len,List.take_length] at a1 a2
 refine ⟨_,rfl,lt,_,rfl,.inl ⟨SqL.of h1,fun ra hra=>?_⟩⟩
 have ga:Grow [] H' (upd H' ra (.tup ys)):=Grow.new hra _
 refine ⟨_,rfl,la,_,rfl,.inl ⟨SqL.of (ga.keep _ _ (by simp) h2),fun rv hrv=>⟨szl rfl,fun rt hrt=>?_⟩⟩⟩
 have gb:Grow [] (upd H' ra (.tup ys)) (upd (upd H' ra (.tup ys)) rv (.tup zs)):=Grow.new hrv _
 have gc:=Grow.new (m:=[]) hrt (.tup [.ref ra,.ref rv])
 have gabc:=ga.trans (gb.trans gc)
 refine q _ _ (g1.trans ((Grow.fresh (m:=[lt,la]) (fun z hz=>by
  simp only [List.mem_cons,List.mem_nil_iff,or_false] at hz
  rcases hz with rfl | rfl
  ·exact hlt
  ·exact laf) g).trans gabc)) ⟨rt,ra,rv,rfl,SqT.of zc,⟨ra,ys,rfl,gc.sqT (gb.sqT (SqT.of zc)),gabc.deedsR a1⟩,⟨rv,zs,rfl,gc.sqT (SqT.of zc),gabc.deedsR a2⟩⟩
theorem jy:FnScope ["board","asks"] ["board","asks"] (zh (top 35)):=⟨rfl,rfl,rfl,by decide +kernel,rfl,by decide +kernel,by decide +kernel⟩
theorem jz (F:Fun K "ahead_of" "ahead_of" (top 35) f fd) (B:Blt mg) (qc0:zf P w K mg base n "gathered" ["board","asks"] (wM K)) (qc1:zf P w K mg base n "need_asks" ["board","thing"] (yP K))    :
  FnOk P w K mg base CX0 (n + 1) f fd ["board","asks"] (ut K):=by
 refine F.ok jy zO (fun cdv A outer s H vs Q E hr h=>?_)
 obtain ⟨x,y,rfl,b,ks,hb,b1,b2,ha,hk,hok,q⟩:=h
 refine ⟨_,(zd (zz (ze qc1 hr rfl (za (pv 0) (za (pv 1) zb)))) (zg (zo (zC zT (ze qc0 hr rfl (za (pv 0) (za (pv 1) zb))) zi (fun _ _=>rfl))))),?_⟩
 refine ⟨_,rfl,_,rfl,_,_,rfl,b,ks,hb,b1,b2,ha,by omega,hok,fun H1 g1=>?_⟩
 refine ⟨_,rfl,_,rfl,_,_,rfl,b,ks,g1.board hb,b1,b2,g1.asks ha,hk,hok,fun y2 H2 g2 h2=>?_⟩
 obtain ⟨r,r1,r2,rfl,h0,d1,d2⟩:=h2
 exact ⟨r,_,_,_,rfl,rfl,h0,rfl,q _ _ (g1.trans g2) d2⟩
theorem XE:FnScope ["board","asks"] ["board","asks"] (zh (top 34)):=⟨rfl,rfl,rfl,by decide +kernel,rfl,by decide +kernel,by decide +kernel⟩
theorem XG (F:Fun K "all_of" "all_of" (top 34) f fd) (B:Blt mg) (qc0:zf P w K mg base n "gathered" ["board","asks"] (wM K)) (qc1:zf P w K mg base n "need_asks" ["board","thing"] (yP K))    :
  FnOk P w K mg base CX0 (n + 1) f fd ["board","asks"] (ur K):=by
 refine F.ok XE zO (fun cdv A outer s H vs Q E hr h=>?_)
 obtain ⟨x,y,rfl,b,ks,hb,b1,b2,ha,hk,hok,q⟩:=h
 refine ⟨_,(zd (zz (ze qc1 hr rfl (za (pv 0) (za (pv 1) zb)))) (zg (zo (zC zT (ze qc0 hr rfl (za (pv 0) (za (pv 1) zb))) zi (fun _ _=>rfl))))),?_⟩
 refine ⟨_,rfl,_,rfl,_,_,rfl,b,ks,hb,b1,b2,ha,by omega,hok,fun H1 g1=>?_⟩
 refine ⟨_,rfl,_,rfl,_,_,rfl,b,ks,g1.board hb,b1,b2,g1.asks ha,hk,hok,fun y2 H2 g2 h2=>?_⟩
 obtain ⟨r,r1,r2,rfl,h0,d1,d2⟩:=h2
 exact ⟨r,_,_,_,rfl,rfl,h0,rfl,q _ _ (g1.trans g2) d1⟩
theorem xA:FnScope ["board","asks","values","answers","hand","box","deed"] ["board","asks"] (zh (top 32)):=⟨rfl,rfl,rfl,by decide +kernel,rfl,by decide +kernel,by decide +kernel⟩
theorem XH (F:Fun K "played" "played" (top 32) f fd) (B:Blt mg) (qc0:zf P w K mg base n "made" ["deed","value"] (wL K)) (qc1:zf P w K mg base n "need_asks" ["board","thing"] (yP K))    :
  FnOk P w K mg base CX0 (n + 1) f fd ["board","asks"] (rG K):=by
 refine F.ok xA zO (fun cdv A outer s H vs Q E hr h=>?_)
 obtain ⟨x,y,rfl,b,ks,hb,b1,b2,ha,hk,hok,q⟩:=h
 refine ⟨_,(zd (zz (ze qc1 hr rfl (za (pv 0) (za (pv 1) zb)))) (zd (zr (i:=2) xA.nd rfl (Or.inl rfl) (zx x8 rfl B.list Yj (za (pv 0) zb))) (zd (zr (i:=3) xA.nd rfl (Or.inl rfl) (yA zb)) (zd (xf PassesOwn.never rfl (yM (pv 1)) (xc rfl (zk (zj (i:=4) xA.nd rfl (Or.inl rfl)) (zk (zj (i:=5) xA.nd rfl (Or.inl rfl)) (zk (zj (i:=6) xA.nd rfl (Or.inl rfl)) zW)))) (zd (zz (ud PySem.F.plainAttrs_list PySem.F.slot_list_append PySem.F.type_list_append yN (pv 3) (za (zC zI (pv 2) (pv 5) (fun _ _=>rfl)) zb))) (zg (xU (ze qc0 hr rfl (za (pv 6) (za (zC zI (pv 2) (pv 5) (fun _ _=>rfl)) zb))) (sV (pv 2) (pv 5) wS))))) (zg (zo (zN (za (zx zq rfl B.tuple zG (za (pv 3) zb)) (za (zx zq rfl B.tuple zG (za (pv 2) zb)) zb))))))))),?_⟩
 refine ⟨_,rfl,_,rfl,_,_,rfl,b,ks,hb,b1,b2,ha,by omega,hok,fun H1 g1=>?_⟩
 obtain ⟨br,rfl,hbs⟩:=g1.board hb
 obtain ⟨ar,xs,rfl,hs,hall⟩:=g1.asks ha
 refine ⟨_,rfl,br,_,rfl,.inr hbs,fun lv hlv=>⟨szl rfl,fun la hla=>?_⟩⟩
 have gv:Grow [lv,la] H1 (upd (upd H1 lv (.lst (b.map V.int))) la (.lst [])):=(Grow.new hlv _).trans (Grow.new hla _)
 have nva:lv ≠ la:=fun z=>by rw [← z,zc] at hla; cases hla
 have laf:H1 la = none:=by rw [zn (Ne.symm nva)] at hla; exact hla
 have hl:=hall.len
 refine ⟨_,rfl,ar,rfl,⟨_,gv.sqT hs⟩,tV (xs:=xs) (fun i σ H'=>∃ e4 e5 e6,σ = [some (.ref br),some (.ref ar),some (.ref lv),some (.ref la),e4,e5,e6] /\ Grow [lv,la] H1 H' /\ H' lv = some (.lst ((xv b (ks.take i)).2.map V.int)) /\ H' la = some (.lst ((xv b (ks.take i)).1.map V.int))) ⟨_,_,_,rfl,gv,by rw [zn nva,zc]; rfl,by rw [zc]; rfl⟩ ?_ ?_ ?_⟩
 ·rintro i σ H' _ ⟨e4,e5,e6,_,g,_⟩
  exact g.sqT hs
 ·rintro i x σ H' hx ⟨e4,e5,e6,rfl,g,h1,h2⟩
  obtain ⟨k,hk',hak⟩:=hall.get hx
  obtain ⟨r,rd,rfl,hr1,hr2⟩:=g.ask hak
  obtain ⟨o1,o2,o3,o4,o5⟩:=hok k (List.mem_of_getElem? hk')
  have hlen:=Yq (b:=b) (ks:=ks.take i)
  have hj:k.box.toNat < (xv b (ks.take i)).2.length:=by rw [hlen.1]; omega
  have hget:=t7 hj
  have hst:=vo (b:=b) hk'
  generalize xv b (ks.take i) = st at h1 h2 hlen hj hget hst
  obtain ⟨as,vs⟩:=st
  have hj':k.box.toNat < vs.length:=hj
  have hget':vs[k.box.toNat]? = some (vs.getD k.box.toNat 0):=hget
  have hix:ixN (vs.map V.int).length k.box = some k.box.toNat:=by rw [List.length_map]; exact xk o3 hj'
  have hgv:(vs.map V.int)[k.box.toNat]? = some (V.int (vs.getD k.box.toNat 0)):=by rw [List.getElem?_map,hget']; rfl
  have hti:(ks.take i).length <= 900:=by rw [List.length_take]; omega
  refine ⟨r,_,rfl,hr1,rfl,_,_,rfl,_,_,rfl,_,_,rfl,rfl,?_⟩
  refine ⟨_,rfl,.inl ⟨rfl,_,SqL.of h2⟩,?_⟩
  refine ⟨_,rfl,_,rfl,lv,_,_,_,rfl,rfl,SqL.of h1,vP hix hgv,?_⟩
  refine ⟨la,_,_,rfl,rfl,h2,?_,?_⟩
  ·rw [List.length_map]
   have:=hlen.2
   exact z9 (by omega)
  have hlv2:upd H' la (.lst (as.map V.int ++ [V.int (vs.getD k.box.toNat 0)])) lv = some (.lst (vs.map V.int)):=by rw [zn nva]; exact h1
  have gla:Grow [lv,la] H' (upd H' la (.lst (as.map V.int ++ [V.int (vs.getD k.box.toNat 0)]))):=Grow.set h2 (by simp) _
  refine ⟨_,rfl,_,rfl,_,rfl,lv,_,_,_,rfl,rfl,SqL.of hlv2,vP hix hgv,_,_,rfl,k.deed,_,⟨rd,rfl,gla.sqT hr2⟩,rfl,?_⟩
  refine ⟨_,rfl,_,rfl,lv,_,_,_,rfl,rfl,hlv2,hix,?_⟩
  refine ⟨_,_,_,rfl,g.trans (gla.trans (Grow.set hlv2 (by simp) _)),?_,?_⟩
  ·rw [hst,zc]
   exact congrArg (fun z=>some (HO.lst z)) List.map_set.symm
  ·rw [hst,zn (Ne.symm nva),zc]
   exact congrArg (fun z=>some (HO.lst z)) (by rw [rC,List.map_append]; rfl)
 ·rintro σ H' ⟨e4,e5,e6,rfl,g,h1,h2⟩
  rw [hl,List.take_length] at h1 h2
  refine ⟨_,rfl,la,_,rfl,.inl ⟨SqL.of h2,fun ra hra=>?_⟩⟩
  have ga:Grow [] H' (upd H' ra (.tup ((xv b ks).1.map V.int))):=Grow.new hra _
  refine ⟨_,rfl,lv,_,rfl,.inl ⟨SqL.of (ga.keep _ _ (by simp) h1),fun rv hrv=>⟨szl rfl,fun rt hrt=>?_⟩⟩⟩
  have gb:Grow [] (upd H' ra (.tup ((xv b ks).1.map V.int))) (upd (upd H' ra (.tup ((xv b ks).1.map V.int))) rv (.tup ((xv b ks).2.map V.int))):=Grow.new hrv _
  have gc:=Grow.new (m:=[]) hrt (.tup [.ref ra,.ref rv])
  refine q _ _ (g1.trans ((Grow.fresh (m:=[lv,la]) (fun z hz=>by
   simp only [List.mem_cons,List.mem_nil_iff,or_false] at hz
   rcases hz with rfl | rfl
   ·exact hlv
   ·exact laf) g).trans (ga.trans (gb.trans gc)))) ⟨rt,ra,rv,rfl,SqT.of zc,gc.sqT (gb.sqT (SqT.of zc)),gc.sqT (SqT.of zc)⟩
theorem xR:FnScope ["_law_board_here","_law_row","_law_answers","_law_last","_law_together","_law_ahead"] ["_law_board_here","_law_row","_law_answers","_law_last"] (zh (top 83)):=⟨rfl,rfl,rfl,by decide +kernel,rfl,by decide +kernel,by decide +kernel⟩
theorem sM (F:Fun K "_law_agree" "_law_agree" (top 83) f fd) (B:Blt mg) (qc0:zf P w K mg base n "done" ["deed","value"] (qO K)) (qc1:zf P w K mg base n "ahead_of" ["board","asks"] (ut K)) (qc2:zf P w K mg base n "all_of" ["board","asks"] (ur K)) (qc3:zf P w K mg base n "played" ["board","asks"] (rG K)) (g_zip:mg "zip" = none)   :
  FnOk P w K mg base CX0 (n + 1) f fd ["_law_board_here","_law_row","_law_answers","_law_last"] (tS K):=by
 refine F.ok xR xG (fun cdv A outer s H vs Q E hr h=>?_)
 obtain ⟨x,y,z,u,rfl,k,b,ks,rows,da,tk,k4,hs,hb,b1,b16,R,sm,hrow,r16,rfl,hda,htk,hu,q⟩:=h
 refine ⟨_,(zd (zV (zB (UI (K:=K) rfl hr) (ze qc3 hr rfl (za (pv 0) (za (pv 1) zb))) (zN (za (zx zq rfl B.tuple zG (za (zJ (CSc.of (N':=["_law_ask","_law_answers"]) (sub:=[none,some 2]) (zh (top 83)) ["_law_board_here","_law_row","_law_answers","_law_last","_law_together","_law_ahead"] rfl rfl (by decide +kernel) rfl) rfl (yM (pv 1)) (fun _ _ _ _ _ _=>zj (i:=0) (show (["_law_ask","_law_answers"]:List Str).Nodup by decide +kernel) rfl (Or.inl rfl)) (fun _ _ _ _ _ _=>zF) (fun _ _ _ _ _ _=>(wN (Room.u1F hr) (pv 1) (zC (xE (K:=K) rfl) (pv 0) zi (fun _ _=>rfl)) (fun _ _=>rfl)))) zb)) (za (pv 3) zb))) (zE _)) (zg (zo wH)) zu) (zd (zr (i:=4) xR.nd rfl (Or.inl rfl) (ze qc2 hr rfl (za (pv 0) (za (pv 1) zb)))) (zd (zr (i:=5) xR.nd rfl (Or.inl rfl) (ze qc1 hr rfl (za (pv 0) (za (pv 1) zb)))) (zd (zV (zB (Uv hr) (zJ (CSc.of (N':=["_law_deed_here","_law_value"]) (sub:=[none,none]) (zh (top 83)) ["_law_board_here","_law_row","_law_answers","_law_last","_law_together","_law_ahead"] rfl rfl (by decide +kernel) rfl) rfl (YQ (K:=K) rfl rfl g_zip (za (pv 4) (za (pv 0) zb))) (fun _ _ _ _ _ _=>wf (K:=K) 2 rfl rfl (zk (zj (i:=0) (show (["_law_deed_here","_law_value"]:List Str).Nodup by decide +kernel) rfl (Or.inl rfl) (Or.inr rfl)) (zk (zj (i:=1) (show (["_law_deed_here","_law_value"]:List Str).Nodup by decide +kernel) rfl (Or.inl rfl) (Or.inr rfl)) zW)) rfl rfl) (fun _ _ _ _ _ _=>zF) (fun _ _ _ _ _ _=>(ze qc0 hr rfl (za (pv 0) (za (pv 1) zb))))) (zx x8 rfl B.list Yj (za (pv 3) zb)) (zE _)) (zg (zo wH)) zu) (zg (zo (zm (yO rfl) rfl B.all rk (za (zJ (CSc.of (N':=["_law_deed_here","_law_ask","_law_board_here","_law_answers"]) (sub:=[none,none,some 0,some 2]) (zh (top 83)) ["_law_board_here","_law_row","_law_answers","_law_last","_law_together","_law_ahead"] rfl rfl (by decide +kernel) rfl) rfl (YQ (K:=K) rfl rfl g_zip (za (pv 5) (za (pv 1) zb))) (fun _ _ _ _ _ _=>wf (K:=K) 2 rfl rfl (zk (zj (i:=0) (show (["_law_deed_here","_law_ask","_law_board_here","_law_answers"]:List Str).Nodup by decide +kernel) rfl (Or.inl rfl) (Or.inr rfl)) (zk (zj (i:=1) (show (["_law_deed_here","_law_ask","_law_board_here","_law_answers"]:List Str).Nodup by decide +kernel) rfl (Or.inl rfl) (Or.inr rfl)) zW)) rfl rfl) (fun _ _ _ _ _ _=>zF) (fun _ _ _ _ _ _=>(wJ xV (ze qc0 hr rfl (za (pv 0) (za (zC (xE (K:=K) rfl) (pv 2) (zC (xE (K:=K) rfl) (pv 1) zi (fun _ _=>rfl)) (fun _ _=>rfl)) zb))) (wN (Room.u1F hr) (pv 3) (zC (xE (K:=K) rfl) (pv 1) zi (fun _ _=>rfl)) (fun _ _=>rfl)) (zE _)))) zb)))))))),?_⟩
 have PR:=ZK (b:=b) k4 hs R
 have inks:∀ a ∈ rowB k rows ks b.length,a ∈ ks:=fun a ha=>by
  obtain ⟨j,hj,h⟩:=List.mem_flatMap.mp ha
  exact (ye k4 hs R h).1
 have aok:∀ a ∈ rowB k rows ks b.length,vQ b.length a:=fun a ha=>R.ask k4 a (inks a ha)
 have GI:=ginv (b:=b) (rowB k rows ks b.length) (fun a ha=>⟨aok a ha,sm a (inks a ha)⟩)
 obtain ⟨row,hrw⟩:∃ row,row = rowB k rows ks b.length:=⟨_,rfl⟩
 rw [← hrw] at hrow r16 PR inks aok GI
 obtain ⟨ra,xs,rfl,hra,hxs⟩:=hrow
 have xl:=hxs.len
 obtain ⟨rb,rfl,hrb⟩:=hb
 obtain ⟨ru,rfl,hru⟩:=hu
 refine tJ (fun c H'=>c = false /\ Grow [] H H') (fun Kk hk=>⟨_,rfl,_,rfl,_,_,rfl,b,row,⟨rb,rfl,hrb⟩,b1,b16,⟨ra,xs,rfl,hra,hxs⟩,by omega,aok,fun yt H1 g1 ht=>?_⟩) ?_
 ·have hra1:=g1.sqT hra
  have hda1:=g1.keep _ _ (by simp) hda
  have hxs1:=g1.allA hxs
  refine ⟨_,rfl,ra,rfl,⟨_,hra1⟩,uB (xs:=xs) (fun n ys σ' H'=>H' = H1 /\ (∃ e0,σ' = [e0,some (.ref da)]) /\ ys = ((row.take n).map fun a=>stvR k rows ks (bdF b) k a.hand.toNat a.box.toNat).map V.int) ⟨rfl,⟨_,rfl⟩,rfl⟩ (fun n ys σ' H' _ z=>by rw [z.1]; exact hra1) ?_ ?_⟩
  ·rintro n x ys σ' H2 hx ⟨rfl,⟨e0,rfl⟩,rfl⟩
   obtain ⟨a,ha,r,rd,rfl,h1,h2⟩:=hxs1.get hx
   have hn:=(List.getElem?_eq_some_iff.mp ha).1
   have va:=htk a (inks a (List.mem_of_getElem? ha))
   refine ⟨_,rfl,_,rfl,r,_,0,.int a.hand,rfl,rfl,h1,rfl,da,_,rfl,.inl ⟨_,.inl a.hand,.inl hda1,rfl,va.symm⟩,zX (by rw [List.length_map,List.length_map,List.length_take]; omega),rfl,⟨_,rfl⟩,?_⟩
   rw [List.take_succ,ha,List.map_append,List.map_append]; rfl
  ·rintro ys σ' H2 ⟨rfl,_,rfl⟩ l3 hl3
   rw [xl,List.take_length]
   have g3:=Grow.new (m:=[]) hl3 (.lst ((row.map fun a=>stvR k rows ks (bdF b) k a.hand.toNat a.box.toNat).map V.int))
   refine ⟨l3,_,rfl,.inl ⟨SqL.of zc,fun r4 hr4=>?_⟩⟩
   have g4:=Grow.new (m:=[]) hr4 (.tup ((row.map fun a=>stvR k rows ks (bdF b) k a.hand.toNat a.box.toNat).map V.int))
   refine ⟨_,rfl,szl rfl,fun r5 hr5=>?_⟩
   have g5:=Grow.new (m:=[]) hr5 (.tup [.ref r4,.ref ru])
   have G5:=g3.trans (g4.trans g5)
   refine YW (p:=xv b row) (G5.told ht) ?_ ⟨_,rfl,hk _ _ ⟨rfl,g1.trans G5⟩⟩
   rw [PR]
   exact ⟨r5,r4,ru,rfl,SqT.of zc,g5.sqT (SqT.of zc),G5.sqT (g1.sqT hru)⟩
 rintro _ H1 ⟨rfl,g1⟩
 refine iteF (tI ?_)
 have hra1:=g1.sqT hra
 have hrb1:=g1.sqT hrb
 have hxs1:=g1.allA hxs
 refine yE (fun v H'=>xh K H' v (xa b.length row).1 /\ Grow [] H1 H') (fun Kk hk=>⟨_,rfl,_,rfl,_,_,rfl,b,row,⟨rb,rfl,hrb1⟩,b1,b16,⟨ra,xs,rfl,hra1,hxs1⟩,by omega,aok,fun y2 H2 g2 h2=>hk _ _ ⟨h2,g2⟩⟩) ?_
 rintro y2 H2 ⟨hd2,g2⟩
 refine yE (fun v H'=>xh K H' v (xa b.length row).2 /\ Grow [] H2 H') (fun Kk hk=>⟨_,rfl,_,rfl,_,_,rfl,b,row,⟨rb,rfl,g2.sqT hrb1⟩,b1,b16,⟨ra,xs,rfl,g2.sqT hra1,g2.allA hxs1⟩,by omega,aok,fun y3 H3 g3 h3=>hk _ _ ⟨h3,g3⟩⟩) ?_
 rintro y3 H3 ⟨hd3,g3⟩
 obtain ⟨r2,xs2,rfl,hr2,al2⟩:=g3.deedsT hd2
 obtain ⟨r3,xs3,rfl,hr3,al3⟩:=hd3
 have G3:=g1.trans (g2.trans g3)
 have hra3:=G3.sqT hra
 have hrb3:=G3.sqT hrb
 have hru3:=G3.sqT hru
 have hxs3:=G3.allA hxs
 have hda3:=G3.keep _ _ (by simp) hda
 have l2:xs2.length = b.length:=by rw [al2.len,GI.l1]
 have l3:xs3.length = row.length:=by rw [al3.len,GI.l2]
 have lb:(b.map V.int).length = b.length:=List.length_map ..
 have lf:(finL k rows ks b).length = b.length:=by unfold finL; rw [List.length_map,List.length_range]
 refine tJ (fun c H'=>c = false /\ Grow [] H3 H') (fun Kk hk=>⟨_,rfl,_,rfl,true,true,r2,rb,rfl,⟨_,hr2⟩,⟨_,hrb3⟩,sg (xs:=xs2) (ys:=b.map V.int) (fun i ws σ' H'=>∃ (e0 e1:Option V),σ' = [e0,e1] /\ Grow [] H3 H' /\ ws = ((finL k rows ks b).take i).map V.int) ⟨_,_,rfl,Grow.refl _ _,rfl⟩ (fun i ws σ' H' ⟨_,_,_,g,_⟩=>⟨g.sqT hr2,g.sqT hrb3⟩) ?_ ?_⟩) ?_
 ·rintro i x y ws σ' H4 T hx hy ⟨e0,e1,rfl,g4,rfl⟩ hT
  have gT:=Grow.new (m:=[]) hT (.tup [x,y])
  obtain ⟨d,hd,hdA⟩:=al2.get hx
  have hi:i < b.length:=by rw [← l2]; exact (List.getElem?_eq_some_iff.mp hx).1
  rw [List.getElem?_map,wO hi] at hy
  cases Option.some.inj hy
  have eg:(xa b.length row).1.getD i look = d:=by rw [List.getD_eq_getElem?_getD,hd]; rfl
  have okd:d.Ok:=(GI.bd1 d (List.mem_of_getElem? hd)).1
  have ev:(finL k rows ks b)[i]? = some (d.mk' (bdF b i)):=by
   have:=GI.val i hi
   rw [PR,eg] at this
   have h2:(finL k rows ks b)[i]? = some ((finL k rows ks b).getD i 0):=t7 (by rw [lf]; exact hi)
   rw [h2]
   exact congrArg some this
  refine ⟨T,[x,.int (bdF b i)],rfl,SqT.of zc,rfl,_,_,rfl,_,_,rfl,rfl,?_⟩
  refine ui ?_
  refine ⟨_,rfl,_,rfl,_,_,rfl,d,bdF b i,(g4.trans gT).deed hdA,okd,rfl,zX (by rw [List.length_map,List.length_take]; omega),_,_,rfl,g4.trans gT,?_⟩
  rw [List.take_succ,ev,List.map_append]; rfl
 ·rintro ws σ' H4 ⟨_,_,rfl,g4,rfl⟩ l5 hl5
  rw [l2,lb,Nat.min_self,← lf,List.take_length]
  have g5:=Grow.new (m:=[]) hl5 (.lst ((finL k rows ks b).map V.int))
  refine ⟨_,rfl,ru,_,rfl,.inr ((g4.trans g5).sqT hru3),fun l6 hl6=>?_⟩
  have g6:=Grow.new (m:=[]) hl6 (.lst ((finL k rows ks b).map V.int))
  refine ⟨l5,l6,_,_,rfl,rfl,SqL.of (g6.keep _ _ (by simp) zc),SqL.of zc,wT,wT,_,rfl,hk _ _ ⟨?_,g4.trans (g5.trans g6)⟩⟩
  rw [uj,decide_eq_true rfl]; rfl
 rintro _ H4 ⟨rfl,g4⟩
 refine iteF (tI ?_)
 have hr34:=g4.sqT hr3
 have hra4:=g4.sqT hra3
 have hxs4:=g4.allA hxs3
 have hda4:=g4.keep _ _ (by simp) hda3
 refine ⟨_,rfl,_,rfl,true,true,r3,ra,rfl,⟨_,hr34⟩,⟨_,hra4⟩,sg (xs:=xs3) (ys:=xs) (fun i ws σ' H'=>∃ (e0 e1:Option V),σ' = [e0,e1,some (.ref rb),some (.ref da)] /\ Grow [] H4 H' /\ ws = (List.replicate i true).map V.bl) ⟨_,_,rfl,Grow.refl _ _,rfl⟩ (fun i ws σ' H' ⟨_,_,_,g,_⟩=>⟨g.sqT hr34,g.sqT hra4⟩) ?_ ?_⟩
 ·rintro i x y ws σ' H5 T hx hy ⟨e0,e1,rfl,g5,rfl⟩ hT
  have gT:=Grow.new (m:=[]) hT (.tup [x,y])
  have gg:=g5.trans gT
  obtain ⟨d,hd,hdA⟩:=al3.get hx
  obtain ⟨a,ha,r,rd,rfl,h1,h2⟩:=hxs4.get hy
  have hi:=(List.getElem?_eq_some_iff.mp ha).1
  have am:=inks a (List.mem_of_getElem? ha)
  have hbx:=R.box a am
  have hcb:a.box.toNat < b.length:=by omega
  have va:=htk a am
  have eg:(xa b.length row).2.getD i look = d:=by rw [List.getD_eq_getElem?_getD,hd]; rfl
  have okd:d.Ok:=(GI.bd2 d (List.mem_of_getElem? hd)).1
  have ev:stvR k rows ks (bdF b) k a.hand.toNat a.box.toNat = d.mk' (bdF b a.box.toNat):=by
   have:=GI.ans i a ha
   rw [PR,eg,List.getD_eq_getElem?_getD,List.getElem?_map,ha] at this
   exact this
  refine ⟨T,[x,.ref r],rfl,SqT.of zc,rfl,_,_,rfl,_,_,rfl,rfl,?_⟩
  refine ui ?_
  refine ⟨_,rfl,_,rfl,_,rfl,r,_,1,.int a.box,rfl,rfl,gg.sqT h1,rfl,rb,_,_,.int (bdF b a.box.toNat),rfl,rfl,gg.sqT (g4.sqT hrb3),xo (Int.toNat_of_nonneg hbx.1).symm (wO hcb),_,_,rfl,d,bdF b a.box.toNat,gg.deed (g4.deed hdA),okd,rfl,?_⟩
  refine ⟨_,rfl,_,rfl,r,_,0,.int a.hand,rfl,rfl,gg.sqT h1,rfl,da,_,rfl,.inl ⟨_,.inl a.hand,.inl (gg.keep _ _ (by simp) hda4),rfl,va.symm⟩,rfl,zX (by rw [List.length_map,List.length_replicate]; omega),_,_,rfl,gg,?_⟩
  rw [List.replicate_succ',List.map_append,ev,decide_eq_true rfl]; rfl
 ·rintro ws σ' H5 ⟨_,_,rfl,g5,rfl⟩ l6 hl6
  refine ⟨l6,_,rfl,SqL.of zc,?_⟩
  rw [show (List.replicate (min xs3.length xs.length) true).all id = true from List.all_eq_true.mpr fun x hx=>(List.mem_replicate.mp hx).2]
  exact q _ (G3.trans (g4.trans (g5.trans (Grow.new hl6 _))))
theorem wG:FnScope ["first","many","left"] ["first","many"] (zh (top 71)):=⟨rfl,rfl,rfl,by decide +kernel,rfl,by decide +kernel,by decide +kernel⟩
theorem uT (F:Fun K "halved_from" "halved_from" (top 71) f fd) (B:Blt mg) {N:Nat} (qc0:zf P w K mg base n "halved_from" ["first","many"] (yg N K))    :
  FnOk P w K mg base CX0 (n + 1) f fd ["first","many"] (yg (N + 1) K):=by
 refine F.ok wG zO (fun cdv A outer s H vs Q E hr h=>?_)
 obtain ⟨x,y,rfl,f0,m,rfl,rfl,m0,m1,q⟩:=h
 refine ⟨_,(zd (zV (zB xV (pv 1) zi (zE _)) (zg (zo (pv 0))) zu) (zd (zr (i:=2) wG.nd rfl (Or.inl rfl) (zA vW (zA xt (pv 1) zi) zi)) (zg (zo (zN (za (ze qc0 hr rfl (za (pv 0) (za (pv 2) zb))) (za (ze qc0 hr rfl (za (zA xt (pv 0) (pv 2)) (za (zA yH (pv 1) (pv 2)) zb))) zb))))))),?_⟩
 refine ⟨_,rfl,rfl,_,rfl,?_⟩
 by_cases c:m = 1
 ·refine y0 (decide_eq_true (congrArg V.int c)) ⟨_,rfl,q _ _ (Grow.refl _ _) ?_⟩
  rw [uo (by omega)]; exact rfl
 refine yG (decide_eq_false fun z=>c (V.int.inj z)) ?_
 refine ⟨_,rfl,_,_,rfl,rfl,_,_,rfl,rfl,⟨by decide,by decide⟩,?_⟩
 have hL:((m + 1) / 2).toNat = (m.toNat + 1) / 2:=by omega
 have hR:(m - (m + 1) / 2).toNat = m.toNat - (m.toNat + 1) / 2:=by omega
 refine ⟨_,rfl,_,rfl,_,_,rfl,f0,_,rfl,rfl,by omega,by omega,fun y1 H1 g1 h1=>?_⟩
 refine ⟨_,rfl,_,rfl,_,_,rfl,rfl,_,rfl,_,rfl,_,_,rfl,rfl,_,_,rfl,_,_,rfl,rfl,by omega,by omega,fun y2 H2 g2 h2=>⟨szl rfl,fun t ht=>?_⟩⟩
 have g3:Grow [] H2 (upd H2 t (.tup [y1,y2])):=Grow.new ht _
 refine q _ _ (g1.trans (g2.trans g3)) ?_
 rw [vt (by omega)]
 refine ⟨t,y1,y2,rfl,SqT.of zc,?_,?_⟩
 ·rw [hL] at h1; exact g3.tree (g2.tree h1)
 ·rw [hR,show f0 + (m + 1) / 2 = f0 + (((m.toNat + 1) / 2:Nat):Int) by omega] at h2; exact g3.tree h2
theorem qz:FnScope ["thing"] ["thing"] (zh (top 63)):=⟨rfl,rfl,rfl,by decide +kernel,rfl,by decide +kernel,by decide +kernel⟩
theorem qA (F:Fun K "need_many" "need_many" (top 63) f fd) (B:Blt mg) (qc0:zf P w K mg base n "is_within" ["thing","least","greatest"] (yy K))  {t_MOST_DEEDS:Tok} (g_MOST_DEEDS:mg "MOST_DEEDS" = some (.int 40 t_MOST_DEEDS))  :
  FnOk P w K mg base CX0 (n + 1) f fd ["thing"] (xg K):=by
 refine F.ok qz yh (fun cdv A outer s H vs Q E hr h=>?_)
 obtain ⟨x,rfl,m,rfl,m0,m1,q⟩:=h
 refine ⟨_,(zg (zV (yq (zY (ze qc0 hr rfl (za (pv 0) (za zi (za (ve rfl g_MOST_DEEDS (show RelV (.int 40) (.int 40 t_MOST_DEEDS) from ⟨_,rfl⟩)) zb)))))) (zg yz) zu)),?_⟩
 exact ⟨_,rfl,_,_,_,rfl,_,_,_,rfl,rfl,rfl,_,rfl,yG (by rw [decide_eq_true m0,decide_eq_true m1]; rfl) q⟩
theorem XI:FnScope ["many"] ["many"] (zh (top 72)):=⟨rfl,rfl,rfl,by decide +kernel,rfl,by decide +kernel,by decide +kernel⟩
theorem XJ (F:Fun K "halved" "halved" (top 72) f fd) (B:Blt mg) (qc0:zf P w K mg base n "halved_from" ["first","many"] (yg 40 K)) (qc1:zf P w K mg base n "need_many" ["thing"] (xg K))    :
  FnOk P w K mg base CX0 (n + 1) f fd ["many"] (rJ K):=by
 refine F.ok XI yh (fun cdv A outer s H vs Q E hr h=>?_)
 obtain ⟨x,rfl,m,rfl,m0,m1,q⟩:=h
 refine ⟨_,(zd (zz (ze qc1 hr rfl (za (pv 0) zb))) (zg (zo (ze qc0 hr rfl (za zi (za (pv 0) zb)))))),?_⟩
 exact ⟨_,rfl,_,rfl,m,rfl,m0,m1,_,rfl,_,_,rfl,0,m,rfl,rfl,m0,m1,q⟩
theorem ww:FnScope ["many","tree","number"] ["many"] (zh (top 73)):=⟨rfl,rfl,rfl,by decide +kernel,rfl,by decide +kernel,by decide +kernel⟩
theorem ZS (F:Fun K "chained" "chained" (top 73) f fd) (B:Blt mg) (qc0:zf P w K mg base n "need_many" ["thing"] (xg K))    :
  FnOk P w K mg base CX0 (n + 1) f fd ["many"] (th K):=by
 refine F.ok ww yh (fun cdv A outer s H vs Q E hr h=>?_)
 obtain ⟨x,rfl,m,rfl,m0,m1,q⟩:=h
 refine ⟨_,(zd (zz (ze qc0 hr rfl (za (pv 0) zb))) (zd (zr (i:=1) ww.nd rfl (Or.inl rfl) zi) (zd (xf PassesOwn.never rfl (sW rfl B.range (za zi (za (pv 0) zb))) (zj (i:=2) ww.nd rfl (Or.inl rfl)) (zg (zr (i:=1) ww.nd rfl (Or.inl rfl) (zN (za (pv 1) (za (pv 2) zb)))))) (zg (zo (pv 1)))))),?_⟩
 refine ⟨_,rfl,_,rfl,m,rfl,m0,m1,?_⟩
 refine ⟨_,rfl,_,_,rfl,⟨by omega,by omega,by omega,by omega⟩,xZ (fun i σ H'=>∃ y e,σ = [some (.int m),some y,e] /\ Grow [] H H' /\ yp K H' y (chT i)) ⟨_,_,rfl,Grow.refl _ _,rfl⟩ ?_ ?_⟩
 ·rintro i σ H1 hi ⟨y,e,rfl,g,hy⟩
  refine ⟨_,rfl,_,rfl,szl rfl,fun t ht=>⟨_,_,rfl,g.trans (Grow.new ht _),t,y,.int (1 + i),rfl,SqT.of zc,(Grow.new (m:=[]) ht _).tree hy,?_⟩⟩
  exact congrArg V.int (by omega)
 ·rintro σ H1 ⟨y,e,rfl,g,hy⟩
  exact ⟨_,rfl,q _ _ g hy⟩
theorem ZT:FnScope ["deeds","tree"] ["deeds","tree"] (zh (top 67)):=⟨rfl,rfl,rfl,by decide +kernel,rfl,by decide +kernel,by decide +kernel⟩
theorem ZU (F:Fun K "deed_of" "deed_of" (top 67) f fd) (B:Blt mg) {N:Nat} (qc0:zf P w K mg base n "joined" ["one","other"] (wc K)) (qc1:zf P w K mg base n "deed_of" ["deeds","tree"] (yW N K)) (qc2:zf P w K mg base n "is_whole" ["thing"] (z7 K))    :
  FnOk P w K mg base CX0 (n + 1) f fd ["deeds","tree"] (yW (N + 1) K):=by
 refine F.ok ZT zO (fun cdv A outer s H vs Q E hr h=>?_)
 obtain ⟨x,y,rfl,ds,t,f0,hd,ht,ho,f1,f2,hN,q⟩:=h
 refine ⟨_,(zd (zV (zY (ze qc2 hr rfl (za (pv 1) zb))) (zg (zo (zC zT (pv 0) (pv 1) (fun _ _=>rfl)))) zu) (zg (zo (ze qc0 hr rfl (za (ze qc1 hr rfl (za (pv 0) (za (zC zT (pv 1) zi (fun _ _=>rfl)) zb))) (za (ze qc1 hr rfl (za (pv 0) (za (zC zT (pv 1) zi (fun _ _=>rfl)) zb))) zb)))))),?_⟩
 have hd0:=hd
 obtain ⟨r,xs,rfl,hs,hall⟩:=hd0
 cases t with
 | leaf v =>
  cases (show y = V.int v from ht)
  cases (show v = f0 from ho)
  have f2':f0 + 1 <= ds.length:=f2
  have hj:f0.toNat < ds.length:=by omega
  obtain ⟨xx,hxx,hdx⟩:=hall.getR (List.getElem?_eq_getElem hj)
  refine ⟨_,rfl,_,rfl,x9,_,rfl,iteT ⟨_,rfl,_,rfl,r,_,_,_,rfl,rfl,hs,vP (xk f1 (by rw [hall.len]; exact hj)) hxx,q _ _ (Grow.refl _ _) ?_⟩⟩
  show zw K H xx (ds.getD f0.toNat look)
  rw [List.getD_eq_getElem?_getD,List.getElem?_eq_getElem hj]; exact hdx
 | node tl tr =>
  have hh:max tl.ht tr.ht + 1 < N + 1:=hN
  have f2':f0 + (tl.count + tr.count) <= ds.length:=f2
  have c1:=yu tl
  have c2:=yu tr
  have kn:=Yt ht
  obtain ⟨a,xl,xr,rfl,hs2,h1,h2⟩:=ht
  refine ⟨_,rfl,_,rfl,kn,_,rfl,iteF ?_⟩
  refine ⟨_,rfl,_,rfl,a,_,_,_,rfl,rfl,hs2,rfl,_,_,rfl,ds,tl,f0,hd,h1,ho.1,f1,by omega,by omega,fun y1 H1 g1 hy1=>?_⟩
  refine ⟨_,rfl,_,rfl,a,_,_,_,rfl,rfl,g1.sqT hs2,rfl,_,_,rfl,ds,tr,f0 + tl.count,g1.deedsT hd,g1.tree h2,ho.2,by omega,by omega,by omega,fun y2 H2 g2 hy2=>?_⟩
  exact ⟨_,_,rfl,wW ds tl,wW ds tr,g2.deed hy1,hy2,fun t ht=>q _ _ (g1.trans (g2.trans (Grow.new ht _))) ⟨t,rfl,SqT.of zc⟩⟩
theorem xB:FnScope ["thing","many","todo","reached","part"] ["thing","many"] (zh (top 64)):=⟨rfl,rfl,rfl,by decide +kernel,rfl,by decide +kernel,by decide +kernel⟩
theorem ZV (F:Fun K "is_tree" "is_tree" (top 64) f fd) (B:Blt mg) (qc0:zf P w K mg base n "is_whole" ["thing"] (z7 K)) (qc1:zf P w K mg base n "need_many" ["thing"] (xg K))    :
  FnOk P w K mg base CX0 (n + 1) f fd ["thing","many"] (tm K):=by
 refine F.ok xB zO (fun cdv A outer s H vs Q E hr h=>?_)
 obtain ⟨x,y,rfl,t,m,ht,rfl,ho,hc,m0,m1,q⟩:=h
 refine ⟨_,(zd (zz (ze qc1 hr rfl (za (pv 1) zb))) (zd (zr (i:=2) xB.nd rfl (Or.inl rfl) (yA (za (pv 0) zb))) (zd (zr (i:=3) xB.nd rfl (Or.inl rfl) zi) (zd (XO PassesOwn.never (XS (pv 2) (fun _=>rfl)) (zd (zr (i:=4) xB.nd rfl (Or.inl rfl) (Uf PySem.F.plainAttrs_list PySem.F.slot_list_pop PySem.F.type_list_pop Ug (pv 2))) (zg (zV (PW.pt (wy (zY (zm yK rfl B.isinstance zK (za (pv 4) (za (wB rfl B.tuple zG) zb)))) (xC (zB xV (zm zp rfl B.len yZ (za (pv 4) zb)) zi (zE _))))) (zd (zz (ud PySem.F.plainAttrs_list PySem.F.slot_list_append PySem.F.type_list_append yN (pv 2) (za (zC zT (pv 4) zi (fun _ _=>rfl)) zb))) (zg (zz (ud PySem.F.plainAttrs_list PySem.F.slot_list_append PySem.F.type_list_append yN (pv 2) (za (zC zT (pv 4) zi (fun _ _=>rfl)) zb))))) (zg (zV (PW.pt (wy (zY (ze qc0 hr rfl (za (pv 4) zb))) (xC (zB xV (pv 4) (pv 3) (zE _))))) (zg (V6 (i:=3) xB.nd rfl (Or.inl rfl) zi V7)) (zg (zo wH)))))))) (zg (zo (wJ xV (pv 3) (pv 1) (zE _)))))))),?_⟩
 refine ⟨_,rfl,_,rfl,m,rfl,m0,m1,?_⟩
 refine ⟨_,rfl,szl rfl,fun l hl=>?_⟩
 have gl:Grow [l] H (upd H l (.lst [x])):=Grow.new hl _
 have hw:=se t
 refine ⟨fun μ σ' H'=>∃ xs ts k e,σ' = [some x,some (V.int m),some (V.ref l),some (V.int k),e] /\ Grow [l] H H' /\ H' l = some (.lst xs) /\ AllR (yp K H') xs ts /\ OrdR ts.reverse k m /\ wsum ts = μ /\ μ <= 200,⟨t.wt,[x],[t],0,_,rfl,gl,zc,⟨gl.tree ht,trivial⟩,⟨ho,by show 0 + t.count = m; omega⟩,by simp [wsum],by omega⟩,?_⟩
 rintro μ σ' H1 ⟨xs,ts,k,e,rfl,g1,hl1,ha1,hO,rfl,hμ⟩
 refine ⟨_,rfl,!xs.isEmpty,.inl ⟨xs,SqL.of hl1,rfl⟩,?_⟩
 by_cases hx:xs = []
 ·subst hx
  have:ts = []:=by have:=ha1.len; cases ts with | nil=>rfl | cons _ _=>cases this
  subst this
  have hk:k = m:=hO
  refine yG rfl ⟨_,rfl,_,rfl,rfl,?_⟩
  rw [decide_eq_true (congrArg V.int hk)]
  exact q _ (g1.shrink hl)
 obtain ⟨ys,y,rfl⟩:=Vl hx
 obtain ⟨js,j,rfl,hjs,hj⟩:=ha1.snocE
 rw [y6] at hμ
 refine y0 (by simp) ⟨fun σ' H'=>∃ μ,μ < wsum (js ++ [j]) /\ ∃ xs ts k e,σ' = [some x,some (V.int m),some (V.ref l),some (V.int k),e] /\ Grow [l] H H' /\ H' l = some (.lst xs) /\ AllR (yp K H') xs ts /\ OrdR ts.reverse k m /\ wsum ts = μ /\ μ <= 200,fun _ _ z=>z,?_⟩
 rw [List.reverse_append] at hO
 have hO2:Ordd j k /\ OrdR js.reverse (k + j.count) m:=hO
 refine ⟨_,rfl,.inl ⟨rfl,_,SqL.of hl1⟩,l,_,y,rfl,rfl,hl1,by simp,?_⟩
 rw [List.dropLast_concat]
 have g2:Grow [l] H1 (upd H1 l (.lst ys)):=Grow.set hl1 (by simp) _
 have hjs2:=g2.treesR hjs
 have hj2:=g2.tree hj
 cases j with
 | leaf v =>
  cases (show y = V.int v from hj)
  cases (show v = k from hO2.1)
  refine ⟨_,rfl,_,_,_,false,rfl,rfl,rfl,_,rfl,iteF (iteF ?_)⟩
  refine ⟨_,rfl,_,rfl,x9,_,rfl,iteT ⟨_,rfl,_,rfl,rfl,_,rfl,y0 (by simp) ?_⟩⟩
  refine ⟨_,rfl,_,_,rfl,rfl,wsum js,?_,ys,js,_,_,rfl,g1.trans g2,zc,hjs2,hO2.2,rfl,by omega⟩
  rw [y6]; show wsum js < wsum js + 1; omega
 | node tl tr =>
  obtain ⟨a,xl,xr,rfl,hs,h1,h2⟩:=hj2
  have hw2:Tr.wt (.node tl tr) = tl.wt + tr.wt + 1:=rfl
  rw [hw2] at hμ
  have hlen:ys.length <= wsum js:=by rw [hjs.len]; exact jU js
  refine ⟨_,rfl,_,_,_,true,rfl,.inl ⟨rfl,_,hs⟩,rfl,_,rfl,iteT ⟨_,rfl,a,_,rfl,.inr hs,rfl,_,rfl,y0 rfl ?_⟩⟩
  refine ⟨_,rfl,.inl ⟨rfl,_,SqL.of zc⟩,_,rfl,a,_,_,_,rfl,rfl,hs,rfl,l,ys,_,rfl,rfl,zc,z9 (by omega),?_⟩
  have g3:Grow [l] (upd H1 l (.lst ys)) (upd (upd H1 l (.lst ys)) l (.lst (ys ++ [xr]))):=Grow.set zc (by simp) _
  have hs3:=g3.sqT hs
  refine ⟨_,rfl,.inl ⟨rfl,_,SqL.of zc⟩,_,rfl,a,_,_,_,rfl,rfl,hs3,rfl,l,ys ++ [xr],_,rfl,rfl,zc,z9 (by rw [List.length_append]; show ys.length + 1 <= 1000; omega),?_⟩
  have g4:Grow [l] (upd (upd H1 l (.lst ys)) l (.lst (ys ++ [xr]))) (upd (upd (upd H1 l (.lst ys)) l (.lst (ys ++ [xr]))) l (.lst (ys ++ [xr] ++ [xl]))):=Grow.set zc (by simp) _
  have g34:=g3.trans g4
  refine ⟨wsum (js ++ [tr] ++ [tl]),?_,ys ++ [xr] ++ [xl],js ++ [tr] ++ [tl],k,_,rfl,g1.trans (g2.trans g34),zc,((g34.treesR hjs2).app (.one (g34.tree h2))).app (.one (g34.tree h1)),?_,rfl,?_⟩
  ·rw [y6,y6,y6,hw2]; omega
  ·rw [List.reverse_append,List.reverse_append]
   obtain ⟨⟨o1,o2⟩,o3⟩:=hO2
   refine ⟨o1,o2,?_⟩
   have:k + tl.count + tr.count = k + Tr.count (.node tl tr):=by show k + tl.count + tr.count = k + (tl.count + tr.count); omega
   rw [this]; exact o3
  ·rw [y6,y6]; omega
theorem qB:FnScope ["thing","many"] ["thing","many"] (zh (top 66)):=⟨rfl,rfl,rfl,by decide +kernel,rfl,by decide +kernel,by decide +kernel⟩
theorem qC (F:Fun K "need_tree" "need_tree" (top 66) f fd) (B:Blt mg) (qc0:zf P w K mg base n "is_tree" ["thing","many"] (tm K))    :
  FnOk P w K mg base CX0 (n + 1) f fd ["thing","many"] (we K):=by
 refine F.ok qB zO (fun cdv A outer s H vs Q E hr h=>?_)
 obtain ⟨x,y,rfl,t,m,ht,rfl,ho,hc,m0,m1,q⟩:=h
 refine ⟨_,(zg (zV (yq (zY (ze qc0 hr rfl (za (pv 0) (za (pv 1) zb))))) (zg yz) zu)),?_⟩
 exact ⟨_,rfl,_,rfl,_,_,rfl,t,m,ht,rfl,ho,hc,m0,m1,fun H1 g1=>⟨_,rfl,iteF (q _ g1)⟩⟩
theorem vc:FnScope ["thing","row"] ["thing"] (zh (top 65)):=⟨rfl,rfl,rfl,by decide +kernel,rfl,by decide +kernel,by decide +kernel⟩
theorem sN (F:Fun K "need_deeds" "need_deeds" (top 65) f fd) (B:Blt mg) (qc0:zf P w K mg base n "is_deed" ["thing"] (wm K))  {t_MOST_DEEDS:Tok} (g_MOST_DEEDS:mg "MOST_DEEDS" = some (.int 40 t_MOST_DEEDS))  :
  FnOk P w K mg base CX0 (n + 1) f fd ["thing"] (xH K):=by
 refine F.ok vc yh (fun cdv A outer s H vs Q E hr h=>?_)
 obtain ⟨x,rfl,ds,⟨r,xs,rfl,hs,hall⟩,l1,l2,hok,q⟩:=h
 refine ⟨_,(zd (zr (i:=1) vc.nd rfl (Or.inl rfl) (vD (zm yK rfl B.isinstance zK (za (pv 0) (za (wB rfl B.tuple zG) zb))) (wR (jG Zi Zi zi (zm zp rfl B.len yZ (za (pv 0) zb)) (ve rfl g_MOST_DEEDS (show RelV (.int 40) (.int 40 t_MOST_DEEDS) from ⟨_,rfl⟩)))))) (zg (zV (PW.pt (v9 (yq (zY (pv 1))) (xY (yq (zY (zm (yO rfl) rfl B.all rk (za (zJ (CSc.of (N':=["deed"]) (sub:=[none]) (zh (top 65)) ["thing","row"] rfl rfl (by decide +kernel) rfl) rfl (yM (pv 0)) (fun _ _ _ _ _ _=>zj (i:=0) (show (["deed"]:List Str).Nodup by decide +kernel) rfl (Or.inl rfl)) (fun _ _ _ _ _ _=>zF) (fun _ _ _ _ _ _=>(ze qc0 hr rfl (za (pv 0) zb)))) zb))))))) (zg yz) zu))),?_⟩
 have hl:=hall.len
 refine ⟨_,rfl,_,_,_,true,rfl,.inl ⟨rfl,_,hs⟩,rfl,_,rfl,iteT ?_⟩
 refine ⟨_,rfl,r,_,rfl,.inr hs,_,_,rfl,rfl,_,rfl,y0 (decide_eq_true (by omega)) ⟨_,_,rfl,rfl,?_⟩⟩
 refine ⟨_,rfl,_,rfl,yG (by rw [decide_eq_true (show (xs.length:Int) <= 40 by omega)]; rfl) ?_⟩
 refine ⟨_,rfl,r,rfl,⟨_,hs⟩,xu (fun _=>V.bl true) hs (by omega) ?_ ?_⟩
 ·intro v H2 R hv g k
  obtain ⟨i,hi⟩:=List.getElem?_of_mem hv
  obtain ⟨d,hd,rd,rfl,hrd⟩:=hall.get hi
  refine ⟨_,rfl,_,rfl,.inr ⟨rd,_,rfl,g.sqT hrd,?_,?_⟩⟩
  ·intro v hv
   simp only [Deed.vs,List.mem_cons,List.mem_nil_iff,or_false] at hv
   rcases hv with rfl | rfl | rfl
   ·exact x9
   ·exact Zm _
   ·exact Zm _
  ·rw [vh (hok d (List.mem_of_getElem? hd))]; exact k _ (Grow.refl _ _)
 ·intro H2 p g hp
  refine ⟨p,xs.map (fun _=>true),rfl,SqL.of (by rw [zc,List.map_map]; rfl),_,rfl,yG (by rw [wd]; rfl) ?_⟩
  exact q _ (g.trans (Grow.new hp _))
theorem XL:FnScope ["deeds","tree"] ["deeds","tree"] (zh (top 68)):=⟨rfl,rfl,rfl,by decide +kernel,rfl,by decide +kernel,by decide +kernel⟩
theorem XM (F:Fun K "folded" "folded" (top 68) f fd) (B:Blt mg) (qc0:zf P w K mg base n "deed_of" ["deeds","tree"] (yW 41 K)) (qc1:zf P w K mg base n "need_tree" ["thing","many"] (we K)) (qc2:zf P w K mg base n "need_deeds" ["thing"] (xH K))    :
  FnOk P w K mg base CX0 (n + 1) f fd ["deeds","tree"] (rL K):=by
 refine F.ok XL zO (fun cdv A outer s H vs Q E hr h=>?_)
 obtain ⟨x,y,rfl,ds,t,hd,d1,d2,hok,ht,ho,hc,hh,q⟩:=h
 refine ⟨_,(zd (zz (ze qc2 hr rfl (za (pv 0) zb))) (zd (zz (ze qc1 hr rfl (za (pv 1) (za (zm zp rfl B.len yZ (za (pv 0) zb)) zb)))) (zg (zo (ze qc0 hr rfl (za (pv 0) (za (pv 1) zb))))))),?_⟩
 refine ⟨_,rfl,_,rfl,ds,hd,d1,d2,hok,fun H1 g1=>?_⟩
 obtain ⟨r,xs,rfl,hs,hall⟩:=g1.deedsT hd
 have hl:=hall.len
 refine ⟨_,rfl,_,rfl,r,_,rfl,.inr hs,_,_,rfl,t,_,g1.tree ht,rfl,ho,by omega,by omega,by omega,fun H2 g2=>?_⟩
 refine ⟨_,rfl,_,rfl,_,_,rfl,ds,t,0,g2.deedsT ⟨r,xs,rfl,hs,hall⟩,g2.tree (g1.tree ht),ho,by decide,by omega,hh,fun y3 H3 g3 hy3=>q _ _ (g1.trans (g2.trans g3)) ?_⟩
 rw [wX hok ho (by decide) (by omega),hc,Yz] at hy3
 exact hy3
theorem sO:FnScope ["deeds","tree","value","values","left","right"] ["deeds","tree","value","values"] (zh (top 69)):=⟨rfl,rfl,rfl,by decide +kernel,rfl,by decide +kernel,by decide +kernel⟩
theorem Wx (F:Fun K "share" "share" (top 69) f fd) (B:Blt mg) {N:Nat} (qc0:zf P w K mg base n "joined" ["one","other"] (wc K)) (qc1:zf P w K mg base n "share" ["deeds","tree","value","values"] (wn N K)) (qc2:zf P w K mg base n "made" ["deed","value"] (wL K)) (qc3:zf P w K mg base n "is_whole" ["thing"] (z7 K))    :
  FnOk P w K mg base CX0 (n + 1) f fd ["deeds","tree","value","values"] (wn (N + 1) K):=by
 refine F.ok sO xG (fun cdv A outer s H vs Q E hr h=>?_)
 obtain ⟨x,y,z,u,rfl,ds,t,f0,v0,l,zs,hd,ht,ho,f1,f2,hN,rfl,rfl,hl,hz,q⟩:=h
 refine ⟨_,(zd (zV (zY (ze qc3 hr rfl (za (pv 1) zb))) (zd (zz (ud PySem.F.plainAttrs_list PySem.F.slot_list_append PySem.F.type_list_append yN (pv 3) (za (pv 2) zb))) (zg (zo (zC zT (pv 0) (pv 1) (fun _ _=>rfl))))) zu) (zd (zr (i:=4) sO.nd rfl (Or.inl rfl) (ze qc1 hr rfl (za (pv 0) (za (zC zT (pv 1) zi (fun _ _=>rfl)) (za (pv 2) (za (pv 3) zb)))))) (zd (zr (i:=5) sO.nd rfl (Or.inl rfl) (ze qc1 hr rfl (za (pv 0) (za (zC zT (pv 1) zi (fun _ _=>rfl)) (za (ze qc2 hr rfl (za (pv 4) (za (pv 2) zb))) (za (pv 3) zb)))))) (zg (zo (ze qc0 hr rfl (za (pv 4) (za (pv 5) zb)))))))),?_⟩
 have hd0:=hd
 obtain ⟨r,xs,rfl,hs,hall⟩:=hd0
 cases t with
 | leaf v =>
  cases (show y = V.int v from ht)
  cases (show v = f0 from ho)
  have f2':f0 + 1 <= ds.length:=f2
  have hz':(zs.length:Int) + 1 <= 500:=hz
  have hj:f0.toNat < ds.length:=by omega
  obtain ⟨xx,hxx,hdx⟩:=hall.getR (List.getElem?_eq_getElem hj)
  refine ⟨_,rfl,_,rfl,x9,_,rfl,iteT ⟨_,rfl,.inl ⟨rfl,_,SqL.of hl⟩,_,rfl,l,_,_,rfl,rfl,hl,?_,?_⟩⟩
  ·rw [List.length_map]; exact z9 (by omega)
  have g1:Grow [l] H (upd H l (.lst (zs.map V.int ++ [V.int v0]))):=Grow.set hl (by simp) _
  refine ⟨_,rfl,_,rfl,r,_,_,_,rfl,rfl,g1.sqT hs,vP (xk f1 (by rw [hall.len]; exact hj)) hxx,q _ _ g1 ?_ ?_⟩
  ·rw [zc,List.map_append]; rfl
  ·show zw K _ xx (ds.getD f0.toNat look)
   rw [List.getD_eq_getElem?_getD,List.getElem?_eq_getElem hj]; exact g1.deed hdx
 | node tl tr =>
  have hh:max tl.ht tr.ht + 1 < N + 1:=hN
  have f2':f0 + (tl.count + tr.count) <= ds.length:=f2
  have hz':(zs.length:Int) + (tl.count + tr.count) <= 500:=hz
  have c1:=yu tl
  have c2:=yu tr
  have kn:=Yt ht
  obtain ⟨a,xl,xr,rfl,hs2,h1,h2⟩:=ht
  refine ⟨_,rfl,_,rfl,kn,_,rfl,iteF ?_⟩
  refine ⟨_,rfl,_,rfl,a,_,_,_,rfl,rfl,hs2,rfl,_,rfl,_,rfl,_,_,_,_,rfl,ds,tl,f0,v0,l,zs,hd,h1,ho.1,f1,by omega,by omega,rfl,rfl,hl,by omega,fun y1 H1 g1 hl1 hy1=>?_⟩
  have hln:=vw ds tl v0
  refine ⟨_,rfl,_,rfl,a,_,_,_,rfl,rfl,g1.sqT hs2,rfl,_,rfl,_,rfl,_,_,rfl,wW ds tl,v0,hy1,rfl,_,rfl,_,_,_,_,rfl,ds,tr,f0 + tl.count,_,l,zs ++ wD ds tl v0,g1.deedsT hd,g1.tree h2,ho.2,by omega,by omega,by omega,rfl,rfl,hl1,?_,fun y2 H2 g2 hl2 hy2=>?_⟩
  ·rw [List.length_append]; omega
  refine ⟨_,rfl,_,rfl,_,_,rfl,wW ds tl,wW ds tr,g2.deed hy1,hy2,fun t ht=>q _ _ (g1.trans (g2.trans (Grow.new ht _))) ?_ ⟨t,rfl,SqT.of zc⟩⟩
  rw [zn (zt hl2 ht),hl2,List.append_assoc]; rfl
theorem vd:FnScope ["deeds","tree","value","values"] ["deeds","tree","value"] (zh (top 70)):=⟨rfl,rfl,rfl,by decide +kernel,rfl,by decide +kernel,by decide +kernel⟩
theorem sP (F:Fun K "shared_out" "shared_out" (top 70) f fd) (B:Blt mg) (qc0:zf P w K mg base n "share" ["deeds","tree","value","values"] (wn 41 K)) (qc1:zf P w K mg base n "need_tree" ["thing","many"] (we K)) (qc2:zf P w K mg base n "need_deeds" ["thing"] (xH K)) (qc3:zf P w K mg base n "need_value" ["thing"] (xD K))    :
  FnOk P w K mg base CX0 (n + 1) f fd ["deeds","tree","value"] (wY K):=by
 refine F.ok vd xj (fun cdv A outer s H vs Q E hr h=>?_)
 obtain ⟨x,y,z,rfl,ds,t,v0,hd,d1,d2,hok,ht,ho,hc,hh,rfl,q⟩:=h
 refine ⟨_,(zd (zz (ze qc3 hr rfl (za (pv 2) zb))) (zd (zz (ze qc2 hr rfl (za (pv 0) zb))) (zd (zz (ze qc1 hr rfl (za (pv 1) (za (zm zp rfl B.len yZ (za (pv 0) zb)) zb)))) (zd (zr (i:=3) vd.nd rfl (Or.inl rfl) (yA zb)) (zd (zz (ze qc0 hr rfl (za (pv 0) (za (pv 1) (za (pv 2) (za (pv 3) zb)))))) (zg (zo (zx zq rfl B.tuple zG (za (pv 3) zb))))))))),?_⟩
 refine ⟨_,rfl,_,rfl,v0,rfl,_,rfl,_,rfl,ds,hd,d1,d2,hok,fun H1 g1=>?_⟩
 obtain ⟨r,xs,rfl,hs,hall⟩:=g1.deedsT hd
 have hl:=hall.len
 refine ⟨_,rfl,_,rfl,r,_,rfl,.inr hs,_,_,rfl,t,_,g1.tree ht,rfl,ho,by omega,by omega,by omega,fun H2 g2=>?_⟩
 refine ⟨szl rfl,fun l hlf=>?_⟩
 have g3:Grow [] H2 (upd H2 l (.lst [])):=Grow.new hlf _
 have g23:=g2.trans g3
 refine ⟨_,rfl,_,rfl,_,rfl,_,rfl,_,_,_,_,rfl,ds,t,0,v0,l,[],g23.deedsT ⟨r,xs,rfl,hs,hall⟩,g23.tree (g1.tree ht),ho,by decide,by omega,hh,rfl,rfl,zc,by show (0:Int) + t.count <= 500; omega,fun y4 H4 g4 hl4 hy4=>?_⟩
 rw [List.nil_append,vu hok v0 ho (by decide) (by omega),hc,Yz] at hl4
 refine ⟨_,rfl,l,_,rfl,.inl ⟨SqL.of hl4,fun p hp=>q _ _ ?_ ⟨p,rfl,SqT.of zc⟩⟩⟩
 exact g1.trans (g2.trans ((((g3.wk (m:=[l])).trans g4).shrink hlf).trans (Grow.new hp _)))
theorem xp:FnScope ["_law_own","_law_value","_law_due","_law_behind","_law_deeds","_law_tree"] ["_law_own","_law_value","_law_due","_law_behind"] (zh (top 82)):=⟨rfl,rfl,rfl,by decide +kernel,rfl,by decide +kernel,by decide +kernel⟩
theorem uU (F:Fun K "_law_shared" "_law_shared" (top 82) f fd) (B:Blt mg) (qc0:zf P w K mg base n "halved" ["many"] (rJ K)) (qc1:zf P w K mg base n "chained" ["many"] (th K)) (qc2:zf P w K mg base n "done" ["deed","value"] (qO K)) (qc3:zf P w K mg base n "folded" ["deeds","tree"] (rL K)) (qc4:zf P w K mg base n "shared_out" ["deeds","tree","value"] (wY K))    :
  FnOk P w K mg base CX0 (n + 1) f fd ["_law_own","_law_value","_law_due","_law_behind"] (uJ K):=by
 refine F.ok xp xG (fun cdv A outer s H vs Q E hr h=>?_)
 obtain ⟨x,y,z,u,rfl,l,zs,as,v,rfl,hl,all,a1,a16,ok,rfl,hz,rfl,q⟩:=h
 refine ⟨_,(zd (zr (i:=4) xp.nd rfl (Or.inl rfl) (zx zq rfl B.tuple zG (za (zJ (CSc.of (N':=["_law_ask"]) (sub:=[none]) (zh (top 82)) ["_law_own","_law_value","_law_due","_law_behind","_law_deeds","_law_tree"] rfl rfl (by decide +kernel) rfl) rfl (tU (pv 0)) (fun _ _ _ _ _ _=>zj (i:=0) (show (["_law_ask"]:List Str).Nodup by decide +kernel) rfl (Or.inl rfl)) (fun _ _ _ _ _ _=>zF) (fun _ _ _ _ _ _=>(zC (xE (K:=K) rfl) (pv 0) zi (fun _ _=>rfl)))) zb))) (zd (xf PassesOwn.never rfl (yM (zN (za (ze qc0 hr rfl (za (zm zp rfl B.len yZ (za (pv 0) zb)) zb)) (za (ze qc1 hr rfl (za (zm zp rfl B.len yZ (za (pv 0) zb)) zb)) (za (ze qc0 hr rfl (za (zm zp rfl B.len yZ (za (pv 0) zb)) zb)) zb))))) (zj (i:=5) xp.nd rfl (Or.inl rfl)) (zg (zV (PW.pt (v9 (zB (Uo hr) (ze qc4 hr rfl (za (pv 4) (za (pv 5) (za (pv 1) zb)))) (pv 2) (zE _)) (xY (zB sY (ze qc2 hr rfl (za (ze qc3 hr rfl (za (pv 4) (za (pv 5) zb))) (za (pv 1) zb))) (pv 3) (zE _))))) (zg (zo wH)) zu))) (zg (zo wH)))),?_⟩
 have zl:=all.len
 have dl:(as.map (·.deed)).length = as.length:=List.length_map ..
 have okD:xw (as.map (·.deed)):=fun d hd=>by obtain ⟨a,ha,rfl⟩:=List.mem_map.mp hd; exact ok a ha
 refine yE (fun w H'=>xh K H' w (as.map (·.deed)) /\ Grow [] H H') (fun Kk hk=>⟨_,rfl,l,rfl,⟨_,SqL.of hl⟩,u9 (xs:=zs) (fun i ys H'=>H' = H /\ AllR (zw K H) ys ((as.take i).map (·.deed))) ⟨rfl,trivial⟩ (fun i ys H' z=>by rw [z.1]; exact SqL.of hl) ?_ ?_⟩) ?_
 ·rintro i x ys H' hx ⟨rfl,ally⟩
  obtain ⟨a,ha,r,rd,rfl,h1,h2⟩:=all.get hx
  have hi:=(List.getElem?_eq_some_iff.mp ha).1
  have yl:ys.length <= i:=by rw [ally.len,List.length_map,List.length_take]; omega
  refine ⟨_,rfl,r,_,2,.ref rd,rfl,rfl,h1,rfl,zX (by omega),rfl,?_⟩
  rw [List.take_succ,ha,List.map_append]
  exact ally.app (AllR.one ⟨rd,rfl,h2⟩)
 ·rintro ys H' ⟨rfl,ally⟩ l2 hl2
  rw [zl,List.take_length] at ally
  have g2:=Grow.new (m:=[]) hl2 (.lst ys)
  refine ⟨l2,_,rfl,.inl ⟨SqL.of zc,fun r hr'=>hk _ _ ⟨⟨r,ys,rfl,SqT.of zc,ally.imp fun x d h=>(Grow.new (m:=[]) hr' _).deed (g2.deed h)⟩,g2.trans (Grow.new hr' _)⟩⟩⟩
 rintro yd H1 ⟨hd1,g1⟩
 have hl1:=g1.keep _ _ (by simp) hl
 refine ⟨_,rfl,l,_,rfl,.inl (SqL.of hl1),_,rfl,(zs.length:Int),rfl,by omega,by omega,fun y1 H2 g2 t2=>?_⟩
 have hl2:=g2.keep _ _ (by simp) hl1
 refine ⟨_,rfl,l,_,rfl,.inl (SqL.of hl2),_,rfl,(zs.length:Int),rfl,by omega,by omega,fun y2 H3 g3 t3=>?_⟩
 have hl3:=g3.keep _ _ (by simp) hl2
 refine ⟨_,rfl,l,_,rfl,.inl (SqL.of hl3),_,rfl,(zs.length:Int),rfl,by omega,by omega,fun y3 H4 g4 t4=>⟨szl rfl,fun t ht=>?_⟩⟩
 have g5:=Grow.new (m:=[]) ht (.tup [y1,y2,y3])
 have e5:=zc (H:=H4) (a:=t) (o:=.tup [y1,y2,y3])
 have G5:=g1.trans (g2.trans (g3.trans (g4.trans g5)))
 have hd5:=(g2.trans (g3.trans (g4.trans g5))).deedsT hd1
 have tr1:=(g3.trans (g4.trans g5)).tree t2
 have tr2:=(g4.trans g5).tree t3
 have tr3:=g5.tree t4
 have hz5:=G5.board hz
 generalize upd H4 t (.tup [y1,y2,y3]) = H5 at g5 e5 G5 hd5 tr1 tr2 tr3 hz5 ⊢
 rw [Int.toNat_natCast] at tr1 tr3
 have hA:=rH (2 ^ 100) zs.length zs.length 0 (Nat.le_refl _) (by omega) (by decide) (by omega) (by decide)
 have hO:=YA zs.length zs.length 0 (Nat.le_refl _) (by omega) (by decide) (by omega)
 have cA:=Yu ((zs.length:Int) - 1).toNat (by omega)
 have cO:=YB ((zs.length:Int) - 1).toNat
 have trs:∀ y ∈ [y1,y2,y3],∃ t,yp K H5 y t /\ Ordd t 0 /\ t.count = as.length /\ t.ht < 41:=fun y hy=>by
  have c1:∀ y,yp K H5 y (y9 0 zs.length) -> ∃ t,yp K H5 y t /\ Ordd t 0 /\ t.count = as.length /\ t.ht < 41:=fun y h=>⟨_,h,hO,by rw [hA.1,zl],by have:=hA.2.2.1; omega⟩
  simp only [List.mem_cons,List.mem_nil_iff,or_false] at hy
  rcases hy with rfl | rfl | rfl
  ·exact c1 _ tr1
  ·exact ⟨_,tr2,cO.1,by rw [cO.2]; omega,by rw [cA.2.1]; omega⟩
  ·exact c1 _ tr3
 refine ⟨t,rfl,⟨_,SqT.of e5⟩,tV (xs:=[y1,y2,y3]) (fun i σ H'=>∃ e5:Option V,σ = [some (.ref l),some (.int v),some z,some (.int (runR v as)),some yd,e5] /\ Grow [] H5 H') ⟨_,rfl,Grow.refl _ _⟩ (fun i σ H' _ ⟨_,_,g⟩=>g.sqT (SqT.of e5)) ?_ ?_⟩
 ·rintro i x σ H6 hx ⟨e5',rfl,g6⟩
  obtain ⟨t,tr,od,ct,ht'⟩:=trs x (List.mem_of_getElem? hx)
  refine ⟨_,rfl,_,rfl,_,rfl,_,_,_,rfl,as.map (·.deed),t,v,g6.deedsT hd5,by omega,by omega,okD,g6.tree tr,od,by rw [dl]; exact ct,ht',rfl,fun y7 H7 g7 h7=>?_⟩
  obtain ⟨r7,rfl,hr7⟩:=h7
  obtain ⟨rz,rfl,hrz⟩:=(g6.trans g7).board hz5
  refine ⟨_,rfl,r7,rz,_,_,rfl,rfl,hr7,hrz,wT,wT,_,rfl,yG (by rw [uj,decide_eq_true rfl]; rfl) ?_⟩
  have G7:=g6.trans g7
  refine ⟨_,rfl,_,rfl,_,_,rfl,as.map (·.deed),t,G7.deedsT hd5,by omega,by omega,okD,G7.tree tr,od,by rw [dl]; exact ct,ht',fun y8 H8 g8 h8=>?_⟩
  refine ⟨_,rfl,_,_,rfl,runD (as.map (·.deed)),v,h8,qR okD,rfl,_,rfl,rfl,_,rfl,yG ?_ ⟨_,rfl,G7.trans g8⟩⟩
  rw [qS okD,← uI]; simp
 ·rintro σ H6 ⟨e5',rfl,g6⟩
  exact q _ (G5.trans g6)
theorem yT:FnScope ["_law_asks_here","_law_box","_law_order","_law_found","_law_hand"] ["_law_asks_here","_law_box","_law_order"] (zh (top 81)):=⟨rfl,rfl,rfl,by decide +kernel,rfl,by decide +kernel,by decide +kernel⟩
theorem vV (F:Fun K "_law_in_order" "_law_in_order" (top 81) f fd) (B:Blt mg)     :
  FnOk P w K mg base CX0 (n + 1) f fd ["_law_asks_here","_law_box","_law_order"] (Zc K):=by
 refine F.ok yT xj (fun cdv A outer s H vs Q E hr h=>?_)
 obtain ⟨x,y,z,rfl,ks,j,gs,hks,rfl,k16,hgs,g16,nd,q⟩:=h
 refine ⟨_,(zd (zr (i:=3) yT.nd rfl (Or.inl rfl) (yA zb)) (zd (xf PassesOwn.never rfl (yM (pv 2)) (zj (i:=4) yT.nd rfl (Or.inr rfl)) (zg (zz (ud PySem.F.plainAttrs_list PySem.F.slot_list_extend PySem.F.type_list_extend rj (pv 3) (za (zJ (CSc.of (N':=["_law_ask","_law_hand","_law_box"]) (sub:=[none,some 4,some 1]) (zh (top 81)) ["_law_asks_here","_law_box","_law_order","_law_found","_law_hand"] rfl rfl (by decide +kernel) rfl) rfl (yM (pv 0)) (fun _ _ _ _ _ _=>zj (i:=0) (show (["_law_ask","_law_hand","_law_box"]:List Str).Nodup by decide +kernel) rfl (Or.inl rfl)) (fun _ _ _ _ _ _=>(jJ (PW.pt (wy (zB xV (zC (xE (K:=K) rfl) (pv 0) zi (fun _ _=>rfl)) (pv 1) (zE _)) (xC (zB xV (zC (xE (K:=K) rfl) (pv 0) zi (fun _ _=>rfl)) (pv 2) (zE _))))))) (fun _ _ _ _ _ _=>(pv 0))) zb))))) (zg (zo (pv 3))))),?_⟩
 obtain ⟨ra,xs,rfl,hra,hxs⟩:=hks
 obtain ⟨rg,rfl,hrg⟩:=hgs
 have xl:=hxs.len
 refine yE (fun v H'=>∃ lf,v = .ref lf /\ H lf = none /\ H' = upd H lf (.lst [])) (fun Kk hk=>⟨szl rfl,fun lf hlf=>hk _ _ ⟨lf,rfl,hlf,rfl⟩⟩) ?_
 rintro _ _ ⟨lf,rfl,hlf,rfl⟩
 have g1:=Grow.new (m:=[]) hlf (.lst [])
 have hF1:=zc (H:=H) (a:=lf) (o:=.lst [])
 generalize upd H lf (.lst []) = H1 at g1 hF1 ⊢
 have hrg1:=g1.sqT hrg
 have hra1:=g1.sqT hra
 have hxs1:=g1.allA hxs
 have lg:(xJ gs).length = gs.length:=by unfold xJ; rw [List.length_map]
 refine ⟨_,rfl,rg,rfl,⟨_,hrg1⟩,tV (xs:=xJ gs) (fun i σ H'=>∃ (e4:Option V) (zs:List V),σ = [some (.ref ra),some (.int j),some (.ref rg),some (.ref lf),e4] /\ Grow [lf] H1 H' /\ H' lf = some (.lst zs) /\ AllA K H' zs (ZJ ks j (gs.take i))) ⟨_,[],rfl,Grow.refl _ _,hF1,trivial⟩ (fun i σ H' _ ⟨_,_,_,g,_⟩=>g.sqT hrg1) ?_ ?_⟩
 ·rintro i x σ H2 hx ⟨e4,zs,rfl,g2,hF2,all2⟩
  obtain ⟨hi,rfl⟩:=rN hx
  obtain ⟨h,hh⟩:∃ h,h = gs.getD i 0:=⟨_,rfl⟩
  have hih:gs[i]? = some h:=by rw [hh]; exact jY hi
  rw [← hh]
  have hra2:=g2.sqT hra1
  have hxs2:=g2.allA hxs1
  have zl:zs.length <= 16:=by
   rw [all2.len]
   exact Nat.le_trans (len1 fun l _=>qg nd) (by rw [List.length_take]; omega)
  refine ⟨_,rfl,.inl ⟨rfl,_,SqL.of hF2⟩,_,rfl,ra,rfl,⟨_,hra2⟩,vY (xs:=xs) (fun n ys σ' H'=>H' = H2 /\ (∃ e0,σ' = [e0,some (.int h),some (.int j)]) /\ AllA K H2 ys ((ks.take n).filter fun a=>decide (a.hand = (h:Int) /\ a.box = (j:Int)))) ⟨rfl,⟨_,rfl⟩,trivial⟩ (fun n ys σ' H' _ z=>by rw [z.1]; exact hra2) ?_ ?_⟩
  ·rintro n x ys σ' H3 hx ⟨rfl,⟨e0,rfl⟩,ally⟩
   obtain ⟨a,ha,haA⟩:=hxs2.get hx
   obtain ⟨r,rd,rfl,h1,h2⟩:=id haA
   have hn:=(List.getElem?_eq_some_iff.mp ha).1
   have yl:ys.length <= n:=by
    rw [ally.len]
    have:=List.length_filter_le (fun a:Ask=>decide (a.hand = (h:Int) /\ a.box = (j:Int))) (ks.take n)
    rw [List.length_take] at this; omega
   have et:((ks.take (n + 1)).filter fun a=>decide (a.hand = (h:Int) /\ a.box = (j:Int))) = ((ks.take n).filter fun a=>decide (a.hand = (h:Int) /\ a.box = (j:Int))) ++ if a.hand = (h:Int) /\ a.box = (j:Int) then [a] else []:=by
    rw [List.take_succ,ha,List.filter_append]
    show _ ++ [a].filter _ = _
    rw [List.filter_cons,List.filter_nil]
    by_cases c:a.hand = (h:Int) /\ a.box = (j:Int)
    ·rw [if_pos c,if_pos (decide_eq_true c)]
    ·rw [if_neg c,if_neg (fun z=>c (of_decide_eq_true z))]
   refine ⟨_,rfl,r,_,0,.int a.hand,rfl,rfl,h1,rfl,_,rfl,rfl,_,rfl,?_⟩
   by_cases c1:a.hand = (h:Int)
   ·refine y0 (decide_eq_true (congrArg V.int c1)) ⟨_,rfl,r,_,1,.int a.box,rfl,rfl,h1,rfl,_,rfl,rfl,_,rfl,?_⟩
    by_cases c2:a.box = (j:Int)
    ·refine y0 (decide_eq_true (congrArg V.int c2)) ⟨_,rfl,zX (by omega),rfl,⟨_,rfl⟩,?_⟩
     rw [et,if_pos ⟨c1,c2⟩]
     exact ally.snoc haA
    ·refine yG (decide_eq_false fun z=>c2 (V.int.inj z)) ⟨rfl,⟨_,rfl⟩,?_⟩
     rw [et,if_neg fun z=>c2 z.2,List.append_nil]
     exact ally
   ·refine yG (decide_eq_false fun z=>c1 (V.int.inj z)) (iteF ⟨rfl,⟨_,rfl⟩,?_⟩)
    rw [et,if_neg fun z=>c1 z.1,List.append_nil]
    exact ally
  ·rintro ys σ' H3 ⟨rfl,_,ally⟩ l4 hl4
   rw [xl,List.take_length] at ally
   have g4:=Grow.new (m:=[]) hl4 (.lst ys)
   have hF4:=g4.keep _ _ (by simp) hF2
   have yl:ys.length <= 1:=by rw [ally.len]; exact qg nd
   refine ⟨lf,l4,zs,ys,rfl,rfl,hF4,zc,Nat.le_of_lt (zX (by omega)),?_⟩
   have gs':Grow [lf] (upd H3 l4 (.lst ys)) (upd (upd H3 l4 (.lst ys)) lf (.lst (zs ++ ys))):=Grow.set hF4 (by simp) _
   refine ⟨_,_,rfl,g2.trans (g4.wk.trans gs'),zc,?_⟩
   have e:ZJ ks j (gs.take (i + 1)) = ZJ ks j (gs.take i) ++ ks.filter fun a=>decide (a.hand = (h:Int) /\ a.box = (j:Int)):=by
    unfold ZJ
    rw [List.take_succ,hih,List.flatMap_append]
    show _ ++ [h].flatMap _ = _
    rw [List.flatMap_cons,List.flatMap_nil,List.append_nil]
   rw [e]
   exact AllA.app97 (gs'.allA (g4.allA all2)) (gs'.allA (g4.allA ally))
 ·rintro σ H2 ⟨e4,zs,rfl,g2,hF2,all2⟩
  rw [lg,List.take_length] at all2
  exact ⟨_,rfl,q lf zs H2 hlf (Grow.tfresh g1 g2 (fun d hd=>by rw [List.mem_singleton.mp hd]; exact hlf)) hF2 all2⟩
theorem qD:FnScope ["k","thing"] ["k","thing"] (zh (top 40)):=⟨rfl,rfl,rfl,by decide +kernel,rfl,by decide +kernel,by decide +kernel⟩
theorem qE (F:Fun K "need_side" "need_side" (top 40) f fd) (B:Blt mg) (qc0:zf P w K mg base n "is_line" ["k","thing"] (vy K))    :
  FnOk P w K mg base CX0 (n + 1) f fd ["k","thing"] (vH K):=by
 refine F.ok qD zO (fun cdv A outer s H vs Q E hr h=>?_)
 obtain ⟨x,y,rfl,k,l,rfl,rfl,k4,hl,q⟩:=h
 refine ⟨_,(zg (zV (yq (zY (ze qc0 hr rfl (za (pv 0) (za (pv 1) zb))))) (zg yz) zu)),?_⟩
 exact ⟨_,rfl,_,rfl,_,_,rfl,k,l,rfl,rfl,k4,hl,_,rfl,iteF q⟩
theorem yV:FnScope ["k","side","firsts","lines","stage"] ["k","side","firsts"] (zh (top 58)):=⟨rfl,rfl,rfl,by decide +kernel,rfl,by decide +kernel,by decide +kernel⟩
theorem sQ (F:Fun K "told_order" "told_order" (top 58) f fd) (B:Blt mg) (qc0:zf P w K mg base n "in_order" ["k","stage","line","firsts"] (xK K)) (qc1:zf P w K mg base n "need_settings" ["k","thing"] (yw K)) (qc2:zf P w K mg base n "need_side" ["k","thing"] (vH K)) (qc3:zf P w K mg base n "need_net" ["thing"] (xI K))    :
  FnOk P w K mg base CX0 (n + 1) f fd ["k","side","firsts"] (rP K):=by
 refine F.ok yV xj (fun cdv A outer s H vs Q E hr h=>?_)
 obtain ⟨x,y,z,rfl,k,e,rows,rfl,rfl,hR,k4,he,hset,q⟩:=h
 refine ⟨_,(zd (zz (ze qc3 hr rfl (za (pv 0) zb))) (zd (zz (ze qc2 hr rfl (za (pv 0) (za (pv 1) zb)))) (zd (zz (ze qc1 hr rfl (za (pv 0) (za (pv 2) zb)))) (zd (zr (i:=3) yV.nd rfl (Or.inl rfl) (yA (za (pv 1) zb))) (zd (xf PassesOwn.never rfl (rO rfl B.range (za (pv 0) (za zi (za (W5 Z6 zi) zb)))) (zj (i:=4) yV.nd rfl (Or.inr rfl)) (zg (X7 (i:=3) yV.nd rfl rfl (CSc.of (N':=["line","in_line","k","stage","firsts"]) (sub:=[none,none,some 0,some 4,some 2]) (zh (top 58)) ["k","side","firsts","lines","stage"] rfl rfl (by decide +kernel) rfl) rfl (tU (pv 3)) (fun _ _ _ _ _ _=>zj (i:=0) (show (["line","in_line","k","stage","firsts"]:List Str).Nodup by decide +kernel) rfl (Or.inl rfl)) (fun _ _ _ _ _ _=>(Vt (K:=K) rfl (ze qc0 hr rfl (za (pv 2) (za (pv 3) (za (pv 0) (za (pv 4) zb))))))) (fun _ _ _ _ _ _=>zj (i:=1) (show (["line","in_line","k","stage","firsts"]:List Str).Nodup by decide +kernel) rfl (Or.inl rfl)) (fun _ _ _ _ _ _=>zF) (fun _ _ _ _ _ _=>(pv 1))))) (zg (zo (zx zq rfl B.tuple zG (za (pv 3) zb))))))))),?_⟩
 have p:=xm k4
 refine ⟨_,rfl,_,rfl,k,rfl,k4,_,rfl,_,rfl,_,_,rfl,k,e,rfl,rfl,k4,he,_,rfl,_,rfl,_,_,rfl,k,rows,rfl,k4,hR,hset,fun H1 g1=>?_⟩
 refine ⟨_,rfl,szl rfl,fun l0 hl0=>?_⟩
 have g0:=Grow.new (m:=[]) hl0 (.lst [.int e])
 refine ⟨_,rfl,_,rfl,_,_,rfl,by omega,by omega,by omega,by omega,tF (fun i σ H'=>∃ (l:Addr) (e4:Option V),σ = [some (.int k),some (.int e),some z,some (.ref l),e4] /\ Grow [] H H' /\ H' l = some (.lst (xJ (ordL k rows e i)))) ⟨l0,_,rfl,g1.trans g0,zc⟩ ?_ ?_⟩
 ·rintro i σ H2 hi ⟨l,e4,rfl,g2,hl2⟩
  have hik:i + 1 <= k:=by omega
  have F:=ordF (rows:=rows) k4 hset he i (by omega)
  have F1:=ordF (rows:=rows) k4 hset he (i + 1) hik
  have p2:2 ^ (i + 1) <= 16:=xm (by omega)
  have hlen:(ordL k rows e i).length <= 16:=by rw [F.len]; exact xm (by omega)
  refine ⟨_,rfl,l,rfl,⟨_,SqL.of hl2⟩,Zu (xs:=xJ (ordL k rows e i)) (fun j ys σ' H'=>∃ (o1 o2:Option V),σ' = [o1,o2,some (.int k),some (.int ((k:Int) - i)),some z] /\ Grow [] H2 H' /\ ys = xJ (((ordL k rows e i).take j).flatMap (inO k rows (k - i)))) ⟨_,_,rfl,Grow.refl _ _,rfl⟩ (fun j ys σ' H' _ ⟨_,_,_,g,_⟩=>SqL.of (g.keep _ _ (by simp) hl2)) ?_ ?_⟩
  ·rintro j x ys σ' H3 hx ⟨o1,o2,rfl,g3,rfl⟩
   obtain ⟨hj,rfl⟩:=rN hx
   obtain ⟨a,hea⟩:∃ a,a = (ordL k rows e i).getD j 0:=⟨_,rfl⟩
   have hja:(ordL k rows e i)[j]? = some a:=by rw [hea]; exact jY hj
   rw [← hea]
   have ha:=F.mem a (List.mem_of_getElem? hja)
   refine ⟨_,rfl,_,rfl,_,rfl,_,rfl,_,_,_,_,rfl,k,k - i,a,rows,rfl,congrArg V.int (by omega),rfl,g3.rows (g2.rows hR),k4,by omega,by omega,ha.1,hset,fun y4 H4 g4 h4=>?_⟩
   obtain ⟨r4,rfl,hs4⟩:=h4
   have hl4:(xJ (((ordL k rows e i).take j).flatMap (inO k rows (k - i)))).length <= 32:=by
    unfold xJ
    rw [List.length_map,len2 (fun _=>rfl),List.length_take]; omega
   refine ⟨r4,rfl,⟨_,hs4⟩,Vs (xs:=xJ (inO k rows (k - i) a)) (fun m ys σ' H'=>∃ (o2:Option V),σ' = [some (.int a),o2,some (.int k),some (.int ((k:Int) - i)),some z] /\ Grow [] H4 H' /\ ys = xJ (((ordL k rows e i).take j).flatMap (inO k rows (k - i))) ++ (xJ (inO k rows (k - i) a)).take m) ⟨_,rfl,Grow.refl _ _,by rw [List.take_zero,List.append_nil]⟩ (fun m ys σ' H' _ ⟨_,_,g,_⟩=>g.sqT hs4) ?_ ?_⟩
   ·rintro m x ys σ' H5 hx ⟨o2,rfl,g5,rfl⟩
    have hm:m < 2:=(List.getElem?_eq_some_iff.mp hx).1
    unfold vN
    refine ui ?_
    refine ⟨_,rfl,z9 (by rw [List.length_append,List.length_take]; omega),_,rfl,g5,?_⟩
    rw [List.take_add_one,hx,List.append_assoc]; rfl
   ·rintro ys σ' H5 ⟨o2,rfl,g5,rfl⟩
    refine ⟨_,_,rfl,g3.trans (g4.trans g5),?_⟩
    rw [List.take_length,List.take_add_one,hja,List.flatMap_append]
    unfold xJ
    rw [List.map_append]
    show _ = _ ++ ([a].flatMap (inO k rows (k - i))).map _
    rw [List.flatMap_cons,List.flatMap_nil,List.append_nil]
  ·rintro ys σ' H3 ⟨o1,o2,rfl,g3,rfl⟩ l4 hl4
   have e4:(xJ (ordL k rows e i)).length = (ordL k rows e i).length:=by unfold xJ; rw [List.length_map]
   rw [e4,List.take_length]
   exact ⟨l4,_,rfl,g2.trans (g3.trans (Grow.new hl4 _)),zc⟩
 ·rintro σ H2 ⟨l,e4,rfl,g2,hl2⟩
  rw [show ((k:Int) - 0).toNat = k by omega] at hl2
  exact ⟨_,rfl,l,_,rfl,.inl ⟨SqL.of hl2,fun r hr=>q _ _ (g2.trans (Grow.new hr _)) ⟨r,rfl,SqT.of zc⟩⟩⟩
theorem zH:FnScope ["k","stage","asked","kept","firsts","answers","shared","line","box","answer","place","first","other"] ["k","stage","asked","kept","firsts","answers"] (zh (top 56)):=⟨rfl,rfl,rfl,by decide +kernel,rfl,by decide +kernel,by decide +kernel⟩
theorem uV (F:Fun K "share_stage" "share_stage" (top 56) f fd) (B:Blt mg) (qc0:zf P w K mg base n "made" ["deed","value"] (wL K)) (qc1:zf P w K mg base n "in_order" ["k","stage","line","firsts"] (xK K)) (qc2:zf P w K mg base n "switch_at" ["k","stage","line"] (xi K)) (qc3:zf P w K mg base n "onward" ["k","stage","line","side"] (uw K)) (qc4:zf P w K mg base n "side_for" ["k","box"] (uD K))    :
  FnOk P w K mg base CX0 (n + 1) f fd ["k","stage","asked","kept","firsts","answers"] (tL K):=by
 refine F.ok zH Vm (fun cdv A outer s H vs Q E hr h=>?_)
 obtain ⟨x,y,z,u,w',v,rfl,k,st,m,d,kp,an,rows,ks,bd,rfl,rfl,rfl,rfl,rfl,k4,s1,sk,m16,hd,hkp,hrw,hs,R,han,ndk,nda,q⟩:=h
 refine ⟨_,(zd (zr (i:=6) zH.nd rfl (Or.inl rfl) v5) (zd (xf PassesOwn.never rfl (US (pv 2)) (xc rfl (zk (zj (i:=7) zH.nd rfl (Or.inl rfl)) (zk (zj (i:=8) zH.nd rfl (Or.inl rfl)) zW))) (zd (zr (i:=9) zH.nd rfl (Or.inl rfl) (wN (Room.u1F hr) (pv 5) (zN (za (ze qc3 hr rfl (za (pv 0) (za (pv 1) (za (pv 7) (za (ze qc4 hr rfl (za (pv 0) (za (pv 8) zb))) zb))))) (za (pv 8) zb))) (fun _ _=>rfl))) (zd (zr (i:=10) zH.nd rfl (Or.inl rfl) (zN (za (ze qc2 hr rfl (za (pv 0) (za (pv 1) (za (pv 7) zb)))) (za (pv 8) zb)))) (zd (xU (ze qc1 hr rfl (za (pv 0) (za (pv 1) (za (pv 7) (za (pv 4) zb))))) (xc rfl (zk (zj (i:=11) zH.nd rfl (Or.inl rfl)) (zk (zj (i:=12) zH.nd rfl (Or.inl rfl)) zW)))) (zd (zV (PW.pt (wy (zB xV (pv 7) (pv 12) (zE _)) (xC (wQ (WR (Room.u1F hr) (pv 10) (pv 3)))))) (zg (zr (i:=9) zH.nd rfl (Or.inl rfl) (ze qc0 hr rfl (za (wN (Room.u1F hr) (pv 3) (pv 10) (fun _ _=>rfl)) (za (pv 9) zb))))) zu) (zg (uz (Room.u1F hr) (pv 6) (zN (za (pv 7) (za (pv 8) zb))) (pv 9) rfl))))))) (zg (zo (pv 6))))),?_⟩
 have p16:=xm k4
 have es:st = st - 1 + 1:=by omega
 obtain ⟨kvs,hrd,tab,kl⟩:=hd
 obtain ⟨kk,hkr,kkl,kk3,kk4,kk5⟩:=hkp
 obtain ⟨ak,har,atab,akl⟩:=han
 refine yE (fun v H'=>∃ b0,v = .ref b0 /\ H b0 = none /\ H' = upd H b0 (.dT [])) (fun Kk hk=>fun p hp=>hk _ _ ⟨p,rfl,hp,rfl⟩) ?_
 rintro _ _ ⟨b0,rfl,hb0,rfl⟩
 have g1:=Grow.new (m:=[]) hb0 (.dT [])
 have eB1:=zc (H:=H) (a:=b0) (o:=.dT [])
 generalize upd H b0 (.dT []) = H1 at g1 eB1 ⊢
 have nb:d ≠ b0:=fun z=>Rd.ne_none hrd (z ▸ hb0)
 have nkb:kp ≠ b0:=fun z=>Rd.ne_none hkr (z ▸ hb0)
 have nab:an ≠ b0:=fun z=>Rd.ne_none har (z ▸ hb0)
 refine ⟨_,rfl,d,kvs,rfl,Rd.growR g1 (.inl (by simp)) hrd,fun o H3 hd3 g3 same3=>?_⟩
 have eB3:H3 b0 = some (.dT []):=by rw [same3 b0 (Ne.symm nb)]; exact eB1
 have hkr3:Rd H3 kp (.dT kk):=Rd.growR g3 (.inl (by simpa using Ne.symm ndk)) (Rd.growR g1 (.inl (by simp)) hkr)
 have har3:Rd H3 an (.dT ak):=Rd.growR g3 (.inl (by simpa using Ne.symm nda)) (Rd.growR g1 (.inl (by simp)) har)
 have hrw3:=g3.rows (g1.rows hrw)
 have tab3:TabR kvs (2 ^ k) m (lvR k rows ks (st - 1)) (zw K H3):=tab.imp fun v x hv=>g3.deed (g1.deed hv)
 refine WS (fun i σ H'=>∃ (e7 e8 e9 e10 e11 e12:Option V) (tk:List (List Key × V)),σ = [some (.int k),some (.int st),some (.ref d),some (.ref kp),some w',some (.ref an),some (.ref b0),e7,e8,e9,e10,e11,e12] /\ Grow [b0] H3 H' /\ H' b0 = some (.dT tk) /\ PTab kvs (2 ^ k) m (anF k rows ks bd (st - 1)) (fun v x=>v = .int x) i tk) ?_ ?_ ?_ ?_
 ·exact ⟨_,_,_,_,_,_,[],rfl,Grow.refl _ _,eB3,PTab.nil⟩
 ·rintro i σ H' _ ⟨e7,e8,e9,e10,e11,e12,tk,rfl,g,_⟩
  exact g.frz _ _ _ hd3
 ·rintro i p bb σ H4 hp hbb ⟨e7,e8,e9,e10,e11,e12,tk,rfl,g4,hB4,P4⟩
  obtain ⟨l,b,dd,ep,hl,hb,hlv,hdd⟩:=tab3.keys p (List.mem_of_getElem? hp)
  obtain ⟨pk,v⟩:=p
  cases (show pk = keyR l b from ep)
  have b16:b < 16:=by omega
  have hi:i < kvs.length:=(List.getElem?_eq_some_iff.mp hp).1
  have W:=outF (b:=b) k4 s1 sk hl
  have X:=xF (rows:=rows) k4 hs s1 sk hl
  have O:=oneF k4 s1 sk hl
  have lvo:lvR k rows ks st (outR k st l b) b ≠ none:=by
   have e:=WU (ks:=ks) (b:=b) k4 hs (s:=st - 1) (by omega) hl
   rw [← es] at e
   rw [e]
   rcases X.or with z | z
   ·rw [← z,hlv]; cases lvR k rows ks (st - 1) (x1R k rows st l) b <;> exact fun z=>nomatch z
   ·rw [← z,hlv]; cases lvR k rows ks (st - 1) (x0R k rows st l) b <;> exact fun z=>nomatch z
  refine ⟨bb,[.int l,.int b],rfl,SqT.of hbb,rfl,_,_,rfl,_,_,rfl,rfl,?_⟩
  refine yE (fun v H'=>v = .int (stvR k rows ks bd (k - st) (outR k st l b) b) /\ Grow [] H4 H') (fun Kk hk=>⟨_,rfl,_,rfl,_,rfl,_,rfl,_,rfl,_,rfl,_,_,rfl,k,b,rfl,rfl,k4,b16,_,_,_,_,rfl,k,st,l,((b % 2 ^ k:Nat):Int),rfl,rfl,rfl,rfl,k4,sk,by omega,by omega,by omega,by have:=yS (k:=k) (b:=b); omega,_,rfl,szl rfl,fun t ht=>?_⟩) ?_
  ·have gt:=Grow.new (m:=[]) ht (.tup [.int (wfI k st l (figI k st ((b % 2 ^ k:Nat):Int))),.int b])
   have et:upd H4 t (.tup [.int (wfI k st l (figI k st ((b % 2 ^ k:Nat):Int))),.int b]) t = some (.tup [.int (outR k st l b:Nat),.int b]):=by rw [zc,W.eq]; rfl
   have vv:=atab.val (l:=outR k st l b) (b:=b) W.lt hb
   unfold anF at vv
   cases hc:lvR k rows ks st (outR k st l b) b with
   | none=>exact absurd hc lvo
   | some dc =>
    rw [hc] at vv
    obtain ⟨v',ev,rfl⟩:=vv
    have gx:=jc (Rd.growR (gt.wk (m:=[b0])) (.inl (by simpa using nab)) (Rd.growR g4 (.inl (by simpa using nab)) har3)) et
    rw [ev] at gx
    exact ⟨an,_,rfl,gx,hk _ _ ⟨rfl,gt⟩⟩
  rintro _ H5 ⟨rfl,g5⟩
  refine yE (fun v H'=>∃ t,v = .ref t /\ H' t = some (.tup [.int (nN k st l:Nat),.int b]) /\ Grow [] H5 H') (fun Kk hk=>⟨_,rfl,_,rfl,_,rfl,_,_,_,rfl,k,st,l,rfl,rfl,rfl,k4,sk,by omega,by omega,_,rfl,szl rfl,fun t ht=>hk _ _ ⟨t,rfl,?_,Grow.new ht _⟩⟩) ?_
  ·rw [zc,O.sw,O.num]
  rintro _ H6 ⟨t,rfl,ht6,g6⟩
  have G6:=g5.trans g6
  refine ⟨_,rfl,_,rfl,_,rfl,_,rfl,_,_,_,_,rfl,k,st,l,rows,rfl,rfl,rfl,G6.rows (g4.rows hrw3),k4,s1,sk,hl,hs,fun y H7 g7 hn=>?_⟩
  obtain ⟨ri,rfl,hri⟩:=hn
  refine ⟨ri,[.int (x0R k rows st l:Nat),.int (x1R k rows st l:Nat)],rfl,hri,rfl,_,_,rfl,_,_,rfl,rfl,?_⟩
  have G7:Grow [b0] H3 H7:=g4.trans (G6.trans g7).wk
  have ht7:=g7.keep _ _ (by simp) ht6
  have hB7:=(G6.trans g7).keep _ _ (by simp) hB4
  have hkr7:=Rd.growR G7 (.inl (by simpa using nkb)) hkr3
  have dk:=jc hkr7 ht7
  have kv:=KpAt.val (K:=K) (H:=H7) (kvs:=kk) (ks:=ks) (rows:=rows) (m:=m) k4 hs s1 sk hl hb (fun p hp=>by obtain ⟨l,b,x,e,a1,a2,a3,a4⟩:=kk3 p hp; exact ⟨l,b,x,e,a1,a2,a3,G7.deed (g3.deed (g1.deed a4))⟩) kk5
  have sv:=Wu (k:=k) (rows:=rows) (ks:=ks) (bd:=bd) (l:=l) (b:=b) s1 sk
  refine c_nx (c_if (fun σ' H'=>H' = H7 /\ σ' = [some (.int k),some (.int st),some (.ref d),some (.ref kp),some w',some (.ref an),some (.ref b0),some (.int l),some (.int b),some (.int (stvR k rows ks bd (k - (st - 1)) l b)),some (.ref t),some (.int (x0R k rows st l:Nat)),some (.int (x1R k rows st l:Nat))]) ?_ (fun hk=>?_))
  ·rintro σ' H' ⟨rfl,rfl⟩
   refine ⟨_,rfl,_,rfl,_,rfl,_,rfl,szl rfl,fun t2 ht2=>?_⟩
   have g8:=Grow.new (m:=[]) ht2 (.tup [.int l,.int b])
   have hB8:=g8.keep _ _ (by simp) hB7
   have P8:=P4.p4
   refine ⟨b0,_,rfl,DPut.t (k:=keyR l b) hB8 zc (zX (by omega)),?_⟩
   refine ⟨_,_,_,_,_,_,_,rfl,G7.trans (g8.wk.trans (Grow.setR hB8 (by simp))),zc,P4.step hp hl hb ?_ rfl⟩
   show (lvR k rows ks (st - 1) l b).map _ = _
   rw [hlv]; rfl
  ·have eqc:decide (V.int (l:Int) = V.int ((x1R k rows st l:Nat):Int)) = decide (l = x1R k rows st l):=by
    by_cases c:l = x1R k rows st l
    ·rw [decide_eq_true c,decide_eq_true (congrArg (fun x:Nat=>V.int (x:Int)) c)]
    ·rw [decide_eq_false c,decide_eq_false fun z=>c (by have:=V.int.inj z; omega)]
   refine ⟨_,rfl,_,rfl,rfl,_,rfl,?_⟩
   by_cases c:l = x1R k rows st l
   ·refine y0 (by rw [eqc,decide_eq_true c]) ⟨_,rfl,_,rfl,kp,_,rfl,dk,_,rfl,?_⟩
    cases hk':kpR k rows ks st l b with
    | none =>
     rw [hk'] at kv sv
     have kv':valV kk (keyR (nN k st l) b) = none:=kv
     rw [kv']
     refine iteF (hk _ _ ⟨rfl,?_⟩)
     rw [show stvR k rows ks bd (k - (st - 1)) l b = stvR k rows ks bd (k - st) (outR k st l b) b from sv]; rfl
    | some x =>
     rw [hk'] at kv sv
     obtain ⟨vx,ev,hvx⟩:=kv
     rw [ev] at dk ⊢
     refine y0 rfl ⟨_,rfl,_,rfl,kp,vx,rfl,dk,_,rfl,_,_,rfl,x,_,hvx,rfl,hk _ _ ⟨rfl,?_⟩⟩
     rw [show stvR k rows ks bd (k - (st - 1)) l b = x.mk' (stvR k rows ks bd (k - st) (outR k st l b) b) from by rw [sv]; exact if_pos c]; rfl
   ·refine yG (by rw [eqc,decide_eq_false c]) (iteF (hk _ _ ⟨rfl,?_⟩))
    have:stvR k rows ks bd (k - (st - 1)) l b = stvR k rows ks bd (k - st) (outR k st l b) b:=by
     rw [sv]
     cases kpR k rows ks st l b with
     | none=>rfl
     | some x=>exact if_neg c
    rw [this]; rfl
 ·rintro σ H4 ⟨e7,e8,e9,e10,e11,e12,tk,rfl,g4,hB4,P4⟩
  have G:Grow [d] H H4:=by
   have a1:Grow [d,b0] H H3:=(g1.wk.trans (g3.mono (by simp)))
   refine (a1.trans (g4.mono (by simp))).less fun b hb=>?_
   simp only [List.mem_cons,List.mem_nil_iff,or_false] at hb
   rcases hb with rfl | rfl
   ·exact .inl (by simp)
   ·exact .inr hb0
  have T:=P4.done tab3 (fun l b _ _ hne z=>hne (by unfold anF; rw [z]; rfl))
  exact ⟨_,rfl,q b0 _ G hb0 ⟨tk,.inl hB4,T,Nat.le_trans P4.p4 kl⟩ ⟨kvs,.inr ⟨o,g4.frz _ _ _ hd3⟩,tab3.imp fun v x hv=>g4.deed hv,kl⟩⟩
theorem zL:FnScope ["k","board","asks","firsts","levels","stages","values","answers","line","box","deed","stage"] ["k","board","asks","firsts"] (zh (top 57)):=⟨rfl,rfl,rfl,by decide +kernel,rfl,by decide +kernel,by decide +kernel⟩
theorem qF (F:Fun K "one_round" "one_round" (top 57) f fd) (B:Blt mg) (qc0:zf P w K mg base n "share_stage" ["k","stage","asked","kept","firsts","answers"] (tL K)) (qc1:zf P w K mg base n "made" ["deed","value"] (wL K)) (qc2:zf P w K mg base n "pass_net" ["k","asks","firsts"] (uE K)) (qc3:zf P w K mg base n "need_settings" ["k","thing"] (yw K)) (qc4:zf P w K mg base n "need_round" ["k","board","asks"] (xP K))    :
  FnOk P w K mg base CX0 (n + 1) f fd ["k","board","asks","firsts"] (tM K):=by
 refine F.ok zL xG (fun cdv A outer s H vs Q E hr h=>?_)
 obtain ⟨x,y,z,u,rfl,k,b,ks,rows,rfl,k4,hb,b1,b16,hks,k16,R,hrw,hs,q⟩:=h
 refine ⟨_,(zd (zz (ze qc4 hr rfl (za (pv 0) (za (pv 1) (za (pv 2) zb))))) (zd (zz (ze qc3 hr rfl (za (pv 0) (za (pv 3) zb)))) (zd (xU (ze qc2 hr rfl (za (pv 0) (za (pv 2) (za (pv 3) zb)))) (xc rfl (zk (zj (i:=4) zL.nd rfl (Or.inl rfl)) (zk (zj (i:=5) zL.nd rfl (Or.inl rfl)) zW)))) (zd (zr (i:=6) zL.nd rfl (Or.inl rfl) (zx x8 rfl B.list Yj (za (pv 1) zb))) (zd (zr (i:=7) zL.nd rfl (Or.inr rfl) v5) (zd (xf PassesOwn.never rfl (WV (zC zI (pv 4) (pv 0) (fun _ _=>rfl))) (xc rfl (zk (xc rfl (zk (zj (i:=8) zL.nd rfl (Or.inl rfl)) (zk (zj (i:=9) zL.nd rfl (Or.inl rfl)) zW))) (zk (zj (i:=10) zL.nd rfl (Or.inl rfl)) zW))) (zd (uz (Room.u1F hr) (pv 7) (zN (za (pv 8) (za (pv 9) zb))) (zC zT (pv 1) (pv 9) (fun _ _=>rfl)) rfl) (zg (xU (ze qc1 hr rfl (za (pv 10) (za (zC zT (pv 1) (pv 9) (fun _ _=>rfl)) zb))) (sV (pv 6) (pv 9) wS))))) (zd (xf PassesOwn.never rfl (rO rfl B.range (za (pv 0) (za zi (za (W5 Z6 zi) zb)))) (zj (i:=11) zL.nd rfl (Or.inl rfl)) (zg (zr (i:=7) zL.nd rfl (Or.inr rfl) (ze qc0 hr rfl (za (pv 0) (za (pv 11) (za (zC zI (pv 4) (zA yH (pv 11) zi) (fun _ _=>rfl)) (za (zC zI (pv 5) (zA yH (pv 11) zi) (fun _ _=>rfl)) (za (pv 3) (za (pv 7) zb)))))))))) (zg (zo (zN (za (zx zq rfl B.tuple zG (za (zJ (CSc.of (N':=["hand","box","deed","answers"]) (sub:=[none,none,none,some 7]) (zh (top 57)) ["k","board","asks","firsts","levels","stages","values","answers","line","box","deed","stage"] rfl rfl (by decide +kernel) rfl) rfl (yM (pv 2)) (fun _ _ _ _ _ _=>wf (K:=K) 3 rfl rfl (zk (zj (i:=0) (show (["hand","box","deed","answers"]:List Str).Nodup by decide +kernel) rfl (Or.inl rfl) (Or.inr rfl)) (zk (zj (i:=1) (show (["hand","box","deed","answers"]:List Str).Nodup by decide +kernel) rfl (Or.inl rfl) (Or.inr rfl)) (zk (zj (i:=2) (show (["hand","box","deed","answers"]:List Str).Nodup by decide +kernel) rfl (Or.inl rfl) (Or.inr rfl)) zW))) rfl rfl) (fun _ _ _ _ _ _=>zF) (fun _ _ _ _ _ _=>(wN (Room.u1F hr) (pv 3) (zN (za (pv 0) (za (pv 1) zb))) (fun _ _=>rfl)))) zb)) (za (zx zq rfl B.tuple zG (za (pv 6) zb)) zb)))))))))))),?_⟩
 have p16:=xm k4
 refine ⟨_,rfl,_,rfl,_,rfl,_,_,_,rfl,k,b,ks,rfl,k4,hb,b1,b16,hks,k16,R,fun H1 g1=>?_⟩
 refine ⟨_,rfl,_,rfl,_,_,rfl,k,rows,rfl,k4,g1.rows hrw,hs,fun H2 g2=>?_⟩
 have G2:=g1.trans g2
 refine ⟨_,rfl,_,rfl,_,rfl,_,_,_,rfl,k,b.length,rows,ks,rfl,k4,b16,k16,G2.asks hks,G2.rows hrw,hs,R,fun r0 lL lS ds kps H3 g3 s3 hL3 hS3 dl kpl N3 fr3=>?_⟩
 have G3:=G2.trans g3
 have fr:∀ d ∈ ds ++ kps,H d = none:=fun d hd=>G2.free (by simp) (fr3 d hd)
 refine ⟨r0,[.ref lL,.ref lS],rfl,s3,rfl,_,_,rfl,_,_,rfl,rfl,?_⟩
 obtain ⟨rb,rfl,hrb⟩:=hb
 refine c_nx (yE (fun v H'=>∃ lv,v = .ref lv /\ H3 lv = none /\ H' = upd H3 lv (.lst (b.map V.int))) (fun Kk hk=>⟨_,rfl,rb,_,rfl,.inr (G3.sqT hrb),fun l hl=>hk _ _ ⟨l,rfl,hl,rfl⟩⟩) ?_)
 rintro _ _ ⟨lv,rfl,hlv,rfl⟩
 have g4:=Grow.new (m:=[]) hlv (.lst (b.map V.int))
 have hV4:=zc (H:=H3) (a:=lv) (o:=.lst (b.map V.int))
 have hlvH:H lv = none:=G3.free (by simp) hlv
 have hL4:=g4.keep _ _ (by simp) hL3
 have hS4:=g4.keep _ _ (by simp) hS3
 have N4:=N3.grow g4 (by simp)
 have G4:=G3.trans g4
 generalize upd H3 lv (.lst (b.map V.int)) = H4 at g4 hV4 hL4 hS4 N4 G4 ⊢
 refine yE (fun v H'=>∃ la,v = .ref la /\ H4 la = none /\ H' = upd H4 la (.dT [])) (fun Kk hk=>fun p hp=>hk _ _ ⟨p,rfl,hp,rfl⟩) ?_
 rintro _ _ ⟨la,rfl,hla,rfl⟩
 have g5:=Grow.new (m:=[]) hla (.dT [])
 have hA5:=zc (H:=H4) (a:=la) (o:=.dT [])
 have hlaH:H la = none:=G4.free (by simp) hla
 have nla:∀ e ∈ ds ++ kps,e ≠ la:=fun e he w=>by
  obtain ⟨kv,hk⟩:=N4.isD he
  exact Rd.ne_none hk (w ▸ hla)
 have nlv:∀ e ∈ ds ++ kps,e ≠ lv:=fun e he w=>by
  obtain ⟨kv,hk⟩:=N4.isD he
  exact Rd.ne_lst hk hV4 w
 have nva:lv ≠ la:=fun w=>by rw [w,hla] at hV4; cases hV4
 have hV5:=g5.keep _ _ (by simp) hV4
 have hL5:=g5.keep _ _ (by simp) hL4
 have hS5:=g5.keep _ _ (by simp) hS4
 have N5:=N4.grow g5 (by simp)
 have G5:=G4.trans g5
 generalize upd H4 la (.dT []) = H5 at g5 hA5 hV5 hL5 hS5 N5 G5 ⊢
 obtain ⟨dk,hdk⟩:∃ d,ds[k]? = some d:=⟨_,List.getElem?_eq_getElem (by omega)⟩
 have mdk:dk ∈ ds ++ kps:=List.mem_append_left _ (List.mem_of_getElem? hdk)
 obtain ⟨kvs,hrd,tab,kl⟩:=N5.lv k dk hdk
 refine ⟨_,rfl,_,rfl,lL,_,_,_,rfl,rfl,SqL.of hL5,xo rfl hdk,dk,kvs,rfl,hrd,fun o H6 hd6 g6 same6=>?_⟩
 have tab6:TabR kvs (2 ^ k) b.length (lvR k rows ks k) (zw K H6):=tab.imp fun v x hv=>g6.deed hv
 have N6:NetR K H6 k b.length rows ks ds kps:=N5.walk hdk g6 ⟨kvs,.inr ⟨o,hd6⟩,tab6,kl⟩
 have hA6:H6 la = some (.dT []):=by rw [same6 la (Ne.symm (nla dk mdk))]; exact hA5
 have hV6:H6 lv = some (.lst (b.map V.int)):=by rw [same6 lv (Ne.symm (nlv dk mdk))]; exact hV5
 have hL6:=g6.keep _ _ (by simpa using Ne.symm (Rd.ne_lst hrd hL5)) hL5
 have hS6:=g6.keep _ _ (by simpa using Ne.symm (Rd.ne_lst hrd hS5)) hS5
 have G6:Grow [] H H6:=Grow.tfresh G5 g6 (fun d hd=>by rw [List.mem_singleton.mp hd]; exact fr dk mdk)
 have nLv:lL ≠ lv:=fun w=>by rw [w,hlv] at hL3; cases hL3
 have nSv:lS ≠ lv:=fun w=>by rw [w,hlv] at hS3; cases hS3
 have nLa:lL ≠ la:=fun w=>by rw [w,hla] at hL4; cases hL4
 have nSa:lS ≠ la:=fun w=>by rw [w,hla] at hS4; cases hS4
 refine VD (fun i σ H'=>∃ (e8 e9 e10 e11:Option V) (tk:List (List Key × V)) (w:List Int),σ = [some (.int k),some (.ref rb),some z,some u,some (.ref lL),some (.ref lS),some (.ref lv),some (.ref la),e8,e9,e10,e11] /\ Grow [lv,la] H6 H' /\ H' la = some (.dT tk) /\ H' lv = some (.lst (w.map V.int)) /\ PTab kvs (2 ^ k) b.length (anF k rows ks (bdF b) k) (fun v x=>v = .int x) i tk /\ VI kvs b (finR k rows ks (bdF b)) i w) ?_ ?_ ?_ ?_
 ·exact ⟨_,_,_,_,[],b,rfl,Grow.refl _ _,hA6,hV6,PTab.nil,VI.nil⟩
 ·rintro i σ H' _ ⟨e8,e9,e10,e11,tk,w,rfl,g,_⟩
  exact g.frz _ _ _ hd6
 ·rintro i p bb T σ H7 hp hbb hT ⟨e8,e9,e10,e11,tk,w,rfl,g7,hA7,hV7,P7,W7⟩
  obtain ⟨l,c,dd,ep,hl,hc,hlv',hdd⟩:=tab6.keys p (List.mem_of_getElem? hp)
  obtain ⟨pk,v⟩:=p
  cases (show pk = keyR l c from ep)
  have g8:=Grow.new (m:=[]) hT (.tup [.ref bb,v])
  have hT8:=zc (H:=H7) (a:=T) (o:=.tup [.ref bb,v])
  have hbb8:upd H7 T (.tup [.ref bb,v]) bb = some (.tup [.int l,.int c]):=g8.keep _ _ (by simp) hbb
  have hA8:=g8.keep _ _ (by simp) hA7
  have hV8:=g8.keep _ _ (by simp) hV7
  have G8:Grow [lv,la] H6 (upd H7 T (.tup [.ref bb,v])):=g7.trans g8.wk
  show gTup _ _ _ _ _ _ _
  generalize upd H7 T (.tup [.ref bb,v]) = H8 at g8 hT8 hbb8 hA8 hV8 G8 ⊢
  refine ⟨T,[.ref bb,v],rfl,SqT.of hT8,rfl,_,_,rfl,bb,[.int l,.int c],rfl,SqT.of hbb8,rfl,_,_,rfl,_,_,rfl,rfl,_,_,rfl,rfl,?_⟩
  have hgb:=wO hc
  have el:l = c % 2 ^ k:=ss R k4 hs hl (by rw [hlv']; exact fun z=>nomatch z)
  have hix:atI (b.map V.int) (c:Int) = some (V.int (bdF b c)):=xo rfl hgb
  have hrb8:=G8.sqT (G6.sqT hrb)
  have P8:=P7.p4
  have hi:i < kvs.length:=(List.getElem?_eq_some_iff.mp hp).1
  refine ⟨_,rfl,_,rfl,rb,_,_,_,rfl,rfl,hrb8,hix,_,rfl,_,rfl,_,rfl,szl rfl,fun t2 ht2=>?_⟩
  have g9:=Grow.new (m:=[]) ht2 (.tup [.int l,.int c])
  have hA9:=g9.keep _ _ (by simp) hA8
  have hV9:=g9.keep _ _ (by simp) hV8
  have ht9:=zc (H:=H8) (a:=t2) (o:=.tup [.int l,.int c])
  have G9:Grow [lv,la] H6 (upd H8 t2 (.tup [.int l,.int c])):=G8.trans g9.wk
  generalize upd H8 t2 (.tup [.int l,.int c]) = H9 at g9 hA9 hV9 ht9 G9 ⊢
  refine ⟨la,_,rfl,DPut.t (k:=keyR l c) hA9 ht9 (zX (by omega)),?_⟩
  have ga:Grow [lv,la] H9 (upd H9 la (.dT (putK tk (keyR l c) (.int (bdF b c))))):=Grow.setR hA9 (by simp)
  have hAa:=zc (H:=H9) (a:=la) (o:=.dT (putK tk (keyR l c) (.int (bdF b c))))
  have hVa:upd H9 la (.dT (putK tk (keyR l c) (.int (bdF b c)))) lv = some (.lst (w.map V.int)):=by rw [zn nva]; exact hV9
  have Ga:=G9.trans ga
  generalize upd H9 la (.dT (putK tk (keyR l c) (.int (bdF b c)))) = Ha at ga hAa hVa Ga ⊢
  have hcw:c < w.length:=by rw [W7.len]; exact hc
  have hixw:ixN (w.map V.int).length (c:Int) = some c:=by rw [List.length_map]; exact xk (i:=(c:Int)) (by omega) hcw
  have efin:finR k rows ks (bdF b) c = dd.mk' (bdF b c):=by unfold finR; rw [← el,hlv']
  refine ⟨_,rfl,_,rfl,_,rfl,rb,_,_,_,rfl,rfl,Ga.sqT (G6.sqT hrb),hix,_,_,rfl,dd,_,Ga.deed hdd,rfl,?_⟩
  refine ⟨_,rfl,_,rfl,lv,_,_,_,rfl,rfl,hVa,hixw,?_⟩
  refine ⟨_,_,_,_,putK tk (keyR l c) (.int (bdF b c)),w.set c (finR k rows ks (bdF b) c),rfl,Ga.trans (Grow.set hVa (by simp) _),?_,?_,P7.step hp hl hc ?_ rfl,W7.step hp hc⟩
  ·rw [zn (Ne.symm nva)]; exact hAa
  ·rw [zc,efin]; exact congrArg (fun z=>some (HO.lst z)) List.map_set.symm
  ·show (lvR k rows ks k l c).map _ = _
   rw [hlv',Nat.sub_self]; rfl
 ·rintro σ H7 ⟨e8,e9,e10,e11,tk,w,rfl,g7,hA7,hV7,P7,W7⟩
  have ew:=W7.done tab6
  subst ew
  have T7:=P7.done tab6 (fun l b _ _ hne z=>hne (by unfold anF; rw [z]; rfl))
  have N7:=N6.grow g7 (fun d hd z=>by
   simp only [List.mem_cons,List.mem_nil_iff,or_false] at z
   exact z.elim (nlv d hd) (nla d hd))
  have hL7:=g7.keep _ _ (fun z=>by
   simp only [List.mem_cons,List.mem_nil_iff,or_false] at z
   exact z.elim nLv nLa) hL6
  have hS7:=g7.keep _ _ (fun z=>by
   simp only [List.mem_cons,List.mem_nil_iff,or_false] at z
   exact z.elim nSv nSa) hS6
  have G7:Grow [] H H7:=Grow.tfresh G6 g7 (fun d hd=>by
   simp only [List.mem_cons,List.mem_nil_iff,or_false] at hd
   rcases hd with rfl | rfl
   ·exact hlvH
   ·exact hlaH)
  have A7:AnAt H7 k b.length rows ks (bdF b) k la:=⟨tk,.inl hA7,T7,Nat.le_trans P7.p4 kl⟩
  refine ⟨_,rfl,_,rfl,_,_,rfl,by omega,by omega,by omega,by omega,tF (fun i σ H'=>∃ (e8 e9 e10 e11:Option V) (la:Addr),σ = [some (.int k),some (.ref rb),some z,some u,some (.ref lL),some (.ref lS),some (.ref lv),some (.ref la),e8,e9,e10,e11] /\ Grow [] H H' /\ H' lL = some (.lst (ds.map V.ref)) /\ H' lS = some (.lst (kps.map V.ref)) /\ H' lv = some (.lst ((finL k rows ks b).map V.int)) /\ NetR K H' k b.length rows ks ds kps /\ AnAt H' k b.length rows ks (bdF b) (k - i) la /\ ∀ e ∈ ds ++ kps,e ≠ la) ⟨_,_,_,_,la,rfl,G7,hL7,hS7,hV7,N7,A7,nla⟩ ?_ ?_⟩
  ·rintro i σ H8 hi ⟨e8,e9,e10,e11,la,rfl,G8,hL8,hS8,hV8,N8,A8,na8⟩
   obtain ⟨d,hd⟩:∃ d,ds[k - i - 1]? = some d:=⟨_,List.getElem?_eq_getElem (by omega)⟩
   obtain ⟨kp,hkp⟩:∃ d,kps[k - i - 1]? = some d:=⟨_,List.getElem?_eq_getElem (by omega)⟩
   have md:=List.mem_of_getElem? hd
   have mkp:=List.mem_of_getElem? hkp
   have Ld:=N8.lv _ d hd
   have Lk:=N8.kp _ kp hkp
   rw [show k - i - 1 + 1 = k - i from by omega] at Lk
   refine ⟨_,rfl,_,rfl,_,rfl,_,rfl,_,_,rfl,rfl,lL,_,_,_,rfl,rfl,SqL.of hL8,xo (j:=k - i - 1) (by omega) hd,_,rfl,_,rfl,_,_,rfl,rfl,lS,_,_,_,rfl,rfl,SqL.of hS8,xo (j:=k - i - 1) (by omega) hkp,_,rfl,_,rfl,_,_,_,_,_,_,rfl,k,k - i,b.length,d,kp,la,rows,ks,bdF b,rfl,congrArg V.int (by omega),rfl,rfl,rfl,k4,by omega,by omega,b16,Ld,Lk,G8.rows hrw,hs,R,A8,N8.ndk md mkp,na8 d (List.mem_append_left _ md),fun a' H9 g9 ha' A9 L9=>?_⟩
   obtain ⟨kv,hkv⟩:=Ld.isD
   have md':d ∈ ds ++ kps:=List.mem_append_left _ md
   refine ⟨_,_,_,_,a',rfl,Grow.tfresh G8 g9 (fun e he=>by rw [List.mem_singleton.mp he]; exact fr d md'),g9.keep _ _ (by simpa using Ne.symm (Rd.ne_lst hkv hL8)) hL8,g9.keep _ _ (by simpa using Ne.symm (Rd.ne_lst hkv hS8)) hS8,g9.keep _ _ (by simpa using Ne.symm (Rd.ne_lst hkv hV8)) hV8,N8.walk hd g9 L9,?_,fun e he w=>?_⟩
   ·rw [show k - (i + 1) = k - i - 1 from by omega]; exact A9
   ·obtain ⟨kv,hk⟩:=N8.isD he
    exact Rd.ne_none hk (w ▸ ha')
  ·rintro σ H8 ⟨e8,e9,e10,e11,la,rfl,G8,hL8,hS8,hV8,N8,A8,na8⟩
   rw [show k - ((k:Int) - 0).toNat = 0 from by omega] at A8
   obtain ⟨ak,hak,at8,al⟩:=A8
   obtain ⟨ra,xs,rfl,hra,hxs⟩:=G8.asks hks
   have xl:=hxs.len
   refine ⟨_,rfl,ra,rfl,⟨_,hra⟩,uB (xs:=xs) (fun n ys σ' H'=>Grow [] H8 H' /\ (∃ e1 e2 e3,σ' = [e1,e2,e3,some (.ref la)]) /\ ys = ((ks.take n).map fun a=>stvR k rows ks (bdF b) k a.hand.toNat a.box.toNat).map V.int) ⟨Grow.refl _ _,⟨_,_,_,rfl⟩,rfl⟩ (fun n ys σ' H' _ z=>z.1.sqT hra) ?_ ?_⟩
   ·rintro n x ys σ' H9 hx ⟨g9,⟨e1,e2,e3,rfl⟩,rfl⟩
    obtain ⟨a,ha,r,rd,rfl,h1,h2⟩:=hxs.get hx
    have hn:=(List.getElem?_eq_some_iff.mp ha).1
    have am:=List.mem_of_getElem? ha
    refine ⟨r,_,rfl,g9.sqT h1,rfl,_,_,rfl,_,_,rfl,_,_,rfl,rfl,?_⟩
    refine ⟨_,rfl,_,rfl,_,rfl,szl rfl,fun t ht=>?_⟩
    have gt:=Grow.new (m:=[]) ht (.tup [.int a.hand,.int a.box])
    have et:upd H9 t (.tup [.int a.hand,.int a.box]) t = some (.tup [.int (a.hand.toNat:Nat),.int (a.box.toNat:Nat)]):=by rw [zc,Int.toNat_of_nonneg (R.hand a am).1,Int.toNat_of_nonneg (R.box a am).1]
    have hbx:=R.box a am
    have hhd:=R.hand a am
    have vv:=at8.val (l:=a.hand.toNat) (b:=a.box.toNat) (yX hhd.1 hhd.2) (by omega)
    rw [UZ R am] at vv
    obtain ⟨v',ev,rfl⟩:=vv
    have gx:=jc (Rd.growR gt (.inl (by simp)) (Rd.growR g9 (.inl (by simp)) hak)) et
    rw [ev] at gx
    refine ⟨la,_,rfl,gx,zX (by rw [List.length_map,List.length_map,List.length_take]; omega),g9.trans gt,⟨_,_,_,rfl⟩,?_⟩
    rw [List.take_succ,ha,List.map_append,List.map_append]; rfl
   ·rintro ys σ' H9 ⟨g9,_,rfl⟩ l9 hl9
    rw [xl,List.take_length]
    have ga:=Grow.new (m:=[]) hl9 (.lst ((ks.map fun a=>stvR k rows ks (bdF b) k a.hand.toNat a.box.toNat).map V.int))
    have ea:=zc (H:=H9) (a:=l9) (o:=.lst ((ks.map fun a=>stvR k rows ks (bdF b) k a.hand.toNat a.box.toNat).map V.int))
    have Ga:=g9.trans ga
    refine ⟨l9,_,rfl,.inl ⟨SqL.of ea,fun r1 hr1=>?_⟩⟩
    have gb:=Grow.new (m:=[]) hr1 (.tup ((ks.map fun a=>stvR k rows ks (bdF b) k a.hand.toNat a.box.toNat).map V.int))
    refine ⟨_,rfl,lv,_,rfl,.inl ⟨SqL.of ((Ga.trans gb).keep _ _ (by simp) hV8),fun r2 hr2=>⟨szl rfl,fun r3 hr3=>?_⟩⟩⟩
    have gc:=Grow.new (m:=[]) hr2 (.tup ((finL k rows ks b).map V.int))
    have gd:=Grow.new (m:=[]) hr3 (.tup [.ref r1,.ref r2])
    exact q _ _ (G8.trans (Ga.trans (gb.trans (gc.trans gd)))) ⟨r3,r1,r2,rfl,SqT.of zc,gd.sqT (gc.sqT (SqT.of zc)),gd.sqT (SqT.of zc)⟩
theorem vM:FnScope ["_law_pot_here","_law_many","_law_digit"] ["_law_pot_here","_law_many"] (zh (top 76)):=⟨rfl,rfl,rfl,by decide +kernel,rfl,by decide +kernel,by decide +kernel⟩
theorem qG (F:Fun K "_law_draw" "_law_draw" (top 76) f fd) (B:Blt mg)     :
  FnOk P w K mg base CX0 (n + 1) f fd ["_law_pot_here","_law_many"] (vp K):=by
 refine F.ok vM zO (fun cdv A outer s H vs Q E hr h=>?_)
 obtain ⟨x,y,rfl,a,m,rfl,rfl,⟨p0,p1,hp,h0⟩,hm,hm2,q⟩:=h
 refine ⟨_,(zd (zV (zB V9 (zC zI (pv 0) zi (fun _ _=>rfl)) zi (zE _)) (zd (zr (i:=2) vM.nd rfl (Or.inl rfl) (zA wA (zC zI (pv 0) zi (fun _ _=>rfl)) (pv 1))) (zd (xU (zA vW (zC zI (pv 0) zi (fun _ _=>rfl)) (pv 1)) (sV (pv 0) zi wS)) (zg (zo (pv 2))))) zu) (zd (xU (zA wA (zA xt (zA wK (zC zI (pv 0) zi (fun _ _=>rfl)) zi) zi) zi) (sV (pv 0) zi wS)) (zg (zo (zA wA (zA vW (zA wA (zA wK (zC zI (pv 0) zi (fun _ _=>rfl)) (zC zI (pv 0) zi (fun _ _=>rfl))) zi) zi) (pv 1)))))),?_⟩
 refine ⟨_,rfl,a,_,_,_,rfl,rfl,SqL.of hp,rfl,_,_,rfl,rfl,_,rfl,?_⟩
 refine ite2 (fun c=>?_) (fun c=>?_)
 ·refine ⟨_,rfl,a,_,_,_,rfl,rfl,SqL.of hp,rfl,_,rfl,p0,m,rfl,rfl,hm,?_⟩
  refine ⟨_,rfl,a,_,_,_,rfl,rfl,SqL.of hp,rfl,_,rfl,p0,m,rfl,rfl,⟨hm,hm2⟩,_,rfl,a,_,0,0,rfl,rfl,hp,rfl,?_⟩
  exact ⟨_,rfl,q _ _ (Int.emod_nonneg _ (by omega)) (Int.emod_lt_of_pos _ hm) (Grow.set hp (by simp) _) ⟨p0 / m,p1,zc,Int.ediv_nonneg h0 (by omega)⟩⟩
 ·refine ⟨_,rfl,a,_,_,_,rfl,rfl,SqL.of hp,rfl,p1,39373,rfl,rfl,uZ ⟨by decide,by decide⟩,_,_,rfl,rfl,_,_,rfl,rfl,(by show (0:Int) < 2147483629; decide),_,rfl,a,_,1,1,rfl,rfl,hp,rfl,?_⟩
  have b0:0 <= (p1 * 39373 + 7919) % 2147483629:=Int.emod_nonneg _ (by decide)
  have b1:(p1 * 39373 + 7919) % 2147483629 < 2147483629:=Int.emod_lt_of_pos _ (by decide)
  refine ⟨_,rfl,a,_,_,_,rfl,rfl,SqL.of zc,rfl,_,rfl,a,_,_,_,rfl,rfl,SqL.of zc,rfl,(p1 * 39373 + 7919) % 2147483629,(p1 * 39373 + 7919) % 2147483629,rfl,rfl,uZ ⟨by omega,by omega⟩,_,_,rfl,rfl,(by show (0:Int) < 2147483563; decide),_,_,rfl,rfl,⟨by decide,by decide⟩,_,rfl,_,_,rfl,rfl,hm,?_⟩
  exact q _ _ (Int.emod_nonneg _ (by omega)) (Int.emod_lt_of_pos _ hm) (Grow.set hp (by simp) _) ⟨p0,(p1 * 39373 + 7919) % 2147483629,zc,h0⟩
theorem yv:FnScope ["_law_pot_here","_law_choice","_law_far","_law_k"] ["_law_pot_here"] (zh (top 77)):=⟨rfl,rfl,rfl,by decide +kernel,rfl,by decide +kernel,by decide +kernel⟩
theorem uW (F:Fun K "_law_number" "_law_number" (top 77) f fd) (B:Blt mg) (qc0:zf P w K mg base n "_law_draw" ["_law_pot_here","_law_many"] (vp K))    :
  FnOk P w K mg base CX0 (n + 1) f fd ["_law_pot_here"] (vq K):=by
 refine F.ok yv yh (fun cdv A outer s H vs Q E hr h=>?_)
 obtain ⟨x,rfl,a,rfl,pp,q⟩:=h
 refine ⟨_,(zd (zr (i:=1) yv.nd rfl (Or.inl rfl) (ze qc0 hr rfl (za (pv 0) (za zi zb)))) (zd (zV (zB xV (pv 1) zi (zE _)) (zd (zr (i:=2) yv.nd rfl (Or.inl rfl) zi) (zd (xf PassesOwn.never rfl (yY rfl B.range (za zi zb)) (zj (i:=3) yv.nd rfl (Or.inl rfl)) (zg (zr (i:=2) yv.nd rfl (Or.inl rfl) (zA xt (zA wK (pv 2) (zA sX zi zi)) (ze qc0 hr rfl (za (pv 0) (za (zA sX zi zi) zb))))))) (zg (zo (zA wK (zA wA (pv 2) (zA yH (zA sX zi zi) zi)) (zA yH zi (zA wK zi (ze qc0 hr rfl (za (pv 0) (za zi zb)))))))))) zu) (zg (zo (zA yH (ze qc0 hr rfl (za (pv 0) (za (zC zI (yA (za zi (za zi (za zi zb)))) (zA yH (pv 1) zi) (fun _ _=>rfl)) zb))) (zC zI (yA (za zi (za zi (za zi zb)))) (zA yH (pv 1) zi) (fun _ _=>rfl))))))),?_⟩
 refine ⟨_,rfl,_,_,rfl,a,4,rfl,rfl,pp,by decide,by decide,fun c0 H1 l0 u0 g1 pp1=>?_⟩
 refine ⟨_,rfl,rfl,_,rfl,?_⟩
 refine ite2 (fun c=>?_) (fun c=>?_)
 ·refine ⟨_,rfl,by decide,by decide,xZ (fun i σ H'=>∃ far e,σ = [some (.ref a),some (.int c0),some (.int far),e] /\ Grow [a] H H' /\ Pot H' a) ⟨0,none,rfl,g1,pp1⟩ ?_ ?_⟩
  ·rintro i σ H2 hi ⟨far,e,rfl,g2,pp2⟩
   refine ⟨_,rfl,_,_,rfl,rfl,⟨by decide,by decide,by decide⟩,_,_,rfl,rfl,uZ ⟨by decide,by decide⟩,?_⟩
   refine ⟨_,rfl,_,_,rfl,rfl,⟨by decide,by decide,by decide⟩,_,_,rfl,a,_,rfl,rfl,pp2,by decide,by decide,fun n3 H3 l3 u3 g3 pp3=>?_⟩
   exact ⟨_,_,rfl,rfl,_,_,rfl,g2.trans g3,pp3⟩
  ·rintro σ H2 ⟨far,e,rfl,g2,pp2⟩
   refine ⟨_,rfl,_,_,rfl,rfl,⟨by decide,by decide,by decide⟩,_,_,rfl,rfl,_,_,rfl,rfl,(by show (0:Int) < 10 ^ 30 - 20; decide),?_⟩
   refine ⟨_,rfl,_,_,rfl,a,2,rfl,rfl,pp2,by decide,by decide,fun n3 H3 l3 u3 g3 pp3=>?_⟩
   refine ⟨_,_,rfl,rfl,uZ ⟨by omega,by omega⟩,_,_,rfl,rfl,_,_,rfl,rfl,uZ ⟨by omega,by omega⟩,?_⟩
   have r0:0 <= far % (10 ^ 30 - 20):=Int.emod_nonneg _ (by decide)
   have r1:far % (10 ^ 30 - 20) < 10 ^ 30 - 20:=Int.emod_lt_of_pos _ (by decide)
   refine q _ _ ?_ (g2.trans g3) pp3
   show Sm (far % (10 ^ 30 - 20) * (1 - 2 * n3))
   obtain rfl | rfl:n3 = 0 \/ n3 = 1:=by omega
   ·exact ⟨by omega,by omega⟩
   ·exact ⟨by omega,by omega⟩
 ·have c':c0 ≠ 0:=fun z=>c (by rw [z]; simp)
  obtain rfl | rfl | rfl:c0 = 1 \/ c0 = 2 \/ c0 = 3:=by omega
  ·refine ⟨_,rfl,szl rfl,fun t1 ht1=>⟨_,rfl,_,_,rfl,rfl,t1,_,_,_,rfl,rfl,SqL.of zc,rfl,?_⟩⟩
   refine ⟨_,_,rfl,a,3,rfl,rfl,pp1.new ht1 _,by decide,by decide,fun n1 H2 l1 u1 g2 pp2=>⟨szl rfl,fun t2 ht2=>⟨_,rfl,_,_,rfl,rfl,t2,_,_,_,rfl,rfl,SqL.of zc,rfl,?_⟩⟩⟩
   refine ⟨_,_,rfl,rfl,q _ _ ?_ (g1.trans ((Grow.new ht1 _).trans (g2.trans (Grow.new ht2 _)))) (pp2.new ht2 _)⟩
   show Sm (n1 - 1)
   exact ⟨by omega,by omega⟩
  ·refine ⟨_,rfl,szl rfl,fun t1 ht1=>⟨_,rfl,_,_,rfl,rfl,t1,_,_,_,rfl,rfl,SqL.of zc,rfl,?_⟩⟩
   refine ⟨_,_,rfl,a,19,rfl,rfl,pp1.new ht1 _,by decide,by decide,fun n1 H2 l1 u1 g2 pp2=>⟨szl rfl,fun t2 ht2=>⟨_,rfl,_,_,rfl,rfl,t2,_,_,_,rfl,rfl,SqL.of zc,rfl,?_⟩⟩⟩
   refine ⟨_,_,rfl,rfl,q _ _ ?_ (g1.trans ((Grow.new ht1 _).trans (g2.trans (Grow.new ht2 _)))) (pp2.new ht2 _)⟩
   show Sm (n1 - 9)
   exact ⟨by omega,by omega⟩
  ·refine ⟨_,rfl,szl rfl,fun t1 ht1=>⟨_,rfl,_,_,rfl,rfl,t1,_,_,_,rfl,rfl,SqL.of zc,rfl,?_⟩⟩
   refine ⟨_,_,rfl,a,199,rfl,rfl,pp1.new ht1 _,by decide,by decide,fun n1 H2 l1 u1 g2 pp2=>⟨szl rfl,fun t2 ht2=>⟨_,rfl,_,_,rfl,rfl,t2,_,_,_,rfl,rfl,SqL.of zc,rfl,?_⟩⟩⟩
   refine ⟨_,_,rfl,rfl,q _ _ ?_ (g1.trans ((Grow.new ht1 _).trans (g2.trans (Grow.new ht2 _)))) (pp2.new ht2 _)⟩
   show Sm (n1 - 99)
   exact ⟨by omega,by omega⟩
theorem yQ:FnScope ["_law_pot_here","_law_choice","_law_add","_law_one","_law_other"] ["_law_pot_here"] (zh (top 78)):=⟨rfl,rfl,rfl,by decide +kernel,rfl,by decide +kernel,by decide +kernel⟩
theorem qH (F:Fun K "_law_deed" "_law_deed" (top 78) f fd) (B:Blt mg) (qc0:zf P w K mg base n "_law_number" ["_law_pot_here"] (vq K)) (qc1:zf P w K mg base n "_law_draw" ["_law_pot_here","_law_many"] (vp K))    :
  FnOk P w K mg base CX0 (n + 1) f fd ["_law_pot_here"] (Yl K):=by
 refine F.ok yQ yh (fun cdv A outer s H vs Q E hr h=>?_)
 obtain ⟨x,rfl,a,rfl,pp,q⟩:=h
 refine ⟨_,(zd (zr (i:=1) yQ.nd rfl (Or.inl rfl) (ze qc1 hr rfl (za (pv 0) (za zi zb)))) (zd (zr (i:=2) yQ.nd rfl (Or.inl rfl) (ze qc0 hr rfl (za (pv 0) zb))) (zd (zr (i:=3) yQ.nd rfl (Or.inl rfl) (ze qc0 hr rfl (za (pv 0) zb))) (zd (zr (i:=4) yQ.nd rfl (Or.inl rfl) (ze qc0 hr rfl (za (pv 0) zb))) (zd (zV (zB XQ (pv 1) zi (zE _)) (zg (zo (zN (za (zA wK (pv 2) (pv 1)) (za jC (za jC zb)))))) zu) (zd (zV (PW.pt (v9 (zB xV (pv 1) zi (zE _)) (xY (zB xV (pv 3) (pv 4) (zE _))))) (zg (zo (zN (za zi (za (pv 3) (za (pv 3) zb)))))) zu) (zd (zV (zB xV (pv 1) zi (zE _)) (zg (zo (zN (za (pv 2) (za (pv 3) (za jC zb)))))) zu) (zd (zV (zB xV (pv 1) zi (zE _)) (zg (zo (zN (za (pv 2) (za jC (za (pv 3) zb)))))) zu) (zg (zo (zN (za (pv 2) (za (zm (sZ rfl) rfl B.min Uh (za (pv 3) (za (pv 4) zb))) (za (zm (ub rfl) rfl B.max Vc (za (pv 3) (za (pv 4) zb))) zb)))))))))))))),?_⟩
 refine ⟨_,rfl,_,_,rfl,a,6,rfl,rfl,pp,by decide,by decide,fun c0 H1 l0 u0 g1 pp1=>?_⟩
 refine ⟨_,rfl,_,rfl,a,rfl,pp1,fun A H2 sA g2 pp2=>?_⟩
 refine ⟨_,rfl,_,rfl,a,rfl,pp2,fun n H3 sn g3 pp3=>?_⟩
 refine ⟨_,rfl,_,rfl,a,rfl,pp3,fun o H4 so g4 pp4=>?_⟩
 have gA:=g1.trans (g2.trans (g3.trans g4))
 refine ⟨_,rfl,_,_,rfl,rfl,_,rfl,?_⟩
 by_cases c1:c0 < 2
 ·refine y0 (decide_eq_true c1) ⟨_,rfl,_,rfl,_,_,rfl,rfl,uZ ⟨by omega,by omega⟩,szl rfl,fun t ht=>?_⟩
  refine q ⟨A * c0,none,none⟩ _ _ ok_n (Tj ?_) (gA.trans (Grow.new ht _)) (pp4.new ht _) ⟨t,rfl,SqT.of zc⟩
  obtain ⟨a1,a2⟩:=sA
  obtain rfl | rfl:c0 = 0 \/ c0 = 1:=by omega
  ·rw [Int.mul_zero]; exact ⟨by omega,by omega⟩
  ·rw [Int.mul_one]; exact ⟨a1,a2⟩
 refine yG (decide_eq_false c1) ?_
 have set0:Deed.Ok ⟨0,some n,some n⟩:=fun l h e1 e2=>by cases e1; cases e2; exact .inr ⟨rfl,rfl⟩
 have sm0:Sm 0:=⟨by decide,by decide⟩
 refine ⟨_,rfl,rfl,_,rfl,?_⟩
 by_cases c2:c0 = 2
 ·refine y0 (decide_eq_true (congrArg V.int c2)) (iteT ⟨_,rfl,_,rfl,szl rfl,fun t ht=>?_⟩)
  exact q ⟨0,some n,some n⟩ _ _ set0 ⟨sm0,(fun l e=>by cases e; exact sn),(fun l e=>by cases e; exact sn)⟩ (gA.trans (Grow.new ht _)) (pp4.new ht _) ⟨t,rfl,SqT.of zc⟩
 refine yG (decide_eq_false fun z=>c2 (V.int.inj z)) ⟨_,rfl,_,rfl,rfl,_,rfl,?_⟩
 by_cases c3:n = o
 ·refine y0 (decide_eq_true (congrArg V.int c3)) ⟨_,rfl,_,rfl,szl rfl,fun t ht=>?_⟩
  exact q ⟨0,some n,some n⟩ _ _ set0 ⟨sm0,(fun l e=>by cases e; exact sn),(fun l e=>by cases e; exact sn)⟩ (gA.trans (Grow.new ht _)) (pp4.new ht _) ⟨t,rfl,SqT.of zc⟩
 refine yG (decide_eq_false fun z=>c3 (V.int.inj z)) ⟨_,rfl,rfl,_,rfl,?_⟩
 by_cases c4:c0 = 3
 ·refine y0 (decide_eq_true (congrArg V.int c4)) ⟨_,rfl,_,rfl,szl rfl,fun t ht=>?_⟩
  exact q ⟨A,some n,none⟩ _ _ Tm (Tk sA sn) (gA.trans (Grow.new ht _)) (pp4.new ht _) ⟨t,rfl,SqT.of zc⟩
 refine yG (decide_eq_false fun z=>c4 (V.int.inj z)) ⟨_,rfl,rfl,_,rfl,?_⟩
 by_cases c5:c0 = 4
 ·refine y0 (decide_eq_true (congrArg V.int c5)) ⟨_,rfl,_,rfl,szl rfl,fun t ht=>?_⟩
  exact q ⟨A,none,some n⟩ _ _ ok_n (Tl sA sn) (gA.trans (Grow.new ht _)) (pp4.new ht _) ⟨t,rfl,SqT.of zc⟩
 refine yG (decide_eq_false fun z=>c5 (V.int.inj z)) ?_
 refine ⟨_,rfl,_,rfl,_,rfl,_,_,rfl,_,rfl,_,rfl,_,_,rfl,szl rfl,fun t ht=>?_⟩
 refine q ⟨A,some (if o < n then o else n),some (if o > n then o else n)⟩ _ _ ?_ ⟨sA,?_,?_⟩ (gA.trans (Grow.new ht _)) (pp4.new ht _) ⟨t,rfl,SqT.of zc⟩
 ·intro l h e1 e2
  cases e1; cases e2
  left; split <;> split <;> omega
 ·intro l e; cases e; split
  ·exact so
  ·exact sn
 ·intro l e; cases e; split
  ·exact so
  ·exact sn
theorem yR:FnScope ["_law_pot_here","_law_lines","_law_board_here","_law_scarce","_law_near","_law_found","_law_hand"] ["_law_pot_here","_law_lines","_law_board_here"] (zh (top 80)):=⟨rfl,rfl,rfl,by decide +kernel,rfl,by decide +kernel,by decide +kernel⟩
theorem qI (F:Fun K "_law_asks" "_law_asks" (top 80) f fd) (B:Blt mg) (qc0:zf P w K mg base n "_law_draw" ["_law_pot_here","_law_many"] (vp K)) (qc1:zf P w K mg base n "_law_deed" ["_law_pot_here"] (Yl K))    :
  FnOk P w K mg base CX0 (n + 1) f fd ["_law_pot_here","_law_lines","_law_board_here"] (qf K):=by
 refine F.ok yR xj (fun cdv A outer s H vs Q E hr h=>?_)
 obtain ⟨x,y,z,rfl,a,k,b,rfl,rfl,k4,⟨rb,rfl,hrb⟩,b1,b16,pp,q⟩:=h
 refine ⟨_,(zd (zr (i:=3) yR.nd rfl (Or.inl rfl) (ze qc0 hr rfl (za (pv 0) (za zi zb)))) (zd (zr (i:=4) yR.nd rfl (Or.inl rfl) (zA xt zi (ze qc0 hr rfl (za (pv 0) (za (zm zp rfl B.len yZ (za (pv 2) zb)) zb))))) (zd (zr (i:=5) yR.nd rfl (Or.inl rfl) (yA zb)) (zd (xf PassesOwn.never rfl (yY rfl B.range (za (pv 1) zb)) (zj (i:=6) yR.nd rfl (Or.inl rfl)) (zg (zV (zB Te (ze qc0 hr rfl (za (pv 0) (za zi zb))) (pv 3) (zE _)) (zg (zz (ud PySem.F.plainAttrs_list PySem.F.slot_list_insert PySem.F.type_list_insert YV (pv 5) (za (ze qc0 hr rfl (za (pv 0) (za (zA xt (zm zp rfl B.len yZ (za (pv 5) zb)) zi) zb))) (za (zN (za (pv 6) (za (ze qc0 hr rfl (za (pv 0) (za (pv 4) zb))) (za (ze qc1 hr rfl (za (pv 0) zb)) zb)))) zb))))) zu))) (zg (zo (zx zq rfl B.tuple zG (za (pv 5) zb)))))))),?_⟩
 have p16:=xm k4
 obtain ⟨W,hW⟩:∃ W:Nat,W = 2 ^ k:=⟨_,rfl⟩
 have lb:(b.map V.int).length = b.length:=List.length_map ..
 refine ⟨_,rfl,_,_,rfl,a,4,rfl,rfl,pp,by decide,by decide,fun sc H1 l1 u1 g1 pp1=>?_⟩
 refine c_nx (yE (fun v H'=>∃ nr:Int,v = .int nr /\ 1 <= nr /\ nr <= b.length /\ Grow [a] H1 H' /\ Pot H' a) (fun Kk hk=>⟨_,rfl,_,rfl,rb,_,rfl,.inr (g1.sqT hrb),_,_,rfl,a,_,rfl,rfl,pp1,by rw [lb]; omega,by rw [lb]; omega,fun t H' t0 t1 g pp'=>⟨_,_,rfl,rfl,hk _ _ ⟨_,rfl,?_,?_,g,pp'⟩⟩⟩) ?_)
 ·show 1 <= 1 + t
  omega
 ·show 1 + t <= (b.length:Int)
  rw [lb] at t1; omega
 rintro _ H3 ⟨nr,rfl,nr1,nr2,g3,pp3⟩
 have G3:Grow [a] H H3:=g1.trans g3
 refine yE (fun v H'=>∃ la,v = .ref la /\ H3 la = none /\ H' = upd H3 la (.lst [])) (fun Kk hk=>⟨szl rfl,fun la hla=>hk _ _ ⟨la,rfl,hla,rfl⟩⟩) ?_
 rintro _ _ ⟨la,rfl,hla,rfl⟩
 have g6:=Grow.new (m:=[]) hla (.lst [])
 have hA6:=zc (H:=H3) (a:=la) (o:=.lst [])
 have pp6:=pp3.new hla (.lst [])
 have naa:la ≠ a:=fun z=>by
  obtain ⟨x0,x1,z1,_⟩:=pp3
  rw [z,z1] at hla; cases hla
 have nA:la ∉ [a]:=by simpa using naa
 have hlaH:H la = none:=G3.free nA hla
 have G6:Grow [a] H (upd H3 la (.lst [])):=G3.trans g6.wk
 generalize upd H3 la (.lst []) = H6 at g6 hA6 pp6 G6 ⊢
 refine ⟨_,rfl,_,rfl,by omega,by omega,xZ (fun j σ H'=>∃ (e6:Option V) (ks:List Ask) (xs:List V),σ = [some (.ref a),some (.int ((2 ^ k:Nat):Int)),some (.ref rb),some (.int sc),some (.int nr),some (.ref la),e6] /\ Grow [a,la] H6 H' /\ Pot H' a /\ H' la = some (.lst xs) /\ AllA K H' xs ks /\ ks.length <= j /\ RndS j b.length ks) ⟨_,[],[],rfl,Grow.refl _ _,pp6,hA6,trivial,Nat.le_refl _,RndS.nil⟩ ?_ ?_⟩
 ·rintro j σ H7 hj ⟨e6,ks,xs,rfl,g7,pp7,hA7,all7,kj,S7⟩
  have hjW:j < 2 ^ k:=by omega
  have xl:=all7.len
  try dsimp only
  refine Xh (fun H'=>Grow [a] H7 H' /\ Pot H' a) (fun Kk hk=>⟨_,rfl,_,_,rfl,a,4,rfl,rfl,pp7,by decide,by decide,fun n8 H8 l8 u8 g8 pp8=>⟨_,rfl,_,_,rfl,rfl,_,rfl,hk _ _ ⟨g8,pp8⟩⟩⟩) ?_ ?_
  ·rintro H10 ⟨g10,pp10⟩
   have hA10:=g10.keep _ _ nA hA7
   refine ⟨_,rfl,.inl ⟨rfl,_,SqL.of hA10⟩,_,rfl,_,rfl,la,_,rfl,.inl (SqL.of hA10),_,_,rfl,rfl,_,_,rfl,a,_,rfl,rfl,pp10,by omega,by omega,fun ix H11 l11 u11 g11 pp11=>?_⟩
   refine ⟨_,rfl,_,rfl,_,rfl,_,_,rfl,a,nr,rfl,rfl,pp11,by omega,by omega,fun bx H11b lbx ubx g11b pp11b=>?_⟩
   refine ⟨_,rfl,_,rfl,a,rfl,pp11b,fun d yd H12 ok12 sm12 g12 pp12 hd12=>⟨szl rfl,fun t ht=>?_⟩⟩
   have gt:=Grow.new (m:=[a]) ht (.tup [.int (0 + (j:Int)),.int bx,yd])
   have G:Grow [a] H7 (upd H12 t (.tup [.int (0 + (j:Int)),.int bx,yd])):=g10.trans (g11.trans (g11b.trans (g12.trans gt)))
   have hA13:=G.keep _ _ nA hA7
   have pp13:=pp12.new ht (.tup [.int (0 + (j:Int)),.int bx,yd])
   have et:=zc (H:=H12) (a:=t) (o:=.tup [.int (0 + (j:Int)),.int bx,yd])
   have hd13:=(Grow.new (m:=[]) ht (.tup [.int (0 + (j:Int)),.int bx,yd])).deed hd12
   generalize upd H12 t (.tup [.int (0 + (j:Int)),.int bx,yd]) = H13 at gt G hA13 pp13 et hd13 ⊢
   obtain ⟨rd,rfl,hrd⟩:=hd13
   have ask:uN K H13 (.ref t) ⟨(j:Int),bx,d⟩:=⟨t,rd,rfl,SqT.of (by rw [et,Int.zero_add]),hrd⟩
   have ixl:ix.toNat <= xs.length:=by have u11':ix < (xs.length:Int) + 1:=u11; omega
   refine ⟨la,xs,ix.toNat,.ref t,rfl,by rw [Int.toNat_of_nonneg l11],hA13,ixl,zX (by omega),?_⟩
   have gs:Grow [a,la] H13 (upd H13 la (.lst (xs.take ix.toNat ++ [.ref t] ++ xs.drop ix.toNat))):=Grow.set hA13 (by simp) _
   refine ⟨_,ks.take ix.toNat ++ [⟨(j:Int),bx,d⟩] ++ ks.drop ix.toNat,_,rfl,g7.trans ((G.mono (by simp)).trans gs),?_,zc,gs.allA (AllA.ins ask (G.allA all7)),?_,S7.ins rfl ⟨lbx,by show bx < _; omega⟩ ok12 sm12⟩
   ·obtain ⟨x0,x1,z1,z2⟩:=pp13
    exact ⟨x0,x1,by rw [zn (Ne.symm naa)]; exact z1,z2⟩
   ·rw [List.length_append,List.length_append,List.length_take,List.length_drop]
    show min _ _ + 1 + _ <= _
    omega
  ·rintro H8 ⟨g8,pp8⟩
   exact ⟨_,ks,xs,rfl,g7.trans (g8.mono (by simp)),pp8,g8.keep _ _ nA hA7,g8.allA all7,by omega,S7.next⟩
 ·rintro σ H7 ⟨e6,ks,xs,rfl,g7,pp7,hA7,all7,kj,S7⟩
  rw [Int.toNat_natCast] at kj S7
  refine ⟨_,rfl,la,_,rfl,.inl ⟨SqL.of hA7,fun r1 hr1=>?_⟩⟩
  have ga:=Grow.new (m:=[a]) hr1 (.tup xs)
  have G:Grow [a] H H7:=(((G6.mono (by simp)):Grow [a,la] H H6).trans g7).less fun d hd=>by
   simp only [List.mem_cons,List.mem_nil_iff,or_false] at hd
   rcases hd with rfl | rfl
   ·exact .inl (by simp)
   ·exact .inr hlaH
  exact q (.ref r1) ks _ (G.trans ga) (pp7.new hr1 _) ⟨r1,xs,rfl,SqT.of zc,ga.allA all7⟩ (by omega) S7.done S7.sm
theorem sR:FnScope ["_law_pot_here"] ["_law_pot_here"] (zh (top 79)):=⟨rfl,rfl,rfl,by decide +kernel,rfl,by decide +kernel,by decide +kernel⟩
theorem sS (F:Fun K "_law_board" "_law_board" (top 79) f fd) (B:Blt mg) (qc0:zf P w K mg base n "_law_draw" ["_law_pot_here","_law_many"] (vp K)) (qc1:zf P w K mg base n "_law_number" ["_law_pot_here"] (vq K))    :
  FnOk P w K mg base CX0 (n + 1) f fd ["_law_pot_here"] (jR K):=by
 refine F.ok sR yh (fun cdv A outer s H vs Q E hr h=>?_)
 obtain ⟨x,rfl,a,rfl,pp,q⟩:=h
 refine ⟨_,(zg (zo (zx zq rfl B.tuple zG (za (zJ (CSc.of (N':=["_law_k","_law_pot_here"]) (sub:=[none,some 0]) (zh (top 79)) ["_law_pot_here"] rfl rfl (by decide +kernel) rfl) rfl (yY rfl B.range (za (zA xt zi (ze qc0 hr rfl (za (pv 0) (za zi zb)))) zb)) (fun _ _ _ _ _ _=>zj (i:=0) (show (["_law_k","_law_pot_here"]:List Str).Nodup by decide +kernel) rfl (Or.inl rfl)) (fun _ _ _ _ _ _=>zF) (fun _ _ _ _ _ _=>(ze qc1 hr rfl (za (pv 1) zb)))) zb)))),?_⟩
 refine ⟨_,rfl,_,_,rfl,a,16,rfl,rfl,pp,by decide,by decide,fun n0 H1 l0 u0 g1 pp1=>?_⟩
 refine ⟨_,_,rfl,rfl,_,rfl,by omega,by omega,vZ (fun i ys H'=>∃ b:List Int,ys = b.map V.int /\ b.length = i /\ InB (10 ^ 30) b /\ Grow [a] H H' /\ Pot H' a) ⟨[],rfl,rfl,(fun v hv=>by cases hv),g1,pp1⟩ ?_ ?_⟩
 ·rintro i ys H2 hi ⟨b,rfl,hb,hB,g2,pp2⟩
  refine ⟨_,rfl,_,rfl,a,rfl,pp2,fun n H3 sn g3 pp3=>⟨?_,b ++ [n],?_,?_,?_,g2.trans g3,pp3⟩⟩
  ·rw [List.length_map]; exact z9 (by omega)
  ·rw [List.map_append]; rfl
  ·rw [List.length_append]; show b.length + 1 = _; omega
  ·intro v hv
   rcases List.mem_append.mp hv with z | z
   ·exact hB v z
   ·rw [List.mem_singleton.mp z]; exact sn
 ·rintro ys H2 ⟨b,rfl,hb,hB,g2,pp2⟩ l hl
  refine ⟨l,_,rfl,.inl ⟨SqL.of zc,fun r hr=>?_⟩⟩
  exact q _ b _ (g2.trans ((Grow.new (m:=[a]) hl _).trans (Grow.new hr _))) ((pp2.new hl _).new hr _) ⟨r,rfl,SqT.of zc⟩ (by omega) (by omega) hB
theorem zy:FnScope ["_law_pot_here","_law_k","_law_lines","_law_firsts","_law_board_here","_law_asks_here","_law_kept","_law_told","_law_last","_law_answers","_law_row","_law_due","_law_box","_law_own"] ["_law_pot_here"] (zh (top 84)):=⟨rfl,rfl,rfl,by decide +kernel,rfl,by decide +kernel,by decide +kernel⟩
theorem sT (F:Fun K "_law_right" "_law_right" (top 84) f fd) (B:Blt mg) (qc0:zf P w K mg base n "came" ["k","board","asks","firsts"] (qd K)) (qc1:zf P w K mg base n "_law_agree" ["_law_board_here","_law_row","_law_answers","_law_last"] (tS K)) (qc2:zf P w K mg base n "all_of" ["board","asks"] (ur K)) (qc3:zf P w K mg base n "_law_shared" ["_law_own","_law_value","_law_due","_law_behind"] (uJ K)) (qc4:zf P w K mg base n "_law_in_order" ["_law_asks_here","_law_box","_law_order"] (Zc K)) (qc5:zf P w K mg base n "told_order" ["k","side","firsts"] (rP K)) (qc6:zf P w K mg base n "one_round" ["k","board","asks","firsts"] (tM K)) (qc7:zf P w K mg base n "_law_asks" ["_law_pot_here","_law_lines","_law_board_here"] (qf K)) (qc8:zf P w K mg base n "_law_board" ["_law_pot_here"] (jR K)) (qc9:zf P w K mg base n "_law_draw" ["_law_pot_here","_law_many"] (vp K)) (g_zip:mg "zip" = none)   :
  FnOk P w K mg base CX0 (n + 1) f fd ["_law_pot_here"] (tf K):=by
 refine F.ok zy yh (fun cdv A outer s H vs Q E hr h=>?_)
 obtain ⟨x,rfl,p,rfl,pp,q⟩:=h
 refine ⟨_,(zd (zr (i:=1) zy.nd rfl (Or.inl rfl) (ze qc9 hr rfl (za (pv 0) (za zi zb)))) (zd (zr (i:=2) zy.nd rfl (Or.inr rfl) (zA ua zi (pv 1))) (zd (zr (i:=3) zy.nd rfl (Or.inl rfl) (zx zq rfl B.tuple zG (za (zJ (CSc.of (N':=["_law_stage","_law_lines","_law_pot_here"]) (sub:=[none,some 2,some 0]) (zh (top 84)) ["_law_pot_here","_law_k","_law_lines","_law_firsts","_law_board_here","_law_asks_here","_law_kept","_law_told","_law_last","_law_answers","_law_row","_law_due","_law_box","_law_own"] rfl rfl (by decide +kernel) rfl) rfl (yY rfl B.range (za (pv 1) zb)) (fun _ _ _ _ _ _=>zj (i:=0) (show (["_law_stage","_law_lines","_law_pot_here"]:List Str).Nodup by decide +kernel) rfl (Or.inl rfl)) (fun _ _ _ _ _ _=>zF) (fun _ _ _ _ _ _=>(zx (qU (K:=K) rfl) rfl B.tuple zG (za (zJ (CSc.nest (N2:=["_law_switch","_law_pot_here"]) (sub2:=[none,some 2]) (CSc.of (N':=["_law_stage","_law_lines","_law_pot_here"]) (sub:=[none,some 2,some 0]) (zh (top 84)) ["_law_pot_here","_law_k","_law_lines","_law_firsts","_law_board_here","_law_asks_here","_law_kept","_law_told","_law_last","_law_answers","_law_row","_law_due","_law_box","_law_own"] rfl rfl (by decide +kernel) rfl) rfl (by decide +kernel) rfl) rfl (yY rfl B.range (za (zA vW (pv 1) zi) zb)) (fun _ _ _ _ _ _=>zj (i:=0) (show (["_law_switch","_law_pot_here"]:List Str).Nodup by decide +kernel) rfl (Or.inl rfl)) (fun _ _ _ _ _ _=>zF) (fun _ _ _ _ _ _=>(ze qc9 hr rfl (za (pv 1) (za zi zb))))) zb)))) zb))) (zd (zr (i:=4) zy.nd rfl (Or.inl rfl) (ze qc8 hr rfl (za (pv 0) zb))) (zd (zr (i:=5) zy.nd rfl (Or.inl rfl) (ze qc7 hr rfl (za (pv 0) (za (pv 2) (za (pv 4) zb))))) (zd (zr (i:=6) zy.nd rfl (Or.inl rfl) (zm (u7 hr) rfl B.repr WC (za (yA (za (pv 4) (za (pv 5) (za (pv 3) zb)))) zb))) (zd (xU (ze qc6 hr rfl (za (pv 1) (za (pv 4) (za (pv 5) (za (pv 3) zb))))) (xc rfl (zk (zj (i:=7) zy.nd rfl (Or.inl rfl)) (zk (zj (i:=8) zy.nd rfl (Or.inl rfl)) zW)))) (zd (zr (i:=9) zy.nd rfl (Or.inr rfl) (zx (ZE hr) rfl B.dict Uj (za (zJ (CSc.of (N':=["_law_ask","_law_answer"]) (sub:=[none,none]) (zh (top 84)) ["_law_pot_here","_law_k","_law_lines","_law_firsts","_law_board_here","_law_asks_here","_law_kept","_law_told","_law_last","_law_answers","_law_row","_law_due","_law_box","_law_own"] rfl rfl (by decide +kernel) rfl) rfl (YQ (K:=K) rfl rfl g_zip (za (pv 5) (za (pv 7) zb))) (fun _ _ _ _ _ _=>wf (K:=K) 2 rfl rfl (zk (zj (i:=0) (show (["_law_ask","_law_answer"]:List Str).Nodup by decide +kernel) rfl (Or.inl rfl) (Or.inr rfl)) (zk (zj (i:=1) (show (["_law_ask","_law_answer"]:List Str).Nodup by decide +kernel) rfl (Or.inl rfl) (Or.inr rfl)) zW)) rfl rfl) (fun _ _ _ _ _ _=>zF) (fun _ _ _ _ _ _=>(zN (za (zC (xE (K:=K) rfl) (pv 0) zi (fun _ _=>rfl)) (za (pv 1) zb))))) zb))) (zd (zr (i:=10) zy.nd rfl (Or.inl rfl) (yA zb)) (zd (zr (i:=11) zy.nd rfl (Or.inl rfl) (yA zb)) (zd (xf PassesOwn.never rfl (yY rfl B.range (za (zm zp rfl B.len yZ (za (pv 4) zb)) zb)) (zj (i:=12) zy.nd rfl (Or.inl rfl)) (zd (zr (i:=13) zy.nd rfl (Or.inl rfl) (ze qc4 hr rfl (za (pv 5) (za (pv 12) (za (ze qc5 hr rfl (za (pv 1) (za (zA wA (pv 12) (pv 2)) (za (pv 3) zb)))) zb))))) (zd (zV (PW.pt (wy (zB (ZL (K:=K) rfl hr) (pv 13) (yA zb) (zE _)) (xC (zB sY (zC zT (pv 8) (pv 12) (fun _ _=>rfl)) (zC zT (pv 4) (pv 12) (fun _ _=>rfl)) (zE _))))) (zg (zo wH)) zu) (zd (zV (zB (Wb (K:=K) rfl hr) (pv 13) (yA zb) (zE _)) (zd (zV (yq (zY (ze qc3 hr rfl (za (pv 13) (za (zC zT (pv 4) (pv 12) (fun _ _=>rfl)) (za (zx zq rfl B.tuple zG (za (zJ (CSc.of (N':=["_law_ask","_law_answers"]) (sub:=[none,some 9]) (zh (top 84)) ["_law_pot_here","_law_k","_law_lines","_law_firsts","_law_board_here","_law_asks_here","_law_kept","_law_told","_law_last","_law_answers","_law_row","_law_due","_law_box","_law_own"] rfl rfl (by decide +kernel) rfl) rfl (tU (pv 13)) (fun _ _ _ _ _ _=>zj (i:=0) (show (["_law_ask","_law_answers"]:List Str).Nodup by decide +kernel) rfl (Or.inl rfl)) (fun _ _ _ _ _ _=>zF) (fun _ _ _ _ _ _=>(wN (Room.u1F hr) (pv 1) (zC (xE (K:=K) rfl) (pv 0) zi (fun _ _=>rfl)) (fun _ _=>rfl)))) zb)) (za (zC zT (pv 8) (pv 12) (fun _ _=>rfl)) zb))))))) (zg (zo wH)) zu) (zg (zz (ud PySem.F.plainAttrs_list PySem.F.slot_list_append PySem.F.type_list_append yN (pv 11) (za (zN (za (pv 12) (za (zC zT (ze qc2 hr rfl (za (pv 4) (za (zx zq rfl B.tuple zG (za (pv 13) zb)) zb))) (pv 12) (fun _ _=>rfl)) zb))) zb))))) zu) (zg (zz (ud PySem.F.plainAttrs_list PySem.F.slot_list_extend PySem.F.type_list_extend rj (pv 10) (za (pv 13) zb)))))))) (zd (zV (PW.pt (v9 (zB sY (zm zp rfl B.len yZ (za (pv 10) zb)) (zm zp rfl B.len yZ (za (pv 5) zb)) (zE _)) (xY (yq (zY (ze qc1 hr rfl (za (pv 4) (za (zx zq rfl B.tuple zG (za (pv 10) zb)) (za (pv 9) (za (pv 8) zb)))))))))) (zg (zo wH)) zu) (zg (zo (vD (wJ (UH (K:=K) rfl hr) (ze qc0 hr rfl (za (pv 1) (za (pv 4) (za (pv 5) (za (pv 3) zb))))) (zx zq rfl B.tuple zG (za (pv 11) zb)) (zE _)) (wR (wJ xV (zm (u7 hr) rfl B.repr WC (za (yA (za (pv 4) (za (pv 5) (za (pv 3) zb)))) zb)) (pv 6) (zE _)))))))))))))))))),?_⟩
 refine yE (fun v H'=>∃ k:Nat,v = .int k /\ k <= 4 /\ Grow [p] H H' /\ Pot H' p) (fun Kk hk=>⟨_,rfl,_,_,rfl,p,5,rfl,rfl,pp,by decide,by decide,fun t H' t0 t1 g pp'=>hk _ _ ⟨t.toNat,congrArg V.int (by omega),by omega,g,pp'⟩⟩) ?_
 rintro _ H1 ⟨k,rfl,k4,g1,pp1⟩
 have p16:=xm k4
 refine yE (fun v H'=>v = .int ((2 ^ k:Nat):Int) /\ H' = H1) (fun Kk hk=>⟨_,rfl,_,_,rfl,rfl,jX k4,hk _ _ ⟨congrArg V.int (by rw [YH]),rfl⟩⟩) ?_
 rintro _ H1 ⟨rfl,rfl⟩
 refine yE (fun v H'=>∃ rows,xy K H' v rows /\ zQ k rows /\ Grow [p] H1 H' /\ Pot H' p) (fun Kk hk=>⟨_,rfl,_,rfl,by omega,by omega,vZ (fun i ys H'=>∃ rows:List (List Int),AllR (zD K H') ys rows /\ rows.length = i /\ (∀ r ∈ rows,r.length = 2 ^ (k - 1) /\ ∀ b ∈ r,b = 0 \/ b = 1) /\ Grow [p] H1 H' /\ Pot H' p) ⟨[],trivial,rfl,(fun r hr=>by cases hr),Grow.refl _ _,pp1⟩ ?_ ?_⟩) ?_
 ·rintro i ys H2 hi ⟨rows,ha1,rl,ro,g2,pp2⟩
  have hk1:1 <= k:=by omega
  have e2k:((2 ^ k:Nat):Int) / 2 = ((2 ^ (k - 1):Nat):Int):=by
   obtain ⟨n,rfl⟩:∃ n,k = n + 1:=⟨k - 1,by omega⟩
   rw [Nat.add_sub_cancel,Nat.pow_succ]; omega
  have pw:2 ^ (k - 1) <= 16:=xm (by omega)
  obtain ⟨W,hW⟩:∃ W:Nat,W = 2 ^ (k - 1):=⟨_,rfl⟩
  rw [← hW] at e2k pw
  refine ⟨_,rfl,_,_,rfl,rfl,⟨by decide,by decide⟩,_,rfl,by rw [e2k]; omega,by rw [e2k]; omega,vZ (fun j ys H'=>∃ bs:List Int,ys = bs.map V.int /\ bs.length = j /\ (∀ b ∈ bs,b = 0 \/ b = 1) /\ Grow [p] H2 H' /\ Pot H' p) ⟨[],rfl,rfl,(fun b hb=>by cases hb),Grow.refl _ _,pp2⟩ ?_ ?_⟩
  ·rintro j ys H3 hj ⟨bs,rfl,bl,bo,g3,pp3⟩
   have hj16:j < 16:=by rw [e2k] at hj; omega
   refine ⟨_,rfl,_,_,rfl,p,2,rfl,rfl,pp3,by decide,by decide,fun n H4 l4 u4 g4 pp4=>⟨zX (by rw [List.length_map]; omega),bs ++ [n],by rw [List.map_append]; rfl,by rw [List.length_append]; show bs.length + 1 = _; omega,?_,g3.trans g4,pp4⟩⟩
   intro b hb
   rcases List.mem_append.mp hb with z | z
   ·exact bo b z
   ·rw [List.mem_singleton.mp z]; omega
  ·rintro ys2 H3 ⟨bs,rfl,bl,bo,g3,pp3⟩ l2 hl2
   refine ⟨l2,_,rfl,.inl ⟨SqL.of zc,fun r hr'=>?_⟩⟩
   have g4:Grow [] H3 (upd (upd H3 l2 (.lst (bs.map V.int))) r (.tup (bs.map V.int))):=(Grow.new hl2 _).trans (Grow.new hr' _)
   refine ⟨zX (by rw [ha1.len]; omega),rows ++ [bs],((g3.trans g4.wk).boardsR ha1).app (.one ⟨r,rfl,SqT.of zc⟩),by rw [List.length_append]; show rows.length + 1 = _; omega,?_,g2.trans (g3.trans g4.wk),pp3.grow g4⟩
   intro rw' hrw
   rcases List.mem_append.mp hrw with z | z
   ·exact ro rw' z
   ·rw [List.mem_singleton.mp z]
    refine ⟨?_,bo⟩
    rw [bl,e2k,← hW]; exact Int.toNat_natCast W
 ·rintro ys H2 ⟨rows,ha1,rl,ro,g2,pp2⟩ l hl
  have g3:=Grow.new (m:=[]) hl (.lst ys)
  refine ⟨l,_,rfl,.inl ⟨SqL.of zc,fun r hr'=>?_⟩⟩
  have g4:=Grow.new (m:=[]) hr' (.tup ys)
  exact hk _ _ ⟨rows,⟨r,ys,rfl,SqT.of zc,(g3.trans g4).boardsR ha1⟩,⟨by omega,ro⟩,g2.trans (g3.trans g4).wk,pp2.grow (g3.trans g4)⟩
 rintro yr H2 ⟨rows,hR2,hs,g2,pp2⟩
 refine yE (fun v H'=>∃ b,zD K H' v b /\ 1 <= b.length /\ b.length <= 16 /\ InB (10 ^ 30) b /\ Grow [p] H2 H' /\ Pot H' p) (fun Kk hk=>⟨_,rfl,_,rfl,p,rfl,pp2,fun y b H' g pp' h1 h2 h3 h4=>hk _ _ ⟨b,h1,h2,h3,h4,g,pp'⟩⟩) ?_
 rintro yb H3 ⟨b,hb3,b1,b16,bB,g3,pp3⟩
 refine yE (fun v H'=>∃ ks,yB K H' v ks /\ ks.length <= 16 /\ RndOk k b.length ks /\ (∀ a ∈ ks,a.deed.Sm) /\ Grow [p] H3 H' /\ Pot H' p) (fun Kk hk=>⟨_,rfl,_,rfl,_,rfl,_,_,_,rfl,p,k,b,rfl,rfl,k4,hb3,b1,b16,pp3,fun y ks H' g pp' h1 h2 h3 h4=>hk _ _ ⟨ks,h1,h2,h3,h4,g,pp'⟩⟩) ?_
 rintro ya H4 ⟨ks,ha4,k16,R,sm,g4,pp4⟩
 have hb4:=g4.board hb3
 have hR4:=g4.rows (g3.rows hR2)
 have G4:Grow [p] H H4:=g1.trans (g2.trans (g3.trans g4))
 have sK:=Xf k4 hs R sm bB k16 b16
 refine yE (fun v H'=>v = .str (PyData.list [wU b,Zq ks,.tuple (rows.map wU)]).shown /\ Grow [] H4 H') (fun Kk hk=>⟨_,rfl,_,rfl,_,rfl,szl rfl,fun l6 hl6=>⟨_,_,rfl,Dat.lst (SqL.of zc) (.cons ((Grow.new (m:=[]) hl6 _).board hb4).dat (.cons ((Grow.new (m:=[]) hl6 _).asks ha4).dat (.cons (tP ((Grow.new (m:=[]) hl6 _).rows hR4)) .nil))),sK.1,sK.2.1,Nat.le_trans sK.2.2.2 (by decide),sK.fits (by decide),hk _ _ ⟨rfl,Grow.new hl6 _⟩⟩⟩) ?_
 rintro _ H5 ⟨rfl,g5⟩
 refine ⟨_,rfl,_,rfl,_,rfl,_,rfl,_,_,_,_,rfl,k,b,ks,rows,rfl,k4,g5.board hb4,b1,b16,g5.asks ha4,k16,R,g5.rows hR4,hs,fun yt H6 g6 ht6=>?_⟩
 obtain ⟨rt,r1,r2,rfl,h0,hr1,hr2⟩:=ht6
 refine ⟨rt,_,rfl,h0,rfl,_,_,rfl,_,_,rfl,rfl,?_⟩
 try dsimp only
 obtain ⟨ra,xs,rfl,hra,hxs⟩:=(g5.trans g6).asks ha4
 have xl:=hxs.len
 have lA:(ansR k rows ks b).length = ks.length:=by unfold ansR; rw [List.length_map]
 refine yE (fun v H'=>∃ (da:Addr) (tk:List (Key × V)),v = .ref da /\ H' da = some (.dK tk) /\ (∀ a ∈ ks,valV tk (.inl a.hand) = some (.int (stvR k rows ks (bdF b) k a.hand.toNat a.box.toNat))) /\ Grow [] H6 H') (fun Kk hk=>⟨_,rfl,_,rfl,true,true,ra,r1,rfl,⟨_,hra⟩,⟨_,hr1⟩,sg (xs:=xs) (ys:=(ansR k rows ks b).map V.int) (fun i ws σ' H'=>∃ (e0 e1:Option V),σ' = [e0,e1] /\ Grow [] H6 H' /\ i <= ks.length /\ jd H' ws ((ks.take i).map fun a=>((.inl a.hand:Key),V.int (stvR k rows ks (bdF b) k a.hand.toNat a.box.toNat)))) ⟨_,_,rfl,Grow.refl _ _,Nat.zero_le _,rfl,fun i p h=>by cases h⟩ (fun i ws σ' H' ⟨_,_,_,g,_⟩=>⟨g.sqT hra,g.sqT hr1⟩) ?_ ?_⟩) ?_
 ·rintro i x y ws σ' H7 T hx hy ⟨e0,e1,rfl,g7,hi',hp⟩ hT
  have gT:=Grow.new (m:=[]) hT (.tup [x,y])
  have gg:=g7.trans gT
  obtain ⟨a,ha,r,rd,rfl,h1,h2⟩:=hxs.get hx
  have hi:=(List.getElem?_eq_some_iff.mp ha).1
  have ey:y = .int (stvR k rows ks (bdF b) k a.hand.toNat a.box.toNat):=by
   unfold ansR at hy
   rw [List.getElem?_map,List.getElem?_map,ha] at hy
   exact (Option.some.inj hy).symm
  subst ey
  have lw:ws.length = i:=by rw [hp.1,List.length_map,List.length_take]; omega
  refine ⟨T,[.ref r,.int (stvR k rows ks (bdF b) k a.hand.toNat a.box.toNat)],rfl,SqT.of zc,rfl,_,_,rfl,_,_,rfl,rfl,?_⟩
  refine ui ?_
  refine ⟨_,rfl,r,_,0,.int a.hand,rfl,rfl,gg.sqT h1,rfl,_,rfl,szl rfl,fun t ht=>⟨zX (by omega),_,_,rfl,gg.trans (Grow.new ht _),hi,?_,fun n pr hn=>?_⟩⟩
  ·rw [List.length_append,lw,List.length_map,List.length_take]; show i + 1 = _; omega
  ·have gx:=gT.trans (Grow.new (m:=[]) ht (.tup [.int a.hand,.int (stvR k rows ks (bdF b) k a.hand.toNat a.box.toNat)]))
   rw [List.take_succ,ha,List.map_append] at hn
   have lk:((ks.take i).map fun a=>((.inl a.hand:Key),V.int (stvR k rows ks (bdF b) k a.hand.toNat a.box.toNat))).length = i:=by rw [List.length_map,List.length_take]; omega
   by_cases c:n < i
   ·rw [List.getElem?_append_left (by rw [lk]; exact c)] at hn
    obtain ⟨T',z1,z2⟩:=hp.2 n pr hn
    exact ⟨T',by rw [List.getElem?_append_left (by rw [lw]; exact c)]; exact z1,gx.tup _ _ z2⟩
   ·have hl':=(List.getElem?_eq_some_iff.mp hn).1
    rw [List.length_append,lk] at hl'
    have e:n = i:=by have:n < i + 1:=hl'; omega
    rw [e,List.getElem?_append_right (by rw [lk]; exact Nat.le_refl _),lk,Nat.sub_self] at hn
    cases Option.some.inj hn
    exact ⟨t,by rw [e,List.getElem?_append_right (by rw [lw]; exact Nat.le_refl _),lw,Nat.sub_self]; rfl,zc⟩
 ·rintro ws σ' H7 ⟨_,_,rfl,g7,_,hp⟩ l8 hl8
  have em:min xs.length ((ansR k rows ks b).map V.int).length = ks.length:=by rw [List.length_map,lA,xl,Nat.min_self]
  rw [em,List.take_length] at hp
  have g8:=Grow.new (m:=[]) hl8 (.lst ws)
  refine ⟨l8,_,_,rfl,zc,⟨hp.1,fun n pr hn=>?_⟩,fun da hda=>hk _ _ ⟨da,_,rfl,zc,fun a ha=>?_,g7.trans (g8.trans (Grow.new hda _))⟩⟩
  ·obtain ⟨T',z1,z2⟩:=hp.2 n pr hn
   exact ⟨T',z1,g8.tup _ _ z2⟩
  ·refine uH (p:=((.inl a.hand:Key),V.int (stvR k rows ks (bdF b) k a.hand.toNat a.box.toNat))) ?_ (List.mem_map.mpr ⟨a,ha,rfl⟩)
   rw [List.map_map]
   have e:(ks.map ((fun x:Key × V=>x.1) ∘ fun a=>((.inl a.hand:Key),V.int (stvR k rows ks (bdF b) k a.hand.toNat a.box.toNat)))) = (ks.map (·.hand)).map Sum.inl:=by rw [List.map_map]; rfl
   rw [e]
   exact R.nd.map _ fun x y hxy z=>hxy (Sum.inl.inj z)
 rintro _ H7 ⟨da,tk,rfl,hda7,htk,g7⟩
 refine yE (fun v H'=>∃ lr,v = .ref lr /\ H7 lr = none /\ H' = upd H7 lr (.lst [])) (fun Kk hk=>⟨szl rfl,fun lr hlr=>hk _ _ ⟨lr,rfl,hlr,rfl⟩⟩) ?_
 rintro _ _ ⟨lr,rfl,hlr,rfl⟩
 have g8:=Grow.new (m:=[]) hlr (.lst [])
 have hR8:=zc (H:=H7) (a:=lr) (o:=.lst [])
 have hda8:=g8.keep _ _ (by simp) hda7
 generalize upd H7 lr (.lst []) = H8 at g8 hR8 hda8 ⊢
 refine yE (fun v H'=>∃ ld,v = .ref ld /\ H8 ld = none /\ H' = upd H8 ld (.lst [])) (fun Kk hk=>⟨szl rfl,fun ld hld=>hk _ _ ⟨ld,rfl,hld,rfl⟩⟩) ?_
 rintro _ _ ⟨ld,rfl,hld,rfl⟩
 have g9:=Grow.new (m:=[]) hld (.lst [])
 have hD9:=zc (H:=H8) (a:=ld) (o:=.lst [])
 have hR9:=g9.keep _ _ (by simp) hR8
 have hda9:=g9.keep _ _ (by simp) hda8
 have nrd:lr ≠ ld:=fun w=>by rw [w,hld] at hR8; cases hR8
 have nar:da ≠ lr:=fun w=>by rw [w,hlr] at hda7; cases hda7
 have nad:da ≠ ld:=fun w=>by rw [w,hld] at hda8; cases hda8
 have hldH7:H7 ld = none:=g8.free (by simp) hld
 generalize upd H8 ld (.lst []) = H9 at g9 hD9 hR9 hda9 ⊢
 have G79:=g8.trans g9
 have G69:=g7.trans G79
 have G49:=g5.trans (g6.trans G69)
 obtain ⟨rb,rfl,hrb⟩:=hb4
 have hrb9:=G49.sqT hrb
 have hra9:=G69.sqT hra
 have hxs9:=G69.allA hxs
 have hR9r:=G49.rows hR4
 have hr29:=G69.sqT hr2
 have lb:(b.map V.int).length = b.length:=List.length_map ..
 have lf:(finL k rows ks b).length = b.length:=by unfold finL; rw [List.length_map,List.length_range]
 refine ⟨_,rfl,rb,_,rfl,.inr hrb9,_,rfl,by rw [lb]; omega,by rw [lb]; omega,xZ (fun j σ H'=>∃ (e12 e13:Option V) (zs ws:List V),σ = [some (.ref p),some (.int k),some (.int ((2 ^ k:Nat):Int)),some yr,some (.ref rb),some (.ref ra),some (.str (PyData.list [wU b,Zq ks,.tuple (rows.map wU)]).shown),some (.ref r1),some (.ref r2),some (.ref da),some (.ref lr),some (.ref ld),e12,e13] /\ Grow [lr,ld] H9 H' /\ H' lr = some (.lst zs) /\ AllA K H' zs (rowB k rows ks j) /\ H' ld = some (.lst ws) /\ AllR (BdAt K H') ws (xQ k rows ks j)) ⟨_,_,[],[],rfl,Grow.refl _ _,hR9,trivial,hD9,trivial⟩ ?_ ?_⟩
 ·rintro j σ H10 hj ⟨e12,e13,zs,ws,rfl,g10,hR10,all10,hD10,cam10⟩
  have hjb:j < b.length:=by rw [lb] at hj; omega
  have W1:0 < 2 ^ k:=Nat.two_pow_pos k
  have hro:=(ordF k4 hs (Nat.mod_lt j W1) k (Nat.le_refl k)).len
  have hxs10:=g10.allA hxs9
  refine yE (fun v H'=>∃ lo ows,v = .ref lo /\ H10 lo = none /\ Grow [] H10 H' /\ H' lo = some (.lst ows) /\ AllA K H' ows (arrR k rows ks k (j % 2 ^ k) j)) (fun Kk hk=>⟨_,rfl,_,rfl,_,rfl,_,rfl,_,rfl,_,_,rfl,rfl,by omega,_,rfl,_,_,_,rfl,k,j % 2 ^ k,rows,rfl,congrArg V.int (by rw [Int.zero_add]; rfl),g10.rows hR9r,k4,Nat.mod_lt _ W1,hs,fun yo H11 g11 ho=>⟨_,_,_,rfl,ks,j,_,⟨ra,xs,rfl,g11.sqT (g10.sqT hra9),g11.allA hxs10⟩,congrArg V.int (by omega),k16,ho,by rw [hro]; omega,R.nd,fun lo ows H12 hlo g12 hlo12 all12=>hk _ _ ⟨lo,ows,rfl,g11.free (by simp) hlo,g11.trans g12,hlo12,by rw [VO k4 hs] at all12; exact all12⟩⟩⟩) ?_
  rintro _ H12 ⟨lo,ows,rfl,hlo10,g12,hlo12,own12⟩
  have fs:=ZN (b:=b) R (k:=k) (rows:=rows) (ks:=ks) hjb
  have a16:=VJ (j:=j) k4 hs R
  have box:=fun a ha=>ye (a:=a) (j:=j) k4 hs R ha
  have rs:=ZM (k:=k) (rows:=rows) (ks:=ks) (n:=j)
  have cs:=jg (k:=k) (rows:=rows) (ks:=ks) (n:=j)
  have ga:=fun d hd=>ZO (d:=d) k4 hs R sm hjb hd
  have an:=qi (bd:=bdF b) (j:=j) k4 hs R _ [] rfl
  have LF:=(lvF (rows:=rows) R k (j % 2 ^ k) j).non
  have nro:lr ≠ lo:=fun w=>by rw [w,hlo10] at hR10; cases hR10
  have ndo:ld ≠ lo:=fun w=>by rw [w,hlo10] at hD10; cases hD10
  have G12:Grow [lr,ld] H9 H12:=g10.trans g12.wk
  have hR12:=g12.keep _ _ (by simp) hR10
  have hD12:=g12.keep _ _ (by simp) hD10
  have hda12:=G12.keep _ _ (by simpa using ⟨nar,nad⟩) hda9
  have zl:zs.length <= 16:=by
   rw [all10.len]
   have h1:(rowB k rows ks j).length <= (rowB k rows ks b.length).length:=by
    unfold rowB
    have e:List.range b.length = List.range j ++ (List.range b.length).drop j:=by
     have:=List.take_append_drop j (List.range b.length)
     rw [List.take_range,Nat.min_eq_left (Nat.le_of_lt hjb)] at this; exact this.symm
    rw [e,List.flatMap_append,List.length_append]; exact Nat.le_add_right _ _
   rw [(vC k4 hs R).length_eq] at h1; omega
  have wl:ws.length <= 16:=by
   rw [cam10.len]; unfold xQ
   exact Nat.le_trans (List.length_filterMap_le ..) (by rw [List.length_range]; omega)
  generalize has:arrR k rows ks k (j % 2 ^ k) j = as at own12 fs a16 box rs ga an LF
  have ol:=own12.len
  refine tJ (fun c H'=>c = false /\ Grow [] H12 H') (fun Kk hk=>⟨_,rfl,szl rfl,fun l hl=>⟨lo,l,ows,rfl,rfl,SqL.of ((Grow.new (m:=[]) hl _).keep _ _ (by simp) hlo12),SqL.of zc,_,rfl,?_⟩⟩) ?_
  ·have gl:=Grow.new (m:=[]) hl (.lst [])
   by_cases c:ows = []
   ·have as0:as = []:=List.length_eq_zero_iff.mp (by rw [← ol,c]; rfl)
    rw [as0] at fs
    refine y0 (by rw [c]; rfl) ⟨_,rfl,_,rfl,r2,_,_,_,rfl,rfl,gl.sqT (G12.sqT hr29),xo (by omega) fs,_,rfl,_,rfl,rb,_,_,_,rfl,rfl,gl.sqT (G12.sqT hrb9),xo (by omega) (wO hjb),rfl,_,rfl,?_⟩
    exact hk _ _ ⟨by rw [decide_eq_true (show V.int (runR (bdF b j) []) = V.int (bdF b j) from rfl)]; rfl,gl⟩
   ·refine yG (by cases ows with | nil=>exact absurd rfl c | cons _ _=>rfl) (hk _ _ ⟨rfl,gl⟩)
  rintro _ H13 ⟨rfl,g13⟩
  refine iteF (tI ?_)
  have own13:=g13.allA own12
  have hlo13:=g13.keep _ _ (by simp) hlo12
  refine tJ (fun c H'=>c = !ows.isEmpty /\ Grow [] H13 H') (fun Kk hk=>⟨_,rfl,szl rfl,fun l hl=>⟨lo,l,ows,rfl,rfl,SqL.of ((Grow.new (m:=[]) hl _).keep _ _ (by simp) hlo13),SqL.of zc,_,rfl,hk _ _ ⟨rfl,Grow.new hl _⟩⟩⟩) ?_
  rintro _ H14 ⟨rfl,g14⟩
  have own14:=g14.allA own13
  have hlo14:=g14.keep _ _ (by simp) hlo13
  have hR14:=(g13.trans g14).keep _ _ (by simp) hR12
  have hD14:=(g13.trans g14).keep _ _ (by simp) hD12
  have hda14:=(g13.trans g14).keep _ _ (by simp) hda12
  have G14:Grow [lr,ld] H9 H14:=G12.trans (g13.trans g14).wk
  have all14:=(g12.trans (g13.trans g14)).allA all10
  have cam14:AllR (BdAt K H14) ws (xQ k rows ks j):=cam10.imp fun _ _ h=>BdAt.grow97 (g12.trans (g13.trans g14)) h
  by_cases c:ows = []
  ·have as0:as = []:=List.length_eq_zero_iff.mp (by rw [← ol,c]; rfl)
   refine yG (by rw [c]; rfl) (tI ?_)
   have gs:Grow [lr,ld] H14 (upd H14 lr (.lst (zs ++ ows))):=Grow.set hR14 (by simp) _
   refine ⟨_,rfl,.inl ⟨rfl,_,SqL.of hR14⟩,_,rfl,lr,lo,zs,ows,rfl,rfl,hR14,hlo14,Nat.le_of_lt (zX (by omega)),_,_,zs ++ ows,ws,rfl,G14.trans gs,zc,?_,by rw [zn (Ne.symm nrd)]; exact hD14,?_⟩
   ·rw [rs]; exact AllA.app97 (gs.allA all14) (gs.allA own14)
   ·rw [cs,LF.mpr as0]
    show AllR _ ws (xQ k rows ks j ++ [])
    rw [List.append_nil]
    exact cam14.imp fun _ _ h=>BdAt.grow97 gs h
  ·have as1:1 <= as.length:=by
    cases ows with
    | nil=>exact absurd rfl c
    | cons _ _=>rw [← ol]; exact Nat.succ_le_succ (Nat.zero_le _)
   refine y0 (by cases ows with | nil=>exact absurd rfl c | cons _ _=>rfl) ?_
   have hrb14:=G14.sqT hrb9
   refine tJ (fun c H'=>c = false /\ Grow [] H14 H') (fun Kk hk=>⟨_,rfl,_,rfl,_,rfl,rb,_,_,_,rfl,rfl,hrb14,xo (by omega) (wO hjb),_,rfl,lo,rfl,⟨_,SqL.of hlo14⟩,qb (xs:=ows) (fun n ys σ' H'=>H' = H14 /\ (∃ e0,σ' = [e0,some (.ref da)]) /\ ys = ((as.take n).map fun a=>stvR k rows ks (bdF b) k a.hand.toNat a.box.toNat).map V.int) ⟨rfl,⟨_,rfl⟩,rfl⟩ (fun n ys σ' H' _ z=>by rw [z.1]; exact SqL.of hlo14) ?_ ?_⟩) ?_
   ·rintro n x ys σ' H2 hx ⟨rfl,⟨e0,rfl⟩,rfl⟩
    obtain ⟨a,ha,r,rd,rfl,h1,h2⟩:=own14.get hx
    have hn:=(List.getElem?_eq_some_iff.mp ha).1
    have va:=htk a (box a (List.mem_of_getElem? ha)).1
    refine ⟨_,rfl,_,rfl,r,_,0,.int a.hand,rfl,rfl,h1,rfl,da,_,rfl,.inl ⟨_,.inl a.hand,.inl hda14,rfl,va.symm⟩,zX (by rw [List.length_map,List.length_map,List.length_take]; omega),rfl,⟨_,rfl⟩,?_⟩
    rw [List.take_succ,ha,List.map_append,List.map_append]; rfl
   ·rintro ys σ' H2 ⟨rfl,_,rfl⟩ l3 hl3
    rw [ol,List.take_length,an]
    have g3:=Grow.new (m:=[]) hl3 (.lst ((runA (as.map (·.deed)) (runR (bdF b j) [])).map V.int))
    refine ⟨l3,_,rfl,.inl ⟨SqL.of zc,fun r4 hr4=>?_⟩⟩
    have g4:=Grow.new (m:=[]) hr4 (.tup ((runA (as.map (·.deed)) (runR (bdF b j) [])).map V.int))
    have G5:=g3.trans g4
    refine ⟨_,rfl,_,rfl,r2,_,_,_,rfl,rfl,G5.sqT (G14.sqT hr29),xo (by omega) fs,_,_,_,_,rfl,lo,ows,as,bdF b j,rfl,G5.keep _ _ (by simp) hlo14,G5.allA own14,as1,a16,fun a ha=>R.ok a (box a ha).1,rfl,⟨r4,rfl,SqT.of zc⟩,rfl,fun H6 g6=>⟨_,rfl,hk _ _ ⟨rfl,G5.trans g6⟩⟩⟩
   rintro _ H15 ⟨rfl,g15⟩
   refine iteF (tI ?_)
   obtain ⟨d,hd⟩:∃ d,lvR k rows ks k (j % 2 ^ k) j = some d:=by
    cases hl:lvR k rows ks k (j % 2 ^ k) j with
    | none=>rw [LF.mp hl] at as1; cases as1
    | some d=>exact ⟨d,rfl⟩
   have gd:=ga d hd
   have own15:=g15.allA own14
   have hlo15:=g15.keep _ _ (by simp) hlo14
   have hR15:=g15.keep _ _ (by simp) hR14
   have hD15:=g15.keep _ _ (by simp) hD14
   have hrb15:=g15.sqT hrb14
   have all15:=g15.allA all14
   have cam15:AllR (BdAt K H15) ws (xQ k rows ks j):=cam14.imp fun _ _ h=>BdAt.grow97 g15 h
   have G15:Grow [lr,ld] H9 H15:=G14.trans g15.wk
   refine ⟨_,rfl,.inl ⟨rfl,_,SqL.of hD15⟩,_,rfl,_,rfl,_,rfl,lo,_,rfl,.inl ⟨SqL.of hlo15,fun t ht=>⟨_,_,rfl,b,as,⟨rb,rfl,(Grow.new (m:=[]) ht _).sqT hrb15⟩,b1,b16,⟨t,ows,rfl,SqT.of zc,(Grow.new (m:=[]) ht _).allA own15⟩,by omega,fun a ha=>R.ask k4 a (box a ha).1,fun y17 H17 g17 hd17=>?_⟩⟩⟩
   have gt:=Grow.new (m:=[]) ht (.tup ows)
   obtain ⟨r17,xs17,rfl,hr17,al17⟩:=hd17
   obtain ⟨dv,hdv,hdA⟩:=al17.back97 gd
   have G17:=gt.trans g17
   have hD17:=G17.keep _ _ (by simp) hD15
   have hlo17:=G17.keep _ _ (by simp) hlo15
   have hR17:=G17.keep _ _ (by simp) hR15
   have all17:=G17.allA all15
   have own17:=G17.allA own15
   have cam17:AllR (BdAt K H17) ws (xQ k rows ks j):=cam15.imp fun _ _ h=>BdAt.grow97 G17 h
   generalize upd H15 t (.tup ows) = H16 at gt g17 G17
   refine ⟨_,rfl,r17,_,_,dv,rfl,rfl,hr17,?_,szl rfl,fun T hT=>⟨ld,ws,_,rfl,rfl,(Grow.new (m:=[]) hT _).keep _ _ (by simp) hD17,zX (by omega),?_⟩⟩
   ·rw [Int.zero_add]; exact Xg hdv
   have gT:=Grow.new (m:=[]) hT (.tup [.int (0 + (j:Int)),dv])
   have hT':=zc (H:=H17) (a:=T) (o:=.tup [.int (0 + (j:Int)),dv])
   have hD18:=gT.keep _ _ (by simp) hD17
   have hR18:=gT.keep _ _ (by simp) hR17
   have hlo18:=gT.keep _ _ (by simp) hlo17
   generalize upd H17 T (.tup [.int (0 + (j:Int)),dv]) = H18 at gT hT' hD18 hR18 hlo18 ⊢
   have gs1:Grow [lr,ld] H18 (upd H18 ld (.lst (ws ++ [.ref T]))):=Grow.set hD18 (by simp) _
   have hR19:upd H18 ld (.lst (ws ++ [.ref T])) lr = some (.lst zs):=by rw [zn nrd]; exact hR18
   have hlo19:upd H18 ld (.lst (ws ++ [.ref T])) lo = some (.lst ows):=by rw [zn (Ne.symm ndo)]; exact hlo18
   have hD19:=zc (H:=H18) (a:=ld) (o:=.lst (ws ++ [.ref T]))
   generalize upd H18 ld (.lst (ws ++ [.ref T])) = H19 at gs1 hR19 hlo19 hD19 ⊢
   have gs:Grow [lr,ld] H19 (upd H19 lr (.lst (zs ++ ows))):=Grow.set hR19 (by simp) _
   have Ge:Grow [lr,ld] H17 (upd H19 lr (.lst (zs ++ ows))):=gT.wk.trans (gs1.trans gs)
   refine c_nx ⟨_,rfl,.inl ⟨rfl,_,SqL.of hR19⟩,_,rfl,lr,lo,zs,ows,rfl,rfl,hR19,hlo19,Nat.le_of_lt (zX (by omega)),_,_,zs ++ ows,_,rfl,G15.trans (G17.wk.trans Ge),zc,?_,by rw [zn (Ne.symm nrd)]; exact hD19,?_⟩
   ·rw [rs]; exact AllA.app97 (Ge.allA all17) (Ge.allA own17)
   ·rw [cs,hd]
    exact (cam17.imp fun _ _ h=>BdAt.grow97 Ge h).app (.one ⟨T,dv,rfl,(gs1.trans gs).sqT (SqT.of (by rw [hT',Int.zero_add])),Ge.deed hdA⟩)
 ·rintro σ H10 ⟨e12,e13,zs,ws,rfl,g10,hR10,all10,hD10,cam10⟩
  rw [lb,Int.toNat_natCast] at all10 cam10
  have zl:=all10.len
  rw [(vC k4 hs R).length_eq] at zl
  refine c_nx (tJ (fun c H'=>c = false /\ Grow [] H10 H') (fun Kk hk=>⟨_,rfl,lr,_,rfl,.inl (SqL.of hR10),_,rfl,ra,_,rfl,.inr (g10.sqT hra9),rfl,_,rfl,yG ?_ ⟨_,rfl,_,rfl,lr,_,rfl,.inl ⟨SqL.of hR10,fun t ht=>⟨_,rfl,_,rfl,_,_,_,_,rfl,k,b,ks,rows,da,tk,k4,hs,⟨rb,rfl,(Grow.new (m:=[]) ht _).sqT (g10.sqT hrb9)⟩,b1,b16,R,sm,⟨t,zs,rfl,SqT.of zc,(Grow.new (m:=[]) ht _).allA all10⟩,by rw [(vC k4 hs R).length_eq]; omega,rfl,(Grow.new (m:=[]) ht _).keep _ _ (by simp) (g10.keep _ _ (by simpa using ⟨nar,nad⟩) hda9),htk,⟨r2,rfl,(Grow.new (m:=[]) ht _).sqT (g10.sqT hr29)⟩,fun H12 g12=>⟨_,rfl,hk _ _ ⟨rfl,(Grow.new (m:=[]) ht _).trans g12⟩⟩⟩⟩⟩⟩) ?_)
  ·rw [xl,zl,decide_eq_true rfl]; rfl
  rintro _ H11 ⟨rfl,g11⟩
  refine iteF (tI ?_)
  have hD11:=g11.keep _ _ (by simp) hD10
  have cam11:AllR (BdAt K H11) ws (xQ k rows ks b.length):=cam10.imp fun _ _ h=>BdAt.grow97 g11 h
  have G11:Grow [lr,ld] H9 H11:=g10.trans g11.wk
  have G911:Grow [] H7 H11:=((G79.wk).trans G11).less fun d hd=>by
   simp only [List.mem_cons,List.mem_nil_iff,or_false] at hd
   rcases hd with rfl | rfl
   ·exact .inr hlr
   ·exact .inr hldH7
  refine ⟨_,rfl,_,rfl,_,rfl,_,rfl,_,_,_,_,rfl,k,b,ks,rows,rfl,k4,⟨rb,rfl,G11.sqT hrb9⟩,b1,b16,⟨ra,xs,rfl,G11.sqT hra9,G11.allA hxs9⟩,k16,R,G11.rows hR9r,hs,fun yc H12 g12 hc=>⟨_,rfl,ld,_,rfl,.inl ⟨SqL.of (g12.keep _ _ (by simp) hD11),fun t ht=>?_⟩⟩⟩
  have gt:=Grow.new (m:=[]) ht (.tup ws)
  refine ji (hc.grow97 gt) ⟨t,ws,rfl,SqT.of zc,cam11.imp fun _ _ h=>BdAt.grow97 (g12.trans gt) h⟩ ⟨_,rfl,iteT ?_⟩
  have G13:Grow [lr,ld] H9 (upd H12 t (.tup ws)):=G11.trans (g12.trans gt).wk
  have Ge:Grow [p] H (upd H12 t (.tup ws)):=G4.trans (g5.trans (g6.trans (g7.trans (G911.trans (g12.trans gt))))).wk
  refine ⟨_,rfl,_,rfl,_,rfl,szl rfl,fun l6 hl6=>?_⟩
  have gl:=Grow.new (m:=[]) hl6 (.lst [.ref rb,.ref ra,yr])
  refine ⟨_,_,rfl,Dat.lst (SqL.of zc) (.cons (zD.dat ⟨rb,rfl,gl.sqT (G13.sqT hrb9)⟩) (.cons (yB.dat ⟨ra,xs,rfl,gl.sqT (G13.sqT hra9),gl.allA (G13.allA hxs9)⟩) (.cons (tP (gl.rows (G13.rows hR9r))) .nil))),sK.1,sK.2.1,Nat.le_trans sK.2.2.2 (by decide),sK.fits (by decide),_,rfl,rfl,?_⟩
  rw [decide_eq_true rfl]
  exact q _ (Ge.trans gl.wk)
theorem xS:FnScope ["_law_script","_law_k","_law_primes","_law_cell"] ["_law_script","_law_k"] (zh (top 75)):=⟨rfl,rfl,rfl,by decide +kernel,rfl,by decide +kernel,by decide +kernel⟩
theorem jA (F:Fun K "_law_pot" "_law_pot" (top 75) f fd) (B:Blt mg)     :
  FnOk P w K mg base CX0 (n + 1) f fd ["_law_script","_law_k"] (WE K):=by
 refine F.ok xS zO (fun cdv A outer s H vs Q E hr h=>?_)
 obtain ⟨x,y,rfl,a,ns,k,rfl,rfl,hs,k0,k1,q⟩:=h
 refine ⟨_,(zd (zr (i:=2) xS.nd rfl (Or.inl rfl) (yA (za zi (za zi (za zi (za zi (za zi (za zi (za zi (za zi zb)))))))))) (zd (zr (i:=3) xS.nd rfl (Or.inl rfl) zi) (zd (zV (zB XQ (pv 1) (zm zp rfl B.len yZ (za (pv 0) zb)) (zE _)) (zg (zr (i:=3) xS.nd rfl (Or.inl rfl) (zC zI (pv 0) (pv 1) (fun _ _=>rfl)))) zu) (zg (zo (yA (za (zm (ub rfl) rfl B.max Vc (za zi (za (zA yH (pv 3) (zA sX zi zi)) zb))) (za (zA wA (zA sX (zA xt (zA xt (zA wA (pv 3) (zC zI (pv 2) (zA wA (pv 1) zi) (fun _ _=>rfl))) (zA wK zi (pv 1))) zi) zi) (zC zI (pv 2) (zA wA (pv 1) zi) (fun _ _=>rfl))) zb)))))))),?_⟩
 refine ⟨szl rfl,fun lp hlp=>?_⟩
 have g0:Grow [] H _:=Grow.new hlp (.lst ([2147483629,2147483587,2147483579,2147483563,2147483549,2147483543,2147483497,2147483489].map V.int))
 have hlp2:=zc (H:=H) (a:=lp) (o:=.lst ([2147483629,2147483587,2147483579,2147483563,2147483549,2147483543,2147483497,2147483489].map V.int))
 obtain ⟨qq,hq,q0,q1⟩:∃ qq:Int,atI (([2147483629,2147483587,2147483579,2147483563,2147483549,2147483543,2147483497,2147483489]:List Int).map V.int) (k % 8) = some (V.int qq) /\ 0 < qq /\ qq < 2147483648:=by
  obtain h | h | h | h | h | h | h | h:k % 8 = 0 \/ k % 8 = 1 \/ k % 8 = 2 \/ k % 8 = 3 \/ k % 8 = 4 \/ k % 8 = 5 \/ k % 8 = 6 \/ k % 8 = 7:=by omega
  all_goals (rw [h]; exact ⟨_,rfl,by decide,by decide⟩)
 have hs2:=(g0.scr hs).sq
 have hl:(ns.map V.int).length = ns.length:=List.length_map ..
 refine ⟨_,rfl,_,rfl,a,_,rfl,.inl hs2,_,_,rfl,rfl,_,rfl,?_⟩
 by_cases c:k < ((ns.map V.int).length:Int)
 ·refine y0 (decide_eq_true c) ?_
  have hj:k.toNat < ns.length:=by omega
  refine ⟨_,rfl,_,rfl,a,_,_,V.int ns[k.toNat],rfl,rfl,hs2,vP (xk k0 (by omega)) (by rw [List.getElem?_map,List.getElem?_eq_getElem hj]; rfl),?_⟩
  refine ⟨_,rfl,_,_,rfl,rfl,⟨by decide,by decide,by decide⟩,_,_,rfl,rfl,_,_,rfl,?_⟩
  refine ⟨_,rfl,_,rfl,_,rfl,_,_,rfl,rfl,(by show (0:Int) < 8; decide),lp,_,_,_,rfl,rfl,SqL.of hlp2,hq,_,_,rfl,rfl,q0,?_⟩
  refine ⟨_,rfl,_,_,rfl,rfl,Ul ⟨by decide,by decide⟩ ⟨by omega,by omega⟩,_,_,rfl,rfl,_,_,rfl,rfl,_,_,rfl,rfl,⟨by decide,by decide,?_⟩,?_⟩
  ·have e0:0 <= ns[k.toNat] % qq:=Int.emod_nonneg _ (by omega)
   have e1:ns[k.toNat] % qq < qq:=Int.emod_lt_of_pos _ q0
   show (ns[k.toNat] % qq + 7919 * k + 5).natAbs < 2 ^ 64
   omega
  refine ⟨_,rfl,_,rfl,_,_,rfl,rfl,(by show (0:Int) < 8; decide),lp,_,_,_,rfl,rfl,SqL.of hlp2,hq,_,_,rfl,rfl,q0,szl rfl,fun p hp=>?_⟩
  refine q p _ (g0.free (by simp) hp) (g0.trans (Grow.new hp _)) ⟨_,_,zc,?_⟩
  show 0 <= (if (ns[k.toNat] - 10 ^ (18:Int).toNat) > 0 then _ else _)
  split <;> omega
 ·refine yG (decide_eq_false c) ?_
  refine ⟨_,rfl,_,_,rfl,rfl,⟨by decide,by decide,by decide⟩,_,_,rfl,rfl,_,_,rfl,?_⟩
  refine ⟨_,rfl,_,rfl,_,rfl,_,_,rfl,rfl,(by show (0:Int) < 8; decide),lp,_,_,_,rfl,rfl,SqL.of hlp2,hq,_,_,rfl,rfl,q0,?_⟩
  refine ⟨_,rfl,_,_,rfl,rfl,Ul ⟨by decide,by decide⟩ ⟨by omega,by omega⟩,_,_,rfl,rfl,_,_,rfl,rfl,_,_,rfl,rfl,⟨by decide,by decide,?_⟩,?_⟩
  ·have e0:0 <= (0:Int) % qq:=Int.emod_nonneg _ (by omega)
   have e1:(0:Int) % qq < qq:=Int.emod_lt_of_pos _ q0
   show ((0:Int) % qq + 7919 * k + 5).natAbs < 2 ^ 64
   omega
  refine ⟨_,rfl,_,rfl,_,_,rfl,rfl,(by show (0:Int) < 8; decide),lp,_,_,_,rfl,rfl,SqL.of hlp2,hq,_,_,rfl,rfl,q0,szl rfl,fun p hp=>?_⟩
  refine q p _ (g0.free (by simp) hp) (g0.trans (Grow.new hp _)) ⟨_,_,zc,?_⟩
  show 0 <= (if ((0:Int) - 10 ^ (18:Int).toNat) > 0 then _ else _)
  split <;> omega
theorem U3:FnScope ["_law_script"] ["_law_script"] (zh (top 85)):=⟨rfl,rfl,rfl,by decide +kernel,rfl,by decide +kernel,by decide +kernel⟩
theorem U4 (F:Fun K "law" "law" (top 85) f fd) (B:Blt mg) (qc0:zf P w K mg base n "_law_right" ["_law_pot_here"] (tf K)) (qc1:zf P w K mg base n "_law_pot" ["_law_script","_law_k"] (WE K))    :
  FnOk P w K mg base CX0 (n + 1) f fd ["_law_script"] (jI K):=by
 refine F.ok U3 yh (fun cdv A outer s H vs Q E hr h=>?_)
 obtain ⟨x,rfl,a,ns,rfl,hs,h63,q⟩:=h
 refine ⟨_,(zg (zo (zm (yO rfl) rfl B.all rk (za (zJ (CSc.of (N':=["_law_k","_law_script"]) (sub:=[none,some 0]) (zh (top 85)) ["_law_script"] rfl rfl (by decide +kernel) rfl) rfl (yY rfl B.range (za (zm (ub rfl) rfl B.max Vc (za zi (za (zm (sZ rfl) rfl B.min Uh (za (zm zp rfl B.len yZ (za (pv 0) zb)) (za zi zb))) zb))) zb)) (fun _ _ _ _ _ _=>zj (i:=0) (show (["_law_k","_law_script"]:List Str).Nodup by decide +kernel) rfl (Or.inl rfl)) (fun _ _ _ _ _ _=>zF) (fun _ _ _ _ _ _=>(ze qc0 hr rfl (za (ze qc1 hr rfl (za (pv 1) (za (pv 0) zb))) zb)))) zb)))),?_⟩
 have hl:(ns.map V.int).length = ns.length:=List.length_map ..
 refine ⟨_,rfl,a,_,rfl,.inl hs.sq,_,_,rfl,_,_,rfl,_,rfl,?_,?_,?_⟩
 ·split <;> split <;> omega
 ·rw [hl]; split <;> split <;> omega
 refine vZ (fun i ys H'=>ys = (List.replicate i true).map V.bl /\ Grow [] H H') ⟨rfl,Grow.refl _ _⟩ ?_ ?_
 ·rintro i ys H1 hi ⟨rfl,g⟩
  have i63:i < 1000:=by
   have hi':=hi
   revert hi'
   split <;> split <;> omega
  refine ⟨_,rfl,_,rfl,_,_,rfl,a,ns,_,rfl,rfl,g.scr hs,by omega,by omega,fun p H2 hp g2 pp=>?_⟩
  refine ⟨_,rfl,p,rfl,pp,fun H3 g3=>⟨?_,?_,?_⟩⟩
  ·rw [List.length_map,List.length_replicate]; exact z9 (by omega)
  ·rw [List.replicate_succ',List.map_append]; rfl
  ·exact g.trans (((g2.wk (m:=[p])).trans g3).shrink hp)
 ·rintro ys H1 ⟨rfl,g⟩ l hl'
  refine ⟨l,_,rfl,SqL.of zc,?_⟩
  rw [show (List.replicate _ true).all id = true from List.all_eq_true.mpr fun x hx=>(List.mem_replicate.mp hx).2]
  exact q _
end
theorem ym:∀ {us:List Value},us.length = 1 -> ∃ x0,us = [x0]
 | [x0],_=>⟨x0,rfl⟩
theorem zR:∀ {us:List Value},us.length = 2 -> ∃ x0,∃ x1,us = [x0,x1]
 | [x0,x1],_=>⟨x0,x1,rfl⟩
theorem xq:∀ {us:List Value},us.length = 3 -> ∃ x0,∃ x1,∃ x2,us = [x0,x1,x2]
 | [x0,x1,x2],_=>⟨x0,x1,x2,rfl⟩
theorem xT:∀ {us:List Value},us.length = 4 -> ∃ x0,∃ x1,∃ x2,∃ x3,us = [x0,x1,x2,x3]
 | [x0,x1,x2,x3],_=>⟨x0,x1,x2,x3,rfl⟩
theorem VU:∀ {us:List Value},us.length = 6 -> ∃ x0,∃ x1,∃ x2,∃ x3,∃ x4,∃ x5,us = [x0,x1,x2,x3,x4,x5]
 | [x0,x1,x2,x3,x4,x5],_=>⟨x0,x1,x2,x3,x4,x5,rfl⟩
def FA (K:FG7) (x:Str) (t:Stmt) (f:Addr) (d:FuncData):Prop:=PySem.W.nsIn K mainGlobals x = some (some (.ref f)) /\ Fun K x x t f d
theorem FA.cl {P:Program} {w:World} {K:FG7} {h base:Heap} {mg:Str -> Option Value} {x:Str} {t:Stmt} {f:Addr} {d:FuncData} {k:Nat} {ps:List Str} {sp:Sp} (a:FA K x t f d) (X:K.In h) (G:h.Ns mainGlobals mg) (F:FnOk P w K mg base CX0 k f d ps sp) (b:qM K d ps []):zf P w K mg base k x ps sp:=⟨_,_,F,b,a.2.kp,PySem.W.mg_of X G a.1⟩
theorem all_mk {l:PySem.W.OpenLaw} {w:World} {K:FG7} {h:Heap} {mg:Str -> Option Value} {fa f1 f2 f3 f4 f5 f6 f7 f8 f9 f10 f11 f12 f13 f14 f15 f16 f17 f18 f19 f20 f21 f22 f23 f24 f25 f26 f27 f28 f29 f30 f31 f32 f33 f34 f35 f36 f37 f38 f39 f40 f41 f42 f43 f44 f45 f46 f47 f48 f49 f50 f51 f52 f53 f54 f55 f56 f57 f58 f59 f60 f61:Addr} (X:K.In h) (G:h.Ns mainGlobals mg) (hfa:mg "law" = some (.ref fa))
    {d1 d2 d3 d4 d5 d6 d7 d8 d9 d10 d11 d12 d13 d14 d15 d16 d17 d18 d19 d20 d21 d22 d23 d24 d25 d26 d27 d28 d29 d30 d31 d32 d33 d34 d35 d36 d37 d38 d39 d40 d41 d42 d43 d44 d45 d46 d47 d48 d49 d50 d51 d52 d53 d54 d55 d56 d57 d58 d59 d60 d61:FuncData}
 (h1:FA K "tidy" ((top 22)) f1 d1)
 (h2:FA K "made" ((top 20)) f2 d2)
 (h3:FA K "joined" ((top 23)) f3 d3)
 (h4:FA K "switch_at" ((top 44)) f4 d4)
 (h5:FA K "figure" ((top 41)) f5 d5)
 (h6:FA K "with_figure" ((top 42)) f6 d6)
 (h7:FA K "onward" ((top 43)) f7 d7)
 (h8:FA K "side_for" ((top 51)) f8 d8)
 (h9:FA K "in_order" ((top 53)) f9 d9)
 (h10:FA K "pass_stage" ((top 54)) f10 d10)
 (h11:FA K "pass_net" ((top 55)) f11 d11)
 (h12:FA K "is_whole" ((top 12)) f12 d12)
 (h13:FA K "is_within" ((top 13)) f13 d13)
 (h14:FA K "switches_in_a_stage" ((top 46)) f14 d14)
 (h15:FA K "are_marks" ((top 47)) f15 d15)
 (h16:FA K "need_net" ((top 38)) f16 d16)
 (h17:FA K "is_settings" ((top 48)) f17 d17)
 (h18:FA K "need_settings" ((top 49)) f18 d18)
 (h19:FA K "is_line" ((top 39)) f19 d19)
 (h20:FA K "is_end" ((top 16)) f20 d20)
 (h21:FA K "is_deed" ((top 17)) f21 d21)
 (h22:FA K "is_ask" ((top 29)) f22 d22)
 (h23:FA K "is_board" ((top 27)) f23 d23)
 (h24:FA K "need_board" ((top 28)) f24 d24)
 (h25:FA K "are_asks" ((top 30)) f25 d25)
 (h26:FA K "need_asks" ((top 31)) f26 d26)
 (h27:FA K "need_round" ((top 52)) f27 d27)
 (h28:FA K "came" ((top 60)) f28 d28)
 (h29:FA K "need_deed" ((top 19)) f29 d29)
 (h30:FA K "need_value" ((top 18)) f30 d30)
 (h31:FA K "done" ((top 21)) f31 d31)
 (h32:FA K "gathered" ((top 33)) f32 d32)
 (h33:FA K "ahead_of" ((top 35)) f33 d33)
 (h34:FA K "all_of" ((top 34)) f34 d34)
 (h35:FA K "played" ((top 32)) f35 d35)
 (h36:FA K "_law_agree" ((top 83)) f36 d36)
 (h37:FA K "halved_from" ((top 71)) f37 d37)
 (h38:FA K "need_many" ((top 63)) f38 d38)
 (h39:FA K "halved" ((top 72)) f39 d39)
 (h40:FA K "chained" ((top 73)) f40 d40)
 (h41:FA K "deed_of" ((top 67)) f41 d41)
 (h42:FA K "is_tree" ((top 64)) f42 d42)
 (h43:FA K "need_tree" ((top 66)) f43 d43)
 (h44:FA K "need_deeds" ((top 65)) f44 d44)
 (h45:FA K "folded" ((top 68)) f45 d45)
 (h46:FA K "share" ((top 69)) f46 d46)
 (h47:FA K "shared_out" ((top 70)) f47 d47)
 (h48:FA K "_law_shared" ((top 82)) f48 d48)
 (h49:FA K "_law_in_order" ((top 81)) f49 d49)
 (h50:FA K "need_side" ((top 40)) f50 d50)
 (h51:FA K "told_order" ((top 58)) f51 d51)
 (h52:FA K "share_stage" ((top 56)) f52 d52)
 (h53:FA K "one_round" ((top 57)) f53 d53)
 (h54:FA K "_law_draw" ((top 76)) f54 d54)
 (h55:FA K "_law_number" ((top 77)) f55 d55)
 (h56:FA K "_law_deed" ((top 78)) f56 d56)
 (h57:FA K "_law_asks" ((top 80)) f57 d57)
 (h58:FA K "_law_board" ((top 79)) f58 d58)
 (h59:FA K "_law_right" ((top 84)) f59 d59)
 (h60:FA K "_law_pot" ((top 75)) f60 d60)
 (h61:FA K "law" ((top 85)) f61 d61)
    {t_DEEPEST:Tok} (ga_DEEPEST:PySem.W.nsIn K mainGlobals "DEEPEST" = some (some (.int 4 t_DEEPEST)))
    {t_LAST_HAND:Tok} (ga_LAST_HAND:PySem.W.nsIn K mainGlobals "LAST_HAND" = some (some (.int 15 t_LAST_HAND)))
    {t_LOOK:Tok}
    {a_LOOK:Addr} {v_LOOK:Array (Option Value)} {n_LOOK:Nat} {o_LOOK:Option Addr} (ga_LOOK:PySem.W.nsIn K mainGlobals "LOOK" = some (some (.ref a_LOOK))) (gl_LOOK:K.lookup a_LOOK = some ⟨.type "tuple",o_LOOK,.seq #[.int 0 t_LOOK,.none,.none] n_LOOK,v_LOOK⟩)
    {t_MOST_BOXES:Tok} (ga_MOST_BOXES:PySem.W.nsIn K mainGlobals "MOST_BOXES" = some (some (.int 16 t_MOST_BOXES)))
    {t_MOST_DEEDS:Tok} (ga_MOST_DEEDS:PySem.W.nsIn K mainGlobals "MOST_DEEDS" = some (some (.int 40 t_MOST_DEEDS)))
    (ga_set:PySem.W.nsIn K mainGlobals "set" = some none)
    (ga_sorted:PySem.W.nsIn K mainGlobals "sorted" = some none)
    (ga_zip:PySem.W.nsIn K mainGlobals "zip" = some none)
    (z_abs:PySem.W.nsIn K mainGlobals "abs" = some none)
    (z_len:PySem.W.nsIn K mainGlobals "len" = some none)
    (z_max:PySem.W.nsIn K mainGlobals "max" = some none)
    (z_min:PySem.W.nsIn K mainGlobals "min" = some none)
    (z_divmod:PySem.W.nsIn K mainGlobals "divmod" = some none)
    (z_repr:PySem.W.nsIn K mainGlobals "repr" = some none)
    (z_isinstance:PySem.W.nsIn K mainGlobals "isinstance" = some none)
    (z_all:PySem.W.nsIn K mainGlobals "all" = some none)
    (z_range:PySem.W.nsIn K mainGlobals "range" = some none)
    (z_int:PySem.W.nsIn K mainGlobals "int" = some none)
    (z_bool:PySem.W.nsIn K mainGlobals "bool" = some none)
    (z_str:PySem.W.nsIn K mainGlobals "str" = some none)
    (z_tuple:PySem.W.nsIn K mainGlobals "tuple" = some none)
    (z_list:PySem.W.nsIn K mainGlobals "list" = some none)
    (z_dict:PySem.W.nsIn K mainGlobals "dict" = some none)
    :
    ∃ fd:FuncData,(∀ (s:Shared) (v:Value),BindsTo s fd ⟨[v],[]⟩ [("_law_script",v)]) /\ ∀ base:Heap,K.In base -> base.Ns mainGlobals mg -> FnOk l.prog w K mg base CX0 47 fa fd ["_law_script"] (jI K):=by
  have e:=hfa.symm.trans (PySem.W.mg_of X G h61.1)
  cases e
  have b37:=h37.2.binds (ps:=["first","many"]) fun _ _ _ _ _ _ us hl=>by obtain ⟨_,_,rfl⟩:=zR hl; rfl
  have b41:=h41.2.binds (ps:=["deeds","tree"]) fun _ _ _ _ _ _ us hl=>by obtain ⟨_,_,rfl⟩:=zR hl; rfl
  have b46:=h46.2.binds (ps:=["deeds","tree","value","values"]) fun _ _ _ _ _ _ us hl=>by obtain ⟨_,_,_,_,rfl⟩:=xT hl; rfl
  have B:Blt mg:=⟨PySem.W.mg_none_of X G z_abs,PySem.W.mg_none_of X G z_len,PySem.W.mg_none_of X G z_max,PySem.W.mg_none_of X G z_min,PySem.W.mg_none_of X G z_divmod,PySem.W.mg_none_of X G z_repr,PySem.W.mg_none_of X G z_isinstance,PySem.W.mg_none_of X G z_all,PySem.W.mg_none_of X G z_range,PySem.W.mg_none_of X G z_int,PySem.W.mg_none_of X G z_bool,PySem.W.mg_none_of X G z_str,PySem.W.mg_none_of X G z_tuple,PySem.W.mg_none_of X G z_list,PySem.W.mg_none_of X G z_dict⟩
  obtain ⟨oc,od,kV,dc,pm,an,cd,ct,sl,rfl,lk,hc⟩:=h61.2.ex
  refine ⟨PySem.W.fnOf "law" "law" (ug (top 85)) (vf (top 85)) (zh (top 85)) .none kV dc pm an cd ct,fun s v=>.of_eq rfl,fun base _ _=>?_⟩
  have C1:zf l.prog w K mg base 1 _ _ _:=h1.cl X G (qP h1.2 B      ) (h1.2.binds fun _ _ _ _ _ _ us hl=>by obtain ⟨_,_,_,rfl⟩:=xq hl; rfl)
  have C2:zf l.prog w K mg base 1 _ _ _:=h2.cl X G (VQ h2.2 B      ) (h2.2.binds fun _ _ _ _ _ _ us hl=>by obtain ⟨_,_,rfl⟩:=zR hl; rfl)
  have C3:zf l.prog w K mg base 2 _ _ _:=h3.cl X G (Xv h3.2 B   (C1.mono (by decide)) (C2.mono (by decide))   ) (h3.2.binds fun _ _ _ _ _ _ us hl=>by obtain ⟨_,_,rfl⟩:=zR hl; rfl)
  have C4:zf l.prog w K mg base 1 _ _ _:=h4.cl X G (ql h4.2 B      ) (h4.2.binds fun _ _ _ _ _ _ us hl=>by obtain ⟨_,_,_,rfl⟩:=xq hl; rfl)
  have C5:zf l.prog w K mg base 1 _ _ _:=h5.cl X G (Xx h5.2 B      ) (h5.2.binds fun _ _ _ _ _ _ us hl=>by obtain ⟨_,_,_,rfl⟩:=xq hl; rfl)
  have C6:zf l.prog w K mg base 2 _ _ _:=h6.cl X G (uQ h6.2 B   (C5.mono (by decide))   ) (h6.2.binds fun _ _ _ _ _ _ us hl=>by obtain ⟨_,_,_,_,rfl⟩:=xT hl; rfl)
  have C7:zf l.prog w K mg base 3 _ _ _:=h7.cl X G (Xz h7.2 B   (C6.mono (by decide)) (C5.mono (by decide))   ) (h7.2.binds fun _ _ _ _ _ _ us hl=>by obtain ⟨_,_,_,_,rfl⟩:=xT hl; rfl)
  have C8:zf l.prog w K mg base 1 _ _ _:=h8.cl X G (jk h8.2 B      ) (h8.2.binds fun _ _ _ _ _ _ us hl=>by obtain ⟨_,_,rfl⟩:=zR hl; rfl)
  have C9:zf l.prog w K mg base 3 _ _ _:=h9.cl X G (jl h9.2 B   (C6.mono (by decide)) (C4.mono (by decide))   ) (h9.2.binds fun _ _ _ _ _ _ us hl=>by obtain ⟨_,_,_,_,rfl⟩:=xT hl; rfl)
  have C10:zf l.prog w K mg base 4 _ _ _:=h10.cl X G (sF h10.2 B   (C3.mono (by decide)) (C4.mono (by decide)) (C7.mono (by decide)) (C8.mono (by decide)) (C9.mono (by decide))   ) (h10.2.binds fun _ _ _ _ _ _ us hl=>by obtain ⟨_,_,_,_,rfl⟩:=xT hl; rfl)
  have C11:zf l.prog w K mg base 5 _ _ _:=h11.cl X G (jm h11.2 B   (C10.mono (by decide))   ) (h11.2.binds fun _ _ _ _ _ _ us hl=>by obtain ⟨_,_,_,rfl⟩:=xq hl; rfl)
  have C12:zf l.prog w K mg base 1 _ _ _:=h12.cl X G (jo h12.2 B      ) (h12.2.binds fun _ _ _ _ _ _ us hl=>by obtain ⟨_,rfl⟩:=ym hl; rfl)
  have C13:zf l.prog w K mg base 2 _ _ _:=h13.cl X G (qo h13.2 B   (C12.mono (by decide))   ) (h13.2.binds fun _ _ _ _ _ _ us hl=>by obtain ⟨_,_,_,rfl⟩:=xq hl; rfl)
  have C14:zf l.prog w K mg base 1 _ _ _:=h14.cl X G (xX h14.2 B      ) (h14.2.binds fun _ _ _ _ _ _ us hl=>by obtain ⟨_,rfl⟩:=ym hl; rfl)
  have C15:zf l.prog w K mg base 3 _ _ _:=h15.cl X G (qr h15.2 B   (C13.mono (by decide)) (C14.mono (by decide))   ) (h15.2.binds fun _ _ _ _ _ _ us hl=>by obtain ⟨_,_,rfl⟩:=zR hl; rfl)
  have C16:zf l.prog w K mg base 3 _ _ _:=h16.cl X G (jq h16.2 B   (C13.mono (by decide))  (PySem.W.mg_of X G ga_DEEPEST) ) (h16.2.binds fun _ _ _ _ _ _ us hl=>by obtain ⟨_,rfl⟩:=ym hl; rfl)
  have C17:zf l.prog w K mg base 4 _ _ _:=h17.cl X G (uS h17.2 B   (C15.mono (by decide)) (C16.mono (by decide))   ) (h17.2.binds fun _ _ _ _ _ _ us hl=>by obtain ⟨_,_,rfl⟩:=zR hl; rfl)
  have C18:zf l.prog w K mg base 5 _ _ _:=h18.cl X G (vU h18.2 B   (C17.mono (by decide))   ) (h18.2.binds fun _ _ _ _ _ _ us hl=>by obtain ⟨_,_,rfl⟩:=zR hl; rfl)
  have C19:zf l.prog w K mg base 3 _ _ _:=h19.cl X G (ZQ h19.2 B   (C13.mono (by decide))   ) (h19.2.binds fun _ _ _ _ _ _ us hl=>by obtain ⟨_,_,rfl⟩:=zR hl; rfl)
  have C20:zf l.prog w K mg base 2 _ _ _:=h20.cl X G (XB h20.2 B   (C12.mono (by decide))   ) (h20.2.binds fun _ _ _ _ _ _ us hl=>by obtain ⟨_,rfl⟩:=ym hl; rfl)
  have C21:zf l.prog w K mg base 3 _ _ _:=h21.cl X G (ZR h21.2 B   (C20.mono (by decide)) (C12.mono (by decide))   ) (h21.2.binds fun _ _ _ _ _ _ us hl=>by obtain ⟨_,rfl⟩:=ym hl; rfl)
  have C22:zf l.prog w K mg base 4 _ _ _:=h22.cl X G (XC h22.2 B   (C21.mono (by decide)) (C13.mono (by decide))  (PySem.W.mg_of X G ga_LAST_HAND) ) (h22.2.binds fun _ _ _ _ _ _ us hl=>by obtain ⟨_,_,rfl⟩:=zR hl; rfl)
  have C23:zf l.prog w K mg base 2 _ _ _:=h23.cl X G (ju h23.2 B   (C12.mono (by decide))  (PySem.W.mg_of X G ga_MOST_BOXES) ) (h23.2.binds fun _ _ _ _ _ _ us hl=>by obtain ⟨_,rfl⟩:=ym hl; rfl)
  have C24:zf l.prog w K mg base 3 _ _ _:=h24.cl X G (sH h24.2 B   (C23.mono (by decide))   ) (h24.2.binds fun _ _ _ _ _ _ us hl=>by obtain ⟨_,rfl⟩:=ym hl; rfl)
  have C25:zf l.prog w K mg base 5 _ _ _:=h25.cl X G (jw h25.2 B   (C22.mono (by decide)) (C24.mono (by decide))   ) (h25.2.binds fun _ _ _ _ _ _ us hl=>by obtain ⟨_,_,rfl⟩:=zR hl; rfl)
  have C26:zf l.prog w K mg base 6 _ _ _:=h26.cl X G (qu h26.2 B   (C25.mono (by decide))   ) (h26.2.binds fun _ _ _ _ _ _ us hl=>by obtain ⟨_,_,rfl⟩:=zR hl; rfl)
  have C27:zf l.prog w K mg base 7 _ _ _:=h27.cl X G (sI h27.2 B   (C19.mono (by decide)) (C26.mono (by decide)) (C16.mono (by decide)) (PySem.W.mg_none_of X G ga_set)  ) (h27.2.binds fun _ _ _ _ _ _ us hl=>by obtain ⟨_,_,_,rfl⟩:=xq hl; rfl)
  have C28:zf l.prog w K mg base 8 _ _ _:=h28.cl X G (VR h28.2 B   (C11.mono (by decide)) (C18.mono (by decide)) (C27.mono (by decide)) (PySem.W.mg_none_of X G ga_sorted)  ) (h28.2.binds fun _ _ _ _ _ _ us hl=>by obtain ⟨_,_,_,_,rfl⟩:=xT hl; rfl)
  have C29:zf l.prog w K mg base 4 _ _ _:=h29.cl X G (qw h29.2 B   (C21.mono (by decide))   ) (h29.2.binds fun _ _ _ _ _ _ us hl=>by obtain ⟨_,rfl⟩:=ym hl; rfl)
  have C30:zf l.prog w K mg base 2 _ _ _:=h30.cl X G (sL h30.2 B   (C12.mono (by decide))   ) (h30.2.binds fun _ _ _ _ _ _ us hl=>by obtain ⟨_,rfl⟩:=ym hl; rfl)
  have C31:zf l.prog w K mg base 5 _ _ _:=h31.cl X G (VT h31.2 B   (C2.mono (by decide)) (C29.mono (by decide)) (C30.mono (by decide))   ) (h31.2.binds fun _ _ _ _ _ _ us hl=>by obtain ⟨_,_,rfl⟩:=zR hl; rfl)
  have C32:zf l.prog w K mg base 3 _ _ _:=h32.cl X G (jx h32.2 B   (C3.mono (by decide))   (PySem.W.mg_of X G ga_LOOK) (fun H=>.inr ⟨_,_,_,gl_LOOK,rfl,rfl,szl rfl,.cons ⟨_,rfl⟩ (.cons rfl (.cons rfl .nil))⟩)) (h32.2.binds fun _ _ _ _ _ _ us hl=>by obtain ⟨_,_,rfl⟩:=zR hl; rfl)
  have C33:zf l.prog w K mg base 7 _ _ _:=h33.cl X G (jz h33.2 B   (C32.mono (by decide)) (C26.mono (by decide))   ) (h33.2.binds fun _ _ _ _ _ _ us hl=>by obtain ⟨_,_,rfl⟩:=zR hl; rfl)
  have C34:zf l.prog w K mg base 7 _ _ _:=h34.cl X G (XG h34.2 B   (C32.mono (by decide)) (C26.mono (by decide))   ) (h34.2.binds fun _ _ _ _ _ _ us hl=>by obtain ⟨_,_,rfl⟩:=zR hl; rfl)
  have C35:zf l.prog w K mg base 7 _ _ _:=h35.cl X G (XH h35.2 B   (C2.mono (by decide)) (C26.mono (by decide))   ) (h35.2.binds fun _ _ _ _ _ _ us hl=>by obtain ⟨_,_,rfl⟩:=zR hl; rfl)
  have C36:zf l.prog w K mg base 8 _ _ _:=h36.cl X G (sM h36.2 B   (C31.mono (by decide)) (C33.mono (by decide)) (C34.mono (by decide)) (C35.mono (by decide)) (PySem.W.mg_none_of X G ga_zip)  ) (h36.2.binds fun _ _ _ _ _ _ us hl=>by obtain ⟨_,_,_,_,rfl⟩:=xT hl; rfl)
  have R37:∀ N:Nat,FnOk l.prog w K mg base CX0 (0 + N) f37 d37 ["first","many"] (yg N K):=by
    intro N
    induction N with
    | zero=>exact sd uq
    | succ N ih=>exact uT (P:=l.prog) (w:=w) (base:=base) (n:=0 + N) h37.2 B ⟨_,_,ih,b37,h37.2.kp,PySem.W.mg_of X G h37.1⟩
  have C37:zf l.prog w K mg base 40 "halved_from" ["first","many"] (yg 40 K):=⟨_,_,R37 40,b37,h37.2.kp,PySem.W.mg_of X G h37.1⟩
  have C38:zf l.prog w K mg base 3 _ _ _:=h38.cl X G (qA h38.2 B   (C13.mono (by decide))  (PySem.W.mg_of X G ga_MOST_DEEDS) ) (h38.2.binds fun _ _ _ _ _ _ us hl=>by obtain ⟨_,rfl⟩:=ym hl; rfl)
  have C39:zf l.prog w K mg base 41 _ _ _:=h39.cl X G (XJ h39.2 B   (C37.mono (by decide)) (C38.mono (by decide))   ) (h39.2.binds fun _ _ _ _ _ _ us hl=>by obtain ⟨_,rfl⟩:=ym hl; rfl)
  have C40:zf l.prog w K mg base 4 _ _ _:=h40.cl X G (ZS h40.2 B   (C38.mono (by decide))   ) (h40.2.binds fun _ _ _ _ _ _ us hl=>by obtain ⟨_,rfl⟩:=ym hl; rfl)
  have R41:∀ N:Nat,FnOk l.prog w K mg base CX0 (2 + N) f41 d41 ["deeds","tree"] (yW N K):=by
    intro N
    induction N with
    | zero=>exact sd qT
    | succ N ih=>exact ZU (P:=l.prog) (w:=w) (base:=base) (n:=2 + N) h41.2 B (C3.mono (Nat.le_trans (show 2 <= 2 by decide) (Nat.le_add_right 2 N))) ⟨_,_,ih,b41,h41.2.kp,PySem.W.mg_of X G h41.1⟩ (C12.mono (Nat.le_trans (show 1 <= 2 by decide) (Nat.le_add_right 2 N)))
  have C41:zf l.prog w K mg base 43 "deed_of" ["deeds","tree"] (yW 41 K):=⟨_,_,R41 41,b41,h41.2.kp,PySem.W.mg_of X G h41.1⟩
  have C42:zf l.prog w K mg base 4 _ _ _:=h42.cl X G (ZV h42.2 B   (C12.mono (by decide)) (C38.mono (by decide))   ) (h42.2.binds fun _ _ _ _ _ _ us hl=>by obtain ⟨_,_,rfl⟩:=zR hl; rfl)
  have C43:zf l.prog w K mg base 5 _ _ _:=h43.cl X G (qC h43.2 B   (C42.mono (by decide))   ) (h43.2.binds fun _ _ _ _ _ _ us hl=>by obtain ⟨_,_,rfl⟩:=zR hl; rfl)
  have C44:zf l.prog w K mg base 4 _ _ _:=h44.cl X G (sN h44.2 B   (C21.mono (by decide))  (PySem.W.mg_of X G ga_MOST_DEEDS) ) (h44.2.binds fun _ _ _ _ _ _ us hl=>by obtain ⟨_,rfl⟩:=ym hl; rfl)
  have C45:zf l.prog w K mg base 44 _ _ _:=h45.cl X G (XM h45.2 B   (C41.mono (by decide)) (C43.mono (by decide)) (C44.mono (by decide))   ) (h45.2.binds fun _ _ _ _ _ _ us hl=>by obtain ⟨_,_,rfl⟩:=zR hl; rfl)
  have R46:∀ N:Nat,FnOk l.prog w K mg base CX0 (2 + N) f46 d46 ["deeds","tree","value","values"] (wn N K):=by
    intro N
    induction N with
    | zero=>exact sd YC
    | succ N ih=>exact Wx (P:=l.prog) (w:=w) (base:=base) (n:=2 + N) h46.2 B (C3.mono (Nat.le_trans (show 2 <= 2 by decide) (Nat.le_add_right 2 N))) ⟨_,_,ih,b46,h46.2.kp,PySem.W.mg_of X G h46.1⟩ (C2.mono (Nat.le_trans (show 1 <= 2 by decide) (Nat.le_add_right 2 N))) (C12.mono (Nat.le_trans (show 1 <= 2 by decide) (Nat.le_add_right 2 N)))
  have C46:zf l.prog w K mg base 43 "share" ["deeds","tree","value","values"] (wn 41 K):=⟨_,_,R46 41,b46,h46.2.kp,PySem.W.mg_of X G h46.1⟩
  have C47:zf l.prog w K mg base 44 _ _ _:=h47.cl X G (sP h47.2 B   (C46.mono (by decide)) (C43.mono (by decide)) (C44.mono (by decide)) (C30.mono (by decide))   ) (h47.2.binds fun _ _ _ _ _ _ us hl=>by obtain ⟨_,_,_,rfl⟩:=xq hl; rfl)
  have C48:zf l.prog w K mg base 45 _ _ _:=h48.cl X G (uU h48.2 B   (C39.mono (by decide)) (C40.mono (by decide)) (C31.mono (by decide)) (C45.mono (by decide)) (C47.mono (by decide))   ) (h48.2.binds fun _ _ _ _ _ _ us hl=>by obtain ⟨_,_,_,_,rfl⟩:=xT hl; rfl)
  have C49:zf l.prog w K mg base 1 _ _ _:=h49.cl X G (vV h49.2 B      ) (h49.2.binds fun _ _ _ _ _ _ us hl=>by obtain ⟨_,_,_,rfl⟩:=xq hl; rfl)
  have C50:zf l.prog w K mg base 4 _ _ _:=h50.cl X G (qE h50.2 B   (C19.mono (by decide))   ) (h50.2.binds fun _ _ _ _ _ _ us hl=>by obtain ⟨_,_,rfl⟩:=zR hl; rfl)
  have C51:zf l.prog w K mg base 6 _ _ _:=h51.cl X G (sQ h51.2 B   (C9.mono (by decide)) (C18.mono (by decide)) (C50.mono (by decide)) (C16.mono (by decide))   ) (h51.2.binds fun _ _ _ _ _ _ us hl=>by obtain ⟨_,_,_,rfl⟩:=xq hl; rfl)
  have C52:zf l.prog w K mg base 4 _ _ _:=h52.cl X G (uV h52.2 B   (C2.mono (by decide)) (C9.mono (by decide)) (C4.mono (by decide)) (C7.mono (by decide)) (C8.mono (by decide))   ) (h52.2.binds fun _ _ _ _ _ _ us hl=>by obtain ⟨_,_,_,_,_,_,rfl⟩:=VU hl; rfl)
  have C53:zf l.prog w K mg base 8 _ _ _:=h53.cl X G (qF h53.2 B   (C52.mono (by decide)) (C2.mono (by decide)) (C11.mono (by decide)) (C18.mono (by decide)) (C27.mono (by decide))   ) (h53.2.binds fun _ _ _ _ _ _ us hl=>by obtain ⟨_,_,_,_,rfl⟩:=xT hl; rfl)
  have C54:zf l.prog w K mg base 1 _ _ _:=h54.cl X G (qG h54.2 B      ) (h54.2.binds fun _ _ _ _ _ _ us hl=>by obtain ⟨_,_,rfl⟩:=zR hl; rfl)
  have C55:zf l.prog w K mg base 2 _ _ _:=h55.cl X G (uW h55.2 B   (C54.mono (by decide))   ) (h55.2.binds fun _ _ _ _ _ _ us hl=>by obtain ⟨_,rfl⟩:=ym hl; rfl)
  have C56:zf l.prog w K mg base 3 _ _ _:=h56.cl X G (qH h56.2 B   (C55.mono (by decide)) (C54.mono (by decide))   ) (h56.2.binds fun _ _ _ _ _ _ us hl=>by obtain ⟨_,rfl⟩:=ym hl; rfl)
  have C57:zf l.prog w K mg base 4 _ _ _:=h57.cl X G (qI h57.2 B   (C54.mono (by decide)) (C56.mono (by decide))   ) (h57.2.binds fun _ _ _ _ _ _ us hl=>by obtain ⟨_,_,_,rfl⟩:=xq hl; rfl)
  have C58:zf l.prog w K mg base 3 _ _ _:=h58.cl X G (sS h58.2 B   (C54.mono (by decide)) (C55.mono (by decide))   ) (h58.2.binds fun _ _ _ _ _ _ us hl=>by obtain ⟨_,rfl⟩:=ym hl; rfl)
  have C59:zf l.prog w K mg base 46 _ _ _:=h59.cl X G (sT h59.2 B   (C28.mono (by decide)) (C36.mono (by decide)) (C34.mono (by decide)) (C48.mono (by decide)) (C49.mono (by decide)) (C51.mono (by decide)) (C53.mono (by decide)) (C57.mono (by decide)) (C58.mono (by decide)) (C54.mono (by decide)) (PySem.W.mg_none_of X G ga_zip)  ) (h59.2.binds fun _ _ _ _ _ _ us hl=>by obtain ⟨_,rfl⟩:=ym hl; rfl)
  have C60:zf l.prog w K mg base 1 _ _ _:=h60.cl X G (jA h60.2 B      ) (h60.2.binds fun _ _ _ _ _ _ us hl=>by obtain ⟨_,_,rfl⟩:=zR hl; rfl)
  exact U4 (P:=l.prog) (w:=w) (base:=base) (n:=46) h61.2 B   (C59.mono (by decide)) (C60.mono (by decide))
theorem walk {l:PySem.W.OpenLaw} {q:Program} {loose:List Str} {XP:(Str -> Option Value) -> Heap -> Prop} {YP:World -> Heap -> Prop} {d:DefRec} {K:Params -> FG7} (hn:l.most = some 63) (hdf:d.params.defaults = [])
  (hY:∀ (w:World) (h:Heap),YP w h -> (K w.params).In h)
  (F:∀ (w:World) (mg:Str -> Option Value) (fa:Addr) (h:Heap),(K w.params).In h -> h.Ns mainGlobals mg -> mg d.name = some (.ref fa) →
   ∃ fd:FuncData,(∀ (s:Shared) (u:Value),BindsTo s fd ⟨[u],[]⟩ [("_law_script",u)]) /\ ∀ base:Heap,(K w.params).In base -> base.Ns mainGlobals mg -> FnOk l.prog w (K w.params) mg base CX0 47 fa fd ["_law_script"] (jI (K w.params))) :
  PySem.W.WalkO q loose XP YP l.row.toRowW d [] (fun f vs=>PySem.call f vs) :=
 L2.walk_of (n:=63) (k:=47) (x:="_law_script") (CX:=fun _=>CX0) (sp:=fun w=>jI (K w.params)) hn (by decide) hdf ⟨rfl,by decide,by decide,rfl⟩ hY F (fun _ _ a ns hl hO hS=>⟨_,rfl,a,ns,rfl,Scr.of hO hS,hl,fun _=>rfl⟩) fun _ _ _ _ _ z=>z
theorem walkX {q:Program} {loose:List Str} {XP:(Str -> Option Value) -> Heap -> Prop} {K:Params -> FG7} {as:List Addr} {n t:Nat} {r:PySem.W.RowW} {d:DefRec} {kwd:List (Str × Expr)} {run:Value -> List Value -> Sem Value}
  (e:∀ P,as = (K P).map (·.1)) (W:PySem.W.WalkO q loose XP (PySem.W.InK K) r d kwd run):PySem.W.WalkX q loose XP (PySem.W.X.obsZ as) (PySem.W.X.valZ K n t) r d kwd run :=
 fun w s₀ s₁ mg mb G Y a o pm cd doc dV kV h2 h3 h4 h5 h6 h7 args vals as' L hpre hlay hrd hwl hlo =>
  W w s₀ s₁ mg mb G (PySem.W.InK.keeps w s₀.heap s₁.heap (PySem.W.X.z_facts e Y).2.1 L.keeps) a o pm cd doc dV kV h2 h3 h4 h5 h6 h7 args vals as' hpre hlay hrd hwl hlo
end My
open PySem PySem.W PyProof.Rows
def PySem.W.Fast.tw15129239556221033748:Unit:=()
def PySem.W.Fast.tw14306010367403550539:Unit:=()
def PySem.W.Fast.tw10263079280559144642:Unit:=()
def PySem.W.Fast.tw4466725609046976796:Unit:=()
def PySem.W.Fast.tw15040765962773720144:Unit:=()
def PySem.W.Fast.tw14808320025439205966:Unit:=()
def PySem.W.Fast.tw16103992619711405068:Unit:=()
def PySem.W.Fast.tw753068286748503400:Unit:=()
def PySem.W.Fast.tw8395416597205505897:Unit:=()
def PySem.W.Fast.tw9214499936176961475:Unit:=()
def PySem.W.Fast.tw863613000401818595:Unit:=()
def PySem.W.Fast.tw10842657524295865732:Unit:=()
def PySem.W.Fast.tw3586140945501462888:Unit:=()
def PySem.W.Fast.tw17535179792154569327:Unit:=()
def PySem.W.Fast.tw11711774398991594277:Unit:=()
def PySem.W.Fast.tw8363815332603812243:Unit:=()
def PySem.W.Fast.tw3092524936699301693:Unit:=()
def PySem.W.Fast.tw15396202587059731739:Unit:=()
def PySem.W.Fast.tw16989242264129435915:Unit:=()
def PySem.W.Fast.tw6733444120584762346:Unit:=()
def PySem.W.Fast.tw8355041429312110828:Unit:=()
def PySem.W.Fast.tw14186432872231604981:Unit:=()
def PySem.W.Fast.tw5856765895354603726:Unit:=()
def PySem.W.Fast.tw5654431888904389424:Unit:=()
def PySem.W.Fast.tw15386593421120539084:Unit:=()
def PySem.W.Fast.tw9619674480492930611:Unit:=()
def PySem.W.Fast.tw13059727593235156010:Unit:=()
def PySem.W.Fast.tw16435501891597395280:Unit:=()
def PySem.W.Fast.tw10146952984620656624:Unit:=()
def PySem.W.Fast.tw4639042962135388132:Unit:=()
def PySem.W.Fast.tw8160713016729987128:Unit:=()
def PySem.W.Fast.tw14672567950113692379:Unit:=()
def PySem.W.Fast.tw14985483601266243285:Unit:=()
def PySem.W.Fast.tw13967062892896751000:Unit:=()
def PySem.W.Fast.tw7458014684707842602:Unit:=()
def PySem.W.Fast.tw11048011374417620482:Unit:=()
def PySem.W.Fast.tw10826866427986849373:Unit:=()
def PySem.W.Fast.tw14229293869641102495:Unit:=()
def PySem.W.Fast.tw6255305301904714786:Unit:=()
def PySem.W.Fast.tw14780460096602924990:Unit:=()
def PySem.W.Fast.tw10632546997554896969:Unit:=()
def PySem.W.Fast.tw2359002591748671066:Unit:=()
def PySem.W.Fast.tw7337379002089039855:Unit:=()
def PySem.W.Fast.tw15942317119423294006:Unit:=()
def PySem.W.Fast.tw15122089749548283730:Unit:=()
def PySem.W.Fast.tw16954274256395067356:Unit:=()
def PySem.W.Fast.tw9369639841373973993:Unit:=()
def PySem.W.Fast.tw382013264385422841:Unit:=()
def PySem.W.Fast.tw16543506252337990048:Unit:=()
def PySem.W.Fast.tw3980561745506311479:Unit:=()
def PySem.W.Fast.tw10040380657053477591:Unit:=()
def PySem.W.Fast.tw1215482459467273219:Unit:=()
def PySem.W.Fast.tw2063566666411675786:Unit:=()
def PySem.W.Fast.tw7671255350591032962:Unit:=()
def PySem.W.Fast.tw16288160527545740192:Unit:=()
def PySem.W.Fast.tw13892219280957538515:Unit:=()
def PySem.W.Fast.tw14701240309935662332:Unit:=()
def PySem.W.Fast.tw2252075436099238963:Unit:=()
def PySem.W.Fast.tw12422223372529154750:Unit:=()
def PySem.W.Fast.tw9754462300914432883:Unit:=()
def PySem.W.Fast.tw6647552151773045813:Unit:=()
def PySem.W.Fast.tw15013134938787131404:Unit:=()
def PySem.W.Fast.tw17730425475433017789:Unit:=()
def PySem.W.Fast.tw18326746270187777839:Unit:=()
def PySem.W.Fast.tw12556646406879313461:Unit:=()
def PySem.W.Fast.tw960191420254496844:Unit:=()
def PySem.W.Fast.tw10423734194821081734:Unit:=()
def PySem.W.Fast.tw3803991210335331442:Unit:=()
def PySem.W.Fast.tw12771795636389082804:Unit:=()
def PySem.W.Fast.tw2484454746857770073:Unit:=()
def PySem.W.Fast.tw13951771437563842188:Unit:=()
def PySem.W.Fast.tw994939843964557715:Unit:=()
def PySem.W.Fast.tw5305167528281272900:Unit:=()
def PySem.W.Fast.tw15883427760491716890:Unit:=()
def PySem.W.Fast.tw18128305726089081500:Unit:=()
def PySem.W.Fast.tw3402017914140322232:Unit:=()
def PySem.W.Fast.tw9374010495770730704:Unit:=()
def PySem.W.Fast.tw6722600643657593738:Unit:=()
def PySem.W.Fast.tw15764401117738253351:Unit:=()
def PySem.W.Fast.tw15780376689636439726:Unit:=()
def PySem.W.Fast.tw5530242132652647016:Unit:=()
def PySem.W.Fast.tw11854136581206156895:Unit:=()
def PySem.W.Fast.tw14446602204458356284:Unit:=()
def PySem.W.Fast.tw257526613968600433:Unit:=()
def PySem.W.Fast.tw3920642637727926759:Unit:=()
def PySem.W.Fast.tw4287682452176866493:Unit:=()
def PySem.W.Fast.tw7708057423730960463:Unit:=()
def PySem.W.Fast.tw1749370631003084430:Unit:=()
def PySem.W.Fast.tw13140135244286533014:Unit:=()
def PySem.W.Fast.tw7470609270566740167:Unit:=()
def PySem.W.Fast.tw10449326362847880195:Unit:=()
def PySem.W.Fast.tw4861609011356610566:Unit:=()
def PySem.W.Fast.tw5470648832873956210:Unit:=()
def PySem.W.Fast.tw12807598415630504012:Unit:=()
def PySem.W.Fast.tw11197218708290226030:Unit:=()
def PySem.W.Fast.tw2632694083670468561:Unit:=()
def PySem.W.Fast.tw17431382876110165320:Unit:=()
def PySem.W.Fast.tw4048786699765072720:Unit:=()
def PySem.W.Fast.tw12352982520275896687:Unit:=()
def PySem.W.Fast.tw18371481140971533498:Unit:=()
def PySem.W.Fast.tw3869148901728672236:Unit:=()
def PySem.W.Fast.tw10263823720251665072:Unit:=()
def PySem.W.Fast.tw16388289497450331133:Unit:=()
def PySem.W.Fast.tw15703136075784278295:Unit:=()
def PySem.W.Fast.tw16694428560540232546:Unit:=()
def PySem.W.Fast.tw9306755381136761211:Unit:=()
def PySem.W.Fast.tw6863903734262976536:Unit:=()
def PySem.W.Fast.tw774123587320801663:Unit:=()
def PySem.W.Fast.tw6860990700484892062:Unit:=()
def PySem.W.Fast.tw17834265903256928709:Unit:=()
def PySem.W.Fast.tw6299627664717750026:Unit:=()
def PySem.W.Fast.tw10703231562332250368:Unit:=()
def PySem.W.Fast.tw1944255243635847308:Unit:=()
def PySem.W.Fast.tw8539933499586812779:Unit:=()
def PySem.W.Fast.tw3591137998645279261:Unit:=()
def PySem.W.Fast.tw8481689283632168528:Unit:=()
def PySem.W.Fast.tw17742787252009494739:Unit:=()
def PySem.W.Fast.tw253053388164362014:Unit:=()
def PySem.W.Fast.tw9180790872675925798:Unit:=()
def PySem.W.Fast.tw6416202908293954783:Unit:=()
def PySem.W.Fast.tw13916251676939803896:Unit:=()
def PySem.W.Fast.tw13812990107009158660:Unit:=()
def PySem.W.Fast.tw9775522120062082855:Unit:=()
def PySem.W.Fast.tw2580591334644392559:Unit:=()
def PySem.W.Fast.tw17102997794821608884:Unit:=()
def PySem.W.Fast.tw17615527482124145992:Unit:=()
def PySem.W.Fast.tw4377799499504091643:Unit:=()
def PySem.W.Fast.tw16358541515310510990:Unit:=()
def PySem.W.Fast.tw13184151385023115386:Unit:=()
def PySem.W.Fast.tw3781603190251168970:Unit:=()
def PySem.W.Fast.tw909541679737922997:Unit:=()
def PySem.W.Fast.tw15678124314931978749:Unit:=()
def PySem.W.Fast.tw10595438118448974740:Unit:=()
def PySem.W.Fast.tw15563098565025756676:Unit:=()
def PySem.W.Fast.tw4852508670952845576:Unit:=()
def PySem.W.Fast.tw5708728761953293523:Unit:=()
def PySem.W.Fast.tw14409180150690283675:Unit:=()
def PySem.W.Fast.tw3702752267620716139:Unit:=()
def PySem.W.Fast.tw14378609944478760881:Unit:=()
def PySem.W.Fast.tw4907321570230633999:Unit:=()
def PySem.W.Fast.tw4508523349897074170:Unit:=()
def PySem.W.Fast.tw2614104954040654265:Unit:=()
def PySem.W.Fast.tw5319884953097174393:Unit:=()
def PySem.W.Fast.tw2745133408502493711:Unit:=()
def PySem.W.Fast.tw10882941366003200325:Unit:=()
def PySem.W.Fast.tw17009467854932013710:Unit:=()
def PySem.W.Fast.tw17306194715265848007:Unit:=()
def PySem.W.Fast.tw4660686176187780259:Unit:=()
def PySem.W.Fast.tw3463180636825991851:Unit:=()
def PySem.W.Fast.tw9045243279074093625:Unit:=()
def PySem.W.Fast.tw17717474118573643922:Unit:=()
def PySem.W.Fast.tw1596884022341268126:Unit:=()
def PySem.W.Fast.tw4267646854768433158:Unit:=()
def PySem.W.Fast.tw2125321762791649202:Unit:=()
def PySem.W.Fast.tw8379719357137665589:Unit:=()
def PySem.W.Fast.tw13463504331108826198:Unit:=()
def PySem.W.Fast.tw14157300714081182067:Unit:=()
def PySem.W.Fast.tw12434233080281439391:Unit:=()
def PySem.W.Fast.tw9557091777885271677:Unit:=()
def PySem.W.Fast.tw11198428101273815916:Unit:=()
def PySem.W.Fast.tw3880757156925161337:Unit:=()
def PySem.W.Fast.tw6236766529898699113:Unit:=()
def PySem.W.Fast.tw10605097334259646747:Unit:=()
def PySem.W.Fast.tw17066569387428939728:Unit:=()
def PySem.W.Fast.tw633229030170513404:Unit:=()
def PySem.W.Fast.tw11442247037718765371:Unit:=()
def PySem.W.Fast.tw1467242371552801953:Unit:=()
def PySem.W.Fast.tw4438751696482790603:Unit:=()
def PySem.W.Fast.tw12725234407749432957:Unit:=()
def PySem.W.Fast.tw11321765237286241165:Unit:=()
def PySem.W.Fast.tw7844951278120645455:Unit:=()
def PySem.W.Fast.tw16811033863134644487:Unit:=()
def PySem.W.Fast.tw13984498734125127290:Unit:=()
def PySem.W.Fast.tw2797763581824850014:Unit:=()
def PySem.W.Fast.tw3007613551568265314:Unit:=()
def PySem.W.Fast.tw16338468805126435803:Unit:=()
def PySem.W.Fast.tw11168650353418352854:Unit:=()
def PySem.W.Fast.tw4023697710251632609:Unit:=()
def PySem.W.Fast.tw3478964010237313064:Unit:=()
def PySem.W.Fast.tw16955233435816716353:Unit:=()
def PySem.W.Fast.tw4305611810131744548:Unit:=()
def PySem.W.Fast.tw538431546388736178:Unit:=()
def PySem.W.Fast.tw2401596589936026072:Unit:=()
def PySem.W.Fast.tw2791451274102375989:Unit:=()
def PySem.W.Fast.tw2866790562125437241:Unit:=()
def PySem.W.Fast.tw2394685980227038900:Unit:=()
def PySem.W.Fast.tw97697326887223537:Unit:=()
def PySem.W.Fast.tw17230671421341822697:Unit:=()
def PySem.W.Fast.tw12335481330768211512:Unit:=()
def PySem.W.Fast.tw8005241791526758975:Unit:=()
def PySem.W.Fast.tw9356534539513092660:Unit:=()
def PySem.W.Fast.tw2254080021775942282:Unit:=()
def PySem.W.Fast.tw3760093500984040257:Unit:=()
def PySem.W.Fast.tw2444727979535820846:Unit:=()
def PySem.W.Fast.tw2537086727608503725:Unit:=()
def PySem.W.Fast.tw6853313775878887491:Unit:=()
def PySem.W.Fast.tw12034759868017833499:Unit:=()
def PySem.W.Fast.tw16041855217480889998:Unit:=()
def PySem.W.Fast.tw11559954495848298164:Unit:=()
def PySem.W.Fast.tw15638147519622183271:Unit:=()
def PySem.W.Fast.tw13268233044045053204:Unit:=()
def PySem.W.Fast.tw16678395076319956501:Unit:=()
def PySem.W.Fast.tw6213999749165360677:Unit:=()
def PySem.W.Fast.tw14010041733818794193:Unit:=()
def PySem.W.Fast.tw4364344202365371876:Unit:=()
def PySem.W.Fast.tw4110819650725824983:Unit:=()
def PySem.W.Fast.tw8860206600225961137:Unit:=()
def PySem.W.Fast.tw18011766865497204332:Unit:=()
def PySem.W.Fast.tw6325979144049439618:Unit:=()
def PySem.W.Fast.tw5815627228588633590:Unit:=()
def PySem.W.Fast.tw12698547726238308446:Unit:=()
def PySem.W.Fast.tw9109277485266600988:Unit:=()
def PySem.W.Fast.tw15004923134028221290:Unit:=()
def PySem.W.Fast.tw349372885604420442:Unit:=()
def PySem.W.Fast.tw13587061018992393639:Unit:=()
def PySem.W.Fast.tw18017633312214200872:Unit:=()
def PySem.W.Fast.tw17083354845916833831:Unit:=()
def PySem.W.Fast.tw16746592983265777316:Unit:=()
def PySem.W.Fast.tw8391228572859035309:Unit:=()
def PySem.W.Fast.tw6600867235341211159:Unit:=()
def PySem.W.Fast.tw1491712964060975443:Unit:=()
def PySem.W.Fast.tw12970128210309539383:Unit:=()
def PySem.W.Fast.tw11784630107440382476:Unit:=()
def PySem.W.Fast.tw6760924991704050712:Unit:=()
def PySem.W.Fast.tw12449477515499996111:Unit:=()
def PySem.W.Fast.tw11178336242103802878:Unit:=()
def PySem.W.Fast.tw11875680470567815486:Unit:=()
def PySem.W.Fast.tw13113920582930007368:Unit:=()
def PySem.W.Fast.tw10727166071977213796:Unit:=()
def PySem.W.Fast.tw1373032407238223526:Unit:=()
def PySem.W.Fast.tw4128618626192353278:Unit:=()
def PySem.W.Fast.tw13887272106865984861:Unit:=()
def PySem.W.Fast.tw823121194054668825:Unit:=()
def PySem.W.Fast.tw7199859405648331422:Unit:=()
def PySem.W.Fast.tw4281568642851928730:Unit:=()
def PySem.W.Fast.tw5515254153788331647:Unit:=()
def PySem.W.Fast.tw6384734177862101840:Unit:=()
def PySem.W.Fast.tw2367307576892380171:Unit:=()
def PySem.W.Fast.tw5105707480180990565:Unit:=()
def PySem.W.Fast.tw6957787966684641449:Unit:=()
def PySem.W.Fast.tw8686237786841758611:Unit:=()
def PySem.W.Fast.tw10738637299010988097:Unit:=()
def PySem.W.Fast.tw1164641954299095942:Unit:=()
set_option maxRecDepth 100000 in
theorem PySem.Challenge.cw_joinedasks_k97_whole_rounds_shared_out_holds : PySem.Challenge.rw_joinedasks_k97_whole_rounds_shared_out.Holds := by
 w_on; o_law; z_head; (case hw=>w_witness2)
 refine My.walkX (fun _=>by kernel_rfl) (My.walk (l:=PySem.Challenge.rw_joinedasks_k97_whole_rounds_shared_out) rfl rfl (fun w h Y=>Y) ?F)
 case F =>
  intro w mg fa h KX G hmg
  refine' My.all_mk KX G hmg       ?h1 ?h2 ?h3 ?h4 ?h5 ?h6 ?h7 ?h8 ?h9 ?h10 ?h11 ?h12 ?h13 ?h14 ?h15 ?h16 ?h17 ?h18 ?h19 ?h20 ?h21 ?h22 ?h23 ?h24 ?h25 ?h26 ?h27 ?h28 ?h29 ?h30 ?h31 ?h32 ?h33 ?h34 ?h35 ?h36 ?h37 ?h38 ?h39 ?h40 ?h41 ?h42 ?h43 ?h44 ?h45 ?h46 ?h47 ?h48 ?h49 ?h50 ?h51 ?h52 ?h53 ?h54 ?h55 ?h56 ?h57 ?h58 ?h59 ?h60 ?h61 ?ga_DEEPEST ?ga_LAST_HAND ?ga_LOOK ?gl_LOOK ?ga_MOST_BOXES ?ga_MOST_DEEDS ?ga_set ?ga_sorted ?ga_zip ?z_abs ?z_len ?z_max ?z_min ?z_divmod ?z_repr ?z_isinstance ?z_all ?z_range ?z_int ?z_bool ?z_str ?z_tuple ?z_list ?z_dict
  (case h1=>exact ⟨by k_is,L2.fun_mk (by k_is) (by k_is) (by k_is)⟩)
  (case h2=>exact ⟨by k_is,L2.fun_mk (by k_is) (by k_is) (by k_is)⟩)
  (case h3=>exact ⟨by k_is,L2.fun_mk (by k_is) (by k_is) (by k_is)⟩)
  (case h4=>exact ⟨by k_is,L2.fun_mk (by k_is) (by k_is) (by k_is)⟩)
  (case h5=>exact ⟨by k_is,L2.fun_mk (by k_is) (by k_is) (by k_is)⟩)
  (case h6=>exact ⟨by k_is,L2.fun_mk (by k_is) (by k_is) (by k_is)⟩)
  (case h7=>exact ⟨by k_is,L2.fun_mk (by k_is) (by k_is) (by k_is)⟩)
  (case h8=>exact ⟨by k_is,L2.fun_mk (by k_is) (by k_is) (by k_is)⟩)
  (case h9=>exact ⟨by k_is,L2.fun_mk (by k_is) (by k_is) (by k_is)⟩)
  (case h10=>exact ⟨by k_is,L2.fun_mk (by k_is) (by k_is) (by k_is)⟩)
  (case h11=>exact ⟨by k_is,L2.fun_mk (by k_is) (by k_is) (by k_is)⟩)
  (case h12=>exact ⟨by k_is,L2.fun_mk (by k_is) (by k_is) (by k_is)⟩)
  (case h13=>exact ⟨by k_is,L2.fun_mk (by k_is) (by k_is) (by k_is)⟩)
  (case h14=>exact ⟨by k_is,L2.fun_mk (by k_is) (by k_is) (by k_is)⟩)
  (case h15=>exact ⟨by k_is,L2.fun_mk (by k_is) (by k_is) (by k_is)⟩)
  (case h16=>exact ⟨by k_is,L2.fun_mk (by k_is) (by k_is) (by k_is)⟩)
  (case h17=>exact ⟨by k_is,L2.fun_mk (by k_is) (by k_is) (by k_is)⟩)
  (case h18=>exact ⟨by k_is,L2.fun_mk (by k_is) (by k_is) (by k_is)⟩)
  (case h19=>exact ⟨by k_is,L2.fun_mk (by k_is) (by k_is) (by k_is)⟩)
  (case h20=>exact ⟨by k_is,L2.fun_mk (by k_is) (by k_is) (by k_is)⟩)
  (case h21=>exact ⟨by k_is,L2.fun_mk (by k_is) (by k_is) (by k_is)⟩)
  (case h22=>exact ⟨by k_is,L2.fun_mk (by k_is) (by k_is) (by k_is)⟩)
  (case h23=>exact ⟨by k_is,L2.fun_mk (by k_is) (by k_is) (by k_is)⟩)
  (case h24=>exact ⟨by k_is,L2.fun_mk (by k_is) (by k_is) (by k_is)⟩)
  (case h25=>exact ⟨by k_is,L2.fun_mk (by k_is) (by k_is) (by k_is)⟩)
  (case h26=>exact ⟨by k_is,L2.fun_mk (by k_is) (by k_is) (by k_is)⟩)
  (case h27=>exact ⟨by k_is,L2.fun_mk (by k_is) (by k_is) (by k_is)⟩)
  (case h28=>exact ⟨by k_is,L2.fun_mk (by k_is) (by k_is) (by k_is)⟩)
  (case h29=>exact ⟨by k_is,L2.fun_mk (by k_is) (by k_is) (by k_is)⟩)
  (case h30=>exact ⟨by k_is,L2.fun_mk (by k_is) (by k_is) (by k_is)⟩)
  (case h31=>exact ⟨by k_is,L2.fun_mk (by k_is) (by k_is) (by k_is)⟩)
  (case h32=>exact ⟨by k_is,L2.fun_mk (by k_is) (by k_is) (by k_is)⟩)
  (case h33=>exact ⟨by k_is,L2.fun_mk (by k_is) (by k_is) (by k_is)⟩)
  (case h34=>exact ⟨by k_is,L2.fun_mk (by k_is) (by k_is) (by k_is)⟩)
  (case h35=>exact ⟨by k_is,L2.fun_mk (by k_is) (by k_is) (by k_is)⟩)
  (case h36=>exact ⟨by k_is,L2.fun_mk (by k_is) (by k_is) (by k_is)⟩)
  (case h37=>exact ⟨by k_is,L2.fun_mk (by k_is) (by k_is) (by k_is)⟩)
  (case h38=>exact ⟨by k_is,L2.fun_mk (by k_is) (by k_is) (by k_is)⟩)
  (case h39=>exact ⟨by k_is,L2.fun_mk (by k_is) (by k_is) (by k_is)⟩)
  (case h40=>exact ⟨by k_is,L2.fun_mk (by k_is) (by k_is) (by k_is)⟩)
  (case h41=>exact ⟨by k_is,L2.fun_mk (by k_is) (by k_is) (by k_is)⟩)
  (case h42=>exact ⟨by k_is,L2.fun_mk (by k_is) (by k_is) (by k_is)⟩)
  (case h43=>exact ⟨by k_is,L2.fun_mk (by k_is) (by k_is) (by k_is)⟩)
  (case h44=>exact ⟨by k_is,L2.fun_mk (by k_is) (by k_is) (by k_is)⟩)
  (case h45=>exact ⟨by k_is,L2.fun_mk (by k_is) (by k_is) (by k_is)⟩)
  (case h46=>exact ⟨by k_is,L2.fun_mk (by k_is) (by k_is) (by k_is)⟩)
  (case h47=>exact ⟨by k_is,L2.fun_mk (by k_is) (by k_is) (by k_is)⟩)
  (case h48=>exact ⟨by k_is,L2.fun_mk (by k_is) (by k_is) (by k_is)⟩)
  (case h49=>exact ⟨by k_is,L2.fun_mk (by k_is) (by k_is) (by k_is)⟩)
  (case h50=>exact ⟨by k_is,L2.fun_mk (by k_is) (by k_is) (by k_is)⟩)
  (case h51=>exact ⟨by k_is,L2.fun_mk (by k_is) (by k_is) (by k_is)⟩)
  (case h52=>exact ⟨by k_is,L2.fun_mk (by k_is) (by k_is) (by k_is)⟩)
  (case h53=>exact ⟨by k_is,L2.fun_mk (by k_is) (by k_is) (by k_is)⟩)
  (case h54=>exact ⟨by k_is,L2.fun_mk (by k_is) (by k_is) (by k_is)⟩)
  (case h55=>exact ⟨by k_is,L2.fun_mk (by k_is) (by k_is) (by k_is)⟩)
  (case h56=>exact ⟨by k_is,L2.fun_mk (by k_is) (by k_is) (by k_is)⟩)
  (case h57=>exact ⟨by k_is,L2.fun_mk (by k_is) (by k_is) (by k_is)⟩)
  (case h58=>exact ⟨by k_is,L2.fun_mk (by k_is) (by k_is) (by k_is)⟩)
  (case h59=>exact ⟨by k_is,L2.fun_mk (by k_is) (by k_is) (by k_is)⟩)
  (case h60=>exact ⟨by k_is,L2.fun_mk (by k_is) (by k_is) (by k_is)⟩)
  (case h61=>exact ⟨by k_is,L2.fun_mk (by k_is) (by k_is) (by k_is)⟩)
  (case ga_DEEPEST=>k_is)
  (case ga_LAST_HAND=>k_is)
  (case ga_LOOK=>k_is); (case gl_LOOK=>k_is)
  (case ga_MOST_BOXES=>k_is)
  (case ga_MOST_DEEDS=>k_is)
  (case ga_set=>k_is)
  (case ga_sorted=>k_is)
  (case ga_zip=>k_is)
  (case z_abs=>k_is); (case z_len=>k_is); (case z_max=>k_is); (case z_min=>k_is); (case z_divmod=>k_is); (case z_repr=>k_is); (case z_isinstance=>k_is); (case z_all=>k_is); (case z_range=>k_is); (case z_int=>k_is); (case z_bool=>k_is); (case z_str=>k_is); (case z_tuple=>k_is); (case z_list=>k_is); (case z_dict=>k_is)
