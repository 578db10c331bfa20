import PyProof.Rows.All
import Wide.All
import OpenK.AllK
import Wide.FinOn
import Lean
import PyProof.EqAt
import PyProof.EqKinds
import PyProof.TupleCall
import PyProof.NeKinds
import PyProof.Rows.All
import Wide.All
import OpenK.AllK
import Wide.FinOn
import PyProof.EqAt
import PyProof.EqKinds
import PyProof.TupleCall
import PyProof.NeKinds
import PyProof.ReprRoads
import PyProof.ReprLen
import PyProof.Rows.RegStrFacts
import PyProof.Draws
import PyProof.EnumStmt
import PyProof.ZipIter
import PyProof.ListNew
import PyProof.TupleOfGen
import PyProof.ListRange
import PyProof.Rows.Range3
import PyProof.SumWalkG
import PyProof.AutoSeq1
import PyProof.Cells
import PyProof.AutoListH
import PyProof.ExcBaseAll.ValueError
import PyProof.ExcAttrAll.ValueError
import PyProof.RulesAs
import PyProof.NsDelKeeps
import KE.KDictList
import PyProof.DictCompW
import KE.KSortTup
import PyProof.DictWalks
import PyProof.TupleKey
import PyProof.DictRoadsH
import PyProof.DictKinds
import PyProof.Rows.SetFrom
import PyProof.SetRoads
import PyProof.DictItems
import PyProof.DictTable
import PyProof.IsiH_list
import PyProof.AttrMiss
import KE.KDictOf
import PySem.Challenge.RW_joinedasks_k61_whole_families
set_option Elab.async false
set_option linter.all false
set_option maxRecDepth 100000
set_option maxHeartbeats 0
abbrev Tl:=PySem.W.Frag
abbrev Tn:=PySem.Value->PySem.Shared->Prop
namespace L2
open PySem PySem.Spec PyProof.Rows
abbrev To:=Sum Int Str
def qE:To->Value->Bool
 | .inl k,v=>Value.isInt k v
 | .inr x,v=>Value.isStrOf x v
def UT (w:World):To->Int
 | .inl k=>hashInt k
 | .inr x=>hashStr w x
theorem zN:∀ {k:To} {v:Value},qE k v=true->(∃ i t,k=Sum.inl i /\ v=Value.int i t) \/ (∃ x t,k=Sum.inr x /\ v=Value.str x t)
 | .inl i,v,h=>by
  obtain ⟨t,e⟩:=Value.isInt_shape (k:=i) (v:=v) h
  exact .inl ⟨i,t,rfl,e⟩
 | .inr x,v,h=>by
  obtain ⟨t,e⟩:=Value.isStrOf_shape (x:=x) (v:=v) h
  exact .inr ⟨x,t,rfl,e⟩
theorem jC (i:Int) (t:Tok):qE (.inl i) (.int i t)=true:=by simp [qE,Value.isInt]
theorem jD (x:Str) (t:Tok):qE (.inr x) (.str x t)=true:=by simp [qE,Value.isStrOf]
theorem WN (a b:Int):decide ((Sum.inl a:To)=Sum.inl b)=(a == b):=by
 by_cases e:a=b
 ·subst e; simp
 ·have h:¬ (Sum.inl a:To)=Sum.inl b:=fun q=>e (Sum.inl.inj q)
  rw [decide_eq_false h]
  exact (beq_eq_false_iff_ne.mpr e).symm
theorem WO (a b:Str):decide ((Sum.inr a:To)=Sum.inr b)=decide (a=b):=by
 by_cases e:a=b
 ·subst e; simp
 ·have h:¬ (Sum.inr a:To)=Sum.inr b:=fun q=>e (Sum.inr.inj q)
  rw [decide_eq_false h,decide_eq_false e]
theorem WP (a:Int) (b:Str):decide ((Sum.inl a:To)=Sum.inr b)=false:=decide_eq_false (fun q=>nomatch q)
theorem WQ (a:Str) (b:Int):decide ((Sum.inr a:To)=Sum.inl b)=false:=decide_eq_false (fun q=>nomatch q)
def zB (prog:Program) (w:World):PySem.KeyKind prog w To where
 is:=qE
 hash:=UT w
 inj:=fun v a b ha hb=>by
  rcases zN ha with ⟨i,t,rfl,rfl⟩ | ⟨x,t,rfl,rfl⟩
  ·rcases zN hb with ⟨j,u,rfl,e⟩ | ⟨y,u,rfl,e⟩
   ·injection e with e1 _; rw [e1]
   ·exact nomatch e
  ·rcases zN hb with ⟨j,u,rfl,e⟩ | ⟨y,u,rfl,e⟩
   ·exact nomatch e
   ·injection e with e1 _; rw [e1]
 byValue:=fun k v h=>by
  rcases zN h with ⟨i,t,rfl,rfl⟩ | ⟨x,t,rfl,rfl⟩ <;> rfl
 pyHash:=fun hv h=>by
  rcases zN hv with ⟨i,t,rfl,rfl⟩ | ⟨x,t,rfl,rfl⟩
  ·exact wpAny_pyHash_int h
  ·exact wpAny_pyHash_str h
 eqBool:=fun hu hv h=>by
  rcases zN hu with ⟨i,t,rfl,rfl⟩ | ⟨x,t,rfl,rfl⟩
  ·rcases zN hv with ⟨j,u,rfl,rfl⟩ | ⟨y,u,rfl,rfl⟩
   ·rw [WN] at h; exact wpAny_eqBool_int h
   ·rw [WP] at h; exact SeqAt.EqAt.int_str i t y u _ _ _ _ h
  ·rcases zN hv with ⟨j,u,rfl,rfl⟩ | ⟨y,u,rfl,rfl⟩
   ·rw [WQ] at h; exact SeqAt.EqAt.str_int x t j u _ _ _ _ h
   ·rw [WO] at h; exact wpAny_eqBool_str h
 «strs»:=fun k x t v h=>by
  rcases zN h with ⟨i,u,rfl,e⟩ | ⟨y,u,rfl,e⟩
  ·exact nomatch e
  ·injection e with e1 _
   subst e1
   cases v <;> rfl
theorem sd (prog:Program) (w:World) (i:Int) (t:Tok):(zB prog w).is (.inl i) (.int i t)=true:=jC i t
theorem sf (prog:Program) (w:World) (x:Str) (t:Tok):(zB prog w).is (.inr x) (.str x t)=true:=jD x t
end L2
namespace L2
open PySem PySem.Spec PyProof.Rows
inductive V where
 | non | bl (b:Bool) | int (i:Int) | str (x:Str) | byt (b:Array UInt8) | flt (b:UInt64) | ref (a:Addr) | ty (n:String)
 deriving DecidableEq
def zJ:V->Value->Prop
 | .non,u=>u=Value.none
 | .bl b,u=>u=Value.bool b
 | .int i,u=>∃ t,u=Value.int i t
 | .str x,u=>∃ t,u=Value.str x t
 | .byt b,u=>∃ t,u=Value.bytes b t
 | .flt b,u=>∃ t,u=Value.float b t
 | .ref a,u=>u=Value.ref a
 | .ty n,u=>u=Value.type n
abbrev zC:List V->List Value->Prop:=Paired zJ
theorem zC.length {xs:List V} {us:List Value} (r:zC xs us):xs.length=us.length:=Paired.length r
theorem zC.get:∀ {xs:List V} {us:List Value} {i:Nat} {x:V},zC xs us->xs[i]? = some x -> ∃ u,us[i]? = some u /\ zJ x u
 | _,_,_,_,.nil,e=>by simp at e
 | _,_,0,_,.cons r _,e=>by simp at e; subst e; exact ⟨_,rfl,r⟩
 | _,_,i+1,x,.cons _ t,e=>by
  obtain ⟨u,h1,h2⟩:=zC.get (i:=i) (x:=x) t (by simpa using e)
  exact ⟨u,by simpa using h1,h2⟩
theorem zC.set {x:V} {u:Value} (r:zJ x u):∀ {xs:List V} {us:List Value} (i:Nat),zC xs us->zC (xs.set i x) (us.set i u)
 | _,_,_,.nil=>.nil
 | _,_,0,.cons _ t=>.cons r t
 | _,_,i+1,.cons q t=>.cons q (zC.set r i t)
theorem zC.append:∀ {xs ys:List V} {us ws:List Value},zC xs us->zC ys ws->zC (xs ++ ys) (us ++ ws)
 | _,_,_,_,.nil,s=>s
 | _,_,_,_,.cons r t,s=>.cons r (zC.append t s)
theorem zC.take:∀ {xs:List V} {us:List Value} (n:Nat),zC xs us->zC (xs.take n) (us.take n)
 | _,_,0,_=>.nil
 | _,_,_+1,.nil=>.nil
 | _,_,n+1,.cons r t=>.cons r (zC.take n t)
theorem zC.drop:∀ {xs:List V} {us:List Value} (n:Nat),zC xs us->zC (xs.drop n) (us.drop n)
 | _,_,0,r=>r
 | _,_,_+1,.nil=>.nil
 | _,_,n+1,.cons _ t=>zC.drop n t
def qF:Option V->Option Value->Prop
 | some v,some u=>zJ v u
 | none,none=>True
 | _,_=>False
def KV {κ:Type}:List (κ × V)->List (κ × Value)->Prop:=Paired fun (p:κ × V) (q:κ × Value)=>p.1=q.1 /\ zJ p.2 q.2
def kV:To->V
 | .inl i=>.int i
 | .inr x=>.str x
inductive HO where
 /-- a list -/
 | lst (xs:List V)
 /-- a tuple (never changes) -/
 | tup (xs:List V)
 /-- a dict whose keys are ints and texts; one whose keys are tuples of ints and texts (the empty one is both) -/
 | dK (kvs:List (To × V)) | dT (kvs:List (List To × V))
 /-- a set of ints: its members,its size -/
 | set (S:Int->Bool) (n:Nat)
 /-- an instance of the class at C,its dict at dx,its attributes -/
 | ins (C dx:Addr) (fs:List (Str × V))
 /-- the dict of the instance at x -/
 | own (x:Addr)
 /-- the dict of an exception -/
 | xd (fs:List (Str × V))
 /-- a bound method,f of x -/
 | met (f x:Addr)
 /-- a range object lo,lo+1,.. below hi -/
 | rng (lo hi:Int)
 /-- a thing that is known to the object (the script; a dict while a loop walks it): read,never written while it is so -/
 | frz (o:Obj) (u:HO)
 /-- a code object's table -/
 | tbl (ps:Array Value)
 /-- any other thing,by what is true of its one object (a def of one's own: SetO a S n:=HO.ext fun h=>..) -/
 | ext (φ:Heap->Prop)
abbrev Hp:=Addr->Option HO
def Tp (H:Hp) (a:Addr) (o:HO):Hp:=fun b=>if b=a then some o else H b
theorem zc {H:Hp} {a:Addr} {o:HO}:Tp H a o a=some o:=by unfold Tp; rw [if_pos rfl]
theorem zj {H:Hp} {a b:Addr} {o:HO} (h:b ≠ a):Tp H a o b=H b:=by unfold Tp; rw [if_neg h]
theorem WR {H:Hp} {a b:Addr} {o u:HO} (h:H a=some o) (h':H b=some u) (d:o ≠ u):a ≠ b:=by
 intro e; subst e; rw [h] at h'; exact d (Option.some.inj h')
theorem zk {H:Hp} {a b:Addr} {o:HO} (h:H a=some o) (h':H b=none):a ≠ b:=by
 intro e; subst e; rw [h] at h'; cases h'
section
variable (P:Program) (w:World)
def zL (H:Hp) (h:Heap) (a:Addr):HO->Prop
 | .lst xs=>xs.length<=sizeLine /\ ∃ (its:List Value) (n:Nat),zC xs its /\ h.get? a=some { cls:=.type "list",data:=.seq its.toArray n }
 | .tup xs=>xs.length<=sizeLine /\ ∃ its:List Value,zC xs its /\ IsTup h a its.toArray
 | .dK kvs=>kvs.length<=sizeLine /\ (a == sysModules)=false /\ ∃ vs,KV kvs vs /\ h.DictOf (zB P w) a vs
 | .dT kvs=>kvs.length<=sizeLine /\ (a == sysModules)=false /\ ∃ xs:List (List To × Addr × Value),
   Paired (fun (p:List To × V) (q:List To × Addr × Value)=>p.1=q.1 /\ H q.2.1=some (.tup (p.1.map kV)) /\ zJ p.2 q.2.2) kvs xs ∧
   ∃ o es ep,h.get? a=some o /\ o.ExactDict /\ o.data = .dict es ep /\ es.toList=xs.map (entryOfKey (tupleKind (zB P w))) /\ (xs.map (·.1)).Nodup
 | .set S n=>h.SetOf (intKind P w) a S n
 | .ins C dx fs=>H dx=some (.own a) /\ fs.length<=1000 /\ dx ≠ a /\ h.get? a=some (PySem.W.instObj C dx) ∧
   ∃ mA,h.Ns1 dx mA /\ (∀ f,qF (fs.lookup f) (mA f)) /\ PySem.Within mA (fs.map (·.1))
 | .own _=>∃ o,h.get? a=some o
 | .xd fs=>∃ mA,h.Ns1 a mA /\ ∀ f,qF (fs.lookup f) (mA f)
 | .rng lo hi=>∃ t u v,h.get? a=some { cls:=.type "range",data:=.fields #[.int lo t,.int hi u,.int 1 v] }
 | .frz o u=>h.get? a=some o /\ zL H h a u
 | .tbl ps=>h.get? a=some { cls:=.none,data:=.fields ps }
 | .met f x=>h.get? a=some (PySem.W.methodObj (.ref f) (.ref x))
 | .ext φ=>φ h /\ (∃ o,h.get? a=some o) /\ ∀ h1 h2:Heap,φ h1->(∀ o,h1.get? a=some o->h2.get? a=some o) -> φ h2
def Tq (H:Hp) (h:Heap):Prop:=∀ a o,H a=some o->zL P w H h a o
end
section
variable {P:Program} {w:World} {H H':Hp} {h h':Heap} {a:Addr} {o:HO}
theorem zL.lt (x:zL P w H h a o):a < h.objs.size:=by
 cases o with
 | lst xs=>obtain ⟨_,_,_,_,e⟩:=x; exact Heap.lt_size e
 | tup xs=>obtain ⟨_,_,_,p⟩:=x; exact p.lt
 | dK kvs=>obtain ⟨_,_,_,_,o,_,_,e,_⟩:=x; exact Heap.lt_size e
 | dT kvs=>obtain ⟨_,_,_,_,o,_,_,e,_⟩:=x; exact Heap.lt_size e
 | set S n=>obtain ⟨o,_,_,_,e,_⟩:=x; exact Heap.lt_size e
 | ins C dx fs=>obtain ⟨_,_,_,e,_⟩:=x; exact Heap.lt_size e
 | own y=>obtain ⟨_,e⟩:=x; exact Heap.lt_size e
 | xd fs=>obtain ⟨_,⟨_,_,_,e,_⟩,_⟩:=x; exact Heap.lt_size e
 | rng lo hi=>obtain ⟨_,_,_,e⟩:=x; exact Heap.lt_size e
 | frz ob u=>obtain ⟨e,_⟩:=x; exact Heap.lt_size e
 | tbl ps=>exact Heap.lt_size (show h.get? a=some _ from x)
 | met f y=>exact Heap.lt_size (show h.get? a=some _ from x)
 | ext φ=>obtain ⟨_,⟨_,e⟩,_⟩:=x; exact Heap.lt_size e
theorem Paired.mapP {α β:Type} {F G:α -> β -> Prop}:∀ {l₁:List α} {l₂:List β},Paired F l₁ l₂ -> (∀ a b,F a b->G a b)->Paired G l₁ l₂
 | _,_,.nil,_=>.nil
 | _,_,.cons r t,f=>.cons (f _ _ r) (Paired.mapP t f)
theorem zL.stay (x:zL P w H h a o) (k:∀ b u,(b=a \/ H b=some (.own a))->h.get? b=some u->h'.get? b=some u)
  (ho:∀ b,H b=some (.own a)->H' b=some (.own a)) (ht:∀ b xs,H b=some (.tup xs)->H' b=some (.tup xs)):zL P w H' h' a o:=by
 induction o with
 | lst xs=>obtain ⟨z,its,n,r,e⟩:=x; exact ⟨z,its,n,r,k _ _ (.inl rfl) e⟩
 | tup xs=>obtain ⟨z,its,r,ob,e,c⟩:=x; exact ⟨z,its,r,ob,k _ _ (.inl rfl) e,c⟩
 | dK kvs=>obtain ⟨z,y,vs,r,ob,es,ep,e,c⟩:=x; exact ⟨z,y,vs,r,ob,es,ep,k _ _ (.inl rfl) e,c⟩
 | dT kvs =>
  obtain ⟨z,y,xs,r,ob,es,ep,e,c⟩:=x
  exact ⟨z,y,xs,Paired.mapP r fun p q z=>⟨z.1,ht _ _ z.2.1,z.2.2⟩,ob,es,ep,k _ _ (.inl rfl) e,c⟩
 | set S n=>obtain ⟨ob,es,ep,t,e,c⟩:=x; exact ⟨ob,es,ep,t,k _ _ (.inl rfl) e,c⟩
 | ins C dx fs =>
  obtain ⟨d,z,ne,e,mA,⟨od,es,ep,e2,c⟩,r⟩:=x
  exact ⟨ho _ d,z,ne,k _ _ (.inl rfl) e,mA,⟨od,es,ep,k _ _ (.inr d) e2,c⟩,r⟩
 | own y=>obtain ⟨ob,e⟩:=x; exact ⟨ob,k _ _ (.inl rfl) e⟩
 | xd fs=>obtain ⟨mA,⟨od,es,ep,e,c⟩,r⟩:=x; exact ⟨mA,⟨od,es,ep,k _ _ (.inl rfl) e,c⟩,r⟩
 | rng lo hi=>obtain ⟨t,u,v,e⟩:=x; exact ⟨t,u,v,k _ _ (.inl rfl) e⟩
 | frz ob u ih=>obtain ⟨e,q⟩:=x; exact ⟨k _ _ (.inl rfl) e,ih q⟩
 | tbl ps =>
  have e:h.get? a=some { cls:=.none,data:=.fields ps }:=x
  show h'.get? a=some { cls:=.none,data:=.fields ps }
  exact k a _ (.inl rfl) e
 | met f y =>
  have e:h.get? a=some (PySem.W.methodObj (.ref f) (.ref y)):=x
  show h'.get? a=some (PySem.W.methodObj (.ref f) (.ref y))
  exact k a _ (.inl rfl) e
 | ext φ=>obtain ⟨p,⟨o,e⟩,st⟩:=x; exact ⟨st _ _ p fun o q=>k _ _ (.inl rfl) q,⟨o,k _ _ (.inl rfl) e⟩,st⟩
theorem Tq.lt (x:Tq P w H h) (e:H a=some o):a < h.objs.size:=(x a o e).lt
theorem Tq.fresh (x:Tq P w H h) (e:h.objs.size<=a):H a=none:=by
 cases q:H a with
 | none=>rfl
 | some u=>exact absurd (Nat.lt_of_lt_of_le (x.lt q) e) (Nat.lt_irrefl _)
theorem Tq.kept (x:Tq P w H h) (k:∀ b u,h.get? b=some u->h'.get? b=some u):Tq P w H h':=fun a o e =>
 (x a o e).stay (fun b u _ q=>k b u q) (fun _ q=>q) fun _ _ q=>q
theorem Tq.laid (x:Tq P w H h) (k:∀ b u,h.get? b=some u->h'.get? b=some u) (hp:h.objs.size<=a) (new:zL P w (Tp H a o) h' a o):Tq P w (Tp H a o) h':=fun b u e=>by
 have hn:=x.fresh hp
 by_cases hb:b=a
 ·subst hb; rw [zc] at e; cases e; exact new
 ·rw [zj hb] at e
  exact (x b u e).stay (fun c v _ q=>k c v q) (fun c q=>by rw [zj (zk q hn)]; exact q) fun c xs q=>by rw [zj (zk q hn)]; exact q
end
def Rd (H:Hp) (a:Addr) (u:HO):Prop:=H a=some u \/ ∃ o,H a=some (.frz o u)
theorem Rd.ok {P:Program} {w:World} {H:Hp} {h:Heap} {a:Addr} {u:HO} (r:Rd H a u) (x:Tq P w H h):zL P w H h a u:=by
 rcases r with r | ⟨o,r⟩
 ·exact x a u r
 ·obtain ⟨_,q⟩:=x a _ r
  exact q
def Tr:Option HO->Prop
 | some (.lst _)=>True
 | some (.dK _)=>True
 | some (.dT _)=>True
 | some (.set _ _)=>True
 | some (.ins _ _ _)=>True
 | some (.ext _)=>True
 | _=>False
section
variable {P:Program} {w:World} {H:Hp} {h h':Heap} {x e:Addr} {o':HO}
theorem Tq.write (ok:Tq P w H h) (mu:Tr (H x)) (he:e=x \/ H e=some (.own x)) (k:∀ b u,b ≠ e->h.get? b=some u->h'.get? b=some u) (heo:∃ u,h'.get? e=some u)
  (new:zL P w (Tp H x o') h' x o'):Tq P w (Tp H x o') h':=fun b u q=>by
 have nown:∀ c y,H c=some (.own y)->c ≠ x:=fun c y r z=>by subst z; rw [r] at mu; exact mu
 have ntup:∀ c xs,H c=some (.tup xs)->c ≠ x:=fun c xs r z=>by subst z; rw [r] at mu; exact mu
 by_cases hb:b=x
 ·subst hb; rw [zc] at q; cases q; exact new
 ·rw [zj hb] at q
  by_cases hbe:b=e
  ·have q':H b=some (.own x):=by
    rcases he with z | z
    ·exact absurd (hbe.trans z) hb
    ·rw [hbe]; exact z
   rw [q] at q'; cases q'
   obtain ⟨v,hv⟩:=heo
   exact ⟨v,by rw [hbe]; exact hv⟩
  ·refine (ok b u q).stay (fun c v hc r=>k c v ?_ r) (fun c r=>by rw [zj (nown c b r)]; exact r) fun c xs r=>by rw [zj (ntup c xs r)]; exact r
   rcases hc with rfl | hc
   ·exact hbe
   ·rintro rfl
    rcases he with z | z
    ·exact nown c b hc z
    ·rw [hc] at z; cases z; exact hb rfl
end
structure Un (fs ex:List Addr) (H H':Hp) (h h':Heap):Prop where
 keep:∀ b o,h.get? b=some o->H b=none->b ∉ fs->b ∉ ex->h'.get? b=some o
 slot:∀ b o,h.get? b=some o->H b=none->b ∈ fs->b ∉ ex -> ∃ sl,h'.get? b=some { o with slots:=sl }
 free:∀ b o,h.get? b=some o->H b=none->b ∉ ex->H' b=none
 there:∀ b o,h.get? b=some o->b ∉ ex -> ∃ o',h'.get? b=some o'
 tups:∀ b xs,H b=some (.tup xs)->H' b=some (.tup xs)
 frzs:∀ b o u,H b=some (.frz o u)->H' b=some (.frz o u)
 tbls:∀ b ps,H b=some (.tbl ps) -> ∃ more,H' b=some (.tbl (ps ++ more))
section
variable {fs fs' ex ex':List Addr} {H H1 H2:Hp} {h h1 h2 h':Heap} {a x e:Addr} {o:HO}
theorem Un.any (u:Un fs ex H H1 h h1) {b:Addr} {ob:Obj} (q:h.get? b=some ob) (n:H b=none) (hx:b ∉ ex):∃ sl,h1.get? b=some { ob with slots:=sl }:=by
 by_cases hb:b ∈ fs
 ·exact u.slot b ob q n hb hx
 ·exact ⟨ob.slots,u.keep b ob q n hb hx⟩
theorem Un.kept (k:∀ b u,h.get? b=some u->h'.get? b=some u):Un fs ex H H h h' :=
 ⟨fun b ob q _ _ _=>k b ob q,fun b ob q _ _ _=>⟨ob.slots,k b ob q⟩,fun _ _ _ n _=>n,fun b ob q _=>⟨ob,k b ob q⟩,fun _ _ q=>q,fun _ _ _ q=>q,fun _ ps q=>⟨#[],by rw [q]; simp⟩⟩
theorem Un.refl:Un fs ex H H h h:=Un.kept fun _ _ q=>q
theorem Un.laid (k:∀ b u,h.get? b=some u->h'.get? b=some u) (hp:h.objs.size<=a) (hn:H a=none):Un fs ex H (Tp H a o) h h' where
 keep:=fun b u q _ _ _=>k b u q
 slot:=fun b u q _ _ _=>⟨u.slots,k b u q⟩
 free:=fun b u q n _=>by rw [zj (Nat.ne_of_lt (Nat.lt_of_lt_of_le (Heap.lt_size q) hp))]; exact n
 there:=fun b u q _=>⟨u,k b u q⟩
 tups:=fun b xs q=>by rw [zj (zk q hn)]; exact q
 frzs:=fun b u xs q=>by rw [zj (zk q hn)]; exact q
 tbls:=fun b ps q=>⟨#[],by rw [zj (zk q hn),q]; simp⟩
theorem Un.write (mu:Tr (H x)) (he:e=x \/ H e=some (.own x)) (k:∀ b u,b ≠ e->h.get? b=some u->h'.get? b=some u) (heo:∃ u,h'.get? e=some u):Un fs ex H (Tp H x o) h h':=by
 have hx:∀ b,H b=none->b ≠ x:=fun b n z=>by subst z; rw [n] at mu; exact mu
 have hb:∀ b,H b=none->b ≠ e:=fun b n z=>by
  subst z
  rcases he with r | r
  ·exact hx b n r
  ·rw [n] at r; cases r
 have hm:∀ b u,H b=some u -> ¬ Tr (some u)->b ≠ x:=fun b u q nm z=>by subst z; rw [q] at mu; exact nm mu
 refine ⟨fun b u q n _ _=>k b u (hb b n) q,fun b u q n _ _=>⟨u.slots,k b u (hb b n) q⟩,fun b u q n _=>by rw [zj (hx b n)]; exact n,fun b u q _=>?_,
  fun b xs q=>by rw [zj (hm b _ q fun z=>z)]; exact q,fun b u xs q=>by rw [zj (hm b _ q fun z=>z)]; exact q,fun b ps q=>⟨#[],by rw [zj (hm b _ q fun z=>z),q]; simp⟩⟩
 by_cases hbe:b=e
 ·subst hbe; exact heo
 ·exact ⟨u,k b u hbe q⟩
end
def Ts (h:Heap) (H:Hp):List Addr:=(List.range h.objs.size).filter fun a=>(H a).isSome
def Yk (h:Heap) (H:Hp):Heap:=PySem.W.hideAll h (Ts h H)
theorem jE (h:Heap) (H:Hp):(Yk h H).objs.size=h.objs.size:=PySem.W.hideAll_size _ _
theorem Yl {h:Heap} {H:Hp} {b:Addr} {o:Obj} (e:h.get? b=some o) (n:H b=none):(Yk h H).get? b=some o :=
 PySem.W.hideAll_get _ e fun hm=>by
  have q:(H b).isSome=true:=(List.mem_filter.mp hm).2
  rw [n] at q; simp at q
theorem XU {h:Heap} {H:Hp} {b:Addr} {o:Obj} (e:(Yk h H).get? b=some o):h.get? b=some o /\ H b=none:=by
 have e':h.get? b=some o:=PySem.W.of_hideAll (Ts h H) e
 refine ⟨e',?_⟩
 cases q:H b with
 | none=>rfl
 | some x =>
  have hm:b ∈ Ts h H:=List.mem_filter.mpr ⟨List.mem_range.mpr (Heap.lt_size e'),by simp [q]⟩
  have z:(Yk h H).get? b=none:=PySem.W.hideAll_none (Ts h H) hm
  rw [z] at e; cases e
end L2
namespace L2
open PySem PySem.Spec PyProof.Rows
structure Mod (K:Tl) (mg:Str->Option Value) (base:Heap):Prop where
 kin:K.In base
 glob:base.Ns mainGlobals mg
 blt:∃ mb,base.Ns builtinsNs mb /\ ∀ x:Str,x ≠ "__name__" -> mb x=bootBuiltins x
 nolimit:base.NoLimit
structure Cx where
 prog:Program
 w:World
 K:Tl
 mg:Str->Option Value
 base:Heap
 A:Around
 N:List Str
 s₀:Shared
 H₀:Hp
 env:Env
 outer:List Env
 stack:List Env
 ex:List Addr
 fn:Str->Bool
 calm:Bool
 pn:List (Addr × Obj)
 xe:Tn
def Tt (l:List Env):List Addr:=l.filterMap (·.frame)
abbrev Cx.fs (X:Cx):List Addr:=Tt X.outer
def Tu (sc:Scope) (x:Str):Prop:=sc.names.lookup x=some .local \/ sc.names.lookup x=some .cell \/ sc.names.lookup x=some .free
def Tv (sc:Scope) (x:Str):Prop:=sc.names.lookup x=some .local \/ sc.names.lookup x=some .cell
def UU (env:Env) (h:Heap) (m:Str->Option Value) (x:Str) (u:Value):Prop :=
 (env.kindOf x=some .local /\ m x=some u) \/ ((env.kindOf x=some .cell \/ env.kindOf x=some .free) /\ ∃ c,env.cells.lookup x=some c /\ h.IsCell c (some u))
structure Cx.Ok (X:Cx):Prop where
 mod:Mod X.K X.mg X.base
 kind:X.env.scope.kind = .function
 glob:X.env.globals=mainGlobals
 blt:X.env.builtins=builtinsNs
 above:X.s₀.heap.objs.size<=X.env.locals
 inj:∀ x y c,X.env.cells.lookup x=some c->X.env.cells.lookup y=some c->x=y
 has:∀ x,(X.env.kindOf x=some .cell \/ X.env.kindOf x=some .free) -> ∃ c,X.env.cells.lookup x=some c
 cab:∀ x c,X.fn x=true->X.env.cells.lookup x=some c->X.s₀.heap.objs.size<=c
 hd:X.calm=true->X.A.handled=none
 frames:X.A.frames=some X.stack
 stk:X.stack=X.outer \/ (X.stack=X.env :: X.outer /\ X.env.frame=some X.env.locals)
 exf:∀ b ∈ X.ex,b ≠ X.env.locals /\ ∀ x c,X.env.cells.lookup x=some c->c ≠ b
 bs:∀ b o,X.base.get? b=some o->X.s₀.heap.get? b=some o /\ X.H₀ b=none
 bsz:X.base.objs.size<=X.s₀.heap.objs.size
 noex:∀ b o,X.base.get? b=some o->b ∉ X.ex
 exfs:∀ b ∈ X.ex,b ∉ X.fs
 funs:X.s₀.heap.FunFrames X.base X.outer
 frf:∀ b ∈ X.fs,X.H₀ b=none
structure Inv (X:Cx) (pins:List (Addr × Obj)) (σ:List (Option V)) (H:Hp) (s:Shared):Prop where
 ok:X.Ok
 os:s.os=X.s₀.os
 bare:AllBare s.gens
 base:Un X.fs X.ex X.H₀ H X.s₀.heap s.heap
 loc:∃ m,s.heap.Ns X.env.locals m /\ ∀ (i:Nat) (x:Str) (v:V),X.N[i]? = some x -> σ[i]? = some (some v)->Tu X.env.scope x -> ∃ u,zJ v u /\ UU X.env s.heap m x u
 cell:∀ x c,X.env.cells.lookup x=some c -> ∃ v,s.heap.IsCell c v
 free:H X.env.locals=none
 freeC:∀ x c,X.env.cells.lookup x=some c->H c=none
 pin:∀ p ∈ X.pn ++ pins,s.heap.get? p.1=some p.2 /\ H p.1=none /\ p.1 ≠ X.env.locals /\ p.1 ∉ X.fs /\ ∀ v,p.2.data ≠ .cell v
 hok:Tq X.prog X.w H s.heap
 len:σ.length=X.N.length
section
variable {X:Cx} {pins:List (Addr × Obj)} {σ:List (Option V)} {H H':Hp} {s:Shared} {h':Heap}
theorem Cx.Ok.nofr (ok:X.Ok) {b:Addr} {o:Obj} (e:X.base.get? b=some o):b ∉ X.fs:=fun hb=>by
 have:=(ok.funs.mem hb).1
 rw [e] at this; cases this
theorem Inv.bs (I:Inv X pins σ H s):∀ b o,X.base.get? b=some o->s.heap.get? b=some o /\ H b=none:=fun b o e =>
 ⟨I.base.keep b o (I.ok.bs b o e).1 (I.ok.bs b o e).2 (I.ok.nofr e) (I.ok.noex b o e),I.base.free b o (I.ok.bs b o e).1 (I.ok.bs b o e).2 (I.ok.noex b o e)⟩
theorem Inv.bk (I:Inv X pins σ H s):∀ b o,X.base.get? b=some o->s.heap.get? b=some o:=fun b o e=>(I.bs b o e).1
theorem Inv.mod (I:Inv X pins σ H s):Mod X.K X.mg X.base:=I.ok.mod
theorem Inv.kIn (I:Inv X pins σ H s):X.K.In s.heap:=I.ok.mod.kin.keeps I.bk
theorem Inv.lt (I:Inv X pins σ H s):X.env.locals < s.heap.objs.size:=let ⟨_,hn,_⟩:=I.loc; hn.lt
theorem Inv.sz (I:Inv X pins σ H s):X.s₀.heap.objs.size<=s.heap.objs.size:=Nat.le_trans I.ok.above (Nat.le_of_lt I.lt)
theorem Inv.nofs (I:Inv X pins σ H s) {a:Addr} (h:s.heap.objs.size<=a):a ∉ X.fs:=fun hb=>by
 obtain ⟨_,o,ho,_⟩:=I.ok.funs.mem hb
 exact absurd (Nat.lt_of_lt_of_le (Heap.lt_size ho) (Nat.le_trans I.sz h)) (Nat.lt_irrefl _)
theorem Inv.cne (I:Inv X pins σ H s):∀ x c,X.env.cells.lookup x=some c->c ≠ X.env.locals:=fun x c e z=>by
 obtain ⟨v,o,ho,hd⟩:=I.cell x c e
 obtain ⟨m,⟨o',es,ep,ho',hd',_⟩,_⟩:=I.loc
 rw [z,ho'] at ho; cases ho; rw [hd'] at hd; cases hd
theorem Inv.funs (I:Inv X pins σ H s):s.heap.FunFrames X.base X.outer:=by
 have all:∀ (l:List Env),(∀ b ∈ Tt l,b ∈ X.fs)->X.s₀.heap.FunFrames X.base l->s.heap.FunFrames X.base l:=by
  intro l
  induction l with
  | nil=>intro _ _; trivial
  | cons env r ih =>
   intro hs hl
   obtain ⟨hk,⟨L,o,hf,hn,ho,hd⟩,hr⟩:=hl
   have hL:L ∈ X.fs:=hs L (by unfold Tt; rw [List.filterMap_cons,hf]; exact List.mem_cons_self)
   obtain ⟨sl,e⟩:=I.base.slot L o ho (I.ok.frf L hL) hL fun z=>I.ok.exfs L z hL
   exact ⟨hk,⟨L,_,hf,hn,e,hd⟩,ih (fun b hb=>hs b (by unfold Tt; rw [List.filterMap_cons,hf]; exact List.mem_cons_of_mem _ hb)) hr⟩
 exact all X.outer (fun _ hb=>hb) I.ok.funs
theorem Inv.stack (I:Inv X pins σ H s):s.heap.FunFrames X.base X.stack:=by
 rcases I.ok.stk with e | ⟨e,hf⟩
 ·rw [e]; exact I.funs
 ·rw [e]
  obtain ⟨m,hn,_⟩:=I.loc
  refine .cons (by rw [I.ok.kind]; decide) hf hn ?_ I.funs
  exact Heap.get?_none_of_le (Nat.le_trans I.ok.bsz I.ok.above)
theorem Inv.stkSub (I:Inv X pins σ H s):∀ b ∈ Tt X.stack,b ∈ X.env.locals :: X.fs:=fun b hb=>by
 rcases I.ok.stk with e | ⟨e,hf⟩
 ·rw [e] at hb; exact List.mem_cons_of_mem _ hb
 ·rw [e] at hb
  unfold Tt at hb
  rw [List.filterMap_cons,hf] at hb
  exact hb
theorem Inv.stkFree (I:Inv X pins σ H s):∀ b ∈ Tt X.stack,H b=none:=fun b hb=>by
 rcases List.mem_cons.mp (I.stkSub b hb) with e | hb
 ·rw [e]; exact I.free
 ·obtain ⟨_,o,ho,_⟩:=I.ok.funs.mem hb
  exact I.base.free b o ho (I.ok.frf b hb) fun z=>I.ok.exfs b z hb
theorem Inv.step {g':Array GenState} {t':Nat} {d':Drawn} {ch:List Addr} (I:Inv X pins σ H s)
  (hch:∀ b ∈ ch,(b ∈ X.ex \/ X.s₀.heap.objs.size<=b) /\ b ≠ X.env.locals /\ (∀ x c,X.env.cells.lookup x=some c->c ≠ b) /\ ∀ p ∈ X.pn ++ pins,p.1 ≠ b)
  (keep:∀ b o,b ≠ X.env.locals->b ∉ X.fs->b ∉ ch->s.heap.get? b=some o->H b=none->h'.get? b=some o)
  (slot:∀ b o,b ≠ X.env.locals->b ∈ X.fs->b ∉ ch->s.heap.get? b=some o->H b=none -> ∃ sl,h'.get? b=some { o with slots:=sl }) (free:∀ b o,b ∉ ch->s.heap.get? b=some o->H b=none->H' b=none)
  (there:∀ b o,b ∉ ch->s.heap.get? b=some o -> ∃ o',h'.get? b=some o')
  (tups:∀ b xs,H b=some (.tup xs)->H' b=some (.tup xs)) (frzs:∀ b o u,H b=some (.frz o u)->H' b=some (.frz o u)) (tbls:∀ b ps,H b=some (.tbl ps) -> ∃ more,H' b=some (.tbl (ps ++ more)))
  (ns:∀ m,s.heap.Ns X.env.locals m->h'.Ns X.env.locals m) (hok:Tq X.prog X.w H' h') (hg:AllBare g') :
  Inv X pins σ H' { s with heap:=h',gens:=g',drawn:=d',toks:=t' }:=by
 have neL:∀ b o,X.s₀.heap.get? b=some o->b ≠ X.env.locals:=fun b o e=>Nat.ne_of_lt (Nat.lt_of_lt_of_le (Heap.lt_size e) I.ok.above)
 have neC:∀ b o,X.s₀.heap.get? b=some o->b ∉ X.ex->b ∉ ch:=fun b o e hx hb=>by
  rcases (hch b hb).1 with z | z
  ·exact hx z
  ·exact absurd (Nat.lt_of_lt_of_le (Heap.lt_size e) z) (Nat.lt_irrefl _)
 have cellK:∀ x c,X.env.cells.lookup x=some c -> ∀ v,s.heap.IsCell c v->h'.IsCell c v:=fun x c e v ⟨o,ho,hd⟩=>by
  have nch:c ∉ ch:=fun z=>(hch c z).2.2.1 x c e rfl
  by_cases hc:c ∈ X.fs
  ·obtain ⟨sl,q⟩:=slot c o (I.cne x c e) hc nch ho (I.freeC x c e)
   exact ⟨_,q,hd⟩
  ·exact ⟨o,keep c o (I.cne x c e) hc nch ho (I.freeC x c e),hd⟩
 refine ⟨I.ok,I.os,hg,⟨fun b o e n hb hx=>?_,fun b o e n hb hx=>?_,fun b o e n hx=>?_,fun b o e hx=>?_,fun b xs e=>tups b xs (I.base.tups b xs e),fun b o xs e=>frzs b o xs (I.base.frzs b o xs e),fun b ps e=>?_⟩,?_,fun x c e=>?_,?_,fun x c e=>?_,fun p hp=>?_,hok,I.len⟩
 ·exact keep b o (neL b o e) hb (neC b o e hx) (I.base.keep b o e n hb hx) (I.base.free b o e n hx)
 ·obtain ⟨sl,e1⟩:=I.base.slot b o e n hb hx
  obtain ⟨sl',e2⟩:=slot b _ (neL b o e) hb (neC b o e hx) e1 (I.base.free b o e n hx)
  exact ⟨sl',e2⟩
 ·obtain ⟨o',e1⟩:=I.base.there b o e hx
  exact free b o' (neC b o e hx) e1 (I.base.free b o e n hx)
 ·obtain ⟨o',e1⟩:=I.base.there b o e hx
  exact there b o' (neC b o e hx) e1
 ·obtain ⟨m1,e1⟩:=I.base.tbls b ps e
  obtain ⟨m2,e2⟩:=tbls b _ e1
  exact ⟨m1 ++ m2,by rw [e2,Array.append_assoc]⟩
 ·obtain ⟨m,hn,hl⟩:=I.loc
  refine ⟨m,ns m hn,fun i x v e1 e2 e3=>?_⟩
  obtain ⟨u,r,l⟩:=hl i x v e1 e2 e3
  refine ⟨u,r,?_⟩
  rcases l with l | ⟨k,c,e,z⟩
  ·exact .inl l
  ·exact .inr ⟨k,c,e,cellK x c e _ z⟩
 ·obtain ⟨v,z⟩:=I.cell x c e
  exact ⟨v,cellK x c e v z⟩
 ·obtain ⟨m,⟨o,_,_,ho,_⟩,_⟩:=I.loc
  exact free _ o (fun z=>(hch _ z).2.1 rfl) ho I.free
 ·obtain ⟨v,o,ho,hd⟩:=I.cell x c e
  exact free c o (fun z=>(hch c z).2.2.1 x c e rfl) ho (I.freeC x c e)
 ·obtain ⟨e,n,ne,nf,d⟩:=I.pin p hp
  have nch:p.1 ∉ ch:=fun z=>(hch p.1 z).2.2.2 p hp rfl
  exact ⟨keep p.1 p.2 ne nf nch e n,free p.1 p.2 nch e n,ne,nf,d⟩
theorem Inv.un {t':Nat} (I:Inv X pins σ H s) (u:Un X.fs [] H H' s.heap h') (hok:Tq X.prog X.w H' h'):Inv X pins σ H' { s with heap:=h',toks:=t' }:=by
 obtain ⟨m,⟨o,es,ep,ho,r⟩,_⟩:=id I.loc
 obtain ⟨sl,hL⟩:=u.any ho I.free (by simp)
 exact I.step (g':=s.gens) (d':=s.drawn) (ch:=[]) (fun _ z=>nomatch z) (fun b o _ hb _ e n=>u.keep b o e n hb (by simp)) (fun b o _ hb _ e n=>u.slot b o e n hb (by simp)) (fun b o _ e n=>u.free b o e n (by simp)) (fun b o _ e=>u.there b o e (by simp)) u.tups u.frzs u.tbls (fun m' hm=>by
  obtain ⟨o',es',ep',ho',r'⟩:=hm
  rw [ho] at ho'; cases ho'
  exact ⟨_,es',ep',hL,r'⟩) hok I.bare
theorem Inv.call {g':Array GenState} {t':Nat} {d':Drawn} {ch:List Addr} (I:Inv X pins σ H s) (u:Un (Tt X.stack) ch H H' s.heap h') (hok:Tq X.prog X.w H' h') (hg:AllBare g')
  (hch:∀ b ∈ ch,(b ∈ X.ex \/ X.s₀.heap.objs.size<=b) /\ b ≠ X.env.locals /\ (∀ x c,X.env.cells.lookup x=some c->c ≠ b) /\ ∀ p ∈ X.pn ++ pins,p.1 ≠ b) :
  Inv X pins σ H' { s with heap:=h',gens:=g',drawn:=d',toks:=t' }:=by
 obtain ⟨m,⟨o,es,ep,ho,r⟩,_⟩:=id I.loc
 obtain ⟨sl,hL⟩:=u.any ho I.free fun z=>(hch _ z).2.1 rfl
 exact I.step (ch:=ch) hch (fun b o hL hb hc e n=>u.keep b o e n (fun z=>(List.mem_cons.mp (I.stkSub b z)).elim hL hb) hc) (fun b o _ _ hc e n=>u.any e n hc) (fun b o hc e n=>u.free b o e n hc) (fun b o hc e=>u.there b o e hc) u.tups u.frzs u.tbls (fun m' hm=>by
  obtain ⟨o',es',ep',ho',r'⟩:=hm
  rw [ho] at ho'; cases ho'
  exact ⟨_,es',ep',hL,r'⟩) hok hg
theorem Inv.turned {t':Nat} {it:Addr} (I:Inv X pins σ H s) (k:∀ b o,b ≠ it->s.heap.get? b=some o->h'.get? b=some o) (hn:H it=none) (hL:it ≠ X.env.locals)
  (h1:it ∈ X.ex \/ X.s₀.heap.objs.size<=it) (h2:∀ x c,X.env.cells.lookup x=some c->c ≠ it) (h3:∀ p ∈ X.pn ++ pins,p.1 ≠ it):Inv X pins σ H { s with heap:=h',toks:=t' }:=by
 have nit:∀ b u,H b=some u->b ≠ it:=fun b u e z=>by rw [z,hn] at e; cases e
 refine I.step (g':=s.gens) (d':=s.drawn) (ch:=[it]) (fun b hb=>?_) (fun b o _ _ hc e _=>k b o (fun z=>hc (by simp [z])) e) (fun b o _ _ hc e _=>⟨o.slots,k b o (fun z=>hc (by simp [z])) e⟩) (fun _ _ _ _ n=>n)
  (fun b o hc e=>⟨o,k b o (fun z=>hc (by simp [z])) e⟩) (fun _ _ e=>e) (fun _ _ _ e=>e) (fun b ps e=>⟨#[],by rw [e]; simp⟩) (fun m hm=>?_) (fun b u e=>?_) I.bare
 ·have e:b=it:=by simpa using hb
  subst e
  exact ⟨h1,hL,h2,h3⟩
 ·obtain ⟨o,es,ep,ho,r⟩:=hm
  exact ⟨o,es,ep,k _ o (Ne.symm hL) ho,r⟩
 ·refine (I.hok b u e).stay (fun c v hc q=>k c v ?_ q) (fun _ q=>q) fun _ _ q=>q
  rcases hc with z | z
  ·rw [z]; exact nit b u e
  ·exact nit c _ z
theorem Inv.tok (I:Inv X pins σ H s) (t:Nat):Inv X pins σ H { s with toks:=t }:=I.un (h':=s.heap) (t':=t) Un.refl I.hok
theorem Inv.kept {t':Nat} (I:Inv X pins σ H s) (k:∀ b u,s.heap.get? b=some u->h'.get? b=some u):Inv X pins σ H { s with heap:=h',toks:=t' }:=I.un (Un.kept k) (I.hok.kept k)
theorem Inv.laid {a:Addr} {o:HO} {t':Nat} (I:Inv X pins σ H s) (k:∀ b u,s.heap.get? b=some u->h'.get? b=some u) (hp:s.heap.objs.size<=a) (new:zL X.prog X.w (Tp H a o) h' a o) :
  Inv X pins σ (Tp H a o) { s with heap:=h',toks:=t' }:=I.un (Un.laid k hp (I.hok.fresh hp)) (I.hok.laid k hp new)
theorem Inv.write {x e:Addr} {o:HO} {t':Nat} (I:Inv X pins σ H s) (mu:Tr (H x)) (he:e=x \/ H e=some (.own x)) (k:∀ b u,b ≠ e->s.heap.get? b=some u->h'.get? b=some u) (heo:∃ u,h'.get? e=some u)
  (new:zL X.prog X.w (Tp H x o) h' x o):Inv X pins σ (Tp H x o) { s with heap:=h',toks:=t' }:=I.un (Un.write mu he k heo) (I.hok.write mu he k heo new)
theorem Inv.pins_of {pins':List (Addr × Obj)} (I:Inv X pins σ H s) (h:∀ p ∈ pins',s.heap.get? p.1=some p.2 /\ H p.1=none /\ p.1 ≠ X.env.locals /\ p.1 ∉ X.fs /\ ∀ v,p.2.data ≠ .cell v):Inv X pins' σ H s :=
 ⟨I.ok,I.os,I.bare,I.base,I.loc,I.cell,I.free,I.freeC,fun p hp=>(List.mem_append.mp hp).elim (fun z=>I.pin p (List.mem_append_left _ z)) (h p),I.hok,I.len⟩
theorem v4 {N:List Str} (hN:N.Nodup) {i j:Nat} {x:Str} (a:N[i]? = some x) (b:N[j]? = some x):i=j:=by
 obtain ⟨h1,e1⟩:=List.getElem?_eq_some_iff.mp a
 obtain ⟨h2,e2⟩:=List.getElem?_eq_some_iff.mp b
 exact (List.getElem_inj hN).mp (e1.trans e2.symm)
theorem jF {M:Model} {A:Around} {E:Tn} {i:Nat} {x:Str} {v:V} {u:Value} {Q:Unit->Shared->Prop} (I:Inv X pins σ H s) (hN:X.N.Nodup) (hi:X.N[i]? = some x) (hx:Tv X.env.scope x) (r:zJ v u)
  (h:∀ s',Inv X pins (σ.set i (some v)) H s' -> (∃ a,Heap.SameBut a s.heap s'.heap /\ (a=X.env.locals \/ X.env.cells.lookup x=some a))->Q () s') (hf:X.fn x=true \/ X.env.scope.names.lookup x=some .local :=by first | exact .inl rfl | exact .inr rfl | assumption):wpAny M A (storeName X.env x u) Q E s:=by
 obtain ⟨m,hn,hl⟩:=id I.loc
 have hcls:(X.env.scope.kind == .class || (X.env.scope.kind == .module && X.env.locals != X.env.globals))=false:=by rw [I.ok.kind]; rfl
 have hiσ:i < σ.length:=by rw [I.len]; exact (List.getElem?_eq_some_iff.mp hi).1
 have cne:=I.cne
 have tracked:∀ {a:Addr} {h':Heap},(∃ o,s.heap.get? a=some o /\ H a=none)->Heap.SameBut a s.heap h' -> Tq X.prog X.w H h':=fun {a h'} ha hs b ob e=>by
  obtain ⟨_,_,hfree⟩:=ha
  refine (I.hok b ob e).stay (fun c w' hc q=>(hs.2 c ?_).trans q) (fun _ q=>q) fun _ _ q=>q
  rintro rfl
  rcases hc with rfl | hc
  ·rw [hfree] at e; cases e
  ·rw [hfree] at hc; cases hc
 rcases hx with hk | hk
 ·refine wpAny_storeName_local hk hn (fun h' hn' hs=>?_) hcls
  obtain ⟨oL,_,_,hoL,_⟩:=id hn
  refine h _ ⟨I.ok,I.os,I.bare,⟨fun b o e n hb hx=>?_,fun b o e n hb hx=>?_,I.base.free,fun b o e hx=>?_,I.base.tups,I.base.frzs,I.base.tbls⟩,⟨_,hn',fun j y v' e1 e2 e3=>?_⟩,fun y c e=>?_,I.free,I.freeC,fun p hp=>?_,tracked ⟨oL,hoL,I.free⟩ hs,by simpa using I.len⟩ ⟨_,hs,.inl rfl⟩
  ·exact (hs.2 b (Nat.ne_of_lt (Nat.lt_of_lt_of_le (Heap.lt_size e) I.ok.above))).trans (I.base.keep b o e n hb hx)
  ·obtain ⟨sl,e1⟩:=I.base.slot b o e n hb hx
   exact ⟨sl,(hs.2 b (Nat.ne_of_lt (Nat.lt_of_lt_of_le (Heap.lt_size e) I.ok.above))).trans e1⟩
  ·obtain ⟨o',e1⟩:=I.base.there b o e hx
   exact ⟨o',(hs.2 b (Nat.ne_of_lt (Nat.lt_of_lt_of_le (Heap.lt_size e) I.ok.above))).trans e1⟩
  ·by_cases hj:j=i
   ·subst hj
    rw [hi] at e1; cases e1
    rw [List.getElem?_set_self hiσ] at e2
    cases e2
    exact ⟨u,r,.inl ⟨hk,by simp⟩⟩
   ·rw [List.getElem?_set_ne (Ne.symm hj)] at e2
    obtain ⟨u',r',q⟩:=hl j y v' e1 e2 e3
    refine ⟨u',r',?_⟩
    rcases q with ⟨k,e⟩ | ⟨k,c,e,z⟩
    ·refine .inl ⟨k,?_⟩
     have:y ≠ x:=fun e=>hj (v4 hN e1 (e ▸ hi))
     simp [this,e]
    ·exact .inr ⟨k,c,e,z.sameBut hs (cne y c e)⟩
  ·obtain ⟨w',z⟩:=I.cell y c e
   exact ⟨w',z.sameBut hs (cne y c e)⟩
  ·obtain ⟨e,n,ne,nf,d⟩:=I.pin p hp
   exact ⟨(hs.2 p.1 ne).trans e,n,ne,nf,d⟩
 ·have hfn:X.fn x=true:=by
   rcases hf with z | z
   ·exact z
   ·rw [z] at hk; cases hk
  obtain ⟨c,hc⟩:=I.ok.has x (.inl hk)
  obtain ⟨w',z⟩:=I.cell x c hc
  refine wpAny_storeName_cell I.ok.kind hk hc z (fun h' hc' hs=>?_)
  obtain ⟨oc,hoc,hocd⟩:=id z
  refine h { s with heap:=h' } ⟨I.ok,I.os,I.bare,⟨fun b o e n hb hx=>?_,fun b o e n hb hx=>?_,I.base.free,fun b o e hx=>?_,I.base.tups,I.base.frzs,I.base.tbls⟩,⟨m,hn.sameBut hs (Ne.symm (cne x c hc)),fun j y v' e1 e2 e3=>?_⟩,fun y c' e=>?_,I.free,I.freeC,fun p hp=>?_,tracked ⟨oc,hoc,I.freeC x c hc⟩ hs,by simpa using I.len⟩ ⟨c,hs,.inr hc⟩
  ·exact (hs.2 b (Nat.ne_of_lt (Nat.lt_of_lt_of_le (Heap.lt_size e) (I.ok.cab x c hfn hc)))).trans (I.base.keep b o e n hb hx)
  ·obtain ⟨sl,e1⟩:=I.base.slot b o e n hb hx
   exact ⟨sl,(hs.2 b (Nat.ne_of_lt (Nat.lt_of_lt_of_le (Heap.lt_size e) (I.ok.cab x c hfn hc)))).trans e1⟩
  ·obtain ⟨o',e1⟩:=I.base.there b o e hx
   exact ⟨o',(hs.2 b (Nat.ne_of_lt (Nat.lt_of_lt_of_le (Heap.lt_size e) (I.ok.cab x c hfn hc)))).trans e1⟩
  ·by_cases hj:j=i
   ·subst hj
    rw [hi] at e1; cases e1
    rw [List.getElem?_set_self hiσ] at e2
    cases e2
    exact ⟨u,r,.inr ⟨.inl hk,c,hc,hc'⟩⟩
   ·rw [List.getElem?_set_ne (Ne.symm hj)] at e2
    obtain ⟨u',r',q⟩:=hl j y v' e1 e2 e3
    refine ⟨u',r',?_⟩
    rcases q with q | ⟨k,c',e,z'⟩
    ·exact .inl q
    ·refine .inr ⟨k,c',e,z'.sameBut hs ?_⟩
     rintro rfl
     exact hj (v4 hN e1 (I.ok.inj _ _ _ e hc ▸ hi))
  ·by_cases hcc:c' = c
   ·subst hcc; exact ⟨_,hc'⟩
   ·obtain ⟨w2,z2⟩:=I.cell y c' e
    exact ⟨w2,z2.sameBut hs hcc⟩
  ·obtain ⟨e,n,ne,nf,d⟩:=I.pin p hp
   refine ⟨(hs.2 p.1 ?_).trans e,n,ne,nf,d⟩
   intro q
   rw [q,hoc] at e
   have q':oc=p.2:=Option.some.inj e
   exact d w' (by rw [← q']; exact hocd)
theorem xc {M:Model} {A:Around} {E:Tn} {i:Nat} {x:Str} {v:V} {u:Value} {Q:Unit->Shared->Prop} (I:Inv X pins σ H s) (hN:X.N.Nodup) (hi:X.N[i]? = some x) (hx:Tv X.env.scope x) (r:zJ v u)
  (h:∀ s',Inv X pins (σ.set i (some v)) H s' -> Q () s') (hf:X.fn x=true \/ X.env.scope.names.lookup x=some .local :=by first | exact .inl rfl | exact .inr rfl | assumption):wpAny M A (storeName X.env x u) Q E s :=
 jF I hN hi hx r (fun s' I' _=>h s' I') hf
theorem Inv.call' {s':Shared} {ch:List Addr} (I:Inv X pins σ H s) (ho:s'.os=s.os) (u:Un (Tt X.stack) ch H H' s.heap s'.heap) (hok:Tq X.prog X.w H' s'.heap) (hg:AllBare s'.gens)
  (hch:∀ b ∈ ch,(b ∈ X.ex \/ X.s₀.heap.objs.size<=b) /\ b ≠ X.env.locals /\ (∀ x c,X.env.cells.lookup x=some c->c ≠ b) /\ ∀ p ∈ X.pn ++ pins,p.1 ≠ b):Inv X pins σ H' s':=by
 obtain ⟨h',g',d',t',o'⟩:=s'
 have e:o' = s.os:=ho
 subst e
 exact I.call (g':=g') (t':=t') (d':=d') u hok hg hch
end
abbrev XK:=Value->Option Addr->Hp->Prop
abbrev St:=List (Option V)
abbrev VK:=V->Hp->Prop
abbrev TE:=St->Hp->VK->Prop
abbrev TT:=St->Hp->(Bool->Hp->Prop)->Prop
abbrev TA:=St->Hp->(List V->Hp->Prop)->Prop
structure Ends where
 nx:St->Hp->Prop
 rt:VK
 bk:St->Hp->Prop:=fun _ _=>False
 ct:St->Hp->Prop:=fun _ _=>False
abbrev TS:=Ends->St->Hp->Prop
def EP (X:Cx) (pins:List (Addr × Obj)) (σ:St) (Q:VK) (u:Value) (s':Shared):Prop:=∃ v H',Inv X pins σ H' s' /\ zJ v u /\ Q v H'
def TP (X:Cx) (pins:List (Addr × Obj)) (σ:St) (Q:Bool->Hp->Prop) (b:Bool) (s':Shared):Prop:=∃ H',Inv X pins σ H' s' /\ Q b H'
def AP (X:Cx) (pins:List (Addr × Obj)) (σ:St) (Q:List V->Hp->Prop) (us:List Value) (s':Shared):Prop:=∃ vs H',Inv X pins σ H' s' /\ zC vs us /\ Q vs H'
def SP (X:Cx) (pins:List (Addr × Obj)) (D:Ends) (f:Flow) (s':Shared):Prop :=
 match f with
 | .next=>∃ σ' H',Inv X pins σ' H' s' /\ D.nx σ' H'
 | .brk=>∃ σ' H',Inv X pins σ' H' s' /\ D.bk σ' H'
 | .cont=>∃ σ' H',Inv X pins σ' H' s' /\ D.ct σ' H'
 | .ret u=>∃ v σ' H',Inv X pins σ' H' s' /\ zJ v u /\ D.rt v H'
def PE (X:Cx) (e:Expr) (t:TE):Prop :=
 ∀ (pins:List (Addr × Obj)) (s:Shared) (σ:St) (H:Hp) (Q:VK),Inv X pins σ H s->t σ H Q->wpAny (model X.prog X.w) X.A (eval e X.env) (EP X pins σ Q) X.xe s
def PT (X:Cx) (e:Expr) (t:TT):Prop :=
 ∀ (pins:List (Addr × Obj)) (s:Shared) (σ:St) (H:Hp) (Q:Bool->Hp->Prop),Inv X pins σ H s->t σ H Q->wpAny (model X.prog X.w) X.A (isTrue e X.env (eval e X.env)) (TP X pins σ Q) X.xe s
def PW (X:Cx) (e:Expr) (t:TT):Prop :=
 ∀ (whole:Sem Value) (pins:List (Addr × Obj)) (s:Shared) (σ:St) (H:Hp) (Q:Bool->Hp->Prop),Inv X pins σ H s->t σ H Q->wpAny (model X.prog X.w) X.A (isTrue e X.env whole) (TP X pins σ Q) X.xe s
theorem PW.pt {X:Cx} {e:Expr} {t:TT} (h:PW X e t):PT X e t:=h _
def PA (X:Cx) (es:List Expr) (t:TA):Prop :=
 ∀ (pos:Pos) (pins:List (Addr × Obj)) (s:Shared) (σ:St) (H:Hp) (Q:List V->Hp->Prop),Inv X pins σ H s->t σ H Q->wpAny (model X.prog X.w) X.A (spliced (backTo pos (starEach es X.env))) (AP X pins σ Q) X.xe s
def PS (X:Cx) (st:Stmt) (t:TS):Prop :=
 ∀ (pins:List (Addr × Obj)) (s:Shared) (σ:St) (H:Hp) (D:Ends),Inv X pins σ H s->t D σ H->wpAny (model X.prog X.w) X.A (exec st X.env) (SP X pins D) X.xe s
def Tw (X:Cx) (st:List Stmt) (t:TS):Prop :=
 ∀ (pins:List (Addr × Obj)) (s:Shared) (σ:St) (H:Hp) (D:Ends),Inv X pins σ H s->t D σ H->wpAny (model X.prog X.w) X.A (execs st X.env) (SP X pins D) X.xe s
theorem Tx {α:Type} {t:Sem α} {Q Q':α -> Shared->Prop} {M:Model} {A:Around} {E:Tn} {s:Shared} (h:wpAny M A t Q E s) (hQ:∀ a s,Q a s->Q' a s):wpAny M A t Q' E s:=wpAny_mono h hQ fun _ _ x=>x
end L2
namespace L2
open PySem PySem.Spec PyProof.Rows
section
variable {X:Cx}
def UE (i:Nat):TE:=fun σ H Q=>∃ v,σ[i]? = some (some v) /\ Q v H
def tC (v:V):TE:=fun _ H Q=>Q v H
theorem WT {i:Nat} {x:Str} {pos:Pos} (hN:X.N[i]? = some x) (hv:Tu X.env.scope x) (hd:(x == ("__debug__":Str))=false:=by decide) (hcd:(x == ("__classdict__":Str))=false:=by decide):PE X (.Name x pos) (UE i):=by
 intro pins s σ H Q I h
 obtain ⟨v,e,h⟩:=h
 obtain ⟨m,hn,hl⟩:=I.loc
 obtain ⟨u,r,l⟩:=hl i x v hN e hv
 have fin:EP X pins σ Q u s:=⟨v,H,I,r,h⟩
 rcases l with ⟨hk,hm⟩ | ⟨hk,c,hc,hcell⟩
 ·exact wpAny_Name (wpAny_loadName_local I.ok.kind hk hn hm fin) hd
 ·rcases hk with hk | hk
  ·exact wpAny_Name (wpAny_loadName_cell I.ok.kind hk hc hcell fin) hd
  ·exact wpAny_Name (wpAny_loadName_free I.ok.kind hk hc hcell fin hcd) hd
theorem zi {i j pos}:PE X (.Constant (.int i) j pos) (tC (.int i)):=fun _ _ _ H _ I h=>wpAny_Constant_int ⟨.int i,H,I.tok _,⟨_,rfl⟩,h⟩
theorem yT {b j pos}:PE X (.Constant (.bool b) j pos) (tC (.bl b)):=fun _ _ _ H _ I h=>Constant_bool ⟨.bl b,H,I,rfl,h⟩
theorem WU {x j pos}:PE X (.Constant (.str x) j pos) (tC (.str x)):=fun _ _ _ H _ I h=>Calls.Constant_str ⟨.str x,H,I.tok _,⟨_,rfl⟩,h⟩
def Gl (X:Cx) (x:Str):Prop:=X.env.kindOf x=some .globalImplicit
theorem wJ {E:Tn} {pins:List (Addr × Obj)} {s:Shared} {σ:St} {H:Hp} {x:Str} {u:Value} {pos:Pos} {Q:Tn} (I:Inv X pins σ H s) (hg:Gl X x) (hm:X.mg x=some u) (h:Q u s)
  (hd:(x == ("__debug__":Str))=false:=by decide):wpAny (model X.prog X.w) X.A (eval (.Name x pos) X.env) Q E s :=
 Calls.Name_function_global I.ok.kind hg (Calls.loadGlobal_global (by rw [I.ok.glob]; exact I.mod.glob.keeps I.bk) hm h) hd
theorem xN {E:Tn} {pins:List (Addr × Obj)} {s:Shared} {σ:St} {H:Hp} {x:Str} {u:Value} {pos:Pos} {Q:Tn} (I:Inv X pins σ H s) (hg:Gl X x) (hm:X.mg x=none) (hv:bootBuiltins x=some u) (h:Q u s)
  (hn:x ≠ "__name__":=by decide) (hd:(x == ("__debug__":Str))=false:=by decide):wpAny (model X.prog X.w) X.A (eval (.Name x pos) X.env) Q E s:=by
 obtain ⟨mb,h1,h2⟩:=I.mod.blt
 exact Calls.Name_function_global I.ok.kind hg (Calls.loadGlobal_builtin (by rw [I.ok.glob]; exact I.mod.glob.keeps I.bk) hm (by rw [I.ok.blt]; exact h1.keeps I.bk) ((h2 x hn).trans hv) h) hd
theorem yJ {x:Str} {v:V} {u:Value} {pos:Pos} (hg:Gl X x) (hm:X.mg x=some u) (r:zJ v u) (hd:(x == ("__debug__":Str))=false:=by decide):PE X (.Name x pos) (tC v) :=
 fun _ _ _ H _ I h=>wJ I hg hm ⟨v,H,I,r,h⟩ hd
theorem XV {x:Str} {v:V} {u:Value} {pos:Pos} (hg:Gl X x) (hm:X.mg x=none) (hv:bootBuiltins x=some u) (r:zJ v u) (hn:x ≠ "__name__":=by decide) (hd:(x == ("__debug__":Str))=false:=by decide):PE X (.Name x pos) (tC v) :=
 fun _ _ _ H _ I h=>xN I hg hm hv ⟨v,H,I,r,h⟩ hn hd
variable {a b:Expr} {ta tb:TE} {pos:Pos}
def PC (X:Cx) (op:CmpOp) (a b:Expr) (t:TE):Prop :=
 ∀ (pins:List (Addr × Obj)) (s:Shared) (σ:St) (H:Hp) (Q:VK),Inv X pins σ H s->t σ H Q →
  wpAny (model X.prog X.w) X.A (eval a X.env) (fun v s₁=>wpAny (model X.prog X.w) X.A (eval b X.env) (fun u s₂=>wpAny (model X.prog X.w) X.A (compareOp op v u) (EP X pins σ Q) X.xe s₂) X.xe s₁) X.xe s
theorem Ym (b:Expr) {op:CmpOp} (h:op ≠ .In) (h2:op ≠ .NotIn):behindInMarks op b=false:=by
 have e1:(op == CmpOp.In)=false:=by cases op <;> first | rfl | exact absurd rfl h
 have e2:(op == CmpOp.NotIn)=false:=by cases op <;> first | rfl | exact absurd rfl h2
 cases b <;> simp [behindInMarks,e1,e2]
def UV (ta:TE):TE:=fun σ H Q=>ta σ H fun x H1=>Q (.bl (decide (x = .non))) H1
theorem zJ.none_iff {x:V} {v:Value} (r:zJ x v):(v == Value.none)=decide (x = .non):=by
 cases x with
 | non=>cases r; rfl
 | bl _=>cases r; rfl
 | int _=>obtain ⟨t,rfl⟩:=r; rfl
 | str _=>obtain ⟨t,rfl⟩:=r; rfl
 | byt _=>obtain ⟨t,rfl⟩:=r; rfl
 | flt _=>obtain ⟨t,rfl⟩:=r; rfl
 | ref _=>cases r; rfl
 | ty _=>cases r; rfl
theorem WV {j pos'} (ha:PE X a ta):PC X .Is a (.Constant .none j pos') (UV ta):=by
 intro pins s σ H Q I h
 refine Tx (ha pins s σ H _ I h) fun v s1 ⟨x,H1,I1,r1,q1⟩=>?_
 exact Constant_none (is_none_gen ⟨.bl _,H1,I1,by rw [r1.none_iff]; rfl,q1⟩)
def tB (t:TE):TT:=fun σ H Q=>t σ H fun x H1=>∃ c,x = .bl c /\ Q c H1
theorem jG {op:CmpOp} {t:TE} (h:PC X op a b t) (h1:behindInMarks op b=false:=by first | exact Ym _ (by decide) (by decide) | rfl):PT X (.Compare a [op] [b] pos) (tB t):=by
 intro pins s σ H Q I hw
 refine wpAny_isTrue_Compare1 (Tx (h pins s σ H _ I hw) fun v s1 h1=>Tx h1 fun u s2 h2=>Tx h2 fun c s3 ⟨x,H1,I1,r1,q1⟩=>?_) h1
 obtain ⟨d,rfl,q⟩:=q1
 cases r1
 exact wpAny_truthy_bool ⟨H1,I1,q⟩
theorem yV {e:Expr} {t:TE} (h:PE X e t) (he:∀ whole,isTrue e X.env whole=(do let v ← whole; standAt e.pos; holding [v] (truthy v)):=by intro _; rfl):PT X e (tB t):=by
 intro pins s σ H Q I hw
 refine isTrue_plain (Tx (h pins s σ H _ I hw) fun v s1 ⟨x,H1,I1,r1,q1⟩=>?_) (he _)
 obtain ⟨d,rfl,q⟩:=q1
 cases r1
 exact wpAny_truthy_bool ⟨H1,I1,q⟩
variable {tA tB':TT} {rest:List Expr}
def UW (t u:TT):TT:=fun σ H Q=>t σ H fun c H1=>if c=true then u σ H1 Q else Q false H1
def Tz (t u:TT):TT:=fun σ H Q=>t σ H fun c H1=>if c=true then Q true H1 else u σ H1 Q
def UX (t:TT):TT:=fun σ H Q=>t σ H fun c H1=>Q (!c) H1
theorem XW (ha:PT X a tA):PW X (.BoolOp .And [a] pos) tA:=by
 intro wh pins s σ H Q I h
 refine isTrue_and (Tx (ha pins s σ H Q I h) fun c s1 e=>?_)
 cases c with
 | true=>exact isTrue_and_nil e
 | false=>exact e
theorem wK (ha:PT X a tA):PW X (.BoolOp .Or [a] pos) tA:=by
 intro wh pins s σ H Q I h
 refine isTrue_or (Tx (ha pins s σ H Q I h) fun c s1 e=>?_)
 cases c with
 | false=>exact isTrue_or_nil e
 | true=>exact e
theorem WW (ha:PT X a tA) (hb:PW X (.BoolOp .And (b :: rest) pos) tB'):PW X (.BoolOp .And (a :: b :: rest) pos) (UW tA tB'):=by
 intro wh pins s σ H Q I h
 refine isTrue_and (Tx (ha pins s σ H _ I h) fun c s1 ⟨H1,I1,q1⟩=>?_)
 cases c with
 | true=>exact hb wh pins s1 σ H1 Q I1 q1
 | false=>exact ⟨H1,I1,q1⟩
theorem vC (ha:PT X a tA) (hb:PW X (.BoolOp .Or (b :: rest) pos) tB'):PW X (.BoolOp .Or (a :: b :: rest) pos) (Tz tA tB'):=by
 intro wh pins s σ H Q I h
 refine isTrue_or (Tx (ha pins s σ H _ I h) fun c s1 ⟨H1,I1,q1⟩=>?_)
 cases c with
 | true=>exact ⟨H1,I1,q1⟩
 | false=>exact hb wh pins s1 σ H1 Q I1 q1
theorem yB (ha:PT X a tA):PT X (.UnaryOp .Not a pos) (UX tA):=by
 intro pins s σ H Q I h
 exact isTrue_not (ha pins s σ H (fun c H1=>Q (!c) H1) I h)
def V2 (ta tb:TE):TE:=fun σ H Q=>ta σ H fun x H1=>∃ c,x = .bl c /\ if c=true then tb σ H1 Q else Q (.bl false) H1
def V3 (ta:TE):TE:=fun σ H Q=>ta σ H fun x H1=>∃ c,x = .bl c /\ Q (.bl (!c)) H1
theorem wL {op} {t:TE} (h:PE X a t):PE X (.BoolOp op [a] pos) t:=fun pins s σ H Q I hw=>BoolOp_one (h pins s σ H Q I hw)
theorem xv (ha:PE X a ta) (hb:PE X (.BoolOp .And (b :: rest) pos) tb):PE X (.BoolOp .And (a :: b :: rest) pos) (V2 ta tb):=by
 intro pins s σ H Q I h
 refine BoolOp_and (Tx (ha pins s σ H _ I h) fun v s1 ⟨x,H1,I1,r1,q1⟩=>?_)
 obtain ⟨c,rfl,q1⟩:=q1
 cases r1
 refine wpAny_truthy_bool ?_
 cases c with
 | true=>exact hb pins s1 σ H1 Q I1 q1
 | false=>exact ⟨.bl false,H1,I1,rfl,q1⟩
theorem rA (ha:PE X a ta):PE X (.UnaryOp .Not a pos) (V3 ta):=by
 intro pins s σ H Q I h
 refine UnaryOp_ (Tx (ha pins s σ H _ I h) fun v s1 ⟨x,H1,I1,r1,q1⟩=>?_)
 obtain ⟨c,rfl,q1⟩:=q1
 cases r1
 exact not_of (wpAny_truthy_bool ⟨.bl (!c),H1,I1,rfl,q1⟩)
end
end L2
namespace L2
open PySem PySem.Spec PyProof.Rows
def TB (K:Tl) (H:Hp) (a:Addr) (xs:List V):Prop :=
 Rd H a (.lst xs) ∨
  ∃ (o:Obj) (its:Array Value) (n:Nat),K.lookup a=some o /\ o.cls = .type "list" /\ o.dict=none /\ o.data = .seq its n /\ its.size<=sizeLine /\ zC xs its.toList
def TC (K:Tl) (H:Hp) (a:Addr) (xs:List V):Prop :=
 Rd H a (.tup xs) ∨
  ∃ (o:Obj) (its:Array Value) (n:Nat),K.lookup a=some o /\ o.cls = .type "tuple" /\ o.data = .seq its n /\ its.size<=sizeLine /\ zC xs its.toList
def UY:Value->Option V
 | .none=>some .non
 | .bool b=>some (.bl b)
 | .int i _=>some (.int i)
 | .str x _=>some (.str x)
 | .bytes b _=>some (.byt b)
 | .float b _=>some (.flt b)
 | .ref a=>some (.ref a)
 | .type n=>some (.ty n)
 | _=>none
theorem zJ.abs {x:V} {u:Value} (r:zJ x u):UY u=some x:=by
 cases x with
 | non=>cases r; rfl
 | bl _=>cases r; rfl
 | int _=>obtain ⟨t,rfl⟩:=r; rfl
 | str _=>obtain ⟨t,rfl⟩:=r; rfl
 | byt _=>obtain ⟨t,rfl⟩:=r; rfl
 | flt _=>obtain ⟨t,rfl⟩:=r; rfl
 | ref _=>cases r; rfl
 | ty _=>cases r; rfl
theorem zJ.inj {x y:V} {u:Value} (r:zJ x u) (q:zJ y u):x=y:=Option.some.inj (r.abs.symm.trans q.abs)
theorem zC.inj:∀ {xs ys:List V} {us:List Value},zC xs us->zC ys us->xs=ys
 | _,_,_,.nil,.nil=>rfl
 | _,_,_,.cons r t,.cons r' t'=>by rw [r.inj r',zC.inj t t']
section
variable {X:Cx} {pins:List (Addr × Obj)} {σ:St} {H:Hp} {s:Shared} {a:Addr} {xs ys:List V}
theorem TB.of {K:Tl} (h:H a=some (.lst xs)):TB K H a xs:=.inl (.inl h)
theorem TC.of {K:Tl} (h:H a=some (.tup xs)):TC K H a xs:=.inl (.inl h)
theorem Inv.list (I:Inv X pins σ H s) (h:TB X.K H a xs):∃ its:List Value,zC xs its /\ PlainL s.heap a its.toArray /\ xs.length<=sizeLine:=by
 rcases h with h | ⟨o,its,n,hk,hc,hd,hs,hz,r⟩
 ·obtain ⟨z,its,n,r,e⟩:=h.ok I.hok
  exact ⟨its,r,⟨_,n,e,rfl,rfl,rfl⟩,z⟩
 ·refine ⟨its.toList,r,⟨o,n,I.kIn a o hk,hc,hd,by simpa using hs⟩,?_⟩
  have e:=r.length
  simp only [Array.length_toList] at e
  omega
theorem Inv.tuple (I:Inv X pins σ H s) (h:TC X.K H a xs):∃ its:List Value,zC xs its /\ IsTup s.heap a its.toArray /\ xs.length<=sizeLine:=by
 rcases h with h | ⟨o,its,n,hk,hc,hs,hz,r⟩
 ·obtain ⟨z,its,r,p⟩:=h.ok I.hok
  exact ⟨its,r,p,z⟩
 ·refine ⟨its.toList,r,⟨o,I.kIn a o hk,hc,n,by simpa using hs⟩,?_⟩
  have e:=r.length
  simp only [Array.length_toList] at e
  omega
theorem Inv.list_inj (I:Inv X pins σ H s) (h:TB X.K H a xs) (h':TB X.K H a ys):xs=ys:=by
 obtain ⟨its,r,⟨o,n,e,_,_,d⟩,_⟩:=I.list h
 obtain ⟨its',r',⟨o',n',e',_,_,d'⟩,_⟩:=I.list h'
 rw [e] at e'; cases e'
 rw [d] at d'
 injection d' with d1 _
 have:its=its':=by simpa using congrArg Array.toList d1
 subst this
 exact r.inj r'
theorem Inv.tuple_inj (I:Inv X pins σ H s) (h:TC X.K H a xs) (h':TC X.K H a ys):xs=ys:=by
 obtain ⟨its,r,⟨o,e,_,n,d⟩,_⟩:=I.tuple h
 obtain ⟨its',r',⟨o',e',_,n',d'⟩,_⟩:=I.tuple h'
 rw [e] at e'; cases e'
 rw [d] at d'
 injection d' with d1 _
 have:its=its':=by simpa using congrArg Array.toList d1
 subst this
 exact r.inj r'
end
abbrev Cx.wish (X:Cx) (E:Tn):Cx:={ X with xe:=E }
abbrev Cx.nox (X:Cx):Cx:=X.wish fun _ _=>False
theorem Cx.Ok.wish {X:Cx} (ok:X.Ok) (E:Tn):(X.wish E).Ok :=
 ⟨ok.mod,ok.kind,ok.glob,ok.blt,ok.above,ok.inj,ok.has,ok.cab,ok.hd,ok.frames,ok.stk,ok.exf,ok.bs,ok.bsz,ok.noex,ok.exfs,ok.funs,ok.frf⟩
theorem Cx.Ok.unwish {X:Cx} {E:Tn} (ok:(X.wish E).Ok):X.Ok :=
 ⟨ok.mod,ok.kind,ok.glob,ok.blt,ok.above,ok.inj,ok.has,ok.cab,ok.hd,ok.frames,ok.stk,ok.exf,ok.bs,ok.bsz,ok.noex,ok.exfs,ok.funs,ok.frf⟩
section
variable {X:Cx} {pins:List (Addr × Obj)} {σ:St} {H:Hp} {s:Shared} {E:Tn}
theorem Inv.wish (I:Inv X pins σ H s) (E:Tn):Inv (X.wish E) pins σ H s:=⟨I.ok.wish E,I.os,I.bare,I.base,I.loc,I.cell,I.free,I.freeC,I.pin,I.hok,I.len⟩
theorem Inv.unwish (I:Inv (X.wish E) pins σ H s):Inv X pins σ H s:=⟨I.ok.unwish,I.os,I.bare,I.base,I.loc,I.cell,I.free,I.freeC,I.pin,I.hok,I.len⟩
theorem SP.unwish {D:Ends} {f:Flow} {s':Shared} (h:SP (X.wish E) pins D f s'):SP X pins D f s':=by
 cases f with
 | next=>obtain ⟨σ',H',I,q⟩:=h; exact ⟨σ',H',I.unwish,q⟩
 | brk=>obtain ⟨σ',H',I,q⟩:=h; exact ⟨σ',H',I.unwish,q⟩
 | cont=>obtain ⟨σ',H',I,q⟩:=h; exact ⟨σ',H',I.unwish,q⟩
 | ret u=>obtain ⟨v,σ',H',I,r,q⟩:=h; exact ⟨v,σ',H',I.unwish,r,q⟩
theorem Tw.nox {st:List Stmt} {t:TS} (h:Tw X.nox st t):Tw X st t:=fun pins s σ H D I hw =>
 wpAny_mono (h pins s σ H D (I.wish _) hw) (fun _ _ q=>q.unwish) fun _ _ z=>False.elim z
end
section
variable {X:Cx} {st:Stmt} {rest:List Stmt} {t u:TS} {e:Expr} {te:TE} {pos:Pos}
def WX:TS:=fun D σ H=>D.nx σ H
def WY (t u:TS):TS:=fun D σ H=>t { D with nx:=u D } σ H
theorem zE:Tw X [] WX:=fun _ _ σ H _ I h=>wpAny_execs_nil ⟨σ,H,I,h⟩
theorem zd (h1:PS X st t) (h2:Tw X rest u):Tw X (st :: rest) (WY t u):=by
 intro pins s σ H D I h
 refine wpAny_execs_cons (Tx (h1 pins s σ H { D with nx:=u D } I h) fun f s1 q=>?_)
 cases f with
 | next =>
  obtain ⟨σ',H',I',q⟩:=q
  exact h2 pins s1 σ' H' D I' q
 | ret v=>exact q
 | brk=>exact q
 | cont=>exact q
theorem zg (h1:PS X st t):Tw X [st] t:=by
 intro pins s σ H D I h
 refine wpAny_execs_cons (Tx (h1 pins s σ H D I h) fun f s1 q=>?_)
 cases f with
 | next=>exact wpAny_execs_nil q
 | ret v=>exact q
 | brk=>exact q
 | cont=>exact q
theorem Inv.quiet {pins:List (Addr × Obj)} {σ:St} {H:Hp} {s:Shared} (I:Inv X pins σ H s):interactive X.env=false:=by simp [interactive,I.ok.kind]
def WZ (te:TE):TS:=fun D σ H=>te σ H fun _ H1=>D.nx σ H1
theorem yp (he:PE X e te) (hs:swapsWith e none pos.line X.env=pure false:=by rfl):PS X (.Expr e pos) (WZ te):=by
 intro pins s σ H D I h
 exact wpAny_Expr_any (Tx (he pins s σ H _ I h) fun v s1 ⟨x,H1,I1,r1,q1⟩=>⟨σ,H1,I1,q1⟩) I.quiet hs
def UZ (te:TE):TS:=fun D σ H=>te σ H D.rt
theorem zz (he:PE X e te):PS X (.Return (some e) pos) (UZ te):=by
 intro pins s σ H D I h
 exact wpAny_Return_some (Tx (he pins s σ H _ I h) fun v s1 ⟨x,H1,I1,r1,q1⟩=>⟨x,σ,H1,I1,r1,q1⟩)
def VX (c:TT) (t u:TS):TS:=fun D σ H=>c σ H fun b H1=>if b=true then t D σ H1 else u D σ H1
theorem yq {c:Expr} {a b:List Stmt} {tc:TT} (hc:PT X c tc) (ha:Tw X a t) (hb:Tw X b u):PS X (.If c a b pos) (VX tc t u):=by
 intro pins s σ H D I h
 refine wpAny_If (Tx (hc pins s σ H _ I h) fun d s1 ⟨H1,I1,q1⟩=>?_)
 cases d with
 | true=>exact ha pins s1 σ H1 D I1 q1
 | false=>exact hb pins s1 σ H1 D I1 q1
def W0:TS:=fun _ _ _=>False
theorem v5:PS X st W0:=fun _ _ _ _ _ _ h=>h.elim
end
abbrev TG:=V->St->Hp->(St->Hp->Prop)->Prop
abbrev TD:=List V->St->Hp->(St->Hp->Prop)->Prop
def PG (X:Cx) (target:Expr) (t:TG):Prop :=
 ∀ (pins:List (Addr × Obj)) (s:Shared) (σ:St) (H:Hp) (v:V) (u:Value) (Q:St->Hp->Prop),Inv X pins σ H s->zJ v u->t v σ H Q →
  wpAny (model X.prog X.w) X.A (assign target X.env u) (fun _ s'=>∃ σ' H',Inv X pins σ' H' s' /\ Q σ' H') X.xe s
def TF (X:Cx) (ts:List Expr) (t:TD):Prop :=
 ∀ (pins:List (Addr × Obj)) (s:Shared) (σ:St) (H:Hp) (vs:List V) (us:List Value) (Q:St->Hp->Prop),Inv X pins σ H s->zC vs us->t vs σ H Q →
  wpAny (model X.prog X.w) X.A (assignInOrder ((assignEach ts X.env).map (·.2)) us) (fun _ s'=>∃ σ' H',Inv X pins σ' H' s' /\ Q σ' H') X.xe s
abbrev V4:=V->V->V->Hp->(Hp->Prop)->Prop
def UF (X:Cx) (t:V4):Prop :=
 ∀ (pins:List (Addr × Obj)) (s:Shared) (σ:St) (H:Hp) (o i v:V) (ov iv u:Value) (Q:Hp->Prop),Inv X pins σ H s->zJ o ov->zJ i iv->zJ v u->t o i v H Q →
  wpAny (model X.prog X.w) X.A (setItem ov iv u) (fun _ s'=>∃ H',Inv X pins σ H' s' /\ Q H') X.xe s
section
variable {X:Cx} {pos:Pos}
def x8 (i:Nat):TG:=fun v σ H Q=>Q (σ.set i (some v)) H
theorem zo {i:Nat} {x:Str} (hN:X.N.Nodup) (hi:X.N[i]? = some x) (hx:Tv X.env.scope x) (hf:X.fn x=true \/ X.env.scope.names.lookup x=some .local :=by first | exact .inl rfl | exact .inr rfl | assumption):PG X (.Name x pos) (x8 i):=by
 intro pins s σ H v u Q I r h
 exact wpAny_assign_Name (xc I hN hi hx r (fun s' I'=>⟨_,H,I',h⟩) hf)
def U0:TD:=fun vs σ H Q=>vs=[] /\ Q σ H
def V5 (t:TG) (u:TD):TD:=fun vs σ H Q=>∃ v r,vs=v :: r /\ t v σ H fun σ' H'=>u r σ' H' Q
theorem xD:TF X [] U0:=by
 intro pins s σ H vs us Q I r h
 obtain ⟨e,h⟩:=h
 subst e
 cases r
 exact assignInOrder_nil ⟨σ,H,I,h⟩
theorem zS {e:Expr} {es:List Expr} {t:TG} {u:TD} (h1:PG X e t) (h2:TF X es u)
  (hs:(assignEach (e :: es) X.env).map (·.2)=assign e X.env :: (assignEach es X.env).map (·.2):=by rfl):TF X (e :: es) (V5 t u):=by
 intro pins s σ H vs us Q I r h
 obtain ⟨v,vr,e1,h⟩:=h
 subst e1
 cases r with
 | cons r rr =>
  rw [hs]
  refine assignInOrder_cons (Tx (h1 pins s σ H _ _ _ I r h) fun _ s1 ⟨σ1,H1,I1,q1⟩=>?_)
  exact h2 pins s1 σ1 H1 _ _ Q I1 rr q1
def UG (K:Tl) (n:Nat) (t:TD):TG:=fun v σ H Q=>∃ a xs,v = .ref a /\ TC K H a xs /\ xs.length=n /\ t xs σ H Q
theorem uE {es:List Expr} {k:Nat} {t:TD} {n:Nat} (hc:X.calm=true) (h:TF X es t)
  (hn:(assignEach es X.env).length=n:=by rfl) (hst:(assignEach es X.env).findIdx? (·.1)=none:=by rfl):PG X (.Tuple es k pos) (UG X.K n t):=by
 intro pins s σ H v u Q I r hw
 obtain ⟨a,xs,e1,hq,hl,hw⟩:=hw
 subst e1
 cases r
 obtain ⟨its,rv,ht,hz⟩:=I.tuple hq
 refine assign_Tuple_tuple (I.ok.hd hc) ht (by simp [hn,← hl,rv.length]) hst fun h' hx=>?_
 have I1:Inv X pins σ H { s with heap:=h' }:=I.kept (t':=s.toks) fun b o e=>hx b o (Nat.ne_of_lt (Heap.lt_size e)) e
 exact h pins _ σ H xs _ Q I1 (by simpa using rv) hw
def U1 (to ti:TE) (t:V4):TG:=fun v σ H Q=>to σ H fun o H1=>ti σ H1 fun i H2=>t o i v H2 fun H3=>Q σ H3
theorem jH {o i:Expr} {to ti:TE} {t:V4} (ho:PE X o to) (hi:PE X i ti) (hs:UF X t)
  (ha:∀ v,assign (.Subscript o i pos) X.env v=(do
   let ov ← holding [v] (eval o X.env)
   let iv ← holding [v,ov] (eval i X.env)
   standAt pos
   holding [v,ov,iv] (setItem ov iv v)
   release [v,ov,iv] []):=by intro _; rfl):PG X (.Subscript o i pos) (U1 to ti t):=by
 intro pins s σ H v u Q I r h
 rw [ha]
 refine wpAny_bind (wpAny_holding (Tx (ho pins s σ H _ I h) fun ov s1 ⟨x,H1,I1,r1,q1⟩=>?_))
 refine wpAny_bind (wpAny_holding (Tx (hi pins s1 σ H1 _ I1 q1) fun iv s2 ⟨y,H2,I2,r2,q2⟩=>?_))
 refine wpAny_bind (wpAny_standAt (wpAny_bind (wpAny_holding (Tx (hs pins s2 σ H2 x y v ov iv u _ I2 r1 r2 r q2) fun _ s3 ⟨H3,I3,q3⟩=>?_))))
 exact wpAny_release ⟨σ,H3,I3,q3⟩
def W1 (te:TE) (g:TG):TS:=fun D σ H=>te σ H fun x H1=>g x σ H1 D.nx
theorem rB {tg e:Expr} {te:TE} {g:TG} (he:PE X e te) (hg:PG X tg g) (hs:swapsWithSole [tg] e pos.line X.env=pure false:=by rfl) (hw:swappedStores [tg] e X.env=pure none:=by rfl)
  (h1:(assignEach [tg] X.env).map (·.2)=[assign tg X.env]:=by rfl):PS X (.Assign [tg] e pos) (W1 te g):=by
 intro pins s σ H D I h
 refine wpAny_Assign_stores (Tx (he pins s σ H _ I h) fun v s1 ⟨x,H1,I1,r1,q1⟩=>?_) hs hw
 rw [h1]
 exact Tx (hg pins s1 σ H1 x v _ I1 r1 q1) fun _ s2 q=>q
theorem zH {i:Nat} {x:Str} {e:Expr} {te:TE} {pos':Pos} (hN:X.N.Nodup) (hi:X.N[i]? = some x) (hx:Tv X.env.scope x) (he:PE X e te) (hs:swapsWith e (some (.Name x pos')) pos.line X.env=pure false:=by rfl) (hf:X.fn x=true \/ X.env.scope.names.lookup x=some .local :=by first | exact .inl rfl | exact .inr rfl | assumption) :
  PS X (.Assign [.Name x pos'] e pos) (W1 te (x8 i)):=by
 intro pins s σ H D I h
 refine wpAny_Assign_Name (Tx (he pins s σ H _ I h) fun v s1 ⟨y,H1,I1,r1,q1⟩=>?_) hs
 exact xc I1 hN hi hx r1 (fun s2 I2=>⟨_,H1,I2,q1⟩) hf
def U2 (i j:Nat) (ta:TA):TS:=fun D σ H=>ta σ H fun vs H1=>∃ v w,vs=[v,w] /\ D.nx ((σ.set i (some v)).set j (some w)) H1
theorem Xv {i j:Nat} {x y:Str} {a b:Expr} {ta:TA} {px py pt:Pos} {kt k2 pt2} (hc:X.calm=true) (hN:X.N.Nodup) (hi:X.N[i]? = some x) (hj:X.N[j]? = some y) (hij:i ≠ j)
  (hx:X.env.scope.names.lookup x=some .local) (hy:X.env.scope.names.lookup y=some .local) (ha:PA X [a,b] ta)
  (hw:swappedStores [.Tuple [.Name x px,.Name y py] kt pt] (.Tuple [a,b] k2 pt2) X.env=pure (some [x,y]))
  (hs:swapsWithSole [.Tuple [.Name x px,.Name y py] kt pt] (.Tuple [a,b] k2 pt2) pos.line X.env=pure false:=by rfl) :
  PS X (.Assign [.Tuple [.Name x px,.Name y py] kt pt] (.Tuple [a,b] k2 pt2) pos) (U2 i j ta):=by
 intro pins s σ H D I h
 rw [exec_Assign_arm]
 refine wpAny_bind (wpAny_standAt ?_)
 rw [hs]
 refine wpAny_bind (wpAny_pure ?_)
 rw [if_neg (by decide)]
 refine wpAny_bind (Tuple_ (Tx (ha _ pins s σ H _ I h) fun us s1 ⟨vs,H1,I1,r1,q1⟩=>?_))
 obtain ⟨v,w,e1,q1⟩:=q1
 subst e1
 obtain ⟨u1,u2,rfl,rv,rw'⟩:∃ u1 u2,us=[u1,u2] /\ zJ v u1 /\ zJ w u2:=by
  cases r1 with
  | cons p q =>
   cases q with
   | cons p' q' =>
    cases q'
    exact ⟨_,_,rfl,p,p'⟩
 refine wpAny_newObj_type ?_ (by show 2<=sizeLine; decide)
 have I2:Inv X pins σ H1 { s1 with heap:=s1.heap.push { cls:=.type "tuple",data:=.seq [u1,u2].toArray } }:=I1.kept (t':=s1.toks) fun b o e=>Heap.get?_push_of_some _ e
 rw [hw]
 refine wpAny_bind (wpAny_pure ?_)
 show wpAny (model X.prog X.w) X.A (do rule "assign.swapped-stores"; let items ← unpackItems (.ref s1.heap.objs.size) 2 none; assignInOrder [fun v=>bindName X.env y v,fun v=>bindName X.env x v] items.reverse; pure Flow.next) _ _ _
 refine wpAny_bind (wpAny_rule (wpAny_bind (unpackItems_tuple (items:=#[u1,u2]) (I.ok.hd hc) (IsTup.new s1.heap _) fun h' hx'=>?_)))
 have I3:=I2.kept (h':=h') (t':=s1.toks) fun b o e=>hx' b o (Nat.ne_of_lt (Heap.lt_size e)) e
 show wpAny _ _ (assignInOrder [fun v=>bindName X.env y v,fun v=>bindName X.env x v] [u2,u1] >>= fun _=>pure Flow.next) _ _ _
 refine wpAny_bind (assignInOrder_cons (wpAny_bindName (xc I3 hN hj (.inl hy) rw' (fun s2 I4=>?_) (.inr hy))))
 refine assignInOrder_cons (wpAny_bindName (xc I4 hN hi (.inl hx) rv (fun s3 I5=>assignInOrder_nil (wpAny_pure ?_)) (.inr hx)))
 rw [List.set_comm _ _ (Ne.symm hij)] at I5
 exact ⟨_,H1,I5,q1⟩
end
section
variable {X:Cx} {pos:Pos}
def W2 (c:TT) (tb:TS):TS:=fun D σ H=>∃ W:Nat->St->Hp->Prop,(∃ m,W m σ H) /\ ∀ m σ H,W m σ H →
 c σ H fun b H1=>if b=true then ∃ N:St->Hp->Prop,(∀ σ' H',N σ' H' -> ∃ m',m' < m /\ W m' σ' H') /\ tb { D with nx:=N,ct:=N,bk:=D.nx } σ H1 else D.nx σ H1
theorem rC {c:Expr} {body:List Stmt} {tc:TT} {tb:TS} (hp:PassesOwn (model X.prog X.w) X.A X.env X.xe) (hc:PT X c tc) (hb:Tw X body tb):PS X (.While c body [] pos) (W2 tc tb):=by
 intro pins s σ H D I h
 obtain ⟨W,⟨m0,w0⟩,turn⟩:=h
 refine wpAny_While (codeAny_whileLoop (fun n s'=>∃ σ' H',Inv X pins σ' H' s' /\ W n σ' H') ?_ m0 ⟨σ,H,I,w0⟩)
 rintro n s1 ⟨σ1,H1,I1,w1⟩
 refine wpAny_passesOwn hp (Tx (hc pins s1 σ1 H1 _ I1 (turn n σ1 H1 w1)) fun b s2 ⟨H2,I2,q2⟩=>?_)
 cases b with
 | true =>
  obtain ⟨N,hN,q2⟩:=q2
  rw [if_pos rfl]
  refine wpAny_passesOwn hp (Tx (hb pins s2 σ1 H2 _ I2 q2) fun f s3 q3=>?_)
  cases f with
  | next =>
   obtain ⟨σ3,H3,I3,n3⟩:=q3
   obtain ⟨m',hm,w3⟩:=hN σ3 H3 n3
   exact ⟨m',hm,σ3,H3,I3,w3⟩
  | cont =>
   obtain ⟨σ3,H3,I3,n3⟩:=q3
   obtain ⟨m',hm,w3⟩:=hN σ3 H3 n3
   exact ⟨m',hm,σ3,H3,I3,w3⟩
  | brk=>exact q3
  | ret v=>exact q3
 | false =>
  rw [if_neg Bool.false_ne_true]
  exact wpAny_execs_nil ⟨σ1,H2,I2,q2⟩
end
structure It where
 go:Nat->Hp->Prop
 yld:Nat->Hp->V->Hp->Prop
 stop:Nat->Hp->Prop
def yK (X:Cx) (pins:List (Addr × Obj)) (H:Hp) (b:Addr):Prop :=
 H b=none /\ b ≠ X.env.locals /\ b ∉ X.fs /\ (b ∈ X.ex \/ X.s₀.heap.objs.size<=b) /\ (∀ x c,X.env.cells.lookup x=some c->c ≠ b) /\ ∀ p ∈ X.pn ++ pins,p.1 ≠ b
theorem Inv.fpOk {X:Cx} {pins:List (Addr × Obj)} {σ:St} {H H':Hp} {s:Shared} {b:Addr} (I:Inv X pins σ H s) (hb:s.heap.objs.size<=b) (hn:H' b=none):yK X pins H' b:=by
 refine ⟨hn,Nat.ne_of_gt (Nat.lt_of_lt_of_le I.lt hb),I.nofs hb,.inr (Nat.le_trans I.sz hb),fun x c e z=>?_,fun p hp z=>?_⟩
 ·obtain ⟨v,q⟩:=I.cell x c e
  exact absurd (Nat.lt_of_lt_of_le q.lt (by rw [z]; exact hb)) (Nat.lt_irrefl _)
 ·exact absurd (Nat.lt_of_lt_of_le (Heap.lt_size (I.pin p hp).1) (by rw [z]; exact hb)) (Nat.lt_irrefl _)
structure Turn (P:Program) (w:World) (K:Tl) (tg:Expr) (J:It) (fp:List Addr) (it:Addr) (tn:Nat->Heap->Prop):Prop where
 mem:it ∈ fp
 obj:∀ i h,tn i h -> ∀ b ∈ fp,∃ o,h.get? b=some o /\ ∀ v,o.data ≠ .cell v
 keep:∀ i h h',tn i h->(∀ b ∈ fp,∀ o,h.get? b=some o->h'.get? b=some o)->tn i h'
 item:∀ (X:Cx),X.prog=P->X.w=w->X.K=K->X.calm=true -> ∀ (i:Nat) (pins:List (Addr × Obj)) (s:Shared) (σ:St) (H:Hp) (E:Tn),Inv X pins σ H s->(∀ b ∈ fp,yK X pins H b)->tn i s.heap->J.go i H →
  wpAny (model P w) X.A (pyNext (.ref it)) (fun r s1=>∃ u,r=some u ∧
   wpAny (model P w) X.A (letOwnedTupleGo tg (.ref it) u) (fun _ s2=>∃ x H',Inv X pins σ H' s2 /\ zJ x u /\ J.yld i H x H' /\ tn (i+1) s2.heap /\ ∀ b ∈ fp,H' b=none) E s1) E s
 done:∀ (X:Cx),X.prog=P->X.w=w->X.K=K->X.calm=true -> ∀ (i:Nat) (pins:List (Addr × Obj)) (s:Shared) (σ:St) (H:Hp) (E:Tn),Inv X pins σ H s->(∀ b ∈ fp,yK X pins H b)->tn i s.heap->J.stop i H →
  wpAny (model P w) X.A (pyNext (.ref it)) (fun r s1=>r=none /\ Inv X pins σ H s1) E s
 self:∀ (A:Around) (i:Nat) (s:Shared) (Q:Tn) (E:Tn),tn i s.heap->Q (.ref it) s->wpAny (model P w) A (pyIter (.ref it)) Q E s
abbrev TI:=St->Hp->(It->Hp->Prop)->Prop
def TH (X:Cx) (pins:List (Addr × Obj)) (σ:St) (tg:Expr) (R:It->Hp->Prop) (itv:Value) (s2:Shared):Prop :=
 ∃ (it:Addr) (fp:List Addr) (tn:Nat->Heap->Prop) (J:It) (H':Hp),itv = .ref it /\ Inv X pins σ H' s2 /\ Turn X.prog X.w X.K tg J fp it tn /\ tn 0 s2.heap /\ (∀ b ∈ fp,yK X pins H' b) /\ R J H'
def PI (X:Cx) (tg iter:Expr) (wi:TI):Prop :=
 ∀ (pins:List (Addr × Obj)) (s:Shared) (σ:St) (H:Hp) (R:It->Hp->Prop),Inv X pins σ H s->wi σ H R →
  wpAny (model X.prog X.w) X.A (eval iter X.env) (fun v s1=>wpAny (model X.prog X.w) X.A (pyIter v) (TH X pins σ tg R) X.xe s1) X.xe s
theorem XX {M:Model} {A:Around} {E:Tn} {s:Shared} {tg:Expr} {it:Addr} {u:Value} {o:Obj} {n:String} {vs:Array Value} {Q:Unit->Shared->Prop} (ho:s.heap.get? it=some o) (hc:o.cls = .type n) (hd:o.data = .fields vs)
    (hn:["enumerate","zip","dict_itemiterator","dict_reverseitemiterator","odict_iterator","itertools.zip_longest","itertools.pairwise"].contains n=false) (hQ:Q () s):wpAny M A (letOwnedTupleGo tg (.ref it) u) Q E s:=by
  unfold letOwnedTupleGo
  cases tg <;> first
    | exact wpAny_pure hQ
    | (cases u <;> first
        | exact wpAny_pure hQ
        | (refine wpAny_bind (wpAny_load ho ?_)
           rw [hc,hd]
           show wpAny M A (if (["enumerate","zip","dict_itemiterator","dict_reverseitemiterator","odict_iterator","itertools.zip_longest","itertools.pairwise"].contains n && vs[0]? == some (rawInt _))=true then _ else _) Q E s
           rw [if_neg (by intro h; rw [hn,Bool.false_and] at h; cases h)]
           exact wpAny_pure hQ))
def TJ (K:Tl) (a:Addr):It :=
 ⟨fun i H=>∃ xs x,TB K H a xs /\ xs[i]? = some x,fun i H x H'=>H' = H /\ ∀ xs,TB K H a xs->xs[i]? = some x,fun i H=>∃ xs,TB K H a xs /\ xs.length<=i⟩
def TK (K:Tl) (a:Addr):It :=
 ⟨fun i H=>∃ xs x,TC K H a xs /\ xs[i]? = some x,fun i H x H'=>H' = H /\ ∀ xs,TC K H a xs->xs[i]? = some x,fun i H=>∃ xs,TC K H a xs /\ xs.length<=i⟩
def TN (lo:Int) (n:Nat):It:=⟨fun i _=>i < n,fun i H x H'=>H' = H /\ x = .int (lo+i),fun i _=>n<=i⟩
theorem jI {P:Program} {w:World} {K:Tl} {tg:Expr} (a it:Addr):Turn P w K tg (TJ K a) [it] it (fun i h=>h.IsListIter it a i) where
 mem:=by simp
 obj:=fun i h st b hb=>by
  have e:b=it:=by simpa using hb
  subst e
  obtain ⟨o,e,c,d⟩:=st
  exact ⟨o,e,fun v z=>by rw [d] at z; cases z⟩
 keep:=fun i h h' st k=>st.at fun o e=>k it (by simp) o e
 item:=by
  intro X hP hw hK hc i pins s σ H E I hf st hg
  subst hP hw hK
  obtain ⟨xs,x,hq,hx⟩:=hg
  obtain ⟨its,rv,p,hz⟩:=I.list hq
  obtain ⟨u,hu,ru⟩:=rv.get hx
  obtain ⟨f0,f1,f2,f3,f4,f5⟩:=hf it (by simp)
  refine wpAny_pyNext_list_item st p.isList (x:=u) (by simpa using hu) fun h' st' sb=>?_
  have I1:Inv X pins σ H { s with heap:=h' }:=I.turned (t':=s.toks) (fun b o hb e=>(sb.2 b hb).trans e) f0 f1 f3 f4 f5
  obtain ⟨o,e,c,d⟩:=id st'
  exact ⟨u,rfl,XX (s:={ s with heap:=h' }) e c d (by decide) ⟨x,H,I1,ru,⟨rfl,fun ys hy=>by rw [I.list_inj hy hq]; exact hx⟩,st',fun b hb=>(hf b hb).1⟩⟩
 done:=by
  intro X hP hw hK hc i pins s σ H E I hf st hg
  subst hP hw hK
  obtain ⟨xs,hq,hx⟩:=hg
  obtain ⟨its,rv,p,hz⟩:=I.list hq
  obtain ⟨f0,f1,f2,f3,f4,f5⟩:=hf it (by simp)
  have hl:=rv.length
  exact wpAny_pyNext_list_end (I.ok.hd hc) st p.isList (by simp; omega) fun h' eb=>⟨rfl,I.turned (t':=s.toks) (fun b o hb e=>eb b o hb e) f0 f1 f3 f4 f5⟩
 self:=fun _ _ _ _ _ st h=>wpAny_pyIter_listiter st h
theorem qG {P:Program} {w:World} {K:Tl} {tg:Expr} (a it:Addr):Turn P w K tg (TK K a) [it] it (fun i h=>h.IsTupleIter it a i) where
 mem:=by simp
 obj:=fun i h st b hb=>by
  have e:b=it:=by simpa using hb
  subst e
  obtain ⟨o,e,c,d⟩:=st
  exact ⟨o,e,fun v z=>by rw [d] at z; cases z⟩
 keep:=fun i h h' st k=>st.at fun o e=>k it (by simp) o e
 item:=by
  intro X hP hw hK hc i pins s σ H E I hf st hg
  subst hP hw hK
  obtain ⟨xs,x,hq,hx⟩:=hg
  obtain ⟨its,rv,p,hz⟩:=I.tuple hq
  obtain ⟨u,hu,ru⟩:=rv.get hx
  obtain ⟨f0,f1,f2,f3,f4,f5⟩:=hf it (by simp)
  refine wpAny_pyNext_tuple_item st (show s.heap.IsTuple a its.toArray from p) (x:=u) (by simpa using hu) fun h' st' sb=>?_
  have I1:Inv X pins σ H { s with heap:=h' }:=I.turned (t':=s.toks) (fun b o hb e=>(sb.2 b hb).trans e) f0 f1 f3 f4 f5
  obtain ⟨o,e,c,d⟩:=id st'
  exact ⟨u,rfl,XX (s:={ s with heap:=h' }) e c d (by decide) ⟨x,H,I1,ru,⟨rfl,fun ys hy=>by rw [I.tuple_inj hy hq]; exact hx⟩,st',fun b hb=>(hf b hb).1⟩⟩
 done:=by
  intro X hP hw hK hc i pins s σ H E I hf st hg
  subst hP hw hK
  obtain ⟨xs,hq,hx⟩:=hg
  obtain ⟨its,rv,p,hz⟩:=I.tuple hq
  obtain ⟨f0,f1,f2,f3,f4,f5⟩:=hf it (by simp)
  have hl:=rv.length
  exact wpAny_pyNext_tuple_end (I.ok.hd hc) st (show s.heap.IsTuple a its.toArray from p) (by simp; omega) fun h' eb=>⟨rfl,I.turned (t':=s.toks) (fun b o hb e=>eb b o hb e) f0 f1 f3 f4 f5⟩
 self:=fun _ _ _ _ _ st h=>wpAny_pyIter_tupleiter st h
theorem qH {P:Program} {w:World} {K:Tl} {tg:Expr} (it:Addr) (lo:Int) (n:Nat):Turn P w K tg (TN lo n) [it] it (fun i h=>IsRangeIter h it (lo+(i:Nat) * 1) ((n:Int) - (i:Nat)) 1) where
 mem:=by simp
 obj:=fun i h st b hb=>by
  have e:b=it:=by simpa using hb
  subst e
  exact ⟨_,st,fun v z=>by
   have z':Data.fields _=Data.cell v:=z
   cases z'⟩
 keep:=fun i h h' st k=>k it (by simp) _ st
 item:=by
  intro X hP hw hK hc i pins s σ H E I hf st hg
  subst hP hw hK
  obtain ⟨f0,f1,f2,f3,f4,f5⟩:=hf it (by simp)
  have W:=Walks.range (prog:=X.prog) (w:=X.w) (I.ok.hd hc) it lo 1 n
  refine W.item i s _ _ hg st fun v h' tk hv st' kk=>?_
  obtain ⟨t,rfl⟩:=hv
  have I1:Inv X pins σ H { s with heap:=h',toks:=tk }:=I.turned (fun b o hb e=>kk b o (by simpa using hb) e) f0 f1 f3 f4 f5
  refine ⟨_,rfl,XX (s:={ s with heap:=h',toks:=tk }) (n:="range_iterator") st' rfl rfl (by decide) ⟨.int (lo+i),H,I1,⟨t,?_⟩,⟨rfl,rfl⟩,st',fun b hb=>(hf b hb).1⟩⟩
  rw [Int.mul_one]
 done:=by
  intro X hP hw hK hc i pins s σ H E I hf st hg
  subst hP hw hK
  obtain ⟨f0,f1,f2,f3,f4,f5⟩:=hf it (by simp)
  exact wpAny_pyNext_range_end (I.ok.hd hc) st (by have:n<=i:=hg; omega) fun h' eb=>⟨rfl,I.turned (t':=s.toks) (fun b o hb e=>eb b o hb e) f0 f1 f3 f4 f5⟩
 self:=fun _ _ _ _ _ st h=>wpAny_pyIter_rangeiter st h
end L2
namespace L2
open PySem PySem.Spec PyProof.Rows
section
variable {X:Cx} {tg:Expr}
def V6 (K:Tl) (tl:TE):TI:=fun σ H R=>tl σ H fun x H1=>∃ a,x = .ref a /\ (∃ xs,TB K H1 a xs) /\ R (TJ K a) H1
def UH (K:Tl) (tl:TE):TI:=fun σ H R=>tl σ H fun x H1=>∃ a,x = .ref a /\ (∃ xs,TC K H1 a xs) /\ R (TK K a) H1
theorem jJ {l:Expr} {tl:TE} (hl:PE X l tl):PI X tg l (V6 X.K tl):=by
 intro pins s σ H R I h
 refine Tx (hl pins s σ H _ I h) fun v s1 ⟨x,H1,I1,r1,q1⟩=>?_
 obtain ⟨a,e,⟨xs,hq⟩,q⟩:=q1
 subst e
 cases r1
 obtain ⟨its,rv,p,hz⟩:=I1.list hq
 refine wpAny_pyIter_list p.isList ?_
 refine ⟨s1.heap.objs.size,[s1.heap.objs.size],_,_,H1,rfl,I1.kept (t':=s1.toks) fun b o e=>Heap.get?_push_of_some _ e,jI a _,⟨_,Heap.get?_push_size _ rfl,rfl,rfl⟩,fun b hb=>?_,q⟩
 have e:b=s1.heap.objs.size:=by simpa using hb
 subst e
 exact I1.fpOk (Nat.le_refl _) (I1.hok.fresh (Nat.le_refl _))
theorem yC {l:Expr} {tl:TE} (hl:PE X l tl):PI X tg l (UH X.K tl):=by
 intro pins s σ H R I h
 refine Tx (hl pins s σ H _ I h) fun v s1 ⟨x,H1,I1,r1,q1⟩=>?_
 obtain ⟨a,e,⟨xs,hq⟩,q⟩:=q1
 subst e
 cases r1
 obtain ⟨its,rv,p,hz⟩:=I1.tuple hq
 refine wpAny_pyIter_tuple (show s1.heap.IsTuple a its.toArray from p) ?_
 refine ⟨s1.heap.objs.size,[s1.heap.objs.size],_,_,H1,rfl,I1.kept (t':=s1.toks) fun b o e=>Heap.get?_push_of_some _ e,qG a _,⟨_,Heap.get?_push_size _ rfl,rfl,rfl⟩,fun b hb=>?_,q⟩
 have e:b=s1.heap.objs.size:=by simpa using hb
 subst e
 exact I1.fpOk (Nat.le_refl _) (I1.hok.fresh (Nat.le_refl _))
theorem Yn {pins:List (Addr × Obj)} {σ:St} {H:Hp} {s:Shared} {R:It->Hp->Prop} {E:Tn} {lo hi:Int} {t u v:Tok} {tk:Nat} (I:Inv X pins σ H s) (h1:-(2 ^ 62)<=lo) (h2:lo < 2 ^ 62) (h3:-(2 ^ 62)<=hi) (h4:hi < 2 ^ 62)
  (q:R (TN lo (hi - lo).toNat) H):wpAny (model X.prog X.w) X.A (pyIter (.ref s.heap.objs.size)) (TH X pins σ tg R) E { s with heap:=s.heap.push { cls:=.type "range",data:=.fields #[.int lo t,.int hi u,.int 1 v] },toks:=tk }:=by
 refine wpAny_pyIter_range (IsRange.new ..) (small_one h1 h2 h3 h4) ?_
 have I1:Inv X pins σ H { s with heap:=s.heap.push { cls:=.type "range",data:=.fields #[.int lo t,.int hi u,.int 1 v] },toks:=tk }:=I.kept fun b o e=>Heap.get?_push_of_some _ e
 refine ⟨(s.heap.push { cls:=.type "range",data:=.fields #[.int lo t,.int hi u,.int 1 v] }).objs.size,[(s.heap.push { cls:=.type "range",data:=.fields #[.int lo t,.int hi u,.int 1 v] }).objs.size],_,_,H,rfl,
  I1.kept (t':=tk) fun b o e=>Heap.get?_push_of_some _ e,qH _ lo (hi - lo).toNat,?_,fun b hb=>?_,q⟩
 ·have e1:lo+((0:Nat):Int) * 1=lo:=by simp
  have e2:(((hi - lo).toNat:Nat):Int) - ((0:Nat):Int)=Builtin.Range.rangeSize lo hi 1:=by rw [rangeSize_one]; split <;> omega
  show IsRangeIter _ _ (lo+((0:Nat):Int) * 1) ((((hi - lo).toNat:Nat):Int) - ((0:Nat):Int)) 1
  rw [e1,e2]
  exact Heap.get?_push_size _ rfl
 ·have e:b=(s.heap.push { cls:=.type "range",data:=.fields #[.int lo t,.int hi u,.int 1 v] }).objs.size:=by simpa using hb
  subst e
  exact I1.fpOk (Nat.le_refl _) (I1.hok.fresh (Nat.le_refl _))
def V7 (ta:TA):TI:=fun σ H R=>ta σ H fun vs H1=>∃ j:Int,vs=[.int j] /\ -(2 ^ 62)<=j /\ j < 2 ^ 62 /\ R (TN 0 j.toNat) H1
theorem ye {a:Expr} {ta:TA} {p pos:Pos} (hg:Gl X "range") (hm:X.mg "range" = none) (ha:PA X [a] ta) (hs:starEach [a] X.env=[(false,eval a X.env)]:=by rfl):PI X tg (.Call (.Name "range" p) [a] [] pos) (V7 ta):=by
 intro pins s σ H R I h
 refine Call_ (xN I hg hm boot_range (PyProof.Rows.callWith_type1 (Tx (ha pos pins s σ H _ I h) fun us s1 ⟨vs,H1,I1,r1,q1⟩=>?_) hs rfl))
 obtain ⟨j,e,q1,q2,q⟩:=q1
 subst e
 cases r1 with
 | cons r rr =>
  cases rr
  obtain ⟨t,rfl⟩:=r
  exact call_range_1 (Yn I1 (by omega) (by omega) q1 q2 (by simpa using q))
def V8 (wi:TI) (g:TG) (tb:TS):TS:=fun D σ H=>wi σ H fun J H1=>∃ W:Nat->Nat->St->Hp->Prop,(∃ m,W 0 m σ H1) /\ ∀ i m σ H,W i m σ H →
 (J.stop i H /\ D.nx σ H) \/ (J.go i H /\ ∃ N:St->Hp->Prop,(∀ σ' H',N σ' H' -> ∃ m',m' < m /\ W (i+1) m' σ' H') /\ ∀ x H',J.yld i H x H' -> g x σ H' fun σ2 H2=>tb { D with nx:=N,ct:=N,bk:=D.nx } σ2 H2)
def wp (fp:List Addr) (h:Heap):List (Addr × Obj):=fp.filterMap fun b=>(h.get? b).map fun o=>(b,o)
theorem zR {fp:List Addr} {h:Heap} {b:Addr} {o:Obj} (hb:b ∈ fp) (e:h.get? b=some o):(b,o) ∈ wp fp h:=List.mem_filterMap.mpr ⟨b,hb,by rw [e]; rfl⟩
theorem jK {fp:List Addr} {h:Heap} {p:Addr × Obj} (hp:p ∈ wp fp h):p.1 ∈ fp /\ h.get? p.1=some p.2:=by
 obtain ⟨b,hb,e⟩:=List.mem_filterMap.mp hp
 cases q:h.get? b with
 | none=>rw [q] at e; cases e
 | some o =>
  rw [q] at e
  have e':(b,o)=p:=Option.some.inj e
  subst e'
  exact ⟨hb,q⟩
theorem Inv.pinned {pins:List (Addr × Obj)} {σ:St} {H:Hp} {s:Shared} {fp:List Addr} (I:Inv X pins σ H s) (hf:∀ b ∈ fp,yK X pins H b) (ho:∀ b ∈ fp,∃ o,s.heap.get? b=some o /\ ∀ v,o.data ≠ .cell v):Inv X (pins ++ wp fp s.heap) σ H s :=
 I.pins_of fun p hp=>(List.mem_append.mp hp).elim (fun z=>I.pin p (List.mem_append_right _ z)) fun z=>by
  obtain ⟨hb,e⟩:=jK z
  obtain ⟨f0,f1,f2,_⟩:=hf p.1 hb
  obtain ⟨o,e',d⟩:=ho p.1 hb
  rw [e] at e'; cases e'
  exact ⟨e,f0,f1,f2,d⟩
theorem Inv.unpinned {pins pl:List (Addr × Obj)} {σ:St} {H:Hp} {s:Shared} (I:Inv X (pins ++ pl) σ H s):Inv X pins σ H s:=I.pins_of fun p hp=>I.pin p (List.mem_append_right _ (List.mem_append_left _ hp))
theorem xO {iter:Expr} {body:List Stmt} {wi:TI} {g:TG} {tb:TS} {pos:Pos} (hp:PassesOwn (model X.prog X.w) X.A X.env X.xe) (hc:X.calm=true) (hi:PI X tg iter wi) (hg:PG X tg g) (hb:Tw X body tb)
  (hs:∀ x,foldedSetIterable iter X.env x=pure x:=by intro _; rfl):PS X (.For tg iter body [] pos) (V8 wi g tb):=by
 intro pins s σ H D I h
 refine wpAny_For (Tx (hi pins s σ H _ I h) fun v s1 h1=>Tx h1 fun itv s2 h2=>?_) hs
 obtain ⟨it,fp,tn,J,H2,e,I2,T,st2,f2,W,⟨m0,w0⟩,turn⟩:=h2
 subst e
 -- what stays true of the iterator's objects through the loop
 have stat:∀ {H':Hp},(∀ b ∈ fp,H' b=none) -> ∀ b ∈ fp,yK X pins H' b:=fun hn b hb=>⟨hn b hb,(f2 b hb).2⟩
 refine codeAny_forLoop_any (fun n s'=>∃ i σ' H',Inv X pins σ' H' s' /\ tn i s'.heap /\ (∀ b ∈ fp,H' b=none) /\ W i n σ' H') ?_ m0 ⟨0,σ,H2,I2,st2,fun b hb=>(f2 b hb).1,w0⟩
 rintro n s3 ⟨i,σ3,H3,I3,st3,fr3,w3⟩
 rcases turn i n σ3 H3 w3 with ⟨stop,qn⟩ | ⟨go,N,hN,step⟩
 ·refine wpAny_passesOwn hp (Tx (T.done X rfl rfl rfl hc i pins s3 σ3 H3 X.xe I3 (stat fr3) st3 stop) fun r s4 ⟨hr,I4⟩=>?_)
  subst hr
  exact wpAny_execs_nil ⟨σ3,H3,I4,qn⟩
 ·refine wpAny_passesOwn hp (Tx (T.item X rfl rfl rfl hc i pins s3 σ3 H3 X.xe I3 (stat fr3) st3 go) fun r s4 ⟨u,hr,h4⟩=>?_)
  subst hr
  refine wpAny_passesOwn hp (Tx h4 fun _ s5 ⟨x,H5,I5,r5,y5,st5,fr5⟩=>?_)
  have I5':=I5.pinned (stat fr5) (T.obj _ _ st5)
  refine wpAny_passesOwn hp (Tx (hg _ s5 σ3 H5 x u _ I5' r5 (step x H5 y5)) fun _ s6 ⟨σ6,H6,I6,q6⟩=>?_)
  refine wpAny_passesOwn hp (Tx (hb _ s6 σ6 H6 _ I6 q6) fun f s7 q7=>?_)
  have again:∀ {σ7:St} {H7:Hp},Inv X (pins ++ wp fp s5.heap) σ7 H7 s7->N σ7 H7 -> ∃ m,m < n /\ ∃ i σ' H',Inv X pins σ' H' s7 /\ tn i s7.heap /\ (∀ b ∈ fp,H' b=none) /\ W i m σ' H':=fun {σ7 H7} I7 n7=>by
   obtain ⟨m',hm,w7⟩:=hN σ7 H7 n7
   refine ⟨m',hm,i+1,σ7,H7,I7.unpinned,T.keep _ _ _ st5 fun b hb o e=>(I7.pin (b,o) (List.mem_append_right _ (List.mem_append_right _ (zR hb e)))).1,fun b hb=>?_,w7⟩
   obtain ⟨o,e,d⟩:=T.obj _ _ st5 b hb
   exact (I7.pin (b,o) (List.mem_append_right _ (List.mem_append_right _ (zR hb e)))).2.1
  cases f with
  | next=>obtain ⟨σ7,H7,I7,n7⟩:=q7; exact again I7 n7
  | cont=>obtain ⟨σ7,H7,I7,n7⟩:=q7; exact again I7 n7
  | brk=>obtain ⟨σ7,H7,I7,q7⟩:=q7; exact ⟨σ7,H7,I7.unpinned,q7⟩
  | ret v=>obtain ⟨x7,σ7,H7,I7,r7,q7⟩:=q7; exact ⟨x7,σ7,H7,I7.unpinned,r7,q7⟩
end
theorem rD {K:Tl} {a:Addr} {xs:List V} {g:TG} {tb:TS} {D:Ends} {σ:St} {H:Hp} (Pv:Nat->St->Hp->Prop) (h0:Pv 0 σ H) (hl:∀ i σ H,i<=xs.length->Pv i σ H->TB K H a xs)
  (hs:∀ i x σ H,xs[i]? = some x->Pv i σ H->g x σ H fun σ2 H2=>tb { D with nx:=Pv (i+1),ct:=Pv (i+1),bk:=D.nx } σ2 H2) (hd:∀ σ H,Pv xs.length σ H->D.nx σ H) :
  ∃ W:Nat->Nat->St->Hp->Prop,(∃ m,W 0 m σ H) /\ ∀ i m σ H,W i m σ H →
   ((TJ K a).stop i H /\ D.nx σ H) \/ ((TJ K a).go i H /\ ∃ N:St->Hp->Prop,(∀ σ' H',N σ' H' -> ∃ m',m' < m /\ W (i+1) m' σ' H') /\ ∀ x H',(TJ K a).yld i H x H' -> g x σ H' fun σ2 H2=>tb { D with nx:=N,ct:=N,bk:=D.nx } σ2 H2):=by
 refine ⟨fun i m σ H=>m=xs.length - i /\ i<=xs.length /\ Pv i σ H,⟨xs.length,by simp,Nat.zero_le _,h0⟩,?_⟩
 rintro i m σ H ⟨rfl,hi,p⟩
 have q:=hl i σ H hi p
 by_cases hlt:i < xs.length
 ·refine .inr ⟨⟨xs,xs[i],q,by simp [hlt]⟩,Pv (i+1),fun σ' H' p'=>⟨xs.length - (i+1),by omega,rfl,hlt,p'⟩,fun x H' y=>?_⟩
  obtain ⟨e,y⟩:=y
  subst e
  exact hs i x σ _ (y xs q) p
 ·have e:i=xs.length:=by omega
  subst e
  exact .inl ⟨⟨xs,q,Nat.le_refl _⟩,hd σ H p⟩
theorem XY {K:Tl} {a:Addr} {xs:List V} {g:TG} {tb:TS} {D:Ends} {σ:St} {H:Hp} (Pv:Nat->St->Hp->Prop) (h0:Pv 0 σ H) (hl:∀ i σ H,i<=xs.length->Pv i σ H->TC K H a xs)
  (hs:∀ i x σ H,xs[i]? = some x->Pv i σ H->g x σ H fun σ2 H2=>tb { D with nx:=Pv (i+1),ct:=Pv (i+1),bk:=D.nx } σ2 H2) (hd:∀ σ H,Pv xs.length σ H->D.nx σ H) :
  ∃ W:Nat->Nat->St->Hp->Prop,(∃ m,W 0 m σ H) /\ ∀ i m σ H,W i m σ H →
   ((TK K a).stop i H /\ D.nx σ H) \/ ((TK K a).go i H /\ ∃ N:St->Hp->Prop,(∀ σ' H',N σ' H' -> ∃ m',m' < m /\ W (i+1) m' σ' H') /\ ∀ x H',(TK K a).yld i H x H' -> g x σ H' fun σ2 H2=>tb { D with nx:=N,ct:=N,bk:=D.nx } σ2 H2):=by
 refine ⟨fun i m σ H=>m=xs.length - i /\ i<=xs.length /\ Pv i σ H,⟨xs.length,by simp,Nat.zero_le _,h0⟩,?_⟩
 rintro i m σ H ⟨rfl,hi,p⟩
 have q:=hl i σ H hi p
 by_cases hlt:i < xs.length
 ·refine .inr ⟨⟨xs,xs[i],q,by simp [hlt]⟩,Pv (i+1),fun σ' H' p'=>⟨xs.length - (i+1),by omega,rfl,hlt,p'⟩,fun x H' y=>?_⟩
  obtain ⟨e,y⟩:=y
  subst e
  exact hs i x σ _ (y xs q) p
 ·have e:i=xs.length:=by omega
  subst e
  exact .inl ⟨⟨xs,q,Nat.le_refl _⟩,hd σ H p⟩
theorem wM {lo:Int} {n:Nat} {g:TG} {tb:TS} {D:Ends} {σ:St} {H:Hp} (Pv:Nat->St->Hp->Prop) (h0:Pv 0 σ H)
  (hs:∀ i σ H,i < n->Pv i σ H->g (.int (lo+i)) σ H fun σ2 H2=>tb { D with nx:=Pv (i+1),ct:=Pv (i+1),bk:=D.nx } σ2 H2) (hd:∀ σ H,Pv n σ H->D.nx σ H) :
  ∃ W:Nat->Nat->St->Hp->Prop,(∃ m,W 0 m σ H) /\ ∀ i m σ H,W i m σ H →
   ((TN lo n).stop i H /\ D.nx σ H) \/ ((TN lo n).go i H /\ ∃ N:St->Hp->Prop,(∀ σ' H',N σ' H' -> ∃ m',m' < m /\ W (i+1) m' σ' H') /\ ∀ x H',(TN lo n).yld i H x H' -> g x σ H' fun σ2 H2=>tb { D with nx:=N,ct:=N,bk:=D.nx } σ2 H2):=by
 refine ⟨fun i m σ H=>m=n - i /\ i<=n /\ Pv i σ H,⟨n,by simp,Nat.zero_le _,h0⟩,?_⟩
 rintro i m σ H ⟨rfl,hi,p⟩
 by_cases hlt:i < n
 ·refine .inr ⟨hlt,Pv (i+1),fun σ' H' p'=>⟨n - (i+1),by omega,rfl,hlt,p'⟩,fun x H' y=>?_⟩
  obtain ⟨e,y⟩:=y
  subst e y
  exact hs i σ _ hlt p
 ·have e:i=n:=by omega
  subst e
  exact .inl ⟨Nat.le_refl _,hd σ H p⟩
end L2
namespace L2
open PySem PySem.Spec PyProof.Rows
abbrev R2:=V->V->Hp->VK->Prop
def TQ (X:Cx) (f:Value->Value->Sem Value) (r:R2):Prop :=
 ∀ (pins:List (Addr × Obj)) (s:Shared) (σ:St) (H:Hp) (x y:V) (v u:Value) (Q:VK),Inv X pins σ H s->zJ x v->zJ y u->r x y H Q →
  wpAny (model X.prog X.w) X.A (f v u) (EP X pins σ Q) X.xe s
def yw (X:Cx) (f:Value) (r:List V->Hp->VK->Prop):Prop :=
 ∀ (pins:List (Addr × Obj)) (s:Shared) (σ:St) (H:Hp) (xs:List V) (us:List Value) (Q:VK),Inv X pins σ H s->zC xs us->r xs H Q →
  wpAny (model X.prog X.w) X.A (call f us) (EP X pins σ Q) X.xe s
def U3 (X:Cx) (r:V->Hp->(Bool->Hp->Prop)->Prop):Prop :=
 ∀ (pins:List (Addr × Obj)) (s:Shared) (σ:St) (H:Hp) (x:V) (v:Value) (Q:Bool->Hp->Prop),Inv X pins σ H s->zJ x v->r x H Q →
  wpAny (model X.prog X.w) X.A (truthy v) (TP X pins σ Q) X.xe s
def TR (r:R2) (ta tb:TE):TE:=fun σ H Q=>ta σ H fun x H1=>tb σ H1 fun y H2=>r x y H2 Q
def rI (C:Int->Int->Prop) (g:Int->Int->V):R2:=fun x y H Q=>∃ i j,x = .int i /\ y = .int j /\ C i j /\ Q (g i j) H
def TU (g:Int->Int->V):R2:=fun x y H Q=>∃ i j,x = .int i /\ y = .int j /\ Q (g i j) H
section
variable {X:Cx} {a b c:Expr} {ta tb tc:TE} {pos:Pos}
theorem V9 (ha:PE X a ta) (hb:PE X b tb) {pins:List (Addr × Obj)} {s:Shared} {σ:St} {H:Hp} {R:V->V->Hp->Prop} (I:Inv X pins σ H s)
  (h:ta σ H fun x H1=>tb σ H1 fun y H2=>R x y H2) {Q:Tn} {f:Value->Value->Sem Value}
  (hf:∀ v u s2 x y H2,Inv X pins σ H2 s2->zJ x v->zJ y u->R x y H2->wpAny (model X.prog X.w) X.A (f v u) Q X.xe s2) :
  wpAny (model X.prog X.w) X.A (eval a X.env) (fun v s₁=>wpAny (model X.prog X.w) X.A (eval b X.env) (fun u s₂=>wpAny (model X.prog X.w) X.A (f v u) Q X.xe s₂) X.xe s₁) X.xe s:=by
 refine Tx (ha pins s σ H _ I h) fun v s1 ⟨x,H1,I1,r1,q1⟩=>?_
 refine Tx (hb pins s1 σ H1 _ I1 q1) fun u s2 ⟨y,H2,I2,r2,q2⟩=>?_
 exact hf v u s2 x y H2 I2 r1 r2 q2
theorem zY {op:Operator} {r:R2} (ho:TQ X (binaryOp op) r) (ha:PE X a ta) (hb:PE X b tb):PE X (.BinOp a op b pos) (TR r ta tb):=by
 intro pins s σ H Q I h
 exact wpAny_BinOp (V9 ha hb I h fun v u s2 x y H2 I2 rx ry q=>ho pins s2 σ H2 x y v u Q I2 rx ry q)
theorem TV {f:Value->Value->Sem Value} {C:Int->Int->Prop} {g:Int->Int->Int}
  (rule:∀ (i j:Int) (t u:Tok) (s:Shared) (Q:Tn) (E:Tn),C i j->Q (.int (g i j) s.toks) { s with toks:=s.toks+1 } -> wpAny (model X.prog X.w) X.A (f (.int i t) (.int j u)) Q E s) :
  TQ X f (rI C fun i j=>.int (g i j)):=by
 intro pins s σ H x y v u Q I rx ry h
 obtain ⟨i,j,rfl,rfl,hc,q⟩:=h
 obtain ⟨t,rfl⟩:=rx
 obtain ⟨t',rfl⟩:=ry
 exact rule i j t t' s _ _ hc ⟨.int (g i j),H,I.tok _,⟨_,rfl⟩,q⟩
theorem UI {f:Value->Value->Sem Value} {g:Int->Int->Int}
  (rule:∀ (i j:Int) (t u:Tok) (s:Shared) (Q:Tn) (E:Tn),Q (.int (g i j) s.toks) { s with toks:=s.toks+1 } -> wpAny (model X.prog X.w) X.A (f (.int i t) (.int j u)) Q E s) :
  TQ X f (TU fun i j=>.int (g i j)):=by
 intro pins s σ H x y v u Q I rx ry h
 obtain ⟨i,j,rfl,rfl,q⟩:=h
 obtain ⟨t,rfl⟩:=rx
 obtain ⟨t',rfl⟩:=ry
 exact rule i j t t' s _ _ ⟨.int (g i j),H,I.tok _,⟨_,rfl⟩,q⟩
theorem Ua {f:Value->Value->Sem Value} {g:Int->Int->Bool}
  (rule:∀ (i j:Int) (t u:Tok) (s:Shared) (Q:Tn) (E:Tn),Q (.bool (g i j)) s->wpAny (model X.prog X.w) X.A (f (.int i t) (.int j u)) Q E s) :
  TQ X f (TU fun i j=>.bl (g i j)):=by
 intro pins s σ H x y v u Q I rx ry h
 obtain ⟨i,j,rfl,rfl,q⟩:=h
 obtain ⟨t,rfl⟩:=rx
 obtain ⟨t',rfl⟩:=ry
 exact rule i j t t' s _ _ ⟨.bl (g i j),H,I,rfl,q⟩
def U4 (i j:Int):Prop:=0<=j /\ j<=1000000 /\ i.natAbs < 2 ^ 64
theorem wN:TQ X (binaryOp .Add) (TU fun i j=>.int (i+j)):=UI fun _ _ _ _ _ _ _ q=>add_int q
theorem rE:TQ X (binaryOp .Sub) (TU fun i j=>.int (i - j)):=UI fun _ _ _ _ _ _ _ q=>sub_int q
theorem wO:TQ X (binaryOp .Mod) (rI (fun _ j=>0 < j) fun i j=>.int (i % j)):=TV fun i j _ _ _ _ _ hc q=>by
 have h1:(0:Int) < j:=hc
 exact mod_int' (by omega) (by rw [Int.fmod_eq_emod_of_nonneg i (by omega)]; exact q)
theorem jL:TQ X (binaryOp .Pow) (rI U4 fun i j=>.int (i ^ j.toNat)):=TV fun _ _ _ _ _ _ _ hc q=>pow_int_small hc.1 hc.2.1 hc.2.2 q
end
def UJ:V->V->Bool
 | .non,.non=>true | .non,.int _=>true | .int _,.non=>true | .non,.bl _=>true | .bl _,.non=>true | .non,.str _=>true | .str _,.non=>true
 | .int _,.int _=>true | .bl _,.bl _=>true | .str _,.str _=>true | .byt _,.byt _=>true
 | .int _,.str _=>true | .str _,.int _=>true | .bl _,.str _=>true | .str _,.bl _=>true
 | _,_=>false
def TW:R2:=fun x y H Q=>UJ x y=true /\ Q (.bl (decide (x=y))) H
def TX:R2:=fun x y H Q=>UJ x y=true /\ Q (.bl (!decide (x=y))) H
theorem jM {i j:Int}:decide (V.int i=V.int j)=(i == j):=by
 rw [Bool.eq_iff_iff]
 simp
theorem Xw {i j:Bool}:decide (V.bl i=V.bl j)=(i == j):=by
 rw [Bool.eq_iff_iff]
 simp
theorem jN {i j:Str}:decide (V.str i=V.str j)=(i == j):=by
 rw [Bool.eq_iff_iff]
 simp
theorem jO {i j:Array UInt8}:decide (V.byt i=V.byt j)=(i.toList == j.toList):=by
 rw [Bool.eq_iff_iff]
 cases i
 cases j
 simp
section
variable {X:Cx} {a b c:Expr} {ta tb tc:TE} {pos:Pos}
theorem zF {pins:List (Addr × Obj)} {σ:St} {H:Hp} {s:Shared} {Q:VK} {k k':Bool} (I:Inv X pins σ H s) (q:Q (.bl k) H) (e:k=k'):EP X pins σ Q (.bool k') s:=by
 subst e
 exact ⟨.bl k,H,I,rfl,q⟩
theorem sg:TQ X (compareOp .Eq) TW:=by
 intro pins s σ H x y v u Q I rx ry h
 obtain ⟨hs,q⟩:=h
 cases x with
 | non =>
  cases rx
  cases y with
  | non=>cases ry; exact PySem.EqNone.eq_none_none (zF I q (by simp))
  | bl j=>cases ry; exact PySem.EqNone.eq_none_bool (zF I q (by simp))
  | int j=>obtain ⟨t',rfl⟩:=ry; exact PySem.EqNone.eq_none_int (zF I q (by simp))
  | str j=>obtain ⟨t',rfl⟩:=ry; exact PySem.EqNone.eq_none_str (zF I q (by simp))
  | _=>exact absurd (show false=true from hs) Bool.false_ne_true
 | bl i =>
  cases rx
  cases y with
  | non=>cases ry; exact PySem.EqNone.eq_bool_none (zF I q (by simp))
  | bl j=>cases ry; exact eq_bool (zF I q Xw)
  | str j=>obtain ⟨t',rfl⟩:=ry; exact PySem.EqMixed.eq_bool_str (zF I q (by simp))
  | _=>exact absurd (show false=true from hs) Bool.false_ne_true
 | int i =>
  obtain ⟨t,rfl⟩:=rx
  cases y with
  | non=>cases ry; exact PySem.EqNone.eq_int_none (zF I q (by simp))
  | int j=>obtain ⟨t',rfl⟩:=ry; exact eq_int (zF I q jM)
  | str j=>obtain ⟨t',rfl⟩:=ry; exact PySem.EqMixed.eq_int_str (zF I q (by simp))
  | _=>exact absurd (show false=true from hs) Bool.false_ne_true
 | str i =>
  obtain ⟨t,rfl⟩:=rx
  cases y with
  | non=>cases ry; exact PySem.EqNone.eq_str_none (zF I q (by simp))
  | bl j=>cases ry; exact PySem.EqMixed.eq_str_bool (zF I q (by simp))
  | int j=>obtain ⟨t',rfl⟩:=ry; exact PySem.EqMixed.eq_str_int (zF I q (by simp))
  | str j=>obtain ⟨t',rfl⟩:=ry; exact eq_str (zF I q jN)
  | _=>exact absurd (show false=true from hs) Bool.false_ne_true
 | byt i =>
  obtain ⟨t,rfl⟩:=rx
  cases y with
  | byt j=>obtain ⟨t',rfl⟩:=ry; exact PySem.W.eq_bytes (zF I q jO)
  | _=>exact absurd (show false=true from hs) Bool.false_ne_true
 | _=>cases y <;> exact absurd (show false=true from hs) Bool.false_ne_true
theorem jP:TQ X (compareOp .NotEq) TX:=by
 intro pins s σ H x y v u Q I rx ry h
 obtain ⟨hs,q⟩:=h
 cases x with
 | non =>
  cases rx
  cases y with
  | non=>cases ry; exact PySem.EqNone.ne_none_none (zF I q (by simp))
  | bl j=>cases ry; exact PySem.EqNone.ne_none_bool (zF I q (by simp))
  | int j=>obtain ⟨t',rfl⟩:=ry; exact PySem.EqNone.ne_none_int (zF I q (by simp))
  | str j=>obtain ⟨t',rfl⟩:=ry; exact PySem.EqNone.ne_none_str (zF I q (by simp))
  | _=>exact absurd (show false=true from hs) Bool.false_ne_true
 | bl i =>
  cases rx
  cases y with
  | non=>cases ry; exact PySem.EqNone.ne_bool_none (zF I q (by simp))
  | bl j=>cases ry; exact ne_bool (zF I q (congrArg not Xw))
  | str j=>obtain ⟨t',rfl⟩:=ry; exact PySem.EqMixed.ne_bool_str (zF I q (by simp))
  | _=>exact absurd (show false=true from hs) Bool.false_ne_true
 | int i =>
  obtain ⟨t,rfl⟩:=rx
  cases y with
  | non=>cases ry; exact PySem.EqNone.ne_int_none (zF I q (by simp))
  | int j=>obtain ⟨t',rfl⟩:=ry; exact ne_int (zF I q (congrArg not jM))
  | str j=>obtain ⟨t',rfl⟩:=ry; exact PySem.EqMixed.ne_int_str (zF I q (by simp))
  | _=>exact absurd (show false=true from hs) Bool.false_ne_true
 | str i =>
  obtain ⟨t,rfl⟩:=rx
  cases y with
  | non=>cases ry; exact PySem.EqNone.ne_str_none (zF I q (by simp))
  | bl j=>cases ry; exact PySem.EqMixed.ne_str_bool (zF I q (by simp))
  | int j=>obtain ⟨t',rfl⟩:=ry; exact PySem.EqMixed.ne_str_int (zF I q (by simp))
  | str j=>obtain ⟨t',rfl⟩:=ry; exact ne_str (zF I q (congrArg not jN))
  | _=>exact absurd (show false=true from hs) Bool.false_ne_true
 | byt i =>
  obtain ⟨t,rfl⟩:=rx
  cases y with
  | byt j=>obtain ⟨t',rfl⟩:=ry; exact PySem.W.ne_bytes (zF I q (congrArg not jO))
  | _=>exact absurd (show false=true from hs) Bool.false_ne_true
 | _=>cases y <;> exact absurd (show false=true from hs) Bool.false_ne_true
theorem W3:TQ X (compareOp .Lt) (TU fun i j=>.bl (decide (i < j))):=Ua fun _ _ _ _ _ _ _ q=>lt_int q
theorem uF:TQ X (compareOp .LtE) (TU fun i j=>.bl (decide (i<=j))):=Ua fun _ _ _ _ _ _ _ q=>le_int q
theorem XZ:TQ X (compareOp .Gt) (TU fun i j=>.bl (decide (j < i))):=Ua fun _ _ _ _ _ _ _ q=>gt_int q
theorem zT (b:Expr) {op:CmpOp} (h:op ≠ .In:=by decide) (h2:op ≠ .NotIn:=by decide):behindInMarks op b=false:=by
 have e1:(op == CmpOp.In)=false:=by cases op <;> first | rfl | exact absurd rfl h
 have e2:(op == CmpOp.NotIn)=false:=by cases op <;> first | rfl | exact absurd rfl h2
 cases b <;> simp [behindInMarks,e1,e2]
theorem wP {op:CmpOp} {r:R2} (ho:TQ X (compareOp op) r) (ha:PE X a ta) (hb:PE X b tb) (hm:behindInMarks op b=false):PE X (.Compare a [op] [b] pos) (TR r ta tb):=by
 intro pins s σ H Q I h
 exact wpAny_Compare1 (V9 ha hb I h fun v u s2 x y H2 I2 rx ry q=>ho pins s2 σ H2 x y v u Q I2 rx ry q) hm
def W4 (t:TE):TT:=fun σ H Q=>t σ H fun x H'=>∃ k,x = .bl k /\ Q k H'
theorem zO {op:CmpOp} {r:R2} (ho:TQ X (compareOp op) r) (ha:PE X a ta) (hb:PE X b tb) (hm:behindInMarks op b=false):PT X (.Compare a [op] [b] pos) (W4 (TR r ta tb)):=by
 intro pins s σ H Q I h
 refine wpAny_isTrue_Compare1 (Tx (ha pins s σ H _ I h) fun v s1 ⟨x,H1,I1,r1,q1⟩=>Tx (hb pins s1 σ H1 _ I1 q1) fun u s2 ⟨y,H2,I2,r2,q2⟩ =>
  Tx (ho pins s2 σ H2 x y v u _ I2 r1 r2 q2) fun c s3 ⟨z,H3,I3,r3,k,e,q3⟩=>?_) hm
 subst e
 cases r3
 exact wpAny_truthy_bool ⟨H3,I3,q3⟩
def Xx (r r':R2) (ta tb tc:TE):TE:=fun σ H Q=>ta σ H fun x H1=>tb σ H1 fun y H2=>r x y H2 fun z H3=>∃ k,z = .bl k ∧
 (if k=true then tc σ H3 fun w' H4=>r' y w' H4 Q else Q (.bl false) H3)
theorem rF {op op':CmpOp} {r r':R2} (ho:TQ X (compareOp op) r) (ho':TQ X (compareOp op') r') (ha:PE X a ta) (hb:PE X b tb) (hc:PE X c tc)
  (hm:lastMarks [op,op'] [b,c]=false:=by with_unfolding_all rfl):PE X (.Compare a [op,op'] [b,c] pos) (Xx r r' ta tb tc):=by
 intro pins s σ H Q I h
 refine Compare_chain (Tx (ha pins s σ H _ I h) fun v s1 ⟨x,H1,I1,r1,q1⟩=>chain_link (Tx (hb pins s1 σ H1 _ I1 q1) fun u s2 ⟨y,H2,I2,r2,q2⟩ =>
  Tx (ho pins s2 σ H2 x y v u _ I2 r1 r2 q2) fun d s3 ⟨z,H3,I3,r3,k,e,q3⟩=>?_)) hm
 subst e
 cases r3
 refine wpAny_truthy_bool ?_
 cases k with
 | false=>exact ite_ff ⟨.bl false,H3,I3,rfl,q3⟩
 | true=>exact ite_tt (chain_last (Tx (hc pins s3 σ H3 _ I3 q3) fun w' s4 ⟨z',H4,I4,r4,q4⟩=>ho' pins s4 σ H4 y z' u w' Q I4 r2 r4 q4))
theorem rG {op op':CmpOp} {r r':R2} (ho:TQ X (compareOp op) r) (ho':TQ X (compareOp op') r') (ha:PE X a ta) (hb:PE X b tb) (hc:PE X c tc)
  (hm:lastMarks [op,op'] [b,c]=false:=by with_unfolding_all rfl):PT X (.Compare a [op,op'] [b,c] pos) (W4 (Xx r r' ta tb tc)):=by
 intro pins s σ H Q I h
 refine isTrue_chain (Tx (ha pins s σ H _ I h) fun v s1 ⟨x,H1,I1,r1,q1⟩=>test_link (Tx (hb pins s1 σ H1 _ I1 q1) fun u s2 ⟨y,H2,I2,r2,q2⟩ =>
  Tx (ho pins s2 σ H2 x y v u _ I2 r1 r2 q2) fun d s3 ⟨z,H3,I3,r3,k,e,q3⟩=>?_)) hm
 subst e
 cases r3
 refine wpAny_truthy_bool ?_
 cases k with
 | false =>
  obtain ⟨k',e',q'⟩:=q3
  cases e'
  exact ite_ff ⟨H3,I3,q'⟩
 | true =>
  refine ite_tt (test_last (Tx (hc pins s3 σ H3 _ I3 q3) fun w' s4 ⟨z',H4,I4,r4,q4⟩=>Tx (ho' pins s4 σ H4 y z' u w' _ I4 r2 r4 q4) fun d' s5 ⟨z2,H5,I5,r5,k2,e2,q5⟩=>?_))
  subst e2
  cases r5
  exact wpAny_truthy_bool ⟨H5,I5,q5⟩
def UK (K:Tl) (x:V) (H:Hp) (k:Bool):Prop :=
 match x with
 | .non=>k=false
 | .bl b=>k=b
 | .int i=>k=(i != 0)
 | .str y=>y.length<=sizeLine /\ k=((y.length:Int) != 0)
 | .byt y=>y.size<=sizeLine /\ k=((y.size:Int) != 0)
 | .ref p=>(∃ xs,TB K H p xs /\ k = !xs.isEmpty) \/ (∃ xs,TC K H p xs /\ k = !xs.isEmpty) \/ ∃ kvs,H p=some (.dK kvs) /\ k = !kvs.isEmpty
 | _=>False
theorem qI {κ:Type} {kvs:List (κ × V)} {vs:List (κ × Value)} (r:KV kvs vs):(!vs.isEmpty) = !kvs.isEmpty:=by
 cases r <;> rfl
theorem vO {xs:List V} {its:List Value} (r:zC xs its):(!its.toArray.isEmpty) = !xs.isEmpty:=by
 cases r <;> simp
theorem vP:(sizeLine:Nat) < 2 ^ 63:=by rw [sizeLine_eq]; decide
theorem W5:U3 X (fun x H Q=>∃ k,UK X.K x H k /\ Q k H):=by
 intro pins s σ H x v Q I rx h
 obtain ⟨k,e,q⟩:=h
 have hl:=vP
 have hs:sizeLine=16777216:=sizeLine_eq
 cases x with
 | non =>
  cases rx
  have e':k=false:=e
  subst e'
  exact truthy_none ⟨H,I,q⟩
 | bl b =>
  cases rx
  have e':k=b:=e
  subst e'
  exact wpAny_truthy_bool ⟨H,I,q⟩
 | int i =>
  obtain ⟨t,rfl⟩:=rx
  have e':k=(i != 0):=e
  subst e'
  exact PySem.P.truthy_int ⟨H,I,q⟩
 | str y =>
  obtain ⟨t,rfl⟩:=rx
  obtain ⟨hy,e'⟩:y.length<=sizeLine /\ k=((y.length:Int) != 0):=e
  subst e'
  exact PySem.P.truthy_str (by omega) ⟨H,I.tok _,q⟩
 | byt y =>
  obtain ⟨t,rfl⟩:=rx
  obtain ⟨hy,e'⟩:y.size<=sizeLine /\ k=((y.size:Int) != 0):=e
  subst e'
  exact PySem.W.truthy_bytes (by omega) ⟨H,I.tok _,q⟩
 | ref p =>
  cases rx
  have e':(∃ xs,TB X.K H p xs /\ k = !xs.isEmpty) \/ (∃ xs,TC X.K H p xs /\ k = !xs.isEmpty) \/ ∃ kvs,H p=some (.dK kvs) /\ k = !kvs.isEmpty:=e
  rcases e' with ⟨xs,hx,e'⟩ | ⟨xs,hx,e'⟩ | ⟨kvs,hx,e'⟩
  ·subst e'
   obtain ⟨its,r,pl,hz⟩:=I.list hx
   have hlen:=r.length
   exact wpAny_truthy_list pl.isList (by simp only [List.size_toArray]; omega) ⟨H,I.tok _,by rw [vO r]; exact q⟩
  ·subst e'
   obtain ⟨its,r,pl,hz⟩:=I.tuple hx
   have hlen:=r.length
   exact truthy_tuple pl (by simp only [List.size_toArray]; omega) ⟨H,I.tok _,by rw [vO r]; exact q⟩
  ·subst e'
   obtain ⟨hz,hS,vs,r,m⟩:kvs.length<=sizeLine /\ (p == sysModules)=false /\ ∃ vs,KV kvs vs /\ s.heap.DictOf (zB X.prog X.w) p vs:=I.hok p _ hx
   have hlen:kvs.length=vs.length:=Paired.length r
   exact wpAny_truthy_dict hS m (by omega) ⟨H,I.tok _,by rw [qI r]; exact q⟩
 | _=>exact (show False from e).elim
theorem Yo (ha:PE X a ta) (he:∀ whole,isTrue a X.env whole=(do let v ← whole; standAt a.pos; holding [v] (truthy v))) :
  PT X a (fun σ H Q=>ta σ H fun x H'=>∃ k,UK X.K x H' k /\ Q k H'):=by
 intro pins s σ H Q I h
 exact isTrue_plain (Tx (ha pins s σ H _ I h) fun v s1 ⟨x,H1,I1,r1,q1⟩=>W5 pins s1 σ H1 x v Q I1 r1 q1) (he _)
theorem xE {x:V} {us:List Value} (r:zC [x] us):∃ u,us=[u] /\ zJ x u:=by
 cases r with
 | cons r1 r2=>cases r2; exact ⟨_,rfl,r1⟩
theorem qJ {x y:V} {us:List Value} (r:zC [x,y] us):∃ u w',us=[u,w'] /\ zJ x u /\ zJ y w':=by
 cases r with
 | cons r1 r2 =>
  cases r2 with
  | cons r3 r4=>cases r4; exact ⟨_,_,rfl,r1,r3⟩
theorem Yp:yw X (.builtin "abs") (fun xs H Q=>∃ i,xs=[.int i] /\ Q (.int (if i < 0 then -i else i)) H):=by
 intro pins s σ H xs us Q I r h
 obtain ⟨i,rfl,q⟩:=h
 obtain ⟨u,rfl,t,rfl⟩:=xE r
 exact call_abs_int fun u tk=>⟨.int (if i < 0 then -i else i),H,I.tok _,⟨_,rfl⟩,q⟩
theorem uG (hc:X.calm=true):yw X (.builtin "max") (fun xs H Q=>∃ i j,xs=[.int i,.int j] /\ Q (.int (if j > i then j else i)) H):=by
 intro pins s σ H xs us Q I r h
 obtain ⟨i,j,rfl,q⟩:=h
 obtain ⟨u,w',rfl,⟨t,rfl⟩,⟨t',rfl⟩⟩:=qJ r
 refine max_two_ints (I.ok.hd hc) fun h' tk k=>⟨_,H,I.kept k,?_,q⟩
 by_cases hj:j > i
 ·rw [if_pos hj,if_pos hj]; exact ⟨_,rfl⟩
 ·rw [if_neg hj,if_neg hj]; exact ⟨_,rfl⟩
theorem uH (hc:X.calm=true):yw X (.builtin "min") (fun xs H Q=>∃ i j,xs=[.int i,.int j] /\ Q (.int (if j < i then j else i)) H):=by
 intro pins s σ H xs us Q I r h
 obtain ⟨i,j,rfl,q⟩:=h
 obtain ⟨u,w',rfl,⟨t,rfl⟩,⟨t',rfl⟩⟩:=qJ r
 refine min_two_ints (I.ok.hd hc) fun h' tk k=>⟨_,H,I.kept k,?_,q⟩
 by_cases hj:j < i
 ·rw [if_pos hj,if_pos hj]; exact ⟨_,rfl⟩
 ·rw [if_neg hj,if_neg hj]; exact ⟨_,rfl⟩
end
end L2
namespace L2
open PySem PySem.Spec PyProof.Rows
structure ObjM (h:Heap) (x dx C:Addr) (mA:Str->Option Value):Prop where
 obj:h.get? x=some (PySem.W.instObj C dx)
 ns:h.Ns1 dx mA
 ne:dx ≠ x
theorem jQ {h:Heap} {dx:Addr} {mA:Str->Option Value} (n:h.Ns1 dx mA):∃ od,h.get? dx=some od /\ ∀ name,PySem.W.lookIn name od=some (mA name):=by
 obtain ⟨o,es,ep,ho,hd,hk,_,hm⟩:=n
 refine ⟨o,ho,fun name=>?_⟩
 have e:=hm name
 unfold nsFind findBy at e
 rw [← Array.find?_toList] at e
 unfold PySem.W.lookIn
 rw [hd]
 dsimp only
 split
 ·rename_i y q
  rw [q] at e
  exact congrArg some e
 ·rename_i q
  rw [q] at e
  have a:es.toList.any (·.refKey)=false:=by
   rw [List.any_eq_false]
   intro y hy
   obtain ⟨z,t,hkey⟩:=hk y (Array.mem_toList_iff.mp hy)
   simp [DictEntry.refKey,hkey]
  have a':¬ es.toList.any (·.refKey)=true:=by rw [a]; exact Bool.false_ne_true
  rw [if_neg a']
  exact congrArg some e
theorem ObjM.look {h:Heap} {x dx C:Addr} {mA:Str->Option Value} (I:ObjM h x dx C mA):∃ od,PySem.W.InstAt h x (PySem.W.instObj C dx) C (some od) /\ ∀ name,PySem.W.lookIn name od=some (mA name) :=
 let ⟨od,ho,hl⟩:=jQ I.ns
 ⟨od,⟨I.obj,rfl,rfl,ho⟩,hl⟩
theorem qF.some_of {v:V} {o:Option Value} (r:qF (some v) o):∃ u,o=some u /\ zJ v u:=by
 cases o with
 | none=>exact (show False from r).elim
 | some u=>exact ⟨u,rfl,r⟩
section
variable {P:Program} {w:World} {H H':Hp} {h h':Heap} {a C dx:Addr} {fs fs':List (Str × V)}
theorem X1 (hok:Tq P w H h) (e:H a=some (.ins C dx fs)):∃ mA,ObjM h a dx C mA /\ (∀ f,qF (fs.lookup f) (mA f)) /\ PySem.Within mA (fs.map (·.1)) /\ fs.length<=1000 /\ H dx=some (.own a):=by
 obtain ⟨d,z,ne,ob,mA,n,r,q⟩:=(show zL P w H h a (.ins C dx fs) from hok a _ e)
 exact ⟨mA,⟨ob,n,ne⟩,r,q,z,d⟩
end
structure Cls (K:Tl) (C:Addr):Prop where
 pg:PySem.W.plainGet K C Str.empty=true
 hd:PySem.W.hasDictIn K C=true
 po:PySem.W.plainOver K C=true
 sa:PySem.W.findIn K (.ref C) "__setattr__" = some (some (.builtin "object.__setattr__"))
theorem Cls.get {K:Tl} {C:Addr} (c:Cls K C) (f:Str):PySem.W.plainGet K C f=true:=c.pg
section
variable {X:Cx} {pins:List (Addr × Obj)} {σ:St} {H:Hp} {s:Shared} {A:Around} {E:Tn} {Q:Tn} {c:Value} {b:Bool}
inductive TyOf (K:Tl) (H:Hp):V->Value->Prop where
 | non:TyOf K H .non (.type "NoneType")
 | bl (x:Bool):TyOf K H (.bl x) (.type "bool")
 | int (i:Int):TyOf K H (.int i) (.type "int")
 | str (x:Str):TyOf K H (.str x) (.type "str")
 | flt (x:UInt64):TyOf K H (.flt x) (.type "float")
 | lst {a:Addr} {xs:List V} (e:H a=some (.lst xs)):TyOf K H (.ref a) (.type "list")
 | frz {a:Addr} {o:Obj} {xs:List V} (e:H a=some (.frz o (.lst xs))):TyOf K H (.ref a) (.type "list")
 | tup {a:Addr} {xs:List V} (e:H a=some (.tup xs)):TyOf K H (.ref a) (.type "tuple")
 | dK {a:Addr} {kvs:List (To × V)} (e:H a=some (.dK kvs)):TyOf K H (.ref a) (.type "dict")
 | dT {a:Addr} {kvs:List (List To × V)} (e:H a=some (.dT kvs)):TyOf K H (.ref a) (.type "dict")
 | ins {a C dx:Addr} {fs:List (Str × V)} (e:H a=some (.ins C dx fs)) (cl:Cls K C) (ha:PySem.W.findIn K (.ref C) "__class__" = some (some (.builtin "object.__class__")))
   (hn:PySem.W.specialIn K (.builtin "object.__class__") "__get__" = some (some (.builtin "getset_descriptor.__get__"))) (htk:PySem.W.takesIn K (.builtin "object.__class__")=some true)
   (hm:PySem.W.mroIn K C (.type "object")=some true):TyOf K H (.ref a) (.ref C)
theorem yW {x:V} {u t:Value} (I:Inv X pins σ H s) (rx:zJ x u) (ty:TyOf X.K H x t) (e:PySem.W.kitOne X.K t c=some b) (h:∀ tk,Q (.bool b) { s with toks:=tk }) :
  wpAny (model X.prog X.w) A (call (.builtin "isinstance") [u,c]) Q E s:=by
 cases ty with
 | non=>cases (show u=Value.none from rx); exact PySem.W.kia_one PySem.W.kitx_none I.kIn True.intro e (fun z=>nomatch z) h
 | bl y=>cases (show u=Value.bool y from rx); exact PySem.W.kia_one PySem.W.kitx_bool I.kIn True.intro e (fun z=>nomatch z) h
 | int i=>obtain ⟨t,q⟩:=(show ∃ t,u=Value.int i t from rx); cases q; exact PySem.W.kia_one PySem.W.kitx_int I.kIn True.intro e (fun z=>nomatch z) h
 | str y=>obtain ⟨t,q⟩:=(show ∃ t,u=Value.str y t from rx); cases q; exact PySem.W.kia_one PySem.W.kitx_str I.kIn True.intro e (fun z=>nomatch z) h
 | flt y=>obtain ⟨t,q⟩:=(show ∃ t,u=Value.float y t from rx); cases q; exact PySem.W.kia_one PySem.W.kitx_float I.kIn True.intro e (fun z=>nomatch z) h
 | @lst a xs ea =>
  cases (show u=Value.ref a from rx)
  obtain ⟨_,_,n,_,h1⟩:=(show zL X.prog X.w H s.heap a (.lst xs) from I.hok a _ ea)
  exact PySem.W.kia_one PySem.W.kitx_list I.kIn ⟨_,h1,rfl⟩ e (fun z=>nomatch z) h
 | @frz a ob xs ea =>
  cases (show u=Value.ref a from rx)
  obtain ⟨_,_,_,n,_,h1⟩:=(show zL X.prog X.w H s.heap a (.frz ob (.lst xs)) from I.hok a _ ea)
  exact PySem.W.kia_one PySem.W.kitx_list I.kIn ⟨_,h1,rfl⟩ e (fun z=>nomatch z) h
 | @tup a xs ea =>
  cases (show u=Value.ref a from rx)
  obtain ⟨_,_,_,p⟩:=(show zL X.prog X.w H s.heap a (.tup xs) from I.hok a _ ea)
  obtain ⟨o,h1,h2,_⟩:=p
  exact PySem.W.kia_one PySem.W.kitx_tuple I.kIn ⟨o,h1,h2⟩ e (fun z=>nomatch z) h
 | @dK a kvs ea =>
  cases (show u=Value.ref a from rx)
  obtain ⟨_,_,vs,_,p⟩:=(show zL X.prog X.w H s.heap a (.dK kvs) from I.hok a _ ea)
  obtain ⟨o,es,ep,h1,h2,_⟩:=p
  exact PySem.W.kia_one PySem.W.kitx_dict I.kIn ⟨o,h1,h2.1⟩ e (fun z=>nomatch z) h
 | @dT a kvs ea =>
  cases (show u=Value.ref a from rx)
  obtain ⟨_,_,xs,_,o,es,ep,h1,h2,_⟩:=(show zL X.prog X.w H s.heap a (.dT kvs) from I.hok a _ ea)
  exact PySem.W.kia_one PySem.W.kitx_dict I.kIn ⟨o,h1,h2.1⟩ e (fun z=>nomatch z) h
 | @ins a C dx fs ea cl ha hn htk hm =>
  cases (show u=Value.ref a from rx)
  obtain ⟨mA,O,_⟩:=X1 I.hok ea
  obtain ⟨od,J,_⟩:=O.look
  exact PySem.W.kia_one (PySem.W.kitx_own (cl.get _) cl.hd ha hn htk hm) I.kIn J e (fun z=>nomatch z) h
end
end L2
namespace L2
open PySem PySem.Spec PyProof.Rows
structure Room (k:Nat) (A:Around):Prop where
 hd:A.handled=none
 dp:A.depth+3 * k+5 < recursionLimit
 un:A.units+16 * k+200 < cLine
 gd:A.guards=some []
theorem Room.mono {j k:Nat} {A:Around} (r:Room k A) (h:j<=k):Room j A:=⟨r.hd,by have:=r.dp; omega,by have:=r.un; omega,r.gd⟩
theorem Room.deeper {k:Nat} {A:Around} (r:Room (k+1) A) (env:Env):Room k (A.deeper env) :=
 ⟨r.hd,by have:=r.dp; show A.depth+1+3 * k+5 < _; omega,by have:=r.un; show A.units+3+16 * k+200 < _; omega,r.gd⟩
theorem Room.depth {k:Nat} {A:Around} (r:Room k A):A.depth < recursionLimit:=by have:=r.dp; omega
theorem Room.units0 {k:Nat} {A:Around} (r:Room k A):A.units < cLine:=by have:=r.un; omega
def U5:TA:=fun _ H Q=>Q [] H
def Ub (ta:TE) (tr:TA):TA:=fun σ H Q=>ta σ H fun x H1=>tr σ H1 fun xs H2=>Q (x :: xs) H2
section
variable {X:Cx} {e:Expr} {es:List Expr} {te:TE} {t:TA} {pos:Pos}
theorem zb:PA X [] U5:=fun _ _ _ _ H Q I h=>Calls.spliced_nil ⟨[],H,I,.nil,h⟩
theorem za (ha:PE X e te) (hr:PA X es t) (hs:starEach (e :: es) X.env=(false,eval e X.env) :: starEach es X.env:=by rfl):PA X (e :: es) (Ub te t):=by
 intro pos pins s σ H Q I h
 rw [hs]
 show wpAny _ _ (spliced ((false,eval e X.env) :: backTo pos (starEach es X.env))) _ _ s
 refine Calls.spliced_cons (Tx (ha pins s σ H _ I h) fun u s1 ⟨x,H1,I1,r1,q1⟩=>?_)
 exact Tx (hr pos pins s1 σ H1 _ I1 q1) fun us s2 ⟨xs,H2,I2,r2,q2⟩=>⟨x :: xs,H2,I2,.cons r1 r2,q2⟩
def U6 (t:TA):TE:=fun σ H Q=>t σ H fun xs H1=>xs.length<=sizeLine /\ ∀ p,H1 p=none->Q (.ref p) (Tp H1 p (.tup xs))
def U7 (t:TA):TE:=fun σ H Q=>t σ H fun xs H1=>xs.length<=sizeLine /\ ∀ p,H1 p=none->Q (.ref p) (Tp H1 p (.lst xs))
theorem yj {x1} (h:PA X es t):PE X (.Tuple es x1 pos) (U6 t):=by
 intro pins s σ H Q I hq
 refine wpAny_Tuple_spliced (Tx (h pos pins s σ H _ I hq) fun us s1 ⟨xs,H1,I1,r,z,q⟩=>⟨by rw [← r.length]; exact z,?_⟩)
 have hf:H1 s1.heap.objs.size=none:=I1.hok.fresh (Nat.le_refl _)
 refine ⟨.ref s1.heap.objs.size,Tp H1 s1.heap.objs.size (.tup xs),I1.laid (t':=s1.toks) (fun b u e=>Heap.get?_push_of_some _ e) (Nat.le_refl _) ?_,rfl,q _ hf⟩
 exact ⟨z,us,r,⟨_,Heap.get?_push_size _ rfl,rfl,_,rfl⟩⟩
theorem xw (h:PA X es t):PE X (.List es pos) (U7 t):=by
 intro pins s σ H Q I hq
 refine wpAny_List_spliced (Tx (h pos pins s σ H _ I hq) fun us s1 ⟨xs,H1,I1,r,z,q⟩=>⟨by rw [← r.length]; exact z,?_⟩)
 have hf:H1 s1.heap.objs.size=none:=I1.hok.fresh (Nat.le_refl _)
 refine ⟨.ref s1.heap.objs.size,Tp H1 s1.heap.objs.size (.lst xs),I1.laid (t':=s1.toks) (fun b u e=>Heap.get?_push_of_some _ e) (Nat.le_refl _) ?_,rfl,q _ hf⟩
 exact ⟨z,us,0,r,Heap.get?_push_size _ rfl⟩
end
abbrev Sp:=List V->Hp->VK->XK->Prop
abbrev TY:=List Env->Hp->Shared->XK->Value->Shared->Prop
structure Env0 (P:Program) (w:World) (K:Tl) (mg:Str->Option Value) (base:Heap) (A:Around) (outer:List Env) (s:Shared) (H:Hp):Prop where
 frames:A.frames=some outer
 mod:Mod K mg base
 bs:∀ b o,base.get? b=some o->s.heap.get? b=some o /\ H b=none
 bsz:base.objs.size<=s.heap.objs.size
 funs:s.heap.FunFrames base outer
 frf:∀ b ∈ Tt outer,H b=none
 hok:Tq P w H s.heap
 bare:AllBare s.gens
def CE (outer:List Env) (P:Program) (w:World) (H:Hp) (s:Shared) (Q:VK) (u:Value) (s':Shared):Prop :=
 ∃ v H',s'.os=s.os /\ AllBare s'.gens /\ Un (Tt outer) [] H H' s.heap s'.heap /\ Tq P w H' s'.heap /\ zJ v u /\ Q v H'
def CR (CX:TY) (outer:List Env) (P:Program) (w:World) (H:Hp) (s:Shared) (Q:VK) (E:XK) (r:Result) (s':Shared):Prop :=
 match r with
 | .ok (.ret u)=>CE outer P w H s Q u s'
 | .ok _=>False
 | .error e=>CX outer H s E e s'
structure FnOk (P:Program) (w:World) (K:Tl) (mg:Str->Option Value) (base:Heap) (CX:TY) (k:Nat) (f:Addr) (fd:FuncData) (ps:List Str) (sp:Sp):Prop where
 len:∀ vs H Q E,sp vs H Q E->vs.length=ps.length
 run:∀ (A:Around) (outer:List Env) (s:Shared) (H:Hp) (args:Args) (us:List Value) (vs:List V) (Q:VK) (E:XK),Room k A->Env0 P w K mg base A outer s H->BindsTo s fd args (ps.zip us)->zC vs us->sp vs H Q E →
  codeAny (model P w) A (.call (.ref f) args) (CR CX outer P w H s Q E) s
theorem FnOk.mono {P:Program} {w:World} {K:Tl} {mg:Str->Option Value} {base:Heap} {CX:TY} {j k:Nat} {f:Addr} {fd:FuncData} {ps:List Str} {sp:Sp} (F:FnOk P w K mg base CX j f fd ps sp) (h:j<=k) :
  FnOk P w K mg base CX k f fd ps sp:=⟨F.len,fun A outer s H args us vs Q E hr=>F.run A outer s H args us vs Q E (hr.mono h)⟩
section
variable {X:Cx} {pins:List (Addr × Obj)} {σ:St} {H:Hp} {s s':Shared}
theorem Inv.env0 (I:Inv X pins σ H s):Env0 X.prog X.w X.K X.mg X.base X.A X.stack s H :=
 ⟨I.ok.frames,I.ok.mod,I.bs,Nat.le_trans I.ok.bsz I.sz,I.stack,I.stkFree,I.hok,I.bare⟩
theorem Inv.after {Q:VK} {u:Value} (I:Inv X pins σ H s) (h:CE X.stack X.prog X.w H s Q u s'):EP X pins σ Q u s':=by
 obtain ⟨v,H',os,bare,un,hok,r,q⟩:=h
 obtain ⟨hh,g,d,t,os'⟩:=s'
 obtain rfl:os' = s.os:=os
 exact ⟨v,H',I.call (h':=hh) (g':=g) (d':=d) (t':=t) (ch:=[]) un hok bare (fun b z=>absurd z (by simp)),r,q⟩
end
def Yq (sp:Sp) (dvs:List V) (E:XK) (t:TA):TE:=fun σ H Q=>t σ H fun vs H1=>sp (vs ++ dvs) H1 Q E
def v6 (K:Tl) (fd:FuncData) (ps:List Str) (ds:List Value):Prop :=
 ∀ (s:Shared) (us:List Value),K.In s.heap->(us ++ ds).length=ps.length->BindsTo s fd ⟨us,[]⟩ (ps.zip (us ++ ds))
theorem v6.all {K:Tl} {fd:FuncData} {ps:List Str} (h:∀ us:List Value,us.length=ps.length->bindArgs fd ⟨us,[]⟩=pure (ps.zip us)):v6 K fd ps []:=fun s us _ hl=>by
 rw [List.append_nil] at hl ⊢
 exact .of_eq (h us hl)
def vQ (CX:TY) (X:Cx) (E:XK):Prop:=∀ (pins:List (Addr × Obj)) (σ:St) (H:Hp) (s:Shared) (e:Value) (s':Shared),Inv X pins σ H s->CX X.stack H s E e s' -> X.xe e s'
section
variable {X:Cx} {CX:TY} {k:Nat} {f C:Addr} {fd:FuncData} {ps:List Str} {sp:Sp} {dvs:List V} {ds:List Value} {E:XK} {x m:Str} {p pos apos:Pos} {e o:Expr} {es:List Expr} {ta:TE} {t:TA}
theorem W6 {pins:List (Addr × Obj)} {σ:St} {H:Hp} {s:Shared} {Q:VK} {us:List Value} {vs:List V} (F:FnOk X.prog X.w X.K X.mg X.base CX k f fd ps sp) (hr:Room k X.A) (hb:v6 X.K fd ps ds) (hd:zC dvs ds) (hx:vQ CX X E)
  (I:Inv X pins σ H s) (r:zC vs us) (h:sp (vs ++ dvs) H Q E):wpAny (model X.prog X.w) X.A (call (.ref f) us) (EP X pins σ Q) X.xe s:=by
 have r2:zC (vs ++ dvs) (us ++ ds):=r.append hd
 have hl:(us ++ ds).length=ps.length:=by rw [← r2.length]; exact F.len _ _ _ _ h
 refine wpAny_call (codeAny_mono (F.run X.A X.stack s H ⟨us,[]⟩ (us ++ ds) (vs ++ dvs) Q E hr I.env0 (hb s us I.kIn hl) r2 h) fun r s' hq=>?_)
 cases r with
 | error e=>exact hx pins σ H s e s' I hq
 | ok fl =>
  cases fl with
  | ret u=>exact I.after hq
  | next=>exact False.elim hq
  | brk=>exact False.elim hq
  | cont=>exact False.elim hq
theorem jR (F:FnOk X.prog X.w X.K X.mg X.base CX k f fd ps sp) (hr:Room k X.A) (hg:Gl X x) (hm:X.mg x=some (.ref f)) (hk:PySem.W.keepIn X.K (.ref f)=true) (hb:v6 X.K fd ps ds) (hd:zC dvs ds) (hx:vQ CX X E)
  (ha:PA X (e :: es) t) (hdb:(x == ("__debug__":Str))=false:=by decide) (he:starEach (e :: es) X.env=(false,eval e X.env) :: starEach es X.env:=by rfl) (hpl:(backTo pos (starEach es X.env)).any (·.1)=false:=by rfl) :
  PE X (.Call (.Name x p) (e :: es) [] pos) (Yq sp dvs E t):=by
 intro pins s σ H Q I h
 refine wpAny_Call_Name_kw (wJ I hg hm ?_ hdb)
 refine PySem.W.callWith_K (h₀:=X.base) I.ok.mod.kin hk (Tx (ha pos pins s σ H _ I h) fun us s1 ⟨vs,H1,I1,r,q⟩=>⟨I1.kIn,?_⟩) he hpl
 exact W6 F hr hb hd hx I1 r q
end
structure FnScope (N P:List Str) (sc:Scope):Prop where
 kind:sc.kind = .function
 co:sc.isCoroutine=false
 gen:sc.isGenerator=false
 nd:N.Nodup
 pre:N.take P.length=P
 par:∀ x ∈ P,sc.names.lookup x=some .local \/ sc.names.lookup x=some .cell
 nofree:∀ y ∈ sc.names,y.2 ≠ .free
theorem uI {kindOf:Str->Option NameKind} {x:Str}:∀ {binds:List (Str × Value)} {m:Str->Option Value},(∀ v,(x,v) ∉ binds)->bindL kindOf binds m x=m x
 | [],_,_=>rfl
 | (n,v) :: r,m,h=>by
  unfold bindL
  rw [uI fun w hw=>h w (List.mem_cons_of_mem _ hw)]
  split
  ·have:x ≠ n:=by rintro rfl; exact h v List.mem_cons_self
   simp [this]
  ·rfl
theorem uJ {kindOf:Str->Option NameKind} {x:Str}:∀ {binds:List (Str × Value)} {m:Str->Option Value},(∀ v,(x,v) ∉ binds)->bindC kindOf binds m x=m x
 | [],_,_=>rfl
 | (n,v) :: r,m,h=>by
  unfold bindC
  rw [uJ fun w hw=>h w (List.mem_cons_of_mem _ hw)]
  split
  ·rfl
  ·have:x ≠ n:=by rintro rfl; exact h v List.mem_cons_self
   simp [this]
theorem uK {kindOf:Str->Option NameKind} {x:Str} {v:Value}:∀ {P:List Str} {vs:List Value} {i:Nat} {m:Str->Option Value},P.Nodup->P[i]? = some x->vs[i]? = some v->kindOf x=some .local →
  bindL kindOf (P.zip vs) m x=some v
 | [],_,_,_,_,h,_,_=>by simp at h
 | _ :: _,[],_,_,_,_,h,_=>by simp at h
 | p :: P,w :: vs,0,m,nd,h1,h2,hk=>by
  simp at h1 h2; subst h1; subst h2
  show bindL kindOf ((p,w) :: P.zip vs) m p=_
  unfold bindL
  rw [uI fun v hv=>(List.nodup_cons.mp nd).1 (List.of_mem_zip hv).1,if_pos hk]
  simp
 | p :: P,w :: vs,i+1,m,nd,h1,h2,hk=>by
  show bindL kindOf ((p,w) :: P.zip vs) m x=_
  unfold bindL
  exact uK (i:=i) (List.nodup_cons.mp nd).2 (by simpa using h1) (by simpa using h2) hk
theorem uL {kindOf:Str->Option NameKind} {x:Str} {v:Value}:∀ {P:List Str} {vs:List Value} {i:Nat} {m:Str->Option Value},P.Nodup->P[i]? = some x->vs[i]? = some v->kindOf x ≠ some .local →
  bindC kindOf (P.zip vs) m x=some v
 | [],_,_,_,_,h,_,_=>by simp at h
 | _ :: _,[],_,_,_,_,h,_=>by simp at h
 | p :: P,w :: vs,0,m,nd,h1,h2,hk=>by
  simp at h1 h2; subst h1; subst h2
  show bindC kindOf ((p,w) :: P.zip vs) m p=_
  unfold bindC
  rw [uJ fun v hv=>(List.nodup_cons.mp nd).1 (List.of_mem_zip hv).1,if_neg hk]
  simp
 | p :: P,w :: vs,i+1,m,nd,h1,h2,hk=>by
  show bindC kindOf ((p,w) :: P.zip vs) m x=_
  unfold bindC
  exact uL (i:=i) (List.nodup_cons.mp nd).2 (by simpa using h1) (by simpa using h2) hk
def v7 (N:List Str) (vs:List V):St:=vs.map some ++ List.replicate (N.length - vs.length) none
def rH (CX:TY) (P:Program) (w:World) (K:Tl) (mg:Str->Option Value) (base:Heap) (N:List Str) (qual:Str) (scope:Scope) (f:Addr) (cd:Value) (A:Around) (outer:List Env) (s:Shared) (H:Hp) (E:XK):Cx where
 prog:=P
 w:=w
 K:=K
 mg:=mg
 base:=base
 A:=A.deeper (envOfC qual scope s.heap.objs.size f cd)
 N:=N
 s₀:=s
 H₀:=H
 env:=envOfC qual scope s.heap.objs.size f cd
 outer:=outer
 stack:=envOfC qual scope s.heap.objs.size f cd :: outer
 ex:=[]
 calm:=true
 fn:=fun _=>true
 pn:=[]
 xe:=fun e s'=>wpAny (model P w) (A.deeper (envOfC qual scope s.heap.objs.size f cd)) (leaving (envOfC qual scope s.heap.objs.size f cd) e) (fun _ s''=>CX outer H s E e s'') (fun e' s''=>CX outer H s E e' s'') s'
theorem rJ {sc:Scope} {n:Nat} {x:Str} (h:sc.names.lookup x=some .cell):∃ c,(cellsFrom n sc.names []).lookup x=some c:=by
 have q:=PySem.W.cellsFrom_some sc.names n [] (.inl h)
 exact Option.isSome_iff_exists.mp q
theorem jS {CX:TY} {P:Program} {w:World} {K:Tl} {mg:Str->Option Value} {base:Heap} {N ps:List Str} {qual:Str} {scope:Scope} {f:Addr} {cd:Value} {A:Around} {outer:List Env} {s s1:Shared} {H:Hp} {E:XK} {us:List Value} {vs:List V}
  (S:FnScope N ps scope) (hd:A.handled=none) (e0:Env0 P w K mg base A outer s H) (hl:vs.length=ps.length) (r:zC vs us)
  (x:InCallC s s.heap.objs.size (bindL (envOfC qual scope s.heap.objs.size f cd).kindOf (ps.zip us) fun _=>none) (cellsFrom (s.heap.objs.size+1) scope.names []) (bindC (envOfC qual scope s.heap.objs.size f cd).kindOf (ps.zip us) fun _=>none) s1) :
  Inv (rH CX P w K mg base N qual scope f cd A outer s H E) [] (v7 N vs) H s1:=by
 have hpl:ps.length<=N.length:=by have:=congrArg List.length S.pre; rw [List.length_take] at this; omega
 obtain ⟨h1,tk,rfl,hk⟩:=x.done
 have noA:∀ b:Addr,b ∉ (rH CX P w K mg base N qual scope f cd A outer s H E).ex:=fun b z=>absurd (show b ∈ ([]:List Addr) from z) (by simp)
 refine ⟨⟨e0.mod,S.kind,rfl,rfl,Nat.le_refl _,fun y z c h1 h2=>?_,fun y hy=>?_,fun y c _ h=>?_,fun _=>hd,Around.frames_deeper e0.frames,.inr ⟨rfl,rfl⟩,fun b z=>absurd z (noA b),e0.bs,e0.bsz,fun b _ _=>noA b,fun b z=>absurd z (noA b),e0.funs,e0.frf⟩,
  rfl,e0.bare,Un.kept hk,⟨_,x.toInCall.ns,fun i y v h1 h2 h3=>?_⟩,fun y c h=>⟨_,x.cell y c h⟩,e0.hok.fresh (Nat.le_refl _),fun y c h=>?_,fun p hp=>absurd (show p ∈ ([]:List (Addr × Obj)) from hp) (by simp),e0.hok.kept hk,?_⟩
 ·exact name_of_addr x.apart (PySem.mem_of_lookup h1) (PySem.mem_of_lookup h2)
 ·have hy:scope.names.lookup y=some .cell \/ scope.names.lookup y=some .free:=hy
  rcases hy with hy | hy
  ·exact rJ hy
  ·exact absurd rfl (S.nofree _ (PySem.mem_of_lookup hy))
 ·exact Nat.le_of_lt (x.above y c (PySem.mem_of_lookup h))
 ·have hi:i < vs.length:=by
   unfold v7 at h2
   by_cases hi:i < vs.length
   ·exact hi
   ·rw [List.getElem?_append_right (by simpa using hi)] at h2
    rw [List.getElem?_replicate] at h2
    split at h2 <;> cases h2
  have ha:vs[i]? = some v:=by
   unfold v7 at h2
   rw [List.getElem?_append_left (by simpa using hi),List.getElem?_map] at h2
   cases e:vs[i]? with
   | none=>rw [e] at h2; cases h2
   | some a=>rw [e] at h2; cases h2; rfl
  obtain ⟨u,hu,rv⟩:=r.get ha
  have hp:ps[i]? = some y:=by
   rw [← S.pre,List.getElem?_take_of_lt (by omega)]; exact h1
  have ndP:ps.Nodup:=by rw [← S.pre]; exact S.nd.sublist (List.take_sublist _ _)
  refine ⟨u,rv,?_⟩
  rcases S.par y (List.mem_of_getElem? hp) with k | k
  ·exact .inl ⟨k,uK ndP hp hu k⟩
  ·obtain ⟨c,e⟩:=rJ (n:=s.heap.objs.size+1) k
   refine .inr ⟨.inl k,c,e,?_⟩
   have q:=x.cell y c e
   rw [uL ndP hp hu (by show scope.names.lookup y ≠ _; rw [k]; decide)] at q
   exact q
 ·exact e0.hok.fresh (Nat.le_of_lt (x.above y c (PySem.mem_of_lookup h)))
 ·unfold v7
  show _=N.length
  rw [List.length_append,List.length_map,List.length_replicate]
  omega
theorem W7 {CX:TY} {P:Program} {w:World} {K:Tl} {mg:Str->Option Value} {base:Heap} {k:Nat} {f:Addr} {name qual:Str} {params:Arguments} {body:List Stmt} {scope:Scope} {dV kV doc pm cdv ct oc:Value} {an od:Option Addr}
  {osl:Array (Option Value)} {N ps:List Str} {sp:Sp} (lk:K.lookup f=some ⟨oc,od,.func (PySem.W.fnOf name qual params body scope dV kV doc pm an cdv ct),osl⟩) (hcd:PySem.W.codeIn K cdv qual=true) (S:FnScope N ps scope)
  (len:∀ vs H Q E,sp vs H Q E->vs.length=ps.length)
  (hbody:∀ (A:Around) (outer:List Env) (s:Shared) (H:Hp) (vs:List V) (Q:VK) (E:XK),Room k (A.deeper (envOfC qual scope s.heap.objs.size f cdv))->sp vs H Q E →
   ∃ t,Tw (rH CX P w K mg base N qual scope f cdv A outer s H E) body t /\ t { nx:=fun _ H'=>Q .non H',rt:=Q } (v7 N vs) H) :
  FnOk P w K mg base CX (k+1) f (PySem.W.fnOf name qual params body scope dV kV doc pm an cdv ct) ps sp:=by
 refine ⟨len,fun A outer s H args us vs Q E hr e0 hb r hsp=>?_⟩
 have hl:=len _ _ _ _ hsp
 have KX:K.In s.heap:=e0.mod.kin.keeps fun b o e=>(e0.bs b o e).1
 have lim:s.heap.NoLimit:=e0.mod.nolimit.keeps fun b o e=>(e0.bs b o e).1
 have hkind:∀ y ∈ ps.zip us,scope.names.lookup y.1=some .local \/ (scope.names.lookup y.1=some .cell /\ ((cellsFrom (s.heap.objs.size+1) scope.names []).lookup y.1).isSome=true):=fun ⟨n,v⟩ hy=>by
  rcases S.par n (List.of_mem_zip hy).1 with q | q
  ·exact .inl q
  ·exact .inr ⟨q,PySem.W.cellsFrom_some _ _ _ (.inl q)⟩
 refine codeAny_call_function hr.depth (KX _ _ lk) rfl S.co S.gen rfl (PySem.W.codeRec_of KX hcd) (hb _ _ _ _ ?_)
 refine wpAny_newFunctionEnv_cells S.kind hkind fun env he s1 x=>?_
 subst he
 refine ⟨lim.keeps x.toInCall.keep,codeAny_func ?_⟩
 obtain ⟨t,ht,hq⟩:=hbody A outer s H vs Q E (hr.deeper _) hsp
 have I:Inv (rH CX P w K mg base N qual scope f cdv A outer s H E) [] (v7 N vs) H s1:=jS S hr.hd e0 hl r x
 refine wpAny_mono (ht [] s1 (v7 N vs) H _ I hq) (fun fl s' hs=>?_) fun e s' hs=>hs
 have fin:∀ {σ':St} {H':Hp} {v:V} {u:Value},Inv (rH CX P w K mg base N qual scope f cdv A outer s H E) [] σ' H' s' -> zJ v u->Q v H' -> CE outer P w H s Q u s' :=
  fun {σ' H' v u} J rv q=>⟨v,H',J.os,J.bare,J.base,J.hok,rv,q⟩
 cases fl with
 | ret u =>
  obtain ⟨v,σ',H',J,rv,q⟩:=hs
  exact fin J rv q
 | next =>
  obtain ⟨σ',H',J,q⟩:=hs
  exact fin (v:=V.non) (u:=Value.none) J rfl q
 | brk =>
  obtain ⟨_,_,_,q⟩:=hs
  exact False.elim q
 | cont =>
  obtain ⟨_,_,_,q⟩:=hs
  exact False.elim q
end L2
namespace L2
open PySem PySem.Spec PyProof.Rows
section
variable {X:Cx} {x:Str} {p pos:Pos} {e:Expr} {es:List Expr} {t:TA} {id T:String} {r:List V->Hp->VK->Prop}
def TZ (r:List V->Hp->VK->Prop) (t:TA):TE:=fun σ H Q=>t σ H fun vs H1=>r vs H1 Q
theorem ze (hc:yw X (.builtin id) r) (hg:Gl X x) (hm:X.mg x=none) (hv:bootBuiltins x=some (.builtin id)) (ha:PA X (e :: es) t) (hn:x ≠ "__name__":=by decide) (hdb:(x == ("__debug__":Str))=false:=by decide)
  (he:starEach (e :: es) X.env=(false,eval e X.env) :: starEach es X.env:=by rfl) (hpl:(backTo pos (starEach es X.env)).any (·.1)=false:=by rfl):PE X (.Call (.Name x p) (e :: es) [] pos) (TZ r t):=by
 intro pins s σ H Q I h
 refine wpAny_Call_Name_kw (xN I hg hm hv ?_ hn hdb)
 exact PyProof.Rows.callWith_builtin1 (Tx (ha pos pins s σ H _ I h) fun us s1 ⟨vs,H1,I1,r1,q1⟩=>hc pins s1 σ H1 vs us Q I1 r1 q1) he hpl
theorem zx (hc:yw X (.type T) r) (hg:Gl X x) (hm:X.mg x=none) (hv:bootBuiltins x=some (.type T)) (ha:PA X (e :: es) t) (hn:x ≠ "__name__":=by decide) (hdb:(x == ("__debug__":Str))=false:=by decide)
  (he:starEach (e :: es) X.env=(false,eval e X.env) :: starEach es X.env:=by rfl) (hpl:(backTo pos (starEach es X.env)).any (·.1)=false:=by rfl):PE X (.Call (.Name x p) (e :: es) [] pos) (TZ r t):=by
 intro pins s σ H Q I h
 refine wpAny_Call_Name_kw (xN I hg hm hv ?_ hn hdb)
 exact PyProof.Rows.callWith_type1 (Tx (ha pos pins s σ H _ I h) fun us s1 ⟨vs,H1,I1,r1,q1⟩=>hc pins s1 σ H1 vs us Q I1 r1 q1) he hpl
end
end L2
namespace HT
open PySem PyProof.Rows
section
variable {prog:Program} {w:World} {A:Around} {E:Tn} {s:Shared}
theorem cat_tup {t b:Addr} {vs ws:List Value} {Q:Tn} (ht:IsTup s.heap t vs.toArray) (hb:IsTup s.heap b ws.toArray) (hv:vs ≠ [])
  (h1:ws=[]->Q (.ref t) s) (h2:ws ≠ []->Q (.ref s.heap.objs.size) { s with heap:=s.heap.push { cls:=.type "tuple",data:=.seq (vs ++ ws).toArray } })
  (hsz:vs.length+ws.length<=sizeLine):wpAny (model prog w) A (binaryOp .Add (.ref t) (.ref b)) Q E s:=by
 obtain ⟨⟨cls,dd,data,sl⟩,ho,hc,n,hd⟩:=id ht
 obtain ⟨⟨cls2,dd2,data2,sl2⟩,ho2,hc2,n2,hd2⟩:=id hb
 simp only at hc hd hc2 hd2
 subst hc hd hc2 hd2
 have e:vs.toArray ++ ws.toArray=(vs ++ ws).toArray:=by simp
 by_cases hw:ws=[]
 ·exact concat_meets ⟨_,ho,rfl⟩ ⟨_,ho2,rfl⟩ noFill_tuple_add seq_tuple_add PySem.F.slot_tuple_add PySem.F.entry_tuple_add (PySem.F.args_tuple_add_2 _ _)
   (tuple_addW1 t b vs.toArray ws.toArray n n2 dd dd2 sl sl2 (by simpa using hv) (by simp [hw])) ⟨ho,ho2,h1 hw⟩
 ·refine concat_meets ⟨_,ho,rfl⟩ ⟨_,ho2,rfl⟩ noFill_tuple_add seq_tuple_add PySem.F.slot_tuple_add PySem.F.entry_tuple_add (PySem.F.args_tuple_add_2 _ _)
   (tuple_addW2 t b vs.toArray ws.toArray n n2 dd dd2 sl sl2 (by simpa using hv) (by simpa using hw) (by rw [List.size_toArray,List.size_toArray]; exact hsz)) ⟨ho,ho2,?_⟩
  rw [e]
  exact h2 hw
def sIx (n d:Nat):Option Int->Nat
 | none=>d
 | some v=>if v < 0 then (v+(n:Int)).toNat else min v.toNat n
theorem sIx_none (n d:Nat):sIx n d none=d:=rfl
theorem sIx_nat (n d k:Nat):sIx n d (some (k:Int))=min k n:=by
 show (if (k:Int) < 0 then ((k:Int)+(n:Int)).toNat else min (k:Int).toNat n)=min k n
 rw [if_neg (by omega),Int.toNat_natCast]
theorem W8 (n d:Nat) (hd:d<=n) (o:Option Int):sIx n d o<=n:=by
 cases o with
 | none=>exact hd
 | some v =>
  show (if v < 0 then (v+(n:Int)).toNat else min v.toNat n)<=n
  by_cases hv:v < 0
  ·rw [if_pos hv]; omega
  ·rw [if_neg hv]; exact Nat.min_le_right _ _
theorem jT (v:Int) (n d:Nat):(if v < 0 then max (v+(n:Int)) 0 else min v (n:Int))=((sIx n d (some v):Nat):Int):=by
 show (if v < 0 then max (v+(n:Int)) 0 else min v (n:Int))=(((if v < 0 then (v+(n:Int)).toNat else min v.toNat n):Nat):Int)
 by_cases hv:v < 0
 ·simp only [if_pos hv]; omega
 ·simp only [if_neg hv]; omega
theorem qK (lo hi:Option Int) (n:Nat):Builtin.Slice.sliceAdjust lo hi 1 (n:Int)=(((sIx n 0 lo:Nat):Int),((sIx n n hi:Nat):Int)):=by
 have h1:¬ ((1:Int) < 0):=by omega
 unfold Builtin.Slice.sliceAdjust
 simp only [h1,if_false]
 refine Prod.ext ?_ ?_
 ·cases lo with
  | none=>rfl
  | some v=>exact jT v n 0
 ·cases hi with
  | none=>rfl
  | some v=>exact jT v n n
theorem qL (i j:Nat):Builtin.Slice.slicePlaces (i:Int) (j:Int) 1=j - i:=by
 unfold Builtin.Slice.slicePlaces
 have h1:(1:Int) > 0:=by omega
 simp only [h1,if_true,Int.ediv_one]
 split <;> omega
theorem vR {v:Value} {o:Option Int} {Q:Option Int->Shared->Prop} (p:IsPart v o) (h:Q o s):wpAny (model prog w) A (Builtin.Slice.slicePartIndex v) Q E s:=by
 cases p with
 | none=>exact slicePart_none h
 | int i t=>exact slicePart_int h
theorem yQ {sl:Addr} {vl vu:Value} {lo hi:Option Int} {n:Nat} {Q:Int × Int × Nat->Shared->Prop} (hs:s.heap.IsSliceOf sl vl vu .none) (pl:IsPart vl lo) (pu:IsPart vu hi)
  (h:Q (((sIx n 0 lo:Nat):Int),1,sIx n n hi - sIx n 0 lo) s):wpAny (model prog w) A (Builtin.Slice.sliceApplied (.ref sl) (pure (n:Int))) Q E s:=by
 obtain ⟨os,hos,hcs,hds⟩:=id hs
 unfold Builtin.Slice.sliceApplied Builtin.Slice.sliceFields
 refine wpAny_bind (wpAny_bind (wpAny_field hos hds (x:=vl) rfl (wpAny_bind (wpAny_field hos hds (x:=vu) rfl (wpAny_bind (wpAny_field hos hds (x:=.none) rfl (wpAny_pure ?_)))))))
 refine wpAny_bind (slicePart_none ?_)
 show wpAny _ _ (if ((1:Int) == 0)=true then _ else _) _ _ s
 rw [if_neg (by decide)]
 refine wpAny_bind (vR pl (wpAny_bind (vR pu (wpAny_bind (wpAny_pure ?_)))))
 show wpAny _ _ (match Builtin.Slice.sliceAdjust lo hi 1 (n:Int) with | (lo,hi)=>pure (lo,(1:Int),Builtin.Slice.slicePlaces lo hi 1)) _ _ s
 rw [qK lo hi n]
 show wpAny _ _ (pure (((sIx n 0 lo:Nat):Int),(1:Int),Builtin.Slice.slicePlaces ((sIx n 0 lo:Nat):Int) ((sIx n n hi:Nat):Int) 1)) _ _ s
 rw [qL]
 exact wpAny_pure h
theorem Yr (xs:Array Value) (i k:Nat):((List.range k).filterMap fun (m:Nat)=>xs[((i:Int)+(m:Int) * 1).toNat]?).toArray=((xs.toList.drop i).take k).toArray:=by
 have e:(fun (m:Nat)=>xs[((i:Int)+(m:Int) * 1).toNat]?)=fun m=>xs[i+m]?:=by
  funext m
  have:((i:Int)+(m:Int) * 1).toNat=i+m:=by omega
  rw [this]
 rw [e]
 have:=pick_run xs i k
 rw [List.filterMap_map] at this
 have e2:((fun x=>xs[x]?) ∘ fun x=>i+x)=fun m=>xs[i+m]?:=rfl
 rw [e2] at this
 rw [this]
theorem getItem_tuple_cut {t sl:Addr} {items:Array Value} {vl vu:Value} {lo hi:Option Int} {Q:Tn} (ht:IsTup s.heap t items) (hs:s.heap.IsSliceOf sl vl vu .none) (pl:IsPart vl lo) (pu:IsPart vu hi)
  (hw:¬ (sIx items.size 0 lo=0 /\ sIx items.size items.size hi=items.size))
  (h:Q (.ref s.heap.objs.size) { s with heap:=s.heap.push { cls:=.type "tuple",data:=.seq ((items.toList.drop (sIx items.size 0 lo)).take (sIx items.size items.size hi - sIx items.size 0 lo)).toArray } })
  (hsz:items.size<=sizeLine):wpAny (model prog w) A (getItem (.ref t) (.ref sl)) Q E s:=by
 have htake:sizeOk (.seq ((items.toList.drop (sIx items.size 0 lo)).take (sIx items.size items.size hi - sIx items.size 0 lo)).toArray):=by
  show ((items.toList.drop (sIx items.size 0 lo)).take (sIx items.size items.size hi - sIx items.size 0 lo)).toArray.size<=sizeLine
  rw [List.size_toArray,List.length_take,List.length_drop,Array.length_toList]
  omega
 have hj:sIx items.size items.size hi<=items.size:=W8 _ _ (Nat.le_refl _) hi
 obtain ⟨os,hos,hcs,hds⟩:=id hs
 have hTs:s.TypeIs (.ref sl) "slice":=⟨os,hos,hcs⟩
 unfold getItem
 try with_reducible refine wpAny_holding ?_
 first | refine wpAny_bind (wpAny_pure ?_) | skip
 refine wpAny_bind (wpAny_sequenceKey ht.typeIs (by decide) ?_)
 refine wpAny_bind (wpAny_callSpecial?_slot (name:=Str.ofString "__getitem__") ht.typeIs PyProof.Rows.slot_tuple_getitem
  (wpAny_call_entry PyProof.Rows.slot_tuple_getitem ht.typeIs entry_tuple_getitem ?_ (args_tuple_getitem _ _)))
 show wpAny _ _ (Builtin.Tuple.tupleItemsOf (.ref t) >>= _) _ _ s
 refine wpAny_bind (tupleItemsOf_ ht ?_)
 refine wpAny_bind (wpAny_typeOf hTs ?_)
 rw [if_pos (by decide)]
 refine wpAny_bind (yQ hs pl pu ?_)
 have hno:¬ ((((sIx items.size 0 lo:Nat):Int) == 0 && (1:Int) == 1 && (sIx items.size items.size hi - sIx items.size 0 lo) == items.size)=true):=by
  intro q
  rw [Bool.and_eq_true,Bool.and_eq_true] at q
  have q1:((sIx items.size 0 lo:Nat):Int)=0:=eq_of_beq q.1.1
  have q2:sIx items.size items.size hi - sIx items.size 0 lo=items.size:=eq_of_beq q.2
  exact hw ⟨by omega,by omega⟩
 show wpAny _ _ (if (((sIx items.size 0 lo:Nat):Int) == 0 && (1:Int) == 1 && (sIx items.size items.size hi - sIx items.size 0 lo) == items.size)=true then _ else _) _ _ s
 rw [if_neg hno,Yr]
 first
  | exact wpAny_bind (m:=Builtin.Tuple.tupleExact _) (wpAny_newObj_type (wpAny_pure ⟨_,rfl,wpAny_pure h⟩) htake)
  | exact wpAny_bind (m:=Builtin.Tuple.tupleExact _) (wpAny_newObj_type (wpAny_bind (wpAny_pure (wpAny_pure ⟨_,rfl,wpAny_pure h⟩))) htake)
  | exact wpAny_bind (wpAny_bind (m:=Builtin.Tuple.tupleExact _) (wpAny_newObj_type (wpAny_pure (wpAny_pure ⟨_,rfl,wpAny_pure h⟩)) htake))
  | exact wpAny_bind (wpAny_bind (m:=Builtin.Tuple.tupleExact _) (wpAny_newObj_type (wpAny_pure ⟨_,rfl,wpAny_pure h⟩) htake))
end
end HT
namespace L2
open PySem PySem.Spec PyProof.Rows
abbrev TO:=St->Hp->(Option Int->Hp->Prop)->Prop
def PO (X:Cx) (e:Option Expr) (t:TO):Prop :=
 ∀ (pins:List (Addr × Obj)) (s:Shared) (σ:St) (H:Hp) (Q:Option Int->Hp->Prop),Inv X pins σ H s->t σ H Q →
  wpAny (model X.prog X.w) X.A (evalPart e X.env) (fun u s'=>∃ o H',Inv X pins σ H' s' /\ IsPart u o /\ Q o H') X.xe s
def X2:TO:=fun _ H Q=>Q none H
def Uc (t:TE):TO:=fun σ H Q=>t σ H fun x H1=>∃ i,x = .int i /\ Q (some i) H1
section
variable {X:Cx} {e:Expr} {te:TE} {lo hi:Option Expr} {tl th:TO} {pos p2:Pos}
theorem X3:PO X none X2:=by
 intro pins s σ H Q I h
 rw [evalPart_none]
 exact wpAny_pure ⟨none,H,I,.none,h⟩
theorem X4 (h:PE X e te):PO X (some e) (Uc te):=by
 intro pins s σ H Q I hw
 rw [evalPart_some]
 refine Tx (h pins s σ H _ I hw) fun u s1 ⟨x,H1,I1,r1,q1⟩=>?_
 obtain ⟨i,rfl,q⟩:=q1
 obtain ⟨t,rfl⟩:=r1
 exact ⟨some i,H1,I1,.int i t,q⟩
def T1 (X:Cx) (r:V->Option Int->Option Int->Hp->VK->Prop):Prop :=
 ∀ (pins:List (Addr × Obj)) (s:Shared) (σ:St) (H:Hp) (x:V) (v vl vu:Value) (lo hi:Option Int) (sl:Addr) (Q:VK),Inv X pins σ H s->zJ x v->s.heap.IsSliceOf sl vl vu .none->IsPart vl lo->IsPart vu hi->r x lo hi H Q →
  ∃ T id,typeLookup (.type T) "__getitem__" = pure (some (.builtin id)) /\ s.TypeIs v T /\ wpAny (model X.prog X.w) X.A (getItem v (.ref sl)) (EP X pins σ Q) X.xe s
def T3 (r:V->Option Int->Option Int->Hp->VK->Prop) (te:TE) (tl th:TO):TE:=fun σ H Q=>te σ H fun x H1=>tl σ H1 fun l H2=>th σ H2 fun u H3=>r x l u H3 Q
theorem Ys {r:V->Option Int->Option Int->Hp->VK->Prop} (hr:T1 X r) (he:PE X e te) (hl:PO X lo tl) (hu:PO X hi th):PE X (.Subscript e (.Slice lo hi none p2) pos) (T3 r te tl th):=by
 intro pins s σ H Q I h
 refine Subscript_ (Tx (he pins s σ H _ I h) fun v s1 ⟨x,H1,I1,r1,q1⟩=>?_)
 refine wpAny_Slice (Tx (hl pins s1 σ H1 _ I1 q1) fun vl s2 ⟨l,H2,I2,pl,q2⟩=>Tx (hu pins s2 σ H2 _ I2 q2) fun vu s3 ⟨u,H3,I3,pu,q3⟩=>?_)
 rw [evalPart_none]
 refine wpAny_pure ?_
 have I4:Inv X pins σ H3 { s3 with heap:=s3.heap.push { cls:=.type "slice",data:=.fields #[vl,vu,.none] } }:=I3.kept (t':=s3.toks) fun b ob q=>Heap.get?_push_of_some _ q
 obtain ⟨T,id,hT,ht,hg⟩:=hr pins { s3 with heap:=s3.heap.push { cls:=.type "slice",data:=.fields #[vl,vu,.none] } } σ H3 x v vl vu l u s3.heap.objs.size Q I4 r1 (Heap.IsSliceOf.new ..) pl pu q3
 show wpAny (model X.prog X.w) X.A (subscriptTail e (.Slice lo hi none p2) v (.ref s3.heap.objs.size)) (EP X pins σ Q) X.xe { s3 with heap:=s3.heap.push { cls:=.type "slice",data:=.fields #[vl,vu,.none] } }
 exact tail_any (ops:=[.ref s3.heap.objs.size,v]) ht hT hg (by with_unfolding_all rfl)
def jA (xs:List V) (lo hi:Option Int):List V:=(xs.drop (HT.sIx xs.length 0 lo)).take (HT.sIx xs.length xs.length hi - HT.sIx xs.length 0 lo)
theorem sh (xs:List V) (lo hi:Option Int):(jA xs lo hi).length<=xs.length:=by
 unfold jA
 rw [List.length_take,List.length_drop]
 omega
def U8 (K:Tl):V->Option Int->Option Int->Hp->VK->Prop:=fun x lo hi H Q=>∃ a xs,x = .ref a /\ TC K H a xs ∧
 ¬ (HT.sIx xs.length 0 lo=0 /\ HT.sIx xs.length xs.length hi=xs.length) /\ ∀ p,H p=none->Q (.ref p) (Tp H p (.tup (jA xs lo hi)))
theorem W9:T1 X (U8 X.K):=by
 intro pins s σ H x v vl vu lo hi sl Q I rx hs pl pu h
 obtain ⟨a,xs,rfl,hx,hw,q⟩:=h
 cases rx
 obtain ⟨its,r,ht,hz⟩:=I.tuple hx
 have hlen:its.toArray.size=xs.length:=by rw [List.size_toArray]; exact r.length.symm
 refine ⟨"tuple",_,PyProof.Rows.slot_tuple_getitem.lookup,ht.typeIs,?_⟩
 refine HT.getItem_tuple_cut ht hs pl pu (by rw [hlen]; exact hw) ?_ (by rw [hlen]; exact hz)
 rw [hlen]
 refine ⟨.ref s.heap.objs.size,_,I.laid (t':=s.toks) (o:=.tup (jA xs lo hi)) (fun b ob q=>Heap.get?_push_of_some _ q) (Nat.le_refl _) ?_,rfl,q _ (I.hok.fresh (Nat.le_refl _))⟩
 exact ⟨Nat.le_trans (sh xs lo hi) hz,_,(r.drop (HT.sIx xs.length 0 lo)).take (HT.sIx xs.length xs.length hi - HT.sIx xs.length 0 lo),IsTup.new _ _⟩
def Ud (K:Tl):R2:=fun x y H Q=>∃ a b xs ys,x = .ref a /\ y = .ref b /\ TC K H a xs /\ TC K H b ys /\ xs ≠ [] /\ xs.length+ys.length<=sizeLine ∧
 (ys=[]->Q (.ref a) H) /\ (ys ≠ [] -> ∀ p,H p=none->Q (.ref p) (Tp H p (.tup (xs ++ ys))))
theorem zC.nil_iff {xs:List V} {us:List Value} (r:zC xs us):us=[] ↔ xs=[]:=by
 cases r with
 | nil=>simp
 | cons _ _=>simp
theorem X5:TQ X (binaryOp .Add) (Ud X.K):=by
 intro pins s σ H x y v u Q I rx ry h
 obtain ⟨a,b,xs,ys,rfl,rfl,ha,hb,hx,hz,q1,q2⟩:=h
 cases rx
 cases ry
 obtain ⟨its,r1,p1,_⟩:=I.tuple ha
 obtain ⟨its2,r2,p2,_⟩:=I.tuple hb
 refine HT.cat_tup p1 p2 (fun z=>hx (r1.nil_iff.mp z)) (fun z=>⟨.ref a,H,I,rfl,q1 (r2.nil_iff.mp z)⟩) (fun z=>?_) (by rw [← r1.length,← r2.length]; exact hz)
 refine ⟨.ref s.heap.objs.size,_,I.laid (t':=s.toks) (o:=.tup (xs ++ ys)) (fun b ob q=>Heap.get?_push_of_some _ q) (Nat.le_refl _) ?_,rfl,q2 (fun w=>z (r2.nil_iff.mpr w)) _ (I.hok.fresh (Nat.le_refl _))⟩
 exact ⟨by rw [List.length_append]; exact hz,_,r1.append r2,IsTup.new _ _⟩
end
end L2
namespace L2
open PySem PySem.Spec PyProof.Rows
def T4 (n:Nat) (i:Int):Option Nat:=if 0<=i then (if i < n then some i.toNat else none) else if -(n:Int)<=i then some (i+n).toNat else none
def T5 {α:Type} (xs:List α) (i:Int):Option α:=(T4 xs.length i).bind fun j=>xs[j]?
theorem jU {n:Nat} {i:Int} {j:Nat} (h:T4 n i=some j):seqIndex? i n=some j /\ j < n /\ -(n:Int)<=i /\ i < n:=by
 unfold T4 at h
 by_cases h0:0<=i
 ·rw [if_pos h0] at h
  by_cases h1:i < n
  ·rw [if_pos h1] at h
   have e:i.toNat=j:=Option.some.inj h
   exact ⟨by rw [seqIndex_of h0 h1,e],by omega,by omega,h1⟩
  ·rw [if_neg h1] at h; cases h
 ·rw [if_neg h0] at h
  by_cases h1:-(n:Int)<=i
  ·rw [if_pos h1] at h
   have e:(i+n).toNat=j:=Option.some.inj h
   exact ⟨by rw [seqIndex_neg (by omega) h1,e],by omega,h1,by omega⟩
  ·rw [if_neg h1] at h; cases h
theorem jV {α:Type} {xs:List α} {i:Int} {v:α} (h:T5 xs i=some v):∃ j,seqIndex? i xs.length=some j /\ xs[j]? = some v /\ j < xs.length /\ -(xs.length:Int)<=i /\ i < xs.length:=by
 unfold T5 at h
 cases e:T4 xs.length i with
 | none=>rw [e] at h; cases h
 | some j =>
  rw [e] at h
  obtain ⟨h1,h2,h3,h4⟩:=jU e
  exact ⟨j,h1,h,h2,h3,h4⟩
def X6 (b:Expr):Prop:=∀ o i,subscripted b false o i=operate [o,i] (getItem o i)
def T6 (X:Cx) (r:R2):Prop :=
 ∀ (value slice:Expr) (pins:List (Addr × Obj)) (s:Shared) (σ:St) (H:Hp) (x y:V) (v u:Value) (Q:VK),Inv X pins σ H s->zJ x v->zJ y u->r x y H Q →
  subscripted slice false v u=operate [v,u] (getItem v u)->wpAny (model X.prog X.w) X.A (subscriptTail value slice v u) (EP X pins σ Q) X.xe s
def T7 (X:Cx) (id:String) (r:V->List V->Hp->VK->Prop):Prop :=
 ∀ (pins:List (Addr × Obj)) (s:Shared) (σ:St) (H:Hp) (x:V) (xs:List V) (v:Value) (us:List Value) (Q:VK),Inv X pins σ H s->zJ x v->zC xs us->r x xs H Q →
  wpAny (model X.prog X.w) X.A (call (.builtin id) (v :: us)) (EP X pins σ Q) X.xe s
section
variable {X:Cx} {a b:Expr} {ta tb:TE} {pos:Pos}
theorem yr {r:R2} (hr:T6 X r) (ha:PE X a ta) (hb:PE X b tb) (hs:X6 b):PE X (.Subscript a b pos) (TR r ta tb):=by
 intro pins s σ H Q I h
 exact Subscript_ (V9 ha hb I h fun v u s2 x y H2 I2 rx ry q=>hr a b pins s2 σ H2 x y v u Q I2 rx ry q (hs _ _))
def U9 (K:Tl):R2:=fun x y H Q=>∃ p xs i v,x = .ref p /\ y = .int i /\ TB K H p xs /\ T5 xs i=some v /\ Q v H
def UL (K:Tl):R2:=fun x y H Q=>∃ p xs i v,x = .ref p /\ y = .int i /\ TC K H p xs /\ T5 xs i=some v /\ Q v H
theorem yX:T6 X (U9 X.K):=by
 intro value slice pins s σ H x y v u Q I rx ry h hs
 obtain ⟨p,xs,i,z,rfl,rfl,hq,he,q⟩:=h
 cases rx
 obtain ⟨t,rfl⟩:=ry
 obtain ⟨its,r,pl,hz⟩:=I.list hq
 obtain ⟨j,h1,h2,h3,h4,h5⟩:=jV he
 obtain ⟨w,ew,rw'⟩:=r.get h2
 have hl:=r.length
 have hn:=vP
 have fin:EP X pins σ Q w s:=⟨z,H,I,rw',q⟩
 by_cases h0:0<=i
 ·have hj:i.toNat=j:=by
   rw [seqIndex_of h0 h5] at h1
   exact Option.some.inj h1
  exact item_listR pl.isList h0 (by omega) (by rw [hj]; simpa using ew) fin hs
 ·have hj:(i+(its.toArray.size:Int)).toNat=j:=by
   rw [seqIndex_neg (by omega) h4] at h1
   rw [List.size_toArray,← hl]
   exact Option.some.inj h1
  exact subscriptTail_builtinR (x:=w) pl.isList.typeIs slot_list_getitem.lookup
   (wpAny_getItem_list_neg (Q:=fun r s'=>r=w /\ EP X pins σ Q r s') pl.isList (by omega) (by rw [List.size_toArray] <;> omega) (by omega) (by rw [hj]; simpa using ew) ⟨rfl,fin⟩) hs
theorem yD:T6 X (UL X.K):=by
 intro value slice pins s σ H x y v u Q I rx ry h hs
 obtain ⟨p,xs,i,z,rfl,rfl,hq,he,q⟩:=h
 cases rx
 obtain ⟨t,rfl⟩:=ry
 obtain ⟨its,r,pl,hz⟩:=I.tuple hq
 obtain ⟨j,h1,h2,h3,h4,h5⟩:=jV he
 obtain ⟨w,ew,rw'⟩:=r.get h2
 have hl:=r.length
 have hn:=vP
 have fin:EP X pins σ Q w s:=⟨z,H,I,rw',q⟩
 exact subscriptTail_builtinR (x:=w) pl.typeIs slot_tuple_getitem.lookup
  (getItem_tuple (j:=j) (Q:=fun r s'=>r=w /\ EP X pins σ Q r s') pl (by omega) (by omega) (by rw [List.size_toArray,← hl]; exact h1) (by simpa using ew) ⟨rfl,fin⟩) hs
theorem qM (its:List Value) (n j:Nat) (u:Value):Obj.mapSeq (·.setIfInBounds j u) { cls:=.type "list",data:=.seq its.toArray n } = { cls:=.type "list",data:=.seq (its.set j u).toArray n }:=by
 simp [Obj.mapSeq]
theorem Inv.lst {pins:List (Addr × Obj)} {σ:St} {H:Hp} {s:Shared} {p:Addr} {xs:List V} (I:Inv X pins σ H s) (h:H p=some (.lst xs)) :
  ∃ (its:List Value) (n:Nat),zC xs its /\ s.heap.get? p=some { cls:=.type "list",data:=.seq its.toArray n } /\ xs.length<=sizeLine:=by
 obtain ⟨z,its,n,r,e⟩:=I.hok p _ h
 exact ⟨its,n,r,e,z⟩
theorem Inv.lstUpd {pins:List (Addr × Obj)} {σ:St} {H:Hp} {s:Shared} {p:Addr} {xs ys:List V} {its its':List Value} {n n':Nat} {f:Obj->Obj} (I:Inv X pins σ H s) (h:H p=some (.lst xs))
  (ho:s.heap.get? p=some { cls:=.type "list",data:=.seq its.toArray n }) (hf:f { cls:=.type "list",data:=.seq its.toArray n } = { cls:=.type "list",data:=.seq its'.toArray n' }) (r:zC ys its') (hz:ys.length<=sizeLine) (t:Nat) :
  Inv X pins σ (Tp H p (.lst ys)) { s with heap:=s.heap.update p f,toks:=t }:=by
 have e:(s.heap.update p f).get? p=some { cls:=.type "list",data:=.seq its'.toArray n' }:=by
  rw [Heap.get?_update_self f ho (by rw [hf] <;> rfl),hf]
 refine I.write (x:=p) (e:=p) (by rw [h]; trivial) (.inl rfl) (fun b u hb q=>(Heap.get?_update_other _ _ (Ne.symm hb)).trans q) ⟨_,e⟩ ?_
 exact ⟨hz,its',n',r,e⟩
def Ue:V->V->V->Hp->(Hp->Prop)->Prop:=fun o i v H Q=>∃ p xs k j,o = .ref p /\ i = .int k /\ H p=some (.lst xs) /\ T4 xs.length k=some j /\ Q (Tp H p (.lst (xs.set j v)))
theorem v8:UF X Ue:=by
 intro pins s σ H o i v ov iv u Q I ro ri rv h
 obtain ⟨p,xs,k,j,rfl,rfl,hp,hj,q⟩:=h
 cases ro
 obtain ⟨t,rfl⟩:=ri
 obtain ⟨its,n,r,ho,hz⟩:=I.lst hp
 obtain ⟨h1,h2,h3,h4⟩:=jU hj
 have hl:=r.length
 have hn:=vP
 have I':Inv X pins σ (Tp H p (.lst (xs.set j v))) { s with heap:=s.heap.update p (Obj.mapSeq (·.setIfInBounds j u)) } :=
  I.lstUpd hp ho (qM its n j u) (r.set rv j) (by rw [List.length_set]; exact hz) s.toks
 by_cases h0:0<=k
 ·have hk:k.toNat=j:=by
   rw [seqIndex_of h0 h4] at h1
   exact Option.some.inj h1
  exact PySem.W.ki_setAt ho h0 (by omega) (by rw [List.size_toArray,← hl]; exact h4) (by rw [hk]; exact ⟨_,I',q⟩)
 ·have hk:(k+(its.toArray.size:Int)).toNat=j:=by
   rw [seqIndex_neg (by omega) h3] at h1
   rw [List.size_toArray,← hl]
   exact Option.some.inj h1
  exact PySem.W.ki_setBack ho (by omega) (by rw [List.size_toArray,← hl]; exact h3) (by omega) (by rw [hk]; exact ⟨_,I',q⟩)
theorem zq:yw X (.builtin "len") (fun xs H Q=>∃ p ys,xs=[.ref p] /\ (TB X.K H p ys \/ TC X.K H p ys) /\ Q (.int ys.length) H):=by
 intro pins s σ H xs us Q I r h
 obtain ⟨p,ys,rfl,hq,q⟩:=h
 obtain ⟨u,rfl,rx⟩:=xE r
 cases rx
 have hn:=vP
 rcases hq with hq | hq
 ·obtain ⟨its,r',pl,hz⟩:=I.list hq
  have hlen:=r'.length
  exact Calls.call_len_list pl.isList (by simp only [List.size_toArray] <;> omega) ⟨.int ys.length,H,I.tok _,⟨s.toks+1,by rw [List.size_toArray,hlen]⟩,q⟩
 ·obtain ⟨its,r',pl,hz⟩:=I.tuple hq
  have hlen:=r'.length
  exact len_tuple pl (by simp only [List.size_toArray] <;> omega) ⟨.int ys.length,H,I.tok _,⟨s.toks+1,by rw [List.size_toArray,hlen]⟩,q⟩
theorem uM:yw X (.type "list") (fun xs H Q=>∃ p ys,xs=[.ref p] /\ (TB X.K H p ys \/ TC X.K H p ys) /\ ∀ l,H l=none->Q (.ref l) (Tp H l (.lst ys))):=by
 intro pins s σ H xs us Q I r h
 obtain ⟨p,ys,rfl,hq,q⟩:=h
 obtain ⟨u,rfl,rx⟩:=xE r
 cases rx
 have fin:∀ (its:List Value),zC ys its->ys.length<=sizeLine -> ∀ (h':Heap) (c':Nat),(∀ b o',s.heap.get? b=some o' -> h'.get? b=some o') →
   h'.get? s.heap.objs.size=some { cls:=.type "list",dict:=none,data:=.seq its.toArray c',slots:=#[] } -> EP X pins σ Q (.ref s.heap.objs.size) { s with heap:=h' }:=fun its r' hz h' c' kp e =>
  ⟨.ref s.heap.objs.size,_,I.laid (t':=s.toks) kp (Nat.le_refl _) (show zL X.prog X.w _ h' _ (.lst ys) from ⟨hz,its,c',r',e⟩),rfl,q _ (I.hok.fresh (Nat.le_refl _))⟩
 rcases hq with hq | hq
 ·obtain ⟨its,r',pl,hz⟩:=I.list hq
  have hlen:=r'.length
  obtain ⟨o,ho,hc,n,hd⟩:=pl.isList
  exact call_list_seq p (.inl rfl) ho hc hd (fun h' c' kp e=>fin its r' hz h' c' kp e) (by simp only [List.size_toArray] <;> omega)
 ·obtain ⟨its,r',pl,hz⟩:=I.tuple hq
  have hlen:=r'.length
  obtain ⟨o,ho,hc,n,hd⟩:=pl
  exact call_list_seq p (.inr rfl) ho hc hd (fun h' c' kp e=>fin its r' hz h' c' kp e) (by simp only [List.size_toArray] <;> omega)
theorem zt:yw X (.type "tuple") (fun xs H Q=>∃ p ys,xs=[.ref p] /\ ((TB X.K H p ys /\ ∀ l,H l=none->Q (.ref l) (Tp H l (.tup ys))) \/ (TC X.K H p ys /\ Q (.ref p) H))):=by
 intro pins s σ H xs us Q I r h
 obtain ⟨p,ys,rfl,h⟩:=h
 obtain ⟨u,rfl,rx⟩:=xE r
 cases rx
 rcases h with ⟨hq,q⟩ | ⟨hq,q⟩
 ·obtain ⟨its,r',pl,hz⟩:=I.list hq
  have hlen:=r'.length
  refine call_tuple_list pl.isList (fun h' kp=>?_) (by simp only [List.size_toArray] <;> omega)
  have I1:Inv X pins σ H { s with heap:=h' }:=I.kept (t':=s.toks) kp
  have I2:Inv X pins σ (Tp H h'.objs.size (.tup ys)) { s with heap:=h'.push { cls:=.type "tuple",data:=.seq its.toArray } } :=
   I1.laid (t':=s.toks) (fun b o e=>Heap.get?_push_of_some _ e) (Nat.le_refl _) (show zL X.prog X.w _ _ _ (.tup ys) from ⟨hz,its,r',IsTup.new _ _⟩)
  exact ⟨.ref h'.objs.size,_,I2,rfl,q _ (I1.hok.fresh (Nat.le_refl _))⟩
 ·obtain ⟨its,r',pl,hz⟩:=I.tuple hq
  exact call_tuple_same pl ⟨.ref p,H,I,rfl,q⟩
def T8 (K:Tl) (T:String) (x:V) (H:Hp):Prop:=match x with
 | .str _=>T = "str"
 | .int _=>T = "int"
 | .ref p=>(T = "list" /\ ∃ xs,TB K H p xs) \/ (T = "tuple" /\ ∃ o,K.lookup p=some o /\ o.cls = .type "tuple" /\ o.dict=none) ∨
   (T = "dict" /\ ((∃ kvs,H p=some (.dK kvs)) \/ ∃ kvs,H p=some (.dT kvs))) \/ (T = "set" /\ ∃ S n,H p=some (.set S n))
 | _=>False
theorem Xy {pins:List (Addr × Obj)} {σ:St} {H:Hp} {s:Shared} {T:String} {x:V} {v:Value} (I:Inv X pins σ H s) (r:zJ x v) (ty:T8 X.K T x H) :
  s.TypeIs v T /\ ∀ a,v = .ref a -> ∃ ob,s.heap.get? a=some ob /\ ob.dict=none:=by
 cases x with
 | str z =>
  obtain ⟨t,rfl⟩:=r
  cases (show T = "str" from ty)
  exact ⟨typeIs_str s z t,fun _ e=>nomatch e⟩
 | int i =>
  obtain ⟨t,rfl⟩:=r
  cases (show T = "int" from ty)
  exact ⟨typeIs_int s i t,fun _ e=>nomatch e⟩
 | ref p =>
  cases r
  rcases ty with ⟨rfl,xs,hq⟩ | ⟨rfl,o,hk,hc,hd⟩ | ⟨rfl,hk⟩ | ⟨rfl,S,n,hk⟩
  ·obtain ⟨its,_,pl,_⟩:=I.list hq
   refine ⟨pl.isList.typeIs,fun a e=>?_⟩
   cases e
   obtain ⟨o,n,e,c,hd,_⟩:=pl
   exact ⟨o,e,hd⟩
  ·refine ⟨⟨o,I.kIn p o hk,hc⟩,fun a e=>?_⟩
   cases e
   exact ⟨o,I.kIn _ o hk,hd⟩
  ·have z:∃ o,s.heap.get? p=some o /\ o.ExactDict:=by
    rcases hk with ⟨kvs,hk⟩ | ⟨kvs,hk⟩
    ·obtain ⟨_,_,_,_,o,_,_,e,ex,_⟩:=I.hok p _ hk
     exact ⟨o,e,ex⟩
    ·obtain ⟨_,_,_,_,o,_,_,e,ex,_⟩:=I.hok p _ hk
     exact ⟨o,e,ex⟩
   obtain ⟨o,e,ex⟩:=z
   refine ⟨⟨o,e,ex.1⟩,fun a e2=>?_⟩
   cases e2
   exact ⟨o,e,ex.2.1⟩
  ·obtain ⟨o,_,_,_,e,ex,_⟩:=I.hok p _ hk
   refine ⟨⟨o,e,ex.1⟩,fun a e2=>?_⟩
   cases e2
   exact ⟨o,e,ex.2.1⟩
 | _=>exact False.elim ty
def Ta (K:Tl) (T:String) (r:V->List V->Hp->VK->Prop) (to:TE):TE:=fun σ H Q=>to σ H fun x H1=>T8 K T x H1 /\ r x [] H1 Q
def T9 (K:Tl) (T:String) (r:V->List V->Hp->VK->Prop) (to:TE) (t:TA):TE:=fun σ H Q=>to σ H fun x H1=>T8 K T x H1 /\ t σ H1 fun xs H2=>r x xs H2 Q
variable {o e:Expr} {es:List Expr} {to:TE} {t:TA} {name:Str} {apos cpos:Pos} {T id:String} {r:V->List V->Hp->VK->Prop}
theorem Va (pa:PlainAttrs T) (slot:Slot T name id) (hty:typeOf (.builtin id)=pure (.type "method_descriptor")) (hm:T7 X id r) (ho:PE X o to)
  (hbase:attributeBase o name X.env (eval o X.env)=eval o X.env:=by rfl) (hline:(apos.endLine == cpos.line)=true:=by rfl):PE X (.Call (.Attribute o name apos) [] [] cpos) (Ta X.K T r to):=by
 intro pins s σ H Q I h
 refine wpAny_Call_method0_late hbase hline (Tx (ho pins s σ H _ I h) fun v s1 ⟨x,H1,I1,r1,ty,q1⟩=>?_)
 obtain ⟨h1,h2⟩:=Xy I1 r1 ty
 exact ⟨T,id,pa,slot,hty,h1,h2,Calls.callWith_builtin rfl (PySem.evalArgs_none (hm pins s1 σ H1 x [] v [] Q I1 r1 .nil q1))⟩
theorem si (pa:PlainAttrs T) (slot:Slot T name id) (hty:typeOf (.builtin id)=pure (.type "method_descriptor")) (hm:T7 X id r) (ho:PE X o to) (ha:PA X (e :: es) t)
  (hbase:attributeBase o name X.env (eval o X.env)=eval o X.env:=by rfl)
  (hfew:((backTo cpos (starEach (e :: es) X.env)).all (fun x=>!x.1) && (backToKw cpos (keywordEach [] X.env)).all (fun x=>x.1.isSome)
   && decide ((e :: es).length+([]:List Keyword).length+(if ([]:List Keyword).isEmpty then 0 else 1) < 30))=true:=by rfl)
  (hline:(apos.endLine == cpos.line)=true:=by rfl) (hs:starEach (e :: es) X.env=(false,eval e X.env) :: starEach es X.env:=by rfl) (hplain:(backTo cpos (starEach es X.env)).any (·.1)=false:=by rfl) :
  PE X (.Call (.Attribute o name apos) (e :: es) [] cpos) (T9 X.K T r to t):=by
 intro pins s σ H Q I h
 refine wpAny_Call_method_late hbase hfew hline rfl (Tx (ho pins s σ H _ I h) fun v s1 ⟨x,H1,I1,r1,ty,q1⟩=>?_)
 obtain ⟨h1,h2⟩:=Xy I1 r1 ty
 refine ⟨T,id,pa,slot,hty,h1,h2,?_⟩
 have hA:=ha cpos pins s1 σ H1 _ I1 q1
 rw [hs] at hA ⊢
 refine Calls.callWith_builtin (by show (false || (backTo cpos (starEach es X.env)).any (·.1))=false; rw [hplain] <;> rfl) (Calls.evalArgs_plain ?_)
 exact Tx hA fun us s2 ⟨vs,H2,I2,r2,q2⟩=>hm pins s2 σ H2 x vs v us Q I2 r1 r2 q2
end
end L2
namespace L2
open PySem PySem.Spec PyProof.Rows
def Sa (X:Cx) (id:String) (r:V->List V->Hp->VK->Prop):Prop :=
 ∀ (pins:List (Addr × Obj)) (s:Shared) (σ:St) (H:Hp) (x:V) (xs:List V) (v:Value) (us:List Value) (Q:VK),Inv X pins σ H s->zJ x v->zC xs us->r x xs H Q →
  wpAny (model X.prog X.w) X.A (call (.builtin id) (v :: us)) (EP X pins σ Q) X.xe s
theorem zC.one:∀ {x:V} {us:List Value},zC [x] us -> ∃ u,us=[u] /\ zJ x u
 | _,_,.cons r .nil=>⟨_,rfl,r⟩
theorem zC.eraseIdx:∀ {xs:List V} {us:List Value} (i:Nat),zC xs us->zC (xs.eraseIdx i) (us.eraseIdx i)
 | _,_,_,.nil=>.nil
 | _,_,0,.cons _ t=>t
 | _,_,i+1,.cons r t=>.cons r (zC.eraseIdx i t)
theorem zC.reverse {xs:List V} {us:List Value} (h:zC xs us):zC xs.reverse us.reverse:=by
 induction h with
 | nil=>exact .nil
 | cons r t ih=>rw [List.reverse_cons,List.reverse_cons]; exact zC.append ih (.cons r .nil)
theorem zC.rep {xs:List V} {us:List Value} (h:zC xs us):∀ k:Nat,zC (List.replicate k xs).flatten (List.replicate k us).flatten
 | 0=>.nil
 | k+1=>by
  rw [List.replicate_succ,List.replicate_succ,List.flatten_cons,List.flatten_cons]
  exact zC.append h (zC.rep h k)
theorem uN {α:Type}:∀ (l:List α) (i:Nat),(l.eraseIdx i).length<=l.length
 | [],_=>Nat.le_refl _
 | _ :: _,0=>Nat.le_succ _
 | _ :: r,i+1=>Nat.succ_le_succ (uN r i)
theorem uO (its:List Value):∀ (k:Nat) (acc:List Value),
  List.foldl (fun x1 x2=>x1 ++ x2) acc.toArray (List.replicate k its.toArray)=(acc ++ (List.replicate k its).flatten).toArray
 | 0,acc=>by simp
 | k+1,acc=>by
  have e:acc.toArray ++ its.toArray=(acc ++ its).toArray:=by simp
  have e2:(acc ++ its) ++ (List.replicate k its).flatten=acc ++ (List.replicate (k+1) its).flatten:=by
   rw [List.replicate_succ,List.flatten_cons,List.append_assoc]
  rw [← e2,← uO its k (acc ++ its),← e,List.replicate_succ,List.foldl_cons]
section
variable {X:Cx} {pins:List (Addr × Obj)} {σ:St} {H:Hp} {s:Shared} {l b:Addr} {xs ys zs:List V}
theorem Inv.lset {its its':List Value} {n:Nat} {f:Array Value->Array Value} {t':Nat} (I:Inv X pins σ H s) (hH:H l=some (.lst xs))
  (e:s.heap.get? l=some { cls:=.type "list",data:=.seq its.toArray n }) (hf:f its.toArray=its'.toArray) (hv:zC ys its') (hz:ys.length<=sizeLine) :
  Inv X pins σ (Tp H l (.lst ys)) { s with heap:=s.heap.update l (Obj.mapSeq f),toks:=t' }:=by
 have q:=PySem.IsL.update e f
 rw [hf] at q
 refine I.write (x:=l) (e:=l) (by rw [hH]; exact trivial) (.inl rfl) (fun b' u hb hu=>(Heap.get?_update_other s.heap (Obj.mapSeq f) (Ne.symm hb)).trans hu) ⟨_,q⟩ ?_
 exact ⟨hz,its',_,hv,q⟩
theorem Inv.lnew {its:List Value} {t':Nat} (I:Inv X pins σ H s) (hv:zC ys its) (hz:ys.length<=sizeLine) :
  Inv X pins σ (Tp H s.heap.objs.size (.lst ys)) { s with heap:=s.heap.push { cls:=.type "list",data:=.seq its.toArray },toks:=t' } :=
 I.laid (fun _ _ q=>Heap.get?_push_of_some _ q) (Nat.le_refl _) ⟨hz,its,0,hv,Heap.get?_push_size _ rfl⟩
theorem Inv.fresh (I:Inv X pins σ H s):H s.heap.objs.size=none:=I.hok.fresh (Nat.le_refl _)
theorem Inv.lstM (I:Inv X pins σ H s) (hH:H l=some (.lst xs)):xs.length<=sizeLine /\ ∃ (its:List Value) (n:Nat),zC xs its /\ xs.length=its.length /\ s.heap.get? l=some { cls:=.type "list",data:=.seq its.toArray n }:=by
 obtain ⟨z,its,n,r,e⟩:=I.hok l _ hH
 exact ⟨z,its,n,r,r.length,e⟩
theorem Yt {n:Nat} (h:n<=sizeLine):Builtin.List.listTooLong n=false:=by
 unfold Builtin.List.listTooLong
 exact decide_eq_false (by omega)
end
section
variable {X:Cx}
def X7:V->List V->Hp->VK->Prop:=fun x vs H Q=>∃ l xs y,x = .ref l /\ vs=[y] /\ H l=some (.lst xs) /\ xs.length < sizeLine /\ Q .non (Tp H l (.lst (xs ++ [y])))
theorem yf:Sa X "list.append" X7:=by
 intro pins s σ H x vs v us Q I rx rv h
 obtain ⟨l,xs,y,rfl,rfl,hH,hz,q⟩:=h
 cases rx
 obtain ⟨u,rfl,ru⟩:=rv.one
 obtain ⟨z,its,n,r,hl,e⟩:=I.lstM hH
 refine call_meets F.slot_list_append ⟨_,e,rfl⟩ F.entry_list_append (F.args_list_append_2 _ _) (PySem.list_append l its.toArray n u (by rw [List.size_toArray]; omega)) ⟨e,?_⟩
 refine ⟨.non,_,I.lset (its':=its ++ [u]) hH e (by simp) (r.append (.cons ru .nil)) ?_,rfl,q⟩
 rw [List.length_append,List.length_singleton]
 omega
def Vb:V->List V->Hp->VK->Prop:=fun x vs H Q=>∃ l xs i k y,x = .ref l /\ vs=[.int i] /\ H l=some (.lst xs) /\ -(2 ^ 63)<=i /\ i < 2 ^ 63 /\ seqIndex? i xs.length=some k /\ xs[k]? = some y /\ Q y (Tp H l (.lst (xs.eraseIdx k)))
theorem Yu:Sa X "list.pop" Vb:=by
 intro pins s σ H x vs v us Q I rx rv h
 obtain ⟨l,xs,i,k,y,rfl,rfl,hH,h1,h2,hk,hy,q⟩:=h
 cases rx
 obtain ⟨u,rfl,ru⟩:=rv.one
 obtain ⟨t,rfl⟩:=ru
 obtain ⟨z,its,n,r,hl,e⟩:=I.lstM hH
 obtain ⟨w,hw,rw'⟩:=r.get hy
 refine call_meets F.slot_list_pop ⟨_,e,rfl⟩ F.entry_list_pop (F.args_list_pop_2 _ _)
  (MeetsSeq.list_pop_at l its.toArray n i t k w (fitsIndex_both h1 h2) (by rw [List.size_toArray,← hl]; exact hk) (by rw [← Array.getElem?_toList]; exact hw) (by rw [List.size_toArray]; omega)) ⟨e,?_⟩
 refine ⟨y,_,I.lset (its':=its.eraseIdx k) hH e ?_ (r.eraseIdx k) ?_,rw',q⟩
 ·show its.toArray.eraseIdxIfInBounds k=(its.eraseIdx k).toArray
  rw [List.eraseIdxIfInBounds_toArray]
 ·have:=uN xs k
  omega
def Tb:R2:=fun x y H Q=>∃ l k xs,x = .ref l /\ y = .int k /\ H l=some (.lst xs) /\ -(2 ^ 63)<=k /\ k < 2 ^ 63 /\ xs.length * k.toNat<=sizeLine ∧
 ∀ p,H p=none->Q (.ref p) (Tp H p (.lst (List.replicate k.toNat xs).flatten))
theorem X8 {α:Type} (xs:List α) (k:Nat):(List.replicate k xs).flatten.length=k * xs.length:=by
 induction k with
 | zero=>simp
 | succ k ih=>rw [List.replicate_succ,List.flatten_cons,List.length_append,ih,Nat.succ_mul,Nat.add_comm]
theorem Vc:TQ X (binaryOp .Mult) Tb:=by
 intro pins s σ H x y v u Q I rx ry h
 obtain ⟨l,k,xs,rfl,rfl,hH,h1,h2,hz,q⟩:=h
 cases rx
 obtain ⟨t,rfl⟩:=ry
 obtain ⟨z,its,n,r,hl,e⟩:=I.lstM hH
 have hlen:its.toArray.size * k.toNat<=sizeLine:=by rw [List.size_toArray,← hl]; exact hz
 have hcap:¬ its.toArray.size * k.toNat > (2 ^ 63 - 1) / 8:=by
  have:(sizeLine:Nat)<=(2 ^ 63 - 1) / 8:=by decide
  omega
 have hfit:¬ (!Builtin.List.listFitsIndex k)=true:=by
  rw [fitsIndex_both h1 h2]
  exact Bool.false_ne_true
 have hlong:¬ Builtin.List.listTooLong (its.toArray.size * k.toNat)=true:=by
  rw [Yt hlen]
  exact Bool.false_ne_true
 have hnew:List.foldl (fun x1 x2=>x1 ++ x2) #[] (List.replicate (if its.toArray.isEmpty=true then 0 else k.toNat) its.toArray)=(List.replicate k.toNat its).flatten.toArray:=by
  have f0:∀ m:Nat,List.foldl (fun x1 x2=>x1 ++ x2) #[] (List.replicate m its.toArray)=(List.replicate m its).flatten.toArray:=fun m=>by
   have:=uO its m []
   rw [List.nil_append] at this
   exact this
  rw [f0]
  cases its with
  | nil=>simp
  | cons a r'=>rw [if_neg (by simp)]
 refine wpAny_binaryOp_repeat_ref (T:="list") (U:="int") (by decide) ⟨_,e,rfl⟩ (fun s'=>typeIs_int s' k t) noFill_list_mul F.fills_int_mul F.slot_int_rmul repeat_list F.slot_int_index.lookup
  (call_meets F.slot_int_rmul (typeIs_int s k t) F.entry_int_rmul (F.args_int_rmul_2 _ _) (int___rmul___int_list k t l its.toArray n)
   ⟨e,rfl,⟨_,e,rfl⟩,call_meets F.slot_list_mul ⟨_,e,rfl⟩ F.entry_list_mul (F.args_list_mul_2 _ _) (AutoListH.list___mul___list_int_3 l its.toArray n k t hfit hcap hlong) ⟨e,?_⟩⟩)
 rw [hnew]
 exact ⟨.ref _,_,I.lnew (t':=s.toks) (r.rep k.toNat) (by rw [X8,Nat.mul_comm]; exact hz),rfl,q _ I.fresh⟩
end
end L2
namespace Att
open PySem PySem.W PySem.Calls PyProof.Rows
theorem wQ {P:Params} {h:Heap}:∀ (ns:List Int) (vs:List Value),WellAll P h vs (ns.map WData.int)->IntsAre vs ns:=by
 intro ns
 induction ns with
 | nil =>
  intro vs w
  rw [List.map_nil] at w
  cases w
  exact .nil
 | cons n ns ih =>
  intro vs w
  rw [List.map_cons] at w
  cases w with
  | cons a b =>
   cases a
   exact .cons _ _ (ih _ b)
theorem jW {l:OpenLaw} {n:Nat} (hn:l.most=some n) {P:Params} {h:Heap} {args:List WData} {vals:List Value}
  (hpre:l.row.toRowW.claim.pre args=true) (hwl:WellAll P h vals args) :
  ∃ a vs ns,vals=[Value.ref a] /\ args=[WData.list (ns.map WData.int)] /\ h.get? a=some { cls:=.type "list",data:=.seq vs.toArray } /\ IntsAre vs ns /\ ns.length<=n:=by
 have hsh:WShape.hasAll [] args [.list .int]=true:=(pre_splitW hpre).1
 have hc:l.pre.holds [] { args:=args } = true:=(pre_splitW hpre).2
 obtain ⟨d,r,rfl,h1,h2⟩:=hasAllW_cons hsh
 obtain rfl:=hasAllW_nil h2
 obtain ⟨xs,rfl,h3⟩:=hasW_list h1
 obtain ⟨ns,rfl⟩:=items_int h3
 have hlen:ns.length<=n:=by
  unfold OpenLaw.pre at hc
  have h4:(WTm.not (.lt (.lit (.int (n:Int))) (.len (.arg 0)))).holds [] { args:=[.list (ns.map .int)] } = true:=by
   have h4:=(holds_andW hc).1
   rw [hn] at h4
   exact h4
  have h5:=condW_of h4 (w_not (w_lt w_lit (w_len_list (w_arg rfl))))
  rw [List.length_map] at h5
  refine Nat.le_of_not_lt fun q=>?_
  have q':(n:Int) < ((ns.length:Nat):Int):=by omega
  first
   | (rw [decide_eq_true q'] at h5; exact absurd h5 (by decide))
   | (simp at h5; omega)
 cases hwl with
 | cons w1 w2 =>
  cases w2
  cases w1 with
  | list ho hall=>exact ⟨_,_,ns,rfl,rfl,ho,wQ ns _ hall,hlen⟩
theorem jX (l:OpenLaw) (args:List WData):l.row.toRowW.claim.post args (.bool true) args=true :=
 postW_of (r:=l.row.toRowW) (X:=(true == true))
  (show WShape.has [] (.bool true) .bool=true by first | rfl | decide | simp [WShape.has,WShape.arms,WShape.armsAll])
  (show (WTm.eq .res (.lit (.bool true))).value [] { args:=args,res:=some (.bool true),after:=args } = some (.bool (true == true)) from w_eq_bool (w_res rfl) w_lit) rfl
theorem attach_call {l:OpenLaw} {n:Nat} {q:Program} {loose:List Str} {XP:(Str->Option Value)->Heap->Prop} {YP:World->Heap->Prop} {d:DefRec}
  (hn:l.most=some n) (hdf:d.params.defaults=[])
  (call:∀ (w:World) (s₀ s₁:Shared) (mg mb:Str->Option Value) (fa:Addr) (o:Obj) (pm cd doc:Value) (a:Addr) (vs:List Value) (ns:List Int),
   Ground q loose [] XP w s₀ mg mb s₁.heap->YP w s₁.heap →
   s₁.heap.get? fa=some o->o.data = .func (docDef d.name d.params d.body d.scope pm cd doc)->s₁.heap.CodeRec cd d.name->mg d.name=some (.ref fa) →
   s₁.heap.get? a=some { cls:=.type "list",data:=.seq vs.toArray } -> IntsAre vs ns->ns.length<=n->s₁.gens = #[] →
   codeAny (model l.prog w) callerA (.call (.ref fa) ⟨[.ref a],[]⟩) (fun r s'=>r = .ok (.ret (.bool true)) /\ OldK s₁.heap s'.heap /\ s'.os=s₁.os /\ AllBare s'.gens) s₁) :
  WalkO q loose XP YP l.row.toRowW d [] (fun f vs=>PySem.call f vs):=by
 intro w s₀ s₁ mg mb G Y fa o pm cd doc dV kV ho hd hcd hD hmg hg args vals as hpre hlay hrd hwl hlo
 obtain rfl:dV = .none:=Dflts.none hD hdf
 obtain rfl:kV = .none:=Dflts.noKw hD
 obtain ⟨a,vs,ns,rfl,rfl,hobj,hints,hlen⟩:=jW hn hpre hwl
 refine enter_call (codeAny_mono (call w s₀ s₁ mg mb fa o pm cd doc a vs ns G Y ho (fd_plain hd) hcd hmg hobj hints hlen hg) fun r s' hq=>?_)
 obtain ⟨rfl,h2,h3,h4⟩:=hq
 exact ⟨.inl ⟨.bool true,.bool true,[],rfl,fun _=>rfl,.bool true,jX l _,fun _=>⟨List.Pairwise.nil,fun _ hm=>(nomatch hm)⟩⟩,h2,h3,h4⟩
end Att
namespace L2
open PySem PySem.Spec PyProof.Rows
theorem uP:∀ {vs:List Value} {ns:List Int},IntsAre vs ns->zC (ns.map V.int) vs
 | _,_,.nil=>.nil
 | _,_,.cons n t h=>.cons ⟨t,rfl⟩ (uP h)
def VY (H:Hp):Prop:=∀ b,H b=none \/ ∃ o xs,H b=some (.frz o (.lst xs))
theorem Yv {P:Program} {w:World} {K:Tl} {mg mb:Str->Option Value} {CX:TY} {k:Nat} {fa a:Addr} {fd:FuncData} {x:Str} {sp:Sp} {s₁:Shared} {vs:List Value} {ns:List Int}
  (KX:K.In s₁.heap) (hns:s₁.heap.Ns mainGlobals mg) (hb:s₁.heap.Ns builtinsNs mb) (hbb:∀ x:Str,x ≠ "__name__" -> mb x=bootBuiltins x) (hlim:s₁.heap.NoLimit) (hg:s₁.gens = #[])
  (ha:s₁.heap.get? a=some { cls:=.type "list",data:=.seq vs.toArray }) (hi:IntsAre vs ns) (hl:ns.length<=sizeLine) (hr:Room k callerA)
  (F:∀ base:Heap,K.In base->base.Ns mainGlobals mg->FnOk P w K mg base CX k fa fd [x] sp) (hbind:∀ (s:Shared) (u:Value),BindsTo s fd ⟨[u],[]⟩ [(x,u)])
  (hsp:∀ H:Hp,VY H->TB K H a (ns.map V.int)->sp [.ref a] H (fun v _=>v = .bl true) fun _ _ _=>False)
  (hCX:∀ H e s',CX [] H s₁ (fun _ _ _=>False) e s' -> False) :
  codeAny (model P w) callerA (.call (.ref fa) ⟨[.ref a],[]⟩) (fun r s'=>r = .ok (.ret (.bool true)) /\ OldK s₁.heap s'.heap /\ s'.os=s₁.os /\ AllBare s'.gens) s₁:=by
 have rv:=uP hi
 have lenV:=hi.length
 -- from an abstract heap in which nothing but the script may be tracked
 have core:∀ H:Hp,VY H->TB K H a (ns.map V.int)->Tq P w H s₁.heap->(∀ b,H b ≠ none->b=a)->(H a ≠ none->K.lookup a=none) →
   codeAny (model P w) callerA (.call (.ref fa) ⟨[.ref a],[]⟩) (fun r s'=>r = .ok (.ret (.bool true)) /\ OldK s₁.heap s'.heap /\ s'.os=s₁.os /\ AllBare s'.gens) s₁:=by
  intro H hO hS hok hA hK
  have base_of:∀ {b:Addr} {o:Obj},s₁.heap.get? b=some o->H b=none->(Yk s₁.heap H).get? b=some o:=fun e n=>Yl e n
  have noA:∀ {b:Addr} {o:Obj} {es:Array DictEntry} {ep:Nat},s₁.heap.get? b=some o->o.data = .dict es ep->H b=none:=fun {b o es ep} e d=>by
   cases q:H b with
   | none=>rfl
   | some u =>
    have e':b=a:=hA b (by rw [q]; simp)
    subst e'
    rw [ha] at e; cases e
    have d':Data.seq vs.toArray _=Data.dict es ep:=d
    cases d'
  have nsK:∀ {b:Addr} {m:Str->Option Value},s₁.heap.Ns b m->(Yk s₁.heap H).Ns b m:=fun {b m} ⟨o,es,ep,e,d,r⟩=>⟨o,es,ep,base_of e (noA e d),d,r⟩
  have hKb:K.In (Yk s₁.heap H):=fun b o e=>base_of (KX b o e) (by
   cases q:H b with
   | none=>rfl
   | some u =>
    have e':b=a:=hA b (by rw [q]; simp)
    subst e'
    rw [hK (by rw [q]; simp)] at e; cases e)
  have hM:Mod K mg (Yk s₁.heap H):=⟨hKb,nsK hns,⟨mb,nsK hb,hbb⟩,let ⟨mc,h1,h2⟩:=hlim; ⟨mc,nsK h1,h2⟩⟩
  have e0:Env0 P w K mg (Yk s₁.heap H) callerA [] s₁ H:=⟨rfl,hM,fun b o e=>XU e,Nat.le_of_eq (jE _ _),trivial,fun b hb=>absurd (show b ∈ ([]:List Addr) from hb) (by simp),hok,.of_eq hg⟩
  refine codeAny_mono ((F _ hKb (nsK hns)).run callerA [] s₁ H ⟨[.ref a],[]⟩ [.ref a] [.ref a] _ _ hr e0 (hbind s₁ (.ref a)) (.cons rfl .nil) (hsp H hO hS)) fun r s' h=>?_
  cases r with
  | error e=>exact (hCX H e s' h).elim
  | ok fl =>
   cases fl with
   | next=>exact False.elim h
   | brk=>exact False.elim h
   | cont=>exact False.elim h
   | ret u =>
    obtain ⟨v,H',os,bare,un,hok',r',q⟩:=h
    have q':v = .bl true:=q
    subst q'
    obtain rfl:u=Value.bool true:=r'
    refine ⟨rfl,OldK.of_keep fun b o e=>?_,os,bare⟩
    cases q:H b with
    | none=>exact un.keep b o e q (by intro z; exact absurd (show b ∈ ([]:List Addr) from z) (by simp)) (by simp)
    | some u =>
     rcases hO b with z | ⟨ob,xs,z⟩
     ·rw [q] at z; cases z
     ·have z2:=un.frzs b ob _ z
      obtain ⟨e1,_⟩:=hok b _ z
      obtain ⟨e2,_⟩:=hok' b _ z2
      rw [e] at e1; cases e1
      exact e2
 cases hk:K.lookup a with
 | some o =>
  -- the script is one of the module's own objects
  have e:=KX a o hk
  rw [ha] at e
  cases e
  refine core (fun _=>none) (fun _=>.inl rfl) (.inr ⟨_,vs.toArray,_,hk,rfl,rfl,rfl,by rw [List.size_toArray,lenV]; exact hl,by simpa using rv⟩) (fun b u z=>by have z':(none:Option HO)=some u:=z; cases z') (fun b z=>absurd rfl z) fun z=>absurd rfl z
 | none =>
  refine core (fun b=>if b=a then some (.frz { cls:=.type "list",data:=.seq vs.toArray } (.lst (ns.map V.int))) else none) (fun b=>?_) (.inl (.inr ⟨{ cls:=.type "list",data:=.seq vs.toArray },if_pos rfl⟩)) (fun b u z=>?_) (fun b z=>?_) fun _=>hk
  ·by_cases hb:b=a
   ·exact .inr ⟨_,_,if_pos hb⟩
   ·exact .inl (if_neg hb)
  ·by_cases hb:b=a
   ·have z':=(if_pos hb).symm.trans z
    cases z'
    subst hb
    exact ⟨ha,by rw [List.length_map]; exact hl,vs,_,rv,ha⟩
   ·have z':=(if_neg hb).symm.trans z
    cases z'
  ·by_cases hb:b=a
   ·exact hb
   ·exact absurd (if_neg hb) z
end L2
namespace L2
open PySem PySem.Spec PyProof.Rows
theorem walk_of {l:PySem.W.OpenLaw} {n k:Nat} {q:Program} {loose:List Str} {XP:(Str->Option Value)->Heap->Prop} {YP:World->Heap->Prop} {d:DefRec} {K:Params->Tl} {CX:World->TY} {sp:World->Sp} {x:Str}
  (hn:l.most=some n) (hn2:n<=sizeLine) (hdf:d.params.defaults=[]) (hr:Room k callerA)
  (hY:∀ (w:World) (h:Heap),YP w h->(K w.params).In h)
  (F:∀ (w:World) (mg:Str->Option Value) (fa:Addr) (h:Heap),(K w.params).In h->h.Ns mainGlobals mg->mg d.name=some (.ref fa) →
   ∃ fd:FuncData,(∀ (s:Shared) (u:Value),BindsTo s fd ⟨[u],[]⟩ [(x,u)]) ∧
    ∀ base:Heap,(K w.params).In base->base.Ns mainGlobals mg->FnOk l.prog w (K w.params) mg base (CX w) k fa fd [x] (sp w))
  (hsp:∀ (w:World) (H:Hp) (a:Addr) (ns:List Int),ns.length<=n->VY H->TB (K w.params) H a (ns.map V.int)->sp w [.ref a] H (fun v _=>v = .bl true) fun _ _ _=>False)
  (hCX:∀ (w:World) (H:Hp) (s:Shared) (e:Value) (s':Shared),CX w [] H s (fun _ _ _=>False) e s' -> False) :
  PySem.W.WalkO q loose XP YP l.row.toRowW d [] (fun f vs=>PySem.call f vs):=by
 refine Att.attach_call hn hdf fun w s₀ s₁ mg mb fa o pm cd doc a vs ns G Y ho hd hcd hmg hobj hints hlen hg=>?_
 have KX:=hY w _ Y
 obtain ⟨fd,hb,hF⟩:=F w mg fa _ KX G.T.g hmg
 exact Yv KX G.T.g G.T.b G.T.builtins G.T.nolimit hg hobj hints (Nat.le_trans hlen hn2) hr hF hb (fun H hO hS=>hsp w H a ns hlen hO hS) fun H e s'=>hCX w H s₁ e s'
end L2
namespace L2
open PySem PySem.Spec PyProof.Rows
def wR (s:Stmt):Arguments:=match s with
 | .FunctionDef _ a _ _ _ _ _ _ _ _=>a
 | _=>{ posonlyargs:=[],args:=[],vararg:=none,kwonlyargs:=[],kw_defaults:=[],kwarg:=none,defaults:=[] }
def xF (s:Stmt):List Stmt:=match s with
 | .FunctionDef _ _ b _ _ _ _ _ _ _=>b
 | _=>[]
def zf (s:Stmt):Scope:=match s with
 | .FunctionDef _ _ _ _ _ _ sc _ _ _=>sc
 | _=>{ kind:=.function,names:=[],isGenerator:=false,isCoroutine:=false }
abbrev Sb:TY:=fun _ _ _ _ _ _=>False
abbrev E0:XK:=fun _ _ _=>False
theorem Uf {X:Cx}:vQ Sb X E0:=fun _ _ _ _ _ _ _ h=>h.elim
structure Fun (K:Tl) (x qual:Str) (st:Stmt) (f:Addr) (fd:FuncData):Prop where
 ex:∃ (oc:Value) (od:Option Addr) (kV doc pm:Value) (an:Option Addr) (cdv ct:Value) (osl:Array (Option Value)),
  fd=PySem.W.fnOf x qual (wR st) (xF st) (zf st) .none kV doc pm an cdv ct /\ K.lookup f=some ⟨oc,od,.func fd,osl⟩ /\ PySem.W.codeIn K cdv qual=true
 kp:PySem.W.keepIn K (.ref f)=true
section
variable {P:Program} {w:World} {K:Tl} {mg:Str->Option Value} {base:Heap}
theorem Fun.ok {x qual:Str} {st:Stmt} {f:Addr} {fd:FuncData} {N ps:List Str} {k:Nat} {sp:Sp} (F:Fun K x qual st f fd) (S:FnScope N ps (zf st)) (len:∀ vs H Q E,sp vs H Q E->vs.length=ps.length)
  (hbody:∀ (cdv:Value) (A:Around) (outer:List Env) (s:Shared) (H:Hp) (vs:List V) (Q:VK) (E:XK),Room k (A.deeper (envOfC qual (zf st) s.heap.objs.size f cdv))->sp vs H Q E →
   ∃ t,Tw (rH Sb P w K mg base N qual (zf st) f cdv A outer s H E).nox (xF st) t /\ t { nx:=fun _ H'=>Q .non H',rt:=Q } (v7 N vs) H):FnOk P w K mg base Sb (k+1) f fd ps sp:=by
 obtain ⟨oc,od,kV,doc,pm,an,cdv,ct,osl,rfl,lk,hcd⟩:=F.ex
 refine W7 lk hcd S len fun A outer s H vs Q E hr hsp=>?_
 obtain ⟨t,h,q⟩:=hbody cdv A outer s H vs Q E hr hsp
 exact ⟨t,h.nox,q⟩
theorem Fun.binds {x qual:Str} {st:Stmt} {f:Addr} {fd:FuncData} {ps:List Str} (F:Fun K x qual st f fd)
  (h:∀ (kV doc pm:Value) (an:Option Addr) (cdv ct:Value) (us:List Value),us.length=ps.length->bindArgs (PySem.W.fnOf x qual (wR st) (xF st) (zf st) .none kV doc pm an cdv ct) ⟨us,[]⟩=pure (ps.zip us)):v6 K fd ps []:=by
 obtain ⟨oc,od,kV,doc,pm,an,cdv,ct,osl,rfl,lk,hcd⟩:=F.ex
 exact .all (h kV doc pm an cdv ct)
theorem fun_mk {x qual:Str} {st:Stmt} {f:Addr} {oc:Value} {od an:Option Addr} {osl:Array (Option Value)} {kV doc pm cdv ct:Value} (l:K.lookup f=some ⟨oc,od,.func (PySem.W.fnOf x qual (wR st) (xF st) (zf st) .none kV doc pm an cdv ct),osl⟩)
  (c:PySem.W.codeIn K cdv qual=true) (k:PySem.W.keepIn K (.ref f)=true):Fun K x qual st f (PySem.W.fnOf x qual (wR st) (xF st) (zf st) .none kV doc pm an cdv ct):=⟨⟨oc,od,kV,doc,pm,an,cdv,ct,osl,rfl,l,c⟩,k⟩
end
theorem zn {n:Nat} (h:n<=1000):n < sizeLine:=Nat.lt_of_le_of_lt h (by decide)
section
variable {X:Cx}
theorem pv (i:Nat) {x:Str} {pos:Pos} (hN:X.N[i]? = some x:=by rfl) (hv:Tu X.env.scope x:=by first | exact Or.inl rfl | exact Or.inr (Or.inl rfl) | exact Or.inr (Or.inr rfl)) (hd:(x == ("__debug__":Str))=false:=by decide)
  (hcd:(x == ("__classdict__":Str))=false:=by decide):PE X (.Name x pos) (UE i):=WT hN hv hd hcd
end
theorem rK {A B:Prop} (h:B):if false=true then A else B:=by
 rw [if_neg Bool.false_ne_true]
 exact h
theorem jY {A B:Prop} (h:A):if true=true then A else B:=by
 rw [if_pos rfl]
 exact h
theorem Tc {c A B:Prop} [Decidable c] (h1:c->A) (h2:¬ c->B):if c then A else B:=by
 by_cases h:c
 ·rw [if_pos h]
  exact h1 h
 ·rw [if_neg h]
  exact h2 h
end L2
namespace L3
open PySem PySem.Spec PyProof.Rows L2
theorem Ug:bootBuiltins "abs" = some (.builtin "abs"):=by decide +kernel
theorem yg:bootBuiltins "len" = some (.builtin "len"):=by decide +kernel
theorem Vd:bootBuiltins "max" = some (.builtin "max"):=by decide +kernel
theorem Ve:bootBuiltins "min" = some (.builtin "min"):=by decide +kernel
theorem rL:bootBuiltins "repr" = some (.builtin "repr"):=by decide +kernel
theorem zr:bootBuiltins "isinstance" = some (.builtin "isinstance"):=by decide +kernel
theorem sj:bootBuiltins "all" = some (.builtin "all"):=by decide +kernel
theorem Yw:bootBuiltins "sorted" = some (.builtin "sorted"):=by decide +kernel
theorem Uh:bootBuiltins "int" = some (.type "int"):=by decide +kernel
theorem Vf:bootBuiltins "bool" = some (.type "bool"):=by decide +kernel
theorem zG:bootBuiltins "tuple" = some (.type "tuple"):=by decide +kernel
theorem Vg:bootBuiltins "list" = some (.type "list"):=by decide +kernel
theorem Vh:bootBuiltins "dict" = some (.type "dict"):=by decide +kernel
def Sc (K:Tl) (H:Hp) (x:V) (T:String):Prop:=match x with
 | .non=>T = "NoneType"
 | .bl _=>T = "bool"
 | .int _=>T = "int"
 | .str _=>T = "str"
 | .ref a=>(T = "tuple" /\ ∃ xs,TC K H a xs) \/ (T = "list" /\ ∃ xs,TB K H a xs) \/ (T = "dict" /\ ∃ kvs,H a=some (.dK kvs))
 | _=>False
section
variable {X:Cx} {a b c:Expr} {ta tb tc:TE} {pos:Pos}
def UM (K:Tl):List V->Hp->VK->Prop:=fun xs H Q=>∃ x T t k,xs=[x,.ty T] /\ Sc K H x t /\ PySem.W.kitOne K (.type t) (.type T)=some k /\ Q (.bl k) H
theorem yL:yw X (.builtin "isinstance") (UM X.K):=by
 intro pins s σ H xs us Q I r h
 obtain ⟨x,T,t,k,rfl,ty,e,q⟩:=h
 obtain ⟨u,w',rfl,rx,rt⟩:=qJ r
 cases (show w' = Value.type T from rt)
 have fin:∀ tk,EP X pins σ Q (.bool k) { s with toks:=tk }:=fun tk=>⟨.bl k,H,I.tok _,rfl,q⟩
 cases x with
 | non=>cases (show t = "NoneType" from ty); exact yW I rx .non e fin
 | bl y=>cases (show t = "bool" from ty); exact yW I rx (.bl y) e fin
 | int i=>cases (show t = "int" from ty); exact yW I rx (.int i) e fin
 | str y=>cases (show t = "str" from ty); exact yW I rx (.str y) e fin
 | byt y=>exact ty.elim
 | flt y=>exact ty.elim
 | ty y=>exact ty.elim
 | ref a =>
  cases (show u=Value.ref a from rx)
  rcases ty with ⟨rfl,xs,hq⟩ | ⟨rfl,xs,hq⟩ | ⟨rfl,kvs,hq⟩
  ·obtain ⟨its,_,⟨o,h1,h2,_⟩,_⟩:=I.tuple hq
   exact PySem.W.kia_one PySem.W.kitx_tuple I.kIn ⟨o,h1,h2⟩ e (fun z=>nomatch z) fin
  ·obtain ⟨its,_,pl,_⟩:=I.list hq
   obtain ⟨o,h1,h2,_⟩:=pl.isList
   exact PySem.W.kia_one PySem.W.kitx_list I.kIn ⟨o,h1,h2⟩ e (fun z=>nomatch z) fin
  ·exact yW (x:=V.ref a) I (show zJ (.ref a) (.ref a) from rfl) (.dK hq) e fin
theorem xx {x:Str} {T:String} {pos:Pos} (hg:Gl X x) (hm:X.mg x=none) (hv:bootBuiltins x=some (.type T)) (hn:x ≠ "__name__":=by decide) (hd:(x == ("__debug__":Str))=false:=by decide):PE X (.Name x pos) (tC (.ty T)) :=
 XV hg hm hv (show zJ (.ty T) (Value.type T) from rfl) hn hd
theorem sk:TQ X (binaryOp .Mult) (rI IntMulOk fun i j=>.int (i * j)):=TV fun _ _ _ _ _ _ _ hc q=>mul_int q hc
def X9 (i j:Int):Prop:=0 < j /\ j < 2 ^ 200
theorem X9.py {i j:Int} (h:X9 i j):Builtin.divisionGoesByPylong i j=false:=by
 refine PyProof.noPylong_of_log2 ?_
 obtain ⟨h1,h2⟩:=h
 have h0:j.natAbs ≠ 0:=by omega
 have h3:j.natAbs < 2 ^ 200:=by
  have:(j.natAbs:Int)=j:=by omega
  have h4:((j.natAbs:Nat):Int) < ((2 ^ 200:Nat):Int):=by rw [this]; exact h2
  exact Int.ofNat_lt.mp h4
 exact Nat.lt_of_lt_of_le ((Nat.log2_lt h0).mpr h3) (by decide)
theorem rM:TQ X (binaryOp .FloorDiv) (rI X9 fun i j=>.int (i / j)):=TV fun i j _ _ _ _ _ hc q=>by
 have:=hc.1
 refine floordiv_int (by omega) ?_ (.inl hc.py)
 rw [Int.fdiv_eq_ediv_of_nonneg i (by omega)]
 exact q
def Td (i:Int):Prop:=i.natAbs.log2 < 1920
end
def zu (P:Program) (w:World) (K:Tl) (mg:Str->Option Value) (base:Heap) (k:Nat) (x:Str) (ps:List Str) (sp:Sp):Prop :=
 ∃ (f:Addr) (fd:FuncData),FnOk P w K mg base Sb k f fd ps sp /\ v6 K fd ps [] /\ PySem.W.keepIn K (.ref f)=true /\ mg x=some (.ref f)
theorem zu.mono {P:Program} {w:World} {K:Tl} {mg:Str->Option Value} {base:Heap} {j k:Nat} {x:Str} {ps:List Str} {sp:Sp} (C:zu P w K mg base j x ps sp) (h:j<=k):zu P w K mg base k x ps sp:=by
 obtain ⟨f,fd,F,b,kp,m⟩:=C
 exact ⟨f,fd,F.mono h,b,kp,m⟩
section
variable {X:Cx} {k:Nat} {ps:List Str} {sp:Sp} {x:Str} {p pos:Pos} {e:Expr} {es:List Expr} {t:TA}
theorem zm (C:zu X.prog X.w X.K X.mg X.base k x ps sp) (hr:Room k X.A) (hg:Gl X x)
  (ha:PA X (e :: es) t) (hdb:(x == ("__debug__":Str))=false:=by decide) (he:starEach (e :: es) X.env=(false,eval e X.env) :: starEach es X.env:=by rfl) (hpl:(backTo pos (starEach es X.env)).any (·.1)=false:=by rfl) :
  PE X (.Call (.Name x p) (e :: es) [] pos) (Yq sp [] E0 t):=by
 obtain ⟨f,fd,F,b,kp,m⟩:=C
 exact jR F hr hg m kp b .nil Uf ha hdb he hpl
end
structure Grow (m:List Addr) (H H':Hp):Prop where
 keep:∀ b o,b ∉ m->H b=some o->H' b=some o
 tup:∀ b xs,H b=some (.tup xs)->H' b=some (.tup xs)
 frz:∀ b o u,H b=some (.frz o u)->H' b=some (.frz o u)
theorem Grow.refl (m:List Addr) (H:Hp):Grow m H H:=⟨fun _ _ _ h=>h,fun _ _ h=>h,fun _ _ _ h=>h⟩
theorem Grow.trans {m:List Addr} {H H1 H2:Hp} (a:Grow m H H1) (b:Grow m H1 H2):Grow m H H2 :=
 ⟨fun c o n h=>b.keep c o n (a.keep c o n h),fun c xs h=>b.tup c xs (a.tup c xs h),fun c o u h=>b.frz c o u (a.frz c o u h)⟩
theorem Grow.new {m:List Addr} {H:Hp} {p:Addr} (h:H p=none) (o:HO):Grow m H (Tp H p o) :=
 ⟨fun b u _ q=>by rw [zj (zk q h)]; exact q,fun b xs q=>by rw [zj (zk q h)]; exact q,fun b u v q=>by rw [zj (zk q h)]; exact q⟩
theorem Grow.set {m:List Addr} {H:Hp} {p:Addr} {xs:List V} (h:H p=some (.lst xs)) (hm:p ∈ m) (ys:List V):Grow m H (Tp H p (.lst ys)) :=
 ⟨fun b u hb q=>by rw [zj (show b ≠ p from fun z=>hb (by rw [z]; exact hm))]; exact q,fun b zs q=>by rw [zj (fun z=>by subst z; rw [h] at q; cases q)]; exact q,fun b u v q=>by rw [zj (fun z=>by subst z; rw [h] at q; cases q)]; exact q⟩
theorem Grow.mono {m m':List Addr} {H H':Hp} (a:Grow m H H') (h:∀ b ∈ m,b ∈ m'):Grow m' H H':=⟨fun b o n q=>a.keep b o (fun z=>n (h b z)) q,a.tup,a.frz⟩
theorem Grow.sqT {m:List Addr} {H H':Hp} (g:Grow m H H') {K:Tl} {a:Addr} {xs:List V} (h:TC K H a xs):TC K H' a xs:=by
 rcases h with (h | ⟨o,h⟩) | h
 ·exact .inl (.inl (g.tup _ _ h))
 ·exact .inl (.inr ⟨o,g.frz _ _ _ h⟩)
 ·exact .inr h
theorem Grow.free {H H':Hp} {m:List Addr} (g:Grow m H H') {l:Addr} (hm:l ∉ m) (h:H' l=none):H l=none:=by
 cases q:H l with
 | none=>rfl
 | some o=>rw [g.keep l o hm q] at h; cases h
def Sd (K:Tl) (H:Hp) (a:Addr) (ns:List Int):Prop :=
 (∃ o,H a=some (.frz o (.lst (ns.map V.int)))) ∨
  ∃ (o:Obj) (its:Array Value) (n:Nat),K.lookup a=some o /\ o.cls = .type "list" /\ o.dict=none /\ o.data = .seq its n /\ its.size<=sizeLine /\ zC (ns.map V.int) its.toList
theorem Sd.sq {K:Tl} {H:Hp} {a:Addr} {ns:List Int} (h:Sd K H a ns):TB K H a (ns.map V.int):=by
 rcases h with ⟨o,h⟩ | h
 ·exact .inl (.inr ⟨o,h⟩)
 ·exact .inr h
theorem Sd.of {K:Tl} {H:Hp} {a:Addr} {ns:List Int} (hO:VY H) (h:TB K H a (ns.map V.int)):Sd K H a ns:=by
 rcases h with (h | ⟨o,h⟩) | h
 ·rcases hO a with z | ⟨o,xs,z⟩
  ·rw [h] at z; cases z
  ·rw [h] at z; cases z
 ·exact .inl ⟨o,h⟩
 ·exact .inr h
theorem Grow.scr {m:List Addr} {H H':Hp} (g:Grow m H H') {K:Tl} {a:Addr} {ns:List Int} (h:Sd K H a ns):Sd K H' a ns:=by
 rcases h with ⟨o,h⟩ | h
 ·exact .inl ⟨o,g.frz _ _ _ h⟩
 ·exact .inr h
section
variable {prog:Program} {w:World} {A:Around} {R:Result->Shared->Prop} {s:Shared}
theorem wS {elt target iter:Expr} {ifs:List Expr} {scope:Scope} {pos:Pos} {it acc:Value} {env:Env} (I:Nat->Shared->Prop)
  (turn:∀ n s,I n s->wpAny (model prog w) A (pyNext it) (fun r s₁=>match r with
   | none=>R (.ok .next) s₁
   | some v=>wpAny (model prog w) A (letOwnedTupleGo target it v) (fun _ s₂=>wpAny (model prog w) A (assign target env v) (fun _ s₃ =>
     wpAny (model prog w) A (forIn ifs true fun c r=>if r=true then do let ok ← isTrue c env (eval c env); pure (ForInStep.yield ok) else pure (ForInStep.yield r)) (fun ok s₄ =>
      if ok=true then wpAny (model prog w) A (eval elt env) (fun x s₅ =>
       wpAny (model prog w) A (call (.builtin "list.append") [acc,x]) (fun _ s₆=>∃ m,m < n /\ I m s₆) (fun _ _=>False) s₅) (fun _ _=>False) s₄
      else ∃ m,m < n /\ I m s₄) (fun _ _=>False) s₃) (fun _ _=>False) s₂) (fun _ _=>False) s₁) (fun _ _=>False) s)
  (n:Nat) (h:I n s) :
  codeAny (model prog w) A (.compLoop (.ListComp elt [⟨target,iter,ifs,0⟩] scope pos) 0 it acc env) R s:=by
 refine codeAny_loop rfl I (fun n s hI=>?_) n h
 show wpAny _ A ((compTurn (.ListComp elt [⟨target,iter,ifs,0⟩] scope pos) 0 it acc env).onRaise (fun x=>do noteFrame x env; theTreesLotGoes x)) _ _ s
 refine wpAny_noted ?_
 rw [compTurn_list]
 have no:∀ (E:Tn) (e:Value) (s:Shared),(fun (_:Value) (_:Shared)=>False) e s->E e s:=fun _ _ _ f=>f.elim
 refine wpAny_bind (wpAny_standAt (wpAny_bind (wpAny_mono (turn n s hI) (fun r s₁ h₁=>?_) (no _))))
 cases r with
 | none=>exact wpAny_pure h₁
 | some v =>
  refine wpAny_bind (wpAny_mono h₁ (fun _ s₂ h₂=>?_) (no _))
  refine wpAny_bind (wpAny_mono h₂ (fun _ s₃ h₃=>wpAny_bind (wpAny_mono h₃ (fun ok s₄ h₄=>?_) (no _))) (no _))
  cases ok with
  | true =>
   simp only [if_true] at h₄ ⊢
   exact wpAny_bind (wpAny_bind (wpAny_mono h₄ (fun x s₅ h₅=>wpAny_bind (wpAny_mono h₅ (fun _ s₆ h₆=>wpAny_pure (wpAny_pure ⟨rfl,h₆⟩)) (no _))) (no _)))
  | false =>
   simp only [Bool.false_eq_true,if_false] at h₄ ⊢
   first
    | exact wpAny_bind (wpAny_pure (wpAny_pure ⟨rfl,h₄⟩))
    | exact wpAny_pure ⟨rfl,h₄⟩
end
theorem vS {scope:Scope} {env:Env} (hfree:∀ y ∈ scope.names,y.2 = .free -> ∃ c,env.cells.lookup y.1=some c) :
  ∃ cl,closureFor scope env=pure cl /\ (∀ x c,cl.lookup x=some c->env.cells.lookup x=some c) /\ ∀ y ∈ scope.names,y.2 = .free -> ∃ c,cl.lookup y.1=some c:=by
 have key:∀ (l:List (Str × NameKind)) (cs:List (Str × Addr)),(∀ y ∈ l,y.2 = .free -> ∃ c,env.cells.lookup y.1=some c)->(∀ x c,cs.lookup x=some c->env.cells.lookup x=some c) →
   ∃ cl,(forIn l cs (fun (x:Str × NameKind) r=>do if x.2 == .free then do let c ← cellOf env x.1; pure (ForInStep.yield ((x.1,c) :: r)) else pure (ForInStep.yield r)):Sem (List (Str × Addr)))=pure cl ∧
    (∀ x c,cl.lookup x=some c->env.cells.lookup x=some c) /\ (∀ y ∈ l,y.2 = .free -> ∃ c,cl.lookup y.1=some c) /\ ∀ x c,cs.lookup x=some c -> ∃ c',cl.lookup x=some c':=by
  intro l
  induction l with
  | nil=>intro cs _ h2; exact ⟨cs,rfl,h2,fun y hy=>absurd hy (by simp),fun x c h=>⟨c,h⟩⟩
  | cons y r ih =>
   intro cs h1 h2
   obtain ⟨n,k⟩:=y
   by_cases hk:k = .free
   ·subst hk
    obtain ⟨c,hc⟩:=h1 (n,.free) (by simp) rfl
    have hc':env.cells.lookup n=some c:=hc
    have e0:cellOf env n=pure c:=by unfold cellOf; rw [hc']
    obtain ⟨cl,e,p1,p2,p3⟩:=ih ((n,c) :: cs) (fun z hz=>h1 z (List.mem_cons_of_mem _ hz)) (fun x d h=>by
     by_cases hx:x=n
     ·subst hx
      rw [List.lookup_cons_self] at h
      cases h; exact hc'
     ·rw [List.lookup_cons,beq_eq_false_iff_ne.mpr hx] at h
      exact h2 x d h)
    refine ⟨cl,?_,p1,fun z hz=>?_,fun x d h=>?_⟩
    ·rw [List.forIn_cons]
     simp only [beq_self_eq_true,if_true,e0,pure_bind]
     exact e
    ·rcases List.mem_cons.mp hz with rfl | hz
     ·intro _
      exact p3 n c List.lookup_cons_self
     ·exact p2 z hz
    ·by_cases hx:x=n
     ·subst hx; exact p3 x c List.lookup_cons_self
     ·exact p3 x d (by rw [List.lookup_cons,beq_eq_false_iff_ne.mpr hx]; exact h)
   ·have hb:(k == NameKind.free)=false:=beq_eq_false_iff_ne.mpr hk
    obtain ⟨cl,e,p1,p2,p3⟩:=ih cs (fun z hz=>h1 z (List.mem_cons_of_mem _ hz)) h2
    refine ⟨cl,?_,p1,fun z hz=>?_,p3⟩
    ·rw [List.forIn_cons]
     simp only [hb,Bool.false_eq_true,if_false,pure_bind]
     exact e
    ·rcases List.mem_cons.mp hz with rfl | hz
     ·intro h; exact absurd h hk
     ·exact p2 z hz
 obtain ⟨cl,e,p1,p2,_⟩:=key scope.names [] hfree (fun x c h=>by cases h)
 refine ⟨cl,?_,p1,p2⟩
 unfold closureFor
 first
  | (rw [show (forIn scope.names [] _:Sem (List (Str × Addr)))=pure cl from e]; rfl)
  | (simp only [bind_pure]; exact e)
  | exact e
def sr (X:Cx) (ifs:List Expr) (t:TT):Prop :=
 ∀ (pins:List (Addr × Obj)) (s:Shared) (σ:L2.St) (H:Hp) (Q:Bool->Hp->Prop),Inv X pins σ H s->t σ H Q →
  wpAny (model X.prog X.w) X.A (forIn ifs true fun c r=>if r=true then do let ok ← isTrue c X.env (eval c X.env); pure (ForInStep.yield ok) else pure (ForInStep.yield r)) (TP X pins σ Q) X.xe s
def jZ:TT:=fun _ H Q=>Q true H
theorem zA {X:Cx}:sr X [] jZ:=fun pins s σ H Q I h=>wpAny_pure ⟨H,I,h⟩
abbrev Se (X:Cx) (N':List Str) (scope:Scope) (cl:List (Str × Addr)) (C D:Addr) (fp:List Addr) (s:Shared) (H:Hp):Cx :=
 { X with N:=N',s₀:=s,H₀:=H,env:=compEnvC scope cl C X.env,outer:=X.stack,ex:=D :: fp,fn:=fun _=>false,xe:=fun _ _=>False }
def uB (sub:List (Option Nat)) (σ:L2.St):L2.St:=sub.map fun o=>match o with
 | none=>none
 | some i=>(match σ[i]? with | some v=>v | none=>none)
def wy (J:It) (σ0:L2.St) (H1:Hp) (g:TG) (tt:TT) (te:TE) (Q:VK):Prop :=
 ∃ W:Nat->Nat->List V->L2.St->Hp->Prop,(∃ m,W 0 m [] σ0 H1) /\ ∀ i m ys σ' H',W i m ys σ' H' →
  (J.stop i H' /\ ∀ l,H' l=none->Q (.ref l) (Tp H' l (.lst ys))) ∨
  (J.go i H' /\ ∃ Nn:List V->L2.St->Hp->Prop,(∀ zs σ2 H2,Nn zs σ2 H2 -> ∃ m',m' < m /\ W (i+1) m' zs σ2 H2) ∧
   ∀ x H2,J.yld i H' x H2->g x σ' H2 fun σ2 H3=>tt σ2 H3 fun b H4=>if b=true then te σ2 H4 fun y H5=>ys.length < sizeLine /\ Nn (ys ++ [y]) σ2 H5 else Nn ys σ2 H4)
def j4 (wi:TI) (sub:List (Option Nat)) (g:TG) (tt:TT) (te:TE):TE:=fun σ H Q=>wi σ H fun J H1=>wy J (uB sub σ) H1 g tt te Q
structure CSc (X:Cx) (scope:Scope) (N':List Str) (sub:List (Option Nat)):Prop where
 free:∀ y ∈ scope.names,y.2 = .free->X.env.kindOf y.1=some .cell
 nocell:∀ y ∈ scope.names,y.2 ≠ .cell
 kind:scope.kind = .function
 names:∀ y ∈ scope.names,y.2 = .local->scope.names.lookup y.1=some .local
 len:sub.length=N'.length
 cap:∀ (j:Nat) (y:Str) (i:Nat),N'[j]? = some y->sub[j]? = some (some i)->X.N[i]? = some y /\ X.env.scope.names.lookup y=some .cell /\ scope.names.lookup y=some .free
theorem Tq.track {P:Program} {w:World} {H:Hp} {h:Heap} {a:Addr} {o:HO} (x:Tq P w H h) (hn:H a=none) (new:zL P w (Tp H a o) h a o):Tq P w (Tp H a o) h:=fun b u e=>by
 by_cases hb:b=a
 ·subst hb; rw [zc] at e; cases e; exact new
 ·rw [zj hb] at e
  exact (x b u e).stay (fun c v _ q=>q) (fun c q=>by rw [zj (zk q hn)]; exact q) fun c xs q=>by rw [zj (zk q hn)]; exact q
theorem ya {scope:Scope} {env:Env} {y:Str} {k:NameKind} (h:(relabel scope env).names.lookup y=some k) :
  ∃ k',scope.names.lookup y=some k' /\ (k=k' \/ (k = .cell /\ k' = .free)):=by
 have key:∀ l:List (Str × NameKind),(l.map fun (n,k)=>if (k == NameKind.free && env.scope.kind == .function && env.kindOf n == some .cell) then (n,NameKind.cell) else (n,k)).lookup y=some k →
   ∃ k',l.lookup y=some k' /\ (k=k' \/ (k = .cell /\ k' = .free)):=by
  intro l
  induction l with
  | nil=>intro h; cases h
  | cons p r ih =>
   obtain ⟨n,k0⟩:=p
   intro h
   rw [List.map_cons] at h
   by_cases hc:(k0 == NameKind.free && env.scope.kind == .function && env.kindOf n == some .cell)=true
   ·have hf:k0 = .free:=by
     simp only [Bool.and_eq_true,beq_iff_eq] at hc
     exact hc.1.1
    dsimp only at h
    rw [if_pos hc,List.lookup_cons] at h
    rw [List.lookup_cons]
    cases hx:y == n with
    | true=>rw [hx] at h; cases h; exact ⟨k0,rfl,.inr ⟨rfl,hf⟩⟩
    | false=>rw [hx] at h; exact ih h
   ·dsimp only at h
    rw [if_neg hc,List.lookup_cons] at h
    rw [List.lookup_cons]
    cases hx:y == n with
    | true=>rw [hx] at h; cases h; exact ⟨_,rfl,.inl rfl⟩
    | false=>rw [hx] at h; exact ih h
 exact key scope.names h
theorem yx {scope:Scope} {env:Env} {y:Str} (hk:env.scope.kind = .function) (hc:env.kindOf y=some .cell) (h:scope.names.lookup y=some .free):(relabel scope env).names.lookup y=some .cell:=by
 have key:∀ l:List (Str × NameKind),l.lookup y=some .free->(l.map fun (n,k)=>if (k == NameKind.free && env.scope.kind == .function && env.kindOf n == some .cell) then (n,NameKind.cell) else (n,k)).lookup y=some .cell:=by
  intro l
  induction l with
  | nil=>intro h; cases h
  | cons p r ih =>
   obtain ⟨n,k0⟩:=p
   intro h
   rw [List.map_cons]
   rw [List.lookup_cons] at h
   dsimp only
   cases hx:y == n with
   | true =>
    rw [hx] at h
    cases h
    have e:y=n:=by simpa using hx
    subst e
    rw [if_pos (by simp [hk,hc]),List.lookup_cons,hx]
   | false =>
    rw [hx] at h
    by_cases hc2:(k0 == NameKind.free && env.scope.kind == .function && env.kindOf n == some .cell)=true
    ·rw [if_pos hc2,List.lookup_cons,hx]; exact ih h
    ·rw [if_neg hc2,List.lookup_cons,hx]; exact ih h
 exact key scope.names h
section
variable {X:Cx} {pins:List (Addr × Obj)} {σ:L2.St} {H2:Hp} {s₂:Shared} {it:Addr} {fp:List Addr} {tn:Nat->Heap->Prop} {J:It} {scope:Scope} {cl:List (Str × Addr)} {N':List Str} {sub:List (Option Nat)}
theorem x9 {h₁:Heap} {tk:Nat} (I:Inv X pins σ H2 s₂) (S:CSc X scope N' sub) (hcl1:∀ x c,cl.lookup x=some c->X.env.cells.lookup x=some c) (hcl2:∀ y ∈ scope.names,y.2 = .free -> ∃ c,cl.lookup y.1=some c)
    (f2:∀ b ∈ fp,yK X pins H2 b) (hfp:∀ b ∈ fp,b < s₂.heap.objs.size) {m:Str->Option Value} {ob:Obj}
    (hns:h₁.Ns (s₂.heap.objs.size+1) m) (hk:∀ b o,(s₂.heap.push ob).get? b=some o->h₁.get? b=some o) :
    Inv (Se X N' scope cl (s₂.heap.objs.size+1) s₂.heap.objs.size fp { s₂ with heap:=s₂.heap.push ob } H2) pins (uB sub σ) H2 { s₂ with heap:=h₁,toks:=tk }:=by
  have old:∀ b o,s₂.heap.get? b=some o->(s₂.heap.push ob).get? b=some o:=fun b o e=>Heap.get?_push_of_some _ e
  have old2:∀ b o,s₂.heap.get? b=some o->h₁.get? b=some o:=fun b o e=>hk b o (old b o e)
  have sz:(s₂.heap.push ob).objs.size=s₂.heap.objs.size+1:=Heap.size_push ..
  have cells:∀ x c,cl.lookup x=some c->c < s₂.heap.objs.size:=fun x c e=>let ⟨v,q⟩:=I.cell x c (hcl1 x c e); q.lt
  have has:∀ x,((relabel scope X.env).names.lookup x=some .cell \/ (relabel scope X.env).names.lookup x=some .free) -> ∃ c,cl.lookup x=some c:=fun x hx=>by
    rcases hx with hx | hx
    · obtain ⟨k',e,z⟩:=ya hx
      rcases z with z | ⟨_,z⟩
      · subst z; exact absurd rfl (S.nocell _ (PySem.mem_of_lookup e))
      · subst z; exact hcl2 _ (PySem.mem_of_lookup e) rfl
    · obtain ⟨k',e,z⟩:=ya hx
      rcases z with z | ⟨z,_⟩
      · subst z; exact hcl2 _ (PySem.mem_of_lookup e) rfl
      · cases z
  have frsz:∀ b ∈ Tt X.stack,b < s₂.heap.objs.size:=fun b hb=>by
    rcases List.mem_cons.mp (I.stkSub b hb) with z | z
    · rw [z]; exact I.lt
    · exact Nat.lt_of_not_le fun q=>I.nofs q z
  refine
    { ok :=
      { mod:=I.ok.mod,kind:=S.kind,glob:=I.ok.glob,blt:=I.ok.blt
        above:=by show (s₂.heap.push ob).objs.size<=s₂.heap.objs.size+1; rw [sz]; exact Nat.le_refl _
        inj:=fun x y c h1 h2=>I.ok.inj x y c (hcl1 x c h1) (hcl1 y c h2)
        has:=has
        cab:=fun x c z=>by cases z
        hd:=I.ok.hd,frames:=I.ok.frames,stk:=.inl rfl
        exf:=fun b hb=>?exf
        bs:=fun b o e=>⟨old b o (I.bk b o e),(I.bs b o e).2⟩
        bsz:=by show X.base.objs.size<=(s₂.heap.push ob).objs.size; rw [sz]; exact Nat.le_succ_of_le (Nat.le_trans I.ok.bsz I.sz)
        noex:=fun b o e hb=>?noex
        exfs:=fun b hb=>?exfs
        funs:=?funs
        frf:=I.stkFree }
      os:=rfl,bare:=I.bare,base:=Un.kept fun b u e=>hk b u e
      loc:=⟨m,hns,?loc⟩
      cell:=fun x c e=>?cell
      free:=I.hok.fresh (Nat.le_succ _)
      freeC:=fun x c e=>I.freeC x c (hcl1 x c e)
      pin:=fun p hp=>?pin
      hok:=I.hok.kept old2
      len:=?len }
  case exf =>
    rcases List.mem_cons.mp hb with rfl | hb
    · exact ⟨Nat.ne_of_lt (Nat.lt_succ_self _),fun x c e=>Nat.ne_of_lt (cells x c e)⟩
    · exact ⟨Nat.ne_of_lt (Nat.lt_succ_of_lt (hfp b hb)),fun x c e=>(f2 b hb).2.2.2.2.1 x c (hcl1 x c e)⟩
  case noex =>
    have hl:b < X.s₀.heap.objs.size:=Nat.lt_of_lt_of_le (Heap.lt_size e) I.ok.bsz
    rcases List.mem_cons.mp hb with rfl | hb
    · exact absurd (Nat.lt_of_lt_of_le hl I.sz) (Nat.lt_irrefl _)
    · rcases (f2 b hb).2.2.2.1 with z | z
      · exact I.ok.noex b o e z
      · exact absurd (Nat.lt_of_lt_of_le hl z) (Nat.lt_irrefl _)
  case exfs =>
    intro hs
    rcases List.mem_cons.mp hb with rfl | hb
    · exact absurd (frsz _ hs) (Nat.lt_irrefl _)
    · rcases List.mem_cons.mp (I.stkSub b hs) with z | z
      · exact (f2 b hb).2.1 z
      · exact (f2 b hb).2.2.1 z
  case funs=>exact Heap.FunFrames.of_keeps (fun b o e _=>⟨o,old b o e,rfl⟩) I.stack
  case loc =>
    intro j y v hj hv hvis
    obtain ⟨mX,_,lX⟩:=I.loc
    unfold uB at hv
    rw [List.getElem?_map] at hv
    cases hs:sub[j]? with
    | none=>rw [hs] at hv; cases hv
    | some o =>
      rw [hs] at hv
      cases o with
      | none=>cases hv
      | some i =>
        obtain ⟨hN,hc,hf⟩:=S.cap j y i hj hs
        have hv':σ[i]? = some (some v):=by
          have z:(match σ[i]? with | some v=>v | none=>none)=some v:=Option.some.inj hv
          cases q:σ[i]? with
          | none=>rw [q] at z; cases z
          | some w=>rw [q] at z; rw [show w=some v from z]
        obtain ⟨u,ru,hl⟩:=lX i y v hN hv' (.inr (.inl hc))
        refine ⟨u,ru,?_⟩
        have kc:(relabel scope X.env).names.lookup y=some .cell:=yx I.ok.kind hc hf
        rcases hl with ⟨z,_⟩ | ⟨_,c,e,ic⟩
        · have z':X.env.scope.names.lookup y=some .local :=z
          rw [hc] at z'; cases z'
        · obtain ⟨c',e'⟩:=hcl2 _ (PySem.mem_of_lookup hf) rfl
          have:=hcl1 _ _ e'
          rw [e] at this; cases this
          refine .inr ⟨.inl kc,c,e',?_⟩
          obtain ⟨oc,h1,h2⟩:=ic
          exact ⟨oc,old2 _ _ h1,h2⟩
  case cell =>
    obtain ⟨v,oc,h1,h2⟩:=I.cell x c (hcl1 x c e)
    exact ⟨v,oc,old2 _ _ h1,h2⟩
  case pin =>
    obtain ⟨p1,p2,p3,p4,p5⟩:=I.pin p hp
    refine ⟨old2 _ _ p1,p2,Nat.ne_of_lt (Nat.lt_succ_of_lt (Heap.lt_size p1)),fun hs=>?_,p5⟩
    rcases List.mem_cons.mp (I.stkSub _ hs) with z | z
    · exact p3 z
    · exact p4 z
  case len =>
    show (uB sub σ).length=N'.length
    unfold uB
    rw [List.length_map]; exact S.len
theorem rN {C D:Addr} {s₀:Shared} {s':Shared} {σ':L2.St} {H':Hp} {ys:List V} {us:List Value} {k:Nat} {oC:Obj} (I:Inv X pins σ H2 s₂)
    (hs₀:∀ b o,s₂.heap.get? b=some o->s₀.heap.get? b=some o) (hos:s₀.os=s₂.os) (hD:s₂.heap.objs.size<=D) (hC:s₂.heap.objs.size<=C) (hDC:D ≠ C) (f2:∀ b ∈ fp,yK X pins H2 b)
    (I':Inv (Se X N' scope cl C D fp s₀ H2) pins σ' H' s') (hn:H' D=none) (hy:s'.heap.get? D=some { cls:=.type "list",data:=.seq us.toArray k }) (rv:zC ys us) (hz:ys.length<=sizeLine)
    (ho:s'.heap.get? C=some oC) (hd:∀ v,oC.data ≠ .cell v):Inv X (pins ++ [(C,oC)]) σ (Tp H' D (.lst ys)) s' /\ yK X pins (Tp H' D (.lst ys)) C:=by
  have neD:∀ b o,s₂.heap.get? b=some o->b ≠ D:=fun b o e=>Nat.ne_of_lt (Nat.lt_of_lt_of_le (Heap.lt_size e) hD)
  have nm:∀ b o,s₂.heap.get? b=some o->b ∉ fp->b ∉ D :: fp:=fun b o e h z=>(List.mem_cons.mp z).elim (neD b o e) h
  have U:=I'.base
  have HC:Tp H' D (.lst ys) C=none:=by rw [zj (Ne.symm hDC)]; exact I'.free
  have fpc:yK X pins (Tp H' D (.lst ys)) C:=I.fpOk hC HC
  have un:Un (Tt X.stack) fp H2 (Tp H' D (.lst ys)) s₂.heap s'.heap :=
    { keep:=fun b o e n h1 h2=>U.keep b o (hs₀ b o e) n h1 (nm b o e h2)
      slot:=fun b o e n h1 h2=>U.slot b o (hs₀ b o e) n h1 (nm b o e h2)
      free:=fun b o e n h2=>by rw [zj (neD b o e)]; exact U.free b o (hs₀ b o e) n (nm b o e h2)
      there:=fun b o e h2=>U.there b o (hs₀ b o e) (nm b o e h2)
      tups:=fun b xs e=>by have z:=U.tups b xs e; rw [zj (zk z hn)]; exact z
      frzs:=fun b o u e=>by have z:=U.frzs b o u e; rw [zj (zk z hn)]; exact z
      tbls:=fun b ps e=>by obtain ⟨more,z⟩:=U.tbls b ps e; exact ⟨more,by rw [zj (zk z hn)]; exact z⟩ }
  have hok:Tq X.prog X.w (Tp H' D (.lst ys)) s'.heap:=Tq.track I'.hok hn ⟨hz,us,k,rv,hy⟩
  have IX:Inv X pins σ (Tp H' D (.lst ys)) s':=I.call' (I'.os.trans hos) un hok I'.bare fun b hb=>⟨(f2 b hb).2.2.2.1,(f2 b hb).2.1,(f2 b hb).2.2.2.2.1,(f2 b hb).2.2.2.2.2⟩
  refine ⟨IX.pins_of fun p hp=>?_,fpc⟩
  rcases List.mem_append.mp hp with hp | hp
  · exact IX.pin p (List.mem_append_right _ hp)
  · rw [List.mem_singleton.mp hp]
    exact ⟨ho,HC,fpc.2.1,fpc.2.2.1,hd⟩
theorem Yx {C D:Addr} {s₀:Shared} {x:Str} {px pos:Pos} {elt iter:Expr} {ifs:List Expr} {g:TG} {tt:TT} {te:TE} {Q:VK} {RR:Value->Addr->Result->Shared->Prop} {W:Nat->Nat->List V->L2.St->Hp->Prop}
  (I:Inv X pins σ H2 s₂) (hcalm:X.calm=true) (T:Turn X.prog X.w X.K (.Name x px) J fp it tn) (f2:∀ b ∈ fp,yK X pins H2 b) (hfp:∀ b ∈ fp,b < s₂.heap.objs.size)
  (hs₀:∀ b o,s₂.heap.get? b=some o->s₀.heap.get? b=some o) (hos:s₀.os=s₂.os) (hD:s₂.heap.objs.size<=D) (hC:s₂.heap.objs.size<=C) (hDC:D ≠ C)
  (hcl1:∀ x c,cl.lookup x=some c->X.env.cells.lookup x=some c)
  (hg:PG (Se X N' scope cl C D fp s₀ H2) (.Name x px) g) (ht:sr (Se X N' scope cl C D fp s₀ H2) ifs tt) (he:PE (Se X N' scope cl C D fp s₀ H2) elt te)
  (turn:∀ i m ys σ' H',W i m ys σ' H' →
   (J.stop i H' /\ ∀ l,H' l=none->Q (.ref l) (Tp H' l (.lst ys))) ∨
   (J.go i H' /\ ∃ Nn:List V->L2.St->Hp->Prop,(∀ zs σ2 H2,Nn zs σ2 H2 -> ∃ m',m' < m /\ W (i+1) m' zs σ2 H2) ∧
    ∀ x H2,J.yld i H' x H2->g x σ' H2 fun σ2 H3=>tt σ2 H3 fun b H4=>if b=true then te σ2 H4 fun y H5=>ys.length < sizeLine /\ Nn (ys ++ [y]) σ2 H5 else Nn ys σ2 H4))
  (hRR:∀ (D C:Addr) (oC:Obj) (m:Str->Option Value) (s':Shared) (Hf:Hp),Inv X (pins ++ [(C,oC)]) σ Hf s' -> s'.heap.Ns C m->yK X pins Hf C->Q (.ref D) Hf->RR (.ref D) C (.ok .next) s')
  (n:Nat) (s:Shared) (h:∃ i ys us k σ' H',Inv (Se X N' scope cl C D fp s₀ H2) pins σ' H' s /\ tn i s.heap /\ (∀ b ∈ fp,H' b=none) /\ H' D=none ∧
   s.heap.get? D=some { cls:=.type "list",data:=.seq (us:List Value).toArray k } /\ zC ys us /\ ys.length<=sizeLine /\ W i n ys σ' H') :
  codeAny (model X.prog X.w) X.A (.compLoop (.ListComp elt [⟨.Name x px,iter,ifs,0⟩] scope pos) 0 (.ref it) (.ref D) (compEnvC scope cl C X.env)) (RR (.ref D) C) s:=by
 have frsz:∀ b ∈ Tt X.stack,b < s₂.heap.objs.size:=fun b hb=>by
  rcases List.mem_cons.mp (I.stkSub b hb) with z | z
  ·rw [z]; exact I.lt
  ·exact Nat.lt_of_not_le fun q=>I.nofs q z
 have cells:∀ x c,cl.lookup x=some c->c < s₂.heap.objs.size:=fun x c e=>let ⟨v,q⟩:=I.cell x c (hcl1 x c e); q.lt
 have pinsz:∀ p ∈ X.pn ++ pins,p.1 < s₂.heap.objs.size:=fun p hp=>Heap.lt_size (I.pin p hp).1
 refine wS (fun n s=>∃ i ys us k σ' H',Inv (Se X N' scope cl C D fp s₀ H2) pins σ' H' s /\ tn i s.heap /\ (∀ b ∈ fp,H' b=none) /\ H' D=none ∧
   s.heap.get? D=some { cls:=.type "list",data:=.seq (us:List Value).toArray k } /\ zC ys us /\ ys.length<=sizeLine /\ W i n ys σ' H') ?_ n h
 rintro n s ⟨i,ys,us,k,σ',H',I',st',fr,hn,hy,rv,hz,w'⟩
 have pD:Inv (Se X N' scope cl C D fp s₀ H2) (pins ++ [(D,{ cls:=.type "list",data:=.seq us.toArray k })]) σ' H' s:=I'.pins_of fun p hp=>by
  rcases List.mem_append.mp hp with hp | hp
  ·exact I'.pin p (List.mem_append_right _ hp)
  ·rw [List.mem_singleton.mp hp]
   exact ⟨hy,hn,hDC,fun z=>absurd (Nat.lt_of_lt_of_le (frsz _ z) hD) (Nat.lt_irrefl _),fun v z=>by cases z⟩
 have fpok:∀ {H'':Hp},(∀ b ∈ fp,H'' b=none) -> ∀ b ∈ fp,yK (Se X N' scope cl C D fp s₀ H2) (pins ++ [(D,{ cls:=.type "list",data:=.seq us.toArray k })]) H'' b:=fun hz b hb=>by
  refine ⟨hz b hb,Nat.ne_of_lt (Nat.lt_of_lt_of_le (hfp b hb) hC),fun z=>?_,.inl (List.mem_cons_of_mem _ hb),fun x c e=>(f2 b hb).2.2.2.2.1 x c (hcl1 x c e),fun p hp=>?_⟩
  ·rcases List.mem_cons.mp (I.stkSub b z) with z | z
   ·exact (f2 b hb).2.1 z
   ·exact (f2 b hb).2.2.1 z
  ·rcases List.mem_append.mp hp with hp | hp
   ·exact (f2 b hb).2.2.2.2.2 p (List.mem_append_left _ hp)
   ·rcases List.mem_append.mp hp with hp | hp
    ·exact (f2 b hb).2.2.2.2.2 p (List.mem_append_right _ hp)
    ·rw [List.mem_singleton.mp hp]
     exact Nat.ne_of_gt (Nat.lt_of_lt_of_le (hfp b hb) hD)
 rcases turn i n ys σ' H' w' with ⟨stop,q⟩ | ⟨go,Nn,hN,step⟩
 ·refine Tx (T.done (Se X N' scope cl C D fp s₀ H2) rfl rfl rfl hcalm i _ s σ' H' (fun _ _=>False) pD (fpok fr) st' stop) fun r s1 ⟨hr,I1⟩=>?_
  subst hr
  have hy1:=(I1.pin (D,{ cls:=.type "list",data:=.seq us.toArray k }) (by simp)).1
  obtain ⟨m,hm,_⟩:=I1.loc
  obtain ⟨oC,es,ep,hoC,hdC,_⟩:=id hm
  obtain ⟨IX,fpc⟩:=rN I hs₀ hos hD hC hDC f2 I1.unpinned hn hy1 rv hz hoC (by intro v z; rw [hdC] at z; cases z)
  exact hRR D C oC m s1 _ IX hm fpc (q D hn)
 ·refine Tx (T.item (Se X N' scope cl C D fp s₀ H2) rfl rfl rfl hcalm i _ s σ' H' (fun _ _=>False) pD (fpok fr) st' go) fun r s1 ⟨u,hr,h4⟩=>?_
  subst hr
  refine Tx h4 fun _ s2 ⟨x5,H5,I5,r5,y5,st5,fr5⟩=>?_
  have I5':=I5.pinned (fpok fr5) (T.obj _ _ st5)
  refine Tx (hg _ s2 σ' H5 x5 u _ I5' r5 (step x5 H5 y5)) fun _ s3 ⟨σ6,H6,I6,q6⟩=>?_
  refine Tx (ht _ s3 σ6 H6 _ I6 q6) fun ok s4 ⟨H7,I7,q7⟩=>?_
  have stay:∀ {σ7:L2.St} {H7:Hp} {s7:Shared},Inv (Se X N' scope cl C D fp s₀ H2) (pins ++ [(D,{ cls:=.type "list",data:=.seq us.toArray k })] ++ wp fp s2.heap) σ7 H7 s7 →
    (∀ b ∈ fp,∀ o,s2.heap.get? b=some o->s7.heap.get? b=some o) /\ (∀ b ∈ fp,H7 b=none) /\ H7 D=none /\ s7.heap.get? D=some { cls:=.type "list",data:=.seq us.toArray k }:=fun {σ7 H7 s7} I7=>by
   have d:=I7.pin (D,{ cls:=.type "list",data:=.seq us.toArray k }) (by simp)
   refine ⟨fun b hb o e=>(I7.pin (b,o) (List.mem_append_right _ (List.mem_append_right _ (zR hb e)))).1,fun b hb=>?_,d.2.1,d.1⟩
   obtain ⟨o,e,_⟩:=T.obj _ _ st5 b hb
   exact (I7.pin (b,o) (List.mem_append_right _ (List.mem_append_right _ (zR hb e)))).2.1
  cases ok with
  | false =>
   rw [if_neg (by decide)] at q7 ⊢
   obtain ⟨k1,k2,k3,k4⟩:=stay I7
   obtain ⟨m',hm,w7⟩:=hN ys σ6 H7 q7
   exact ⟨m',hm,i+1,ys,us,k,σ6,H7,I7.unpinned.unpinned,T.keep _ _ _ st5 k1,k2,k3,k4,rv,hz,w7⟩
  | true =>
   rw [if_pos rfl] at q7 ⊢
   refine Tx (he _ s4 σ6 H7 _ I7 q7) fun v s5 ⟨y,H8,I8,r8,hl8,n8⟩=>?_
   obtain ⟨k1,k2,k3,k4⟩:=stay I8
   refine wpAny_list_append_plain (l:=D) ⟨k,k4⟩ (fun h' pl sb=>?_) (by rw [List.size_toArray,← rv.length]; exact hz)
   obtain ⟨k',e'⟩:=pl
   obtain ⟨m',hm,w8⟩:=hN _ σ6 H8 n8
   refine ⟨m',hm,i+1,ys ++ [y],us ++ [v],k',σ6,H8,?_,T.keep _ _ _ (T.keep _ _ _ st5 k1) fun b hb o e=>sb.extBut b o (Nat.ne_of_lt (Nat.lt_of_lt_of_le (hfp b hb) hD)) e,k2,k3,?_,rv.append (.cons r8 .nil),?_,w8⟩
   ·exact (I8.unpinned.unpinned).turned (it:=D) (t':=s5.toks) (h':=h') (fun b o hb e=>sb.extBut b o hb e) k3 hDC (.inl (by simp)) (fun x c e=>Nat.ne_of_lt (Nat.lt_of_lt_of_le (cells x c e) hD)) (fun p hp=>Nat.ne_of_lt (Nat.lt_of_lt_of_le (pinsz p hp) hD))
   ·rw [e']; simp
   ·rw [List.length_append]; exact hl8
theorem vT {x:Str} {px pos:Pos} {elt iter:Expr} {ifs:List Expr} {g:TG} {tt:TT} {te:TE} {E:Tn} {Q:VK} {RR:Value->Addr->Result->Shared->Prop}
  (I:Inv X pins σ H2 s₂) (hcalm:X.calm=true) (T:Turn X.prog X.w X.K (.Name x px) J fp it tn) (st:tn 0 s₂.heap) (f2:∀ b ∈ fp,yK X pins H2 b)
  (S:CSc X scope N' sub) (hcl1:∀ x c,cl.lookup x=some c->X.env.cells.lookup x=some c) (hcl2:∀ y ∈ scope.names,y.2 = .free -> ∃ c,cl.lookup y.1=some c)
  (hg:∀ C D fp s H,PG (Se X N' scope cl C D fp s H) (.Name x px) g) (ht:∀ C D fp s H,sr (Se X N' scope cl C D fp s H) ifs tt) (he:∀ C D fp s H,PE (Se X N' scope cl C D fp s H) elt te)
  (hW:wy J (uB sub σ) H2 g tt te Q)
  (hRR:∀ (D C:Addr) (oC:Obj) (m:Str->Option Value) (s':Shared) (Hf:Hp),Inv X (pins ++ [(C,oC)]) σ Hf s' -> s'.heap.Ns C m->yK X pins Hf C->Q (.ref D) Hf->RR (.ref D) C (.ok .next) s') :
  wpAny (model X.prog X.w) X.A (newList []) (fun acc s₃=>wpAny (model X.prog X.w) X.A (newFunctionEnv scope X.env.globals cl [] X.env.qual none .none (some X.env)) (fun cenv s₄ =>
   codeAny (model X.prog X.w) X.A (.compStart (.ListComp elt [⟨.Name x px,iter,ifs,0⟩] scope pos) 0 (.ref it) acc { cenv with scope:=relabel scope X.env }) (RR acc cenv.locals) s₄) E s₃) E s₂:=by
 obtain ⟨W,⟨m0,w0⟩,turn⟩:=hW
 refine wpAny_newObj_type (wpAny_newFunctionEnv S.nocell (by intro y hy; simp at hy) (fun h₁ hns₁ hsb₁=>?_) S.kind)
 dsimp only at hns₁ hsb₁ ⊢
 have hC:(s₂.heap.push { cls:=.type "list",dict:=none,data:=.seq ([]:List Value).toArray }).objs.size=s₂.heap.objs.size+1:=Heap.size_push ..
 rw [hC] at hns₁ hsb₁ ⊢
 have hk:∀ b o,(s₂.heap.push { cls:=.type "list",dict:=none,data:=.seq ([]:List Value).toArray }).get? b=some o->h₁.get? b=some o:=fun b o e =>
  hsb₁.extBut b o (by have:=Heap.lt_size e; rw [hC] at this; exact Nat.ne_of_lt this) (Heap.get?_push_of_some _ e)
 have hfp:∀ b ∈ fp,b < s₂.heap.objs.size:=fun b hb=>by
  obtain ⟨o,e,_⟩:=T.obj _ _ st b hb
  exact Heap.lt_size e
 have I0:=x9 (tk:=s₂.toks+([]:List (Str × Value)).length) I S hcl1 hcl2 f2 hfp hns₁ hk
 have hD0:h₁.get? s₂.heap.objs.size=some { cls:=.type "list",data:=.seq ([]:List Value).toArray 0 }:=hk _ _ (Heap.get?_push_size _ rfl)
 have loop:codeAny (model X.prog X.w) X.A (.compLoop (.ListComp elt [⟨.Name x px,iter,ifs,0⟩] scope pos) 0 (.ref it) (.ref s₂.heap.objs.size) (compEnvC scope cl (s₂.heap.objs.size+1) X.env)) (RR (.ref s₂.heap.objs.size) (s₂.heap.objs.size+1)) { s₂ with heap:=h₁,toks:=s₂.toks+([]:List (Str × Value)).length } :=
  Yx (s₀:={ s₂ with heap:=s₂.heap.push { cls:=.type "list",dict:=none,data:=.seq ([]:List Value).toArray } }) (C:=s₂.heap.objs.size+1) (D:=s₂.heap.objs.size) I hcalm T f2 hfp (fun b o e=>Heap.get?_push_of_some _ e) rfl (Nat.le_refl _) (Nat.le_succ _) (Nat.ne_of_lt (Nat.lt_succ_self _)) hcl1 (hg _ _ _ _ _) (ht _ _ _ _ _) (he _ _ _ _ _) turn hRR m0 _
   ⟨0,[],[],0,uB sub σ,H2,I0,T.keep _ _ _ st fun b hb o e=>hk b o (Heap.get?_push_of_some _ e),fun b hb=>(f2 b hb).1,I.hok.fresh (Nat.le_refl _),hD0,.nil,Nat.zero_le _,w0⟩
 exact codeAny_compStart_list loop (T.self _ _ _ _ _ (T.keep _ _ _ st fun b hb o e=>hk b o (Heap.get?_push_of_some _ e)) loop)
end
section
variable {X:Cx} {scope:Scope} {N':List Str} {sub:List (Option Nat)} {x:Str} {px pos:Pos} {elt iter:Expr} {ifs:List Expr} {wi:TI} {g:TG} {tt:TT} {te:TE}
theorem CSc.clos {pins:List (Addr × Obj)} {σ:L2.St} {H:Hp} {s:Shared} (S:CSc X scope N' sub) (I:Inv X pins σ H s):∃ cl,closureFor scope X.env=pure cl /\ (∀ x c,cl.lookup x=some c->X.env.cells.lookup x=some c) /\ ∀ y ∈ scope.names,y.2 = .free -> ∃ c,cl.lookup y.1=some c :=
 vS fun y hy hf=>I.ok.has y.1 (.inl (S.free y hy hf))
theorem j5 (S:CSc X scope N' sub) (hcalm:X.calm=true) (hi:PI X (.Name x px) iter wi)
  (hg:∀ cl C D fp s H,PG (Se X N' scope cl C D fp s H) (.Name x px) g) (ht:∀ cl C D fp s H,sr (Se X N' scope cl C D fp s H) ifs tt) (he:∀ cl C D fp s H,PE (Se X N' scope cl C D fp s H) elt te)
  (hs:∀ x,foldedSetIterable iter X.env x=pure x:=by intro _; rfl):PE X (.ListComp elt [⟨.Name x px,iter,ifs,0⟩] scope pos) (j4 wi sub g tt te):=by
 intro pins s σ H Q I h
 obtain ⟨cl,hclos,hcl1,hcl2⟩:=S.clos I
 rw [eval_ListComp]
 refine wpAny_comprehension_free (use:=none) rfl hs hclos S.kind S.names (Tx (hi pins s σ H _ I h) fun v s1 h1=>Tx h1 fun itv s2 h2=>?_)
 obtain ⟨it,fp,tn,J,H2,e,I2,T,st2,f2,hW⟩:=h2
 subst e
 refine vT (RR:=fun acc C=>compPost (model X.prog X.w) X.A X.xe none (EP X pins σ Q) acc C) I2 hcalm T st2 f2 S hcl1 hcl2 (hg cl) (ht cl) (he cl) hW ?_
 intro D C oC m s' Hf IX hm fpc q
 refine ⟨m,hm,fun h' sb=>⟨.ref D,Hf,?_,rfl,q⟩⟩
 exact (IX.unpinned).turned (it:=C) (t':=s'.toks) (h':=h') (fun b o hb e=>sb.extBut b o hb e) fpc.1 fpc.2.1 fpc.2.2.2.1 fpc.2.2.2.2.1 fpc.2.2.2.2.2
theorem Wa {i:Nat} {y:Str} {py spos:Pos} (hN:X.N.Nodup) (hiN:X.N[i]? = some y) (hy:X.env.scope.names.lookup y=some .local) (S:CSc X scope N' sub) (hcalm:X.calm=true) (hi:PI X (.Name x px) iter wi)
  (hg:∀ cl C D fp s H,PG (Se X N' scope cl C D fp s H) (.Name x px) g) (ht:∀ cl C D fp s H,sr (Se X N' scope cl C D fp s H) ifs tt) (he:∀ cl C D fp s H,PE (Se X N' scope cl C D fp s H) elt te)
  (hsw:swapsWith (.ListComp elt [⟨.Name x px,iter,ifs,0⟩] scope pos) (some (.Name y py)) spos.line X.env=pure true:=by rfl)
  (hs:∀ x,foldedSetIterable iter X.env x=pure x:=by intro _; rfl):PS X (.Assign [.Name y py] (.ListComp elt [⟨.Name x px,iter,ifs,0⟩] scope pos) spos) (W1 (j4 wi sub g tt te) (x8 i)):=by
 intro pins s σ H D I h
 obtain ⟨cl,hclos,hcl1,hcl2⟩:=S.clos I
 rw [exec_Assign_Name_used _ _ _ _ hsw]
 refine wpAny_bind (wpAny_standAt (wpAny_bind ?_))
 show wpAny _ X.A (do let _ ← comprehension (.ListComp elt [⟨.Name x px,iter,ifs,0⟩] scope pos) scope X.env _ (newList []) false (eval iter X.env) (some (assign (.Name y py) X.env))) _ _ s
 refine wpAny_bind (wpAny_mono (wpAny_comprehension_free (use:=some (assign (.Name y py) X.env)) (Q:=fun _ s'=>SP X pins D .next s') rfl hs hclos S.kind S.names
  (Tx (hi pins s σ H _ I h) fun v s1 h1=>Tx h1 fun itv s2 h2=>?_)) (fun _ s' hq=>wpAny_pure (wpAny_pure hq)) fun _ _ e=>e)
 obtain ⟨it,fp,tn,J,H2,e,I2,T,st2,f2,hW⟩:=h2
 subst e
 refine vT (Q:=fun x H1=>x8 i x σ H1 D.nx) (RR:=fun acc C=>compPost (model X.prog X.w) X.A X.xe (some (assign (.Name y py) X.env)) (fun _ s'=>SP X pins D .next s') acc C) I2 hcalm T st2 f2 S hcl1 hcl2 (hg cl) (ht cl) (he cl) hW ?_
 intro L C oC m s' Hf IX hm fpc q
 have st:=zo (X:=X) (pos:=py) hN hiN (.inl hy) (.inr hy) _ s' σ Hf (.ref L) (.ref L) D.nx IX rfl q
 refine Tx st fun _ s'' ⟨σ2,H2,I2',q2⟩=>?_
 have p:=I2'.pin (C,oC) (by simp)
 have hm':s''.heap.Ns C m:=by
  obtain ⟨o,es,ep,e1,r⟩:=hm
  have z:=(IX.pin (C,oC) (by simp)).1
  rw [e1] at z; cases z
  exact ⟨_,es,ep,p.1,r⟩
 refine ⟨m,hm',fun h' sb=>⟨σ2,H2,?_,q2⟩⟩
 exact (I2'.unpinned).turned (it:=C) (t':=s''.toks) (h':=h') (fun b o hb e=>sb.extBut b o hb e) p.2.1 fpc.2.1 fpc.2.2.2.1 fpc.2.2.2.2.1 fpc.2.2.2.2.2
end
structure Blt (mg:Str->Option Value):Prop where
 abs:mg "abs" = none
 len:mg "len" = none
 max:mg "max" = none
 min:mg "min" = none
 divmod:mg "divmod" = none
 repr:mg "repr" = none
 isinstance:mg "isinstance" = none
 all:mg "all" = none
 range:mg "range" = none
 int:mg "int" = none
 bool:mg "bool" = none
 str:mg "str" = none
 tuple:mg "tuple" = none
 list:mg "list" = none
 dict:mg "dict" = none
def Sf (b:V->Hp->VK->Prop):Sp:=fun vs H Q _=>∃ x,vs=[x] /\ b x H Q
def Sg (b:V->V->Hp->VK->Prop):Sp:=fun vs H Q _=>∃ x y,vs=[x,y] /\ b x y H Q
def Si (b:V->V->V->Hp->VK->Prop):Sp:=fun vs H Q _=>∃ x y z,vs=[x,y,z] /\ b x y z H Q
theorem yY {b:V->Hp->VK->Prop} {p:Str}:∀ vs H Q E,Sf b vs H Q E->vs.length=[p].length:=fun vs H Q E h=>by
 obtain ⟨x,rfl,_⟩:=h; rfl
theorem xG {b:V->V->Hp->VK->Prop} {p q:Str}:∀ vs H Q E,Sg b vs H Q E->vs.length=[p,q].length:=fun vs H Q E h=>by
 obtain ⟨x,y,rfl,_⟩:=h; rfl
theorem j6 {b:V->V->V->Hp->VK->Prop} {p q r:Str}:∀ vs H Q E,Si b vs H Q E->vs.length=[p,q,r].length:=fun vs H Q E h=>by
 obtain ⟨x,y,z,rfl,_⟩:=h; rfl
def Vi:V->Bool
 | .int _=>true
 | _=>false
def Kn (K:Tl) (H:Hp) (x:V):Prop:=∃ T,Sc K H x T
theorem Vj {K:Tl} {H:Hp} {i:Int}:Kn K H (.int i):=⟨"int",rfl⟩
def wT (K:Tl):Sp:=Sf fun x H Q=>Kn K H x /\ Q (.bl (Vi x)) H
def Sj (H:Hp) (a:Addr):Prop:=∃ p0 p1:Int,H a=some (.lst [.int p0,.int p1]) /\ 0<=p0
def Sm (n:Int):Prop:=-(10 ^ 30) < n /\ n < 10 ^ 30
def Xz (K:Tl):Sp:=Sg fun x y H Q=>∃ a ns k,x = .ref a /\ y = .int k /\ Sd K H a ns /\ 0<=k /\ k < 1000 /\ ∀ p H',H p=none->Grow [] H H' -> Sj H' p->Q (.ref p) H'
def rO (K:Tl):Sp:=Sf fun x H Q=>∃ a ns,x = .ref a /\ Sd K H a ns /\ ns.length<=63 /\ ∀ H',Q (.bl true) H'
theorem Sk {n:Nat} (h:Nat.ble n 1000=true):n<=sizeLine:=Nat.le_of_lt (zn (Nat.le_of_ble_eq_true h))
theorem Grow.shrink {H H':Hp} {l:Addr} (h:H l=none) (g:Grow [l] H H'):Grow [] H H' :=
 ⟨fun b o _ q=>g.keep b o (fun z=>by rw [List.mem_singleton.mp z] at q; rw [h] at q; cases q) q,g.tup,g.frz⟩
theorem Grow.wk {m:List Addr} {H H':Hp} (g:Grow [] H H'):Grow m H H':=g.mono (by simp)
theorem Sj.grow {H H':Hp} {a:Addr} (p:Sj H a) (g:Grow [] H H'):Sj H' a:=by
 obtain ⟨u0,u1,hu,hn⟩:=p
 exact ⟨u0,u1,g.keep _ _ (by simp) hu,hn⟩
theorem j7 {k:Int} (h:-(2 ^ 200) < k /\ k < 2 ^ 200):Builtin.Int.intBits k<=200:=PySem.intBits_le_iff.mpr (by
 have h1:((k.natAbs:Nat):Int) < ((2 ^ 200:Nat):Int):=by
  have e:((2 ^ 200:Nat):Int)=2 ^ 200:=rfl
  rw [e]; obtain ⟨a,b⟩:=h; omega
 exact Int.ofNat_lt.mp h1)
theorem Vk {i j:Int} (h1:-(2 ^ 200) < i /\ i < 2 ^ 200) (h2:-(2 ^ 200) < j /\ j < 2 ^ 200):IntMulOk i j:=PySem.IntMulOk.of_le (j7 h1) (j7 h2) (by decide)
theorem XA {i j:Int} (h2:-(2 ^ 60) < j /\ j < 2 ^ 60):IntMulOk i j:=PySem.IntMulOk.of_right (Nat.le_trans ((PySem.intBits_le_iff (m:=60)).mpr (by obtain ⟨a,b⟩:=h2; omega)) (by decide))
theorem Wb {xs:List V} {us:List Value} (r:zC xs us) (j:Nat) (h:j < us.length):∃ x,xs[j]? = some x /\ zJ x us[j]:=by
 have hl:=r.length
 have hx:xs[j]? = some xs[j]:=List.getElem?_eq_getElem (by omega)
 obtain ⟨u,e,q⟩:=r.get hx
 rw [List.getElem?_eq_getElem h] at e
 cases e
 exact ⟨_,hx,q⟩
section
variable {X:Cx}
theorem yo {h:Heap} {a:Addr} {its:Array Value} (t:IsTup h a its):h.IsTuple a its:=t
end
section
variable {X:Cx} {pos:Pos}
theorem uQ:∀ {bs:List Bool} {us:List Value},zC (bs.map V.bl) us->LSm.BoolsAre us bs
 | [],_,.nil=>.nil
 | b :: bs,_,.cons r t=>by
  cases r
  exact .cons b (uQ t)
theorem yt (hcalm:X.calm=true):yw X (.builtin "all") (fun xs H Q=>∃ (l:Addr) (bs:List Bool),xs=[.ref l] /\ TB X.K H l (bs.map V.bl) /\ Q (.bl (bs.all id)) H):=by
 intro pins s σ H xs us Q I r h
 obtain ⟨l,bs,rfl,hl,q⟩:=h
 obtain ⟨u,rfl,rx⟩:=xE r
 cases (show u=Value.ref l from rx)
 obtain ⟨vs,rv,pl,_⟩:=I.list hl
 have hl':s.heap.IsList l vs.toArray:=pl.isList
 have hb:LSm.BoolsAre vs bs:=uQ rv
 have hlt:l < s.heap.objs.size:=by obtain ⟨_,e,_⟩:=hl'; exact Heap.lt_size e
 refine call_all_walk (wpAny_pyIter_list hl' ?_)
 refine ⟨s.heap.objs.size,[s.heap.objs.size,l],[s.heap.objs.size],vs.toArray.size,_,_,fun i=>(bs[i]?).getD true,rfl,Walks.list (A:=X.A.in1) (I.ok.hd hcalm) _ l (Nat.ne_of_lt hlt) vs.toArray,
  ⟨⟨_,Heap.get?_push_size _ rfl,rfl,rfl⟩,hl'.push _⟩,fun i v s' Q' E' hP hQ=>?_,fun h' tk hk=>?_⟩
 ·obtain ⟨b,e,rfl⟩:=hb.get i v (by simpa using hP)
  simp only [e,Option.getD_some] at hQ
  exact wpAny_truthy_bool hQ
 ·have e:((List.range vs.toArray.size).all fun i=>(bs[i]?).getD true)=bs.all id:=by
   have hlen:bs.length=vs.length:=by rw [← rv.length,List.length_map]
   rw [List.size_toArray,← hlen,Bool.eq_iff_iff,List.all_eq_true,List.all_eq_true]
   constructor
   ·intro z b hb'
    obtain ⟨i,hi,rfl⟩:=List.getElem_of_mem hb'
    have:=z i (List.mem_range.mpr hi)
    simpa [List.getElem?_eq_getElem hi] using this
   ·intro z i hi
    have hi':=List.mem_range.mp hi
    simpa [List.getElem?_eq_getElem hi'] using z _ (List.getElem_mem hi')
  rw [e]
  exact ⟨.bl (bs.all id),H,I.kept (t':=tk) (h':=h') (LSm.kept_iter hk),rfl,q⟩
end
theorem CSc.of {X:Cx} {scope:Scope} {N':List Str} {sub:List (Option Nat)} (sc:Scope) (NN:List Str) (e:X.env.scope=sc) (en:X.N=NN)
  (h:((scope.names.all fun y=>(y.2 != .free || sc.names.lookup y.1 == some .cell) && (y.2 != .cell) && (y.2 != .local || scope.names.lookup y.1 == some .local)) && (sub.length == N'.length) &&
   ((N'.zip sub).all fun p=>match p.2 with | none=>true | some i=>NN[i]? == some p.1 && sc.names.lookup p.1 == some .cell && scope.names.lookup p.1 == some .free))=true)
  (hk:scope.kind = .function):CSc X scope N' sub:=by
 rw [Bool.and_eq_true,Bool.and_eq_true] at h
 obtain ⟨⟨h1,h2⟩,h3⟩:=h
 have k1:=fun y hy=>List.all_eq_true.mp h1 y hy
 refine ⟨fun y hy hf=>?_,fun y hy hc=>?_,hk,fun y hy hl=>?_,by simpa using h2,fun j y i hj hs=>?_⟩
 ·have:=k1 y hy
  simp only [hf,Bool.and_eq_true] at this
  have z:=this.1.1
  show X.env.scope.names.lookup y.1=_
  rw [e]; simpa using z
 ·have:=k1 y hy
  simp only [hc,Bool.and_eq_true] at this
  simp at this
 ·have:=k1 y hy
  simp only [hl,Bool.and_eq_true] at this
  simpa using this.2
 ·have hm:(y,some i) ∈ N'.zip sub:=by
   have:(N'.zip sub)[j]? = some (y,some i):=by
    rw [List.getElem?_zip_eq_some]; exact ⟨hj,hs⟩
   exact List.mem_of_getElem? this
  have:=List.all_eq_true.mp h3 _ hm
  simp only [Bool.and_eq_true,beq_iff_eq] at this
  rw [e,en]
  exact ⟨this.1.1,this.1.2,this.2⟩
theorem Wc {σ:L2.St} {H:Hp} {A B:Hp->Prop} (h:A H):jZ σ H (fun b H4=>if b=true then A H4 else B H4):=by
 show if true=true then A H else B H
 rw [if_pos rfl]; exact h
theorem z8 {c:Bool} {A B:Prop} (e:c=false) (h:B):if c=true then A else B:=by rw [e]; exact rK h
theorem xp {c:Bool} {A B:Prop} (e:c=true) (h:A):if c=true then A else B:=by rw [e]; exact jY h
theorem rP {K:Tl} {a:Addr} {xs:List V} {g:TG} {tt:TT} {te:TE} {Q:VK} {σ:L2.St} {H:Hp} (Pv:Nat->List V->L2.St->Hp->Prop) (h0:Pv 0 [] σ H) (hl:∀ i ys σ H,i<=xs.length->Pv i ys σ H->TC K H a xs)
  (hs:∀ i x ys σ H,xs[i]? = some x->Pv i ys σ H->g x σ H fun σ2 H3=>tt σ2 H3 fun b H4=>if b=true then te σ2 H4 fun y H5=>ys.length < sizeLine /\ Pv (i+1) (ys ++ [y]) σ2 H5 else Pv (i+1) ys σ2 H4)
  (hd:∀ ys σ H,Pv xs.length ys σ H -> ∀ l,H l=none->Q (.ref l) (Tp H l (.lst ys))) :
  wy (TK K a) σ H g tt te Q:=by
 refine ⟨fun i m ys σ H=>m=xs.length - i /\ i<=xs.length /\ Pv i ys σ H,⟨xs.length,by simp,Nat.zero_le _,h0⟩,?_⟩
 rintro i m ys σ H ⟨rfl,hi,p⟩
 have q:=hl i ys σ H hi p
 by_cases hlt:i < xs.length
 ·refine .inr ⟨⟨xs,xs[i],q,by simp [hlt]⟩,Pv (i+1),fun zs σ' H' p'=>⟨xs.length - (i+1),by omega,rfl,hlt,p'⟩,fun x H' y=>?_⟩
  obtain ⟨e,y⟩:=y
  subst e
  exact hs i x ys σ _ (y xs q) p
 ·have e:i=xs.length:=by omega
  subst e
  exact .inl ⟨⟨xs,q,Nat.le_refl _⟩,hd ys σ H p⟩
theorem ss {X:Cx} {K:Tl} (h:X.K=K):T6 X (UL K):=by subst h; exact yD
theorem Grow.sqL {H H':Hp} (g:Grow [] H H') {K:Tl} {a:Addr} {xs:List V} (h:TB K H a xs):TB K H' a xs:=by
 rcases h with (h | ⟨o,h⟩) | h
 ·exact .inl (.inl (g.keep _ _ (by simp) h))
 ·exact .inl (.inr ⟨o,g.frz _ _ _ h⟩)
 ·exact .inr h
section
variable {K:Tl} {a:Addr} {xs:List V} {n:Nat} {tt:TT} {te:TE} {Q:VK} {σ:L2.St} {H:Hp}
theorem uR {p:V->Bool} {f:V->V} {i:Nat} {x:V} (hx:xs[i]? = some x):((xs.take (i+1)).filter p).map f=((xs.take i).filter p).map f ++ (if p x=true then [f x] else []):=by
 rw [List.take_add_one,hx,List.filter_append,List.map_append]
 congr 1
 show ((([x]:List V)).filter p).map f=_
 by_cases c:p x=true
 ·rw [if_pos c,List.filter_cons_of_pos c]; rfl
 ·rw [if_neg c,List.filter_cons_of_neg c]; rfl
theorem Yy {p:V->Bool} {f:V->V} {i:Nat} (h:xs.length<=1000):(((xs.take i).filter p).map f).length < sizeLine:=by
 rw [List.length_map]
 refine zn ?_
 have:=List.length_filter_le p (xs.take i)
 have:=List.length_take_le i xs
 have:(xs.take i).length<=xs.length:=by rw [List.length_take]; omega
 omega
theorem Yz {p:V->Bool} {f:V->V}:((xs.take xs.length).filter p).map f=(xs.filter p).map f:=by rw [List.take_length]
theorem qN (p:V->Bool) (f:V->V) (hl:TC K H a xs) (hlen:xs.length<=1000)
  (ht:∀ x H' (R:Bool->Hp->Prop),x ∈ xs->Grow [] H H' -> (∀ H2,Grow [] H' H2->R (p x) H2)->tt (σ.set n (some x)) H' R)
  (hs:∀ x H' (R:VK),x ∈ xs->p x=true->Grow [] H H' -> (∀ H2,Grow [] H' H2->R (f x) H2)->te (σ.set n (some x)) H' R)
  (hd:∀ H' l,Grow [] H H' -> H' l=none->Q (.ref l) (Tp H' l (.lst ((xs.filter p).map f)))):wy (TK K a) σ H (x8 n) tt te Q:=by
 refine rP (xs:=xs) (fun i ys σ' H'=>Grow [] H H' /\ (σ' = σ \/ ∃ e,σ' = σ.set n e) /\ ys=((xs.take i).filter p).map f) ⟨Grow.refl _ _,.inl rfl,rfl⟩ ?_ ?_ ?_
 ·rintro i ys σ' H' _ ⟨g,_⟩
  exact g.sqT hl
 ·rintro i x ys σ' H' hx ⟨g,hσ,rfl⟩
  have e:σ'.set n (some x) = σ.set n (some x):=by
   rcases hσ with rfl | ⟨e,rfl⟩
   ·rfl
   ·rw [List.set_set]
  show tt (σ'.set n (some x)) H' _
  rw [e]
  refine ht x H' _ (List.mem_of_getElem? hx) g fun H2 g2=>?_
  by_cases c:p x=true
  ·rw [if_pos c]
   refine hs x H2 _ (List.mem_of_getElem? hx) c (g.trans g2) fun H3 g3=>⟨Yy hlen,(g.trans g2).trans g3,.inr ⟨_,rfl⟩,?_⟩
   rw [uR hx,if_pos c]
  ·rw [if_neg c]
   refine ⟨g.trans g2,.inr ⟨_,rfl⟩,?_⟩
   rw [uR hx,if_neg c,List.append_nil]
 ·rintro ys σ' H' ⟨g,_,rfl⟩ l hl
  rw [Yz]
  exact hd H' l g hl
theorem YA {p:V->Bool} (h:∀ x,p x=true):xs.filter p=xs:=List.filter_eq_self.mpr fun x _=>h x
theorem yh (f:V->V) (hl:TC K H a xs) (hlen:xs.length<=1000)
  (hs:∀ x H' (R:VK),x ∈ xs->Grow [] H H' -> (∀ H2,Grow [] H' H2->R (f x) H2)->te (σ.set n (some x)) H' R)
  (hd:∀ H' l,Grow [] H H' -> H' l=none->Q (.ref l) (Tp H' l (.lst (xs.map f)))):wy (TK K a) σ H (x8 n) jZ te Q :=
 qN (fun _=>true) f hl hlen (fun x H' R _ _ k=>k H' (Grow.refl _ _)) (fun x H' R hx _ g k=>hs x H' R hx g k) (fun H' l g hl=>by rw [YA fun _=>rfl]; exact hd H' l g hl)
def vi (f:Int->Int):V->V
 | .int i=>.int (f i)
 | v=>v
end
mutual
inductive Dat (K:Tl) (H:Hp):V->PyData->Prop
 | non:Dat K H .non .none
 | bl (b:Bool):Dat K H (.bl b) (.bool b)
 | int (i:Int):Dat K H (.int i) (.int i)
 | tup {a:Addr} {xs:List V} {ds:List PyData}:TC K H a xs->DatAll K H xs ds->Dat K H (.ref a) (.tuple ds)
 | lst {a:Addr} {xs:List V} {ds:List PyData}:TB K H a xs->DatAll K H xs ds->Dat K H (.ref a) (.list ds)
inductive DatAll (K:Tl) (H:Hp):List V->List PyData->Prop
 | nil:DatAll K H [] []
 | cons {x:V} {xs:List V} {d:PyData} {ds:List PyData}:Dat K H x d->DatAll K H xs ds->DatAll K H (x :: xs) (d :: ds)
end
section
variable {X:Cx} {pins:List (Addr × Obj)} {σ:L2.St} {H:Hp} {s:Shared}
mutual
theorem Dat.reads (I:Inv X pins σ H s):∀ {x:V} {d:PyData} {u:Value},Dat X.K H x d->zJ x u -> ∃ as,Reads s.heap u d as
 | _,_,u,.non,r=>by
  cases (show u=Value.none from r)
  exact ⟨_,.none⟩
 | _,_,u,.bl b,r=>by
  cases (show u=Value.bool b from r)
  exact ⟨_,.bool b⟩
 | _,_,u,.int i,r=>by
  obtain ⟨t,rfl⟩:=r
  exact ⟨_,.int i t⟩
 | _,_,u,.tup (a:=a) hs hd,r=>by
  cases (show u=Value.ref a from r)
  obtain ⟨its,r1,⟨o,e1,e2,n,e3⟩,_⟩:=I.tuple hs
  obtain ⟨as,q⟩:=DatAll.reads I hd r1
  exact ⟨_,.tuple e1 e2 e3 q⟩
 | _,_,u,.lst (a:=a) hs hd,r=>by
  cases (show u=Value.ref a from r)
  obtain ⟨its,r1,⟨o,n,e1,e2,_,e3⟩,_⟩:=I.list hs
  obtain ⟨as,q⟩:=DatAll.reads I hd r1
  exact ⟨_,.list e1 e2 e3 q⟩
theorem DatAll.reads (I:Inv X pins σ H s):∀ {xs:List V} {ds:List PyData} {us:List Value},DatAll X.K H xs ds->zC xs us -> ∃ as,ReadsAll s.heap us ds as
 | _,_,_,.nil,.nil=>⟨_,.nil⟩
 | _,_,_,.cons h t,.cons r rs=>by
  obtain ⟨as,q⟩:=Dat.reads I h r
  obtain ⟨bs,q2⟩:=DatAll.reads I t rs
  exact ⟨_,.cons q q2⟩
end
def Ui (K:Tl):List V->Hp->VK->Prop:=fun xs H Q=>∃ x d,xs=[x] /\ Dat K H x d /\ d.showable=true /\ d.hasDict=false /\ d.depth<=60 /\ d.shown.length<=sizeLine /\ Q (.str d.shown) H
theorem xf {k:Nat} (hr:Room k X.A):yw X (.builtin "repr") (Ui X.K):=by
 intro pins s σ H xs us Q I r h
 obtain ⟨x,d,rfl,hd,h1,h2,h3,h4,q⟩:=h
 obtain ⟨u,rfl,rx⟩:=xE r
 cases hd with
 | non =>
  cases (show u=Value.none from rx)
  exact PySem.P.repr_of_none ⟨.str _,H,I.tok _,⟨_,rfl⟩,q⟩
 | bl b =>
  cases (show u=Value.bool b from rx)
  exact PySem.P.repr_of_bool ⟨.str _,H,I.tok _,⟨_,rfl⟩,q⟩
 | int i =>
  obtain ⟨t,rfl⟩:=rx
  exact PySem.P.repr_of_int (of_decide_eq_true h1) ⟨.str _,H,I.tok _,⟨_,rfl⟩,q⟩
 | tup hs ha =>
  rename_i a ys ds
  cases (show u=Value.ref a from rx)
  obtain ⟨as,rd⟩:=Dat.reads I (.tup hs ha) rx
  refine repr_of_reads' rd h1 (fun z=>by rw [h2] at z; cases z) hr.gd (by have:=hr.un; omega) (fun _ _ e=>e) (fun h' t tk hk=>?_) h4
  exact ⟨.str _,H,I.kept hk,⟨_,rfl⟩,q⟩
 | lst hs ha =>
  rename_i a ys ds
  cases (show u=Value.ref a from rx)
  obtain ⟨as,rd⟩:=Dat.reads I (.lst hs ha) rx
  refine repr_of_reads' rd h1 (fun z=>by rw [h2] at z; cases z) hr.gd (by have:=hr.un; omega) (fun _ _ e=>e) (fun h' t tk hk=>?_) h4
  exact ⟨.str _,H,I.kept hk,⟨_,rfl⟩,q⟩
end
mutual
/-- a bound of the text's length -/
def wtD:PyData->Nat
 | .list xs | .tuple xs=>wtAll xs+3
 | .int _=>1921
 | .none | .bool _=>5
 | _=>20000000
def wtAll:List PyData->Nat
 | []=>0
 | x :: xs=>wtD x+2+wtAll xs
end
mutual
theorem shown_wt:∀ {d:PyData},d.showable=true->d.hasDict=false->wtD d<=16777216->d.shown.length<=wtD d
 | .none,_,_,_=>by decide
 | .bool b,_,_,_=>by cases b <;> decide
 | .int i,h,_,_=>int_text_len_1921 (of_decide_eq_true h)
 | .str _,_,_,z=>absurd (show 20000000<=16777216 from z) (by decide)
 | .list xs,h,h2,z=>by
  have z':wtAll xs+3<=16777216:=z
  have q:=shown_wtAll (xs:=xs) h h2 (by omega)
  have l:=listText_len_le (PyData.shownAll xs)
  show (listText (PyData.shownAll xs)).length<=wtAll xs+3
  omega
 | .tuple xs,h,h2,z=>by
  have z':wtAll xs+3<=16777216:=z
  have q:=shown_wtAll (xs:=xs) h h2 (by omega)
  have l:=tupleText_len_le (PyData.shownAll xs)
  show (tupleText (PyData.shownAll xs)).length<=wtAll xs+3
  omega
 | .dict _,_,h,_=>by cases h
theorem shown_wtAll:∀ {xs:List PyData},PyData.showableAll xs=true->PyData.hasDictAll xs=false->wtAll xs<=16777216->((PyData.shownAll xs).map (·.length)).sum+2 * (PyData.shownAll xs).length<=wtAll xs
 | [],_,_,_=>by decide
 | x :: xs,h,h2,z=>by
  have h':(x.showable && PyData.showableAll xs)=true:=h
  have h2':(x.hasDict || PyData.hasDictAll xs)=false:=h2
  rw [Bool.and_eq_true] at h'
  rw [Bool.or_eq_false_iff] at h2'
  have z':wtD x+2+wtAll xs<=16777216:=z
  have q1:=shown_wt (d:=x) h'.1 h2'.1 (by omega)
  have q2:=shown_wtAll (xs:=xs) h'.2 h2'.2 (by omega)
  show (x.shown.length :: (PyData.shownAll xs).map (·.length)).sum+2 * ((PyData.shownAll xs).length+1)<=wtD x+2+wtAll xs
  rw [List.sum_cons]
  omega
end
theorem qO {d:PyData} (h1:d.showable=true) (h2:d.hasDict=false) (h3:wtD d<=16777216):d.shown.length<=sizeLine:=by
 rw [sizeLine_eq]; exact Nat.le_trans (shown_wt h1 h2 h3) h3
abbrev Tj:=Option (Option Int × Option Int)
def UN (i:Int):Prop:=-(2 ^ 300) < i /\ i < 2 ^ 300
theorem Uj {i:Int} (h:UN i):Td i:=by
 show i.natAbs.log2 < 1920
 by_cases h0:i.natAbs=0
 ·rw [h0]; decide
 ·exact Nat.lt_of_lt_of_le ((Nat.log2_lt h0).mpr (show i.natAbs < 2 ^ 300 by obtain ⟨a,b⟩:=h; omega)) (by decide)
theorem yE {α:Type} (xs:List α):(xs.map (fun _=>true)).all id=true:=by rw [List.all_eq_true]; intro x hx; obtain ⟨_,_,rfl⟩:=List.mem_map.mp hx; rfl
theorem YB (gs:List Int):(gs.map V.int).map (fun _=>V.bl true)=(gs.map (fun _=>true)).map V.bl:=by rw [List.map_map,List.map_map]; rfl
section
variable {K:Tl} {a:Addr} {xs:List V} {lo:Int} {n k:Nat} {te:TE} {Q:VK} {σ:L2.St} {H:Hp}
theorem xP (Pv:Nat->List V->Hp->Prop) (h0:Pv 0 [] H)
  (hs:∀ i ys H',i < n->Pv i ys H' -> te (σ.set k (some (.int (lo+i)))) H' fun y H5=>ys.length < sizeLine /\ Pv (i+1) (ys ++ [y]) H5)
  (hd:∀ ys H',Pv n ys H' -> ∀ l,H' l=none->Q (.ref l) (Tp H' l (.lst ys))):wy (TN lo n) σ H (x8 k) jZ te Q:=by
 refine ⟨fun i m ys σ' H'=>m=n - i /\ i<=n /\ (σ' = σ \/ ∃ e,σ' = σ.set k e) /\ Pv i ys H',⟨n,by simp,Nat.zero_le _,.inl rfl,h0⟩,?_⟩
 rintro i m ys σ' H' ⟨rfl,hi,hσ,p⟩
 by_cases hlt:i < n
 ·refine .inr ⟨hlt,fun zs σ2 H2=>(σ2 = σ \/ ∃ e,σ2 = σ.set k e) /\ Pv (i+1) zs H2,fun zs σ2 H2 p'=>⟨n - (i+1),by omega,rfl,hlt,p'.1,p'.2⟩,fun x H2 y=>?_⟩
  obtain ⟨e,y⟩:=y
  subst e y
  have e:σ'.set k (some (V.int (lo+i))) = σ.set k (some (V.int (lo+i))):=by
   rcases hσ with rfl | ⟨e,rfl⟩
   ·rfl
   ·rw [List.set_set]
  show if true=true then te (σ'.set k (some (V.int (lo+i)))) H2 (fun y H5=>ys.length < sizeLine /\ ((σ'.set k (some (V.int (lo+i))) = σ \/ ∃ e,σ'.set k (some (V.int (lo+i))) = σ.set k e) /\ Pv (i+1) (ys ++ [y]) H5)) else ((σ'.set k (some (V.int (lo+i))) = σ \/ ∃ e,σ'.set k (some (V.int (lo+i))) = σ.set k e) /\ Pv (i+1) ys H2)
  rw [if_pos rfl,e]
  have e2:(fun (y:V) (H5:Hp)=>ys.length < sizeLine /\ ((σ.set k (some (V.int (lo+i))) = σ \/ ∃ e,σ.set k (some (V.int (lo+i))) = σ.set k e) /\ Pv (i+1) (ys ++ [y]) H5))=fun y H5=>ys.length < sizeLine /\ Pv (i+1) (ys ++ [y]) H5:=by
   funext y H5
   exact propext ⟨fun z=>⟨z.1,z.2.2⟩,fun z=>⟨z.1,.inr ⟨_,rfl⟩,z.2⟩⟩
  rw [e2]
  exact hs i ys H2 hlt p
 ·have e:i=n:=by omega
  subst e
  exact .inl ⟨Nat.le_refl _,hd ys H' p⟩
end
theorem Grow.less {m m':List Addr} {H H':Hp} (g:Grow m H H') (h:∀ b ∈ m,b ∈ m' \/ H b=none):Grow m' H H' :=
 ⟨fun b o n q=>g.keep b o (fun z=>by
  rcases h b z with w | w
  ·exact n w
  ·rw [w] at q; cases q) q,g.tup,g.frz⟩
theorem Sj.ne {H:Hp} {a l:Addr} (p:Sj H a) (h:H l=none):l ∉ [a]:=by
 intro z
 obtain ⟨z0,z1,hz,_⟩:=p
 rw [List.mem_singleton.mp z,hz] at h
 cases h
theorem v9 {n:Nat} {i:Int} (h0:0<=i) (h:i.toNat < n):T4 n i=some i.toNat:=by
 unfold T4; rw [if_pos h0,if_pos (by omega)]
theorem Wd {xs:List V} {i:Int} {j:Nat} {v:V} (h:T4 xs.length i=some j) (hv:xs[j]? = some v):T5 xs i=some v:=by
 unfold T5; rw [h]; exact hv
def zp (K:Tl) (H:Hp) (x:V) (b:List Int):Prop:=∃ r,x = .ref r /\ TC K H r (b.map V.int)
theorem Grow.board {m:List Addr} {H H':Hp} (g:Grow m H H') {K:Tl} {x:V} {b:List Int} (h:zp K H x b):zp K H' x b:=by
 obtain ⟨r,e,h1⟩:=h
 exact ⟨r,e,g.sqT h1⟩
theorem We {xs:List Int} {i:Nat} (h:i < xs.length):xs[i]? = some (xs.getD i 0):=by
 rw [List.getD_eq_getElem?_getD,List.getElem?_eq_getElem h]; rfl
def Sl (B:Int) (xs:List Int):Prop:=∀ v ∈ xs,-B < v /\ v < B
def qP (xs:List Int):PyData:=.tuple (xs.map PyData.int)
theorem rQ {K:Tl} {H:Hp}:∀ xs:List Int,DatAll K H (xs.map V.int) (xs.map PyData.int)
 | []=>.nil
 | x :: xs=>.cons (.int x) (rQ xs)
theorem zp.dat {K:Tl} {H:Hp} {x:V} {b:List Int} (h:zp K H x b):Dat K H x (qP b):=by
 obtain ⟨r,rfl,h⟩:=h
 exact .tup h (rQ b)
def Sh (d:PyData) (w n:Nat):Prop:=d.showable=true /\ d.hasDict=false /\ wtD d<=w /\ d.depth<=n
theorem Sh.mono {d:PyData} {w w' n n':Nat} (h:Sh d w n) (h1:w<=w') (h2:n<=n'):Sh d w' n':=⟨h.1,h.2.1,Nat.le_trans h.2.2.1 h1,Nat.le_trans h.2.2.2 h2⟩
def Sn (ds:List PyData) (w n:Nat):Prop:=PyData.showableAll ds=true /\ PyData.hasDictAll ds=false /\ wtAll ds<=w /\ PyData.depthAll ds<=n
theorem Wf {n:Nat}:Sn [] 0 n:=⟨rfl,rfl,Nat.le_refl _,Nat.zero_le _⟩
theorem YC {d:PyData} {ds:List PyData} {w v n:Nat} (h:Sh d w n) (t:Sn ds v n):Sn (d :: ds) (w+2+v) n:=by
 obtain ⟨a1,a2,a3,a4⟩:=h
 obtain ⟨b1,b2,b3,b4⟩:=t
 refine ⟨?_,?_,?_,?_⟩
 ·show (d.showable && PyData.showableAll ds)=true
  rw [a1,b1]; rfl
 ·show (d.hasDict || PyData.hasDictAll ds)=false
  rw [a2,b2]; rfl
 ·show wtD d+2+wtAll ds<=_; omega
 ·show max d.depth (PyData.depthAll ds)<=n; omega
theorem XB {ds:List PyData} {w n:Nat} (h:Sn ds w n):Sh (.tuple ds) (w+3) (n+1):=⟨h.1,h.2.1,Nat.add_le_add_right h.2.2.1 3,Nat.add_le_add_right h.2.2.2 1⟩
theorem Vl {i:Int} {n:Nat} (h:UN i):Sh (.int i) 1921 n:=⟨decide_eq_true (Uj h),rfl,Nat.le_refl _,Nat.zero_le _⟩
theorem sw {α:Type} {f:α -> PyData} {w n:Nat}:∀ {xs:List α},(∀ x ∈ xs,Sh (f x) w n)->Sn (xs.map f) (xs.length * (w+2)) n
 | [],_=>by rw [show ([]:List α).length * (w+2)=0 from Nat.zero_mul _]; exact Wf
 | x :: xs,h=>by
  have z:=YC (h x (by simp)) (sw (xs:=xs) fun y hy=>h y (List.mem_cons_of_mem _ hy))
  rw [show (x :: xs).length * (w+2)=w+2+xs.length * (w+2) by rw [List.length_cons,Nat.add_mul,Nat.one_mul,Nat.add_comm]]
  exact z
theorem Wg {xs:List Int} {n:Nat} (h:Sl (2 ^ 300) xs):Sh (qP xs) (xs.length * 1923+3) (n+1):=XB (sw fun x hx=>Vl (h x hx))
theorem Sh.fits {d:PyData} {w n:Nat} (h:Sh d w n) (hw:w<=16777216):d.shown.length<=sizeLine:=qO h.1 h.2.1 (Nat.le_trans h.2.2.1 hw)
def ua (_:Tl):Sp:=Sg fun x y H Q=>∃ a m,x = .ref a /\ y = .int m /\ Sj H a /\ 0 < m /\ m < 2 ^ 200 /\ ∀ n H',0<=n->n < m->Grow [a] H H' -> Sj H' a->Q (.int n) H'
def wq (K:Tl):Sp:=Si fun x y z H Q=>∃ i l u,x = .int i /\ y = .int l /\ z = .int u /\ Q (.bl (decide (l<=i) && decide (i<=u))) H
def zU {α:Type} (R:V -> α -> Prop):List V->List α -> Prop
 | [],[]=>True
 | x :: xs,k :: ks=>R x k /\ zU R xs ks
 | _,_=>False
section
variable {α:Type} {R S:V -> α -> Prop}
theorem zU.imp (h:∀ x k,R x k->S x k):∀ {xs:List V} {ks:List α},zU R xs ks->zU S xs ks
 | [],[],_=>trivial
 | _ :: _,_ :: _,⟨a,t⟩=>⟨h _ _ a,zU.imp h t⟩
 | [],_ :: _,z=>z.elim
 | _ :: _,[],z=>z.elim
theorem zU.len:∀ {xs:List V} {ks:List α},zU R xs ks->xs.length=ks.length
 | [],[],_=>rfl
 | _ :: xs,_ :: ks,⟨_,t⟩=>congrArg (· + 1) (zU.len t)
 | [],_ :: _,h=>h.elim
 | _ :: _,[],h=>h.elim
theorem zU.get:∀ {xs:List V} {ks:List α} {i:Nat} {x:V},zU R xs ks->xs[i]? = some x -> ∃ k,ks[i]? = some k /\ R x k
 | _ :: _,k :: _,0,x,⟨h,_⟩,e=>by
  obtain rfl:=Option.some.inj e
  exact ⟨k,rfl,h⟩
 | _ :: _,_ :: _,i+1,x,⟨_,t⟩,e=>zU.get (i:=i) t e
 | [],[],i,x,_,e=>by cases e
 | [],_ :: _,_,_,h,_=>h.elim
 | _ :: _,[],_,_,h,_=>h.elim
theorem zU.getR:∀ {xs:List V} {ks:List α} {i:Nat} {k:α},zU R xs ks->ks[i]? = some k -> ∃ x,xs[i]? = some x /\ R x k
 | x :: _,_ :: _,0,k,⟨h,_⟩,e=>by
  obtain rfl:=Option.some.inj e
  exact ⟨x,rfl,h⟩
 | _ :: _,_ :: _,i+1,k,⟨_,t⟩,e=>zU.getR (i:=i) t e
 | [],[],i,k,_,e=>by cases e
 | [],_ :: _,_,_,h,_=>h.elim
 | _ :: _,[],_,_,h,_=>h.elim
theorem zU.app:∀ {xs ys:List V} {ks js:List α},zU R xs ks->zU R ys js->zU R (xs ++ ys) (ks ++ js)
 | [],_,[],_,_,h=>h
 | _ :: _,_,_ :: _,_,⟨h,t⟩,q=>⟨h,zU.app t q⟩
 | [],_,_ :: _,_,h,_=>h.elim
 | _ :: _,_,[],_,h,_=>h.elim
theorem zU.one {x:V} {k:α} (h:R x k):zU R [x] [k]:=⟨h,trivial⟩
end
theorem UO {α:Type} {K:Tl} {H:Hp} {R:V -> α -> Prop} {f:α -> PyData} (h:∀ x k,R x k->Dat K H x (f k)):∀ {xs:List V} {ks:List α},zU R xs ks->DatAll K H xs (ks.map f)
 | [],[],_=>.nil
 | _ :: _,_ :: _,⟨a,t⟩=>.cons (h _ _ a) (UO h t)
 | [],_ :: _,h=>h.elim
 | _ :: _,[],h=>h.elim
theorem CSc.nest {X0:Cx} {scope scope2:Scope} {N' N2:List Str} {sub sub2:List (Option Nat)} {cl:List (Str × Addr)} {C D:Addr} {fp:List Addr} {s:Shared} {H:Hp} (S:CSc X0 scope N' sub) (hk0:X0.env.scope.kind = .function)
  (h:((scope2.names.all fun y=>(y.2 != .free || scope.names.lookup y.1 == some .free) && (y.2 != .cell) && (y.2 != .local || scope2.names.lookup y.1 == some .local)) && (sub2.length == N2.length) &&
   ((N2.zip sub2).all fun p=>match p.2 with | none=>true | some i=>N'[i]? == some p.1 && scope.names.lookup p.1 == some .free && scope2.names.lookup p.1 == some .free))=true)
  (hk:scope2.kind = .function):CSc (Se X0 N' scope cl C D fp s H) scope2 N2 sub2:=by
 rw [Bool.and_eq_true,Bool.and_eq_true] at h
 obtain ⟨⟨h1,h2⟩,h3⟩:=h
 have k1:=fun y hy=>List.all_eq_true.mp h1 y hy
 have cellOf:∀ y:Str,scope.names.lookup y=some .free->(relabel scope X0.env).names.lookup y=some .cell:=fun y hy=>yx hk0 (S.free (y,.free) (PySem.mem_of_lookup hy) rfl) hy
 refine ⟨fun y hy hf=>?_,fun y hy hc=>?_,hk,fun y hy hl=>?_,by simpa using h2,fun j y i hj hs=>?_⟩
 ·have:=k1 y hy
  simp only [hf,Bool.and_eq_true] at this
  have z:=this.1.1
  exact cellOf y.1 (by simpa using z)
 ·have:=k1 y hy
  simp only [hc,Bool.and_eq_true] at this
  simp at this
 ·have:=k1 y hy
  simp only [hl,Bool.and_eq_true] at this
  simpa using this.2
 ·have hm:(y,some i) ∈ N2.zip sub2:=by
   have:(N2.zip sub2)[j]? = some (y,some i):=by
    rw [List.getElem?_zip_eq_some]; exact ⟨hj,hs⟩
   exact List.mem_of_getElem? this
  have:=List.all_eq_true.mp h3 _ hm
  simp only [Bool.and_eq_true,beq_iff_eq] at this
  exact ⟨this.1.1,cellOf y this.1.2,this.2⟩
theorem yF {X:Cx} {K:Tl} (h:X.K=K):yw X (.builtin "len") (fun xs H Q=>∃ p ys,xs=[.ref p] /\ (TB K H p ys \/ TC K H p ys) /\ Q (.int ys.length) H):=by subst h; exact zq
theorem sx {X:Cx} {K:Tl} (h:X.K=K):yw X (.type "tuple") (fun xs H Q=>∃ p ys,xs=[.ref p] /\ ((TB K H p ys /\ ∀ l,H l=none->Q (.ref l) (Tp H l (.tup ys))) \/ (TC K H p ys /\ Q (.ref p) H))):=by subst h; exact zt
def So (b:V->V->V->V->V->Hp->VK->Prop):Sp:=fun vs H Q _=>∃ x y z u w,vs=[x,y,z,u,w] /\ b x y z u w H Q
theorem Wh {b:V->V->V->V->V->Hp->VK->Prop} {p q r s t:Str}:∀ vs H Q E,So b vs H Q E->vs.length=[p,q,r,s,t].length:=fun vs H Q E h=>by
 obtain ⟨x,y,z,u,w,rfl,_⟩:=h; rfl
def yk (K:Tl) (H:Hp) (x:V) (rows:List (List Int)):Prop:=∃ r xs,x = .ref r /\ TC K H r xs /\ zU (zp K H) xs rows
theorem Grow.boardsR {m:List Addr} {H H':Hp} (g:Grow m H H') {K:Tl} {xs:List V} {rows:List (List Int)} (h:zU (zp K H) xs rows):zU (zp K H') xs rows:=h.imp fun _ _ z=>g.board z
theorem Grow.rows {m:List Addr} {H H':Hp} (g:Grow m H H') {K:Tl} {x:V} {rows:List (List Int)} (h:yk K H x rows):yk K H' x rows:=by
 obtain ⟨r,xs,e,h1,h2⟩:=h
 exact ⟨r,xs,e,g.sqT h1,g.boardsR h2⟩
def Sq (m:Int) (xs:List Int):Prop:=∀ v ∈ xs,0<=v /\ v < m
def YD (R M:Nat) (rows:List (List Int)):Prop:=rows.length=R /\ ∀ row ∈ rows,row.length=M /\ Sq M row
theorem WK {xs:List Int} {i:Int} (h0:0<=i) (h:i < xs.length):T5 (xs.map V.int) i=some (V.int (xs.getD i.toNat 0)):=by
 have hj:i.toNat < xs.length:=by omega
 exact Wd (v9 h0 (by rw [List.length_map]; exact hj)) (by rw [List.getElem?_map,We hj]; rfl)
theorem wU {K:Tl} {H:Hp} {xs:List V} {rows:List (List Int)} (h:zU (zp K H) xs rows) {i:Int} (h0:0<=i) (h1:i < rows.length):∃ a,T5 xs i=some (V.ref a) /\ TC K H a ((rows.getD i.toNat []).map V.int):=by
 have hj:i.toNat < rows.length:=by omega
 have e:rows[i.toNat]? = some (rows.getD i.toNat []):=by rw [List.getD_eq_getElem?_getD,List.getElem?_eq_getElem hj]; rfl
 obtain ⟨x,hx,a,rfl,hs⟩:=h.getR e
 exact ⟨a,Wd (v9 h0 (by rw [h.len]; exact hj)) hx,hs⟩
theorem Uk {R M:Nat} {rows:List (List Int)} (h:YD R M rows) {i:Int} (h0:0<=i) (h1:i < R):(rows.getD i.toNat []).length=M /\ Sq M (rows.getD i.toNat []):=by
 have hj:i.toNat < rows.length:=by rw [h.1]; omega
 have e:rows[i.toNat]? = some (rows.getD i.toNat []):=by rw [List.getD_eq_getElem?_getD,List.getElem?_eq_getElem hj]; rfl
 exact h.2 _ (List.mem_of_getElem? e)
def xy (K:Tl):Sp:=Sf fun x H Q=>∃ row:List Int,zp K H x row /\ 1<=row.length /\ row.length<=5 /\ Sq row.length row /\ ∀ H',Grow [] H H' -> Q (.bl true) H'
section
variable {prog:Program} {w:World} {A:Around} {E:Tn} {s:Shared}
theorem sy {jt t:Addr} {i:Nat} {vs:Array Value} {v:Value} {Q:Tn} (hit:s.heap.IsTupleIter jt t i) (ht:s.heap.IsTuple t vs) (hv:vs[i]? = some v)
  (hQ:∀ h',h'.IsTupleIter jt t (i+1)->Heap.SameBut jt s.heap h' -> Q v { s with heap:=h' }):wpAny (model prog w) A (Builtin.SmallTypes.nextOf (.ref jt)) Q E s:=by
 obtain ⟨oj,hoj,cj,dj⟩:=id hit
 obtain ⟨ot,hot,_,nt,dt⟩:=ht
 unfold Builtin.SmallTypes.nextOf
 refine wpAny_bind (wpAny_callSpecial?_slot (name:=Str.ofString "__next__") hit.typeIs F.slot_tuple_iterator_next (wpAny_call_entry F.slot_tuple_iterator_next hit.typeIs F.entry_tuple_iterator_next ?_ (F.args_tuple_iterator_next_1 _)))
 show wpAny _ _ (field (.ref jt) 0 >>= _) _ _ s
 refine wpAny_bind (wpAny_field hoj dj (x:=.ref t) rfl ?_); show wpAny _ _ (if (Value.ref t == Value.none)=true then _ else _) _ _ s
 rw [if_neg (show ¬ ((Value.ref t == Value.none)=true) by exact Bool.false_ne_true)]; show wpAny _ _ (field (.ref jt) 1 >>= _) _ _ s
 refine wpAny_bind (wpAny_field hoj dj (x:=.int i 0) rfl ?_); show wpAny _ _ (seqItems? (.ref t) >>= _) _ _ s
 refine wpAny_bind (wpAny_seqItems hot dt ?_); simp only [Int.toNat_natCast,hv]
 refine wpAny_bind (wpAny_setField hoj dj (by simp) (wpAny_pure ⟨v,rfl,wpAny_pure (hQ _ ⟨_,Heap.get?_update_self _ hoj (Obj.isFreed_of_fields (Obj.data_mapFields dj _)),(Obj.cls_mapFields ..).trans cj,by rw [Obj.data_mapFields dj]; simp [rawInt]⟩ (Heap.SameBut.update ..))⟩))
theorem vU {jt t:Addr} {i:Nat} {vs:Array Value} {Q:Tn} (hh:A.handled=none) (hit:s.heap.IsTupleIter jt t i) (ht:s.heap.IsTuple t vs) (hv:vs[i]? = none)
  (hE:∀ h' e,Heap.ExtBut jt s.heap h' -> (∃ o,h'.get? e=some o /\ o.cls = .type "StopIteration")->E (.ref e) { s with heap:=h' }):wpAny (model prog w) A (Builtin.SmallTypes.nextOf (.ref jt)) Q E s:=by
 obtain ⟨oj,hoj,cj,dj⟩:=id hit
 obtain ⟨ot,hot,_,nt,dt⟩:=ht
 unfold Builtin.SmallTypes.nextOf
 refine wpAny_bind (wpAny_callSpecial?_slot (name:=Str.ofString "__next__") hit.typeIs F.slot_tuple_iterator_next (wpAny_call_entry F.slot_tuple_iterator_next hit.typeIs F.entry_tuple_iterator_next ?_ (F.args_tuple_iterator_next_1 _)))
 show wpAny _ _ (field (.ref jt) 0 >>= _) _ _ s
 refine wpAny_bind (wpAny_field hoj dj (x:=.ref t) rfl ?_); show wpAny _ _ (if (Value.ref t == Value.none)=true then _ else _) _ _ s
 rw [if_neg (show ¬ ((Value.ref t == Value.none)=true) by exact Bool.false_ne_true)]; show wpAny _ _ (field (.ref jt) 1 >>= _) _ _ s
 refine wpAny_bind (wpAny_field hoj dj (x:=.int i 0) rfl ?_); show wpAny _ _ (seqItems? (.ref t) >>= _) _ _ s
 refine wpAny_bind (wpAny_seqItems hot dt ?_); simp only [Int.toNat_natCast,hv]
 refine wpAny_bind (wpAny_rule (wpAny_bind (wpAny_setField hoj dj (by simp) ?_))); show wpAny _ _ (newExc (.type "StopIteration") [] >>= _) _ _ _
 refine wpAny_bind ?_; simp only [newExc,newTuple]
 refine wpAny_bind (wpAny_newObj_type ?_ (by size_fits)); refine wpAny_bind (m:=firstArgMember _ _) (wpAny_of_eq (a:=Value.none) (by first | rfl | (simp only [firstArgMember]; rfl)) ?_)
 refine wpAny_newObj_type ?_ (by size_fits); simp only [raiseNew]
 refine wpAny_bind (wpAny_handled ?_); (first | rw [show A.in1.handled=none from hh] | rw [hh])
 exact wpAny_bind (wpAny_pure (wpAny_throw (hE _ _ (((Heap.SameBut.update ..).extBut.push _).push _) ⟨_,Heap.get?_push_size _ rfl,rfl⟩)))
end
theorem j8 {prog:Program} {w:World} {A:Around} (hh:A.handled=none) (jt t:Addr) (hne:t ≠ jt) (vs:Array Value) :
  Draws prog w A jt [jt,t] vs.size (fun i v=>vs[i]? = some v) (fun i h=>h.IsTupleIter jt t i /\ h.IsTuple t vs) where
 live:=fun _ _ st=>let ⟨o,ho,_⟩:=st.1; ⟨o,ho⟩
 frame:=fun _ _ _ st hk=>⟨st.1.at (hk jt (by simp)),st.2.at (hk t (by simp))⟩
 item:=fun i s Q E hi st hQ=>sy st.1 st.2 (v:=vs[i]) (by simp [hi]) fun h' hit' hs'=>hQ _ h' s.toks (by simp [hi]) ⟨hit',st.2.extBut hs'.extBut hne⟩ hs'
 done:=fun s Q E st hE=>vU hh st.1 st.2 (by simp) hE
theorem j9 {prog:Program} {w:World} {A:Around} (hh:A.handled=none) (jt t:Addr) (vs:Array Value) {i:Nat} (hv:vs[i]? = none) :
  Draws prog w A jt [jt,t] i (fun _ _=>True) (fun j h=>j=i /\ h.IsTupleIter jt t i /\ h.IsTuple t vs) where
 live:=fun _ _ st=>let ⟨o,ho,_⟩:=st.2.1; ⟨o,ho⟩
 frame:=fun _ _ _ st hk=>⟨st.1,st.2.1.at (hk jt (by simp)),st.2.2.at (hk t (by simp))⟩
 item:=fun j s Q E hj st hQ=>absurd st.1 (Nat.ne_of_lt hj)
 done:=fun s Q E st hE=>vU hh st.2.1 st.2.2 hv hE
section
variable {X:Cx} {pins:List (Addr × Obj)} {σ:L2.St} {H:Hp} {s:Shared} {h':Heap}
theorem sC {fp:List Addr} {t':Nat} (I:Inv X pins σ H s) (k:∀ b o,b ∉ fp->s.heap.get? b=some o->h'.get? b=some o) (ff:∀ b ∈ fp,yK X pins H b):Inv X pins σ H { s with heap:=h',toks:=t' }:=by
 have nit:∀ b u,H b=some u->b ∉ fp:=fun b u e z=>by rw [(ff b z).1] at e; cases e
 refine I.step (g':=s.gens) (d':=s.drawn) (ch:=fp) (fun b hb=>?_) (fun b o _ _ hc e _=>k b o hc e) (fun b o _ _ hc e _=>⟨o.slots,k b o hc e⟩) (fun _ _ _ _ n=>n) (fun b o hc e=>⟨o,k b o hc e⟩) (fun _ _ e=>e) (fun _ _ _ e=>e) (fun b ps e=>⟨#[],by rw [e]; simp⟩) (fun m hm=>?_) (fun b u e=>?_) I.bare
 ·obtain ⟨_,f1,_,f3,f4,f5⟩:=ff b hb
  exact ⟨f3,f1,f4,f5⟩
 ·obtain ⟨o,es,ep,ho,r⟩:=hm
  exact ⟨o,es,ep,k _ o (fun z=>(ff _ z).2.1 rfl) ho,r⟩
 ·refine (I.hok b u e).stay (fun c v hc q=>k c v ?_ q) (fun _ q=>q) fun _ _ q=>q
  rcases hc with z | z
  ·rw [z]; exact nit b u e
  ·exact nit c _ z
theorem rR {fp:List Addr} {T:Addr} {o:HO} {t':Nat} (I:Inv X pins σ H s) (k:∀ b o,b ∉ fp->s.heap.get? b=some o->h'.get? b=some o) (ff:∀ b ∈ fp,yK X pins H b) (hT:s.heap.objs.size<=T)
  (new:zL X.prog X.w (Tp H T o) h' T o):Inv X pins σ (Tp H T o) { s with heap:=h',toks:=t' }:=by
 have hn:H T=none:=I.hok.fresh hT
 have I1:Inv X pins σ H { s with heap:=h',toks:=t' }:=sC I k ff
 have hok:Tq X.prog X.w (Tp H T o) h':=Tq.track I1.hok hn new
 refine I.step (g':=s.gens) (d':=s.drawn) (ch:=fp) (fun b hb=>?_) (fun b o _ _ hc e _=>k b o hc e) (fun b o _ _ hc e _=>⟨o.slots,k b o hc e⟩) (fun b u _ e n=>by rw [zj (Nat.ne_of_lt (Nat.lt_of_lt_of_le (Heap.lt_size e) hT))]; exact n) (fun b o hc e=>⟨o,k b o hc e⟩)
  (fun b xs e=>by rw [zj (zk e hn)]; exact e) (fun b u xs e=>by rw [zj (zk e hn)]; exact e) (fun b ps e=>⟨#[],by rw [zj (zk e hn),e]; simp⟩) (fun m hm=>?_) hok I.bare
 ·obtain ⟨_,f1,_,f3,f4,f5⟩:=ff b hb
  exact ⟨f3,f1,f4,f5⟩
 ·obtain ⟨o,es,ep,ho,r⟩:=hm
  exact ⟨o,es,ep,k _ o (fun z=>(ff _ z).2.1 rfl) ho,r⟩
end
def Sr (K:Tl) (a:Addr):It :=
 ⟨fun i H=>∃ xs x,TC K H a xs /\ xs[i]? = some x,fun i H x H'=>∃ T v,H T=none /\ x = .ref T /\ H' = Tp H T (.tup [.int i,v]) /\ ∀ xs,TC K H a xs->xs[i]? = some v,fun i H=>∃ xs,TC K H a xs /\ xs.length<=i⟩
section
variable {X:Cx} {elts:List Expr} {kt:Nat} {pt:Pos}
theorem Vm:bootBuiltins "enumerate" = some (.type "enumerate"):=by decide +kernel
end
theorem uc {K:Tl} {a:Addr} {xs:List V} {g:TG} {tb:TS} {D:Ends} {σ:L2.St} {H:Hp} (Pv:Nat->L2.St->Hp->Prop) (h0:Pv 0 σ H) (hl:∀ i σ H,i<=xs.length->Pv i σ H->TC K H a xs)
  (hs:∀ i x σ H T,xs[i]? = some x->Pv i σ H->H T=none->g (.ref T) σ (Tp H T (.tup [.int i,x])) fun σ2 H2=>tb { D with nx:=Pv (i+1),ct:=Pv (i+1),bk:=D.nx } σ2 H2) (hd:∀ σ H,Pv xs.length σ H->D.nx σ H) :
  ∃ W:Nat->Nat->L2.St->Hp->Prop,(∃ m,W 0 m σ H) /\ ∀ i m σ H,W i m σ H →
   ((Sr K a).stop i H /\ D.nx σ H) \/ ((Sr K a).go i H /\ ∃ N:L2.St->Hp->Prop,(∀ σ' H',N σ' H' -> ∃ m',m' < m /\ W (i+1) m' σ' H') /\ ∀ x H',(Sr K a).yld i H x H' -> g x σ H' fun σ2 H2=>tb { D with nx:=N,ct:=N,bk:=D.nx } σ2 H2):=by
 refine ⟨fun i m σ H=>m=xs.length - i /\ i<=xs.length /\ Pv i σ H,⟨xs.length,by simp,Nat.zero_le _,h0⟩,?_⟩
 rintro i m σ H ⟨rfl,hi,p⟩
 have q:=hl i σ H hi p
 by_cases hlt:i < xs.length
 ·refine .inr ⟨⟨xs,xs[i],q,by simp [hlt]⟩,Pv (i+1),fun σ' H' p'=>⟨xs.length - (i+1),by omega,rfl,hlt,p'⟩,fun x H' y=>?_⟩
  obtain ⟨T,v,hT,rfl,rfl,y⟩:=y
  exact hs i v σ H T (y xs q) p hT
 ·have e:i=xs.length:=by omega
  subst e
  exact .inl ⟨⟨xs,q,Nat.le_refl _⟩,hd σ H p⟩
section
variable {K:Tl} {a:Addr} {xs:List V} {k:Nat} {tt:TT} {te:TE} {Q:VK} {σ:L2.St} {H:Hp}
theorem qQ (p:V->Bool) (Pv:Nat->List V->Hp->Prop) (h0:Pv 0 [] H) (hl:∀ i ys H',Pv i ys H' -> TC K H' a xs)
  (ht:∀ x H' (R:Bool->Hp->Prop),x ∈ xs->R (p x) H' -> tt (σ.set k (some x)) H' R)
  (hs:∀ i x ys H',xs[i]? = some x->Pv i ys H' -> p x=true->te (σ.set k (some x)) H' fun y H5=>ys.length < sizeLine /\ Pv (i+1) (ys ++ [y]) H5)
  (hn:∀ i x ys H',xs[i]? = some x->Pv i ys H' -> p x=false->Pv (i+1) ys H')
  (hd:∀ ys H',Pv xs.length ys H' -> ∀ l,H' l=none->Q (.ref l) (Tp H' l (.lst ys))):wy (TK K a) σ H (x8 k) tt te Q:=by
 refine rP (xs:=xs) (fun i ys σ' H'=>(σ' = σ \/ ∃ e,σ' = σ.set k e) /\ Pv i ys H') ⟨.inl rfl,h0⟩ (fun i ys σ' H' _ p=>hl i ys H' p.2) ?_ (fun ys σ' H' p l hl=>hd ys H' p.2 l hl)
 rintro i x ys σ' H' hx ⟨hσ,pv⟩
 have e:σ'.set k (some x) = σ.set k (some x):=by
  rcases hσ with rfl | ⟨e,rfl⟩
  ·rfl
  ·rw [List.set_set]
 show tt (σ'.set k (some x)) H' _
 rw [e]
 refine ht x H' _ (List.mem_of_getElem? hx) ?_
 by_cases c:p x=true
 ·rw [if_pos c]
  have e2:(fun (y:V) (H5:Hp)=>ys.length < sizeLine /\ ((σ.set k (some x) = σ \/ ∃ e,σ.set k (some x) = σ.set k e) /\ Pv (i+1) (ys ++ [y]) H5))=fun y H5=>ys.length < sizeLine /\ Pv (i+1) (ys ++ [y]) H5:=by
   funext y H5
   exact propext ⟨fun z=>⟨z.1,z.2.2⟩,fun z=>⟨z.1,.inr ⟨_,rfl⟩,z.2⟩⟩
  have z:=hs i x ys H' hx pv c
  rw [← e2] at z
  exact z
 ·rw [if_neg c]
  exact ⟨.inr ⟨_,rfl⟩,hn i x ys H' hx pv (by simpa using c)⟩
end
section
variable {X:Cx}
theorem Za {K:Tl} (h:X.K=K):yw X (.builtin "isinstance") (UM K):=by subst h; exact yL
end
theorem Zb {X:Cx} {K:Tl} {tg l:Expr} {tl:TE} (h:X.K=K) (hl:PE X l tl):PI X tg l (UH K tl):=by subst h; exact yC hl
section
variable {X:Cx} {pins:List (Addr × Obj)} {σ:L2.St} {H2:Hp} {s₂:Shared} {it:Addr} {fp:List Addr} {tn:Nat->Heap->Prop} {J:It} {scope:Scope} {cl:List (Str × Addr)} {N':List Str} {sub:List (Option Nat)}
theorem Zc {C D:Addr} {s₀:Shared} {tg:Expr} {pos:Pos} {elt iter:Expr} {ifs:List Expr} {g:TG} {tt:TT} {te:TE} {Q:VK} {RR:Value->Addr->Result->Shared->Prop} {W:Nat->Nat->List V->L2.St->Hp->Prop}
  (I:Inv X pins σ H2 s₂) (hcalm:X.calm=true) (T:Turn X.prog X.w X.K tg J fp it tn) (f2:∀ b ∈ fp,yK X pins H2 b) (hfp:∀ b ∈ fp,b < s₂.heap.objs.size)
  (hs₀:∀ b o,s₂.heap.get? b=some o->s₀.heap.get? b=some o) (hos:s₀.os=s₂.os) (hD:s₂.heap.objs.size<=D) (hC:s₂.heap.objs.size<=C) (hDC:D ≠ C)
  (hcl1:∀ x c,cl.lookup x=some c->X.env.cells.lookup x=some c)
  (hg:PG (Se X N' scope cl C D fp s₀ H2) tg g) (ht:sr (Se X N' scope cl C D fp s₀ H2) ifs tt) (he:PE (Se X N' scope cl C D fp s₀ H2) elt te)
  (turn:∀ i m ys σ' H',W i m ys σ' H' →
   (J.stop i H' /\ ∀ l,H' l=none->Q (.ref l) (Tp H' l (.lst ys))) ∨
   (J.go i H' /\ ∃ Nn:List V->L2.St->Hp->Prop,(∀ zs σ2 H2,Nn zs σ2 H2 -> ∃ m',m' < m /\ W (i+1) m' zs σ2 H2) ∧
    ∀ x H2,J.yld i H' x H2->g x σ' H2 fun σ2 H3=>tt σ2 H3 fun b H4=>if b=true then te σ2 H4 fun y H5=>ys.length < sizeLine /\ Nn (ys ++ [y]) σ2 H5 else Nn ys σ2 H4))
  (hRR:∀ (D C:Addr) (oC:Obj) (m:Str->Option Value) (s':Shared) (Hf:Hp),Inv X (pins ++ [(C,oC)]) σ Hf s' -> s'.heap.Ns C m->yK X pins Hf C->Q (.ref D) Hf->RR (.ref D) C (.ok .next) s')
  (n:Nat) (s:Shared) (h:∃ i ys us k σ' H',Inv (Se X N' scope cl C D fp s₀ H2) pins σ' H' s /\ tn i s.heap /\ (∀ b ∈ fp,H' b=none) /\ H' D=none ∧
   s.heap.get? D=some { cls:=.type "list",data:=.seq (us:List Value).toArray k } /\ zC ys us /\ ys.length<=sizeLine /\ W i n ys σ' H') :
  codeAny (model X.prog X.w) X.A (.compLoop (.ListComp elt [⟨tg,iter,ifs,0⟩] scope pos) 0 (.ref it) (.ref D) (compEnvC scope cl C X.env)) (RR (.ref D) C) s:=by
 have frsz:∀ b ∈ Tt X.stack,b < s₂.heap.objs.size:=fun b hb=>by
  rcases List.mem_cons.mp (I.stkSub b hb) with z | z
  ·rw [z]; exact I.lt
  ·exact Nat.lt_of_not_le fun q=>I.nofs q z
 have cells:∀ x c,cl.lookup x=some c->c < s₂.heap.objs.size:=fun x c e=>let ⟨v,q⟩:=I.cell x c (hcl1 x c e); q.lt
 have pinsz:∀ p ∈ X.pn ++ pins,p.1 < s₂.heap.objs.size:=fun p hp=>Heap.lt_size (I.pin p hp).1
 refine wS (fun n s=>∃ i ys us k σ' H',Inv (Se X N' scope cl C D fp s₀ H2) pins σ' H' s /\ tn i s.heap /\ (∀ b ∈ fp,H' b=none) /\ H' D=none ∧
   s.heap.get? D=some { cls:=.type "list",data:=.seq (us:List Value).toArray k } /\ zC ys us /\ ys.length<=sizeLine /\ W i n ys σ' H') ?_ n h
 rintro n s ⟨i,ys,us,k,σ',H',I',st',fr,hn,hy,rv,hz,w'⟩
 have pD:Inv (Se X N' scope cl C D fp s₀ H2) (pins ++ [(D,{ cls:=.type "list",data:=.seq us.toArray k })]) σ' H' s:=I'.pins_of fun p hp=>by
  rcases List.mem_append.mp hp with hp | hp
  ·exact I'.pin p (List.mem_append_right _ hp)
  ·rw [List.mem_singleton.mp hp]
   exact ⟨hy,hn,hDC,fun z=>absurd (Nat.lt_of_lt_of_le (frsz _ z) hD) (Nat.lt_irrefl _),fun v z=>by cases z⟩
 have fpok:∀ {H'':Hp},(∀ b ∈ fp,H'' b=none) -> ∀ b ∈ fp,yK (Se X N' scope cl C D fp s₀ H2) (pins ++ [(D,{ cls:=.type "list",data:=.seq us.toArray k })]) H'' b:=fun hz b hb=>by
  refine ⟨hz b hb,Nat.ne_of_lt (Nat.lt_of_lt_of_le (hfp b hb) hC),fun z=>?_,.inl (List.mem_cons_of_mem _ hb),fun x c e=>(f2 b hb).2.2.2.2.1 x c (hcl1 x c e),fun p hp=>?_⟩
  ·rcases List.mem_cons.mp (I.stkSub b z) with z | z
   ·exact (f2 b hb).2.1 z
   ·exact (f2 b hb).2.2.1 z
  ·rcases List.mem_append.mp hp with hp | hp
   ·exact (f2 b hb).2.2.2.2.2 p (List.mem_append_left _ hp)
   ·rcases List.mem_append.mp hp with hp | hp
    ·exact (f2 b hb).2.2.2.2.2 p (List.mem_append_right _ hp)
    ·rw [List.mem_singleton.mp hp]
     exact Nat.ne_of_gt (Nat.lt_of_lt_of_le (hfp b hb) hD)
 rcases turn i n ys σ' H' w' with ⟨stop,q⟩ | ⟨go,Nn,hN,step⟩
 ·refine Tx (T.done (Se X N' scope cl C D fp s₀ H2) rfl rfl rfl hcalm i _ s σ' H' (fun _ _=>False) pD (fpok fr) st' stop) fun r s1 ⟨hr,I1⟩=>?_
  subst hr
  have hy1:=(I1.pin (D,{ cls:=.type "list",data:=.seq us.toArray k }) (by simp)).1
  obtain ⟨m,hm,_⟩:=I1.loc
  obtain ⟨oC,es,ep,hoC,hdC,_⟩:=id hm
  obtain ⟨IX,fpc⟩:=rN I hs₀ hos hD hC hDC f2 I1.unpinned hn hy1 rv hz hoC (by intro v z; rw [hdC] at z; cases z)
  exact hRR D C oC m s1 _ IX hm fpc (q D hn)
 ·refine Tx (T.item (Se X N' scope cl C D fp s₀ H2) rfl rfl rfl hcalm i _ s σ' H' (fun _ _=>False) pD (fpok fr) st' go) fun r s1 ⟨u,hr,h4⟩=>?_
  subst hr
  refine Tx h4 fun _ s2 ⟨x5,H5,I5,r5,y5,st5,fr5⟩=>?_
  have I5':=I5.pinned (fpok fr5) (T.obj _ _ st5)
  refine Tx (hg _ s2 σ' H5 x5 u _ I5' r5 (step x5 H5 y5)) fun _ s3 ⟨σ6,H6,I6,q6⟩=>?_
  refine Tx (ht _ s3 σ6 H6 _ I6 q6) fun ok s4 ⟨H7,I7,q7⟩=>?_
  have stay:∀ {σ7:L2.St} {H7:Hp} {s7:Shared},Inv (Se X N' scope cl C D fp s₀ H2) (pins ++ [(D,{ cls:=.type "list",data:=.seq us.toArray k })] ++ wp fp s2.heap) σ7 H7 s7 →
    (∀ b ∈ fp,∀ o,s2.heap.get? b=some o->s7.heap.get? b=some o) /\ (∀ b ∈ fp,H7 b=none) /\ H7 D=none /\ s7.heap.get? D=some { cls:=.type "list",data:=.seq us.toArray k }:=fun {σ7 H7 s7} I7=>by
   have d:=I7.pin (D,{ cls:=.type "list",data:=.seq us.toArray k }) (by simp)
   refine ⟨fun b hb o e=>(I7.pin (b,o) (List.mem_append_right _ (List.mem_append_right _ (zR hb e)))).1,fun b hb=>?_,d.2.1,d.1⟩
   obtain ⟨o,e,_⟩:=T.obj _ _ st5 b hb
   exact (I7.pin (b,o) (List.mem_append_right _ (List.mem_append_right _ (zR hb e)))).2.1
  cases ok with
  | false =>
   rw [if_neg (by decide)] at q7 ⊢
   obtain ⟨k1,k2,k3,k4⟩:=stay I7
   obtain ⟨m',hm,w7⟩:=hN ys σ6 H7 q7
   exact ⟨m',hm,i+1,ys,us,k,σ6,H7,I7.unpinned.unpinned,T.keep _ _ _ st5 k1,k2,k3,k4,rv,hz,w7⟩
  | true =>
   rw [if_pos rfl] at q7 ⊢
   refine Tx (he _ s4 σ6 H7 _ I7 q7) fun v s5 ⟨y,H8,I8,r8,hl8,n8⟩=>?_
   obtain ⟨k1,k2,k3,k4⟩:=stay I8
   refine wpAny_list_append_plain (l:=D) ⟨k,k4⟩ (fun h' pl sb=>?_) (by rw [List.size_toArray,← rv.length]; exact hz)
   obtain ⟨k',e'⟩:=pl
   obtain ⟨m',hm,w8⟩:=hN _ σ6 H8 n8
   refine ⟨m',hm,i+1,ys ++ [y],us ++ [v],k',σ6,H8,?_,T.keep _ _ _ (T.keep _ _ _ st5 k1) fun b hb o e=>sb.extBut b o (Nat.ne_of_lt (Nat.lt_of_lt_of_le (hfp b hb) hD)) e,k2,k3,?_,rv.append (.cons r8 .nil),?_,w8⟩
   ·exact (I8.unpinned.unpinned).turned (it:=D) (t':=s5.toks) (h':=h') (fun b o hb e=>sb.extBut b o hb e) k3 hDC (.inl (by simp)) (fun x c e=>Nat.ne_of_lt (Nat.lt_of_lt_of_le (cells x c e) hD)) (fun p hp=>Nat.ne_of_lt (Nat.lt_of_lt_of_le (pinsz p hp) hD))
   ·rw [e']; simp
   ·rw [List.length_append]; exact hl8
theorem wV {tg:Expr} {pos:Pos} {elt iter:Expr} {ifs:List Expr} {g:TG} {tt:TT} {te:TE} {E:Tn} {Q:VK} {RR:Value->Addr->Result->Shared->Prop}
  (I:Inv X pins σ H2 s₂) (hcalm:X.calm=true) (T:Turn X.prog X.w X.K tg J fp it tn) (st:tn 0 s₂.heap) (f2:∀ b ∈ fp,yK X pins H2 b)
  (S:CSc X scope N' sub) (hcl1:∀ x c,cl.lookup x=some c->X.env.cells.lookup x=some c) (hcl2:∀ y ∈ scope.names,y.2 = .free -> ∃ c,cl.lookup y.1=some c)
  (hg:∀ C D fp s H,PG (Se X N' scope cl C D fp s H) tg g) (ht:∀ C D fp s H,sr (Se X N' scope cl C D fp s H) ifs tt) (he:∀ C D fp s H,PE (Se X N' scope cl C D fp s H) elt te)
  (hW:wy J (uB sub σ) H2 g tt te Q)
  (hRR:∀ (D C:Addr) (oC:Obj) (m:Str->Option Value) (s':Shared) (Hf:Hp),Inv X (pins ++ [(C,oC)]) σ Hf s' -> s'.heap.Ns C m->yK X pins Hf C->Q (.ref D) Hf->RR (.ref D) C (.ok .next) s') :
  wpAny (model X.prog X.w) X.A (newList []) (fun acc s₃=>wpAny (model X.prog X.w) X.A (newFunctionEnv scope X.env.globals cl [] X.env.qual none .none (some X.env)) (fun cenv s₄ =>
   codeAny (model X.prog X.w) X.A (.compStart (.ListComp elt [⟨tg,iter,ifs,0⟩] scope pos) 0 (.ref it) acc { cenv with scope:=relabel scope X.env }) (RR acc cenv.locals) s₄) E s₃) E s₂:=by
 obtain ⟨W,⟨m0,w0⟩,turn⟩:=hW
 refine wpAny_newObj_type (wpAny_newFunctionEnv S.nocell (by intro y hy; simp at hy) (fun h₁ hns₁ hsb₁=>?_) S.kind)
 dsimp only at hns₁ hsb₁ ⊢
 have hC:(s₂.heap.push { cls:=.type "list",dict:=none,data:=.seq ([]:List Value).toArray }).objs.size=s₂.heap.objs.size+1:=Heap.size_push ..
 rw [hC] at hns₁ hsb₁ ⊢
 have hk:∀ b o,(s₂.heap.push { cls:=.type "list",dict:=none,data:=.seq ([]:List Value).toArray }).get? b=some o->h₁.get? b=some o:=fun b o e =>
  hsb₁.extBut b o (by have:=Heap.lt_size e; rw [hC] at this; exact Nat.ne_of_lt this) (Heap.get?_push_of_some _ e)
 have hfp:∀ b ∈ fp,b < s₂.heap.objs.size:=fun b hb=>by
  obtain ⟨o,e,_⟩:=T.obj _ _ st b hb
  exact Heap.lt_size e
 have I0:=x9 (tk:=s₂.toks+([]:List (Str × Value)).length) I S hcl1 hcl2 f2 hfp hns₁ hk
 have hD0:h₁.get? s₂.heap.objs.size=some { cls:=.type "list",data:=.seq ([]:List Value).toArray 0 }:=hk _ _ (Heap.get?_push_size _ rfl)
 have loop:codeAny (model X.prog X.w) X.A (.compLoop (.ListComp elt [⟨tg,iter,ifs,0⟩] scope pos) 0 (.ref it) (.ref s₂.heap.objs.size) (compEnvC scope cl (s₂.heap.objs.size+1) X.env)) (RR (.ref s₂.heap.objs.size) (s₂.heap.objs.size+1)) { s₂ with heap:=h₁,toks:=s₂.toks+([]:List (Str × Value)).length } :=
  Zc (s₀:={ s₂ with heap:=s₂.heap.push { cls:=.type "list",dict:=none,data:=.seq ([]:List Value).toArray } }) (C:=s₂.heap.objs.size+1) (D:=s₂.heap.objs.size) I hcalm T f2 hfp (fun b o e=>Heap.get?_push_of_some _ e) rfl (Nat.le_refl _) (Nat.le_succ _) (Nat.ne_of_lt (Nat.lt_succ_self _)) hcl1 (hg _ _ _ _ _) (ht _ _ _ _ _) (he _ _ _ _ _) turn hRR m0 _
   ⟨0,[],[],0,uB sub σ,H2,I0,T.keep _ _ _ st fun b hb o e=>hk b o (Heap.get?_push_of_some _ e),fun b hb=>(f2 b hb).1,I.hok.fresh (Nat.le_refl _),hD0,.nil,Nat.zero_le _,w0⟩
 exact codeAny_compStart_list loop (T.self _ _ _ _ _ (T.keep _ _ _ st fun b hb o e=>hk b o (Heap.get?_push_of_some _ e)) loop)
end
section
variable {X:Cx} {scope:Scope} {N':List Str} {sub:List (Option Nat)} {tg:Expr} {pos:Pos} {elt iter:Expr} {ifs:List Expr} {wi:TI} {g:TG} {tt:TT} {te:TE}
theorem zP (S:CSc X scope N' sub) (hcalm:X.calm=true) (hi:PI X tg iter wi)
  (hg:∀ cl C D fp s H,PG (Se X N' scope cl C D fp s H) tg g) (ht:∀ cl C D fp s H,sr (Se X N' scope cl C D fp s H) ifs tt) (he:∀ cl C D fp s H,PE (Se X N' scope cl C D fp s H) elt te)
  (hs:∀ x,foldedSetIterable iter X.env x=pure x:=by intro _; rfl):PE X (.ListComp elt [⟨tg,iter,ifs,0⟩] scope pos) (j4 wi sub g tt te):=by
 intro pins s σ H Q I h
 obtain ⟨cl,hclos,hcl1,hcl2⟩:=S.clos I
 rw [eval_ListComp]
 refine wpAny_comprehension_free (use:=none) rfl hs hclos S.kind S.names (Tx (hi pins s σ H _ I h) fun v s1 h1=>Tx h1 fun itv s2 h2=>?_)
 obtain ⟨it,fp,tn,J,H2,e,I2,T,st2,f2,hW⟩:=h2
 subst e
 refine wV (RR:=fun acc C=>compPost (model X.prog X.w) X.A X.xe none (EP X pins σ Q) acc C) I2 hcalm T st2 f2 S hcl1 hcl2 (hg cl) (ht cl) (he cl) hW ?_
 intro D C oC m s' Hf IX hm fpc q
 refine ⟨m,hm,fun h' sb=>⟨.ref D,Hf,?_,rfl,q⟩⟩
 exact (IX.unpinned).turned (it:=C) (t':=s'.toks) (h':=h') (fun b o hb e=>sb.extBut b o hb e) fpc.1 fpc.2.1 fpc.2.2.2.1 fpc.2.2.2.2.1 fpc.2.2.2.2.2
theorem YE {i:Nat} {y:Str} {py spos:Pos} (hN:X.N.Nodup) (hiN:X.N[i]? = some y) (hy:X.env.scope.names.lookup y=some .local) (S:CSc X scope N' sub) (hcalm:X.calm=true) (hi:PI X tg iter wi)
  (hg:∀ cl C D fp s H,PG (Se X N' scope cl C D fp s H) tg g) (ht:∀ cl C D fp s H,sr (Se X N' scope cl C D fp s H) ifs tt) (he:∀ cl C D fp s H,PE (Se X N' scope cl C D fp s H) elt te)
  (hsw:swapsWith (.ListComp elt [⟨tg,iter,ifs,0⟩] scope pos) (some (.Name y py)) spos.line X.env=pure true:=by rfl)
  (hs:∀ x,foldedSetIterable iter X.env x=pure x:=by intro _; rfl):PS X (.Assign [.Name y py] (.ListComp elt [⟨tg,iter,ifs,0⟩] scope pos) spos) (W1 (j4 wi sub g tt te) (x8 i)):=by
 intro pins s σ H D I h
 obtain ⟨cl,hclos,hcl1,hcl2⟩:=S.clos I
 rw [exec_Assign_Name_used _ _ _ _ hsw]
 refine wpAny_bind (wpAny_standAt (wpAny_bind ?_))
 show wpAny _ X.A (do let _ ← comprehension (.ListComp elt [⟨tg,iter,ifs,0⟩] scope pos) scope X.env _ (newList []) false (eval iter X.env) (some (assign (.Name y py) X.env))) _ _ s
 refine wpAny_bind (wpAny_mono (wpAny_comprehension_free (use:=some (assign (.Name y py) X.env)) (Q:=fun _ s'=>SP X pins D .next s') rfl hs hclos S.kind S.names
  (Tx (hi pins s σ H _ I h) fun v s1 h1=>Tx h1 fun itv s2 h2=>?_)) (fun _ s' hq=>wpAny_pure (wpAny_pure hq)) fun _ _ e=>e)
 obtain ⟨it,fp,tn,J,H2,e,I2,T,st2,f2,hW⟩:=h2
 subst e
 refine wV (Q:=fun x H1=>x8 i x σ H1 D.nx) (RR:=fun acc C=>compPost (model X.prog X.w) X.A X.xe (some (assign (.Name y py) X.env)) (fun _ s'=>SP X pins D .next s') acc C) I2 hcalm T st2 f2 S hcl1 hcl2 (hg cl) (ht cl) (he cl) hW ?_
 intro L C oC m s' Hf IX hm fpc q
 have st:=zo (X:=X) (pos:=py) hN hiN (.inl hy) (.inr hy) _ s' σ Hf (.ref L) (.ref L) D.nx IX rfl q
 refine Tx st fun _ s'' ⟨σ2,H2,I2',q2⟩=>?_
 have p:=I2'.pin (C,oC) (by simp)
 have hm':s''.heap.Ns C m:=by
  obtain ⟨o,es,ep,e1,r⟩:=hm
  have z:=(IX.pin (C,oC) (by simp)).1
  rw [e1] at z; cases z
  exact ⟨_,es,ep,p.1,r⟩
 refine ⟨m,hm',fun h' sb=>⟨σ2,H2,?_,q2⟩⟩
 exact (I2'.unpinned).turned (it:=C) (t':=s''.toks) (h':=h') (fun b o hb e=>sb.extBut b o hb e) p.2.1 fpc.2.1 fpc.2.2.2.1 fpc.2.2.2.2.1 fpc.2.2.2.2.2
end
section
variable {prog:Program} {w:World} {A:Around} {E:Tn} {s:Shared}
theorem vW {h:Heap} {z TI TO:Addr} {f0:Value} (hz:IsZip h z TI TO f0) (v:Value):IsZip (h.update z (Obj.mapFields fun x=>x.setIfInBounds 0 v)) z TI TO v /\ Heap.SameBut z h (h.update z (Obj.mapFields fun x=>x.setIfInBounds 0 v)) :=
 ⟨Heap.get?_update_self _ hz rfl,Heap.SameBut.update ..⟩
theorem Vn {h:Heap} {z TI TO:Addr} {f0:Value} (hz:IsZip h z TI TO f0):IsZip (h.update z (Obj.mapFields fun x=>x.setIfInBounds 1 (.bool false))) z TI TO f0 /\ Heap.SameBut z h (h.update z (Obj.mapFields fun x=>x.setIfInBounds 1 (.bool false))) :=
 ⟨Heap.get?_update_self _ hz rfl,Heap.SameBut.update ..⟩
theorem XC {h:Heap} {T:Addr} {a b:Value} (hp:IsPair h T a b) (v:Value):IsPair (h.update T (Obj.mapSeq fun x=>x.setIfInBounds 0 v)) T v b /\ Heap.SameBut T h (h.update T (Obj.mapSeq fun x=>x.setIfInBounds 0 v)) :=
 ⟨Heap.get?_update_self _ hp rfl,Heap.SameBut.update ..⟩
theorem Vo {h:Heap} {T:Addr} {a b:Value} (hp:IsPair h T a b) (v:Value):IsPair (h.update T (Obj.mapSeq fun x=>x.setIfInBounds 1 v)) T a v /\ Heap.SameBut T h (h.update T (Obj.mapSeq fun x=>x.setIfInBounds 1 v)) :=
 ⟨Heap.get?_update_self _ hp rfl,Heap.SameBut.update ..⟩
theorem Zd {z TI TO i1 i2:Addr} {fp1 fp2:List Addr} {n1 n2 i:Nat} {P1 P2:Nat->Value->Prop} {St1 St2:Nat->Heap->Prop} {a b:Value} {Q:Tn}
  (D1:Draws prog w A i1 fp1 n1 P1 St1) (D2:Draws prog w A i2 fp2 n2 P2 St2)
  (hz:IsZip s.heap z TI TO .none) (hI:IsPair s.heap TI (.ref i1) (.ref i2)) (hO:IsPair s.heap TO a b) (st1:St1 i s.heap) (st2:St2 i s.heap) (l1:i < n1) (l2:i < n2)
  (z1:z ∉ fp1) (z2:z ∉ fp2) (o1:TO ∉ fp1) (o2:TO ∉ fp2) (x12:i2 ∉ fp1) (x21:i1 ∉ fp2) (iz1:i1 ≠ z) (iz2:i2 ≠ z) (io1:i1 ≠ TO) (io2:i2 ≠ TO) (oz:TO ≠ z) (tz:TI ≠ z) (tO:TI ≠ TO) (ti1:TI ≠ i1) (ti2:TI ≠ i2)
  (hQ:∀ x y h' tk,P1 i x->P2 i y->IsZip h' z TI TO (rawInt s.heap.objs.size)->IsPair h' TI (.ref i1) (.ref i2)->IsPair h' TO x y->St1 (i+1) h' -> St2 (i+1) h' -> IsPair h' s.heap.objs.size x y->h'.objs.size=s.heap.objs.size+1 →
   (∀ c o,c ≠ z->c ≠ TO->c ≠ i1->c ≠ i2->s.heap.get? c=some o->h'.get? c=some o)->Q (.ref s.heap.objs.size) { s with heap:=h',toks:=tk }) :
  wpAny (model prog w) A (Builtin.«zip.__next__» { pos:=[.ref z] }) (fun fin s'=>∃ v,fin=Fin.done (Flow.ret v) /\ Q v s') E s:=by
 show wpAny _ _ (field (.ref z) 2 >>= _) _ _ s
 refine wpAny_bind (wpAny_field hz rfl (x:=.bool false) rfl ?_)
 show wpAny _ _ (field (.ref z) 3 >>= _) _ _ s
 refine wpAny_bind (wpAny_field hz rfl (x:=.ref TI) rfl ?_)
 show wpAny _ _ (seqItems? (.ref TI) >>= _) _ _ s
 refine wpAny_bind (wpAny_seqItems hI rfl ?_)
 show wpAny _ _ (Builtin.SmallTypes.ownedTupleIsFree (.ref z) >>= _) _ _ s
 refine wpAny_bind ?_
 unfold Builtin.SmallTypes.ownedTupleIsFree
 refine wpAny_bind (wpAny_field hz rfl (x:=.none) rfl (wpAny_pure ?_))
 show wpAny _ _ (rule _ >>= _) _ _ s
 refine wpAny_bind (wpAny_rule ?_)
 show wpAny _ _ (field (.ref z) 4 >>= _) _ _ s
 refine wpAny_bind (wpAny_field hz rfl (x:=.ref TO) rfl ?_)
 show wpAny _ _ (setField (.ref z) 0 .ellipsis >>= _) _ _ s
 refine wpAny_bind (wpAny_setField hz rfl (by show 0 < 5; decide) ?_)
 obtain ⟨hz0,sb0⟩:=vW hz .ellipsis
 revert hz0 sb0
 generalize s.heap.update z (Obj.mapFields fun x=>x.setIfInBounds 0 Value.ellipsis)=h0
 intro hz0 sb0
 have no:∀ b,b ≠ z -> ∀ o,s.heap.get? b=some o->h0.get? b=some o:=fun b hb o e=>(sb0.2 b hb).trans e
 refine wpAny_bind ?_
 show wpAny _ _ (forIn [(Value.ref i1,0),(Value.ref i2,1)] (none,()) _) _ _ _
 rw [List.forIn_cons]
 refine wpAny_bind (wpAny_bind (wpAny_onRaise ?_))
 show wpAny _ _ (Builtin.SmallTypes.nextOf (.ref i1) >>= fun x=>pure (some x)) _ _ _
 refine wpAny_bind (D1.item i { s with heap:=h0 } _ _ l1 (D1.frame _ _ _ st1 fun b hb o e=>no b (fun q=>z1 (q ▸ hb)) o e) fun x h1 tk1 p1 st1' sb1=>wpAny_pure ?_)
 have hO1:IsPair h1 TO a b:=(sb1.2 TO (Ne.symm io1)).trans (no TO oz _ hO)
 show wpAny _ _ (seqItems? (.ref TO) >>= _) _ _ _
 refine wpAny_bind (wpAny_seqItems (s:={ s with heap:=h1,toks:=tk1 }) hO1 rfl ?_)
 show wpAny _ _ (updateSeq TO _ >>= _) _ _ _
 refine wpAny_bind (wpAny_updateSeq (s:={ s with heap:=h1,toks:=tk1 }) hO1 rfl ?_)
 obtain ⟨hO2,sb2⟩:=XC hO1 x
 revert hO2 sb2
 show IsPair (h1.update TO (Obj.mapSeq fun q=>q.setIfInBounds 0 x)) TO x b->Heap.SameBut TO h1 (h1.update TO (Obj.mapSeq fun q=>q.setIfInBounds 0 x))->wpAny _ _ _ _ _ { s with heap:=h1.update TO (Obj.mapSeq fun q=>q.setIfInBounds 0 x),toks:=tk1 }
 generalize h1.update TO (Obj.mapSeq fun q=>q.setIfInBounds 0 x)=h2
 intro hO2 sb2
 refine wpAny_bind (wpAny_letGo (wpAny_pure ?_))
 show wpAny _ _ (forIn [(Value.ref i2,1)] (none,()) _) _ _ _
 rw [List.forIn_cons]
 refine wpAny_bind (wpAny_bind (wpAny_onRaise ?_))
 show wpAny _ _ (Builtin.SmallTypes.nextOf (.ref i2) >>= fun x=>pure (some x)) _ _ _
 have k2:∀ c o,c ≠ z->c ≠ TO->c ≠ i1->s.heap.get? c=some o->h2.get? c=some o:=fun c o c1 c2 c3 e=>(sb2.2 c c2).trans ((sb1.2 c c3).trans (no c c1 o e))
 refine wpAny_bind (D2.item i { s with heap:=h2,toks:=tk1 } _ _ l2 (D2.frame _ _ _ st2 fun c hc o e=>k2 c o (fun q=>z2 (q ▸ hc)) (fun q=>o2 (q ▸ hc)) (fun q=>x21 (q ▸ hc)) e) fun y h3 tk3 p2 st2' sb3=>wpAny_pure ?_)
 have hO3:IsPair h3 TO x b:=(sb3.2 TO (Ne.symm io2)).trans hO2
 show wpAny _ _ (seqItems? (.ref TO) >>= _) _ _ _
 refine wpAny_bind (wpAny_seqItems (s:={ s with heap:=h3,toks:=tk3 }) hO3 rfl ?_)
 show wpAny _ _ (updateSeq TO _ >>= _) _ _ _
 refine wpAny_bind (wpAny_updateSeq (s:={ s with heap:=h3,toks:=tk3 }) hO3 rfl ?_)
 obtain ⟨hO4,sb4⟩:=Vo hO3 y
 revert hO4 sb4
 show IsPair (h3.update TO (Obj.mapSeq fun q=>q.setIfInBounds 1 y)) TO x y->Heap.SameBut TO h3 (h3.update TO (Obj.mapSeq fun q=>q.setIfInBounds 1 y))->wpAny _ _ _ _ _ { s with heap:=h3.update TO (Obj.mapSeq fun q=>q.setIfInBounds 1 y),toks:=tk3 }
 generalize h3.update TO (Obj.mapSeq fun q=>q.setIfInBounds 1 y)=h4
 intro hO4 sb4
 refine wpAny_bind (wpAny_letGo (wpAny_pure ?_))
 show wpAny _ _ (forIn [] (none,()) _) _ _ _
 rw [List.forIn_nil]
 refine wpAny_pure ?_
 show wpAny _ _ (seqItems? (.ref TO) >>= _) _ _ _
 refine wpAny_bind (wpAny_seqItems (s:={ s with heap:=h4,toks:=tk3 }) hO4 rfl ?_)
 show wpAny _ _ (newTuple [x,y] >>= _) _ _ _
 refine wpAny_bind ?_
 simp only [newTuple]
 have k4:∀ c o,c ≠ z->c ≠ TO->c ≠ i1->c ≠ i2->s.heap.get? c=some o->h4.get? c=some o:=fun c o c1 c2 c3 c4 e=>(sb4.2 c c2).trans ((sb3.2 c c4).trans (k2 c o c1 c2 c3 e))
 have hz4:IsZip h4 z TI TO .ellipsis:=(sb4.2 z (Ne.symm oz)).trans ((sb3.2 z (Ne.symm iz2)).trans ((sb2.2 z (Ne.symm oz)).trans ((sb1.2 z (Ne.symm iz1)).trans hz0)))
 have s1':St1 (i+1) h4:=D1.frame _ _ _ st1' fun c hc o e=>(sb4.2 c (fun q=>o1 (q ▸ hc))).trans ((sb3.2 c (fun q=>x12 (q ▸ hc))).trans ((sb2.2 c (fun q=>o1 (q ▸ hc))).trans e))
 have s2':St2 (i+1) h4:=D2.frame _ _ _ st2' fun c hc o e=>(sb4.2 c (fun q=>o2 (q ▸ hc))).trans e
 have sz4:h4.objs.size=s.heap.objs.size:=by rw [sb4.1,sb3.1,sb2.1,sb1.1,sb0.1]
 refine wpAny_newObj_type ?_ (by size_fits)
 have hz5:IsZip (h4.push { cls:=.type "tuple",data:=.seq #[x,y] }) z TI TO .ellipsis:=Heap.get?_push_of_some _ hz4
 have hT5:IsPair (h4.push { cls:=.type "tuple",data:=.seq #[x,y] }) h4.objs.size x y:=Heap.get?_push_size _ rfl
 have sz5:(h4.push { cls:=.type "tuple",data:=.seq #[x,y] }).objs.size=h4.objs.size+1:=Heap.size_push ..
 have k5:∀ c o,h4.get? c=some o->(h4.push { cls:=.type "tuple",data:=.seq #[x,y] }).get? c=some o:=fun c o e=>Heap.get?_push_of_some _ e
 show wpAny _ _ _ _ _ { s with heap:=h4.push { cls:=.type "tuple",data:=.seq #[x,y] },toks:=tk3 }
 revert hz5 hT5 sz5 k5
 generalize h4.push { cls:=.type "tuple",data:=.seq #[x,y] } = h5
 intro hz5 hT5 sz5 k5
 show wpAny _ _ (Builtin.SmallTypes.ownedTupleHandOut (.ref z) (.ref h4.objs.size) >>= fun _=>pure (Fin.done (Flow.ret (.ref h4.objs.size)))) _ _ _
 rw [sz4] at hT5 sz5 ⊢
 refine wpAny_bind ?_
 show wpAny _ _ (setField (.ref z) 0 (rawInt s.heap.objs.size) >>= fun _=>setField (.ref z) 1 (.bool false)) _ _ _
 refine wpAny_bind (wpAny_setField (s:={ s with heap:=h5,toks:=tk3 }) hz5 rfl (by show 0 < 5; decide) ?_)
 obtain ⟨hz6,sb6⟩:=vW hz5 (rawInt s.heap.objs.size)
 obtain ⟨hz7,sb7⟩:=Vn hz6
 refine wpAny_setField hz6 rfl (by show 1 < 5; decide) (wpAny_pure ⟨_,rfl,?_⟩)
 have k7:∀ c o,c ≠ z->h4.get? c=some o->((h5.update z (Obj.mapFields fun x=>x.setIfInBounds 0 (rawInt s.heap.objs.size))).update z (Obj.mapFields fun x=>x.setIfInBounds 1 (.bool false))).get? c=some o:=fun c o c1 e=>(sb7.2 c c1).trans ((sb6.2 c c1).trans (k5 c o e))
 have nT:s.heap.objs.size ≠ z:=Nat.ne_of_gt (Heap.lt_size hz)
 exact hQ x y _ tk3 p1 p2 hz7 (k7 TI _ tz (k4 TI _ tz tO ti1 ti2 hI)) (k7 TO _ oz hO4) (D1.frame _ _ _ s1' fun c hc o e=>k7 c o (fun q=>z1 (q ▸ hc)) e) (D2.frame _ _ _ s2' fun c hc o e=>k7 c o (fun q=>z2 (q ▸ hc)) e) ((sb7.2 _ nT).trans ((sb6.2 _ nT).trans hT5)) (by rw [sb7.1,sb6.1,sz5]) fun c o c1 c2 c3 c4 e=>k7 c o c1 (k4 c o c1 c2 c3 c4 e)
theorem YF {z TI TO i1 i2:Addr} {fp1:List Addr} {n1:Nat} {P1:Nat->Value->Prop} {St1:Nat->Heap->Prop} {a b:Value} {Q:Fin->Shared->Prop}
  (D1:Draws prog w A i1 fp1 n1 P1 St1)
  (hz:IsZip s.heap z TI TO .none) (hI:IsPair s.heap TI (.ref i1) (.ref i2)) (hO:IsPair s.heap TO a b) (st1:St1 n1 s.heap)
  (z1:z ∉ fp1) (iz1:i1 ≠ z)
  (hE:∀ h' e tk,(∀ c o,c ≠ z->c ≠ TO->c ≠ i1->c ≠ i2->s.heap.get? c=some o->h'.get? c=some o)->(∃ o,h'.get? e=some o /\ o.cls = .type "StopIteration")->E (.ref e) { s with heap:=h',toks:=tk }) :
  wpAny (model prog w) A (Builtin.«zip.__next__» { pos:=[.ref z] }) Q E s:=by
 show wpAny _ _ (field (.ref z) 2 >>= _) _ _ s
 refine wpAny_bind (wpAny_field hz rfl (x:=.bool false) rfl ?_)
 show wpAny _ _ (field (.ref z) 3 >>= _) _ _ s
 refine wpAny_bind (wpAny_field hz rfl (x:=.ref TI) rfl ?_)
 show wpAny _ _ (seqItems? (.ref TI) >>= _) _ _ s
 refine wpAny_bind (wpAny_seqItems hI rfl ?_)
 show wpAny _ _ (Builtin.SmallTypes.ownedTupleIsFree (.ref z) >>= _) _ _ s
 refine wpAny_bind ?_
 unfold Builtin.SmallTypes.ownedTupleIsFree
 refine wpAny_bind (wpAny_field hz rfl (x:=.none) rfl (wpAny_pure ?_))
 show wpAny _ _ (rule _ >>= _) _ _ s
 refine wpAny_bind (wpAny_rule ?_)
 show wpAny _ _ (field (.ref z) 4 >>= _) _ _ s
 refine wpAny_bind (wpAny_field hz rfl (x:=.ref TO) rfl ?_)
 show wpAny _ _ (setField (.ref z) 0 .ellipsis >>= _) _ _ s
 refine wpAny_bind (wpAny_setField hz rfl (by show 0 < 5; decide) ?_)
 obtain ⟨hz0,sb0⟩:=vW hz .ellipsis
 revert hz0 sb0
 generalize s.heap.update z (Obj.mapFields fun x=>x.setIfInBounds 0 Value.ellipsis)=h0
 intro hz0 sb0
 have no:∀ b,b ≠ z -> ∀ o,s.heap.get? b=some o->h0.get? b=some o:=fun b hb o e=>(sb0.2 b hb).trans e
 refine wpAny_bind ?_
 show wpAny _ _ (forIn [(Value.ref i1,0),(Value.ref i2,1)] (none,()) _) _ _ _
 rw [List.forIn_cons]
 refine wpAny_bind (wpAny_bind (wpAny_onRaise ?_))
 show wpAny _ _ (Builtin.SmallTypes.nextOf (.ref i1) >>= fun x=>pure (some x)) _ _ _
 refine wpAny_bind (D1.done { s with heap:=h0 } _ _ (D1.frame _ _ _ st1 fun b hb o e=>no b (fun q=>z1 (q ▸ hb)) o e) fun h1 e xb hs=>?_)
 have hz1:IsZip h1 z TI TO .ellipsis:=xb z _ (Ne.symm iz1) hz0
 obtain ⟨hz2,sb2⟩:=vW hz1 .none
 refine wpAny_setField (s:={ s with heap:=h1 }) hz1 rfl (by show 0 < 5; decide) (hE _ e s.toks (fun c o c1 c2 c3 c4 q=>(sb2.2 c c1).trans (xb c o c3 (no c c1 o q))) ?_)
 obtain ⟨o,ho,hc⟩:=hs
 refine ⟨o,(sb2.2 e fun q=>?_).trans ho,hc⟩
 rw [q,hz1] at ho
 obtain rfl:=Option.some.inj ho
 exact absurd hc (by show ¬ (Value.type "zip" = Value.type "StopIteration"); decide)
theorem YG {z TI TO i1 i2:Addr} {fp1 fp2:List Addr} {n1 i:Nat} {P1 P2:Nat->Value->Prop} {St1 St2:Nat->Heap->Prop} {a b:Value} {Q:Fin->Shared->Prop}
  (D1:Draws prog w A i1 fp1 n1 P1 St1) (D2:Draws prog w A i2 fp2 i P2 St2)
  (hz:IsZip s.heap z TI TO .none) (hI:IsPair s.heap TI (.ref i1) (.ref i2)) (hO:IsPair s.heap TO a b) (st1:St1 i s.heap) (st2:St2 i s.heap) (l1:i < n1)
  (z1:z ∉ fp1) (z2:z ∉ fp2) (o2:TO ∉ fp2) (x21:i1 ∉ fp2) (iz1:i1 ≠ z) (iz2:i2 ≠ z) (io1:i1 ≠ TO) (oz:TO ≠ z)
  (hE:∀ h' e tk,(∀ c o,c ≠ z->c ≠ TO->c ≠ i1->c ≠ i2->s.heap.get? c=some o->h'.get? c=some o)->(∃ o,h'.get? e=some o /\ o.cls = .type "StopIteration")->E (.ref e) { s with heap:=h',toks:=tk }) :
  wpAny (model prog w) A (Builtin.«zip.__next__» { pos:=[.ref z] }) Q E s:=by
 show wpAny _ _ (field (.ref z) 2 >>= _) _ _ s
 refine wpAny_bind (wpAny_field hz rfl (x:=.bool false) rfl ?_)
 show wpAny _ _ (field (.ref z) 3 >>= _) _ _ s
 refine wpAny_bind (wpAny_field hz rfl (x:=.ref TI) rfl ?_)
 show wpAny _ _ (seqItems? (.ref TI) >>= _) _ _ s
 refine wpAny_bind (wpAny_seqItems hI rfl ?_)
 show wpAny _ _ (Builtin.SmallTypes.ownedTupleIsFree (.ref z) >>= _) _ _ s
 refine wpAny_bind ?_
 unfold Builtin.SmallTypes.ownedTupleIsFree
 refine wpAny_bind (wpAny_field hz rfl (x:=.none) rfl (wpAny_pure ?_))
 show wpAny _ _ (rule _ >>= _) _ _ s
 refine wpAny_bind (wpAny_rule ?_)
 show wpAny _ _ (field (.ref z) 4 >>= _) _ _ s
 refine wpAny_bind (wpAny_field hz rfl (x:=.ref TO) rfl ?_)
 show wpAny _ _ (setField (.ref z) 0 .ellipsis >>= _) _ _ s
 refine wpAny_bind (wpAny_setField hz rfl (by show 0 < 5; decide) ?_)
 obtain ⟨hz0,sb0⟩:=vW hz .ellipsis
 revert hz0 sb0
 generalize s.heap.update z (Obj.mapFields fun x=>x.setIfInBounds 0 Value.ellipsis)=h0
 intro hz0 sb0
 have no:∀ b,b ≠ z -> ∀ o,s.heap.get? b=some o->h0.get? b=some o:=fun b hb o e=>(sb0.2 b hb).trans e
 refine wpAny_bind ?_
 show wpAny _ _ (forIn [(Value.ref i1,0),(Value.ref i2,1)] (none,()) _) _ _ _
 rw [List.forIn_cons]
 refine wpAny_bind (wpAny_bind (wpAny_onRaise ?_))
 show wpAny _ _ (Builtin.SmallTypes.nextOf (.ref i1) >>= fun x=>pure (some x)) _ _ _
 refine wpAny_bind (D1.item i { s with heap:=h0 } _ _ l1 (D1.frame _ _ _ st1 fun b hb o e=>no b (fun q=>z1 (q ▸ hb)) o e) fun x h1 tk1 p1 st1' sb1=>wpAny_pure ?_)
 have hO1:IsPair h1 TO a b:=(sb1.2 TO (Ne.symm io1)).trans (no TO oz _ hO)
 show wpAny _ _ (seqItems? (.ref TO) >>= _) _ _ _
 refine wpAny_bind (wpAny_seqItems (s:={ s with heap:=h1,toks:=tk1 }) hO1 rfl ?_)
 show wpAny _ _ (updateSeq TO _ >>= _) _ _ _
 refine wpAny_bind (wpAny_updateSeq (s:={ s with heap:=h1,toks:=tk1 }) hO1 rfl ?_)
 obtain ⟨hO2,sb2⟩:=XC hO1 x
 revert hO2 sb2
 show IsPair (h1.update TO (Obj.mapSeq fun q=>q.setIfInBounds 0 x)) TO x b->Heap.SameBut TO h1 (h1.update TO (Obj.mapSeq fun q=>q.setIfInBounds 0 x))->wpAny _ _ _ _ _ { s with heap:=h1.update TO (Obj.mapSeq fun q=>q.setIfInBounds 0 x),toks:=tk1 }
 generalize h1.update TO (Obj.mapSeq fun q=>q.setIfInBounds 0 x)=h2
 intro hO2 sb2
 refine wpAny_bind (wpAny_letGo (wpAny_pure ?_))
 show wpAny _ _ (forIn [(Value.ref i2,1)] (none,()) _) _ _ _
 rw [List.forIn_cons]
 refine wpAny_bind (wpAny_bind (wpAny_onRaise ?_))
 show wpAny _ _ (Builtin.SmallTypes.nextOf (.ref i2) >>= fun x=>pure (some x)) _ _ _
 have k2:∀ c o,c ≠ z->c ≠ TO->c ≠ i1->s.heap.get? c=some o->h2.get? c=some o:=fun c o c1 c2 c3 e=>(sb2.2 c c2).trans ((sb1.2 c c3).trans (no c c1 o e))
 have hz2:IsZip h2 z TI TO .ellipsis:=(sb2.2 z (Ne.symm oz)).trans ((sb1.2 z (Ne.symm iz1)).trans hz0)
 refine wpAny_bind (D2.done { s with heap:=h2,toks:=tk1 } _ _ (D2.frame _ _ _ st2 fun c hc o e=>k2 c o (fun q=>z2 (q ▸ hc)) (fun q=>o2 (q ▸ hc)) (fun q=>x21 (q ▸ hc)) e) fun h3 e xb hs=>?_)
 have hz3:IsZip h3 z TI TO .ellipsis:=xb z _ (Ne.symm iz2) hz2
 obtain ⟨hz4,sb4⟩:=vW hz3 .none
 refine wpAny_setField (s:={ s with heap:=h3,toks:=tk1 }) hz3 rfl (by show 0 < 5; decide) (hE _ e tk1 (fun c o c1 c2 c3 c4 q=>(sb4.2 c c1).trans (xb c o c4 (k2 c o c1 c2 c3 q))) ?_)
 obtain ⟨o,ho,hc⟩:=hs
 refine ⟨o,(sb4.2 e fun q=>?_).trans ho,hc⟩
 rw [q,hz3] at ho
 obtain rfl:=Option.some.inj ho
 exact absurd hc (by show ¬ (Value.type "zip" = Value.type "StopIteration"); decide)
end
section
variable {prog:Program} {w:World} {A:Around} {E:Tn} {s:Shared}
theorem Ze {e:Addr} {Q:Option Value->Shared->Prop} (h:∃ o,s.heap.get? e=some o /\ o.cls = .type "StopIteration") (q:Q none s) :
  wpAny (model prog w) A (do if ← isInstance (.ref e) (.type "StopIteration") then pure none else throw (.ref e):Sem (Option Value)) Q E s:=by
 refine wpAny_bind (wpAny_isInstance (T:="StopIteration") (b:=true) h (by first | rfl | decide) ?_)
 rw [if_pos rfl]
 exact wpAny_pure q
theorem XD {z TI TO:Addr} {f0:Value} (hz:IsZip s.heap z TI TO f0):s.TypeIs (.ref z) "zip":=⟨_,hz,rfl⟩
theorem Zf {z TI TO:Addr} {f0:Value} {Q:Option Value->Shared->Prop} (hz:IsZip s.heap z TI TO f0)
  (h:wpAny (model prog w) A.in1 (Builtin.«zip.__next__» { pos:=[.ref z] }) (fun fin s'=>∃ v,fin=Fin.done (Flow.ret v) /\ Q (some v) s')
   (fun e s'=>∃ a,e = .ref a /\ (∃ o,s'.heap.get? a=some o /\ o.cls = .type "StopIteration") /\ Q none s') s):wpAny (model prog w) A (pyNext (.ref z)) Q E s:=by
 unfold pyNext
 refine wpAny_bind (wpAny_attempt (wpAny_callSpecial?_slot (name:=Str.ofString "__next__") (XD hz) F.slot_zip_next (wpAny_call_entry F.slot_zip_next (XD hz) F.entry_zip_next (wpAny_mono h (fun fin s' hq=>?_) (fun e s' hq=>?_)) (F.args_zip_next_1 _))))
 ·obtain ⟨v,rfl,q⟩:=hq
  exact ⟨v,rfl,wpAny_pure q⟩
 ·obtain ⟨a,rfl,ho,q⟩:=hq
  exact Ze ho q
def xq (h:Heap) (a:Addr) (cn:String) (vs:Array Value):Prop:=(cn = "tuple_iterator" /\ h.IsTuple a vs) \/ (cn = "list_iterator" /\ h.IsList a vs)
theorem xq.iter {a:Addr} {cn:String} {vs:Array Value} {Q:Tn} (h:xq s.heap a cn vs)
  (q:Q (.ref s.heap.objs.size) { s with heap:=s.heap.push { cls:=.type cn,data:=.fields #[.ref a,.int 0 0] } }):wpAny (model prog w) A (pyIter (.ref a)) Q E s:=by
 rcases h with ⟨rfl,h⟩ | ⟨rfl,h⟩
 ·exact wpAny_pyIter_tuple h q
 ·exact wpAny_pyIter_list h q
theorem xq.push {h:Heap} {a:Addr} {cn:String} {vs:Array Value} (x:xq h a cn vs) (o:Obj):xq (h.push o) a cn vs:=by
 rcases x with ⟨rfl,x⟩ | ⟨rfl,x⟩
 ·exact .inl ⟨rfl,x.push o⟩
 ·exact .inr ⟨rfl,x.push o⟩
def Ss (c:String) (a:Addr):Obj:={ cls:=.type c,data:=.fields #[.ref a,.int 0 0] }
def Su (a b:Value):Obj:={ cls:=.type "tuple",data:=.seq #[a,b] }
def Sv (TI TO:Addr):Obj:={ cls:=.type "zip",data:=.fields #[.none,.bool false,.bool false,.ref TI,.ref TO] }
def Sw (h:Heap) (c1:String) (a:Addr) (c2:String) (b:Addr):Addr :=
 let h1:=h.push (Ss c1 a)
 let h2:=h1.push (Ss c2 b)
 let h3:=h2.push (Su (.ref h.objs.size) (.ref h1.objs.size))
 (h3.push (Su .none .none)).objs.size
def Sx (h:Heap) (c1:String) (a:Addr) (c2:String) (b:Addr):Heap :=
 let h1:=h.push (Ss c1 a)
 let h2:=h1.push (Ss c2 b)
 let h3:=h2.push (Su (.ref h.objs.size) (.ref h1.objs.size))
 let h4:=h3.push (Su .none .none)
 h4.push (Sv h2.objs.size h3.objs.size)
theorem Wi (a b:Addr) (c1 c2:String) (xs ys:Array Value) :
  Meets (Builtin.«zip.__new__» ⟨[.type "zip",.ref a,.ref b],[]⟩) (fun _ R s=>xq s.heap a c1 xs /\ xq s.heap b c2 ys ∧
   R (.ok (.ret (.ref (Sw s.heap c1 a c2 b)))) { s with heap:=Sx s.heap c1 a c2 b }) :=
 .of_wp fun prog w A R s h=>by
  obtain ⟨hp,g,d,tk,os⟩:=s; obtain ⟨h1,h2,h⟩:=h
  have hsub:=sub_zip
  have h2':xq (Shared.heap ⟨hp.push { cls:=.type c1,data:=.fields #[.ref a,.int 0 0] },g,d,tk,os⟩) b c2 ys:=h2.push _
  wp_walk using xq.iter h1,xq.iter h2'
  exact ⟨_,rfl,h⟩
theorem Zg {a b:Addr} {c1 c2:String} {xs ys:Array Value} {Q:Tn} (ha:xq s.heap a c1 xs) (hb:xq s.heap b c2 ys)
  (h:∀ h',IsZip h' (s.heap.objs.size+4) (s.heap.objs.size+2) (s.heap.objs.size+3) .none->IsPair h' (s.heap.objs.size+2) (.ref s.heap.objs.size) (.ref (s.heap.objs.size+1))->IsPair h' (s.heap.objs.size+3) .none .none →
   h'.get? s.heap.objs.size=some (Ss c1 a)->h'.get? (s.heap.objs.size+1)=some (Ss c2 b)->(∀ c o,s.heap.get? c=some o->h'.get? c=some o)->Q (.ref (s.heap.objs.size+4)) { s with heap:=h' }) :
  wpAny (model prog w) A (call (.type "zip") [.ref a,.ref b]) Q E s:=by
 refine callType_new F.called_zip (by decide) (F.typeCall_zip_2 _ _) (F.newCall_zip_2 _ _) (fun obj=>F.args_object_init_3 obj _ _) F.entry_zip_new (Wi a b c1 c2 xs ys) ⟨ha,hb,?_⟩
 have gs:∀ (h:Heap) (o:Obj) (m:Nat),o.isFreed=false->h.objs.size=m->(h.push o).get? m=some o /\ (h.push o).objs.size=m+1:=fun h o m f e=>by
  subst e; exact ⟨Heap.get?_push_size _ f,Heap.size_push ..⟩
 obtain ⟨e1,z1⟩:=gs s.heap (Ss c1 a) _ rfl rfl
 obtain ⟨e2,z2⟩:=gs (s.heap.push (Ss c1 a)) (Ss c2 b) _ rfl z1
 obtain ⟨e3,z3⟩:=gs ((s.heap.push (Ss c1 a)).push (Ss c2 b)) (Su (.ref s.heap.objs.size) (.ref (s.heap.push (Ss c1 a)).objs.size)) _ rfl z2
 obtain ⟨e4,z4⟩:=gs (((s.heap.push (Ss c1 a)).push (Ss c2 b)).push (Su (.ref s.heap.objs.size) (.ref (s.heap.push (Ss c1 a)).objs.size))) (Su .none .none) _ rfl z3
 obtain ⟨e5,z5⟩:=gs ((((s.heap.push (Ss c1 a)).push (Ss c2 b)).push (Su (.ref s.heap.objs.size) (.ref (s.heap.push (Ss c1 a)).objs.size))).push (Su .none .none)) (Sv ((s.heap.push (Ss c1 a)).push (Ss c2 b)).objs.size (((s.heap.push (Ss c1 a)).push (Ss c2 b)).push (Su (.ref s.heap.objs.size) (.ref (s.heap.push (Ss c1 a)).objs.size))).objs.size) _ rfl z4
 have eN:Sw s.heap c1 a c2 b=s.heap.objs.size+4:=z4
 have ps:∀ (h:Heap) (o:Obj) (c:Addr) (q:Obj),h.get? c=some q->(h.push o).get? c=some q:=fun h o c q e=>Heap.get?_push_of_some _ e
 have f5:(Sx s.heap c1 a c2 b).get? (s.heap.objs.size+4)=some (Sv (s.heap.objs.size+2) (s.heap.objs.size+3)):=by
  have:=e5
  rw [z2,z3] at this
  unfold Sx
  dsimp only
  rw [z2,z3]
  exact this
 have f3:(Sx s.heap c1 a c2 b).get? (s.heap.objs.size+2)=some (Su (.ref s.heap.objs.size) (.ref (s.heap.objs.size+1))):=by
  have:=ps _ (Sv ((s.heap.push (Ss c1 a)).push (Ss c2 b)).objs.size (((s.heap.push (Ss c1 a)).push (Ss c2 b)).push (Su (.ref s.heap.objs.size) (.ref (s.heap.push (Ss c1 a)).objs.size))).objs.size) _ _ (ps _ (Su .none .none) _ _ e3)
  unfold Sx
  dsimp only
  exact this.trans (by rw [z1])
 have f4:(Sx s.heap c1 a c2 b).get? (s.heap.objs.size+3)=some (Su .none .none):=ps _ _ _ _ e4
 have f1:(Sx s.heap c1 a c2 b).get? s.heap.objs.size=some (Ss c1 a):=ps _ _ _ _ (ps _ _ _ _ (ps _ _ _ _ (ps _ _ _ _ e1)))
 have f2:(Sx s.heap c1 a c2 b).get? (s.heap.objs.size+1)=some (Ss c2 b):=ps _ _ _ _ (ps _ _ _ _ (ps _ _ _ _ e2))
 have fk:∀ c o,s.heap.get? c=some o->(Sx s.heap c1 a c2 b).get? c=some o:=fun c o e=>ps _ _ _ _ (ps _ _ _ _ (ps _ _ _ _ (ps _ _ _ _ (ps _ _ _ _ e))))
 show _ /\ _
 rw [eN]
 exact ⟨⟨_,f5,rfl⟩,h _ f5 f3 f4 f1 f2 fk⟩
end
def Sy (c:Bool) (K:Tl) (H:Hp) (a:Addr) (xs:List V):Prop:=match c with
 | true=>TC K H a xs
 | false=>TB K H a xs
def wa (c:Bool) (h:Heap) (j a:Addr) (i:Nat):Prop:=match c with
 | true=>h.IsTupleIter j a i
 | false=>h.IsListIter j a i
def YH (c:Bool) (h:Heap) (a:Addr) (vs:Array Value):Prop:=match c with
 | true=>h.IsTuple a vs
 | false=>h.IsList a vs
def Sz (c:Bool):String:=match c with
 | true=>"tuple_iterator"
 | false=>"list_iterator"
theorem wa.at {c:Bool} {h h':Heap} {j a:Addr} {i:Nat} (x:wa c h j a i) (k:∀ o,h.get? j=some o->h'.get? j=some o):wa c h' j a i:=by
 cases c
 ·exact Heap.IsListIter.at x k
 ·exact Heap.IsTupleIter.at x k
theorem wa.obj {c:Bool} {h:Heap} {j a:Addr} {i:Nat} (x:wa c h j a i):∃ o,h.get? j=some o /\ ∀ v,o.data ≠ .cell v:=by
 cases c
 ·obtain ⟨o,e,_,d⟩:=x
  exact ⟨o,e,fun v z=>by rw [d] at z; cases z⟩
 ·obtain ⟨o,e,_,d⟩:=x
  exact ⟨o,e,fun v z=>by rw [d] at z; cases z⟩
theorem wa.mk {c:Bool} {h:Heap} {j a:Addr} (e:h.get? j=some (Ss (Sz c) a)):wa c h j a 0:=by
 cases c
 ·exact ⟨_,e,rfl,rfl⟩
 ·exact ⟨_,e,rfl,rfl⟩
theorem YH.src {c:Bool} {h:Heap} {a:Addr} {vs:Array Value} (x:YH c h a vs):xq h a (Sz c) vs:=by
 cases c
 ·exact .inr ⟨rfl,x⟩
 ·exact .inl ⟨rfl,x⟩
theorem YH.lt {c:Bool} {h:Heap} {a:Addr} {vs:Array Value} (x:YH c h a vs):a < h.objs.size:=by
 cases c
 ·obtain ⟨_,e,_⟩:=(show h.IsList a vs from x); exact Heap.lt_size e
 ·obtain ⟨_,e,_⟩:=(show h.IsTuple a vs from x); exact Heap.lt_size e
theorem rS {prog:Program} {w:World} {A:Around} (hh:A.handled=none) (c:Bool) (j t:Addr) (hne:t ≠ j) (vs:Array Value) :
  Draws prog w A j [j,t] vs.size (fun i v=>vs[i]? = some v) (fun i h=>wa c h j t i /\ YH c h t vs):=by
 cases c
 ·exact Draws.list hh j t hne vs
 ·exact j8 hh j t hne vs
theorem qR {prog:Program} {w:World} {A:Around} (hh:A.handled=none) (jt t:Addr) (vs:Array Value) {i:Nat} (hv:vs[i]? = none) :
  Draws prog w A jt [jt,t] i (fun _ _=>True) (fun j h=>j=i /\ h.IsListIter jt t i /\ h.IsList t vs) where
 live:=fun _ _ st=>let ⟨o,ho,_⟩:=st.2.1; ⟨o,ho⟩
 frame:=fun _ _ _ st hk=>⟨st.1,st.2.1.at (hk jt (by simp)),st.2.2.at (hk t (by simp))⟩
 item:=fun j s Q E hj st hQ=>absurd st.1 (Nat.ne_of_lt hj)
 done:=fun s Q E st hE=>wpAny_nextOf_list_end hh st.2.1 st.2.2 hv hE
theorem wc {prog:Program} {w:World} {A:Around} (hh:A.handled=none) (c:Bool) (j t:Addr) (vs:Array Value) {i:Nat} (hv:vs[i]? = none) :
  Draws prog w A j [j,t] i (fun _ _=>True) (fun k h=>k=i /\ wa c h j t i /\ YH c h t vs):=by
 cases c
 ·exact qR hh j t vs hv
 ·exact j9 hh j t vs hv
theorem ym {X:Cx} {pins:List (Addr × Obj)} {σ:L2.St} {H:Hp} {s:Shared} {c:Bool} {a:Addr} {xs:List V} (I:Inv X pins σ H s) (h:Sy c X.K H a xs):∃ its:List Value,zC xs its /\ YH c s.heap a its.toArray:=by
 cases c
 ·obtain ⟨its,r,p,_⟩:=I.list h
  exact ⟨its,r,p.isList⟩
 ·obtain ⟨its,r,p,_⟩:=I.tuple h
  exact ⟨its,r,p⟩
theorem yZ {X:Cx} {pins:List (Addr × Obj)} {σ:L2.St} {H:Hp} {s:Shared} {c:Bool} {a:Addr} {xs ys:List V} (I:Inv X pins σ H s) (h:Sy c X.K H a xs) (h':Sy c X.K H a ys):xs=ys:=by
 cases c
 ·exact I.list_inj h h'
 ·exact I.tuple_inj h h'
theorem SA {i j:Nat} (h:i ≠ j):i ≠ j:=h
theorem Zh {z j t:Nat} (h1:z ≠ j) (h2:z ≠ t):z ∉ ([j,t]:List Nat):=by simp [h1,h2]
def SB (K:Tl) (c:Bool) (a:Addr) (d:Bool) (b:Addr):It :=
  ⟨fun i H=>∃ xs ys x y,Sy c K H a xs /\ Sy d K H b ys /\ xs[i]? = some x /\ ys[i]? = some y,
   fun i H x H'=>∃ T v w,H T=none /\ x = .ref T /\ H' = Tp H T (.tup [v,w]) /\ (∀ xs,Sy c K H a xs->xs[i]? = some v) /\ ∀ ys,Sy d K H b ys->ys[i]? = some w,
   fun i H=>∃ xs ys,Sy c K H a xs /\ Sy d K H b ys /\ (xs.length<=i \/ ys.length<=i)⟩
def Vp (c d:Bool) (z TI TO i1 i2 a b:Addr) (i:Nat) (h:Heap):Prop :=
 IsZip h z TI TO .none /\ IsPair h TI (.ref i1) (.ref i2) /\ (∃ u v,IsPair h TO u v) /\ wa c h i1 a i /\ wa d h i2 b i
theorem SC {n:Nat} (i j:Nat) (h:i ≠ j):n+i ≠ n+j:=fun z=>h (Nat.add_left_cancel z)
theorem zM {n:Nat} (i:Nat) (h:i ≠ 0):n+i ≠ n:=fun z=>h (Nat.add_left_cancel (z.trans (Nat.add_zero n).symm))
theorem YI {P:Program} {w:World} {K:Tl} {elts:List Expr} {kt:Nat} {pt:Pos} (c d:Bool) (a b n:Nat) (ha:a < n) (hb:b < n) :
  Turn P w K (.Tuple elts kt pt) (SB K c a d b) [n+4,n+3,n+2,n+1,n] (n+4) (Vp c d (n+4) (n+2) (n+3) n (n+1) a b) where
 mem:=by simp
 obj:=fun i h st q hq=>by
  obtain ⟨hz,hI,⟨u,v,hO⟩,s1,s2⟩:=st
  simp only [List.mem_cons,List.mem_nil_iff,or_false] at hq
  rcases hq with rfl | rfl | rfl | rfl | rfl
  ·exact ⟨_,hz,fun v z=>by cases z⟩
  ·exact ⟨_,hO,fun v z=>by cases z⟩
  ·exact ⟨_,hI,fun v z=>by cases z⟩
  ·exact s2.obj
  ·exact s1.obj
 keep:=fun i h h' st k=>by
  obtain ⟨hz,hI,⟨u,v,hO⟩,s1,s2⟩:=st
  exact ⟨k _ (by simp) _ hz,k _ (by simp) _ hI,⟨u,v,k _ (by simp) _ hO⟩,s1.at (k _ (by simp)),s2.at (k _ (by simp))⟩
 item:=by
  intro X hP hw hK hc i pins s σ H E I hf st hg
  subst hP hw hK
  obtain ⟨hz,hI,⟨u0,v0,hO⟩,s1,s2⟩:=st
  obtain ⟨xs,ys,x,y,hqa,hqb,hx,hy⟩:=hg
  obtain ⟨ia,ra,pa⟩:=ym I hqa
  obtain ⟨ib,rb,pb⟩:=ym I hqb
  obtain ⟨u,hu,ru⟩:=ra.get hx
  obtain ⟨v,hv,rv⟩:=rb.get hy
  have l1:i < ia.toArray.size:=by have:=(List.getElem?_eq_some_iff.mp hu).1; simpa using this
  have l2:i < ib.toArray.size:=by have:=(List.getElem?_eq_some_iff.mp hv).1; simpa using this
  have an:a ≠ n:=Nat.ne_of_lt ha
  have bn:b ≠ n+1:=by omega
  refine Zf hz (wpAny_mono (Zd (A:=X.A.in1) (Q:=fun v s1=>∃ u,some v=some u /\ wpAny (model X.prog X.w) X.A (letOwnedTupleGo (.Tuple elts kt pt) (.ref (n+4)) u) (fun _ s2=>∃ x H',Inv X pins σ H' s2 /\ zJ x u /\ (SB X.K c a d b).yld i H x H' /\ Vp c d (n+4) (n+2) (n+3) n (n+1) a b (i+1) s2.heap /\ ∀ b ∈ [n+4,n+3,n+2,n+1,n],H' b=none) E s1) (rS (A:=X.A.in1) (I.ok.hd hc) c n a an ia.toArray) (rS (A:=X.A.in1) (I.ok.hd hc) d (n+1) b bn ib.toArray) hz hI hO ⟨s1,pa⟩ ⟨s2,pb⟩ l1 l2
   (Zh (by first | exact SC _ _ (by decide) | exact zM _ (by decide) | exact (zM _ (by decide)).symm | omega) (by first | exact SC _ _ (by decide) | exact zM _ (by decide) | exact (zM _ (by decide)).symm | omega)) (Zh (by first | exact SC _ _ (by decide) | exact zM _ (by decide) | exact (zM _ (by decide)).symm | omega) (by first | exact SC _ _ (by decide) | exact zM _ (by decide) | exact (zM _ (by decide)).symm | omega)) (Zh (by first | exact SC _ _ (by decide) | exact zM _ (by decide) | exact (zM _ (by decide)).symm | omega) (by first | exact SC _ _ (by decide) | exact zM _ (by decide) | exact (zM _ (by decide)).symm | omega)) (Zh (by first | exact SC _ _ (by decide) | exact zM _ (by decide) | exact (zM _ (by decide)).symm | omega) (by first | exact SC _ _ (by decide) | exact zM _ (by decide) | exact (zM _ (by decide)).symm | omega)) (Zh (by first | exact SC _ _ (by decide) | exact zM _ (by decide) | exact (zM _ (by decide)).symm | omega) (by first | exact SC _ _ (by decide) | exact zM _ (by decide) | exact (zM _ (by decide)).symm | omega)) (Zh (by first | exact SC _ _ (by decide) | exact zM _ (by decide) | exact (zM _ (by decide)).symm | omega) (by first | exact SC _ _ (by decide) | exact zM _ (by decide) | exact (zM _ (by decide)).symm | omega)) (SA (by first | exact SC _ _ (by decide) | exact zM _ (by decide) | exact (zM _ (by decide)).symm | omega)) (SA (by first | exact SC _ _ (by decide) | exact zM _ (by decide) | exact (zM _ (by decide)).symm | omega)) (SA (by first | exact SC _ _ (by decide) | exact zM _ (by decide) | exact (zM _ (by decide)).symm | omega)) (SA (by first | exact SC _ _ (by decide) | exact zM _ (by decide) | exact (zM _ (by decide)).symm | omega)) (SA (by first | exact SC _ _ (by decide) | exact zM _ (by decide) | exact (zM _ (by decide)).symm | omega)) (SA (by first | exact SC _ _ (by decide) | exact zM _ (by decide) | exact (zM _ (by decide)).symm | omega)) (SA (by first | exact SC _ _ (by decide) | exact zM _ (by decide) | exact (zM _ (by decide)).symm | omega)) (SA (by first | exact SC _ _ (by decide) | exact zM _ (by decide) | exact (zM _ (by decide)).symm | omega)) (SA (by first | exact SC _ _ (by decide) | exact zM _ (by decide) | exact (zM _ (by decide)).symm | omega)) ?_) (fun fin s' hq=>hq) (fun e s' (hq:False)=>hq.elim))
  intro p q h1 tk hp hq hz1 hI1 hO1 st1 st2 hT hsz hk
  have ep:p=u:=by
   have e1:ia.toArray[i]? = some p:=hp
   have e2:ia.toArray[i]? = some u:=by simpa using hu
   rw [e1] at e2; exact Option.some.inj e2
  have eq':q=v:=by
   have e1:ib.toArray[i]? = some q:=hq
   have e2:ib.toArray[i]? = some v:=by simpa using hv
   rw [e1] at e2; exact Option.some.inj e2
  subst ep eq'
  refine ⟨_,rfl,wpAny_letOwnedTupleGo_zip (s:={ s with heap:=h1,toks:=tk }) hz1 fun h2 hz2 hs2=>?_⟩
  have hk2:∀ b o,b ∉ [n+4,n+3,n+2,n+1,n]->s.heap.get? b=some o->h2.get? b=some o:=fun b o hb q=>by
   have n1:b ≠ n+4:=fun z=>hb (by simp [z])
   have n2:b ≠ n+3:=fun z=>hb (by simp [z])
   have n3:b ≠ n+1:=fun z=>hb (by simp [z])
   have n4:b ≠ n:=fun z=>hb (by simp [z])
   exact (hs2.2 b n1).trans (hk b o n1 n2 n4 n3 q)
  have zs:n+4 < s.heap.objs.size:=Heap.lt_size hz
  have hT2:h2.get? s.heap.objs.size=some { cls:=.type "tuple",data:=.seq #[p,q] }:=(hs2.2 _ (Nat.ne_of_gt zs)).trans hT
  have hn:H s.heap.objs.size=none:=I.hok.fresh (Nat.le_refl _)
  have I2:Inv X pins σ (Tp H s.heap.objs.size (.tup [x,y])) { s with heap:=h2,toks:=tk }:=rR (s:=s) I hk2 hf (Nat.le_refl _) ⟨by show 2<=sizeLine; decide,[p,q],.cons ru (.cons rv .nil),_,hT2,rfl,0,rfl⟩
  refine ⟨.ref s.heap.objs.size,Tp H s.heap.objs.size (.tup [x,y]),I2,rfl,⟨_,x,y,hn,rfl,rfl,fun zs hz=>by rw [yZ I hz hqa]; exact hx,fun zs hz=>by rw [yZ I hz hqb]; exact hy⟩,⟨hz2,(hs2.2 _ (SA (by first | exact SC _ _ (by decide) | exact zM _ (by decide) | exact (zM _ (by decide)).symm | omega))).trans hI1,⟨p,q,(hs2.2 _ (SA (by first | exact SC _ _ (by decide) | exact zM _ (by decide) | exact (zM _ (by decide)).symm | omega))).trans hO1⟩,st1.1.at fun o e=>(hs2.2 _ (SA (by first | exact SC _ _ (by decide) | exact zM _ (by decide) | exact (zM _ (by decide)).symm | omega))).trans e,st2.1.at fun o e=>(hs2.2 _ (SA (by first | exact SC _ _ (by decide) | exact zM _ (by decide) | exact (zM _ (by decide)).symm | omega))).trans e⟩,fun q hq=>?_⟩
  have nb:q ≠ s.heap.objs.size:=by
   simp only [List.mem_cons,List.mem_nil_iff,or_false] at hq
   omega
  rw [zj nb]; exact (hf q hq).1
 done:=by
  intro X hP hw hK hc i pins s σ H E I hf st hg
  subst hP hw hK
  obtain ⟨hz,hI,⟨u0,v0,hO⟩,s1,s2⟩:=st
  obtain ⟨xs,ys,hqa,hqb,hl⟩:=hg
  obtain ⟨ia,ra,pa⟩:=ym I hqa
  obtain ⟨ib,rb,pb⟩:=ym I hqb
  have la:=ra.length
  have lb:=rb.length
  have an:a ≠ n:=Nat.ne_of_lt ha
  have fin:∀ (h':Heap) (e:Addr) (tk:Nat),(∀ c o,c ≠ n+4->c ≠ n+3->c ≠ n->c ≠ n+1->s.heap.get? c=some o->h'.get? c=some o)->Inv X pins σ H { s with heap:=h',toks:=tk }:=fun h' e tk k =>
   sC (fp:=[n+4,n+3,n+2,n+1,n]) I (fun b o hb q=>k b o (fun z=>hb (by simp [z])) (fun z=>hb (by simp [z])) (fun z=>hb (by simp [z])) (fun z=>hb (by simp [z])) q) hf
  by_cases h1:xs.length<=i
  ·refine Zf hz (YF (A:=X.A.in1) (wc (A:=X.A.in1) (I.ok.hd hc) c n a ia.toArray (i:=i) (by simp; omega)) hz hI hO ⟨rfl,s1,pa⟩ (Zh (by first | exact SC _ _ (by decide) | exact zM _ (by decide) | exact (zM _ (by decide)).symm | omega) (by first | exact SC _ _ (by decide) | exact zM _ (by decide) | exact (zM _ (by decide)).symm | omega)) (SA (by first | exact SC _ _ (by decide) | exact zM _ (by decide) | exact (zM _ (by decide)).symm | omega)) fun h' e tk k ho=>⟨e,rfl,ho,rfl,fin h' e tk k⟩)
  ·have h2:ys.length<=i:=by omega
   refine Zf hz (YG (A:=X.A.in1) (rS (A:=X.A.in1) (I.ok.hd hc) c n a an ia.toArray) (wc (A:=X.A.in1) (I.ok.hd hc) d (n+1) b ib.toArray (i:=i) (by simp; omega)) hz hI hO ⟨s1,pa⟩ ⟨rfl,s2,pb⟩ (by simp; omega) (Zh (by first | exact SC _ _ (by decide) | exact zM _ (by decide) | exact (zM _ (by decide)).symm | omega) (by first | exact SC _ _ (by decide) | exact zM _ (by decide) | exact (zM _ (by decide)).symm | omega)) (Zh (by first | exact SC _ _ (by decide) | exact zM _ (by decide) | exact (zM _ (by decide)).symm | omega) (by first | exact SC _ _ (by decide) | exact zM _ (by decide) | exact (zM _ (by decide)).symm | omega)) (Zh (by first | exact SC _ _ (by decide) | exact zM _ (by decide) | exact (zM _ (by decide)).symm | omega) (by first | exact SC _ _ (by decide) | exact zM _ (by decide) | exact (zM _ (by decide)).symm | omega)) (Zh (by first | exact SC _ _ (by decide) | exact zM _ (by decide) | exact (zM _ (by decide)).symm | omega) (by first | exact SC _ _ (by decide) | exact zM _ (by decide) | exact (zM _ (by decide)).symm | omega)) (SA (by first | exact SC _ _ (by decide) | exact zM _ (by decide) | exact (zM _ (by decide)).symm | omega)) (SA (by first | exact SC _ _ (by decide) | exact zM _ (by decide) | exact (zM _ (by decide)).symm | omega)) (SA (by first | exact SC _ _ (by decide) | exact zM _ (by decide) | exact (zM _ (by decide)).symm | omega)) (SA (by first | exact SC _ _ (by decide) | exact zM _ (by decide) | exact (zM _ (by decide)).symm | omega)) fun h' e tk k ho=>⟨e,rfl,ho,rfl,fin h' e tk k⟩)
 self:=fun _ _ _ _ _ st h=>wpAny_pyIter_zip st.1 h
section
variable {X:Cx} {elts:List Expr} {kt:Nat} {pt:Pos}
theorem Ul:bootBuiltins "zip" = some (.type "zip"):=by decide +kernel
def Te (K:Tl) (ta:TA):TI:=fun σ H R=>ta σ H fun vs H1=>∃ (c d:Bool) (a b:Addr),vs=[.ref a,.ref b] /\ (∃ xs,Sy c K H1 a xs) /\ (∃ ys,Sy d K H1 b ys) /\ R (SB K c a d b) H1
end
section
variable {X:Cx} {elts:List Expr} {kt:Nat} {pt:Pos} {K:Tl}
theorem Vq {a b:Expr} {ta:TA} {p pos:Pos} (hK:X.K=K) (hg:Gl X "zip") (hm:X.mg "zip" = none) (ha:PA X [a,b] ta) (hs:starEach [a,b] X.env=[(false,eval a X.env),(false,eval b X.env)]:=by rfl) (hs2:starEach [b] X.env=[(false,eval b X.env)]:=by rfl) :
  PI X (.Tuple elts kt pt) (.Call (.Name "zip" p) [a,b] [] pos) (Te K ta):=by
 subst hK
 intro pins s σ H R I h
 refine Call_ (xN I hg hm Ul (PyProof.Rows.callWith_type1 (Tx (ha pos pins s σ H _ I h) fun us s1 ⟨vs,H1,I1,r1,q1⟩=>?_) (by rw [hs,hs2]) (by rw [hs2]; rfl)))
 obtain ⟨c,d,ra,rb,e,⟨xs,hqa⟩,⟨ys,hqb⟩,q⟩:=q1
 subst e
 obtain ⟨u,w',rfl,e1,e2⟩:=qJ r1
 cases (show u=Value.ref ra from e1)
 cases (show w' = Value.ref rb from e2)
 obtain ⟨ia,va,pa⟩:=ym I1 hqa
 obtain ⟨ib,vb,pb⟩:=ym I1 hqb
 refine Zg pa.src pb.src fun h' hz hI hO h1 h2 hk=>?_
 refine wpAny_pyIter_zip (s:={ s1 with heap:=h' }) hz ?_
 have I2:Inv X pins σ H1 { s1 with heap:=h' }:=I1.kept (t':=s1.toks) hk
 refine ⟨s1.heap.objs.size+4,[s1.heap.objs.size+4,s1.heap.objs.size+3,s1.heap.objs.size+2,s1.heap.objs.size+1,s1.heap.objs.size],_,_,H1,rfl,I2,YI c d ra rb s1.heap.objs.size pa.lt pb.lt,⟨hz,hI,⟨_,_,hO⟩,.mk h1,.mk h2⟩,fun b hb=>?_,q⟩
 have hle:s1.heap.objs.size<=b:=by
  simp only [List.mem_cons,List.mem_nil_iff,or_false] at hb
  rcases hb with rfl | rfl | rfl | rfl | rfl <;> first | exact Nat.le_add_right _ _ | exact Nat.le_refl _
 exact I1.fpOk hle (I1.hok.fresh hle)
end
section
variable {K:Tl} {a b:Addr} {c d:Bool} {xs ys:List V} {g:TG} {tt:TT} {te:TE} {tb:TS} {D:Ends} {Q:VK} {σ:L2.St} {H:Hp}
theorem YJ (Pv:Nat->List V->L2.St->Hp->Prop) (h0:Pv 0 [] σ H) (hl:∀ i zs σ H,Pv i zs σ H->Sy c K H a xs /\ Sy d K H b ys)
  (hs:∀ i x y zs σ H T,xs[i]? = some x->ys[i]? = some y->Pv i zs σ H->H T=none->g (.ref T) σ (Tp H T (.tup [x,y])) fun σ2 H3=>tt σ2 H3 fun b H4=>if b=true then te σ2 H4 fun y H5=>zs.length < sizeLine /\ Pv (i+1) (zs ++ [y]) σ2 H5 else Pv (i+1) zs σ2 H4)
  (hd:∀ zs σ H,Pv (min xs.length ys.length) zs σ H -> ∀ l,H l=none->Q (.ref l) (Tp H l (.lst zs))) :
  wy (SB K c a d b) σ H g tt te Q:=by
 refine ⟨fun i m zs σ H=>m=min xs.length ys.length - i /\ i<=min xs.length ys.length /\ Pv i zs σ H,⟨min xs.length ys.length,by simp,Nat.zero_le _,h0⟩,?_⟩
 rintro i m zs σ H ⟨rfl,hi,p⟩
 obtain ⟨q1,q2⟩:=hl i zs σ H p
 by_cases hlt:i < min xs.length ys.length
 ·have l1:i < xs.length:=by omega
  have l2:i < ys.length:=by omega
  refine .inr ⟨⟨xs,ys,xs[i],ys[i],q1,q2,by simp [l1],by simp [l2]⟩,Pv (i+1),fun ws σ' H' p'=>⟨min xs.length ys.length - (i+1),by omega,rfl,hlt,p'⟩,fun x H' y=>?_⟩
  obtain ⟨T,v,w,hT,rfl,rfl,y1,y2⟩:=y
  exact hs i v w zs σ H T (y1 xs q1) (y2 ys q2) p hT
 ·have e:i=min xs.length ys.length:=by omega
  subst e
  exact .inl ⟨⟨xs,ys,q1,q2,by omega⟩,hd zs σ H p⟩
end
section
variable {prog:Program} {w:World} {A:Around} {E:Tn} {s:Shared}
open PySem.AutoSeq1 (wpAny_loadPart')
theorem Zi (t:Addr) (c:Bool) (vs:Array Value) :
  Meets (Builtin.«enumerate.__new__» ⟨[.type "enumerate",.ref t],[]⟩) (fun _ R s=>YH c s.heap t vs ∧
   R (.ok (.ret (.ref (s.heap.push (Ss (Sz c) t)).objs.size)))
    { s with heap:=(s.heap.push (Ss (Sz c) t)).push { cls:=.type "enumerate",data:=.fields #[.none,.bool false,.ref s.heap.objs.size,rawInt 0,.none,.none] } }) :=
 .of_wp fun prog w A R s h=>by
  obtain ⟨hp,g,d,tk,os⟩:=s; obtain ⟨hT,h⟩:=h
  have hT':xq (Shared.heap ⟨hp,g,d,tk,os⟩) t (Sz c) vs:=hT.src
  obtain ⟨ot,hot⟩:∃ o,hp.get? t=some o:=by
   cases c
   ·obtain ⟨o,e,_⟩:=(show hp.IsList t vs from hT); exact ⟨o,e⟩
   ·obtain ⟨o,e,_⟩:=(show hp.IsTuple t vs from hT); exact ⟨o,e⟩
  have hsub:=sub_enumerate
  wp_walk using wpAny_loadPart' hot
  refine wpAny_stack_any fun st=>wpAny_pure ?_
  split
  ·rename_i c' _ _ _ _ _
   cases (c' == Value.type "enumerate") <;> (wp_walk using wpAny_loadPart' hot,xq.iter hT') <;> exact ⟨_,rfl,h⟩
  ·wp_walk using wpAny_loadPart' hot,xq.iter hT'
   exact ⟨_,rfl,h⟩
theorem qS {t:Addr} {c:Bool} {vs:Array Value} {Q:Tn} (ht:YH c s.heap t vs)
  (h:∀ h',IsEnum h' (s.heap.objs.size+1) s.heap.objs.size 0 .none->wa c h' s.heap.objs.size t 0->h'.objs.size=s.heap.objs.size+2->(∀ b o,s.heap.get? b=some o->h'.get? b=some o)->Q (.ref (s.heap.objs.size+1)) { s with heap:=h' }) :
  wpAny (model prog w) A (call (.type "enumerate") [.ref t]) Q E s:=by
 refine callType_new F.called_enumerate (by decide) (F.typeCall_enumerate_1 _) (F.newCall_enumerate_1 _) (fun obj=>F.args_object_init_2 obj _) F.entry_enumerate_new (Zi t c vs) ⟨ht,?_⟩
 have hz:(s.heap.push (Ss (Sz c) t)).objs.size=s.heap.objs.size+1:=Heap.size_push ..
 show _ /\ _
 rw [hz]
 have he:IsEnum ((s.heap.push (Ss (Sz c) t)).push { cls:=.type "enumerate",data:=.fields #[.none,.bool false,.ref s.heap.objs.size,rawInt 0,.none,.none] }) (s.heap.objs.size+1) s.heap.objs.size 0 .none:=by
  have:=Heap.get?_push_size (s.heap.push (Ss (Sz c) t)) (o:={ cls:=.type "enumerate",data:=.fields #[.none,.bool false,.ref s.heap.objs.size,rawInt 0,.none,.none] }) rfl
  rw [hz] at this; exact this
 exact ⟨⟨_,he,rfl⟩,h _ he (.mk (Heap.get?_push_of_some _ (Heap.get?_push_size _ rfl))) (by rw [Heap.size_push,Heap.size_push]) fun b o x=>Heap.get?_push_of_some _ (Heap.get?_push_of_some _ x)⟩
end
def VZ (c:Bool) (K:Tl) (a:Addr):It :=
 ⟨fun i H=>∃ xs x,Sy c K H a xs /\ xs[i]? = some x,fun i H x H'=>∃ T v,H T=none /\ x = .ref T /\ H' = Tp H T (.tup [.int i,v]) /\ ∀ xs,Sy c K H a xs->xs[i]? = some v,fun i H=>∃ xs,Sy c K H a xs /\ xs.length<=i⟩
theorem qT {P:Program} {w:World} {K:Tl} {elts:List Expr} {kt:Nat} {pt:Pos} (c:Bool) (a e jt:Addr) (hej:e ≠ jt) (hae:a ≠ e) (haj:a ≠ jt) :
  Turn P w K (.Tuple elts kt pt) (VZ c K a) [e,jt] e (fun i h=>(∃ old,IsEnum h e jt i old) /\ wa c h jt a i) where
 mem:=by simp
 obj:=fun i h st b hb=>by
  obtain ⟨⟨old,he⟩,st⟩:=st
  simp only [List.mem_cons,List.mem_nil_iff,or_false] at hb
  rcases hb with rfl | rfl
  ·exact ⟨_,he,fun v z=>by cases z⟩
  ·exact st.obj
 keep:=fun i h h' st k=>by
  obtain ⟨⟨old,he⟩,st⟩:=st
  exact ⟨⟨old,k e (by simp) _ he⟩,st.at fun o q=>k jt (by simp) o q⟩
 item:=by
  intro X hP hw hK hc i pins s σ H E I hf st hg
  subst hP hw hK
  obtain ⟨⟨old,he⟩,hit⟩:=st
  obtain ⟨xs,x,hq,hx⟩:=hg
  obtain ⟨its,rv,p⟩:=ym I hq
  obtain ⟨u,hu,ru⟩:=rv.get hx
  have hlt:i < its.toArray.size:=by have:=(List.getElem?_eq_some_iff.mp hu).1; simpa using this
  refine wpAny_pyNext_enum_itemD (rS (A:=X.A.in1) (I.ok.hd hc) c jt a haj its.toArray) he ⟨hit,p⟩ hlt hej (by simp [hej,Ne.symm hae]) fun v h1 tk hv hout hst1 hT hsz hk=>?_
  have hvu:v=u:=by
   have e1:its.toArray[i]? = some v:=hv
   have e2:its.toArray[i]? = some u:=by simpa using hu
   rw [e1] at e2; exact Option.some.inj e2
  subst hvu
  refine ⟨_,rfl,wpAny_letOwnedTupleGo_enum (s:={ s with heap:=h1,toks:=tk+1 }) hout fun h2 he2 hs2=>?_⟩
  have hk2:∀ b o,b ∉ [e,jt]->s.heap.get? b=some o->h2.get? b=some o:=fun b o hb q=>by
   have n1:b ≠ e:=fun z=>hb (by simp [z])
   have n2:b ≠ jt:=fun z=>hb (by simp [z])
   exact (hs2.2 b n1).trans (hk b o n1 n2 q)
  have eT:s.heap.objs.size ≠ e:=Nat.ne_of_gt (Heap.lt_size he)
  have hT2:h2.get? s.heap.objs.size=some { cls:=.type "tuple",data:=.seq #[.int i tk,v] }:=(hs2.2 _ eT).trans hT
  have hn:H s.heap.objs.size=none:=I.hok.fresh (Nat.le_refl _)
  have I2:Inv X pins σ (Tp H s.heap.objs.size (.tup [.int i,x])) { s with heap:=h2,toks:=tk+1 }:=rR (s:=s) I hk2 hf (Nat.le_refl _) ⟨by show 2<=sizeLine; decide,[.int i tk,v],.cons ⟨_,rfl⟩ (.cons ru .nil),_,hT2,rfl,0,rfl⟩
  refine ⟨.ref s.heap.objs.size,Tp H s.heap.objs.size (.tup [.int i,x]),I2,rfl,⟨_,x,hn,rfl,rfl,fun ys hy=>by rw [yZ I hy hq]; exact hx⟩,⟨⟨v,by simpa using he2⟩,?_⟩,fun b hb=>?_⟩
  ·exact hst1.1.at fun o q=>(hs2.2 jt (Ne.symm hej)).trans q
  ·have nb:b ≠ s.heap.objs.size:=by
    obtain ⟨oj,hoj,_⟩:=hit.obj
    simp only [List.mem_cons,List.mem_nil_iff,or_false] at hb
    rcases hb with rfl | rfl
    ·exact Ne.symm eT
    ·exact Nat.ne_of_lt (Heap.lt_size hoj)
   rw [zj nb]; exact (hf b hb).1
 done:=by
  intro X hP hw hK hc i pins s σ H E I hf st hg
  subst hP hw hK
  obtain ⟨⟨old,he⟩,hit⟩:=st
  obtain ⟨xs,hq,hx⟩:=hg
  obtain ⟨its,rv,p⟩:=ym I hq
  have hl:=rv.length
  refine wpAny_pyNext_enum_endD (wc (A:=X.A.in1) (I.ok.hd hc) c jt a its.toArray (i:=i) (by simp; omega)) he ⟨rfl,hit,p⟩ fun h' eb=>⟨rfl,?_⟩
  exact sC (fp:=[e,jt]) (t':=s.toks) I (fun b o hb q=>eb b o (fun z=>hb (by simp [z])) q) hf
 self:=fun _ _ _ _ _ st h=>by
  obtain ⟨⟨old,he⟩,_⟩:=st
  exact wpAny_pyIter_enum he h
section
variable {X:Cx} {elts:List Expr} {kt:Nat} {pt:Pos} {K:Tl}
def Vr (c:Bool) (K:Tl) (ta:TA):TI:=fun σ H R=>ta σ H fun vs H1=>∃ a xs,vs=[.ref a] /\ Sy c K H1 a xs /\ R (VZ c K a) H1
theorem xQ {a:Expr} {ta:TA} {p pos:Pos} (c:Bool) (hK:X.K=K) (hg:Gl X "enumerate") (hm:X.mg "enumerate" = none) (ha:PA X [a] ta) (hs:starEach [a] X.env=[(false,eval a X.env)]:=by rfl) :
  PI X (.Tuple elts kt pt) (.Call (.Name "enumerate" p) [a] [] pos) (Vr c K ta):=by
 subst hK
 intro pins s σ H R I h
 refine Call_ (xN I hg hm Vm (PyProof.Rows.callWith_type1 (Tx (ha pos pins s σ H _ I h) fun us s1 ⟨vs,H1,I1,r1,q1⟩=>?_) hs rfl))
 obtain ⟨t,xs,e,hq,q⟩:=q1
 subst e
 obtain ⟨u,rfl,e1⟩:=xE r1
 cases (show u=Value.ref t from e1)
 obtain ⟨its,rv,p⟩:=ym I1 hq
 refine qS p fun h' he hit _ hk=>?_
 refine wpAny_pyIter_enum he ?_
 have lt:t < s1.heap.objs.size:=p.lt
 have I2:Inv X pins σ H1 { s1 with heap:=h' }:=I1.kept (t':=s1.toks) hk
 refine ⟨s1.heap.objs.size+1,[s1.heap.objs.size+1,s1.heap.objs.size],_,_,H1,rfl,I2,qT c t (s1.heap.objs.size+1) s1.heap.objs.size (Nat.succ_ne_self _) (Nat.ne_of_lt (Nat.lt_succ_of_lt lt)) (Nat.ne_of_lt lt),⟨⟨_,he⟩,hit⟩,fun b hb=>?_,q⟩
 simp only [List.mem_cons,List.mem_nil_iff,or_false] at hb
 rcases hb with rfl | rfl
 ·exact I1.fpOk (Nat.le_succ _) (I1.hok.fresh (Nat.le_succ _))
 ·exact I1.fpOk (Nat.le_refl _) (I1.hok.fresh (Nat.le_refl _))
end
section
variable {K:Tl} {a:Addr} {c:Bool} {xs:List V} {g:TG} {tt:TT} {te:TE} {tb:TS} {D:Ends} {Q:VK} {σ:L2.St} {H:Hp}
theorem qU (Pv:Nat->List V->L2.St->Hp->Prop) (h0:Pv 0 [] σ H) (hl:∀ i zs σ H,Pv i zs σ H->Sy c K H a xs)
  (hs:∀ i x zs σ H T,xs[i]? = some x->Pv i zs σ H->H T=none->g (.ref T) σ (Tp H T (.tup [.int i,x])) fun σ2 H3=>tt σ2 H3 fun b H4=>if b=true then te σ2 H4 fun y H5=>zs.length < sizeLine /\ Pv (i+1) (zs ++ [y]) σ2 H5 else Pv (i+1) zs σ2 H4)
  (hd:∀ zs σ H,Pv xs.length zs σ H -> ∀ l,H l=none->Q (.ref l) (Tp H l (.lst zs))) :
  wy (VZ c K a) σ H g tt te Q:=by
 refine ⟨fun i m zs σ H=>m=xs.length - i /\ i<=xs.length /\ Pv i zs σ H,⟨xs.length,by simp,Nat.zero_le _,h0⟩,?_⟩
 rintro i m zs σ H ⟨rfl,hi,p⟩
 have q:=hl i zs σ H p
 by_cases hlt:i < xs.length
 ·refine .inr ⟨⟨xs,xs[i],q,by simp [hlt]⟩,Pv (i+1),fun ws σ' H' p'=>⟨xs.length - (i+1),by omega,rfl,hlt,p'⟩,fun x H' y=>?_⟩
  obtain ⟨T,v,hT,rfl,rfl,y1⟩:=y
  exact hs i v zs σ H T (y1 xs q) p hT
 ·have e:i=xs.length:=by omega
  subst e
  exact .inl ⟨⟨xs,q,Nat.le_refl _⟩,hd zs σ H p⟩
end
section
variable {X:Cx}
variable {K:Tl}
theorem sD {es:List Expr} {k:Nat} {pos:Pos} {t:TD} (n:Nat) (h0:X.K=K) (hc:X.calm=true) (h:TF X es t)
  (hn:(assignEach es X.env).length=n) (hst:(assignEach es X.env).findIdx? (·.1)=none):PG X (.Tuple es k pos) (UG K n t):=by subst h0; exact uE hc h hn hst
end
section
variable {X:Cx} {K:Tl}
theorem YK {k:Nat} (hK:X.K=K) (hr:Room k X.A):TQ X (compareOp .NotEq) (fun x y H Q=>∃ a b xs,x = .ref a /\ y = .ref b /\ TB K H a xs /\ TB K H b [] /\ Q (.bl (!xs.isEmpty)) H):=by
 subst hK
 intro pins s σ H x y v u Q I rx ry h
 obtain ⟨a,b,xs,rfl,rfl,ha,hb,q⟩:=h
 cases rx; cases ry
 obtain ⟨us,r1,t1,_⟩:=I.list ha
 obtain ⟨ws,r2,t2,_⟩:=I.list hb
 have hw:ws.length=0:=r2.length.symm
 by_cases hl:us.length=ws.length
 ·refine SeqAt.RcNeAt.lists (e:=fun _=>true) t1.isList t2.isList (by simpa using hl) hr.units0 (fun j h1 h2=>absurd h2 (by simp; omega)) _ _ _ _ ?_
  have e:xs=[]:=List.length_eq_zero_iff.mp (by rw [r1.length]; omega)
  subst e
  have e2:us=[]:=List.length_eq_zero_iff.mp (by omega)
  subst e2
  exact ⟨.bl _,H,I,rfl,q⟩
 ·refine SeqAt.RcNeAt.lists_lengths t1.isList t2.isList (by simpa using hl) hr.units0 _ _ _ _ ?_
  have e:xs.isEmpty=false:=by
   cases xs with
   | nil=>exact absurd (by rw [← r1.length,hw]; rfl) hl
   | cons _ _=>rfl
  rw [e] at q
  exact ⟨.bl _,H,I,rfl,q⟩
end
theorem qV {l:List V} {i:Nat} (h:i < l.length):(l[i] :: l.eraseIdx i).Perm l:=by
 rw [List.eraseIdx_eq_take_drop_succ]
 have e:l=l.take i ++ l[i] :: l.drop (i+1):=by rw [List.getElem_cons_drop,List.take_append_drop]
 exact List.perm_middle.symm.trans (.of_eq e.symm)
mutual
inductive Dq (K:Tl) (H:Hp):V->PyData->Prop
 | non:Dq K H .non .none
 | bl (b:Bool):Dq K H (.bl b) (.bool b)
 | int (i:Int):Dq K H (.int i) (.int i)
 | str (x:Str):Dq K H (.str x) (.str x)
 | tup {a:Addr} {xs:List V} {ds:List PyData}:TC K H a xs->DqAll K H xs ds->Dq K H (.ref a) (.tuple ds)
 | lst {a:Addr} {xs:List V} {ds:List PyData}:TB K H a xs->DqAll K H xs ds->Dq K H (.ref a) (.list ds)
inductive DqAll (K:Tl) (H:Hp):List V->List PyData->Prop
 | nil:DqAll K H [] []
 | cons {x:V} {xs:List V} {d:PyData} {ds:List PyData}:Dq K H x d->DqAll K H xs ds->DqAll K H (x :: xs) (d :: ds)
end
theorem DqAll.len {K:Tl} {H:Hp}:∀ {xs:List V} {ds:List PyData},DqAll K H xs ds->xs.length=ds.length
 | _,_,.nil=>rfl
 | _,_,.cons _ t=>congrArg (· + 1) (DqAll.len t)
theorem xg (n:Nat):(List.range n).all (fun _=>true)=true:=List.all_eq_true.mpr fun _ _=>rfl
section
variable {X:Cx} {pins:List (Addr × Obj)} {σ:L2.St} {H:Hp} {s:Shared}
mutual
theorem dq_eq (I:Inv X pins σ H s):∀ {d:PyData} {x y:V} {u v:Value} {A:Around},Dq X.K H x d->Dq X.K H y d->zJ x u->zJ y v->A.units+d.depth < cLine->SeqAt.EqAt A s u v true
 | _,_,y,u,v,A,.non,hy,ru,rv,_=>by
  cases hy
  cases (show u=Value.none from ru)
  cases (show v=Value.none from rv)
  exact SeqAt.EqAt.same _
 | _,_,y,u,v,A,.bl b,hy,ru,rv,_=>by
  cases hy
  cases (show u=Value.bool b from ru)
  cases (show v=Value.bool b from rv)
  exact SeqAt.EqAt.same _
 | _,_,y,u,v,A,.int i,hy,ru,rv,_=>by
  cases hy
  obtain ⟨t,rfl⟩:=ru
  obtain ⟨t',rfl⟩:=rv
  have z:=SeqAt.EqAt.int_int (A:=A) (s:=s) i t i t'
  rw [beq_self_eq_true] at z
  exact z
 | _,_,y,u,v,A,.str x,hy,ru,rv,_=>by
  cases hy
  obtain ⟨t,rfl⟩:=ru
  obtain ⟨t',rfl⟩:=rv
  have z:=SeqAt.EqAt.str_str (A:=A) (s:=s) x t x t'
  rw [beq_self_eq_true] at z
  exact z
 | _,_,y,u,v,A,.tup (a:=a) (xs:=xs) (ds:=ds) hs ha,hy,ru,rv,hu=>by
  cases hy with
  | tup hs' ha' =>
   rename_i a' xs'
   cases (show u=Value.ref a from ru)
   cases (show v=Value.ref a' from rv)
   obtain ⟨us,r1,t1,_⟩:=I.tuple hs
   obtain ⟨ws,r2,t2,_⟩:=I.tuple hs'
   have hd:A.units+(PyData.depthAll ds+1) < cLine:=hu
   by_cases e:a=a'
   ·subst e; exact SeqAt.EqAt.same _
   ·have l1:=ha.len
    have l2:=ha'.len
    have q:=SeqAt.RcAt.tuples (e:=fun _=>true) (yo t1) (yo t2) (by omega) (dqs_eq I ha ha' r1 r2 (A:=A.in1) (by show A.units+1+PyData.depthAll ds < cLine; omega))
    rw [xg,Bool.true_and,List.size_toArray,List.size_toArray,← r1.length,← r2.length,l1,l2,beq_self_eq_true] at q
    exact SeqAt.EqAt.of_refs e q
 | _,_,y,u,v,A,.lst (a:=a) (xs:=xs) (ds:=ds) hs ha,hy,ru,rv,hu=>by
  cases hy with
  | lst hs' ha' =>
   rename_i a' xs'
   cases (show u=Value.ref a from ru)
   cases (show v=Value.ref a' from rv)
   obtain ⟨us,r1,t1,_⟩:=I.list hs
   obtain ⟨ws,r2,t2,_⟩:=I.list hs'
   have hd:A.units+(PyData.depthAll ds+1) < cLine:=hu
   by_cases e:a=a'
   ·subst e; exact SeqAt.EqAt.same _
   ·have l1:=ha.len
    have l2:=ha'.len
    have q:=SeqAt.RcAt.lists (e:=fun _=>true) t1.isList t2.isList (by rw [List.size_toArray,List.size_toArray,← r1.length,← r2.length,l1,l2]) (by omega) (dqs_eq I ha ha' r1 r2 (A:=A.in1) (by show A.units+1+PyData.depthAll ds < cLine; omega))
    rw [xg] at q
    exact SeqAt.EqAt.of_refs e q
theorem dqs_eq (I:Inv X pins σ H s):∀ {ds:List PyData} {xs ys:List V} {us vs:List Value} {A:Around},DqAll X.K H xs ds->DqAll X.K H ys ds->zC xs us->zC ys vs->A.units+PyData.depthAll ds < cLine →
  ∀ j (h1:j < us.toArray.size) (h2:j < vs.toArray.size),SeqAt.EqAt A s us.toArray[j] vs.toArray[j] true
 | _,_,_,_,_,A,.nil,hy,ru,rv,_=>fun j h1 _=>by
  cases ru
  exact absurd h1 (Nat.not_lt_zero j)
 | _,_,_,_,_,A,.cons (d:=d) (ds:=ds) hx tx,hy,ru,rv,hd=>fun j h1 h2=>by
  cases hy with
  | cons hy ty =>
   cases ru with
   | cons r1 rr1 =>
    cases rv with
    | cons r2 rr2 =>
     have hd':A.units+max d.depth (PyData.depthAll ds) < cLine:=hd
     cases j with
     | zero=>simpa using dq_eq I hx hy r1 r2 (A:=A) (by omega)
     | succ j =>
      have z:=dqs_eq I tx ty rr1 rr2 (A:=A) (by omega) j (by simpa using h1) (by simpa using h2)
      simpa using z
end
variable {K:Tl}
def Vs (K:Tl) (neg:Bool):R2:=fun x y H Q=>∃ d,Dq K H x d /\ Dq K H y d /\ (∃ a,x = .ref a) /\ d.depth<=100 /\ Q (.bl neg) H
theorem Vt {k:Nat} (hK:X.K=K) (hr:Room k X.A):TQ X (compareOp .Eq) (Vs K true):=by
 subst hK
 intro pins s σ H x y u v Q I rx ry h
 obtain ⟨d,hx,hy,⟨a0,e0⟩,hd,q⟩:=h
 have hu:=hr.un
 cases hx with
 | non=>cases e0
 | bl b=>cases e0
 | int i=>cases e0
 | str x=>cases e0
 | tup hs ha =>
  cases hy with
  | tup hs' ha' =>
   rename_i a xs ds a' xs'
   cases (show u=Value.ref a from rx)
   cases (show v=Value.ref a' from ry)
   obtain ⟨us,r1,t1,_⟩:=I.tuple hs
   obtain ⟨ws,r2,t2,_⟩:=I.tuple hs'
   have hd':PyData.depthAll ds+1<=100:=hd
   refine SeqAt.eq_tupleAt (e:=fun _=>true) (yo t1) (yo t2) hr.units0 (dqs_eq I ha ha' r1 r2 (A:=X.A.in1) (by show X.A.units+1+PyData.depthAll ds < cLine; omega)) ?_
   rw [xg,Bool.true_and,List.size_toArray,List.size_toArray,← r1.length,← r2.length,ha.len,ha'.len,beq_self_eq_true]
   exact ⟨.bl true,H,I,rfl,q⟩
 | lst hs ha =>
  cases hy with
  | lst hs' ha' =>
   rename_i a xs ds a' xs'
   cases (show u=Value.ref a from rx)
   cases (show v=Value.ref a' from ry)
   obtain ⟨us,r1,t1,_⟩:=I.list hs
   obtain ⟨ws,r2,t2,_⟩:=I.list hs'
   have hd':PyData.depthAll ds+1<=100:=hd
   refine SeqAt.eq_listAt (e:=fun _=>true) t1.isList t2.isList (by rw [List.size_toArray,List.size_toArray,← r1.length,← r2.length,ha.len,ha'.len]) hr.units0 (dqs_eq I ha ha' r1 r2 (A:=X.A.in1) (by show X.A.units+1+PyData.depthAll ds < cLine; omega)) ?_
   rw [xg]
   exact ⟨.bl true,H,I,rfl,q⟩
theorem rT {k:Nat} (hK:X.K=K) (hr:Room k X.A):TQ X (compareOp .NotEq) (Vs K false):=by
 subst hK
 intro pins s σ H x y u v Q I rx ry h
 obtain ⟨d,hx,hy,⟨a0,e0⟩,hd,q⟩:=h
 have hu:=hr.un
 cases hx with
 | non=>cases e0
 | bl b=>cases e0
 | int i=>cases e0
 | str x=>cases e0
 | tup hs ha =>
  cases hy with
  | tup hs' ha' =>
   rename_i a xs ds a' xs'
   cases (show u=Value.ref a from rx)
   cases (show v=Value.ref a' from ry)
   obtain ⟨us,r1,t1,_⟩:=I.tuple hs
   obtain ⟨ws,r2,t2,_⟩:=I.tuple hs'
   have hd':PyData.depthAll ds+1<=100:=hd
   refine SeqAt.RcNeAt.tuples (e:=fun _=>true) (yo t1) (yo t2) hr.units0 (dqs_eq I ha ha' r1 r2 (A:=X.A.in1) (by show X.A.units+1+PyData.depthAll ds < cLine; omega)) _ _ _ _ ?_
   rw [xg,Bool.true_and,List.size_toArray,List.size_toArray,← r1.length,← r2.length,ha.len,ha'.len,beq_self_eq_true]
   exact ⟨.bl false,H,I,rfl,q⟩
 | lst hs ha =>
  cases hy with
  | lst hs' ha' =>
   rename_i a xs ds a' xs'
   cases (show u=Value.ref a from rx)
   cases (show v=Value.ref a' from ry)
   obtain ⟨us,r1,t1,_⟩:=I.list hs
   obtain ⟨ws,r2,t2,_⟩:=I.list hs'
   have hd':PyData.depthAll ds+1<=100:=hd
   refine SeqAt.RcNeAt.lists (e:=fun _=>true) t1.isList t2.isList (by rw [List.size_toArray,List.size_toArray,← r1.length,← r2.length,ha.len,ha'.len]) hr.units0 (dqs_eq I ha ha' r1 r2 (A:=X.A.in1) (by show X.A.units+1+PyData.depthAll ds < cLine; omega)) _ _ _ _ ?_
   rw [xg]
   exact ⟨.bl false,H,I,rfl,q⟩
end
def sE (gs:List Nat):List V:=gs.map fun g:Nat=>V.int g
theorem qW {gs:List Nat}:sE gs=(gs.map fun g:Nat=>(g:Int)).map V.int:=by unfold sE; rw [List.map_map]; rfl
theorem Zj {K:Tl} {H:Hp}:∀ (ns:List Int),DqAll K H (ns.map V.int) (ns.map PyData.int)
 | []=>.nil
 | n :: ns=>.cons (.int n) (Zj ns)
def YL (r:List Int):PyData:=.tuple (r.map PyData.int)
theorem wF:∀ ns:List Int,PyData.depthAll (ns.map PyData.int)=0
 | []=>rfl
 | n :: ns=>by
  show max (PyData.depth (.int n)) (PyData.depthAll (ns.map PyData.int))=0
  rw [wF ns]; rfl
theorem rU:∀ rows:List (List Int),PyData.depthAll (rows.map YL)<=1
 | []=>Nat.zero_le _
 | r :: rows=>by
  show max (PyData.depthAll (r.map PyData.int)+1) (PyData.depthAll (rows.map YL))<=1
  have:=rU rows
  rw [wF]; omega
theorem uS {K:Tl} {H:Hp} {x:V} {r:List Int} (h:zp K H x r):Dq K H x (YL r):=by
 obtain ⟨a,rfl,h⟩:=h
 exact .tup h (Zj r)
theorem rV {K:Tl} {H:Hp}:∀ {xs:List V} {rows:List (List Int)},zU (zp K H) xs rows->DqAll K H xs (rows.map YL)
 | [],[],_=>.nil
 | _ :: _,_ :: _,⟨h,t⟩=>.cons (uS h) (rV t)
 | [],_ :: _,h=>h.elim
 | _ :: _,[],h=>h.elim
theorem qX {ys:List V} {ms:List Nat} (pm:ys.Perm (sE ms)):∃ gs:List Nat,ys=sE gs /\ gs.Perm ms:=by
 let f:V->Nat:=fun v=>match v with | .int i=>i.toNat | _=>0
 refine ⟨ys.map f,?_,?_⟩
 ·unfold sE
  rw [List.map_map]
  have key:∀ l:List V,(∀ v ∈ l,∃ n:Nat,v = .int n)->l=l.map ((fun g:Nat=>V.int g) ∘ f):=by
   intro l
   induction l with
   | nil=>intro _; rfl
   | cons v l ih =>
    intro h
    obtain ⟨n,rfl⟩:=h v (by simp)
    rw [List.map_cons,← ih fun w hw=>h w (List.mem_cons_of_mem _ hw)]; rfl
  exact key ys fun v hv=>by
   have z:=pm.mem_iff.mp hv
   unfold sE at z
   obtain ⟨n,_,rfl⟩:=List.mem_map.mp z
   exact ⟨n,rfl⟩
 ·have z:=pm.map f
  unfold sE at z
  rw [List.map_map,show (f ∘ fun g:Nat=>V.int g)=id from funext fun n=>rfl,List.map_id] at z
  exact z
abbrev SD (X:Cx) (N':List Str) (scope:Scope) (cl:List (Str × Addr)) (C D:Addr) (fp:List Addr) (s:Shared) (H:Hp):Cx :=
 { X with N:=N',s₀:=s,H₀:=H,env:=compEnvC scope cl C X.env,outer:=X.stack,ex:=D :: fp,fn:=fun x=>scope.names.lookup x == some .cell,xe:=fun _ _=>False }
structure CScC (X:Cx) (scope:Scope) (N':List Str) (sub:List (Option Nat)):Prop where
 free:∀ y ∈ scope.names,y.2 = .free->X.env.kindOf y.1=some .cell
 nd:(scope.names.map (·.1)).Nodup
 kind:scope.kind = .function
 names:∀ y ∈ scope.names,y.2 = .local->scope.names.lookup y.1=some .local
 len:sub.length=N'.length
 cap:∀ (j:Nat) (y:Str) (i:Nat),N'[j]? = some y->sub[j]? = some (some i)->X.N[i]? = some y /\ X.env.scope.names.lookup y=some .cell /\ scope.names.lookup y=some .free
theorem xh {α:Type} {x:Str} {c:α}:∀ {a b:List (Str × α)},(a ++ b).lookup x=some c->a.lookup x=some c \/ (a.lookup x=none /\ b.lookup x=some c)
 | [],b,h=>.inr ⟨rfl,h⟩
 | (k,v) :: r,b,h=>by
  rw [List.cons_append,List.lookup_cons] at h
  rw [List.lookup_cons]
  cases hb:x == k with
  | true=>rw [hb] at h; exact .inl h
  | false=>rw [hb] at h; exact xh h
theorem qY {α:Type} {x:Str} {a b:List (Str × α)} (h:∃ c,a.lookup x=some c):∃ c,(a ++ b).lookup x=some c:=by
 induction a with
 | nil=>obtain ⟨c,h⟩:=h; cases h
 | cons p r ih =>
  obtain ⟨k,v⟩:=p
  rw [List.lookup_cons] at h
  rw [List.cons_append,List.lookup_cons]
  cases hb:x == k with
  | true=>exact ⟨v,rfl⟩
  | false=>rw [hb] at h; exact ih h
theorem wW {α:Type} {x:Str} {a b:List (Str × α)} (h:∃ c,b.lookup x=some c):∃ c,(a ++ b).lookup x=some c:=by
 induction a with
 | nil=>exact h
 | cons p r ih =>
  obtain ⟨k,v⟩:=p
  rw [List.cons_append,List.lookup_cons]
  cases hb:x == k with
  | true=>exact ⟨v,rfl⟩
  | false=>exact ih
theorem sF {α:Type} {x:Str} {c:α} {a b:List (Str × α)} (h:a.lookup x=none) (e:b.lookup x=some c):(a ++ b).lookup x=some c:=by
 induction a with
 | nil=>exact e
 | cons p r ih =>
  obtain ⟨k,v⟩:=p
  rw [List.lookup_cons] at h
  rw [List.cons_append,List.lookup_cons]
  cases hb:x == k with
  | true=>rw [hb] at h; cases h
  | false=>rw [hb] at h; exact ih h
theorem wX:∀ (names:List (Str × NameKind)) (n:Nat) (acc more:List (Str × Addr)),cellsFrom n names (acc ++ more)=cellsFrom n names acc ++ more
 | [],_,_,_=>rfl
 | (x,k) :: r,n,acc,more=>by
  unfold cellsFrom
  split
  ·exact wX r (n+1) ((x,n) :: acc) more
  ·exact wX r n acc more
theorem wY:∀ {names:List (Str × NameKind)} {n:Nat} {acc:List (Str × Addr)} {x:Str} {c:Addr},(x,c) ∈ cellsFrom n names acc->(x,c) ∈ acc \/ (x,NameKind.cell) ∈ names
 | [],_,_,_,_,h=>.inl h
 | (y,k) :: r,n,acc,x,c,h=>by
  unfold cellsFrom at h
  split at h
  ·rename_i hk
   have hk':k = .cell:=by simpa using hk
   rcases wY h with z | z
   ·rcases List.mem_cons.mp z with e | z
    ·cases e; exact .inr (by rw [hk']; simp)
    ·exact .inl z
   ·exact .inr (List.mem_cons_of_mem _ z)
  ·rcases wY h with z | z
   ·exact .inl z
   ·exact .inr (List.mem_cons_of_mem _ z)
theorem xR {α:Type} {x:Str}:∀ {a:List (Str × α)},x ∈ a.map (·.1) -> ∃ c,a.lookup x=some c
 | (k,v) :: r,h=>by
  rw [List.lookup_cons]
  cases hb:x == k with
  | true=>exact ⟨v,rfl⟩
  | false =>
   rcases List.mem_cons.mp h with e | h
   ·rw [e] at hb; simp at hb
   ·exact xR h
theorem we:∀ {names:List (Str × NameKind)} {n:Nat} {acc:List (Str × Addr)} {x:Str},x ∈ acc.map (·.1)->x ∈ (cellsFrom n names acc).map (·.1)
 | [],_,_,_,h=>h
 | (y,k) :: r,n,acc,x,h=>by
  unfold cellsFrom
  split
  ·exact we (by rw [List.map_cons]; exact List.mem_cons_of_mem _ h)
  ·exact we h
theorem rW:∀ {names:List (Str × NameKind)} {n:Nat} {acc:List (Str × Addr)} {x:Str},(x,NameKind.cell) ∈ names->x ∈ (cellsFrom n names acc).map (·.1)
 | (y,k) :: r,n,acc,x,h=>by
  unfold cellsFrom
  rcases List.mem_cons.mp h with e | h
  ·cases e
   rw [if_pos (by decide)]
   exact we (by rw [List.map_cons]; exact List.mem_cons_self)
  ·split <;> exact rW h
theorem uT {names:List (Str × NameKind)} {n:Nat} {x:Str} (h:(x,NameKind.cell) ∈ names):∃ c,(cellsFrom n names []).lookup x=some c:=xR (rW h)
theorem Zk {names:List (Str × NameKind)} {n:Nat} {x:Str} (nd:(names.map (·.1)).Nodup) (h:(x,NameKind.free) ∈ names):(cellsFrom n names []).lookup x=none:=by
 cases e:(cellsFrom n names []).lookup x with
 | none=>rfl
 | some c =>
  rcases wY (PySem.mem_of_lookup e) with z | z
  ·cases z
  ·have key:∀ {l:List (Str × NameKind)},(l.map (·.1)).Nodup->(x,NameKind.free) ∈ l->(x,NameKind.cell) ∈ l->False:=by
    intro l
    induction l with
    | nil=>intro _ h; cases h
    | cons p r ih =>
     intro nd h1 h2
     rw [List.map_cons,List.nodup_cons] at nd
     rcases List.mem_cons.mp h1 with e1 | h1 <;> rcases List.mem_cons.mp h2 with e2 | h2
     ·rw [← e1] at e2; cases e2
     ·exact nd.1 (by rw [← e1]; exact List.mem_map.mpr ⟨_,h2,rfl⟩)
     ·exact nd.1 (by rw [← e2]; exact List.mem_map.mpr ⟨_,h1,rfl⟩)
     ·exact ih nd.2 h1 h2
   exact (key nd h z).elim
section
variable {X:Cx} {pins:List (Addr × Obj)} {σ:L2.St} {H2:Hp} {s₂:Shared} {it:Addr} {fp:List Addr} {tn:Nat->Heap->Prop} {J:It} {scope:Scope} {cl:List (Str × Addr)} {N':List Str} {sub:List (Option Nat)}
theorem sG {h₁:Heap} {tk:Nat} (I:Inv X pins σ H2 s₂) (S:CScC X scope N' sub) (hcl1:∀ x c,cl.lookup x=some c->X.env.cells.lookup x=some c) (hcl2:∀ y ∈ scope.names,y.2 = .free -> ∃ c,cl.lookup y.1=some c)
    (hcc:CellsOk h₁ (s₂.heap.objs.size+2) (cellsFrom (s₂.heap.objs.size+2) scope.names []))
    (f2:∀ b ∈ fp,yK X pins H2 b) (hfp:∀ b ∈ fp,b < s₂.heap.objs.size) {m:Str->Option Value} {ob:Obj}
    (hns:h₁.Ns (s₂.heap.objs.size+1) m) (hk:∀ b o,(s₂.heap.push ob).get? b=some o->h₁.get? b=some o) :
    Inv (SD X N' scope (cellsFrom (s₂.heap.objs.size+2) scope.names [] ++ cl) (s₂.heap.objs.size+1) s₂.heap.objs.size fp { s₂ with heap:=s₂.heap.push ob } H2) pins (uB sub σ) H2 { s₂ with heap:=h₁,toks:=tk }:=by
  have old:∀ b o,s₂.heap.get? b=some o->(s₂.heap.push ob).get? b=some o:=fun b o e=>Heap.get?_push_of_some _ e
  have old2:∀ b o,s₂.heap.get? b=some o->h₁.get? b=some o:=fun b o e=>hk b o (old b o e)
  have sz:(s₂.heap.push ob).objs.size=s₂.heap.objs.size+1:=Heap.size_push ..
  have lk:∀ x c,(cellsFrom (s₂.heap.objs.size+2) scope.names [] ++ cl).lookup x=some c->((x,c) ∈ cellsFrom (s₂.heap.objs.size+2) scope.names [] /\ h₁.IsCell c none /\ s₂.heap.objs.size+2<=c) \/ X.env.cells.lookup x=some c:=fun x c e=>by
    rcases xh e with e | ⟨_,e⟩
    · exact .inl ⟨PySem.mem_of_lookup e,hcc.empty x c (PySem.mem_of_lookup e)⟩
    · exact .inr (hcl1 x c e)
  have cells:∀ x c,X.env.cells.lookup x=some c->c < s₂.heap.objs.size:=fun x c e=>let ⟨v,q⟩:=I.cell x c e; q.lt
  have has:∀ x,((relabel scope X.env).names.lookup x=some .cell \/ (relabel scope X.env).names.lookup x=some .free) -> ∃ c,(cellsFrom (s₂.heap.objs.size+2) scope.names [] ++ cl).lookup x=some c:=fun x hx=>by
    rcases hx with hx | hx
    · obtain ⟨k',e,z⟩:=ya hx
      rcases z with z | ⟨_,z⟩
      · subst z; exact qY (uT (PySem.mem_of_lookup e))
      · subst z; exact wW (hcl2 _ (PySem.mem_of_lookup e) rfl)
    · obtain ⟨k',e,z⟩:=ya hx
      rcases z with z | ⟨z,_⟩
      · subst z; exact wW (hcl2 _ (PySem.mem_of_lookup e) rfl)
      · cases z
  have frsz:∀ b ∈ Tt X.stack,b < s₂.heap.objs.size:=fun b hb=>by
    rcases List.mem_cons.mp (I.stkSub b hb) with z | z
    · rw [z]; exact I.lt
    · exact Nat.lt_of_not_le fun q=>I.nofs q z
  refine
    { ok :=
      { mod:=I.ok.mod,kind:=S.kind,glob:=I.ok.glob,blt:=I.ok.blt
        above:=by show (s₂.heap.push ob).objs.size<=s₂.heap.objs.size+1; rw [sz]; exact Nat.le_refl _
        inj:=fun x y c h1 h2=>?inj
        has:=has
        cab:=fun x c z e=>?cab
        hd:=I.ok.hd,frames:=I.ok.frames,stk:=.inl rfl
        exf:=fun b hb=>?exf
        bs:=fun b o e=>⟨old b o (I.bk b o e),(I.bs b o e).2⟩
        bsz:=by show X.base.objs.size<=(s₂.heap.push ob).objs.size; rw [sz]; exact Nat.le_succ_of_le (Nat.le_trans I.ok.bsz I.sz)
        noex:=fun b o e hb=>?noex
        exfs:=fun b hb=>?exfs
        funs:=?funs
        frf:=I.stkFree }
      os:=rfl,bare:=I.bare,base:=Un.kept fun b u e=>hk b u e
      loc:=⟨m,hns,?loc⟩
      cell:=fun x c e=>?cell
      free:=I.hok.fresh (Nat.le_succ _)
      freeC:=fun x c e=>?freeC
      pin:=fun p hp=>?pin
      hok:=I.hok.kept old2
      len:=?len }
  case exf =>
    rcases List.mem_cons.mp hb with rfl | hb
    · exact ⟨Nat.ne_of_lt (Nat.lt_succ_self _),fun x c e=>(lk x c e).elim (fun z=>Nat.ne_of_gt (Nat.lt_of_lt_of_le (Nat.lt_succ_of_lt (Nat.lt_succ_self _)) z.2.2)) (fun z=>Nat.ne_of_lt (cells x c z))⟩
    · exact ⟨Nat.ne_of_lt (Nat.lt_succ_of_lt (hfp b hb)),fun x c e=>(lk x c e).elim (fun z=>Nat.ne_of_gt (Nat.lt_of_lt_of_le (hfp b hb) (Nat.le_trans (Nat.le_add_right _ 2) z.2.2))) (fun z=>(f2 b hb).2.2.2.2.1 x c z)⟩
  case noex =>
    have hl:b < X.s₀.heap.objs.size:=Nat.lt_of_lt_of_le (Heap.lt_size e) I.ok.bsz
    rcases List.mem_cons.mp hb with rfl | hb
    · exact absurd (Nat.lt_of_lt_of_le hl I.sz) (Nat.lt_irrefl _)
    · rcases (f2 b hb).2.2.2.1 with z | z
      · exact I.ok.noex b o e z
      · exact absurd (Nat.lt_of_lt_of_le hl z) (Nat.lt_irrefl _)
  case exfs =>
    intro hs
    rcases List.mem_cons.mp hb with rfl | hb
    · exact absurd (frsz _ hs) (Nat.lt_irrefl _)
    · rcases List.mem_cons.mp (I.stkSub b hs) with z | z
      · exact (f2 b hb).2.1 z
      · exact (f2 b hb).2.2.1 z
  case funs=>exact Heap.FunFrames.of_keeps (fun b o e _=>⟨o,old b o e,rfl⟩) I.stack
  case loc =>
    intro j y v hj hv hvis
    obtain ⟨mX,_,lX⟩:=I.loc
    unfold uB at hv
    rw [List.getElem?_map] at hv
    cases hs:sub[j]? with
    | none=>rw [hs] at hv; cases hv
    | some o =>
      rw [hs] at hv
      cases o with
      | none=>cases hv
      | some i =>
        obtain ⟨hN,hc,hf⟩:=S.cap j y i hj hs
        have hv':σ[i]? = some (some v):=by
          have z:(match σ[i]? with | some v=>v | none=>none)=some v:=Option.some.inj hv
          cases q:σ[i]? with
          | none=>rw [q] at z; cases z
          | some w=>rw [q] at z; rw [show w=some v from z]
        obtain ⟨u,ru,hl⟩:=lX i y v hN hv' (.inr (.inl hc))
        refine ⟨u,ru,?_⟩
        have kc:(relabel scope X.env).names.lookup y=some .cell:=yx I.ok.kind hc hf
        rcases hl with ⟨z,_⟩ | ⟨_,c,e,ic⟩
        · have z':X.env.scope.names.lookup y=some .local :=z
          rw [hc] at z'; cases z'
        · obtain ⟨c',e'⟩:=hcl2 _ (PySem.mem_of_lookup hf) rfl
          have:=hcl1 _ _ e'
          rw [e] at this; cases this
          have e3:(cellsFrom (s₂.heap.objs.size+2) scope.names [] ++ cl).lookup y=some c:=sF (Zk S.nd (PySem.mem_of_lookup hf)) e'
          refine .inr ⟨.inl kc,c,e3,?_⟩
          obtain ⟨oc,h1,h2⟩:=ic
          exact ⟨oc,old2 _ _ h1,h2⟩
  case cell =>
    rcases lk x c e with ⟨_,z,_⟩ | z
    · exact ⟨none,z⟩
    · obtain ⟨v,oc,h1,h2⟩:=I.cell x c z
      exact ⟨v,oc,old2 _ _ h1,h2⟩
  case inj =>
    rcases lk x c h1 with ⟨m1,_,z1⟩ | z1 <;> rcases lk y c h2 with ⟨m2,_,z2⟩ | z2
    · exact name_of_addr hcc.apart m1 m2
    · exact absurd (Nat.lt_of_lt_of_le (cells y c z2) (Nat.le_trans (Nat.le_add_right _ 2) z1)) (Nat.lt_irrefl _)
    · exact absurd (Nat.lt_of_lt_of_le (cells x c z1) (Nat.le_trans (Nat.le_add_right _ 2) z2)) (Nat.lt_irrefl _)
    · exact I.ok.inj x y c z1 z2
  case cab =>
    show (s₂.heap.push ob).objs.size<=c
    rw [sz]
    have hz:scope.names.lookup x=some .cell:=by simpa using z
    rcases xh e with e | ⟨e,_⟩
    · have:=(hcc.empty x c (PySem.mem_of_lookup e)).2; omega
    · obtain ⟨c',e'⟩:=uT (n:=s₂.heap.objs.size+2) (PySem.mem_of_lookup hz)
      rw [e'] at e; cases e
  case freeC =>
    rcases lk x c e with ⟨_,_,z⟩ | z
    · exact I.hok.fresh (by omega)
    · exact I.freeC x c z
  case pin =>
    obtain ⟨p1,p2,p3,p4,p5⟩:=I.pin p hp
    refine ⟨old2 _ _ p1,p2,Nat.ne_of_lt (Nat.lt_succ_of_lt (Heap.lt_size p1)),fun hs=>?_,p5⟩
    rcases List.mem_cons.mp (I.stkSub _ hs) with z | z
    · exact p3 z
    · exact p4 z
  case len =>
    show (uB sub σ).length=N'.length
    unfold uB
    rw [List.length_map]; exact S.len
theorem Zl {C D:Addr} {s₀:Shared} {s':Shared} {σ':L2.St} {H':Hp} {ys:List V} {us:List Value} {k:Nat} {oC:Obj} (I:Inv X pins σ H2 s₂)
    (hs₀:∀ b o,s₂.heap.get? b=some o->s₀.heap.get? b=some o) (hos:s₀.os=s₂.os) (hD:s₂.heap.objs.size<=D) (hC:s₂.heap.objs.size<=C) (hDC:D ≠ C) (f2:∀ b ∈ fp,yK X pins H2 b)
    (I':Inv (SD X N' scope cl C D fp s₀ H2) pins σ' H' s') (hn:H' D=none) (hy:s'.heap.get? D=some { cls:=.type "list",data:=.seq us.toArray k }) (rv:zC ys us) (hz:ys.length<=sizeLine)
    (ho:s'.heap.get? C=some oC) (hd:∀ v,oC.data ≠ .cell v):Inv X (pins ++ [(C,oC)]) σ (Tp H' D (.lst ys)) s' /\ yK X pins (Tp H' D (.lst ys)) C:=by
  have neD:∀ b o,s₂.heap.get? b=some o->b ≠ D:=fun b o e=>Nat.ne_of_lt (Nat.lt_of_lt_of_le (Heap.lt_size e) hD)
  have nm:∀ b o,s₂.heap.get? b=some o->b ∉ fp->b ∉ D :: fp:=fun b o e h z=>(List.mem_cons.mp z).elim (neD b o e) h
  have U:=I'.base
  have HC:Tp H' D (.lst ys) C=none:=by rw [zj (Ne.symm hDC)]; exact I'.free
  have fpc:yK X pins (Tp H' D (.lst ys)) C:=I.fpOk hC HC
  have un:Un (Tt X.stack) fp H2 (Tp H' D (.lst ys)) s₂.heap s'.heap :=
    { keep:=fun b o e n h1 h2=>U.keep b o (hs₀ b o e) n h1 (nm b o e h2)
      slot:=fun b o e n h1 h2=>U.slot b o (hs₀ b o e) n h1 (nm b o e h2)
      free:=fun b o e n h2=>by rw [zj (neD b o e)]; exact U.free b o (hs₀ b o e) n (nm b o e h2)
      there:=fun b o e h2=>U.there b o (hs₀ b o e) (nm b o e h2)
      tups:=fun b xs e=>by have z:=U.tups b xs e; rw [zj (zk z hn)]; exact z
      frzs:=fun b o u e=>by have z:=U.frzs b o u e; rw [zj (zk z hn)]; exact z
      tbls:=fun b ps e=>by obtain ⟨more,z⟩:=U.tbls b ps e; exact ⟨more,by rw [zj (zk z hn)]; exact z⟩ }
  have hok:Tq X.prog X.w (Tp H' D (.lst ys)) s'.heap:=Tq.track I'.hok hn ⟨hz,us,k,rv,hy⟩
  have IX:Inv X pins σ (Tp H' D (.lst ys)) s':=I.call' (I'.os.trans hos) un hok I'.bare fun b hb=>⟨(f2 b hb).2.2.2.1,(f2 b hb).2.1,(f2 b hb).2.2.2.2.1,(f2 b hb).2.2.2.2.2⟩
  refine ⟨IX.pins_of fun p hp=>?_,fpc⟩
  rcases List.mem_append.mp hp with hp | hp
  · exact IX.pin p (List.mem_append_right _ hp)
  · rw [List.mem_singleton.mp hp]
    exact ⟨ho,HC,fpc.2.1,fpc.2.2.1,hd⟩
theorem Zm {C D:Addr} {s₀:Shared} {tg:Expr} {pos:Pos} {elt iter:Expr} {ifs:List Expr} {g:TG} {tt:TT} {te:TE} {Q:VK} {RR:Value->Addr->Result->Shared->Prop} {W:Nat->Nat->List V->L2.St->Hp->Prop}
  (I:Inv X pins σ H2 s₂) (hcalm:X.calm=true) (T:Turn X.prog X.w X.K tg J fp it tn) (f2:∀ b ∈ fp,yK X pins H2 b) (hfp:∀ b ∈ fp,b < s₂.heap.objs.size)
  (hs₀:∀ b o,s₂.heap.get? b=some o->s₀.heap.get? b=some o) (hos:s₀.os=s₂.os) (hD:s₂.heap.objs.size<=D) (hC:s₂.heap.objs.size<=C) (hDC:D ≠ C)
  (hcl1:∀ x c,cl.lookup x=some c->X.env.cells.lookup x=some c \/ (s₂.heap.objs.size<=c /\ D ≠ c))
  (hg:PG (SD X N' scope cl C D fp s₀ H2) tg g) (ht:sr (SD X N' scope cl C D fp s₀ H2) ifs tt) (he:PE (SD X N' scope cl C D fp s₀ H2) elt te)
  (turn:∀ i m ys σ' H',W i m ys σ' H' →
   (J.stop i H' /\ ∀ l,H' l=none->Q (.ref l) (Tp H' l (.lst ys))) ∨
   (J.go i H' /\ ∃ Nn:List V->L2.St->Hp->Prop,(∀ zs σ2 H2,Nn zs σ2 H2 -> ∃ m',m' < m /\ W (i+1) m' zs σ2 H2) ∧
    ∀ x H2,J.yld i H' x H2->g x σ' H2 fun σ2 H3=>tt σ2 H3 fun b H4=>if b=true then te σ2 H4 fun y H5=>ys.length < sizeLine /\ Nn (ys ++ [y]) σ2 H5 else Nn ys σ2 H4))
  (hRR:∀ (D C:Addr) (oC:Obj) (m:Str->Option Value) (s':Shared) (Hf:Hp),Inv X (pins ++ [(C,oC)]) σ Hf s' -> s'.heap.Ns C m->yK X pins Hf C->Q (.ref D) Hf->RR (.ref D) C (.ok .next) s')
  (n:Nat) (s:Shared) (h:∃ i ys us k σ' H',Inv (SD X N' scope cl C D fp s₀ H2) pins σ' H' s /\ tn i s.heap /\ (∀ b ∈ fp,H' b=none) /\ H' D=none ∧
   s.heap.get? D=some { cls:=.type "list",data:=.seq (us:List Value).toArray k } /\ zC ys us /\ ys.length<=sizeLine /\ W i n ys σ' H') :
  codeAny (model X.prog X.w) X.A (.compLoop (.ListComp elt [⟨tg,iter,ifs,0⟩] scope pos) 0 (.ref it) (.ref D) (compEnvC scope cl C X.env)) (RR (.ref D) C) s:=by
 have frsz:∀ b ∈ Tt X.stack,b < s₂.heap.objs.size:=fun b hb=>by
  rcases List.mem_cons.mp (I.stkSub b hb) with z | z
  ·rw [z]; exact I.lt
  ·exact Nat.lt_of_not_le fun q=>I.nofs q z
 have cells:∀ x c,cl.lookup x=some c->D ≠ c:=fun x c e=>by
  rcases hcl1 x c e with z | z
  ·obtain ⟨v,q⟩:=I.cell x c z
   exact Nat.ne_of_gt (Nat.lt_of_lt_of_le q.lt hD)
  ·exact z.2
 have pinsz:∀ p ∈ X.pn ++ pins,p.1 < s₂.heap.objs.size:=fun p hp=>Heap.lt_size (I.pin p hp).1
 refine wS (fun n s=>∃ i ys us k σ' H',Inv (SD X N' scope cl C D fp s₀ H2) pins σ' H' s /\ tn i s.heap /\ (∀ b ∈ fp,H' b=none) /\ H' D=none ∧
   s.heap.get? D=some { cls:=.type "list",data:=.seq (us:List Value).toArray k } /\ zC ys us /\ ys.length<=sizeLine /\ W i n ys σ' H') ?_ n h
 rintro n s ⟨i,ys,us,k,σ',H',I',st',fr,hn,hy,rv,hz,w'⟩
 have pD:Inv (SD X N' scope cl C D fp s₀ H2) (pins ++ [(D,{ cls:=.type "list",data:=.seq us.toArray k })]) σ' H' s:=I'.pins_of fun p hp=>by
  rcases List.mem_append.mp hp with hp | hp
  ·exact I'.pin p (List.mem_append_right _ hp)
  ·rw [List.mem_singleton.mp hp]
   exact ⟨hy,hn,hDC,fun z=>absurd (Nat.lt_of_lt_of_le (frsz _ z) hD) (Nat.lt_irrefl _),fun v z=>by cases z⟩
 have fpok:∀ {H'':Hp},(∀ b ∈ fp,H'' b=none) -> ∀ b ∈ fp,yK (SD X N' scope cl C D fp s₀ H2) (pins ++ [(D,{ cls:=.type "list",data:=.seq us.toArray k })]) H'' b:=fun hz b hb=>by
  refine ⟨hz b hb,Nat.ne_of_lt (Nat.lt_of_lt_of_le (hfp b hb) hC),fun z=>?_,.inl (List.mem_cons_of_mem _ hb),fun x c e=>(hcl1 x c e).elim (fun z=>(f2 b hb).2.2.2.2.1 x c z) (fun z q=>absurd (Nat.lt_of_lt_of_le (q ▸ hfp b hb) z.1) (Nat.lt_irrefl _)),fun p hp=>?_⟩
  ·rcases List.mem_cons.mp (I.stkSub b z) with z | z
   ·exact (f2 b hb).2.1 z
   ·exact (f2 b hb).2.2.1 z
  ·rcases List.mem_append.mp hp with hp | hp
   ·exact (f2 b hb).2.2.2.2.2 p (List.mem_append_left _ hp)
   ·rcases List.mem_append.mp hp with hp | hp
    ·exact (f2 b hb).2.2.2.2.2 p (List.mem_append_right _ hp)
    ·rw [List.mem_singleton.mp hp]
     exact Nat.ne_of_gt (Nat.lt_of_lt_of_le (hfp b hb) hD)
 rcases turn i n ys σ' H' w' with ⟨stop,q⟩ | ⟨go,Nn,hN,step⟩
 ·refine Tx (T.done (SD X N' scope cl C D fp s₀ H2) rfl rfl rfl hcalm i _ s σ' H' (fun _ _=>False) pD (fpok fr) st' stop) fun r s1 ⟨hr,I1⟩=>?_
  subst hr
  have hy1:=(I1.pin (D,{ cls:=.type "list",data:=.seq us.toArray k }) (by simp)).1
  obtain ⟨m,hm,_⟩:=I1.loc
  obtain ⟨oC,es,ep,hoC,hdC,_⟩:=id hm
  obtain ⟨IX,fpc⟩:=Zl I hs₀ hos hD hC hDC f2 I1.unpinned hn hy1 rv hz hoC (by intro v z; rw [hdC] at z; cases z)
  exact hRR D C oC m s1 _ IX hm fpc (q D hn)
 ·refine Tx (T.item (SD X N' scope cl C D fp s₀ H2) rfl rfl rfl hcalm i _ s σ' H' (fun _ _=>False) pD (fpok fr) st' go) fun r s1 ⟨u,hr,h4⟩=>?_
  subst hr
  refine Tx h4 fun _ s2 ⟨x5,H5,I5,r5,y5,st5,fr5⟩=>?_
  have I5':=I5.pinned (fpok fr5) (T.obj _ _ st5)
  refine Tx (hg _ s2 σ' H5 x5 u _ I5' r5 (step x5 H5 y5)) fun _ s3 ⟨σ6,H6,I6,q6⟩=>?_
  refine Tx (ht _ s3 σ6 H6 _ I6 q6) fun ok s4 ⟨H7,I7,q7⟩=>?_
  have stay:∀ {σ7:L2.St} {H7:Hp} {s7:Shared},Inv (SD X N' scope cl C D fp s₀ H2) (pins ++ [(D,{ cls:=.type "list",data:=.seq us.toArray k })] ++ wp fp s2.heap) σ7 H7 s7 →
    (∀ b ∈ fp,∀ o,s2.heap.get? b=some o->s7.heap.get? b=some o) /\ (∀ b ∈ fp,H7 b=none) /\ H7 D=none /\ s7.heap.get? D=some { cls:=.type "list",data:=.seq us.toArray k }:=fun {σ7 H7 s7} I7=>by
   have d:=I7.pin (D,{ cls:=.type "list",data:=.seq us.toArray k }) (by simp)
   refine ⟨fun b hb o e=>(I7.pin (b,o) (List.mem_append_right _ (List.mem_append_right _ (zR hb e)))).1,fun b hb=>?_,d.2.1,d.1⟩
   obtain ⟨o,e,_⟩:=T.obj _ _ st5 b hb
   exact (I7.pin (b,o) (List.mem_append_right _ (List.mem_append_right _ (zR hb e)))).2.1
  cases ok with
  | false =>
   rw [if_neg (by decide)] at q7 ⊢
   obtain ⟨k1,k2,k3,k4⟩:=stay I7
   obtain ⟨m',hm,w7⟩:=hN ys σ6 H7 q7
   exact ⟨m',hm,i+1,ys,us,k,σ6,H7,I7.unpinned.unpinned,T.keep _ _ _ st5 k1,k2,k3,k4,rv,hz,w7⟩
  | true =>
   rw [if_pos rfl] at q7 ⊢
   refine Tx (he _ s4 σ6 H7 _ I7 q7) fun v s5 ⟨y,H8,I8,r8,hl8,n8⟩=>?_
   obtain ⟨k1,k2,k3,k4⟩:=stay I8
   refine wpAny_list_append_plain (l:=D) ⟨k,k4⟩ (fun h' pl sb=>?_) (by rw [List.size_toArray,← rv.length]; exact hz)
   obtain ⟨k',e'⟩:=pl
   obtain ⟨m',hm,w8⟩:=hN _ σ6 H8 n8
   refine ⟨m',hm,i+1,ys ++ [y],us ++ [v],k',σ6,H8,?_,T.keep _ _ _ (T.keep _ _ _ st5 k1) fun b hb o e=>sb.extBut b o (Nat.ne_of_lt (Nat.lt_of_lt_of_le (hfp b hb) hD)) e,k2,k3,?_,rv.append (.cons r8 .nil),?_,w8⟩
   ·exact (I8.unpinned.unpinned).turned (it:=D) (t':=s5.toks) (h':=h') (fun b o hb e=>sb.extBut b o hb e) k3 hDC (.inl (by simp)) (fun x c e=>(cells x c e).symm) (fun p hp=>Nat.ne_of_lt (Nat.lt_of_lt_of_le (pinsz p hp) hD))
   ·rw [e']; simp
   ·rw [List.length_append]; exact hl8
theorem Zn {M:Model} {A:Around} {E:Tn} {s:Shared} {scope:Scope} {globals:Addr} {closure:List (Str × Addr)} {qual:Str} {around:Env} {Q:Env->Shared->Prop} (hk:scope.kind = .function)
  (hQ:∀ h',h'.Ns s.heap.objs.size (fun _=>none)->(∀ b o,s.heap.get? b=some o->h'.get? b=some o)->CellsOk h' (s.heap.objs.size+1) (cellsFrom (s.heap.objs.size+1) scope.names []) →
   Q (newEnv scope s.heap.objs.size globals (cellsFrom (s.heap.objs.size+1) scope.names [] ++ closure) qual none .none (some around) builtinsNs) { s with heap:=h' }) :
  wpAny M A (newFunctionEnv scope globals closure [] qual none .none (some around)) Q E s:=by
 simp only [newFunctionEnv,Option.isSome_some,if_true]
 refine wpAny_bind (wpAny_alloc (wpAny_bind (wpAny_layCells _ (fun nm kd cs=>by cases h:kd == NameKind.cell <;> simp [h]) scope.names closure _ _ ?_)))
 have own:=cellsFrom_ok scope.names (s.heap.push ⟨.type "dict",none,.dict #[],#[]⟩) (s.heap.objs.size+1) [] ⟨fun _ _ z=>(nomatch z),.nil⟩ (Nat.le_of_eq (Heap.size_push ..).symm)
 have sz:(s.heap.push ⟨.type "dict",none,.dict #[],#[]⟩).objs.size=s.heap.objs.size+1:=Heap.size_push ..
 rw [sz] at own
 have ea:=wX scope.names (s.heap.objs.size+1) [] closure
 rw [List.nil_append] at ea
 show wpAny _ _ _ _ _ { s with heap:=pushCells (s.heap.push ⟨.type "dict",none,.dict #[],#[]⟩) scope.names }
 dsimp only
 rw [sz,ea]
 exact wpAny_bind (wpAny_pure (wpAny_pure (hQ _ ((Heap.Ns.new s.heap (.type "dict")).keeps (pushCells_keeps _ _)) (fun b o e=>pushCells_keeps _ _ b o (Heap.get?_push_of_some _ e)) own)))
theorem sH {tg:Expr} {pos:Pos} {elt iter:Expr} {ifs:List Expr} {g:TG} {tt:TT} {te:TE} {E:Tn} {Q:VK} {RR:Value->Addr->Result->Shared->Prop}
  (I:Inv X pins σ H2 s₂) (hcalm:X.calm=true) (T:Turn X.prog X.w X.K tg J fp it tn) (st:tn 0 s₂.heap) (f2:∀ b ∈ fp,yK X pins H2 b)
  (S:CScC X scope N' sub) (hcl1:∀ x c,cl.lookup x=some c->X.env.cells.lookup x=some c) (hcl2:∀ y ∈ scope.names,y.2 = .free -> ∃ c,cl.lookup y.1=some c)
  (hg:∀ cl C D fp s H,PG (SD X N' scope cl C D fp s H) tg g) (ht:∀ cl C D fp s H,sr (SD X N' scope cl C D fp s H) ifs tt) (he:∀ cl C D fp s H,PE (SD X N' scope cl C D fp s H) elt te)
  (hW:wy J (uB sub σ) H2 g tt te Q)
  (hRR:∀ (D C:Addr) (oC:Obj) (m:Str->Option Value) (s':Shared) (Hf:Hp),Inv X (pins ++ [(C,oC)]) σ Hf s' -> s'.heap.Ns C m->yK X pins Hf C->Q (.ref D) Hf->RR (.ref D) C (.ok .next) s') :
  wpAny (model X.prog X.w) X.A (newList []) (fun acc s₃=>wpAny (model X.prog X.w) X.A (newFunctionEnv scope X.env.globals cl [] X.env.qual none .none (some X.env)) (fun cenv s₄ =>
   codeAny (model X.prog X.w) X.A (.compStart (.ListComp elt [⟨tg,iter,ifs,0⟩] scope pos) 0 (.ref it) acc { cenv with scope:=relabel scope X.env }) (RR acc cenv.locals) s₄) E s₃) E s₂:=by
 obtain ⟨W,⟨m0,w0⟩,turn⟩:=hW
 refine wpAny_newObj_type (Zn S.kind fun h₁ hns₁ hk0 hcc=>?_)
 dsimp only at hns₁ hk0 hcc ⊢
 have hC:(s₂.heap.push { cls:=.type "list",dict:=none,data:=.seq ([]:List Value).toArray }).objs.size=s₂.heap.objs.size+1:=Heap.size_push ..
 rw [hC] at hns₁ hcc ⊢
 have hk:∀ b o,(s₂.heap.push { cls:=.type "list",dict:=none,data:=.seq ([]:List Value).toArray }).get? b=some o->h₁.get? b=some o:=hk0
 have hfp:∀ b ∈ fp,b < s₂.heap.objs.size:=fun b hb=>by
  obtain ⟨o,e,_⟩:=T.obj _ _ st b hb
  exact Heap.lt_size e
 have I0:=sG (tk:=s₂.toks) I S hcl1 hcl2 hcc f2 hfp hns₁ hk
 have hD0:h₁.get? s₂.heap.objs.size=some { cls:=.type "list",data:=.seq ([]:List Value).toArray 0 }:=hk _ _ (Heap.get?_push_size _ rfl)
 have hcl3:∀ x c,(cellsFrom (s₂.heap.objs.size+2) scope.names [] ++ cl).lookup x=some c->X.env.cells.lookup x=some c \/ (s₂.heap.objs.size<=c /\ s₂.heap.objs.size ≠ c):=fun x c e=>by
  rcases xh e with e | ⟨_,e⟩
  ·have z:=(hcc.empty x c (PySem.mem_of_lookup e)).2
   exact .inr ⟨Nat.le_trans (Nat.le_add_right _ 2) z,Nat.ne_of_lt (Nat.lt_of_lt_of_le (Nat.lt_succ_of_lt (Nat.lt_succ_self _)) z)⟩
  ·exact .inl (hcl1 x c e)
 have loop:codeAny (model X.prog X.w) X.A (.compLoop (.ListComp elt [⟨tg,iter,ifs,0⟩] scope pos) 0 (.ref it) (.ref s₂.heap.objs.size) (compEnvC scope (cellsFrom (s₂.heap.objs.size+2) scope.names [] ++ cl) (s₂.heap.objs.size+1) X.env)) (RR (.ref s₂.heap.objs.size) (s₂.heap.objs.size+1)) { s₂ with heap:=h₁,toks:=s₂.toks } :=
  Zm (s₀:={ s₂ with heap:=s₂.heap.push { cls:=.type "list",dict:=none,data:=.seq ([]:List Value).toArray } }) (C:=s₂.heap.objs.size+1) (D:=s₂.heap.objs.size) I hcalm T f2 hfp (fun b o e=>Heap.get?_push_of_some _ e) rfl (Nat.le_refl _) (Nat.le_succ _) (Nat.ne_of_lt (Nat.lt_succ_self _)) hcl3 (hg _ _ _ _ _ _) (ht _ _ _ _ _ _) (he _ _ _ _ _ _) turn hRR m0 _
   ⟨0,[],[],0,uB sub σ,H2,I0,T.keep _ _ _ st fun b hb o e=>hk b o (Heap.get?_push_of_some _ e),fun b hb=>(f2 b hb).1,I.hok.fresh (Nat.le_refl _),hD0,.nil,Nat.zero_le _,w0⟩
 exact codeAny_compStart_list loop (T.self _ _ _ _ _ (T.keep _ _ _ st fun b hb o e=>hk b o (Heap.get?_push_of_some _ e)) loop)
end
section
variable {X:Cx} {scope:Scope} {N':List Str} {sub:List (Option Nat)} {tg:Expr} {pos:Pos} {elt iter:Expr} {ifs:List Expr} {wi:TI} {g:TG} {tt:TT} {te:TE}
theorem CScC.clos {pins:List (Addr × Obj)} {σ:L2.St} {H:Hp} {s:Shared} (S:CScC X scope N' sub) (I:Inv X pins σ H s):∃ cl,closureFor scope X.env=pure cl /\ (∀ x c,cl.lookup x=some c->X.env.cells.lookup x=some c) /\ ∀ y ∈ scope.names,y.2 = .free -> ∃ c,cl.lookup y.1=some c :=
 vS fun y hy hf=>I.ok.has y.1 (.inl (S.free y hy hf))
theorem YM (S:CScC X scope N' sub) (hcalm:X.calm=true) (hi:PI X tg iter wi)
  (hg:∀ cl C D fp s H,PG (SD X N' scope cl C D fp s H) tg g) (ht:∀ cl C D fp s H,sr (SD X N' scope cl C D fp s H) ifs tt) (he:∀ cl C D fp s H,PE (SD X N' scope cl C D fp s H) elt te)
  (hs:∀ x,foldedSetIterable iter X.env x=pure x:=by intro _; rfl):PE X (.ListComp elt [⟨tg,iter,ifs,0⟩] scope pos) (j4 wi sub g tt te):=by
 intro pins s σ H Q I h
 obtain ⟨cl,hclos,hcl1,hcl2⟩:=S.clos I
 rw [eval_ListComp]
 refine wpAny_comprehension_free (use:=none) rfl hs hclos S.kind S.names (Tx (hi pins s σ H _ I h) fun v s1 h1=>Tx h1 fun itv s2 h2=>?_)
 obtain ⟨it,fp,tn,J,H2,e,I2,T,st2,f2,hW⟩:=h2
 subst e
 refine sH (RR:=fun acc C=>compPost (model X.prog X.w) X.A X.xe none (EP X pins σ Q) acc C) I2 hcalm T st2 f2 S hcl1 hcl2 hg ht he hW ?_
 intro D C oC m s' Hf IX hm fpc q
 refine ⟨m,hm,fun h' sb=>⟨.ref D,Hf,?_,rfl,q⟩⟩
 exact (IX.unpinned).turned (it:=C) (t':=s'.toks) (h':=h') (fun b o hb e=>sb.extBut b o hb e) fpc.1 fpc.2.1 fpc.2.2.2.1 fpc.2.2.2.2.1 fpc.2.2.2.2.2
end
theorem CScC.of {X:Cx} {scope:Scope} {N':List Str} {sub:List (Option Nat)} (sc:Scope) (NN:List Str) (e:X.env.scope=sc) (en:X.N=NN)
  (h:((scope.names.all fun y=>(y.2 != .free || sc.names.lookup y.1 == some .cell) && (y.2 != .local || scope.names.lookup y.1 == some .local)) && (sub.length == N'.length) &&
   ((N'.zip sub).all fun p=>match p.2 with | none=>true | some i=>NN[i]? == some p.1 && sc.names.lookup p.1 == some .cell && scope.names.lookup p.1 == some .free))=true)
  (nd:(scope.names.map (·.1)).Nodup) (hk:scope.kind = .function):CScC X scope N' sub:=by
 rw [Bool.and_eq_true,Bool.and_eq_true] at h
 obtain ⟨⟨h1,h2⟩,h3⟩:=h
 have k1:=fun y hy=>List.all_eq_true.mp h1 y hy
 refine ⟨fun y hy hf=>?_,nd,hk,fun y hy hl=>?_,by simpa using h2,fun j y i hj hs=>?_⟩
 ·have:=k1 y hy
  simp only [hf,Bool.and_eq_true] at this
  have z:=this.1
  show X.env.scope.names.lookup y.1=_
  rw [e]; simpa using z
 ·have:=k1 y hy
  simp only [hl,Bool.and_eq_true] at this
  simpa using this.2
 ·have hm:(y,some i) ∈ N'.zip sub:=by
   have:(N'.zip sub)[j]? = some (y,some i):=by
    rw [List.getElem?_zip_eq_some]; exact ⟨hj,hs⟩
   exact List.mem_of_getElem? this
  have:=List.all_eq_true.mp h3 _ hm
  simp only [Bool.and_eq_true,beq_iff_eq] at this
  rw [e,en]
  exact ⟨this.1.1,this.1.2,this.2⟩
theorem sI {scope:Scope} {env:Env} {y:Str} (h:scope.names.lookup y=some .cell):(relabel scope env).names.lookup y=some .cell:=by
 have key:∀ l:List (Str × NameKind),l.lookup y=some .cell->(l.map fun (n,k)=>if (k == NameKind.free && env.scope.kind == .function && env.kindOf n == some .cell) then (n,NameKind.cell) else (n,k)).lookup y=some .cell:=by
  intro l
  induction l with
  | nil=>intro h; cases h
  | cons p r ih =>
   obtain ⟨n,k0⟩:=p
   intro h
   rw [List.map_cons]
   rw [List.lookup_cons] at h
   dsimp only
   cases hx:y == n with
   | true =>
    rw [hx] at h
    cases h
    rw [if_neg (by simp),List.lookup_cons,hx]
   | false =>
    rw [hx] at h
    by_cases hc2:(k0 == NameKind.free && env.scope.kind == .function && env.kindOf n == some .cell)=true
    ·rw [if_pos hc2,List.lookup_cons,hx]; exact ih h
    ·rw [if_neg hc2,List.lookup_cons,hx]; exact ih h
 exact key scope.names h
theorem CSc.nestO {X0:Cx} {scope scope2:Scope} {N' N2:List Str} {sub sub2:List (Option Nat)} {cl:List (Str × Addr)} {C D:Addr} {fp:List Addr} {s:Shared} {H:Hp} (S:CScC X0 scope N' sub) (hk0:X0.env.scope.kind = .function)
  (h:((scope2.names.all fun y=>(y.2 != .free || (scope.names.lookup y.1 == some .free || scope.names.lookup y.1 == some .cell)) && (y.2 != .cell) && (y.2 != .local || scope2.names.lookup y.1 == some .local)) && (sub2.length == N2.length) &&
   ((N2.zip sub2).all fun p=>match p.2 with | none=>true | some i=>N'[i]? == some p.1 && (scope.names.lookup p.1 == some .free || scope.names.lookup p.1 == some .cell) && scope2.names.lookup p.1 == some .free))=true)
  (hk:scope2.kind = .function):CSc (SD X0 N' scope cl C D fp s H) scope2 N2 sub2:=by
 rw [Bool.and_eq_true,Bool.and_eq_true] at h
 obtain ⟨⟨h1,h2⟩,h3⟩:=h
 have k1:=fun y hy=>List.all_eq_true.mp h1 y hy
 have cellOf:∀ y:Str,(scope.names.lookup y=some .free \/ scope.names.lookup y=some .cell)->(relabel scope X0.env).names.lookup y=some .cell:=fun y hy=>by
  rcases hy with hy | hy
  ·exact yx hk0 (S.free (y,.free) (PySem.mem_of_lookup hy) rfl) hy
  ·exact sI hy
 refine ⟨fun y hy hf=>?_,fun y hy hc=>?_,hk,fun y hy hl=>?_,by simpa using h2,fun j y i hj hs=>?_⟩
 ·have:=k1 y hy
  simp only [hf,Bool.and_eq_true] at this
  have z:=this.1.1
  exact cellOf y.1 (by simpa using z)
 ·have:=k1 y hy
  simp only [hc,Bool.and_eq_true] at this
  simp at this
 ·have:=k1 y hy
  simp only [hl,Bool.and_eq_true] at this
  simpa using this.2
 ·have hm:(y,some i) ∈ N2.zip sub2:=by
   have:(N2.zip sub2)[j]? = some (y,some i):=by
    rw [List.getElem?_zip_eq_some]; exact ⟨hj,hs⟩
   exact List.mem_of_getElem? this
  have:=List.all_eq_true.mp h3 _ hm
  simp only [Bool.and_eq_true,Bool.or_eq_true,beq_iff_eq] at this
  exact ⟨this.1.1,cellOf y this.1.2,this.2⟩
section
variable {X:Cx} {K:Tl}
theorem Zo:Sa X "list.insert" (fun x vs H Q=>∃ (l:Addr) (xs:List V) (i:Nat) (y:V),x = .ref l /\ vs=[.int i,y] /\ H l=some (.lst xs) /\ i<=xs.length /\ xs.length < sizeLine /\ Q .non (Tp H l (.lst (xs.take i ++ [y] ++ xs.drop i)))):=by
 intro pins s σ H x vs v us Q I rx rv h
 obtain ⟨l,xs,i,y,rfl,rfl,hH,hi,hz,q⟩:=h
 cases rx
 obtain ⟨u,u2,rfl,⟨t,rfl⟩,ru⟩:=qJ rv
 obtain ⟨z,its,n,r,hl,e⟩:=I.lstM hH
 have hn:=vP
 have sz:its.toArray.size<=sizeLine:=by rw [List.size_toArray]; omega
 have key:∀ (x:Int),x=(i:Int)->wpAny (model X.prog X.w) X.A (call (.builtin "list.insert") (.ref l :: [.int x t,u2])) (EP X pins σ Q) X.xe s:=by
  intro x hx
  have hfit:¬ (!Builtin.List.listFitsIndex x)=true:=by
   unfold Builtin.List.listFitsIndex
   simp only [Bool.not_eq_true',Bool.not_eq_false,Bool.and_eq_true,decide_eq_true_eq]
   omega
  refine call_meets F.slot_list_insert ⟨_,e,rfl⟩ F.entry_list_insert (F.args_list_insert_3 _ _ _) (PySem.AutoListH.list_insert_list_int_val_1 l its.toArray n x t u2 hfit sz) ⟨e,?_⟩
  refine ⟨.non,_,I.lset (its':=its.take i ++ [u2] ++ its.drop i) hH e ?_ ?_ ?_,rfl,q⟩
  ·rw [if_neg (by omega),hx,Int.toNat_natCast,List.size_toArray,Nat.min_eq_left (by omega)]
   apply Array.ext'
   simp [List.take_of_length_le]
  ·exact ((r.take i).append (.cons ru .nil)).append (r.drop i)
  ·rw [List.length_append,List.length_append,List.length_take,List.length_drop,List.length_singleton]
   omega
 exact key _ rfl
end
theorem rX {X:Cx} {K:Tl} {T:String} {name:Str} {id:String} {r:V->List V->Hp->VK->Prop} {o e:Expr} {es:List Expr} {to:TE} {t:TA} {apos cpos:Pos} (hK:X.K=K) (pa:PlainAttrs T) (slot:Slot T name id) (hty:typeOf (.builtin id)=pure (.type "method_descriptor")) (hm:T7 X id r) (ho:PE X o to) (ha:PA X (e :: es) t)
  (hbase:attributeBase o name X.env (eval o X.env)=eval o X.env:=by rfl)
  (hfew:((backTo cpos (starEach (e :: es) X.env)).all (fun x=>!x.1) && (backToKw cpos (keywordEach [] X.env)).all (fun x=>x.1.isSome)
   && decide ((e :: es).length+([]:List Keyword).length+(if ([]:List Keyword).isEmpty then 0 else 1) < 30))=true:=by rfl)
  (hline:(apos.endLine == cpos.line)=true:=by rfl) (hs:starEach (e :: es) X.env=(false,eval e X.env) :: starEach es X.env:=by rfl) (hplain:(backTo cpos (starEach es X.env)).any (·.1)=false:=by rfl) :
  PE X (.Call (.Attribute o name apos) (e :: es) [] cpos) (T9 K T r to t):=by
 subst hK
 exact si pa slot hty hm ho ha hbase hfew hline hs hplain
open PySem PySem.Spec PyProof.Rows L2 HT
section
variable {prog:Program} {w:World} {A:Around} {E:Tn} {s:Shared}
theorem YN (l b:Addr) (us ws:Array Value) (n m:Nat) (d1 d2:Option Addr) (e1 e2:Array (Option Value)) (h0:us.isEmpty=true) :
  Meets (Builtin.«tuple.__add__» ⟨[.ref l,.ref b],[]⟩) (fun _ R s=>s.heap.get? l=some ⟨.type "tuple",d1,.seq us n,e1⟩ /\ s.heap.get? b=some ⟨.type "tuple",d2,.seq ws m,e2⟩ /\ R (.ok (.ret (.ref b))) s) :=
 .of_wp fun P w A R s h=>by
  obtain ⟨hh,gg,dd,tk,os⟩:=s
  obtain ⟨eL,eT,q⟩:=h
  have k1:=PySem.AutoSeq1.sub_tuple_tuple
  wp_walk using PySem.AutoSeq1.wpAny_loadPart' eL,PySem.AutoSeq1.wpAny_loadPart' eT
  exact ⟨_,rfl,q⟩
theorem YO {t b:Addr} {vs ws:List Value} {Q:Tn} (ht:IsTup s.heap t vs.toArray) (hb:IsTup s.heap b ws.toArray) (hv:vs=[]) (h1:Q (.ref b) s):wpAny (model prog w) A (binaryOp .Add (.ref t) (.ref b)) Q E s:=by
 obtain ⟨⟨c1,d1,x1,l1⟩,ho,hc,n,hd⟩:=id ht
 obtain ⟨⟨c2,d2,x2,l2⟩,ho2,hc2,m,hd2⟩:=id hb
 cases hc
 cases hd
 cases hc2
 cases hd2
 exact concat_meets ⟨_,ho,rfl⟩ ⟨_,ho2,rfl⟩ noFill_tuple_add seq_tuple_add PySem.F.slot_tuple_add PySem.F.entry_tuple_add (PySem.F.args_tuple_add_2 _ _) (YN t b vs.toArray ws.toArray n m d1 d2 l1 l2 (by simp [hv])) ⟨ho,ho2,h1⟩
theorem ud {t sl:Addr} {us:Array Value} {vl vu:Value} {lo hi:Option Int} {Q:Tn} (ht:IsTup s.heap t us) (hs:s.heap.IsSliceOf sl vl vu .none) (pl:IsPart vl lo) (pu:IsPart vu hi)
  (hw:sIx us.size 0 lo=0 /\ sIx us.size us.size hi=us.size) (h:Q (.ref t) s):wpAny (model prog w) A (getItem (.ref t) (.ref sl)) Q E s:=by
 obtain ⟨os,hos,hcs,hds⟩:=id hs
 have hTs:s.TypeIs (.ref sl) "slice":=⟨os,hos,hcs⟩
 unfold getItem
 try with_reducible refine wpAny_holding ?_
 first | refine wpAny_bind (wpAny_pure ?_) | skip
 refine wpAny_bind (wpAny_sequenceKey ht.typeIs (by decide) ?_)
 refine wpAny_bind (wpAny_callSpecial?_slot (name:=Str.ofString "__getitem__") ht.typeIs PyProof.Rows.slot_tuple_getitem
  (wpAny_call_entry PyProof.Rows.slot_tuple_getitem ht.typeIs entry_tuple_getitem ?_ (args_tuple_getitem _ _)))
 show wpAny _ _ (Builtin.Tuple.tupleItemsOf (.ref t) >>= _) _ _ s
 refine wpAny_bind (tupleItemsOf_ ht ?_)
 refine wpAny_bind (wpAny_typeOf hTs ?_)
 rw [if_pos (by decide)]
 refine wpAny_bind (yQ hs pl pu ?_)
 have yes:(((sIx us.size 0 lo:Nat):Int) == 0 && (1:Int) == 1 && (sIx us.size us.size hi - sIx us.size 0 lo) == us.size)=true:=by
  rw [hw.1,hw.2]; simp
 show wpAny _ _ (if (((sIx us.size 0 lo:Nat):Int) == 0 && (1:Int) == 1 && (sIx us.size us.size hi - sIx us.size 0 lo) == us.size)=true then _ else _) _ _ s
 rw [if_pos yes]
 refine wpAny_bind ?_
 unfold Builtin.Tuple.tupleIsExact
 refine wpAny_bind (wpAny_typeOf ht.typeIs (wpAny_pure ?_))
 show wpAny _ _ (rule _ >>= _) _ _ s
 exact wpAny_bind (wpAny_rule (wpAny_bind (wpAny_pure (wpAny_pure ⟨_,rfl,wpAny_pure h⟩))))
end
section
variable {X:Cx} {K:Tl}
def Tf (K:Tl):V->Option Int->Option Int->Hp->VK->Prop:=fun x lo hi H Q=>∃ a xs,x = .ref a /\ TC K H a xs /\ ∀ p H',Grow [] H H' -> TC K H' p (jA xs lo hi)->Q (.ref p) H'
theorem Zp {xs:List V} {lo hi:Option Int} (h:HT.sIx xs.length 0 lo=0 /\ HT.sIx xs.length xs.length hi=xs.length):jA xs lo hi=xs:=by
 unfold jA
 rw [h.1,h.2,List.drop_zero,Nat.sub_zero,List.take_length]
theorem Wj (hK:X.K=K):T1 X (Tf K):=by
 subst hK
 intro pins s σ H x v vl vu lo hi sl Q I rx hs pl pu h
 obtain ⟨a,xs,rfl,hx,q⟩:=h
 by_cases hw:HT.sIx xs.length 0 lo=0 /\ HT.sIx xs.length xs.length hi=xs.length
 ·cases rx
  obtain ⟨its,r,ht,hz⟩:=I.tuple hx
  have hlen:its.toArray.size=xs.length:=by rw [List.size_toArray]; exact r.length.symm
  refine ⟨"tuple",_,PyProof.Rows.slot_tuple_getitem.lookup,ht.typeIs,?_⟩
  exact ud ht hs pl pu (by rw [hlen]; exact hw) ⟨.ref a,H,I,rfl,q a H (Grow.refl _ _) (by rw [Zp hw]; exact hx)⟩
 ·exact W9 pins s σ H _ v vl vu lo hi sl Q I rx hs pl pu ⟨a,xs,rfl,hx,hw,fun p hp=>q p _ (Grow.new hp _) (TC.of zc)⟩
def Um (K:Tl):R2:=fun x y H Q=>∃ a b xs ys,x = .ref a /\ y = .ref b /\ TC K H a xs /\ TC K H b ys /\ xs.length+ys.length<=sizeLine /\ ∀ p H',Grow [] H H' -> TC K H' p (xs ++ ys)->Q (.ref p) H'
theorem sJ (hK:X.K=K):TQ X (binaryOp .Add) (Um K):=by
 subst hK
 intro pins s σ H x y v u Q I rx ry h
 obtain ⟨a,b,xs,ys,rfl,rfl,ha,hb,hz,q⟩:=h
 by_cases hx:xs=[]
 ·cases rx
  cases ry
  obtain ⟨its,r1,p1,_⟩:=I.tuple ha
  obtain ⟨its2,r2,p2,_⟩:=I.tuple hb
  exact YO p1 p2 (r1.nil_iff.mpr hx) ⟨.ref b,H,I,rfl,q b H (Grow.refl _ _) (by rw [hx]; exact hb)⟩
 ·exact X5 pins s σ H _ _ v u Q I rx ry ⟨a,b,xs,ys,rfl,rfl,ha,hb,hx,hz,fun e=>q a H (Grow.refl _ _) (by rw [e,List.append_nil]; exact ha),fun _ p hp=>q p _ (Grow.new hp _) (TC.of zc)⟩
end
def SE (h:Heap) (e T:Addr) (cls:Value):Prop :=
 ∃ oe vs oT ts,h.get? e=some oe /\ oe.cls=cls /\ oe.data = .fields vs /\ vs[1]? = some (.ref T) /\ T ≠ e /\ h.get? T=some oT /\ oT.data = .fields ts /\ ts[3]? = some .none /\ vs[2]? = some .none
structure Lft (fr:List Addr) (e T0 T:Addr) (cls:Value) (h h':Heap):Prop where
 keep:∀ b o,b ∉ fr->b ≠ e->b ≠ T0->h.get? b=some o->h'.get? b=some o
 slot:∀ b o,b ∈ fr->b ≠ e->b ≠ T0->h.get? b=some o -> ∃ sl,h'.get? b=some { o with slots:=sl }
 new:h.get? T=none
 trc:SE h' e T cls
section
variable {M:Model} {A:Around} {E:Tn} {s:Shared}
theorem xH {base:Heap} {env:Env} {outer:List Env} {L e:Addr} {oe:Obj} {vs:Array Value} {head:Value} {hadNext:Bool} {Q:Unit->Shared->Prop}
  (hfr:A.frames=some (env :: outer)) (hl:s.heap.FunFrames base (env :: outer)) (hf:env.frame=some L)
  (he:s.heap.get? e=some oe) (hd:oe.data = .fields vs) (hsz:1 < vs.size) (hv2:vs[2]? = some .none)
  (h:∀ h' T,Lft ((env :: outer).filterMap (·.frame)) e e T oe.cls s.heap h' -> Q () { s with heap:=h' }) :
  wpAny M A (do let a ← frameOf env; let pl ← entryPlaceOf L hadNext; let b ← EntryCells.newEntry head a .none (rawInt L) .none pl; setField (.ref e) 1 b) (fun _ s'=>wpAny M A (setFlight (.ref e) none) Q E s') E s:=by
 have hne:e ∉ (env :: outer).filterMap (·.frame):=fun hm=>by
  obtain ⟨_,o,ho,hnf⟩:=hl.mem hm
  rw [he] at ho
  cases ho
  exact hnf vs hd
 refine wpAny_bind (wpAny_frameOf_fun hfr hl hf fun h1 s1=>?_)
 refine wpAny_bind (wpAny_entryPlaceOf fun pl hpl=>?_)
 unfold EntryCells.newEntry newFields
 refine wpAny_bind (wpAny_newObj_type ?_ (hpl.sizeOk5 _ _ _ _ _))
 have e1:h1.get? e=some oe:=(s1.2.1 e hne).trans he
 have hTe:h1.objs.size ≠ e:=Nat.ne_of_gt (Heap.lt_size e1)
 generalize hT:({ cls:=.type "traceback",dict:=none,data:=.fields ([head,.ref L,.none,rawInt L,.none] ++ (if pl.isEmpty then List.replicate 6 Value.none else pl)).toArray }:Obj)=oT
 have hTd:oT.data = .fields ([head,.ref L,.none,rawInt L,.none] ++ (if pl.isEmpty then List.replicate 6 Value.none else pl)).toArray:=by rw [← hT]
 have hTf:oT.isFreed=false:=Obj.isFreed_of_fields hTd
 have e2:=Heap.get?_push_of_some (h:=h1) oT e1
 refine wpAny_setField e2 hd hsz ?_
 have d3:=Obj.data_mapFields hd (·.setIfInBounds 1 (Value.ref h1.objs.size))
 have e3:=Heap.get?_update_self (Obj.mapFields (·.setIfInBounds 1 (Value.ref h1.objs.size))) e2 (Obj.isFreed_of_fields d3)
 have t3:((h1.push oT).update e (Obj.mapFields (·.setIfInBounds 1 (Value.ref h1.objs.size)))).get? h1.objs.size=some oT:=(Heap.get?_update_other _ _ (Ne.symm hTe)).trans (Heap.get?_push_size h1 hTf)
 unfold setFlight
 refine wpAny_bind (wpAny_field e3 d3 (x:=.ref h1.objs.size) (by simp [hsz]) ?_)
 rw [if_pos (show (Value.ref h1.objs.size != Value.none)=true from by simp)]
 refine wpAny_setField t3 hTd (by simp only [List.size_toArray,List.length_append,List.length_cons,List.length_nil] <;> omega) (h _ h1.objs.size ?_)
 have keep:∀ b o,b ≠ e->h1.get? b=some o →
   (((h1.push oT).update e (Obj.mapFields (·.setIfInBounds 1 (Value.ref h1.objs.size)))).update h1.objs.size (Obj.mapFields (·.setIfInBounds 3 ((none:Option Addr).elim Value.none fun f=>rawInt f)))).get? b=some o:=fun b o hbe hb=>by
  rw [Heap.get?_update_other _ _ (Nat.ne_of_gt (Heap.lt_size hb)),Heap.get?_update_other _ _ (Ne.symm hbe)]
  exact Heap.get?_push_of_some _ hb
 refine ⟨fun b o hb hbe _ ho=>keep b o hbe ((s1.2.1 b hb).trans ho),fun b o hb hbe _ ho=>?_,?_,?_⟩
 ·obtain ⟨sl,hs⟩:=s1.2.2 b o ho
  exact ⟨sl,keep b _ hbe hs⟩
 ·cases q:s.heap.get? h1.objs.size with
  | none=>rfl
  | some o =>
   have:=Heap.lt_size q
   rw [s1.1] at this
   exact absurd this (Nat.lt_irrefl _)
 ·refine ⟨_,_,_,_,(Heap.get?_update_other _ _ hTe).trans e3,Obj.cls_mapFields _ _,d3,by simp [hsz],hTe,Heap.get?_update_self _ t3 (Obj.isFreed_of_fields (Obj.data_mapFields hTd _)),Obj.data_mapFields hTd _,?_,(Array.getElem?_setIfInBounds_ne (by decide)).trans hv2⟩
  simp only [Array.getElem?_setIfInBounds,if_true]
  rw [if_pos (by simp only [List.size_toArray,List.length_append,List.length_cons,List.length_nil]; omega)]
  rfl
theorem sK {base:Heap} {env:Env} {outer:List Env} {L e:Addr} {oe:Obj} {vs:Array Value} {Q:Unit->Shared->Prop}
  (hfr:A.frames=some (env :: outer)) (hl:s.heap.FunFrames base (env :: outer)) (hf:env.frame=some L)
  (he:s.heap.get? e=some oe) (hd:oe.data = .fields vs) (h1:vs[1]? = some .none) (hv2:vs[2]? = some .none)
  (h:∀ h' T,Lft ((env :: outer).filterMap (·.frame)) e e T oe.cls s.heap h' -> Q () { s with heap:=h' }):wpAny M A (leaving env (.ref e)) Q E s:=by
 unfold leaving noteFrame
 simp only [hf]
 refine wpAny_bind (wpAny_bind (wpAny_field he hd h1 ?_))
 rw [if_neg (by decide)]
 exact xH hfr hl hf he hd (Array.getElem?_eq_some_iff.mp h1).1 hv2 h
theorem qZ {base:Heap} {env:Env} {outer:List Env} {L e T0:Addr} {cls:Value} {Q:Unit->Shared->Prop}
  (hfr:A.frames=some (env :: outer)) (hl:s.heap.FunFrames base (env :: outer)) (hf:env.frame=some L) (ht:SE s.heap e T0 cls)
  (h:∀ h' T,Lft ((env :: outer).filterMap (·.frame)) e T0 T cls s.heap h' -> Q () { s with heap:=h' }):wpAny M A (leaving env (.ref e)) Q E s:=by
 obtain ⟨oe,vs,oT,ts,he,hcls,hd,h1,hTe,hT,hdT,h3,hv2⟩:=ht
 subst hcls
 unfold leaving noteFrame
 simp only [hf]
 refine wpAny_bind (wpAny_bind (wpAny_field he hd h1 ?_))
 rw [if_pos (show (Value.ref T0 != Value.none)=true from by simp)]
 refine wpAny_bind (wpAny_field hT hdT h3 ?_)
 rw [if_neg (show ¬ ((Value.none == rawInt L)=true) from by simp [rawInt])]
 refine wpAny_bind (wpAny_setField hT hdT (Array.getElem?_eq_some_iff.mp h3).1 ?_)
 have other:∀ b,b ≠ T0->(s.heap.update T0 (Obj.mapFields (·.setIfInBounds 3 Value.none))).get? b=s.heap.get? b:=fun b hb=>Heap.get?_update_other _ _ (Ne.symm hb)
 have nf:∀ b o,s.heap.get? b=some o->(∀ vs,o.data ≠ .fields vs)->b ≠ T0:=fun b o hb hnf q=>by
  rw [q,hT] at hb
  cases hb
  exact hnf ts hdT
 refine xH hfr (hl.of_keeps fun b o hb hnf=>⟨o,(other b (nf b o hb hnf)).trans hb,rfl⟩) hf ((other e (Ne.symm hTe)).trans he) hd (Array.getElem?_eq_some_iff.mp h1).1 hv2 fun h' T x=>h h' T ?_
 refine ⟨fun b o hb hbe hb0 ho=>x.keep b o hb hbe hbe ((other b hb0).trans ho),fun b o hb hbe hb0 ho=>x.slot b o hb hbe hbe ((other b hb0).trans ho),?_,x.trc⟩
 have:=x.new
 by_cases q:T=T0
 ·subst q
  have e5:=Heap.get?_update_self (Obj.mapFields (·.setIfInBounds 3 Value.none)) hT (Obj.isFreed_of_fields (Obj.data_mapFields hdT _))
  rw [show (s.heap.update T (Obj.mapFields (·.setIfInBounds 3 Value.none))).get? T=_ from e5] at this
  cases this
 ·rw [← other T q]; exact this
end
def SF (P:Program) (w:World):TY:=fun outer H s E e s'=>∃ (a T C:Addr) (H':Hp),e = .ref a /\ s'.os=s.os /\ AllBare s'.gens /\ Un (Tt outer) [] H H' s.heap s'.heap /\ Tq P w H' s'.heap ∧
 SE s'.heap a T (.ref C) /\ H' a=none /\ H' T=none /\ s.heap.get? a=none /\ s.heap.get? T=none /\ E e (some C) H'
theorem zL.at {P:Program} {w:World} {H:Hp} {h:Heap} {a:Addr} {o:HO} (x:zL P w H h a o):∃ ob,h.get? a=some ob:=by
 induction o with
 | lst xs=>obtain ⟨z,its,n,r,e⟩:=x; exact ⟨_,e⟩
 | tup xs=>obtain ⟨z,its,r,ob,e,c⟩:=x; exact ⟨_,e⟩
 | dK kvs=>obtain ⟨z,y,vs,r,ob,es,ep,e,c⟩:=x; exact ⟨_,e⟩
 | dT kvs=>obtain ⟨z,y,xs,r,ob,es,ep,e,c⟩:=x; exact ⟨_,e⟩
 | set S n=>obtain ⟨ob,es,ep,t,e,c⟩:=x; exact ⟨_,e⟩
 | ins C dx fs=>obtain ⟨d,z,ne,e,_⟩:=x; exact ⟨_,e⟩
 | own y=>exact x
 | xd fs=>obtain ⟨mA,⟨od,es,ep,e,c⟩,r⟩:=x; exact ⟨_,e⟩
 | rng lo hi=>obtain ⟨t,u,v,e⟩:=x; exact ⟨_,e⟩
 | frz ob u ih=>exact ⟨_,x.1⟩
 | tbl ps=>exact ⟨_,x⟩
 | met f y=>exact ⟨_,x⟩
 | ext φ=>exact x.2.1
theorem YQ {P:Program} {w:World} {H:Hp} {h h':Heap} {fr:List Addr} {e T0 T:Addr} {cls:Value} (x:Tq P w H h) (l:Lft fr e T0 T cls h h') (hfr:∀ b ∈ fr,H b=none) (he:H e=none) (h0:H T0=none):Tq P w H h':=fun b u q=>by
 refine (x b u q).stay (fun c v hc r=>?_) (fun _ r=>r) fun _ _ r=>r
 have hn:H c ≠ none:=by
  rcases hc with rfl | hc
  ·rw [q]; exact fun z=>nomatch z
  ·rw [hc]; exact fun z=>nomatch z
 exact l.keep c v (fun z=>hn (hfr c z)) (fun z=>hn (by rw [z]; exact he)) (fun z=>hn (by rw [z]; exact h0)) r
section
variable {P:Program} {w:World} {K:Tl} {mg:Str->Option Value} {base:Heap} {N:List Str} {qual:Str} {scope:Scope} {f:Addr} {cd:Value} {A:Around} {outer:List Env} {s0:Shared} {H0:Hp} {E:XK}
 {pins:List (Addr × Obj)} {σ:L2.St} {H:Hp} {s:Shared}
theorem Zq {h2:Heap} {e T0 T C:Addr} (I:Inv (rH (SF P w) P w K mg base N qual scope f cd A outer s0 H0 E) pins σ H s) (l:Lft ((envOfC qual scope s0.heap.objs.size f cd :: outer).filterMap (·.frame)) e T0 T (.ref C) s.heap h2)
  (new:∀ b o,s0.heap.get? b=some o->b ≠ e /\ b ≠ T0) (he0:H e=none) (ht0:H T0=none) (q:E (.ref e) (some C) H):SF P w outer H0 s0 E (.ref e) { s with heap:=h2 }:=by
 have hfr:∀ b ∈ (envOfC qual scope s0.heap.objs.size f cd :: outer).filterMap (·.frame),H b=none:=I.stkFree
 have hU:Un (Tt outer) [] H0 H s0.heap s.heap:=I.base
 have newT:∀ b o,s0.heap.get? b=some o->b ≠ T:=fun b o hb z=>by
  obtain ⟨o',h1⟩:=hU.there b o hb (by simp)
  have:=l.new
  rw [← z,h1] at this; cases this
 have nin:∀ b o,s0.heap.get? b=some o->b ∉ Tt outer->b ∉ (envOfC qual scope s0.heap.objs.size f cd :: outer).filterMap (·.frame):=fun b o hb hn z=>by
  rcases List.mem_cons.mp (show b ∈ s0.heap.objs.size :: Tt outer from z) with z | z
  ·exact Nat.ne_of_lt (Heap.lt_size hb) z
  ·exact hn z
 have isin:∀ b,b ∈ Tt outer->b ∈ (envOfC qual scope s0.heap.objs.size f cd :: outer).filterMap (·.frame):=fun b hb=>show b ∈ s0.heap.objs.size :: Tt outer from List.mem_cons_of_mem _ hb
 refine ⟨e,T,C,H,rfl,I.os,I.bare,⟨fun b o hb hn hf hx'=>?_,fun b o hb hn hf hx'=>?_,hU.free,fun b o hb hx'=>?_,hU.tups,hU.frzs,hU.tbls⟩,YQ I.hok l hfr he0 ht0,l.trc,he0,?_,?_,?_,q⟩
 ·obtain ⟨n1,n2⟩:=new b o hb
  exact l.keep b o (nin b o hb hf) n1 n2 (hU.keep b o hb hn hf hx')
 ·obtain ⟨n1,n2⟩:=new b o hb
  obtain ⟨sl,h1⟩:=hU.slot b o hb hn hf hx'
  obtain ⟨sl',h2⟩:=l.slot b _ (isin b hf) n1 n2 h1
  exact ⟨sl',h2⟩
 ·obtain ⟨n1,n2⟩:=new b o hb
  obtain ⟨o',h1⟩:=hU.there b o hb hx'
  by_cases z:b ∈ (envOfC qual scope s0.heap.objs.size f cd :: outer).filterMap (·.frame)
  ·obtain ⟨sl,h2⟩:=l.slot b o' z n1 n2 h1
   exact ⟨_,h2⟩
  ·exact ⟨o',l.keep b o' z n1 n2 h1⟩
 ·cases r:H T with
  | none=>rfl
  | some o =>
   obtain ⟨ob,z⟩:=zL.at (I.hok T o r)
   rw [l.new] at z; cases z
 ·cases r:s0.heap.get? e with
  | none=>rfl
  | some o=>exact absurd rfl (new e o r).1
 ·cases r:s0.heap.get? T with
  | none=>rfl
  | some o=>exact absurd rfl (newT T o r)
theorem Wk {h':Heap} {e C:Addr} {args:List Value} (I:Inv (rH (SF P w) P w K mg base N qual scope f cd A outer s0 H0 E) pins σ H s) (hx:Heap.MadeExcOf s.heap h' e (.ref C) args) (q:E (.ref e) (some C) H) :
  (rH (SF P w) P w K mg base N qual scope f cd A outer s0 H0 E).xe (.ref e) { s with heap:=h' }:=by
 obtain ⟨t,he,ht,_⟩:=hx.there
 have he0:H e=none:=by
  cases r:H e with
  | none=>rfl
  | some o =>
   obtain ⟨ob,z⟩:=zL.at (I.hok e o r)
   rw [hx.new] at z; cases z
 have I1:Inv (rH (SF P w) P w K mg base N qual scope f cd A outer s0 H0 E) pins σ H { s with heap:=h' }:=I.kept (t':=s.toks) hx.keeps
 have new:∀ b o,s0.heap.get? b=some o->b ≠ e:=fun b o hb z=>by
  have hU:Un (Tt outer) [] H0 H s0.heap s.heap:=I.base
  obtain ⟨o',ho'⟩:=hU.there b o hb (by simp)
  rw [z,hx.new] at ho'; cases ho'
 refine sK (base:=base) (outer:=outer) (L:=s0.heap.objs.size) I.ok.frames I1.stack rfl he rfl rfl rfl fun h2 T l=>?_
 exact Zq I1 l (fun b o hb=>⟨new b o hb,new b o hb⟩) he0 he0 q
theorem sL {E':XK} (hE:∀ e C H',E' e (some C) H' -> E e (some C) H'):vQ (SF P w) (rH (SF P w) P w K mg base N qual scope f cd A outer s0 H0 E) E':=by
 intro pins σ H s ex s' I hc
 obtain ⟨e,T0,C,H',rfl,os,bare,un,hok,trc,e0,t0,ne,nt,q⟩:=hc
 have I1:Inv (rH (SF P w) P w K mg base N qual scope f cd A outer s0 H0 E) pins σ H' s':=I.call' (ch:=[]) os un hok bare (fun b z=>absurd z (by simp))
 have new:∀ b o,s0.heap.get? b=some o->b ≠ e /\ b ≠ T0:=fun b o hb=>by
  have hU:Un (Tt outer) [] H0 H s0.heap s.heap:=I.base
  obtain ⟨o',ho'⟩:=hU.there b o hb (by simp)
  refine ⟨fun z=>?_,fun z=>?_⟩
  ·rw [z,ne] at ho'; cases ho'
  ·rw [z,nt] at ho'; cases ho'
 refine qZ (base:=base) (outer:=outer) (L:=s0.heap.objs.size) I.ok.frames I1.stack rfl trc fun h2 T l=>?_
 exact Zq I1 l new e0 t0 (hE _ _ _ q)
end
abbrev SG:List Value:=[.type "ValueError",.type "Exception",.type "BaseException",.type "object"]
def rY (K:Tl) (mg:Str->Option Value) (x:Str) (C:Addr):Prop:=∀ h:Heap,K.In h->OwnCls x C SG "ValueError.__new__" mg h
def XE (X:Cx) (E:XK):Prop:=∀ (pins:List (Addr × Obj)) (σ:L2.St) (H:Hp) (s:Shared) (h':Heap) (e C:Addr) (args:List Value),Inv X pins σ H s->Heap.MadeExcOf s.heap h' e (.ref C) args->E (.ref e) (some C) H->X.xe (.ref e) { s with heap:=h' }
def Vu (C:Addr) (E:XK) (te:TE):TS:=fun _ σ H=>te σ H fun _ H1=>∀ e,E (.ref e) (some C) H1
section
variable {X:Cx} {x:Str} {C:Addr} {np cpos pos:Pos} {e₀:Expr} {te:TE} {E:XK}
theorem YR (hc:X.calm=true) (O:rY X.K X.mg x C) (hg:Gl X x) (hr:XE X E) (he:PE X e₀ te) (hdb:(x == ("__debug__":Str))=false:=by decide)
  (hst:starEach [e₀] X.env=[(false,eval e₀ X.env)]:=by rfl):PS X (.Raise (some (.Call (.Name x np) [e₀] [] cpos)) none pos) (Vu C E te):=by
 intro pins s σ H D I h
 obtain ⟨tl,N,nm,q,bs,hdct,sn,sub,ab,col,dd,k0,k1,k2,k3,k5,mN,hC,hN,hni,T⟩:=(O X.base I.mod.kin).obj
 refine wpAny_Raise_call_subT (C:=C) (nm:=nm) (q:=q) (N:=N) (bs:=bs) (bm:=tl) (hdct:=hdct) (sn:=sn) (sub:=sub) (ab:=ab) (col:=col) (dd:=dd) (k0:=k0) (k1:=k1) (k2:=k2) (k3:=k3) (k5:=k5)
  PySem.F.excBase_ValueError (mN:=mN) (T.hasType PySem.F.excBase_ValueError.hasBase) (I.ok.hd hc) (by rw [hst]; rfl) hni (wJ I hg (O s.heap I.kIn).bound ⟨rfl,?_⟩ hdb)
 rw [hst]
 refine Calls.evalArgs_plain ?_
 show wpAny _ _ (spliced [(false,eval e₀ X.env)]) _ _ s
 refine Calls.spliced_cons (Tx (he pins s σ H _ I h) fun v s1 ⟨y,H1,I1,r1,q1⟩=>Calls.spliced_nil ?_)
 exact ⟨rfl,Sk rfl,I1.bk _ _ hC,hN.keeps I1.bk,T.keeps I1.bk,fun h' e hm=>hr pins σ H1 s1 h' e C _ I1 hm (q1 e)⟩
end
section
variable {P:Program} {w:World} {K:Tl} {mg:Str->Option Value} {base:Heap} {N:List Str} {qual:Str} {scope:Scope} {f:Addr} {cd:Value} {A:Around} {outer:List Env} {s0:Shared} {H0:Hp} {E:XK}
theorem Zr:XE (rH (SF P w) P w K mg base N qual scope f cd A outer s0 H0 E) E:=fun _ _ _ _ _ _ _ _ I hx q=>Wk I hx q
end
section
variable {M:Model} {A:Around} {E:Tn} {s:Shared}
theorem Zs {base:Heap} {env:Env} {outer:List Env} {L e T0:Addr} {cls:Value} {Q:Unit->Shared->Prop}
  (hfr:A.frames=some (env :: outer)) (hl:s.heap.FunFrames base (env :: outer)) (hf:env.frame=some L) (ht:SE s.heap e T0 cls)
  (h:∀ h' T,Lft ((env :: outer).filterMap (·.frame)) e T0 T cls s.heap h' -> Q () { s with heap:=h' }):wpAny M A (noteFrame (.ref e) env) (fun _ s'=>wpAny M A (setFlight (.ref e) none) Q E s') E s:=by
 obtain ⟨oe,vs,oT,ts,he,hcls,hd,h1,hTe,hT,hdT,h3,hv2⟩:=ht
 subst hcls
 unfold noteFrame
 simp only [hf]
 refine wpAny_bind (wpAny_field he hd h1 ?_)
 rw [if_pos (show (Value.ref T0 != Value.none)=true from by simp)]
 refine wpAny_bind (wpAny_field hT hdT h3 ?_)
 rw [if_neg (show ¬ ((Value.none == rawInt L)=true) from by simp [rawInt])]
 refine wpAny_bind (wpAny_setField hT hdT (Array.getElem?_eq_some_iff.mp h3).1 ?_)
 have other:∀ b,b ≠ T0->(s.heap.update T0 (Obj.mapFields (·.setIfInBounds 3 Value.none))).get? b=s.heap.get? b:=fun b hb=>Heap.get?_update_other _ _ (Ne.symm hb)
 have nf:∀ b o,s.heap.get? b=some o->(∀ vs,o.data ≠ .fields vs)->b ≠ T0:=fun b o hb hnf q=>by
  rw [q,hT] at hb
  cases hb
  exact hnf ts hdT
 refine xH hfr (hl.of_keeps fun b o hb hnf=>⟨o,(other b (nf b o hb hnf)).trans hb,rfl⟩) hf ((other e (Ne.symm hTe)).trans he) hd (Array.getElem?_eq_some_iff.mp h1).1 hv2 fun h' T x=>h h' T ?_
 refine ⟨fun b o hb hbe hb0 ho=>x.keep b o hb hbe hbe ((other b hb0).trans ho),fun b o hb hbe hb0 ho=>x.slot b o hb hbe hbe ((other b hb0).trans ho),?_,x.trc⟩
 have:=x.new
 by_cases q:T=T0
 ·subst q
  have e5:=Heap.get?_update_self (Obj.mapFields (·.setIfInBounds 3 Value.none)) hT (Obj.isFreed_of_fields (Obj.data_mapFields hdT _))
  rw [show (s.heap.update T (Obj.mapFields (·.setIfInBounds 3 Value.none))).get? T=_ from e5] at this
  cases this
 ·rw [← other T q]; exact this
theorem q9 {e T0:Addr} {cls:Value} {Q:Unit->Shared->Prop} (ht:SE s.heap e T0 cls)
  (h:∀ h',(∀ b,b ≠ T0->h'.get? b=s.heap.get? b)->SE h' e T0 cls->Q () { s with heap:=h' }):wpAny M A (setFlight (.ref e) none) Q E s:=by
 obtain ⟨oe,vs,oT,ts,he,hcls,hd,h1,hTe,hT,hdT,h3,hv2⟩:=ht
 unfold setFlight
 refine wpAny_bind (wpAny_field he hd h1 ?_)
 rw [if_pos (show (Value.ref T0 != Value.none)=true from by simp)]
 have other:∀ b,b ≠ T0->(s.heap.update T0 (Obj.mapFields (·.setIfInBounds 3 ((none:Option Addr).elim Value.none fun f=>rawInt f)))).get? b=s.heap.get? b:=fun b hb=>Heap.get?_update_other _ _ (Ne.symm hb)
 refine wpAny_setField hT hdT (Array.getElem?_eq_some_iff.mp h3).1 (h _ other ⟨oe,vs,_,_,(other e (Ne.symm hTe)).trans he,hcls,hd,h1,hTe,Heap.get?_update_self _ hT (Obj.isFreed_of_fields (Obj.data_mapFields hdT _)),Obj.data_mapFields hdT _,?_,hv2⟩)
 simp only [Array.getElem?_setIfInBounds,if_true]
 rw [if_pos (Array.getElem?_eq_some_iff.mp h3).1]
 rfl
end
structure ApX (X:Cx) (pins:List (Addr × Obj)) (H:Hp) (a T:Addr):Prop where
 s0:∀ b o,X.s₀.heap.get? b=some o->b ≠ a /\ b ≠ T
 loc:X.env.locals ≠ a /\ X.env.locals ≠ T
 cel:∀ x c,X.env.cells.lookup x=some c->c ≠ a /\ c ≠ T
 pin:∀ p ∈ X.pn ++ pins,p.1 ≠ a /\ p.1 ≠ T
 ha:H a=none
 hT:H T=none
theorem ApX.of {X:Cx} {pins:List (Addr × Obj)} {σ:L2.St} {H H':Hp} {s:Shared} {a T:Addr} (I:Inv X pins σ H s) (hx:X.ex=[]) (na:s.heap.get? a=none) (nT:s.heap.get? T=none) (ha:H' a=none) (hT:H' T=none):ApX X pins H' a T:=by
 have ne:∀ b o,s.heap.get? b=some o->b ≠ a /\ b ≠ T:=fun b o hb=>⟨fun z=>(by rw [z,na] at hb; cases hb),fun z=>(by rw [z,nT] at hb; cases hb)⟩
 refine ⟨fun b o hb=>?_,?_,fun x c hc=>?_,fun p hp=>ne _ _ (I.pin p hp).1,ha,hT⟩
 ·obtain ⟨o',h1⟩:=I.base.there b o hb (by rw [hx]; simp)
  exact ne b o' h1
 ·obtain ⟨m,⟨o,es,ep,ho,_⟩,_⟩:=I.loc
  exact ne _ _ ho
 ·obtain ⟨v,hv⟩:=I.cell x c hc
  obtain ⟨o,ho,_⟩:=hv
  exact ne _ _ ho
theorem Inv.leftK {X:Cx} {pins:List (Addr × Obj)} {σ:L2.St} {H:Hp} {s:Shared} {a T0:Addr} {h2:Heap} (I:Inv X pins σ H s) (hx:X.ex=[]) (ap:ApX X pins H a T0)
  (lk:∀ b o,b ∉ Tt X.stack->b ≠ a->b ≠ T0->s.heap.get? b=some o->h2.get? b=some o) (ls:∀ b o,b ∈ Tt X.stack->b ≠ a->b ≠ T0->s.heap.get? b=some o -> ∃ sl,h2.get? b=some { o with slots:=sl }):Inv X pins σ H { s with heap:=h2 }:=by
 have stk:∀ b,b ∈ Tt X.stack->b=X.env.locals \/ b ∈ X.fs:=fun b hb=>List.mem_cons.mp (I.stkSub b hb)
 have any:∀ b o,b ≠ a->b ≠ T0->s.heap.get? b=some o -> ∃ sl,h2.get? b=some { o with slots:=sl }:=fun b o n1 n2 ho=>by
  by_cases z:b ∈ Tt X.stack
  ·exact ls b o z n1 n2 ho
  ·exact ⟨o.slots,lk b o z n1 n2 ho⟩
 have cellK:∀ x c,X.env.cells.lookup x=some c -> ∀ v,s.heap.IsCell c v->h2.IsCell c v:=fun x c e v ⟨o,ho,hd⟩=>by
  obtain ⟨n1,n2⟩:=ap.cel x c e
  obtain ⟨sl,h1⟩:=any c o n1 n2 ho
  exact ⟨_,h1,hd⟩
 refine ⟨I.ok,I.os,I.bare,⟨fun b o hb hn hf hx'=>?_,fun b o hb hn hf hx'=>?_,I.base.free,fun b o hb hx'=>?_,I.base.tups,I.base.frzs,I.base.tbls⟩,?_,fun x c hc=>?_,I.free,I.freeC,fun p hp=>?_,fun b u q=>?_,I.len⟩
 ·obtain ⟨n1,n2⟩:=ap.s0 b o hb
  refine lk b o (fun z=>?_) n1 n2 (I.base.keep b o hb hn hf hx')
  rcases stk b z with z | z
  ·exact absurd (Nat.lt_of_lt_of_le (Heap.lt_size hb) I.ok.above) (by rw [z]; exact Nat.lt_irrefl _)
  ·exact hf z
 ·obtain ⟨n1,n2⟩:=ap.s0 b o hb
  obtain ⟨sl,h1⟩:=I.base.slot b o hb hn hf hx'
  obtain ⟨sl',h3⟩:=any b _ n1 n2 h1
  exact ⟨sl',h3⟩
 ·obtain ⟨n1,n2⟩:=ap.s0 b o hb
  obtain ⟨o',h1⟩:=I.base.there b o hb hx'
  obtain ⟨sl,h3⟩:=any b o' n1 n2 h1
  exact ⟨_,h3⟩
 ·obtain ⟨m,⟨o,es,ep,ho,r⟩,hl⟩:=I.loc
  obtain ⟨sl,h1⟩:=any _ o ap.loc.1 ap.loc.2 ho
  refine ⟨m,⟨_,es,ep,h1,r⟩,fun i x v e1 e2 e3=>?_⟩
  obtain ⟨u,ru,lk⟩:=hl i x v e1 e2 e3
  refine ⟨u,ru,?_⟩
  rcases lk with lk | ⟨k1,c,k2,k3⟩
  ·exact .inl lk
  ·exact .inr ⟨k1,c,k2,cellK x c k2 _ k3⟩
 ·obtain ⟨v,hv⟩:=I.cell x c hc
  exact ⟨v,cellK x c hc v hv⟩
 ·obtain ⟨p1,p2,p3,p4,p5⟩:=I.pin p hp
  obtain ⟨n1,n2⟩:=ap.pin p hp
  refine ⟨lk _ _ (fun z=>?_) n1 n2 p1,p2,p3,p4,p5⟩
  rcases stk _ z with z | z
  ·exact p3 z
  ·exact p4 z
 ·refine (I.hok b u q).stay (fun c v hc r=>?_) (fun _ r=>r) fun _ _ r=>r
  have hn:H c ≠ none:=by
   rcases hc with rfl | hc
   ·rw [q]; exact fun z=>nomatch z
   ·rw [hc]; exact fun z=>nomatch z
  exact lk c v (fun z=>hn (I.stkFree c z)) (fun z=>hn (by rw [z]; exact ap.ha)) (fun z=>hn (by rw [z]; exact ap.hT)) r
theorem Inv.left {X:Cx} {pins:List (Addr × Obj)} {σ:L2.St} {H:Hp} {s:Shared} {a T0 T:Addr} {cls:Value} {h2:Heap} (I:Inv X pins σ H s) (hx:X.ex=[]) (ap:ApX X pins H a T0)
  (l:Lft (Tt X.stack) a T0 T cls s.heap h2):Inv X pins σ H { s with heap:=h2 }:=Inv.leftK I hx ap l.keep l.slot
abbrev pinX (X:Cx) (ps:List (Addr × Obj)) (E:Tn):Cx:={ X with pn:=X.pn ++ ps,xe:=E }
section
variable {X:Cx} {ps pins:List (Addr × Obj)} {E:Tn} {σ:L2.St} {H:Hp} {s:Shared}
theorem Inv.pinX (I:Inv X ps σ H s):Inv (pinX X ps E) [] σ H s :=
 ⟨⟨I.ok.mod,I.ok.kind,I.ok.glob,I.ok.blt,I.ok.above,I.ok.inj,I.ok.has,I.ok.cab,I.ok.hd,I.ok.frames,I.ok.stk,I.ok.exf,I.ok.bs,I.ok.bsz,I.ok.noex,I.ok.exfs,I.ok.funs,I.ok.frf⟩,I.os,I.bare,I.base,I.loc,I.cell,I.free,I.freeC,fun p hp=>I.pin p (by simpa using hp),I.hok,I.len⟩
theorem Inv.unpin (I:Inv (L3.pinX X ps E) pins σ H s):Inv X ps σ H s :=
 ⟨⟨I.ok.mod,I.ok.kind,I.ok.glob,I.ok.blt,I.ok.above,I.ok.inj,I.ok.has,I.ok.cab,I.ok.hd,I.ok.frames,I.ok.stk,I.ok.exf,I.ok.bs,I.ok.bsz,I.ok.noex,I.ok.exfs,I.ok.funs,I.ok.frf⟩,I.os,I.bare,I.base,I.loc,I.cell,I.free,I.freeC,fun p hp=>I.pin p (List.mem_append_left _ hp),I.hok,I.len⟩
end
abbrev handX (X:Cx) (e:Addr):Cx:={ X with A:=X.A.mark (some (.ref e)),calm:=false,xe:=fun _ _=>False }
section
variable {X:Cx} {pins:List (Addr × Obj)} {σ:L2.St} {H:Hp} {s:Shared} {e:Addr}
theorem Inv.handX (I:Inv X pins σ H s):Inv (handX X e) pins σ H s :=
 ⟨⟨I.ok.mod,I.ok.kind,I.ok.glob,I.ok.blt,I.ok.above,I.ok.inj,I.ok.has,I.ok.cab,fun z=>(nomatch z),I.ok.frames,I.ok.stk,I.ok.exf,I.ok.bs,I.ok.bsz,I.ok.noex,I.ok.exfs,I.ok.funs,I.ok.frf⟩,I.os,I.bare,I.base,I.loc,I.cell,I.free,I.freeC,I.pin,I.hok,I.len⟩
theorem Inv.unhand (ok:X.Ok) (I:Inv (L3.handX X e) pins σ H s):Inv X pins σ H s:=⟨ok,I.os,I.bare,I.base,I.loc,I.cell,I.free,I.freeC,I.pin,I.hok,I.len⟩
theorem SP.unpin {ps:List (Addr × Obj)} {E:Tn} {D:Ends} {f:Flow} (h:SP (L3.pinX X ps E) [] D f s):SP X ps D f s:=by
 cases f with
 | next=>obtain ⟨σ',H',I,q⟩:=h; exact ⟨σ',H',Inv.unpin I,q⟩
 | brk=>obtain ⟨σ',H',I,q⟩:=h; exact ⟨σ',H',Inv.unpin I,q⟩
 | cont=>obtain ⟨σ',H',I,q⟩:=h; exact ⟨σ',H',Inv.unpin I,q⟩
 | ret u=>obtain ⟨v,σ',H',I,r,q⟩:=h; exact ⟨v,σ',H',Inv.unpin I,r,q⟩
end
open PySem.W in
/-- an exception class as the text's constants show it -/
theorem excC_of {K:Tl} {mg:Str->Option Value} {x:Str} {C:Addr} (b:mg x=some (.ref C)) (q:PySem.W.excIn K C SG "ValueError.__new__" = true):rY K mg x C:=by
 intro h X
 refine ⟨b,?_⟩
 unfold PySem.W.excIn at q
 cases ho:K.lookup C with
 | none=>rw [ho] at q; cases q
 | some ob =>
  rw [ho] at q
  obtain ⟨oc,od,oda,osl⟩:=ob
  split at q
  ·rename_i dd cd sl e
   obtain ⟨rfl,rfl,rfl,rfl⟩:=Obj.mk.inj (Option.some.inj e)
   split at q
   ·rename_i C' bm k0 k1 k2 k3 n k5 hm hs
    simp only [Bool.and_eq_true,beq_iff_eq,Bool.not_eq_true'] at q
    obtain ⟨⟨⟨⟨⟨rfl,rfl⟩,hdel⟩,ht⟩,hok⟩,hni⟩:=q
    obtain ⟨nm,bs,mro,ns,qn,hd,sn,sub,ab,col,del⟩:=cd
    dsimp only at hm hdel hok hni
    subst hm hdel
    obtain ⟨l⟩:=osl
    have hl:l=[k0,k1,k2,k3,some (.builtin "ValueError.__new__"),k5]:=hs
    subst hl
    exact ⟨bm,ns,nm,qn,bs,hd,sn,sub,ab,col,od,k0,k1,k2,k3,k5,_,X _ _ ho,.of_isNs (PySem.W.isNs_of_in X hok),PySem.W.nsMap_none_of_in X hok hni,PySem.W.tail_of_in X ht⟩
   ·cases q
  ·cases q
theorem sM {X:Cx}:vQ (SF X.prog X.w) X E0:=fun _ _ _ _ _ _ _ h=>by
 obtain ⟨_,_,_,_,_,_,_,_,_,_,_,_,_,_,q⟩:=h
 exact q.elim
section
variable {P:Program} {w:World} {K:Tl} {mg:Str->Option Value} {base:Heap}
theorem Fun.okX {x qual:Str} {st:Stmt} {f:Addr} {fd:FuncData} {N ps:List Str} {k:Nat} {sp:Sp} (F:Fun K x qual st f fd) (S:FnScope N ps (zf st)) (len:∀ vs H Q E,sp vs H Q E->vs.length=ps.length)
  (hbody:∀ (cdv:Value) (A:Around) (outer:List Env) (s:Shared) (H:Hp) (vs:List V) (Q:VK) (E:XK),Room k (A.deeper (envOfC qual (zf st) s.heap.objs.size f cdv))->sp vs H Q E →
   ∃ t,Tw (rH (SF P w) P w K mg base N qual (zf st) f cdv A outer s H E) (xF st) t /\ t { nx:=fun _ H'=>Q .non H',rt:=Q } (v7 N vs) H):FnOk P w K mg base (SF P w) (k+1) f fd ps sp:=by
 obtain ⟨oc,od,kV,doc,pm,an,cdv,ct,osl,rfl,lk,hcd⟩:=F.ex
 exact W7 lk hcd S len fun A outer s H vs Q E hr hsp=>hbody cdv A outer s H vs Q E hr hsp
end
def zQ (P:Program) (w:World) (K:Tl) (mg:Str->Option Value) (base:Heap) (k:Nat) (x:Str) (ps:List Str) (sp:Sp):Prop :=
 ∃ (f:Addr) (fd:FuncData),FnOk P w K mg base (SF P w) k f fd ps sp /\ v6 K fd ps [] /\ PySem.W.keepIn K (.ref f)=true /\ mg x=some (.ref f)
section
variable {P:Program} {w:World} {K:Tl} {mg:Str->Option Value} {base:Heap} {C:Addr} {j k:Nat} {m x:Str} {ps:List Str} {sp:Sp}
theorem zQ.mono (c:zQ P w K mg base j x ps sp) (h:j<=k):zQ P w K mg base k x ps sp:=by
 obtain ⟨f,fd,F,b,mt⟩:=c
 exact ⟨f,fd,F.mono h,b,mt⟩
end
section
variable {X:Cx} {C:Addr} {k:Nat} {m x:Str} {ps:List Str} {sp:Sp} {o e:Expr} {es:List Expr} {ta:TE} {t:TA} {apos pos p:Pos} {E:XK}
theorem yc (c:zQ X.prog X.w X.K X.mg X.base k x ps sp) (hx:vQ (SF X.prog X.w) X E) (hr:Room k X.A) (hg:Gl X x)
  (ha:PA X (e :: es) t) (hdb:(x == ("__debug__":Str))=false:=by decide) (he:starEach (e :: es) X.env=(false,eval e X.env) :: starEach es X.env:=by rfl) (hpl:(backTo pos (starEach es X.env)).any (·.1)=false:=by rfl) :
  PE X (.Call (.Name x p) (e :: es) [] pos) (Yq sp [] E t):=by
 obtain ⟨f,fd,F,b,kp,m⟩:=c
 exact jR F hr hg m kp b .nil hx ha hdb he hpl
end
open PySem PySem.Spec PyProof.Rows L2 PySem.W
open PySem.Builtin PySem.Builtin.ObjectAttr PySem.Builtin.Getset_descriptor in
theorem exc_class_get {prog:Program} {w:World} {A:Around} {s:Shared} {K:Tl} {a C:Addr} {o:Obj} {R:Result->Shared->Prop} {tp:Value} (X:K.In s.heap) (hx:s.heap.get? a=some o) (hc:o.cls = .ref C) (hm:PySem.W.mroIn K C (.type "object")=some true)
  (h:R (.ok (.ret (.ref C))) s):codeAny (model prog w) A (.call (.builtin "getset_descriptor.__get__") ⟨[.builtin "object.__class__",.ref a,tp],[]⟩) R s:=by
 obtain ⟨hh,g,dr,t,os⟩:=s
 have L0:Looks (model prog w) hh (typeOf (.ref a)) (.ref C):=hc ▸ (Looks.ld hx).andThen .now
 have L1:=looks_mroIn (M:=model prog w) X hm
 refine codeAny_call_builtin KF.slot_gs.plain KF.entry_gs (KF.slot_gs.check _ _ _ _ _ _ _ _ KF.type_class (KF.args_gs _ _ _) ?_)
 unfold Builtin.«getset_descriptor.__get__» descrGet
 rw [dga_obj]
 refine wpAny_bind (wpAny_pure ?_)
 unfold descrGetter descrCheckInstance descrNameAndClass isInstance
 simp only [KF.owner_class]
 repeat lk
 refine ⟨Code.quiet_builtin _ (by decide +kernel),codeAny_builtin KF.entry_class ?_⟩
 unfold Builtin.«object.__class__» shownTypeOf
 repeat lk
 exact h
section
variable {prog:Program} {w:World} {A:Around} {E:Tn} {K:Tl} {a C:Addr} {o:Obj} {h:Heap} {g:Array GenState} {d:Drawn} {t:Nat} {os:OsState}
theorem wZ {tk:Tok} {Q:PySem.Fin->Shared->Prop} (X:K.In h) (hx:h.get? a=some o) (hc:o.cls = .ref C) (ha:findIn K (.ref C) "__class__" = some (some (.builtin "object.__class__"))) (hm:PySem.W.mroIn K C (.type "object")=some true)
  (hq:Q (.done (.ret (.ref C))) ⟨h,g,d,t,os⟩):wpAny (model prog w) A (Builtin.«object.__getattribute__» ⟨[.ref a,.str "__class__" tk],[]⟩) Q E ⟨h,g,d,t,os⟩:=by
 have L0:Looks (model prog w) h (typeOf (.ref a)) (.ref C):=hc ▸ (Looks.ld hx).andThen .now
 have L1:=looks_findIn (M:=model prog w) X ha
 have f5:=PySem.F.typeOf_object_class
 have f6:=PySem.F.slot_gs_get.lookup
 have f7:=PySem.F.slot_gs_set.lookup
 repeat (any_goals (first | assumption | with_reducible refine L0.at ?_ | with_reducible refine L1.at ?_ | (with_reducible refine wpAny_loadPart_at hx ?_; rw [hc]) | wp_step))
 refine exc_class_get X hx hc hm ?_
 repeat (any_goals (first | assumption | wp_step))
theorem uU {M:Model} {nameV:Value} {Q:Unit->Shared->Prop} (X:K.In h) (hx:h.get? a=some o) (hc:o.cls = .ref C) (hb:PySem.W.mroIn K C (.type "BaseException")=some true) (hq:Q () ⟨h,g,d,t,os⟩) :
  wpAny M A (checkBuiltinCall "BaseException.__getattribute__" ⟨[.ref a,nameV],[]⟩) Q E ⟨h,g,d,t,os⟩:=by
 have hk:builtinKind "BaseException.__getattribute__" = some .slot:=by decide +kernel
 have hsplit:splitId "BaseException.__getattribute__" = some ("BaseException","__getattribute__"):=by decide +kernel
 have L0:Looks M h (typeOf (.ref a)) (.ref C):=hc ▸ (Looks.ld hx).andThen .now
 have L1:=looks_mroIn (M:=M) X hb
 have ha:=PySem.F.args_bexc_ga (.ref a) nameV
 simp only [checkBuiltinCall,hk,hsplit]
 refine wpAny_bind ?_
 unfold isInstance
 repeat (first | with_reducible refine L0.at ?_ | with_reducible refine L1.at ?_ | wp_step)
 exact hq
theorem vD {tk:Tok} {R:Result->Shared->Prop} (X:K.In h) (hx:h.get? a=some o) (hc:o.cls = .ref C) (ha:findIn K (.ref C) "__class__" = some (some (.builtin "object.__class__"))) (hm:PySem.W.mroIn K C (.type "object")=some true) (hb:PySem.W.mroIn K C (.type "BaseException")=some true)
  (hq:R (.ok (.ret (.ref C))) ⟨h,g,d,t,os⟩):codeAny (model prog w) A (.call (.builtin "BaseException.__getattribute__") ⟨[.ref a,.str "__class__" tk],[]⟩) R ⟨h,g,d,t,os⟩ :=
 codeAny_call_builtin (by decide +kernel) PySem.F.entry_bexc_ga (uU X hx hc hb (wZ X hx hc ha hm hq))
theorem uV {tk:Tok} {Q:Tn} (X:K.In h) (hx:h.get? a=some o) (hc:o.cls = .ref C) (hga:findIn K (.ref C) "__getattribute__" = some (some (.builtin "BaseException.__getattribute__"))) (hgt:findIn K (.ref C) "__getattr__" = some none)
  (ha:findIn K (.ref C) "__class__" = some (some (.builtin "object.__class__"))) (hm:PySem.W.mroIn K C (.type "object")=some true) (hb:PySem.W.mroIn K C (.type "BaseException")=some true)
  (hq:Q (.ref C) ⟨h,g,d,t,os⟩):wpAny (model prog w) A (getAttrBy (.ref a) (.str "__class__" tk) false) Q E ⟨h,g,d,t,os⟩:=by
 have L0:Looks (model prog w) h (typeOf (.ref a)) (.ref C):=hc ▸ (Looks.ld hx).andThen .now
 have L1:=looks_findIn (M:=model prog w) X hga
 have L2:=looks_findIn (M:=model prog w) X hgt
 have f3:=PySem.F.attr_ValueError.ga.bind (.ref a)
 have hx2:(Value.builtin "BaseException.__getattribute__" == Value.builtin "object.__getattribute__")=false:=by decide +kernel
 have hx1:(onTheHeap (Value.ref C) && Value.builtin "BaseException.__getattribute__" == Value.builtin "object.__getattribute__")=false:=by rw [hx2]; rfl
 repeat (any_goals (first | assumption | with_reducible refine L0.at ?_ | with_reducible refine L1.at ?_ | with_reducible refine L2.at ?_ | (with_reducible refine wpAny_loadPart_at hx ?_; rw [hc]) | wp_step))
 refine vD X hx hc ha hm hb ?_
 repeat (any_goals (first | assumption | wp_step))
theorem vE {Q:Option Value->Shared->Prop} (X:K.In h) (hx:h.get? a=some o) (hc:o.cls = .ref C) (hga:findIn K (.ref C) "__getattribute__" = some (some (.builtin "BaseException.__getattribute__"))) (hgt:findIn K (.ref C) "__getattr__" = some none)
  (ha:findIn K (.ref C) "__class__" = some (some (.builtin "object.__class__"))) (hm:PySem.W.mroIn K C (.type "object")=some true) (hb:PySem.W.mroIn K C (.type "BaseException")=some true)
  (hq:Q (some (.ref C)) ⟨h,g,d,t+1,os⟩):wpAny (model prog w) A (getAttr? (.ref a) "__class__") Q E ⟨h,g,d,t,os⟩:=by
 unfold getAttr? getAttrBy?
 repeat (any_goals (first | assumption | with_reducible apply uV X hx hc hga hgt ha hm hb | wp_step))
end
structure ExcK (K:Tl) (C:Addr):Prop where
 ga:findIn K (.ref C) "__getattribute__" = some (some (.builtin "BaseException.__getattribute__"))
 gt:findIn K (.ref C) "__getattr__" = some none
 cl:findIn K (.ref C) "__class__" = some (some (.builtin "object.__class__"))
 ob:mroIn K C (.type "object")=some true
 be:mroIn K C (.type "BaseException")=some true
theorem Zt {K:Tl} {C:Addr} {b:Value} {r:Bool} (e:mroIn K C b=some r):∃ cd,clsIn K C=some cd:=by
 obtain ⟨cd,a,_⟩:=Option.bind_eq_some_iff.mp e
 exact ⟨cd,a⟩
theorem YS {K:Tl} {a C:Addr} (F:ExcK K C):KitX K (.ref a) (.ref C) (fun h=>∃ o,h.get? a=some o /\ o.cls = .ref C) where
 ty:=fun M h _ p=>by
  obtain ⟨o,h1,h2⟩:=p
  exact h2 ▸ (Looks.ld h1).andThen .now
 it:=fun _ _ X _=>by
  obtain ⟨cdD,hcD⟩:=Zt F.ob
  unfold clsIn at hcD
  split at hcD
  ·rename_i c' d' cd' sl' ho
   intro A' Q' E' s' k q
   unfold isType loadHead
   exact wpAny_bind (wpAny_loadPart (k _ _ (X _ _ ho)) (wpAny_pure q))
  ·cases hcD
 ne:=fun h tp dd its n sl X htp=>by
  obtain ⟨cdD,hcD⟩:=Zt F.ob
  refine Bool.eq_false_iff.mpr fun q=>?_
  have e:C=tp:=Value.ref.inj (beq_iff_eq.mp q)
  subst e
  unfold clsIn at hcD
  split at hcD
  ·rename_i c' d' cd' sl' ho
   have z:=(X _ _ ho).symm.trans htp
   cases z
  ·cases hcD
 ca:=fun {_ _ _ _ _ s} X p k=>by
  obtain ⟨h,g,d,t,os⟩:=s
  obtain ⟨o,h1,h2⟩:=p
  exact vE X h1 h2 F.ga F.gt F.cl F.ob F.be k
def SH (a C:Addr):HO:=.ext fun h=>∃ o,h.get? a=some o /\ o.cls = .ref C /\ ∃ vs,o.data = .fields vs /\ vs[2]? = some .none
theorem SH.cl {h:Heap} {a C:Addr} (p:∃ o,h.get? a=some o /\ o.cls = .ref C /\ ∃ vs,o.data = .fields vs /\ vs[2]? = some .none):∃ o,h.get? a=some o /\ o.cls = .ref C:=p.imp fun _ z=>⟨z.1,z.2.1⟩
def Uo (K:Tl):List V->Hp->VK->Prop:=fun xs H Q=>∃ (a C:Addr) (y:V) (c:Value) (b:Bool),xs=[.ref a,y] /\ H a=some (SH a C) /\ (∀ u,zJ y u->u=c) /\ ExcK K C /\ kitOne K (.ref C) c=some b /\ Q (.bl b) H
theorem zZ {X:Cx} {K:Tl} (hK:X.K=K):yw X (.builtin "isinstance") (Uo K):=by
 subst hK
 intro pins s σ H xs us Q I r h
 obtain ⟨a,C,y,c,b,rfl,hH,hy,F,e,q⟩:=h
 obtain ⟨u,w',rfl,rx,ry⟩:=qJ r
 cases (show u=Value.ref a from rx)
 have:=hy w' ry
 subst this
 exact kia_one (YS F) I.kIn (SH.cl (I.hok a _ hH).1) e (fun z=>nomatch z) fun tk=>⟨.bl b,H,I.tok _,rfl,q⟩
theorem ue {M:Model} {A:Around} {E:Tn} {K:Tl} {h:Heap} {g:Array GenState} {d:Drawn} {t:Nat} {os:OsState} {e C' C N:Addr} {oe:Obj} {Q:Bool->Shared->Prop} {nm q:Str} {bs bm:List Value} {hdct:Bool} {sn:List Str} {sub:List Value} {ab:Bool} {col:Option Bool} {dd:Option Addr} {k0 k1 k2 k3 k5:Option Value} {newId:String}
  (X:K.In h) (hC:h.get? C=some (excClassObj nm q C N bs bm hdct sn sub ab col dd k0 k1 k2 k3 k5 newId)) (he:h.get? e=some oe) (hcls:oe.cls = .ref C') (hbase:bm.contains (.type "BaseException")=true) (hup:mroIn K C' (.ref C)=some true)
  (hq:Q true ⟨h,g,d,t,os⟩):wpAny M A (excMatches (.ref e) (.ref C)) Q E ⟨h,g,d,t,os⟩:=by
 have hcB:(Value.ref C :: bm).contains (.type "BaseException")=true:=by rw [List.contains_cons,hbase,Bool.or_true]
 have L1:=looks_mroIn (M:=M) X hup
 have f:=tc_notTuple
 unfold excMatches
 repeat (first | (with_reducible refine wpAny_loadPart_at he ?_; rw [hcls]) | with_reducible refine L1.at ?_ | with_reducible refine wpAny_loadPart_at hC ?_ | (with_reducible refine wpAny_isSubtype_exc hC ?_; rw [hcB]) | wp_step)
 exact hq
section
variable {X:Cx} {pins:List (Addr × Obj)} {σ:L2.St} {H:Hp} {s:Shared}
theorem xS {M:Model} {A:Around} {E:Tn} {i:Nat} {x:Str} {pos:Pos} {Q:Unit->Shared->Prop} (I:Inv X pins σ H s) (hN:X.N.Nodup) (hi:X.N[i]? = some x) (hx:X.env.kindOf x=some .local) (hx2:X.env.scope.names.lookup x=some .local)
  (h:∀ s',Inv X pins (σ.set i none) H s' -> Q () s'):wpAny M A (do bindName X.env x .none; unbindBehindTheSuite X.env x pos) Q E s:=by
 have hcls:(X.env.scope.kind == .class || (X.env.scope.kind == .module && X.env.locals != X.env.globals))=false:=by rw [I.ok.kind]; rfl
 refine wpAny_bind (wpAny_bindName (xc (v:=.non) I hN hi (.inl hx2) rfl (fun s1 I1=>?_) (.inr hx2)))
 unfold unbindBehindTheSuite
 refine wpAny_onRaise ?_
 unfold unbindName
 refine wpAny_bind (wpAny_point (wpAny_bind ?_))
 unfold deleteName
 simp only [hx,hcls]
 rw [if_neg (by decide)]
 obtain ⟨m,hn,hl⟩:=id I1.loc
 refine wpAny_bind (wpAny_nsDel_keeps hn fun h' v hn' hs=>?_)
 have hiσ:i < σ.length:=by rw [I.len]; exact (List.getElem?_eq_some_iff.mp hi).1
 have hm:(m x).isSome=true:=by
  obtain ⟨u,_,l⟩:=hl i x .non hi (List.getElem?_set_self hiσ) (.inl hx2)
  rcases l with ⟨_,e⟩ | ⟨k,_⟩
  ·rw [e]; rfl
  ·rcases k with k | k <;> (rw [hx] at k; cases k)
 simp only [hm,if_true,Bool.not_true,Bool.false_eq_true,if_false]
 refine wpAny_pure (wpAny_point (h _ ?_))
 obtain ⟨oL,_,_,hoL,_⟩:=id hn
 have cne:=I1.cne
 have tracked:Tq X.prog X.w H h':=fun b ob e=>by
  refine (I1.hok b ob e).stay (fun c w' hc q=>(hs.2 c ?_).trans q) (fun _ q=>q) fun _ _ q=>q
  rintro rfl
  have hfree:=I1.free
  rcases hc with hc | hc
  ·rw [← hc] at e; rw [hfree] at e; cases e
  ·rw [hfree] at hc; cases hc
 refine ⟨I1.ok,I1.os,I1.bare,⟨fun b o e n hb hx=>?_,fun b o e n hb hx=>?_,I1.base.free,fun b o e hx=>?_,I1.base.tups,I1.base.frzs,I1.base.tbls⟩,⟨_,hn',fun j y v' e1 e2 e3=>?_⟩,fun y c e=>?_,I1.free,I1.freeC,fun p hp=>?_,tracked,by rw [List.length_set]; exact I.len⟩
 ·exact (hs.2 b (Nat.ne_of_lt (Nat.lt_of_lt_of_le (Heap.lt_size e) I1.ok.above))).trans (I1.base.keep b o e n hb hx)
 ·obtain ⟨sl,e1⟩:=I1.base.slot b o e n hb hx
  exact ⟨sl,(hs.2 b (Nat.ne_of_lt (Nat.lt_of_lt_of_le (Heap.lt_size e) I1.ok.above))).trans e1⟩
 ·obtain ⟨o',e1⟩:=I1.base.there b o e hx
  exact ⟨o',(hs.2 b (Nat.ne_of_lt (Nat.lt_of_lt_of_le (Heap.lt_size e) I1.ok.above))).trans e1⟩
 ·have hj:j ≠ i:=fun z=>by
   subst z
   rw [List.getElem?_set_self hiσ] at e2
   cases e2
  rw [List.getElem?_set_ne (Ne.symm hj)] at e2
  obtain ⟨u',r',q⟩:=hl j y v' e1 (by rw [List.getElem?_set_ne (Ne.symm hj)]; exact e2) e3
  refine ⟨u',r',?_⟩
  rcases q with ⟨k,e⟩ | ⟨k,c,e,z⟩
  ·refine .inl ⟨k,?_⟩
   have:y ≠ x:=fun e=>hj (v4 hN e1 (e ▸ hi))
   simp [this,e]
  ·exact .inr ⟨k,c,e,z.sameBut hs (cne y c e)⟩
 ·obtain ⟨w',z⟩:=I1.cell y c e
  exact ⟨w',z.sameBut hs (cne y c e)⟩
 ·obtain ⟨e,n,ne,nf,d⟩:=I1.pin p hp
  exact ⟨(hs.2 p.1 ne).trans e,n,ne,nf,d⟩
end
theorem Inv.trackX {X:Cx} {pins:List (Addr × Obj)} {σ:L2.St} {H:Hp} {s:Shared} {a T C:Addr} {o:Obj} (I:L2.Inv X pins σ H s) (ap:ApX X pins H a T) {vs:Array Value} (he:s.heap.get? a=some o) (hc:o.cls = .ref C) (hd:o.data = .fields vs) (h2:vs[2]? = some .none):L2.Inv X pins σ (Tp H a (SH a C)) s:=by
 refine ⟨I.ok,I.os,I.bare,⟨I.base.keep,I.base.slot,fun b o' e n hx=>?_,I.base.there,fun b xs e=>?_,fun b o' u e=>?_,fun b ps e=>?_⟩,I.loc,I.cell,?_,fun x c e=>?_,fun p hp=>?_,?_,I.len⟩
 ·rw [zj (ap.s0 b o' e).1]; exact I.base.free b o' e n hx
 ·have z:=I.base.tups b xs e
  rw [zj (zk z ap.ha)]; exact z
 ·have z:=I.base.frzs b o' u e
  rw [zj (zk z ap.ha)]; exact z
 ·obtain ⟨more,z⟩:=I.base.tbls b ps e
  exact ⟨more,by rw [zj (zk z ap.ha)]; exact z⟩
 ·rw [zj ap.loc.1]; exact I.free
 ·rw [zj (ap.cel x c e).1]; exact I.freeC x c e
 ·obtain ⟨p1,p2,p3,p4,p5⟩:=I.pin p hp
  exact ⟨p1,by rw [zj (ap.pin p hp).1]; exact p2,p3,p4,p5⟩
 ·refine Tq.track I.hok ap.ha ⟨⟨o,he,hc,vs,hd,h2⟩,⟨o,he⟩,fun h1 h2 φ k=>?_⟩
  obtain ⟨o',e1,e2⟩:=φ
  exact ⟨o',k _ e1,e2⟩
def XF (i:Nat) (D:Ends):Ends:={ nx:=fun σ H=>D.nx (σ.set i none) H,rt:=D.rt,bk:=fun σ H=>D.bk (σ.set i none) H,ct:=fun σ H=>D.ct (σ.set i none) H }
theorem y3:bootBuiltins "ValueError" = some (.type "ValueError"):=by kernel_rfl
end L3
namespace L2
open PySem PySem.Spec PyProof.Rows
end L2
namespace L2
open PySem PySem.Spec PyProof.Rows
end L2
namespace L2
open PySem PySem.Spec PyProof.Rows
end L2
namespace L2
open PySem PySem.Spec PyProof.Rows
end L2
namespace L2
open PySem PySem.Spec PyProof.Rows
end L2
namespace L2
open PySem PySem.Spec PyProof.Rows
end L2
namespace L2
open PySem PySem.Spec PyProof.Rows
section
variable {κ:Type} [DecidableEq κ]
def uC (kvs:List (κ × V)) (k:κ):Option V:=(kvs.find? fun kv=>decide (kv.1=k)).map (·.2)
def wt (kvs:List (κ × V)) (k:κ) (v:V):List (κ × V) :=
 if (kvs.any fun kv=>decide (kv.1=k))=true then kvs.map (fun kv=>if kv.1=k then (kv.1,v) else kv) else kvs ++ [(k,v)]
theorem xT {p:κ × V} {r:List (κ × V)} {k:κ} (e:p.1=k):uC (p :: r) k=some p.2:=by simp [uC,List.find?_cons,e]
theorem xi {p:κ × V} {r:List (κ × V)} {k:κ} (e:¬ p.1=k):uC (p :: r) k=uC r k:=by simp [uC,List.find?_cons,e]
theorem uf (k:κ):∀ kvs:List (κ × V),(kvs.any fun kv=>decide (kv.1=k))=(uC kvs k).isSome
 | []=>rfl
 | p :: r=>by
  rw [List.any_cons]
  by_cases e:p.1=k
  ·simp only [xT e,decide_eq_true e,Bool.true_or,Option.isSome_some]
  ·rw [xi e,decide_eq_false e,Bool.false_or]; exact uf k r
theorem yM (kvs:List (κ × V)) (k:κ) (v:V):(wt kvs k v).length<=kvs.length+1:=by
 unfold wt
 split
 ·rw [List.length_map]; omega
 ·rw [List.length_append,List.length_cons,List.length_nil]; omega
theorem wG {kvs:List (κ × V)} {k:κ} (v:V) (h:uC kvs k=none):wt kvs k v=kvs ++ [(k,v)]:=by
 unfold wt
 rw [uf,h]
 exact if_neg (by decide)
theorem qF.isSome_eq {o:Option V} {u:Option Value} (r:qF o u):o.isSome=u.isSome:=by
 cases o with
 | none=>cases u with
  | none=>rfl
  | some _=>exact (show False from r).elim
 | some _=>cases u with
  | none=>exact (show False from r).elim
  | some _=>rfl
theorem qF.getD {o:Option V} {u:Option Value} {d:V} {d':Value} (r:qF o u) (rd:zJ d d'):zJ (o.getD d) (u.getD d'):=by
 cases o with
 | none=>cases u with
  | none=>exact rd
  | some _=>exact (show False from r).elim
 | some _=>cases u with
  | none=>exact (show False from r).elim
  | some _=>exact r
theorem KV.val {kvs:List (κ × V)} {vs:List (κ × Value)} (r:KV kvs vs) (k:κ):qF (uC kvs k) (valueAt vs k):=by
 unfold KV at r
 induction r with
 | nil=>exact True.intro
 | @cons p q ps qs h t ih =>
  obtain ⟨h1,h2⟩:=h
  by_cases e:p.1=k
  ·have e':q.1=k:=h1.symm.trans e
   have b:valueAt (q :: qs) k=some q.2:=by simp [valueAt,List.find?_cons,e']
   rw [xT e,b]; exact h2
  ·have e':¬ q.1=k:=fun z=>e (h1.trans z)
   have b:valueAt (q :: qs) k=valueAt qs k:=by simp [valueAt,List.find?_cons,e']
   rw [xi e,b]; exact ih
theorem KV.any {kvs:List (κ × V)} {vs:List (κ × Value)} (r:KV kvs vs) (k:κ):(kvs.any fun kv=>decide (kv.1=k))=vs.any fun kv=>decide (kv.1=k):=by
 unfold KV at r
 induction r with
 | nil=>rfl
 | cons h t ih=>rw [List.any_cons,List.any_cons,ih,h.1]
theorem KV.repl {kvs:List (κ × V)} {vs:List (κ × Value)} (r:KV kvs vs) (k:κ) {y:V} {u:Value} (ry:zJ y u) :
  KV (kvs.map fun kv=>if kv.1=k then (kv.1,y) else kv) (vs.map fun kv=>if kv.1=k then (kv.1,u) else kv):=by
 unfold KV at r ⊢
 induction r with
 | nil=>exact .nil
 | @cons p q ps qs h t ih =>
  rw [List.map_cons,List.map_cons]
  refine .cons ?_ ih
  obtain ⟨h1,h2⟩:=h
  by_cases e:p.1=k
  ·rw [if_pos e,if_pos (h1.symm.trans e)]; exact ⟨h1,ry⟩
  ·rw [if_neg e,if_neg (fun z=>e (h1.trans z))]; exact ⟨h1,h2⟩
theorem KV.put {kvs:List (κ × V)} {vs:List (κ × Value)} (r:KV kvs vs) (k:κ) {y:V} {u:Value} (ry:zJ y u):KV (wt kvs k y) (stored vs k u):=by
 unfold wt stored
 rw [r.any k]
 by_cases e:(vs.any fun kv=>decide (kv.1=k))=true
 ·rw [if_pos e,if_pos e]; exact r.repl k ry
 ·rw [if_neg e,if_neg e]; exact Paired.snoc r ⟨rfl,ry⟩
theorem KV.length {kvs:List (κ × V)} {vs:List (κ × Value)} (r:KV kvs vs):kvs.length=vs.length:=Paired.length r
end
theorem Zu {P:Program} {w:World} {k:To} {u:Value} (r:zJ (kV k) u):(zB P w).is k u=true:=by
 cases k with
 | inl i=>obtain ⟨t,e⟩:=(show ∃ t,u=Value.int i t from r); subst e; exact sd P w i t
 | inr x=>obtain ⟨t,e⟩:=(show ∃ t,u=Value.str x t from r); subst e; exact sf P w x t
theorem uW {P:Program} {w:World}:∀ {ks:List To} {us:List Value},zC (ks.map kV) us->ItemsAre (zB P w) ks us
 | [],_,r=>by rw [List.map_nil] at r; cases r; exact .nil
 | k :: ks,_,r=>by
  rw [List.map_cons] at r
  cases r with
  | cons h t=>exact .cons (Zu h) (uW t)
abbrev KT (H:Hp):List (List To × V)->List (List To × Addr × Value)->Prop:=Paired fun p q=>p.1=q.1 /\ H q.2.1=some (.tup (p.1.map kV)) /\ zJ p.2 q.2.2
theorem KT.val {H:Hp} {kvs:List (List To × V)} {xs:List (List To × Addr × Value)} (r:KT H kvs xs) (k:List To):qF (uC kvs k) ((atKey xs k).map (·.2)):=by
 induction r with
 | nil=>exact True.intro
 | @cons p q ps qs h t ih =>
  obtain ⟨h1,_,h2⟩:=h
  by_cases e:p.1=k
  ·have e':q.1=k:=h1.symm.trans e
   have b:atKey (q :: qs) k=some q.2:=by simp [atKey,List.find?_cons,e']
   rw [xT e,b]; exact h2
  ·have e':¬ q.1=k:=fun z=>e (h1.trans z)
   have b:atKey (q :: qs) k=atKey qs k:=by simp [atKey,List.find?_cons,e']
   rw [xi e,b]; exact ih
theorem KT.repl {H:Hp} {kvs:List (List To × V)} {xs:List (List To × Addr × Value)} (r:KT H kvs xs) (k:List To) {y:V} {u:Value} (ry:zJ y u) :
  KT H (kvs.map fun kv=>if kv.1=k then (kv.1,y) else kv) (xs.map (putAt k u)):=by
 induction r with
 | nil=>exact .nil
 | @cons p q ps qs h t ih =>
  rw [List.map_cons,List.map_cons]
  refine .cons ?_ ih
  obtain ⟨h1,h2,h3⟩:=h
  unfold putAt
  by_cases e:p.1=k
  ·rw [if_pos e,if_pos (h1.symm.trans e)]; exact ⟨h1,h2,ry⟩
  ·rw [if_neg e,if_neg (fun z=>e (h1.trans z))]; exact ⟨h1,h2,h3⟩
theorem KT.put {H:Hp} {kvs:List (List To × V)} {xs:List (List To × Addr × Value)} (r:KT H kvs xs) (k:List To) {b:Addr} {y:V} {u:Value} (hb:H b=some (.tup (k.map kV))) (ry:zJ y u) :
  KT H (wt kvs k y) (storedH xs k b u):=by
 have e:(kvs.any fun kv=>decide (kv.1=k))=(atKey xs k).isSome:=by
  rw [uf,(r.val k).isSome_eq,Option.isSome_map]
 unfold wt storedH
 rw [e]
 by_cases q:(atKey xs k).isSome=true
 ·rw [if_pos q,if_pos q]; exact r.repl k ry
 ·rw [if_neg q,if_neg q]; exact Paired.snoc r ⟨rfl,hb,ry⟩
theorem KT.keeps {H H':Hp} {kvs:List (List To × V)} {xs:List (List To × Addr × Value)} (r:KT H kvs xs) (ht:∀ b ys,H b=some (.tup ys)->H' b=some (.tup ys)):KT H' kvs xs :=
 Paired.mapP r fun _ _ z=>⟨z.1,ht _ _ z.2.1,z.2.2⟩
section
variable {P:Program} {w:World} {H:Hp} {h:Heap} {a:Addr}
theorem Vv {u:HO} (ok:Tq P w H h) (e:Rd H a u):zL P w H h a u:=e.ok ok
theorem ja {kvs:List (To × V)} (ok:Tq P w H h) (e:Rd H a (.dK kvs)):kvs.length<=sizeLine /\ (a == sysModules)=false /\ ∃ vs,KV kvs vs /\ h.DictOf (zB P w) a vs :=
 show zL P w H h a (.dK kvs) from Vv ok e
theorem Up {kvs:List (To × V)} (ok:Tq P w H h) (e:H a=some (.dK kvs)):kvs.length<=sizeLine /\ (a == sysModules)=false /\ ∃ vs,KV kvs vs /\ h.DictOf (zB P w) a vs:=ja ok (.inl e)
theorem xz {ks:List To} (ok:Tq P w H h) (e:H a=some (.tup (ks.map kV))):(tupleKind (zB P w)).is h ks a:=by
 obtain ⟨_,its,r,o,h1,h2,n,h3⟩:=(show zL P w H h a (.tup (ks.map kV)) from ok a _ e)
 exact ⟨o,its.toArray,n,h1,h2,h3,by simpa using uW r⟩
theorem jb {kvs:List (List To × V)} (ok:Tq P w H h) (e:Rd H a (.dT kvs)):kvs.length<=sizeLine /\ (a == sysModules)=false ∧
  ∃ xs,KT H kvs xs /\ h.DictOfH (tupleKind (zB P w)) a xs:=by
 obtain ⟨z,y,xs,r,o,es,ep,h1,h2,h3,h4,h5⟩:=(show zL P w H h a (.dT kvs) from Vv ok e)
 refine ⟨z,y,xs,r,o,es,ep,h1,h2,h3,h4,fun x hx=>?_,h5⟩
 have all:∀ {l:List (List To × V)} {m:List (List To × Addr × Value)},KT H l m -> ∀ x ∈ m,(tupleKind (zB P w)).is h x.1 x.2.1:=by
  intro l m q
  induction q with
  | nil=>intro x hx; exact nomatch hx
  | @cons p q ps qs hq t ih =>
   intro x hx
   rcases List.mem_cons.mp hx with e | hx
   ·subst e
    exact xz ok (by rw [← hq.1]; exact hq.2.1)
   ·exact ih x hx
 exact all r x hx
theorem Zv {kvs:List (List To × V)} (ok:Tq P w H h) (e:H a=some (.dT kvs)):kvs.length<=sizeLine /\ (a == sysModules)=false ∧
  ∃ xs,KT H kvs xs /\ h.DictOfH (tupleKind (zB P w)) a xs:=jb ok (.inl e)
end
def uX (H:Hp) (a:Addr) (y:V) (r:Option V):Prop :=
 (∃ kvs k,Rd H a (.dK kvs) /\ y=kV k /\ r=uC kvs k) \/ ∃ kvs k b,Rd H a (.dT kvs) /\ y = .ref b /\ H b=some (.tup (k.map kV)) /\ r=uC kvs k
def WM (H:Hp) (a:Addr) (y v:V) (H':Hp):Prop :=
 (∃ kvs k,H a=some (.dK kvs) /\ y=kV k /\ kvs.length < sizeLine /\ H' = Tp H a (.dK (wt kvs k v))) ∨
 ∃ kvs k b,H a=some (.dT kvs) /\ y = .ref b /\ H b=some (.tup (k.map kV)) /\ kvs.length < sizeLine /\ H' = Tp H a (.dT (wt kvs k v))
theorem uX.t {H:Hp} {a b:Addr} {kvs:List (List To × V)} {k:List To} (e:H a=some (.dT kvs)) (eb:H b=some (.tup (k.map kV))):uX H a (.ref b) (uC kvs k):=.inr ⟨kvs,k,b,.inl e,rfl,eb,rfl⟩
theorem WM.t {H:Hp} {a b:Addr} {kvs:List (List To × V)} {k:List To} {v:V} (e:H a=some (.dT kvs)) (eb:H b=some (.tup (k.map kV))) (hl:kvs.length < sizeLine) :
  WM H a (.ref b) v (Tp H a (.dT (wt kvs k v))):=.inr ⟨kvs,k,b,e,rfl,eb,hl,rfl⟩
section
variable {X:Cx} {pins:List (Addr × Obj)} {σ:St} {H:Hp} {s:Shared} {a:Addr} {y v:V} {u r:Value} {o:Option V} {A:Around} {E:Tn}
theorem Inv.big (I:Inv X pins σ H s):sysModules < s.heap.objs.size:=by
 have h:mainGlobals < s.heap.objs.size:=(I.mod.glob.keeps I.bk).lt
 exact Nat.lt_trans (by decide) h
theorem Zw {Q:Tn} (hu:A.units+1 < cLine) (I:Inv X pins σ H s) (g:uX H a y (some v)) (ry:zJ y u) (h:∀ w' s',Inv X pins σ H s' -> zJ v w' -> Q w' s') :
  wpAny (model X.prog X.w) A (getItem (.ref a) u) Q E s:=by
 rcases g with ⟨kvs,k,e,ey,l⟩ | ⟨kvs,k,b,e,ey,eb,l⟩
 ·subst ey
  obtain ⟨z,hd,vs,rel,dd⟩:=ja I.hok e
  obtain ⟨w',hw,rw'⟩:=qF.some_of (v:=v) (o:=valueAt vs k) (by rw [l]; exact rel.val k)
  exact wpAny_getItem_of (Zu ry) dd.mapOf hw (h w' _ (I.tok _) rw')
 ·subst ey
  cases (show u=Value.ref b from ry)
  obtain ⟨z,hd,xs,rel,dd⟩:=jb I.hok e
  obtain ⟨w',hw,rw'⟩:=qF.some_of (v:=v) (o:=(atKey xs k).map (·.2)) (by rw [l]; exact rel.val k)
  obtain ⟨p,hp,hp2⟩:=Option.map_eq_some_iff.mp hw
  refine wpAny_getItem_heap (tupleKind_room_in1 hu) (xz I.hok eb) dd hp ?_
  rw [hp2]
  exact h w' _ (I.tok _) rw'
theorem Wl {Q:Tn} (hu:A.units+1 < cLine) (I:Inv X pins σ H s) (g:uX H a y o) (ry:zJ y u) (h:∀ s',Inv X pins σ H s' -> Q (.bool (!o.isSome)) s') :
  wpAny (model X.prog X.w) A (compareOp .NotIn u (.ref a)) Q E s:=by
 rcases g with ⟨kvs,k,e,ey,l⟩ | ⟨kvs,k,b,e,ey,eb,l⟩
 ·subst ey
  obtain ⟨z,hd,vs,rel,dd⟩:=ja I.hok e
  refine wpAny_notIn_of (Zu ry) hd dd.mapOf ?_
  rw [← (rel.val k).isSome_eq,← l]
  exact h _ (I.tok _)
 ·subst ey
  cases (show u=Value.ref b from ry)
  obtain ⟨z,hd,xs,rel,dd⟩:=jb I.hok e
  refine wpAny_notIn_heap (tupleKind_room_in1 hu) (xz I.hok eb) hd dd ?_
  have q:=(rel.val k).isSome_eq
  rw [Option.isSome_map] at q
  rw [← q,← l]
  exact h _ (I.tok _)
theorem sN {h':Heap} {t':Nat} {ob:HO} (I:Inv X pins σ H s) (mu:Tr (H a)) (hs:Heap.SameBut a s.heap h') (he:∃ q,h'.get? a=some q) (new:zL X.prog X.w (Tp H a ob) h' a ob) :
  Inv X pins σ (Tp H a ob) { s with heap:=h',toks:=t' } :=
 I.write (x:=a) (e:=a) mu (.inl rfl) (fun b q hb z=>(hs.2 b hb).trans z) he new
theorem Vw {P:Program} {w:World} {H':Hp} {h':Heap} {kvs:List (To × V)} {vs:List (To × Value)} (z:kvs.length<=sizeLine) (hd:(a == sysModules)=false) (rel:KV kvs vs) (dd:h'.DictOf (zB P w) a vs) :
  zL P w H' h' a (.dK kvs):=⟨z,hd,vs,rel,dd⟩
theorem Zx {H':Hp} {Q:Unit->Shared->Prop} (hu:A.units+1 < cLine) (I:Inv X pins σ H s) (g:WM H a y v H') (ry:zJ y u) (rv:zJ v r) (h:∀ s',Inv X pins σ H' s' -> Q () s') :
  wpAny (model X.prog X.w) A (setItem (.ref a) u r) Q E s:=by
 rcases g with ⟨kvs,k,e,ey,l,eH⟩ | ⟨kvs,k,b,e,ey,eb,l,eH⟩
 ·subst ey eH
  obtain ⟨z,hd,vs,rel,dd⟩:=Up I.hok e
  have hz:vs.length<=sizeLine:=by rw [← rel.length]; exact z
  have hl:(wt kvs k v).length<=sizeLine:=by have:=yM kvs k v; omega
  refine wpAny_setItem_pairs (hsz:=hz) (Zu ry) dd fun h' dd' hs=>h _ ?_
  have he:∃ q,h'.get? a=some q:=let ⟨q,_,_,hq,_⟩:=dd'; ⟨q,hq⟩
  exact sN I (by rw [e]; exact True.intro) hs he (Vw hl hd (rel.put k rv) dd')
 ·subst ey eH
  cases (show u=Value.ref b from ry)
  obtain ⟨z,hd,xs,rel,dd⟩:=Zv I.hok e
  have hz:xs.length<=sizeLine:=by rw [← Paired.length rel]; exact z
  have hl:(wt kvs k v).length<=sizeLine:=by have:=yM kvs k v; omega
  refine wpAny_setItem_heap (hsz:=hz) (tupleKind_room_in1 hu) (xz I.hok eb) dd fun h' dd' hs=>h _ ?_
  obtain ⟨q,es,ep,hq,h2,h3,h4,_,h5⟩:=dd'
  refine sN I (by rw [e]; exact True.intro) hs ⟨q,hq⟩ ⟨hl,hd,_,(rel.put k eb rv).keeps fun c ys ec=>?_,q,es,ep,hq,h2,h3,h4,h5⟩
  rw [zj (WR ec e (fun z=>nomatch z))]
  exact ec
end
def UP (i:Expr):Prop:=∀ ov iv,subscripted i false ov iv=operate [ov,iv] (getItem ov iv)
theorem Wm {prog:Program} {w:World} {A:Around} {E:Tn} {s:Shared} {env:Env} {value slice:Expr} {pos:Pos} {T id:String} {Q:Tn}
  (hl:typeLookup (.type T) "__getitem__" = pure (some (.builtin id))) (hs:UP slice)
  (h:wpAny (model prog w) A (eval value env) (fun o s₁=>wpAny (model prog w) A (eval slice env) (fun i s₂=>s₂.TypeIs o T /\ wpAny (model prog w) A (getItem o i) Q E s₂) E s₁) E s) :
  wpAny (model prog w) A (eval (.Subscript value slice pos) env) Q E s:=by
 refine Subscript_ (wpAny_mono h (fun o s₁ h₁=>wpAny_mono h₁ (fun i s₂ h₂=>?_) fun _ _ x=>x) fun _ _ x=>x)
 obtain ⟨hT,h₂⟩:=h₂
 unfold subscriptTail
 refine wpAny_bind ?_
 rw [getitemInPython_of_ne hT.not_modules]
 refine wpAny_bind (wpAny_specialOf hT hl ?_)
 have fin:wpAny (model prog w) A (subscripted slice false o i) (fun r s₃=>wpAny (model prog w) A (letTemporaryGo value o r >>= fun _=>pure r) Q E s₃) E s₂:=by
  rw [hs o i]
  exact wpAny_operating (wpAny_mono h₂ (fun r s₃ h₃=>wpAny_bind (wpAny_letTemporaryGo (wpAny_pure h₃))) fun _ _ x=>x)
 first
  | exact wpAny_pure (wpAny_bind fin)
  | exact wpAny_bind (wpAny_pure (wpAny_bind fin))
  | exact wpAny_bind fin
theorem sO {X:Cx} {pins:List (Addr × Obj)} {σ:St} {H:Hp} {s:Shared} {a:Addr} {y:V} {o:Option V} (I:Inv X pins σ H s) (g:uX H a y o):s.TypeIs (.ref a) "dict":=by
 rcases g with ⟨kvs,k,e,_,_⟩ | ⟨kvs,k,b,e,_,_,_⟩
 ·obtain ⟨_,_,vs,_,dd⟩:=ja I.hok e
  exact dd.typeIs
 ·obtain ⟨_,_,xs,_,dd⟩:=jb I.hok e
  exact dd.typeIs
def Uq (td ty:TE):TE:=fun σ H Q=>td σ H fun x H1=>ty σ H1 fun y H2=>∃ a v,x = .ref a /\ uX H2 a y (some v) /\ Q v H2
def Wn (ty td:TE):TE:=fun σ H Q=>ty σ H fun y H1=>td σ H1 fun x H2=>∃ a o,x = .ref a /\ uX H2 a y o /\ Q (.bl (!o.isSome)) H2
def Ur (td ty tv:TE):TS:=fun D σ H=>tv σ H fun v H1=>td σ H1 fun x H2=>ty σ H2 fun y H3=>∃ a H4,x = .ref a /\ WM H3 a y v H4 /\ D.nx σ H4
section
variable {X:Cx} {o i e value:Expr} {pos pos' tpos:Pos} {td ty tv:TE}
theorem sP (hu:X.A.units+1 < cLine) (ho:PE X o td) (hi:PE X i ty) (hs:UP i):PE X (.Subscript o i pos) (Uq td ty):=by
 intro pins s σ H Q I h
 refine Wm PySem.F.slot_dict_getitem.lookup hs (Tx (ho pins s σ H _ I h) fun u s1 ⟨x,H1,I1,rx,q1⟩=>Tx (hi pins s1 σ H1 _ I1 q1) fun iv s2 ⟨y,H2,I2,ry,a,v,ex,g,q2⟩=>?_)
 subst ex
 obtain rfl:u=Value.ref a:=rx
 exact ⟨sO I2 g,Zw hu I2 g ry fun w' s3 I3 rw'=>⟨v,H2,I3,rw',q2⟩⟩
theorem uY (hu:X.A.units+1 < cLine) (hi:PE X i ty) (ho:PE X o td):PC X .NotIn i o (Wn ty td):=by
 intro pins s σ H Q I h
 refine Tx (hi pins s σ H _ I h) fun iv s1 ⟨y,H1,I1,ry,q1⟩=>Tx (ho pins s1 σ H1 _ I1 q1) fun u s2 ⟨x,H2,I2,rx,a,ov,ex,g,q2⟩=>?_
 subst ex
 obtain rfl:u=Value.ref a:=rx
 exact Wl hu I2 g ry fun s3 I3=>⟨.bl (!ov.isSome),H2,I3,rfl,q2⟩
theorem Zy (hu:X.A.units+1 < cLine) (ho:PE X o td) (hi:PE X i ty) (hv:PE X value tv) (hs:swapsWith value (some (.Subscript o i pos')) pos.line X.env=pure false) :
  PS X (.Assign [.Subscript o i pos'] value pos) (Ur td ty tv):=by
 intro pins s σ H D I h
 refine wpAny_Assign_Subscript (Tx (hv pins s σ H _ I h) fun r s1 ⟨v,H1,I1,rv,q1⟩=>Tx (ho pins s1 σ H1 _ I1 q1) fun u s2 ⟨x,H2,I2,rx,q2⟩=>Tx (hi pins s2 σ H2 _ I2 q2) fun iv s3 ⟨y,H3,I3,ry,a,H4,ex,g,q3⟩=>?_) hs
 subst ex
 obtain rfl:u=Value.ref a:=rx
 exact Zx hu I3 g ry rv fun s4 I4=>⟨σ,H4,I4,q3⟩
end
theorem ug {P:Program} {w:World} {H:Hp} (h:Heap) (hb:sysModules < h.objs.size):zL P w H (h.push { cls:=.type "dict",data:=.dict #[] }) h.objs.size (.dT []) :=
 ⟨Nat.zero_le _,beq_eq_false_iff_ne.mpr (Ne.symm (Nat.ne_of_lt hb)),[],.nil,_,#[],0,Heap.get?_push_size _ rfl,⟨rfl,rfl,rfl⟩,rfl,rfl,List.nodup_nil⟩
structure M1 (X:Cx) (o:Expr) (m:Str) (apos:Pos) (e:Expr) (cpos:Pos):Prop where
 base:attributeBase o m X.env (eval o X.env)=eval o X.env
 few:((backTo cpos (starEach [e] X.env)).all (fun x=>!x.1) && (backToKw cpos (keywordEach [] X.env)).all (fun x=>x.1.isSome)
  && decide (([e]:List Expr).length+([]:List Keyword).length+(if ([]:List Keyword).isEmpty then 0 else 1) < 30))=true
 line:(apos.endLine == cpos.line)=true
 trees:backTo cpos (starEach [e] X.env)=[(false,eval e X.env)]
def SI (H:Hp) (a:Addr):Prop:=(∃ kvs,Rd H a (.dK kvs)) \/ ∃ kvs,Rd H a (.dT kvs)
theorem Vx {X:Cx} {pins:List (Addr × Obj)} {σ:St} {H:Hp} {s:Shared} {a:Addr} (I:Inv X pins σ H s) (d:SI H a) :
  s.TypeIs (.ref a) "dict" /\ (∀ b,Value.ref a = .ref b -> ∃ ob,s.heap.get? b=some ob /\ ob.dict=none) /\ (a == sysModules)=false:=by
 rcases d with ⟨kvs,e⟩ | ⟨kvs,e⟩
 ·obtain ⟨_,hd,vs,_,dd⟩:=ja I.hok e
  refine ⟨dd.typeIs,fun b q=>?_,hd⟩
  cases q
  obtain ⟨ob,_,_,h1,h2,_⟩:=dd
  exact ⟨ob,h1,h2.2.1⟩
 ·obtain ⟨_,hd,xs,_,dd⟩:=jb I.hok e
  refine ⟨dd.typeIs,fun b q=>?_,hd⟩
  cases q
  obtain ⟨ob,_,_,h1,h2,_⟩:=dd
  exact ⟨ob,h1,h2.2.1⟩
section
variable {X:Cx} {pins:List (Addr × Obj)} {σ:St} {H:Hp} {s:Shared} {a:Addr} {y d:V} {u r:Value} {o:Option V} {A:Around} {E:Tn}
theorem Vy {Q:Tn} (hu:A.units+1 < cLine) (I:Inv X pins σ H s) (g:uX H a y o) (ry:zJ y u) (h:∀ w' s',Inv X pins σ H s' -> zJ (o.getD .non) w' -> Q w' s') :
  wpAny (model X.prog X.w) A (call (.builtin "dict.get") [.ref a,u]) Q E s:=by
 rcases g with ⟨kvs,k,e,ey,l⟩ | ⟨kvs,k,b,e,ey,eb,l⟩
 ·subst ey
  obtain ⟨z,hd,vs,rel,dd⟩:=ja I.hok e
  refine call_meetsIn PySem.F.slot_dict_get dd.typeIs PySem.F.entry_dict_get (PySem.F.args_dict_get_2 _ _) (meets_dict_get (zB X.prog X.w) a (Zu ry) hd) ⟨_,dd.mapOf,h _ _ (I.tok _) ?_⟩
  rw [l]
  exact (rel.val k).getD rfl
 ·subst ey
  cases (show u=Value.ref b from ry)
  obtain ⟨z,hd,xs,rel,dd⟩:=jb I.hok e
  refine call_meetsIn PySem.F.slot_dict_get dd.typeIs PySem.F.entry_dict_get (PySem.F.args_dict_get_2 _ _) (meetsH_dict_get (tupleKind (zB X.prog X.w)) a b hd) ⟨tupleKind_room_in1 hu,k,xs,xz I.hok eb,dd,h _ _ (I.tok _) ?_⟩
  rw [l]
  exact (rel.val k).getD rfl
end
def Vz (td ty:TE):TE:=fun σ H Q=>td σ H fun x H1=>∃ a,x = .ref a /\ SI H1 a /\ ty σ H1 fun y H2=>∃ o,uX H2 a y o /\ Q (o.getD .non) H2
section
variable {X:Cx} {o e f:Expr} {apos cpos:Pos} {td ty tx:TE}
theorem YT (hu:X.A.units+1 < cLine) (ho:PE X o td) (he:PE X e ty) (m:M1 X o "get" apos e cpos):PE X (.Call (.Attribute o "get" apos) [e] [] cpos) (Vz td ty):=by
 intro pins s σ H Q I h
 refine wpAny_Call_method m.base m.few m.line PySem.F.plainAttrs_dict PySem.F.slot_dict_get PySem.F.type_dict_get (Tx (ho pins s σ H _ I h) fun u s1 ⟨x,H1,I1,rx,a,ex,d,q1⟩=>?_)
 subst ex
 obtain rfl:u=Value.ref a:=rx
 obtain ⟨t1,t2,_⟩:=Vx I1 d
 refine ⟨t1,t2,?_⟩
 rw [m.trees]
 refine Calls.callWith_builtin rfl (Calls.evalArgs_plain (Calls.spliced_cons (Tx (he pins s1 σ H1 _ I1 q1) fun iv s2 ⟨y,H2,I2,ry,ov,g,q2⟩=>Calls.spliced_nil ?_)))
 exact Vy hu I2 g ry fun w' s3 I3 rw'=>⟨_,H2,I3,rw',q2⟩
end
end L2
namespace Att
open PySem PySem.W PySem.Calls PyProof.Rows
end Att
namespace L2
open PySem PySem.Spec PyProof.Rows
end L2
namespace L3
open PySem PySem.Spec PyProof.Rows L2
section
variable {prog:Program} {w:World} {κ:Type} [DecidableEq κ] {knd:HeapKind prog w κ} {A:Around} {E:Tn} {s:Shared}
theorem jc (d:Addr) (hd:(d == sysModules)=false) :
  MeetsIn prog w (Builtin.«dict.__len__» ⟨[.ref d],[]⟩) (fun _ R s=>∃ xs,s.heap.DictOfH knd d xs /\ R (.ok (.ret (.int xs.length s.toks))) { s with toks:=s.toks+1 }) :=
 .of_wp fun A R s ⟨xs,hm,h⟩=>by
  obtain ⟨o,es,ep,ho,hc,hdat,he,_,_⟩:=hm
  show wpAny _ _ (dictSize d >>= _) _ _ s
  unfold dictSize
  refine wpAny_bind (wpAny_bind (wpAny_dictEntries ho hdat (wpAny_pure ?_)))
  show wpAny _ _ (Builtin.Dict.pendingCount d >>= _) _ _ s
  refine wpAny_bind (wpAny_pendingCount_other hd ?_)
  refine wpAny_ret_mkInt ?_
  rw [Nat.add_zero,size_of_entries he]; exact h
theorem Zz {d:Addr} {xs:List (κ × Addr × Value)} {Q:Tn} (hd:(d == sysModules)=false) (hm:s.heap.DictOfH knd d xs) (hfit:(xs.length:Int) < 2 ^ 63)
  (h:Q (.int xs.length (s.toks+1)) { s with toks:=s.toks+1+1 }):wpAny (model prog w) A (Builtin.«len» ⟨[.ref d],[]⟩) (fun fin s'=>∃ r,fin = .done (.ret r) /\ Q r s') E s:=by
 unfold Builtin.«len»
 refine wpAny_bind (m:=oneArg "len" _) (wpAny_pure ?_)
 refine wpAny_bind (m:=callSpecial? (.ref d) (Str.ofString "__len__")) (wpAny_callSpecial?_slot (name:=Str.ofString "__len__") hm.typeIs F.slot_dict_len
  (call_meetsIn F.slot_dict_len hm.typeIs F.entry_dict_len (F.args_dict_len_1 _) (jc (knd:=knd) d hd) ⟨xs,hm,?_⟩))
 show wpAny _ _ _ _ _ { s with toks:=s.toks+1 }
 refine wpAny_bind (wpAny_holding (wpAny_pure ?_))
 refine wpAny_bind (wpAny_letGo ?_)
 show wpAny _ _ (if ((xs.length:Nat):Int) < 0 then _ else _) _ _ _
 rw [if_neg (by omega)]
 show wpAny _ _ (if ((xs.length:Nat):Int) >= 2 ^ 63 then _ else _) _ _ _
 rw [if_neg (by omega)]
 exact wpAny_bind (wpAny_mkInt (wpAny_pure ⟨_,rfl,h⟩))
end
section
variable {X:Cx}
theorem wf:yw X (.builtin "len") (fun xs H Q=>∃ a kvs,xs=[V.ref a] /\ H a=some (.dT kvs) /\ Q (.int kvs.length) H):=by
 intro pins s σ H xs us Q I r h
 obtain ⟨a,kvs,rfl,ha,q⟩:=h
 obtain ⟨u,rfl,ru⟩:=xE r
 cases ru
 obtain ⟨z,hd,ys,rel,dd⟩:=Zv I.hok ha
 have hl:kvs.length=ys.length:=Paired.length rel
 refine Calls.call_function_entry kind_len plain_len entry_len (args_len1 _) (Zz hd dd (by rw [← hl]; rw [sizeLine_eq] at z; omega) ?_)
 rw [← hl]
 exact ⟨.int kvs.length,H,I.tok _,⟨_,rfl⟩,q⟩
end
def Wo (tk tv:TE):TE:=fun σ H Q=>∀ p,H p=none->tk σ (Tp H p (.dT [])) fun y H1=>tv σ H1 fun v H2=>H2 p=some (.dT []) /\ ∃ b ks,y = .ref b /\ H2 b=some (.tup (ks.map kV)) /\ Q (.ref p) (Tp H2 p (.dT [(ks,v)]))
section
variable {X:Cx} {pos:Pos} {k v:Expr} {tk tv:TE}
theorem uZ (hu:X.A.units+1 < cLine) (hk:PE X k tk) (hv:PE X v tv):PE X (.Dict [some k] [v] pos) (Wo tk tv):=by
 intro pins s σ H Q I q
 have hn:=I.hok.fresh (Nat.le_refl s.heap.objs.size)
 have I1:=I.laid (a:=s.heap.objs.size) (o:=.dT []) (h':=s.heap.push { cls:=.type "dict",data:=.dict #[] }) (t':=s.toks) (fun _ _ q=>Heap.get?_push_of_some _ q) (Nat.le_refl _) (ug s.heap I.big)
 rw [arm_eval_Dict,zip_pairTrees [some k] [v] X.env pos rfl rfl,dictDisplay_pairs (pairTrees [some k] [v] X.env pos) (by intro z; cases z) (show 1 < 17 by decide)]
 refine wpAny_bind (wpAny_standAt (wpAny_bind ?_))
 unfold subDict
 refine wpAny_bind (wpAny_alloc ?_)
 refine wpAny_bind (wpAny_holding ?_)
 rw [if_pos (show (pairTrees [some k] [v] X.env pos).length<=15 from (show 1<=15 by decide))]
 refine wpAny_bind (pairTrees_cons_walk (Tx (hk pins _ σ _ _ I1 (q _ hn)) fun kv s1 ⟨y,H1,I2,ry,q1⟩=>Tx (hv pins s1 σ H1 _ I2 q1) fun vv s2 ⟨vV,H2,I3,rv,e,b,ks,ey,eb,q2⟩=>pairTrees_nil_walk ?_))
 subst ey
 cases (show kv=Value.ref b from ry)
 obtain ⟨z,hd,xs,rel,dd⟩:=Zv I3.hok e
 cases rel
 refine wpAny_holding ?_
 rw [List.forIn_cons]
 refine wpAny_bind (wpAny_bind (wpAny_bind (wpAny_dictSet_heap (hsz:=Nat.zero_le _) (show (tupleKind (zB X.prog X.w)).room X.A from Nat.lt_of_succ_lt hu) (xz I3.hok eb) dd fun h' dd' hs=>wpAny_pure ?_)))
 show wpAny _ _ (forIn [] _ _) _ _ _
 rw [List.forIn_nil]
 first
  | refine wpAny_pure (wpAny_pure (wpAny_pure (wpAny_pure ⟨.ref s.heap.objs.size,_,?_,rfl,q2⟩)))
  | refine wpAny_pure (wpAny_pure (wpAny_pure ⟨.ref s.heap.objs.size,_,?_,rfl,q2⟩))
 obtain ⟨qo,es,ep,hq,h2,h3,h4,_,h5⟩:=dd'
 refine sN I3 (by rw [e]; exact True.intro) hs ⟨qo,hq⟩ ⟨by show 1<=_; rw [sizeLine_eq]; decide,hd,_,(KT.put .nil ks eb rv).keeps fun c ys ec=>?_,qo,es,ep,hq,h2,h3,h4,h5⟩
 rw [zj (WR ec e (fun z=>nomatch z))]
 exact ec
end
open PySem PySem.Spec PyProof.Rows L2 PySem.W
def yU (es:Array DictEntry) (d:Addr) (ep:Nat) (h:Heap):Prop:=∃ o,h.get? d=some o /\ o.ExactDict /\ o.data = .dict es ep
section
variable {prog:Program} {w:World} {A:Around} {E:Tn} {s:Shared} {es:Array DictEntry} {d it:Addr} {ep i:Nat}
theorem yU.typeIs (h:yU es d ep s.heap):s.TypeIs (.ref d) "dict":=let ⟨o,ho,hc,_⟩:=h; ⟨o,ho,hc.1⟩
theorem yU.keep {h h':Heap} (x:yU es d ep h) (e:∀ o,h.get? d=some o->h'.get? d=some o):yU es d ep h':=let ⟨o,ho,r⟩:=x; ⟨o,e o ho,r⟩
theorem YU {Q:Tn} (hd:(d == sysModules)=false) (hm:yU es d ep s.heap)
  (hQ:Q (.ref s.heap.objs.size) { s with heap:=s.heap.push { cls:=.type "dict_keyiterator",data:=.fields #[.ref d,.int 0 0,.int es.size 0,.int ep 0] } }) :
  wpAny (model prog w) A (pyIter (.ref d)) Q E s:=by
 obtain ⟨o,ho,hc,hdat⟩:=id hm
 have hT:s.TypeIs (.ref d) "dict":=hm.typeIs
 refine wpAny_pyIter_slot hT PySem.F.slot_dict_iter (wpAny_call_entry PySem.F.slot_dict_iter hT PySem.F.entry_dict_iter ?_ (PySem.F.args_dict_iter_1 _))
 unfold Builtin.«dict.__iter__»
 refine wpAny_bind ?_
 unfold Builtin.Dict.dictSlotNone
 refine wpAny_bind (wpAny_notOrdered_dict hT ?_)
 show wpAny _ _ (pure (Value.ref d)) _ _ s
 refine wpAny_pure ?_
 show wpAny _ _ (Builtin.Dict.showsAll d >>= _) _ _ s
 unfold Builtin.Dict.showsAll
 rw [if_neg (by rw [hd]; exact Bool.false_ne_true)]
 refine wpAny_bind (wpAny_pure ?_)
 refine wpAny_bind (wpAny_dictEntries ho hdat ?_)
 refine wpAny_bind (wpAny_dictEpoch ho hdat ?_)
 refine wpAny_bind (wpAny_newObj_type (wpAny_pure ⟨_,rfl,"dict_keyiterator",_,⟨_,Heap.get?_push_size _ rfl,rfl⟩,PySem.F.slot_dict_keyiterator_next.lookup,?_⟩))
 simpa [rawInt] using hQ
theorem YV {Q:Option Value->Shared->Prop} (hit:s.heap.IsKeyIter it d i es.size ep) (hm:yU es d ep s.heap) (hlt:i < es.size)
  (hQ:∀ h',h'.IsKeyIter it d (i+1) es.size ep->Heap.SameBut it s.heap h' -> Q (some es[i].key) { s with heap:=h' }) :
  wpAny (model prog w) A (pyNext (.ref it)) Q E s:=by
 obtain ⟨o,ho,hc,hd⟩:=id hit
 obtain ⟨od,hod,hcd,hdd⟩:=id hm
 unfold pyNext
 refine wpAny_bind (wpAny_attempt (wpAny_callSpecial?_slot (name:=Str.ofString "__next__") hit.typeIs PySem.F.slot_dict_keyiterator_next
  (wpAny_call_entry PySem.F.slot_dict_keyiterator_next hit.typeIs PySem.F.entry_dict_keyiterator_next ?_ (PySem.F.args_dict_keyiterator_next_1 _))))
 refine wpAny_bind (wpAny_pure ?_)
 refine wpAny_bind ?_
 refine wpAny_bind ?_
 first | refine wpAny_bind (wpAny_typeNameOfWhole_keyiter hit.typeIs (wpAny_pure ?_)) | refine wpAny_bind (wpAny_typeNameOf_keyiter hit.typeIs (wpAny_pure ?_))
 refine wpAny_bind (wpAny_fieldsOf ho hd ?_)
 have hown:Builtin.Dict_items.ownsTuple "dict_keyiterator" = false:=by decide
 simp only [hown,Bool.false_eq_true,if_false]
 show wpAny _ _ (if (Value.ref d == Value.none)=true then _ else _) _ _ s
 rw [if_neg (show ¬ ((Value.ref d == Value.none)=true) from Bool.false_ne_true)]
 refine wpAny_bind (wpAny_pure ?_)
 refine wpAny_bind (wpAny_dictEntries hod hdd ?_)
 rw [if_neg (by simp)]
 refine wpAny_bind (wpAny_pure ?_)
 refine wpAny_bind (wpAny_dictEpoch hod hdd ?_)
 rw [if_neg (by simp)]
 refine wpAny_pure ?_
 simp only [show ¬ ((i:Int) < 0) from by omega,if_false,Int.toNat_natCast,Array.getElem?_eq_getElem hlt]
 refine wpAny_bind ?_
 first | refine wpAny_bind (wpAny_typeNameOfWhole_keyiter hit.typeIs (wpAny_pure ?_)) | refine wpAny_bind (wpAny_typeNameOf_keyiter hit.typeIs (wpAny_pure ?_))
 refine wpAny_bind (wpAny_isOneOf_keyiter hit.typeIs ?_)
 show wpAny _ _ (setField (.ref it) 1 (rawInt ((i:Int)+1)) >>= _) _ _ s
 refine wpAny_bind (wpAny_setField ho hd (by simp) ?_)
 have hit':(s.heap.update it (Obj.mapFields (·.setIfInBounds 1 (rawInt ((i:Int)+1))))).IsKeyIter it d (i+1) es.size ep :=
  ⟨_,Heap.get?_update_self _ ho (Obj.isFreed_of_fields (Obj.data_mapFields hd _)),(Obj.cls_mapFields ..).trans hc,by rw [Obj.data_mapFields hd]; simp [rawInt]⟩
 refine wpAny_bind (wpAny_holding ?_)
 refine wpAny_bind (wpAny_isOneOf_keyiter (s:={ s with heap:=s.heap.update it (Obj.mapFields (·.setIfInBounds 1 (rawInt ((i:Int)+1)))) }) hit'.typeIs ?_)
 show wpAny _ _ (pure es[i].key) _ _ _
 exact wpAny_pure (wpAny_pure ⟨_,rfl,wpAny_pure (hQ _ hit' (Heap.SameBut.update ..))⟩)
theorem Wp {Q:Option Value->Shared->Prop} (hh:A.handled=none) (hit:s.heap.IsKeyIter it d es.size es.size ep) (hm:yU es d ep s.heap)
  (hQ:∀ h',Heap.ExtBut it s.heap h' -> Q none { s with heap:=h' }):wpAny (model prog w) A (pyNext (.ref it)) Q E s:=by
 obtain ⟨o,ho,hc,hd⟩:=id hit
 obtain ⟨od,hod,hcd,hdd⟩:=id hm
 unfold pyNext
 refine wpAny_bind (wpAny_attempt (wpAny_callSpecial?_slot (name:=Str.ofString "__next__") hit.typeIs PySem.F.slot_dict_keyiterator_next
  (wpAny_call_entry PySem.F.slot_dict_keyiterator_next hit.typeIs PySem.F.entry_dict_keyiterator_next ?_ (PySem.F.args_dict_keyiterator_next_1 _))))
 refine wpAny_bind (wpAny_pure ?_)
 refine wpAny_bind ?_
 refine wpAny_bind ?_
 first | refine wpAny_bind (wpAny_typeNameOfWhole_keyiter hit.typeIs (wpAny_pure ?_)) | refine wpAny_bind (wpAny_typeNameOf_keyiter hit.typeIs (wpAny_pure ?_))
 refine wpAny_bind (wpAny_fieldsOf ho hd ?_)
 have hown:Builtin.Dict_items.ownsTuple "dict_keyiterator" = false:=by decide
 simp only [hown,Bool.false_eq_true,if_false]
 show wpAny _ _ (if (Value.ref d == Value.none)=true then _ else _) _ _ s
 rw [if_neg (show ¬ ((Value.ref d == Value.none)=true) from Bool.false_ne_true)]
 refine wpAny_bind (wpAny_pure ?_)
 refine wpAny_bind (wpAny_dictEntries hod hdd ?_)
 rw [if_neg (by simp)]
 refine wpAny_bind (wpAny_pure ?_)
 refine wpAny_bind (wpAny_dictEpoch hod hdd ?_)
 rw [if_neg (by simp)]
 refine wpAny_pure ?_
 simp only [show ¬ ((es.size:Int) < 0) from by omega,if_false,Int.toNat_natCast,Array.getElem?_eq_none (Nat.le_refl es.size)]
 refine wpAny_bind ?_
 first | refine wpAny_bind (wpAny_typeNameOfWhole_keyiter hit.typeIs (wpAny_pure ?_)) | refine wpAny_bind (wpAny_typeNameOf_keyiter hit.typeIs (wpAny_pure ?_))
 show wpAny _ _ (setField (.ref it) 0 .none >>= _) _ _ s
 refine wpAny_bind (wpAny_setField ho hd (by simp) ?_)
 show wpAny _ _ (newExc (.type "StopIteration") [] >>= _) _ _ _
 refine wpAny_bind ?_
 simp only [newExc,newTuple]
 refine wpAny_bind (wpAny_newObj_type ?_ (by size_fits))
 refine wpAny_bind (m:=firstArgMember _ _) (wpAny_of_eq (a:=Value.none) (by first | rfl | (simp only [firstArgMember]; rfl)) ?_)
 refine wpAny_newObj_type ?_ (by size_fits)
 simp only [raiseNew]
 refine wpAny_bind (wpAny_handled ?_)
 rw [show A.in1.handled=none from hh]
 refine wpAny_bind (wpAny_pure (wpAny_throw ?_))
 refine wpAny_bind (wpAny_isInstance (T:="StopIteration") (b:=true) ⟨_,Heap.get?_push_size _ rfl,rfl⟩ isSubtype_stop ?_)
 exact wpAny_pure (hQ _ (((Heap.SameBut.update ..).extBut.push _).push _))
theorem ZA (hh:A.handled=none) (I d:Addr) (hne:d ≠ I) (es:Array DictEntry) (ep:Nat) :
  Walks prog w A I [I,d] [I] es.size (fun i v=>∃ h:i < es.size,v=es[i].key) (fun i h=>h.IsKeyIter I d i es.size ep /\ yU es d ep h) where
 sub:=fun b hb=>by simp at hb; simp [hb]
 frame:=fun _ _ _ st hk=>⟨st.1.at fun o e=>hk I (by simp) o e,st.2.keep fun o e=>hk d (by simp) o e⟩
 item:=fun i s Q E hi st hQ=>by
  refine YV st.1 st.2 hi fun h' hit' hs'=>?_
  exact hQ _ h' s.toks ⟨hi,rfl⟩ ⟨hit',st.2.keep fun o e=>hs'.extBut d o hne e⟩ fun b o hb e=>hs'.extBut b o (fun h=>hb (by simp [h])) e
 done:=fun s Q E st hQ=>Wp hh st.1 st.2 fun h' he'=>hQ h' s.toks fun b o hb e=>he' b o (fun h=>hb (by simp [h])) e
 self:=fun _ _ _ _ st hQ=>wpAny_pyIter_keyiter st.1 hQ
theorem Wq (lo:(d == sysModules)=false):KdlSrc prog w "dict" d d es.size (fun i v=>∃ h:i < es.size,v=es[i].key) (yU es d ep) where
 type:=fun _ hm=>hm.typeIs
 there:=fun _ hm=>let ⟨_,ho,_⟩:=hm; ⟨Heap.lt_size ho,Heap.lt_size ho⟩
 keep:=fun _ _ hm hk=>hm.keep fun o e=>hk d (.inl rfl) o e
 notList:=by decide
 notTuple:=by decide
 hint:=fun _ _ _ _ hm hq=>kdl_hint_dict hm.typeIs hq
 iter:=fun _ _ hh hm=>⟨_,_,(fun _ _ hq=>YU lo hm hq),ZA hh _ d (let ⟨_,ho,_⟩:=hm; Nat.ne_of_lt (Heap.lt_size ho)) es ep,⟨⟨_,Heap.get?_push_size _ rfl,rfl,rfl⟩,hm.keep fun o e=>Heap.get?_push_of_some _ e⟩⟩
end
def Wr (H:Hp) (z:V) (p:List To × V):Prop:=∃ b,z = .ref b /\ H b=some (.tup (p.1.map kV))
theorem rZ {H:Hp}:∀ {kvs:List (List To × V)} {xs:List (List To × Addr × Value)},KT H kvs xs->zU (Wr H) (xs.map fun q=>V.ref q.2.1) kvs
 | _,_,.nil=>trivial
 | _,_,.cons h t=>⟨⟨_,rfl,h.2.1⟩,rZ t⟩
theorem u4:∀ xs:List (List To × Addr × Value),zC (xs.map fun q=>V.ref q.2.1) (xs.map fun q=>Value.ref q.2.1)
 | []=>.nil
 | _ :: xs=>.cons rfl (u4 xs)
def zv (a b:List Int):List Int:=a.map fun i=>b.getD i.toNat 0
theorem u5 {a b:List Int}:(zv a b).length=a.length:=by unfold zv; rw [List.length_map]
theorem ZB {S:Nat} {a b:List Int} (ha:Sq S a) (hb:Sq S b) (hl:b.length=S):Sq S (zv a b):=by
 intro x hx
 obtain ⟨i,hi,rfl⟩:=List.mem_map.mp hx
 have h1:=ha i hi
 have h2:i.toNat < b.length:=by omega
 refine hb _ ?_
 rw [List.getD_eq_getElem?_getD,List.getElem?_eq_getElem h2,Option.getD_some]
 exact List.getElem_mem h2
def vX (K:Tl):Sp:=Sg fun x y H Q=>∃ (p:Addr) (S:Nat),x = .ref p /\ y = .int S /\ Sj H p /\ 1<=S /\ S<=5 /\ ∀ y row H',Grow [p] H H' -> Sj H' p->zp K H' y row->row.length=S->Sq S row->Q y H'
def w6 (K:Tl):Sp:=Sf fun x H Q=>∃ (p:Addr),x = .ref p /\ Sj H p /\ ∀ y (S:Nat) ms H',Grow [p] H H' -> Sj H' p->yk K H' y ms->1<=S->S<=5->1<=ms.length->ms.length<=4->YD ms.length S ms->Q y H'
theorem VA {xs:List V} {i:Nat} (h:i<=xs.length):jA xs none (some (i:Int))=xs.take i:=by
 unfold jA; rw [HT.sIx_none,HT.sIx_nat,Nat.sub_zero,List.drop_zero,Nat.min_eq_left h]
theorem sQ:∀ d:List Int,(d.map (Sum.inl:Int->To)).map kV=d.map V.int
 | []=>rfl
 | x :: d=>by rw [List.map_cons,List.map_cons,List.map_cons,sQ d]; rfl
open PySem PySem.Spec PyProof.Rows L2 HT
section
variable {prog:Program} {w:World} {A:Around} {E:Tn} {s:Shared}
theorem uh {Q:List Value->Shared->Prop} {r:Addr} {a b c:Int} {t u v:Tok} {n:Nat} (hh:A.handled=none) (hr:IsRange s.heap r a b c t u v) (hsmall:Builtin.Range.small a b c=true)
  (hn:Builtin.Range.rangeSize a b c=n) (hlen:n<=2 ^ 24)
  (hQ:∀ (h':Heap) tk acc',(∀ b o,s.heap.get? b=some o->h'.get? b=some o)->ItemsOf (fun i v=>∃ t,v = .int (a+i * c) t) acc' n->Q acc'.toList { s with heap:=h',toks:=tk }) :
  wpAny (model prog w) A (collect (.ref r)) Q E s:=by
 unfold collect
 refine wpAny_bind (wpAny_runValue (codeAny_builtin F.entry_proto_collect ?_))
 rw [Around.under_plainId F.plain_proto_collect _]
 show wpAny _ A.in1 (newList [] >>= fun l=>again (.builtin "list.__iadd__" ⟨[l,.ref r],[]⟩)) _ _ s
 refine wpAny_bind (wpAny_newObj_type ?_)
 refine wpAny_pure ⟨plainId_quiet F.plain_list_iadd _,codeAny_builtin F.entry_list_iadd ?_⟩
 rw [Around.under_plainId F.plain_list_iadd _]
 show wpAny _ A.in1 (Builtin.List.listExtendWith (.ref s.heap.objs.size) (.ref r) (.ref s.heap.objs.size)) _ _ _
 have hS:(s.heap.push { cls:=.type "list",data:=.seq ([]:List Value).toArray }).get? s.heap.objs.size=some { cls:=.type "list",data:=.seq ([]:List Value).toArray }:=Heap.get?_push_size _ rfl
 have hr':IsRange (s.heap.push { cls:=.type "list",data:=.seq ([]:List Value).toArray }) r a b c t u v:=Heap.get?_push_of_some _ hr
 have fin:∀ (h':Heap) tk acc' c',(∀ b o,s.heap.get? b=some o->h'.get? b=some o)->h'.get? s.heap.objs.size=some { cls:=.type "list",dict:=none,data:=.seq acc' c',slots:=#[] } -> ItemsOf (fun i v=>∃ t,v = .int (a+i * c) t) acc' n →
   wpAny (model prog w) A (load s.heap.objs.size >>= fun o=>match o.data with | .seq xs _=>pure xs.toList | _=>unsupported "internal:collect") Q E { s with heap:=h',toks:=tk }:=fun h' tk acc' c' hk hS' hacc =>
  wpAny_bind (wpAny_load hS' (wpAny_pure (hQ h' tk acc' hk hacc)))
 refine wpAny_mono (wpAny_extend_range (R:=fun r' s'=>∃ (h':Heap) (tk:Nat) (acc':Array Value) (c':Nat),r' = .ok (.ret (.ref s.heap.objs.size)) /\ s' = { s with heap:=h',toks:=tk } /\ (∀ b o,s.heap.get? b=some o->h'.get? b=some o) /\ h'.get? s.heap.objs.size=some { cls:=.type "list",dict:=none,data:=.seq acc' c',slots:=#[] } /\ ItemsOf (fun i v=>∃ t,v = .int (a+i * c) t) acc' n) (s:={ s with heap:=s.heap.push { cls:=.type "list",data:=.seq ([]:List Value).toArray } }) (A:=A) hh hr' hsmall hn hlen s.heap.objs.size _ _ hS fun h' tk acc' c' hk hS hacc =>
  ⟨h',tk,acc',c',rfl,rfl,fun b o e=>hk b o (Nat.ne_of_lt (Heap.lt_size e)) (Heap.get?_push_of_some _ e),hS,hacc⟩) (fun fn s' h=>?_) (fun e s' h=>?_)
 ·cases fn with
  | done f =>
   obtain ⟨h',tk,acc',c',e,rfl,hf,hl,hS'⟩:=h
   cases e
   exact fin h' tk acc' c' hf hl hS'
  | again c =>
   refine ⟨h.1,codeAny_mono h.2 fun r s'' hr=>?_⟩
   obtain ⟨h',tk,acc',c',e,rfl,hf,hl,hS'⟩:=hr
   subst e
   exact fin h' tk acc' c' hf hl hS'
 ·obtain ⟨h',tk,acc',c',e,_⟩:=h
  cases e
theorem wz {Q:Tn} {r:Addr} {a b c:Int} {t u v:Tok} {n:Nat} (hh:A.handled=none) (hr:IsRange s.heap r a b c t u v) (hsmall:Builtin.Range.small a b c=true)
  (hn:Builtin.Range.rangeSize a b c=n) (hlen:n<=2 ^ 24) (hsz:n<=sizeLine)
  (hQ:∀ (h':Heap) tk acc',(∀ b o,s.heap.get? b=some o->h'.get? b=some o)->ItemsOf (fun i v=>∃ t,v = .int (a+i * c) t) acc' n->Q (.ref h'.objs.size) { s with heap:=h'.push { cls:=.type "tuple",data:=.seq acc' },toks:=tk }) :
  wpAny (model prog w) A (call (.type "tuple") [.ref r]) Q E s:=by
 refine callType_codes (Q₁:=fun obj s₁=>s₁.TypeIs obj "tuple" /\ Q obj s₁) F.called_tuple (F.typeCall_tuple_1 _) F.entry_object_init ?_ fun obj s₁ h₁=>?_
 ·refine codeAny_of_tree ?_
  show wpAny _ A.in1.in1 (do checkBuiltinCall "tuple.__new__" ⟨[.type "tuple",.ref r],[]⟩; again (.builtin "tuple.__new__" ⟨[.type "tuple",.ref r],[]⟩)) _ _ s
  refine wpAny_bind (wpAny_of_eq (F.newCall_tuple_1 _) (wpAny_pure ⟨plainId_quiet F.plain_tuple_new _,codeAny_builtin F.entry_tuple_new ?_⟩))
  rw [Around.under_plainId F.plain_tuple_new _]
  have hsub:=sub_tuple_self
  have hinit:=init_tuple_lookup
  have hmh:=madeHere_tuple
  have hTI:s.TypeIs (.ref r) "range":=⟨_,hr,rfl⟩
  wp_walk using wpAny_typeOf hTI,uh (A:=A.in1.in1) hh hr hsmall hn hlen
  intro h' tk acc hf hacc
  show wpAny _ _ (Builtin.Tuple.tupleExact acc.toList.toArray >>= fun v=>ret v) _ _ _
  unfold Builtin.Tuple.tupleExact
  refine wpAny_bind (wpAny_newObj_type ?_ (by show acc.toList.toArray.size<=sizeLine; simp only [Array.toArray_toList]; rw [hacc.1]; exact hsz))
  refine wpAny_pure ⟨⟨_,Heap.get?_push_size _ rfl,rfl⟩,?_⟩
  have e:acc.toList.toArray=acc:=by simp
  rw [e]
  exact hQ h' tk acc hf hacc
 ·exact ⟨h₁.1,F.args_object_init_2 obj _,object_init_meets F.called_tuple.init.lookup F.called_tuple.made (by decide) prog w A.in1 _ s₁ ⟨h₁.1,rfl,h₁.2⟩⟩
end
theorem jd:∀ (m:Nat) (l:List Value) (j:Nat),l.length=m->(∀ i v,l[i]? = some v -> ∃ t,v=Value.int ((j+i:Nat):Int) t)->zC ((List.range' j m).map fun i:Nat=>V.int i) l:=by
 intro m
 induction m with
 | zero =>
  intro l j hl _
  rw [List.length_eq_zero_iff.mp hl]
  exact .nil
 | succ m ih =>
  intro l j hl hv
  match l,hl,hv with
  | x :: l,hl,hv =>
   refine .cons ?_ (ih l (j+1) (by simpa using hl) fun i v h=>?_)
   ·obtain ⟨t,e⟩:=hv 0 x rfl
    exact ⟨t,e⟩
   ·obtain ⟨t,e⟩:=hv (i+1) v (by simpa using h)
    exact ⟨t,by rw [e,show j+(i+1)=j+1+i by omega]⟩
section
variable {X:Cx} {a:Expr} {ta:TA} {p p2 pos pos2:Pos}
def Us (ta:TA):TE:=fun σ H Q=>ta σ H fun vs H1=>∃ n:Nat,vs=[.int n] /\ n<=1000 /\ ∀ l,H1 l=none->Q (.ref l) (Tp H1 l (.tup ((List.range n).map fun i:Nat=>V.int i)))
theorem xI (hc:X.calm=true) (hgl:Gl X "tuple") (hml:X.mg "tuple" = none) (hgr:Gl X "range") (hmr:X.mg "range" = none) (ha:PA X [a] ta)
  (hs:starEach [a] X.env=[(false,eval a X.env)]:=by rfl) (hs2:starEach [(.Call (.Name "range" p2) [a] [] pos2:Expr)] X.env=[(false,eval (.Call (.Name "range" p2) [a] [] pos2) X.env)]:=by rfl) :
  PE X (.Call (.Name "tuple" p) [.Call (.Name "range" p2) [a] [] pos2] [] pos) (Us ta):=by
 intro pins s σ H Q I h
 refine wpAny_Call_Name_kw (xN I hgl hml zG (PyProof.Rows.callWith_type1 ?_ hs2 rfl))
 rw [hs2]
 show wpAny _ _ (spliced [(false,eval (.Call (.Name "range" p2) [a] [] pos2) X.env)]) _ _ s
 refine Calls.spliced_cons ?_
 refine Call_ (xN I hgr hmr boot_range (PyProof.Rows.callWith_type1 (Tx (ha pos2 pins s σ H _ I h) fun us s1 ⟨vs,H1,I1,r1,q1⟩=>?_) hs rfl))
 obtain ⟨n,e,hn,q⟩:=q1
 subst e
 obtain ⟨u,rfl,e1⟩:=xE r1
 obtain ⟨t,rfl⟩:=e1
 refine call_range_1 (Calls.spliced_nil ?_)
 have I2:Inv X pins σ H1 { s1 with heap:=s1.heap.push { cls:=.type "range",data:=.fields #[.int 0 s1.toks,.int n t,.int 1 (s1.toks+1)] },toks:=s1.toks+1+1 }:=I1.kept fun b o e=>Heap.get?_push_of_some _ e
 refine wz (n:=n) (I.ok.hd hc) (IsRange.new ..) (small_one (by omega) (by omega) (by omega) (by omega)) (by rw [rangeSize_one]; split <;> omega) (by omega) (Nat.le_of_lt (zn hn)) fun h' tk acc hk hacc=>?_
 have hvr:zC ((List.range n).map fun i:Nat=>V.int i) acc.toList:=by
  have hlen:acc.toList.length=n:=by rw [Array.length_toList]; exact hacc.1
  rw [List.range_eq_range']
  refine jd n acc.toList 0 hlen fun i v h=>?_
  obtain ⟨t,e⟩:=hacc.2 i v (by rw [← h]; exact (Array.getElem?_toList).symm)
  exact ⟨t,by rw [e]; congr 1; omega⟩
 have I3:Inv X pins σ H1 { s1 with heap:=h',toks:=tk }:=I2.kept (t':=tk) hk
 refine ⟨.ref h'.objs.size,_,I3.laid (t':=tk) (o:=.tup ((List.range n).map fun i:Nat=>V.int i)) (fun b o e=>Heap.get?_push_of_some _ e) (Nat.le_refl _) ⟨by rw [List.length_map,List.length_range]; exact Nat.le_of_lt (zn hn),acc.toList,hvr,by simpa using IsTup.new _ _⟩,rfl,q _ (I3.hok.fresh (Nat.le_refl _))⟩
end
theorem SJ {α:Type} {a:α}:[a].Nodup:=List.nodup_cons.mpr ⟨(fun z=>nomatch z),List.nodup_nil⟩
def SK (S:Nat):List Int:=(List.range S).map fun i:Nat=>(i:Int)
abbrev FW:=List (List Int × List Int)
def zh (f:FW):List (List Int):=f.map (·.1)
def zI (f:FW) (d:List Int):Option (List Int):=(f.find? fun p=>decide (p.1=d)).map (·.2)
theorem yN {d:List Int}:∀ {f:FW},d ∈ zh f -> ∃ w,zI f d=some w
 | [],h=>by cases h
 | p :: f,h=>by
  by_cases e:p.1=d
  ·exact ⟨p.2,by simp [zI,List.find?_cons,e]⟩
  ·have:d ∈ zh f:=by
    rcases List.mem_cons.mp h with h | h
    ·exact absurd h.symm e
    ·exact h
   obtain ⟨w,hw⟩:=yN this
   exact ⟨w,by simpa [zI,List.find?_cons,e] using hw⟩
theorem yG {d w:List Int}:∀ {f:FW},zI f d=some w->(d,w) ∈ f
 | [],h=>by cases h
 | p :: f,h=>by
  by_cases e:p.1=d
  ·have h':p.2=w:=by simpa [zI,List.find?_cons,e] using h
   exact List.mem_cons.mpr (.inl (by rw [← e,← h']))
  ·exact List.mem_cons.mpr (.inr (yG (by simpa [zI,List.find?_cons,e] using h)))
theorem je {f:FW} {d w:List Int} (h:zI f d=some w):d ∈ zh f:=List.mem_map.mpr ⟨_,yG h,rfl⟩
theorem vc {f:FW} {d:List Int} (h:¬ (zI f d).isSome=true):d ∉ zh f:=fun z=>by
 obtain ⟨w,hw⟩:=yN z
 rw [hw] at h; exact h rfl
def z9 (d:List Int) (fm:FW × List (List Int)) (n:Nat) (m:List Int):FW × List (List Int) :=
 if (zI fm.1 (zv d m)).isSome=true then fm else (fm.1 ++ [(zv d m,(zI fm.1 d).getD [] ++ [(n:Int)])],fm.2 ++ [zv d m])
def xr (ms:List (List Int)) (d:List Int):Nat->FW × List (List Int)->FW × List (List Int)
 | 0,fm=>fm
 | i+1,fm=>z9 d (xr ms d i fm) i (ms.getD i [])
def zD (ms last:List (List Int)):Nat->FW × List (List Int)->FW × List (List Int)
 | 0,fm=>fm
 | j+1,fm=>xr ms (last.getD j []) ms.length (zD ms last j fm)
inductive FamR (ms:List (List Int)):FW->List (List Int)->FW->Prop
 | done {f:FW} {last:List (List Int)}:last=[] \/ 60 < f.length->FamR ms f last f
 | step {f r:FW} {last:List (List Int)}:last ≠ []->f.length<=60->FamR ms (zD ms last last.length (f,[])).1 (zD ms last last.length (f,[])).2 r->FamR ms f last r
theorem FamR.eq {ms:List (List Int)} {f r:FW} {last:List (List Int)} (a:FamR ms f last r):∀ {r'},FamR ms f last r' -> r=r':=by
 induction a with
 | done h =>
  intro r' b
  cases b with
  | done _=>rfl
  | step h1 h2 _ =>
   rcases h with h | h
   ·exact absurd h h1
   ·omega
 | step h1 h2 _ ih =>
  intro r' b
  cases b with
  | done h =>
   rcases h with h | h
   ·exact absurd h h1
   ·omega
  | step _ _ c=>exact ih c
inductive Word (ms:List (List Int)) (S:Nat):List Int->Prop
 | id:Word ms S (SK S)
 | more {d m:List Int}:Word ms S d->m ∈ ms->Word ms S (zv d m)
def SL (ms:List (List Int)) (S:Nat):Prop:=∀ m ∈ ms,m.length=S /\ Sq S m
def Dd (S:Nat) (d:List Int):Prop:=d.length=S /\ Sq S d
theorem ZC (S:Nat):Dd S (SK S):=by
 refine ⟨by unfold SK; rw [List.length_map,List.length_range],fun v hv=>?_⟩
 obtain ⟨i,hi,rfl⟩:=List.mem_map.mp hv
 have:=List.mem_range.mp hi
 omega
theorem ui {S:Nat} {a b:List Int} (ha:Dd S a) (hb:Dd S b):Dd S (zv a b):=⟨u5.trans ha.1,ZB ha.2 hb.2 hb.1⟩
theorem Word.dd {ms:List (List Int)} {S:Nat} (hm:SL ms S) {d:List Int} (h:Word ms S d):Dd S d:=by
 induction h with
 | id=>exact ZC S
 | more _ h ih=>exact ui ih (hm _ h)
theorem sR {S:Nat} {i:Int} (h0:0<=i) (h1:i < S):(SK S).getD i.toNat 0=i:=by
 have:i.toNat < S:=by omega
 unfold SK
 rw [List.getD_eq_getElem?_getD,List.getElem?_map,List.getElem?_range this]
 show ((i.toNat:Nat):Int)=i
 omega
theorem YW {S:Nat} {a:List Int} (ha:Dd S a):zv a (SK S)=a:=by
 unfold zv
 conv=>rhs; rw [← List.map_id a]
 refine List.map_congr_left fun i hi=>?_
 obtain ⟨h0,h1⟩:=ha.2 i hi
 exact sR h0 h1
theorem sS {S:Nat} {a b c:List Int} (ha:Dd S a) (hb:b.length=S):zv a (zv b c)=zv (zv a b) c:=by
 unfold zv
 rw [List.map_map]
 refine List.map_congr_left fun i hi=>?_
 obtain ⟨h0,h1⟩:=ha.2 i hi
 have hi':i.toNat < b.length:=by omega
 show (b.map fun i=>c.getD i.toNat 0).getD i.toNat 0=c.getD (b.getD i.toNat 0).toNat 0
 rw [List.getD_eq_getElem?_getD,List.getElem?_map,List.getElem?_eq_getElem hi',List.getD_eq_getElem?_getD (l:=b),List.getElem?_eq_getElem hi']
 rfl
theorem Word.mul {ms:List (List Int)} {S:Nat} (hm:SL ms S) {a b:List Int} (ha:Word ms S a) (hb:Word ms S b):Word ms S (zv a b):=by
 induction hb with
 | id=>rw [YW (ha.dd hm)]; exact ha
 | more h1 h2 ih=>rw [sS (ha.dd hm) (h1.dd hm).1]; exact .more ih h2
def Ex (fm fm':FW × List (List Int)):Prop:=∃ g:FW,fm'.1=fm.1 ++ g /\ fm'.2=fm.2 ++ zh g
theorem Ex.refl (fm:FW × List (List Int)):Ex fm fm:=⟨[],by rw [List.append_nil],by show _=_ ++ []; rw [List.append_nil]⟩
theorem Ex.trans {a b c:FW × List (List Int)} (h:Ex a b) (k:Ex b c):Ex a c:=by
 obtain ⟨g,h1,h2⟩:=h
 obtain ⟨g',k1,k2⟩:=k
 exact ⟨g ++ g',by rw [k1,h1,List.append_assoc],by rw [k2,h2,List.append_assoc]; unfold zh; rw [List.map_append]⟩
theorem Ex.keys {a b:FW × List (List Int)} (h:Ex a b) {d:List Int} (hd:d ∈ zh a.1):d ∈ zh b.1:=by
 obtain ⟨g,h1,_⟩:=h
 unfold zh at *
 rw [h1,List.map_append]
 exact List.mem_append.mpr (.inl hd)
theorem qa {a b:FW × List (List Int)} (h:Ex a b) (l:a.2.length<=a.1.length):b.2.length<=b.1.length:=by
 obtain ⟨g,h1,h2⟩:=h
 rw [h1,h2,List.length_append,List.length_append]
 unfold zh
 rw [List.length_map]
 omega
theorem qb {d m:List Int} {fm:FW × List (List Int)} {n:Nat}:Ex fm (z9 d fm n m):=by
 unfold z9
 split
 ·exact Ex.refl fm
 ·exact ⟨[_],rfl,rfl⟩
theorem xJ {ms:List (List Int)} {d:List Int} {fm:FW × List (List Int)}:∀ i,Ex fm (xr ms d i fm)
 | 0=>Ex.refl fm
 | i+1=>(xJ i).trans qb
theorem yn {ms last:List (List Int)} {fm:FW × List (List Int)}:∀ j,Ex fm (zD ms last j fm)
 | 0=>Ex.refl fm
 | j+1=>(yn j).trans (xJ _)
theorem YX {d m:List Int} {fm:FW × List (List Int)} {n:Nat}:zv d m ∈ zh (z9 d fm n m).1:=by
 unfold z9
 split
 ·rename_i h
  obtain ⟨w,hw⟩:=Option.isSome_iff_exists.mp h
  exact je hw
 ·unfold zh; rw [List.map_append]; exact List.mem_append.mpr (.inr (List.mem_singleton.mpr rfl))
theorem ZD {ms:List (List Int)} {d:List Int} {fm:FW × List (List Int)}:∀ i,∀ k < i,zv d (ms.getD k []) ∈ zh (xr ms d i fm).1
 | 0,_,h=>by cases h
 | i+1,k,h=>by
  by_cases e:k=i
  ·rw [e]; exact YX
  ·exact qb.keys (ZD i k (by omega))
theorem qc {ms last:List (List Int)} {fm:FW × List (List Int)}:∀ j,∀ k < j,∀ i < ms.length,zv (last.getD k []) (ms.getD i []) ∈ zh (zD ms last j fm).1
 | 0,_,h,_,_=>by cases h
 | j+1,k,h,i,hi=>by
  by_cases e:k=j
  ·rw [e]; exact ZD _ i hi
  ·exact (xJ _).keys (qc j k (by omega) i hi)
theorem YY {d m:List Int} {fm:FW × List (List Int)} {n:Nat}:(z9 d fm n m).1.length<=fm.1.length+1:=by
 unfold z9
 split
 ·omega
 ·rw [List.length_append]; exact Nat.le_refl _
theorem uj {ms:List (List Int)} {d:List Int} {fm:FW × List (List Int)}:∀ i,(xr ms d i fm).1.length<=fm.1.length+i
 | 0=>Nat.le_refl _
 | i+1=>Nat.le_trans YY (by have:=uj (ms:=ms) (d:=d) (fm:=fm) i; omega)
theorem xU {ms last:List (List Int)} {fm:FW × List (List Int)}:∀ j,(zD ms last j fm).1.length<=fm.1.length+j * ms.length
 | 0=>by rw [Nat.zero_mul]; exact Nat.le_refl _
 | j+1=>Nat.le_trans (uj _) (by have:=xU (ms:=ms) (last:=last) (fm:=fm) j; rw [Nat.succ_mul]; omega)
structure GoodF (ms:List (List Int)) (S:Nat) (f:FW):Prop where
 nd:(zh f).Nodup
 wd:∀ d ∈ zh f,Word ms S d
theorem jf {ms:List (List Int)} {S:Nat} {d m:List Int} {fm:FW × List (List Int)} {n:Nat} (h:GoodF ms S fm.1) (hd:Word ms S d) (hm:m ∈ ms):GoodF ms S (z9 d fm n m).1:=by
 unfold z9
 split
 ·exact h
 ·rename_i c
  have hn:=vc c
  refine ⟨?_,fun z hz=>?_⟩
  ·show (zh (fm.1 ++ [_])).Nodup
   unfold zh at hn ⊢
   rw [List.map_append]
   refine List.nodup_append.mpr ⟨h.nd,SJ,fun a ha b hb e=>?_⟩
   rw [e,List.mem_singleton.mp hb] at ha
   exact hn ha
  ·unfold zh at hz
   rw [List.map_append] at hz
   rcases List.mem_append.mp hz with hz | hz
   ·exact h.wd z hz
   ·rw [List.mem_singleton.mp hz]; exact .more hd hm
theorem zK {ms:List (List Int)} {i:Nat} (h:i < ms.length):ms.getD i [] ∈ ms:=by
 rw [List.getD_eq_getElem?_getD,List.getElem?_eq_getElem h]; exact List.getElem_mem h
theorem vd {ms:List (List Int)} {S:Nat} {d:List Int} {fm:FW × List (List Int)} (h:GoodF ms S fm.1) (hd:Word ms S d):∀ i,i<=ms.length->GoodF ms S (xr ms d i fm).1
 | 0,_=>h
 | i+1,hi=>jf (vd h hd i (by omega)) hd (zK (by omega))
theorem wg {ms last:List (List Int)} {S:Nat} {fm:FW × List (List Int)} (h:GoodF ms S fm.1) (hd:∀ d ∈ last,Word ms S d):∀ j,j<=last.length->GoodF ms S (zD ms last j fm).1
 | 0,_=>h
 | j+1,hj=>vd (wg h hd j (by omega)) (hd _ (zK (by omega))) _ (Nat.le_refl _)
structure LI (ms:List (List Int)) (S:Nat) (f:FW) (last:List (List Int)):Prop where
 good:GoodF ms S f
 idk:SK S ∈ zh f
 sub:∀ d ∈ last,d ∈ zh f
 len:last.length<=f.length
 cl:∀ d ∈ zh f,d ∉ last -> ∀ m ∈ ms,zv d m ∈ zh f
 hd:f.head? = some (SK S,[])
theorem LI.init (ms:List (List Int)) (S:Nat):LI ms S [(SK S,[])] [SK S] where
 good:=⟨SJ,fun d hd=>by rw [List.mem_singleton.mp hd]; exact .id⟩
 idk:=List.mem_singleton.mpr rfl
 sub:=fun d hd=>hd
 len:=Nat.le_refl _
 cl:=fun d hd hn=>absurd hd hn
 hd:=rfl
theorem qd {l:List (List Int)} {d:List Int} (h:d ∈ l):∃ k < l.length,l.getD k []=d:=by
 obtain ⟨k,hk,e⟩:=List.mem_iff_getElem.mp h
 exact ⟨k,hk,by rw [List.getD_eq_getElem?_getD,List.getElem?_eq_getElem hk]; exact e⟩
theorem LI.pass {ms last:List (List Int)} {S:Nat} {f:FW} (h:LI ms S f last):LI ms S (zD ms last last.length (f,[])).1 (zD ms last last.length (f,[])).2:=by
 have hE:Ex (f,[]) (zD ms last last.length (f,[])):=yn _
 have hI:=fun k hk i hi=>qc (ms:=ms) (last:=last) (fm:=(f,[])) last.length k hk i hi
 have hG:=wg (last:=last) (fm:=(f,[])) h.good (fun d hd=>h.good.wd d (h.sub d hd)) last.length (Nat.le_refl _)
 revert hE hI hG
 generalize zD ms last last.length (f,[])=fm
 intro hE hI hG
 obtain ⟨g,e1,e2⟩:=id hE
 rw [List.nil_append] at e2
 have ek:zh fm.1=zh f ++ zh g:=by rw [e1]; unfold zh; rw [List.map_append]
 refine ⟨hG,hE.keys h.idk,fun d hd=>?_,?_,fun d hd hn m hm=>?_,?_⟩
 ·rw [ek]; rw [e2] at hd; exact List.mem_append.mpr (.inr hd)
 ·rw [e2,e1,List.length_append]; unfold zh; rw [List.length_map]; omega
 ·rw [ek] at hd
  rcases List.mem_append.mp hd with hd | hd
  ·by_cases w:d ∈ last
   ·obtain ⟨k,hk,rfl⟩:=qd w
    obtain ⟨i,hi,rfl⟩:=qd hm
    exact hI k hk i hi
   ·exact hE.keys (h.cl d hd w m hm)
  ·rw [e2] at hn; exact absurd hd hn
 ·rw [e1,List.head?_append,h.hd]; rfl
structure FamOk (ms:List (List Int)) (S:Nat) (r:FW):Prop where
 good:GoodF ms S r
 idk:SK S ∈ zh r
 cl:r.length<=60 -> ∀ d ∈ zh r,∀ m ∈ ms,zv d m ∈ zh r
 hd:r.head? = some (SK S,[])
theorem FamR.ok {ms last:List (List Int)} {S:Nat} {f r:FW} (a:FamR ms f last r) (h:LI ms S f last):FamOk ms S r:=by
 induction a with
 | done c =>
  refine ⟨h.good,h.idk,fun hl d hd m hm=>?_,h.hd⟩
  rcases c with rfl | c
  ·exact h.cl d hd (fun z=>by cases z) m hm
  ·omega
 | step _ _ _ ih=>exact ih h.pass
def vF (ms:List (List Int)) (S:Nat) (r:FW):Prop:=FamR ms [(SK S,[])] [SK S] r
theorem vF.ok {ms:List (List Int)} {S:Nat} {r:FW} (h:vF ms S r):FamOk ms S r:=FamR.ok h (LI.init ms S)
def SM (ms:List (List Int)) (S:Nat):Prop:=∃ l:List (List Int),l.length<=60 /\ ∀ d,Word ms S d->d ∈ l
theorem FamOk.all {ms:List (List Int)} {S:Nat} {r:FW} (h:FamOk ms S r) (hl:r.length<=60) {d:List Int} (hd:Word ms S d):d ∈ zh r:=by
 induction hd with
 | id=>exact h.idk
 | more _ hm ih=>exact h.cl hl _ ih _ hm
theorem FamOk.few {ms:List (List Int)} {S:Nat} {r:FW} (h:FamOk ms S r) (hl:r.length<=60):SM ms S:=⟨zh r,by unfold zh; rw [List.length_map]; exact hl,fun _ hd=>h.all hl hd⟩
theorem uk:∀ {l l':List (List Int)},l.Nodup->(∀ x ∈ l,x ∈ l')->l.length<=l'.length
 | [],_,_,_=>Nat.zero_le _
 | a :: l,l',hn,h=>by
  have ha:a ∈ l':=h a (List.mem_cons.mpr (.inl rfl))
  obtain ⟨h1,h2⟩:=List.nodup_cons.mp hn
  have:=uk (l:=l) (l':=l'.erase a) h2 fun x hx=>(List.mem_erase_of_ne (fun e=>h1 (by rw [← e]; exact hx))).mpr (h x (List.mem_cons.mpr (.inr hx)))
  rw [List.length_erase_of_mem ha] at this
  have:0 < l'.length:=List.length_pos_of_mem ha
  rw [List.length_cons]; omega
theorem FamOk.le {ms:List (List Int)} {S:Nat} {r:FW} (h:FamOk ms S r) (hf:SM ms S):r.length<=60:=by
 obtain ⟨l,hl,hw⟩:=hf
 have:=uk h.good.nd fun d hd=>hw d (h.good.wd d hd)
 unfold zh at this
 rw [List.length_map] at this
 omega
def WL (f:FW):Prop:=0 < f.length /\ ∀ q ∈ f,q.2.length < f.length
theorem YZ {d m:List Int} {fm:FW × List (List Int)} {n:Nat} (h:WL fm.1):WL (z9 d fm n m).1:=by
 unfold z9
 split
 ·exact h
 ·refine ⟨by show 0 < (fm.1 ++ [_]).length; rw [List.length_append]; exact Nat.lt_of_lt_of_le h.1 (Nat.le_add_right _ _),fun q hq=>?_⟩
  have hq':q ∈ fm.1 ++ [(zv d m,(zI fm.1 d).getD [] ++ [(n:Int)])]:=hq
  show q.2.length < (fm.1 ++ [_]).length
  rw [List.length_append]
  rcases List.mem_append.mp hq' with w | w
  ·have:=h.2 q w
   show _ < _+1
   omega
  ·rw [List.mem_singleton.mp w]
   show ((zI fm.1 d).getD [] ++ [(n:Int)]).length < _+1
   rw [List.length_append]
   show _+1 < _+1
   cases e:zI fm.1 d with
   | none =>
    show 0+1 < _+1
    have:=h.1
    omega
   | some v =>
    have:=h.2 _ (yG e)
    show v.length+1 < _+1
    have e2:v.length < fm.1.length:=this
    omega
theorem ul {ms:List (List Int)} {d:List Int} {fm:FW × List (List Int)} (h:WL fm.1):∀ i,WL (xr ms d i fm).1
 | 0=>h
 | i+1=>YZ (ul h i)
theorem xj {ms last:List (List Int)} {fm:FW × List (List Int)} (h:WL fm.1):∀ j,WL (zD ms last j fm).1
 | 0=>h
 | j+1=>ul (xj h j) _
theorem ve {ms last:List (List Int)} {f:FW} {j:Nat} (h:(zD ms last j (f,[])).2 ≠ []):f.length < (zD ms last j (f,[])).1.length:=by
 obtain ⟨g,e1,e2⟩:=yn (ms:=ms) (last:=last) (fm:=(f,[])) j
 rw [e1,List.length_append]
 cases g with
 | nil=>exact absurd e2 h
 | cons a g=>show f.length < f.length+(g.length+1); omega
def uD (H:Hp) (y:V) (row:List Int):Prop:=∃ b,y = .ref b /\ H b=some (.tup (row.map V.int))
theorem uD.board {K:Tl} {H:Hp} {y:V} {row:List Int} (h:uD H y row):zp K H y row:=let ⟨b,e,hb⟩:=h; ⟨b,e,TC.of hb⟩
theorem uD.grow {m:List Addr} {H H':Hp} {y:V} {row:List Int} (h:uD H y row) (g:Grow m H H'):uD H' y row:=let ⟨b,e,hb⟩:=h; ⟨b,e,g.tup _ _ hb⟩
def kI (d:List Int):List To:=d.map Sum.inl
theorem qf:∀ {a b:List Int},kI a=kI b->a=b
 | [],[],_=>rfl
 | [],_ :: _,e=>by cases e
 | _ :: _,[],e=>by cases e
 | x :: a,y :: b,e=>by
  unfold kI at e
  rw [List.map_cons,List.map_cons] at e
  injection e with e1 e2
  rw [Sum.inl.inj e1,qf e2]
theorem vG (d:List Int):(kI d).map kV=d.map V.int:=sQ d
def SN (K:Tl) (H:Hp):List (List To × V)->FW->Prop
 | [],[]=>True
 | p :: kvs,q :: f=>(p.1=kI q.1 /\ zp K H p.2 q.2) /\ SN K H kvs f
 | _,_=>False
section
variable {K:Tl} {H H':Hp} {m:List Addr}
theorem SN.len:∀ {kvs:List (List To × V)} {f:FW},SN K H kvs f->kvs.length=f.length
 | [],[],_=>rfl
 | _ :: _,_ :: _,h=>by rw [List.length_cons,List.length_cons,SN.len h.2]
 | [],_ :: _,h=>h.elim
 | _ :: _,[],h=>h.elim
theorem SN.keys:∀ {kvs:List (List To × V)} {f:FW},SN K H kvs f->kvs.map (·.1)=(zh f).map (List.map Sum.inl)
 | [],[],_=>rfl
 | p :: kvs,q :: f,h=>by
  show p.1 :: kvs.map (·.1)=q.1.map Sum.inl :: (zh f).map (List.map Sum.inl)
  rw [SN.keys h.2,h.1.1]; rfl
 | [],_ :: _,h=>h.elim
 | _ :: _,[],h=>h.elim
theorem SN.grow (g:Grow m H H'):∀ {kvs:List (List To × V)} {f:FW},SN K H kvs f->SN K H' kvs f
 | [],[],_=>trivial
 | _ :: _,_ :: _,h=>⟨⟨h.1.1,g.board h.1.2⟩,SN.grow g h.2⟩
 | [],_ :: _,h=>h.elim
 | _ :: _,[],h=>h.elim
theorem SN.app:∀ {kvs:List (List To × V)} {f:FW} {kvs':List (List To × V)} {f':FW},SN K H kvs f->SN K H kvs' f' -> SN K H (kvs ++ kvs') (f ++ f')
 | [],[],_,_,_,k=>k
 | _ :: _,_ :: _,_,_,h,k=>⟨h.1,SN.app h.2 k⟩
 | [],_ :: _,_,_,h,_=>h.elim
 | _ :: _,[],_,_,h,_=>h.elim
theorem SN.val (d:List Int):∀ {kvs:List (List To × V)} {f:FW},SN K H kvs f->(∃ v w,uC kvs (kI d)=some v /\ zI f d=some w /\ zp K H v w) \/ (uC kvs (kI d)=none /\ zI f d=none)
 | [],[],_=>.inr ⟨rfl,rfl⟩
 | p :: kvs,q :: f,h=>by
  by_cases e:q.1=d
  ·exact .inl ⟨p.2,q.2,xT (by rw [h.1.1,e]),by simp [zI,List.find?_cons,e],h.1.2⟩
  ·have e':¬ p.1=kI d:=fun z=>e (qf (h.1.1.symm.trans z))
   have ew:zI (q :: f) d=zI f d:=by simp [zI,List.find?_cons,e]
   rw [xi e',ew]
   exact SN.val d h.2
 | [],_ :: _,h=>h.elim
 | _ :: _,[],h=>h.elim
end
def UQ (K:Tl) (H:Hp) (y:V) (f:FW):Prop:=∃ l kvs,y = .ref l /\ H l=some (.dT kvs) /\ SN K H kvs f
theorem Grow.setDT {m:List Addr} {H:Hp} {p:Addr} {xs:List (List To × V)} (h:H p=some (.dT xs)) (hm:p ∈ m) (ys:List (List To × V)):Grow m H (Tp H p (.dT ys)) :=
 ⟨fun b u hb q=>by rw [zj (show b ≠ p from fun z=>hb (by rw [z]; exact hm))]; exact q,fun b zs q=>by rw [zj (fun z=>by subst z; rw [h] at q; cases q)]; exact q,fun b u v q=>by rw [zj (fun z=>by subst z; rw [h] at q; cases q)]; exact q⟩
theorem Room.u1F {k:Nat} {A:Around} (r:Room k A):A.units+1 < cLine:=by have:=r.un; omega
def yy (K:Tl):Sp:=Sg fun x y H Q=>∃ (S:Nat) (a b:List Int),zp K H x a /\ zp K H y b /\ Sq S a /\ b.length=S /\ a.length<=5 /\ ∀ y H',Grow [] H H' -> uD H' y (zv a b)->Q y H'
def vY (K:Tl):Sp:=Sf fun x H Q=>∃ (ms:List (List Int)) (S:Nat),yk K H x ms /\ SL ms S /\ 1<=S /\ S<=5 /\ 1<=ms.length /\ ms.length<=4 /\ ∀ y f H',Grow [] H H' -> UQ K H' y f->vF ms S f->f.length<=300->Q y H'
theorem ZE (S:Nat):((List.range S).map fun i:Nat=>V.int i)=(SK S).map V.int:=by
 unfold SK; rw [List.map_map]; rfl
section
variable {prog:Program} {w:World} {A:Around} {R:Result->Shared->Prop} {s:Shared}
theorem jg {kx vx target iter:Expr} {ifs:List Expr} {scope:Scope} {pos:Pos} {it:Value} {D:Addr} {env:Env} (I:Nat->Shared->Prop)
  (turn:∀ n s,I n s->wpAny (model prog w) A (pyNext it) (fun r s₁=>match r with
   | none=>R (.ok .next) s₁
   | some v=>wpAny (model prog w) A (letOwnedTupleGo target it v) (fun _ s₂=>wpAny (model prog w) A (assign target env v) (fun _ s₃ =>
     wpAny (model prog w) A (forIn ifs true fun c r=>if r=true then do let ok ← isTrue c env (eval c env); pure (ForInStep.yield ok) else pure (ForInStep.yield r)) (fun ok s₄ =>
      if ok=true then wpAny (model prog w) A (eval kx env) (fun kv s₅=>wpAny (model prog w) A (eval vx env) (fun vv s₆ =>
       wpAny (model prog w) A (dictSet D kv vv) (fun _ s₇=>∃ m,m < n /\ I m s₇) (fun _ _=>False) s₆) (fun _ _=>False) s₅) (fun _ _=>False) s₄
      else ∃ m,m < n /\ I m s₄) (fun _ _=>False) s₃) (fun _ _=>False) s₂) (fun _ _=>False) s₁) (fun _ _=>False) s)
  (n:Nat) (h:I n s) :
  codeAny (model prog w) A (.compLoop (.DictComp kx vx [⟨target,iter,ifs,0⟩] scope pos) 0 it (.ref D) env) R s:=by
 refine codeAny_loop rfl I (fun n s hI=>?_) n h
 show wpAny _ A ((compTurn (.DictComp kx vx [⟨target,iter,ifs,0⟩] scope pos) 0 it (.ref D) env).onRaise (fun x=>do noteFrame x env; theTreesLotGoes x)) _ _ s
 refine wpAny_noted ?_
 rw [compTurn_dict]
 have no:∀ (E:Tn) (e:Value) (s:Shared),(fun (_:Value) (_:Shared)=>False) e s->E e s:=fun _ _ _ f=>f.elim
 refine wpAny_bind (wpAny_standAt (wpAny_bind (wpAny_mono (turn n s hI) (fun r s₁ h₁=>?_) (no _))))
 cases r with
 | none=>exact wpAny_pure h₁
 | some v =>
  refine wpAny_bind (wpAny_mono h₁ (fun _ s₂ h₂=>?_) (no _))
  refine wpAny_bind (wpAny_mono h₂ (fun _ s₃ h₃=>wpAny_bind (wpAny_mono h₃ (fun ok s₄ h₄=>?_) (no _))) (no _))
  cases ok with
  | false=>exact wpAny_pure ⟨rfl,h₄⟩
  | true =>
   exact wpAny_bind (wpAny_bind (wpAny_mono h₄ (fun kv s₅ h₅=>wpAny_bind (wpAny_holding (wpAny_mono h₅ (fun vv s₆ h₆=>wpAny_bind (wpAny_standAt (wpAny_holding (wpAny_mono h₆ (fun _ s₇ h₇=>wpAny_pure ⟨rfl,h₇⟩) (no _))))) (no _)))) (no _)))
end
def jB (prog:Program) (w:World) (Hb:Hp) (h:Heap) (D:Addr) (o:Obj) (kvs:List (List To × V)):Prop :=
 kvs.length<=sizeLine /\ (D == sysModules)=false /\ ∃ xs:List (List To × Addr × Value),KT Hb kvs xs /\ ∃ es ep,h.get? D=some o /\ o.ExactDict /\ o.data = .dict es ep /\ es.toList=xs.map (entryOfKey (tupleKind (zB prog w))) /\ (xs.map (·.1)).Nodup
theorem jB.at {prog:Program} {w:World} {Hb:Hp} {h h':Heap} {D:Addr} {o:Obj} {kvs:List (List To × V)} (r:jB prog w Hb h D o kvs) (e:h'.get? D=some o):jB prog w Hb h' D o kvs :=
 let ⟨z,y,xs,k,es,ep,_,h2,h3,h4,h5⟩:=r; ⟨z,y,xs,k,es,ep,e,h2,h3,h4,h5⟩
theorem jB.obj {prog:Program} {w:World} {Hb H':Hp} {h:Heap} {D:Addr} {o:Obj} {kvs:List (List To × V)} (r:jB prog w Hb h D o kvs) (hk:∀ b xs,Hb b=some (.tup xs)->H' b=some (.tup xs)):zL prog w H' h D (.dT kvs) :=
 let ⟨z,y,xs,k,es,ep,h1,h2,h3,h4,h5⟩:=r; ⟨z,y,xs,k.keeps hk,o,es,ep,h1,h2,h3,h4,h5⟩
theorem jB.nocell {prog:Program} {w:World} {Hb:Hp} {h:Heap} {D:Addr} {o:Obj} {kvs:List (List To × V)} (r:jB prog w Hb h D o kvs) (v:Option Value):o.data ≠ .cell v:=by
 obtain ⟨_,_,_,_,es,ep,_,_,h3,_⟩:=r
 rw [h3]; intro z; cases z
def ZF (J:It) (σ0:L2.St) (H1:Hp) (g:TG) (tt:TT) (tk tv:TE) (Q:VK):Prop :=
 ∃ W:Nat->Nat->List (List To × V)->L2.St->Hp->Prop,(∃ m,W 0 m [] σ0 H1) /\ ∀ i m kvs σ' H',W i m kvs σ' H' →
  (J.stop i H' /\ ∀ l,H' l=none->Q (.ref l) (Tp H' l (.dT kvs))) ∨
  (J.go i H' /\ ∃ Nn:List (List To × V)->L2.St->Hp->Prop,(∀ zs σ2 H2,Nn zs σ2 H2 -> ∃ m',m' < m /\ W (i+1) m' zs σ2 H2) ∧
   ∀ x H2,J.yld i H' x H2->g x σ' H2 fun σ2 H3=>tt σ2 H3 fun b H4=>if b=true then tk σ2 H4 fun y H5=>tv σ2 H5 fun v H6=>kvs.length < sizeLine /\ ∃ b ks,y = .ref b /\ H1 b=some (.tup (ks.map kV)) /\ Nn (wt kvs ks v) σ2 H6 else Nn kvs σ2 H4)
def VB (wi:TI) (sub:List (Option Nat)) (g:TG) (tt:TT) (tk tv:TE):TE:=fun σ H Q=>wi σ H fun J H1=>ZF J (uB sub σ) H1 g tt tk tv Q
section
variable {X:Cx} {pins:List (Addr × Obj)} {σ:L2.St} {H2:Hp} {s₂:Shared} {it:Addr} {fp:List Addr} {tn:Nat->Heap->Prop} {J:It} {scope:Scope} {cl:List (Str × Addr)} {N':List Str} {sub:List (Option Nat)}
theorem ZG {C D:Addr} {s₀:Shared} {s':Shared} {σ':L2.St} {H':Hp} {kvs:List (List To × V)} {o oC:Obj} (I:Inv X pins σ H2 s₂)
    (hs₀:∀ b o,s₂.heap.get? b=some o->s₀.heap.get? b=some o) (hos:s₀.os=s₂.os) (hD:s₂.heap.objs.size<=D) (hC:s₂.heap.objs.size<=C) (hDC:D ≠ C) (f2:∀ b ∈ fp,yK X pins H2 b)
    (I':Inv (Se X N' scope cl C D fp s₀ H2) pins σ' H' s') (hn:H' D=none) (rv:jB X.prog X.w H2 s'.heap D o kvs)
    (ho:s'.heap.get? C=some oC) (hd:∀ v,oC.data ≠ .cell v):Inv X (pins ++ [(C,oC)]) σ (Tp H' D (.dT kvs)) s' /\ yK X pins (Tp H' D (.dT kvs)) C:=by
  have neD:∀ b o,s₂.heap.get? b=some o->b ≠ D:=fun b o e=>Nat.ne_of_lt (Nat.lt_of_lt_of_le (Heap.lt_size e) hD)
  have nm:∀ b o,s₂.heap.get? b=some o->b ∉ fp->b ∉ D :: fp:=fun b o e h z=>(List.mem_cons.mp z).elim (neD b o e) h
  have U:=I'.base
  have HC:Tp H' D (.dT kvs) C=none:=by rw [zj (Ne.symm hDC)]; exact I'.free
  have fpc:yK X pins (Tp H' D (.dT kvs)) C:=I.fpOk hC HC
  have tp:∀ b xs,H2 b=some (.tup xs)->Tp H' D (.dT kvs) b=some (.tup xs):=fun b xs e=>by have z:=U.tups b xs e; rw [zj (zk z hn)]; exact z
  have un:Un (Tt X.stack) fp H2 (Tp H' D (.dT kvs)) s₂.heap s'.heap :=
    { keep:=fun b o e n h1 h2=>U.keep b o (hs₀ b o e) n h1 (nm b o e h2)
      slot:=fun b o e n h1 h2=>U.slot b o (hs₀ b o e) n h1 (nm b o e h2)
      free:=fun b o e n h2=>by rw [zj (neD b o e)]; exact U.free b o (hs₀ b o e) n (nm b o e h2)
      there:=fun b o e h2=>U.there b o (hs₀ b o e) (nm b o e h2)
      tups:=tp
      frzs:=fun b o u e=>by have z:=U.frzs b o u e; rw [zj (zk z hn)]; exact z
      tbls:=fun b ps e=>by obtain ⟨more,z⟩:=U.tbls b ps e; exact ⟨more,by rw [zj (zk z hn)]; exact z⟩ }
  have hok:Tq X.prog X.w (Tp H' D (.dT kvs)) s'.heap:=Tq.track I'.hok hn (rv.obj tp)
  have IX:Inv X pins σ (Tp H' D (.dT kvs)) s':=I.call' (I'.os.trans hos) un hok I'.bare fun b hb=>⟨(f2 b hb).2.2.2.1,(f2 b hb).2.1,(f2 b hb).2.2.2.2.1,(f2 b hb).2.2.2.2.2⟩
  refine ⟨IX.pins_of fun p hp=>?_,fpc⟩
  rcases List.mem_append.mp hp with hp | hp
  · exact IX.pin p (List.mem_append_right _ hp)
  · rw [List.mem_singleton.mp hp]
    exact ⟨ho,HC,fpc.2.1,fpc.2.2.1,hd⟩
theorem ZH {C D:Addr} {s₀:Shared} {tg:Expr} {pos:Pos} {kx vx iter:Expr} {ifs:List Expr} {g:TG} {tt:TT} {tk tv:TE} {Q:VK} {RR:Value->Addr->Result->Shared->Prop} {W:Nat->Nat->List (List To × V)->L2.St->Hp->Prop}
  (hu:X.A.units+1 < cLine) (I:Inv X pins σ H2 s₂) (hcalm:X.calm=true) (T:Turn X.prog X.w X.K tg J fp it tn) (f2:∀ b ∈ fp,yK X pins H2 b) (hfp:∀ b ∈ fp,b < s₂.heap.objs.size)
  (hs₀:∀ b o,s₂.heap.get? b=some o->s₀.heap.get? b=some o) (hos:s₀.os=s₂.os) (hD:s₂.heap.objs.size<=D) (hC:s₂.heap.objs.size<=C) (hDC:D ≠ C)
  (hcl1:∀ x c,cl.lookup x=some c->X.env.cells.lookup x=some c)
  (hg:PG (Se X N' scope cl C D fp s₀ H2) tg g) (ht:sr (Se X N' scope cl C D fp s₀ H2) ifs tt) (hk:PE (Se X N' scope cl C D fp s₀ H2) kx tk) (he:PE (Se X N' scope cl C D fp s₀ H2) vx tv)
  (turn:∀ i m kvs σ' H',W i m kvs σ' H' →
   (J.stop i H' /\ ∀ l,H' l=none->Q (.ref l) (Tp H' l (.dT kvs))) ∨
   (J.go i H' /\ ∃ Nn:List (List To × V)->L2.St->Hp->Prop,(∀ zs σ2 H2,Nn zs σ2 H2 -> ∃ m',m' < m /\ W (i+1) m' zs σ2 H2) ∧
    ∀ x H3,J.yld i H' x H3->g x σ' H3 fun σ2 H3=>tt σ2 H3 fun b H4=>if b=true then tk σ2 H4 fun y H5=>tv σ2 H5 fun v H6=>kvs.length < sizeLine /\ ∃ b ks,y = .ref b /\ H2 b=some (.tup (ks.map kV)) /\ Nn (wt kvs ks v) σ2 H6 else Nn kvs σ2 H4))
  (hRR:∀ (D C:Addr) (oC:Obj) (m:Str->Option Value) (s':Shared) (Hf:Hp),Inv X (pins ++ [(C,oC)]) σ Hf s' -> s'.heap.Ns C m->yK X pins Hf C->Q (.ref D) Hf->RR (.ref D) C (.ok .next) s')
  (n:Nat) (s:Shared) (h:∃ i kvs o σ' H',Inv (Se X N' scope cl C D fp s₀ H2) pins σ' H' s /\ tn i s.heap /\ (∀ b ∈ fp,H' b=none) /\ H' D=none ∧
   jB X.prog X.w H2 s.heap D o kvs /\ W i n kvs σ' H') :
  codeAny (model X.prog X.w) X.A (.compLoop (.DictComp kx vx [⟨tg,iter,ifs,0⟩] scope pos) 0 (.ref it) (.ref D) (compEnvC scope cl C X.env)) (RR (.ref D) C) s:=by
 have frsz:∀ b ∈ Tt X.stack,b < s₂.heap.objs.size:=fun b hb=>by
  rcases List.mem_cons.mp (I.stkSub b hb) with z | z
  ·rw [z]; exact I.lt
  ·exact Nat.lt_of_not_le fun q=>I.nofs q z
 have cells:∀ x c,cl.lookup x=some c->c < s₂.heap.objs.size:=fun x c e=>let ⟨v,q⟩:=I.cell x c (hcl1 x c e); q.lt
 have pinsz:∀ p ∈ X.pn ++ pins,p.1 < s₂.heap.objs.size:=fun p hp=>Heap.lt_size (I.pin p hp).1
 refine jg (fun n s=>∃ i kvs o σ' H',Inv (Se X N' scope cl C D fp s₀ H2) pins σ' H' s /\ tn i s.heap /\ (∀ b ∈ fp,H' b=none) /\ H' D=none ∧
   jB X.prog X.w H2 s.heap D o kvs /\ W i n kvs σ' H') ?_ n h
 rintro n s ⟨i,kvs,o,σ',H',I',st',fr,hn,rv,w'⟩
 have hy:s.heap.get? D=some o:=let ⟨_,_,_,_,_,_,e,_⟩:=rv; e
 have pD:Inv (Se X N' scope cl C D fp s₀ H2) (pins ++ [(D,o)]) σ' H' s:=I'.pins_of fun p hp=>by
  rcases List.mem_append.mp hp with hp | hp
  ·exact I'.pin p (List.mem_append_right _ hp)
  ·rw [List.mem_singleton.mp hp]
   exact ⟨hy,hn,hDC,fun z=>absurd (Nat.lt_of_lt_of_le (frsz _ z) hD) (Nat.lt_irrefl _),rv.nocell⟩
 have fpok:∀ {H'':Hp},(∀ b ∈ fp,H'' b=none) -> ∀ b ∈ fp,yK (Se X N' scope cl C D fp s₀ H2) (pins ++ [(D,o)]) H'' b:=fun hz b hb=>by
  refine ⟨hz b hb,Nat.ne_of_lt (Nat.lt_of_lt_of_le (hfp b hb) hC),fun z=>?_,.inl (List.mem_cons_of_mem _ hb),fun x c e=>(f2 b hb).2.2.2.2.1 x c (hcl1 x c e),fun p hp=>?_⟩
  ·rcases List.mem_cons.mp (I.stkSub b z) with z | z
   ·exact (f2 b hb).2.1 z
   ·exact (f2 b hb).2.2.1 z
  ·rcases List.mem_append.mp hp with hp | hp
   ·exact (f2 b hb).2.2.2.2.2 p (List.mem_append_left _ hp)
   ·rcases List.mem_append.mp hp with hp | hp
    ·exact (f2 b hb).2.2.2.2.2 p (List.mem_append_right _ hp)
    ·rw [List.mem_singleton.mp hp]
     exact Nat.ne_of_gt (Nat.lt_of_lt_of_le (hfp b hb) hD)
 rcases turn i n kvs σ' H' w' with ⟨stop,q⟩ | ⟨go,Nn,hN,step⟩
 ·refine Tx (T.done (Se X N' scope cl C D fp s₀ H2) rfl rfl rfl hcalm i _ s σ' H' (fun _ _=>False) pD (fpok fr) st' stop) fun r s1 ⟨hr,I1⟩=>?_
  subst hr
  have hy1:=(I1.pin (D,o) (by simp)).1
  obtain ⟨m,hm,_⟩:=I1.loc
  obtain ⟨oC,es,ep,hoC,hdC,_⟩:=id hm
  obtain ⟨IX,fpc⟩:=ZG I hs₀ hos hD hC hDC f2 I1.unpinned hn (rv.at hy1) hoC (by intro v z; rw [hdC] at z; cases z)
  exact hRR D C oC m s1 _ IX hm fpc (q D hn)
 ·refine Tx (T.item (Se X N' scope cl C D fp s₀ H2) rfl rfl rfl hcalm i _ s σ' H' (fun _ _=>False) pD (fpok fr) st' go) fun r s1 ⟨u,hr,h4⟩=>?_
  subst hr
  refine Tx h4 fun _ s2 ⟨x5,H5,I5,r5,y5,st5,fr5⟩=>?_
  have I5':=I5.pinned (fpok fr5) (T.obj _ _ st5)
  refine Tx (hg _ s2 σ' H5 x5 u _ I5' r5 (step x5 H5 y5)) fun _ s3 ⟨σ6,H6,I6,q6⟩=>?_
  refine Tx (ht _ s3 σ6 H6 _ I6 q6) fun ok s4 ⟨H7,I7,q7⟩=>?_
  have stay:∀ {σ7:L2.St} {H7:Hp} {s7:Shared},Inv (Se X N' scope cl C D fp s₀ H2) (pins ++ [(D,o)] ++ wp fp s2.heap) σ7 H7 s7 →
    (∀ b ∈ fp,∀ o,s2.heap.get? b=some o->s7.heap.get? b=some o) /\ (∀ b ∈ fp,H7 b=none) /\ H7 D=none /\ s7.heap.get? D=some o:=fun {σ7 H7 s7} I7=>by
   have d:=I7.pin (D,o) (by simp)
   refine ⟨fun b hb o e=>(I7.pin (b,o) (List.mem_append_right _ (List.mem_append_right _ (zR hb e)))).1,fun b hb=>?_,d.2.1,d.1⟩
   obtain ⟨o,e,_⟩:=T.obj _ _ st5 b hb
   exact (I7.pin (b,o) (List.mem_append_right _ (List.mem_append_right _ (zR hb e)))).2.1
  cases ok with
  | false =>
   rw [if_neg (by decide)] at q7 ⊢
   obtain ⟨k1,k2,k3,k4⟩:=stay I7
   obtain ⟨m',hm,w7⟩:=hN kvs σ6 H7 q7
   exact ⟨m',hm,i+1,kvs,o,σ6,H7,I7.unpinned.unpinned,T.keep _ _ _ st5 k1,k2,k3,rv.at k4,w7⟩
  | true =>
   rw [if_pos rfl] at q7 ⊢
   refine Tx (hk _ s4 σ6 H7 _ I7 q7) fun kv s5 ⟨y,H8,I8,ry,q8⟩=>?_
   refine Tx (he _ s5 σ6 H8 _ I8 q8) fun vv s6 ⟨v,H9,I9,r9,hl9,b,ks,ey,eb,n9⟩=>?_
   subst ey
   cases (show kv=Value.ref b from ry)
   obtain ⟨k1,k2,k3,k4⟩:=stay I9
   have tp:∀ b xs,H2 b=some (.tup xs)->H9 b=some (.tup xs):=I9.base.tups
   obtain ⟨z,hd,xs,rel,es,ep,h1,h2,h3,h4',h5⟩:=rv.at k4
   have dd:s6.heap.DictOfH (tupleKind (zB X.prog X.w)) D xs:=by
    refine ⟨o,es,ep,h1,h2,h3,h4',fun x hx=>?_,h5⟩
    have all:∀ {l:List (List To × V)} {m:List (List To × Addr × Value)},KT H2 l m -> ∀ x ∈ m,(tupleKind (zB X.prog X.w)).is s6.heap x.1 x.2.1:=by
     intro l m q
     induction q with
     | nil=>intro x hx; exact nomatch hx
     | @cons p q ps qs hq t ih =>
      intro x hx
      rcases List.mem_cons.mp hx with e | hx
      ·subst e
       exact xz I9.hok (by rw [← hq.1]; exact tp _ _ hq.2.1)
      ·exact ih x hx
    exact all rel x hx
   have xl:xs.length<=sizeLine:=by rw [← Paired.length rel]; exact z
   refine wpAny_dictSet_heap (hsz:=xl) (show (tupleKind (zB X.prog X.w)).room X.A from Nat.lt_of_succ_lt hu) (xz I9.hok (tp _ _ eb)) dd fun h' dd' sb=>?_
   obtain ⟨o',es',ep',hq1,hq2,hq3,hq4,_,hq5⟩:=dd'
   obtain ⟨m',hm,w9⟩:=hN _ σ6 H9 n9
   have pl:=yM kvs ks v
   refine ⟨m',hm,i+1,wt kvs ks v,o',σ6,H9,?_,T.keep _ _ _ (T.keep _ _ _ st5 k1) fun b hb o e=>sb.extBut b o (Nat.ne_of_lt (Nat.lt_of_lt_of_le (hfp b hb) hD)) e,k2,k3,⟨by omega,hd,_,rel.put ks eb r9,es',ep',hq1,hq2,hq3,hq4,hq5⟩,w9⟩
   exact (I9.unpinned.unpinned).turned (it:=D) (t':=_) (h':=h') (fun b o hb e=>sb.extBut b o hb e) k3 hDC (.inl (by simp)) (fun x c e=>Nat.ne_of_lt (Nat.lt_of_lt_of_le (cells x c e) hD)) (fun p hp=>Nat.ne_of_lt (Nat.lt_of_lt_of_le (pinsz p hp) hD))
theorem sT {tg:Expr} {pos:Pos} {kx vx iter:Expr} {ifs:List Expr} {g:TG} {tt:TT} {tk tv:TE} {E:Tn} {Q:VK} {RR:Value->Addr->Result->Shared->Prop}
  (hu:X.A.units+1 < cLine) (I:Inv X pins σ H2 s₂) (hcalm:X.calm=true) (T:Turn X.prog X.w X.K tg J fp it tn) (st:tn 0 s₂.heap) (f2:∀ b ∈ fp,yK X pins H2 b)
  (S:CSc X scope N' sub) (hcl1:∀ x c,cl.lookup x=some c->X.env.cells.lookup x=some c) (hcl2:∀ y ∈ scope.names,y.2 = .free -> ∃ c,cl.lookup y.1=some c)
  (hg:∀ C D fp s H,PG (Se X N' scope cl C D fp s H) tg g) (ht:∀ C D fp s H,sr (Se X N' scope cl C D fp s H) ifs tt) (hk:∀ C D fp s H,PE (Se X N' scope cl C D fp s H) kx tk) (he:∀ C D fp s H,PE (Se X N' scope cl C D fp s H) vx tv)
  (hW:ZF J (uB sub σ) H2 g tt tk tv Q)
  (hRR:∀ (D C:Addr) (oC:Obj) (m:Str->Option Value) (s':Shared) (Hf:Hp),Inv X (pins ++ [(C,oC)]) σ Hf s' -> s'.heap.Ns C m->yK X pins Hf C->Q (.ref D) Hf->RR (.ref D) C (.ok .next) s') :
  wpAny (model X.prog X.w) X.A newDict (fun acc s₃=>wpAny (model X.prog X.w) X.A (newFunctionEnv scope X.env.globals cl [] X.env.qual none .none (some X.env)) (fun cenv s₄ =>
   codeAny (model X.prog X.w) X.A (.compStart (.DictComp kx vx [⟨tg,iter,ifs,0⟩] scope pos) 0 (.ref it) acc { cenv with scope:=relabel scope X.env }) (RR acc cenv.locals) s₄) E s₃) E s₂:=by
 obtain ⟨W,⟨m0,w0⟩,turn⟩:=hW
 refine wpAny_newObj_type (wpAny_newFunctionEnv S.nocell (by intro y hy; simp at hy) (fun h₁ hns₁ hsb₁=>?_) S.kind)
 dsimp only at hns₁ hsb₁ ⊢
 have hC:(s₂.heap.push { cls:=.type "dict",dict:=none,data:=.dict #[] }).objs.size=s₂.heap.objs.size+1:=Heap.size_push ..
 rw [hC] at hns₁ hsb₁ ⊢
 have hk1:∀ b o,(s₂.heap.push { cls:=.type "dict",dict:=none,data:=.dict #[] }).get? b=some o->h₁.get? b=some o:=fun b o e =>
  hsb₁.extBut b o (by have:=Heap.lt_size e; rw [hC] at this; exact Nat.ne_of_lt this) (Heap.get?_push_of_some _ e)
 have hfp:∀ b ∈ fp,b < s₂.heap.objs.size:=fun b hb=>by
  obtain ⟨o,e,_⟩:=T.obj _ _ st b hb
  exact Heap.lt_size e
 have I0:=x9 (tk:=s₂.toks+([]:List (Str × Value)).length) I S hcl1 hcl2 f2 hfp hns₁ hk1
 have hD0:h₁.get? s₂.heap.objs.size=some { cls:=.type "dict",data:=.dict #[] }:=hk1 _ _ (Heap.get?_push_size _ rfl)
 obtain ⟨_,hd0,xs0,rel0,o0,es0,ep0,q1,q2,q3,q4,q5⟩:=(ug (P:=X.prog) (w:=X.w) (H:=H2) s₂.heap I.big)
 rw [Heap.get?_push_size _ rfl] at q1
 cases q1
 have loop:codeAny (model X.prog X.w) X.A (.compLoop (.DictComp kx vx [⟨tg,iter,ifs,0⟩] scope pos) 0 (.ref it) (.ref s₂.heap.objs.size) (compEnvC scope cl (s₂.heap.objs.size+1) X.env)) (RR (.ref s₂.heap.objs.size) (s₂.heap.objs.size+1)) { s₂ with heap:=h₁,toks:=s₂.toks+([]:List (Str × Value)).length } :=
  ZH (s₀:={ s₂ with heap:=s₂.heap.push { cls:=.type "dict",dict:=none,data:=.dict #[] } }) (C:=s₂.heap.objs.size+1) (D:=s₂.heap.objs.size) hu I hcalm T f2 hfp (fun b o e=>Heap.get?_push_of_some _ e) rfl (Nat.le_refl _) (Nat.le_succ _) (Nat.ne_of_lt (Nat.lt_succ_self _)) hcl1 (hg _ _ _ _ _) (ht _ _ _ _ _) (hk _ _ _ _ _) (he _ _ _ _ _) turn hRR m0 _
   ⟨0,[],_,uB sub σ,H2,I0,T.keep _ _ _ st fun b hb o e=>hk1 b o (Heap.get?_push_of_some _ e),fun b hb=>(f2 b hb).1,I.hok.fresh (Nat.le_refl _),⟨Nat.zero_le _,hd0,[],.nil,es0,ep0,hD0,q2,q3,by cases rel0; exact q4,List.nodup_nil⟩,w0⟩
 exact codeAny_compStart_dict loop (T.self _ _ _ _ _ (T.keep _ _ _ st fun b hb o e=>hk1 b o (Heap.get?_push_of_some _ e)) loop)
end
section
variable {X:Cx} {scope:Scope} {N':List Str} {sub:List (Option Nat)} {tg:Expr} {pos:Pos} {kx vx iter:Expr} {ifs:List Expr} {wi:TI} {g:TG} {tt:TT} {tk tv:TE}
theorem Y0 (hu:X.A.units+1 < cLine) (S:CSc X scope N' sub) (hcalm:X.calm=true) (hi:PI X tg iter wi)
  (hg:∀ cl C D fp s H,PG (Se X N' scope cl C D fp s H) tg g) (ht:∀ cl C D fp s H,sr (Se X N' scope cl C D fp s H) ifs tt) (hk:∀ cl C D fp s H,PE (Se X N' scope cl C D fp s H) kx tk) (he:∀ cl C D fp s H,PE (Se X N' scope cl C D fp s H) vx tv)
  (hs:∀ x,foldedSetIterable iter X.env x=pure x:=by intro _; rfl):PE X (.DictComp kx vx [⟨tg,iter,ifs,0⟩] scope pos) (VB wi sub g tt tk tv):=by
 intro pins s σ H Q I h
 obtain ⟨cl,hclos,hcl1,hcl2⟩:=S.clos I
 rw [arm_eval_DictComp]
 refine wpAny_comprehension_free (use:=none) rfl hs hclos S.kind S.names (Tx (hi pins s σ H _ I h) fun v s1 h1=>Tx h1 fun itv s2 h2=>?_)
 obtain ⟨it,fp,tn,J,H2,e,I2,T,st2,f2,hW⟩:=h2
 subst e
 refine sT (RR:=fun acc C=>compPost (model X.prog X.w) X.A X.xe none (EP X pins σ Q) acc C) hu I2 hcalm T st2 f2 S hcl1 hcl2 (hg cl) (ht cl) (hk cl) (he cl) hW ?_
 intro D C oC m s' Hf IX hm fpc q
 refine ⟨m,hm,fun h' sb=>⟨.ref D,Hf,?_,rfl,q⟩⟩
 exact (IX.unpinned).turned (it:=C) (t':=s'.toks) (h':=h') (fun b o hb e=>sb.extBut b o hb e) fpc.1 fpc.2.1 fpc.2.2.2.1 fpc.2.2.2.2.1 fpc.2.2.2.2.2
end
section
variable {c:TT} {e:TE} {i:Nat} {v v':V} {t u r:TS} {D:Ends} {σ:L2.St} {H:Hp} {rt:VK} {bk ct:L2.St->Hp->Prop}
theorem XG (h:t D (σ.set i (some v)) H):x8 i v σ H ({ nx:=t D,rt:=rt,bk:=bk,ct:=ct }:Ends).nx:=h
theorem Tg (Good:L2.St->Hp->Prop) (hr:∀ σ' H',Good σ' H' -> r D σ' H') (hc:(∀ σ' H',Good σ' H' -> r D σ' H')->VX c t u { D with nx:=r D } σ H):WY (VX c t u) r D σ H:=hc hr
theorem ZI (Good:V->Hp->Prop) (hc:∀ K:VK,(∀ v H',Good v H' -> K v H')->e σ H K) (hr:∀ v H',Good v H' -> t D (σ.set i (some v)) H'):WY (W1 e (x8 i)) t D σ H:=hc _ fun v H' g=>hr v H' g
theorem wu (h:t D σ H):WX ({ nx:=t D,rt:=rt,bk:=bk,ct:=ct }:Ends) σ H:=h
theorem Ws (h:t D σ H):({ nx:=t D,rt:=rt,bk:=bk,ct:=ct }:Ends).nx σ H:=h
theorem vf (Good:Bool->Hp->Prop) (hc:∀ K:Bool->Hp->Prop,(∀ b H',Good b H' -> K b H')->c σ H K) (hr:∀ b H',Good b H' -> if b=true then t { D with nx:=r D } σ H' else u { D with nx:=r D } σ H'):WY (VX c t u) r D σ H:=hc _ hr
end
theorem FamOk.closed {ms:List (List Int)} {S:Nat} {r:FW} (h:FamOk ms S r) (hM:SL ms S) (hl:r.length<=60) {a b:List Int} (ha:a ∈ zh r) (hb:b ∈ zh r):zv a b ∈ zh r :=
 h.all hl ((h.good.wd a ha).mul hM (h.good.wd b hb))
theorem um {K:Tl} {H:Hp} {xs:List V} {rows:List (List Int)} (h:zU (zp K H) xs rows) {i:Nat} (h1:i < rows.length):∃ a,T5 xs (i:Int)=some (V.ref a) /\ TC K H a ((rows.getD i []).map V.int):=by
 have:=wU h (i:=(i:Int)) (Int.natCast_nonneg i) (by omega)
 rw [Int.toNat_natCast] at this
 exact this
section
variable {prog:Program} {w:World} {A:Around} {E:Tn} {s:Shared} {T:String} {r d:Addr} {n:Nat} {P:Nat->Value->Prop} {OK:Heap->Prop}
theorem sU {Q:List Value->Shared->Prop} (K:KdlSrc prog w T r d n P OK) (hh:A.handled=none) (hok:OK s.heap) (hn:n<=sizeLine)
  (hQ:∀ (h':Heap) tk acc',(∀ b o,s.heap.get? b=some o->h'.get? b=some o)->ItemsOf P acc' n->Q acc'.toList { s with heap:=h',toks:=tk }) :
  wpAny (model prog w) A (collect (.ref r)) Q E s:=by
 unfold collect
 refine wpAny_bind (wpAny_runValue (codeAny_builtin F.entry_proto_collect ?_))
 rw [Around.under_plainId F.plain_proto_collect _]
 show wpAny _ A.in1 (newList [] >>= fun l=>again (.builtin "list.__iadd__" ⟨[l,.ref r],[]⟩)) _ _ s
 refine wpAny_bind (wpAny_newObj_type ?_)
 refine wpAny_pure ⟨plainId_quiet F.plain_list_iadd _,codeAny_builtin F.entry_list_iadd ?_⟩
 rw [Around.under_plainId F.plain_list_iadd _]
 show wpAny _ A.in1 (Builtin.List.listExtendWith (.ref s.heap.objs.size) (.ref r) (.ref s.heap.objs.size)) _ _ _
 have hS:(s.heap.push { cls:=.type "list",data:=.seq ([]:List Value).toArray }).get? s.heap.objs.size=some { cls:=.type "list",data:=.seq ([]:List Value).toArray }:=Heap.get?_push_size _ rfl
 have hok':OK (s.heap.push { cls:=.type "list",data:=.seq ([]:List Value).toArray }):=K.keep _ _ hok fun b _ o e=>Heap.get?_push_of_some _ e
 have fin:∀ (h':Heap) tk acc' c',(∀ b o,s.heap.get? b=some o->h'.get? b=some o)->h'.get? s.heap.objs.size=some { cls:=.type "list",dict:=none,data:=.seq acc' c',slots:=#[] } -> ItemsOf P acc' n →
   wpAny (model prog w) A (load s.heap.objs.size >>= fun o=>match o.data with | .seq xs _=>pure xs.toList | _=>unsupported "internal:collect") Q E { s with heap:=h',toks:=tk }:=fun h' tk acc' c' hk hS' hacc =>
  wpAny_bind (wpAny_load hS' (wpAny_pure (hQ h' tk acc' hk hacc)))
 refine wpAny_mono (kdl_extend (R:=fun r' s'=>∃ (h':Heap) (tk:Nat) (acc':Array Value) (c':Nat),r' = .ok (.ret (.ref s.heap.objs.size)) /\ s' = { s with heap:=h',toks:=tk } /\ (∀ b o,s.heap.get? b=some o->h'.get? b=some o) /\ h'.get? s.heap.objs.size=some { cls:=.type "list",dict:=none,data:=.seq acc' c',slots:=#[] } /\ ItemsOf P acc' n)
   K hh (s:={ s with heap:=s.heap.push { cls:=.type "list",data:=.seq ([]:List Value).toArray } }) hok' s.heap.objs.size (Ne.symm (Nat.ne_of_lt (K.there _ hok).1)) (Ne.symm (Nat.ne_of_lt (K.there _ hok).2)) _ 0 hS (fun h' tk acc' c' hk hS hacc =>
  ⟨h',tk,acc',c',rfl,rfl,fun b o e=>hk b o (Nat.ne_of_lt (Heap.lt_size e)) (Heap.get?_push_of_some _ e),hS,hacc⟩) hn) (fun fn s' h=>?_) (fun e s' h=>?_)
 ·cases fn with
  | done f =>
   obtain ⟨h',tk,acc',c',e,rfl,hf,hl,hS'⟩:=h
   cases e
   exact fin h' tk acc' c' hf hl hS'
  | again c =>
   refine ⟨h.1,codeAny_mono h.2 fun r s'' hr=>?_⟩
   obtain ⟨h',tk,acc',c',e,rfl,hf,hl,hS'⟩:=hr
   subst e
   exact fin h' tk acc' c' hf hl hS'
 ·obtain ⟨h',tk,acc',c',e,_⟩:=h
  cases e
theorem xA {Q:Tn} (K:KdlSrc prog w T r d n P OK) (hh:A.handled=none) (hok:OK s.heap) (hn:n<=sizeLine)
  (hQ:∀ (h':Heap) tk acc',(∀ b o,s.heap.get? b=some o->h'.get? b=some o)->ItemsOf P acc' n->Q (.ref h'.objs.size) { s with heap:=h'.push { cls:=.type "tuple",data:=.seq acc' },toks:=tk }) :
  wpAny (model prog w) A (call (.type "tuple") [.ref r]) Q E s:=by
 refine callType_codes (Q₁:=fun obj s₁=>s₁.TypeIs obj "tuple" /\ Q obj s₁) F.called_tuple (F.typeCall_tuple_1 _) F.entry_object_init ?_ fun obj s₁ h₁=>?_
 ·refine codeAny_of_tree ?_
  show wpAny _ A.in1.in1 (do checkBuiltinCall "tuple.__new__" ⟨[.type "tuple",.ref r],[]⟩; again (.builtin "tuple.__new__" ⟨[.type "tuple",.ref r],[]⟩)) _ _ s
  refine wpAny_bind (wpAny_of_eq (F.newCall_tuple_1 _) (wpAny_pure ⟨plainId_quiet F.plain_tuple_new _,codeAny_builtin F.entry_tuple_new ?_⟩))
  rw [Around.under_plainId F.plain_tuple_new _]
  have hsub:=sub_tuple_self
  have hinit:=init_tuple_lookup
  have hmh:=madeHere_tuple
  have hTI:=K.type s hok
  have hnt:=K.notTuple
  wp_walk using wpAny_typeOf hTI,sU (A:=A.in1.in1) K hh hok hn
  intro h' tk acc hf hacc
  show wpAny _ _ (Builtin.Tuple.tupleExact acc.toList.toArray >>= fun v=>ret v) _ _ _
  unfold Builtin.Tuple.tupleExact
  refine wpAny_bind (wpAny_newObj_type ?_ (by show acc.toList.toArray.size<=sizeLine; simp only [Array.toArray_toList]; rw [hacc.1]; exact hn))
  refine wpAny_pure ⟨⟨_,Heap.get?_push_size _ rfl,rfl⟩,?_⟩
  have e:acc.toList.toArray=acc:=by simp
  rw [e]
  exact hQ h' tk acc hf hacc
 ·exact ⟨h₁.1,F.args_object_init_2 obj _,object_init_meets F.called_tuple.init.lookup F.called_tuple.made (by decide) prog w A.in1 _ s₁ ⟨h₁.1,rfl,h₁.2⟩⟩
end
section
variable {X:Cx}
theorem u6 {k:Nat} (hr:Room k X.A):yw X (.type "tuple") (fun xs H Q=>∃ a kvs,xs=[V.ref a] /\ H a=some (.dT kvs) /\ ∀ l zs,H l=none->zs.length=kvs.length->zU (Wr H) zs kvs->Q (.ref l) (Tp H l (.tup zs))):=by
 intro pins s σ H xs us Q I r h
 obtain ⟨a,kvs,rfl,ha,q⟩:=h
 obtain ⟨u,rfl,ru⟩:=xE r
 cases ru
 obtain ⟨z,hd,ys,rel,dd⟩:=Zv I.hok ha
 obtain ⟨o,es,ep,ho,hc,hdat,he,_,_⟩:=dd
 have hl:kvs.length=ys.length:=Paired.length rel
 have hes:es.size=ys.length:=size_of_entries he
 refine xA (Wq (es:=es) (ep:=ep) hd) hr.hd ⟨o,ho,hc,hdat⟩ (by rw [hes,← hl]; exact z) fun h' tk acc' kp hI=>?_
 have hacc:acc'.toList=ys.map fun q=>Value.ref q.2.1:=by
  apply List.ext_getElem
  ·rw [Array.length_toList,hI.1,hes,List.length_map]
  ·intro j h1 h2
   rw [Array.length_toList] at h1
   obtain ⟨hj,ev⟩:=hI.2 j acc'[j] (Array.getElem?_eq_getElem h1)
   have hy:j < ys.length:=by omega
   have ee:=entry_at he j
   rw [Array.getElem?_eq_getElem hj,List.getElem?_eq_getElem hy,Option.map_some] at ee
   rw [Array.getElem_toList,ev,Option.some.inj ee,List.getElem_map]
   rfl
 have fr:H h'.objs.size=none:=(I.kept (t':=tk) kp).hok.fresh (Nat.le_refl _)
 refine ⟨.ref h'.objs.size,_,(I.kept (t':=tk) kp).laid (t':=tk) (o:=.tup (ys.map fun q=>V.ref q.2.1)) (fun b ob q=>Heap.get?_push_of_some _ q) (Nat.le_refl _) ⟨by rw [List.length_map,← hl]; exact z,acc'.toList,by rw [hacc]; exact u4 ys,?_⟩,rfl,q _ _ fr (by rw [List.length_map,hl]) (rZ rel)⟩
 rw [Array.toArray_toList]
 exact IsTup.new _ _
end
def zX:Nat->List (List Int)->List (List To × V)
 | _,[]=>[]
 | j,d :: r=>(kI d,V.int j) :: zX (j+1) r
theorem xV:∀ (j:Nat) (a b:List (List Int)),zX j (a ++ b)=zX j a ++ zX (j+a.length) b
 | j,[],b=>rfl
 | j,d :: a,b=>by
  show (kI d,V.int j) :: zX (j+1) (a ++ b)=(kI d,V.int j) :: (zX (j+1) a ++ zX (j+(a.length+1)) b)
  rw [xV (j+1) a b,show j+1+a.length=j+(a.length+1) by omega]
theorem vg:∀ (j:Nat) (a:List (List Int)),(zX j a).length=a.length
 | _,[]=>rfl
 | j,_ :: a=>congrArg (· + 1) (vg (j+1) a)
theorem uo {d:List Int}:∀ (j:Nat) {a:List (List Int)},d ∉ a->uC (zX j a) (kI d)=none
 | _,[],_=>rfl
 | j,e :: a,h=>by
  show uC ((kI e,V.int j) :: zX (j+1) a) (kI d)=none
  rw [xi (fun z=>h (List.mem_cons.mpr (.inl (qf z).symm)))]
  exact uo (j+1) fun z=>h (List.mem_cons.mpr (.inr z))
def SO:List (List Int)->List Int->Nat
 | [],_=>0
 | e :: a,d=>if e=d then 0 else SO a d+1
theorem vh {d:List Int}:∀ (j:Nat) {a:List (List Int)},d ∈ a->uC (zX j a) (kI d)=some (V.int ((j+SO a d:Nat):Int))
 | _,[],h=>nomatch h
 | j,e :: a,h=>by
  show uC ((kI e,V.int j) :: zX (j+1) a) (kI d)=some (V.int ((j+(if e=d then 0 else SO a d+1):Nat):Int))
  by_cases c:e=d
  ·rw [xT (by rw [c]),if_pos c]; rfl
  ·rw [xi (fun z=>c (qf z)),if_neg c]
   have h':d ∈ a:=(List.mem_cons.mp h).resolve_left fun z=>c z.symm
   rw [vh (j+1) h',show j+1+SO a d=j+(SO a d+1) by omega]
theorem qg {d:List Int}:∀ {a:List (List Int)},d ∈ a->SO a d < a.length
 | [],h=>nomatch h
 | e :: a,h=>by
  show (if e=d then 0 else SO a d+1) < a.length+1
  by_cases c:e=d
  ·rw [if_pos c]; omega
  ·rw [if_neg c]
   have:=qg ((List.mem_cons.mp h).resolve_left fun z=>c z.symm)
   omega
theorem ZJ {d:List Int}:∀ {a:List (List Int)},d ∈ a->a.getD (SO a d) []=d
 | [],h=>nomatch h
 | e :: a,h=>by
  show (e :: a).getD (if e=d then 0 else SO a d+1) []=d
  by_cases c:e=d
  ·rw [if_pos c]; exact c
  ·rw [if_neg c]
   exact ZJ ((List.mem_cons.mp h).resolve_left fun z=>c z.symm)
def Y1 (fam:List (List Int)):List (List Int):=fam.map fun a=>fam.map fun b=>(SO fam (zv a b):Int)
structure Fam (S:Nat) (fam:List (List Int)):Prop where
 nd:fam.Nodup
 dd:∀ d ∈ fam,Dd S d
 cl:∀ a ∈ fam,∀ b ∈ fam,zv a b ∈ fam
 hd:fam[0]? = some (SK S)
 l60:fam.length<=60
theorem vF.fam {ms:List (List Int)} {S:Nat} {f:FW} (h:vF ms S f) (hM:SL ms S) (hf:SM ms S):Fam S (zh f):=by
 have hO:=h.ok
 have h60:=hO.le hf
 refine ⟨hO.good.nd,fun d hd=>(hO.good.wd d hd).dd hM,fun a ha b hb=>hO.closed hM h60 ha hb,?_,by unfold zh; rw [List.length_map]; exact h60⟩
 have:=hO.hd
 cases f with
 | nil=>cases this
 | cons p f=>cases this; rfl
theorem Y2 {S:Nat} {fam:List (List Int)} (h:Fam S fam):YD fam.length fam.length (Y1 fam):=by
 refine ⟨by unfold Y1; rw [List.length_map],fun row hr=>?_⟩
 obtain ⟨a,ha,rfl⟩:=List.mem_map.mp hr
 refine ⟨by rw [List.length_map],fun v hv=>?_⟩
 obtain ⟨b,hb,rfl⟩:=List.mem_map.mp hv
 have:=qg (h.cl a ha b hb)
 omega
def yH (K:Tl):Sp:=Si fun x y z H Q=>∃ (R M:Nat) (lo hi:Int) (rows:List (List Int)),yk K H x rows /\ y = .int lo /\ z = .int hi /\ lo<=R /\ R<=hi /\ 1<=R /\ R<=60 /\ 1<=M /\ M<=5 /\ YD R M rows /\ ∀ H',Grow [] H H' -> Q .non H'
structure MksAt (K:Tl) (H:Hp) (x:V) (ms:List (List Int)) (S:Nat):Prop where
 at':yk K H x ms
 ok:SL ms S
 s1:1<=S
 s5:S<=5
 m1:1<=ms.length
 m4:ms.length<=4
 few:SM ms S
def jh (K:Tl) (H:Hp) (x:V) (rows:List (List Int)):Prop:=∃ r xs,x = .ref r /\ TC K H r xs /\ zU (uD H) xs rows
theorem jh.rows {K:Tl} {H:Hp} {x:V} {rows:List (List Int)} (h:jh K H x rows):yk K H x rows:=let ⟨r,xs,e,h1,h2⟩:=h; ⟨r,xs,e,h1,h2.imp fun _ _ z=>z.board⟩
theorem jh.grow {K:Tl} {m:List Addr} {H H':Hp} {x:V} {rows:List (List Int)} (h:jh K H x rows) (g:Grow m H H'):jh K H' x rows:=let ⟨r,xs,e,h1,h2⟩:=h; ⟨r,xs,e,g.sqT h1,h2.imp fun _ _ z=>z.grow g⟩
theorem u7 {H:Hp}:∀ {zs:List V} {kvs:List (List To × V)} {fam:List (List Int)},zU (Wr H) zs kvs->kvs.map (·.1)=fam.map (List.map Sum.inl)->zU (uD H) zs fam
 | [],[],[],_,_=>trivial
 | [],[],_ :: _,_,e=>by cases e
 | _ :: _,_ :: _,[],_,e=>by cases e
 | z :: zs,p :: kvs,d :: fam,h,e=>by
  rw [List.map_cons,List.map_cons] at e
  injection e with e1 e2
  obtain ⟨⟨b,hb,hp⟩,ht⟩:=h
  refine ⟨⟨b,hb,?_⟩,u7 ht e2⟩
  rw [hp,e1,sQ]
 | [],_ :: _,_,h,_=>h.elim
 | _ :: _,[],_,h,_=>h.elim
section
variable {K:Tl} {a:Addr} {c:Bool} {xs:List V} {k:Nat} {g:TG} {tt:TT} {te tk tv:TE} {Q:VK} {σ:L2.St} {H:Hp}
theorem y7 (Pv:Nat->List V->Hp->Prop) (h0:Pv 0 [] H) (hl:∀ i ys H',Pv i ys H' -> TC K H' a xs)
  (hs:∀ i x ys H',xs[i]? = some x->Pv i ys H' -> te (σ.set k (some x)) H' fun y H5=>ys.length < sizeLine /\ Pv (i+1) (ys ++ [y]) H5)
  (hd:∀ ys H',Pv xs.length ys H' -> ∀ l,H' l=none->Q (.ref l) (Tp H' l (.lst ys))):wy (TK K a) σ H (x8 k) jZ te Q :=
 qQ (fun _=>true) Pv h0 hl (fun _ _ _ _ h=>h) (fun i x ys H' hx p _=>hs i x ys H' hx p) (fun _ _ _ _ _ _ z=>nomatch z) hd
theorem ji (Pv:Nat->List (List To × V)->L2.St->Hp->Prop) (h0:Pv 0 [] σ H) (hl:∀ i zs σ H,Pv i zs σ H->Sy c K H a xs)
  (hs:∀ i x zs σ H' T,xs[i]? = some x->Pv i zs σ H' -> H' T=none->g (.ref T) σ (Tp H' T (.tup [.int i,x])) fun σ2 H3=>tt σ2 H3 fun b H4=>if b=true then tk σ2 H4 fun y H5=>tv σ2 H5 fun v H6=>zs.length < sizeLine /\ ∃ b ks,y = .ref b /\ H b=some (.tup (ks.map kV)) /\ Pv (i+1) (wt zs ks v) σ2 H6 else Pv (i+1) zs σ2 H4)
  (hd:∀ zs σ H,Pv xs.length zs σ H -> ∀ l,H l=none->Q (.ref l) (Tp H l (.dT zs))) :
  ZF (VZ c K a) σ H g tt tk tv Q:=by
 refine ⟨fun i m zs σ H=>m=xs.length - i /\ i<=xs.length /\ Pv i zs σ H,⟨xs.length,by simp,Nat.zero_le _,h0⟩,?_⟩
 rintro i m zs σ H' ⟨rfl,hi,p⟩
 have q:=hl i zs σ H' p
 by_cases hlt:i < xs.length
 ·refine .inr ⟨⟨xs,xs[i],q,by simp [hlt]⟩,Pv (i+1),fun ws σ' H' p'=>⟨xs.length - (i+1),by omega,rfl,hlt,p'⟩,fun x H'' y=>?_⟩
  obtain ⟨T,v,hT,rfl,rfl,y1⟩:=y
  exact hs i v zs σ H' T (y1 xs q) p hT
 ·have e:i=xs.length:=by omega
  subst e
  exact .inl ⟨⟨xs,q,Nat.le_refl _⟩,hd zs σ H' p⟩
end
theorem yk.datT {K:Tl} {H:Hp} {x:V} {rows:List (List Int)} (h:yk K H x rows):Dat K H x (.tuple (rows.map qP)):=by
 obtain ⟨r,xs,rfl,hs,ha⟩:=h
 exact .tup hs (UO (fun _ _ z=>z.dat) ha)
theorem qh {K:Tl} {H:Hp} {l:Addr} {zs:List V} {rows:List (List Int)} (hl:TB K H l zs) (h:zU (zp K H) zs rows):Dq K H (.ref l) (.list (rows.map YL)):=.lst hl (rV h)
theorem ZK (rows:List (List Int)):(PyData.list (rows.map YL)).depth<=100:=Nat.le_trans (Nat.succ_le_succ (rU rows)) (by decide)
structure OrdB (n:Nat) (lt:Nat->Nat->Bool):Prop where
 tr:∀ {i j k:Nat},lt i j=true->lt j k=true->lt i k=true
 as:∀ {i j:Nat},lt i j=true->lt j i=false
 to:∀ {i j:Nat},i < n->j < n->i ≠ j->lt i j=false->lt j i=true
structure PmA (n:Nat) (p:Array Nat):Prop where
 sz:p.size=n
 pm:p.toList.Perm (List.range n)
theorem PmA.lt {n:Nat} {p:Array Nat} (h:PmA n p) {i:Nat} (hi:i < n):p.getD i 0 < n:=by
 have hi':i < p.toList.length:=by rw [Array.length_toList,h.sz]; exact hi
 have e:p.getD i 0=p.toList[i]:=by simp [Array.getD,h.sz,hi]
 rw [e]
 exact List.mem_range.mp (h.pm.mem_iff.mp (List.getElem_mem hi'))
theorem PmA.inj {n:Nat} {p:Array Nat} (h:PmA n p) {i j:Nat} (hi:i < n) (hj:j < n) (hne:i ≠ j):p.getD i 0 ≠ p.getD j 0:=by
 have hi':i < p.toList.length:=by rw [Array.length_toList,h.sz]; exact hi
 have hj':j < p.toList.length:=by rw [Array.length_toList,h.sz]; exact hj
 have e:p.getD i 0=p.toList[i]:=by simp [Array.getD,h.sz,hi]
 have e':p.getD j 0=p.toList[j]:=by simp [Array.getD,h.sz,hj]
 rw [e,e']
 intro z
 exact hne ((List.getElem_inj (h.pm.nodup_iff.mpr List.nodup_range)).mp z)
theorem PmA.of_perm {n:Nat} {p q:Array Nat} (h:PmA n p) (hq:q.Perm p):PmA n q :=
 ⟨hq.size_eq.trans h.sz,(Array.perm_iff_toList_perm.mp hq).trans h.pm⟩
def SQ (lt:Nat->Nat->Bool) (p:Array Nat) (k:Nat):Prop:=∀ i j,i < j->j < k->lt (p.getD i 0) (p.getD j 0)=true
def sV (lt:Nat->Nat->Bool) (p:Array Nat) (k:Nat):Prop:=∀ i j,i < j->j < k->lt (p.getD j 0) (p.getD i 0)=true
theorem qj {p q:Array Nat} {i j:Nat} (h:p[i]? = q[j]?):p.getD i 0=q.getD j 0:=by
 rw [Array.getD_eq_getD_getElem?,Array.getD_eq_getD_getElem?,h]
section
variable {n:Nat} {lt:Nat->Nat->Bool} {cmp:Nat->Nat->(Bool->Shared->Prop)->Shared->Prop} {s:Shared}
def Y3 (n:Nat) (lt:Nat->Nat->Bool) (cmp:Nat->Nat->(Bool->Shared->Prop)->Shared->Prop) (s:Shared):Prop:=∀ i j (C:Bool->Shared->Prop),i < n->j < n->C (lt i j) s->cmp i j C s
theorem SQ.snoc {p:Array Nat} {m:Nat} (o:OrdB n lt) (h1:1<=m) (u:SQ lt p m) (e:lt (p.getD (m - 1) 0) (p.getD m 0)=true):SQ lt p (m+1):=by
 intro i j hij hj
 by_cases hjm:j < m
 ·exact u i j hij hjm
 ·obtain rfl:j=m:=by omega
  by_cases hi:i=j - 1
  ·subst hi; exact e
  ·exact o.tr (u i (j - 1) (by omega) (by omega)) e
theorem up (o:OrdB n lt) (hc:Y3 n lt cmp s) {p:Array Nat} (hp:PmA n p):∀ (f m:Nat) {Q:Nat->Shared->Prop},1<=m->m+f=n->SQ lt p m →
  (∀ k,m<=k->k<=n->SQ lt p k->(k=n \/ lt (p.getD k 0) (p.getD (k - 1) 0)=true)->Q k s)->(kas_asc p f m).kasWp cmp Q s
 | 0,m,Q,h1,e,u,q=>q m (Nat.le_refl _) (by omega) u (.inl (by omega))
 | f+1,m,Q,h1,e,u,q=>by
  refine hc _ _ _ (hp.lt (by omega)) (hp.lt (by omega)) ?_
  cases c:lt (p.getD m 0) (p.getD (m - 1) 0) with
  | true =>
   dsimp only
   rw [if_pos rfl]
   exact q m (Nat.le_refl _) (by omega) u (.inr c)
  | false =>
   dsimp only
   rw [if_neg (by decide)]
   exact up o hc hp f (m+1) (by omega) (by omega) (u.snoc o h1 (o.to (hp.lt (by omega)) (hp.lt (by omega)) (hp.inj (by omega) (by omega) (by omega)) c)) fun k hk=>q k (by omega)
theorem sV.snoc {p:Array Nat} {m:Nat} (o:OrdB n lt) (h1:1<=m) (u:sV lt p m) (e:lt (p.getD m 0) (p.getD (m - 1) 0)=true):sV lt p (m+1):=by
 intro i j hij hj
 by_cases hjm:j < m
 ·exact u i j hij hjm
 ·obtain rfl:j=m:=by omega
  by_cases hi:i=j - 1
  ·subst hi; exact e
  ·exact o.tr e (u i (j - 1) (by omega) (by omega))
theorem u8 (o:OrdB n lt) (hc:Y3 n lt cmp s) {p:Array Nat} (hp:PmA n p):∀ (f m:Nat) {Q:Array Nat × Nat × Nat->Shared->Prop},1<=m->m+f=n->sV lt p m →
  (∀ k,m<=k->k<=n->sV lt p k->Q (p,k,0) s)->(kas_desc f p m 0).kasWp cmp Q s
 | 0,m,Q,h1,e,u,q=>q m (Nat.le_refl _) (by omega) u
 | f+1,m,Q,h1,e,u,q=>by
  refine hc _ _ _ (hp.lt (by omega)) (hp.lt (by omega)) ?_
  cases c:lt (p.getD m 0) (p.getD (m - 1) 0) with
  | true =>
   dsimp only
   rw [if_pos rfl,if_neg (by decide)]
   exact u8 o hc hp f (m+1) (by omega) (by omega) (u.snoc o h1 c) fun k hk=>q k (by omega)
  | false =>
   dsimp only
   rw [if_neg (by decide)]
   refine hc _ _ _ (hp.lt (by omega)) (hp.lt (by omega)) ?_
   rw [o.to (hp.lt (by omega)) (hp.lt (by omega)) (hp.inj (by omega) (by omega) (by omega)) c]
   dsimp only
   rw [if_pos rfl]
   exact q m (Nat.le_refl _) (by omega) u
theorem Wt {p:Array Nat} {k:Nat} (hp:PmA n p) (hk:k<=n) (d:sV lt p k):SQ lt (kas_rev p 0 k) k:=by
 intro i j hij hj
 have g:∀ x,x < k->(kas_rev p 0 k).getD x 0=p.getD (k - 1 - x) 0:=fun x hx=>by
  refine qj ?_
  unfold kas_rev
  rw [getElem?_mirror_all (by rw [hp.sz]; exact hk),if_pos (by omega)]
  congr 1; omega
 rw [g i (by omega),g j hj]
 exact d _ _ (by omega) (by omega)
theorem ZL (o:OrdB n lt) (hc:Y3 n lt cmp s) {p:Array Nat} (hp:PmA n p) {k:Nat} (h1:1<=k) (hk:k<=n) (d:sV lt p k) {Q:Nat × Array Nat->Shared->Prop}
  (q:∀ m p',PmA n p' -> 1<=m->m<=n->SQ lt p' m->Q (m,p') s):(kas_tail3 k n p).kasWp cmp Q s:=by
 unfold kas_tail3
 rw [KasT.kasWp_bind]
 have hp':PmA n (kas_rev p 0 k):=hp.of_perm (mirror_perm _ _ _ _)
 exact up o hc hp' (n - k) k h1 (by omega) (Wt hp hk d) fun m hm hm' u _=>q m _ hp' (by omega) hm' u
theorem ZM (o:OrdB n lt) (hc:Y3 n lt cmp s) {p:Array Nat} (hp:PmA n p) (h2:2<=n) (c:lt (p.getD 1 0) (p.getD 0 0)=true) {Q:Nat × Array Nat->Shared->Prop}
  (q:∀ m p',PmA n p' -> 1<=m->m<=n->SQ lt p' m->Q (m,p') s):(kas_descPart 1 n p).kasWp cmp Q s:=by
 unfold kas_descPart
 rw [KasT.kasWp_bind]
 refine u8 o hc hp (n - 2) 2 (by decide) (by omega) (fun i j hij hj=>?_) fun k hk hk' d=>?_
 ·obtain rfl:i=0:=by omega
  obtain rfl:j=1:=by omega
  exact c
 ·dsimp only
  rw [if_neg (by omega)]
  exact ZL o hc hp (by omega) hk' d q
theorem jj (o:OrdB n lt) (hc:Y3 n lt cmp s) {p:Array Nat} (hp:PmA n p) (h2:2<=n) {Q:Nat × Array Nat->Shared->Prop}
  (q:∀ m p',PmA n p' -> 1<=m->m<=n->SQ lt p' m->Q (m,p') s):(kas_count n p).kasWp cmp Q s:=by
 unfold kas_count
 rw [KasT.kasWp_bind]
 refine up o hc hp (n - 1) 1 (Nat.le_refl _) (by omega) (fun i j hij hj=>by omega) fun k h1 hk u e=>?_
 by_cases hkn:k=n
 ·rw [if_pos (by simpa using hkn)]
  exact q k p hp h1 hk u
 rw [if_neg (by simpa using hkn)]
 have e:=e.resolve_left hkn
 by_cases hg:k > 1
 ·rw [if_pos hg]
  refine hc _ _ _ (hp.lt (by omega)) (hp.lt (by omega)) ?_
  rw [u 0 (k - 1) (by omega) (by omega)]
  dsimp only
  rw [if_pos rfl]
  exact q k p hp h1 hk u
 ·rw [if_neg hg]
  obtain rfl:k=1:=by omega
  exact ZM o hc hp h2 e q
theorem wj (o:OrdB n lt) (hc:Y3 n lt cmp s) {p:Array Nat} (hp:PmA n p) {k:Nat} (hk:k < n) (u:SQ lt p k):∀ (f l r:Nat) {Q:Nat->Shared->Prop},l<=r->r<=k->r - l<=f →
  (∀ i,i < l->lt (p.getD i 0) (p.getD k 0)=true)->(∀ i,r<=i->i < k->lt (p.getD k 0) (p.getD i 0)=true) →
  (∀ x,x<=k->(∀ i,i < x->lt (p.getD i 0) (p.getD k 0)=true)->(∀ i,x<=i->i < k->lt (p.getD k 0) (p.getD i 0)=true)->Q x s)->(kas_place p k f l r).kasWp cmp Q s
 | 0,l,r,Q,h1,h2,h3,a,b,q=>q l (by omega) a fun i hi=>b i (by omega)
 | f+1,l,r,Q,h1,h2,h3,a,b,q=>by
  unfold kas_place
  by_cases hlr:l >= r
  ·rw [if_pos hlr]
   exact q l (by omega) a fun i hi=>b i (by omega)
  rw [if_neg hlr]
  refine hc _ _ _ (hp.lt hk) (hp.lt (by omega)) ?_
  cases c:lt (p.getD k 0) (p.getD ((l+r) / 2) 0) with
  | true =>
   dsimp only
   rw [if_pos rfl]
   refine wj o hc hp hk u f l ((l+r) / 2) (by omega) (by omega) (by omega) a (fun i hi hik=>?_) q
   by_cases e:i=(l+r) / 2
   ·rw [e]; exact c
   ·exact o.tr c (u _ i (by omega) hik)
  | false =>
   dsimp only
   rw [if_neg (by decide)]
   have c':=o.to (hp.lt hk) (hp.lt (by omega)) (hp.inj hk (by omega) (by omega)) c
   refine wj o hc hp hk u f ((l+r) / 2+1) r (by omega) h2 (by omega) (fun i hi=>?_) b q
   by_cases e:i=(l+r) / 2
   ·rw [e]; exact c'
   ·exact o.tr (u i _ (by omega) (by omega)) c'
theorem Wu {p:Array Nat} {k x:Nat} (o:OrdB n lt) (hp:PmA n p) (hk:k < n) (u:SQ lt p k) (hx:x<=k) (a:∀ i,i < x->lt (p.getD i 0) (p.getD k 0)=true) (b:∀ i,x<=i->i < k->lt (p.getD k 0) (p.getD i 0)=true):SQ lt (bubble p k (k - x)) (k+1):=by
 have g:=fun i=>getElem?_bubble (xs:=p) (src:=k) (by rw [hp.sz]; exact hk) (k - x) (by omega) i
 have e:k - (k - x)=x:=by omega
 rw [e] at g
 have g1:∀ i,i < x->(bubble p k (k - x)).getD i 0=p.getD i 0:=fun i hi=>qj (by rw [g,if_neg (by omega),if_neg (by omega)])
 have g2:(bubble p k (k - x)).getD x 0=p.getD k 0:=qj (by rw [g,if_pos rfl])
 have g3:∀ i,x < i->i<=k->(bubble p k (k - x)).getD i 0=p.getD (i - 1) 0:=fun i hi hik=>qj (by rw [g,if_neg (by omega),if_pos ⟨hi,hik⟩])
 intro i j hij hj
 rcases Nat.lt_trichotomy j x with h | h | h
 ·rw [g1 i (by omega),g1 j h]; exact u i j hij (by omega)
 ·subst h; rw [g1 i hij,g2]; exact a i hij
 ·rw [g3 j h (by omega)]
  rcases Nat.lt_trichotomy i x with h' | h' | h'
  ·rw [g1 i h']; exact u i _ (by omega) (by omega)
  ·subst h'; rw [g2]; exact b _ (by omega) (by omega)
  ·rw [g3 i h' (by omega)]; exact u _ _ (by omega) (by omega)
theorem qk (o:OrdB n lt) (hc:Y3 n lt cmp s):∀ (f:Nat) (p:Array Nat) (k:Nat) {Q:Array Nat->Shared->Prop},PmA n p->k+f=n->SQ lt p k->(∀ p',PmA n p' -> SQ lt p' n->Q p' s)->(kas_bin f p k).kasWp cmp Q s
 | 0,p,k,Q,hp,e,u,q=>q p hp (by rw [← show k=n by omega]; exact u)
 | f+1,p,k,Q,hp,e,u,q=>by
  unfold kas_bin
  rw [KasT.kasWp_bind]
  refine wj o hc hp (by omega) u k 0 k (Nat.zero_le _) (Nat.le_refl _) (by omega) (fun i hi=>by omega) (fun i h1 h2=>by omega) fun x hx a b=>?_
  exact qk o hc f _ (k+1) (hp.of_perm (bubble_perm _ _ _)) (by omega) (Wu o hp (by omega) u hx a b) q
theorem ZN (o:OrdB n lt) (hc:Y3 n lt cmp s) (h2:2<=n) {Q:Array Nat->Shared->Prop} (q:∀ p,PmA n p->SQ lt p n->Q p s):(kas_sort n).kasWp cmp Q s:=by
 unfold kas_sort
 rw [KasT.kasWp_bind]
 have h0:PmA n (List.toArray (List.range n)):=⟨by simp,by simp⟩
 refine jj o hc h0 h2 fun m p hp h1 hm u=>?_
 by_cases hmn:m < n
 ·rw [if_pos hmn]
  have e:max m 1=m:=by omega
  show (kas_bin (n - max m 1) p (max m 1)).kasWp cmp Q s
  rw [e]
  exact qk o hc (n - m) p m hp (by omega) u q
 ·rw [if_neg hmn]
  obtain rfl:m=n:=by omega
  exact q p hp u
end
section
variable {prog:Program} {w:World} {A:Around} {E:Tn} {s:Shared}
def Ut (prog:Program) (w:World) (A:Around) (s:Shared) (a:Addr) (vs:List Value) (lt:Nat->Nat->Bool):Prop:=∃ κ,∀ h':Heap,(∀ b ob,b ≠ a->s.heap.get? b=some ob->h'.get? b=some ob) →
 (∀ (Q:SortKind->Shared->Prop) (E':Tn),Q κ { s with heap:=h' } -> wpAny (model prog w) A (keyKind' vs.toArray) Q E' { s with heap:=h' }) /\ Y3 vs.length lt (kas_ask prog w A κ vs) { s with heap:=h' }
theorem ZO (vs:List Value):((List.range vs.length).map fun i=>vs.getD i Value.none)=vs:=by
 refine List.ext_getElem? fun i=>?_
 rw [List.getElem?_map]
 by_cases h:i < vs.length
 ·rw [List.getElem?_range h]
  show some (vs.getD i Value.none)=_
  rw [List.getD_eq_getElem?_getD,List.getElem?_eq_getElem h]; rfl
 ·rw [List.getElem?_eq_none (by rw [List.length_range]; omega),List.getElem?_eq_none (by omega)]; rfl
theorem ZP {a:Addr} {vs:List Value} {n:Nat} {P:PySem.Fin->Shared->Prop} {lt:Nat->Nat->Bool} (here:s.heap.get? a=some (seqObj "list" vs.toArray n)) (few:vs.length < 64) (o:OrdB vs.length lt) (asks:2<=vs.length->Ut prog w A s a vs lt)
  (fin:∀ p,PmA vs.length p->SQ lt p vs.length->P (.done (.ret .none)) { s with heap:=sortedHeap s.heap a vs (List.toArray (p.toList.map fun i=>vs.getD i Value.none)) }) :
  wpAny (model prog w) A (Builtin.«list.sort» ⟨[.ref a],[]⟩) P E s:=by
 have low:a < s.heap.objs.size:=Heap.lt_size here
 obtain ⟨ep,emp⟩:∃ ep,(s.heap.update a (Obj.mapSeq fun _=>(#[]:Array Value))).get? a=some (seqObj "list" #[] ep):=⟨_,get?_update_seq here fun _=>#[]⟩
 have big:sizeLine=sizeLine:=rfl
 have fits:vs.length<=sizeLine:=by have:=sizeLine_eq; omega
 have empty:(((s.heap.update a (Obj.mapSeq fun _=>(#[]:Array Value))).push (seqObj "tuple" vs.toArray 0)).push (seqObj "list" #[] 0)).get? a=some (seqObj "list" #[] ep):=Heap.get?_push_of_some _ (Heap.get?_push_of_some _ emp)
 have old:∀ b ob,b ≠ a->s.heap.get? b=some ob->(((s.heap.update a (Obj.mapSeq fun _=>(#[]:Array Value))).push (seqObj "tuple" vs.toArray 0)).push (seqObj "list" #[] 0)).get? b=some ob:=fun b ob ne e =>
  Heap.get?_push_of_some _ (Heap.get?_push_of_some _ (by rw [Heap.get?_update_ne _ _ _ _ ne]; exact e))
 rw [list_sort_plain]
 refine wpAny_bind (listItems_at here rfl (wpAny_bind (listUpdate_at here rfl ?_ (by rw [List.size_toArray]; exact fits) (Nat.zero_le _))))
 refine wpAny_bind (seqEpoch_at emp rfl (wpAny_bind (wpAny_newTuple ?_ (by show vs.length<=_; exact fits))))
 refine wpAny_bind (wpAny_newList (wpAny_holding ?_) (Nat.zero_le _))
 show wpAny (model prog w) A _ P E { s with heap:=((s.heap.update a (Obj.mapSeq fun _=>(#[]:Array Value))).push (seqObj "tuple" vs.toArray 0)).push (seqObj "list" #[] 0),toks:=s.toks }
 have sz:vs.toArray.size=vs.length:=by simp
 by_cases h2:vs.toArray.size < 2
 ·rw [if_pos h2,if_pos h2]
  refine wpAny_bind (wpAny_pure ?_)
  dsimp only
  rw [StateT.run_pure]
  refine wpAny_bind (wpAny_pure (wpAny_bind (seqEpoch_at empty rfl (wpAny_bind (listUpdate_at empty rfl ?_ (Nat.zero_le _) ?_)))))
  ·have f:=fin (List.toArray (List.range vs.length)) ⟨by simp,by simp⟩ (fun i j hij hj=>by omega)
   have e:(List.toArray ((List.toArray (List.range vs.length)).toList.map fun i=>vs.getD i Value.none))=(vs.toArray.zip vs.toArray).map (·.2):=by
    apply Array.toList_inj.mp
    rw [Array.toList_map]
    show (List.range vs.length).map (fun i=>vs.getD i Value.none)=_
    rw [ZO,Array.toList_zip]
    show vs=(vs.zip vs).map Prod.snd
    rw [List.map_snd_zip (Nat.le_refl _)]
   rw [e] at f
   have ne:(ep != ep)=false:=by simp
   show wpAny _ _ _ P E _
   simp only [ne,Bool.false_eq_true,if_false]
   exact wpAny_pure f
  ·show ((vs.toArray.zip vs.toArray).map (·.2)).size<=_
   rw [Array.size_map,Array.size_zip,sz]; omega
 have h2':2<=vs.length:=by omega
 obtain ⟨κ,ok⟩:=asks h2'
 obtain ⟨kd,says⟩:=ok _ old
 rw [if_neg h2,if_neg h2]
 refine wpAny_bind (kd _ _ ?_)
 refine wpAny_bind (wpAny_mono (kat_run (ks:=vs) (Q:=fun st' s'=>s' = { s with heap:=((s.heap.update a (Obj.mapSeq fun _=>(#[]:Array Value))).push (seqObj "tuple" vs.toArray 0)).push (seqObj "list" #[] 0) } /\ failedOf st' = none /\ ∃ p,PmA vs.length p /\ SQ lt p vs.length /\ (arrOf st').map (·.2)=List.toArray (p.toList.map fun i=>vs.getD i Value.none)) (G:=fun p s'=>s' = { s with heap:=((s.heap.update a (Obj.mapSeq fun _=>(#[]:Array Value))).push (seqObj "tuple" vs.toArray 0)).push (seqObj "list" #[] 0) } /\ PmA vs.length p /\ SQ lt p vs.length) rfl h2' few
  (fun p st' s' _ har hf g=>⟨g.1,hf,p,g.2.1,g.2.2,kat_snds rfl har⟩) (ZN o says h2' fun p hp u=>⟨rfl,hp,u⟩)) ?_ fun _ _ e=>e)
 rintro ⟨⟨⟩,st'⟩ s' ⟨rfl,hf,p,hp,u,out⟩
 refine wpAny_bind (seqEpoch_at empty rfl (wpAny_bind (listUpdate_at empty rfl ?_ (Nat.zero_le _) ?_)))
 ·have f:=fin p hp u
  rw [← out] at f
  show wpAny _ _ _ P E _
  have ne:(ep != ep)=false:=by simp
  have hf':failedOf st' = none:=hf
  dsimp only
  rw [hf']
  simp only [ne,Bool.false_eq_true,if_false]
  exact wpAny_pure f
 ·show ((arrOf st').map (·.2)).size<=_
  rw [out,List.size_toArray,List.length_map,Array.length_toList,hp.sz]; omega
end
def SR:List Int->List Int->Bool
 | [],[]=>false
 | [],_ :: _=>true
 | _ :: _,[]=>false
 | a :: as,b :: bs=>if a=b then SR as bs else decide (a < b)
theorem XH:∀ {a b c:List Int},SR a b=true->SR b c=true->SR a c=true
 | [],[],_,h,_=>nomatch h
 | [],_ :: _,[],_,h=>nomatch h
 | [],_ :: _,_ :: _,_,_=>rfl
 | _ :: _,[],_,h,_=>nomatch h
 | _ :: _,_ :: _,[],_,h=>nomatch h
 | a :: as,b :: bs,c :: cs,h,k=>by
  unfold SR at h k ⊢
  by_cases e:a=b
  ·subst e
   rw [if_pos rfl] at h
   by_cases e':a=c
   ·rw [if_pos e'] at k ⊢; exact XH h k
   ·rw [if_neg e'] at k ⊢; exact k
  ·rw [if_neg e] at h
   have h:=of_decide_eq_true h
   by_cases e':b=c
   ·subst e'; rw [if_neg e]; exact decide_eq_true h
   ·rw [if_neg e'] at k
    have k:=of_decide_eq_true k
    rw [if_neg (by omega)]; exact decide_eq_true (by omega)
theorem u9:∀ {a b:List Int},SR a b=true->SR b a=false
 | [],[],h=>nomatch h
 | [],_ :: _,_=>rfl
 | _ :: _,[],h=>nomatch h
 | a :: as,b :: bs,h=>by
  unfold SR at h ⊢
  by_cases e:a=b
  ·subst e; rw [if_pos rfl] at h ⊢; exact u9 h
  ·rw [if_neg e] at h; rw [if_neg (Ne.symm e)]
   have h:=of_decide_eq_true h
   exact decide_eq_false (by omega)
theorem XI:∀ {a b:List Int},a ≠ b->SR a b=false->SR b a=true
 | [],[],h,_=>absurd rfl h
 | [],_ :: _,_,h=>nomatch h
 | _ :: _,[],_,_=>rfl
 | a :: as,b :: bs,n,h=>by
  unfold SR at h ⊢
  by_cases e:a=b
  ·subst e; rw [if_pos rfl] at h ⊢; exact XI (fun z=>n (by rw [z])) h
  ·rw [if_neg e] at h; rw [if_neg (Ne.symm e)]
   have h:=of_decide_eq_false h
   exact decide_eq_true (by omega)
theorem uq {a:List Int}:SR a a=false:=by
 cases h:SR a a with
 | false=>rfl
 | true=>have:=u9 h; rw [h] at this; cases this
theorem ql:∀ {a b:List (List Int)},a.Pairwise (fun x y=>SR x y=true)->b.Pairwise (fun x y=>SR x y=true)->a.Perm b->a=b
 | [],b,_,_,p=>(List.Perm.nil_eq p)
 | x :: xs,[],_,_,p=>absurd p.length_eq (by simp)
 | x :: xs,y :: ys,ha,hb,p=>by
  obtain ⟨a1,a2⟩:=List.pairwise_cons.mp ha
  obtain ⟨b1,b2⟩:=List.pairwise_cons.mp hb
  have e:x=y:=by
   by_cases e:x=y
   ·exact e
   ·have hx:x ∈ ys:=(List.mem_cons.mp (p.mem_iff.mp List.mem_cons_self)).resolve_left e
    have hy:y ∈ xs:=(List.mem_cons.mp (p.mem_iff.mpr List.mem_cons_self)).resolve_left (Ne.symm e)
    have:=u9 (a1 y hy)
    rw [b1 x hx] at this; cases this
  subst e
  rw [ql a2 b2 ((List.perm_cons x).mp p)]
section
variable {X:Cx} {K:Tl}
theorem ZQ {α:Type} {l:List α} {d:α} {is:List Nat} (h:is.Perm (List.range l.length)):(is.map fun i=>l.getD i d).Perm l:=by
 refine (h.map _).trans ?_
 have e:(List.range l.length).map (fun i=>l.getD i d)=l:=by
  refine List.ext_getElem? fun i=>?_
  rw [List.getElem?_map]
  by_cases h:i < l.length
  ·rw [List.getElem?_range h]
   show some (l.getD i d)=_
   rw [List.getD_eq_getElem?_getD,List.getElem?_eq_getElem h]; rfl
  ·rw [List.getElem?_eq_none (by rw [List.length_range]; omega),List.getElem?_eq_none (by omega)]; rfl
 rw [e]
end
section
variable {prog:Program} {w:World} {A:Around} {E:Tn} {s:Shared} {es:Array DictEntry} {d it r:Addr} {ep i:Nat}
theorem Y4 {Q:Tn} (lo:(d == sysModules)=false) (hm:yU es d ep s.heap) (q:Q (.ref s.heap.objs.size) { s with heap:=s.heap.push { cls:=.type "dict_values",data:=.fields #[.ref d] } }) :
  wpAny (model prog w) A (call (.builtin "dict.values") [.ref d]) Q E s:=by
 have hT:s.TypeIs (.ref d) "dict":=hm.typeIs
 refine wpAny_call_entry PySem.F.slot_dict_values hT PySem.F.entry_dict_values ?_ (PySem.F.args_dict_values_1 _)
 unfold Builtin.«dict.values»
 refine wpAny_bind ?_
 unfold Builtin.Dict.noArgs
 refine wpAny_bind (wpAny_notOrdered_dict hT (show wpAny _ _ (pure d) _ _ s from wpAny_pure ?_))
 show wpAny _ _ (Builtin.Dict.showsAll d >>= _) _ _ s
 unfold Builtin.Dict.showsAll
 rw [if_neg (by rw [lo]; exact Bool.false_ne_true)]
 exact wpAny_bind (wpAny_pure (wpAny_bind (wpAny_newObj_type (wpAny_pure ⟨_,rfl,q⟩))))
theorem Y5 {Q:Tn} (hv:s.heap.IsValuesView r d) (hm:yU es d ep s.heap)
  (hQ:Q (.ref s.heap.objs.size) { s with heap:=s.heap.push { cls:=.type "dict_valueiterator",data:=.fields #[.ref d,.int 0 0,.int es.size 0,.int ep 0] } }) :
  wpAny (model prog w) A (pyIter (.ref r)) Q E s:=by
 obtain ⟨ov,hov,hcv,hdv⟩:=id hv
 obtain ⟨o,ho,hc,hdat⟩:=id hm
 refine wpAny_pyIter_slot hv.typeIs PySem.F.slot_dict_values_iter (wpAny_call_entry PySem.F.slot_dict_values_iter hv.typeIs PySem.F.entry_dict_values_iter ?_ (PySem.F.args_dict_values_iter_1 _))
 unfold Builtin.«dict_values.__iter__»
 refine wpAny_bind (wpAny_pure (wpAny_bind ?_))
 unfold Builtin.Dict_items.dictOf
 refine wpAny_bind (wpAny_field hov hdv (x:=.ref d) rfl (wpAny_pure (wpAny_bind ?_)))
 unfold Builtin.Dict_items.newIterator
 refine wpAny_bind (wpAny_dictEntries ho hdat (wpAny_bind (wpAny_dictEpoch ho hdat ?_)))
 have own:Builtin.Dict_items.ownsTuple "dict_valueiterator" = false:=by decide
 simp only [own,Bool.false_eq_true,if_false]
 refine wpAny_newObj_type (wpAny_pure ⟨_,rfl,"dict_valueiterator",_,⟨_,Heap.get?_push_size _ rfl,rfl⟩,PySem.F.slot_dict_valueiterator_next.lookup,?_⟩)
 simpa [rawInt] using hQ
theorem Y6 {Q:Option Value->Shared->Prop} (hit:s.heap.IsValIter it d i es.size ep) (hm:yU es d ep s.heap) (hlt:i < es.size)
  (hQ:∀ h',h'.IsValIter it d (i+1) es.size ep->Heap.SameBut it s.heap h' -> Q (some es[i].val) { s with heap:=h' }) :
  wpAny (model prog w) A (pyNext (.ref it)) Q E s:=by
 obtain ⟨o,ho,hc,hd⟩:=id hit
 obtain ⟨od,hod,hcd,hdd⟩:=id hm
 unfold pyNext
 refine wpAny_bind (wpAny_attempt (wpAny_callSpecial?_slot (name:=Str.ofString "__next__") hit.typeIs PySem.F.slot_dict_valueiterator_next
  (wpAny_call_entry PySem.F.slot_dict_valueiterator_next hit.typeIs PySem.F.entry_dict_valueiterator_next ?_ (PySem.F.args_dict_valueiterator_next_1 _))))
 refine wpAny_bind (wpAny_pure ?_)
 refine wpAny_bind ?_
 refine wpAny_bind ?_
 first | refine wpAny_bind (wpAny_typeNameOfWhole_valiter hit.typeIs (wpAny_pure ?_)) | refine wpAny_bind (wpAny_typeNameOf_valiter hit.typeIs (wpAny_pure ?_))
 refine wpAny_bind (wpAny_fieldsOf ho hd ?_)
 have hown:Builtin.Dict_items.ownsTuple "dict_valueiterator" = false:=by decide
 simp only [hown,Bool.false_eq_true,if_false]
 show wpAny _ _ (if (Value.ref d == Value.none)=true then _ else _) _ _ s
 rw [if_neg (show ¬ ((Value.ref d == Value.none)=true) from Bool.false_ne_true)]
 refine wpAny_bind (wpAny_pure ?_)
 refine wpAny_bind (wpAny_dictEntries hod hdd ?_)
 rw [if_neg (by simp)]
 refine wpAny_bind (wpAny_pure ?_)
 refine wpAny_bind (wpAny_dictEpoch hod hdd ?_)
 rw [if_neg (by simp)]
 refine wpAny_pure ?_
 simp only [show ¬ ((i:Int) < 0) from by omega,if_false,Int.toNat_natCast,Array.getElem?_eq_getElem hlt]
 refine wpAny_bind ?_
 first | refine wpAny_bind (wpAny_typeNameOfWhole_valiter hit.typeIs (wpAny_pure ?_)) | refine wpAny_bind (wpAny_typeNameOf_valiter hit.typeIs (wpAny_pure ?_))
 refine wpAny_bind (wpAny_isOneOf_valiter hit.typeIs ?_)
 show wpAny _ _ (setField (.ref it) 1 (rawInt ((i:Int)+1)) >>= _) _ _ s
 refine wpAny_bind (wpAny_setField ho hd (by simp) ?_)
 have hit':(s.heap.update it (Obj.mapFields (·.setIfInBounds 1 (rawInt ((i:Int)+1))))).IsValIter it d (i+1) es.size ep :=
  ⟨_,Heap.get?_update_self _ ho (Obj.isFreed_of_fields (Obj.data_mapFields hd _)),(Obj.cls_mapFields ..).trans hc,by rw [Obj.data_mapFields hd]; simp [rawInt]⟩
 refine wpAny_bind (wpAny_holding ?_)
 refine wpAny_bind (wpAny_isOneOf_valiter (s:={ s with heap:=s.heap.update it (Obj.mapFields (·.setIfInBounds 1 (rawInt ((i:Int)+1)))) }) hit'.typeIs ?_)
 refine wpAny_bind (wpAny_isOneOf_valiter (s:={ s with heap:=s.heap.update it (Obj.mapFields (·.setIfInBounds 1 (rawInt ((i:Int)+1)))) }) hit'.typeIs ?_)
 show wpAny _ _ (pure es[i].val) _ _ _
 exact wpAny_pure (wpAny_pure ⟨_,rfl,wpAny_pure (hQ _ hit' (Heap.SameBut.update ..))⟩)
theorem Wv {Q:Option Value->Shared->Prop} (hh:A.handled=none) (hit:s.heap.IsValIter it d es.size es.size ep) (hm:yU es d ep s.heap)
  (hQ:∀ h',Heap.ExtBut it s.heap h' -> Q none { s with heap:=h' }):wpAny (model prog w) A (pyNext (.ref it)) Q E s:=by
 obtain ⟨o,ho,hc,hd⟩:=id hit
 obtain ⟨od,hod,hcd,hdd⟩:=id hm
 unfold pyNext
 refine wpAny_bind (wpAny_attempt (wpAny_callSpecial?_slot (name:=Str.ofString "__next__") hit.typeIs PySem.F.slot_dict_valueiterator_next
  (wpAny_call_entry PySem.F.slot_dict_valueiterator_next hit.typeIs PySem.F.entry_dict_valueiterator_next ?_ (PySem.F.args_dict_valueiterator_next_1 _))))
 refine wpAny_bind (wpAny_pure ?_)
 refine wpAny_bind ?_
 refine wpAny_bind ?_
 first | refine wpAny_bind (wpAny_typeNameOfWhole_valiter hit.typeIs (wpAny_pure ?_)) | refine wpAny_bind (wpAny_typeNameOf_valiter hit.typeIs (wpAny_pure ?_))
 refine wpAny_bind (wpAny_fieldsOf ho hd ?_)
 have hown:Builtin.Dict_items.ownsTuple "dict_valueiterator" = false:=by decide
 simp only [hown,Bool.false_eq_true,if_false]
 show wpAny _ _ (if (Value.ref d == Value.none)=true then _ else _) _ _ s
 rw [if_neg (show ¬ ((Value.ref d == Value.none)=true) from Bool.false_ne_true)]
 refine wpAny_bind (wpAny_pure ?_)
 refine wpAny_bind (wpAny_dictEntries hod hdd ?_)
 rw [if_neg (by simp)]
 refine wpAny_bind (wpAny_pure ?_)
 refine wpAny_bind (wpAny_dictEpoch hod hdd ?_)
 rw [if_neg (by simp)]
 refine wpAny_pure ?_
 simp only [show ¬ ((es.size:Int) < 0) from by omega,if_false,Int.toNat_natCast,Array.getElem?_eq_none (Nat.le_refl es.size)]
 refine wpAny_bind ?_
 first | refine wpAny_bind (wpAny_typeNameOfWhole_valiter hit.typeIs (wpAny_pure ?_)) | refine wpAny_bind (wpAny_typeNameOf_valiter hit.typeIs (wpAny_pure ?_))
 show wpAny _ _ (setField (.ref it) 0 .none >>= _) _ _ s
 refine wpAny_bind (wpAny_setField ho hd (by simp) ?_)
 show wpAny _ _ (newExc (.type "StopIteration") [] >>= _) _ _ _
 refine wpAny_bind ?_
 simp only [newExc,newTuple]
 refine wpAny_bind (wpAny_newObj_type ?_ (by size_fits))
 refine wpAny_bind (m:=firstArgMember _ _) (wpAny_of_eq (a:=Value.none) (by first | rfl | (simp only [firstArgMember]; rfl)) ?_)
 refine wpAny_newObj_type ?_ (by size_fits)
 simp only [raiseNew]
 refine wpAny_bind (wpAny_handled ?_)
 rw [show A.in1.handled=none from hh]
 refine wpAny_bind (wpAny_pure (wpAny_throw ?_))
 refine wpAny_bind (wpAny_isInstance (T:="StopIteration") (b:=true) ⟨_,Heap.get?_push_size _ rfl,rfl⟩ isSubtype_stop ?_)
 exact wpAny_pure (hQ _ (((Heap.SameBut.update ..).extBut.push _).push _))
theorem ZR (hh:A.handled=none) (I d:Addr) (hne:d ≠ I) (es:Array DictEntry) (ep:Nat) :
  Walks prog w A I [I,d] [I] es.size (fun i v=>∃ h:i < es.size,v=es[i].val) (fun i h=>h.IsValIter I d i es.size ep /\ yU es d ep h) where
 sub:=fun b hb=>by simp at hb; simp [hb]
 frame:=fun _ _ _ st hk=>⟨st.1.at fun o e=>hk I (by simp) o e,st.2.keep fun o e=>hk d (by simp) o e⟩
 item:=fun i s Q E hi st hQ=>by
  refine Y6 st.1 st.2 hi fun h' hit' hs'=>?_
  exact hQ _ h' s.toks ⟨hi,rfl⟩ ⟨hit',st.2.keep fun o e=>hs'.extBut d o hne e⟩ fun b o hb e=>hs'.extBut b o (fun h=>hb (by simp [h])) e
 done:=fun s Q E st hQ=>Wv hh st.1 st.2 fun h' he'=>hQ h' s.toks fun b o hb e=>he' b o (fun h=>hb (by simp [h])) e
 self:=fun _ _ _ _ st hQ=>wpAny_pyIter_valiter st.1 hQ
theorem Ww:KdlSrc prog w "dict_values" r d es.size (fun i v=>∃ h:i < es.size,v=es[i].val) (fun h=>h.IsValuesView r d /\ yU es d ep h) where
 type:=fun _ hm=>hm.1.typeIs
 there:=fun _ hm=>⟨let ⟨_,ho,_⟩:=hm.1; Heap.lt_size ho,let ⟨_,ho,_⟩:=hm.2; Heap.lt_size ho⟩
 keep:=fun _ _ hm hk=>⟨let ⟨o,ho,x⟩:=hm.1; ⟨o,hk r (.inl rfl) o ho,x⟩,hm.2.keep fun o e=>hk d (.inr rfl) o e⟩
 notList:=by decide
 notTuple:=by decide
 hint:=fun _ _ _ _ hm hq=>kdl_hint_values hm.1.typeIs hq
 iter:=fun _ _ hh hm=>⟨_,_,(fun _ _ hq=>Y5 hm.1 hm.2 hq),ZR hh _ d (let ⟨_,ho,_⟩:=hm.2; Nat.ne_of_lt (Heap.lt_size ho)) es ep,⟨⟨_,Heap.get?_push_size _ rfl,rfl,rfl⟩,hm.2.keep fun o e=>Heap.get?_push_of_some _ e⟩⟩
end
theorem ZS {H:Hp}:∀ {kvs:List (List To × V)} {ys:List (List To × Addr × Value)},KT H kvs ys->zC (kvs.map (·.2)) (ys.map fun q=>q.2.2)
 | _,_,.nil=>.nil
 | _,_,.cons h t=>.cons h.2.2 (ZS t)
section
variable {X:Cx} {o:Expr} {to:TE} {p pos apos cpos:Pos}
def Y7 (to:TE):TE:=fun σ H Q=>to σ H fun x H1=>∃ a kvs,x=V.ref a /\ H1 a=some (.dT kvs) /\ ∀ l,H1 l=none->Q (.ref l) (Tp H1 l (.tup (kvs.map (·.2))))
theorem jk {k:Nat} (hr:Room k X.A) (hgl:Gl X "tuple") (hmt:X.mg "tuple" = none) (ho:PE X o to)
  (hbase:attributeBase o "values" X.env (eval o X.env)=eval o X.env:=by rfl) (hline:(apos.endLine == cpos.line)=true:=by rfl)
  (hs2:starEach [(.Call (.Attribute o "values" apos) [] [] cpos:Expr)] X.env=[(false,eval (.Call (.Attribute o "values" apos) [] [] cpos) X.env)]:=by rfl) :
  PE X (.Call (.Name "tuple" p) [.Call (.Attribute o "values" apos) [] [] cpos] [] pos) (Y7 to):=by
 intro pins s σ H Q I h
 refine wpAny_Call_Name_kw (xN I hgl hmt zG (PyProof.Rows.callWith_type1 ?_ hs2 rfl))
 rw [hs2]
 show wpAny _ _ (spliced [(false,eval (.Call (.Attribute o "values" apos) [] [] cpos) X.env)]) _ _ s
 refine Calls.spliced_cons ?_
 refine wpAny_Call_method0_late hbase hline (Tx (ho pins s σ H _ I h) fun v s1 ⟨x,H1,I1,r1,a,kvs,ex,ha,q⟩=>?_)
 subst ex
 obtain rfl:v=Value.ref a:=r1
 obtain ⟨z,hd,ys,rel,dd⟩:=Zv I1.hok ha
 obtain ⟨ob,es,ep,e0,hc,hdat,he,_,_⟩:=dd
 have hl:kvs.length=ys.length:=Paired.length rel
 have hes:es.size=ys.length:=size_of_entries he
 have em:yU es a ep s1.heap:=⟨ob,e0,hc,hdat⟩
 refine ⟨"dict","dict.values",PySem.F.plainAttrs_dict,PySem.F.slot_dict_values,PySem.F.type_dict_values,em.typeIs,fun b e=>by cases e; exact ⟨ob,e0,hc.2.1⟩,Calls.callWith_builtin rfl (PySem.evalArgs_none (Y4 hd em (Calls.spliced_nil ?_)))⟩
 have em':yU es a ep (s1.heap.push { cls:=.type "dict_values",data:=.fields #[.ref a] }):=em.keep fun o e=>Heap.get?_push_of_some _ e
 have I2:Inv X pins σ H1 { s1 with heap:=s1.heap.push { cls:=.type "dict_values",data:=.fields #[.ref a] } }:=I1.kept (t':=s1.toks) fun b o e=>Heap.get?_push_of_some _ e
 refine xA (s:={ s1 with heap:=s1.heap.push { cls:=.type "dict_values",data:=.fields #[.ref a] } }) (Ww (es:=es) (ep:=ep) (d:=a) (r:=s1.heap.objs.size)) hr.hd ⟨⟨_,Heap.get?_push_size _ rfl,rfl,rfl⟩,em'⟩ (by rw [hes,← hl]; exact z) fun h' tk acc' kp hI=>?_
 have hacc:acc'.toList=ys.map fun q=>q.2.2:=by
  apply List.ext_getElem
  ·rw [Array.length_toList,hI.1,hes,List.length_map]
  ·intro j h1 h2
   rw [Array.length_toList] at h1
   obtain ⟨hj,ev⟩:=hI.2 j acc'[j] (Array.getElem?_eq_getElem h1)
   have hy:j < ys.length:=by omega
   have ee:=entry_at he j
   rw [Array.getElem?_eq_getElem hj,List.getElem?_eq_getElem hy,Option.map_some] at ee
   rw [Array.getElem_toList,ev,Option.some.inj ee,List.getElem_map]
   rfl
 have fr:H1 h'.objs.size=none:=(I2.kept (t':=tk) kp).hok.fresh (Nat.le_refl _)
 refine ⟨.ref h'.objs.size,_,(I2.kept (t':=tk) kp).laid (t':=tk) (o:=.tup (kvs.map (·.2))) (fun b ob q=>Heap.get?_push_of_some _ q) (Nat.le_refl _) ⟨by rw [List.length_map]; exact z,acc'.toList,by rw [hacc]; exact ZS rel,?_⟩,rfl,q _ fr⟩
 rw [Array.toArray_toList]
 exact IsTup.new _ _
end
structure Nm (S:Nat) (π:List Int):Prop where
 l:π.length=S
 pm:π.Perm (SK S)
def ap (π:List Int) (i:Int):Int:=π.getD i.toNat 0
theorem tf {l:List Int} {i:Nat} (h:i < l.length):l.getD i 0 ∈ l:=by
 rw [List.getD_eq_getElem?_getD,List.getElem?_eq_getElem h]; exact List.getElem_mem h
theorem sW {S:Nat} {i:Int}:i ∈ SK S ↔ 0<=i /\ i < S:=by
 unfold SK
 rw [List.mem_map]
 constructor
 ·rintro ⟨k,hk,rfl⟩
  have:=List.mem_range.mp hk
  omega
 ·rintro ⟨h0,h1⟩
  exact ⟨i.toNat,List.mem_range.mpr (by omega),by omega⟩
theorem ZT (S:Nat):(SK S).Nodup:=by
 unfold SK
 exact List.Pairwise.map _ (fun a b h z=>h (by omega)) (List.nodup_range (n:=S))
section
variable {S:Nat} {π:List Int}
theorem Nm.rng (h:Nm S π) {i:Int} (h0:0<=i) (h1:i < S):0<=ap π i /\ ap π i < S:=sW.mp (h.pm.mem_iff.mp (tf (by rw [h.l]; omega)))
theorem Nm.inj (h:Nm S π) {i j:Int} (i0:0<=i) (i1:i < S) (j0:0<=j) (j1:j < S) (e:ap π i=ap π j):i=j:=by
 have hi:i.toNat < π.length:=by rw [h.l]; omega
 have hj:j.toNat < π.length:=by rw [h.l]; omega
 have e':π[i.toNat] = π[j.toNat]:=by
  unfold ap at e
  rwa [List.getD_eq_getElem?_getD,List.getD_eq_getElem?_getD,List.getElem?_eq_getElem hi,List.getElem?_eq_getElem hj] at e
 have:=(List.getElem_inj (h.pm.nodup_iff.mpr (ZT S))).mp e'
 omega
def un (π:List Int) (j:Int):Int:=(π.idxOf j:Nat)
theorem Nm.un (h:Nm S π) {j:Int} (j0:0<=j) (j1:j < S):0<=L3.un π j /\ L3.un π j < S /\ ap π (L3.un π j)=j:=by
 have hm:j ∈ π:=h.pm.mem_iff.mpr (sW.mpr ⟨j0,j1⟩)
 have hl:π.idxOf j < π.length:=List.idxOf_lt_length_of_mem hm
 have hS:=h.l
 refine ⟨Int.natCast_nonneg _,by show ((π.idxOf j:Nat):Int) < S; omega,?_⟩
 show π.getD ((π.idxOf j:Nat):Int).toNat 0=j
 rw [Int.toNat_natCast,List.getD_eq_getElem?_getD,List.getElem?_eq_getElem hl]
 exact List.getElem_idxOf hl
theorem Nm.un_ap (h:Nm S π) {i:Int} (i0:0<=i) (i1:i < S):L3.un π (ap π i)=i:=by
 obtain ⟨a,b⟩:=h.rng i0 i1
 obtain ⟨c,d,e⟩:=h.un a b
 exact h.inj c d i0 i1 e
def SS (π d:List Int):List Int:=(SK π.length).map fun j=>ap π (ap d (un π j))
theorem ur:(SS π d).length = π.length:=by unfold SS SK; rw [List.length_map,List.length_map,List.length_range]
theorem VC {f:Int->Int} {i:Int} (h0:0<=i) (h1:i < S):ap ((SK S).map f) i=f i:=by
 unfold ap
 have hl:i.toNat < (SK S).length:=by unfold SK; rw [List.length_map,List.length_range]; omega
 rw [List.getD_eq_getElem?_getD,List.getElem?_map,List.getElem?_eq_getElem hl]
 show f ((SK S)[i.toNat])=f i
 congr 1
 have e:=sR h0 h1
 rwa [List.getD_eq_getElem?_getD,List.getElem?_eq_getElem hl] at e
theorem Nm.ren_ap (h:Nm S π) {d:List Int} {j:Int} (j0:0<=j) (j1:j < S):ap (SS π d) j=ap π (ap d (L3.un π j)):=by
 unfold SS; rw [h.l]; exact VC j0 j1
theorem ZU {d:List Int} (hd:Dd S d) {i:Int} (h0:0<=i) (h1:i < S):0<=ap d i /\ ap d i < S:=hd.2 _ (tf (by rw [hd.1]; omega))
theorem Nm.ren_dd (h:Nm S π) {d:List Int} (hd:Dd S d):Dd S (SS π d):=by
 refine ⟨ur.trans h.l,fun v hv=>?_⟩
 unfold SS at hv
 obtain ⟨j,hj,rfl⟩:=List.mem_map.mp hv
 rw [h.l] at hj
 obtain ⟨j0,j1⟩:=sW.mp hj
 obtain ⟨c,e,_⟩:=h.un j0 j1
 obtain ⟨x,y⟩:=ZU hd c e
 exact h.rng x y
theorem qq {a b:List Int} (ha:a.length=S) (hb:b.length=S) (h:∀ i:Int,0<=i->i < S->ap a i=ap b i):a=b:=by
 refine List.ext_getElem (by rw [ha,hb]) fun i h1 h2=>?_
 have:=h (i:Int) (by omega) (by omega)
 unfold ap at this
 rwa [Int.toNat_natCast,List.getD_eq_getElem?_getD,List.getD_eq_getElem?_getD,List.getElem?_eq_getElem h1,List.getElem?_eq_getElem h2] at this
theorem ZV {a b:List Int} (ha:Dd S a) {i:Int} (h0:0<=i) (h1:i < S):ap (zv a b) i=ap b (ap a i):=by
 unfold ap zv
 have hl:i.toNat < a.length:=by rw [ha.1]; omega
 rw [List.getD_eq_getElem?_getD,List.getElem?_map,List.getD_eq_getElem?_getD (l:=a),List.getElem?_eq_getElem hl]; rfl
theorem Nm.ren_then (h:Nm S π) {a b:List Int} (ha:Dd S a) (hb:Dd S b):zv (SS π a) (SS π b)=SS π (zv a b):=by
 refine qq (S:=S) (u5.trans (h.ren_dd ha).1) (ur.trans h.l) fun j j0 j1=>?_
 obtain ⟨c,e,_⟩:=h.un j0 j1
 obtain ⟨x,y⟩:=ZU ha c e
 obtain ⟨p,q⟩:=h.rng x y
 rw [ZV (h.ren_dd ha) j0 j1,h.ren_ap j0 j1,h.ren_ap p q,h.un_ap x y,h.ren_ap j0 j1,ZV ha c e]
theorem VD {i:Int} (h0:0<=i) (h1:i < S):ap (SK S) i=i:=sR h0 h1
theorem Nm.ren_id (h:Nm S π):SS π (SK S)=SK S:=by
 refine qq (S:=S) (ur.trans h.l) (ZC S).1 fun j j0 j1=>?_
 obtain ⟨c,e,f⟩:=h.un j0 j1
 rw [h.ren_ap j0 j1,VD c e,f,VD j0 j1]
theorem Nm.ren_inj (h:Nm S π) {a b:List Int} (ha:Dd S a) (hb:Dd S b) (e:SS π a=SS π b):a=b:=by
 refine qq ha.1 hb.1 fun i i0 i1=>?_
 obtain ⟨p,q⟩:=h.rng i0 i1
 have z:ap (SS π a) (ap π i)=ap (SS π b) (ap π i):=by rw [e]
 rw [h.ren_ap p q,h.ren_ap p q,h.un_ap i0 i1] at z
 obtain ⟨x,y⟩:=ZU ha i0 i1
 obtain ⟨x',y'⟩:=ZU hb i0 i1
 exact h.inj x y x' y' z
theorem Nm.ren_of (h:Nm S π) {d r:List Int} (hr:r.length=S) (e:∀ i:Int,0<=i->i < S->ap r (ap π i)=ap π (ap d i)):r=SS π d:=by
 refine qq hr (ur.trans h.l) fun j j0 j1=>?_
 obtain ⟨c,f,g⟩:=h.un j0 j1
 have:=e _ c f
 rw [g] at this
 rw [this,h.ren_ap j0 j1]
def SU (π:List Int) (f:FW):FW:=f.map fun p=>(SS π p.1,p.2)
theorem Nm.word (h:Nm S π) {d:List Int} (hd:Dd S d):∀ {f:FW},(∀ k ∈ zh f,Dd S k)->zI (SU π f) (SS π d)=zI f d
 | [],_=>rfl
 | p :: f,hf=>by
  have hp:=hf p.1 List.mem_cons_self
  have ih:=h.word hd (f:=f) fun k hk=>hf k (List.mem_cons_of_mem _ hk)
  unfold zI SU at ih ⊢
  rw [List.map_cons,List.find?_cons,List.find?_cons]
  by_cases e:p.1=d
  ·have e':SS π p.1=SS π d:=by rw [e]
   simp only [decide_eq_true e,decide_eq_true e']; rfl
  ·have e':¬ SS π p.1=SS π d:=fun z=>e (h.ren_inj hp hd z)
   simp only [decide_eq_false e,decide_eq_false e']
   exact ih
def SV (π:List Int) (fm:FW × List (List Int)):FW × List (List Int):=(SU π fm.1,fm.2.map (SS π))
theorem Nm.step (h:Nm S π) {d m:List Int} {n:Nat} {fm:FW × List (List Int)} (hd:Dd S d) (hm:Dd S m) (hf:∀ k ∈ zh fm.1,Dd S k):z9 (SS π d) (SV π fm) n (SS π m)=SV π (z9 d fm n m):=by
 have e1:=h.word (ui hd hm) hf
 have e2:=h.word hd hf
 unfold z9
 rw [h.ren_then hd hm]
 show (if (zI (SU π fm.1) (SS π (zv d m))).isSome=true then SV π fm else _)=_
 rw [e1]
 by_cases c:(zI fm.1 (zv d m)).isSome=true
 ·rw [if_pos c,if_pos c]
 ·rw [if_neg c,if_neg c]
  unfold SV SU
  show (_ ++ [(_,(zI (SU π fm.1) (SS π d)).getD [] ++ [(n:Int)])],_)=_
  rw [e2]
  simp only [List.map_append,List.map_cons,List.map_nil]
theorem qr {ms:List (List Int)} {i:Nat} (hi:i < ms.length):(ms.map (SS π)).getD i []=SS π (ms.getD i []):=by
 rw [List.getD_eq_getElem?_getD,List.getD_eq_getElem?_getD,List.getElem?_map,List.getElem?_eq_getElem hi]; rfl
variable {ms:List (List Int)}
theorem Nm.row (h:Nm S π) (hM:SL ms S) {d:List Int} {fm:FW × List (List Int)} (hd:Word ms S d) (hf:GoodF ms S fm.1):∀ i,i<=ms.length->xr (ms.map (SS π)) (SS π d) i (SV π fm)=SV π (xr ms d i fm)
 | 0,_=>rfl
 | i+1,hi=>by
  have ih:=h.row hM hd hf i (by omega)
  show z9 (SS π d) (xr (ms.map (SS π)) (SS π d) i (SV π fm)) i ((ms.map (SS π)).getD i [])=SV π (z9 d (xr ms d i fm) i (ms.getD i []))
  rw [ih,qr (by omega)]
  exact h.step (hd.dd hM) (hM _ (zK (by omega))) fun k hk=>((vd hf hd i (by omega)).wd k hk).dd hM
theorem Nm.pass (h:Nm S π) (hM:SL ms S) {last:List (List Int)} {fm:FW × List (List Int)} (hd:∀ d ∈ last,Word ms S d) (hf:GoodF ms S fm.1):∀ j,j<=last.length->zD (ms.map (SS π)) (last.map (SS π)) j (SV π fm)=SV π (zD ms last j fm)
 | 0,_=>rfl
 | j+1,hj=>by
  have ih:=h.pass hM hd hf j (by omega)
  show xr (ms.map (SS π)) ((last.map (SS π)).getD j []) (ms.map (SS π)).length (zD (ms.map (SS π)) (last.map (SS π)) j (SV π fm))=SV π (xr ms (last.getD j []) ms.length (zD ms last j fm))
  rw [ih,qr (by omega),List.length_map]
  exact h.row hM (hd _ (zK (by omega))) (wg hf hd j (by omega)) _ (Nat.le_refl _)
theorem Nm.famR (h:Nm S π) (hM:SL ms S) {f r:FW} {last:List (List Int)} (a:FamR ms f last r):LI ms S f last->FamR (ms.map (SS π)) (SU π f) (last.map (SS π)) (SU π r):=by
 induction a with
 | done c =>
  intro _
  refine .done (c.imp (fun e=>by rw [e]; rfl) fun e=>?_)
  unfold SU; rw [List.length_map]; exact e
 | @step f r last c1 c2 _ ih =>
  intro li
  have hp:=h.pass hM (fm:=(f,[])) (fun d hd=>li.good.wd d (li.sub d hd)) li.good last.length (Nat.le_refl _)
  have ih:=ih li.pass
  refine .step (fun z=>c1 (List.map_eq_nil_iff.mp z)) (by unfold SU; rw [List.length_map]; exact c2) ?_
  rw [List.length_map]
  have e:((SU π f,[]):FW × List (List Int))=SV π (f,[]):=rfl
  rw [e,hp]
  exact ih
theorem Nm.famL (h:Nm S π) (hM:SL ms S) {r:FW} (a:vF ms S r):vF (ms.map (SS π)) S (SU π r):=by
 have:=h.famR hM a (LI.init ms S)
 unfold vF
 have e1:SU π [(SK S,[])]=[(SK S,[])]:=by unfold SU; rw [List.map_cons,List.map_nil,h.ren_id]
 have e2:[SK S].map (SS π)=[SK S]:=by rw [List.map_cons,List.map_nil,h.ren_id]
 rw [e1,e2] at this
 exact this
theorem Nm.mks (h:Nm S π) (hM:SL ms S):SL (ms.map (SS π)) S:=fun m hm=>by
 obtain ⟨m',hm',rfl⟩:=List.mem_map.mp hm
 exact h.ren_dd (hM m' hm')
end
theorem SN.vals {K:Tl} {H:Hp}:∀ {kvs:List (List To × V)} {f:FW},SN K H kvs f->zU (zp K H) (kvs.map (·.2)) (f.map (·.2))
 | [],[],_=>trivial
 | _ :: _,_ :: _,⟨h,t⟩=>⟨h.2,t.vals⟩
 | [],_ :: _,h=>h.elim
 | _ :: _,[],h=>h.elim
theorem Wx {r:List Int} {j v:Int} (h0:0<=j) (h1:j < r.length):ap (r.set j.toNat v) j=v:=by
 unfold ap; rw [List.getD_eq_getElem?_getD,List.getElem?_set_self (by omega)]; rfl
theorem Uu {r:List Int} {i j v:Int} (h0:0<=j) (h1:0<=i) (n:j ≠ i):ap (r.set j.toNat v) i=ap r i:=by
 unfold ap; rw [List.getD_eq_getElem?_getD,List.getElem?_set_ne (by omega),List.getD_eq_getElem?_getD]
theorem Y8 {xs:List V} {i:Nat}:jA xs none (some (i:Int))=xs.take i:=by
 by_cases h:i<=xs.length
 ·exact VA h
 ·unfold jA
  rw [HT.sIx_none,HT.sIx_nat,Nat.sub_zero,List.drop_zero,Nat.min_eq_right (by omega),List.take_length,List.take_of_length_le (by omega)]
theorem Y9 {zs:List V} {S:Nat} (pm:zs.Perm ((List.range S).map fun i:Nat=>V.int i)):∃ π:List Int,zs = π.map V.int /\ Nm S π:=by
 obtain ⟨gs,e,pg⟩:=qX (ms:=List.range S) pm
 refine ⟨gs.map fun g:Nat=>(g:Int),by rw [e]; exact qW,?_,pg.map _⟩
 show (gs.map _).length=S
 rw [List.length_map,pg.length_eq,List.length_range]
open PySem
inductive LexC (prog:Program) (w:World) (A:Around) (op:CmpOp) (s:Shared) (fin:Bool):List (Value × Value)->Bool->Prop
 | nil:LexC prog w A op s fin [] fin
 | same {p q:Value} {r:List (Value × Value)} {k:Bool}:(∀ (E:Tn) (Q:Bool->Shared->Prop),Q true s->wpAny (model prog w) A (eqBool p q) Q E s)->LexC prog w A op s fin r k->LexC prog w A op s fin ((p,q) :: r) k
 | diff {p q:Value} {r:List (Value × Value)} {k:Bool}:(∀ (E:Tn) (Q:Bool->Shared->Prop),Q false s->wpAny (model prog w) A (eqBool p q) Q E s)->(∀ (E:Tn) (Q:Tn),Q (.bool k) s->wpAny (model prog w) A (richCompare op p q) Q E s)->LexC prog w A op s fin ((p,q) :: r) k
section
variable {prog:Program} {w:World} {A:Around} {E:Tn} {s:Shared}
theorem sX {a b:Addr} {oa ob:Obj} {xs ys:Array Value} {n m:Nat} {k:Bool} {P:Fin->Shared->Prop} (hoa:s.heap.get? a=some oa) (hda:oa.data = .seq xs n) (hob:s.heap.get? b=some ob) (hdb:ob.data = .seq ys m) (hTb:s.TypeIs (.ref b) "tuple")
  (L:LexC prog w A .Lt s (decide (xs.size < ys.size)) (xs.toList.zip ys.toList) k) (h:P (.done (.ret (.bool k))) s):wpAny (model prog w) A (Builtin.«tuple.__lt__» ⟨[.ref a,.ref b],[]⟩) P E s:=by
 show wpAny _ _ (isInstance (.ref b) (.type "tuple") >>= _) _ _ s
 refine wpAny_bind (wpAny_isInstance hTb isSubtype_tuple_tuple ?_)
 simp only [Bool.not_true,Bool.false_eq_true,if_false]
 refine wpAny_bind (wpAny_tupleItemsOf hoa hda ?_)
 refine wpAny_bind (wpAny_tupleItemsOf hob hdb ?_)
 refine wpAny_bind ?_
 refine wpAny_forIn_list _ (fun rest r s'=>r.1=none /\ s' = s /\ LexC prog w A .Lt s (decide (xs.size < ys.size)) rest k) _ ?_ ?_ _ _ ⟨rfl,rfl,L⟩
 ·rintro ⟨p,q⟩ rest r s' ⟨hr,rfl,L⟩
  cases L with
  | same h1 L =>
   refine wpAny_bind (h1 _ _ ?_)
   simp only [Bool.not_true,Bool.false_eq_true,if_false]
   exact wpAny_pure ⟨rfl,rfl,L⟩
  | diff h1 h2 =>
   refine wpAny_bind (h1 _ _ ?_)
   simp only [Bool.not_false,if_true]
   exact wpAny_bind (wpAny_rule (wpAny_bind (h2 _ _ (wpAny_bind (wpAny_pure (wpAny_pure (wpAny_pure h)))))))
 ·rintro ⟨r1,r2⟩ s' ⟨hr,rfl,L⟩
  simp only at hr
  subst hr
  cases L
  exact wpAny_pure h
end
def vH (xs:Array Nat):Prop:=∀ i j (h:j < xs.size) (ij:i < j),xs[i] < xs[j]
theorem ut {xs:Array Nat} {j:Nat} (hr:vH xs):∀ (fuel lo hi:Nat),hi - lo<=fuel->lo<=hi->hi<=xs.size->(∀ i (h:i < xs.size),i < lo->xs[i] < j)->(∀ i (h:i < xs.size),hi<=i->j<=xs[i]) →
  SetTable.below.go xs j fuel lo hi<=xs.size /\ (∀ i (h:i < xs.size),i < SetTable.below.go xs j fuel lo hi->xs[i] < j) /\ (∀ i (h:i < xs.size),SetTable.below.go xs j fuel lo hi<=i->j<=xs[i])
 | 0,lo,hi,hf,hl,hs,h1,h2=>by
  unfold SetTable.below.go
  exact ⟨by omega,h1,fun i h hi'=>h2 i h (by omega)⟩
 | fuel+1,lo,hi,hf,hl,hs,h1,h2=>by
  unfold SetTable.below.go
  split
  ·rename_i hlt
   have hm:(lo+hi) / 2 < xs.size:=by omega
   simp only [Array.getD,hm,dite_true]
   split
   ·rename_i hv
    refine ut hr fuel _ _ (by omega) (by omega) hs (fun i h hi'=>?_) h2
    rcases Nat.lt_or_eq_of_le (Nat.lt_succ_iff.mp hi') with z | z
    ·exact Nat.lt_trans (hr i _ hm z) hv
    ·subst z; exact hv
   ·rename_i hv
    refine ut hr fuel _ _ (by omega) (by omega) (by omega) h1 (fun i h hi'=>?_)
    rcases Nat.lt_or_eq_of_le hi' with z | z
    ·exact Nat.le_trans (Nat.le_of_not_lt hv) (Nat.le_of_lt (hr _ i h z))
    ·subst z; exact Nat.le_of_not_lt hv
  ·exact ⟨by omega,h1,fun i h hi'=>h2 i h (by omega)⟩
theorem ZW {xs:Array Nat} (hr:vH xs) (j:Nat):SetTable.below xs j<=xs.size /\ (∀ i (h:i < xs.size),i < SetTable.below xs j->xs[i] < j) /\ (∀ i (h:i < xs.size),SetTable.below xs j<=i->j<=xs[i]) :=
 ut hr _ _ _ (by omega) (by omega) (Nat.le_refl _) (fun i _ z=>absurd z (by omega)) (fun i h z=>absurd z (by omega))
theorem vj {xs:Array Nat}:vH xs ↔ xs.toList.Pairwise (· < ·):=by
 rw [List.pairwise_iff_getElem]
 constructor
 ·intro h i j hi hj ij
  simpa using h i j (by simpa using hj) ij
 ·intro h i j hj ij
  have hj2:j < xs.toList.length:=by rw [Array.length_toList]; exact hj
  exact h i j (Nat.lt_trans ij hj2) hj2 ij
def VE (t:SetTable) (j:Nat):Prop:=t.place[SetTable.below t.place j]? ≠ some j
theorem jm {t:SetTable} {j:Nat} (h:t.slot j = .empty):VE t j:=fun z=>by
 unfold SetTable.slot at h; simp [z] at h
theorem Xa {t:SetTable} {j:Nat} (hr:vH t.place) (hf:VE t j):vH (t.put j).1.place:=by
 obtain ⟨b1,b2,b3⟩:=ZW hr j
 rw [vj]
 show (SetTable.insertAt t.place (SetTable.below t.place j) j).toList.Pairwise (· < ·)
 rw [SetTable.toList_insertAt,List.pairwise_append]
 have pw:=vj.mp hr
 refine ⟨pw.sublist (List.take_sublist _ _),?_,?_⟩
 ·rw [List.pairwise_cons]
  refine ⟨fun a ha=>?_,pw.sublist (List.drop_sublist _ _)⟩
  obtain ⟨i,hi,e⟩:=List.mem_iff_getElem.mp ha
  rw [List.getElem_drop] at e
  rw [List.length_drop] at hi
  have hi2:SetTable.below t.place j+i < t.place.size:=by rw [Array.length_toList] at hi; omega
  have e2:t.place[SetTable.below t.place j+i]=a:=by simpa using e
  have h0:SetTable.below t.place j < t.place.size:=by omega
  have p0:j < t.place[SetTable.below t.place j]:=by
   have:=b3 _ h0 (Nat.le_refl _)
   rcases Nat.lt_or_eq_of_le this with z | z
   ·exact z
   ·exact absurd (by rw [Array.getElem?_eq_getElem h0,← z]) hf
  rcases Nat.eq_zero_or_pos i with z | z
  ·subst z; rw [← e2]; exact p0
  ·rw [← e2]; exact Nat.lt_trans p0 (hr _ _ hi2 (by omega))
 ·intro a ha b hb
  obtain ⟨i,hi,e⟩:=List.mem_iff_getElem.mp ha
  rw [List.getElem_take] at e
  rw [List.length_take,Array.length_toList] at hi
  have a1:a < j:=by rw [← e]; simpa using b2 i (by omega) (by omega)
  rcases List.mem_cons.mp hb with z | z
  ·rw [z]; exact a1
  ·obtain ⟨i2,hi2,e2⟩:=List.mem_iff_getElem.mp z
   rw [List.getElem_drop] at e2
   rw [List.length_drop,Array.length_toList] at hi2
   have:=b3 (SetTable.below t.place j+i2) (by omega) (by omega)
   rw [← e2]; exact Nat.lt_of_lt_of_le a1 (by simpa using this)
section
variable {prog:Program} {w:World} {A:Around} {E:Tn} {s:Shared}
theorem Wy (a:Value) {Q₁:Tn}
  (h:Q₁ (.ref s.heap.objs.size) { s with heap:=s.heap.push { cls:=.type "set",dict:=none,data:=.set #[] 0 (.fresh 0 0 (!w.params.followText "set-order")) } }) :
  codeAny (model prog w) A (.call (.builtin "set.__new__") ⟨[.type "set",a],[]⟩) (wants Q₁ E) s:=by
 refine codeAny_of_tree ?_
 show wpAny _ A.in1 (do checkBuiltinCall "set.__new__" ⟨[.type "set",a],[]⟩; again (.builtin "set.__new__" ⟨[.type "set",a],[]⟩)) _ _ s
 refine wpAny_bind (wpAny_of_eq (PySem.F.newCall_set_1 a) (wpAny_pure ⟨plainId_quiet PySem.F.plain_set_new _,codeAny_builtin PySem.F.entry_set_new ?_⟩))
 rw [Around.under_plainId PySem.F.plain_set_new _]
 unfold Builtin.«set.__new__» Builtin.Frozenset.newClass
 have hsub:=sub_set_self
 obtain ⟨hp,g,d,tk,os⟩:=s
 dsimp only
 wp_walk
 refine wpAny_askSetting (wpAny_pure ?_)
 dsimp only
 simp only [newObj]
 exact wpAny_bind (wpAny_alloc (wpAny_pure (wpAny_pure h)))
end
theorem XJ {P:Program} {w:World} {i:Int} {t:Tok}:(intKind P w).is i (.int i t)=true:=by simp [intKind,Value.isInt]
section
variable {κ1 κ2:Type} [DecidableEq κ1] [DecidableEq κ2]
abbrev PR:List ((κ1 × κ2) × Addr × V)->List ((κ1 × κ2) × Addr × Value)->Prop:=Paired fun p q=>p.1=q.1 /\ p.2.1=q.2.1 /\ zJ p.2.2 q.2.2
variable {P:Program} {w:World} {K:Tl} {H H':Hp} {h h':Heap} {a b:Addr} {kvs:List ((κ1 × κ2) × Addr × V)} {k:κ1 × κ2} {v:V}
end
abbrev EnR:List (V × V)->List DictEntry->Prop:=Paired fun (p:V × V) (e:DictEntry)=>zJ p.1 e.key /\ zJ p.2 e.val
def SW {α:Type} (f:α -> α):Nat -> α -> α
 | 0,x=>x
 | n+1,x=>SW f n (f x)
theorem z6 {α:Type} {f:α -> α}:∀ {a b:Nat} {x:α},SW f (a+b) x=SW f b (SW f a x)
 | 0,b,x=>by rw [Nat.zero_add]; rfl
 | a+1,b,x=>by
  rw [show a+1+b=(a+b)+1 from by omega]
  show SW f (a+b) (f x)=SW f b (SW f a (f x))
  exact z6
def SX (m:Nat) (x:Nat × Nat):Nat × Nat:=SetTable.leap m x.1 x.2
theorem ZX {m:Nat}:∀ {n:Nat} {x:Nat × Nat},(SW (SX m) n x).2=x.2 / 32 ^ n
 | 0,x=>by show x.2=x.2 / 1; rw [Nat.div_one]
 | n+1,x=>by
  show (SW (SX m) n (SX m x)).2=_
  rw [ZX]
  show x.2 / 32 / 32 ^ n=_
  rw [Nat.div_div_eq_div_mul,Nat.pow_succ,Nat.mul_comm]
theorem VF {m:Nat} {n:Nat} {x:Nat × Nat} (h:0 < n):(SW (SX m) n x).1<=m:=by
 obtain ⟨n,rfl⟩:∃ k,n=k+1:=⟨n - 1,by omega⟩
 rw [z6]
 show (SetTable.leap m (SW (SX m) n x).1 (SW (SX m) n x).2).1<=m
 unfold SetTable.leap
 exact Nat.le_of_lt_succ (Nat.mod_lt _ (Nat.succ_pos m))
def wA (m:Nat):Prop:=m=7 \/ m=31 \/ m=127
theorem Wz (m:Nat) (h:wA m):(∀ i,i < m+1 -> ∃ a,a < m+1 /\ (SW (SX m) a (0,0)).1=i) /\ SW (SX m) (m+1) (0,0)=(0,0):=by
 rcases h with rfl | rfl | rfl
 ·decide +kernel
 ·decide +kernel
 ·decide +kernel
theorem VG {m:Nat} (h:wA m) {i t:Nat} (hi:i<=m) (ht:t<=m):∃ k,k<=m /\ (SW (SX m) k (i,0)).1=t:=by
 obtain ⟨h1,h2⟩:=Wz m h
 obtain ⟨a,a1,a2⟩:=h1 i (by omega)
 obtain ⟨b,b1,b2⟩:=h1 t (by omega)
 have e:SW (SX m) a (0,0)=(i,0):=Prod.ext a2 (by rw [ZX]; exact Nat.zero_div _)
 by_cases c:a<=b
 ·refine ⟨b - a,by omega,?_⟩
  rw [← e,← z6,show a+(b - a)=b by omega]
  exact b2
 ·refine ⟨m+1 - a+b,by omega,?_⟩
  rw [← e,← z6,show a+(m+1 - a+b)=m+1+b by omega,z6,h2]
  exact b2
theorem tj {m:Nat} (h:wA m) {i p t:Nat} (hp:p < 2 ^ 64) (ht:t<=m):∃ L,L<=13+m /\ (SW (SX m) L (i,p)).1=t:=by
 have e:SW (SX m) 13 (i,p)=((SW (SX m) 13 (i,p)).1,0):=Prod.ext rfl (by rw [ZX]; exact Nat.div_eq_of_lt (Nat.lt_trans hp (by decide)))
 obtain ⟨k,k1,k2⟩:=VG h (VF (m:=m) (n:=13) (x:=(i,p)) (by decide)) ht
 refine ⟨13+k,by omega,?_⟩
 rw [z6,e]
 exact k2
theorem ZY {m i:Nat}:SetTable.runEnd m i - i<=9:=by
 unfold SetTable.runEnd; split <;> omega
theorem wm {t:SetTable}:∀ (c:Nat) (p:SetTable.Probe),p.more=c -> ∃ q,SW t.advance (c+1) p=q /\ (q.i,q.perturb)=SX t.mask (p.i,p.perturb) /\ q.j=q.i /\ q.more<=9 /\ q.dummy=p.dummy
 | 0,p,h=>by
  refine ⟨t.advance p,rfl,?_⟩
  have e:t.advance p = { p with j:=(SetTable.leap t.mask p.i p.perturb).1,more:=SetTable.runEnd t.mask (SetTable.leap t.mask p.i p.perturb).1 - (SetTable.leap t.mask p.i p.perturb).1,i:=(SetTable.leap t.mask p.i p.perturb).1,perturb:=(SetTable.leap t.mask p.i p.perturb).2 }:=by
   unfold SetTable.advance
   rw [if_neg (by omega)]
  rw [e]
  exact ⟨rfl,rfl,ZY,rfl⟩
 | c+1,p,h=>by
  have e:t.advance p = { p with j:=p.j+1,more:=p.more - 1 }:=by
   unfold SetTable.advance
   rw [if_pos (by omega)]
  obtain ⟨q,q1,q2,q3,q4,q5⟩:=wm c (t.advance p) (by rw [e]; show p.more - 1=c; omega)
  refine ⟨q,q1,?_,q3,q4,?_⟩
  ·rw [q2,e]
  ·rw [q5,e]
theorem vk {t:SetTable}:∀ (L:Nat) (p:SetTable.Probe),p.more<=9->p.j=p.i -> ∃ n q,n<=10 * L /\ SW t.advance n p=q /\ q.j=(SW (SX t.mask) L (p.i,p.perturb)).1
 | 0,p,h,e=>⟨0,p,Nat.le_refl _,rfl,e⟩
 | L+1,p,h,e=>by
  obtain ⟨q,q1,q2,q3,q4,q5⟩:=wm (t:=t) p.more p rfl
  obtain ⟨n,r,n1,n2,n3⟩:=vk (t:=t) L q q4 q3
  refine ⟨p.more+1+n,r,by omega,?_,?_⟩
  ·rw [z6,q1]; exact n2
  ·rw [n3,q2]; rfl
def XM (t:SetTable) (N:Nat) (p:SetTable.Probe):Prop:=∃ n,n < N /\ t.slot (SW t.advance n p).j = .empty
theorem Xb {t:SetTable} (hd:t.dummies = #[]) {j:Nat} (h:j ∉ t.place.toList):t.slot j = .empty:=by
 unfold SetTable.slot
 dsimp only
 rw [if_neg,if_neg]
 ·unfold SetTable.has; rw [hd]; simp
 ·intro e
  rw [beq_iff_eq] at e
  exact h (by have:=Array.mem_of_getElem? e; exact Array.mem_toList_iff.mpr this)
theorem qt {t:SetTable} (hd:t.dummies = #[]) {j:Nat}:t.slot j ≠ .dummy:=by
 unfold SetTable.slot
 dsimp only
 split
 ·intro z; cases z
 ·rw [if_neg]
  ·intro z; cases z
  ·unfold SetTable.has; rw [hd]; simp
theorem vm {t:SetTable} {j i:Nat} (h:t.slot j = .live i):t.place[i]? = some j:=by
 unfold SetTable.slot at h
 dsimp only at h
 split at h
 ·rename_i e
  cases h
  exact eq_of_beq e
 ·split at h <;> cases h
theorem VH {l:List Nat}:∀ {m:Nat},l.length<=m -> ∃ j,j<=m /\ j ∉ l:=by
 intro m h
 apply Classical.byContradiction
 intro z
 have h1:∀ j ∈ List.range (m+1),j ∈ l:=fun j hj=>Classical.byContradiction fun w=>z ⟨j,by have:=List.mem_range.mp hj; omega,w⟩
 have:=(List.nodup_range (n:=m+1)).length_le_of_subset h1
 rw [List.length_range] at this
 omega
theorem Xc {t:SetTable} (hm:wA t.mask) (hd:t.dummies = #[]) (hf:t.place.size<=t.mask) (h:Int):XM t (10 * SetTable.turns t.mask) (t.probeStart h):=by
 obtain ⟨j,j1,j2⟩:=VH (l:=t.place.toList) (m:=t.mask) (by rw [Array.length_toList]; exact hf)
 have hb:SetTable.bits h < 2 ^ 64:=by
  unfold SetTable.bits
  have h1:=Int.emod_nonneg h (b:=(2:Int) ^ 64) (by decide)
  have h2:=Int.emod_lt_of_pos h (b:=(2:Int) ^ 64) (by decide)
  omega
 obtain ⟨L,l1,l2⟩:=tj hm (i:=SetTable.bits h % (t.mask+1)) hb j1
 obtain ⟨n,q,n1,n2,n3⟩:=vk (t:=t) L (t.probeStart h) (by show SetTable.runEnd _ _ - _<=9; exact ZY) rfl
 refine ⟨n,?_,?_⟩
 ·have e:SetTable.turns t.mask=t.mask+15:=rfl
  rw [e]; omega
 ·rw [n2,n3]
  show t.slot (SW (SX t.mask) L (SetTable.bits h % (t.mask+1),SetTable.bits h)).1=_
  rw [l2]
  exact Xb hd j2
theorem xW {t:SetTable} {p:SetTable.Probe}:(t.advance p).dummy=p.dummy:=by
 unfold SetTable.advance; split <;> rfl
theorem VI {t:SetTable} {ha:Nat->Int} {h:Int} (hd:t.dummies = #[]):∀ (fuel:Nat) (p:SetTable.Probe),p.dummy=none->XM t fuel p →
  (∃ j,SetTable.probe.go t ha h fuel p=some (.empty j none)) \/ ∃ (q:SetTable.Probe) (i N:Nat),N < fuel /\ SetTable.probe.go t ha h fuel p=some (.candidate q.j i (t.advance q)) /\ t.slot q.j = .live i /\ (t.advance q).dummy=none /\ XM t N (t.advance q)
 | 0,p,_,⟨n,hn,_⟩=>absurd hn (Nat.not_lt_zero _)
 | fuel+1,p,hp,⟨n,hn,hs⟩=>by
  unfold SetTable.probe.go
  cases e:t.slot p.j with
  | empty=>exact .inl ⟨p.j,by rw [hp]⟩
  | dummy=>exact absurd e (qt hd)
  | live i =>
   have nx:XM t fuel (t.advance p):=by
    cases n with
    | zero=>rw [show SW t.advance 0 p=p from rfl,e] at hs; cases hs
    | succ n=>exact ⟨n,by omega,hs⟩
   dsimp only
   split
   ·exact .inr ⟨p,i,fuel,Nat.lt_succ_self _,rfl,e,by rw [xW]; exact hp,nx⟩
   ·rcases VI hd fuel (t.advance p) (by rw [xW]; exact hp) nx with z | ⟨q,i',N,h1,h2⟩
    ·exact .inl z
    ·exact .inr ⟨q,i',N,by omega,h2⟩
theorem WA (h:Int):SetTable.bits h < 2 ^ 64:=by
 unfold SetTable.bits
 have h1:=Int.emod_nonneg h (b:=(2:Int) ^ 64) (by decide)
 have h2:=Int.emod_lt_of_pos h (b:=(2:Int) ^ 64) (by decide)
 omega
theorem tm {m:Nat} {owner:Array (Option Nat)}:∀ (L fuel i p:Nat),L < fuel->(owner.getD (SW (SX m) L (i,p)).1 (some 0)).isNone=true -> ∃ j,SetTable.layClean.free m owner fuel i p=some j /\ (owner.getD j (some 0)).isNone=true
 | _,0,_,_,h,_=>absurd h (Nat.not_lt_zero _)
 | L,fuel+1,i,p,h,ho=>by
  unfold SetTable.layClean.free
  split
  ·rename_i k e
   exact ⟨i+k,rfl,by have:=List.find?_some (p:=fun k=>(owner.getD (i+k) (some 0)).isNone) e; exact this⟩
  ·rename_i e
   cases L with
   | zero =>
    have le:i<=SetTable.runEnd m i:=by unfold SetTable.runEnd; split <;> omega
    have:=List.find?_eq_none.mp e 0 (List.mem_range.mpr (by omega))
    exact absurd ho this
   | succ L=>exact tm L fuel _ _ (by omega) ho
theorem ZZ {owner:Array (Option Nat)} {j:Nat} (h:(owner.getD j (some 0)).isNone=true):owner[j]? = some none:=by
 rw [← Array.getElem?_toList]
 unfold Array.getD at h
 split at h
 ·rename_i hj
  rw [List.getElem?_eq_getElem (by rw [Array.length_toList]; exact hj)]
  congr 1
  have:owner[j]=none:=by
   cases e:owner[j] with
   | none=>rfl
   | some x=>simp [e] at h
  simpa using this
 ·cases h
theorem sY {l:List (Option Nat)}:(l.filterMap id).length < l.length -> ∃ j,j < l.length /\ l[j]? = some none:=by
 induction l with
 | nil=>intro h; cases h
 | cons x l ih =>
  intro h
  cases x with
  | none=>exact ⟨0,by simp,rfl⟩
  | some v =>
   obtain ⟨j,j1,j2⟩:=ih (by simpa using h)
   exact ⟨j+1,by simpa using j1,by simpa using j2⟩
theorem Xd {l:List (Option Nat)} {j k:Nat} (h:l[j]? = some none):((l.set j (some k)).filterMap id).Perm (k :: l.filterMap id):=by
 induction l generalizing j with
 | nil=>cases h
 | cons x l ih =>
  cases j with
  | zero =>
   rw [List.getElem?_cons_zero] at h
   injection h with h
   subst h
   exact List.Perm.refl _
  | succ j =>
   rw [List.getElem?_cons_succ] at h
   rw [List.set_cons_succ]
   cases x with
   | none=>exact ih h
   | some v =>
    refine (List.Perm.cons v (ih h)).trans ?_
    exact List.Perm.swap ..
def V0 (m:Nat) (acc:Option (Array (Option Nat) × Nat)) (h:Int):Option (Array (Option Nat) × Nat):=do
 let (owner,k) ← acc
 let j ← SetTable.layClean.free m owner (SetTable.turns m) (SetTable.bits h % (m+1)) (SetTable.bits h)
 pure (owner.setIfInBounds j (some k),k+1)
theorem Xe {m:Nat} {o:Array (Option Nat)} (hz:o.size=m+1):((List.range (m+1)).filterMap fun j=>(o.getD j none).map (j,·)).map (·.2)=o.toList.filterMap id:=by
 have e:o.toList=(List.range (m+1)).map fun j=>o.getD j none:=by
  refine List.ext_getElem (by rw [Array.length_toList,List.length_map,List.length_range,hz]) fun i h1 h2=>?_
  rw [List.getElem_map,List.getElem_range]
  rw [Array.length_toList] at h1
  unfold Array.getD
  rw [dif_pos h1]
  simp
 rw [e,List.map_filterMap,List.filterMap_map]
 congr 1
 funext j
 show Option.map (fun x=>x.2) (Option.map (fun x=>(j,x)) (o.getD j none))=id (o.getD j none)
 cases o.getD j none <;> rfl
theorem tq {α:Type}:∀ l:List α,(List.range l.length).filterMap (l[·]?)=l
 | []=>rfl
 | a :: l=>by
  rw [List.length_cons,List.range_succ_eq_map,List.filterMap_cons,List.getElem?_cons_zero]
  dsimp only
  rw [List.filterMap_map]
  congr 1
  exact tq l
theorem Z0 {α:Type} {es:Array α} {order:Array Nat} (h:order.toList.Perm (List.range es.size)):(order.filterMap (es[·]?)).toList.Perm es.toList:=by
 rw [Array.toList_filterMap]
 refine (h.filterMap _).trans ?_
 have:=tq es.toList
 rw [Array.length_toList] at this
 have e:(fun i:Nat=>es[i]?)=fun i=>es.toList[i]?:=funext fun i=>by rw [Array.getElem?_toList]
 rw [e,this]
section
variable {prog:Program} {w:World} {A:Around} {E:Tn} {s:Shared}
theorem XN {u:Value} {k:Int} (h:(intKind prog w).is k u=true):∃ t,u = .int k t:=by
 cases u with
 | int i t =>
  have:i=k:=(intKind prog w).inj _ _ _ XJ h
  exact ⟨t,by rw [this]⟩
 | bool b =>
  exfalso
  cases b <;> simp [intKind,Value.isInt] at h
 | _=>simp [intKind,Value.isInt] at h
end
def vn (es:Array (Int × Value)) (ep:Nat) (t:SetTable):Obj:={ cls:=.type "set",dict:=none,data:=.set es ep t,slots:=#[] }
structure SetPS (h:Heap) (a:Addr) (ad:Nat->Addr) (m:Nat) (es:Array (Int × Value)) (ep:Nat) (t:SetTable):Prop where
 at_:h.get? a=some (vn es ep t)
 el:∀ e ∈ es.toList,∃ i,i < m /\ e.2=Value.ref (ad i)
 sz:es.size=m
 pz:t.place.size=m
 dm:t.dummies = #[]
 room:(t.mask=7 /\ m<=4) \/ (t.mask=31 /\ m<=18) \/ (t.mask=127 /\ m<=60)
def Xf (h:Heap) (a:Addr) (ad:Nat->Addr) (m:Nat):Prop:=∃ es ep t,SetPS h a ad m es ep t
section
variable {prog:Program} {w:World} {A:Around} {E:Tn} {s:Shared} {a:Addr} {ad:Nat->Addr} {m:Nat}
theorem sZ {t:SetTable} {n:Nat} (hd:t.dummies = #[]) (hz:t.place.size=n) (hm:n<=t.mask):t.fits n=true:=by
 unfold SetTable.fits SetTable.fill
 rw [hd]
 simp [hz,hm]
theorem SetPS.fit {h:Heap} {es ep t} (S:SetPS h a ad m es ep t):t.fits es.size=true:=by
 refine sZ S.dm (S.pz.trans S.sz.symm) ?_
 rw [S.sz]
 rcases S.room with ⟨z,l⟩ | ⟨z,l⟩ | ⟨z,l⟩ <;> rw [z] <;> omega
theorem tw {es:Array (Int × Value)} {ep:Nat} {t:SetTable} {es1:Array (Int × Value)} {t1:SetTable} {Q:Unit->Shared->Prop} (ho:s.heap.get? a=some (vn es ep t)) (hz:es1.size<=100)
  (h:∀ h',Heap.SameBut a s.heap h' -> h'.get? a=some (vn es1 (ep+1) t1)->Q () { s with heap:=h' }):wpAny (model prog w) A (storeSet a es1 t1) Q E s:=by
 refine wpAny_storeSet_of ho rfl ?_ (fits_of_scanBound (by have:scanBound=4096:=rfl; omega))
 exact h _ (Heap.SameBut.update s.heap a (Obj.putSet es1 t1)) (Heap.get?_update_self (Obj.putSet es1 t1) ho rfl)
theorem xX {α:Type} (xs:Array α) (p:Nat) (x:α) (hp:p<=xs.size):(SetTable.insertAt xs p x).size=xs.size+1:=by
 rw [← Array.length_toList,SetTable.toList_insertAt]
 rw [List.length_append,List.length_cons,List.length_take,List.length_drop,Array.length_toList]
 omega
theorem jn (xs:Array Nat) (j:Nat):SetTable.below xs j<=xs.size:=by
 have key:∀ (fuel lo hi:Nat),lo<=hi->hi<=xs.size->SetTable.below.go xs j fuel lo hi<=xs.size:=by
  intro fuel
  induction fuel with
  | zero=>intro lo hi h1 h2; unfold SetTable.below.go; omega
  | succ f ih =>
   intro lo hi h1 h2
   unfold SetTable.below.go
   split
   ·dsimp only
    split
    ·exact ih _ _ (by omega) h2
    ·exact ih _ _ (by omega) (by omega)
   ·omega
 exact key _ _ _ (Nat.zero_le _) (Nat.le_refl _)
theorem VJ {t:SetTable} (hd:t.dummies = #[]) (j:Nat):(t.put j).1 = { t with place:=SetTable.insertAt t.place (SetTable.below t.place j) j } /\ (t.put j).2=SetTable.below t.place j:=by
 unfold SetTable.put
 dsimp only
 refine ⟨?_,rfl⟩
 rw [if_neg (by unfold SetTable.has; rw [hd]; simp)]
theorem Th:SetTable.sizeAbove (SetTable.grown 5) - 1=31:=by decide +kernel
theorem Ti:SetTable.sizeAbove (SetTable.grown 19) - 1=127:=by decide +kernel
end
theorem Xf.keep {h h':Heap} {a:Addr} {ad:Nat->Addr} {m:Nat} (S:Xf h a ad m) (k:∀ o,h.get? a=some o->h'.get? a=some o):Xf h' a ad m:=by
 obtain ⟨es,ep,t,S⟩:=S
 exact ⟨es,ep,t,{ S with at_:=k _ S.at_ }⟩
def tD (h:Heap) (a:Addr) (n:Nat):Prop:=∃ ad,Xf h a ad n
section
variable {X:Cx} {K:Tl} {P:Program} {w:World}
theorem zL.setP {H:Hp} {h:Heap} {a:Addr} {n:Nat} (S:tD h a n):zL P w H h a (.ext fun h=>tD h a n):=by
 obtain ⟨ad,S⟩:=S
 obtain ⟨es,ep,t,S'⟩:=S
 exact ⟨⟨ad,es,ep,t,S'⟩,⟨_,S'.at_⟩,fun h1 h2 ⟨ad,s1⟩ k=>⟨ad,s1.keep k⟩⟩
theorem tE:yw X (.builtin "len") (fun xs H Q=>∃ a n,xs=[V.ref a] /\ H a=some (.ext fun h=>tD h a n) /\ Q (.int n) H):=by
 intro pins s σ H xs us Q I r h
 obtain ⟨a,n,rfl,ha,q⟩:=h
 obtain ⟨u,rfl,ru⟩:=xE r
 cases ru
 obtain ⟨ad,es,ep,t,S⟩:tD s.heap a n:=(I.hok a _ ha).1
 have z:=S.sz
 refine call_len_set S.at_ ⟨rfl,rfl,rfl⟩ rfl S.fit (by rw [z]; have:=S.room; omega) ?_
 rw [z]
 exact ⟨.int n,H,I.tok _,⟨_,rfl⟩,q⟩
end
abbrev xK (prog:Program) (w:World) (h:Heap) (k:List Int) (a:Addr):Prop:=IsTupleKey (intKind prog w) h k a
theorem xK.keep {prog:Program} {w:World} {h h':Heap} {k:List Int} {a:Addr} (x:xK prog w h k a) (hs:∀ o,h.get? a=some o->h'.get? a=some o):xK prog w h' k a:=by
 obtain ⟨o,its,n,ho,hc,hd,hi⟩:=x
 exact ⟨o,its,n,hs o ho,hc,hd,hi⟩
theorem Z1 {prog:Program} {w:World} {k:List Int} {vs:List Value} (h:ItemsAre (intKind prog w) k vs):∀ v ∈ vs,∃ i t,v=Value.int i t:=by
 induction h with
 | nil=>exact fun v hv=>(by cases hv)
 | cons h1 _ ih =>
  intro v hv
  rcases List.mem_cons.mp hv with rfl | hv
  ·obtain ⟨t,e⟩:=XN h1
   exact ⟨_,t,e⟩
  ·exact ih v hv
section
variable {prog:Program} {w:World} {A:Around} {E:Tn} {s:Shared}
theorem Xg {x y:List Int} {a b:Addr} {Q:Bool->Shared->Prop} (hu:A.units+1 < cLine) (hx:xK prog w s.heap x a) (hy:xK prog w s.heap y b) (h:Q (decide (x=y)) s):wpAny (model prog w) A (eqBool (.ref a) (.ref b)) Q E s:=wpAny_eqBool_tuple (by omega) hx hy h
theorem WB {k:List Int} {a:Addr} {Q:Int->Shared->Prop} (hu:A.units+1 < cLine) (hk:xK prog w s.heap k a) (h:Q (tupleKeyHash (intKind prog w) k) { s with toks:=s.toks+(k.length+1) }):wpAny (model prog w) A (pyHash (.ref a)) Q E s:=wpAny_pyHash_tuple (by omega) hk h
theorem qu {k:List Int} {a:Addr} {Q:Bool->Shared->Prop} (hk:xK prog w s.heap k a) (h:Q true s):wpAny (model prog w) A (eqIsQuiet 8 (.ref a)) Q E s:=by
 have hT:=hk.typeIs
 obtain ⟨o,items,n,ho,_,hd,hi⟩:=hk
 unfold eqIsQuiet
 refine wpAny_bind (wpAny_specialOf hT F.slot_tuple_eq.lookup ?_)
 show wpAny _ _ (isInstance (.ref a) (.type "tuple") >>= _) _ _ s
 refine wpAny_bind (wpAny_isInstance hT isSubtype_tuple_tuple ?_)
 simp only [Bool.not_true,Bool.false_eq_true,if_false]
 refine wpAny_bind (wpAny_seqItems ho hd ?_)
 refine wpAny_bind ?_
 show wpAny _ _ (forIn items _ _) _ _ s
 rw [← Array.forIn_toList]
 refine wpAny_forIn_list _ (fun rest r s'=>r.1=none /\ s' = s /\ ∀ v ∈ rest,carriedByValue v=true) _ ?_ ?_ _ _ ⟨rfl,rfl,hi.byValue⟩
 ·rintro v rest r s' ⟨hr,rfl,hall⟩
  rw [eqIsQuiet_byValue _ (hall v List.mem_cons_self)]
  refine wpAny_bind (wpAny_pure ?_)
  simp only [Bool.not_true,Bool.false_eq_true,if_false]
  exact wpAny_pure ⟨rfl,rfl,fun u hu'=>hall u (List.mem_cons_of_mem _ hu')⟩
 ·rintro ⟨r1,r2⟩ s' ⟨hr,rfl,_⟩
  simp only at hr
  subst hr
  exact wpAny_pure h
theorem qv {k:List Int} {a:Addr} {Q:Bool->Shared->Prop} (hk:xK prog w s.heap k a) (h:Q false s):wpAny (model prog w) A (ofAClassStatement 8 (.ref a)) Q E s:=by
 have hT:=hk.typeIs
 obtain ⟨o,items,n,ho,_,hd,hi⟩:=hk
 have hints:=Z1 hi
 unfold ofAClassStatement
 refine wpAny_bind (wpAny_typeOf hT ?_)
 dsimp only
 rw [if_pos (by decide)]
 refine wpAny_bind (wpAny_pure ?_)
 simp only [Bool.not_true,Bool.false_eq_true,if_false]
 refine wpAny_bind (wpAny_seqItems ho hd ?_)
 dsimp only
 refine wpAny_bind ?_
 rw [← Array.forIn_toList]
 refine wpAny_forIn_list _ (fun rest r s'=>r.1=none /\ s' = s /\ ∀ x ∈ rest,∃ i t,x=Value.int i t) _ ?_ ?_ _ _ ⟨rfl,rfl,hints⟩
 ·rintro x rest r s' ⟨hr,rfl,hall⟩
  obtain ⟨i,t,rfl⟩:=hall x (by simp)
  refine wpAny_bind ?_
  unfold ofAClassStatement
  refine wpAny_pure ?_
  simp only [Bool.false_eq_true,if_false]
  exact wpAny_pure ⟨rfl,rfl,fun y hy=>hall y (by simp [hy])⟩
 ·rintro ⟨r1,r2⟩ s' ⟨hr,rfl,_⟩
  simp only at hr
  subst hr
  exact wpAny_pure h
theorem Z2 {k:List Int} {a:Addr} {Q:Bool->Shared->Prop} (hk:xK prog w s.heap k a) (h:Q true s):wpAny (model prog w) A (hashByValue 8 (.ref a)) Q E s:=by
 have hT:=hk.typeIs
 obtain ⟨o,items,n,ho,_,hd,hi⟩:=hk
 have hints:=Z1 hi
 unfold hashByValue
 refine wpAny_bind (wpAny_specialOf hT F.slot_tuple_hash.lookup ?_)
 dsimp only
 refine wpAny_bind (wpAny_seqItems ho hd ?_)
 dsimp only [Option.getD]
 refine wpAny_bind ?_
 rw [← Array.forIn_toList]
 refine wpAny_forIn_list _ (fun rest r s'=>r.1=none /\ s' = s /\ ∀ x ∈ rest,∃ i t,x=Value.int i t) _ ?_ ?_ _ _ ⟨rfl,rfl,hints⟩
 ·rintro x rest r s' ⟨hr,rfl,hall⟩
  obtain ⟨i,t,rfl⟩:=hall x (by simp)
  refine wpAny_bind ?_
  rw [hashByValue_scannable _ rfl]
  refine wpAny_pure ?_
  simp only [plainKind,Bool.not_true,Bool.false_eq_true,if_false]
  exact wpAny_pure ⟨rfl,rfl,fun y hy=>hall y (by simp [hy])⟩
 ·rintro ⟨r1,r2⟩ s' ⟨hr,rfl,_⟩
  simp only at hr
  subst hr
  exact wpAny_pure h
theorem WC {kx:List Int} {x:Addr} {ys:List Value} {Q:Bool->Shared->Prop} (hx:xK prog w s.heap kx x) (hy:∀ y ∈ ys,∃ k b,y=Value.ref b /\ xK prog w s.heap k b) (h:Q false s):wpAny (model prog w) A (searchCouldBeSeen (.ref x) ys) Q E s:=by
 unfold searchCouldBeSeen
 refine wpAny_bind ?_
 refine wpAny_forIn_list _ (fun rest r s'=>r.1=none /\ s' = s /\ ∀ y ∈ rest,∃ k b,y=Value.ref b /\ xK prog w s.heap k b) _ ?_ ?_ _ _ ⟨rfl,rfl,hy⟩
 ·rintro y rest r s' ⟨hr,rfl,hall⟩
  obtain ⟨k,b,rfl,hb⟩:=hall y (by simp)
  have next:∀ z ∈ rest,∃ k b,z=Value.ref b /\ xK prog w s'.heap k b:=fun z hz=>hall z (by simp [hz])
  dsimp only
  split
  ·exact wpAny_pure ⟨rfl,rfl,next⟩
  ·refine wpAny_bind (qu hx ?_)
   simp only [Bool.not_true,Bool.false_eq_true,if_false]
   refine wpAny_bind (qu hb ?_)
   simp only [Bool.not_true,Bool.false_eq_true,if_false]
   refine wpAny_bind (qv hx ?_)
   simp only [Bool.false_eq_true,if_false]
   refine wpAny_bind (qv hb ?_)
   simp only [Bool.false_eq_true,if_false]
   exact wpAny_pure ⟨rfl,rfl,next⟩
 ·rintro ⟨r1,r2⟩ s' ⟨hr,rfl,_⟩
  simp only at hr
  subst hr
  exact wpAny_pure h
end
def SY (t:SetTable) (j:Nat):Prop:=j ∈ t.place.toList
def Z3 (t:SetTable) (h:Int) (j:Nat):Prop:=∃ n,(SW t.advance n (t.probeStart h)).j=j /\ ∀ n',n' < n->SY t (SW t.advance n' (t.probeStart h)).j
theorem Xh {t:SetTable} (hr:vH t.place) (hd:t.dummies = #[]) {j:Nat} (h:SY t j):∃ i,t.slot j = .live i /\ t.place[i]? = some j:=by
 have hf:t.place[SetTable.below t.place j]? = some j:=by
  obtain ⟨b1,b2,b3⟩:=ZW hr j
  obtain ⟨i,hi⟩:=List.mem_iff_getElem?.mp h
  rw [Array.getElem?_toList] at hi
  obtain ⟨hi1,hi2⟩:=Array.getElem?_eq_some_iff.mp hi
  have h1:¬ i < SetTable.below t.place j:=fun z=>by have:=b2 i hi1 z; omega
  have h0:SetTable.below t.place j < t.place.size:=by omega
  have h2:=b3 _ h0 (Nat.le_refl _)
  have h3:¬ SetTable.below t.place j < i:=fun z=>by have:=hr _ _ hi1 z; omega
  have e:SetTable.below t.place j=i:=by omega
  rw [e]; exact hi
 refine ⟨_,?_,hf⟩
 unfold SetTable.slot
 dsimp only
 rw [if_pos (by rw [hf]; simp)]
theorem Xi {t:SetTable} {j i:Nat} (h:t.slot j = .live i):SY t j:=by
 have:=vm h
 unfold SY
 rw [List.mem_iff_getElem?]
 exact ⟨i,by rw [Array.getElem?_toList]; exact this⟩
theorem Z4 {t:SetTable} (hr:vH t.place) (hd:t.dummies = #[]) {j:Nat} (h:t.slot j = .empty):¬ SY t j:=fun z=>by
 obtain ⟨i,e,_⟩:=Xh hr hd z
 rw [h] at e; cases e
theorem XO {t:SetTable} {ha:Nat->Int} {h:Int} (hd:t.dummies = #[]):∀ (fuel:Nat) (p:SetTable.Probe),p.dummy=none->XM t fuel p →
  (∃ n,n < fuel /\ SetTable.probe.go t ha h fuel p=some (.empty (SW t.advance n p).j none) /\ t.slot (SW t.advance n p).j = .empty /\ ∀ n',n' < n -> ∃ i,t.slot (SW t.advance n' p).j = .live i /\ ¬ (ha i == h)=true) ∨
  ∃ (n i N:Nat),N+n < fuel /\ SetTable.probe.go t ha h fuel p=some (.candidate (SW t.advance n p).j i (SW t.advance (n+1) p)) /\ t.slot (SW t.advance n p).j = .live i /\ (SW t.advance (n+1) p).dummy=none /\ XM t N (SW t.advance (n+1) p) /\ ∀ n',n' < n -> ∃ i,t.slot (SW t.advance n' p).j = .live i /\ ¬ (ha i == h)=true
 | 0,p,_,⟨n,hn,_⟩=>absurd hn (Nat.not_lt_zero _)
 | fuel+1,p,hp,⟨n,hn,hs⟩=>by
  unfold SetTable.probe.go
  cases e:t.slot p.j with
  | empty=>exact .inl ⟨0,by omega,by rw [hp]; rfl,e,fun n' h=>absurd h (Nat.not_lt_zero _)⟩
  | dummy=>exact absurd e (qt hd)
  | live i =>
   have nx:XM t fuel (t.advance p):=by
    cases n with
    | zero=>rw [show SW t.advance 0 p=p from rfl,e] at hs; cases hs
    | succ n=>exact ⟨n,by omega,hs⟩
   dsimp only
   split
   ·exact .inr ⟨0,i,fuel,by omega,rfl,e,by show (t.advance p).dummy=none; rw [xW]; exact hp,nx,fun n' h=>absurd h (Nat.not_lt_zero _)⟩
   ·rename_i ne
    have step:∀ {m:Nat},(∀ n',n' < m -> ∃ i,t.slot (SW t.advance n' (t.advance p)).j = .live i /\ ¬ (ha i == h)=true) -> ∀ n',n' < m+1 -> ∃ i,t.slot (SW t.advance n' p).j = .live i /\ ¬ (ha i == h)=true:=fun hm n' hn'=>by
     cases n' with
     | zero=>exact ⟨i,e,ne⟩
     | succ n'=>exact hm n' (by omega)
    rcases XO hd fuel (t.advance p) (by rw [xW]; exact hp) nx with ⟨m,m1,m2,m3,m4⟩ | ⟨m,i',N,m1,m2,m3,m4,m5,m6⟩
    ·exact .inl ⟨m+1,by omega,m2,m3,step m4⟩
    ·exact .inr ⟨m+1,i',N,by omega,m2,m3,m4,m5,step m6⟩
theorem Z5 {t:SetTable} {ha:Nat->Int} {h:Int}:∀ (f g:Nat) (p:SetTable.Probe) (r:SetTable.Met),f<=g->SetTable.probe.go t ha h f p=some r->SetTable.probe.go t ha h g p=some r:=by
 intro f
 induction f with
 | zero=>intro g p r _ z; unfold SetTable.probe.go at z; cases z
 | succ f ihf =>
  intro g p r l z
  obtain ⟨g,rfl⟩:∃ g',g=g' + 1:=⟨g - 1,by omega⟩
  unfold SetTable.probe.go at z ⊢
  split
  ·rename_i e; rw [e] at z; exact z
  ·rename_i e; rw [e] at z; exact ihf g _ r (by omega) z
  ·rename_i i e
   rw [e] at z
   dsimp only at z
   split
   ·rename_i c; rw [if_pos c] at z; exact z
   ·rename_i c; rw [if_neg c] at z; exact ihf g _ r (by omega) z
theorem Xj {α:Type} {f:α -> α} {n:Nat} {x:α}:SW f (n+1) x=f (SW f n x):=by rw [z6]; rfl
section
variable {prog:Program} {w:World} {A:Around} {E:Tn} {s:Shared}
def SZ (es:Array (Int × Value)) (i:Nat):Int:=(es[i]?.map (·.1)).getD 0
end
def jo (t:SetTable) (es:Array (Int × Value)):Prop:=∀ j e,(j,e) ∈ t.place.toList.zip es.toList->Z3 t e.1 j
theorem VL {α β:Type} {as:List α} {bs:List β} {i:Nat} {a:α} {b:β} (h1:as[i]? = some a) (h2:bs[i]? = some b):(a,b) ∈ as.zip bs:=by
 rw [List.mem_iff_getElem?]
 exact ⟨i,List.getElem?_zip_eq_some.mpr ⟨h1,h2⟩⟩
theorem WD {t:SetTable} {p j j0:Nat}:SY { t with place:=SetTable.insertAt t.place p j0 } j ↔ j=j0 \/ SY t j:=by
 unfold SY
 show j ∈ (SetTable.insertAt t.place p j0).toList ↔ _
 rw [SetTable.toList_insertAt,List.mem_append,List.mem_cons]
 conv=>rhs; rw [← List.take_append_drop p t.place.toList,List.mem_append]
 constructor
 ·rintro (z | z | z)
  ·exact .inr (.inl z)
  ·exact .inl z
  ·exact .inr (.inr z)
 ·rintro (z | z | z)
  ·exact .inr (.inl z)
  ·exact .inl z
  ·exact .inr (.inr z)
theorem uu {t:SetTable} {p j j0:Nat} {h:Int} (x:Z3 t h j):Z3 { t with place:=SetTable.insertAt t.place p j0 } h j:=by
 obtain ⟨n,h1,h2⟩:=x
 exact ⟨n,h1,fun n' hn'=>WD.mpr (.inr (h2 n' hn'))⟩
theorem Xk {t:SetTable} {es:Array (Int × Value)} {p j0:Nat} {e0:Int × Value} (hz:t.place.size=es.size) (hp:p<=es.size) (x:jo t es) (h0:Z3 t e0.1 j0):jo { t with place:=SetTable.insertAt t.place p j0 } (SetTable.insertAt es p e0):=by
 intro j e hm
 have hm':(j,e) ∈ (SetTable.insertAt t.place p j0).toList.zip (SetTable.insertAt es p e0).toList:=hm
 rw [SetTable.toList_insertAt,SetTable.toList_insertAt,List.zip_append (by rw [List.length_take,List.length_take,Array.length_toList,Array.length_toList,hz]),List.zip_cons_cons] at hm'
 have back:t.place.toList.zip es.toList=(t.place.toList.take p).zip (es.toList.take p) ++ (t.place.toList.drop p).zip (es.toList.drop p):=by
  rw [← List.zip_append (by rw [List.length_take,List.length_take,Array.length_toList,Array.length_toList,hz]),List.take_append_drop,List.take_append_drop]
 rcases List.mem_append.mp hm' with z | z
 ·exact uu (x j e (by rw [back]; exact List.mem_append_left _ z))
 ·rcases List.mem_cons.mp z with z | z
  ·injection z with z1 z2
   subst z1 z2
   exact uu h0
  ·exact uu (x j e (by rw [back]; exact List.mem_append_right _ z))
def TM (m:Nat):SetTable:={ mask:=m,place:=#[],dummies:=#[],finger:=0,led:=false,moves:=0,plain:=false }
def XQ (o:Array (Option Nat)) (j:Nat):Prop:=∃ k,o[j]? = some (some k)
def Uv (m:Nat) (o:Array (Option Nat)) (h:Int) (j:Nat):Prop:=∃ n,(SW (TM m).advance n ((TM m).probeStart h)).j=j /\ ∀ n',n' < n->XQ o (SW (TM m).advance n' ((TM m).probeStart h)).j
theorem y8 {t:SetTable}:∀ (n:Nat) (p:SetTable.Probe),n<=p.more->SW t.advance n p = { p with j:=p.j+n,more:=p.more - n }
 | 0,p,_=>rfl
 | n+1,p,h=>by
  have e:t.advance p = { p with j:=p.j+1,more:=p.more - 1 }:=by
   unfold SetTable.advance
   rw [if_pos (by omega)]
  show SW t.advance n (t.advance p)=_
  rw [y8 n (t.advance p) (by rw [e]; show n<=p.more - 1; omega),e]
  show ({ p with j:=p.j+1+n,more:=p.more - 1 - n }:SetTable.Probe)=_
  rw [show p.j+1+n=p.j+(n+1) by omega,show p.more - 1 - n=p.more - (n+1) by omega]
theorem qw {o:Array (Option Nat)} {m j:Nat} (hz:o.size=m+1) (hj:j<=m) (h:(o.getD j (some 0)).isNone=false):XQ o j:=by
 unfold XQ
 have hj':j < o.size:=by omega
 unfold Array.getD at h
 rw [dif_pos hj'] at h
 cases e:o[j] with
 | none=>simp [e] at h
 | some k=>exact ⟨k,by rw [Array.getElem?_eq_getElem hj',e]⟩
theorem VM {m i:Nat} (h:i<=m):SetTable.runEnd m i<=m:=by unfold SetTable.runEnd; split <;> omega
theorem VN {m i:Nat}:i<=SetTable.runEnd m i:=by unfold SetTable.runEnd; split <;> omega
theorem tF {m:Nat} {o:Array (Option Nat)} (hz:o.size=m+1):∀ (fuel i pt j:Nat) (p:SetTable.Probe),p.i=i->p.perturb=pt->p.j=i->p.more=SetTable.runEnd m i - i->i<=m->SetTable.layClean.free m o fuel i pt=some j →
  ∃ n,(SW (TM m).advance n p).j=j /\ ∀ n',n' < n->XQ o (SW (TM m).advance n' p).j
 | 0,i,pt,j,p,_,_,_,_,_,h=>by unfold SetTable.layClean.free at h; cases h
 | fuel+1,i,pt,j,p,e1,e2,e3,e4,hi,h=>by
  unfold SetTable.layClean.free at h
  have le:=VN (m:=m) (i:=i)
  have el:=VM hi
  split at h
  ·rename_i k hk
   cases h
   obtain ⟨hk1,hk2⟩:=List.find?_range_eq_some.mp hk
   have hkl:k<=p.more:=by have:=List.mem_range.mp hk2.1; omega
   refine ⟨k,?_,fun n' hn'=>?_⟩
   ·rw [y8 k p hkl]; show p.j+k=_; omega
   ·rw [y8 n' p (by omega)]
    show XQ o (p.j+n')
    rw [e3]
    refine qw hz (by omega) ?_
    have:=hk2.2 n' hn'
    simpa using this
  ·rename_i hk
   obtain ⟨q,q1,q2,q3,q4,q5⟩:=wm (t:=TM m) p.more p rfl
   have qi:q.i=(SetTable.leap m i pt).1:=by
    have:=congrArg Prod.fst q2
    rw [e1,e2] at this; exact this
   have qp:q.perturb=(SetTable.leap m i pt).2:=by
    have:=congrArg Prod.snd q2
    rw [e1,e2] at this; exact this
   have li:(SetTable.leap m i pt).1<=m:=by unfold SetTable.leap; exact Nat.le_of_lt_succ (Nat.mod_lt _ (Nat.succ_pos m))
   have qm:q.more=SetTable.runEnd m (SetTable.leap m i pt).1 - (SetTable.leap m i pt).1:=by
    have er:=y8 (t:=TM m) p.more p (Nat.le_refl _)
    rw [Xj,er] at q1
    have:q.more=((TM m).advance { p with j:=p.j+p.more,more:=p.more - p.more }).more:=by rw [q1]
    rw [this]
    unfold SetTable.advance
    rw [if_neg (by show ¬ p.more - p.more > 0; omega)]
    show SetTable.runEnd m (SetTable.leap m p.i p.perturb).1 - (SetTable.leap m p.i p.perturb).1=_
    rw [e1,e2]
   obtain ⟨n,n1,n2⟩:=tF hz fuel _ _ j q qi qp (by rw [q3,qi]) qm li h
   refine ⟨p.more+1+n,by rw [z6,q1]; exact n1,fun n' hn'=>?_⟩
   by_cases c:n' <= p.more
   ·rw [y8 n' p c]
    show XQ o (p.j+n')
    rw [e3]
    refine qw hz (by omega) ?_
    have:=List.find?_eq_none.mp hk n' (List.mem_range.mpr (by omega))
    exact Bool.eq_false_iff.mpr this
   ·have:=n2 (n' - (p.more+1)) (by omega)
    rw [← q1,← z6,show p.more+1+(n' - (p.more+1))=n' by omega] at this
    exact this
def VO (m:Nat) (o:Array (Option Nat)) (Hf:Nat->Int):Prop:=∀ j k,o[j]? = some (some k)->Uv m o (Hf k) j
theorem Z6 {o:Array (Option Nat)} {j j0 k:Nat} (h0:o[j0]? = some none) (h:XQ o j):XQ (o.setIfInBounds j0 (some k)) j:=by
 obtain ⟨k',h⟩:=h
 have ne:j0 ≠ j:=fun z=>by rw [z,h] at h0; cases h0
 exact ⟨k',by rw [Array.getElem?_setIfInBounds_ne ne]; exact h⟩
theorem Z7 {m:Nat} (hm:wA m) {owner:Array (Option Nat)} {k:Nat} {Hf:Nat->Int} (hz:owner.size=m+1) (ow:(owner.toList.filterMap id).Perm (List.range k)) (pv:VO m owner Hf) (hk:k<=m) {h:Int} (eh:Hf k=h) :
  ∃ o',V0 m (some (owner,k)) h=some (o',k+1) /\ o'.size=m+1 /\ (o'.toList.filterMap id).Perm (List.range (k+1)) /\ VO m o' Hf:=by
 obtain ⟨t,t1,t2⟩:=sY (l:=owner.toList) (by have:=ow.length_eq; rw [List.length_range] at this; rw [this,Array.length_toList,hz]; omega)
 rw [Array.length_toList,hz] at t1
 obtain ⟨L,l1,l2⟩:=tj hm (i:=SetTable.bits h % (m+1)) (WA h) (show t<=m by omega)
 have t3:(owner.getD t (some 0)).isNone=true:=by
  rw [Array.getElem?_toList] at t2
  have ht:t < owner.size:=by omega
  have e:owner[t]=none:=by
   rw [Array.getElem?_eq_getElem ht] at t2
   exact Option.some.inj t2
  unfold Array.getD
  rw [dif_pos ht]
  simp [e]
 obtain ⟨j,j1,j2⟩:=tm (m:=m) (owner:=owner) L (SetTable.turns m) (SetTable.bits h % (m+1)) (SetTable.bits h) (by show L < m+15; omega) (by rw [l2]; exact t3)
 have hj:=ZZ j2
 refine ⟨owner.setIfInBounds j (some k),?_,?_,?_,fun j' k' hj'=>?_⟩
 ·unfold V0
  show (SetTable.layClean.free m owner (SetTable.turns m) (SetTable.bits h % (m+1)) (SetTable.bits h)).bind _=_
  rw [j1]; rfl
 ·rw [Array.size_setIfInBounds]; exact hz
 ·rw [Array.toList_setIfInBounds]
  have hj':=hj
  rw [← Array.getElem?_toList] at hj'
  refine (Xd hj').trans ?_
  rw [List.range_succ]
  exact ((List.Perm.cons k ow).trans (by simpa using (List.perm_append_singleton k (List.range k)).symm))
 ·by_cases c:j=j'
  ·subst c
   have hjs:j < owner.size:=(Array.getElem?_eq_some_iff.mp hj).1
   rw [Array.getElem?_setIfInBounds_self_of_lt hjs] at hj'
   injection hj' with hj'
   injection hj' with hj'
   subst hj'
   rw [eh]
   obtain ⟨n,n1,n2⟩:=tF hz (SetTable.turns m) (SetTable.bits h % (m+1)) (SetTable.bits h) j ((TM m).probeStart h) rfl rfl rfl rfl (Nat.le_of_lt_succ (Nat.mod_lt _ (Nat.succ_pos m))) j1
   exact ⟨n,n1,fun n' hn'=>Z6 hj (n2 n' hn')⟩
  ·rw [Array.getElem?_setIfInBounds_ne c] at hj'
   obtain ⟨n,n1,n2⟩:=pv j' k' hj'
   exact ⟨n,n1,fun n' hn'=>Z6 hj (n2 n' hn')⟩
theorem tG {m:Nat} (hm:wA m) {Hf:Nat->Int}:∀ (hs:List Int) (owner:Array (Option Nat)) (k:Nat),owner.size=m+1->(owner.toList.filterMap id).Perm (List.range k)->VO m owner Hf->k+hs.length<=m->(∀ (i:Nat) (h:Int),hs[i]? = some h->Hf (k+i)=h) →
  ∃ o',hs.foldl (V0 m) (some (owner,k))=some (o',k+hs.length) /\ o'.size=m+1 /\ (o'.toList.filterMap id).Perm (List.range (k+hs.length)) /\ VO m o' Hf
 | [],owner,k,hz,ow,pv,_,_=>⟨owner,rfl,hz,ow,pv⟩
 | h :: hs,owner,k,hz,ow,pv,hk,hf=>by
  rw [List.length_cons] at hk
  obtain ⟨o1,a1,a2,a3,a4⟩:=Z7 hm hz ow pv (by omega) (hf 0 h rfl)
  obtain ⟨o2,b1,b2,b3,b4⟩:=tG hm hs o1 (k+1) a2 a3 a4 (by omega) (fun i h' hi=>by rw [show k+1+i=k+(i+1) by omega]; exact hf (i+1) h' (by rw [List.getElem?_cons_succ]; exact hi))
  refine ⟨o2,?_,b2,?_,b4⟩
  ·rw [List.foldl_cons,a1,b1,List.length_cons]; congr 2; omega
  ·rw [List.length_cons,show k+(hs.length+1)=k+1+hs.length by omega]; exact b3
theorem jp {m:Nat} (hm:wA m) {hashes:Array Int} (hk:hashes.size<=m):∃ o',SetTable.layClean m hashes=some o' /\ o'.size=m+1 /\ (o'.toList.filterMap id).Perm (List.range hashes.size) /\ VO m o' fun k=>hashes.getD k 0:=by
 have e0:((Array.replicate (m+1) (none:Option Nat)).toList.filterMap id)=[]:=by
  rw [Array.toList_replicate]
  generalize m+1=n
  induction n with
  | zero=>rfl
  | succ n ih=>rw [List.replicate_succ]; exact ih
 obtain ⟨o',a1,a2,a3,a4⟩:=tG hm (Hf:=fun k=>hashes.getD k 0) hashes.toList (Array.replicate (m+1) none) 0 (by rw [Array.size_replicate]) (by rw [e0]; exact List.Perm.refl _) (fun j k z=>by
  rw [Array.getElem?_replicate] at z
  split at z <;> cases z) (by rw [Array.length_toList]; omega) (fun i h hi=>by
  rw [Array.getElem?_toList] at hi
  obtain ⟨h1,h2⟩:=Array.getElem?_eq_some_iff.mp hi
  rw [Nat.zero_add]
  unfold Array.getD
  rw [dif_pos h1]
  exact h2)
 refine ⟨o',?_,a2,by simpa using a3,a4⟩
 unfold SetTable.layClean
 rw [← Array.foldl_toList]
 show Option.map _ (hashes.toList.foldl (V0 m) (some (Array.replicate (m+1) none,0)))=_
 rw [a1]; rfl
theorem XR {α β:Type}:∀ l:List (α × β),(l.map (·.1)).zip (l.map (·.2))=l
 | []=>rfl
 | (a,b) :: l=>by rw [List.map_cons,List.map_cons,List.zip_cons_cons,XR l]
def xY (m:Nat) (o:Array (Option Nat)):List (Nat × Nat):=(List.range (m+1)).filterMap fun j=>(o.getD j none).map (j,·)
theorem qx {m:Nat} {o:Array (Option Nat)} (hz:o.size=m+1) {j k:Nat}:(j,k) ∈ xY m o ↔ o[j]? = some (some k):=by
 unfold xY
 rw [List.mem_filterMap]
 constructor
 ·rintro ⟨i,hi,e⟩
  obtain ⟨k',e1,e2⟩:=Option.map_eq_some_iff.mp e
  injection e2 with e2 e3
  subst e2 e3
  have hi':i < o.size:=by rw [hz]; exact List.mem_range.mp hi
  unfold Array.getD at e1
  rw [dif_pos hi'] at e1
  rw [Array.getElem?_eq_getElem hi']
  exact congrArg some e1
 ·intro e
  obtain ⟨h1,h2⟩:=Array.getElem?_eq_some_iff.mp e
  refine ⟨j,List.mem_range.mpr (by omega),?_⟩
  unfold Array.getD
  rw [dif_pos h1]
  show Option.map _ (o[j])=_
  rw [h2]; rfl
theorem Xl {m:Nat} {o:Array (Option Nat)}:((xY m o).map (·.1)).Pairwise (· < ·):=by
 have e:(xY m o).map (·.1)=(List.range (m+1)).filter fun j=>(o.getD j none).isSome:=by
  unfold xY
  rw [List.map_filterMap,← List.filterMap_eq_filter]
  congr 1
  funext j
  show Option.map (fun x=>x.1) (Option.map (fun x=>(j,x)) (o.getD j none))=_
  cases e:o.getD j none with
  | none=>simp [Option.guard,e]
  | some v=>simp [Option.guard,e]
 rw [e]
 exact List.pairwise_lt_range.sublist List.filter_sublist
theorem tH {α β:Type} {f:α -> Option β} {g:α -> β}:∀ {l:List α},(∀ x ∈ l,f x=some (g x))->l.filterMap f=l.map g
 | [],_=>rfl
 | a :: l,h=>by
  rw [List.filterMap_cons,h a (by simp),List.map_cons]
  dsimp only
  rw [tH fun x hx=>h x (by simp [hx])]
theorem Xm {t:SetTable} {es:Array (Int × Value)} {wanted:Nat} (hm:wA (SetTable.sizeAbove wanted - 1)) (hk:es.size<=SetTable.sizeAbove wanted - 1) :
  ∃ t' order,t.relaid (es.map (·.1)) wanted=some (t',order) /\ t'.mask=SetTable.sizeAbove wanted - 1 /\ t'.place.size=es.size /\ t'.dummies = #[] /\ order.toList.Perm (List.range es.size) /\ vH t'.place /\ jo t' (order.filterMap (es[·]?)):=by
 obtain ⟨o,a1,a2,a3,a4⟩:=jp hm (hashes:=es.map (·.1)) (by rw [Array.size_map]; exact hk)
 rw [Array.size_map] at a3
 unfold SetTable.relaid SetTable.laid
 generalize SetTable.sizeAbove wanted - 1=m at *
 have e:=Xe a2
 have hs2:((xY m o).map (·.2)).Perm (List.range es.size):=by rw [← e] at a3; exact a3
 have hl:=hs2.length_eq
 rw [List.length_map,List.length_range] at hl
 refine ⟨{ mask:=m,place:=((xY m o).map (·.1)).toArray,dummies:=#[],finger:=t.finger,led:=t.led,moves:=t.movedTo m,plain:=t.plain },((xY m o).map (·.2)).toArray,by rw [a1]; rfl,rfl,?_,rfl,hs2,?_,?_⟩
 ·show ((xY m o).map (·.1)).toArray.size=_
  rw [List.size_toArray,List.length_map]; exact hl
 ·rw [vj]
  exact Xl
 ·intro j x hx
  have hx':(j,x) ∈ ((xY m o).map (·.1)).zip ((((xY m o).map (·.2)).toArray.filterMap (es[·]?)).toList):=hx
  have ef:(((xY m o).map (·.2)).toArray.filterMap (es[·]?)).toList=((xY m o).map (·.2)).map fun k=>es.getD k (0,.none):=by
   rw [Array.toList_filterMap]
   show ((xY m o).map (·.2)).filterMap (fun k=>es[k]?)=_
   refine tH fun k hk'=>?_
   have hk2:=List.mem_range.mp (hs2.mem_iff.mp hk')
   show es[k]? = some (es.getD k (0,.none))
   unfold Array.getD
   rw [dif_pos hk2,Array.getElem?_eq_getElem hk2]; rfl
  rw [ef,List.zip_map_right,XR] at hx'
  obtain ⟨⟨j',k⟩,hjk,e2⟩:=List.mem_map.mp hx'
  injection e2 with e3 e4
  have e3':j' = j:=e3
  have e4':es.getD k (0,.none)=x:=e4
  subst e3'
  have ok:=(qx a2).mp hjk
  have hk2:k < es.size:=List.mem_range.mp (hs2.mem_iff.mp (List.mem_map.mpr ⟨_,hjk,rfl⟩))
  obtain ⟨n,n1,n2⟩:=a4 _ _ ok
  have eh:(es.map (·.1)).getD k 0=x.1:=by
   rw [← e4']
   unfold Array.getD
   rw [dif_pos (by rw [Array.size_map]; exact hk2),dif_pos hk2]
   simp
  dsimp only at n1 n2
  rw [eh] at n1 n2
  refine ⟨n,n1,fun n' hn'=>?_⟩
  obtain ⟨k',hk'⟩:=n2 n' hn'
  exact List.mem_map.mpr ⟨_,(qx a2).mpr hk',rfl⟩
section
variable {prog:Program} {w:World} {A:Around} {E:Tn} {s:Shared}
set_option maxHeartbeats 800000 in
/-- the search: n steps are done,over places whose things are others -/
theorem search_anyR {a:Addr} {es:Array (Int × Value)} {ep:Nat} {t:SetTable} {x:Addr} {kx:List Int} {h:Int} (ho:s.heap.get? a=some (vn es ep t)) (fit:t.fits es.size=true) (hm:wA t.mask) (hd:t.dummies = #[]) (hu:A.units+1 < cLine)
  (hx:xK prog w s.heap kx x) {key:Value->List Int} (hy:∀ e ∈ es.toList,∃ b,e.2=Value.ref b /\ xK prog w s.heap (key e.2) b) {Q:SetFound->Shared->Prop}
  (there:(∃ e ∈ es.toList,key e.2=kx)->Q (.there none) s)
  (free:∀ n,t.slot (SW t.advance n (t.probeStart h)).j = .empty->(∀ n',n' < n -> ∃ i e,t.slot (SW t.advance n' (t.probeStart h)).j = .live i /\ es[i]? = some e /\ ¬ (e.1=h /\ key e.2=kx))->Q (.free (SW t.advance n (t.probeStart h)).j false) s) :
  ∀ (N n fuel:Nat) (o:Option SetTable.Probe),o.getD (t.probeStart h)=SW t.advance n (t.probeStart h)->(SW t.advance n (t.probeStart h)).dummy=none->XM t N (SW t.advance n (t.probeStart h))->N<=10 * SetTable.turns t.mask->N < fuel →
   (∀ n',n' < n -> ∃ i e,t.slot (SW t.advance n' (t.probeStart h)).j = .live i /\ es[i]? = some e /\ ¬ (e.1=h /\ key e.2=kx))->wpAny (model prog w) A (setSearchFrom a (.ref x) h true fuel o) Q E s:=by
 intro N
 induction N using Nat.strongRecOn with
 | _ N ih =>
  intro n fuel o e0 hp em hN hf past
  obtain ⟨fuel,rfl⟩:∃ f,fuel=f+1:=⟨fuel - 1,by omega⟩
  have at_live:∀ {j i:Nat},t.slot j = .live i -> ∃ e,es[i]? = some e:=fun {j i} sl=>by
   have pl:=vm sl
   have h1:i < t.place.size:=(Array.getElem?_eq_some_iff.mp pl).1
   unfold SetTable.fits at fit
   simp only [Bool.and_eq_true,beq_iff_eq] at fit
   exact ⟨_,Array.getElem?_eq_getElem (by omega)⟩
  have more:∀ {m:Nat},(∀ n',n' < m -> ∃ i,t.slot (SW t.advance n' (SW t.advance n (t.probeStart h))).j = .live i /\ ¬ (SZ es i == h)=true) -> ∀ n',n' < n+m -> ∃ i e,t.slot (SW t.advance n' (t.probeStart h)).j = .live i /\ es[i]? = some e /\ ¬ (e.1=h /\ key e.2=kx):=fun {m} hm' n' hn'=>by
   by_cases c:n' < n
   ·exact past n' c
   ·obtain ⟨i,s1,s2⟩:=hm' (n' - n) (by omega)
    rw [← z6,show n+(n' - n)=n' by omega] at s1
    obtain ⟨e,he⟩:=at_live s1
    refine ⟨i,e,s1,he,fun z=>s2 ?_⟩
    unfold SZ
    rw [he]
    show (e.1 == h)=true
    rw [z.1]; simp
  unfold setSearchFrom
  refine wpAny_bind (wpAny_setState_of ho rfl fit ?_)
  dsimp only
  have gw:t.gaveWay=false:=by
   unfold SetTable.gaveWay
   rcases hm with z | z | z <;> rw [z] <;> rfl
  rw [gw]
  simp only [Bool.false_eq_true,if_false]
  rw [e0]
  unfold SetTable.probe
  rcases XO (ha:=SZ es) (h:=h) hd N _ hp em with ⟨m,m1,m2,m3,m4⟩ | ⟨m,i,N',m1,m2,m3,m4,m5,m6⟩
  ·have e2:∀ ha,ha=SZ es->SetTable.probe.go t ha h (10 * SetTable.turns t.mask) (SW t.advance n (t.probeStart h))=some (.empty (SW t.advance m (SW t.advance n (t.probeStart h))).j none):=fun ha z=>by rw [z]; exact Z5 _ _ _ _ hN m2
   rw [e2]
   rotate_left
   ·rfl
   dsimp only
   rw [← z6] at m3 ⊢
   exact wpAny_pure (free (n+m) m3 (more m4))
  ·have e2:∀ ha,ha=SZ es->SetTable.probe.go t ha h (10 * SetTable.turns t.mask) (SW t.advance n (t.probeStart h))=some (.candidate (SW t.advance m (SW t.advance n (t.probeStart h))).j i (SW t.advance (m+1) (SW t.advance n (t.probeStart h)))):=fun ha z=>by rw [z]; exact Z5 _ _ _ _ hN m2
   rw [e2]
   rotate_left
   ·rfl
   dsimp only
   obtain ⟨e,ei'⟩:=at_live m3
   have em_:e ∈ es.toList:=by
    have:=Array.mem_of_getElem? ei'
    exact Array.mem_toList_iff.mpr this
   obtain ⟨b,e2,hb⟩:=hy e em_
   have ei:es[i]? = some (e.1,Value.ref b):=by rw [ei',← e2]
   have rest:wpAny (model prog w) A (do
     let some (_,y):=es[i]? | unsupported "internal:set-entry"
     let equal ← holding [y] (eqBool y (.ref x))
     let (es',_,t') ← setState a
     if true && equal then return .there none
     let some smq:=t'.sameMemory t.moves t.mask | unsupported "set.changed-during-lookup:is-the-new-block-at-the-old-address"
     let still ← match (if smq then t'.slot (SW t.advance m (SW t.advance n (t.probeStart h))).j else .empty) with
      | .live i'=>match es'[i']? with
       | some (_,y')=>do pure (if ← isSame y' y then some i' else none)
       | none=>pure none
      | _=>pure none
     match still with
     | none=>rule "set.search.anew"; setSearchFrom a (.ref x) h true fuel none
     | some i'=>if equal then return .there (some i') else setSearchFrom a (.ref x) h true fuel (some (SW t.advance (m+1) (SW t.advance n (t.probeStart h))))) Q E s:=by
    rw [ei]
    dsimp only
    refine wpAny_bind (wpAny_holding (Xg hu hb hx ?_))
    by_cases ek:key e.2=kx
    ·rw [decide_eq_true ek]
     refine wpAny_bind (wpAny_setState_of ho rfl fit ?_)
     dsimp only
     simp only [Bool.and_self,if_true]
     exact wpAny_pure (there ⟨e,em_,ek⟩)
    ·rw [decide_eq_false ek]
     refine wpAny_bind (wpAny_setState_of ho rfl fit ?_)
     dsimp only
     simp only [Bool.and_false,Bool.false_eq_true,if_false]
     have sm:t.sameMemory t.moves t.mask=some true:=by unfold SetTable.sameMemory; rw [if_pos (by simp)]
     rw [sm]
     dsimp only
     simp only [if_true]
     rw [m3]
     dsimp only
     rw [ei]
     dsimp only
     refine wpAny_bind (wpAny_isSame_ref_self (wpAny_bind (wpAny_pure ?_)))
     simp only [if_true]
     rw [← z6] at m4 m5 ⊢
     refine ih N' (by omega) (n+(m+1)) fuel _ rfl m4 m5 (by omega) (by omega) fun n' hn'=>?_
     by_cases c:n' < n+m
     ·exact more m6 n' c
     ·have en:n' = n+m:=by omega
      rw [← z6] at m3
      exact ⟨i,e,by rw [en]; exact m3,ei',fun z=>ek z.2⟩
   by_cases hl:t.led=true
   ·rw [hl]
    simp only [Bool.not_true,Bool.false_eq_true,if_false]
    exact rest
   ·rw [Bool.not_eq_true] at hl
    rw [hl]
    simp only [Bool.not_false,if_true]
    refine wpAny_bind (m:=searchCouldBeSeen _ _) (WC hx (fun y hy'=>?_) ?_)
    ·obtain ⟨e',he,rfl⟩:=List.mem_map.mp hy'
     obtain ⟨b',h1,h2⟩:=hy e' (by
      have:=Array.mem_toList_iff.mp he
      exact Array.mem_toList_iff.mpr (Array.mem_filter.mp this).1)
     exact ⟨_,b',h1,h2⟩
    ·simp only [Bool.false_eq_true,if_false]
     exact rest
end
def yI (ks:List (List Int)) (k:List Int):List (List Int):=if k ∈ ks then ks else ks ++ [k]
def xt (ks:List (List Int)):List (List Int):=ks.foldl yI []
def Xn (kA:Addr->List Int):Value->List Int
 | .ref b=>kA b
 | _=>[]
structure SetQSR (prog:Program) (w:World) (h:Heap) (a:Addr) (kA:Addr->List Int) (bs:Addr->Prop) (ks:List (List Int)) (es:Array (Int × Value)) (ep:Nat) (t:SetTable):Prop where
 at_:h.get? a=some (vn es ep t)
 el:∀ e ∈ es.toList,∃ b,bs b /\ e.2=Value.ref b /\ e.1=(tupleKeyHash (intKind prog w) (kA b))
 pm:(es.toList.map fun e=>Xn kA e.2).Perm ks
 pz:t.place.size=es.size
 dm:t.dummies = #[]
 room:(t.mask=7 /\ es.size<=4) \/ (t.mask=31 /\ es.size<=18) \/ (t.mask=127 /\ es.size<=60)
 rise:vH t.place
 path:jo t es
def yz (prog:Program) (w:World) (h:Heap) (a:Addr) (kA:Addr->List Int) (bs:Addr->Prop) (ks:List (List Int)):Prop:=∃ es ep t,SetQSR prog w h a kA bs ks es ep t
section
variable {prog:Program} {w:World} {A:Around} {E:Tn} {s:Shared} {a:Addr} {kA:Addr->List Int} {bs:Addr->Prop} {ks:List (List Int)}
theorem SetQSR.mk_ {h:Heap} {es ep t} (S:SetQSR prog w h a kA bs ks es ep t):wA t.mask:=by
 rcases S.room with ⟨z,_⟩ | ⟨z,_⟩ | ⟨z,_⟩
 ·exact .inl z
 ·exact .inr (.inl z)
 ·exact .inr (.inr z)
theorem SetQSR.fit {h:Heap} {es ep t} (S:SetQSR prog w h a kA bs ks es ep t):t.fits es.size=true:=by
 refine sZ S.dm S.pz ?_
 rcases S.room with ⟨z,l⟩ | ⟨z,l⟩ | ⟨z,l⟩ <;> rw [z] <;> omega
theorem SetQSR.len {h:Heap} {es ep t} (S:SetQSR prog w h a kA bs ks es ep t):es.size=ks.length:=by
 have:=S.pm.length_eq
 rw [List.length_map,Array.length_toList] at this
 exact this
theorem yz.keep {h h':Heap} (S:yz prog w h a kA bs ks) (k:∀ o,h.get? a=some o->h'.get? a=some o):yz prog w h' a kA bs ks:=by
 obtain ⟨es,ep,t,S⟩:=S
 exact ⟨es,ep,t,{ S with at_:=k _ S.at_ }⟩
set_option maxHeartbeats 1600000 in
theorem jq {es:Array (Int × Value)} {ep:Nat} {t:SetTable} {wanted:Nat} {Q:Unit->Shared->Prop} (ho:s.heap.get? a=some (vn es ep t)) (fit:t.fits es.size=true) (hz:es.size<=60) (hm:wA (SetTable.sizeAbove wanted - 1)) (hk:es.size<=SetTable.sizeAbove wanted - 1)
  (h:∀ h' es1 t1,Heap.SameBut a s.heap h' -> h'.get? a=some (vn es1 (ep+1) t1)->es1.toList.Perm es.toList->t1.mask=SetTable.sizeAbove wanted - 1->t1.place.size=es.size->t1.dummies = #[]->vH t1.place->jo t1 es1->Q () { s with heap:=h' }) :
  wpAny (model prog w) A (setRelay a wanted) Q E s:=by
 obtain ⟨t',order,r1,r2,r3,r4,r6,r7,r8⟩:=Xm (t:=t) (es:=es) (wanted:=wanted) hm hk
 have p:=Z0 (es:=es) r6
 have z:(order.filterMap (es[·]?)).size=es.size:=by have:=p.length_eq; rw [Array.length_toList,Array.length_toList] at this; exact this
 unfold setRelay
 refine wpAny_bind (wpAny_setState_of ho rfl fit ?_)
 dsimp only
 have w128:SetTable.sizeAbove wanted<=128:=by rcases hm with y | y | y <;> omega
 have zline:=sizeLine_eq
 rw [if_neg (by omega)]
 rw [r1]
 refine wpAny_bind ?_
 show wpAny _ _ (do
  if (order.filterMap (es[·]?)).size != es.size then unsupported "internal:set-table-lost-an-element"
  pure (order.filterMap (es[·]?),t')) _ _ _
 rw [if_neg (by rw [z]; simp)]
 refine wpAny_pure ?_
 dsimp only
 exact tw ho (by rw [z]; omega) fun h' sb hg=>h h' _ _ sb hg p r2 r3 r4 r7 r8
set_option maxHeartbeats 3200000 in
theorem yz.add {b:Addr} {Q:Bool->Shared->Prop} (S:yz prog w s.heap a kA bs ks) (hm:ks.length < 60) (hu:A.units+1 < cLine) (hk:∀ b,bs b->xK prog w s.heap (kA b) b) (hb:bs b)
  (h:∀ bb h',Heap.SameBut a s.heap h' -> yz prog w h' a kA bs (yI ks (kA b))->Q bb { s with heap:=h' }) :
  wpAny (model prog w) A (setAddHashed a (.ref b) ((tupleKeyHash (intKind prog w) (kA b)))) Q E s:=by
 obtain ⟨es,ep,t,S⟩:=S
 have lz:=S.len
 generalize hhs:(tupleKeyHash (intKind prog w) (kA b))=hs
 unfold setAddHashed setAddHashedIn
 refine wpAny_holding (wpAny_bind (wpAny_setState_of S.at_ rfl S.fit ?_))
 dsimp only
 rw [if_neg (by unfold byScan; simp [Value.scannable])]
 unfold setSearch
 have pm:t.place.size<=t.mask:=by rw [S.pz]; rcases S.room with ⟨z,l⟩ | ⟨z,l⟩ | ⟨z,l⟩ <;> rw [z] <;> omega
 have mem:∀ k,k ∈ ks ↔ ∃ e ∈ es.toList,Xn kA e.2=k:=fun k=>by rw [← S.pm.mem_iff,List.mem_map]
 refine wpAny_bind (search_anyR (key:=Xn kA) S.at_ S.fit S.mk_ S.dm hu (hk b hb) (fun e he=>?_) (fun he=>?_) (fun n hsl past=>?_) (10 * SetTable.turns t.mask) 0 100000 none rfl rfl (Xc S.mk_ S.dm pm hs) (Nat.le_refl _) ?_ (fun n' hn'=>absurd hn' (Nat.not_lt_zero _)))
 ·obtain ⟨c,h1,h2,_⟩:=S.el e he
  exact ⟨c,h2,by rw [h2]; exact hk c h1⟩
 ·dsimp only
  refine wpAny_pure (h false s.heap (Heap.SameBut.refl a s.heap) ?_)
  rw [show yI ks (kA b)=ks from if_pos ((mem _).mpr he)]
  exact ⟨es,ep,t,S⟩
 ·have fresh:kA b ∉ ks:=fun z=>by
   obtain ⟨e,he,ek⟩:=(mem _).mp z
   obtain ⟨c,c1,c2,c3⟩:=S.el e he
   have ec:kA c=kA b:=by rw [c2] at ek; exact ek
   have eh:e.1=hs:=by rw [c3,ec,hhs]
   obtain ⟨i,hi⟩:=List.mem_iff_getElem?.mp he
   have hi1:i < es.size:=by have:=(List.getElem?_eq_some_iff.mp hi).1; rwa [Array.length_toList] at this
   have hip:i < t.place.toList.length:=by rw [Array.length_toList,S.pz]; exact hi1
   obtain ⟨m,m1,m2⟩:=S.path _ e (VL (List.getElem?_eq_getElem hip) hi)
   rw [eh] at m1 m2
   have occ_m:SY t (SW t.advance m (t.probeStart hs)).j:=by rw [m1]; exact List.getElem_mem hip
   rcases Nat.lt_trichotomy m n with c' | c' | c'
   ·obtain ⟨i',e',s1,s2,s3⟩:=past m c'
    rw [m1] at s1
    have pl:=vm s1
    have hi'1:=(Array.getElem?_eq_some_iff.mp pl).1
    have hpi:t.place[i]? = some t.place.toList[i]:=by rw [← Array.getElem?_toList]; exact List.getElem?_eq_getElem hip
    obtain ⟨q1,q2⟩:=Array.getElem?_eq_some_iff.mp pl
    obtain ⟨q3,q4⟩:=Array.getElem?_eq_some_iff.mp hpi
    have ei:i' = i:=by
     rcases Nat.lt_trichotomy i' i with z | z | z
     ·have:=S.rise _ _ q3 z; omega
     ·exact z
     ·have:=S.rise _ _ q1 z; omega
    subst ei
    rw [Array.getElem?_toList,s2] at hi
    injection hi with hi
    subst hi
    exact s3 ⟨eh,by rw [c2]; exact ec⟩
   ·subst c'
    exact Z4 S.rise S.dm hsl occ_m
   ·exact Z4 S.rise S.dm hsl (m2 n c')
  have hp:Z3 t hs (SW t.advance n (t.probeStart hs)).j:=⟨n,rfl,fun n' hn'=>by
   obtain ⟨i,_,s1,_⟩:=past n' hn'
   exact Xi s1⟩
  have fw:=jm hsl
  generalize (SW t.advance n (t.probeStart hs)).j=j at hsl hp fw
  have es_:yI ks (kA b)=ks ++ [kA b]:=if_neg fresh
  rw [es_] at h
  dsimp only
  refine wpAny_bind (wpAny_setState_of S.at_ rfl S.fit ?_)
  dsimp only
  obtain ⟨p1,p2⟩:=VJ S.dm j
  have rp:=Xa S.rise fw
  rw [p1] at rp
  rw [p1,p2]
  have bz:=jn t.place j
  have ez:=xX es (SetTable.below t.place j) (hs,Value.ref b) (by rw [← S.pz]; exact bz)
  have tz:=xX t.place (SetTable.below t.place j) j bz
  rw [S.pz] at tz
  have el1:∀ e ∈ (SetTable.insertAt es (SetTable.below t.place j) (hs,Value.ref b)).toList,∃ b,bs b /\ e.2=Value.ref b /\ e.1=(tupleKeyHash (intKind prog w) (kA b)):=fun e he=>by
   rw [SetTable.toList_insertAt] at he
   rcases List.mem_append.mp he with z | z
   ·exact S.el e (List.mem_of_mem_take z)
   ·rcases List.mem_cons.mp z with z | z
    ·exact ⟨b,hb,by rw [z],by rw [z,hhs]⟩
    ·exact S.el e (List.mem_of_mem_drop z)
  have pm1:((SetTable.insertAt es (SetTable.below t.place j) (hs,Value.ref b)).toList.map fun e=>Xn kA e.2).Perm (ks ++ [kA b]):=by
   rw [SetTable.toList_insertAt]
   refine ((List.perm_middle).map _).trans ?_
   rw [List.take_append_drop,List.map_cons]
   refine ((List.Perm.cons _ S.pm)).trans ?_
   exact (List.perm_append_singleton (kA b) ks).symm
  have pq1:=Xk (e0:=(hs,Value.ref b)) (j0:=j) S.pz (p:=SetTable.below t.place j) (by rw [← S.pz]; exact bz) S.path hp
  generalize SetTable.insertAt es (SetTable.below t.place j) (hs,Value.ref b)=es1 at ez el1 pm1 pq1 ⊢
  generalize SetTable.insertAt t.place (SetTable.below t.place j) j=pl1 at tz rp pq1 ⊢
  have main:∀ (t1:SetTable),t1.place=pl1->t1.dummies = #[]->t1.mask=t.mask->jo t1 es1->wpAny (model prog w) A (do
    storeSet a es1 t1
    if !false && t1.tooFull then setRelay a (SetTable.grown (es.size+1))
    return true) Q E s:=by
   intro t1 e1 e2 e3 pq
   refine wpAny_bind (tw S.at_ (by omega) fun h1 sb1 g1=>?_)
   have fl:t1.fill=es.size+1:=by unfold SetTable.fill; rw [e1,e2,tz]; rfl
   by_cases c:t1.tooFull=true
   ·rw [c]
    simp only [Bool.not_false,Bool.and_self,if_true]
    have c2:t.mask * 3<=(es.size+1) * 5:=by unfold SetTable.tooFull at c; rw [fl,e3] at c; exact of_decide_eq_true c
    have cs:(es.size=4 /\ t.mask=7) \/ (es.size=18 /\ t.mask=31):=by
     rcases S.room with ⟨z,l⟩ | ⟨z,l⟩ | ⟨z,l⟩
     ·left; omega
     ·right; omega
     ·omega
    have sa:∃ mk,SetTable.sizeAbove (SetTable.grown (es.size+1)) - 1=mk /\ wA mk /\ es.size+1<=mk /\ ((mk=31 /\ es.size+1<=18) \/ (mk=127 /\ es.size+1<=60)):=by
     rcases cs with ⟨z,_⟩ | ⟨z,_⟩
     ·rw [z]; exact ⟨31,Th,.inr (.inl rfl),by omega,.inl ⟨rfl,by omega⟩⟩
     ·rw [z]; exact ⟨127,Ti,.inr (.inr rfl),by omega,.inr ⟨rfl,by omega⟩⟩
    obtain ⟨mk,s1,s2,s3,s4⟩:=sa
    have f1:t1.fits es1.size=true:=sZ e2 (by rw [e1,tz,ez]) (by rw [ez,e3]; omega)
    refine wpAny_bind (jq (s:={ s with heap:=h1 }) g1 f1 (by omega) (by rw [s1]; exact s2) (by rw [s1,ez]; exact s3) fun h2 es2 t2 sb2 g2 pm2 m2 z2 d2 r2 q2=>?_)
    have z3:es2.size=es.size+1:=by have:=pm2.length_eq; rw [Array.length_toList,Array.length_toList] at this; rw [this,ez]
    refine wpAny_pure (h true _ (sb1.trans sb2) ⟨es2,_,t2,g2,fun e he=>el1 e (pm2.mem_iff.mp he),(pm2.map _).trans pm1,by rw [z2,ez,z3],d2,?_,r2,q2⟩)
    rw [m2,s1,z3]
    rcases s4 with y | y
    ·exact .inr (.inl y)
    ·exact .inr (.inr y)
   ·rw [Bool.not_eq_true] at c
    rw [c]
    simp only [Bool.and_false,Bool.false_eq_true,if_false]
    refine wpAny_pure (h true _ sb1 ⟨es1,_,t1,g1,el1,pm1,by rw [e1,tz,ez],e2,?_,by rw [e1]; exact rp,pq⟩)
    have c2:(es.size+1) * 5 < t.mask * 3:=by unfold SetTable.tooFull at c; rw [fl,e3] at c; exact Nat.lt_of_not_le (of_decide_eq_false c)
    rw [e3,ez]
    rcases S.room with ⟨z,l⟩ | ⟨z,l⟩ | ⟨z,l⟩
    ·left; exact ⟨z,by omega⟩
    ·right; left; exact ⟨z,by omega⟩
    ·right; right; exact ⟨z,by omega⟩
  split
  ·refine wpAny_bind (Z2 (hk b hb) ?_)
   simp only [if_true]
   exact main _ rfl S.dm rfl pq1
  ·refine wpAny_bind (wpAny_pure ?_)
   simp only [if_true]
   exact main _ rfl S.dm rfl pq1
 ·show 10 * (t.mask+15) < 100000
  rcases S.mk_ with z | z | z <;> rw [z] <;> decide
end
theorem Xo {ks:List (List Int)}:(xt ks).length<=ks.length:=by
 have key:∀ (ks acc:List (List Int)),(ks.foldl yI acc).length<=acc.length+ks.length:=by
  intro ks
  induction ks with
  | nil=>intro acc; exact Nat.le_refl _
  | cons k ks ih =>
   intro acc
   rw [List.foldl_cons,List.length_cons]
   have:=ih (yI acc k)
   have:(yI acc k).length<=acc.length+1:=by
    unfold yI
    split
    ·omega
    ·rw [List.length_append]; exact Nat.le_refl _
   omega
 have:=key ks []
 rw [List.length_nil,Nat.zero_add] at this
 exact this
theorem qy {ks:List (List Int)}:(xt ks).length=ks.length ↔ ks.Nodup:=by
 have key:∀ (ks acc:List (List Int)),acc.Nodup->((ks.foldl yI acc).length=acc.length+ks.length ↔ (acc ++ ks).Nodup) /\ (ks.foldl yI acc).length<=acc.length+ks.length:=by
  intro ks
  induction ks with
  | nil=>intro acc h; simp [h]
  | cons k ks ih =>
   intro acc h
   rw [List.foldl_cons,List.length_cons]
   by_cases c:k ∈ acc
   ·have e:yI acc k=acc:=if_pos c
    rw [e]
    obtain ⟨_,i2⟩:=ih acc h
    refine ⟨⟨fun z=>by omega,fun z=>?_⟩,by omega⟩
    rw [List.nodup_append] at z
    exact absurd rfl (z.2.2 k c k (by simp))
   ·have e:yI acc k=acc ++ [k]:=if_neg c
    rw [e]
    have nd:(acc ++ [k]).Nodup:=List.nodup_append.mpr ⟨h,by simp,fun x hx y hy z=>by rw [List.mem_singleton.mp hy] at z; exact c (z ▸ hx)⟩
    obtain ⟨i1,i2⟩:=ih (acc ++ [k]) nd
    rw [List.length_append,List.length_singleton] at i1 i2
    rw [List.append_assoc] at i1
    exact ⟨⟨fun z=>i1.mp (by omega),fun z=>by have:=i1.mpr z; omega⟩,by omega⟩
 have:=(key ks [] (by simp)).1
 rw [List.length_nil,Nat.zero_add,List.nil_append] at this
 exact this
section
variable {prog:Program} {w:World} {A:Around} {E:Tn} {s:Shared}
theorem jr {R:Result->Shared->Prop} {I:Addr} {fp wr:List Addr} {n:Nat} {P:Nat->Value->Prop} {St:Nat->Heap->Prop} (W:Walks prog w A.in1 I fp wr n P St) (S:Addr) (hSf:S ∉ fp)
  (kA:Addr->List Int) (ad:Nat->Addr) (hval:∀ i v,P i v->v = .ref (ad i)) (hb:n<=60) (hu:A.in1.units+1 < cLine) (had:∀ i,i < n->ad i ∉ S :: wr) :
  ∀ (k i:Nat) (s:Shared),n - i=k->i<=n->St i s.heap->yz prog w s.heap S kA (fun b=>∃ i,i < n /\ ad i=b) (xt ((List.range i).map fun i=>kA (ad i)))->(∀ i,i < n->xK prog w s.heap (kA (ad i)) (ad i)) →
   (∀ s',Moved (S :: wr) (fun a b=>b=a) s s' -> yz prog w s'.heap S kA (fun b=>∃ i,i < n /\ ad i=b) (xt ((List.range n).map fun i=>kA (ad i)))->R (.ok (.ret .none)) s') →
   codeAny (model prog w) A (.builtin "set.update.loop" ⟨[.ref S,.ref I],[]⟩) R s:=by
 have WS:=W.toS
 have hSw:S ∉ wr:=fun h=>hSf (W.sub _ h)
 have hsub:∀ b ∈ wr,b ∈ S :: wr:=fun b hb=>List.mem_cons_of_mem _ hb
 intro k
 induction k with
 | zero =>
  intro i s hk hi hst hS hK hR
  have e:i=n:=by omega
  subst e
  refine codeAny_builtin F.entry_set_update_loop ?_
  rw [Around.under_plainId F.plain_set_update_loop _]
  show wpAny _ A.in1 (pyNext (.ref I) >>= _) _ _ s
  refine wpAny_bind (WS.done s _ _ hst fun s' hm=>?_)
  show wpAny _ A.in1 (ret Value.none) _ _ s'
  exact wpAny_pure (hR s' (hm.mono hsub) (hS.keep fun o e=>hm.heap S o hSw e))
 | succ k ih =>
  intro i s hk hi hst hS hK hR
  have hlt:i < n:=by omega
  refine codeAny_builtin F.entry_set_update_loop ?_
  rw [Around.under_plainId F.plain_set_update_loop _]
  show wpAny _ A.in1 (pyNext (.ref I) >>= _) _ _ s
  refine wpAny_bind (WS.item i s _ _ hlt hst fun v s' hP hst' hm=>?_)
  obtain rfl:=hval i v hP
  show wpAny _ A.in1 (holding [Value.ref (ad i)] (setAdd S (.ref (ad i))) >>= _) _ _ s'
  refine wpAny_bind (wpAny_holding ?_)
  have hK':∀ i,i < n->xK prog w s'.heap (kA (ad i)) (ad i):=fun j hj=>(hK j hj).keep fun o e=>hm.heap (ad j) o (fun z=>had j hj (hsub _ z)) e
  unfold setAdd
  refine wpAny_holding (wpAny_bind (WB hu (hK' i hlt) ?_))
  have dl:=Xo (ks:=(List.range i).map fun i=>kA (ad i))
  rw [List.length_map,List.length_range] at dl
  refine yz.add (s:={ s' with toks:=s'.toks+_ }) (hS.keep fun o e=>hm.heap S o hSw e) (by omega) hu (fun b hb=>?_) ⟨i,hlt,rfl⟩ fun bb h' hsb h2=>?_
  ·obtain ⟨j,hj,rfl⟩:=hb
   exact hK' j hj
  have e2:yI (xt ((List.range i).map fun i=>kA (ad i))) (kA (ad i))=xt ((List.range (i+1)).map fun i=>kA (ad i)):=by
   unfold xt
   rw [List.range_succ,List.map_append,List.foldl_append]; rfl
  rw [e2] at h2
  refine wpAny_pure ⟨plainId_quiet F.plain_set_update_loop _,ih (i+1) _ (by omega) hlt (WS.frame _ s' _ _ hst' (Nat.le_add_right _ _) fun b hb o e=>?_) h2 (fun j hj=>(hK' j hj).keep fun o e=>?_) fun s'' hm'' h3=>?_⟩
  ·rw [hsb.2 b (fun h:b=S=>hSf (by rw [← h]; exact hb))]; exact e
  ·show h'.get? (ad j)=some o
   rw [hsb.2 (ad j) (fun h:ad j=S=>had j hj (by rw [h]; exact List.mem_cons_self))]; exact e
  ·refine hR s'' (Moved.trans WS.gtrans ((hm.mono hsub).then_heap (Nat.le_add_right _ _) fun b o hb e=>?_) hm'') h3
   rw [hsb.2 b (fun h:b=S=>hb (by rw [h]; exact List.mem_cons_self))]; exact e
theorem s8 {led:Bool} {h:Heap} {a:Addr} {kA:Addr->List Int} {bs:Addr->Prop} (hg:h.get? a=some { cls:=.type "set",dict:=none,data:=.set #[] 0 (.fresh 0 0 led) }):yz prog w h a kA bs [] :=
 ⟨#[],0,_,hg,fun e he=>(by simp at he),List.Perm.refl _,rfl,rfl,.inl ⟨rfl,by simp⟩,fun i j hj _=>absurd hj (by simp [SetTable.fresh]),fun j e h=>by simp [SetTable.fresh] at h⟩
theorem yz.pn {h:Heap} {a:Addr} {kA:Addr->List Int} {bs:Addr->Prop} {ks:List (List Int)} (S:yz prog w h a kA bs ks):tD h a ks.length:=by
 obtain ⟨es,ep,t,S⟩:=S
 refine ⟨fun i=>match es[i]? with | some (_,.ref b)=>b | _=>0,es,ep,t,S.at_,fun e he=>?_,S.len,by rw [S.pz,S.len],S.dm,by rw [← S.len]; exact S.room⟩
 obtain ⟨i,hi⟩:=List.mem_iff_getElem?.mp he
 obtain ⟨b,_,e2,_⟩:=S.el e he
 have hl:=(List.getElem?_eq_some_iff.mp hi).1
 rw [Array.length_toList,S.len] at hl
 refine ⟨i,hl,?_⟩
 rw [Array.getElem?_toList] at hi
 have ee:e=(e.1,Value.ref b):=by rw [← e2]
 rw [ee] at hi
 rw [hi,e2]
end
section
variable {prog:Program} {w:World} {A:Around} {E:Tn} {s:Shared}
set_option maxHeartbeats 3200000 in
theorem ju {l:Addr} {items:Array Value} {kA:Addr->List Int} {ad:Nat->Addr} {Q:Tn}
  (hh:A.handled=none) (hu:A.units+8 < cLine) (hl:s.heap.IsTuple l items) (hi:∀ (i:Nat) (v:Value),items[i]? = some v->v = .ref (ad i)) (hk:∀ i,i < items.size->xK prog w s.heap (kA (ad i)) (ad i)) (hb:items.size<=60)
  (h:∀ (h':Heap) (tk:Nat),yz prog w h' s.heap.objs.size kA (fun b=>∃ i,i < items.size /\ ad i=b) (xt ((List.range items.size).map fun i=>kA (ad i)))->(∀ b o,b < s.heap.objs.size->s.heap.get? b=some o->h'.get? b=some o)->Q (.ref s.heap.objs.size) { s with heap:=h',toks:=tk }) :
  wpAny (model prog w) A (call (.type "set") [.ref l]) Q E s:=by
 obtain ⟨c,tl,hmro⟩:=PySem.F.called_set.mro
 have hmade:=PySem.F.called_set.made
 have hsub:=PySem.F.called_set.sub
 refine wpAny_call (codeAny_of_tree ?_)
 show wpAny _ _ (callAny (.type "set") _) _ _ _
 refine wpAny_pure ⟨Code.quiet_builtin _ (by decide +kernel),codeAny_builtin PySem.F.entry_type_call ?_⟩
 rw [Around.under_plain (weight_type_call_type "set" [.ref l] []) rfl]
 have h1:=PySem.F.called_set.notType
 have h2:=PySem.F.called_set.canCreate
 have hct:=PySem.F.typeCall_set_1 (.ref l)
 repeat (any_goals (first | assumption | wp_step))
 generalize hled:(!w.params.followText "set-order")=led
 refine codeAny_mono (Wy (.ref l) (E:=E) (Q₁:=fun obj s₁=>obj = .ref s.heap.objs.size /\ s₁ = { s with heap:=s.heap.push { cls:=.type "set",dict:=none,data:=.set #[] 0 (.fresh 0 0 led) } }) ⟨rfl,by rw [hled]⟩) fun r s₁ hr=>?_
 cases r with
 | error e=>exact hr
 | ok fl =>
  cases fl with
  | ret obj =>
   obtain ⟨rfl,rfl⟩:=hr
   have hS:(s.heap.push { cls:=.type "set",dict:=none,data:=.set #[] 0 (.fresh 0 0 led) }).get? s.heap.objs.size=some { cls:=.type "set",dict:=none,data:=.set #[] 0 (.fresh 0 0 led) }:=Heap.get?_push_size _ rfl
   have hT:Shared.TypeIs { s with heap:=s.heap.push { cls:=.type "set",dict:=none,data:=.set #[] 0 (.fresh 0 0 led) } } (.ref s.heap.objs.size) "set":=⟨_,hS,rfl⟩
   have hli:=PySem.F.called_set.init.lookup
   have hbi:=PySem.F.called_set.init.bind (.ref s.heap.objs.size)
   repeat (any_goals (first | assumption | wp_step))
   refine codeAny_mono (codeAny_call_builtin (R:=wants (fun r s₂=>r = .none /\ ∃ h' tk,s₂ = { s with heap:=h',toks:=tk } /\ yz prog w h' s.heap.objs.size kA (fun b=>∃ i,i < items.size /\ ad i=b) (xt ((List.range items.size).map fun i=>kA (ad i))) ∧
     (∀ b o,b < s.heap.objs.size->s.heap.get? b=some o->h'.get? b=some o)) E) PySem.F.called_set.init.plain PySem.F.entry_set_init (check_set_init_1 hT ?_)) fun r₂ s₂ hr₂=>?_
   ·obtain ⟨ol,hol,hcl,nl,hdl⟩:=hl
    obtain ⟨ocls,odict,odata,oslots⟩:=ol
    simp only at hcl hdl
    subst hcl; subst hdl
    have hol':(s.heap.push { cls:=.type "set",dict:=none,data:=.set #[] 0 (.fresh 0 0 led) }).get? l=some { cls:=.type "tuple",dict:=odict,data:=.seq items nl,slots:=oslots }:=Heap.get?_push_of_some _ hol
    have hsls:=PySem.F.sub_tuple_set
    have hslf:=PySem.F.sub_tuple_frozenset
    have hne:(Value.type "tuple" == Value.type "dict")=false:=by decide
    have hl1:(s.heap.push { cls:=.type "set",dict:=none,data:=.set #[] 0 (.fresh 0 0 led) }).IsTuple l items:=⟨_,hol',rfl,nl,rfl⟩
    unfold Builtin.«set.__init__» noKeywords Builtin.Frozenset.updateFrom
    generalize hPI:pyIter=PI
    wp_walk
    subst hPI
    refine wpAny_pyIter_tuple hl1 (wpAny_bind (wpAny_runValue ?_))
    have hlS:l < s.heap.objs.size:=Heap.lt_size hol
    have hz:(s.heap.push { cls:=.type "set",dict:=none,data:=.set #[] 0 (.fresh 0 0 led) }).objs.size=s.heap.objs.size+1:=Heap.size_push ..
    have nI:l ≠ (s.heap.push { cls:=.type "set",dict:=none,data:=.set #[] 0 (.fresh 0 0 led) }).objs.size:=by rw [hz]; exact Nat.ne_of_lt (Nat.lt_succ_of_lt hlS)
    have adl:∀ i,i < items.size->ad i < s.heap.objs.size:=fun i hi'=>by
     obtain ⟨o,_,_,ho,_⟩:=hk i hi'
     exact Heap.lt_size ho
    refine jr (Walks.tuple (by simp [hh]) _ l nI items) s.heap.objs.size (by rw [hz]; simp only [List.mem_cons,List.mem_singleton,List.not_mem_nil,or_false,not_or]; exact ⟨Nat.ne_of_lt (Nat.lt_succ_self _),Nat.ne_of_gt hlS⟩) kA ad (fun i v hv=>hi i v hv) hb ?_ (fun i hi'=>by rw [hz]; simp only [List.mem_cons,List.mem_singleton,List.not_mem_nil,or_false,not_or]; exact ⟨Nat.ne_of_lt (adl i hi'),Nat.ne_of_lt (Nat.lt_succ_of_lt (adl i hi'))⟩) (items.size - 0) 0 _ (by omega) (Nat.zero_le _)
     ⟨⟨_,Heap.get?_push_size _ rfl,rfl,rfl⟩,(hl1.push _)⟩ (s8 (Heap.get?_push_of_some _ hS)) (fun i hi'=>(hk i hi').keep fun o e=>Heap.get?_push_of_some _ (Heap.get?_push_of_some _ e)) fun s' hm hS'=>?_
    ·show A.units+1+1+1+1 < cLine
     omega
    obtain ⟨h',g',d',tk',os'⟩:=s'
    have eg:g' = s.gens:=hm.gens
    have ed:d' = s.drawn:=hm.drawn
    have eo:os' = s.os:=hm.os
    subst eg; subst ed; subst eo
    refine wpAny_pure ?_
    show wpAny _ _ (ret Value.none) _ _ _
    refine wpAny_pure ⟨rfl,h',tk',rfl,hS',fun b o hb e=>?_⟩
    exact hm.heap b o (by rw [hz]; simp only [List.mem_cons,List.mem_singleton,List.not_mem_nil,or_false,not_or]; exact ⟨Nat.ne_of_lt hb,Nat.ne_of_lt (Nat.lt_succ_of_lt hb)⟩) (Heap.get?_push_of_some _ (Heap.get?_push_of_some _ e))
   ·cases r₂ with
    | error e=>exact hr₂
    | ok fl₂ =>
     cases fl₂ with
     | ret r =>
      obtain ⟨rfl,h',tk,rfl,hS',hk'⟩:=hr₂
      repeat (any_goals (first | assumption | wp_step))
      exact h _ _ hS' hk'
     | _=>exact hr₂.elim
  | _=>exact hr.elim
end
def S0 (K:Tl) (H:Hp) (v:V) (k:List Int):Prop:=∃ b,v = .ref b /\ TC K H b (k.map V.int)
theorem vZ {prog:Program} {w:World}:∀ {k:List Int} {us:List Value},zC (k.map V.int) us->ItemsAre (intKind prog w) k us
 | [],_,.nil=>.nil
 | i :: k,_,.cons ⟨t,e⟩ r=>by
  subst e
  exact .cons XJ (vZ r)
theorem S0.is {X:Cx} {pins:List (Addr × Obj)} {σ:L2.St} {H:Hp} {s:Shared} (I:Inv X pins σ H s) {b:Addr} {k:List Int} (h:TC X.K H b (k.map V.int)):xK X.prog X.w s.heap k b:=by
 obtain ⟨its,r,⟨o,e1,e2,n,e3⟩,_⟩:=I.tuple h
 exact ⟨o,_,n,e1,e2,e3,by simpa using vZ r⟩
section
variable {X:Cx} {K:Tl}
theorem tI {k:Nat} (hK:X.K=K) (hr:Room k X.A):yw X (.type "set") (fun xs H Q=>∃ a vs ks,xs=[V.ref a] /\ TC K H a vs /\ zU (S0 K H) vs ks /\ ks.length<=60 /\ ∀ l,H l=none->Q (.ref l) (Tp H l (.ext fun h=>tD h l (xt ks).length))):=by
 subst hK
 intro pins s σ H xs us Q I r h
 obtain ⟨a,vs,ks,rfl,ha,hA,hl,q⟩:=h
 obtain ⟨u,rfl,ru⟩:=xE r
 cases ru
 obtain ⟨its,rv,p,hz⟩:=I.tuple ha
 have hlen:=rv.length
 have al:=hA.len
 let ad:Nat->Addr:=fun i=>match its[i]? with
  | some (.ref b)=>b
  | _=>0
 obtain ⟨kA,hkA⟩:∃ kA:Addr->List Int,∀ b k,xK X.prog X.w s.heap k b->kA b=k:=by
  refine ⟨fun b=>Classical.epsilon fun k=>xK X.prog X.w s.heap k b,fun b k hk=>?_⟩
  have:=Classical.epsilon_spec (p:=fun k=>xK X.prog X.w s.heap k b) ⟨k,hk⟩
  exact IsTupleKey.inj this hk
 have key:∀ (i:Nat) (v:Value),its[i]? = some v->v = .ref (ad i) /\ ∃ k,ks[i]? = some k /\ xK X.prog X.w s.heap k (ad i):=fun i v hv=>by
  obtain ⟨hj,ej⟩:=List.getElem?_eq_some_iff.mp hv
  obtain ⟨z,hz1,hz2⟩:=Wb rv i hj
  rw [ej] at hz2
  obtain ⟨k,hk,b,rfl,hb⟩:=hA.get hz1
  obtain rfl:v=Value.ref b:=hz2
  have e:ad i=b:=by show (match its[i]? with | some (.ref b)=>b | _=>0)=b; rw [hv]
  rw [e]
  exact ⟨rfl,k,hk,S0.is I hb⟩
 have hz2:its.toArray.size=ks.length:=by rw [List.size_toArray,← al]; exact hlen.symm
 have hks:(List.range its.toArray.size).map (fun i=>kA (ad i))=ks:=by
  refine List.ext_getElem (by rw [List.length_map,List.length_range,hz2]) fun i h1 h2=>?_
  rw [List.getElem_map,List.getElem_range]
  rw [List.length_map,List.length_range,List.size_toArray] at h1
  obtain ⟨_,k,k1,k2⟩:=key i _ (List.getElem?_eq_getElem h1)
  rw [hkA _ _ k2]
  rw [List.getElem?_eq_getElem h2] at k1
  exact (Option.some.inj k1).symm
 refine ju (kA:=kA) (ad:=ad) hr.hd (by have:=hr.un; omega) p (fun i v hv=>(key i v (by simpa using hv)).1) (fun i hi=>?_) (by rw [hz2]; exact hl) fun h' tk hS kp=>?_
 ·rw [List.size_toArray] at hi
  obtain ⟨_,k,k1,k2⟩:=key i _ (List.getElem?_eq_getElem hi)
  rw [hkA _ _ k2]; exact k2
 ·rw [hks] at hS
  exact ⟨.ref s.heap.objs.size,_,I.laid (t':=tk) (fun b o eb=>kp b o (Heap.lt_size eb) eb) (Nat.le_refl _) (zL.setP hS.pn),rfl,q _ (I.hok.fresh (Nat.le_refl _))⟩
end
section
variable {prog:Program} {w:World} {A:Around} {E:Tn} {s:Shared}
theorem vo {a b:Addr} {oa ob:Obj} {xs ys:Array Value} {n m:Nat} {k:Bool} {P:Fin->Shared->Prop} (hoa:s.heap.get? a=some oa) (hda:oa.data = .seq xs n) (hob:s.heap.get? b=some ob) (hdb:ob.data = .seq ys m) (hTb:s.TypeIs (.ref b) "tuple")
  (L:LexC prog w A .Gt s (decide (ys.size < xs.size)) (xs.toList.zip ys.toList) k) (h:P (.done (.ret (.bool k))) s):wpAny (model prog w) A (Builtin.«tuple.__gt__» ⟨[.ref a,.ref b],[]⟩) P E s:=by
 show wpAny _ _ (isInstance (.ref b) (.type "tuple") >>= _) _ _ s
 refine wpAny_bind (wpAny_isInstance hTb isSubtype_tuple_tuple ?_)
 simp only [Bool.not_true,Bool.false_eq_true,if_false]
 refine wpAny_bind (wpAny_tupleItemsOf hoa hda ?_)
 refine wpAny_bind (wpAny_tupleItemsOf hob hdb ?_)
 refine wpAny_bind ?_
 refine wpAny_forIn_list _ (fun rest r s'=>r.1=none /\ s' = s /\ LexC prog w A .Gt s (decide (ys.size < xs.size)) rest k) _ ?_ ?_ _ _ ⟨rfl,rfl,L⟩
 ·rintro ⟨p,q⟩ rest r s' ⟨hr,rfl,L⟩
  cases L with
  | same h1 L =>
   refine wpAny_bind (h1 _ _ ?_)
   simp only [Bool.not_true,Bool.false_eq_true,if_false]
   exact wpAny_pure ⟨rfl,rfl,L⟩
  | diff h1 h2 =>
   refine wpAny_bind (h1 _ _ ?_)
   simp only [Bool.not_false,if_true]
   exact wpAny_bind (wpAny_rule (wpAny_bind (h2 _ _ (wpAny_bind (wpAny_pure (wpAny_pure (wpAny_pure h)))))))
 ·rintro ⟨r1,r2⟩ s' ⟨hr,rfl,L⟩
  simp only at hr
  subst hr
  cases L
  exact wpAny_pure h
theorem Z8 {h:Bool} {as bs:List Int}:∀ {us vs:List Value},IntsAre us as->IntsAre vs bs->h=decide (as.length < bs.length)->LexC prog w A .Lt s h (us.zip vs) (SR as bs):=by
 induction as generalizing bs with
 | nil =>
  intro us vs ha hb e
  cases ha
  rw [e]
  cases hb with
  | nil=>exact .nil
  | cons _ _ _=>show LexC prog w A .Lt s (decide (0 < _+1)) [] true; rw [decide_eq_true (Nat.succ_pos _)]; exact .nil
 | cons a as ih =>
  intro us vs ha hb e
  cases ha with
  | cons x t hx =>
   cases hb with
   | nil=>rw [e]; show LexC prog w A .Lt s (decide (_+1 < 0)) [] false; rw [decide_eq_false (Nat.not_lt_zero _)]; exact .nil
   | cons y u hy =>
    rw [List.zip_cons_cons]
    unfold SR
    by_cases c:a=y
    ·subst c
     rw [if_pos rfl]
     exact .same (fun E Q q=>wpAny_eqBool_int (by rw [beq_self_eq_true]; exact q)) (ih hx hy (by rw [e]; simp))
    ·rw [if_neg c]
     exact .diff (fun E Q q=>wpAny_eqBool_int (by rw [beq_eq_false_iff_ne.mpr c]; exact q)) fun E Q q=>lt_int q
theorem Z9 {h:Bool} {as bs:List Int}:∀ {us vs:List Value},IntsAre us as->IntsAre vs bs->h=decide (bs.length < as.length)->LexC prog w A .Gt s h (us.zip vs) (SR bs as):=by
 induction as generalizing bs with
 | nil =>
  intro us vs ha hb e
  cases ha
  rw [e]
  cases hb with
  | nil=>exact .nil
  | cons _ _ _=>show LexC prog w A .Gt s (decide (_+1 < 0)) [] false; rw [decide_eq_false (Nat.not_lt_zero _)]; exact .nil
 | cons a as ih =>
  intro us vs ha hb e
  cases ha with
  | cons x t hx =>
   cases hb with
   | nil=>rw [e]; show LexC prog w A .Gt s (decide (0 < _+1)) [] true; rw [decide_eq_true (Nat.succ_pos _)]; exact .nil
   | cons y u hy =>
    rw [List.zip_cons_cons]
    unfold SR
    by_cases c:y=a
    ·subst c
     rw [if_pos rfl]
     exact .same (fun E Q q=>wpAny_eqBool_int (by rw [beq_self_eq_true]; exact q)) (ih hx hy (by rw [e]; simp))
    ·rw [if_neg c]
     exact .diff (fun E Q q=>wpAny_eqBool_int (by rw [beq_eq_false_iff_ne.mpr (Ne.symm c)]; exact q)) fun E Q q=>gt_int q
theorem xK.ints {k:List Int} {a:Addr} (h:xK prog w s.heap k a):∃ o its n,s.heap.get? a=some o /\ o.cls = .type "tuple" /\ o.data = .seq its n /\ IntsAre its.toList k:=by
 obtain ⟨o,its,n,ho,hc,hd,hi⟩:=h
 refine ⟨o,its,n,ho,hc,hd,?_⟩
 clear ho hd
 revert hi
 generalize its.toList=us
 intro hi
 induction hi with
 | nil=>exact .nil
 | cons h1 _ ih =>
  obtain ⟨t,rfl⟩:=XN h1
  exact .cons _ t ih
theorem IntsAre.len61:∀ {us:List Value} {k:List Int},IntsAre us k->us.length=k.length
 | _,_,.nil=>rfl
 | _,_,.cons _ _ t=>congrArg (· + 1) (IntsAre.len61 t)
theorem Uw {x y:List Int} {a b:Addr} {Q:Tn} (hu:A.units < cLine) (hx:xK prog w s.heap x a) (hy:xK prog w s.heap y b) (h:Q (.bool (SR x y)) s):wpAny (model prog w) A (richCompare .Lt (.ref a) (.ref b)) Q E s:=by
 have hT:=hx.typeIs
 have hT':=hy.typeIs
 obtain ⟨o,xs,n,ho,_,hd,hi⟩:=hx.ints
 obtain ⟨o',ys,n',ho',_,hd',hi'⟩:=hy.ints
 refine wpAny_richCompare_same_room (op:=.Lt) hT hT' F.slot_tuple_lt (wpAny_call_entry F.slot_tuple_lt hT F.entry_tuple_lt (sX ho hd ho' hd' hT' (Z8 hi hi' ?_) ⟨_,rfl,(fun z=>nomatch z),h⟩) (F.args_tuple_lt_2 _ _)) hu
 rw [← Array.length_toList,← Array.length_toList,IntsAre.len61 hi,IntsAre.len61 hi']
theorem Ux {x y:List Int} {a b:Addr} {Q:Tn} (hu:A.units < cLine) (hx:xK prog w s.heap x a) (hy:xK prog w s.heap y b) (h:Q (.bool (SR y x)) s):wpAny (model prog w) A (richCompare .Gt (.ref a) (.ref b)) Q E s:=by
 have hT:=hx.typeIs
 have hT':=hy.typeIs
 obtain ⟨o,xs,n,ho,_,hd,hi⟩:=hx.ints
 obtain ⟨o',ys,n',ho',_,hd',hi'⟩:=hy.ints
 refine wpAny_richCompare_same_room (op:=.Gt) hT hT' F.slot_tuple_gt (wpAny_call_entry F.slot_tuple_gt hT F.entry_tuple_gt (vo ho hd ho' hd' hT' (Z9 hi hi' ?_) ⟨_,rfl,(fun z=>nomatch z),h⟩) (F.args_tuple_gt_2 _ _)) hu
 rw [← Array.length_toList,← Array.length_toList,IntsAre.len61 hi,IntsAre.len61 hi']
theorem jv {l:Addr} {us:List Value} {Q:List Value->Shared->Prop} (tu:s.heap.IsList l us.toArray) (hu:us.length<=sizeLine)
  (q:Q us { s with heap:=(s.heap.push (seqObj "list" #[] 0)).update s.heap.objs.size (Obj.mapSeq (· ++ us.toArray)) }):wpAny (model prog w) A (collect (.ref l)) Q E s:=by
 obtain ⟨ob,eo,ec,m,ed⟩:=id tu
 have eo2:(s.heap.push (seqObj "list" #[] 0)).get? l=some ob:=Heap.get?_push_of_some _ eo
 unfold collect
 refine wpAny_bind (wpAny_runValue (codeAny_builtin entry_proto_collect' (show wpAny _ _ (do again (.builtin "list.__iadd__" ⟨[← newList [],.ref l],[]⟩)) _ _ s from ?_)))
 refine wpAny_bind (wpAny_newList (wpAny_pure ⟨Code.quiet_builtin _ (by decide +kernel),codeAny_builtin entry_list_iadd' (show wpAny _ _ (Builtin.List.listExtendWith (.ref s.heap.objs.size) (.ref l) (.ref s.heap.objs.size)) _ _ { s with heap:=s.heap.push (seqObj "list" #[] 0) } from ?_)⟩))
 unfold Builtin.List.listExtendWith
 refine wpAny_bind (wpAny_typeOf (T:="list") ⟨ob,eo2,ec⟩ ?_)
 have k1:(Value.type "list" == Value.type "list")=true:=rfl
 rw [if_pos (by simp [k1])]
 refine wpAny_bind (listItems_at eo2 ed (wpAny_bind (listItems_at (xs:=#[]) (n:=0) (Heap.get?_push_size _ rfl) rfl ?_)))
 rw [if_neg (by simp)]
 refine wpAny_bind (listUpdate_at (xs:=#[]) (n:=0) (Heap.get?_push_size _ rfl) rfl (wpAny_pure ?_) (Nat.zero_le _) (by show (#[] ++ us.toArray).size<=sizeLine+1; simp only [Array.size_append,List.size_toArray,List.length_nil]; omega))
 refine wpAny_bind (wpAny_load (get?_update_seq (Heap.get?_push_size _ rfl) _) ?_)
 show wpAny _ _ (pure ((#[]:Array Value) ++ us.toArray).toList) Q E _
 rw [show ((#[]:Array Value) ++ us.toArray).toList=us by simp]
 exact wpAny_pure q
theorem uw {l:Addr} {vs:List Value} {Q:Tn} {lt:Nat->Nat->Bool} (tu:s.heap.IsList l vs.toArray) (few:vs.length < 64) (o:OrdB vs.length lt)
  (asks:2<=vs.length -> ∀ s':Shared,(∀ b ob,s.heap.get? b=some ob->s'.heap.get? b=some ob /\ b ≠ s.heap.objs.size+1)->Ut prog w A.in1.in1 s' (s.heap.objs.size+1) vs lt)
  (fin:∀ p,PmA vs.length p->SQ lt p vs.length->Q (.ref (s.heap.objs.size+1)) { s with heap:=sortedAll s.heap vs (List.toArray (p.toList.map fun i=>vs.getD i Value.none)) }) :
  wpAny (model prog w) A (call (.builtin "sorted") [.ref l]) Q E s:=by
 refine Calls.call_function_entry kind_sorted plain_sorted entry_sorted (args_sorted1 _) ?_
 unfold Builtin.«sorted»
 refine wpAny_bind (m:=checkCount "sorted" 1 1 _) (wpAny_pure (wpAny_bind (jv tu (by rw [sizeLine_eq]; omega) (wpAny_bind (wpAny_newList ?_ (by rw [sizeLine_eq]; omega))))))
 have e1:((s.heap.push (seqObj "list" #[] 0)).update s.heap.objs.size (Obj.mapSeq (· ++ vs.toArray))).objs.size=s.heap.objs.size+1:=by rw [Heap.size_update,size_push']
 have e2:(((s.heap.push (seqObj "list" #[] 0)).update s.heap.objs.size (Obj.mapSeq (· ++ vs.toArray))).push (seqObj "list" vs.toArray 0)).get? (s.heap.objs.size+1)=some (seqObj "list" vs.toArray 0):=by
  rw [← e1]; exact Heap.get?_push_size _ rfl
 show wpAny _ _ _ _ _ { s with heap:=((s.heap.push (seqObj "list" #[] 0)).update s.heap.objs.size (Obj.mapSeq (· ++ vs.toArray))).push (seqObj "list" vs.toArray 0) }
 rw [e1]
 refine wpAny_bind (wpAny_holding (wpAny_call_entry slot_list_sort ⟨_,e2,rfl⟩ entry_list_sort (ZP (s:={ s with heap:=((s.heap.push (seqObj "list" #[] 0)).update s.heap.objs.size (Obj.mapSeq (· ++ vs.toArray))).push (seqObj "list" vs.toArray 0) }) e2 few o (fun h2=>asks h2 _ fun b ob e=>⟨?_,?_⟩) fun p hp u=>⟨_,rfl,wpAny_pure ⟨_,rfl,fin p hp u⟩⟩) (args_list_sort _)))
 ·have lo:b < s.heap.objs.size:=Heap.lt_size e
  refine Heap.get?_push_of_some _ ?_
  rw [Heap.get?_update_ne _ _ _ _ (Nat.ne_of_lt lo)]
  exact Heap.get?_push_of_some _ e
 ·exact Nat.ne_of_lt (Nat.lt_succ_of_lt (Heap.lt_size e))
structure Pr61 (prog:Program) (w:World) (h:Heap) (v:Value) (i:Int) (r:List Int) (x:Addr) (ob:Obj) (n:Nat) (t:Tok) (b:Addr):Prop where
 e:v = .ref x
 g:h.get? x=some ob
 c:ob.cls = .type "tuple"
 d:ob.data = .seq #[Value.int i t,Value.ref b] n
 r:xK prog w h r b
def VP (prog:Program) (w:World) (h:Heap) (v:Value) (p:Int × List Int):Prop:=∃ x ob n t b,Pr61 prog w h v p.1 p.2 x ob n t b
inductive Rows61 (prog:Program) (w:World) (h:Heap):List Value->List (Int × List Int)->Prop
 | nil:Rows61 prog w h [] []
 | cons {v vs row rows}:VP prog w h v row->Rows61 prog w h vs rows->Rows61 prog w h (v :: vs) (row :: rows)
theorem Rows61.len {h:Heap}:∀ {vs rows},Rows61 prog w h vs rows->vs.length=rows.length
 | _,_,.nil=>rfl
 | _,_,.cons _ t=>congrArg (· + 1) t.len
theorem Rows61.get {h:Heap}:∀ {vs rows} {i:Nat},Rows61 prog w h vs rows->i < vs.length->VP prog w h (vs.getD i Value.none) (rows.getD i (0,[]))
 | _,_,_,.nil,hi=>absurd hi (by simp)
 | _,_,0,.cons r _,_=>r
 | _,_,i+1,.cons _ t,hi=>by
  have:=t.get (i:=i) (by simpa using hi)
  exact this
theorem Rows61.tups {h:Heap}:∀ {vs rows},Rows61 prog w h vs rows -> ∃ fs,KatTups h vs fs /\ fs.length=vs.length /\ ∀ f ∈ fs,∃ n t,f=Value.int n t
 | _,_,.nil=>⟨[],.nil,rfl,fun f hf=>absurd hf (by simp)⟩
 | _,_,.cons ⟨x,ob,n,t,b,r⟩ k=>by
  obtain ⟨fs,kt,l,a⟩:=k.tups
  obtain rfl:=r.e
  exact ⟨Value.int _ t :: fs,.cons r.g r.c r.d rfl kt,congrArg (· + 1) l,fun f hf=>by
   rcases List.mem_cons.mp hf with rfl | hf
   ·exact ⟨_,_,rfl⟩
   ·exact a f hf⟩
def y9 (p:Int × List Int):List Int:=p.1 :: p.2
theorem tJ {p q:Int × List Int} (h:y9 p=y9 q):p=q:=by
 obtain ⟨a,b⟩:=p; obtain ⟨c,d⟩:=q
 injection h with h1 h2
 rw [show a=c from h1,show b=d from h2]
def Uy (rows:List (Int × List Int)) (i j:Nat):Bool:=SR (y9 (rows.getD i (0,[]))) (y9 (rows.getD j (0,[])))
theorem Uz {rows:List (Int × List Int)} (nd:rows.Nodup):OrdB rows.length (Uy rows) where
 tr:=XH
 as:=u9
 to:=fun {i j} hi hj hne h=>by
  refine XI (fun z=>hne ?_) h
  have e:∀ {i:Nat} (h:i < rows.length),rows.getD i (0,[])=rows[i]:=fun h=>by rw [List.getD_eq_getElem?_getD,List.getElem?_eq_getElem h]; rfl
  have z:=tJ z
  rw [e hi,e hj] at z
  exact (List.getElem_inj nd).mp z
theorem VQ {vs:List Value} {rows:List (Int × List Int)} {a:Addr} (hu:A.units+1 < cLine) (r:Rows61 prog w s.heap vs rows)
  (ha:∀ v ∈ vs,∀ x ob n t b i k,Pr61 prog w s.heap v i k x ob n t b->x ≠ a /\ b ≠ a) (h2:2<=vs.length):Ut prog w A s a vs (Uy rows):=by
 refine ⟨tuples' (Value.type "int" != Value.type "tuple"),fun h' k=>?_⟩
 have r':Rows61 prog w h' vs rows:=by
  have go:∀ {vs' rows'},Rows61 prog w s.heap vs' rows' -> (∀ v ∈ vs',v ∈ vs)->Rows61 prog w h' vs' rows':=by
   intro vs' rows' q
   induction q with
   | nil=>intro _; exact .nil
   | cons q t ih =>
    intro sub
    obtain ⟨x,ob,n,t,b,q⟩:=q
    obtain ⟨n1,n2⟩:=ha _ (sub _ List.mem_cons_self) _ _ _ _ _ _ _ q
    exact .cons ⟨x,ob,n,t,b,q.e,k x ob n1 q.g,q.c,q.d,q.r.keep fun o e=>k b o n2 e⟩ (ih fun v hv=>sub v (List.mem_cons_of_mem _ hv))
  exact go r fun v hv=>hv
 obtain ⟨fs,kt,fl,fi⟩:=r'.tups
 refine ⟨fun Q E' q=>kat_kind (s:={ s with heap:=h' }) (T:=.type "int") kt (by omega) (fun v hv=>?_) (by simp) q,fun i j C hi hj c=>?_⟩
 ·obtain ⟨n,t,rfl⟩:=fi v hv
  exact Looks.of_pure rfl
 ·obtain ⟨x,ox,n,t,b,p⟩:=r'.get hi
  obtain ⟨y,oy,m,u,d,q⟩:=r'.get hj
  unfold kas_ask
  rw [p.e,q.e]
  refine kat_lt (s:={ s with heap:=h' }) p.g p.d q.g q.d ?_
  unfold Uy y9 at c
  unfold SR at c
  show KatLex prog w A _ (decide (2 < 2)) C [(Value.int _ t,Value.int _ u),(Value.ref b,Value.ref d)] 0 _
  refine kat_cons (wpAny_eqBool_int (kat_go (fun h=>?_) fun h=>?_))
  ·have h:=eq_of_beq h
   rw [if_pos h] at c
   refine kat_yes (kat_cons (Xg (s:={ s with heap:=h' }) hu p.r q.r (kat_go (fun h=>?_) fun h=>?_)))
   ·rw [of_decide_eq_true h,uq] at c
    exact kat_yes (kat_nil c)
   ·exact kat_no (kat_one _ _ (Uw (s:={ s with heap:=h' }) (by omega) p.r q.r c))
  ·have h:=ne_of_beq_false h
   rw [if_neg h] at c
   refine kat_no ?_
   exact oneLt_int c
end
section
variable {X:Cx} {K:Tl}
def xB (K:Tl) (H:Hp) (z:V) (p:Int × List Int):Prop:=∃ r b,z = .ref r /\ TC K H r [.int p.1,.ref b] /\ TC K H b (p.2.map V.int)
def WE (K:Tl):List V->Hp->VK->Prop:=fun xs H Q=>∃ (l:Addr) (zs:List V) (items:List (Int × List Int)),xs=[.ref l] /\ TB K H l zs /\ zU (xB K H) zs items /\ items.Nodup /\ items.length < 64 ∧
 ∀ (p:Addr) (zs':List V) (items':List (Int × List Int)),H p=none->items'.Perm items->items'.Pairwise (fun x y=>SR (y9 x) (y9 y)=true)->zU (xB K H) zs' items' -> Q (.ref p) (Tp H p (.lst zs'))
theorem vp {pins:List (Addr × Obj)} {σ:L2.St} {H:Hp} {s:Shared} (I:Inv X pins σ H s) {r b:Addr} {i:Int} {k:List Int} (hr:TC X.K H r [.int i,.ref b]) (hb:TC X.K H b (k.map V.int)):∃ ob n t,Pr61 X.prog X.w s.heap (.ref r) i k r ob n t b:=by
 obtain ⟨its,rv,⟨ob,eo,ec,m,ed⟩,_⟩:=I.tuple hr
 cases rv with
 | cons r1 rv =>
  cases rv with
  | cons r2 rv =>
   cases rv
   obtain ⟨t,rfl⟩:=r1
   cases r2
   exact ⟨ob,m,t,rfl,eo,ec,ed,S0.is I hb⟩
theorem tK {pins:List (Addr × Obj)} {σ:L2.St} {H:Hp} {s:Shared} (I:Inv X pins σ H s):∀ {zs:List V} {items:List (Int × List Int)} {vs:List Value},zU (xB X.K H) zs items->zC zs vs->Rows61 X.prog X.w s.heap vs items
 | [],[],_,_,.nil=>.nil
 | z :: zs,it :: items,_,⟨h,t⟩,.cons r rs=>by
  obtain ⟨a,b,rfl,ha,hb⟩:=h
  obtain ⟨ob,n,t',p⟩:=vp I ha hb
  cases r
  exact .cons ⟨a,ob,n,t',b,p⟩ (tK I t rs)
 | [],_ :: _,_,h,_=>h.elim
 | _ :: _,[],_,h,_=>h.elim
theorem Rows61.keep {prog:Program} {w:World} {h h':Heap} (k:∀ x ob,h.get? x=some ob->h'.get? x=some ob):∀ {vs rows},Rows61 prog w h vs rows->Rows61 prog w h' vs rows
 | _,_,.nil=>.nil
 | _,_,.cons ⟨x,ob,n,t,b,r⟩ q=>.cons ⟨x,ob,n,t,b,r.e,k _ _ r.g,r.c,r.d,r.r.keep fun o e=>k b o e⟩ (q.keep k)
theorem s9 {k:Nat} (hK:X.K=K) (hr0:Room k X.A):yw X (.builtin "sorted") (WE K):=by
 subst hK
 intro pins s σ H xs us Q I r h
 obtain ⟨l,zs,items,rfl,hl,hr,nd,few,q⟩:=h
 have hu:=hr0.un
 obtain ⟨u,rfl,rx⟩:=xE r
 cases (show u=Value.ref l from rx)
 obtain ⟨vs,rv,pl,hz⟩:=I.list hl
 have e1:=rv.length
 have e2:=hr.len
 have R:=tK I hr rv
 have e3:=R.len
 have o:=Uz nd
 rw [← e3] at o
 refine uw pl.isList (by omega) o (fun h2 s' k=>VQ (by show X.A.units+1+1+1 < cLine; omega) (R.keep fun x ob e=>(k x ob e).1) (fun v hv x ob n t b i kk pr=>?_) h2) fun p hp u=>?_
 ·obtain ⟨j,hj,ej⟩:=List.getElem_of_mem hv
  obtain ⟨x',ob',n',t',b',p⟩:=R.get hj
  have ex:vs.getD j Value.none=v:=by rw [List.getD_eq_getElem?_getD,List.getElem?_eq_getElem hj,ej]; rfl
  rw [ex] at p
  obtain ⟨oo,its,nn,p5,_⟩:=p.r
  have k1:=k _ _ p.g
  have k2:=k _ _ p5
  have ev:x=x':=by have:=pr.e.symm.trans p.e; exact Value.ref.inj this
  subst ev
  have eo:ob=ob':=Option.some.inj (pr.g.symm.trans k1.1)
  subst eo
  have ed:=pr.d.symm.trans p.d
  injection ed with ed _
  have eb:b=b':=by
   have:=congrArg Array.toList ed
   simp at this
   exact this.2
  subst eb
  exact ⟨k1.2,k2.2⟩
 ·obtain ⟨e,he⟩:=sortedAll_at s.heap vs (List.toArray (p.toList.map fun i=>vs.getD i Value.none))
  have hn:H (s.heap.objs.size+1)=none:=I.hok.fresh (Nat.le_succ _)
  have mem:∀ i ∈ p.toList,i < vs.length:=fun i hi=>List.mem_range.mp (hp.pm.mem_iff.mp hi)
  have rl:∀ is:List Nat,(∀ i ∈ is,i < vs.length)->zC (is.map fun i=>zs.getD i .non) (is.map fun i=>vs.getD i Value.none):=by
   intro is
   induction is with
   | nil=>intro _; exact .nil
   | cons i is ih =>
    intro hm
    have hi:=hm i List.mem_cons_self
    refine .cons ?_ (ih fun j hj=>hm j (List.mem_cons_of_mem _ hj))
    obtain ⟨u,hu,ru⟩:=rv.get (List.getElem?_eq_getElem (show i < zs.length by omega))
    dsimp only
    rw [List.getD_eq_getElem?_getD,List.getD_eq_getElem?_getD,hu,List.getElem?_eq_getElem (show i < zs.length by omega)]
    exact ru
  have al:∀ is:List Nat,(∀ i ∈ is,i < vs.length)->zU (xB X.K H) (is.map fun i=>zs.getD i .non) (is.map fun i=>items.getD i (0,[])):=by
   intro is
   induction is with
   | nil=>intro _; trivial
   | cons i is ih =>
    intro hm
    have hi:=hm i List.mem_cons_self
    refine ⟨?_,ih fun j hj=>hm j (List.mem_cons_of_mem _ hj)⟩
    obtain ⟨row,hrow,br⟩:=hr.get (List.getElem?_eq_getElem (show i < zs.length by omega))
    dsimp only
    rw [List.getD_eq_getElem?_getD,List.getD_eq_getElem?_getD,hrow,List.getElem?_eq_getElem (show i < zs.length by omega)]
    exact br
  have hpm:p.toList.Perm (List.range items.length):=by rw [← e3]; exact hp.pm
  have pw:(p.toList.map fun i=>items.getD i (0,[])).Pairwise (fun x y=>SR (y9 x) (y9 y)=true):=by
   rw [List.pairwise_map,List.pairwise_iff_getElem]
   intro i j hi hj hij
   have g:∀ {i:Nat} (h:i < p.toList.length),p.getD i 0=p.toList[i]:=fun {i} h=>by
    have h':i < p.size:=by simpa using h
    simp [Array.getD,h']
   have:=u i j hij (by rw [← hp.sz,← Array.length_toList]; exact hj)
   rw [g hi,g hj] at this
   exact this
  refine ⟨.ref (s.heap.objs.size+1),_,?_,rfl,q _ (p.toList.map fun i=>zs.getD i .non) _ hn (ZQ hpm) pw (al _ mem)⟩
  refine I.laid (t':=s.toks) (fun b o q=>sortedAll_old q) (Nat.le_succ _) (show zL X.prog X.w _ _ _ (.lst (p.toList.map fun i=>zs.getD i .non)) from ⟨by rw [List.length_map,Array.length_toList,hp.sz]; have:=sizeLine_eq; omega,_,e,rl _ mem,he⟩)
theorem WF {k:Nat} (hK:X.K=K) (hr:Room k X.A):TQ X (compareOp .Gt) (fun x y H Q=>∃ p q r t i j as bs,x = .ref p /\ y = .ref q /\ TC K H p [.int i,.ref r] /\ TC K H r (as.map V.int) /\ TC K H q [.int j,.ref t] /\ TC K H t (bs.map V.int) /\ Q (.bl (SR (j :: bs) (i :: as))) H):=by
 subst hK
 intro pins s σ H x y v u Q I rx ry h
 obtain ⟨p,q,r,t,i,j,as,bs,rfl,rfl,hp,hr',hq,ht,k⟩:=h
 have hu:=hr.un
 obtain ⟨o1,n1,t1,P⟩:=vp I hp hr'
 obtain ⟨o2,n2,t2,P'⟩:=vp I hq ht
 cases (show v=Value.ref p from rx)
 cases (show u=Value.ref q from ry)
 have hT:s.TypeIs (.ref p) "tuple":=⟨_,P.g,P.c⟩
 have hT':s.TypeIs (.ref q) "tuple":=⟨_,P'.g,P'.c⟩
 show wpAny _ _ (richCompare .Gt (.ref p) (.ref q)) _ _ s
 refine wpAny_richCompare_same_room (op:=.Gt) hT hT' F.slot_tuple_gt (wpAny_call_entry F.slot_tuple_gt hT F.entry_tuple_gt (vo P.g P.d P'.g P'.d hT' (k:=SR (j :: bs) (i :: as)) ?_ ⟨_,rfl,(fun z=>nomatch z),.bl _,H,I,rfl,k⟩) (F.args_tuple_gt_2 _ _)) (by omega)
 show LexC _ _ _ .Gt s (decide (2 < 2)) [(Value.int i t1,Value.int j t2),(Value.ref r,Value.ref t)] _
 unfold SR
 by_cases c:j=i
 ·subst c
  rw [if_pos rfl]
  refine .same (fun E Q q=>wpAny_eqBool_int (by rw [beq_self_eq_true]; exact q)) ?_
  by_cases d:as=bs
  ·subst d
   rw [uq]
   exact .same (fun E Q q=>Xg (by show X.A.units+1+1 < cLine; omega) P.r P'.r (by rw [decide_eq_true rfl]; exact q)) .nil
  ·exact .diff (fun E Q q=>Xg (by show X.A.units+1+1 < cLine; omega) P.r P'.r (by rw [decide_eq_false d]; exact q)) fun E Q q=>Ux (by show X.A.units+1 < cLine; omega) P.r P'.r q
 ·rw [if_neg c]
  exact .diff (fun E Q q=>wpAny_eqBool_int (by rw [beq_eq_false_iff_ne.mpr (Ne.symm c)]; exact q)) fun E Q q=>gt_int q
end
def VR (w:List Int):List Int:=(w.length:Int) :: w
def jw (a b:List Int):Bool:=SR (VR a) (VR b)
theorem Xp {a b:List Int} (h:a.length < b.length):jw a b=true:=by
 unfold jw VR SR
 rw [if_neg (by omega)]
 exact decide_eq_true (by omega)
theorem tL {a b:List Int} (h:a.length=b.length):jw a b=SR a b:=by
 unfold jw VR
 rw [show SR ((a.length:Int) :: a) ((b.length:Int) :: b)=(if (a.length:Int)=b.length then SR a b else decide ((a.length:Int) < b.length)) from rfl,if_pos (by rw [h])]
theorem tM {i j:Int} (h:i < j):∀ w:List Int,SR (w ++ [i]) (w ++ [j])=true
 | []=>by
  show (if i=j then SR [] [] else decide (i < j))=true
  rw [if_neg (by omega)]; exact decide_eq_true h
 | x :: w=>by
  show (if x=x then SR (w ++ [i]) (w ++ [j]) else _)=true
  rw [if_pos rfl]; exact tM h w
theorem qz {x y:List Int}:∀ {a b:List Int},a.length=b.length->SR a b=true->SR (a ++ x) (b ++ y)=true
 | [],[],_,h=>by cases h
 | [],_ :: _,l,_=>by cases l
 | _ :: _,[],l,_=>by cases l
 | p :: a,q :: b,l,h=>by
  have l':a.length=b.length:=Nat.succ.inj l
  have h':(if p=q then SR a b else decide (p < q))=true:=h
  show (if p=q then SR (a ++ x) (b ++ y) else decide (p < q))=true
  by_cases c:p=q
  ·rw [if_pos c] at h' ⊢; exact qz l' h'
  ·rw [if_neg c] at h' ⊢; exact h'
def yi (ms:List (List Int)) (S:Nat) (w:List Int):List Int:=w.foldl (fun d n=>zv d (ms.getD n.toNat [])) (SK S)
theorem vq {ms:List (List Int)} {S:Nat} {w:List Int} {n:Nat}:yi ms S (w ++ [(n:Int)])=zv (yi ms S w) (ms.getD n []):=by
 unfold yi
 rw [List.foldl_append]; rfl
theorem wv {d w:List Int}:∀ {f:FW},(zh f).Nodup->(d,w) ∈ f->zI f d=some w
 | [],_,h=>by cases h
 | p :: f,nd,h=>by
  obtain ⟨n1,n2⟩:=List.nodup_cons.mp nd
  rcases List.mem_cons.mp h with rfl | h
  ·simp [zI,List.find?_cons]
  ·have hne:p.1 ≠ d:=fun z=>n1 (by show p.1 ∈ _; rw [z]; exact List.mem_map.mpr ⟨_,h,rfl⟩)
   have:=wv n2 h
   simpa [zI,List.find?_cons,hne] using this
def XS (ms:List (List Int)) (f:FW) (k:Nat) (q:List Int × List Int):Prop:=∀ n < k,∃ p ∈ f,p.1=zv q.1 (ms.getD n []) /\ jw (q.2 ++ [(n:Int)]) p.2=false
theorem XS.more {ms:List (List Int)} {f e:FW} {k:Nat} {q:List Int × List Int} (h:XS ms f k q):XS ms (f ++ e) k q:=fun n hn=>by
 obtain ⟨p,hp,r⟩:=h n hn
 exact ⟨p,List.mem_append.mpr (.inl hp),r⟩
structure SI61 (ms:List (List Int)) (S:Nat) (f g h:FW) (L:Nat):Prop where
 ef:f=g ++ h
 hl:∀ q ∈ h,q.2.length=L
 fl:∀ q ∈ f,q.2.length<=L
 so:f.Pairwise (fun p q=>jw p.2 q.2=true)
 md:∀ q ∈ f,yi ms S q.2=q.1
 rg:∀ q ∈ f,∀ n ∈ q.2,0<=n /\ n < (ms.length:Int)
 cl:∀ q ∈ g,XS ms f ms.length q
 nd:(zh f).Nodup
structure PI61 (ms:List (List Int)) (S:Nat) (f g h e:FW) (L j i:Nat) (fm:FW × List (List Int)):Prop where
 e1:fm.1=f ++ e
 e2:fm.2=zh e
 ee:∀ q ∈ e,∃ j' i' q0,h[j']? = some q0 /\ (j' < j \/ j' = j /\ i' < i) /\ q.2=q0.2 ++ [((i':Nat):Int)]
 so:fm.1.Pairwise (fun p q=>jw p.2 q.2=true)
 md:∀ q ∈ fm.1,yi ms S q.2=q.1
 rg:∀ q ∈ fm.1,∀ n ∈ q.2,0<=n /\ n < (ms.length:Int)
 cl:∀ q ∈ g ++ h.take j,XS ms fm.1 ms.length q
 cj:∀ q,h[j]? = some q->XS ms fm.1 i q
 nd:(zh fm.1).Nodup
theorem Xq {f g h:FW} (so:f.Pairwise (fun p q=>jw p.2 q.2=true)) (ef:f=g ++ h) {i j:Nat} {p q:List Int × List Int} (hi:h[i]? = some p) (hj:h[j]? = some q) (l:i < j):jw p.2 q.2=true:=by
 rw [ef] at so
 have:=(List.pairwise_append.mp so).2.1
 obtain ⟨h1,e1⟩:=List.getElem?_eq_some_iff.mp hi
 obtain ⟨h2,e2⟩:=List.getElem?_eq_some_iff.mp hj
 have:=List.pairwise_iff_getElem.mp this i j h1 h2 l
 rw [e1,e2] at this; exact this
theorem PI61.step {ms:List (List Int)} {S:Nat} {f g h e:FW} {L j i:Nat} {fm:FW × List (List Int)} (B:SI61 ms S f g h L) (P:PI61 ms S f g h e L j i fm) {d w:List Int} (hd:h[j]? = some (d,w)) (hi:i < ms.length) :
  ∃ e',PI61 ms S f g h e' L j (i+1) (z9 d fm i (ms.getD i [])):=by
 have hdf:(d,w) ∈ f:=by rw [B.ef]; exact List.mem_append.mpr (.inr (List.mem_of_getElem? hd))
 have hdm:(d,w) ∈ fm.1:=by rw [P.e1]; exact List.mem_append.mpr (.inl hdf)
 have wl:w.length=L:=B.hl _ (List.mem_of_getElem? hd)
 have ew:=wv P.nd hdm
 have below:∀ q ∈ fm.1,jw q.2 (w ++ [(i:Int)])=true:=fun q hq=>by
  rw [P.e1] at hq
  rcases List.mem_append.mp hq with hq | hq
  ·exact Xp (by rw [List.length_append,wl]; have:=B.fl q hq; show _ < L+1; omega)
  ·obtain ⟨j',i',q0,h0,c,eq⟩:=P.ee q hq
   have l0:q0.2.length=L:=B.hl _ (List.mem_of_getElem? h0)
   rw [tL (by rw [eq,List.length_append,List.length_append,l0,wl]; rfl),eq]
   rcases c with c | ⟨rfl,c⟩
   ·have:=Xq B.so B.ef h0 hd c
    have l1:q0.2.length=w.length:=by omega
    rw [tL l1] at this
    exact qz l1 this
   ·rw [hd] at h0
    cases h0
    exact tM (by omega) w
 unfold z9
 split
 ·rename_i c
  obtain ⟨v,hv⟩:=Option.isSome_iff_exists.mp c
  refine ⟨e,P.e1,P.e2,fun q hq=>?_,P.so,P.md,P.rg,P.cl,fun q hq n hn=>?_,P.nd⟩
  ·obtain ⟨j',i',q0,h0,c,eq⟩:=P.ee q hq
   exact ⟨j',i',q0,h0,by omega,eq⟩
  ·rw [hd] at hq
   cases hq
   by_cases z:n < i
   ·exact P.cj _ hd n z
   ·obtain rfl:n=i:=by omega
    have hm:=yG hv
    refine ⟨_,hm,rfl,?_⟩
    exact u9 (below _ hm)
 ·rename_i c
  have hn:=vc c
  rw [ew]
  have se:(fm.1 ++ [(zv d (ms.getD i []),(some w).getD [] ++ [(i:Int)])]).Pairwise (fun p q=>jw p.2 q.2=true):=by
   refine List.pairwise_append.mpr ⟨P.so,List.pairwise_singleton _ _,fun a ha b hb=>?_⟩
   rw [List.mem_singleton.mp hb]
   exact below a ha
  have em:∀ {q:List Int × List Int},q ∈ fm.1 ++ [(zv d (ms.getD i []),w ++ [(i:Int)])]->q ∈ fm.1 \/ q=(zv d (ms.getD i []),w ++ [(i:Int)]):=fun hq=>(List.mem_append.mp hq).imp id List.mem_singleton.mp
  refine ⟨e ++ [(zv d (ms.getD i []),w ++ [(i:Int)])],?_,?_,fun q hq=>?_,se,fun q hq=>?_,fun q hq=>?_,fun q hq=>(P.cl q hq).more,fun q hq n hn'=>?_,?_⟩
  ·show fm.1 ++ _=_; rw [P.e1,List.append_assoc]; rfl
  ·show fm.2 ++ _=_; rw [P.e2]; unfold zh; rw [List.map_append]; rfl
  ·rcases List.mem_append.mp hq with hq | hq
   ·obtain ⟨j',i',q0,h0,c,eq⟩:=P.ee q hq
    exact ⟨j',i',q0,h0,by omega,eq⟩
   ·rw [List.mem_singleton.mp hq]
    exact ⟨j,i,_,hd,.inr ⟨rfl,Nat.lt_succ_self i⟩,rfl⟩
  ·rcases em hq with hq | rfl
   ·exact P.md q hq
   ·show yi ms S (w ++ [(i:Int)])=zv d _
    rw [vq,P.md _ hdm]
  ·rcases em hq with hq | rfl
   ·exact P.rg q hq
   ·intro n hn'
    rcases List.mem_append.mp hn' with z | z
    ·exact P.rg _ hdm n z
    ·rw [List.mem_singleton.mp z]; omega
  ·rw [hd] at hq
   cases hq
   by_cases z:n < i
   ·exact (show XS ms fm.1 i (d,w) from P.cj _ hd).more n z
   ·obtain rfl:n=i:=by omega
    exact ⟨_,List.mem_append.mpr (.inr (List.mem_singleton.mpr rfl)),rfl,uq⟩
  ·show (zh (fm.1 ++ [_])).Nodup
   unfold zh at hn ⊢
   rw [List.map_append]
   refine List.nodup_append.mpr ⟨P.nd,SJ,fun a ha b hb e=>?_⟩
   rw [e,List.mem_singleton.mp hb] at ha
   exact hn ha
theorem PI61.row {ms:List (List Int)} {S:Nat} {f g h e:FW} {L j:Nat} {fm:FW × List (List Int)} (B:SI61 ms S f g h L) (P:PI61 ms S f g h e L j 0 fm) {d w:List Int} (hd:h[j]? = some (d,w)):∀ i,i<=ms.length -> ∃ e',PI61 ms S f g h e' L j i (xr ms d i fm)
 | 0,_=>⟨e,P⟩
 | i+1,hi=>by
  obtain ⟨e',P'⟩:=PI61.row B P hd i (by omega)
  exact P'.step B hd (by omega)
theorem PI61.next {ms:List (List Int)} {S:Nat} {f g h e:FW} {L j:Nat} {fm:FW × List (List Int)} (P:PI61 ms S f g h e L j ms.length fm) {q:List Int × List Int} (hd:h[j]? = some q):PI61 ms S f g h e L (j+1) 0 fm where
 e1:=P.e1
 e2:=P.e2
 ee:=fun q hq=>by
  obtain ⟨j',i',q0,h0,c,eq⟩:=P.ee q hq
  exact ⟨j',i',q0,h0,by omega,eq⟩
 so:=P.so
 md:=P.md
 rg:=P.rg
 cl:=fun p hp=>by
  rw [List.take_succ,hd] at hp
  rcases List.mem_append.mp hp with hp | hp
  ·exact P.cl p (List.mem_append.mpr (.inl hp))
  ·rcases List.mem_append.mp hp with hp | hp
   ·exact P.cl p (List.mem_append.mpr (.inr hp))
   ·have:p=q:=by simpa using hp
    rw [this]; exact P.cj q hd
 cj:=fun _ _ n hn=>absurd hn (Nat.not_lt_zero _)
 nd:=P.nd
theorem PI61.pass {ms:List (List Int)} {S:Nat} {f g h:FW} {L:Nat} (B:SI61 ms S f g h L):∀ j,j<=h.length -> ∃ e,PI61 ms S f g h e L j 0 (zD ms (zh h) j (f,[]))
 | 0,_=>⟨[],by show f=f ++ []; rw [List.append_nil],rfl,(fun q hq=>by cases hq),B.so,B.md,B.rg,(fun q hq=>B.cl q (by simpa using hq)),(fun _ _ n hn=>absurd hn (Nat.not_lt_zero _)),B.nd⟩
 | j+1,hj=>by
  obtain ⟨e,P⟩:=PI61.pass B j (by omega)
  obtain ⟨⟨d,w⟩,hd⟩:∃ q,h[j]? = some q:=⟨_,List.getElem?_eq_getElem (by omega)⟩
  have ed:(zh h).getD j []=d:=by
   unfold zh
   rw [List.getD_eq_getElem?_getD,List.getElem?_map,hd]; rfl
  obtain ⟨e',P'⟩:=P.row B hd ms.length (Nat.le_refl _)
  refine ⟨e',?_⟩
  show PI61 ms S f g h e' L (j+1) 0 (xr ms ((zh h).getD j []) ms.length _)
  rw [ed]
  exact P'.next hd
structure End61 (ms:List (List Int)) (S:Nat) (r:FW):Prop where
 so:r.Pairwise (fun p q=>jw p.2 q.2=true)
 md:∀ q ∈ r,yi ms S q.2=q.1
 rg:∀ q ∈ r,∀ n ∈ q.2,0<=n /\ n < (ms.length:Int)
 cl:∀ q ∈ r,XS ms r ms.length q
 nd:(zh r).Nodup
theorem SI61.go {ms:List (List Int)} {S:Nat} {f g h:FW} {L:Nat} (B:SI61 ms S f g h L):∃ e,SI61 ms S (zD ms (zh h) (zh h).length (f,[])).1 f e (L+1) /\ (zD ms (zh h) (zh h).length (f,[])).2=zh e:=by
 have hl:(zh h).length=h.length:=by unfold zh; rw [List.length_map]
 rw [hl]
 obtain ⟨e,P⟩:=PI61.pass B h.length (Nat.le_refl _)
 have el:∀ q ∈ e,q.2.length=L+1:=fun q hq=>by
  obtain ⟨j',i',q0,h0,_,eq⟩:=P.ee q hq
  rw [eq,List.length_append,B.hl _ (List.mem_of_getElem? h0)]; rfl
 refine ⟨e,⟨P.e1,el,fun q hq=>?_,P.so,P.md,P.rg,fun q hq=>P.cl q (by rw [List.take_length,← B.ef]; exact hq),P.nd⟩,P.e2⟩
 rw [P.e1] at hq
 rcases List.mem_append.mp hq with hq | hq
 ·have:=B.fl q hq; omega
 ·exact Nat.le_of_eq (el q hq)
theorem FamR.end61 {ms:List (List Int)} {S:Nat} {f r:FW} {last:List (List Int)} (a:FamR ms f last r):∀ {g h:FW} {L:Nat},SI61 ms S f g h L->last=zh h->r.length<=60->End61 ms S r:=by
 induction a with
 | done c =>
  intro g h L B e l
  rcases c with c | c
  ·have:h=[]:=by
    rw [c] at e
    cases h with
    | nil=>rfl
    | cons a b=>cases e
   subst this
   have eg:=B.ef
   rw [List.append_nil] at eg
   exact ⟨B.so,B.md,B.rg,fun q hq=>B.cl q (by rw [← eg]; exact hq),B.nd⟩
  ·omega
 | step _ _ _ ih =>
  intro g h L B e l
  subst e
  obtain ⟨e,B',e2⟩:=B.go
  exact ih B' e2 l
theorem vF.end61 {ms:List (List Int)} {S:Nat} {r:FW} (h:vF ms S r) (l:r.length<=60):End61 ms S r :=
 FamR.end61 (g:=[]) (h:=[(SK S,[])]) (L:=0) h ⟨rfl,(fun q hq=>by rw [List.mem_singleton.mp hq]; rfl),(fun q hq=>by rw [List.mem_singleton.mp hq]; exact Nat.le_refl _),List.pairwise_singleton _ _,(fun q hq=>by rw [List.mem_singleton.mp hq]; rfl),(fun q hq n hn=>by rw [List.mem_singleton.mp hq] at hn; cases hn),(fun q hq=>by cases hq),SJ⟩ rfl l
theorem FamR.wl61 {ms:List (List Int)} {f r:FW} {last:List (List Int)} (a:FamR ms f last r):WL f->WL r:=by
 induction a with
 | done _=>exact id
 | step _ _ _ ih=>exact fun h=>ih (xj h _)
theorem vF.wl61 {ms:List (List Int)} {S:Nat} {r:FW} (h:vF ms S r):WL r:=FamR.wl61 h ⟨Nat.lt_succ_self 0,fun q hq=>by rw [List.mem_singleton.mp hq]; exact Nat.lt_succ_self 0⟩
theorem Ya {ms:List (List Int)} {S:Nat} {f:FW} (g:GoodF ms S f) (h:60 < f.length):¬ SM ms S:=fun ⟨l,hl,hw⟩=>by
 have:=uk g.nd fun d hd=>hw d (g.wd d hd)
 unfold zh at this
 rw [List.length_map] at this
 omega
def S1 (X:Cx) (σ:L2.St) (e:Expr) (t:TE):Prop:=∀ (pins:List (Addr × Obj)) (s:Shared) (H:Hp) (Q:VK),Inv X pins σ H s->t σ H Q->wpAny (model X.prog X.w) X.A (eval e X.env) (EP X pins σ Q) X.xe s
def S2 (X:Cx) (σ:L2.St) (st:Stmt) (t:TS):Prop:=∀ (pins:List (Addr × Obj)) (s:Shared) (H:Hp) (D:Ends),Inv X pins σ H s->t D σ H->wpAny (model X.prog X.w) X.A (exec st X.env) (SP X pins D) X.xe s
def UA (X:Cx) (σ:L2.St) (st:List Stmt) (t:TS):Prop:=∀ (pins:List (Addr × Obj)) (s:Shared) (H:Hp) (D:Ends),Inv X pins σ H s->t D σ H->wpAny (model X.prog X.w) X.A (execs st X.env) (SP X pins D) X.xe s
def re (CX:TY) (X:Cx) (σ:L2.St) (E:XK):Prop:=∀ (pins:List (Addr × Obj)) (H:Hp) (s:Shared) (e:Value) (s':Shared),Inv X pins σ H s->CX X.stack H s E e s' -> X.xe e s'
def rf (X:Cx) (ps:List (Addr × Obj)) (σ:L2.St) (E:XK):Tn:=fun e s'=>∃ (a T C:Addr) (H:Hp),e = .ref a /\ Inv X ps σ H s' /\ SE s'.heap a T (.ref C) /\ ApX X ps H a T /\ E e (some C) H
theorem vt {X:Cx} {ps:List (Addr × Obj)} {σ:L2.St} {E:XK} (hx:X.ex=[]):re (SF X.prog X.w) (pinX X ps (rf X ps σ E)) σ E:=by
 intro pins H s ex s' I hc
 obtain ⟨a,T0,C,H',rfl,os,bare,un,hok,trc,e0,t0,ne,nt,q⟩:=hc
 have I0:Inv X ps σ H s:=Inv.unpin I
 have I1:Inv X ps σ H' s':=I0.call' (ch:=[]) os un hok bare (fun b z=>absurd z (by simp))
 exact ⟨a,T0,C,H',rfl,I1,trc,ApX.of I0 hx ne nt e0 t0,q⟩
section
variable {X:Cx} {CX:TY} {k:Nat} {f C:Addr} {fd:FuncData} {ps:List Str} {sp:Sp} {dvs:List V} {ds:List Value} {E:XK} {x m:Str} {p pos apos:Pos} {e o:Expr} {es:List Expr} {ta:TE} {t:TA} {σ:L2.St}
theorem WG {pins:List (Addr × Obj)} {H:Hp} {s:Shared} {Q:VK} {us:List Value} {vs:List V} (F:FnOk X.prog X.w X.K X.mg X.base CX k f fd ps sp) (hr:Room k X.A) (hb:v6 X.K fd ps ds) (hd:zC dvs ds) (hx:re CX X σ E)
  (I:Inv X pins σ H s) (r:zC vs us) (h:sp (vs ++ dvs) H Q E):wpAny (model X.prog X.w) X.A (call (.ref f) us) (EP X pins σ Q) X.xe s:=by
 have r2:zC (vs ++ dvs) (us ++ ds):=r.append hd
 have hl:(us ++ ds).length=ps.length:=by rw [← r2.length]; exact F.len _ _ _ _ h
 refine wpAny_call (codeAny_mono (F.run X.A X.stack s H ⟨us,[]⟩ (us ++ ds) (vs ++ dvs) Q E hr I.env0 (hb s us I.kIn hl) r2 h) fun r s' hq=>?_)
 cases r with
 | error e=>exact hx pins H s e s' I hq
 | ok fl =>
  cases fl with
  | ret u=>exact I.after hq
  | next=>exact False.elim hq
  | brk=>exact False.elim hq
  | cont=>exact False.elim hq
theorem vw (c:zQ X.prog X.w X.K X.mg X.base k x ps sp) (hx:re (SF X.prog X.w) X σ E) (hr:Room k X.A) (hg:Gl X x)
  (ha:PA X (e :: es) t) (hdb:(x == ("__debug__":Str))=false:=by decide) (he:starEach (e :: es) X.env=(false,eval e X.env) :: starEach es X.env:=by rfl) (hpl:(backTo pos (starEach es X.env)).any (·.1)=false:=by rfl) :
  S1 X σ (.Call (.Name x p) (e :: es) [] pos) (Yq sp [] E t):=by
 obtain ⟨f,fd,F,hb,hk,hm⟩:=c
 intro pins s H Q I h
 refine wpAny_Call_Name_kw (wJ I hg hm ?_ hdb)
 refine PySem.W.callWith_K (h₀:=X.base) I.ok.mod.kin hk (Tx (ha pos pins s σ H _ I h) fun us s1 ⟨vs,H1,I1,r,q⟩=>⟨I1.kIn,?_⟩) he hpl
 exact WG F hr hb .nil hx I1 r q
end
section
variable {X:Cx} {st:Stmt} {rest:List Stmt} {t u:TS} {σ:L2.St} {pos:Pos} {e:Expr} {te:TE}
theorem vy (h1:S2 X σ st t) (h2:Tw X rest u):UA X σ (st :: rest) (WY t u):=by
 intro pins s H D I h
 refine wpAny_execs_cons (Tx (h1 pins s H { D with nx:=u D } I h) fun f s1 q=>?_)
 cases f with
 | next =>
  obtain ⟨σ',H',I',q⟩:=q
  exact h2 pins s1 σ' H' D I' q
 | ret v=>exact q
 | brk=>exact q
 | cont=>exact q
theorem ux (he:S1 X σ e te) (hs:swapsWith e none pos.line X.env=pure false:=by rfl):S2 X σ (.Expr e pos) (WZ te):=by
 intro pins s H D I h
 exact wpAny_Expr_any (Tx (he pins s H _ I h) fun v s1 ⟨x,H1,I1,r1,q1⟩=>⟨σ,H1,I1,q1⟩) I.quiet hs
end
def VS (i:Nat) (K:Tl) (B:Addr) (E:XK) (tb:TS) (th:Addr->TS):TS:=fun D σ H=>tb D σ H /\ ∀ (e C':Addr) (H':Hp),H' e=none->E (.ref e) (some C') H' -> mroIn K C' (.ref B)=some true /\ th e (XF i D) (σ.set i (some (.ref e))) (Tp H' e (SH e C'))
section
variable {X:Cx} {x y:Str} {C:Addr} {np hpos pos:Pos} {body suite:List Stmt} {b₀:Stmt} {tb:TS} {th:Addr->TS} {E:XK} {i:Nat} {K:Tl}
theorem WH (hK:X.K=K) (hx:X.ex=[]) (hstk:X.stack=X.env :: X.outer) (hf:X.env.frame=some X.env.locals) (O:rY X.K X.mg x C) (hg:Gl X x) (hN:X.N.Nodup) (hi:X.N[i]? = some y) (hy:X.env.kindOf y=some .local) (hy2:X.env.scope.names.lookup y=some .local)
  (hB:∀ ps σ,UA (pinX X ps (rf X ps σ E)) σ body tb) (hS:∀ e,Tw (handX X e) (b₀ :: suite) (th e)) (hdb:(x == ("__debug__":Str))=false:=by decide) :
  PS X (.Try body [.ExceptHandler (some (.Name x np)) (some y) (b₀ :: suite) hpos] [] [] pos) (VS i K C E tb th):=by
 subst hK
 intro pins s σ H D I ⟨hb,hh⟩
 refine wpAny_Try_except (wpAny_mono (hB pins σ [] s H D (Inv.pinX I) hb) (fun f s1 h1=>?_) (fun ex s1 h1=>?_))
 ·have h2:=SP.unpin h1
  cases f with
  | next=>exact wpAny_execs_nil h2
  | brk=>exact h2
  | cont=>exact h2
  | ret u=>exact h2
 ·obtain ⟨a,T,C',H',rfl,I1,trc,ap,q⟩:=h1
  have hfr:X.A.frames=some (X.env :: X.outer):=by rw [← hstk]; exact I.ok.frames
  have hst:s1.heap.FunFrames X.base (X.env :: X.outer):=by rw [← hstk]; exact I1.stack
  refine Zs (base:=X.base) (outer:=X.outer) hfr hst hf trc fun h2 T2 l=>?_
  have l':Lft (Tt X.stack) a T T2 (.ref C') s1.heap h2:=by rw [hstk]; exact l
  have I2:=Inv.left I1 hx ap l'
  have I3:Inv (handX X a) pins σ H' { s1 with heap:=h2 }:=Inv.handX I2
  obtain ⟨tl,N,nm,q0,bs,hdct,sn,sub,ab,col,dd,k0,k1,k2,k3,k5,mN,hC,hNs,hni,TL⟩:=(O X.base I.mod.kin).obj
  obtain ⟨oe,vs,oT,ts,he,hcls,_⟩:=id l.trc
  have hn:H' a=none:=ap.ha
  obtain ⟨hup,q2⟩:=hh a C' H' hn q
  refine wpAny_handleBy_cons (codeAny_handlers_test (wJ (X:=handX X a) I3 hg (O X.base I.mod.kin).bound ?_ hdb)) (by intro q; cases q)
  refine ue I2.kIn (I2.bk _ _ hC) he hcls (TL.hasType PySem.F.excBase_ValueError.hasBase) hup (codeAny_handlers_suite_as ?_)
  refine q9 (s:={ s1 with heap:=h2 }) l.trc fun h3 hk trc3=>?_
  have hT2:H' T2=none:=by
   cases r:H' T2 with
   | none=>rfl
   | some o =>
    obtain ⟨ob,z⟩:=zL.at (I1.hok T2 o r)
    rw [l.new] at z; cases z
  have ap2:ApX X pins H' T2 T2:=ApX.of I1 hx l.new l.new hT2 hT2
  have I4:=Inv.leftK I2 hx ap2 (h2:=h3) (fun b o _ n1 _ ho=>(hk b n1).trans ho) (fun b o _ n1 _ ho=>⟨o.slots,(hk b n1).trans ho⟩)
  obtain ⟨oe3,vs3,oT3,ts3,he3,hcls3,hd3,_,_,_,_,_,hv3⟩:=id trc3
  have I5:=Inv.trackX (C:=C') I4 ap he3 hcls3 hd3 hv3
  have I6:L2.Inv (handX X a) pins σ (Tp H' a (SH a C')) { s1 with heap:=h3 }:=Inv.handX I5
  refine xc (X:=handX X a) (v:=.ref a) I6 hN hi (.inl hy2) rfl (fun s5 I7=>?_) (.inr hy2)
  refine wpAny_mono (hS a pins s5 _ _ (XF i D) I7 q2) (fun f s2 h=>?_) (fun _ _ z=>False.elim z)
  cases f with
  | next =>
   obtain ⟨σ2,H2,J,q3⟩:=h
   exact xS (Inv.unhand I.ok J) hN hi hy hy2 fun s' J'=>⟨_,H2,J',q3⟩
  | brk =>
   obtain ⟨σ2,H2,J,q3⟩:=h
   exact xS (Inv.unhand I.ok J) hN hi hy hy2 fun s' J'=>⟨_,H2,J',q3⟩
  | cont =>
   obtain ⟨σ2,H2,J,q3⟩:=h
   exact xS (Inv.unhand I.ok J) hN hi hy hy2 fun s' J'=>⟨_,H2,J',q3⟩
  | ret u =>
   obtain ⟨v,σ2,H2,J,r,q3⟩:=h
   exact xS (Inv.unhand I.ok J) hN hi hy hy2 fun s' J'=>⟨v,_,H2,J',r,q3⟩
end
def UB (i:Nat) (K:Tl) (B:Addr) (tb:XK->TS) (th:Addr->TS):TS:=fun D σ H=>∃ E,VS i K B E (tb E) th D σ H
section
variable {X:Cx} {x y:Str} {C:Addr} {np hpos pos:Pos} {body suite:List Stmt} {b₀:Stmt} {th:Addr->TS} {tb:XK->TS} {i:Nat} {K:Tl}
theorem rh (hK:X.K=K) (hx:X.ex=[]) (hstk:X.stack=X.env :: X.outer) (hf:X.env.frame=some X.env.locals) (O:rY X.K X.mg x C) (hg:Gl X x) (hN:X.N.Nodup) (hi:X.N[i]? = some y) (hy:X.env.kindOf y=some .local) (hy2:X.env.scope.names.lookup y=some .local)
  (hB:∀ E:XK,∃ t:TS,(∀ ps σ,UA (pinX X ps (rf X ps σ E)) σ body t) /\ t=tb E) (hS:∀ e,Tw (handX X e) (b₀ :: suite) (th e)) (hdb:(x == ("__debug__":Str))=false:=by decide) :
  PS X (.Try body [.ExceptHandler (some (.Name x np)) (some y) (b₀ :: suite) hpos] [] [] pos) (UB i K C tb th):=by
 rintro pins s σ H D I ⟨E,h⟩
 obtain ⟨t,ht,e⟩:=hB E
 rw [← e] at h
 exact WH hK hx hstk hf O hg hN hi hy hy2 ht hS hdb pins s σ H D I h
theorem tN:Sa X "list.reverse" (fun x vs H Q=>∃ (l:Addr) (xs:List V),x = .ref l /\ vs=[] /\ H l=some (.lst xs) /\ xs.length < sizeLine /\ Q .non (Tp H l (.lst xs.reverse))):=by
 intro pins s σ H x vs v us Q I rx rv h
 obtain ⟨l,xs,rfl,rfl,hH,hz,q⟩:=h
 cases rx
 cases rv
 obtain ⟨z,its,n,r,hl,e⟩:=I.lstM hH
 refine call_meets F.slot_list_reverse ⟨_,e,rfl⟩ F.entry_list_reverse (F.args_list_reverse_1 _) (PySem.AutoListH.list_reverse_list_0 l its.toArray n (by rw [List.size_toArray]; omega)) ⟨e,?_⟩
 refine ⟨.non,_,I.lset (its':=its.reverse) hH e (by simp) (r.reverse) ?_,rfl,q⟩
 rw [List.length_reverse]; omega
end
abbrev Tk:=Option To
def VT (f:V->Hp->VK->XK->Prop):Sp:=fun vs H Q E=>∃ x,vs=[x] /\ f x H Q E
theorem wH {f:V->Hp->VK->XK->Prop} {p:Str}:∀ vs H Q E,VT f vs H Q E->vs.length=[p].length:=by rintro vs H Q E ⟨x,rfl,_⟩; rfl
theorem tP:typeLookup (.type "list") "keys" = pure none:=by rw [typeLookup_type,builtinLookup_eq_fast]; kernel_rfl
theorem xu:typeLookup (.type "list") "__getattr__" = pure none:=by rw [typeLookup_type,builtinLookup_eq_fast]; kernel_rfl
section
variable {prog:Program} {w:World} {A:Around} {E:Tn}
theorem jx (a:Addr) (u:Tok):MeetsIn prog w (Builtin.«object.__getattribute__» ⟨[.ref a,.str "keys" u],[]⟩)
  (fun A R s=>A.handled=none /\ (∃ its n,s.heap.get? a=some { cls:=.type "list",data:=.seq its n }) /\ ∀ h' tk e,Heap.NewAttrErr s.heap h' e (.ref a) "keys" -> R (.error (.ref e)) { s with heap:=h',toks:=tk }) :=
 .of_wp fun A R s ⟨hh,⟨its,n,hx⟩,hR⟩=>by
  obtain ⟨h,g,d,t,os⟩:=s
  have hT:(⟨h,g,d,t,os⟩:Shared).TypeIs (.ref a) "list":=⟨_,hx,rfl⟩
  have f4:=tP
  unfold Builtin.«object.__getattribute__»
  repeat (any_goals (first | assumption | wp_step))
  exact wpAny_raiseAttrError hh hR (attrMsg_fits (by decide +kernel) (by size_fits))
theorem vI {s:Shared} {a:Addr} {its:Array Value} {n:Nat} {Q:Option Value->Shared->Prop} (hx:s.heap.get? a=some { cls:=.type "list",data:=.seq its n }) (hA:A.handled=none)
  (hq:∀ h' tk,(∀ b o,s.heap.get? b=some o->h'.get? b=some o)->Q none { s with heap:=h',toks:=tk }) :
  wpAny (model prog w) A (getAttr? (.ref a) "keys") Q E s:=by
 obtain ⟨h,g,d,t,os⟩:=s
 have hT:∀ t',(⟨h,g,d,t',os⟩:Shared).TypeIs (.ref a) "list":=fun _=>⟨_,hx,rfl⟩
 have f1:=sub_AttributeError
 have f3:=F.slot_list_getattribute.lookup
 have f4:=F.slot_list_getattribute.bind (.ref a)
 have f5:=xu
 unfold getAttr? getAttrBy? getAttrBy
 repeat (any_goals (first | assumption | exact hT _ | ((with_reducible show wpAny _ _ (call (Value.builtin "list.__getattribute__") _ _) _ _ _); refine call_meetsIn F.slot_list_getattribute (hT _) F.entry_list_ga (F.args_list_getattribute_2 _ _) (jx a _) ⟨hA,⟨_,_,hx⟩,fun h' tk' e hxx=>?_⟩) | wp_step))
 obtain ⟨t',u',he⟩:=hxx.there
 show wpAny _ _ (getattributeRaised _ _ _ _ _ _ _) _ _ _
 unfold getattributeRaised
 have hE:∀ t2,(⟨h',g,d,t2,os⟩:Shared).TypeIs (.ref e) "AttributeError":=fun _=>⟨_,he,rfl⟩
 repeat (any_goals (first | assumption | exact hE _ | wp_step))
 exact hq _ _ hxx.keeps
end
theorem tQ:entryFor table "dict.update.loop" = some Builtin.«dict.update.loop»:=entryFor_of_tree (by kernel_rfl)
theorem xZ:plainId "dict.update.loop" = true:=by decide +kernel
def vJ (pvs:List (List To × V)):List (List To × V):=pvs.foldl (fun a p=>wt a p.1 p.2) []
theorem jy (pvs:List (List To × V)) (p:List To × V):vJ (pvs ++ [p])=wt (vJ pvs) p.1 p.2:=by unfold vJ; rw [List.foldl_append]; rfl
theorem Yb:∀ pvs:List (List To × V),(vJ pvs).length<=pvs.length:=by
 have h:∀ (l a:List (List To × V)),(l.foldl (fun a p=>wt a p.1 p.2) a).length<=a.length+l.length:=by
  intro l
  induction l with
  | nil=>intro a; exact Nat.le_refl _
  | cons p l ih =>
   intro a
   have:=ih (wt a p.1 p.2)
   have:=yM a p.1 p.2
   rw [List.foldl_cons,List.length_cons]; omega
 intro pvs
 have:=h pvs []
 simpa [vJ] using this
def tR (H:Hp) (z:V) (p:List To × V):Prop:=∃ t b,z = .ref t /\ H t=some (.tup [.ref b,p.2]) /\ H b=some (.tup (p.1.map kV))
theorem Yc {P:Program} {w:World} {h h':Heap} {ks:List To} {a:Addr} (e:(tupleKind (zB P w)).is h ks a) (k:∀ o,h.get? a=some o->h'.get? a=some o):(tupleKind (zB P w)).is h' ks a:=by
 obtain ⟨o,its,n,h1,r⟩:=e
 exact ⟨o,its,n,k o h1,r⟩
section
variable {prog:Program} {w:World} {A:Around} {E:Tn} {R:Result->Shared->Prop} {I D:Addr} {fp wr:List Addr} {n:Nat} {P:Nat->Value->Prop} {St:Nat->Heap->Prop} {H:Hp} {s₀:Shared}
theorem Yd {pvs:List (List To × V)} {zs:List V} (hu:A.in1.units+1 < cLine) (ok:Tq prog w H s₀.heap) (W:Walks prog w A.in1 I fp wr n P St) (hDf:D ∉ fp) (hD:s₀.heap.objs.size<=D) (hwr:∀ b ∈ wr,s₀.heap.objs.size<=b)
  (hn:n<=sizeLine) (hpl:pvs.length=n) (ha:zU (tR H) zs pvs) (hP:∀ i v,P i v -> ∃ z,zs[i]? = some z /\ zJ z v) :
  ∀ (k i:Nat) (s:Shared),n - i=k->i<=n->St i s.heap->(∀ b o,b ≠ D->b ∉ wr->s₀.heap.get? b=some o->s.heap.get? b=some o)->(∃ o,jB prog w H s.heap D o (vJ (pvs.take i))) →
   (∀ h' tk,(∀ b o,b ≠ D->b ∉ wr->s₀.heap.get? b=some o->h'.get? b=some o)->(∃ o,jB prog w H h' D o (vJ pvs))->R (.ok (.ret .none)) { s with heap:=h',toks:=tk }) →
   codeAny (model prog w) A (.builtin "dict.update.loop" ⟨[.ref D,.ref I,rawInt i,.none],[]⟩) R s:=by
 have hDw:D ∉ wr:=fun h=>hDf (W.sub _ h)
 have old:∀ b o,s₀.heap.get? b=some o->b ≠ D /\ b ∉ wr:=fun b o e=>⟨Nat.ne_of_lt (Nat.lt_of_lt_of_le (Heap.lt_size e) hD),fun z=>absurd (Heap.lt_size e) (Nat.not_lt.mpr (hwr b z))⟩
 intro k
 induction k with
 | zero =>
  intro i s hk hi hst kp hS hR
  have hin:i=n:=by omega
  subst hin
  refine codeAny_builtin tQ ?_
  rw [Around.under_plainId xZ _]
  show wpAny _ A.in1 (pyNext (.ref I) >>= _) _ _ s
  refine wpAny_bind (W.done s _ _ hst fun h' tk hm=>?_)
  show wpAny _ A.in1 (Builtin.Dict.addKeywords D [] >>= fun _=>ret Value.none) _ _ _
  unfold Builtin.Dict.addKeywords
  refine wpAny_bind (wpAny_pure (wpAny_pure (hR h' tk (fun b o h1 h2 e=>hm b o h2 (kp b o h1 h2 e)) ?_)))
  obtain ⟨o,dr⟩:=hS
  rw [← hpl,List.take_length] at dr
  have e:s.heap.get? D=some o:=let ⟨_,_,_,_,_,_,e,_⟩:=dr; e
  exact ⟨o,dr.at (hm D o hDw e)⟩
 | succ k ih =>
  intro i s hk hi hst kp hS hR
  have hlt:i < n:=by omega
  refine codeAny_builtin tQ ?_
  rw [Around.under_plainId xZ _]
  show wpAny _ A.in1 (pyNext (.ref I) >>= _) _ _ s
  refine wpAny_bind (W.item i s _ _ hlt hst fun v h1 tk1 hPv hst1 hk1=>?_)
  obtain ⟨z,hz,rz⟩:=hP i v hPv
  obtain ⟨p,hp,t,b,rfl,ht,hb⟩:=ha.get hz
  cases (show v=Value.ref t from rz)
  have kp1:∀ b o,b ≠ D->b ∉ wr->s₀.heap.get? b=some o->h1.get? b=some o:=fun b o h1 h2 e=>hk1 b o h2 (kp b o h1 h2 e)
  have kps:∀ b o,s₀.heap.get? b=some o->h1.get? b=some o:=fun b o e=>kp1 b o (old b o e).1 (old b o e).2 e
  obtain ⟨_,its,rits,hit⟩:=(show zL prog w H s₀.heap t (.tup [.ref b,p.2]) from ok t _ ht)
  obtain ⟨ub,rest,rfl,rb,r2⟩:∃ ub rest,its=ub :: rest /\ zJ (.ref b) ub /\ zC [p.2] rest:=by
   cases rits with
   | cons a c=>exact ⟨_,_,rfl,a,c⟩
  obtain ⟨uv,rfl,rv⟩:=xE r2
  cases (show ub=Value.ref b from rb)
  obtain ⟨ot,hot,hct,m,hdt⟩:=hit
  have hot1:=kps t ot hot
  obtain ⟨o,dr⟩:=hS
  have eD:s.heap.get? D=some o:=let ⟨_,_,_,_,_,_,e,_⟩:=dr; e
  obtain ⟨zl,hd,xs,rel,es,ep,q1,q2,q3,q4,q5⟩:=dr.at (hk1 D o hDw eD)
  have dd:h1.DictOfH (tupleKind (zB prog w)) D xs:=by
   refine ⟨o,es,ep,q1,q2,q3,q4,fun x hx=>?_,q5⟩
   have all:∀ {l:List (List To × V)} {m:List (List To × Addr × Value)},KT H l m -> ∀ x ∈ m,(tupleKind (zB prog w)).is h1 x.1 x.2.1:=by
    intro l m q
    induction q with
    | nil=>intro x hx; exact nomatch hx
    | @cons p q ps qs hq t ih =>
     intro x hx
     rcases List.mem_cons.mp hx with e | hx
     ·subst e
      exact Yc (xz ok (by rw [← hq.1]; exact hq.2.1)) (kps _)
     ·exact ih x hx
   exact all rel x hx
  have xl:xs.length<=sizeLine:=by rw [← Paired.length rel]; exact zl
  have tkS:pvs.take (i+1)=pvs.take i ++ [p]:=by rw [List.take_succ,hp]; rfl
  refine wpAny_bind (wpAny_holding ?_)
  show wpAny _ A.in1 ((Builtin.Dict.pairItems (.ref t)).tryCatch _ >>= _) _ _ _
  refine wpAny_bind (wpAny_tryCatch ?_)
  unfold Builtin.Dict.pairItems
  refine wpAny_bind (wpAny_typeOf (T:="tuple") ⟨ot,hot1,hct⟩ ?_)
  show wpAny _ _ (if (Value.type "tuple" == Value.type "list" || Value.type "tuple" == Value.type "tuple")=true then _ else _) _ _ _
  rw [if_pos (by decide)]
  refine wpAny_bind (wpAny_seqItems hot1 hdt (wpAny_pure ?_))
  show wpAny _ _ (holding [Value.ref b,uv] (dictSet D (.ref b) uv)) _ _ _
  refine wpAny_holding ?_
  refine wpAny_dictSet_heap (hsz:=xl) (show (tupleKind (zB prog w)).room A.in1 from Nat.lt_of_succ_lt hu) (Yc (xz ok hb) (kps _)) dd fun h2 dd2 sb=>?_
  obtain ⟨o2,es2,ep2,w1,w2,w3,w4,_,w5⟩:=dd2
  refine wpAny_pure ⟨plainId_quiet xZ _,?_⟩
  have pl:=Yb (pvs.take (i+1))
  rw [List.length_take] at pl
  have e1:((i:Int)+1)=((i+1:Nat):Int):=by omega
  have kp2:∀ b o,b ≠ D->b ∉ wr->s₀.heap.get? b=some o->h2.get? b=some o:=fun b o hb hw e=>sb.extBut b o hb (kp1 b o hb hw e)
  show codeAny (model prog w) A (.builtin "dict.update.loop" ⟨[.ref D,.ref I,rawInt ((i:Int)+1),.none],[]⟩) R _
  rw [e1]
  refine ih (i+1) _ (by omega) hlt (W.frame _ _ _ hst1 fun b hb o e=>sb.extBut b o (fun h=>hDf (h ▸ hb)) e) kp2 ⟨o2,by omega,hd,_,?_,es2,ep2,w1,w2,w3,w4,w5⟩ fun h' tk k' d'=>hR h' tk k' d'
  rw [tkS,jy]
  exact rel.put p.1 hb rv
end
theorem tS:∀ {zs:List V} {us:List Value} {i:Nat} {u:Value},zC zs us->us[i]? = some u -> ∃ z,zs[i]? = some z /\ zJ z u
 | _,_,_,_,.nil,h=>by cases h
 | _,_,0,_,.cons r _,h=>by cases h; exact ⟨_,rfl,r⟩
 | _,_,i+1,_,.cons _ t,h=>tS (i:=i) t h
section
variable {X:Cx}
theorem jz {k:Nat} (hr:Room k X.A):yw X (.type "dict") (fun xs H Q=>∃ a zs pvs,xs=[V.ref a] /\ H a=some (.lst zs) /\ zU (tR H) zs pvs /\ ∀ l,H l=none->Q (.ref l) (Tp H l (.dT (vJ pvs)))):=by
 intro pins s σ H xs us Q I r h
 obtain ⟨a,zs,pvs,rfl,ha,hall,q⟩:=h
 obtain ⟨u,rfl,ru⟩:=xE r
 cases ru
 obtain ⟨z,its,m,rits,ea⟩:=(show zL X.prog X.w H s.heap a (.lst zs) from I.hok a _ ha)
 have zl:=hall.len
 have il:=rits.length
 have hbig:=I.big
 refine callType_codes (Q₁:=fun obj s₁=>obj = .ref s.heap.objs.size /\ s₁ = { s with heap:=s.heap.push { cls:=.type "dict",data:=.dict #[] } }) F.kt_called_dict (F.kt_typeCall_dict_1 _) F.entry_dict_init (kt_code_dict_new _ ⟨rfl,rfl⟩) ?_
 rintro obj s₁ ⟨rfl,rfl⟩
 have hT:(s.heap.push { cls:=.type "dict",data:=.dict #[] }).get? s.heap.objs.size=some { cls:=.type "dict",data:=.dict #[] }:=Heap.get?_push_size _ rfl
 refine ⟨⟨_,hT,rfl⟩,F.args_dict_init_2 _ _,?_⟩
 unfold Builtin.«dict.__init__»
 refine wpAny_bind ?_
 unfold Builtin.Dict.selfAndRest
 refine wpAny_bind (wpAny_notOrdered_dict ⟨_,hT,rfl⟩ ?_)
 show wpAny _ _ (pure (s.heap.objs.size,[Value.ref a])) _ _ _
 refine wpAny_pure ?_
 show wpAny _ _ (Builtin.Dict.updateFrom "dict.__init__" s.heap.objs.size (.ref a) [] .none) _ _ _
 unfold Builtin.Dict.updateFrom
 have ea1:(s.heap.push { cls:=.type "dict",data:=.dict #[] }).get? a=some { cls:=.type "list",data:=.seq its.toArray m }:=Heap.get?_push_of_some _ ea
 refine wpAny_bind (wpAny_typeOf (T:="list") ⟨_,ea1,rfl⟩ ?_)
 rw [if_pos (by decide)]
 refine wpAny_bind (vI ea1 hr.hd fun h1 tk1 k1=>?_)
 rw [if_pos (by rfl)]
 refine wpAny_bind (wpAny_rule ?_)
 have eah:h1.get? a=some { cls:=.type "list",data:=.seq its.toArray m }:=k1 _ _ ea1
 have hla:h1.IsList a its.toArray:=⟨_,eah,rfl,_,rfl⟩
 have hsz:s.heap.objs.size < h1.objs.size:=Heap.lt_size (k1 _ _ hT)
 have ks:∀ b o,s.heap.get? b=some o->h1.get? b=some o:=fun b o e=>k1 b o (Heap.get?_push_of_some _ e)
 have alt:a < h1.objs.size:=Heap.lt_size eah
 refine wpAny_bind (wpAny_pyIter_list (l:=a) (items:=its.toArray) hla ?_)
 refine wpAny_pure ⟨plainId_quiet xZ _,?_⟩
 obtain ⟨_,hd0,xs0,rel0,o0,es0,ep0,q1,q2,q3,q4,q5⟩:=(ug (P:=X.prog) (w:=X.w) (H:=H) s.heap I.big)
 rw [hT] at q1
 cases q1
 cases rel0
 have hu:X.A.in1.in1.units+1 < cLine:=by have:=hr.un; show X.A.units+1+1+1 < cLine; omega
 refine Yd (A:=X.A.in1) (H:=H) (s₀:=s) (D:=s.heap.objs.size) (I:=h1.objs.size) hu I.hok (Walks.list (A:=X.A.in1.in1) hr.hd h1.objs.size a (Nat.ne_of_lt alt) its.toArray) ?_ (Nat.le_refl _) ?_ (by rw [List.size_toArray,← il]; exact z) (by rw [List.size_toArray,← il,zl]) hall ?_ _ 0 _ rfl (Nat.zero_le _) ⟨⟨_,Heap.get?_push_size _ rfl,rfl,rfl⟩,hla.push _⟩ (fun b o _ _ e=>Heap.get?_push_of_some _ (ks b o e)) ⟨_,Nat.zero_le _,hd0,[],.nil,es0,ep0,Heap.get?_push_of_some _ (k1 _ _ hT),q2,q3,q4,q5⟩ ?_
 ·intro hm
  simp only [List.mem_cons,List.mem_nil_iff,or_false] at hm
  rcases hm with e | e
  ·exact absurd e (Nat.ne_of_lt hsz)
  ·rw [← e] at ea; exact absurd (Heap.lt_size ea) (Nat.lt_irrefl _)
 ·intro b hb
  rw [List.mem_singleton.mp hb]; exact Nat.le_of_lt hsz
 ·intro i v hv
  have hv':its[i]? = some v:=by simpa using hv
  obtain ⟨y,hy,ry⟩:=tS rits hv'
  exact ⟨y,hy,ry⟩
 ·intro h' tk kp' hdr
  obtain ⟨o,dr⟩:=hdr
  refine ⟨rfl,.ref s.heap.objs.size,_,I.laid (t':=tk) (o:=.dT (vJ pvs)) (fun b ob e=>kp' b ob (Nat.ne_of_lt (Heap.lt_size e)) (fun w=>?_) e) (Nat.le_refl _) (dr.obj fun b xs e=>?_),rfl,q _ (I.hok.fresh (Nat.le_refl _))⟩
  ·have:=Heap.lt_size e
   rw [List.mem_singleton.mp w] at this; exact absurd hsz (Nat.not_lt.mpr (Nat.le_of_lt this))
  ·rw [zj (zk e (I.hok.fresh (Nat.le_refl _)))]; exact e
end
theorem qA:∀ (b a:List (List Int)),(a ++ b).Nodup->(zX a.length b).foldl (fun x p=>wt x p.1 p.2) (zX 0 a)=zX 0 (a ++ b)
 | [],a,_=>by rw [List.append_nil]; rfl
 | d :: b,a,h=>by
  have nd:d ∉ a:=fun z=>(List.nodup_append.mp h).2.2 d z d (List.mem_cons.mpr (.inl rfl)) rfl
  have e:wt (zX 0 a) (kI d) (V.int (a.length:Nat))=zX 0 (a ++ [d]):=by rw [wG _ (uo 0 nd),xV,Nat.zero_add]; rfl
  show (zX (a.length+1) b).foldl (fun x p=>wt x p.1 p.2) (wt (zX 0 a) (kI d) (V.int (a.length:Nat)))=_
  rw [e]
  have h':((a ++ [d]) ++ b).Nodup:=by rw [List.append_assoc]; exact h
  have ih:=qA b (a ++ [d]) h'
  rw [List.length_append] at ih
  rw [show a.length+1=a.length+[d].length from rfl,ih,List.append_assoc]; rfl
theorem Ye {fam:List (List Int)} (h:fam.Nodup):vJ (zX 0 fam)=zX 0 fam:=qA fam [] h
theorem v3 {m:List Addr} {H H':Hp} (g:Grow m H H') {zs:List V} {ps:List (List To × V)} (h:zU (tR H) zs ps):zU (tR H') zs ps:=h.imp fun _ _ ⟨t,b,e,h1,h2⟩=>⟨t,b,e,g.tup _ _ h1,g.tup _ _ h2⟩
theorem Yf:bootBuiltins "set" = some (.type "set"):=by decide +kernel
theorem rj {X:Cx} {K:Tl} (hK:X.K=K) (hc:X.calm=true):yw X (.builtin "all") (fun xs H Q=>∃ (l:Addr) (bs:List Bool),xs=[V.ref l] /\ TB K H l (bs.map V.bl) /\ Q (.bl (bs.all id)) H):=by subst hK; exact yt hc
theorem xB.grow {K:Tl} {H H':Hp} {m:List Addr} {z:V} {p:Int × List Int} (h:xB K H z p) (g:Grow m H H'):xB K H' z p:=let ⟨r,b,e,h1,h2⟩:=h; ⟨r,b,e,g.sqT h1,g.sqT h2⟩
structure Mk61 (K:Tl) (H:Hp) (x:V) (ms:List (List Int)) (S:Nat):Prop where
 at_:yk K H x ms
 ok:SL ms S
 s1:1<=S
 s5:S<=5
 m1:1<=ms.length
 m4:ms.length<=4
theorem Mk61.grow {K:Tl} {H H':Hp} {x:V} {ms:List (List Int)} {S:Nat} {m:List Addr} (h:Mk61 K H x ms S) (g:Grow m H H'):Mk61 K H' x ms S:=⟨g.rows h.at_,h.ok,h.s1,h.s5,h.m1,h.m4⟩
def xk (B:Addr) (K:Tl):Sp:=VT fun x H Q E=>∃ (ms:List (List Int)) (S:Nat),Mk61 K H x ms S /\ (¬ SM ms S -> ∀ e H',Grow [] H H' -> E (.ref e) (some B) H') /\ ∀ y f H',Grow [] H H' -> UQ K H' y f->vF ms S f->f.length<=60->Q y H'
def xn (B:Addr) (K:Tl):Sp:=VT fun x H Q E=>∃ (ms:List (List Int)) (S:Nat),Mk61 K H x ms S /\ (¬ SM ms S -> ∀ e H',Grow [] H H' -> E (.ref e) (some B) H') /\ ∀ y f H',Grow [] H H' -> jh K H' y (zh f)->vF ms S f->f.length<=60->Q y H'
def xo (B:Addr) (K:Tl):Sp:=VT fun x H Q E=>∃ (ms:List (List Int)) (S:Nat),Mk61 K H x ms S /\ (¬ SM ms S -> ∀ e H',Grow [] H H' -> E (.ref e) (some B) H') /\ ∀ y f H',Grow [] H H' -> yk K H' y (f.map (·.2))->vF ms S f->f.length<=60->Q y H'
def wI (B:Addr) (K:Tl):Sp:=VT fun x H Q E=>∃ (ms:List (List Int)) (S:Nat),Mk61 K H x ms S /\ (¬ SM ms S -> ∀ e H',Grow [] H H' -> E (.ref e) (some B) H') /\ ∀ y f H',Grow [] H H' -> yk K H' y (Y1 (zh f))->vF ms S f->f.length<=60->Q y H'
def qB (K:Tl):Sp:=Sg fun x y H Q=>∃ (d π:List Int) (l:Addr),zp K H x d /\ y = .ref l /\ TB K H l (π.map V.int) /\ Nm 5 π /\ Dd 5 d /\ ∀ y' H',Grow [] H H' -> zp K H' y' (SS π d)->Q y' H'
def ww (K:Tl):Sp:=Sf fun x H Q=>∃ (ms:List (List Int)) (S:Nat),Mk61 K H x ms S /\ ¬ SM ms S /\ ∀ H',Grow [] H H' -> Q (.bl true) H'
def tT (K:Tl):Sp:=Sg fun x y H Q=>∃ (ms:List (List Int)) (S:Nat) (w:List Int),Mk61 K H x ms S /\ zp K H y w /\ (∀ n ∈ w,0<=n /\ n < (ms.length:Int)) /\ ∀ y' H',Grow [] H H' -> uD H' y' (yi ms S w)->Q y' H'
def tU (K:Tl):Sp:=So fun x y z u v H Q=>∃ (ms:List (List Int)) (S:Nat) (r:FW) (q:List Int × List Int) (l:Addr),Mk61 K H x ms S /\ y = .ref l /\ H l=some (.dT (zX 0 (zh r))) /\ yk K H z (r.map (·.2)) /\ zp K H u q.1 /\ zp K H v q.2 /\ q ∈ r /\ End61 ms S r /\ WL r /\ (∀ d ∈ zh r,Dd S d) /\ r.length<=60 /\ ∀ H',Grow [] H H' -> Q (.bl true) H'
def wo (K:Tl):Sp:=Sf fun x H Q=>∃ (ms:List (List Int)) (S:Nat),Mk61 K H x ms S /\ ∀ H',Grow [] H H' -> Q (.bl true) H'
def tV (K:Tl):Sp:=Sf fun x H Q=>∃ a:Addr,x = .ref a /\ Sj H a /\ ∀ H',Grow [a] H H' -> Q (.bl true) H'
def tW (ms:List (List Int)):Nat->FW->List (List Int)->Option FW
 | 0,_,_=>none
 | n+1,f,last=>if last=[] \/ 60 < f.length then some f else tW ms n (zD ms last last.length (f,[])).1 (zD ms last last.length (f,[])).2
theorem qC {ms:List (List Int)} {r:FW}:∀ (n:Nat) {f:FW} {last:List (List Int)},tW ms n f last=some r->FamR ms f last r
 | 0,_,_,h=>by cases h
 | n+1,f,last,h=>by
  have h':(if last=[] \/ 60 < f.length then some f else tW ms n (zD ms last last.length (f,[])).1 (zD ms last last.length (f,[])).2)=some r:=h
  by_cases c:last=[] \/ 60 < f.length
  ·rw [if_pos c] at h'
   cases h'
   exact .done c
  ·rw [if_neg c] at h'
   exact .step (fun z=>c (.inl z)) (Nat.le_of_not_lt fun z=>c (.inr z)) (qC n h')
def len61 (ms:List (List Int)):Option Nat:=(tW ms 40 [(SK 5,[])] [SK 5]).map List.length
theorem Yg {ms:List (List Int)} {n:Nat} (h:len61 ms=some n):∃ r:FW,vF ms 5 r /\ r.length=n:=by
 unfold len61 at h
 cases e:tW ms 40 [(SK 5,[])] [SK 5] with
 | none=>rw [e] at h; cases h
 | some r=>rw [e] at h; exact ⟨r,qC 40 e,Option.some.inj h⟩
def yR:List Int:=[1,2,3,4,0]
def yS:List Int:=[1,2,0,3,4]
def xM:List Int:=[1,0,2,3,4]
theorem UC:∀ ms ∈ [[yR,yS],[yS,yR]],len61 ms=some 60:=by decide +kernel
theorem V1:∀ d ∈ [yR,yS,xM],Dd 5 d:=by
 intro d hd
 have:(d.length=5 /\ ∀ v ∈ d,0<=v /\ v < 5):=by
  have key:∀ d ∈ [yR,yS,xM],d.length=5 /\ ∀ v ∈ d,0<=v /\ v < 5:=by decide +kernel
  exact key d hd
 exact this
theorem WI {π:List Int} (nm:Nm 5 π) {ms:List (List Int)} (h:ms ∈ [[yR,yS],[yS,yR]]):SL (ms.map (SS π)) 5 /\ SM (ms.map (SS π)) 5 /\ ∀ f,vF (ms.map (SS π)) 5 f->f.length=60:=by
 have hM:SL ms 5:=fun m hm=>V1 m (by
  simp only [List.mem_cons,List.not_mem_nil,or_false] at h ⊢
  rcases h with rfl | rfl
  ·simp only [List.mem_cons,List.not_mem_nil,or_false] at hm; rcases hm with rfl | rfl <;> simp
  ·simp only [List.mem_cons,List.not_mem_nil,or_false] at hm; rcases hm with rfl | rfl <;> simp)
 obtain ⟨r,hr,l⟩:=Yg (UC ms h)
 have h2:=nm.famL hM hr
 have l2:(SU π r).length=60:=by unfold SU; rw [List.length_map]; exact l
 refine ⟨nm.mks hM,h2.ok.few (by omega),fun f hf=>?_⟩
 rw [FamR.eq hf h2]; exact l2
theorem VU {π:List Int} (nm:Nm 5 π) {ms:List (List Int)} (h:ms ∈ [[xM,yR,yS],[yR,xM,yS],[yR,yS,xM],[xM,yS,yR],[yS,xM,yR],[yS,yR,xM]]):SL (ms.map (SS π)) 5 :=
 nm.mks fun m hm=>V1 m (by
  simp only [List.mem_cons,List.not_mem_nil,or_false] at h ⊢
  rcases h with rfl | rfl | rfl | rfl | rfl | rfl <;> (simp only [List.mem_cons,List.not_mem_nil,or_false] at hm; rcases hm with rfl | rfl | rfl <;> simp))
theorem UR {q:List Int × List Int}:∀ {r:FW},(zh r).Nodup->q ∈ r->(r.map (·.2)).getD (SO (zh r) q.1) []=q.2
 | [],_,h=>by cases h
 | p :: r,nd,h=>by
  obtain ⟨n1,n2⟩:=List.nodup_cons.mp nd
  show ((p.2 :: r.map (·.2)).getD (if p.1=q.1 then 0 else SO (zh r) q.1+1) [])=q.2
  by_cases c:p.1=q.1
  ·rw [if_pos c]
   rcases List.mem_cons.mp h with rfl | h
   ·rfl
   ·exact absurd (show p.1 ∈ zh r by rw [c]; exact List.mem_map.mpr ⟨_,h,rfl⟩) n1
  ·rw [if_neg c]
   have h:q ∈ r:=(List.mem_cons.mp h).resolve_left fun z=>c (by rw [z])
   exact UR n2 h
theorem rk {a b:List (Int × List Int)} (ha:a.Pairwise (fun x y=>SR (y9 x) (y9 y)=true)) (hb:b.Pairwise (fun x y=>SR (y9 x) (y9 y)=true)) (p:a.Perm b):a=b:=by
 have:=ql (a:=a.map y9) (b:=b.map y9) (List.pairwise_map.mpr ha) (List.pairwise_map.mpr hb) (p.map _)
 revert this
 clear ha hb p
 induction a generalizing b with
 | nil=>intro h; cases b with | nil=>rfl | cons _ _=>cases h
 | cons x a ih =>
  intro h
  cases b with
  | nil=>cases h
  | cons y b =>
   rw [List.map_cons,List.map_cons] at h
   injection h with h1 h2
   rw [tJ h1,ih h2]
def Xr (p:Int × List Int):PySem.PyData:=.tuple [.int p.1,YL p.2]
open PySem L2 in
theorem dq_sz61 {K:Tl} {H:Hp}:∀ {zs:List V} {sz:List (Int × List Int)},zU (xB K H) zs sz->DqAll K H zs (sz.map Xr)
 | [],[],_=>.nil
 | z :: zs,p :: sz,⟨h,t⟩=>by
  obtain ⟨r,b,rfl,h1,h2⟩:=h
  exact .cons (.tup h1 (.cons (.int _) (.cons (uS ⟨b,rfl,h2⟩) .nil))) (dq_sz61 t)
 | [],_ :: _,h=>h.elim
 | _ :: _,[],h=>h.elim
theorem qD:∀ sz:List (Int × List Int),PySem.PyData.depthAll (sz.map Xr)<=4
 | []=>Nat.zero_le _
 | p :: sz=>by
  have h1:=qD sz
  have h2:(Xr p).depth<=4:=by
   show PySem.PyData.depthAll [PySem.PyData.int p.1,YL p.2]+1<=4
   have:(YL p.2).depth<=1:=by show PySem.PyData.depthAll (p.2.map PySem.PyData.int)+1<=1; rw [wF]; exact Nat.le_refl _
   show max _ (max _ 0)+1<=4
   have e:(PySem.PyData.int p.1).depth=0:=rfl
   omega
  show max _ _<=4
  omega
theorem US {rows:List (List Int)} (h60:rows.length<=60) (h:∀ row ∈ rows,row.length<=60 /\ ∀ v ∈ row,0<=v /\ v < 60):Sh (.tuple (rows.map qP)) 7000000 2:=by
 refine (XB (sw (w:=115383) (n:=1) fun row hr=>?_)).mono ?_ (Nat.le_refl _)
 ·obtain ⟨h1,h2⟩:=h row hr
  refine (Wg (n:=0) fun v hv=>?_).mono (by omega) (Nat.le_refl _)
  have:=h2 v hv
  exact ⟨by omega,by omega⟩
 ·omega
open PySem L2 in
theorem rev2_61 {R:V->List Int->Prop}:∀ {zs:List V} {d e:List Int},zU R zs [d,e]->zU R zs.reverse [e,d]
 | [_,_],_,_,h=>⟨h.2.1,h.1,trivial⟩
 | [],_,_,h=>h.elim
 | [_],_,_,h=>h.2.elim
 | _ :: _ :: _ :: _,_,_,h=>h.2.2.elim
theorem VV {fam:List (List Int)} {i j:Nat} (hi:i < fam.length) (hj:j < fam.length):((Y1 fam).getD i []).getD j 0=((SO fam (zv (fam.getD i []) (fam.getD j [])):Nat):Int):=by
 unfold Y1
 simp only [List.getD_eq_getElem?_getD,List.getElem?_map,List.getElem?_eq_getElem hi,List.getElem?_eq_getElem hj,Option.map_some,Option.getD_some]
theorem UD {ms:List (List Int)} {i:Nat} (h:ms ∈ [[yR,yS],[yS,yR]]) (hi:i<=2):ms.take i ++ [xM] ++ ms.drop i ∈ [[xM,yR,yS],[yR,xM,yS],[yR,yS,xM],[xM,yS,yR],[yS,xM,yR],[yS,yR,xM]]:=by
 have key:∀ ms ∈ [[yR,yS],[yS,yR]],∀ i < 3,ms.take i ++ [xM] ++ ms.drop i ∈ [[xM,yR,yS],[yR,xM,yS],[yR,yS,xM],[xM,yS,yR],[yS,xM,yR],[yS,yR,xM]]:=by decide +kernel
 exact key ms h i (by omega)
open PySem L2 in
theorem ins61 {R:V->List Int->Prop} {y:V} {x:List Int} (hy:R y x):∀ {zs:List V} {ms:List (List Int)} (i:Nat),ms.length=2->i<=2->zU R zs ms->zU R (zs.take i ++ [y] ++ zs.drop i) (ms.take i ++ [x] ++ ms.drop i)
 | [_,_],[_,_],0,_,_,h=>⟨hy,h⟩
 | [_,_],[_,_],1,_,_,h=>⟨h.1,hy,h.2⟩
 | [_,_],[_,_],2,_,_,h=>⟨h.1,h.2.1,hy,trivial⟩
 | _,_,_+3,_,hi,_=>absurd hi (by omega)
 | _,[],_,l,_,_=>absurd l (by decide)
 | _,[_],_,l,_,_=>absurd l (by simp)
 | _,_ :: _ :: _ :: _,_,l,_,_=>absurd l (by simp)
 | [],[_,_],_,_,_,h=>h.elim
 | [_],[_,_],_,_,_,h=>h.2.elim
 | _ :: _ :: _ :: _,[_,_],_,_,_,h=>h.2.2.elim
end L3
namespace My
open PySem PySem.Spec PyProof.Rows L2 L3
def S3 (i:Nat):Stmt:=PySem.Challenge.pw_joinedasks_k61_whole_families.main.body.getD i (.Pass ⟨0,0,0,0⟩)
section
variable {P:Program} {w:World} {K:Tl} {mg:Str->Option Value} {base:Heap} {n:Nat} {f:Addr} {fd:FuncData}
theorem wB:FnScope ["one","other"] ["one","other"] (zf (S3 13)):=⟨rfl,rfl,rfl,by decide +kernel,rfl,by decide +kernel,by decide +kernel⟩
theorem wC (F:Fun K "by_table_then" "by_table_then" (S3 13) f fd) (B:Blt mg)      :
  FnOk P w K mg base Sb (n+1) f fd ["one","other"] (yy K):=by
 refine F.ok wB xG (fun cdv A outer s H vs Q E hr h=>?_)
 obtain ⟨x,y,rfl,S,a,b,⟨ra,rfl,ha⟩,⟨rb,rfl,hb⟩,hS,hl,h5,q⟩:=h
 refine ⟨_,(zg (zz (zx zt rfl B.tuple zG (za (zP (CSc.of (N':=["state","other"]) (sub:=[none,some 1]) (zf (S3 13)) ["one","other"] rfl rfl (by decide +kernel) rfl) rfl (yC (pv 0)) (fun _ _ _ _ _ _=>zo (i:=0) (show (["state","other"]:List Str).Nodup by decide +kernel) rfl (Or.inl rfl)) (fun _ _ _ _ _ _=>zA) (fun _ _ _ _ _ _=>(yr (ss (K:=K) rfl) (pv 1) (pv 0) (fun _ _=>rfl)))) zb)))),?_⟩
 refine ⟨_,rfl,ra,rfl,⟨_,ha⟩,yh (vi fun i=>b.getD i.toNat 0) ha (by rw [List.length_map]; omega) ?_ ?_⟩
 ·intro v H2 R hv g k
  obtain ⟨i,hi,rfl⟩:=List.mem_map.mp hv
  have:=hS i hi
  exact ⟨_,rfl,_,rfl,rb,_,i,_,rfl,rfl,g.sqT hb,WK this.1 (by omega),k _ (Grow.refl _ _)⟩
 intro H2 l g hl
 have e:(a.map V.int).map (vi fun i=>b.getD i.toNat 0)=(zv a b).map V.int:=by
  unfold zv
  rw [List.map_map,List.map_map]; rfl
 rw [e]
 exact ⟨l,_,rfl,.inl ⟨TB.of zc,fun t ht=>q _ _ (g.trans ((Grow.new hl _).trans (Grow.new ht _))) ⟨t,rfl,zc⟩⟩⟩
theorem rn:FnScope ["thing"] ["thing"] (zf (S3 5)):=⟨rfl,rfl,rfl,by decide +kernel,rfl,by decide +kernel,by decide +kernel⟩
theorem rq (F:Fun K "is_whole" "is_whole" (S3 5) f fd) (B:Blt mg)      :
  FnOk P w K mg base Sb (n+1) f fd ["thing"] (wT K):=by
 refine F.ok rn yY (fun cdv A outer s H vs Q E hr h=>?_)
 obtain ⟨x,rfl,⟨T,ty⟩,q⟩:=h
 refine ⟨_,(zg (zz (xv (ze yL rfl B.isinstance zr (za (pv 0) (za (xx rfl B.int Uh) zb))) (wL (rA (ze yL rfl B.isinstance zr (za (pv 0) (za (xx rfl B.bool Vf) zb)))))))),?_⟩
 cases x with
 | non=>cases (show T = "NoneType" from ty); exact ⟨_,rfl,_,_,_,false,rfl,rfl,rfl,_,rfl,rK q⟩
 | bl y=>cases (show T = "bool" from ty); exact ⟨_,rfl,_,_,_,true,rfl,rfl,rfl,_,rfl,jY ⟨_,rfl,_,_,_,true,rfl,rfl,rfl,_,rfl,q⟩⟩
 | int i=>cases (show T = "int" from ty); exact ⟨_,rfl,_,_,_,true,rfl,rfl,rfl,_,rfl,jY ⟨_,rfl,_,_,_,false,rfl,rfl,rfl,_,rfl,q⟩⟩
 | str y=>cases (show T = "str" from ty); exact ⟨_,rfl,_,_,_,false,rfl,rfl,rfl,_,rfl,rK q⟩
 | byt y=>exact ty.elim
 | flt y=>exact ty.elim
 | ty y=>exact ty.elim
 | ref a =>
  rcases ty with ⟨rfl,xs,hq⟩ | ⟨rfl,xs,hq⟩ | ⟨rfl,kvs,hq⟩
  ·exact ⟨_,rfl,_,_,_,false,rfl,.inl ⟨rfl,xs,hq⟩,rfl,_,rfl,rK q⟩
  ·exact ⟨_,rfl,_,_,_,false,rfl,.inr (.inl ⟨rfl,xs,hq⟩),rfl,_,rfl,rK q⟩
  ·exact ⟨_,rfl,_,_,_,false,rfl,.inr (.inr ⟨rfl,kvs,hq⟩),rfl,_,rfl,rK q⟩
theorem tX:FnScope ["thing","least","greatest"] ["thing","least","greatest"] (zf (S3 6)):=⟨rfl,rfl,rfl,by decide +kernel,rfl,by decide +kernel,by decide +kernel⟩
theorem tY (F:Fun K "is_within" "is_within" (S3 6) f fd) (B:Blt mg) (qc0:zu P w K mg base n "is_whole" ["thing"] (wT K))     :
  FnOk P w K mg base Sb (n+1) f fd ["thing","least","greatest"] (wq K):=by
 refine F.ok tX j6 (fun cdv A outer s H vs Q E hr h=>?_)
 obtain ⟨x,y,z,rfl,i,l,u,rfl,rfl,rfl,q⟩:=h
 refine ⟨_,(zg (zz (xv (zm qc0 hr rfl (za (pv 0) zb)) (wL (rF uF uF (pv 1) (pv 0) (pv 2)))))),?_⟩
 refine ⟨_,rfl,_,rfl,Vj,_,rfl,jY ⟨_,rfl,_,rfl,_,_,rfl,rfl,_,rfl,?_⟩⟩
 by_cases c:l<=i
 ·refine xp (decide_eq_true c) ⟨_,rfl,_,_,rfl,rfl,?_⟩
  rw [decide_eq_true c] at q; exact q
 ·refine z8 (decide_eq_false c) ?_
  rw [decide_eq_false c] at q; exact q
theorem vK:FnScope ["thing"] ["thing"] (zf (S3 11)):=⟨rfl,rfl,rfl,by decide +kernel,rfl,by decide +kernel,by decide +kernel⟩
theorem vL (F:Fun K "is_by_table" "is_by_table" (S3 11) f fd) (B:Blt mg) (qc0:zu P w K mg base n "is_within" ["thing","least","greatest"] (wq K))   {t_MOST_STATES:Tok} (g_MOST_STATES:mg "MOST_STATES" = some (.int 5 t_MOST_STATES))  :
  FnOk P w K mg base Sb (n+1) f fd ["thing"] (xy K):=by
 refine F.ok vK yY (fun cdv A outer s H vs Q E hr h=>?_)
 obtain ⟨x,rfl,row,⟨r,rfl,hs⟩,l1,l2,hr0,q⟩:=h
 refine ⟨_,(zd (yq (PW.pt (vC (yB (yV (ze yL rfl B.isinstance zr (za (pv 0) (za (xx rfl B.tuple zG) zb))))) (wK (yB (rG uF uF zi (ze zq rfl B.len yg (za (pv 0) zb)) (yJ rfl g_MOST_STATES (show zJ (.int 5) (.int 5 t_MOST_STATES) from ⟨_,rfl⟩))))))) (zg (zz yT)) zE) (zg (zz (ze (yt rfl) rfl B.all sj (za (zP (CSc.of (N':=["state","thing"]) (sub:=[none,some 0]) (zf (S3 11)) ["thing"] rfl rfl (by decide +kernel) rfl) rfl (yC (pv 0)) (fun _ _ _ _ _ _=>zo (i:=0) (show (["state","thing"]:List Str).Nodup by decide +kernel) rfl (Or.inl rfl)) (fun _ _ _ _ _ _=>zA) (fun _ _ _ _ _ _=>(zm qc0 hr rfl (za (pv 0) (za zi (za (zY rE (ze (yF (K:=K) rfl) rfl B.len yg (za (pv 1) zb)) zi) zb)))))) zb))))),?_⟩
 have hl:(row.map V.int).length=row.length:=List.length_map ..
 refine ⟨_,rfl,_,_,_,true,rfl,.inl ⟨rfl,_,hs⟩,rfl,_,rfl,rK ?_⟩
 refine ⟨_,rfl,r,_,rfl,.inr hs,_,_,rfl,rfl,_,rfl,xp (decide_eq_true (by rw [hl]; omega)) ⟨_,_,rfl,rfl,_,rfl,z8 (by rw [decide_eq_true (show ((row.map V.int).length:Int)<=5 by rw [hl]; omega)]; rfl) ?_⟩⟩
 refine ⟨_,rfl,r,rfl,⟨_,hs⟩,yh (fun _=>V.bl true) hs (by rw [hl]; omega) ?_ ?_⟩
 ·intro v H2 R hv g k
  obtain ⟨i,hi,rfl⟩:=List.mem_map.mp hv
  have:=hr0 i hi
  refine ⟨_,rfl,_,rfl,r,_,rfl,.inr (g.sqT hs),_,_,rfl,rfl,_,_,_,rfl,_,_,_,rfl,rfl,rfl,?_⟩
  rw [decide_eq_true this.1,decide_eq_true (show i<=((row.map V.int).length:Int) - 1 by rw [hl]; omega)]
  exact k _ (Grow.refl _ _)
 ·intro H2 p g hp
  refine ⟨p,row.map (fun _=>true),rfl,TB.of (by rw [zc,YB]),?_⟩
  rw [yE]
  exact q _ (g.trans (Grow.new hp _))
theorem wD:FnScope ["thing","least","most"] ["thing","least","most"] (zf (S3 12)):=⟨rfl,rfl,rfl,by decide +kernel,rfl,by decide +kernel,by decide +kernel⟩
theorem wE (F:Fun K "need_by_table" "need_by_table" (S3 12) f fd) (B:Blt mg) (qc0:zu P w K mg base n "is_by_table" ["thing"] (xy K))     :
  FnOk P w K mg base Sb (n+1) f fd ["thing","least","most"] (yH K):=by
 refine F.ok wD j6 (fun cdv A outer s H vs Q E hr h=>?_)
 obtain ⟨x,y,z,rfl,R,M,lo,hi,rows,hx,rfl,rfl,b1,b2,r1,r2,m1,m2,hT,q⟩:=h
 refine ⟨_,(zd (yq (PW.pt (vC (yB (yV (ze yL rfl B.isinstance zr (za (pv 0) (za (xx rfl B.tuple zG) zb))))) (wK (yB (rG uF uF (pv 1) (ze zq rfl B.len yg (za (pv 0) zb)) (pv 2)))))) (zg v5) zE) (zd (yq (yB (yV (ze (yt rfl) rfl B.all sj (za (zP (CSc.of (N':=["deed"]) (sub:=[none]) (zf (S3 12)) ["thing","least","most"] rfl rfl (by decide +kernel) rfl) rfl (yC (pv 0)) (fun _ _ _ _ _ _=>zo (i:=0) (show (["deed"]:List Str).Nodup by decide +kernel) rfl (Or.inl rfl)) (fun _ _ _ _ _ _=>zA) (fun _ _ _ _ _ _=>(zm qc0 hr rfl (za (pv 0) zb)))) zb)))) (zg v5) zE) (zg (yq (yB (yV (ze (yt rfl) rfl B.all sj (za (zP (CSc.of (N':=["deed","thing"]) (sub:=[none,some 0]) (zf (S3 12)) ["thing","least","most"] rfl rfl (by decide +kernel) rfl) rfl (yC (pv 0)) (fun _ _ _ _ _ _=>zo (i:=0) (show (["deed","thing"]:List Str).Nodup by decide +kernel) rfl (Or.inl rfl)) (fun _ _ _ _ _ _=>zA) (fun _ _ _ _ _ _=>(wP sg (ze (yF (K:=K) rfl) rfl B.len yg (za (pv 0) zb)) (ze (yF (K:=K) rfl) rfl B.len yg (za (yr (ss (K:=K) rfl) (pv 1) zi (fun _ _=>rfl)) zb)) (zT _)))) zb)))) (zg v5) zE)))),?_⟩
 have hx0:=hx
 obtain ⟨r,xs,rfl,hs,hall⟩:=hx0
 have hl:=hall.len
 have hR:=hT.1
 refine ⟨_,rfl,_,_,_,true,rfl,.inl ⟨rfl,_,hs⟩,rfl,_,rfl,rK ?_⟩
 refine ⟨_,rfl,_,rfl,r,_,rfl,.inr hs,_,_,rfl,rfl,_,rfl,xp (decide_eq_true (by omega)) ⟨_,rfl,_,_,rfl,rfl,_,rfl,z8 (by rw [decide_eq_true (show (xs.length:Int)<=hi by omega)]; rfl) ?_⟩⟩
 refine ⟨_,rfl,r,rfl,⟨_,hs⟩,yh (fun _=>V.bl true) hs (by omega) ?_ ?_⟩
 ·intro v H2 R' hv g k
  obtain ⟨i,hi⟩:=List.getElem?_of_mem hv
  obtain ⟨row,hrow,hb⟩:=hall.get hi
  have ho:=hT.2 row (List.mem_of_getElem? hrow)
  exact ⟨_,rfl,_,rfl,row,g.board hb,by omega,by omega,by rw [ho.1]; exact ho.2,fun H3 g3=>k _ g3⟩
 intro H2 p g hp
 refine ⟨p,xs.map (fun _=>true),rfl,TB.of (by rw [zc,List.map_map]; rfl),_,rfl,z8 (by rw [yE]; rfl) ?_⟩
 have g2:=g.trans (Grow.new hp (.lst (xs.map fun _=>V.bl true)))
 have hs2:=g2.sqT hs
 have hall2:=g2.boardsR hall
 obtain ⟨ra,hra,hsa⟩:=wU hall2 (i:=0) (by decide) (by omega)
 have hrl:=(Uk hT (i:=0) (by decide) (by omega)).1
 refine ⟨_,rfl,r,rfl,⟨_,hs2⟩,yh (fun _=>V.bl true) hs2 (by omega) ?_ ?_⟩
 ·intro v H3 R' hv g3 k
  obtain ⟨i,hi⟩:=List.getElem?_of_mem hv
  obtain ⟨row,hrow,rr,rfl,hrr⟩:=hall2.get hi
  have ho:=hT.2 row (List.mem_of_getElem? hrow)
  refine ⟨_,rfl,rr,_,rfl,.inr (g3.sqT hrr),_,rfl,r,_,_,_,rfl,rfl,g3.sqT hs2,hra,ra,_,rfl,.inr (g3.sqT hsa),rfl,?_⟩
  rw [decide_eq_true (congrArg V.int (show ((row.map V.int).length:Int)=(((rows.getD (0:Int).toNat []).map V.int).length:Int) by rw [List.length_map,List.length_map,ho.1,hrl]))]
  exact k _ (Grow.refl _ _)
 ·intro H3 p3 g3 hp3
  refine ⟨p3,xs.map (fun _=>true),rfl,TB.of (by rw [zc,List.map_map]; rfl),_,rfl,z8 (by rw [yE]; rfl) ?_⟩
  exact q _ (g2.trans (g3.trans (Grow.new hp3 _)))
theorem yd:FnScope ["deeds","leaving","found","newest","following","last","number","deed","another"] ["deeds"] (zf (S3 14)):=⟨rfl,rfl,rfl,by decide +kernel,rfl,by decide +kernel,by decide +kernel⟩
theorem Xs (F:Fun K "grown" "grown" (S3 14) f fd) (B:Blt mg) {A_TooMany:Addr} (x_TooMany:rY K mg "TooMany" A_TooMany) (qc0:zu P w K mg base n "by_table_then" ["one","other"] (yy K)) (qc1:zu P w K mg base n "need_by_table" ["thing","least","most"] (yH K))  (g_enumerate:mg "enumerate" = none) {t_MOST_IN_FAMILY:Tok} (g_MOST_IN_FAMILY:mg "MOST_IN_FAMILY" = some (.int 60 t_MOST_IN_FAMILY)) {t_MOST_GIVEN:Tok} (g_MOST_GIVEN:mg "MOST_GIVEN" = some (.int 4 t_MOST_GIVEN))  :
  FnOk P w K mg base (SF P w) (n+1) f fd ["deeds"] (xk A_TooMany K):=by
 refine Fun.okX F yd wH (fun cdv A outer s H vs Q E hr h=>?_)
 obtain ⟨x,rfl,ms,S,hM0,qe2,q⟩:=h
 refine ⟨_,(zd (yp (zm qc1 hr rfl (za (pv 0) (za zi (za (yJ rfl g_MOST_GIVEN (show zJ (.int 4) (.int 4 t_MOST_GIVEN) from ⟨_,rfl⟩)) zb))))) (zd (zH (i:=1) yd.nd rfl (Or.inl rfl) (xI rfl rfl B.tuple rfl B.range (za (ze zq rfl B.len yg (za (yr yD (pv 0) zi (fun _ _=>rfl)) zb)) zb))) (zd (zH (i:=2) yd.nd rfl (Or.inl rfl) (uZ (Room.u1F hr) (pv 1) (yj zb))) (zd (zH (i:=3) yd.nd rfl (Or.inl rfl) (xw (za (pv 1) zb))) (zd (rC PassesOwn.leaving (Yo (pv 3) (fun _=>rfl)) (zd (zH (i:=4) yd.nd rfl (Or.inl rfl) (xw zb)) (zd (xO PassesOwn.leaving rfl (jJ (pv 3)) (zo (i:=5) yd.nd rfl (Or.inl rfl)) (zg (xO PassesOwn.leaving rfl (xQ true (K:=K) rfl rfl g_enumerate (za (pv 0) zb)) (uE rfl (zS (zo (i:=6) yd.nd rfl (Or.inl rfl)) (zS (zo (i:=7) yd.nd rfl (Or.inl rfl)) xD))) (zd (zH (i:=8) yd.nd rfl (Or.inl rfl) (zm qc0 hr rfl (za (pv 5) (za (pv 7) zb)))) (zg (yq (jG (uY (Room.u1F hr) (pv 8) (pv 2))) (zd (Zy (Room.u1F hr) (pv 2) (pv 8) (zY (sJ (K:=K) rfl) (sP (Room.u1F hr) (pv 2) (pv 5) (fun _ _=>rfl)) (yj (za (pv 6) zb))) rfl) (zg (yp (si PySem.F.plainAttrs_list PySem.F.slot_list_append PySem.F.type_list_append yf (pv 4) (za (pv 8) zb))))) zE)))))) (zd (yq (zO XZ (ze wf rfl B.len yg (za (pv 2) zb)) (yJ rfl g_MOST_IN_FAMILY (show zJ (.int 60) (.int 60 t_MOST_IN_FAMILY) from ⟨_,rfl⟩)) (zT _)) (zg (YR rfl x_TooMany rfl Zr WU)) zE) (zg (zH (i:=3) yd.nd rfl (Or.inl rfl) (pv 4))))))) (zg (zz (pv 2)))))))),?_⟩
 obtain ⟨hx00,hM,s1,s5,m1,m4⟩:=hM0
 refine ⟨_,rfl,_,_,_,rfl,ms.length,S,1,4,ms,hx00,rfl,rfl,by omega,by omega,m1,by omega,s1,s5,⟨rfl,hM⟩,fun H0 g00=>?_⟩
 have hx:=g00.rows hx00
 have hx0:=hx
 obtain ⟨rt,xs,rfl,hs,hall⟩:=hx0
 have hlen:=hall.len
 obtain ⟨r0,g0,s0⟩:=wU hall (i:=0) (by decide) (by omega)
 have l0:(ms.getD 0 []).length=S:=(hM _ (zK (by omega))).1
 refine ⟨_,rfl,rt,_,_,_,rfl,rfl,hs,g0,r0,_,rfl,.inr s0,S,by rw [List.length_map]; exact congrArg (fun n:Nat=>[V.int n]) l0,by omega,fun t0 ht0=>?_⟩
 refine fun l hl=>⟨_,rfl,Sk rfl,fun t1 ht1=>?_⟩
 have gA:=Grow.new (m:=[]) ht0 (.tup ((List.range S).map fun i:Nat=>V.int i))
 have hHl:H0 l=none:=gA.free (by simp) hl
 have gB:=Grow.new (m:=[]) hl (.dT [])
 have gC:=Grow.new (m:=[]) ht1 (.tup [])
 have eD:=gC.keep _ _ (by simp) (zc (H:=Tp H0 t0 (.tup ((List.range S).map fun i:Nat=>V.int i))) (a:=l) (o:=.dT []))
 refine ⟨eD,t0,kI (SK S),rfl,?_,?_⟩
 ·rw [vG,← ZE]; exact (gB.trans gC).tup _ _ zc
 have gD:=Grow.setDT (m:=[l]) eD (by simp) [(kI (SK S),V.ref t1)]
 have kt0:uD (Tp H0 t0 (.tup ((List.range S).map fun i:Nat=>V.int i))) (.ref t0) (SK S):=⟨t0,rfl,by rw [← ZE]; exact zc⟩
 refine ⟨_,rfl,Sk rfl,fun lv0 hlv0=>?_⟩
 have gE:=Grow.new (m:=[]) hlv0 (.lst [V.ref t0])
 have gAll:Grow [l] H0 _:=(gA.wk.trans (gB.wk.trans gC.wk)).trans (gD.trans gE.wk)
 refine ⟨fun m σ H0'=>∃ (lv:Addr) (e4 e5 e6 e7 e8:Option V) (f:FW) (last:List (List Int)) (kvs:List (List To × V)) (zs:List V),σ = [some (.ref rt),some (.ref t0),some (.ref l),some (.ref lv),e4,e5,e6,e7,e8] /\ Grow [l] H0 H0' /\ H0' l=some (.dT kvs) /\ SN K H0' kvs f /\ H0' lv=some (.lst zs) /\ zU (uD H0') zs last /\ (∀ r,FamR ms f last r->vF ms S r) /\ LI ms S f last /\ WL f /\ f.length<=60 /\ m=(if last=[] then 0 else 1)+2 * (301 - f.length),?_,?_⟩
 ·refine ⟨_,lv0,_,_,_,_,_,[(SK S,[])],[SK S],_,_,rfl,gAll,gE.keep _ _ (by simp) zc,⟨⟨rfl,t1,rfl,?_⟩,trivial⟩,zc,.one (kt0.grow (((gB.trans gC).wk).trans (gD.trans gE.wk))),fun r h=>h,LI.init ms S,⟨by show 0 < 1; decide,fun q hq=>by rw [List.mem_singleton.mp hq]; show 0 < 1; decide⟩,by show 1<=60; decide,rfl⟩
  exact TC.of ((gD.trans gE.wk).tup _ _ zc)
 rintro m σ H2 ⟨lv,e4,e5,e6,e7,e8,f,last,kvs,zs,rfl,g2,hl2,hk2,hv2,ha2,hR,hI,hW,h300,rfl⟩
 have zl:=ha2.len
 have kl:=hk2.len
 have c2:=h300
 refine ⟨_,rfl,_,.inl ⟨_,TB.of hv2,rfl⟩,?_⟩
 by_cases c:last=[]
 ·have z0:zs=[]:=List.eq_nil_of_length_eq_zero (by rw [zl,c]; rfl)
  refine z8 (by rw [z0]; rfl) ⟨_,rfl,q _ f _ (g00.trans (g2.less fun b hb=>.inr (by rw [List.mem_singleton.mp hb]; exact hHl))) ⟨l,kvs,rfl,hl2,hk2⟩ (hR f (.done (.inl c))) c2⟩
 have zne:zs ≠ []:=fun z=>c (List.eq_nil_of_length_eq_zero (by rw [← zl,z]; rfl))
 refine xp (by cases zs with | nil=>exact absurd rfl zne | cons _ _=>rfl) ⟨_,fun σ' H' z=>z,?_⟩
 have lastl:last.length<=60:=Nat.le_trans hI.len c2
 refine ⟨Sk rfl,fun p hp=>?_⟩
 have gp:=Grow.new (m:=[]) hp (.lst [])
 have nl:l ≠ p:=fun z=>by rw [← z,hl2] at hp; cases hp
 have nv:lv ≠ p:=fun z=>by rw [← z,hv2] at hp; cases hp
 have nlv:lv ≠ l:=fun z=>by rw [z,hl2] at hv2; cases hv2
 have hHp:H0 p=none:=g2.free (fun z=>nl (List.mem_singleton.mp z).symm) hp
 have nvm:lv ∉ [l,p]:=fun z=>by
  rcases List.mem_cons.mp z with w | w
  ·exact nlv w
  ·exact nv (List.mem_singleton.mp w)
 refine ⟨_,rfl,lv,rfl,⟨zs,TB.of (gp.keep _ _ (by simp) hv2)⟩,rD (xs:=zs) (fun j σ H0'=>∃ (e5 e6 e7 e8:Option V) (kvs':List (List To × V)) (ps:List V),σ = [some (.ref rt),some (.ref t0),some (.ref l),some (.ref lv),some (.ref p),e5,e6,e7,e8] /\ Grow [l,p] H2 H0' /\ H0' l=some (.dT kvs') /\ SN K H0' kvs' (zD ms last j (f,[])).1 /\ H0' p=some (.lst ps) /\ zU (uD H0') ps (zD ms last j (f,[])).2) ⟨_,_,_,_,kvs,[],rfl,gp.wk,gp.keep _ _ (by simp) hl2,hk2.grow gp,zc,trivial⟩ (fun j σ H0' _ ⟨_,_,_,_,_,_,_,g,_⟩=>TB.of (g.keep _ _ nvm hv2)) ?_ ?_⟩
 ·rintro j x σ H3 hx ⟨e5,e6,e7,e8,kvs3,ps3,rfl,g3,hl3,hk3,hp3,ha3⟩
  obtain ⟨d,hd,kd⟩:=ha2.get hx
  have hj:j < last.length:=(List.getElem?_eq_some_iff.mp hd).1
  have ed:last.getD j []=d:=by rw [List.getD_eq_getElem?_getD,hd]; rfl
  have dm:d ∈ last:=by rw [← ed]; exact zK hj
  have dw:=hI.good.wd d (hI.sub d dm)
  have ddd:=dw.dd hM
  have dk:d ∈ zh (zD ms last j (f,[])).1:=(yn j).keys (hI.sub d dm)
  have fl:=xU (ms:=ms) (last:=last) (fm:=(f,[])) j
  have fl2:(zD ms last j (f,[])).1.length<=296:=by
   have h1:j * ms.length<=59 * 4:=Nat.mul_le_mul (by omega) m4
   have h2:(f,([]:List (List Int))).1.length=f.length:=rfl
   omega
  have wl:=xj (ms:=ms) (last:=last) (fm:=(f,[])) hW j
  have ml:(zD ms last j (f,[])).2.length<=(zD ms last j (f,[])).1.length:=qa (yn j) (Nat.zero_le _)
  show V8 _ _ _ _ _ _
  have eP:zD ms last (j+1) (f,[])=xr ms d ms.length (zD ms last j (f,[])):=by rw [← ed]; rfl
  rw [eP]
  revert hk3 ha3 dk fl2 wl ml
  generalize zD ms last j (f,[])=fm
  intro hk3 ha3 dk fl2 wl ml
  have hall2:=g2.boardsR hall
  refine ⟨_,rfl,rt,_,rfl,((g2.mono (m':=[l,p]) (by simp)).trans g3).sqT hs,uc (xs:=xs) (fun i σ H0'=>∃ (e6 e7 e8:Option V) (kvs':List (List To × V)) (ps:List V),σ = [some (.ref rt),some (.ref t0),some (.ref l),some (.ref lv),some (.ref p),some x,e6,e7,e8] /\ Grow [l,p] H2 H0' /\ H0' l=some (.dT kvs') /\ SN K H0' kvs' (xr ms d i fm).1 /\ H0' p=some (.lst ps) /\ zU (uD H0') ps (xr ms d i fm).2) ⟨_,_,_,kvs3,ps3,rfl,g3,hl3,hk3,hp3,ha3⟩ (fun i σ H0' _ ⟨_,_,_,_,_,_,g,_⟩=>((g2.mono (m':=[l,p]) (by simp)).trans g).sqT hs) ?_ ?_⟩
  ·rintro i xm σ H4 T hxm ⟨e6,e7,e8,kvs4,ps4,rfl,g4,hl4,hk4,hp4,ha4⟩ hT
   obtain ⟨mk,hmk,bm⟩:=hall2.get hxm
   have hi:i < ms.length:=(List.getElem?_eq_some_iff.mp hmk).1
   have em:ms.getD i []=mk:=by rw [List.getD_eq_getElem?_getD,hmk]; rfl
   have mm:mk ∈ ms:=by rw [← em]; exact zK hi
   have mdd:=hM mk mm
   have gT:=Grow.new (m:=[]) hT (.tup [.int i,xm])
   refine ⟨T,_,rfl,TC.of zc,rfl,_,_,rfl,_,_,rfl,rfl,?_⟩
   refine ⟨_,rfl,_,rfl,_,_,rfl,S,d,mk,(g4.trans gT.wk).board kd.board,(g4.trans gT.wk).board bm,ddd.2,mdd.1,by rw [ddd.1]; exact s5,fun y H5 g5 ky=>?_⟩
   have g45:Grow [l,p] H4 H5:=(gT.trans g5).wk
   have g25:=g4.trans g45
   have hl5:=(gT.trans g5).keep _ _ (by simp) hl4
   have hp5:=(gT.trans g5).keep _ _ (by simp) hp4
   have hk5:=hk4.grow g45
   have ha5:=ha4.imp fun _ _ z=>z.grow g45
   have rl:=uj (ms:=ms) (d:=d) (fm:=fm) i
   have rw5:=ul (ms:=ms) (d:=d) wl i
   have dk5:d ∈ zh (xr ms d i fm).1:=(xJ i).keys dk
   have ml5:(xr ms d i fm).2.length<=(xr ms d i fm).1.length:=qa (xJ i) ml
   have eS:xr ms d (i+1) fm=z9 d (xr ms d i fm) i mk:=by rw [← em]; rfl
   rw [eS]
   revert hk5 ha5 rl rw5 dk5 ml5
   generalize xr ms d i fm=fr
   intro hk5 ha5 rl rw5 dk5 ml5
   have kl5:=hk5.len
   obtain ⟨yb,rfl,hyb⟩:=ky
   obtain ⟨xb,rfl,hxb⟩:=kd.grow g25
   rw [← vG] at hyb hxb
   rcases hk5.val (zv d mk) with ⟨v,w,hv,hw,_⟩ | ⟨hv,hw⟩
   ·refine ⟨_,rfl,_,rfl,l,_,rfl,uX.t hl5 hyb,_,rfl,z8 (by rw [hv]; rfl) ?_⟩
    have e:z9 d fr i mk=fr:=by unfold z9; rw [hw]; rfl
    rw [e]
    exact ⟨_,_,_,kvs4,ps4,rfl,g25,hl5,hk5,hp5,ha5⟩
   ·refine ⟨_,rfl,_,rfl,l,_,rfl,uX.t hl5 hyb,_,rfl,xp (by rw [hv]; rfl) ?_⟩
    obtain ⟨wd,hwd⟩:=yN dk5
    rcases hk5.val d with ⟨v2,w2,hv2,hw2,bw2⟩ | ⟨_,hw2⟩
    rotate_left
    ·rw [hw2] at hwd; cases hwd
    have e:z9 d fr i mk=(fr.1 ++ [(zv d mk,w2 ++ [(i:Int)])],fr.2 ++ [zv d mk]):=by unfold z9; rw [hw,hw2]; rfl
    rw [e]
    have w2l:=rw5.2 _ (yG hw2)
    have w2l':w2.length < fr.1.length:=w2l
    obtain ⟨wb,rfl,hwb⟩:=bw2
    refine ⟨_,rfl,_,rfl,l,_,rfl,hv2 ▸ uX.t hl5 hxb,_,rfl,Sk rfl,fun t2 ht2=>?_⟩
    have gt2:=Grow.new (m:=[]) ht2 (.tup [.int i])
    refine ⟨wb,t2,_,_,rfl,rfl,gt2.sqT hwb,TC.of zc,Nat.le_of_lt (zn (by rw [List.length_map]; show _+1<=1000; omega)),fun p2 H6 g6 h6=>?_⟩
    have g56:=gt2.trans g6
    have hl6:=g56.keep _ _ (by simp) hl5
    have hp6:=g56.keep _ _ (by simp) hp5
    have hyb6:=g56.tup _ _ hyb
    refine ⟨_,rfl,_,rfl,l,_,rfl,WM.t hl6 hyb6 (zn (by omega)),?_⟩
    rw [wG _ hv]
    have g67:=Grow.setDT (m:=[l,p]) hl6 (by simp) (kvs4 ++ [(kI (zv d mk),V.ref p2)])
    have hp7:Tp H6 l (.dT (kvs4 ++ [(kI (zv d mk),V.ref p2)])) p=some (.lst ps4):=by rw [zj (Ne.symm nl)]; exact hp6
    have pl5:=ha5.len
    refine ⟨_,rfl,.inl ⟨rfl,_,TB.of hp7⟩,_,rfl,p,ps4,_,rfl,rfl,hp7,zn (by omega),?_⟩
    have g78:=Grow.set (m:=[l,p]) hp7 (by simp) (ps4 ++ [V.ref yb])
    have g58:=(g56.wk (m:=[l,p])).trans (g67.trans g78)
    have h6':zp K H6 (.ref p2) (w2 ++ [(i:Int)]):=⟨p2,rfl,by rw [List.map_append]; exact h6⟩
    refine ⟨_,_,_,_,_,rfl,g25.trans g58,?_,(hk5.grow g58).app (show SN K _ [(kI (zv d mk),V.ref p2)] [(zv d mk,w2 ++ [(i:Int)])] from ⟨⟨rfl,(g67.trans g78).board h6'⟩,trivial⟩),zc,(ha5.imp fun _ _ z=>z.grow g58).app (.one ⟨yb,rfl,?_⟩)⟩
    ·rw [zj nl]; exact zc
    ·rw [vG] at hyb; exact g58.tup _ _ hyb
  ·rintro σ H4 ⟨e6,e7,e8,kvs4,ps4,rfl,g4,hl4,hk4,hp4,ha4⟩
   rw [hlen] at hk4 ha4
   exact ⟨_,_,_,_,kvs4,ps4,rfl,g4,hl4,hk4,hp4,ha4⟩
 ·rintro σ H3 ⟨e5,e6,e7,e8,kvs3,ps3,rfl,g3,hl3,hk3,hp3,ha3⟩
  rw [zl] at hk3 ha3
  have hg:=ve (ms:=ms) (last:=last) (f:=f) (j:=last.length)
  have fl:=xU (ms:=ms) (last:=last) (fm:=(f,[])) last.length
  have fl2:(zD ms last last.length (f,[])).1.length<=300:=by
   have h1:last.length * ms.length<=60 * 4:=Nat.mul_le_mul lastl m4
   have h2:(f,([]:List (List Int))).1.length=f.length:=rfl
   omega
  have kl3:=hk3.len
  by_cases h60p:(zD ms last last.length (f,[])).1.length<=60
  rotate_left
  ·refine ⟨_,rfl,l,kvs3,rfl,hl3,_,_,rfl,rfl,_,rfl,xp (decide_eq_true (by omega)) fun e=>qe2 (Ya hI.pass.good (by omega)) e _ (g00.trans ?_)⟩
   refine ((g2.mono (m':=[l,p]) (by simp)).trans g3).less fun b hb=>?_
   rcases List.mem_cons.mp hb with rfl | hb
   ·exact .inr hHl
   ·rw [List.mem_singleton.mp hb]; exact .inr hHp
  refine ⟨_,rfl,l,kvs3,rfl,hl3,_,_,rfl,rfl,_,rfl,z8 (decide_eq_false (by omega)) ?_⟩
  refine ⟨_,rfl,_,?_,p,_,_,_,_,_,_,_,kvs3,ps3,rfl,?_,hl3,hk3,hp3,ha3,fun r hr=>hR r (.step c c2 hr),hI.pass,xj hW _,h60p,rfl⟩
  ·rw [if_neg c]
   split
   ·have:=(yn (ms:=ms) (last:=last) (fm:=(f,[])) last.length)
    obtain ⟨g,e1,_⟩:=this
    have:f.length<=(zD ms last last.length (f,[])).1.length:=by rw [e1,List.length_append]; exact Nat.le_add_right _ _
    omega
   ·rename_i c3
    have:=hg c3
    omega
  ·refine ((g2.mono (m':=[l,p]) (by simp)).trans g3).less fun b hb=>?_
   rcases List.mem_cons.mp hb with rfl | hb
   ·exact .inl (by simp)
   ·rw [List.mem_singleton.mp hb]; exact .inr hHp
theorem Xt:FnScope ["deeds"] ["deeds"] (zf (S3 16)):=⟨rfl,rfl,rfl,by decide +kernel,rfl,by decide +kernel,by decide +kernel⟩
theorem Xu (F:Fun K "words" "words" (S3 16) f fd) (B:Blt mg) {A_TooMany:Addr} (x_TooMany:rY K mg "TooMany" A_TooMany) (qc0:zQ P w K mg base n "grown" ["deeds"] (xk A_TooMany K))     :
  FnOk P w K mg base (SF P w) (n+1) f fd ["deeds"] (xo A_TooMany K):=by
 refine Fun.okX F Xt wH (fun cdv A outer s H vs Q E hr h=>?_)
 obtain ⟨x,rfl,ms,S,hM,qe,q⟩:=h
 refine ⟨_,(zg (zz (jk hr rfl B.tuple (yc qc0 (sL fun _ _ _ z=>z) hr rfl (za (pv 0) zb))))),?_⟩
 refine ⟨_,rfl,_,rfl,ms,S,hM,fun c e H' g=>qe c e _ g,fun y f H1 g1 hW hL h60=>?_⟩
 obtain ⟨l,kvs,rfl,hl,hk⟩:=hW
 refine ⟨l,kvs,rfl,hl,fun t ht=>?_⟩
 have gt:=Grow.new (m:=[]) ht (.tup (kvs.map (·.2)))
 exact q _ f _ (g1.trans gt) ⟨t,_,rfl,TC.of zc,gt.boardsR hk.vals⟩ hL h60
theorem Yh:FnScope ["deeds"] ["deeds"] (zf (S3 15)):=⟨rfl,rfl,rfl,by decide +kernel,rfl,by decide +kernel,by decide +kernel⟩
theorem Yi (F:Fun K "family" "family" (S3 15) f fd) (B:Blt mg) {A_TooMany:Addr} (x_TooMany:rY K mg "TooMany" A_TooMany) (qc0:zQ P w K mg base n "grown" ["deeds"] (xk A_TooMany K))     :
  FnOk P w K mg base (SF P w) (n+1) f fd ["deeds"] (xn A_TooMany K):=by
 refine Fun.okX F Yh wH (fun cdv A outer s H vs Q E hr h=>?_)
 obtain ⟨x,rfl,ms,S,hM,qe,q⟩:=h
 refine ⟨_,(zg (zz (zx (u6 hr) rfl B.tuple zG (za (yc qc0 (sL fun _ _ _ z=>z) hr rfl (za (pv 0) zb)) zb)))),?_⟩
 refine ⟨_,rfl,_,rfl,ms,S,hM,fun c e H' g=>qe c e _ g,fun y f H1 g1 hW hL h60=>?_⟩
 obtain ⟨l,kvs,rfl,hl,hk⟩:=hW
 refine ⟨l,kvs,rfl,hl,fun t zs ht zl hz=>?_⟩
 exact q _ f _ (g1.trans (Grow.new ht _)) ⟨t,zs,rfl,TC.of zc,(u7 hz hk.keys).imp fun _ _ z=>z.grow (Grow.new (m:=[]) ht _)⟩ hL h60
theorem tZ:FnScope ["_law_one","_law_other"] ["_law_one","_law_other"] (zf (S3 24)):=⟨rfl,rfl,rfl,by decide +kernel,rfl,by decide +kernel,by decide +kernel⟩
theorem t4 (F:Fun K "_law_then" "_law_then" (S3 24) f fd) (B:Blt mg)      :
  FnOk P w K mg base Sb (n+1) f fd ["_law_one","_law_other"] (yy K):=by
 refine F.ok tZ xG (fun cdv A outer s H vs Q E hr h=>?_)
 obtain ⟨x,y,rfl,S,a,b,⟨ra,rfl,ha⟩,⟨rb,rfl,hb⟩,hS,hl,h5,q⟩:=h
 refine ⟨_,(zg (zz (zx zt rfl B.tuple zG (za (zP (CSc.of (N':=["_law_state","_law_other"]) (sub:=[none,some 1]) (zf (S3 24)) ["_law_one","_law_other"] rfl rfl (by decide +kernel) rfl) rfl (yC (pv 0)) (fun _ _ _ _ _ _=>zo (i:=0) (show (["_law_state","_law_other"]:List Str).Nodup by decide +kernel) rfl (Or.inl rfl)) (fun _ _ _ _ _ _=>zA) (fun _ _ _ _ _ _=>(yr (ss (K:=K) rfl) (pv 1) (pv 0) (fun _ _=>rfl)))) zb)))),?_⟩
 refine ⟨_,rfl,ra,rfl,⟨_,ha⟩,yh (vi fun i=>b.getD i.toNat 0) ha (by rw [List.length_map]; omega) ?_ ?_⟩
 ·intro v H2 R hv g k
  obtain ⟨i,hi,rfl⟩:=List.mem_map.mp hv
  have:=hS i hi
  exact ⟨_,rfl,_,rfl,rb,_,i,_,rfl,rfl,g.sqT hb,WK this.1 (by omega),k _ (Grow.refl _ _)⟩
 intro H2 l g hl
 have e:(a.map V.int).map (vi fun i=>b.getD i.toNat 0)=(zv a b).map V.int:=by
  unfold zv
  rw [List.map_map,List.map_map]; rfl
 rw [e]
 exact ⟨l,_,rfl,.inl ⟨TB.of zc,fun t ht=>q _ _ (g.trans ((Grow.new hl _).trans (Grow.new ht _))) ⟨t,rfl,zc⟩⟩⟩
theorem zV:FnScope ["_law_makers_here","_law_places","_law_rows","_law_deed","_law_word","_law_number","_law_maker_here","_law_more","_law_at"] ["_law_makers_here","_law_places","_law_rows","_law_deed","_law_word"] (zf (S3 28)):=⟨rfl,rfl,rfl,by decide +kernel,rfl,by decide +kernel,by decide +kernel⟩
theorem vz (F:Fun K "_law_goes_on" "_law_goes_on" (S3 28) f fd) (B:Blt mg) (qc0:zu P w K mg base n "_law_then" ["_law_one","_law_other"] (yy K))  (g_enumerate:mg "enumerate" = none)   :
  FnOk P w K mg base Sb (n+1) f fd ["_law_makers_here","_law_places","_law_rows","_law_deed","_law_word"] (tU K):=by
 refine F.ok zV Wh (fun cdv A outer s H vs Q E hr h=>?_)
 obtain ⟨x,y,z,u,v,rfl,ms,S,r,p,l,hM,rfl,hl,hz,hu,hv,hp,hE,hW,hD,h60,q⟩:=h
 refine ⟨_,(zd (xO PassesOwn.never rfl (xQ true (K:=K) rfl rfl g_enumerate (za (pv 0) zb)) (uE rfl (zS (zo (i:=5) zV.nd rfl (Or.inl rfl)) (zS (zo (i:=6) zV.nd rfl (Or.inl rfl)) xD))) (zd (zH (i:=7) zV.nd rfl (Or.inl rfl) (zY (sJ (K:=K) rfl) (pv 4) (yj (za (pv 5) zb)))) (zd (zH (i:=8) zV.nd rfl (Or.inl rfl) (YT (Room.u1F hr) (pv 1) (zm qc0 hr rfl (za (pv 3) (za (pv 6) zb))) ⟨rfl,rfl,rfl,rfl⟩)) (zg (yq (PW.pt (vC (jG (WV (pv 8))) (wK (zO (WF (K:=K) rfl hr) (yj (za (ze zq rfl B.len yg (za (yr yD (pv 2) (pv 8) (fun _ _=>rfl)) zb)) (za (yr yD (pv 2) (pv 8) (fun _ _=>rfl)) zb))) (yj (za (ze zq rfl B.len yg (za (pv 7) zb)) (za (pv 7) zb))) (zT _))))) (zg (zz yT)) zE))))) (zg (zz yT))),?_⟩
 obtain ⟨hx,hMk,s1,s5,m1,m4⟩:=hM
 obtain ⟨rt,xs,rfl,hs,hall⟩:=hx
 have hlen:=hall.len
 obtain ⟨ru,rfl,su⟩:=hu
 obtain ⟨rv,rfl,sv⟩:=hv
 obtain ⟨rz,zs,rfl,hsz,hallz⟩:=hz
 have hlz:=hallz.len
 rw [List.length_map] at hlz
 have cl:=hE.cl p hp
 refine ⟨_,rfl,rt,_,rfl,hs,uc (xs:=xs) (fun i σ H'=>∃ (e5 e6 e7 e8:Option V),σ = [some (.ref rt),some (.ref l),some (.ref rz),some (.ref ru),some (.ref rv),e5,e6,e7,e8] /\ Grow [] H H') ⟨_,_,_,_,rfl,Grow.refl _ _⟩ (fun i σ H' _ ⟨_,_,_,_,_,g⟩=>g.sqT hs) ?_ ?_⟩
 ·rintro i x σ H1 T hx ⟨e5,e6,e7,e8,rfl,g1⟩ hT
  obtain ⟨mk,hmk,bm⟩:=(g1.boardsR hall).get hx
  have hi:i < ms.length:=(List.getElem?_eq_some_iff.mp hmk).1
  have em:ms.getD i []=mk:=by rw [List.getD_eq_getElem?_getD,hmk]; rfl
  have mdd:=hMk mk (by rw [← em]; exact zK hi)
  have gT:=Grow.new (m:=[]) hT (.tup [.int i,x])
  refine ⟨T,_,rfl,TC.of zc,rfl,_,_,rfl,_,_,rfl,rfl,?_⟩
  have g2:Grow [] H (Tp H1 T (.tup [.int i,x])):=g1.trans gT
  have bm:=gT.board bm
  revert g2 bm
  generalize Tp H1 T (.tup [.int i,x])=H2
  intro g2 bm
  have wl:=hW.2 p hp
  refine ⟨_,rfl,_,rfl,Sk rfl,fun t ht=>?_⟩
  have gt:=Grow.new (m:=[]) ht (.tup [.int i])
  refine ⟨rv,t,_,_,rfl,rfl,(g2.trans gt).sqT sv,TC.of zc,Nat.le_of_lt (zn (by rw [List.length_map]; show _+1<=1000; omega)),fun p2 H3 g3 h3=>?_⟩
  have g03:=(g2.trans gt).trans g3
  have hl3:=g03.keep _ _ (by simp) hl
  refine ⟨_,rfl,l,rfl,.inr ⟨_,.inl hl3⟩,_,rfl,_,rfl,_,_,rfl,S,_,mk,⟨ru,rfl,g03.sqT su⟩,(gt.trans g3).board bm,(hD _ (List.mem_map.mpr ⟨p,hp,rfl⟩)).2,mdd.1,by rw [(hD _ (List.mem_map.mpr ⟨p,hp,rfl⟩)).1]; exact s5,fun y4 H4 g4 k4=>?_⟩
  obtain ⟨b4,rfl,hb4⟩:=k4
  obtain ⟨p',hp',e',slf⟩:=cl i hi
  rw [em] at e'
  have mk':zv p.1 mk ∈ zh r:=List.mem_map.mpr ⟨p',hp',e'⟩
  have hv:=vh 0 mk'
  rw [Nat.zero_add] at hv
  have at_:=UR hE.nd hp'
  rw [e'] at at_
  have jl:=qg mk'
  revert hv at_ jl
  generalize SO (zh r) (zv p.1 mk)=j
  intro hv at_ jl
  have jl:j < r.length:=by unfold zh at jl; rw [List.length_map] at jl; exact jl
  rw [← vG] at hb4
  refine ⟨_,hv ▸ uX.t (g4.keep _ _ (by simp) hl3) hb4,?_⟩
  have g04:=g03.trans g4
  obtain ⟨rb,gb,sb⟩:=wU (g04.boardsR hallz) (i:=(j:Int)) (by omega) (by rw [List.length_map]; omega)
  rw [Int.toNat_natCast,at_] at sb
  have h4:=g4.sqT h3
  refine ⟨_,rfl,_,rfl,z8 rfl ?_⟩
  refine ⟨_,rfl,_,rfl,rz,_,_,_,rfl,rfl,g04.sqT hsz,gb,rb,_,rfl,.inr sb,_,rfl,_,rfl,rz,_,_,_,rfl,rfl,g04.sqT hsz,gb,Sk rfl,fun t5 ht5=>?_⟩
  have g5:=Grow.new (m:=[]) ht5 (.tup [.int (p'.2.map V.int).length,.ref rb])
  refine ⟨_,rfl,p2,_,rfl,.inr (g5.sqT h4),_,rfl,Sk rfl,fun t6 ht6=>?_⟩
  have g6:=Grow.new (m:=[]) ht6 (.tup [.int (p.2.map V.int ++ [V.int i]).length,.ref p2])
  have key:SR ((((p.2.map V.int ++ [V.int i]).length:Nat):Int) :: (p.2 ++ [(i:Int)])) ((((p'.2.map V.int).length:Nat):Int) :: p'.2)=false:=by
   have:=slf
   unfold jw VR at this
   rw [List.length_append] at this
   rw [List.length_append,List.length_map,List.length_map]
   exact this
  refine ⟨t5,t6,rb,p2,_,_,p'.2,p.2 ++ [(i:Int)],rfl,rfl,TC.of (g6.keep _ _ (by simp) zc),(g5.trans g6).sqT sb,TC.of zc,by rw [List.map_append]; exact (g5.trans g6).sqT h4,_,rfl,?_⟩
  rw [key]
  exact ⟨_,_,_,_,rfl,g04.trans (g5.trans g6)⟩
 rintro σ H1 ⟨_,_,_,_,rfl,g1⟩
 exact q _ g1
theorem yA:FnScope ["_law_makers_here","_law_word","_law_found","_law_number"] ["_law_makers_here","_law_word"] (zf (S3 27)):=⟨rfl,rfl,rfl,by decide +kernel,rfl,by decide +kernel,by decide +kernel⟩
theorem t7 (F:Fun K "_law_made" "_law_made" (S3 27) f fd) (B:Blt mg) (qc0:zu P w K mg base n "_law_then" ["_law_one","_law_other"] (yy K))     :
  FnOk P w K mg base Sb (n+1) f fd ["_law_makers_here","_law_word"] (tT K):=by
 refine F.ok yA xG (fun cdv A outer s H vs Q E hr h=>?_)
 obtain ⟨x,y,rfl,ms,S,w,hM,hw,rg,q⟩:=h
 refine ⟨_,(zd (zH (i:=2) yA.nd rfl (Or.inl rfl) (xI rfl rfl B.tuple rfl B.range (za (ze zq rfl B.len yg (za (yr yD (pv 0) zi (fun _ _=>rfl)) zb)) zb))) (zd (xO PassesOwn.never rfl (yC (pv 1)) (zo (i:=3) yA.nd rfl (Or.inl rfl)) (zg (zH (i:=2) yA.nd rfl (Or.inl rfl) (zm qc0 hr rfl (za (pv 2) (za (yr yD (pv 0) (pv 3) (fun _ _=>rfl)) zb)))))) (zg (zz (pv 2))))),?_⟩
 obtain ⟨hx,hMk,s1,s5,m1,m4⟩:=hM
 have hx':=hx
 obtain ⟨rt,xs,rfl,hs,hall⟩:=hx
 have hlen:=hall.len
 obtain ⟨r0,g0,s0⟩:=wU hall (i:=0) (by decide) (by omega)
 have l0:(ms.getD 0 []).length=S:=(hMk _ (zK (by omega))).1
 refine ⟨_,rfl,rt,_,_,_,rfl,rfl,hs,g0,r0,_,rfl,.inr s0,S,by rw [List.length_map]; exact congrArg (fun n:Nat=>[V.int n]) l0,by omega,fun t0 ht0=>?_⟩
 have gA:=Grow.new (m:=[]) ht0 (.tup ((List.range S).map fun i:Nat=>V.int i))
 obtain ⟨rw_,rfl,hsw⟩:=hw
 refine ⟨_,rfl,_,rfl,⟨_,gA.sqT hsw⟩,XY (xs:=w.map V.int) (fun i σ H'=>∃ (y:V) (e3:Option V),σ = [some (.ref rt),some (.ref rw_),some y,e3] /\ Grow [] H H' /\ uD H' y (yi ms S (w.take i)) /\ Dd S (yi ms S (w.take i))) ⟨_,_,rfl,gA,⟨t0,rfl,?_⟩,ZC S⟩ (fun i σ H' _ ⟨_,_,_,g,_⟩=>g.sqT hsw) ?_ ?_⟩
 ·show _=some (HO.tup ((SK S).map V.int)); rw [← ZE]; exact zc
 ·rintro i v σ H1 hv ⟨y,e3,rfl,g1,ky,dd⟩
  rw [List.getElem?_map] at hv
  obtain ⟨n,hn,rfl⟩:=Option.map_eq_some_iff.mp hv
  obtain ⟨n0,n1⟩:=rg n (List.mem_of_getElem? hn)
  obtain ⟨N,rfl⟩:∃ N:Nat,n=(N:Int):=⟨n.toNat,by omega⟩
  obtain ⟨rm,gm,sm⟩:=wU (g1.boardsR hall) (i:=(N:Int)) (by omega) (by omega)
  rw [Int.toNat_natCast] at sm
  have mm:=hMk _ (zK (ms:=ms) (i:=N) (by omega))
  have tk:w.take (i+1)=w.take i ++ [(N:Int)]:=by rw [List.take_succ,hn]; rfl
  rw [tk,vq]
  refine ⟨_,rfl,_,rfl,_,rfl,rt,_,_,_,rfl,rfl,g1.sqT hs,gm,_,_,rfl,S,_,_,ky.board,⟨rm,rfl,sm⟩,dd.2,mm.1,by rw [dd.1]; exact s5,fun y2 H2 g2 k2=>?_⟩
  exact ⟨_,_,rfl,g1.trans g2,k2,ui dd mm⟩
 rintro σ H1 ⟨y,e3,rfl,g1,ky,dd⟩
 rw [List.length_map,List.take_length] at ky
 exact ⟨_,rfl,q _ _ g1 ky⟩
theorem zw:FnScope ["_law_makers_here","_law_first","_law_found","_law_last","_law_more","_law_deed","_law_number","_law_maker_here","_law_made_here"] ["_law_makers_here"] (zf (S3 25)):=⟨rfl,rfl,rfl,by decide +kernel,rfl,by decide +kernel,by decide +kernel⟩
theorem vM (F:Fun K "_law_family" "_law_family" (S3 25) f fd) (B:Blt mg) (qc0:zu P w K mg base n "_law_then" ["_law_one","_law_other"] (yy K))  (g_enumerate:mg "enumerate" = none)   :
  FnOk P w K mg base Sb (n+1) f fd ["_law_makers_here"] (vY K):=by
 refine F.ok zw yY (fun cdv A outer s H vs Q E hr h=>?_)
 obtain ⟨x,rfl,ms,S,hx,hM,s1,s5,m1,m4,q⟩:=h
 refine ⟨_,(zd (zH (i:=1) zw.nd rfl (Or.inl rfl) (xI rfl rfl B.tuple rfl B.range (za (ze zq rfl B.len yg (za (yr yD (pv 0) zi (fun _ _=>rfl)) zb)) zb))) (zd (zH (i:=2) zw.nd rfl (Or.inl rfl) (uZ (Room.u1F hr) (pv 1) (yj zb))) (zd (zH (i:=3) zw.nd rfl (Or.inl rfl) (xw (za (pv 1) zb))) (zd (rC PassesOwn.never (PW.pt (WW (zO (YK (K:=K) rfl hr) (pv 3) (xw zb) (zT _)) (XW (zO uF (ze wf rfl B.len yg (za (pv 2) zb)) zi (zT _))))) (zd (zH (i:=4) zw.nd rfl (Or.inl rfl) (xw zb)) (zd (xO PassesOwn.never rfl (jJ (pv 3)) (zo (i:=5) zw.nd rfl (Or.inl rfl)) (zg (xO PassesOwn.never rfl (xQ true (K:=K) rfl rfl g_enumerate (za (pv 0) zb)) (uE rfl (zS (zo (i:=6) zw.nd rfl (Or.inl rfl)) (zS (zo (i:=7) zw.nd rfl (Or.inl rfl)) xD))) (zd (zH (i:=8) zw.nd rfl (Or.inl rfl) (zm qc0 hr rfl (za (pv 5) (za (pv 7) zb)))) (zg (yq (jG (uY (Room.u1F hr) (pv 8) (pv 2))) (zd (Zy (Room.u1F hr) (pv 2) (pv 8) (zY (sJ (K:=K) rfl) (sP (Room.u1F hr) (pv 2) (pv 5) (fun _ _=>rfl)) (yj (za (pv 6) zb))) rfl) (zg (yp (si PySem.F.plainAttrs_list PySem.F.slot_list_append PySem.F.type_list_append yf (pv 4) (za (pv 8) zb))))) zE)))))) (zg (zH (i:=3) zw.nd rfl (Or.inl rfl) (pv 4)))))) (zg (zz (pv 2))))))),?_⟩
 have hx0:=hx
 obtain ⟨rt,xs,rfl,hs,hall⟩:=hx0
 have hlen:=hall.len
 obtain ⟨r0,g0,s0⟩:=wU hall (i:=0) (by decide) (by omega)
 have l0:(ms.getD 0 []).length=S:=(hM _ (zK (by omega))).1
 refine ⟨_,rfl,rt,_,_,_,rfl,rfl,hs,g0,r0,_,rfl,.inr s0,S,by rw [List.length_map]; exact congrArg (fun n:Nat=>[V.int n]) l0,by omega,fun t0 ht0=>?_⟩
 refine fun l hl=>⟨_,rfl,Sk rfl,fun t1 ht1=>?_⟩
 have gA:=Grow.new (m:=[]) ht0 (.tup ((List.range S).map fun i:Nat=>V.int i))
 have hHl:H l=none:=gA.free (by simp) hl
 have gB:=Grow.new (m:=[]) hl (.dT [])
 have gC:=Grow.new (m:=[]) ht1 (.tup [])
 have eD:=gC.keep _ _ (by simp) (zc (H:=Tp H t0 (.tup ((List.range S).map fun i:Nat=>V.int i))) (a:=l) (o:=.dT []))
 refine ⟨eD,t0,kI (SK S),rfl,?_,?_⟩
 ·rw [vG,← ZE]; exact (gB.trans gC).tup _ _ zc
 have gD:=Grow.setDT (m:=[l]) eD (by simp) [(kI (SK S),V.ref t1)]
 have kt0:uD (Tp H t0 (.tup ((List.range S).map fun i:Nat=>V.int i))) (.ref t0) (SK S):=⟨t0,rfl,by rw [← ZE]; exact zc⟩
 refine ⟨_,rfl,Sk rfl,fun lv0 hlv0=>?_⟩
 have gE:=Grow.new (m:=[]) hlv0 (.lst [V.ref t0])
 have gAll:Grow [l] H _:=(gA.wk.trans (gB.wk.trans gC.wk)).trans (gD.trans gE.wk)
 refine ⟨fun m σ H'=>∃ (lv:Addr) (e4 e5 e6 e7 e8:Option V) (f:FW) (last:List (List Int)) (kvs:List (List To × V)) (zs:List V),σ = [some (.ref rt),some (.ref t0),some (.ref l),some (.ref lv),e4,e5,e6,e7,e8] /\ Grow [l] H H' /\ H' l=some (.dT kvs) /\ SN K H' kvs f /\ H' lv=some (.lst zs) /\ zU (uD H') zs last /\ (∀ r,FamR ms f last r->vF ms S r) /\ LI ms S f last /\ WL f /\ f.length<=300 /\ m=(if last=[] then 0 else 1)+2 * (301 - f.length),?_,?_⟩
 ·refine ⟨_,lv0,_,_,_,_,_,[(SK S,[])],[SK S],_,_,rfl,gAll,gE.keep _ _ (by simp) zc,⟨⟨rfl,t1,rfl,?_⟩,trivial⟩,zc,.one (kt0.grow (((gB.trans gC).wk).trans (gD.trans gE.wk))),fun r h=>h,LI.init ms S,⟨by show 0 < 1; decide,fun q hq=>by rw [List.mem_singleton.mp hq]; show 0 < 1; decide⟩,by show 1<=300; decide,rfl⟩
  exact TC.of ((gD.trans gE.wk).tup _ _ zc)
 rintro m σ H1 ⟨lv,e4,e5,e6,e7,e8,f,last,kvs,zs,rfl,g1,hl1,hk1,hv1,ha1,hR,hI,hW,h300,rfl⟩
 have zl:=ha1.len
 have kl:=hk1.len
 refine ⟨_,rfl,Sk rfl,fun n0 hn0=>?_⟩
 have gn:=Grow.new (m:=[]) hn0 (.lst [])
 have g2:=g1.trans gn.wk
 have hl2:=gn.keep _ _ (by simp) hl1
 have hv2:=gn.keep _ _ (by simp) hv1
 have hk2:=hk1.grow gn
 have ha2:=ha1.imp fun _ _ z=>z.grow gn
 refine ⟨lv,n0,zs,rfl,rfl,TB.of hv2,TB.of zc,_,rfl,?_⟩
 revert g2 hl2 hv2 hk2 ha2
 generalize Tp H1 n0 (.lst [])=H2
 intro g2 hl2 hv2 hk2 ha2
 by_cases c:last=[]
 ·have z0:zs=[]:=List.eq_nil_of_length_eq_zero (by rw [zl,c]; rfl)
  refine z8 (by rw [z0]; rfl) (rK ⟨_,rfl,q _ f _ (g2.less fun b hb=>.inr (by rw [List.mem_singleton.mp hb]; exact hHl)) ⟨l,kvs,rfl,hl2,hk2⟩ (hR f (.done (.inl c))) h300⟩)
 have zne:zs ≠ []:=fun z=>c (List.eq_nil_of_length_eq_zero (by rw [← zl,z]; rfl))
 refine xp (by cases zs with | nil=>exact absurd rfl zne | cons _ _=>rfl) ⟨_,rfl,l,kvs,rfl,hl2,_,_,rfl,rfl,_,rfl,?_⟩
 by_cases c2:f.length<=60
 rotate_left
 ·refine z8 (decide_eq_false (by omega)) ⟨_,rfl,q _ f _ (g2.less fun b hb=>.inr (by rw [List.mem_singleton.mp hb]; exact hHl)) ⟨l,kvs,rfl,hl2,hk2⟩ (hR f (.done (.inr (by omega)))) h300⟩
 refine xp (decide_eq_true (by omega)) ⟨_,fun σ' H' z=>z,?_⟩
 have lastl:last.length<=60:=Nat.le_trans hI.len c2
 refine ⟨Sk rfl,fun p hp=>?_⟩
 have gp:=Grow.new (m:=[]) hp (.lst [])
 have nl:l ≠ p:=fun z=>by rw [← z,hl2] at hp; cases hp
 have nv:lv ≠ p:=fun z=>by rw [← z,hv2] at hp; cases hp
 have nlv:lv ≠ l:=fun z=>by rw [z,hl2] at hv2; cases hv2
 have hHp:H p=none:=g2.free (fun z=>nl (List.mem_singleton.mp z).symm) hp
 have nvm:lv ∉ [l,p]:=fun z=>by
  rcases List.mem_cons.mp z with w | w
  ·exact nlv w
  ·exact nv (List.mem_singleton.mp w)
 refine ⟨_,rfl,lv,rfl,⟨zs,TB.of (gp.keep _ _ (by simp) hv2)⟩,rD (xs:=zs) (fun j σ H'=>∃ (e5 e6 e7 e8:Option V) (kvs':List (List To × V)) (ps:List V),σ = [some (.ref rt),some (.ref t0),some (.ref l),some (.ref lv),some (.ref p),e5,e6,e7,e8] /\ Grow [l,p] H2 H' /\ H' l=some (.dT kvs') /\ SN K H' kvs' (zD ms last j (f,[])).1 /\ H' p=some (.lst ps) /\ zU (uD H') ps (zD ms last j (f,[])).2) ⟨_,_,_,_,kvs,[],rfl,gp.wk,gp.keep _ _ (by simp) hl2,hk2.grow gp,zc,trivial⟩ (fun j σ H' _ ⟨_,_,_,_,_,_,_,g,_⟩=>TB.of (g.keep _ _ nvm hv2)) ?_ ?_⟩
 ·rintro j x σ H3 hx ⟨e5,e6,e7,e8,kvs3,ps3,rfl,g3,hl3,hk3,hp3,ha3⟩
  obtain ⟨d,hd,kd⟩:=ha2.get hx
  have hj:j < last.length:=(List.getElem?_eq_some_iff.mp hd).1
  have ed:last.getD j []=d:=by rw [List.getD_eq_getElem?_getD,hd]; rfl
  have dm:d ∈ last:=by rw [← ed]; exact zK hj
  have dw:=hI.good.wd d (hI.sub d dm)
  have ddd:=dw.dd hM
  have dk:d ∈ zh (zD ms last j (f,[])).1:=(yn j).keys (hI.sub d dm)
  have fl:=xU (ms:=ms) (last:=last) (fm:=(f,[])) j
  have fl2:(zD ms last j (f,[])).1.length<=296:=by
   have h1:j * ms.length<=59 * 4:=Nat.mul_le_mul (by omega) m4
   have h2:(f,([]:List (List Int))).1.length=f.length:=rfl
   omega
  have wl:=xj (ms:=ms) (last:=last) (fm:=(f,[])) hW j
  have ml:(zD ms last j (f,[])).2.length<=(zD ms last j (f,[])).1.length:=qa (yn j) (Nat.zero_le _)
  show V8 _ _ _ _ _ _
  have eP:zD ms last (j+1) (f,[])=xr ms d ms.length (zD ms last j (f,[])):=by rw [← ed]; rfl
  rw [eP]
  revert hk3 ha3 dk fl2 wl ml
  generalize zD ms last j (f,[])=fm
  intro hk3 ha3 dk fl2 wl ml
  have hall2:=g2.boardsR hall
  refine ⟨_,rfl,rt,_,rfl,((g2.mono (m':=[l,p]) (by simp)).trans g3).sqT hs,uc (xs:=xs) (fun i σ H'=>∃ (e6 e7 e8:Option V) (kvs':List (List To × V)) (ps:List V),σ = [some (.ref rt),some (.ref t0),some (.ref l),some (.ref lv),some (.ref p),some x,e6,e7,e8] /\ Grow [l,p] H2 H' /\ H' l=some (.dT kvs') /\ SN K H' kvs' (xr ms d i fm).1 /\ H' p=some (.lst ps) /\ zU (uD H') ps (xr ms d i fm).2) ⟨_,_,_,kvs3,ps3,rfl,g3,hl3,hk3,hp3,ha3⟩ (fun i σ H' _ ⟨_,_,_,_,_,_,g,_⟩=>((g2.mono (m':=[l,p]) (by simp)).trans g).sqT hs) ?_ ?_⟩
  ·rintro i xm σ H4 T hxm ⟨e6,e7,e8,kvs4,ps4,rfl,g4,hl4,hk4,hp4,ha4⟩ hT
   obtain ⟨mk,hmk,bm⟩:=hall2.get hxm
   have hi:i < ms.length:=(List.getElem?_eq_some_iff.mp hmk).1
   have em:ms.getD i []=mk:=by rw [List.getD_eq_getElem?_getD,hmk]; rfl
   have mm:mk ∈ ms:=by rw [← em]; exact zK hi
   have mdd:=hM mk mm
   have gT:=Grow.new (m:=[]) hT (.tup [.int i,xm])
   refine ⟨T,_,rfl,TC.of zc,rfl,_,_,rfl,_,_,rfl,rfl,?_⟩
   refine ⟨_,rfl,_,rfl,_,_,rfl,S,d,mk,(g4.trans gT.wk).board kd.board,(g4.trans gT.wk).board bm,ddd.2,mdd.1,by rw [ddd.1]; exact s5,fun y H5 g5 ky=>?_⟩
   have g45:Grow [l,p] H4 H5:=(gT.trans g5).wk
   have g25:=g4.trans g45
   have hl5:=(gT.trans g5).keep _ _ (by simp) hl4
   have hp5:=(gT.trans g5).keep _ _ (by simp) hp4
   have hk5:=hk4.grow g45
   have ha5:=ha4.imp fun _ _ z=>z.grow g45
   have rl:=uj (ms:=ms) (d:=d) (fm:=fm) i
   have rw5:=ul (ms:=ms) (d:=d) wl i
   have dk5:d ∈ zh (xr ms d i fm).1:=(xJ i).keys dk
   have ml5:(xr ms d i fm).2.length<=(xr ms d i fm).1.length:=qa (xJ i) ml
   have eS:xr ms d (i+1) fm=z9 d (xr ms d i fm) i mk:=by rw [← em]; rfl
   rw [eS]
   revert hk5 ha5 rl rw5 dk5 ml5
   generalize xr ms d i fm=fr
   intro hk5 ha5 rl rw5 dk5 ml5
   have kl5:=hk5.len
   obtain ⟨yb,rfl,hyb⟩:=ky
   obtain ⟨xb,rfl,hxb⟩:=kd.grow g25
   rw [← vG] at hyb hxb
   rcases hk5.val (zv d mk) with ⟨v,w,hv,hw,_⟩ | ⟨hv,hw⟩
   ·refine ⟨_,rfl,_,rfl,l,_,rfl,uX.t hl5 hyb,_,rfl,z8 (by rw [hv]; rfl) ?_⟩
    have e:z9 d fr i mk=fr:=by unfold z9; rw [hw]; rfl
    rw [e]
    exact ⟨_,_,_,kvs4,ps4,rfl,g25,hl5,hk5,hp5,ha5⟩
   ·refine ⟨_,rfl,_,rfl,l,_,rfl,uX.t hl5 hyb,_,rfl,xp (by rw [hv]; rfl) ?_⟩
    obtain ⟨wd,hwd⟩:=yN dk5
    rcases hk5.val d with ⟨v2,w2,hv2,hw2,bw2⟩ | ⟨_,hw2⟩
    rotate_left
    ·rw [hw2] at hwd; cases hwd
    have e:z9 d fr i mk=(fr.1 ++ [(zv d mk,w2 ++ [(i:Int)])],fr.2 ++ [zv d mk]):=by unfold z9; rw [hw,hw2]; rfl
    rw [e]
    have w2l:=rw5.2 _ (yG hw2)
    have w2l':w2.length < fr.1.length:=w2l
    obtain ⟨wb,rfl,hwb⟩:=bw2
    refine ⟨_,rfl,_,rfl,l,_,rfl,hv2 ▸ uX.t hl5 hxb,_,rfl,Sk rfl,fun t2 ht2=>?_⟩
    have gt2:=Grow.new (m:=[]) ht2 (.tup [.int i])
    refine ⟨wb,t2,_,_,rfl,rfl,gt2.sqT hwb,TC.of zc,Nat.le_of_lt (zn (by rw [List.length_map]; show _+1<=1000; omega)),fun p2 H6 g6 h6=>?_⟩
    have g56:=gt2.trans g6
    have hl6:=g56.keep _ _ (by simp) hl5
    have hp6:=g56.keep _ _ (by simp) hp5
    have hyb6:=g56.tup _ _ hyb
    refine ⟨_,rfl,_,rfl,l,_,rfl,WM.t hl6 hyb6 (zn (by omega)),?_⟩
    rw [wG _ hv]
    have g67:=Grow.setDT (m:=[l,p]) hl6 (by simp) (kvs4 ++ [(kI (zv d mk),V.ref p2)])
    have hp7:Tp H6 l (.dT (kvs4 ++ [(kI (zv d mk),V.ref p2)])) p=some (.lst ps4):=by rw [zj (Ne.symm nl)]; exact hp6
    have pl5:=ha5.len
    refine ⟨_,rfl,.inl ⟨rfl,_,TB.of hp7⟩,_,rfl,p,ps4,_,rfl,rfl,hp7,zn (by omega),?_⟩
    have g78:=Grow.set (m:=[l,p]) hp7 (by simp) (ps4 ++ [V.ref yb])
    have g58:=(g56.wk (m:=[l,p])).trans (g67.trans g78)
    have h6':zp K H6 (.ref p2) (w2 ++ [(i:Int)]):=⟨p2,rfl,by rw [List.map_append]; exact h6⟩
    refine ⟨_,_,_,_,_,rfl,g25.trans g58,?_,(hk5.grow g58).app (show SN K _ [(kI (zv d mk),V.ref p2)] [(zv d mk,w2 ++ [(i:Int)])] from ⟨⟨rfl,(g67.trans g78).board h6'⟩,trivial⟩),zc,(ha5.imp fun _ _ z=>z.grow g58).app (.one ⟨yb,rfl,?_⟩)⟩
    ·rw [zj nl]; exact zc
    ·rw [vG] at hyb; exact g58.tup _ _ hyb
  ·rintro σ H4 ⟨e6,e7,e8,kvs4,ps4,rfl,g4,hl4,hk4,hp4,ha4⟩
   rw [hlen] at hk4 ha4
   exact ⟨_,_,_,_,kvs4,ps4,rfl,g4,hl4,hk4,hp4,ha4⟩
 ·rintro σ H3 ⟨e5,e6,e7,e8,kvs3,ps3,rfl,g3,hl3,hk3,hp3,ha3⟩
  rw [zl] at hk3 ha3
  have hg:=ve (ms:=ms) (last:=last) (f:=f) (j:=last.length)
  have fl:=xU (ms:=ms) (last:=last) (fm:=(f,[])) last.length
  have fl2:(zD ms last last.length (f,[])).1.length<=300:=by
   have h1:last.length * ms.length<=60 * 4:=Nat.mul_le_mul lastl m4
   have h2:(f,([]:List (List Int))).1.length=f.length:=rfl
   omega
  refine ⟨_,rfl,_,?_,p,_,_,_,_,_,_,_,kvs3,ps3,rfl,?_,hl3,hk3,hp3,ha3,fun r hr=>hR r (.step c c2 hr),hI.pass,xj hW _,fl2,rfl⟩
  ·rw [if_neg c]
   split
   ·have:=(yn (ms:=ms) (last:=last) (fm:=(f,[])) last.length)
    obtain ⟨g,e1,_⟩:=this
    have:f.length<=(zD ms last last.length (f,[])).1.length:=by rw [e1,List.length_append]; exact Nat.le_add_right _ _
    omega
   ·rename_i c3
    have:=hg c3
    omega
  ·refine ((g2.mono (m':=[l,p]) (by simp)).trans g3).less fun b hb=>?_
   rcases List.mem_cons.mp hb with rfl | hb
   ·exact .inl (by simp)
   ·rw [List.mem_singleton.mp hb]; exact .inr hHp
theorem xa:FnScope ["deeds","members","numbers"] ["deeds"] (zf (S3 18)):=⟨rfl,rfl,rfl,by decide +kernel,rfl,by decide +kernel,by decide +kernel⟩
theorem t8 (F:Fun K "own_table" "own_table" (S3 18) f fd) (B:Blt mg) {A_TooMany:Addr} (x_TooMany:rY K mg "TooMany" A_TooMany) (qc0:zu P w K mg base n "by_table_then" ["one","other"] (yy K)) (qc1:zQ P w K mg base n "family" ["deeds"] (xn A_TooMany K))  (g_enumerate:mg "enumerate" = none)   :
  FnOk P w K mg base (SF P w) (n+1) f fd ["deeds"] (wI A_TooMany K):=by
 refine Fun.okX F xa wH (fun cdv A outer s H vs Q E hr h=>?_)
 obtain ⟨x,rfl,ms,S,hM,qe,q0⟩:=h
 refine ⟨_,(zd (zH (i:=1) xa.nd rfl (Or.inr rfl) (yc qc1 (sL fun _ _ _ z=>z) hr rfl (za (pv 0) zb))) (zd (zH (i:=2) xa.nd rfl (Or.inr rfl) (Y0 (Room.u1F hr) (CSc.of (N':=["number","member"]) (sub:=[none,none]) (zf (S3 18)) ["deeds","members","numbers"] rfl rfl (by decide +kernel) rfl) rfl (xQ true (K:=K) rfl rfl g_enumerate (za (pv 1) zb)) (fun _ _ _ _ _ _=>sD (K:=K) 2 rfl rfl (zS (zo (i:=0) (show (["number","member"]:List Str).Nodup by decide +kernel) rfl (Or.inl rfl) (Or.inr rfl)) (zS (zo (i:=1) (show (["number","member"]:List Str).Nodup by decide +kernel) rfl (Or.inl rfl) (Or.inr rfl)) xD)) rfl rfl) (fun _ _ _ _ _ _=>zA) (fun _ _ _ _ _ _=>(pv 1)) (fun _ _ _ _ _ _=>(pv 0)))) (zg (zz (zx zt rfl B.tuple zG (za (YM (CScC.of (N':=["one","members","numbers"]) (sub:=[none,some 1,some 2]) (zf (S3 18)) ["deeds","members","numbers"] rfl rfl (by decide +kernel) (by decide +kernel) rfl) rfl (yC (pv 1)) (fun _ _ _ _ _ _=>zo (i:=0) (show (["one","members","numbers"]:List Str).Nodup by decide +kernel) rfl (Or.inr rfl) (Or.inl rfl)) (fun _ _ _ _ _ _=>zA) (fun _ _ _ _ _ _=>(zx (sx (K:=K) rfl) rfl B.tuple zG (za (zP (CSc.nestO (N2:=["other","numbers","one"]) (sub2:=[none,some 2,some 0]) (CScC.of (N':=["one","members","numbers"]) (sub:=[none,some 1,some 2]) (zf (S3 18)) ["deeds","members","numbers"] rfl rfl (by decide +kernel) (by decide +kernel) rfl) rfl (by decide +kernel) rfl) rfl (Zb (K:=K) rfl (pv 1)) (fun _ _ _ _ _ _=>zo (i:=0) (show (["other","numbers","one"]:List Str).Nodup by decide +kernel) rfl (Or.inl rfl)) (fun _ _ _ _ _ _=>zA) (fun _ _ _ _ _ _=>(sP (Room.u1F hr) (pv 1) (zm qc0 hr rfl (za (pv 2) (za (pv 0) zb))) (fun _ _=>rfl)))) zb)))) zb)))))),?_⟩
 refine ⟨_,rfl,_,rfl,ms,S,hM,fun c e H' g=>qe c e _ g,fun y f H1 g1 hB hL h60=>?_⟩
 have hMk:MksAt K H x ms S:=⟨hM.at_,hM.ok,hM.s1,hM.s5,hM.m1,hM.m4,hL.ok.few h60⟩
 have q:∀ y f H',Grow [] H H' -> vF ms S f->f.length<=60->yk K H' y (Y1 (zh f))->Q y H':=fun y f H' g h1 h2 h3=>q0 y f H' g h3 h1 h2
 clear q0 qe hM
 have hF:=hL.fam hMk.ok hMk.few
 have s5:=hMk.s5
 refine XG ?_
 revert hF
 generalize hfam:zh f=fam at hB
 intro hF
 obtain ⟨r,xs,rfl,hs,ha⟩:=hB
 have xl:=ha.len
 have f60:=hF.l60
 refine ⟨_,rfl,r,_,rfl,hs,ji (xs:=xs) (fun i zs σ' H'=>(∃ e0 e1:Option V,σ' = [e0,e1]) /\ zs=zX 0 (fam.take i) /\ Grow [] H1 H') ⟨⟨_,_,rfl⟩,rfl,Grow.refl _ _⟩ (fun i zs σ H' p=>p.2.2.sqT hs) ?_ ?_⟩
 ·rintro i x zs σ H2 T hx ⟨⟨e0,e1,rfl⟩,rfl,g2⟩ hT
  obtain ⟨d,hd,b,rfl,hb⟩:=ha.get hx
  have hi:i < fam.length:=(List.getElem?_eq_some_iff.mp hd).1
  have ed:fam[i]=d:=(List.getElem?_eq_some_iff.mp hd).2
  have gT:=Grow.new (m:=[]) hT (.tup [.int i,.ref b])
  have tk:fam.take (i+1)=fam.take i ++ [d]:=by rw [List.take_succ,hd]; rfl
  have nt:d ∉ fam.take i:=fun z=>by
   have:=hF.nd
   rw [← List.take_append_drop (i+1) fam,tk] at this
   have:=(List.nodup_append.mp this).1
   exact (List.nodup_append.mp this).2.2 d z d (List.mem_singleton.mpr rfl) rfl
  have pk:wt (zX 0 (fam.take i)) (kI d) (V.int i)=zX 0 (fam.take (i+1)):=by
   rw [wG _ (uo 0 nt),tk,xV,Nat.zero_add,List.length_take,Nat.min_eq_left (Nat.le_of_lt hi)]; rfl
  refine ⟨T,_,rfl,TC.of zc,rfl,_,_,rfl,_,_,rfl,rfl,?_⟩
  refine ⟨_,rfl,_,rfl,zn (by rw [vg,List.length_take]; omega),b,kI d,rfl,by rw [vG]; exact hb,⟨_,_,rfl⟩,pk,g2.trans gT⟩
 rintro zs σ H2 ⟨_,rfl,g2⟩ l hl
 rw [xl,List.take_length]
 refine XG ?_
 have gl:=Grow.new (m:=[]) hl (.dT (zX 0 fam))
 have hl3:Tp H2 l (.dT (zX 0 fam)) l=some (.dT (zX 0 fam)):=zc
 have g3:=g2.trans gl
 revert hl3 g3
 generalize Tp H2 l (.dT (zX 0 fam))=H3
 intro hl3 g3
 have hs3:=g3.sqT hs
 have ha3:=ha.imp fun _ _ z=>z.grow g3
 refine ⟨_,rfl,r,rfl,⟨_,hs3⟩,y7 (xs:=xs) (fun i ys H'=>zU (zp K H') ys ((fam.take i).map fun a=>fam.map fun b=>(SO fam (zv a b):Int)) /\ Grow [] H3 H') ⟨trivial,Grow.refl _ _⟩ (fun i ys H' p=>p.2.sqT hs3) ?_ ?_⟩
 ·rintro i x ys H4 hx ⟨hy,g4⟩
  obtain ⟨a,hka,ka⟩:=ha3.get hx
  have hma:a ∈ fam:=List.mem_of_getElem? hka
  have hi:i < fam.length:=(List.getElem?_eq_some_iff.mp hka).1
  have tk:fam.take (i+1)=fam.take i ++ [a]:=by rw [List.take_succ,hka]; rfl
  refine ⟨_,rfl,r,rfl,⟨_,g4.sqT hs3⟩,y7 (xs:=xs) (fun j zs H'=>zs=((fam.take j).map fun b=>(SO fam (zv a b):Int)).map V.int /\ Grow [] H4 H') ⟨rfl,Grow.refl _ _⟩ (fun j zs H' p=>(g4.trans p.2).sqT hs3) ?_ ?_⟩
  ·rintro j x2 zs H5 hx2 ⟨rfl,g5⟩
   obtain ⟨b,hkb,kb⟩:=ha3.get hx2
   have hmb:b ∈ fam:=List.mem_of_getElem? hkb
   have hj:j < fam.length:=(List.getElem?_eq_some_iff.mp hkb).1
   have tkb:fam.take (j+1)=fam.take j ++ [b]:=by rw [List.take_succ,hkb]; rfl
   have g35:=g4.trans g5
   refine ⟨_,rfl,_,rfl,_,rfl,_,_,rfl,S,a,b,(ka.grow g35).board,(kb.grow g35).board,(hF.dd a hma).2,(hF.dd b hmb).1,by rw [(hF.dd a hma).1]; exact s5,fun y6 H6 g6 k6=>?_⟩
   obtain ⟨b6,rfl,hb6⟩:=k6
   rw [← vG] at hb6
   have hv:=vh 0 (hF.cl a hma b hmb)
   rw [Nat.zero_add] at hv
   refine ⟨l,_,rfl,hv ▸ uX.t ((g35.trans g6).keep _ _ (by simp) hl3) hb6,zn (by rw [List.length_map,List.length_map,List.length_take]; omega),?_,g5.trans g6⟩
   rw [tkb,List.map_append,List.map_append]; rfl
  ·rintro zs H5 ⟨rfl,g5⟩ lz hlz
   rw [xl,List.take_length]
   refine ⟨lz,_,rfl,.inl ⟨TB.of zc,fun tz htz=>?_⟩⟩
   have gz:=g5.trans ((Grow.new (m:=[]) hlz (.lst ((fam.map fun b=>(SO fam (zv a b):Int)).map V.int))).trans (Grow.new htz (.tup ((fam.map fun b=>(SO fam (zv a b):Int)).map V.int))))
   refine ⟨zn (by rw [hy.len,List.length_map,List.length_take]; omega),?_,g4.trans gz⟩
   rw [tk,List.map_append]
   exact (gz.boardsR hy).app (.one ⟨tz,rfl,TC.of zc⟩)
 rintro ys H4 ⟨hy,g4⟩ lz hlz
 rw [xl,List.take_length] at hy
 refine ⟨lz,_,rfl,.inl ⟨TB.of zc,fun tz htz=>?_⟩⟩
 have gz:=(Grow.new (m:=[]) hlz (.lst ys)).trans (Grow.new htz (.tup ys))
 refine q _ f _ (g1.trans (g3.trans (g4.trans gz))) hL h60 ?_
 rw [hfam]
 exact ⟨tz,ys,rfl,TC.of zc,gz.boardsR hy⟩
theorem zW:FnScope ["_law_makers_here","_law_told","e"] ["_law_makers_here"] (zf (S3 26)):=⟨rfl,rfl,rfl,by decide +kernel,rfl,by decide +kernel,by decide +kernel⟩
theorem vA (F:Fun K "_law_refused" "_law_refused" (S3 26) f fd) (B:Blt mg) {A_AskError:Addr} {A_TooMany:Addr} {A_NoTable:Addr} (x_AskError:rY K mg "AskError" A_AskError) (x_TooMany:rY K mg "TooMany" A_TooMany) (v_NoTable:mg "NoTable" = some (.ref A_NoTable)) (v_TooMany:mg "TooMany" = some (.ref A_TooMany)) (u_TooMany:PySem.W.mroIn K A_TooMany (.ref A_AskError)=some true) (k_TooMany:ExcK K A_TooMany) (q_TooMany_TooMany:PySem.W.kitOne K (.ref A_TooMany) (.ref A_TooMany)=some true) (q_TooMany_ValueError:PySem.W.kitOne K (.ref A_TooMany) (.type "ValueError")=some true) (q_TooMany_NoTable:PySem.W.kitOne K (.ref A_TooMany) (.ref A_NoTable)=some false) (qc0:zQ P w K mg base n "own_table" ["deeds"] (wI A_TooMany K)) (qc1:zQ P w K mg base n "words" ["deeds"] (xo A_TooMany K)) (qc2:zQ P w K mg base n "family" ["deeds"] (xn A_TooMany K))  (g_ValueError:mg "ValueError" = none)   :
  FnOk P w K mg base Sb (n+1) f fd ["_law_makers_here"] (ww K):=by
 refine F.ok zW yY (fun cdv A outer s H vs Q E hr h=>?_)
 obtain ⟨x,rfl,ms,S,hM,nf,q⟩:=h
 refine ⟨_,(zd (zH (i:=1) zW.nd rfl (Or.inl rfl) (xw zb)) (zd (rh (K:=K) (i:=2) rfl rfl rfl rfl x_AskError rfl zW.nd rfl rfl rfl (fun E=>⟨_,(fun ps σ=>(vy (ux (vw qc2 (vt rfl) hr rfl (za (pv 0) zb))) (zg (yp (rX (K:=K) rfl PySem.F.plainAttrs_list PySem.F.slot_list_append PySem.F.type_list_append yf (pv 1) (za yT zb)))))),rfl⟩) (fun e=>(zg (yp (si PySem.F.plainAttrs_list PySem.F.slot_list_append PySem.F.type_list_append yf (pv 1) (za (xv (ze (zZ (K:=K) rfl) rfl B.isinstance zr (za (pv 2) (za (yJ rfl v_TooMany (show zJ (.ref A_TooMany) (.ref A_TooMany) from rfl)) zb))) (xv (ze (zZ (K:=K) rfl) rfl B.isinstance zr (za (pv 2) (za (xx rfl g_ValueError y3) zb))) (wL (rA (ze (zZ (K:=K) rfl) rfl B.isinstance zr (za (pv 2) (za (yJ rfl v_NoTable (show zJ (.ref A_NoTable) (.ref A_NoTable) from rfl)) zb))))))) zb)))))) (zd (rh (K:=K) (i:=2) rfl rfl rfl rfl x_AskError rfl zW.nd rfl rfl rfl (fun E=>⟨_,(fun ps σ=>(vy (ux (vw qc1 (vt rfl) hr rfl (za (pv 0) zb))) (zg (yp (rX (K:=K) rfl PySem.F.plainAttrs_list PySem.F.slot_list_append PySem.F.type_list_append yf (pv 1) (za yT zb)))))),rfl⟩) (fun e=>(zg (yp (si PySem.F.plainAttrs_list PySem.F.slot_list_append PySem.F.type_list_append yf (pv 1) (za (xv (ze (zZ (K:=K) rfl) rfl B.isinstance zr (za (pv 2) (za (yJ rfl v_TooMany (show zJ (.ref A_TooMany) (.ref A_TooMany) from rfl)) zb))) (xv (ze (zZ (K:=K) rfl) rfl B.isinstance zr (za (pv 2) (za (xx rfl g_ValueError y3) zb))) (wL (rA (ze (zZ (K:=K) rfl) rfl B.isinstance zr (za (pv 2) (za (yJ rfl v_NoTable (show zJ (.ref A_NoTable) (.ref A_NoTable) from rfl)) zb))))))) zb)))))) (zd (rh (K:=K) (i:=2) rfl rfl rfl rfl x_AskError rfl zW.nd rfl rfl rfl (fun E=>⟨_,(fun ps σ=>(vy (ux (vw qc0 (vt rfl) hr rfl (za (pv 0) zb))) (zg (yp (rX (K:=K) rfl PySem.F.plainAttrs_list PySem.F.slot_list_append PySem.F.type_list_append yf (pv 1) (za yT zb)))))),rfl⟩) (fun e=>(zg (yp (si PySem.F.plainAttrs_list PySem.F.slot_list_append PySem.F.type_list_append yf (pv 1) (za (xv (ze (zZ (K:=K) rfl) rfl B.isinstance zr (za (pv 2) (za (yJ rfl v_TooMany (show zJ (.ref A_TooMany) (.ref A_TooMany) from rfl)) zb))) (xv (ze (zZ (K:=K) rfl) rfl B.isinstance zr (za (pv 2) (za (xx rfl g_ValueError y3) zb))) (wL (rA (ze (zZ (K:=K) rfl) rfl B.isinstance zr (za (pv 2) (za (yJ rfl v_NoTable (show zJ (.ref A_NoTable) (.ref A_NoTable) from rfl)) zb))))))) zb)))))) (zg (zz (wP (Vt (K:=K) rfl hr) (pv 1) (xw (za yT (za yT (za yT zb)))) (zT _)))))))),?_⟩
 refine ⟨Sk rfl,fun lt hlt=>?_⟩
 have g0:Grow [lt] H _:=(Grow.new (m:=[]) hlt (.lst [])).wk
 have h0:=zc (H:=H) (a:=lt) (o:=.lst [])
 revert g0 h0
 generalize Tp H lt (.lst [])=H0
 intro g0 h0
 refine ⟨fun _ C H'=>C=some A_TooMany /\ Grow [] H0 H',⟨_,rfl,_,rfl,ms,S,hM.grow g0,fun _ e H' g=>⟨rfl,g⟩,fun y f H' g hB hL h60=>absurd (hL.ok.few h60) nf⟩,fun e0 C0 K0 hn hE=>?_⟩
 have j1:Grow [] H0 K0:=hE.2
 obtain rfl:A_TooMany=C0:=(Option.some.inj hE.1).symm
 clear hE
 refine ⟨u_TooMany,?_⟩
 have j2:=j1.trans (Grow.new (m:=[]) hn (SH e0 A_TooMany))
 have hk:=j2.keep _ _ (by simp) h0
 have he:=zc (H:=K0) (a:=e0) (o:=SH e0 A_TooMany)
 refine ⟨_,rfl,.inl ⟨rfl,_,TB.of hk⟩,_,rfl,e0,_,_,_,_,rfl,he,(fun _ r=>r),k_TooMany,q_TooMany_TooMany,_,rfl,jY ?_⟩
 refine ⟨_,rfl,e0,_,_,_,_,rfl,he,(fun _ r=>r),k_TooMany,q_TooMany_ValueError,_,rfl,jY ?_⟩
 refine ⟨_,rfl,e0,_,_,_,_,rfl,he,(fun _ r=>r),k_TooMany,q_TooMany_NoTable,_,rfl,lt,_,_,rfl,rfl,hk,Sk rfl,?_⟩
 have j3:Grow [lt] _ _:=Grow.set hk (by simp) ([] ++ [V.bl !false])
 have g1:=g0.trans (j2.wk.trans j3)
 have h1:=zc (H:=Tp K0 e0 (SH e0 A_TooMany)) (a:=lt) (o:=.lst ([] ++ [V.bl !false]))
 revert g1 h1
 generalize Tp (Tp K0 e0 (SH e0 A_TooMany)) lt (.lst ([] ++ [V.bl !false]))=H1
 intro g1 h1
 clear j1 j2 j3 hk he
 refine ⟨fun _ C H'=>C=some A_TooMany /\ Grow [] H1 H',⟨_,rfl,_,rfl,ms,S,hM.grow g1,fun _ e H' g=>⟨rfl,g⟩,fun y f H' g hB hL h60=>absurd (hL.ok.few h60) nf⟩,fun e1 C1 K1 hn hE=>?_⟩
 have j1:Grow [] H1 K1:=hE.2
 obtain rfl:A_TooMany=C1:=(Option.some.inj hE.1).symm
 clear hE
 refine ⟨u_TooMany,?_⟩
 have j2:=j1.trans (Grow.new (m:=[]) hn (SH e1 A_TooMany))
 have hk:=j2.keep _ _ (by simp) h1
 have he:=zc (H:=K1) (a:=e1) (o:=SH e1 A_TooMany)
 refine ⟨_,rfl,.inl ⟨rfl,_,TB.of hk⟩,_,rfl,e1,_,_,_,_,rfl,he,(fun _ r=>r),k_TooMany,q_TooMany_TooMany,_,rfl,jY ?_⟩
 refine ⟨_,rfl,e1,_,_,_,_,rfl,he,(fun _ r=>r),k_TooMany,q_TooMany_ValueError,_,rfl,jY ?_⟩
 refine ⟨_,rfl,e1,_,_,_,_,rfl,he,(fun _ r=>r),k_TooMany,q_TooMany_NoTable,_,rfl,lt,_,_,rfl,rfl,hk,Sk rfl,?_⟩
 have j3:Grow [lt] _ _:=Grow.set hk (by simp) (([] ++ [V.bl !false]) ++ [V.bl !false])
 have g2:=g1.trans (j2.wk.trans j3)
 have h2:=zc (H:=Tp K1 e1 (SH e1 A_TooMany)) (a:=lt) (o:=.lst (([] ++ [V.bl !false]) ++ [V.bl !false]))
 revert g2 h2
 generalize Tp (Tp K1 e1 (SH e1 A_TooMany)) lt (.lst (([] ++ [V.bl !false]) ++ [V.bl !false]))=H2
 intro g2 h2
 clear j1 j2 j3 hk he
 refine ⟨fun _ C H'=>C=some A_TooMany /\ Grow [] H2 H',⟨_,rfl,_,rfl,ms,S,hM.grow g2,fun _ e H' g=>⟨rfl,g⟩,fun y f H' g hB hL h60=>absurd (hL.ok.few h60) nf⟩,fun e2 C2 K2 hn hE=>?_⟩
 have j1:Grow [] H2 K2:=hE.2
 obtain rfl:A_TooMany=C2:=(Option.some.inj hE.1).symm
 clear hE
 refine ⟨u_TooMany,?_⟩
 have j2:=j1.trans (Grow.new (m:=[]) hn (SH e2 A_TooMany))
 have hk:=j2.keep _ _ (by simp) h2
 have he:=zc (H:=K2) (a:=e2) (o:=SH e2 A_TooMany)
 refine ⟨_,rfl,.inl ⟨rfl,_,TB.of hk⟩,_,rfl,e2,_,_,_,_,rfl,he,(fun _ r=>r),k_TooMany,q_TooMany_TooMany,_,rfl,jY ?_⟩
 refine ⟨_,rfl,e2,_,_,_,_,rfl,he,(fun _ r=>r),k_TooMany,q_TooMany_ValueError,_,rfl,jY ?_⟩
 refine ⟨_,rfl,e2,_,_,_,_,rfl,he,(fun _ r=>r),k_TooMany,q_TooMany_NoTable,_,rfl,lt,_,_,rfl,rfl,hk,Sk rfl,?_⟩
 have j3:Grow [lt] _ _:=Grow.set hk (by simp) (([] ++ [V.bl !false] ++ [V.bl !false]) ++ [V.bl !false])
 have g3:=g2.trans (j2.wk.trans j3)
 have h3:=zc (H:=Tp K2 e2 (SH e2 A_TooMany)) (a:=lt) (o:=.lst (([] ++ [V.bl !false] ++ [V.bl !false]) ++ [V.bl !false]))
 revert g3 h3
 generalize Tp (Tp K2 e2 (SH e2 A_TooMany)) lt (.lst (([] ++ [V.bl !false] ++ [V.bl !false]) ++ [V.bl !false]))=H3
 intro g3 h3
 clear j1 j2 j3 hk he
 refine ⟨_,rfl,Sk rfl,fun l hl=>?_⟩
 have gl:=Grow.new (m:=[]) hl (.lst [V.bl true,V.bl true,V.bl true])
 exact ⟨.list [.bool true,.bool true,.bool true],.lst (TB.of (gl.keep _ _ (by simp) h3)) (.cons (.bl true) (.cons (.bl true) (.cons (.bl true) .nil))),.lst (TB.of zc) (.cons (.bl true) (.cons (.bl true) (.cons (.bl true) .nil))),⟨lt,rfl⟩,by decide,q _ ((g3.trans gl.wk).shrink hlt)⟩
theorem z7:FnScope ["_law_makers_here","_law_some","_law_rows","_law_sizes","_law_places"] ["_law_makers_here"] (zf (S3 29)):=⟨rfl,rfl,rfl,by decide +kernel,rfl,by decide +kernel,by decide +kernel⟩
theorem uy (F:Fun K "_law_right" "_law_right" (S3 29) f fd) (B:Blt mg) {A_TooMany:Addr} (x_TooMany:rY K mg "TooMany" A_TooMany) (qc0:zQ P w K mg base n "words" ["deeds"] (xo A_TooMany K)) (qc1:zQ P w K mg base n "family" ["deeds"] (xn A_TooMany K)) (qc2:zu P w K mg base n "_law_goes_on" ["_law_makers_here","_law_places","_law_rows","_law_deed","_law_word"] (tU K)) (qc3:zu P w K mg base n "_law_made" ["_law_makers_here","_law_word"] (tT K)) (qc4:zu P w K mg base n "_law_family" ["_law_makers_here"] (vY K)) (qc5:zu P w K mg base n "_law_refused" ["_law_makers_here"] (ww K))  (g_zip:mg "zip" = none) (g_enumerate:mg "enumerate" = none) (g_set:mg "set" = none) (g_sorted:mg "sorted" = none)   :
  FnOk P w K mg base Sb (n+1) f fd ["_law_makers_here"] (wo K):=by
 refine F.ok z7 yY (fun cdv A outer s H vs Q E hr h=>?_)
 obtain ⟨x,rfl,ms,S,hM,q⟩:=h
 refine ⟨_,(zd (yq (zO XZ (ze wf rfl B.len yg (za (zm qc4 hr rfl (za (pv 0) zb)) zb)) zi (zT _)) (zg (zz (zm qc5 hr rfl (za (pv 0) zb)))) zE) (zd (rB (yj (za (yc qc1 sM hr rfl (za (pv 0) zb)) (za (yc qc0 sM hr rfl (za (pv 0) zb)) zb))) (uE rfl (zS (zo (i:=1) z7.nd rfl (Or.inl rfl)) (zS (zo (i:=2) z7.nd rfl (Or.inr rfl)) xD)))) (zd (yq (PW.pt (vC (yB (yV (ze yL rfl B.isinstance zr (za (pv 1) (za (xx rfl B.tuple zG) zb))))) (vC (yB (yV (ze yL rfl B.isinstance zr (za (pv 2) (za (xx rfl B.tuple zG) zb))))) (vC (zO jP (ze zq rfl B.len yg (za (pv 1) zb)) (ze zq rfl B.len yg (za (pv 2) zb)) (zT _)) (wK (zO (rT (K:=K) rfl hr) (Ys (Wj (K:=K) rfl) (pv 2) X3 (X4 zi)) (yj (za (yj zb) zb)) (zT _))))))) (zg (zz yT)) zE) (zd (yq (yB (yV (ze (yt rfl) rfl B.all sj (za (zP (CSc.of (N':=["_law_row","_law_makers_here"]) (sub:=[none,some 0]) (zf (S3 29)) ["_law_makers_here","_law_some","_law_rows","_law_sizes","_law_places"] rfl rfl (by decide +kernel) rfl) rfl (yC (pv 2)) (fun _ _ _ _ _ _=>zo (i:=0) (show (["_law_row","_law_makers_here"]:List Str).Nodup by decide +kernel) rfl (Or.inl rfl)) (fun _ _ _ _ _ _=>zA) (fun _ _ _ _ _ _=>(xv (ze (Za (K:=K) rfl) rfl B.isinstance zr (za (pv 0) (za (xx rfl B.tuple zG) zb))) (wL (ze (rj (K:=K) rfl rfl) rfl B.all sj (za (zP (CSc.nest (N2:=["_law_number","_law_makers_here"]) (sub2:=[none,some 1]) (CSc.of (N':=["_law_row","_law_makers_here"]) (sub:=[none,some 0]) (zf (S3 29)) ["_law_makers_here","_law_some","_law_rows","_law_sizes","_law_places"] rfl rfl (by decide +kernel) rfl) rfl (by decide +kernel) rfl) rfl (Zb (K:=K) rfl (pv 0)) (fun _ _ _ _ _ _=>zo (i:=0) (show (["_law_number","_law_makers_here"]:List Str).Nodup by decide +kernel) rfl (Or.inl rfl)) (fun _ _ _ _ _ _=>zA) (fun _ _ _ _ _ _=>(rF uF W3 zi (pv 0) (ze (yF (K:=K) rfl) rfl B.len yg (za (pv 1) zb))))) zb)))))) zb)))) (zg (zz yT)) zE) (zd (YE (i:=3) z7.nd rfl rfl (CSc.of (N':=["_law_row"]) (sub:=[none]) (zf (S3 29)) ["_law_makers_here","_law_some","_law_rows","_law_sizes","_law_places"] rfl rfl (by decide +kernel) rfl) rfl (yC (pv 2)) (fun _ _ _ _ _ _=>zo (i:=0) (show (["_law_row"]:List Str).Nodup by decide +kernel) rfl (Or.inl rfl)) (fun _ _ _ _ _ _=>zA) (fun _ _ _ _ _ _=>(yj (za (ze (yF (K:=K) rfl) rfl B.len yg (za (pv 0) zb)) (za (pv 0) zb))))) (zd (yq (PW.pt (vC (zO (rT (K:=K) rfl hr) (pv 3) (ze (s9 (K:=K) rfl hr) rfl g_sorted Yw (za (pv 3) zb)) (zT _)) (vC (zO jP (ze tE rfl B.len yg (za (zx (tI (K:=K) rfl hr) rfl g_set Yf (za (pv 2) zb)) zb)) (ze zq rfl B.len yg (za (pv 2) zb)) (zT _)) (wK (zO jP (ze tE rfl B.len yg (za (zx (tI (K:=K) rfl hr) rfl g_set Yf (za (pv 1) zb)) zb)) (ze zq rfl B.len yg (za (pv 1) zb)) (zT _)))))) (zg (zz yT)) zE) (zd (yq (zO (rT (K:=K) rfl hr) (zx uM rfl B.list Vg (za (pv 1) zb)) (zP (CSc.of (N':=["_law_row","_law_makers_here"]) (sub:=[none,some 0]) (zf (S3 29)) ["_law_makers_here","_law_some","_law_rows","_law_sizes","_law_places"] rfl rfl (by decide +kernel) rfl) rfl (yC (pv 2)) (fun _ _ _ _ _ _=>zo (i:=0) (show (["_law_row","_law_makers_here"]:List Str).Nodup by decide +kernel) rfl (Or.inl rfl)) (fun _ _ _ _ _ _=>zA) (fun _ _ _ _ _ _=>(zm qc3 hr rfl (za (pv 1) (za (pv 0) zb))))) (zT _)) (zg (zz yT)) zE) (zd (zH (i:=4) z7.nd rfl (Or.inr rfl) (zx (jz hr) rfl B.dict Vh (za (zP (CSc.of (N':=["_law_spot","_law_deed"]) (sub:=[none,none]) (zf (S3 29)) ["_law_makers_here","_law_some","_law_rows","_law_sizes","_law_places"] rfl rfl (by decide +kernel) rfl) rfl (xQ true (K:=K) rfl rfl g_enumerate (za (pv 1) zb)) (fun _ _ _ _ _ _=>sD (K:=K) 2 rfl rfl (zS (zo (i:=0) (show (["_law_spot","_law_deed"]:List Str).Nodup by decide +kernel) rfl (Or.inl rfl) (Or.inr rfl)) (zS (zo (i:=1) (show (["_law_spot","_law_deed"]:List Str).Nodup by decide +kernel) rfl (Or.inl rfl) (Or.inr rfl)) xD)) rfl rfl) (fun _ _ _ _ _ _=>zA) (fun _ _ _ _ _ _=>(yj (za (pv 1) (za (pv 0) zb))))) zb))) (zd (yq (yB (yV (ze (yt rfl) rfl B.all sj (za (zP (CSc.of (N':=["_law_deed","_law_row","_law_makers_here","_law_places","_law_rows"]) (sub:=[none,none,some 0,some 4,some 2]) (zf (S3 29)) ["_law_makers_here","_law_some","_law_rows","_law_sizes","_law_places"] rfl rfl (by decide +kernel) rfl) rfl (Vq (K:=K) rfl rfl g_zip (za (pv 1) (za (pv 2) zb))) (fun _ _ _ _ _ _=>sD (K:=K) 2 rfl rfl (zS (zo (i:=0) (show (["_law_deed","_law_row","_law_makers_here","_law_places","_law_rows"]:List Str).Nodup by decide +kernel) rfl (Or.inl rfl) (Or.inr rfl)) (zS (zo (i:=1) (show (["_law_deed","_law_row","_law_makers_here","_law_places","_law_rows"]:List Str).Nodup by decide +kernel) rfl (Or.inl rfl) (Or.inr rfl)) xD)) rfl rfl) (fun _ _ _ _ _ _=>zA) (fun _ _ _ _ _ _=>(zm qc2 hr rfl (za (pv 2) (za (pv 3) (za (pv 4) (za (pv 0) (za (pv 1) zb)))))))) zb)))) (zg (zz yT)) zE) (zg (zz (xv (wP sg (ze (xf hr) rfl B.repr rL (za (yc qc1 sM hr rfl (za (pv 0) zb)) zb)) (ze (xf hr) rfl B.repr rL (za (pv 1) zb)) (zT _)) (wL (wP sg (ze (xf hr) rfl B.repr rL (za (yc qc0 sM hr rfl (za (pv 0) zb)) zb)) (ze (xf hr) rfl B.repr rL (za (pv 2) zb)) (zT _))))))))))))))),?_⟩
 obtain ⟨rm,xm,rfl,hsm,ham⟩:=id hM.at_
 have ml:=ham.len
 refine ⟨_,rfl,_,rfl,ms,S,hM.at_,hM.ok,hM.s1,hM.s5,hM.m1,hM.m4,fun y f0 H0 g0 hW hL0 l300=>?_⟩
 obtain ⟨l0,kvs,rfl,hl0,hk0⟩:=hW
 have kl:=hk0.len
 refine ⟨l0,kvs,rfl,hl0,_,_,rfl,rfl,_,rfl,?_⟩
 by_cases c:60 < f0.length
 ·refine xp (decide_eq_true (by omega)) ⟨_,rfl,_,rfl,ms,S,hM.grow g0,Ya hL0.ok.good c,fun H1 g1=>q _ (g0.trans g1)⟩
 refine z8 (decide_eq_false (by omega)) ?_
 have few:SM ms S:=hL0.ok.few (by omega)
 have lenf:f0.length<=60:=by omega
 clear hk0 hl0 kl l300
 have hM0:=hM.grow g0
 refine ⟨_,rfl,_,rfl,ms,S,hM0,fun z=>absurd few z,fun y1 f1 H1 g1 hB1 hL1 _=>?_⟩
 cases FamR.eq hL0 hL1
 clear hL1
 refine ⟨_,rfl,_,rfl,ms,S,hM0.grow g1,fun z=>absurd few z,fun y2 f2 H2 g2 hB2 hL2 _=>?_⟩
 cases FamR.eq hL0 hL2
 clear hL2
 have hE:=hL0.end61 lenf
 have hWl:=hL0.wl61
 have hok:=hL0.ok
 obtain ⟨rs,xs,rfl,hss,hka⟩:=hB1.grow g2
 have hsa:zU (zp K H2) xs (zh f0):=hka.imp fun _ _ z=>z.board
 obtain ⟨rr,ys,rfl,hrs,hra⟩:=hB2
 refine ⟨Sk rfl,fun t ht=>⟨t,_,rfl,TC.of zc,rfl,_,_,rfl,_,_,rfl,rfl,?_⟩⟩
 have gt:=Grow.new (m:=[]) ht (.tup [.ref rs,.ref rr])
 have g3:=(g0.trans g1).trans (g2.trans gt)
 have hss:=gt.sqT hss
 have hsa:=gt.boardsR hsa
 have hka:=hka.imp fun _ _ z=>z.grow gt
 have hrs:=gt.sqT hrs
 have hra:=gt.boardsR hra
 revert g3 hss hsa hrs hra hka
 clear gt ht hB1
 generalize Tp H2 t (.tup [.ref rs,.ref rr])=H3
 intro g3 hss hsa hka hrs hra
 clear g2 g1
 have xl:=hsa.len
 have yl:=hra.len
 rw [List.length_map] at yl
 have xl:xs.length=f0.length:=by rw [xl]; unfold zh; rw [List.length_map]
 refine Ws (vf (fun b H'=>b=false /\ Grow [] H3 H') (fun Kk hk=>?_) ?_)
 ·refine ⟨_,rfl,_,_,_,true,rfl,.inl ⟨rfl,_,hss⟩,rfl,_,rfl,rK ?_⟩
  refine ⟨_,rfl,_,_,_,true,rfl,.inl ⟨rfl,_,hrs⟩,rfl,_,rfl,rK ?_⟩
  refine ⟨_,rfl,rs,_,rfl,.inr hss,_,rfl,rr,_,rfl,.inr hrs,rfl,_,rfl,z8 (by rw [decide_eq_true (congrArg V.int (show (xs.length:Int)=ys.length by omega))]; rfl) ?_⟩
  obtain ⟨f',hf'⟩:∃ f',f0=(SK S,[]) :: f':=by
   have:=hok.hd
   cases f0 with
   | nil=>cases this
   | cons a b=>exact ⟨b,by rw [show a=(SK S,[]) from Option.some.inj this]⟩
  have hra0:zU (zp K H3) ys ([] :: f'.map (·.2)):=by rw [hf'] at hra; exact hra
  refine ⟨_,rfl,_,rfl,rr,_,rfl,hrs,fun p4 H4 g4 hp4=>?_⟩
  refine ⟨Sk rfl,fun e5 he5=>⟨Sk rfl,fun t5 ht5=>?_⟩⟩
  have g5:=Grow.new (m:=[]) he5 (.tup [])
  have g6:=Grow.new (m:=[]) ht5 (.tup [.ref e5])
  rw [show jA ys none (some 1)=ys.take 1 from Y8 (i:=1)] at hp4
  match ys,hra0,hp4 with
  | y0 :: ys',hra0,hp4 =>
   have hy0:=((g4.trans (g5.trans g6)).board hra0.1)
   exact ⟨.tuple [.tuple []],.tup ((g5.trans g6).sqT hp4) (.cons (uS hy0) .nil),.tup (TC.of zc) (.cons (.tup (TC.of (g6.keep _ _ (by simp) zc)) .nil) .nil),⟨p4,rfl⟩,by decide,_,rfl,hk _ _ ⟨rfl,g4.trans (g5.trans g6)⟩⟩
 rintro b H4 ⟨rfl,g4⟩
 refine z8 rfl (wu ?_)
 refine vf (fun b H'=>b=false /\ Grow [] H4 H') (fun Kk hk=>?_) ?_
 ·refine ⟨_,rfl,rr,rfl,⟨_,g4.sqT hrs⟩,yh (fun _=>V.bl true) (g4.sqT hrs) (by omega) ?_ ?_⟩
  ·intro v H5 R' hv g5 k
   obtain ⟨i,hi⟩:=List.getElem?_of_mem hv
   obtain ⟨row,hrow,rw1,rfl,hb⟩:=hra.get hi
   obtain ⟨p,hp,rfl⟩:=List.mem_map.mp (List.mem_of_getElem? hrow)
   have hb5:=(g4.trans g5).sqT hb
   have rl:=hWl.2 p hp
   refine ⟨_,rfl,_,_,_,true,rfl,.inl ⟨rfl,_,hb5⟩,rfl,_,rfl,jY ?_⟩
   refine ⟨_,rfl,rw1,rfl,⟨_,hb5⟩,yh (fun _=>V.bl true) hb5 (by rw [List.length_map]; omega) ?_ ?_⟩
   ·intro v H6 R6 hv6 g6 k6
    obtain ⟨n,hn,rfl⟩:=List.mem_map.mp hv6
    have nr:=hE.rg p hp n hn
    refine ⟨_,rfl,_,_,rfl,rfl,_,rfl,xp (decide_eq_true nr.1) ⟨_,rfl,rm,_,rfl,.inr ((g3.trans (g4.trans (g5.trans g6))).sqT hsm),_,_,rfl,rfl,?_⟩⟩
    show R6 (V.bl (decide (n < (xm.length:Int)))) H6
    rw [decide_eq_true (show n < (xm.length:Int) by omega)]
    exact k6 _ (Grow.refl _ _)
   intro H6 l6 g6 hl6
   refine ⟨l6,(p.2.map V.int).map (fun _=>true),rfl,TB.of (by rw [zc]; simp only [List.map_map]; rfl),?_⟩
   rw [yE]
   exact k _ (g6.trans (Grow.new hl6 _))
  intro H5 l5 g5 hl5
  refine ⟨l5,ys.map (fun _=>true),rfl,TB.of (by rw [zc,List.map_map]; rfl),_,rfl,?_⟩
  rw [yE]
  exact hk _ _ ⟨rfl,g5.trans (Grow.new hl5 _)⟩
 rintro b H5 ⟨rfl,g5⟩
 refine z8 rfl (wu ?_)
 have g35:=g4.trans g5
 have hss5:=g35.sqT hss
 have hsa5:=g35.boardsR hsa
 have hka5:=hka.imp fun _ _ z=>z.grow g35
 have hrs5:=g35.sqT hrs
 have hra5:=g35.boardsR hra
 have g05:=g3.trans g35
 revert g05 hss5 hsa5 hka5 hrs5 hra5
 clear g3 g4 g5 g35 hss hsa hka hrs hra
 intro hss hsa hka hrs hra g3
 obtain ⟨sz,hsz⟩:∃ sz:List (Int × List Int),sz=(f0.map (·.2)).map fun w=>((w.length:Int),w):=⟨_,rfl⟩
 refine ZI (fun v H'=>∃ (l:Addr) (zs:List V),v = .ref l /\ H' l=some (.lst zs) /\ zU (xB K H') zs sz /\ Grow [] H5 H') (fun Kk hk=>⟨_,rfl,rr,rfl,⟨_,hrs⟩,y7 (xs:=ys) (fun i zs H'=>zU (xB K H') zs (((f0.map (·.2)).take i).map fun w=>((w.length:Int),w)) /\ Grow [] H5 H') ⟨trivial,Grow.refl _ _⟩ (fun i zs H' p=>p.2.sqT hrs) ?_ ?_⟩) ?_
 ·rintro i x zs H6 hx ⟨hz,g6⟩
  obtain ⟨w,hw,rw1,rfl,hb⟩:=(g6.boardsR hra).get hx
  have tk:(f0.map (·.2)).take (i+1)=(f0.map (·.2)).take i ++ [w]:=by rw [List.take_succ,hw]; rfl
  have zl:=hz.len
  rw [List.length_map,List.length_take,List.length_map] at zl
  refine ⟨_,rfl,rw1,_,rfl,.inr hb,_,rfl,Sk rfl,fun t ht=>⟨zn (by omega),?_,g6.trans (Grow.new ht _)⟩⟩
  rw [tk,List.map_append]
  have gt:=Grow.new (m:=[]) ht (.tup [.int (w.map V.int).length,.ref rw1])
  refine (hz.imp fun _ _ z=>z.grow gt).app (.one ⟨t,rw1,rfl,TC.of ?_,gt.sqT hb⟩)
  rw [zc,List.length_map]
 ·rintro zs H6 ⟨hz,g6⟩ l hl
  rw [yl,← List.length_map (f:=fun q:List Int × List Int=>q.2),List.take_length,← hsz] at hz
  exact hk _ _ ⟨l,zs,rfl,zc,hz.imp fun _ _ z=>z.grow (Grow.new (m:=[]) hl _),g6.trans (Grow.new hl _)⟩
 rintro _ H6 ⟨ls,zs,rfl,hls,hzs,g6⟩
 have szl_:sz.length<=60:=by rw [hsz,List.length_map,List.length_map]; exact lenf
 have szs:sz.Pairwise (fun a b=>SR (y9 a) (y9 b)=true):=by
  rw [hsz,List.pairwise_map,List.pairwise_map]
  exact hE.so
 have szn:sz.Nodup:=szs.imp fun {a b} h e=>by rw [e,uq] at h; cases h
 refine vf (fun b H'=>b=false /\ Grow [] H6 H') (fun Kk hk=>?_) ?_
 ·refine ⟨_,rfl,_,rfl,ls,zs,sz,rfl,TB.of hls,hzs,szn,by omega,fun p zs' sz' hp pm pw hz'=>?_⟩
  have e:=rk pw szs pm
  subst e
  have gp:=Grow.new (m:=[]) hp (.lst zs')
  refine ⟨.list (sz'.map Xr),.lst (TB.of (gp.keep _ _ (by simp) hls)) (dq_sz61 (hzs.imp fun _ _ z=>z.grow gp)),.lst (TB.of zc) (dq_sz61 (hz'.imp fun _ _ z=>z.grow gp)),⟨ls,rfl⟩,Nat.le_trans (Nat.succ_le_succ (qD sz')) (by decide),_,rfl,rK ?_⟩
  have g7:=g6.trans gp
  have wn:(f0.map (·.2)).Nodup:=by
   rw [hsz] at szn
   exact List.Pairwise.of_map (fun w:List Int=>((w.length:Int),w)) (fun a b h e=>h (by rw [e])) szn
  have wl:(xt (f0.map (·.2))).length=(f0.map (·.2)).length:=qy.mpr wn
  have kl:(xt (zh f0)).length=(zh f0).length:=qy.mpr hE.nd
  have kl0:(zh f0).length=f0.length:=by unfold zh; rw [List.length_map]
  refine ⟨_,rfl,rr,ys,f0.map (·.2),rfl,g7.sqT hrs,show zU (S0 K _) ys (f0.map (·.2)) from (g7.boardsR hra).imp fun _ _ z=>z,by rw [List.length_map]; exact lenf,fun l1 hl1=>?_⟩
  have g8:=g7.trans (Grow.new (m:=[]) hl1 (.ext fun h=>tD h l1 (xt (f0.map (·.2))).length))
  refine ⟨l1,_,rfl,zc,_,rfl,rr,_,rfl,.inr (g8.sqT hrs),rfl,_,rfl,z8 (by rw [decide_eq_true (congrArg V.int (show (((xt (f0.map (·.2))).length:Nat):Int)=ys.length by rw [wl,List.length_map,yl]))]; rfl) ?_⟩
  refine ⟨_,rfl,rs,xs,zh f0,rfl,g8.sqT hss,show zU (S0 K _) xs (zh f0) from (g8.boardsR hsa).imp fun _ _ z=>z,by rw [kl0]; exact lenf,fun l2 hl2=>?_⟩
  have g9:=g8.trans (Grow.new (m:=[]) hl2 (.ext fun h=>tD h l2 (xt (zh f0)).length))
  refine ⟨l2,_,rfl,zc,_,rfl,rs,_,rfl,.inr (g9.sqT hss),rfl,_,rfl,?_⟩
  rw [decide_eq_true (congrArg V.int (show (((xt (zh f0)).length:Nat):Int)=xs.length by rw [kl,kl0,xl]))]
  exact hk _ _ ⟨rfl,gp.trans ((Grow.new hl1 _).trans (Grow.new hl2 _))⟩
 rintro b H7 ⟨rfl,g7⟩
 refine z8 rfl (wu ?_)
 have g57:=g6.trans g7
 clear hzs hls
 refine vf (fun b H'=>b=false /\ Grow [] H7 H') (fun Kk hk=>?_) ?_
 ·refine ⟨_,rfl,rs,_,rfl,.inr (g57.sqT hss),fun l1 hl1=>?_⟩
  have gl1:=Grow.new (m:=[]) hl1 (.lst xs)
  have e1:=zc (H:=H7) (a:=l1) (o:=.lst xs)
  have g8:=g57.trans gl1
  refine ⟨_,rfl,rr,rfl,⟨_,g8.sqT hrs⟩,y7 (xs:=ys) (fun i zs H'=>zU (zp K H') zs (((f0.map (·.2)).take i).map (yi ms S)) /\ Grow [] (Tp H7 l1 (.lst xs)) H') ⟨trivial,Grow.refl _ _⟩ (fun i zs H' p=>(g8.trans p.2).sqT hrs) ?_ ?_⟩
  ·rintro i x zs H9 hx ⟨hz,g9⟩
   obtain ⟨w,hw,bw⟩:=((g8.trans g9).boardsR hra).get hx
   obtain ⟨p,hp,ep⟩:=List.mem_map.mp (List.mem_of_getElem? hw)
   have tk:(f0.map (·.2)).take (i+1)=(f0.map (·.2)).take i ++ [w]:=by rw [List.take_succ,hw]; rfl
   have zl:=hz.len
   rw [List.length_map,List.length_take,List.length_map] at zl
   refine ⟨_,rfl,_,rfl,_,_,rfl,ms,S,w,hM.grow (g3.trans (g8.trans g9)),bw,by rw [← ep]; exact hE.rg p hp,fun y' H10 g10 k10=>⟨zn (by omega),?_,g9.trans g10⟩⟩
   rw [tk,List.map_append]
   exact (g10.boardsR hz).app (.one k10.board)
  ·rintro zs H9 ⟨hz,g9⟩ l2 hl2
   have gl2:=Grow.new (m:=[]) hl2 (.lst zs)
   rw [yl,← List.length_map (f:=fun q:List Int × List Int=>q.2),List.take_length,List.map_map] at hz
   have em:f0.map (yi ms S ∘ fun q=>q.2)=zh f0:=by
    unfold zh
    exact List.map_congr_left fun q hq=>hE.md q hq
   rw [em] at hz
   exact ⟨_,qh (TB.of ((g9.trans gl2).keep _ _ (by simp) e1)) ((g8.trans (g9.trans gl2)).boardsR hsa),qh (TB.of zc) (gl2.boardsR hz),⟨_,rfl⟩,ZK _,_,rfl,hk _ _ ⟨rfl,gl1.trans (g9.trans gl2)⟩⟩
 rintro b H8 ⟨rfl,g8⟩
 refine z8 rfl (wu ?_)
 have g58:=g57.trans g8
 have hss8:=g58.sqT hss
 have hka8:=hka.imp fun _ _ z=>z.grow g58
 have hrs8:=g58.sqT hrs
 have hra8:=g58.boardsR hra
 have g08:=g3.trans g58
 revert hss8 hka8 hrs8 hra8 g08
 clear g3 g6 g7 g8 g57 g58 hss hsa hka hrs hra
 intro hss hka hrs hra g3
 have fd:∀ d ∈ zh f0,Dd S d:=fun d hd=>(hok.good.wd d hd).dd hM.ok
 have kl0:(zh f0).length=f0.length:=by unfold zh; rw [List.length_map]
 refine ZI (fun v H'=>∃ l,v = .ref l /\ H' l=some (.dT (zX 0 (zh f0))) /\ Grow [] H8 H') (fun Kk hk=>⟨_,rfl,rs,_,rfl,hss,qU (xs:=xs) (fun i zs σ' H'=>(∃ e0 e1:Option V,σ' = [e0,e1]) /\ zU (tR H') zs (zX 0 ((zh f0).take i)) /\ Grow [] H8 H') ⟨⟨_,_,rfl⟩,trivial,Grow.refl _ _⟩ (fun i zs σ H p=>p.2.2.sqT hss) ?_ ?_⟩) ?_
 ·rintro i x zs σ H9 T hx ⟨⟨e0,e1,rfl⟩,hz,g9⟩ hT
  obtain ⟨d,hd,b,rfl,hb⟩:=hka.get hx
  have gT:=Grow.new (m:=[]) hT (.tup [.int i,.ref b])
  have tk:(zh f0).take (i+1)=(zh f0).take i ++ [d]:=by rw [List.take_succ,hd]; rfl
  have hi:i < (zh f0).length:=(List.getElem?_eq_some_iff.mp hd).1
  have zl:=hz.len
  rw [vg,List.length_take] at zl
  refine ⟨T,_,rfl,TC.of zc,rfl,_,_,rfl,_,_,rfl,rfl,?_⟩
  refine ⟨_,rfl,_,rfl,Sk rfl,fun t ht=>⟨zn (by omega),⟨_,_,rfl⟩,?_,g9.trans (gT.trans (Grow.new ht _))⟩⟩
  have g10:=gT.trans (Grow.new (m:=[]) ht (.tup [.ref b,.int i]))
  rw [tk,xV,List.length_take,Nat.min_eq_left (Nat.le_of_lt hi),Nat.zero_add]
  exact (v3 g10 hz).app (.one ⟨t,b,rfl,zc,by rw [vG]; exact (g9.trans g10).tup _ _ hb⟩)
 ·rintro zs σ H10 ⟨_,hz,g10⟩ l hl
  rw [xl,← kl0,List.take_length] at hz
  have gl:=Grow.new (m:=[]) hl (.lst zs)
  refine ⟨l,zs,_,rfl,zc,v3 gl hz,fun l2 hl2=>hk _ _ ⟨l2,rfl,?_,g10.trans (gl.trans (Grow.new hl2 _))⟩⟩
  rw [zc,Ye hE.nd]
 rintro _ H9 ⟨lp,rfl,hlp,g9⟩
 refine vf (fun b H'=>b=false /\ Grow [] H9 H') (fun Kk hk=>?_) ?_
 ·refine ⟨_,rfl,_,rfl,true,true,rs,rr,rfl,⟨_,g9.sqT hss⟩,⟨_,g9.sqT hrs⟩,YJ (xs:=xs) (ys:=ys) (fun i ws σ H'=>∃ (e0 e1:Option V),σ = [e0,e1,some (.ref rm),some (.ref lp),some (.ref rr)] /\ ws=(List.replicate i true).map V.bl /\ Grow [] H9 H') ⟨_,_,rfl,rfl,Grow.refl _ _⟩ (fun i ws σ H' ⟨_,_,_,_,g⟩=>⟨(g9.trans g).sqT hss,(g9.trans g).sqT hrs⟩) ?_ ?_⟩
  ·rintro i x y ws σ H10 T hx hy ⟨e0,e1,rfl,rfl,g10⟩ hT
   obtain ⟨d,hd,kd⟩:=hka.get hx
   obtain ⟨w,hw,bw⟩:=hra.get hy
   obtain ⟨p,hp,rfl,rfl⟩:∃ p,f0[i]? = some p /\ p.1=d /\ p.2=w:=by
    unfold zh at hd
    rw [List.getElem?_map] at hd hw
    obtain ⟨p,hp,e⟩:=Option.map_eq_some_iff.mp hd
    rw [hp] at hw
    exact ⟨p,hp,e,Option.some.inj hw⟩
   have gT:=Grow.new (m:=[]) hT (.tup [x,y])
   have g11:=g9.trans (g10.trans gT)
   have hi:=(List.getElem?_eq_some_iff.mp hp).1
   refine ⟨T,_,rfl,TC.of zc,rfl,_,_,rfl,_,_,rfl,rfl,Wc ?_⟩
   refine ⟨_,rfl,_,rfl,_,rfl,_,rfl,_,rfl,_,_,_,_,_,rfl,ms,S,f0,p,lp,hM.grow (g3.trans g11),rfl,(g10.trans gT).keep _ _ (by simp) hlp,⟨rr,ys,rfl,g11.sqT hrs,g11.boardsR hra⟩,g11.board kd.board,g11.board bw,List.mem_of_getElem? hp,hE,hWl,fd,lenf,fun H12 g12=>⟨zn (by rw [List.length_map,List.length_replicate]; omega),_,_,rfl,?_,g10.trans (gT.trans g12)⟩⟩
   rw [List.replicate_succ',List.map_append]; rfl
  ·rintro ws σ H12 ⟨e0,e1,_,rfl,g12⟩ l hl
   refine ⟨l,List.replicate (min xs.length ys.length) true,rfl,TB.of zc,_,rfl,?_⟩
   rw [show (List.replicate (min xs.length ys.length) true).all id=true by rw [List.all_eq_true]; intro x hx; rw [List.eq_of_mem_replicate hx]; rfl]
   exact hk _ _ ⟨rfl,g12.trans (Grow.new hl _)⟩
 rintro b H10 ⟨rfl,g10⟩
 refine z8 rfl (wu ?_)
 refine ⟨_,rfl,_,rfl,ms,S,hM.grow (g3.trans (g9.trans g10)),fun z=>absurd few z,fun y5 f5 H11 g11 hB5 hL5 _=>?_⟩
 cases FamR.eq hL0 hL5
 have g12:=g9.trans (g10.trans g11)
 have sA:=US (rows:=zh f0) (by omega) fun row hrow=>by
  have:=fd row hrow
  exact ⟨by rw [this.1]; have:=hM.s5; omega,fun v hv=>by have:=this.2 v hv; have:=hM.s5; omega⟩
 have sB:=US (rows:=f0.map (·.2)) (by rw [List.length_map]; omega) fun row hrow=>by
  obtain ⟨p,hp,rfl⟩:=List.mem_map.mp hrow
  have h1:=hWl.2 p hp
  exact ⟨by omega,fun v hv=>by have:=hE.rg p hp v hv; have:=hM.m4; omega⟩
 have d1:=hB5.rows.datT
 have d2:Dat K H11 (.ref rs) (.tuple ((zh f0).map qP)):=yk.datT ⟨rs,xs,rfl,g12.sqT hss,hka.imp fun _ _ z=>(z.grow g12).board⟩
 refine ⟨_,_,rfl,d1,sA.1,sA.2.1,Nat.le_trans sA.2.2.2 (by decide),sA.fits (by decide),_,rfl,_,_,rfl,d2,sA.1,sA.2.1,Nat.le_trans sA.2.2.2 (by decide),sA.fits (by decide),rfl,_,rfl,xp (decide_eq_true rfl) ?_⟩
 refine ⟨_,rfl,_,rfl,ms,S,hM.grow (g3.trans g12),fun z=>absurd few z,fun y6 f6 H13 g13 hB6 hL6 _=>?_⟩
 cases FamR.eq hL0 hL6
 have g14:=g12.trans g13
 have d3:=hB6.datT
 have d4:Dat K H13 (.ref rr) (.tuple ((f0.map (·.2)).map qP)):=yk.datT ⟨rr,ys,rfl,g14.sqT hrs,g14.boardsR hra⟩
 refine ⟨_,_,rfl,d3,sB.1,sB.2.1,Nat.le_trans sB.2.2.2 (by decide),sB.fits (by decide),_,rfl,_,_,rfl,d4,sB.1,sB.2.1,Nat.le_trans sB.2.2.2 (by decide),sB.fits (by decide),rfl,?_⟩
 rw [decide_eq_true rfl]
 exact q _ (g3.trans g14)
theorem yu:FnScope ["_law_deed","_law_names","_law_found","_law_state"] ["_law_deed","_law_names"] (zf (S3 30)):=⟨rfl,rfl,rfl,by decide +kernel,rfl,by decide +kernel,by decide +kernel⟩
theorem vB (F:Fun K "_law_renamed" "_law_renamed" (S3 30) f fd) (B:Blt mg)      :
  FnOk P w K mg base Sb (n+1) f fd ["_law_deed","_law_names"] (qB K):=by
 refine F.ok yu xG (fun cdv A outer s H vs Q E hr h=>?_)
 obtain ⟨x,y,rfl,d,π,lp,⟨rd,rfl,hsd⟩,rfl,hp,nm,hd,q⟩:=h
 refine ⟨_,(zd (zH (i:=2) yu.nd rfl (Or.inl rfl) (zY Vc (xw (za zi zb)) zi)) (zd (xO PassesOwn.never rfl (ye rfl B.range (za zi zb)) (zo (i:=3) yu.nd rfl (Or.inl rfl)) (zg (rB (yr yX (pv 1) (yr yD (pv 0) (pv 3) (fun _ _=>rfl)) (fun _ _=>rfl)) (jH (pv 2) (yr yX (pv 1) (pv 3) (fun _ _=>rfl)) v8)))) (zg (zz (zx zt rfl B.tuple zG (za (pv 2) zb)))))),?_⟩
 have dl:=hd.1
 have pl:=nm.l
 refine ⟨Sk rfl,fun l0 hl0=>⟨l0,5,_,rfl,rfl,zc,by omega,by omega,Nat.le_of_lt (zn (by show 1 * (5:Int).toNat<=1000; decide)),fun lf hlf=>?_⟩⟩
 have gf:=(Grow.new (m:=[]) hl0 (.lst [V.int 0])).trans (Grow.new hlf (.lst (List.replicate (5:Int).toNat [V.int 0]).flatten))
 have hlf0:H lf=none:=(Grow.new (m:=[]) hl0 (.lst [V.int 0])).free (by simp) hlf
 refine ⟨_,rfl,by decide,by decide,wM (fun i σ H'=>∃ (e3:Option V) (r:List Int),σ = [some (.ref rd),some (.ref lp),some (.ref lf),e3] /\ Grow [] H H' /\ H' lf=some (.lst (r.map V.int)) /\ r.length=5 /\ ∀ k:Int,0<=k->k < i->ap r (ap π k)=ap π (ap d k)) ⟨_,[0,0,0,0,0],rfl,gf,zc,rfl,fun k k0 k1=>by omega⟩ ?_ ?_⟩
 ·rintro i σ H1 hi ⟨e3,r,rfl,g1,h1,rl,hr⟩
  have hi:i < 5:=by omega
  rw [Int.zero_add]
  obtain ⟨v0,v1⟩:=ZU hd (show (0:Int)<=i by omega) (by omega)
  obtain ⟨p0,p1⟩:=nm.rng (show (0:Int)<=i by omega) (by omega)
  have hp1:=g1.sqL hp
  refine ⟨_,rfl,_,rfl,_,rfl,rd,_,_,_,rfl,rfl,g1.sqT hsd,WK (show (0:Int)<=i by omega) (by omega),lp,_,_,_,rfl,rfl,hp1,WK v0 (by show (ap d i) < _; omega),_,rfl,_,rfl,_,rfl,lp,_,_,_,rfl,rfl,hp1,WK (show (0:Int)<=i by omega) (by omega),?_⟩
  refine ⟨lf,_,_,(ap π i).toNat,rfl,rfl,h1,?_,?_⟩
  ·exact v9 (i:=ap π i) p0 (by rw [List.length_map]; omega)
  have gs:Grow [lf] H1 (Tp H1 lf (.lst ((r.map V.int).set (ap π i).toNat (.int (ap π (ap d i)))))):=Grow.set h1 (by simp) _
  refine ⟨_,r.set (ap π i).toNat (ap π (ap d i)),rfl,((g1.wk).trans gs).shrink hlf0,by rw [zc,← List.map_set]; rfl,by rw [List.length_set]; exact rl,fun k k0 k1=>?_⟩
  obtain ⟨c0,c1⟩:=nm.rng k0 (show k < (5:Nat) by omega)
  by_cases e:k=i
  ·subst e
   exact Wx p0 (by omega)
  ·rw [Uu p0 c0 (fun z=>e (nm.inj (by omega) (by omega) k0 (by omega) z).symm)]
   exact hr k k0 (by omega)
 ·rintro σ H1 ⟨e3,r,rfl,g1,h1,rl,hr⟩
  refine ⟨_,rfl,lf,_,rfl,.inl ⟨TB.of h1,fun t ht=>?_⟩⟩
  have e:=nm.ren_of rl fun k k0 k1=>hr k k0 (by omega)
  rw [e]
  exact q _ _ (g1.trans (Grow.new ht _)) ⟨t,rfl,TC.of zc⟩
theorem wx:FnScope ["_law_store_here","_law_many","_law_digit"] ["_law_store_here","_law_many"] (zf (S3 21)):=⟨rfl,rfl,rfl,by decide +kernel,rfl,by decide +kernel,by decide +kernel⟩
theorem t9 (F:Fun K "_law_draw" "_law_draw" (S3 21) f fd) (B:Blt mg)      :
  FnOk P w K mg base Sb (n+1) f fd ["_law_store_here","_law_many"] (ua K):=by
 refine F.ok wx xG (fun cdv A outer s H vs Q E hr h=>?_)
 obtain ⟨x,y,rfl,a,m,rfl,rfl,⟨p0,p1,hp,h0⟩,hm,hm2,q⟩:=h
 refine ⟨_,(zd (yq (zO XZ (yr yX (pv 0) zi (fun _ _=>rfl)) zi (zT _)) (zd (zH (i:=2) wx.nd rfl (Or.inl rfl) (zY wO (yr yX (pv 0) zi (fun _ _=>rfl)) (pv 1))) (zd (rB (zY rM (yr yX (pv 0) zi (fun _ _=>rfl)) (pv 1)) (jH (pv 0) zi v8)) (zg (zz (pv 2))))) zE) (zd (rB (zY wO (zY wN (zY sk (yr yX (pv 0) zi (fun _ _=>rfl)) zi) zi) zi) (jH (pv 0) zi v8)) (zg (zz (zY wO (zY rM (zY wO (zY jL (yr yX (pv 0) zi (fun _ _=>rfl)) zi) zi) zi) (pv 1)))))),?_⟩
 refine ⟨_,rfl,a,_,_,_,rfl,rfl,TB.of hp,rfl,_,_,rfl,rfl,_,rfl,?_⟩
 refine Tc (fun c=>?_) (fun c=>?_)
 ·refine ⟨_,rfl,a,_,_,_,rfl,rfl,TB.of hp,rfl,_,rfl,p0,m,rfl,rfl,hm,?_⟩
  refine ⟨_,rfl,a,_,_,_,rfl,rfl,TB.of hp,rfl,_,rfl,p0,m,rfl,rfl,⟨hm,hm2⟩,_,rfl,a,_,0,0,rfl,rfl,hp,rfl,?_⟩
  exact ⟨_,rfl,q _ _ (Int.emod_nonneg _ (by omega)) (Int.emod_lt_of_pos _ hm) (Grow.set hp (by simp) _) ⟨p0 / m,p1,zc,Int.ediv_nonneg h0 (by omega)⟩⟩
 ·refine ⟨_,rfl,a,_,_,_,rfl,rfl,TB.of hp,rfl,p1,48271,rfl,rfl,XA ⟨by decide,by decide⟩,_,_,rfl,rfl,_,_,rfl,rfl,(by show (0:Int) < 2147483647; decide),_,rfl,a,_,1,1,rfl,rfl,hp,rfl,?_⟩
  have b0:0<=(p1 * 48271+12289) % 2147483647:=Int.emod_nonneg _ (by decide)
  have b1:(p1 * 48271+12289) % 2147483647 < 2147483647:=Int.emod_lt_of_pos _ (by decide)
  refine ⟨_,rfl,a,_,_,_,rfl,rfl,TB.of zc,rfl,_,_,rfl,rfl,⟨by decide,by decide,by omega⟩,_,_,rfl,rfl,(by show (0:Int) < 2147483563; decide),_,_,rfl,rfl,⟨by decide,by decide⟩,_,rfl,_,_,rfl,rfl,hm,?_⟩
  exact q _ _ (Int.emod_nonneg _ (by omega)) (Int.emod_lt_of_pos _ hm) (Grow.set hp (by simp) _) ⟨p0,(p1 * 48271+12289) % 2147483647,zc,h0⟩
theorem zy:FnScope ["_law_store_here","_law_left","_law_names","_law_makers_here","_law_some","_law_table","_law_turn","_law_i","_law_j"] ["_law_store_here"] (zf (S3 31)):=⟨rfl,rfl,rfl,by decide +kernel,rfl,by decide +kernel,by decide +kernel⟩
theorem x6 (F:Fun K "_law_just_sixty" "_law_just_sixty" (S3 31) f fd) (B:Blt mg) {A_TooMany:Addr} (x_TooMany:rY K mg "TooMany" A_TooMany) (qc0:zu P w K mg base n "_law_right" ["_law_makers_here"] (wo K)) (qc1:zu P w K mg base n "_law_renamed" ["_law_deed","_law_names"] (qB K)) (qc2:zu P w K mg base n "_law_draw" ["_law_store_here","_law_many"] (ua K)) (qc3:zu P w K mg base n "_law_then" ["_law_one","_law_other"] (yy K)) (qc4:zQ P w K mg base n "own_table" ["deeds"] (wI A_TooMany K)) (qc5:zQ P w K mg base n "family" ["deeds"] (xn A_TooMany K))     :
  FnOk P w K mg base Sb (n+1) f fd ["_law_store_here"] (tV K):=by
 refine F.ok zy yY (fun cdv A outer s H vs Q E hr h=>?_)
 obtain ⟨x,rfl,a,rfl,pp,q⟩:=h
 refine ⟨_,(@zd _ _ _ _ _ (@zH _ _ 1 _ _ _ _ zy.nd rfl (Or.inr rfl) (@xw _ _ _ _ (@za _ _ _ _ _ zi (@za _ _ _ _ _ zi (@za _ _ _ _ _ zi (@za _ _ _ _ _ zi (@za _ _ _ _ _ zi zb (by rfl)) (by rfl)) (by rfl)) (by rfl)) (by rfl))) (by rfl) (by first | exact .inl rfl | exact .inr rfl | assumption)) (@zd _ _ _ _ _ (@zH _ _ 2 _ _ _ _ zy.nd rfl (Or.inr rfl) (@j5 _ _ _ _ _ _ _ _ _ _ _ _ _ _ (CSc.of (N':=["_law_k","_law_left","_law_store_here"]) (sub:=[none,some 1,some 0]) (zf (S3 31)) ["_law_store_here","_law_left","_law_names","_law_makers_here","_law_some","_law_table","_law_turn","_law_i","_law_j"] rfl rfl (by decide +kernel) rfl) rfl (@ye _ _ _ _ _ _ rfl B.range (@za _ _ _ _ _ zi zb (by rfl)) (by rfl)) (fun _ _ _ _ _ _=>zo (i:=0) (show (["_law_k","_law_left","_law_store_here"]:List Str).Nodup by decide +kernel) rfl (Or.inl rfl)) (fun _ _ _ _ _ _=>zA) (fun _ _ _ _ _ _=>(rX (K:=K) rfl PySem.F.plainAttrs_list PySem.F.slot_list_pop PySem.F.type_list_pop Yu (pv 1) (@za _ _ _ _ _ (@zm _ _ _ _ _ _ _ _ _ _ qc2 hr rfl (@za _ _ _ _ _ (pv 2) (@za _ _ _ _ _ (@zY _ _ _ _ _ _ _ _ rE zi (pv 0)) zb (by rfl)) (by rfl)) (by decide) (by rfl) (by rfl)) zb (by rfl)))) (by intro _; rfl)) (by rfl) (by first | exact .inl rfl | exact .inr rfl | assumption)) (@zd _ _ _ _ _ (@Wa _ _ _ _ _ _ _ _ _ _ _ _ _ _ 3 _ _ _ zy.nd rfl rfl (CSc.of (N':=["_law_deed","_law_names"]) (sub:=[none,some 2]) (zf (S3 31)) ["_law_store_here","_law_left","_law_names","_law_makers_here","_law_some","_law_table","_law_turn","_law_i","_law_j"] rfl rfl (by decide +kernel) rfl) rfl (@yC _ _ _ _ (@yj _ _ _ _ _ (@za _ _ _ _ _ (@yj _ _ _ _ _ (@za _ _ _ _ _ zi (@za _ _ _ _ _ zi (@za _ _ _ _ _ zi (@za _ _ _ _ _ zi (@za _ _ _ _ _ zi zb (by rfl)) (by rfl)) (by rfl)) (by rfl)) (by rfl))) (@za _ _ _ _ _ (@yj _ _ _ _ _ (@za _ _ _ _ _ zi (@za _ _ _ _ _ zi (@za _ _ _ _ _ zi (@za _ _ _ _ _ zi (@za _ _ _ _ _ zi zb (by rfl)) (by rfl)) (by rfl)) (by rfl)) (by rfl))) zb (by rfl)) (by rfl)))) (fun _ _ _ _ _ _=>zo (i:=0) (show (["_law_deed","_law_names"]:List Str).Nodup by decide +kernel) rfl (Or.inl rfl)) (fun _ _ _ _ _ _=>zA) (fun _ _ _ _ _ _=>(@zm _ _ _ _ _ _ _ _ _ _ qc1 hr rfl (@za _ _ _ _ _ (pv 0) (@za _ _ _ _ _ (pv 1) zb (by rfl)) (by rfl)) (by decide) (by rfl) (by rfl))) (by rfl) (by intro _; rfl)) (@zd _ _ _ _ _ (@yq _ _ _ _ _ _ _ _ (@zO _ _ _ _ _ _ _ _ sg (@zm _ _ _ _ _ _ _ _ _ _ qc2 hr rfl (@za _ _ _ _ _ (pv 0) (@za _ _ _ _ _ zi zb (by rfl)) (by rfl)) (by decide) (by rfl) (by rfl)) zi (zT _)) (@zg _ _ _ (@yp _ _ _ _ (@Va _ _ _ _ _ _ _ _ _ PySem.F.plainAttrs_list PySem.F.slot_list_reverse PySem.F.type_list_reverse tN (pv 3) (by rfl) (by rfl)) (by rfl))) zE) (@zd _ _ _ _ _ (@yq _ _ _ _ _ _ _ _ (@PW.pt _ _ _ (@vC _ _ _ _ _ _ _ (@zO _ _ _ _ _ _ _ _ jP (@ze _ _ _ _ _ _ _ _ _ zq rfl B.len yg (@za _ _ _ _ _ (@yc _ _ _ _ _ _ _ _ _ _ _ qc5 sM hr rfl (@za _ _ _ _ _ (@zx _ _ _ _ _ _ _ _ _ zt rfl B.tuple zG (@za _ _ _ _ _ (pv 3) zb (by rfl)) (by decide) (by decide) (by rfl) (by rfl)) zb (by rfl)) (by decide) (by rfl) (by rfl)) zb (by rfl)) (by decide) (by decide) (by rfl) (by rfl)) zi (zT _)) (@wK _ _ _ _ (@yB _ _ _ _ (@yV _ _ _ (@zm _ _ _ _ _ _ _ _ _ _ qc0 hr rfl (@za _ _ _ _ _ (@zx _ _ _ _ _ _ _ _ _ zt rfl B.tuple zG (@za _ _ _ _ _ (pv 3) zb (by rfl)) (by decide) (by decide) (by rfl) (by rfl)) zb (by rfl)) (by decide) (by rfl) (by rfl)) (by intro _; rfl)))))) (@zg _ _ _ (@zz _ _ _ _ yT)) zE) (@zd _ _ _ _ _ (@Xv _ _ 4 5 _ _ _ _ _ _ _ _ _ _ _ rfl zy.nd rfl rfl (by decide) rfl rfl (@za _ _ _ _ _ (@yc _ _ _ _ _ _ _ _ _ _ _ qc5 sM hr rfl (@za _ _ _ _ _ (@zx _ _ _ _ _ _ _ _ _ zt rfl B.tuple zG (@za _ _ _ _ _ (pv 3) zb (by rfl)) (by decide) (by decide) (by rfl) (by rfl)) zb (by rfl)) (by decide) (by rfl) (by rfl)) (@za _ _ _ _ _ (@yc _ _ _ _ _ _ _ _ _ _ _ qc4 sM hr rfl (@za _ _ _ _ _ (@zx _ _ _ _ _ _ _ _ _ zt rfl B.tuple zG (@za _ _ _ _ _ (pv 3) zb (by rfl)) (by decide) (by decide) (by rfl) (by rfl)) zb (by rfl)) (by decide) (by rfl) (by rfl)) zb (by rfl)) (by rfl)) rfl (by rfl)) (@zd _ _ _ _ _ (@yq _ _ _ _ _ _ _ _ (@PW.pt _ _ _ (@vC _ _ _ _ _ _ _ (@zO _ _ _ _ _ _ _ _ jP (@ze _ _ _ _ _ _ _ _ _ zq rfl B.len yg (@za _ _ _ _ _ (pv 5) zb (by rfl)) (by decide) (by decide) (by rfl) (by rfl)) zi (zT _)) (@wK _ _ _ _ (@yB _ _ _ _ (@yV _ _ _ (@ze _ _ _ _ _ _ _ _ _ (yt rfl) rfl B.all sj (@za _ _ _ _ _ (@j5 _ _ _ _ _ _ _ _ _ _ _ _ _ _ (CSc.of (N':=["_law_row"]) (sub:=[none]) (zf (S3 31)) ["_law_store_here","_law_left","_law_names","_law_makers_here","_law_some","_law_table","_law_turn","_law_i","_law_j"] rfl rfl (by decide +kernel) rfl) rfl (@yC _ _ _ _ (pv 5)) (fun _ _ _ _ _ _=>zo (i:=0) (show (["_law_row"]:List Str).Nodup by decide +kernel) rfl (Or.inl rfl)) (fun _ _ _ _ _ _=>zA) (fun _ _ _ _ _ _=>(@wP _ _ _ _ _ _ _ _ sg (@ze _ _ _ _ _ _ _ _ _ (yF (K:=K) rfl) rfl B.len yg (@za _ _ _ _ _ (pv 0) zb (by rfl)) (by decide) (by decide) (by rfl) (by rfl)) zi (zT _))) (by intro _; rfl)) zb (by rfl)) (by decide) (by decide) (by rfl) (by rfl)) (by intro _; rfl)))))) (@zg _ _ _ (@zz _ _ _ _ yT)) zE) (@zd _ _ _ _ _ (@xO _ _ _ _ _ _ _ _ PassesOwn.never rfl (@ye _ _ _ _ _ _ rfl B.range (@za _ _ _ _ _ zi zb (by rfl)) (by rfl)) (zo (i:=6) zy.nd rfl (Or.inl rfl)) (@zd _ _ _ _ _ (@Xv _ _ 7 8 _ _ _ _ _ _ _ _ _ _ _ rfl zy.nd rfl rfl (by decide) rfl rfl (@za _ _ _ _ _ (@zm _ _ _ _ _ _ _ _ _ _ qc2 hr rfl (@za _ _ _ _ _ (pv 0) (@za _ _ _ _ _ zi zb (by rfl)) (by rfl)) (by decide) (by rfl) (by rfl)) (@za _ _ _ _ _ (@zm _ _ _ _ _ _ _ _ _ _ qc2 hr rfl (@za _ _ _ _ _ (pv 0) (@za _ _ _ _ _ zi zb (by rfl)) (by rfl)) (by decide) (by rfl) (by rfl)) zb (by rfl)) (by rfl)) rfl (by rfl)) (@zg _ _ _ (@yq _ _ _ _ _ _ _ _ (@zO _ _ _ _ _ _ _ _ (rT (K:=K) rfl hr) (@yr _ _ _ _ _ _ _ yD (pv 4) (@yr _ _ _ _ _ _ _ yD (@yr _ _ _ _ _ _ _ yD (pv 5) (pv 7) (fun _ _=>rfl)) (pv 8) (fun _ _=>rfl)) (fun _ _=>rfl)) (@zm _ _ _ _ _ _ _ _ _ _ qc3 hr rfl (@za _ _ _ _ _ (@yr _ _ _ _ _ _ _ yD (pv 4) (pv 7) (fun _ _=>rfl)) (@za _ _ _ _ _ (@yr _ _ _ _ _ _ _ yD (pv 4) (pv 8) (fun _ _=>rfl)) zb (by rfl)) (by rfl)) (by decide) (by rfl) (by rfl)) (zT _)) (@zg _ _ _ (@zz _ _ _ _ yT)) zE))) (by intro _; rfl)) (@zd _ _ _ _ _ (@yp _ _ _ _ (@si _ _ _ _ _ _ _ _ _ _ _ _ PySem.F.plainAttrs_list PySem.F.slot_list_insert PySem.F.type_list_insert Zo (pv 3) (@za _ _ _ _ _ (@zm _ _ _ _ _ _ _ _ _ _ qc2 hr rfl (@za _ _ _ _ _ (pv 0) (@za _ _ _ _ _ zi zb (by rfl)) (by rfl)) (by decide) (by rfl) (by rfl)) (@za _ _ _ _ _ (@zm _ _ _ _ _ _ _ _ _ _ qc1 hr rfl (@za _ _ _ _ _ (@yj _ _ _ _ _ (@za _ _ _ _ _ zi (@za _ _ _ _ _ zi (@za _ _ _ _ _ zi (@za _ _ _ _ _ zi (@za _ _ _ _ _ zi zb (by rfl)) (by rfl)) (by rfl)) (by rfl)) (by rfl))) (@za _ _ _ _ _ (pv 2) zb (by rfl)) (by rfl)) (by decide) (by rfl) (by rfl)) zb (by rfl)) (by rfl)) (by rfl) (by rfl) (by rfl) (by rfl) (by rfl)) (by rfl)) (@zg _ _ _ (@zz _ _ _ _ (@zm _ _ _ _ _ _ _ _ _ _ qc0 hr rfl (@za _ _ _ _ _ (@zx _ _ _ _ _ _ _ _ _ zt rfl B.tuple zG (@za _ _ _ _ _ (pv 3) zb (by rfl)) (by decide) (by decide) (by rfl) (by rfl)) zb (by rfl)) (by decide) (by rfl) (by rfl))))))))))))),?_⟩
 refine ZI (fun v H'=>∃ ll,v = .ref ll /\ H ll=none /\ H' ll=some (.lst ((List.range 5).map fun i:Nat=>V.int i)) /\ ll ∉ [a] /\ Grow [] H H' /\ Sj H' a) (fun Kk hk=>⟨Sk rfl,fun ll hll=>hk _ _ ⟨ll,rfl,hll,zc,pp.ne hll,Grow.new hll _,pp.grow (Grow.new (m:=[]) hll _)⟩⟩) ?_
 rintro _ H1 ⟨ll,rfl,hl0,hll,nl,g1,pp1⟩
 refine ZI (fun v H'=>∃ (lp:Addr) (π:List Int),v = .ref lp /\ H' lp=some (.lst (π.map V.int)) /\ Nm 5 π /\ lp ∉ [a] /\ Grow [a,ll] H1 H' /\ Sj H' a) (fun Kk hk=>⟨_,rfl,by decide,by decide,xP (fun j ys H'=>∃ left:List V,H' ll=some (.lst left) /\ (ys ++ left).Perm ((List.range 5).map fun i:Nat=>V.int i) /\ ys.length=j /\ Grow [a,ll] H1 H' /\ Sj H' a) ⟨_,hll,.refl _,rfl,Grow.refl _ _,pp1⟩ ?_ ?_⟩) ?_
 ·rintro j ys H2 hj ⟨left,hl2,pm,yl,g2,pp2⟩
  have hlen:=pm.length_eq
  rw [List.length_append,List.length_map,List.length_range] at hlen
  have hj5:j < 5:=by omega
  refine ⟨_,rfl,.inl ⟨rfl,_,TB.of hl2⟩,_,rfl,_,rfl,_,_,rfl,rfl,_,_,rfl,a,_,rfl,rfl,pp2,by omega,by omega,fun n H3 n0 n1 g3 pp3=>?_⟩
  have hl3:=g3.keep _ _ nl hl2
  have hjj:n.toNat < left.length:=by omega
  refine ⟨ll,left,n,n.toNat,left[n.toNat],rfl,rfl,hl3,by omega,by omega,seqIndex_of n0 (by omega),List.getElem?_eq_getElem hjj,zn (by omega),left.eraseIdx n.toNat,zc,?_,by rw [List.length_append,yl]; rfl,g2.trans ((g3.mono (m':=[a,ll]) (by simp)).trans (Grow.set hl3 (by simp) _)),?_⟩
  ·rw [List.append_assoc]
   exact ((qV hjj).append_left ys).trans pm
  ·obtain ⟨z1,z2,hz,z0⟩:=pp3
   exact ⟨z1,z2,by rw [zj (show a ≠ ll from fun z=>nl (by rw [z]; simp))]; exact hz,z0⟩
 ·rintro ys H2 ⟨left,hl2,pm,yl,g2,pp2⟩ lp hlp
  have hlen:=pm.length_eq
  rw [List.length_append,List.length_map,List.length_range] at hlen
  have yl5:ys.length=5:=by rw [yl]; rfl
  have hle:left=[]:=List.eq_nil_of_length_eq_zero (by omega)
  rw [hle,List.append_nil] at pm
  obtain ⟨π,rfl,nm⟩:=Y9 pm
  exact hk _ _ ⟨lp,π,rfl,zc,nm,pp2.ne hlp,g2.trans (Grow.new hlp _).wk,pp2.grow (Grow.new (m:=[]) hlp _)⟩
 rintro _ H2 ⟨lp,π,rfl,hlp,nm,nlp,g2,pp2⟩
 refine ZI (fun v H'=>∃ (lm:Addr) (zs:List V),v = .ref lm /\ H2 lm=none /\ lm ∉ [a] /\ H' lm=some (.lst zs) /\ zU (zp K H') zs ([yR,yS].map (SS π)) /\ Grow [] H2 H') (fun Kk hk=>?_) ?_
 ·refine ⟨Sk rfl,fun t1 ht1=>⟨Sk rfl,fun t2 ht2=>⟨Sk rfl,fun t3 ht3=>?_⟩⟩⟩
  have k1:=Grow.new (m:=[]) ht1 (.tup [V.int 1,V.int 2,V.int 3,V.int 4,V.int 0])
  have k2:=Grow.new (m:=[]) ht2 (.tup [V.int 1,V.int 2,V.int 0,V.int 3,V.int 4])
  have k3:=Grow.new (m:=[]) ht3 (.tup [.ref t1,.ref t2])
  have e1:=(k2.trans k3).tup _ _ (zc (H:=H2) (a:=t1) (o:=.tup [V.int 1,V.int 2,V.int 3,V.int 4,V.int 0]))
  have e2:=k3.tup _ _ (zc (H:=Tp H2 t1 (.tup [V.int 1,V.int 2,V.int 3,V.int 4,V.int 0])) (a:=t2) (o:=.tup [V.int 1,V.int 2,V.int 0,V.int 3,V.int 4]))
  have e3:=zc (H:=Tp (Tp H2 t1 (.tup [V.int 1,V.int 2,V.int 3,V.int 4,V.int 0])) t2 (.tup [V.int 1,V.int 2,V.int 0,V.int 3,V.int 4])) (a:=t3) (o:=.tup [.ref t1,.ref t2])
  have k:=k1.trans (k2.trans k3)
  revert e1 e2 e3 k
  clear k1 k2 k3
  generalize hG:Tp (Tp (Tp H2 t1 (.tup [V.int 1,V.int 2,V.int 3,V.int 4,V.int 0])) t2 (.tup [V.int 1,V.int 2,V.int 0,V.int 3,V.int 4])) t3 (.tup [.ref t1,.ref t2])=H3
  intro e1 e2 e3 k
  have hb:zU (zp K H3) [V.ref t1,V.ref t2] [yR,yS]:=⟨⟨t1,rfl,TC.of (show H3 t1=some (.tup (yR.map V.int)) from e1)⟩,⟨t2,rfl,TC.of (show H3 t2=some (.tup (yS.map V.int)) from e2)⟩,trivial⟩
  refine ⟨t3,rfl,⟨_,TC.of e3⟩,y7 (xs:=[V.ref t1,V.ref t2]) (fun i zs H'=>zU (zp K H') zs (([yR,yS].take i).map (SS π)) /\ Grow [] H3 H') ⟨trivial,Grow.refl _ _⟩ (fun i zs H' p=>p.2.sqT (TC.of e3)) ?_ ?_⟩
  ·rintro i x zs H4 hx ⟨hz,g4⟩
   obtain ⟨d,hd,bd⟩:=hb.get hx
   have tk:[yR,yS].take (i+1)=[yR,yS].take i ++ [d]:=by rw [List.take_succ,hd]; rfl
   have zl:=hz.len
   rw [List.length_map,List.length_take] at zl
   have dm:d ∈ [yR,yS,xM]:=by
    have:=List.mem_of_getElem? hd
    simp only [List.mem_cons,List.not_mem_nil,or_false] at this ⊢
    rcases this with e | e <;> simp [e]
   refine ⟨_,rfl,_,rfl,_,_,rfl,d,π,lp,g4.board bd,rfl,TB.of ((k.trans g4).keep _ _ (by simp) hlp),nm,V1 d dm,fun y' H5 g5 b5=>⟨zn (by rw [zl]; exact Nat.le_trans (Nat.min_le_right _ _) (by decide)),?_,g4.trans g5⟩⟩
   rw [tk,List.map_append]
   exact (g5.boardsR hz).app (.one b5)
  ·rintro zs H4 ⟨hz,g4⟩ lm hlm
   have gm:=Grow.new (m:=[]) hlm (.lst zs)
   exact hk _ _ ⟨lm,zs,rfl,(k.trans g4).free (by simp) hlm,(pp2.grow (k.trans g4)).ne hlm,zc,gm.boardsR hz,k.trans (g4.trans gm)⟩
 rintro _ H3 ⟨lm,zs,rfl,hm0,nm_,hlm,hz,g3⟩
 have pp3:=pp2.grow g3
 have hlp3:=g3.keep _ _ (by simp) hlp
 refine Tg (fun σ' H'=>∃ (zs:List V) (ms:List (List Int)),σ' = [some (.ref a),some (.ref ll),some (.ref lp),some (.ref lm),none,none,none,none,none] /\ H' lm=some (.lst zs) /\ zU (zp K H') zs (ms.map (SS π)) /\ ms ∈ [[yR,yS],[yS,yR]] /\ Grow [a,lm] H3 H' /\ Sj H' a /\ H' lp=some (.lst (π.map V.int))) ?_ ?_
 rotate_left
 ·intro hk
  refine ⟨_,rfl,_,_,rfl,a,_,rfl,rfl,pp3,by decide,by decide,fun n H4 n0 n1 g4 pp4=>?_⟩
  have hlm4:=g4.keep _ _ nm_ hlm
  have hlp4:H4 lp=some (.lst (π.map V.int)):=g4.keep _ _ nlp hlp3
  have hz4:=g4.boardsR hz
  by_cases c:n=1
  ·refine ⟨rfl,_,rfl,xp (decide_eq_true (congrArg V.int c)) ?_⟩
   have zl:zs.length=2:=hz.len
   have gs:Grow [lm] H4 (Tp H4 lm (.lst zs.reverse)):=Grow.set hlm4 (by simp) _
   refine ⟨_,rfl,.inl ⟨rfl,_,TB.of hlm4⟩,lm,zs,rfl,rfl,hlm4,zn (by omega),?_⟩
   refine Ws (hk _ _ ⟨_,[yS,yR],rfl,zc,?_,.tail _ (.head _),(g4.mono (by simp)).trans (gs.mono (by simp)),?_,?_⟩)
   ·exact rev2_61 (gs.boardsR hz4)
   ·obtain ⟨z1,z2,hz,z0⟩:=pp4
    exact ⟨z1,z2,by rw [zj (show a ≠ lm from fun z=>nm_ (by rw [z]; simp))]; exact hz,z0⟩
   ·rw [zj (show lp ≠ lm from fun z=>by rw [z,hm0] at hlp; cases hlp)]; exact hlp4
  ·refine ⟨rfl,_,rfl,z8 (decide_eq_false fun z=>c (V.int.inj z)) (wu (hk _ _ ⟨zs,_,rfl,hlm4,hz4,.head _,(g4.mono (by simp)),pp4,hlp4⟩))⟩
 rintro _ H4 ⟨zs,ms,rfl,hlm,hz,hms,g4,pp4,hlp4⟩
 have ms2:ms.length=2:=by
  simp only [List.mem_cons,List.not_mem_nil,or_false] at hms
  rcases hms with rfl | rfl <;> rfl
 obtain ⟨hMs,few,h60⟩:=WI nm hms
 have hmk:∀ {H':Hp} {t:Addr},TC K H' t zs->zU (zp K H') zs (ms.map (SS π))->Mk61 K H' (.ref t) (ms.map (SS π)) 5:=fun {H' t} h1 h2=>⟨⟨t,zs,rfl,h1,h2⟩,hMs,by decide,by decide,by rw [List.length_map]; omega,by rw [List.length_map]; omega⟩
 refine vf (fun b H'=>b=false /\ Grow [] H4 H') (fun Kk hk=>?_) ?_
 ·refine ⟨_,rfl,lm,zs,rfl,.inl ⟨TB.of hlm,fun t ht=>?_⟩⟩
  have gt:=Grow.new (m:=[]) ht (.tup zs)
  refine ⟨_,rfl,_,_,hmk (TC.of zc) (gt.boardsR hz),fun z=>absurd few z,fun y f0 H5 g5 hB hL l60=>?_⟩
  obtain ⟨rs,xs,rfl,hss,hka⟩:=hB
  have xl:=hka.len
  unfold zh at xl
  rw [List.length_map,h60 _ hL] at xl
  refine ⟨rs,xs,rfl,.inr hss,?_⟩
  refine ⟨rfl,_,rfl,z8 (by rw [decide_eq_true (congrArg V.int (show (xs.length:Int)=60 by omega))]; rfl) ?_⟩
  have g6:=gt.trans g5
  have hlm5:=g6.keep _ _ (by simp) hlm
  refine ⟨_,rfl,lm,zs,rfl,.inl ⟨TB.of hlm5,fun t2 ht2=>?_⟩⟩
  have gt2:=Grow.new (m:=[]) ht2 (.tup zs)
  exact ⟨_,rfl,_,_,hmk (TC.of zc) ((g6.trans gt2).boardsR hz),fun H7 g7=>⟨_,rfl,hk _ _ ⟨rfl,g6.trans (gt2.trans g7)⟩⟩⟩
 rintro b H5 ⟨rfl,g5⟩
 refine z8 rfl (wu ?_)
 have hlm5:=g5.keep _ _ (by simp) hlm
 refine ⟨_,rfl,lm,zs,rfl,.inl ⟨TB.of hlm5,fun t ht=>?_⟩⟩
 have gt:=Grow.new (m:=[]) ht (.tup zs)
 refine ⟨_,rfl,_,_,hmk (TC.of zc) ((g5.trans gt).boardsR hz),fun z=>absurd few z,fun y f0 H6 g6 hB hL l60=>?_⟩
 obtain ⟨rs,xs,rfl,hss,hka⟩:=hB
 have g46:=g5.trans (gt.trans g6)
 have hlm6:=g46.keep _ _ (by simp) hlm
 refine ⟨_,rfl,lm,zs,rfl,.inl ⟨TB.of hlm6,fun t2 ht2=>?_⟩⟩
 have gt2:=Grow.new (m:=[]) ht2 (.tup zs)
 refine ⟨_,rfl,_,_,hmk (TC.of zc) ((g46.trans gt2).boardsR hz),fun z=>absurd few z,fun y2 f2 H7 g7 hT hL2 _=>?_⟩
 cases FamR.eq hL hL2
 clear hL2
 have g67:=gt2.trans g7
 have g47:=g46.trans g67
 have hss7:=g67.sqT hss
 have hsa7:zU (zp K H7) xs (zh f0):=hka.imp fun _ _ z=>(z.grow g67).board
 have hlm7:=g47.keep _ _ (by simp) hlm
 have hz7:=g47.boardsR hz
 have hlp7:=g47.keep _ _ (by simp) hlp4
 have pp7:=pp4.grow g47
 have g17:=g4.trans (g47.wk (m:=[a,lm]))
 revert hss7 hsa7 hT hlm7 hz7 hlp7 pp7 g17
 clear g67 g47 g46 gt2 gt g7 g6 g5 hka hss hlm5 hlm6 hlm hz hlp4 pp4 g4
 intro hT hss hsa hlm hz hlp4 pp4 g4
 obtain ⟨rt,ts,rfl,hts,hta⟩:=hT
 have fl:=h60 _ hL
 have kl:(zh f0).length=60:=by unfold zh; rw [List.length_map]; exact fl
 have xl:xs.length=60:=by rw [hsa.len]; exact kl
 have hF:=hL.fam hMs few
 have tok:=Y2 hF
 have tl:ts.length=60:=by rw [hta.len,tok.1]; exact kl
 refine ⟨_,_,rfl,Ws (vf (fun b H'=>b=false /\ Grow [] H7 H') (fun Kk hk=>?_) ?_)⟩
 ·refine ⟨_,rfl,rt,_,rfl,.inr hts,rfl,_,rfl,z8 (by rw [decide_eq_true (congrArg V.int (show (ts.length:Int)=60 by omega))]; rfl) ?_⟩
  refine ⟨_,rfl,rt,rfl,⟨_,hts⟩,yh (fun _=>V.bl true) hts (by omega) ?_ ?_⟩
  ·intro v H8 R' hv g8 k
   obtain ⟨i,hi⟩:=List.getElem?_of_mem hv
   obtain ⟨row,hrow,rw1,rfl,hb⟩:=hta.get hi
   have rl:=(tok.2 row (List.mem_of_getElem? hrow)).1
   refine ⟨_,rfl,rw1,_,rfl,.inr (g8.sqT hb),rfl,?_⟩
   show R' (V.bl (decide (V.int ((row.map V.int).length:Nat)=V.int 60))) H8
   rw [decide_eq_true (congrArg V.int (show (((row.map V.int).length:Nat):Int)=60 by rw [List.length_map]; omega))]
   exact k _ (Grow.refl _ _)
  intro H8 l8 g8 hl8
  refine ⟨l8,ts.map (fun _=>true),rfl,TB.of (by rw [zc,List.map_map]; rfl),_,rfl,?_⟩
  rw [yE]
  exact hk _ _ ⟨rfl,g8.trans (Grow.new hl8 _)⟩
 rintro b H8 ⟨rfl,g8⟩
 refine z8 rfl (wu ?_)
 refine ⟨_,rfl,by decide,by decide,wM (fun i σ H'=>∃ (e6 e7 e8:Option V),σ = [some (.ref a),some (.ref ll),some (.ref lp),some (.ref lm),some (.ref rs),some (.ref rt),e6,e7,e8] /\ Grow [a] H8 H' /\ Sj H' a) ⟨_,_,_,rfl,Grow.refl _ _,pp4.grow g8⟩ ?_ ?_⟩
 ·rintro i σ H9 hi ⟨e6,e7,e8,rfl,g9,pp9⟩
  refine ⟨_,rfl,_,_,rfl,a,_,rfl,rfl,pp9,by decide,by decide,fun n1 H10 l1 u1 g10 pp10=>⟨_,rfl,_,_,rfl,a,_,rfl,rfl,pp10,by decide,by decide,fun n2 H11 l2 u2 g11 pp11=>⟨_,_,rfl,?_⟩⟩⟩
  have g:=g8.wk.trans (g9.trans (g10.trans g11))
  have hs':=g.sqT hss
  have ha':=g.boardsR hsa
  have ht':=g.sqT hts
  have hta':=g.boardsR hta
  obtain ⟨i1,rfl⟩:∃ i1:Nat,n1=i1:=⟨n1.toNat,by omega⟩
  obtain ⟨i2,rfl⟩:∃ i2:Nat,n2=i2:=⟨n2.toNat,by omega⟩
  obtain ⟨r1,k1,s1⟩:=um ha' (i:=i1) (by omega)
  obtain ⟨r2,k2,s2⟩:=um ha' (i:=i2) (by omega)
  obtain ⟨rc,kc,sc⟩:=um hta' (i:=i1) (by rw [tok.1]; omega)
  have m1:=zK (ms:=zh f0) (i:=i1) (by omega)
  have m2:=zK (ms:=zh f0) (i:=i2) (by omega)
  have c1:=hF.cl _ m1 _ m2
  have cell:=VV (fam:=zh f0) (i:=i1) (j:=i2) (by omega) (by omega)
  obtain ⟨r3,k3,s3⟩:=um ha' (i:=SO (zh f0) (zv ((zh f0).getD i1 []) ((zh f0).getD i2 []))) (qg c1)
  rw [ZJ c1] at s3
  have rcl:((Y1 (zh f0)).getD i1 []).length=(zh f0).length:=(tok.2 _ (zK (by rw [tok.1]; omega))).1
  have kcell:T5 (((Y1 (zh f0)).getD i1 []).map V.int) (i2:Int)=some (V.int ((SO (zh f0) (zv ((zh f0).getD i1 []) ((zh f0).getD i2 [])):Nat):Int)):=by
   have:=WK (xs:=(Y1 (zh f0)).getD i1 []) (i:=(i2:Int)) (by omega) (by omega)
   rw [Int.toNat_natCast,cell] at this
   exact this
  refine Ws ⟨_,rfl,_,rfl,_,rfl,rt,_,_,_,rfl,rfl,ht',kc,_,rfl,rc,_,_,_,rfl,rfl,sc,kcell,rs,_,_,_,rfl,rfl,hs',k3,?_⟩
  refine ⟨_,rfl,_,rfl,rs,_,_,_,rfl,rfl,hs',k1,_,rfl,_,rfl,rs,_,_,_,rfl,rfl,hs',k2,_,_,rfl,5,_,_,⟨r1,rfl,s1⟩,⟨r2,rfl,s2⟩,(hF.dd _ m1).2,(hF.dd _ m2).1,by rw [(hF.dd _ m1).1]; decide,fun y H12 g12 k12=>?_⟩
  refine ⟨_,uS ⟨r3,rfl,g12.sqT s3⟩,uS k12.board,⟨_,rfl⟩,Nat.le_trans (Nat.le_of_eq (show PyData.depthAll (List.map PyData.int _)+1=1 by rw [wF])) (by decide),_,rfl,rK ⟨_,_,_,rfl,g9.trans (g10.trans (g11.trans g12.wk)),pp11.grow g12⟩⟩
 rintro σ H9 ⟨e6,e7,e8,rfl,g9,pp9⟩
 refine Ws ?_
 have hlm9:=g9.keep _ _ nm_ (g8.keep _ _ (by simp) hlm)
 refine ⟨_,rfl,.inl ⟨rfl,_,TB.of hlm9⟩,_,rfl,_,_,rfl,a,_,rfl,rfl,pp9,by decide,by decide,fun n0 H10 l0 u0 g10 pp10=>?_⟩
 obtain ⟨i0,rfl⟩:∃ i0:Nat,n0=i0:=⟨n0.toNat,by omega⟩
 have hlm10:=g10.keep _ _ nm_ hlm9
 have hlp10:=g10.keep _ _ nlp (g9.keep _ _ nlp (g8.keep _ _ (by simp) hlp4))
 have g710:=g8.wk.trans (g9.trans g10)
 refine ⟨Sk rfl,fun t ht=>?_⟩
 have gt:=Grow.new (m:=[]) ht (.tup [V.int 1,V.int 0,V.int 2,V.int 3,V.int 4])
 refine ⟨_,rfl,_,_,rfl,xM,π,lp,⟨t,rfl,TC.of (show _=some (.tup (xM.map V.int)) from zc)⟩,rfl,TB.of (gt.keep _ _ (by simp) hlp10),nm,V1 xM (.tail _ (.tail _ (.head _))),fun y H11 g11 hy=>?_⟩
 have hlm11:=(gt.trans g11).keep _ _ (by simp) hlm10
 have zl:=hz.len
 rw [List.length_map,ms2] at zl
 refine ⟨lm,zs,i0,y,rfl,rfl,hlm11,by omega,zn (by omega),?_⟩
 have gs:Grow [lm] H11 (Tp H11 lm (.lst (zs.take i0 ++ [y] ++ zs.drop i0))):=Grow.set hlm11 (by simp) _
 have h6:=UD hms (i:=i0) (by omega)
 have hall:=ins61 (gs.board hy) i0 (by rw [List.length_map]; exact ms2) (by omega) (gs.boardsR ((gt.trans g11).boardsR (g710.boardsR hz)))
 have em:(ms.map (SS π)).take i0 ++ [SS π xM] ++ (ms.map (SS π)).drop i0=(ms.take i0 ++ [xM] ++ ms.drop i0).map (SS π):=by
  rw [List.map_append,List.map_append,List.map_take,List.map_drop]; rfl
 rw [em] at hall
 have l3:(ms.take i0 ++ [xM] ++ ms.drop i0).length=3:=by
  rw [List.length_append,List.length_append,List.length_take,List.length_drop,ms2]
  show min i0 2+1+(2 - i0)=3
  omega
 revert hall l3 h6
 clear em
 generalize ms.take i0 ++ [xM] ++ ms.drop i0=ms3
 intro h6 hall l3
 refine Ws ⟨_,rfl,lm,_,rfl,.inl ⟨TB.of zc,fun t2 ht2=>?_⟩⟩
 have gt2:=Grow.new (m:=[]) ht2 (.tup (zs.take i0 ++ [y] ++ zs.drop i0))
 refine ⟨_,rfl,ms3.map (SS π),5,⟨⟨t2,_,rfl,TC.of zc,gt2.boardsR hall⟩,VU nm h6,by decide,by decide,by rw [List.length_map]; omega,by rw [List.length_map]; omega⟩,fun H12 g12=>q _ ?_⟩
 have G1:Grow [a] H H2:=((g1.wk (m:=[a,ll])).trans g2).less fun b hb=>by
  rcases List.mem_cons.mp hb with rfl | hb
  ·exact .inl (by simp)
  ·rw [List.mem_singleton.mp hb]; exact .inr hl0
 have G2:Grow [a] H2 H12:=(((g3.wk (m:=[a,lm])).trans g4).trans ((g710.mono (by simp)).trans (((gt.trans g11).wk).trans ((gs.mono (by simp)).trans (gt2.trans g12).wk)))).less fun b hb=>by
  rcases List.mem_cons.mp hb with rfl | hb
  ·exact .inl (by simp)
  ·rw [List.mem_singleton.mp hb]; exact .inr hm0
 exact G1.trans G2
theorem yO:FnScope ["_law_script","_law_k","_law_cell"] ["_law_script","_law_k"] (zf (S3 20)):=⟨rfl,rfl,rfl,by decide +kernel,rfl,by decide +kernel,by decide +kernel⟩
theorem uz (F:Fun K "_law_store" "_law_store" (S3 20) f fd) (B:Blt mg)      :
  FnOk P w K mg base Sb (n+1) f fd ["_law_script","_law_k"] (Xz K):=by
 refine F.ok yO xG (fun cdv A outer s H vs Q E hr h=>?_)
 obtain ⟨x,y,rfl,a,ns,k,rfl,rfl,hs,k0,k1,q⟩:=h
 refine ⟨_,(zd (zH (i:=2) yO.nd rfl (Or.inl rfl) zi) (zd (yq (zO W3 (pv 1) (ze zq rfl B.len yg (za (pv 0) zb)) (zT _)) (zg (zH (i:=2) yO.nd rfl (Or.inl rfl) (ze Yp rfl B.abs Ug (za (yr yX (pv 0) (pv 1) (fun _ _=>rfl)) zb)))) zE) (zg (zz (xw (za (ze (uG rfl) rfl B.max Vd (za zi (za (zY rE (pv 2) (zY jL zi zi)) zb))) (za (zY wO (zY jL (zY wN (zY wN (zY wO (pv 2) zi) (zY sk zi (pv 1))) zi) zi) zi) zb))))))),?_⟩
 have hs2:=hs.sq
 have hl:(ns.map V.int).length=ns.length:=List.length_map ..
 refine ⟨_,rfl,_,rfl,a,_,rfl,.inl hs2,_,_,rfl,rfl,_,rfl,?_⟩
 by_cases c:k < ((ns.map V.int).length:Int)
 ·refine xp (decide_eq_true c) ?_
  have hj:k.toNat < ns.length:=by omega
  refine ⟨_,rfl,_,rfl,a,_,_,V.int ns[k.toNat],rfl,rfl,hs2,Wd (v9 k0 (by omega)) (by rw [List.getElem?_map,List.getElem?_eq_getElem hj]; rfl),_,rfl,?_⟩
  refine ⟨_,rfl,_,_,rfl,rfl,⟨by decide,by decide,by decide⟩,_,_,rfl,rfl,_,_,rfl,?_⟩
  refine ⟨_,rfl,_,_,rfl,rfl,(by show (0:Int) < 2147483549; decide),_,rfl,_,_,rfl,rfl,Vk ⟨by decide,by decide⟩ ⟨by omega,by omega⟩,_,_,rfl,rfl,_,_,rfl,rfl,_,_,rfl,rfl,⟨by decide,by decide,?_⟩,_,_,rfl,rfl,(by show (0:Int) < 2147483629; decide),Sk rfl,fun p hp=>?_⟩
  ·have e0:0<=(if ns[k.toNat] < 0 then -ns[k.toNat] else ns[k.toNat]) % 2147483549:=Int.emod_nonneg _ (by decide)
   have e1:(if ns[k.toNat] < 0 then -ns[k.toNat] else ns[k.toNat]) % 2147483549 < 2147483549:=Int.emod_lt_of_pos _ (by decide)
   show ((if ns[k.toNat] < 0 then -ns[k.toNat] else ns[k.toNat]) % 2147483549+1009 * k+3).natAbs < 2 ^ 64
   omega
  refine q p _ hp (Grow.new hp _) ⟨_,_,zc,?_⟩
  show 0<=(if ((if ns[k.toNat] < 0 then -ns[k.toNat] else ns[k.toNat]) - 10 ^ (18:Int).toNat) > 0 then _ else _)
  split <;> omega
 ·refine z8 (decide_eq_false c) ?_
  refine ⟨_,rfl,_,_,rfl,rfl,⟨by decide,by decide,by decide⟩,_,_,rfl,rfl,_,_,rfl,?_⟩
  refine ⟨_,rfl,_,_,rfl,rfl,(by show (0:Int) < 2147483549; decide),_,rfl,_,_,rfl,rfl,Vk ⟨by decide,by decide⟩ ⟨by omega,by omega⟩,_,_,rfl,rfl,_,_,rfl,rfl,_,_,rfl,rfl,⟨by decide,by decide,?_⟩,_,_,rfl,rfl,(by show (0:Int) < 2147483629; decide),Sk rfl,fun p hp=>?_⟩
  ·have e0:0<=(0:Int) % 2147483549:=Int.emod_nonneg _ (by decide)
   have e1:(0:Int) % 2147483549 < 2147483549:=Int.emod_lt_of_pos _ (by decide)
   show ((0:Int) % 2147483549+1009 * k+3).natAbs < 2 ^ 64
   omega
  refine q p _ hp (Grow.new hp _) ⟨_,_,zc,?_⟩
  show 0<=(if ((0:Int) - 10 ^ (18:Int).toNat) > 0 then _ else _)
  split <;> omega
theorem yP:FnScope ["_law_store_here","_law_states","_law_choice","_law_by"] ["_law_store_here","_law_states"] (zf (S3 22)):=⟨rfl,rfl,rfl,by decide +kernel,rfl,by decide +kernel,by decide +kernel⟩
theorem uA (F:Fun K "_law_maker" "_law_maker" (S3 22) f fd) (B:Blt mg) (qc0:zu P w K mg base n "_law_draw" ["_law_store_here","_law_many"] (ua K))     :
  FnOk P w K mg base Sb (n+1) f fd ["_law_store_here","_law_states"] (vX K):=by
 refine F.ok yP xG (fun cdv A outer s H vs Q E hr h=>?_)
 obtain ⟨x,y,rfl,p,S,rfl,rfl,pp,s1,s5,q⟩:=h
 refine ⟨_,(zd (zH (i:=2) yP.nd rfl (Or.inr rfl) (zm qc0 hr rfl (za (pv 0) (za zi zb)))) (zd (yq (zO sg (pv 2) zi (zT _)) (zg (zz (zx zt rfl B.tuple zG (za (zP (CSc.of (N':=["_law_state","_law_store_here","_law_states"]) (sub:=[none,some 0,some 1]) (zf (S3 22)) ["_law_store_here","_law_states","_law_choice","_law_by"] rfl rfl (by decide +kernel) rfl) rfl (ye rfl B.range (za (pv 1) zb)) (fun _ _ _ _ _ _=>zo (i:=0) (show (["_law_state","_law_store_here","_law_states"]:List Str).Nodup by decide +kernel) rfl (Or.inl rfl)) (fun _ _ _ _ _ _=>zA) (fun _ _ _ _ _ _=>(zm qc0 hr rfl (za (pv 1) (za (pv 2) zb))))) zb)))) zE) (zd (zH (i:=3) yP.nd rfl (Or.inr rfl) (zm qc0 hr rfl (za (pv 0) (za (pv 1) zb)))) (zd (yq (zO sg (pv 2) zi (zT _)) (zg (zz (zx zt rfl B.tuple zG (za (zP (CSc.of (N':=["_law_state","_law_by","_law_states"]) (sub:=[none,some 3,some 1]) (zf (S3 22)) ["_law_store_here","_law_states","_law_choice","_law_by"] rfl rfl (by decide +kernel) rfl) rfl (ye rfl B.range (za (pv 1) zb)) (fun _ _ _ _ _ _=>zo (i:=0) (show (["_law_state","_law_by","_law_states"]:List Str).Nodup by decide +kernel) rfl (Or.inl rfl)) (fun _ _ _ _ _ _=>zA) (fun _ _ _ _ _ _=>(ze (uH rfl) rfl B.min Ve (za (zY wN (pv 0) (pv 1)) (za (zY rE (pv 2) zi) zb))))) zb)))) zE) (zg (zz (zx zt rfl B.tuple zG (za (zP (CSc.of (N':=["_law_state","_law_states","_law_by","_law_choice"]) (sub:=[none,some 1,some 3,some 2]) (zf (S3 22)) ["_law_store_here","_law_states","_law_choice","_law_by"] rfl rfl (by decide +kernel) rfl) rfl (ye rfl B.range (za (pv 1) zb)) (fun _ _ _ _ _ _=>zo (i:=0) (show (["_law_state","_law_states","_law_by","_law_choice"]:List Str).Nodup by decide +kernel) rfl (Or.inl rfl)) (fun _ _ _ _ _ _=>zA) (fun _ _ _ _ _ _=>(zY wO (zY wN (zY sk (pv 0) (pv 3)) (pv 2)) (pv 1)))) zb)))))))),?_⟩
 refine ⟨_,rfl,_,_,rfl,p,4,rfl,rfl,pp,by decide,by decide,fun c0 H1 l1 u1 g1 pp1=>?_⟩
 refine ⟨_,rfl,rfl,_,rfl,?_⟩
 by_cases c:c0=3
 ·refine xp (decide_eq_true (congrArg V.int c)) ?_
  refine ⟨_,rfl,_,rfl,by omega,by omega,xP (fun j ys H'=>∃ bs:List Int,ys=bs.map V.int /\ bs.length=j /\ Sq S bs /\ Grow [p] H1 H' /\ Sj H' p) ⟨[],rfl,rfl,(fun b hb=>by cases hb),Grow.refl _ _,pp1⟩ ?_ ?_⟩
  ·rintro j ys H2 hj ⟨bs,rfl,bl,bo,g2,pp2⟩
   refine ⟨_,rfl,_,rfl,_,_,rfl,p,S,rfl,rfl,pp2,by omega,by omega,fun n H3 l3 u3 g3 pp3=>⟨zn (by rw [List.length_map]; omega),bs ++ [n],by rw [List.map_append]; rfl,by rw [List.length_append]; show bs.length+1=_; omega,?_,g2.trans g3,pp3⟩⟩
   intro z hz
   rcases List.mem_append.mp hz with w | w
   ·exact bo z w
   ·rw [List.mem_singleton.mp w]; exact ⟨l3,u3⟩
  ·rintro ys HA ⟨bs,rfl,bl,bo,gA,ppA⟩ l hl
   rw [Int.toNat_natCast] at bl
   exact ⟨l,_,rfl,.inl ⟨TB.of zc,fun t ht=>q _ bs _ (g1.trans (gA.trans ((Grow.new hl _).trans (Grow.new ht _)))) (ppA.grow ((Grow.new hl _).trans (Grow.new ht _))) ⟨t,rfl,TC.of zc⟩ bl bo⟩⟩
 refine z8 (decide_eq_false fun z=>c (V.int.inj z)) ?_
 refine ⟨_,rfl,_,rfl,_,_,rfl,p,S,rfl,rfl,pp1,by omega,by omega,fun b0 H2 l2 u2 g2 pp2=>?_⟩
 refine ⟨_,rfl,rfl,_,rfl,?_⟩
 by_cases c2:c0=2
 ·refine xp (decide_eq_true (congrArg V.int c2)) ?_
  refine ⟨_,rfl,_,rfl,by omega,by omega,xP (fun j ys H'=>∃ bs:List Int,ys=bs.map V.int /\ bs.length=j /\ Sq S bs /\ Grow [p] H2 H' /\ Sj H' p) ⟨[],rfl,rfl,(fun b hb=>by cases hb),Grow.refl _ _,pp2⟩ ?_ ?_⟩
  ·rintro j ys H3 hj ⟨bs,rfl,bl,bo,g3,pp3⟩
   refine ⟨_,rfl,_,rfl,_,_,rfl,rfl,_,rfl,_,_,rfl,rfl,_,_,rfl,zn (by rw [List.length_map]; omega),bs ++ [_],by rw [List.map_append]; rfl,by rw [List.length_append]; show bs.length+1=_; omega,?_,g3,pp3⟩
   intro z hz
   rcases List.mem_append.mp hz with w | w
   ·exact bo z w
   ·rw [List.mem_singleton.mp w]; split <;> omega
  ·rintro ys HA ⟨bs,rfl,bl,bo,gA,ppA⟩ l hl
   rw [Int.toNat_natCast] at bl
   exact ⟨l,_,rfl,.inl ⟨TB.of zc,fun t ht=>q _ bs _ ((g1.trans g2).trans (gA.trans ((Grow.new hl _).trans (Grow.new ht _)))) (ppA.grow ((Grow.new hl _).trans (Grow.new ht _))) ⟨t,rfl,TC.of zc⟩ bl bo⟩⟩
 refine z8 (decide_eq_false fun z=>c2 (V.int.inj z)) ?_
 refine ⟨_,rfl,_,rfl,by omega,by omega,xP (fun j ys H'=>∃ bs:List Int,ys=bs.map V.int /\ bs.length=j /\ Sq S bs /\ Grow [p] H2 H' /\ Sj H' p) ⟨[],rfl,rfl,(fun b hb=>by cases hb),Grow.refl _ _,pp2⟩ ?_ ?_⟩
 ·rintro j ys H3 hj ⟨bs,rfl,bl,bo,g3,pp3⟩
  refine ⟨_,rfl,_,rfl,_,_,rfl,rfl,XA ⟨by omega,by omega⟩,_,rfl,_,_,rfl,rfl,_,rfl,_,S,rfl,rfl,by omega,zn (by rw [List.length_map]; omega),bs ++ [_],by rw [List.map_append]; rfl,by rw [List.length_append]; show bs.length+1=_; omega,?_,g3,pp3⟩
  intro z hz
  rcases List.mem_append.mp hz with w | w
  ·exact bo z w
  ·rw [List.mem_singleton.mp w]; exact ⟨Int.emod_nonneg _ (by omega),Int.emod_lt_of_pos _ (by omega)⟩
 ·rintro ys HA ⟨bs,rfl,bl,bo,gA,ppA⟩ l hl
  rw [Int.toNat_natCast] at bl
  exact ⟨l,_,rfl,.inl ⟨TB.of zc,fun t ht=>q _ bs _ ((g1.trans g2).trans (gA.trans ((Grow.new hl _).trans (Grow.new ht _)))) (ppA.grow ((Grow.new hl _).trans (Grow.new ht _))) ⟨t,rfl,TC.of zc⟩ bl bo⟩⟩
theorem xC:FnScope ["_law_store_here","_law_states"] ["_law_store_here"] (zf (S3 23)):=⟨rfl,rfl,rfl,by decide +kernel,rfl,by decide +kernel,by decide +kernel⟩
theorem vN (F:Fun K "_law_makers" "_law_makers" (S3 23) f fd) (B:Blt mg) (qc0:zu P w K mg base n "_law_draw" ["_law_store_here","_law_many"] (ua K)) (qc1:zu P w K mg base n "_law_maker" ["_law_store_here","_law_states"] (vX K))     :
  FnOk P w K mg base Sb (n+1) f fd ["_law_store_here"] (w6 K):=by
 refine F.ok xC yY (fun cdv A outer s H vs Q E hr h=>?_)
 obtain ⟨x,rfl,p,rfl,pp,q⟩:=h
 refine ⟨_,(zd (zH (i:=1) xC.nd rfl (Or.inr rfl) (zY wN zi (zm qc0 hr rfl (za (pv 0) (za zi zb))))) (zg (zz (zx zt rfl B.tuple zG (za (zP (CSc.of (N':=["_law_k","_law_store_here","_law_states"]) (sub:=[none,some 0,some 1]) (zf (S3 23)) ["_law_store_here","_law_states"] rfl rfl (by decide +kernel) rfl) rfl (ye rfl B.range (za (zY wN zi (zm qc0 hr rfl (za (pv 0) (za zi zb)))) zb)) (fun _ _ _ _ _ _=>zo (i:=0) (show (["_law_k","_law_store_here","_law_states"]:List Str).Nodup by decide +kernel) rfl (Or.inl rfl)) (fun _ _ _ _ _ _=>zA) (fun _ _ _ _ _ _=>(zm qc1 hr rfl (za (pv 1) (za (pv 2) zb))))) zb))))),?_⟩
 refine ⟨_,rfl,_,_,rfl,p,5,rfl,rfl,pp,by decide,by decide,fun n1 H1 l1 u1 g1 pp1=>⟨_,_,rfl,rfl,?_⟩⟩
 obtain ⟨S,hS⟩:∃ S:Nat,1+n1=(S:Int):=⟨(1+n1).toNat,by omega⟩
 refine ⟨_,rfl,_,_,rfl,p,4,rfl,rfl,pp1,by decide,by decide,fun n2 H2 l2 u2 g2 pp2=>⟨_,_,rfl,rfl,_,rfl,by omega,by omega,?_⟩⟩
 refine xP (fun j ys H'=>∃ ms:List (List Int),zU (zp K H') ys ms /\ ms.length=j /\ (∀ row ∈ ms,row.length=S /\ Sq S row) /\ Grow [p] H2 H' /\ Sj H' p) ⟨[],trivial,rfl,(fun b hb=>by cases hb),Grow.refl _ _,pp2⟩ ?_ ?_
 ·rintro j ys H3 hj ⟨ms,ha,ml,mo,g3,pp3⟩
  refine ⟨_,rfl,_,rfl,_,_,rfl,p,S,rfl,congrArg V.int hS,pp3,by omega,by omega,fun y row H4 g4 pp4 hb rl rr=>⟨zn (by rw [ha.len]; omega),ms ++ [row],(g4.boardsR ha).app (.one hb),by rw [List.length_append]; show ms.length+1=_; omega,?_,g3.trans g4,pp4⟩⟩
  intro z hz
  rcases List.mem_append.mp hz with w | w
  ·exact mo z w
  ·rw [List.mem_singleton.mp w]; exact ⟨rl,rr⟩
 ·rintro ys H3 ⟨ms,ha,ml,mo,g3,pp3⟩ l hl
  refine ⟨l,_,rfl,.inl ⟨TB.of zc,fun t ht=>?_⟩⟩
  have gg:=(Grow.new (m:=[]) hl (.lst ys)).trans (Grow.new ht (.tup ys))
  exact q _ S ms _ (g1.trans (g2.trans (g3.trans gg.wk))) (pp3.grow gg) ⟨t,ys,rfl,TC.of zc,gg.boardsR ha⟩ (by omega) (by omega) (by omega) (by omega) ⟨rfl,mo⟩
theorem XT:FnScope ["_law_script","_law_k"] ["_law_script"] (zf (S3 32)):=⟨rfl,rfl,rfl,by decide +kernel,rfl,by decide +kernel,by decide +kernel⟩
theorem VW (F:Fun K "law" "law" (S3 32) f fd) (B:Blt mg) (qc0:zu P w K mg base n "_law_just_sixty" ["_law_store_here"] (tV K)) (qc1:zu P w K mg base n "_law_store" ["_law_script","_law_k"] (Xz K)) (qc2:zu P w K mg base n "_law_right" ["_law_makers_here"] (wo K)) (qc3:zu P w K mg base n "_law_makers" ["_law_store_here"] (w6 K))     :
  FnOk P w K mg base Sb (n+1) f fd ["_law_script"] (rO K):=by
 refine F.ok XT yY (fun cdv A outer s H vs Q E hr h=>?_)
 obtain ⟨x,rfl,a,ns,rfl,hs,h63,q⟩:=h
 refine ⟨_,(zd (xO PassesOwn.never rfl (ye rfl B.range (za (ze (uG rfl) rfl B.max Vd (za zi (za (ze (uH rfl) rfl B.min Ve (za zi (za (ze zq rfl B.len yg (za (pv 0) zb)) zb))) zb))) zb)) (zo (i:=1) XT.nd rfl (Or.inl rfl)) (zg (yq (yB (yV (zm qc2 hr rfl (za (zm qc3 hr rfl (za (zm qc1 hr rfl (za (pv 0) (za (pv 1) zb))) zb)) zb)))) (zg (zz yT)) zE))) (zg (zz (zm qc0 hr rfl (za (zm qc1 hr rfl (za (pv 0) (za zi zb))) zb))))),?_⟩
 have hl:(ns.map V.int).length=ns.length:=List.length_map ..
 refine ⟨_,rfl,a,_,rfl,.inl hs.sq,_,_,rfl,_,_,rfl,_,rfl,?_,?_,?_⟩
 ·split <;> split <;> omega
 ·rw [hl]; split <;> split <;> omega
 refine wM (fun i σ H'=>∃ e1,σ = [some (.ref a),e1] /\ Grow [] H H') ⟨_,rfl,Grow.refl _ _⟩ ?_ ?_
 ·rintro i σ H1 hi ⟨e1,rfl,g⟩
  have i63:i < 1000:=by
   have hi':=hi
   revert hi'
   split <;> split <;> omega
  refine ⟨_,rfl,_,rfl,_,_,rfl,a,ns,_,rfl,rfl,g.scr hs,by omega,by omega,fun p H2 hp g2 pp=>?_⟩
  refine ⟨_,rfl,p,rfl,pp,fun y S ms H3 g3 pp3 hx s1 s5 m1 m4 hT=>?_⟩
  refine ⟨_,rfl,ms,S,⟨hx,hT.2,s1,s5,m1,m4⟩,fun H4 g4=>⟨_,rfl,rK ⟨_,rfl,g.trans ((((g2.wk (m:=[p])).trans g3).trans g4.wk).shrink hp)⟩⟩⟩
 ·rintro σ H1 ⟨e1,rfl,g⟩
  refine Ws ⟨_,rfl,_,_,rfl,a,ns,_,rfl,rfl,g.scr hs,by decide,by decide,fun p H2 hp g2 pp=>?_⟩
  exact ⟨_,rfl,p,rfl,pp,fun H3 g3=>q _⟩
end
theorem yv:∀ {us:List Value},us.length=1 -> ∃ x0,us=[x0]
 | [x0],_=>⟨x0,rfl⟩
theorem xL:∀ {us:List Value},us.length=2 -> ∃ x0,∃ x1,us=[x0,x1]
 | [x0,x1],_=>⟨x0,x1,rfl⟩
theorem Yj:∀ {us:List Value},us.length=3 -> ∃ x0,∃ x1,∃ x2,us=[x0,x1,x2]
 | [x0,x1,x2],_=>⟨x0,x1,x2,rfl⟩
theorem WJ:∀ {us:List Value},us.length=5 -> ∃ x0,∃ x1,∃ x2,∃ x3,∃ x4,us=[x0,x1,x2,x3,x4]
 | [x0,x1,x2,x3,x4],_=>⟨x0,x1,x2,x3,x4,rfl⟩
def FA (K:Tl) (x:Str) (t:Stmt) (f:Addr) (d:FuncData):Prop:=PySem.W.nsIn K mainGlobals x=some (some (.ref f)) /\ Fun K x x t f d
theorem FA.cl {P:Program} {w:World} {K:Tl} {h base:Heap} {mg:Str->Option Value} {x:Str} {t:Stmt} {f:Addr} {d:FuncData} {k:Nat} {ps:List Str} {sp:Sp} (a:FA K x t f d) (X:K.In h) (G:h.Ns mainGlobals mg) (F:FnOk P w K mg base Sb k f d ps sp) (b:v6 K d ps []):zu P w K mg base k x ps sp:=⟨_,_,F,b,a.2.kp,PySem.W.mg_of X G a.1⟩
theorem all_mk {l:PySem.W.OpenLaw} {w:World} {K:Tl} {h:Heap} {mg:Str->Option Value} {fa f1 f2 f3 f4 f5 f6 f7 f8 f9 f10 f11 f12 f13 f14 f15 f16 f17 f18 f19 f20 f21 f22:Addr} (X:K.In h) (G:h.Ns mainGlobals mg) (hfa:mg "law" = some (.ref fa))
    {d1 d2 d3 d4 d5 d6 d7 d8 d9 d10 d11 d12 d13 d14 d15 d16 d17 d18 d19 d20 d21 d22:FuncData}
    {A_AskError:Addr} (ax_AskError:PySem.W.nsIn K mainGlobals "AskError" = some (some (.ref A_AskError)))
    {A_NoTable:Addr} (ax_NoTable:PySem.W.nsIn K mainGlobals "NoTable" = some (some (.ref A_NoTable)))
    {A_TooMany:Addr} (ax_TooMany:PySem.W.nsIn K mainGlobals "TooMany" = some (some (.ref A_TooMany)))
    (ex_AskError:PySem.W.excIn K A_AskError SG "ValueError.__new__" = true)
    (ex_TooMany:PySem.W.excIn K A_TooMany SG "ValueError.__new__" = true)
    (u_TooMany_AskError:PySem.W.mroIn K A_TooMany (.ref A_AskError)=some true)
    (kk_TooMany:ExcK K A_TooMany)
    (q_TooMany_NoTable:PySem.W.kitOne K (.ref A_TooMany) (.ref A_NoTable)=some false)
    (q_TooMany_TooMany:PySem.W.kitOne K (.ref A_TooMany) (.ref A_TooMany)=some true)
    (q_TooMany_ValueError:PySem.W.kitOne K (.ref A_TooMany) (.type "ValueError")=some true)
 (h1:FA K "by_table_then" ((S3 13)) f1 d1)
 (h2:FA K "is_whole" ((S3 5)) f2 d2)
 (h3:FA K "is_within" ((S3 6)) f3 d3)
 (h4:FA K "is_by_table" ((S3 11)) f4 d4)
 (h5:FA K "need_by_table" ((S3 12)) f5 d5)
 (h6:FA K "grown" ((S3 14)) f6 d6)
 (h7:FA K "words" ((S3 16)) f7 d7)
 (h8:FA K "family" ((S3 15)) f8 d8)
 (h9:FA K "_law_then" ((S3 24)) f9 d9)
 (h10:FA K "_law_goes_on" ((S3 28)) f10 d10)
 (h11:FA K "_law_made" ((S3 27)) f11 d11)
 (h12:FA K "_law_family" ((S3 25)) f12 d12)
 (h13:FA K "own_table" ((S3 18)) f13 d13)
 (h14:FA K "_law_refused" ((S3 26)) f14 d14)
 (h15:FA K "_law_right" ((S3 29)) f15 d15)
 (h16:FA K "_law_renamed" ((S3 30)) f16 d16)
 (h17:FA K "_law_draw" ((S3 21)) f17 d17)
 (h18:FA K "_law_just_sixty" ((S3 31)) f18 d18)
 (h19:FA K "_law_store" ((S3 20)) f19 d19)
 (h20:FA K "_law_maker" ((S3 22)) f20 d20)
 (h21:FA K "_law_makers" ((S3 23)) f21 d21)
 (h22:FA K "law" ((S3 32)) f22 d22)
    {t_MOST_GIVEN:Tok} (ga_MOST_GIVEN:PySem.W.nsIn K mainGlobals "MOST_GIVEN" = some (some (.int 4 t_MOST_GIVEN)))
    {t_MOST_IN_FAMILY:Tok} (ga_MOST_IN_FAMILY:PySem.W.nsIn K mainGlobals "MOST_IN_FAMILY" = some (some (.int 60 t_MOST_IN_FAMILY)))
    {t_MOST_STATES:Tok} (ga_MOST_STATES:PySem.W.nsIn K mainGlobals "MOST_STATES" = some (some (.int 5 t_MOST_STATES)))
    (ga_ValueError:PySem.W.nsIn K mainGlobals "ValueError" = some none)
    (ga_enumerate:PySem.W.nsIn K mainGlobals "enumerate" = some none)
    (ga_set:PySem.W.nsIn K mainGlobals "set" = some none)
    (ga_sorted:PySem.W.nsIn K mainGlobals "sorted" = some none)
    (ga_zip:PySem.W.nsIn K mainGlobals "zip" = some none)
    (z_abs:PySem.W.nsIn K mainGlobals "abs" = some none)
    (z_len:PySem.W.nsIn K mainGlobals "len" = some none)
    (z_max:PySem.W.nsIn K mainGlobals "max" = some none)
    (z_min:PySem.W.nsIn K mainGlobals "min" = some none)
    (z_divmod:PySem.W.nsIn K mainGlobals "divmod" = some none)
    (z_repr:PySem.W.nsIn K mainGlobals "repr" = some none)
    (z_isinstance:PySem.W.nsIn K mainGlobals "isinstance" = some none)
    (z_all:PySem.W.nsIn K mainGlobals "all" = some none)
    (z_range:PySem.W.nsIn K mainGlobals "range" = some none)
    (z_int:PySem.W.nsIn K mainGlobals "int" = some none)
    (z_bool:PySem.W.nsIn K mainGlobals "bool" = some none)
    (z_str:PySem.W.nsIn K mainGlobals "str" = some none)
    (z_tuple:PySem.W.nsIn K mainGlobals "tuple" = some none)
    (z_list:PySem.W.nsIn K mainGlobals "list" = some none)
    (z_dict:PySem.W.nsIn K mainGlobals "dict" = some none)
    :
    ∃ fd:FuncData,(∀ (s:Shared) (v:Value),BindsTo s fd ⟨[v],[]⟩ [("_law_script",v)]) /\ ∀ base:Heap,K.In base->base.Ns mainGlobals mg->FnOk l.prog w K mg base Sb 11 fa fd ["_law_script"] (rO K):=by
  have e:=hfa.symm.trans (PySem.W.mg_of X G h22.1)
  cases e
  have b6:=h6.2.binds (ps:=["deeds"]) fun _ _ _ _ _ _ us hl=>by obtain ⟨_,rfl⟩:=yv hl; rfl
  have b7:=h7.2.binds (ps:=["deeds"]) fun _ _ _ _ _ _ us hl=>by obtain ⟨_,rfl⟩:=yv hl; rfl
  have b8:=h8.2.binds (ps:=["deeds"]) fun _ _ _ _ _ _ us hl=>by obtain ⟨_,rfl⟩:=yv hl; rfl
  have b13:=h13.2.binds (ps:=["deeds"]) fun _ _ _ _ _ _ us hl=>by obtain ⟨_,rfl⟩:=yv hl; rfl
  have x_AskError:rY K mg "AskError" A_AskError:=excC_of (PySem.W.mg_of X G ax_AskError) ex_AskError
  have x_TooMany:rY K mg "TooMany" A_TooMany:=excC_of (PySem.W.mg_of X G ax_TooMany) ex_TooMany
  have v_AskError:mg "AskError" = some (.ref A_AskError):=PySem.W.mg_of X G ax_AskError
  have v_NoTable:mg "NoTable" = some (.ref A_NoTable):=PySem.W.mg_of X G ax_NoTable
  have v_TooMany:mg "TooMany" = some (.ref A_TooMany):=PySem.W.mg_of X G ax_TooMany
  have k_TooMany:=kk_TooMany
  have B:Blt mg:=⟨PySem.W.mg_none_of X G z_abs,PySem.W.mg_none_of X G z_len,PySem.W.mg_none_of X G z_max,PySem.W.mg_none_of X G z_min,PySem.W.mg_none_of X G z_divmod,PySem.W.mg_none_of X G z_repr,PySem.W.mg_none_of X G z_isinstance,PySem.W.mg_none_of X G z_all,PySem.W.mg_none_of X G z_range,PySem.W.mg_none_of X G z_int,PySem.W.mg_none_of X G z_bool,PySem.W.mg_none_of X G z_str,PySem.W.mg_none_of X G z_tuple,PySem.W.mg_none_of X G z_list,PySem.W.mg_none_of X G z_dict⟩
  obtain ⟨oc,od,kV,dc,pm,an,cd,ct,sl,rfl,lk,hc⟩:=h22.2.ex
  refine ⟨PySem.W.fnOf "law" "law" (wR (S3 32)) (xF (S3 32)) (zf (S3 32)) .none kV dc pm an cd ct,fun s v=>.of_eq rfl,fun base _ _=>?_⟩
  have C1:zu l.prog w K mg base 1 _ _ _:=h1.cl X G (wC h1.2 B       ) (h1.2.binds fun _ _ _ _ _ _ us hl=>by obtain ⟨_,_,rfl⟩:=xL hl; rfl)
  have C2:zu l.prog w K mg base 1 _ _ _:=h2.cl X G (rq h2.2 B       ) (h2.2.binds fun _ _ _ _ _ _ us hl=>by obtain ⟨_,rfl⟩:=yv hl; rfl)
  have C3:zu l.prog w K mg base 2 _ _ _:=h3.cl X G (tY h3.2 B    (C2.mono (by decide))   ) (h3.2.binds fun _ _ _ _ _ _ us hl=>by obtain ⟨_,_,_,rfl⟩:=Yj hl; rfl)
  have C4:zu l.prog w K mg base 3 _ _ _:=h4.cl X G (vL h4.2 B    (C3.mono (by decide))  (PySem.W.mg_of X G ga_MOST_STATES) ) (h4.2.binds fun _ _ _ _ _ _ us hl=>by obtain ⟨_,rfl⟩:=yv hl; rfl)
  have C5:zu l.prog w K mg base 4 _ _ _:=h5.cl X G (wE h5.2 B    (C4.mono (by decide))   ) (h5.2.binds fun _ _ _ _ _ _ us hl=>by obtain ⟨_,_,_,rfl⟩:=Yj hl; rfl)
  have C6:zQ l.prog w K mg base 5 "grown" ["deeds"] (xk A_TooMany K):=⟨_,_,Xs (P:=l.prog) (w:=w) (base:=base) (n:=4) h6.2 B x_TooMany   (C1.mono (by decide)) (C5.mono (by decide)) (PySem.W.mg_none_of X G ga_enumerate) (PySem.W.mg_of X G ga_MOST_IN_FAMILY) (PySem.W.mg_of X G ga_MOST_GIVEN) ,b6,h6.2.kp,PySem.W.mg_of X G h6.1⟩
  have C7:zQ l.prog w K mg base 6 "words" ["deeds"] (xo A_TooMany K):=⟨_,_,Xu (P:=l.prog) (w:=w) (base:=base) (n:=5) h7.2 B x_TooMany   (C6.mono (by decide))   ,b7,h7.2.kp,PySem.W.mg_of X G h7.1⟩
  have C8:zQ l.prog w K mg base 6 "family" ["deeds"] (xn A_TooMany K):=⟨_,_,Yi (P:=l.prog) (w:=w) (base:=base) (n:=5) h8.2 B x_TooMany   (C6.mono (by decide))   ,b8,h8.2.kp,PySem.W.mg_of X G h8.1⟩
  have C9:zu l.prog w K mg base 1 _ _ _:=h9.cl X G (t4 h9.2 B       ) (h9.2.binds fun _ _ _ _ _ _ us hl=>by obtain ⟨_,_,rfl⟩:=xL hl; rfl)
  have C10:zu l.prog w K mg base 2 _ _ _:=h10.cl X G (vz h10.2 B    (C9.mono (by decide)) (PySem.W.mg_none_of X G ga_enumerate)  ) (h10.2.binds fun _ _ _ _ _ _ us hl=>by obtain ⟨_,_,_,_,_,rfl⟩:=WJ hl; rfl)
  have C11:zu l.prog w K mg base 2 _ _ _:=h11.cl X G (t7 h11.2 B    (C9.mono (by decide))   ) (h11.2.binds fun _ _ _ _ _ _ us hl=>by obtain ⟨_,_,rfl⟩:=xL hl; rfl)
  have C12:zu l.prog w K mg base 2 _ _ _:=h12.cl X G (vM h12.2 B    (C9.mono (by decide)) (PySem.W.mg_none_of X G ga_enumerate)  ) (h12.2.binds fun _ _ _ _ _ _ us hl=>by obtain ⟨_,rfl⟩:=yv hl; rfl)
  have C13:zQ l.prog w K mg base 7 "own_table" ["deeds"] (wI A_TooMany K):=⟨_,_,t8 (P:=l.prog) (w:=w) (base:=base) (n:=6) h13.2 B x_TooMany   (C1.mono (by decide)) (C8.mono (by decide)) (PySem.W.mg_none_of X G ga_enumerate)  ,b13,h13.2.kp,PySem.W.mg_of X G h13.1⟩
  have C14:zu l.prog w K mg base 8 _ _ _:=h14.cl X G (vA h14.2 B x_AskError x_TooMany v_NoTable v_TooMany u_TooMany_AskError k_TooMany q_TooMany_TooMany q_TooMany_ValueError q_TooMany_NoTable  (C13.mono (by decide)) (C7.mono (by decide)) (C8.mono (by decide)) (PySem.W.mg_none_of X G ga_ValueError)  ) (h14.2.binds fun _ _ _ _ _ _ us hl=>by obtain ⟨_,rfl⟩:=yv hl; rfl)
  have C15:zu l.prog w K mg base 9 _ _ _:=h15.cl X G (uy h15.2 B x_TooMany   (C7.mono (by decide)) (C8.mono (by decide)) (C10.mono (by decide)) (C11.mono (by decide)) (C12.mono (by decide)) (C14.mono (by decide)) (PySem.W.mg_none_of X G ga_zip) (PySem.W.mg_none_of X G ga_enumerate) (PySem.W.mg_none_of X G ga_set) (PySem.W.mg_none_of X G ga_sorted)  ) (h15.2.binds fun _ _ _ _ _ _ us hl=>by obtain ⟨_,rfl⟩:=yv hl; rfl)
  have C16:zu l.prog w K mg base 1 _ _ _:=h16.cl X G (vB h16.2 B       ) (h16.2.binds fun _ _ _ _ _ _ us hl=>by obtain ⟨_,_,rfl⟩:=xL hl; rfl)
  have C17:zu l.prog w K mg base 1 _ _ _:=h17.cl X G (t9 h17.2 B       ) (h17.2.binds fun _ _ _ _ _ _ us hl=>by obtain ⟨_,_,rfl⟩:=xL hl; rfl)
  have C18:zu l.prog w K mg base 10 _ _ _:=h18.cl X G (x6 h18.2 B x_TooMany   (C15.mono (by decide)) (C16.mono (by decide)) (C17.mono (by decide)) (C9.mono (by decide)) (C13.mono (by decide)) (C8.mono (by decide))   ) (h18.2.binds fun _ _ _ _ _ _ us hl=>by obtain ⟨_,rfl⟩:=yv hl; rfl)
  have C19:zu l.prog w K mg base 1 _ _ _:=h19.cl X G (uz h19.2 B       ) (h19.2.binds fun _ _ _ _ _ _ us hl=>by obtain ⟨_,_,rfl⟩:=xL hl; rfl)
  have C20:zu l.prog w K mg base 2 _ _ _:=h20.cl X G (uA h20.2 B    (C17.mono (by decide))   ) (h20.2.binds fun _ _ _ _ _ _ us hl=>by obtain ⟨_,_,rfl⟩:=xL hl; rfl)
  have C21:zu l.prog w K mg base 3 _ _ _:=h21.cl X G (vN h21.2 B    (C17.mono (by decide)) (C20.mono (by decide))   ) (h21.2.binds fun _ _ _ _ _ _ us hl=>by obtain ⟨_,rfl⟩:=yv hl; rfl)
  exact VW (P:=l.prog) (w:=w) (base:=base) (n:=10) h22.2 B    (C18.mono (by decide)) (C19.mono (by decide)) (C15.mono (by decide)) (C21.mono (by decide))
theorem walk {l:PySem.W.OpenLaw} {q:Program} {loose:List Str} {XP:(Str->Option Value)->Heap->Prop} {YP:World->Heap->Prop} {d:DefRec} {K:Params->Tl} (hn:l.most=some 63) (hdf:d.params.defaults=[])
  (hY:∀ (w:World) (h:Heap),YP w h->(K w.params).In h)
  (F:∀ (w:World) (mg:Str->Option Value) (fa:Addr) (h:Heap),(K w.params).In h->h.Ns mainGlobals mg->mg d.name=some (.ref fa) →
   ∃ fd:FuncData,(∀ (s:Shared) (u:Value),BindsTo s fd ⟨[u],[]⟩ [("_law_script",u)]) /\ ∀ base:Heap,(K w.params).In base->base.Ns mainGlobals mg->FnOk l.prog w (K w.params) mg base Sb 11 fa fd ["_law_script"] (rO (K w.params))) :
  PySem.W.WalkO q loose XP YP l.row.toRowW d [] (fun f vs=>PySem.call f vs) :=
 L2.walk_of (n:=63) (k:=11) (x:="_law_script") (CX:=fun _=>Sb) (sp:=fun w=>rO (K w.params)) hn (by decide) hdf ⟨rfl,by decide,by decide,rfl⟩ hY F (fun _ _ a ns hl hO hS=>⟨_,rfl,a,ns,rfl,Sd.of hO hS,hl,fun _=>rfl⟩) fun _ _ _ _ _ z=>z
theorem walkX {q:Program} {loose:List Str} {XP:(Str->Option Value)->Heap->Prop} {K:Params->Tl} {as:List Addr} {n t:Nat} {r:PySem.W.RowW} {d:DefRec} {kwd:List (Str × Expr)} {run:Value->List Value->Sem Value}
  (e:∀ P,as=(K P).map (·.1)) (W:PySem.W.WalkO q loose XP (PySem.W.InK K) r d kwd run):PySem.W.WalkX q loose XP (PySem.W.X.obsZ as) (PySem.W.X.valZ K n t) r d kwd run :=
 fun w s₀ s₁ mg mb G Y a o pm cd doc dV kV h2 h3 h4 h5 h6 h7 args vals as' L hpre hlay hrd hwl hlo =>
  W w s₀ s₁ mg mb G (PySem.W.InK.keeps w s₀.heap s₁.heap (PySem.W.X.z_facts e Y).2.1 L.keeps) a o pm cd doc dV kV h2 h3 h4 h5 h6 h7 args vals as' hpre hlay hrd hwl hlo
end My
open PySem PySem.W PyProof.Rows
namespace PySem.W.Fast
def tw1497484313426477361:=()
def tw16013649947174901575:=()
def tw48853848223786044:=()
def tw15290613676105550156:=()
def tw1965857600545493734:=()
def tw4863048642793199517:=()
def tw4002936922465484921:=()
def tw5417507391047702198:=()
def tw9021527587191274911:=()
def tw6357717413015020048:=()
def tw17927291790518526098:=()
def tw16539697008038210764:=()
def tw17257539464153840880:=()
def tw13546723578267371907:=()
def tw8057408408075558790:=()
def tw2705694201549954897:=()
def tw8949733436003489050:=()
def tw1975061085306250261:=()
def tw14717359588228683564:=()
def tw9950392579212623188:=()
def tw1266466201595395938:=()
def tw1550053843697785550:=()
def tw14776238611296560972:=()
def tw6320933896830663752:=()
def tw8203823535661947902:=()
def tw14751796780712851269:=()
def tw14274838688048317739:=()
def tw2932424615530679335:=()
def tw7686488755525569611:=()
def tw6963656059745367355:=()
def tw16947279578303264255:=()
def tw12486860934747155238:=()
def tw6098237991869597891:=()
def tw96359388872712073:=()
def tw17923786243283691008:=()
def tw350205461860524647:=()
def tw14590506949598510729:=()
def tw17109346405081024407:=()
def tw16198041128842457774:=()
def tw11013265305867742965:=()
def tw2365956876562277591:=()
def tw5407576128174864263:=()
def tw12506021240607826976:=()
def tw14517045626701031051:=()
def tw15779374191175689163:=()
def tw16669430570020472949:=()
def tw5967313548898560051:=()
def tw1848311975060058936:=()
def tw3755112205845520313:=()
def tw15724156744916710299:=()
def tw13109516318812956560:=()
def tw12845065986121491289:=()
def tw1702657386983756326:=()
def tw11205605531459938574:=()
def tw4167249894280308432:=()
def tw632965970526831790:=()
def tw16821953375230731969:=()
def tw7131661143830365166:=()
def tw5427333220007663211:=()
def tw14610697398981705547:=()
def tw18243759971335941368:=()
def tw11756175773463426299:=()
def tw9526105387177413230:=()
def tw10895362585067876313:=()
def tw9991827998522999144:=()
def tw9266393835934274987:=()
def tw13008237373429306230:=()
def tw15701396158128121789:=()
def tw15074938411541481937:=()
def tw11927091040906569662:=()
def tw2274487385925074787:=()
def tw12243909447773881534:=()
def tw11652746972231983565:=()
def tw15297152450513446334:=()
def tw1183325020262884020:=()
def tw3564770603813758773:=()
def tw788479416411540972:=()
def tw4814015054628451280:=()
def tw8278315334379330706:=()
def tw7710991677101973977:=()
def tw2719015622453634685:=()
def tw11563551721391151689:=()
def tw5918188524649213459:=()
def tw858189628693292883:=()
def tw4322157289379713053:=()
def tw4852444483727641789:=()
def tw1380981843043700528:=()
def tw12565165191083215257:=()
def tw15561524885495490349:=()
def tw7938958048376251828:=()
end PySem.W.Fast
set_option maxRecDepth 100000 in
theorem PySem.Challenge.cw_joinedasks_k61_whole_families_holds : PySem.Challenge.rw_joinedasks_k61_whole_families.Holds := by
 w_on; o_law; z_head; (case hw=>w_witness2)
 refine My.walkX (fun _=>by kernel_rfl) (My.walk (l:=PySem.Challenge.rw_joinedasks_k61_whole_families) rfl rfl (fun w h Y=>Y) ?F)
 case F =>
  intro w mg fa h KX G hmg
  refine' My.all_mk KX G hmg  ?ax_AskError ?ax_NoTable ?ax_TooMany ?ex_AskError ?ex_TooMany ?u_TooMany_AskError ?kk_TooMany  ?q_TooMany_NoTable ?q_TooMany_TooMany ?q_TooMany_ValueError ?h1 ?h2 ?h3 ?h4 ?h5 ?h6 ?h7 ?h8 ?h9 ?h10 ?h11 ?h12 ?h13 ?h14 ?h15 ?h16 ?h17 ?h18 ?h19 ?h20 ?h21 ?h22 ?ga_MOST_GIVEN ?ga_MOST_IN_FAMILY ?ga_MOST_STATES ?ga_ValueError ?ga_enumerate ?ga_set ?ga_sorted ?ga_zip ?z_abs ?z_len ?z_max ?z_min ?z_divmod ?z_repr ?z_isinstance ?z_all ?z_range ?z_int ?z_bool ?z_str ?z_tuple ?z_list ?z_dict
  (case ax_AskError=>k_is)
  (case ax_NoTable=>k_is)
  (case ax_TooMany=>k_is)
  (case ex_AskError=>kernel_rfl)
  (case ex_TooMany=>kernel_rfl)
  (case u_TooMany_AskError=>kernel_rfl)
  (case kk_TooMany=>exact ⟨by kernel_rfl,by kernel_rfl,by kernel_rfl,by kernel_rfl,by kernel_rfl⟩)
  (case q_TooMany_NoTable=>kernel_rfl)
  (case q_TooMany_TooMany=>kernel_rfl)
  (case q_TooMany_ValueError=>kernel_rfl)
  (case h1=>exact ⟨by k_is,L2.fun_mk (by k_is) (by k_is) (by k_is)⟩)
  (case h2=>exact ⟨by k_is,L2.fun_mk (by k_is) (by k_is) (by k_is)⟩)
  (case h3=>exact ⟨by k_is,L2.fun_mk (by k_is) (by k_is) (by k_is)⟩)
  (case h4=>exact ⟨by k_is,L2.fun_mk (by k_is) (by k_is) (by k_is)⟩)
  (case h5=>exact ⟨by k_is,L2.fun_mk (by k_is) (by k_is) (by k_is)⟩)
  (case h6=>exact ⟨by k_is,L2.fun_mk (by k_is) (by k_is) (by k_is)⟩)
  (case h7=>exact ⟨by k_is,L2.fun_mk (by k_is) (by k_is) (by k_is)⟩)
  (case h8=>exact ⟨by k_is,L2.fun_mk (by k_is) (by k_is) (by k_is)⟩)
  (case h9=>exact ⟨by k_is,L2.fun_mk (by k_is) (by k_is) (by k_is)⟩)
  (case h10=>exact ⟨by k_is,L2.fun_mk (by k_is) (by k_is) (by k_is)⟩)
  (case h11=>exact ⟨by k_is,L2.fun_mk (by k_is) (by k_is) (by k_is)⟩)
  (case h12=>exact ⟨by k_is,L2.fun_mk (by k_is) (by k_is) (by k_is)⟩)
  (case h13=>exact ⟨by k_is,L2.fun_mk (by k_is) (by k_is) (by k_is)⟩)
  (case h14=>exact ⟨by k_is,L2.fun_mk (by k_is) (by k_is) (by k_is)⟩)
  (case h15=>exact ⟨by k_is,L2.fun_mk (by k_is) (by k_is) (by k_is)⟩)
  (case h16=>exact ⟨by k_is,L2.fun_mk (by k_is) (by k_is) (by k_is)⟩)
  (case h17=>exact ⟨by k_is,L2.fun_mk (by k_is) (by k_is) (by k_is)⟩)
  (case h18=>exact ⟨by k_is,L2.fun_mk (by k_is) (by k_is) (by k_is)⟩)
  (case h19=>exact ⟨by k_is,L2.fun_mk (by k_is) (by k_is) (by k_is)⟩)
  (case h20=>exact ⟨by k_is,L2.fun_mk (by k_is) (by k_is) (by k_is)⟩)
  (case h21=>exact ⟨by k_is,L2.fun_mk (by k_is) (by k_is) (by k_is)⟩)
  (case h22=>exact ⟨by k_is,L2.fun_mk (by k_is) (by k_is) (by k_is)⟩)
  (case ga_MOST_GIVEN=>k_is)
  (case ga_MOST_IN_FAMILY=>k_is)
  (case ga_MOST_STATES=>k_is)
  (case ga_ValueError=>k_is)
  (case ga_enumerate=>k_is)
  (case ga_set=>k_is)
  (case ga_sorted=>k_is)
  (case ga_zip=>k_is)
  (case z_abs=>k_is); (case z_len=>k_is); (case z_max=>k_is); (case z_min=>k_is); (case z_divmod=>k_is); (case z_repr=>k_is); (case z_isinstance=>k_is); (case z_all=>k_is); (case z_range=>k_is); (case z_int=>k_is); (case z_bool=>k_is); (case z_str=>k_is); (case z_tuple=>k_is); (case z_list=>k_is); (case z_dict=>k_is)
