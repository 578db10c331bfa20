import PyProof.Rows.All
import Wide.All
import OpenK.AllK
import Wide.FinOn
import Lean
import PyProof.EqAt
import PyProof.EqKinds
import PyProof.TupleCall
import PyProof.NeKinds
import PyProof.Rows.All
import Wide.All
import OpenK.AllK
import Wide.FinOn
import PyProof.EqAt
import PyProof.EqKinds
import PyProof.TupleCall
import PyProof.NeKinds
import PyProof.ReprRoads
import PyProof.ReprLen
import PyProof.Rows.RegStrFacts
import PyProof.Draws
import PyProof.EnumStmt
import PyProof.ZipIter
import PyProof.ListNew
import PyProof.TupleOfGen
import PyProof.ListRange
import PyProof.Rows.Range3
import PyProof.SumWalkG
import PyProof.AutoSeq1
import PyProof.Cells
import PyProof.AutoListH
import PyProof.DictTable
import PyProof.TupleKey
import PyProof.DictRoadsH
import PyProof.DictKinds
import PyProof.ExcBaseAll.ValueError
import PyProof.ExcAttrAll.ValueError
import PyProof.RulesAs
import PyProof.NsDelKeeps
import KE.KDictList
import PyProof.DictCompW
import PyProof.DictItems
import PyProof.DictWalks
import PyProof.Rows.SetFrom
import PyProof.SetRoads
import PyProof.IsiH_list
import PyProof.AttrMiss
import KE.KDictOf
import KE.KSortTup
import PySem.Challenge.RW_joinedasks_k76_whole_serial_orders
set_option Elab.async false
set_option linter.all false
set_option maxRecDepth 100000
set_option maxHeartbeats 0
abbrev QM:=PySem.W.Frag
abbrev QN:=PySem.Value->PySem.Shared->Prop
namespace L2
open PySem PySem.Spec PyProof.Rows
abbrev QO:=Sum Int Str
def qT:QO->Value->Bool
 | .inl k,v=>Value.isInt k v
 | .inr x,v=>Value.isStrOf x v
def Qi (w:World):QO->Int
 | .inl k=>hashInt k
 | .inr x=>hashStr w x
theorem zZ:∀ {k:QO} {v:Value},qT k v=true->(∃ i t,k=Sum.inl i /\ v=Value.int i t) \/ (∃ x t,k=Sum.inr x /\ v=Value.str x t)
 | .inl i,v,h=>by
  obtain ⟨t,e⟩:=Value.isInt_shape (k:=i) (v:=v) h
  exact .inl ⟨i,t,rfl,e⟩
 | .inr x,v,h=>by
  obtain ⟨t,e⟩:=Value.isStrOf_shape (x:=x) (v:=v) h
  exact .inr ⟨x,t,rfl,e⟩
theorem YQ (i:Int) (t:Tok):qT (.inl i) (.int i t)=true:=by simp [qT,Value.isInt]
theorem YR (x:Str) (t:Tok):qT (.inr x) (.str x t)=true:=by simp [qT,Value.isStrOf]
theorem TW (a b:Int):decide ((Sum.inl a:QO)=Sum.inl b)=(a == b):=by
 by_cases e:a=b
 ·subst e; simp
 ·have h:¬ (Sum.inl a:QO)=Sum.inl b:=fun q=>e (Sum.inl.inj q)
  rw [decide_eq_false h]
  exact (beq_eq_false_iff_ne.mpr e).symm
theorem TX (a b:Str):decide ((Sum.inr a:QO)=Sum.inr b)=decide (a=b):=by
 by_cases e:a=b
 ·subst e; simp
 ·have h:¬ (Sum.inr a:QO)=Sum.inr b:=fun q=>e (Sum.inr.inj q)
  rw [decide_eq_false h,decide_eq_false e]
theorem TY (a:Int) (b:Str):decide ((Sum.inl a:QO)=Sum.inr b)=false:=decide_eq_false (fun q=>nomatch q)
theorem TZ (a:Str) (b:Int):decide ((Sum.inr a:QO)=Sum.inl b)=false:=decide_eq_false (fun q=>nomatch q)
def yt (prog:Program) (w:World):PySem.KeyKind prog w QO where
 is:=qT
 hash:=Qi w
 inj:=fun v a b ha hb=>by
  rcases zZ ha with ⟨i,t,rfl,rfl⟩ | ⟨x,t,rfl,rfl⟩
  ·rcases zZ hb with ⟨j,u,rfl,e⟩ | ⟨y,u,rfl,e⟩
   ·injection e with e1 _; rw [e1]
   ·exact nomatch e
  ·rcases zZ hb with ⟨j,u,rfl,e⟩ | ⟨y,u,rfl,e⟩
   ·exact nomatch e
   ·injection e with e1 _; rw [e1]
 byValue:=fun k v h=>by
  rcases zZ h with ⟨i,t,rfl,rfl⟩ | ⟨x,t,rfl,rfl⟩ <;> rfl
 pyHash:=fun hv h=>by
  rcases zZ hv with ⟨i,t,rfl,rfl⟩ | ⟨x,t,rfl,rfl⟩
  ·exact wpAny_pyHash_int h
  ·exact wpAny_pyHash_str h
 eqBool:=fun hu hv h=>by
  rcases zZ hu with ⟨i,t,rfl,rfl⟩ | ⟨x,t,rfl,rfl⟩
  ·rcases zZ hv with ⟨j,u,rfl,rfl⟩ | ⟨y,u,rfl,rfl⟩
   ·rw [TW] at h; exact wpAny_eqBool_int h
   ·rw [TY] at h; exact SeqAt.EqAt.int_str i t y u _ _ _ _ h
  ·rcases zZ hv with ⟨j,u,rfl,rfl⟩ | ⟨y,u,rfl,rfl⟩
   ·rw [TZ] at h; exact SeqAt.EqAt.str_int x t j u _ _ _ _ h
   ·rw [TX] at h; exact wpAny_eqBool_str h
 «strs»:=fun k x t v h=>by
  rcases zZ h with ⟨i,u,rfl,e⟩ | ⟨y,u,rfl,e⟩
  ·exact nomatch e
  ·injection e with e1 _
   subst e1
   cases v <;> rfl
theorem qU (prog:Program) (w:World) (i:Int) (t:Tok):(yt prog w).is (.inl i) (.int i t)=true:=YQ i t
theorem qV (prog:Program) (w:World) (x:Str) (t:Tok):(yt prog w).is (.inr x) (.str x t)=true:=YR x t
end L2
namespace L2
open PySem PySem.Spec PyProof.Rows
inductive V where
 | non | bl (b:Bool) | int (i:Int) | str (x:Str) | byt (b:Array UInt8) | flt (b:UInt64) | ref (a:Addr) | ty (n:String)
 deriving DecidableEq
def zU:V->Value->Prop
 | .non,u=>u=Value.none
 | .bl b,u=>u=Value.bool b
 | .int i,u=>∃ t,u=Value.int i t
 | .str x,u=>∃ t,u=Value.str x t
 | .byt b,u=>∃ t,u=Value.bytes b t
 | .flt b,u=>∃ t,u=Value.float b t
 | .ref a,u=>u=Value.ref a
 | .ty n,u=>u=Value.type n
abbrev zP:List V->List Value->Prop:=Paired zU
theorem zP.length {xs:List V} {us:List Value} (r:zP xs us):xs.length=us.length:=Paired.length r
theorem zP.get:∀ {xs:List V} {us:List Value} {i:Nat} {x:V},zP xs us->xs[i]? = some x -> ∃ u,us[i]? = some u /\ zU x u
 | _,_,_,_,.nil,e=>by simp at e
 | _,_,0,_,.cons r _,e=>by simp at e; subst e; exact ⟨_,rfl,r⟩
 | _,_,i+1,x,.cons _ t,e=>by
  obtain ⟨u,h1,h2⟩:=zP.get (i:=i) (x:=x) t (by simpa using e)
  exact ⟨u,by simpa using h1,h2⟩
theorem zP.set {x:V} {u:Value} (r:zU x u):∀ {xs:List V} {us:List Value} (i:Nat),zP xs us->zP (xs.set i x) (us.set i u)
 | _,_,_,.nil=>.nil
 | _,_,0,.cons _ t=>.cons r t
 | _,_,i+1,.cons q t=>.cons q (zP.set r i t)
theorem zP.append:∀ {xs ys:List V} {us ws:List Value},zP xs us->zP ys ws->zP (xs ++ ys) (us ++ ws)
 | _,_,_,_,.nil,s=>s
 | _,_,_,_,.cons r t,s=>.cons r (zP.append t s)
theorem zP.take:∀ {xs:List V} {us:List Value} (n:Nat),zP xs us->zP (xs.take n) (us.take n)
 | _,_,0,_=>.nil
 | _,_,_+1,.nil=>.nil
 | _,_,n+1,.cons r t=>.cons r (zP.take n t)
theorem zP.drop:∀ {xs:List V} {us:List Value} (n:Nat),zP xs us->zP (xs.drop n) (us.drop n)
 | _,_,0,r=>r
 | _,_,_+1,.nil=>.nil
 | _,_,n+1,.cons _ t=>zP.drop n t
def W8:Option V->Option Value->Prop
 | some v,some u=>zU v u
 | none,none=>True
 | _,_=>False
def KV {κ:Type}:List (κ × V)->List (κ × Value)->Prop:=Paired fun (p:κ × V) (q:κ × Value)=>p.1=q.1 /\ zU p.2 q.2
def kV:QO->V
 | .inl i=>.int i
 | .inr x=>.str x
inductive HO where
 /-- a list -/
 | lst (xs:List V)
 /-- a tuple (never changes) -/
 | tup (xs:List V)
 /-- a dict whose keys are ints and texts; one whose keys are tuples of ints and texts (the empty one is both) -/
 | dK (kvs:List (QO × V)) | dT (kvs:List (List QO × V))
 /-- a set of ints: its members,its size -/
 | set (S:Int->Bool) (n:Nat)
 /-- an instance of the class at C,its dict at dx,its attributes -/
 | ins (C dx:Addr) (fs:List (Str × V))
 /-- the dict of the instance at x -/
 | own (x:Addr)
 /-- the dict of an exception -/
 | xd (fs:List (Str × V))
 /-- a bound method,f of x -/
 | met (f x:Addr)
 /-- a range object lo,lo+1,.. below hi -/
 | rng (lo hi:Int)
 /-- a thing that is known to the object (the script; a dict while a loop walks it): read,never written while it is so -/
 | frz (o:Obj) (u:HO)
 /-- a code object's table -/
 | tbl (ps:Array Value)
 /-- any other thing,by what is true of its one object (a def of one's own: SetO a S n:=HO.ext fun h=>..) -/
 | ext (φ:Heap->Prop)
abbrev Hp:=Addr->Option HO
def QP (H:Hp) (a:Addr) (o:HO):Hp:=fun b=>if b=a then some o else H b
theorem zd {H:Hp} {a:Addr} {o:HO}:QP H a o a=some o:=by unfold QP; rw [if_pos rfl]
theorem zq {H:Hp} {a b:Addr} {o:HO} (h:b ≠ a):QP H a o b=H b:=by unfold QP; rw [if_neg h]
theorem Rk {H:Hp} {a b:Addr} {o u:HO} (h:H a=some o) (h':H b=some u) (d:o ≠ u):a ≠ b:=by
 intro e; subst e; rw [h] at h'; exact d (Option.some.inj h')
theorem zC {H:Hp} {a b:Addr} {o:HO} (h:H a=some o) (h':H b=none):a ≠ b:=by
 intro e; subst e; rw [h] at h'; cases h'
section
variable (P:Program) (w:World)
def zT (H:Hp) (h:Heap) (a:Addr):HO->Prop
 | .lst xs=>xs.length<=sizeLine /\ ∃ (its:List Value) (n:Nat),zP xs its /\ h.get? a=some { cls:=.type "list",data:=.seq its.toArray n }
 | .tup xs=>xs.length<=sizeLine /\ ∃ its:List Value,zP xs its /\ IsTup h a its.toArray
 | .dK kvs=>kvs.length<=sizeLine /\ (a == sysModules)=false /\ ∃ vs,KV kvs vs /\ h.DictOf (yt P w) a vs
 | .dT kvs=>kvs.length<=sizeLine /\ (a == sysModules)=false /\ ∃ xs:List (List QO × Addr × Value),
   Paired (fun (p:List QO × V) (q:List QO × Addr × Value)=>p.1=q.1 /\ H q.2.1=some (.tup (p.1.map kV)) /\ zU p.2 q.2.2) kvs xs ∧
   ∃ o es ep,h.get? a=some o /\ o.ExactDict /\ o.data = .dict es ep /\ es.toList=xs.map (entryOfKey (tupleKind (yt P w))) /\ (xs.map (·.1)).Nodup
 | .set S n=>h.SetOf (intKind P w) a S n
 | .ins C dx fs=>H dx=some (.own a) /\ fs.length<=1000 /\ dx ≠ a /\ h.get? a=some (PySem.W.instObj C dx) ∧
   ∃ mA,h.Ns1 dx mA /\ (∀ f,W8 (fs.lookup f) (mA f)) /\ PySem.Within mA (fs.map (·.1))
 | .own _=>∃ o,h.get? a=some o
 | .xd fs=>∃ mA,h.Ns1 a mA /\ ∀ f,W8 (fs.lookup f) (mA f)
 | .rng lo hi=>∃ t u v,h.get? a=some { cls:=.type "range",data:=.fields #[.int lo t,.int hi u,.int 1 v] }
 | .frz o u=>h.get? a=some o /\ zT H h a u
 | .tbl ps=>h.get? a=some { cls:=.none,data:=.fields ps }
 | .met f x=>h.get? a=some (PySem.W.methodObj (.ref f) (.ref x))
 | .ext φ=>φ h /\ (∃ o,h.get? a=some o) /\ ∀ h1 h2:Heap,φ h1->(∀ o,h1.get? a=some o->h2.get? a=some o) -> φ h2
def QQ (H:Hp) (h:Heap):Prop:=∀ a o,H a=some o->zT P w H h a o
end
section
variable {P:Program} {w:World} {H H':Hp} {h h':Heap} {a:Addr} {o:HO}
theorem zT.lt (x:zT P w H h a o):a < h.objs.size:=by
 cases o with
 | lst xs=>obtain ⟨_,_,_,_,e⟩:=x; exact Heap.lt_size e
 | tup xs=>obtain ⟨_,_,_,p⟩:=x; exact p.lt
 | dK kvs=>obtain ⟨_,_,_,_,o,_,_,e,_⟩:=x; exact Heap.lt_size e
 | dT kvs=>obtain ⟨_,_,_,_,o,_,_,e,_⟩:=x; exact Heap.lt_size e
 | set S n=>obtain ⟨o,_,_,_,e,_⟩:=x; exact Heap.lt_size e
 | ins C dx fs=>obtain ⟨_,_,_,e,_⟩:=x; exact Heap.lt_size e
 | own y=>obtain ⟨_,e⟩:=x; exact Heap.lt_size e
 | xd fs=>obtain ⟨_,⟨_,_,_,e,_⟩,_⟩:=x; exact Heap.lt_size e
 | rng lo hi=>obtain ⟨_,_,_,e⟩:=x; exact Heap.lt_size e
 | frz ob u=>obtain ⟨e,_⟩:=x; exact Heap.lt_size e
 | tbl ps=>exact Heap.lt_size (show h.get? a=some _ from x)
 | met f y=>exact Heap.lt_size (show h.get? a=some _ from x)
 | ext φ=>obtain ⟨_,⟨_,e⟩,_⟩:=x; exact Heap.lt_size e
theorem Paired.mapP {α β:Type} {F G:α -> β -> Prop}:∀ {l₁:List α} {l₂:List β},Paired F l₁ l₂ -> (∀ a b,F a b->G a b)->Paired G l₁ l₂
 | _,_,.nil,_=>.nil
 | _,_,.cons r t,f=>.cons (f _ _ r) (Paired.mapP t f)
theorem zT.stay (x:zT P w H h a o) (k:∀ b u,(b=a \/ H b=some (.own a))->h.get? b=some u->h'.get? b=some u)
  (ho:∀ b,H b=some (.own a)->H' b=some (.own a)) (ht:∀ b xs,H b=some (.tup xs)->H' b=some (.tup xs)):zT P w H' h' a o:=by
 induction o with
 | lst xs=>obtain ⟨z,its,n,r,e⟩:=x; exact ⟨z,its,n,r,k _ _ (.inl rfl) e⟩
 | tup xs=>obtain ⟨z,its,r,ob,e,c⟩:=x; exact ⟨z,its,r,ob,k _ _ (.inl rfl) e,c⟩
 | dK kvs=>obtain ⟨z,y,vs,r,ob,es,ep,e,c⟩:=x; exact ⟨z,y,vs,r,ob,es,ep,k _ _ (.inl rfl) e,c⟩
 | dT kvs =>
  obtain ⟨z,y,xs,r,ob,es,ep,e,c⟩:=x
  exact ⟨z,y,xs,Paired.mapP r fun p q z=>⟨z.1,ht _ _ z.2.1,z.2.2⟩,ob,es,ep,k _ _ (.inl rfl) e,c⟩
 | set S n=>obtain ⟨ob,es,ep,t,e,c⟩:=x; exact ⟨ob,es,ep,t,k _ _ (.inl rfl) e,c⟩
 | ins C dx fs =>
  obtain ⟨d,z,ne,e,mA,⟨od,es,ep,e2,c⟩,r⟩:=x
  exact ⟨ho _ d,z,ne,k _ _ (.inl rfl) e,mA,⟨od,es,ep,k _ _ (.inr d) e2,c⟩,r⟩
 | own y=>obtain ⟨ob,e⟩:=x; exact ⟨ob,k _ _ (.inl rfl) e⟩
 | xd fs=>obtain ⟨mA,⟨od,es,ep,e,c⟩,r⟩:=x; exact ⟨mA,⟨od,es,ep,k _ _ (.inl rfl) e,c⟩,r⟩
 | rng lo hi=>obtain ⟨t,u,v,e⟩:=x; exact ⟨t,u,v,k _ _ (.inl rfl) e⟩
 | frz ob u ih=>obtain ⟨e,q⟩:=x; exact ⟨k _ _ (.inl rfl) e,ih q⟩
 | tbl ps =>
  have e:h.get? a=some { cls:=.none,data:=.fields ps }:=x
  show h'.get? a=some { cls:=.none,data:=.fields ps }
  exact k a _ (.inl rfl) e
 | met f y =>
  have e:h.get? a=some (PySem.W.methodObj (.ref f) (.ref y)):=x
  show h'.get? a=some (PySem.W.methodObj (.ref f) (.ref y))
  exact k a _ (.inl rfl) e
 | ext φ=>obtain ⟨p,⟨o,e⟩,st⟩:=x; exact ⟨st _ _ p fun o q=>k _ _ (.inl rfl) q,⟨o,k _ _ (.inl rfl) e⟩,st⟩
theorem QQ.lt (x:QQ P w H h) (e:H a=some o):a < h.objs.size:=(x a o e).lt
theorem QQ.fresh (x:QQ P w H h) (e:h.objs.size<=a):H a=none:=by
 cases q:H a with
 | none=>rfl
 | some u=>exact absurd (Nat.lt_of_lt_of_le (x.lt q) e) (Nat.lt_irrefl _)
theorem QQ.kept (x:QQ P w H h) (k:∀ b u,h.get? b=some u->h'.get? b=some u):QQ P w H h':=fun a o e =>
 (x a o e).stay (fun b u _ q=>k b u q) (fun _ q=>q) fun _ _ q=>q
theorem QQ.laid (x:QQ P w H h) (k:∀ b u,h.get? b=some u->h'.get? b=some u) (hp:h.objs.size<=a) (new:zT P w (QP H a o) h' a o):QQ P w (QP H a o) h':=fun b u e=>by
 have hn:=x.fresh hp
 by_cases hb:b=a
 ·subst hb; rw [zd] at e; cases e; exact new
 ·rw [zq hb] at e
  exact (x b u e).stay (fun c v _ q=>k c v q) (fun c q=>by rw [zq (zC q hn)]; exact q) fun c xs q=>by rw [zq (zC q hn)]; exact q
end
def Rd (H:Hp) (a:Addr) (u:HO):Prop:=H a=some u \/ ∃ o,H a=some (.frz o u)
theorem Rd.ok {P:Program} {w:World} {H:Hp} {h:Heap} {a:Addr} {u:HO} (r:Rd H a u) (x:QQ P w H h):zT P w H h a u:=by
 rcases r with r | ⟨o,r⟩
 ·exact x a u r
 ·obtain ⟨_,q⟩:=x a _ r
  exact q
def QR:Option HO->Prop
 | some (.lst _)=>True
 | some (.dK _)=>True
 | some (.dT _)=>True
 | some (.set _ _)=>True
 | some (.ins _ _ _)=>True
 | some (.ext _)=>True
 | _=>False
section
variable {P:Program} {w:World} {H:Hp} {h h':Heap} {x e:Addr} {o':HO}
theorem QQ.write (ok:QQ P w H h) (mu:QR (H x)) (he:e=x \/ H e=some (.own x)) (k:∀ b u,b ≠ e->h.get? b=some u->h'.get? b=some u) (heo:∃ u,h'.get? e=some u)
  (new:zT P w (QP H x o') h' x o'):QQ P w (QP H x o') h':=fun b u q=>by
 have nown:∀ c y,H c=some (.own y)->c ≠ x:=fun c y r z=>by subst z; rw [r] at mu; exact mu
 have ntup:∀ c xs,H c=some (.tup xs)->c ≠ x:=fun c xs r z=>by subst z; rw [r] at mu; exact mu
 by_cases hb:b=x
 ·subst hb; rw [zd] at q; cases q; exact new
 ·rw [zq hb] at q
  by_cases hbe:b=e
  ·have q':H b=some (.own x):=by
    rcases he with z | z
    ·exact absurd (hbe.trans z) hb
    ·rw [hbe]; exact z
   rw [q] at q'; cases q'
   obtain ⟨v,hv⟩:=heo
   exact ⟨v,by rw [hbe]; exact hv⟩
  ·refine (ok b u q).stay (fun c v hc r=>k c v ?_ r) (fun c r=>by rw [zq (nown c b r)]; exact r) fun c xs r=>by rw [zq (ntup c xs r)]; exact r
   rcases hc with rfl | hc
   ·exact hbe
   ·rintro rfl
    rcases he with z | z
    ·exact nown c b hc z
    ·rw [hc] at z; cases z; exact hb rfl
end
structure Un (fs ex:List Addr) (H H':Hp) (h h':Heap):Prop where
 keep:∀ b o,h.get? b=some o->H b=none->b ∉ fs->b ∉ ex->h'.get? b=some o
 slot:∀ b o,h.get? b=some o->H b=none->b ∈ fs->b ∉ ex -> ∃ sl,h'.get? b=some { o with slots:=sl }
 free:∀ b o,h.get? b=some o->H b=none->b ∉ ex->H' b=none
 there:∀ b o,h.get? b=some o->b ∉ ex -> ∃ o',h'.get? b=some o'
 tups:∀ b xs,H b=some (.tup xs)->H' b=some (.tup xs)
 frzs:∀ b o u,H b=some (.frz o u)->H' b=some (.frz o u)
 tbls:∀ b ps,H b=some (.tbl ps) -> ∃ more,H' b=some (.tbl (ps ++ more))
section
variable {fs fs' ex ex':List Addr} {H H1 H2:Hp} {h h1 h2 h':Heap} {a x e:Addr} {o:HO}
theorem Un.any (u:Un fs ex H H1 h h1) {b:Addr} {ob:Obj} (q:h.get? b=some ob) (n:H b=none) (hx:b ∉ ex):∃ sl,h1.get? b=some { ob with slots:=sl }:=by
 by_cases hb:b ∈ fs
 ·exact u.slot b ob q n hb hx
 ·exact ⟨ob.slots,u.keep b ob q n hb hx⟩
theorem Un.kept (k:∀ b u,h.get? b=some u->h'.get? b=some u):Un fs ex H H h h' :=
 ⟨fun b ob q _ _ _=>k b ob q,fun b ob q _ _ _=>⟨ob.slots,k b ob q⟩,fun _ _ _ n _=>n,fun b ob q _=>⟨ob,k b ob q⟩,fun _ _ q=>q,fun _ _ _ q=>q,fun _ ps q=>⟨#[],by rw [q]; simp⟩⟩
theorem Un.refl:Un fs ex H H h h:=Un.kept fun _ _ q=>q
theorem Un.laid (k:∀ b u,h.get? b=some u->h'.get? b=some u) (hp:h.objs.size<=a) (hn:H a=none):Un fs ex H (QP H a o) h h' where
 keep:=fun b u q _ _ _=>k b u q
 slot:=fun b u q _ _ _=>⟨u.slots,k b u q⟩
 free:=fun b u q n _=>by rw [zq (Nat.ne_of_lt (Nat.lt_of_lt_of_le (Heap.lt_size q) hp))]; exact n
 there:=fun b u q _=>⟨u,k b u q⟩
 tups:=fun b xs q=>by rw [zq (zC q hn)]; exact q
 frzs:=fun b u xs q=>by rw [zq (zC q hn)]; exact q
 tbls:=fun b ps q=>⟨#[],by rw [zq (zC q hn),q]; simp⟩
theorem Un.write (mu:QR (H x)) (he:e=x \/ H e=some (.own x)) (k:∀ b u,b ≠ e->h.get? b=some u->h'.get? b=some u) (heo:∃ u,h'.get? e=some u):Un fs ex H (QP H x o) h h':=by
 have hx:∀ b,H b=none->b ≠ x:=fun b n z=>by subst z; rw [n] at mu; exact mu
 have hb:∀ b,H b=none->b ≠ e:=fun b n z=>by
  subst z
  rcases he with r | r
  ·exact hx b n r
  ·rw [n] at r; cases r
 have hm:∀ b u,H b=some u -> ¬ QR (some u)->b ≠ x:=fun b u q nm z=>by subst z; rw [q] at mu; exact nm mu
 refine ⟨fun b u q n _ _=>k b u (hb b n) q,fun b u q n _ _=>⟨u.slots,k b u (hb b n) q⟩,fun b u q n _=>by rw [zq (hx b n)]; exact n,fun b u q _=>?_,
  fun b xs q=>by rw [zq (hm b _ q fun z=>z)]; exact q,fun b u xs q=>by rw [zq (hm b _ q fun z=>z)]; exact q,fun b ps q=>⟨#[],by rw [zq (hm b _ q fun z=>z),q]; simp⟩⟩
 by_cases hbe:b=e
 ·subst hbe; exact heo
 ·exact ⟨u,k b u hbe q⟩
end
def QS (h:Heap) (H:Hp):List Addr:=(List.range h.objs.size).filter fun a=>(H a).isSome
def Vc (h:Heap) (H:Hp):Heap:=PySem.W.hideAll h (QS h H)
theorem YS (h:Heap) (H:Hp):(Vc h H).objs.size=h.objs.size:=PySem.W.hideAll_size _ _
theorem Vd {h:Heap} {H:Hp} {b:Addr} {o:Obj} (e:h.get? b=some o) (n:H b=none):(Vc h H).get? b=some o :=
 PySem.W.hideAll_get _ e fun hm=>by
  have q:(H b).isSome=true:=(List.mem_filter.mp hm).2
  rw [n] at q; simp at q
theorem UW {h:Heap} {H:Hp} {b:Addr} {o:Obj} (e:(Vc h H).get? b=some o):h.get? b=some o /\ H b=none:=by
 have e':h.get? b=some o:=PySem.W.of_hideAll (QS h H) e
 refine ⟨e',?_⟩
 cases q:H b with
 | none=>rfl
 | some x =>
  have hm:b ∈ QS h H:=List.mem_filter.mpr ⟨List.mem_range.mpr (Heap.lt_size e'),by simp [q]⟩
  have z:(Vc h H).get? b=none:=PySem.W.hideAll_none (QS h H) hm
  rw [z] at e; cases e
end L2
namespace L2
open PySem PySem.Spec PyProof.Rows
structure Mod (K:QM) (mg:Str->Option Value) (base:Heap):Prop where
 kin:K.In base
 glob:base.Ns mainGlobals mg
 blt:∃ mb,base.Ns builtinsNs mb /\ ∀ x:Str,x ≠ "__name__" -> mb x=bootBuiltins x
 nolimit:base.NoLimit
structure Cx where
 prog:Program
 w:World
 K:QM
 mg:Str->Option Value
 base:Heap
 A:Around
 N:List Str
 s₀:Shared
 H₀:Hp
 env:Env
 outer:List Env
 stack:List Env
 ex:List Addr
 fn:Str->Bool
 calm:Bool
 pn:List (Addr × Obj)
 xe:QN
def QT (l:List Env):List Addr:=l.filterMap (·.frame)
abbrev Cx.fs (X:Cx):List Addr:=QT X.outer
def QU (sc:Scope) (x:Str):Prop:=sc.names.lookup x=some .local \/ sc.names.lookup x=some .cell \/ sc.names.lookup x=some .free
def QV (sc:Scope) (x:Str):Prop:=sc.names.lookup x=some .local \/ sc.names.lookup x=some .cell
def Qj (env:Env) (h:Heap) (m:Str->Option Value) (x:Str) (u:Value):Prop :=
 (env.kindOf x=some .local /\ m x=some u) \/ ((env.kindOf x=some .cell \/ env.kindOf x=some .free) /\ ∃ c,env.cells.lookup x=some c /\ h.IsCell c (some u))
structure Cx.Ok (X:Cx):Prop where
 mod:Mod X.K X.mg X.base
 kind:X.env.scope.kind = .function
 glob:X.env.globals=mainGlobals
 blt:X.env.builtins=builtinsNs
 above:X.s₀.heap.objs.size<=X.env.locals
 inj:∀ x y c,X.env.cells.lookup x=some c->X.env.cells.lookup y=some c->x=y
 has:∀ x,(X.env.kindOf x=some .cell \/ X.env.kindOf x=some .free) -> ∃ c,X.env.cells.lookup x=some c
 cab:∀ x c,X.fn x=true->X.env.cells.lookup x=some c->X.s₀.heap.objs.size<=c
 hd:X.calm=true->X.A.handled=none
 frames:X.A.frames=some X.stack
 stk:X.stack=X.outer \/ (X.stack=X.env :: X.outer /\ X.env.frame=some X.env.locals)
 exf:∀ b ∈ X.ex,b ≠ X.env.locals /\ ∀ x c,X.env.cells.lookup x=some c->c ≠ b
 bs:∀ b o,X.base.get? b=some o->X.s₀.heap.get? b=some o /\ X.H₀ b=none
 bsz:X.base.objs.size<=X.s₀.heap.objs.size
 noex:∀ b o,X.base.get? b=some o->b ∉ X.ex
 exfs:∀ b ∈ X.ex,b ∉ X.fs
 funs:X.s₀.heap.FunFrames X.base X.outer
 frf:∀ b ∈ X.fs,X.H₀ b=none
structure Inv (X:Cx) (pins:List (Addr × Obj)) (σ:List (Option V)) (H:Hp) (s:Shared):Prop where
 ok:X.Ok
 os:s.os=X.s₀.os
 bare:AllBare s.gens
 base:Un X.fs X.ex X.H₀ H X.s₀.heap s.heap
 loc:∃ m,s.heap.Ns X.env.locals m /\ ∀ (i:Nat) (x:Str) (v:V),X.N[i]? = some x -> σ[i]? = some (some v)->QU X.env.scope x -> ∃ u,zU v u /\ Qj X.env s.heap m x u
 cell:∀ x c,X.env.cells.lookup x=some c -> ∃ v,s.heap.IsCell c v
 free:H X.env.locals=none
 freeC:∀ x c,X.env.cells.lookup x=some c->H c=none
 pin:∀ p ∈ X.pn ++ pins,s.heap.get? p.1=some p.2 /\ H p.1=none /\ p.1 ≠ X.env.locals /\ p.1 ∉ X.fs /\ ∀ v,p.2.data ≠ .cell v
 hok:QQ X.prog X.w H s.heap
 len:σ.length=X.N.length
section
variable {X:Cx} {pins:List (Addr × Obj)} {σ:List (Option V)} {H H':Hp} {s:Shared} {h':Heap}
theorem Cx.Ok.nofr (ok:X.Ok) {b:Addr} {o:Obj} (e:X.base.get? b=some o):b ∉ X.fs:=fun hb=>by
 have:=(ok.funs.mem hb).1
 rw [e] at this; cases this
theorem Inv.bs (I:Inv X pins σ H s):∀ b o,X.base.get? b=some o->s.heap.get? b=some o /\ H b=none:=fun b o e =>
 ⟨I.base.keep b o (I.ok.bs b o e).1 (I.ok.bs b o e).2 (I.ok.nofr e) (I.ok.noex b o e),I.base.free b o (I.ok.bs b o e).1 (I.ok.bs b o e).2 (I.ok.noex b o e)⟩
theorem Inv.bk (I:Inv X pins σ H s):∀ b o,X.base.get? b=some o->s.heap.get? b=some o:=fun b o e=>(I.bs b o e).1
theorem Inv.mod (I:Inv X pins σ H s):Mod X.K X.mg X.base:=I.ok.mod
theorem Inv.kIn (I:Inv X pins σ H s):X.K.In s.heap:=I.ok.mod.kin.keeps I.bk
theorem Inv.lt (I:Inv X pins σ H s):X.env.locals < s.heap.objs.size:=let ⟨_,hn,_⟩:=I.loc; hn.lt
theorem Inv.sz (I:Inv X pins σ H s):X.s₀.heap.objs.size<=s.heap.objs.size:=Nat.le_trans I.ok.above (Nat.le_of_lt I.lt)
theorem Inv.nofs (I:Inv X pins σ H s) {a:Addr} (h:s.heap.objs.size<=a):a ∉ X.fs:=fun hb=>by
 obtain ⟨_,o,ho,_⟩:=I.ok.funs.mem hb
 exact absurd (Nat.lt_of_lt_of_le (Heap.lt_size ho) (Nat.le_trans I.sz h)) (Nat.lt_irrefl _)
theorem Inv.cne (I:Inv X pins σ H s):∀ x c,X.env.cells.lookup x=some c->c ≠ X.env.locals:=fun x c e z=>by
 obtain ⟨v,o,ho,hd⟩:=I.cell x c e
 obtain ⟨m,⟨o',es,ep,ho',hd',_⟩,_⟩:=I.loc
 rw [z,ho'] at ho; cases ho; rw [hd'] at hd; cases hd
theorem Inv.funs (I:Inv X pins σ H s):s.heap.FunFrames X.base X.outer:=by
 have all:∀ (l:List Env),(∀ b ∈ QT l,b ∈ X.fs)->X.s₀.heap.FunFrames X.base l->s.heap.FunFrames X.base l:=by
  intro l
  induction l with
  | nil=>intro _ _; trivial
  | cons env r ih =>
   intro hs hl
   obtain ⟨hk,⟨L,o,hf,hn,ho,hd⟩,hr⟩:=hl
   have hL:L ∈ X.fs:=hs L (by unfold QT; rw [List.filterMap_cons,hf]; exact List.mem_cons_self)
   obtain ⟨sl,e⟩:=I.base.slot L o ho (I.ok.frf L hL) hL fun z=>I.ok.exfs L z hL
   exact ⟨hk,⟨L,_,hf,hn,e,hd⟩,ih (fun b hb=>hs b (by unfold QT; rw [List.filterMap_cons,hf]; exact List.mem_cons_of_mem _ hb)) hr⟩
 exact all X.outer (fun _ hb=>hb) I.ok.funs
theorem Inv.stack (I:Inv X pins σ H s):s.heap.FunFrames X.base X.stack:=by
 rcases I.ok.stk with e | ⟨e,hf⟩
 ·rw [e]; exact I.funs
 ·rw [e]
  obtain ⟨m,hn,_⟩:=I.loc
  refine .cons (by rw [I.ok.kind]; decide) hf hn ?_ I.funs
  exact Heap.get?_none_of_le (Nat.le_trans I.ok.bsz I.ok.above)
theorem Inv.stkSub (I:Inv X pins σ H s):∀ b ∈ QT X.stack,b ∈ X.env.locals :: X.fs:=fun b hb=>by
 rcases I.ok.stk with e | ⟨e,hf⟩
 ·rw [e] at hb; exact List.mem_cons_of_mem _ hb
 ·rw [e] at hb
  unfold QT at hb
  rw [List.filterMap_cons,hf] at hb
  exact hb
theorem Inv.stkFree (I:Inv X pins σ H s):∀ b ∈ QT X.stack,H b=none:=fun b hb=>by
 rcases List.mem_cons.mp (I.stkSub b hb) with e | hb
 ·rw [e]; exact I.free
 ·obtain ⟨_,o,ho,_⟩:=I.ok.funs.mem hb
  exact I.base.free b o ho (I.ok.frf b hb) fun z=>I.ok.exfs b z hb
theorem Inv.step {g':Array GenState} {t':Nat} {d':Drawn} {ch:List Addr} (I:Inv X pins σ H s)
  (hch:∀ b ∈ ch,(b ∈ X.ex \/ X.s₀.heap.objs.size<=b) /\ b ≠ X.env.locals /\ (∀ x c,X.env.cells.lookup x=some c->c ≠ b) /\ ∀ p ∈ X.pn ++ pins,p.1 ≠ b)
  (keep:∀ b o,b ≠ X.env.locals->b ∉ X.fs->b ∉ ch->s.heap.get? b=some o->H b=none->h'.get? b=some o)
  (slot:∀ b o,b ≠ X.env.locals->b ∈ X.fs->b ∉ ch->s.heap.get? b=some o->H b=none -> ∃ sl,h'.get? b=some { o with slots:=sl }) (free:∀ b o,b ∉ ch->s.heap.get? b=some o->H b=none->H' b=none)
  (there:∀ b o,b ∉ ch->s.heap.get? b=some o -> ∃ o',h'.get? b=some o')
  (tups:∀ b xs,H b=some (.tup xs)->H' b=some (.tup xs)) (frzs:∀ b o u,H b=some (.frz o u)->H' b=some (.frz o u)) (tbls:∀ b ps,H b=some (.tbl ps) -> ∃ more,H' b=some (.tbl (ps ++ more)))
  (ns:∀ m,s.heap.Ns X.env.locals m->h'.Ns X.env.locals m) (hok:QQ X.prog X.w H' h') (hg:AllBare g') :
  Inv X pins σ H' { s with heap:=h',gens:=g',drawn:=d',toks:=t' }:=by
 have neL:∀ b o,X.s₀.heap.get? b=some o->b ≠ X.env.locals:=fun b o e=>Nat.ne_of_lt (Nat.lt_of_lt_of_le (Heap.lt_size e) I.ok.above)
 have neC:∀ b o,X.s₀.heap.get? b=some o->b ∉ X.ex->b ∉ ch:=fun b o e hx hb=>by
  rcases (hch b hb).1 with z | z
  ·exact hx z
  ·exact absurd (Nat.lt_of_lt_of_le (Heap.lt_size e) z) (Nat.lt_irrefl _)
 have cellK:∀ x c,X.env.cells.lookup x=some c -> ∀ v,s.heap.IsCell c v->h'.IsCell c v:=fun x c e v ⟨o,ho,hd⟩=>by
  have nch:c ∉ ch:=fun z=>(hch c z).2.2.1 x c e rfl
  by_cases hc:c ∈ X.fs
  ·obtain ⟨sl,q⟩:=slot c o (I.cne x c e) hc nch ho (I.freeC x c e)
   exact ⟨_,q,hd⟩
  ·exact ⟨o,keep c o (I.cne x c e) hc nch ho (I.freeC x c e),hd⟩
 refine ⟨I.ok,I.os,hg,⟨fun b o e n hb hx=>?_,fun b o e n hb hx=>?_,fun b o e n hx=>?_,fun b o e hx=>?_,fun b xs e=>tups b xs (I.base.tups b xs e),fun b o xs e=>frzs b o xs (I.base.frzs b o xs e),fun b ps e=>?_⟩,?_,fun x c e=>?_,?_,fun x c e=>?_,fun p hp=>?_,hok,I.len⟩
 ·exact keep b o (neL b o e) hb (neC b o e hx) (I.base.keep b o e n hb hx) (I.base.free b o e n hx)
 ·obtain ⟨sl,e1⟩:=I.base.slot b o e n hb hx
  obtain ⟨sl',e2⟩:=slot b _ (neL b o e) hb (neC b o e hx) e1 (I.base.free b o e n hx)
  exact ⟨sl',e2⟩
 ·obtain ⟨o',e1⟩:=I.base.there b o e hx
  exact free b o' (neC b o e hx) e1 (I.base.free b o e n hx)
 ·obtain ⟨o',e1⟩:=I.base.there b o e hx
  exact there b o' (neC b o e hx) e1
 ·obtain ⟨m1,e1⟩:=I.base.tbls b ps e
  obtain ⟨m2,e2⟩:=tbls b _ e1
  exact ⟨m1 ++ m2,by rw [e2,Array.append_assoc]⟩
 ·obtain ⟨m,hn,hl⟩:=I.loc
  refine ⟨m,ns m hn,fun i x v e1 e2 e3=>?_⟩
  obtain ⟨u,r,l⟩:=hl i x v e1 e2 e3
  refine ⟨u,r,?_⟩
  rcases l with l | ⟨k,c,e,z⟩
  ·exact .inl l
  ·exact .inr ⟨k,c,e,cellK x c e _ z⟩
 ·obtain ⟨v,z⟩:=I.cell x c e
  exact ⟨v,cellK x c e v z⟩
 ·obtain ⟨m,⟨o,_,_,ho,_⟩,_⟩:=I.loc
  exact free _ o (fun z=>(hch _ z).2.1 rfl) ho I.free
 ·obtain ⟨v,o,ho,hd⟩:=I.cell x c e
  exact free c o (fun z=>(hch c z).2.2.1 x c e rfl) ho (I.freeC x c e)
 ·obtain ⟨e,n,ne,nf,d⟩:=I.pin p hp
  have nch:p.1 ∉ ch:=fun z=>(hch p.1 z).2.2.2 p hp rfl
  exact ⟨keep p.1 p.2 ne nf nch e n,free p.1 p.2 nch e n,ne,nf,d⟩
theorem Inv.un {t':Nat} (I:Inv X pins σ H s) (u:Un X.fs [] H H' s.heap h') (hok:QQ X.prog X.w H' h'):Inv X pins σ H' { s with heap:=h',toks:=t' }:=by
 obtain ⟨m,⟨o,es,ep,ho,r⟩,_⟩:=id I.loc
 obtain ⟨sl,hL⟩:=u.any ho I.free (by simp)
 exact I.step (g':=s.gens) (d':=s.drawn) (ch:=[]) (fun _ z=>nomatch z) (fun b o _ hb _ e n=>u.keep b o e n hb (by simp)) (fun b o _ hb _ e n=>u.slot b o e n hb (by simp)) (fun b o _ e n=>u.free b o e n (by simp)) (fun b o _ e=>u.there b o e (by simp)) u.tups u.frzs u.tbls (fun m' hm=>by
  obtain ⟨o',es',ep',ho',r'⟩:=hm
  rw [ho] at ho'; cases ho'
  exact ⟨_,es',ep',hL,r'⟩) hok I.bare
theorem Inv.call {g':Array GenState} {t':Nat} {d':Drawn} {ch:List Addr} (I:Inv X pins σ H s) (u:Un (QT X.stack) ch H H' s.heap h') (hok:QQ X.prog X.w H' h') (hg:AllBare g')
  (hch:∀ b ∈ ch,(b ∈ X.ex \/ X.s₀.heap.objs.size<=b) /\ b ≠ X.env.locals /\ (∀ x c,X.env.cells.lookup x=some c->c ≠ b) /\ ∀ p ∈ X.pn ++ pins,p.1 ≠ b) :
  Inv X pins σ H' { s with heap:=h',gens:=g',drawn:=d',toks:=t' }:=by
 obtain ⟨m,⟨o,es,ep,ho,r⟩,_⟩:=id I.loc
 obtain ⟨sl,hL⟩:=u.any ho I.free fun z=>(hch _ z).2.1 rfl
 exact I.step (ch:=ch) hch (fun b o hL hb hc e n=>u.keep b o e n (fun z=>(List.mem_cons.mp (I.stkSub b z)).elim hL hb) hc) (fun b o _ _ hc e n=>u.any e n hc) (fun b o hc e n=>u.free b o e n hc) (fun b o hc e=>u.there b o e hc) u.tups u.frzs u.tbls (fun m' hm=>by
  obtain ⟨o',es',ep',ho',r'⟩:=hm
  rw [ho] at ho'; cases ho'
  exact ⟨_,es',ep',hL,r'⟩) hok hg
theorem Inv.turned {t':Nat} {it:Addr} (I:Inv X pins σ H s) (k:∀ b o,b ≠ it->s.heap.get? b=some o->h'.get? b=some o) (hn:H it=none) (hL:it ≠ X.env.locals)
  (h1:it ∈ X.ex \/ X.s₀.heap.objs.size<=it) (h2:∀ x c,X.env.cells.lookup x=some c->c ≠ it) (h3:∀ p ∈ X.pn ++ pins,p.1 ≠ it):Inv X pins σ H { s with heap:=h',toks:=t' }:=by
 have nit:∀ b u,H b=some u->b ≠ it:=fun b u e z=>by rw [z,hn] at e; cases e
 refine I.step (g':=s.gens) (d':=s.drawn) (ch:=[it]) (fun b hb=>?_) (fun b o _ _ hc e _=>k b o (fun z=>hc (by simp [z])) e) (fun b o _ _ hc e _=>⟨o.slots,k b o (fun z=>hc (by simp [z])) e⟩) (fun _ _ _ _ n=>n)
  (fun b o hc e=>⟨o,k b o (fun z=>hc (by simp [z])) e⟩) (fun _ _ e=>e) (fun _ _ _ e=>e) (fun b ps e=>⟨#[],by rw [e]; simp⟩) (fun m hm=>?_) (fun b u e=>?_) I.bare
 ·have e:b=it:=by simpa using hb
  subst e
  exact ⟨h1,hL,h2,h3⟩
 ·obtain ⟨o,es,ep,ho,r⟩:=hm
  exact ⟨o,es,ep,k _ o (Ne.symm hL) ho,r⟩
 ·refine (I.hok b u e).stay (fun c v hc q=>k c v ?_ q) (fun _ q=>q) fun _ _ q=>q
  rcases hc with z | z
  ·rw [z]; exact nit b u e
  ·exact nit c _ z
theorem Inv.tok (I:Inv X pins σ H s) (t:Nat):Inv X pins σ H { s with toks:=t }:=I.un (h':=s.heap) (t':=t) Un.refl I.hok
theorem Inv.kept {t':Nat} (I:Inv X pins σ H s) (k:∀ b u,s.heap.get? b=some u->h'.get? b=some u):Inv X pins σ H { s with heap:=h',toks:=t' }:=I.un (Un.kept k) (I.hok.kept k)
theorem Inv.laid {a:Addr} {o:HO} {t':Nat} (I:Inv X pins σ H s) (k:∀ b u,s.heap.get? b=some u->h'.get? b=some u) (hp:s.heap.objs.size<=a) (new:zT X.prog X.w (QP H a o) h' a o) :
  Inv X pins σ (QP H a o) { s with heap:=h',toks:=t' }:=I.un (Un.laid k hp (I.hok.fresh hp)) (I.hok.laid k hp new)
theorem Inv.write {x e:Addr} {o:HO} {t':Nat} (I:Inv X pins σ H s) (mu:QR (H x)) (he:e=x \/ H e=some (.own x)) (k:∀ b u,b ≠ e->s.heap.get? b=some u->h'.get? b=some u) (heo:∃ u,h'.get? e=some u)
  (new:zT X.prog X.w (QP H x o) h' x o):Inv X pins σ (QP H x o) { s with heap:=h',toks:=t' }:=I.un (Un.write mu he k heo) (I.hok.write mu he k heo new)
theorem Inv.pins_of {pins':List (Addr × Obj)} (I:Inv X pins σ H s) (h:∀ p ∈ pins',s.heap.get? p.1=some p.2 /\ H p.1=none /\ p.1 ≠ X.env.locals /\ p.1 ∉ X.fs /\ ∀ v,p.2.data ≠ .cell v):Inv X pins' σ H s :=
 ⟨I.ok,I.os,I.bare,I.base,I.loc,I.cell,I.free,I.freeC,fun p hp=>(List.mem_append.mp hp).elim (fun z=>I.pin p (List.mem_append_left _ z)) (h p),I.hok,I.len⟩
theorem t5 {N:List Str} (hN:N.Nodup) {i j:Nat} {x:Str} (a:N[i]? = some x) (b:N[j]? = some x):i=j:=by
 obtain ⟨h1,e1⟩:=List.getElem?_eq_some_iff.mp a
 obtain ⟨h2,e2⟩:=List.getElem?_eq_some_iff.mp b
 exact (List.getElem_inj hN).mp (e1.trans e2.symm)
theorem YT {M:Model} {A:Around} {E:QN} {i:Nat} {x:Str} {v:V} {u:Value} {Q:Unit->Shared->Prop} (I:Inv X pins σ H s) (hN:X.N.Nodup) (hi:X.N[i]? = some x) (hx:QV X.env.scope x) (r:zU v u)
  (h:∀ s',Inv X pins (σ.set i (some v)) H s' -> (∃ a,Heap.SameBut a s.heap s'.heap /\ (a=X.env.locals \/ X.env.cells.lookup x=some a))->Q () s') (hf:X.fn x=true \/ X.env.scope.names.lookup x=some .local :=by first | exact .inl rfl | exact .inr rfl | assumption):wpAny M A (storeName X.env x u) Q E s:=by
 obtain ⟨m,hn,hl⟩:=id I.loc
 have hcls:(X.env.scope.kind == .class || (X.env.scope.kind == .module && X.env.locals != X.env.globals))=false:=by rw [I.ok.kind]; rfl
 have hiσ:i < σ.length:=by rw [I.len]; exact (List.getElem?_eq_some_iff.mp hi).1
 have cne:=I.cne
 have tracked:∀ {a:Addr} {h':Heap},(∃ o,s.heap.get? a=some o /\ H a=none)->Heap.SameBut a s.heap h' -> QQ X.prog X.w H h':=fun {a h'} ha hs b ob e=>by
  obtain ⟨_,_,hfree⟩:=ha
  refine (I.hok b ob e).stay (fun c w' hc q=>(hs.2 c ?_).trans q) (fun _ q=>q) fun _ _ q=>q
  rintro rfl
  rcases hc with rfl | hc
  ·rw [hfree] at e; cases e
  ·rw [hfree] at hc; cases hc
 rcases hx with hk | hk
 ·refine wpAny_storeName_local hk hn (fun h' hn' hs=>?_) hcls
  obtain ⟨oL,_,_,hoL,_⟩:=id hn
  refine h _ ⟨I.ok,I.os,I.bare,⟨fun b o e n hb hx=>?_,fun b o e n hb hx=>?_,I.base.free,fun b o e hx=>?_,I.base.tups,I.base.frzs,I.base.tbls⟩,⟨_,hn',fun j y v' e1 e2 e3=>?_⟩,fun y c e=>?_,I.free,I.freeC,fun p hp=>?_,tracked ⟨oL,hoL,I.free⟩ hs,by simpa using I.len⟩ ⟨_,hs,.inl rfl⟩
  ·exact (hs.2 b (Nat.ne_of_lt (Nat.lt_of_lt_of_le (Heap.lt_size e) I.ok.above))).trans (I.base.keep b o e n hb hx)
  ·obtain ⟨sl,e1⟩:=I.base.slot b o e n hb hx
   exact ⟨sl,(hs.2 b (Nat.ne_of_lt (Nat.lt_of_lt_of_le (Heap.lt_size e) I.ok.above))).trans e1⟩
  ·obtain ⟨o',e1⟩:=I.base.there b o e hx
   exact ⟨o',(hs.2 b (Nat.ne_of_lt (Nat.lt_of_lt_of_le (Heap.lt_size e) I.ok.above))).trans e1⟩
  ·by_cases hj:j=i
   ·subst hj
    rw [hi] at e1; cases e1
    rw [List.getElem?_set_self hiσ] at e2
    cases e2
    exact ⟨u,r,.inl ⟨hk,by simp⟩⟩
   ·rw [List.getElem?_set_ne (Ne.symm hj)] at e2
    obtain ⟨u',r',q⟩:=hl j y v' e1 e2 e3
    refine ⟨u',r',?_⟩
    rcases q with ⟨k,e⟩ | ⟨k,c,e,z⟩
    ·refine .inl ⟨k,?_⟩
     have:y ≠ x:=fun e=>hj (t5 hN e1 (e ▸ hi))
     simp [this,e]
    ·exact .inr ⟨k,c,e,z.sameBut hs (cne y c e)⟩
  ·obtain ⟨w',z⟩:=I.cell y c e
   exact ⟨w',z.sameBut hs (cne y c e)⟩
  ·obtain ⟨e,n,ne,nf,d⟩:=I.pin p hp
   exact ⟨(hs.2 p.1 ne).trans e,n,ne,nf,d⟩
 ·have hfn:X.fn x=true:=by
   rcases hf with z | z
   ·exact z
   ·rw [z] at hk; cases hk
  obtain ⟨c,hc⟩:=I.ok.has x (.inl hk)
  obtain ⟨w',z⟩:=I.cell x c hc
  refine wpAny_storeName_cell I.ok.kind hk hc z (fun h' hc' hs=>?_)
  obtain ⟨oc,hoc,hocd⟩:=id z
  refine h { s with heap:=h' } ⟨I.ok,I.os,I.bare,⟨fun b o e n hb hx=>?_,fun b o e n hb hx=>?_,I.base.free,fun b o e hx=>?_,I.base.tups,I.base.frzs,I.base.tbls⟩,⟨m,hn.sameBut hs (Ne.symm (cne x c hc)),fun j y v' e1 e2 e3=>?_⟩,fun y c' e=>?_,I.free,I.freeC,fun p hp=>?_,tracked ⟨oc,hoc,I.freeC x c hc⟩ hs,by simpa using I.len⟩ ⟨c,hs,.inr hc⟩
  ·exact (hs.2 b (Nat.ne_of_lt (Nat.lt_of_lt_of_le (Heap.lt_size e) (I.ok.cab x c hfn hc)))).trans (I.base.keep b o e n hb hx)
  ·obtain ⟨sl,e1⟩:=I.base.slot b o e n hb hx
   exact ⟨sl,(hs.2 b (Nat.ne_of_lt (Nat.lt_of_lt_of_le (Heap.lt_size e) (I.ok.cab x c hfn hc)))).trans e1⟩
  ·obtain ⟨o',e1⟩:=I.base.there b o e hx
   exact ⟨o',(hs.2 b (Nat.ne_of_lt (Nat.lt_of_lt_of_le (Heap.lt_size e) (I.ok.cab x c hfn hc)))).trans e1⟩
  ·by_cases hj:j=i
   ·subst hj
    rw [hi] at e1; cases e1
    rw [List.getElem?_set_self hiσ] at e2
    cases e2
    exact ⟨u,r,.inr ⟨.inl hk,c,hc,hc'⟩⟩
   ·rw [List.getElem?_set_ne (Ne.symm hj)] at e2
    obtain ⟨u',r',q⟩:=hl j y v' e1 e2 e3
    refine ⟨u',r',?_⟩
    rcases q with q | ⟨k,c',e,z'⟩
    ·exact .inl q
    ·refine .inr ⟨k,c',e,z'.sameBut hs ?_⟩
     rintro rfl
     exact hj (t5 hN e1 (I.ok.inj _ _ _ e hc ▸ hi))
  ·by_cases hcc:c' = c
   ·subst hcc; exact ⟨_,hc'⟩
   ·obtain ⟨w2,z2⟩:=I.cell y c' e
    exact ⟨w2,z2.sameBut hs hcc⟩
  ·obtain ⟨e,n,ne,nf,d⟩:=I.pin p hp
   refine ⟨(hs.2 p.1 ?_).trans e,n,ne,nf,d⟩
   intro q
   rw [q,hoc] at e
   have q':oc=p.2:=Option.some.inj e
   exact d w' (by rw [← q']; exact hocd)
theorem wd {M:Model} {A:Around} {E:QN} {i:Nat} {x:Str} {v:V} {u:Value} {Q:Unit->Shared->Prop} (I:Inv X pins σ H s) (hN:X.N.Nodup) (hi:X.N[i]? = some x) (hx:QV X.env.scope x) (r:zU v u)
  (h:∀ s',Inv X pins (σ.set i (some v)) H s' -> Q () s') (hf:X.fn x=true \/ X.env.scope.names.lookup x=some .local :=by first | exact .inl rfl | exact .inr rfl | assumption):wpAny M A (storeName X.env x u) Q E s :=
 YT I hN hi hx r (fun s' I' _=>h s' I') hf
theorem Inv.call' {s':Shared} {ch:List Addr} (I:Inv X pins σ H s) (ho:s'.os=s.os) (u:Un (QT X.stack) ch H H' s.heap s'.heap) (hok:QQ X.prog X.w H' s'.heap) (hg:AllBare s'.gens)
  (hch:∀ b ∈ ch,(b ∈ X.ex \/ X.s₀.heap.objs.size<=b) /\ b ≠ X.env.locals /\ (∀ x c,X.env.cells.lookup x=some c->c ≠ b) /\ ∀ p ∈ X.pn ++ pins,p.1 ≠ b):Inv X pins σ H' s':=by
 obtain ⟨h',g',d',t',o'⟩:=s'
 have e:o' = s.os:=ho
 subst e
 exact I.call (g':=g') (t':=t') (d':=d') u hok hg hch
end
abbrev XK:=Value->Option Addr->Hp->Prop
abbrev St:=List (Option V)
abbrev VK:=V->Hp->Prop
abbrev TE:=St->Hp->VK->Prop
abbrev TT:=St->Hp->(Bool->Hp->Prop)->Prop
abbrev TA:=St->Hp->(List V->Hp->Prop)->Prop
structure Ends where
 nx:St->Hp->Prop
 rt:VK
 bk:St->Hp->Prop:=fun _ _=>False
 ct:St->Hp->Prop:=fun _ _=>False
abbrev TS:=Ends->St->Hp->Prop
def EP (X:Cx) (pins:List (Addr × Obj)) (σ:St) (Q:VK) (u:Value) (s':Shared):Prop:=∃ v H',Inv X pins σ H' s' /\ zU v u /\ Q v H'
def TP (X:Cx) (pins:List (Addr × Obj)) (σ:St) (Q:Bool->Hp->Prop) (b:Bool) (s':Shared):Prop:=∃ H',Inv X pins σ H' s' /\ Q b H'
def AP (X:Cx) (pins:List (Addr × Obj)) (σ:St) (Q:List V->Hp->Prop) (us:List Value) (s':Shared):Prop:=∃ vs H',Inv X pins σ H' s' /\ zP vs us /\ Q vs H'
def SP (X:Cx) (pins:List (Addr × Obj)) (D:Ends) (f:Flow) (s':Shared):Prop :=
 match f with
 | .next=>∃ σ' H',Inv X pins σ' H' s' /\ D.nx σ' H'
 | .brk=>∃ σ' H',Inv X pins σ' H' s' /\ D.bk σ' H'
 | .cont=>∃ σ' H',Inv X pins σ' H' s' /\ D.ct σ' H'
 | .ret u=>∃ v σ' H',Inv X pins σ' H' s' /\ zU v u /\ D.rt v H'
def PE (X:Cx) (e:Expr) (t:TE):Prop :=
 ∀ (pins:List (Addr × Obj)) (s:Shared) (σ:St) (H:Hp) (Q:VK),Inv X pins σ H s->t σ H Q->wpAny (model X.prog X.w) X.A (eval e X.env) (EP X pins σ Q) X.xe s
def PT (X:Cx) (e:Expr) (t:TT):Prop :=
 ∀ (pins:List (Addr × Obj)) (s:Shared) (σ:St) (H:Hp) (Q:Bool->Hp->Prop),Inv X pins σ H s->t σ H Q->wpAny (model X.prog X.w) X.A (isTrue e X.env (eval e X.env)) (TP X pins σ Q) X.xe s
def PW (X:Cx) (e:Expr) (t:TT):Prop :=
 ∀ (whole:Sem Value) (pins:List (Addr × Obj)) (s:Shared) (σ:St) (H:Hp) (Q:Bool->Hp->Prop),Inv X pins σ H s->t σ H Q->wpAny (model X.prog X.w) X.A (isTrue e X.env whole) (TP X pins σ Q) X.xe s
theorem PW.pt {X:Cx} {e:Expr} {t:TT} (h:PW X e t):PT X e t:=h _
def PA (X:Cx) (es:List Expr) (t:TA):Prop :=
 ∀ (pos:Pos) (pins:List (Addr × Obj)) (s:Shared) (σ:St) (H:Hp) (Q:List V->Hp->Prop),Inv X pins σ H s->t σ H Q->wpAny (model X.prog X.w) X.A (spliced (backTo pos (starEach es X.env))) (AP X pins σ Q) X.xe s
def PS (X:Cx) (st:Stmt) (t:TS):Prop :=
 ∀ (pins:List (Addr × Obj)) (s:Shared) (σ:St) (H:Hp) (D:Ends),Inv X pins σ H s->t D σ H->wpAny (model X.prog X.w) X.A (exec st X.env) (SP X pins D) X.xe s
def QW (X:Cx) (st:List Stmt) (t:TS):Prop :=
 ∀ (pins:List (Addr × Obj)) (s:Shared) (σ:St) (H:Hp) (D:Ends),Inv X pins σ H s->t D σ H->wpAny (model X.prog X.w) X.A (execs st X.env) (SP X pins D) X.xe s
theorem QX {α:Type} {t:Sem α} {Q Q':α -> Shared->Prop} {M:Model} {A:Around} {E:QN} {s:Shared} (h:wpAny M A t Q E s) (hQ:∀ a s,Q a s->Q' a s):wpAny M A t Q' E s:=wpAny_mono h hQ fun _ _ x=>x
end L2
namespace L2
open PySem PySem.Spec PyProof.Rows
section
variable {X:Cx}
def Rl (i:Nat):TE:=fun σ H Q=>∃ v,σ[i]? = some (some v) /\ Q v H
def tC (v:V):TE:=fun _ H Q=>Q v H
theorem T1 {i:Nat} {x:Str} {pos:Pos} (hN:X.N[i]? = some x) (hv:QU X.env.scope x) (hd:(x == ("__debug__":Str))=false:=by decide) (hcd:(x == ("__classdict__":Str))=false:=by decide):PE X (.Name x pos) (Rl i):=by
 intro pins s σ H Q I h
 obtain ⟨v,e,h⟩:=h
 obtain ⟨m,hn,hl⟩:=I.loc
 obtain ⟨u,r,l⟩:=hl i x v hN e hv
 have fin:EP X pins σ Q u s:=⟨v,H,I,r,h⟩
 rcases l with ⟨hk,hm⟩ | ⟨hk,c,hc,hcell⟩
 ·exact wpAny_Name (wpAny_loadName_local I.ok.kind hk hn hm fin) hd
 ·rcases hk with hk | hk
  ·exact wpAny_Name (wpAny_loadName_cell I.ok.kind hk hc hcell fin) hd
  ·exact wpAny_Name (wpAny_loadName_free I.ok.kind hk hc hcell fin hcd) hd
theorem zh {i j pos}:PE X (.Constant (.int i) j pos) (tC (.int i)):=fun _ _ _ H _ I h=>wpAny_Constant_int ⟨.int i,H,I.tok _,⟨_,rfl⟩,h⟩
theorem yr {b j pos}:PE X (.Constant (.bool b) j pos) (tC (.bl b)):=fun _ _ _ H _ I h=>Constant_bool ⟨.bl b,H,I,rfl,h⟩
theorem wJ {j pos}:PE X (.Constant .none j pos) (tC .non):=fun _ _ _ H _ I h=>Constant_none ⟨.non,H,I,rfl,h⟩
theorem YU {x j pos}:PE X (.Constant (.str x) j pos) (tC (.str x)):=fun _ _ _ H _ I h=>Calls.Constant_str ⟨.str x,H,I.tok _,⟨_,rfl⟩,h⟩
def Gl (X:Cx) (x:Str):Prop:=X.env.kindOf x=some .globalImplicit
theorem ua {E:QN} {pins:List (Addr × Obj)} {s:Shared} {σ:St} {H:Hp} {x:Str} {u:Value} {pos:Pos} {Q:QN} (I:Inv X pins σ H s) (hg:Gl X x) (hm:X.mg x=some u) (h:Q u s)
  (hd:(x == ("__debug__":Str))=false:=by decide):wpAny (model X.prog X.w) X.A (eval (.Name x pos) X.env) Q E s :=
 Calls.Name_function_global I.ok.kind hg (Calls.loadGlobal_global (by rw [I.ok.glob]; exact I.mod.glob.keeps I.bk) hm h) hd
theorem wv {E:QN} {pins:List (Addr × Obj)} {s:Shared} {σ:St} {H:Hp} {x:Str} {u:Value} {pos:Pos} {Q:QN} (I:Inv X pins σ H s) (hg:Gl X x) (hm:X.mg x=none) (hv:bootBuiltins x=some u) (h:Q u s)
  (hn:x ≠ "__name__":=by decide) (hd:(x == ("__debug__":Str))=false:=by decide):wpAny (model X.prog X.w) X.A (eval (.Name x pos) X.env) Q E s:=by
 obtain ⟨mb,h1,h2⟩:=I.mod.blt
 exact Calls.Name_function_global I.ok.kind hg (Calls.loadGlobal_builtin (by rw [I.ok.glob]; exact I.mod.glob.keeps I.bk) hm (by rw [I.ok.blt]; exact h1.keeps I.bk) ((h2 x hn).trans hv) h) hd
theorem xw {x:Str} {v:V} {u:Value} {pos:Pos} (hg:Gl X x) (hm:X.mg x=some u) (r:zU v u) (hd:(x == ("__debug__":Str))=false:=by decide):PE X (.Name x pos) (tC v) :=
 fun _ _ _ H _ I h=>ua I hg hm ⟨v,H,I,r,h⟩ hd
theorem UX {x:Str} {v:V} {u:Value} {pos:Pos} (hg:Gl X x) (hm:X.mg x=none) (hv:bootBuiltins x=some u) (r:zU v u) (hn:x ≠ "__name__":=by decide) (hd:(x == ("__debug__":Str))=false:=by decide):PE X (.Name x pos) (tC v) :=
 fun _ _ _ H _ I h=>wv I hg hm hv ⟨v,H,I,r,h⟩ hn hd
variable {a b:Expr} {ta tb:TE} {pos:Pos}
def PC (X:Cx) (op:CmpOp) (a b:Expr) (t:TE):Prop :=
 ∀ (pins:List (Addr × Obj)) (s:Shared) (σ:St) (H:Hp) (Q:VK),Inv X pins σ H s->t σ H Q →
  wpAny (model X.prog X.w) X.A (eval a X.env) (fun v s₁=>wpAny (model X.prog X.w) X.A (eval b X.env) (fun u s₂=>wpAny (model X.prog X.w) X.A (compareOp op v u) (EP X pins σ Q) X.xe s₂) X.xe s₁) X.xe s
theorem jP (b:Expr) {op:CmpOp} (h:op ≠ .In) (h2:op ≠ .NotIn):behindInMarks op b=false:=by
 have e1:(op == CmpOp.In)=false:=by cases op <;> first | rfl | exact absurd rfl h
 have e2:(op == CmpOp.NotIn)=false:=by cases op <;> first | rfl | exact absurd rfl h2
 cases b <;> simp [behindInMarks,e1,e2]
def Qk (ta:TE):TE:=fun σ H Q=>ta σ H fun x H1=>Q (.bl (decide (x = .non))) H1
def Rm (ta:TE):TE:=fun σ H Q=>ta σ H fun x H1=>Q (.bl (!decide (x = .non))) H1
theorem zU.none_iff {x:V} {v:Value} (r:zU x v):(v == Value.none)=decide (x = .non):=by
 cases x with
 | non=>cases r; rfl
 | bl _=>cases r; rfl
 | int _=>obtain ⟨t,rfl⟩:=r; rfl
 | str _=>obtain ⟨t,rfl⟩:=r; rfl
 | byt _=>obtain ⟨t,rfl⟩:=r; rfl
 | flt _=>obtain ⟨t,rfl⟩:=r; rfl
 | ref _=>cases r; rfl
 | ty _=>cases r; rfl
theorem jQ {j pos'} (ha:PE X a ta):PC X .Is a (.Constant .none j pos') (Qk ta):=by
 intro pins s σ H Q I h
 refine QX (ha pins s σ H _ I h) fun v s1 ⟨x,H1,I1,r1,q1⟩=>?_
 exact Constant_none (is_none_gen ⟨.bl _,H1,I1,by rw [r1.none_iff]; rfl,q1⟩)
theorem t9 {j pos'} (ha:PE X a ta):PC X .IsNot a (.Constant .none j pos') (Rm ta):=by
 intro pins s σ H Q I h
 refine QX (ha pins s σ H _ I h) fun v s1 ⟨x,H1,I1,r1,q1⟩=>?_
 exact Constant_none (isnot_none_gen ⟨.bl _,H1,I1,by rw [r1.none_iff]; rfl,q1⟩)
def tB (t:TE):TT:=fun σ H Q=>t σ H fun x H1=>∃ c,x = .bl c /\ Q c H1
theorem Uw {op:CmpOp} {t:TE} (h:PC X op a b t) (h1:behindInMarks op b=false:=by first | exact jP _ (by decide) (by decide) | rfl):PE X (.Compare a [op] [b] pos) t:=fun pins s σ H Q I hw=>wpAny_Compare1 (h pins s σ H Q I hw) h1
theorem ub {op:CmpOp} {t:TE} (h:PC X op a b t) (h1:behindInMarks op b=false:=by first | exact jP _ (by decide) (by decide) | rfl):PT X (.Compare a [op] [b] pos) (tB t):=by
 intro pins s σ H Q I hw
 refine wpAny_isTrue_Compare1 (QX (h pins s σ H _ I hw) fun v s1 h1=>QX h1 fun u s2 h2=>QX h2 fun c s3 ⟨x,H1,I1,r1,q1⟩=>?_) h1
 obtain ⟨d,rfl,q⟩:=q1
 cases r1
 exact wpAny_truthy_bool ⟨H1,I1,q⟩
theorem z7 {e:Expr} {t:TE} (h:PE X e t) (he:∀ whole,isTrue e X.env whole=(do let v ← whole; standAt e.pos; holding [v] (truthy v)):=by intro _; rfl):PT X e (tB t):=by
 intro pins s σ H Q I hw
 refine isTrue_plain (QX (h pins s σ H _ I hw) fun v s1 ⟨x,H1,I1,r1,q1⟩=>?_) (he _)
 obtain ⟨d,rfl,q⟩:=q1
 cases r1
 exact wpAny_truthy_bool ⟨H1,I1,q⟩
variable {tA tB':TT} {rest:List Expr}
def Ql (t u:TT):TT:=fun σ H Q=>t σ H fun c H1=>if c=true then u σ H1 Q else Q false H1
def QY (t u:TT):TT:=fun σ H Q=>t σ H fun c H1=>if c=true then Q true H1 else u σ H1 Q
def Qm (t:TT):TT:=fun σ H Q=>t σ H fun c H1=>Q (!c) H1
theorem xP (ha:PT X a tA):PW X (.BoolOp .And [a] pos) tA:=by
 intro wh pins s σ H Q I h
 refine isTrue_and (QX (ha pins s σ H Q I h) fun c s1 e=>?_)
 cases c with
 | true=>exact isTrue_and_nil e
 | false=>exact e
theorem xQ (ha:PT X a tA):PW X (.BoolOp .Or [a] pos) tA:=by
 intro wh pins s σ H Q I h
 refine isTrue_or (QX (ha pins s σ H Q I h) fun c s1 e=>?_)
 cases c with
 | false=>exact isTrue_or_nil e
 | true=>exact e
theorem wK (ha:PT X a tA) (hb:PW X (.BoolOp .And (b :: rest) pos) tB'):PW X (.BoolOp .And (a :: b :: rest) pos) (Ql tA tB'):=by
 intro wh pins s σ H Q I h
 refine isTrue_and (QX (ha pins s σ H _ I h) fun c s1 ⟨H1,I1,q1⟩=>?_)
 cases c with
 | true=>exact hb wh pins s1 σ H1 Q I1 q1
 | false=>exact ⟨H1,I1,q1⟩
theorem vT (ha:PT X a tA) (hb:PW X (.BoolOp .Or (b :: rest) pos) tB'):PW X (.BoolOp .Or (a :: b :: rest) pos) (QY tA tB'):=by
 intro wh pins s σ H Q I h
 refine isTrue_or (QX (ha pins s σ H _ I h) fun c s1 ⟨H1,I1,q1⟩=>?_)
 cases c with
 | true=>exact ⟨H1,I1,q1⟩
 | false=>exact hb wh pins s1 σ H1 Q I1 q1
theorem yG (ha:PT X a tA):PT X (.UnaryOp .Not a pos) (Qm tA):=by
 intro pins s σ H Q I h
 exact isTrue_not (ha pins s σ H (fun c H1=>Q (!c) H1) I h)
def Rn (ta tb:TE):TE:=fun σ H Q=>ta σ H fun x H1=>∃ c,x = .bl c /\ if c=true then tb σ H1 Q else Q (.bl false) H1
def Qn (ta tb:TE):TE:=fun σ H Q=>ta σ H fun x H1=>∃ c,x = .bl c /\ if c=true then Q (.bl true) H1 else tb σ H1 Q
def Ro (ta:TE):TE:=fun σ H Q=>ta σ H fun x H1=>∃ c,x = .bl c /\ Q (.bl (!c)) H1
theorem xR {op} {t:TE} (h:PE X a t):PE X (.BoolOp op [a] pos) t:=fun pins s σ H Q I hw=>BoolOp_one (h pins s σ H Q I hw)
theorem xS (ha:PE X a ta) (hb:PE X (.BoolOp .And (b :: rest) pos) tb):PE X (.BoolOp .And (a :: b :: rest) pos) (Rn ta tb):=by
 intro pins s σ H Q I h
 refine BoolOp_and (QX (ha pins s σ H _ I h) fun v s1 ⟨x,H1,I1,r1,q1⟩=>?_)
 obtain ⟨c,rfl,q1⟩:=q1
 cases r1
 refine wpAny_truthy_bool ?_
 cases c with
 | true=>exact hb pins s1 σ H1 Q I1 q1
 | false=>exact ⟨.bl false,H1,I1,rfl,q1⟩
theorem UY (ha:PE X a ta) (hb:PE X (.BoolOp .Or (b :: rest) pos) tb):PE X (.BoolOp .Or (a :: b :: rest) pos) (Qn ta tb):=by
 intro pins s σ H Q I h
 refine BoolOp_or (QX (ha pins s σ H _ I h) fun v s1 ⟨x,H1,I1,r1,q1⟩=>?_)
 obtain ⟨c,rfl,q1⟩:=q1
 cases r1
 refine wpAny_truthy_bool ?_
 cases c with
 | false=>exact hb pins s1 σ H1 Q I1 q1
 | true=>exact ⟨.bl true,H1,I1,rfl,q1⟩
theorem uc (ha:PE X a ta):PE X (.UnaryOp .Not a pos) (Ro ta):=by
 intro pins s σ H Q I h
 refine UnaryOp_ (QX (ha pins s σ H _ I h) fun v s1 ⟨x,H1,I1,r1,q1⟩=>?_)
 obtain ⟨c,rfl,q1⟩:=q1
 cases r1
 exact not_of (wpAny_truthy_bool ⟨.bl (!c),H1,I1,rfl,q1⟩)
def QZ (t:TT) (ta tb:TE):TE:=fun σ H Q=>t σ H fun c H1=>if c=true then ta σ H1 Q else tb σ H1 Q
theorem Ve {c:Expr} (hc:PT X c tA) (ha:PE X a ta) (hb:PE X b tb):PE X (.IfExp c a b pos) (QZ tA ta tb):=by
 intro pins s σ H Q I h
 refine wpAny_IfExp (QX (hc pins s σ H _ I h) fun d s1 ⟨H1,I1,q1⟩=>?_)
 cases d with
 | true=>exact ha pins s1 σ H1 Q I1 q1
 | false=>exact hb pins s1 σ H1 Q I1 q1
end
end L2
namespace L2
open PySem PySem.Spec PyProof.Rows
def Q0 (K:QM) (H:Hp) (a:Addr) (xs:List V):Prop :=
 Rd H a (.lst xs) ∨
  ∃ (o:Obj) (its:Array Value) (n:Nat),K.lookup a=some o /\ o.cls = .type "list" /\ o.dict=none /\ o.data = .seq its n /\ its.size<=sizeLine /\ zP xs its.toList
def Q1 (K:QM) (H:Hp) (a:Addr) (xs:List V):Prop :=
 Rd H a (.tup xs) ∨
  ∃ (o:Obj) (its:Array Value) (n:Nat),K.lookup a=some o /\ o.cls = .type "tuple" /\ o.data = .seq its n /\ its.size<=sizeLine /\ zP xs its.toList
def Qo:Value->Option V
 | .none=>some .non
 | .bool b=>some (.bl b)
 | .int i _=>some (.int i)
 | .str x _=>some (.str x)
 | .bytes b _=>some (.byt b)
 | .float b _=>some (.flt b)
 | .ref a=>some (.ref a)
 | .type n=>some (.ty n)
 | _=>none
theorem zU.abs {x:V} {u:Value} (r:zU x u):Qo u=some x:=by
 cases x with
 | non=>cases r; rfl
 | bl _=>cases r; rfl
 | int _=>obtain ⟨t,rfl⟩:=r; rfl
 | str _=>obtain ⟨t,rfl⟩:=r; rfl
 | byt _=>obtain ⟨t,rfl⟩:=r; rfl
 | flt _=>obtain ⟨t,rfl⟩:=r; rfl
 | ref _=>cases r; rfl
 | ty _=>cases r; rfl
theorem zU.inj {x y:V} {u:Value} (r:zU x u) (q:zU y u):x=y:=Option.some.inj (r.abs.symm.trans q.abs)
theorem zP.inj:∀ {xs ys:List V} {us:List Value},zP xs us->zP ys us->xs=ys
 | _,_,_,.nil,.nil=>rfl
 | _,_,_,.cons r t,.cons r' t'=>by rw [r.inj r',zP.inj t t']
section
variable {X:Cx} {pins:List (Addr × Obj)} {σ:St} {H:Hp} {s:Shared} {a:Addr} {xs ys:List V}
theorem Q0.of {K:QM} (h:H a=some (.lst xs)):Q0 K H a xs:=.inl (.inl h)
theorem Q1.of {K:QM} (h:H a=some (.tup xs)):Q1 K H a xs:=.inl (.inl h)
theorem Inv.list (I:Inv X pins σ H s) (h:Q0 X.K H a xs):∃ its:List Value,zP xs its /\ PlainL s.heap a its.toArray /\ xs.length<=sizeLine:=by
 rcases h with h | ⟨o,its,n,hk,hc,hd,hs,hz,r⟩
 ·obtain ⟨z,its,n,r,e⟩:=h.ok I.hok
  exact ⟨its,r,⟨_,n,e,rfl,rfl,rfl⟩,z⟩
 ·refine ⟨its.toList,r,⟨o,n,I.kIn a o hk,hc,hd,by simpa using hs⟩,?_⟩
  have e:=r.length
  simp only [Array.length_toList] at e
  omega
theorem Inv.tuple (I:Inv X pins σ H s) (h:Q1 X.K H a xs):∃ its:List Value,zP xs its /\ IsTup s.heap a its.toArray /\ xs.length<=sizeLine:=by
 rcases h with h | ⟨o,its,n,hk,hc,hs,hz,r⟩
 ·obtain ⟨z,its,r,p⟩:=h.ok I.hok
  exact ⟨its,r,p,z⟩
 ·refine ⟨its.toList,r,⟨o,I.kIn a o hk,hc,n,by simpa using hs⟩,?_⟩
  have e:=r.length
  simp only [Array.length_toList] at e
  omega
theorem Inv.list_inj (I:Inv X pins σ H s) (h:Q0 X.K H a xs) (h':Q0 X.K H a ys):xs=ys:=by
 obtain ⟨its,r,⟨o,n,e,_,_,d⟩,_⟩:=I.list h
 obtain ⟨its',r',⟨o',n',e',_,_,d'⟩,_⟩:=I.list h'
 rw [e] at e'; cases e'
 rw [d] at d'
 injection d' with d1 _
 have:its=its':=by simpa using congrArg Array.toList d1
 subst this
 exact r.inj r'
theorem Inv.tuple_inj (I:Inv X pins σ H s) (h:Q1 X.K H a xs) (h':Q1 X.K H a ys):xs=ys:=by
 obtain ⟨its,r,⟨o,e,_,n,d⟩,_⟩:=I.tuple h
 obtain ⟨its',r',⟨o',e',_,n',d'⟩,_⟩:=I.tuple h'
 rw [e] at e'; cases e'
 rw [d] at d'
 injection d' with d1 _
 have:its=its':=by simpa using congrArg Array.toList d1
 subst this
 exact r.inj r'
end
abbrev Cx.wish (X:Cx) (E:QN):Cx:={ X with xe:=E }
abbrev Cx.nox (X:Cx):Cx:=X.wish fun _ _=>False
theorem Cx.Ok.wish {X:Cx} (ok:X.Ok) (E:QN):(X.wish E).Ok :=
 ⟨ok.mod,ok.kind,ok.glob,ok.blt,ok.above,ok.inj,ok.has,ok.cab,ok.hd,ok.frames,ok.stk,ok.exf,ok.bs,ok.bsz,ok.noex,ok.exfs,ok.funs,ok.frf⟩
theorem Cx.Ok.unwish {X:Cx} {E:QN} (ok:(X.wish E).Ok):X.Ok :=
 ⟨ok.mod,ok.kind,ok.glob,ok.blt,ok.above,ok.inj,ok.has,ok.cab,ok.hd,ok.frames,ok.stk,ok.exf,ok.bs,ok.bsz,ok.noex,ok.exfs,ok.funs,ok.frf⟩
section
variable {X:Cx} {pins:List (Addr × Obj)} {σ:St} {H:Hp} {s:Shared} {E:QN}
theorem Inv.wish (I:Inv X pins σ H s) (E:QN):Inv (X.wish E) pins σ H s:=⟨I.ok.wish E,I.os,I.bare,I.base,I.loc,I.cell,I.free,I.freeC,I.pin,I.hok,I.len⟩
theorem Inv.unwish (I:Inv (X.wish E) pins σ H s):Inv X pins σ H s:=⟨I.ok.unwish,I.os,I.bare,I.base,I.loc,I.cell,I.free,I.freeC,I.pin,I.hok,I.len⟩
theorem SP.unwish {D:Ends} {f:Flow} {s':Shared} (h:SP (X.wish E) pins D f s'):SP X pins D f s':=by
 cases f with
 | next=>obtain ⟨σ',H',I,q⟩:=h; exact ⟨σ',H',I.unwish,q⟩
 | brk=>obtain ⟨σ',H',I,q⟩:=h; exact ⟨σ',H',I.unwish,q⟩
 | cont=>obtain ⟨σ',H',I,q⟩:=h; exact ⟨σ',H',I.unwish,q⟩
 | ret u=>obtain ⟨v,σ',H',I,r,q⟩:=h; exact ⟨v,σ',H',I.unwish,r,q⟩
theorem QW.nox {st:List Stmt} {t:TS} (h:QW X.nox st t):QW X st t:=fun pins s σ H D I hw =>
 wpAny_mono (h pins s σ H D (I.wish _) hw) (fun _ _ q=>q.unwish) fun _ _ z=>False.elim z
end
section
variable {X:Cx} {st:Stmt} {rest:List Stmt} {t u:TS} {e:Expr} {te:TE} {pos:Pos}
def T3:TS:=fun D σ H=>D.nx σ H
def Rb (t u:TS):TS:=fun D σ H=>t { D with nx:=u D } σ H
theorem zu:QW X [] T3:=fun _ _ σ H _ I h=>wpAny_execs_nil ⟨σ,H,I,h⟩
theorem ze (h1:PS X st t) (h2:QW X rest u):QW X (st :: rest) (Rb t u):=by
 intro pins s σ H D I h
 refine wpAny_execs_cons (QX (h1 pins s σ H { D with nx:=u D } I h) fun f s1 q=>?_)
 cases f with
 | next =>
  obtain ⟨σ',H',I',q⟩:=q
  exact h2 pins s1 σ' H' D I' q
 | ret v=>exact q
 | brk=>exact q
 | cont=>exact q
theorem zf (h1:PS X st t):QW X [st] t:=by
 intro pins s σ H D I h
 refine wpAny_execs_cons (QX (h1 pins s σ H D I h) fun f s1 q=>?_)
 cases f with
 | next=>exact wpAny_execs_nil q
 | ret v=>exact q
 | brk=>exact q
 | cont=>exact q
theorem Inv.quiet {pins:List (Addr × Obj)} {σ:St} {H:Hp} {s:Shared} (I:Inv X pins σ H s):interactive X.env=false:=by simp [interactive,I.ok.kind]
def Rp (te:TE):TS:=fun D σ H=>te σ H fun _ H1=>D.nx σ H1
theorem vn (he:PE X e te) (hs:swapsWith e none pos.line X.env=pure false:=by rfl):PS X (.Expr e pos) (Rp te):=by
 intro pins s σ H D I h
 exact wpAny_Expr_any (QX (he pins s σ H _ I h) fun v s1 ⟨x,H1,I1,r1,q1⟩=>⟨σ,H1,I1,q1⟩) I.quiet hs
def Qp (te:TE):TS:=fun D σ H=>te σ H D.rt
theorem zr (he:PE X e te):PS X (.Return (some e) pos) (Qp te):=by
 intro pins s σ H D I h
 exact wpAny_Return_some (QX (he pins s σ H _ I h) fun v s1 ⟨x,H1,I1,r1,q1⟩=>⟨x,σ,H1,I1,r1,q1⟩)
def TQ (c:TT) (t u:TS):TS:=fun D σ H=>c σ H fun b H1=>if b=true then t D σ H1 else u D σ H1
theorem zQ {c:Expr} {a b:List Stmt} {tc:TT} (hc:PT X c tc) (ha:QW X a t) (hb:QW X b u):PS X (.If c a b pos) (TQ tc t u):=by
 intro pins s σ H D I h
 refine wpAny_If (QX (hc pins s σ H _ I h) fun d s1 ⟨H1,I1,q1⟩=>?_)
 cases d with
 | true=>exact ha pins s1 σ H1 D I1 q1
 | false=>exact hb pins s1 σ H1 D I1 q1
def T5:TS:=fun _ _ _=>False
theorem jR:PS X st T5:=fun _ _ _ _ _ _ h=>h.elim
end
abbrev TG:=V->St->Hp->(St->Hp->Prop)->Prop
abbrev Q2:=List V->St->Hp->(St->Hp->Prop)->Prop
def PG (X:Cx) (target:Expr) (t:TG):Prop :=
 ∀ (pins:List (Addr × Obj)) (s:Shared) (σ:St) (H:Hp) (v:V) (u:Value) (Q:St->Hp->Prop),Inv X pins σ H s->zU v u->t v σ H Q →
  wpAny (model X.prog X.w) X.A (assign target X.env u) (fun _ s'=>∃ σ' H',Inv X pins σ' H' s' /\ Q σ' H') X.xe s
def Q3 (X:Cx) (ts:List Expr) (t:Q2):Prop :=
 ∀ (pins:List (Addr × Obj)) (s:Shared) (σ:St) (H:Hp) (vs:List V) (us:List Value) (Q:St->Hp->Prop),Inv X pins σ H s->zP vs us->t vs σ H Q →
  wpAny (model X.prog X.w) X.A (assignInOrder ((assignEach ts X.env).map (·.2)) us) (fun _ s'=>∃ σ' H',Inv X pins σ' H' s' /\ Q σ' H') X.xe s
abbrev Rq:=V->V->V->Hp->(Hp->Prop)->Prop
def R3 (X:Cx) (t:Rq):Prop :=
 ∀ (pins:List (Addr × Obj)) (s:Shared) (σ:St) (H:Hp) (o i v:V) (ov iv u:Value) (Q:Hp->Prop),Inv X pins σ H s->zU o ov->zU i iv->zU v u->t o i v H Q →
  wpAny (model X.prog X.w) X.A (setItem ov iv u) (fun _ s'=>∃ H',Inv X pins σ H' s' /\ Q H') X.xe s
section
variable {X:Cx} {pos:Pos}
def wL (i:Nat):TG:=fun v σ H Q=>Q (σ.set i (some v)) H
theorem zj {i:Nat} {x:Str} (hN:X.N.Nodup) (hi:X.N[i]? = some x) (hx:QV X.env.scope x) (hf:X.fn x=true \/ X.env.scope.names.lookup x=some .local :=by first | exact .inl rfl | exact .inr rfl | assumption):PG X (.Name x pos) (wL i):=by
 intro pins s σ H v u Q I r h
 exact wpAny_assign_Name (wd I hN hi hx r (fun s' I'=>⟨_,H,I',h⟩) hf)
def Qq:Q2:=fun vs σ H Q=>vs=[] /\ Q σ H
def Rr (t:TG) (u:Q2):Q2:=fun vs σ H Q=>∃ v r,vs=v :: r /\ t v σ H fun σ' H'=>u r σ' H' Q
theorem z8:Q3 X [] Qq:=by
 intro pins s σ H vs us Q I r h
 obtain ⟨e,h⟩:=h
 subst e
 cases r
 exact assignInOrder_nil ⟨σ,H,I,h⟩
theorem zo {e:Expr} {es:List Expr} {t:TG} {u:Q2} (h1:PG X e t) (h2:Q3 X es u)
  (hs:(assignEach (e :: es) X.env).map (·.2)=assign e X.env :: (assignEach es X.env).map (·.2):=by rfl):Q3 X (e :: es) (Rr t u):=by
 intro pins s σ H vs us Q I r h
 obtain ⟨v,vr,e1,h⟩:=h
 subst e1
 cases r with
 | cons r rr =>
  rw [hs]
  refine assignInOrder_cons (QX (h1 pins s σ H _ _ _ I r h) fun _ s1 ⟨σ1,H1,I1,q1⟩=>?_)
  exact h2 pins s1 σ1 H1 _ _ Q I1 rr q1
def R4 (K:QM) (n:Nat) (t:Q2):TG:=fun v σ H Q=>∃ a xs,v = .ref a /\ Q1 K H a xs /\ xs.length=n /\ t xs σ H Q
theorem yH {es:List Expr} {k:Nat} {t:Q2} {n:Nat} (hc:X.calm=true) (h:Q3 X es t)
  (hn:(assignEach es X.env).length=n:=by rfl) (hst:(assignEach es X.env).findIdx? (·.1)=none:=by rfl):PG X (.Tuple es k pos) (R4 X.K n t):=by
 intro pins s σ H v u Q I r hw
 obtain ⟨a,xs,e1,hq,hl,hw⟩:=hw
 subst e1
 cases r
 obtain ⟨its,rv,ht,hz⟩:=I.tuple hq
 refine assign_Tuple_tuple (I.ok.hd hc) ht (by simp [hn,← hl,rv.length]) hst fun h' hx=>?_
 have I1:Inv X pins σ H { s with heap:=h' }:=I.kept (t':=s.toks) fun b o e=>hx b o (Nat.ne_of_lt (Heap.lt_size e)) e
 exact h pins _ σ H xs _ Q I1 (by simpa using rv) hw
def Qr (to ti:TE) (t:Rq):TG:=fun v σ H Q=>to σ H fun o H1=>ti σ H1 fun i H2=>t o i v H2 fun H3=>Q σ H3
theorem tf {o i:Expr} {to ti:TE} {t:Rq} (ho:PE X o to) (hi:PE X i ti) (hs:R3 X t)
  (ha:∀ v,assign (.Subscript o i pos) X.env v=(do
   let ov ← holding [v] (eval o X.env)
   let iv ← holding [v,ov] (eval i X.env)
   standAt pos
   holding [v,ov,iv] (setItem ov iv v)
   release [v,ov,iv] []):=by intro _; rfl):PG X (.Subscript o i pos) (Qr to ti t):=by
 intro pins s σ H v u Q I r h
 rw [ha]
 refine wpAny_bind (wpAny_holding (QX (ho pins s σ H _ I h) fun ov s1 ⟨x,H1,I1,r1,q1⟩=>?_))
 refine wpAny_bind (wpAny_holding (QX (hi pins s1 σ H1 _ I1 q1) fun iv s2 ⟨y,H2,I2,r2,q2⟩=>?_))
 refine wpAny_bind (wpAny_standAt (wpAny_bind (wpAny_holding (QX (hs pins s2 σ H2 x y v ov iv u _ I2 r1 r2 r q2) fun _ s3 ⟨H3,I3,q3⟩=>?_))))
 exact wpAny_release ⟨σ,H3,I3,q3⟩
def Rc (te:TE) (g:TG):TS:=fun D σ H=>te σ H fun x H1=>g x σ H1 D.nx
theorem yQ {tg e:Expr} {te:TE} {g:TG} (he:PE X e te) (hg:PG X tg g) (hs:swapsWithSole [tg] e pos.line X.env=pure false:=by rfl) (hw:swappedStores [tg] e X.env=pure none:=by rfl)
  (h1:(assignEach [tg] X.env).map (·.2)=[assign tg X.env]:=by rfl):PS X (.Assign [tg] e pos) (Rc te g):=by
 intro pins s σ H D I h
 refine wpAny_Assign_stores (QX (he pins s σ H _ I h) fun v s1 ⟨x,H1,I1,r1,q1⟩=>?_) hs hw
 rw [h1]
 exact QX (hg pins s1 σ H1 x v _ I1 r1 q1) fun _ s2 q=>q
theorem zv {i:Nat} {x:Str} {e:Expr} {te:TE} {pos':Pos} (hN:X.N.Nodup) (hi:X.N[i]? = some x) (hx:QV X.env.scope x) (he:PE X e te) (hs:swapsWith e (some (.Name x pos')) pos.line X.env=pure false:=by rfl) (hf:X.fn x=true \/ X.env.scope.names.lookup x=some .local :=by first | exact .inl rfl | exact .inr rfl | assumption) :
  PS X (.Assign [.Name x pos'] e pos) (Rc te (wL i)):=by
 intro pins s σ H D I h
 refine wpAny_Assign_Name (QX (he pins s σ H _ I h) fun v s1 ⟨y,H1,I1,r1,q1⟩=>?_) hs
 exact wd I1 hN hi hx r1 (fun s2 I2=>⟨_,H1,I2,q1⟩) hf
def Qs (i j:Nat) (ta:TA):TS:=fun D σ H=>ta σ H fun vs H1=>∃ v w,vs=[v,w] /\ D.nx ((σ.set i (some v)).set j (some w)) H1
theorem jS {i j:Nat} {x y:Str} {a b:Expr} {ta:TA} {px py pt:Pos} {kt k2 pt2} (hc:X.calm=true) (hN:X.N.Nodup) (hi:X.N[i]? = some x) (hj:X.N[j]? = some y) (hij:i ≠ j)
  (hx:X.env.scope.names.lookup x=some .local) (hy:X.env.scope.names.lookup y=some .local) (ha:PA X [a,b] ta)
  (hw:swappedStores [.Tuple [.Name x px,.Name y py] kt pt] (.Tuple [a,b] k2 pt2) X.env=pure (some [x,y]))
  (hs:swapsWithSole [.Tuple [.Name x px,.Name y py] kt pt] (.Tuple [a,b] k2 pt2) pos.line X.env=pure false:=by rfl) :
  PS X (.Assign [.Tuple [.Name x px,.Name y py] kt pt] (.Tuple [a,b] k2 pt2) pos) (Qs i j ta):=by
 intro pins s σ H D I h
 rw [exec_Assign_arm]
 refine wpAny_bind (wpAny_standAt ?_)
 rw [hs]
 refine wpAny_bind (wpAny_pure ?_)
 rw [if_neg (by decide)]
 refine wpAny_bind (Tuple_ (QX (ha _ pins s σ H _ I h) fun us s1 ⟨vs,H1,I1,r1,q1⟩=>?_))
 obtain ⟨v,w,e1,q1⟩:=q1
 subst e1
 obtain ⟨u1,u2,rfl,rv,rw'⟩:∃ u1 u2,us=[u1,u2] /\ zU v u1 /\ zU w u2:=by
  cases r1 with
  | cons p q =>
   cases q with
   | cons p' q' =>
    cases q'
    exact ⟨_,_,rfl,p,p'⟩
 refine wpAny_newObj_type ?_ (by show 2<=sizeLine; decide)
 have I2:Inv X pins σ H1 { s1 with heap:=s1.heap.push { cls:=.type "tuple",data:=.seq [u1,u2].toArray } }:=I1.kept (t':=s1.toks) fun b o e=>Heap.get?_push_of_some _ e
 rw [hw]
 refine wpAny_bind (wpAny_pure ?_)
 show wpAny (model X.prog X.w) X.A (do rule "assign.swapped-stores"; let items ← unpackItems (.ref s1.heap.objs.size) 2 none; assignInOrder [fun v=>bindName X.env y v,fun v=>bindName X.env x v] items.reverse; pure Flow.next) _ _ _
 refine wpAny_bind (wpAny_rule (wpAny_bind (unpackItems_tuple (items:=#[u1,u2]) (I.ok.hd hc) (IsTup.new s1.heap _) fun h' hx'=>?_)))
 have I3:=I2.kept (h':=h') (t':=s1.toks) fun b o e=>hx' b o (Nat.ne_of_lt (Heap.lt_size e)) e
 show wpAny _ _ (assignInOrder [fun v=>bindName X.env y v,fun v=>bindName X.env x v] [u2,u1] >>= fun _=>pure Flow.next) _ _ _
 refine wpAny_bind (assignInOrder_cons (wpAny_bindName (wd I3 hN hj (.inl hy) rw' (fun s2 I4=>?_) (.inr hy))))
 refine assignInOrder_cons (wpAny_bindName (wd I4 hN hi (.inl hx) rv (fun s3 I5=>assignInOrder_nil (wpAny_pure ?_)) (.inr hx)))
 rw [List.set_comm _ _ (Ne.symm hij)] at I5
 exact ⟨_,H1,I5,q1⟩
end
structure It where
 go:Nat->Hp->Prop
 yld:Nat->Hp->V->Hp->Prop
 stop:Nat->Hp->Prop
def sZ (X:Cx) (pins:List (Addr × Obj)) (H:Hp) (b:Addr):Prop :=
 H b=none /\ b ≠ X.env.locals /\ b ∉ X.fs /\ (b ∈ X.ex \/ X.s₀.heap.objs.size<=b) /\ (∀ x c,X.env.cells.lookup x=some c->c ≠ b) /\ ∀ p ∈ X.pn ++ pins,p.1 ≠ b
theorem Inv.fpOk {X:Cx} {pins:List (Addr × Obj)} {σ:St} {H H':Hp} {s:Shared} {b:Addr} (I:Inv X pins σ H s) (hb:s.heap.objs.size<=b) (hn:H' b=none):sZ X pins H' b:=by
 refine ⟨hn,Nat.ne_of_gt (Nat.lt_of_lt_of_le I.lt hb),I.nofs hb,.inr (Nat.le_trans I.sz hb),fun x c e z=>?_,fun p hp z=>?_⟩
 ·obtain ⟨v,q⟩:=I.cell x c e
  exact absurd (Nat.lt_of_lt_of_le q.lt (by rw [z]; exact hb)) (Nat.lt_irrefl _)
 ·exact absurd (Nat.lt_of_lt_of_le (Heap.lt_size (I.pin p hp).1) (by rw [z]; exact hb)) (Nat.lt_irrefl _)
structure Turn (P:Program) (w:World) (K:QM) (tg:Expr) (J:It) (fp:List Addr) (it:Addr) (tn:Nat->Heap->Prop):Prop where
 mem:it ∈ fp
 obj:∀ i h,tn i h -> ∀ b ∈ fp,∃ o,h.get? b=some o /\ ∀ v,o.data ≠ .cell v
 keep:∀ i h h',tn i h->(∀ b ∈ fp,∀ o,h.get? b=some o->h'.get? b=some o)->tn i h'
 item:∀ (X:Cx),X.prog=P->X.w=w->X.K=K->X.calm=true -> ∀ (i:Nat) (pins:List (Addr × Obj)) (s:Shared) (σ:St) (H:Hp) (E:QN),Inv X pins σ H s->(∀ b ∈ fp,sZ X pins H b)->tn i s.heap->J.go i H →
  wpAny (model P w) X.A (pyNext (.ref it)) (fun r s1=>∃ u,r=some u ∧
   wpAny (model P w) X.A (letOwnedTupleGo tg (.ref it) u) (fun _ s2=>∃ x H',Inv X pins σ H' s2 /\ zU x u /\ J.yld i H x H' /\ tn (i+1) s2.heap /\ ∀ b ∈ fp,H' b=none) E s1) E s
 done:∀ (X:Cx),X.prog=P->X.w=w->X.K=K->X.calm=true -> ∀ (i:Nat) (pins:List (Addr × Obj)) (s:Shared) (σ:St) (H:Hp) (E:QN),Inv X pins σ H s->(∀ b ∈ fp,sZ X pins H b)->tn i s.heap->J.stop i H →
  wpAny (model P w) X.A (pyNext (.ref it)) (fun r s1=>r=none /\ Inv X pins σ H s1) E s
 self:∀ (A:Around) (i:Nat) (s:Shared) (Q:QN) (E:QN),tn i s.heap->Q (.ref it) s->wpAny (model P w) A (pyIter (.ref it)) Q E s
abbrev TI:=St->Hp->(It->Hp->Prop)->Prop
def Q4 (X:Cx) (pins:List (Addr × Obj)) (σ:St) (tg:Expr) (R:It->Hp->Prop) (itv:Value) (s2:Shared):Prop :=
 ∃ (it:Addr) (fp:List Addr) (tn:Nat->Heap->Prop) (J:It) (H':Hp),itv = .ref it /\ Inv X pins σ H' s2 /\ Turn X.prog X.w X.K tg J fp it tn /\ tn 0 s2.heap /\ (∀ b ∈ fp,sZ X pins H' b) /\ R J H'
def PI (X:Cx) (tg iter:Expr) (wi:TI):Prop :=
 ∀ (pins:List (Addr × Obj)) (s:Shared) (σ:St) (H:Hp) (R:It->Hp->Prop),Inv X pins σ H s->wi σ H R →
  wpAny (model X.prog X.w) X.A (eval iter X.env) (fun v s1=>wpAny (model X.prog X.w) X.A (pyIter v) (Q4 X pins σ tg R) X.xe s1) X.xe s
theorem Vf {M:Model} {A:Around} {E:QN} {s:Shared} {tg:Expr} {it:Addr} {u:Value} {o:Obj} {n:String} {vs:Array Value} {Q:Unit->Shared->Prop} (ho:s.heap.get? it=some o) (hc:o.cls = .type n) (hd:o.data = .fields vs)
    (hn:["enumerate","zip","dict_itemiterator","dict_reverseitemiterator","odict_iterator","itertools.zip_longest","itertools.pairwise"].contains n=false) (hQ:Q () s):wpAny M A (letOwnedTupleGo tg (.ref it) u) Q E s:=by
  unfold letOwnedTupleGo
  cases tg <;> first
    | exact wpAny_pure hQ
    | (cases u <;> first
        | exact wpAny_pure hQ
        | (refine wpAny_bind (wpAny_load ho ?_)
           rw [hc,hd]
           show wpAny M A (if (["enumerate","zip","dict_itemiterator","dict_reverseitemiterator","odict_iterator","itertools.zip_longest","itertools.pairwise"].contains n && vs[0]? == some (rawInt _))=true then _ else _) Q E s
           rw [if_neg (by intro h; rw [hn,Bool.false_and] at h; cases h)]
           exact wpAny_pure hQ))
def Q5 (K:QM) (a:Addr):It :=
 ⟨fun i H=>∃ xs x,Q0 K H a xs /\ xs[i]? = some x,fun i H x H'=>H' = H /\ ∀ xs,Q0 K H a xs->xs[i]? = some x,fun i H=>∃ xs,Q0 K H a xs /\ xs.length<=i⟩
def Q6 (K:QM) (a:Addr):It :=
 ⟨fun i H=>∃ xs x,Q1 K H a xs /\ xs[i]? = some x,fun i H x H'=>H' = H /\ ∀ xs,Q1 K H a xs->xs[i]? = some x,fun i H=>∃ xs,Q1 K H a xs /\ xs.length<=i⟩
def Q7 (lo:Int) (n:Nat):It:=⟨fun i _=>i < n,fun i H x H'=>H' = H /\ x = .int (lo+i),fun i _=>n<=i⟩
theorem YV {P:Program} {w:World} {K:QM} {tg:Expr} (a it:Addr):Turn P w K tg (Q5 K a) [it] it (fun i h=>h.IsListIter it a i) where
 mem:=by simp
 obj:=fun i h st b hb=>by
  have e:b=it:=by simpa using hb
  subst e
  obtain ⟨o,e,c,d⟩:=st
  exact ⟨o,e,fun v z=>by rw [d] at z; cases z⟩
 keep:=fun i h h' st k=>st.at fun o e=>k it (by simp) o e
 item:=by
  intro X hP hw hK hc i pins s σ H E I hf st hg
  subst hP hw hK
  obtain ⟨xs,x,hq,hx⟩:=hg
  obtain ⟨its,rv,p,hz⟩:=I.list hq
  obtain ⟨u,hu,ru⟩:=rv.get hx
  obtain ⟨f0,f1,f2,f3,f4,f5⟩:=hf it (by simp)
  refine wpAny_pyNext_list_item st p.isList (x:=u) (by simpa using hu) fun h' st' sb=>?_
  have I1:Inv X pins σ H { s with heap:=h' }:=I.turned (t':=s.toks) (fun b o hb e=>(sb.2 b hb).trans e) f0 f1 f3 f4 f5
  obtain ⟨o,e,c,d⟩:=id st'
  exact ⟨u,rfl,Vf (s:={ s with heap:=h' }) e c d (by decide) ⟨x,H,I1,ru,⟨rfl,fun ys hy=>by rw [I.list_inj hy hq]; exact hx⟩,st',fun b hb=>(hf b hb).1⟩⟩
 done:=by
  intro X hP hw hK hc i pins s σ H E I hf st hg
  subst hP hw hK
  obtain ⟨xs,hq,hx⟩:=hg
  obtain ⟨its,rv,p,hz⟩:=I.list hq
  obtain ⟨f0,f1,f2,f3,f4,f5⟩:=hf it (by simp)
  have hl:=rv.length
  exact wpAny_pyNext_list_end (I.ok.hd hc) st p.isList (by simp; omega) fun h' eb=>⟨rfl,I.turned (t':=s.toks) (fun b o hb e=>eb b o hb e) f0 f1 f3 f4 f5⟩
 self:=fun _ _ _ _ _ st h=>wpAny_pyIter_listiter st h
theorem ZM {P:Program} {w:World} {K:QM} {tg:Expr} (a it:Addr):Turn P w K tg (Q6 K a) [it] it (fun i h=>h.IsTupleIter it a i) where
 mem:=by simp
 obj:=fun i h st b hb=>by
  have e:b=it:=by simpa using hb
  subst e
  obtain ⟨o,e,c,d⟩:=st
  exact ⟨o,e,fun v z=>by rw [d] at z; cases z⟩
 keep:=fun i h h' st k=>st.at fun o e=>k it (by simp) o e
 item:=by
  intro X hP hw hK hc i pins s σ H E I hf st hg
  subst hP hw hK
  obtain ⟨xs,x,hq,hx⟩:=hg
  obtain ⟨its,rv,p,hz⟩:=I.tuple hq
  obtain ⟨u,hu,ru⟩:=rv.get hx
  obtain ⟨f0,f1,f2,f3,f4,f5⟩:=hf it (by simp)
  refine wpAny_pyNext_tuple_item st (show s.heap.IsTuple a its.toArray from p) (x:=u) (by simpa using hu) fun h' st' sb=>?_
  have I1:Inv X pins σ H { s with heap:=h' }:=I.turned (t':=s.toks) (fun b o hb e=>(sb.2 b hb).trans e) f0 f1 f3 f4 f5
  obtain ⟨o,e,c,d⟩:=id st'
  exact ⟨u,rfl,Vf (s:={ s with heap:=h' }) e c d (by decide) ⟨x,H,I1,ru,⟨rfl,fun ys hy=>by rw [I.tuple_inj hy hq]; exact hx⟩,st',fun b hb=>(hf b hb).1⟩⟩
 done:=by
  intro X hP hw hK hc i pins s σ H E I hf st hg
  subst hP hw hK
  obtain ⟨xs,hq,hx⟩:=hg
  obtain ⟨its,rv,p,hz⟩:=I.tuple hq
  obtain ⟨f0,f1,f2,f3,f4,f5⟩:=hf it (by simp)
  have hl:=rv.length
  exact wpAny_pyNext_tuple_end (I.ok.hd hc) st (show s.heap.IsTuple a its.toArray from p) (by simp; omega) fun h' eb=>⟨rfl,I.turned (t':=s.toks) (fun b o hb e=>eb b o hb e) f0 f1 f3 f4 f5⟩
 self:=fun _ _ _ _ _ st h=>wpAny_pyIter_tupleiter st h
theorem ZN {P:Program} {w:World} {K:QM} {tg:Expr} (it:Addr) (lo:Int) (n:Nat):Turn P w K tg (Q7 lo n) [it] it (fun i h=>IsRangeIter h it (lo+(i:Nat) * 1) ((n:Int) - (i:Nat)) 1) where
 mem:=by simp
 obj:=fun i h st b hb=>by
  have e:b=it:=by simpa using hb
  subst e
  exact ⟨_,st,fun v z=>by
   have z':Data.fields _=Data.cell v:=z
   cases z'⟩
 keep:=fun i h h' st k=>k it (by simp) _ st
 item:=by
  intro X hP hw hK hc i pins s σ H E I hf st hg
  subst hP hw hK
  obtain ⟨f0,f1,f2,f3,f4,f5⟩:=hf it (by simp)
  have W:=Walks.range (prog:=X.prog) (w:=X.w) (I.ok.hd hc) it lo 1 n
  refine W.item i s _ _ hg st fun v h' tk hv st' kk=>?_
  obtain ⟨t,rfl⟩:=hv
  have I1:Inv X pins σ H { s with heap:=h',toks:=tk }:=I.turned (fun b o hb e=>kk b o (by simpa using hb) e) f0 f1 f3 f4 f5
  refine ⟨_,rfl,Vf (s:={ s with heap:=h',toks:=tk }) (n:="range_iterator") st' rfl rfl (by decide) ⟨.int (lo+i),H,I1,⟨t,?_⟩,⟨rfl,rfl⟩,st',fun b hb=>(hf b hb).1⟩⟩
  rw [Int.mul_one]
 done:=by
  intro X hP hw hK hc i pins s σ H E I hf st hg
  subst hP hw hK
  obtain ⟨f0,f1,f2,f3,f4,f5⟩:=hf it (by simp)
  exact wpAny_pyNext_range_end (I.ok.hd hc) st (by have:n<=i:=hg; omega) fun h' eb=>⟨rfl,I.turned (t':=s.toks) (fun b o hb e=>eb b o hb e) f0 f1 f3 f4 f5⟩
 self:=fun _ _ _ _ _ st h=>wpAny_pyIter_rangeiter st h
end L2
namespace L2
open PySem PySem.Spec PyProof.Rows
section
variable {X:Cx} {tg:Expr}
def Rs (K:QM) (tl:TE):TI:=fun σ H R=>tl σ H fun x H1=>∃ a,x = .ref a /\ (∃ xs,Q0 K H1 a xs) /\ R (Q5 K a) H1
def Qt (K:QM) (tl:TE):TI:=fun σ H R=>tl σ H fun x H1=>∃ a,x = .ref a /\ (∃ xs,Q1 K H1 a xs) /\ R (Q6 K a) H1
theorem se {l:Expr} {tl:TE} (hl:PE X l tl):PI X tg l (Rs X.K tl):=by
 intro pins s σ H R I h
 refine QX (hl pins s σ H _ I h) fun v s1 ⟨x,H1,I1,r1,q1⟩=>?_
 obtain ⟨a,e,⟨xs,hq⟩,q⟩:=q1
 subst e
 cases r1
 obtain ⟨its,rv,p,hz⟩:=I1.list hq
 refine wpAny_pyIter_list p.isList ?_
 refine ⟨s1.heap.objs.size,[s1.heap.objs.size],_,_,H1,rfl,I1.kept (t':=s1.toks) fun b o e=>Heap.get?_push_of_some _ e,YV a _,⟨_,Heap.get?_push_size _ rfl,rfl,rfl⟩,fun b hb=>?_,q⟩
 have e:b=s1.heap.objs.size:=by simpa using hb
 subst e
 exact I1.fpOk (Nat.le_refl _) (I1.hok.fresh (Nat.le_refl _))
theorem xx {l:Expr} {tl:TE} (hl:PE X l tl):PI X tg l (Qt X.K tl):=by
 intro pins s σ H R I h
 refine QX (hl pins s σ H _ I h) fun v s1 ⟨x,H1,I1,r1,q1⟩=>?_
 obtain ⟨a,e,⟨xs,hq⟩,q⟩:=q1
 subst e
 cases r1
 obtain ⟨its,rv,p,hz⟩:=I1.tuple hq
 refine wpAny_pyIter_tuple (show s1.heap.IsTuple a its.toArray from p) ?_
 refine ⟨s1.heap.objs.size,[s1.heap.objs.size],_,_,H1,rfl,I1.kept (t':=s1.toks) fun b o e=>Heap.get?_push_of_some _ e,ZM a _,⟨_,Heap.get?_push_size _ rfl,rfl,rfl⟩,fun b hb=>?_,q⟩
 have e:b=s1.heap.objs.size:=by simpa using hb
 subst e
 exact I1.fpOk (Nat.le_refl _) (I1.hok.fresh (Nat.le_refl _))
theorem Vg {pins:List (Addr × Obj)} {σ:St} {H:Hp} {s:Shared} {R:It->Hp->Prop} {E:QN} {lo hi:Int} {t u v:Tok} {tk:Nat} (I:Inv X pins σ H s) (h1:-(2 ^ 62)<=lo) (h2:lo < 2 ^ 62) (h3:-(2 ^ 62)<=hi) (h4:hi < 2 ^ 62)
  (q:R (Q7 lo (hi - lo).toNat) H):wpAny (model X.prog X.w) X.A (pyIter (.ref s.heap.objs.size)) (Q4 X pins σ tg R) E { s with heap:=s.heap.push { cls:=.type "range",data:=.fields #[.int lo t,.int hi u,.int 1 v] },toks:=tk }:=by
 refine wpAny_pyIter_range (IsRange.new ..) (small_one h1 h2 h3 h4) ?_
 have I1:Inv X pins σ H { s with heap:=s.heap.push { cls:=.type "range",data:=.fields #[.int lo t,.int hi u,.int 1 v] },toks:=tk }:=I.kept fun b o e=>Heap.get?_push_of_some _ e
 refine ⟨(s.heap.push { cls:=.type "range",data:=.fields #[.int lo t,.int hi u,.int 1 v] }).objs.size,[(s.heap.push { cls:=.type "range",data:=.fields #[.int lo t,.int hi u,.int 1 v] }).objs.size],_,_,H,rfl,
  I1.kept (t':=tk) fun b o e=>Heap.get?_push_of_some _ e,ZN _ lo (hi - lo).toNat,?_,fun b hb=>?_,q⟩
 ·have e1:lo+((0:Nat):Int) * 1=lo:=by simp
  have e2:(((hi - lo).toNat:Nat):Int) - ((0:Nat):Int)=Builtin.Range.rangeSize lo hi 1:=by rw [rangeSize_one]; split <;> omega
  show IsRangeIter _ _ (lo+((0:Nat):Int) * 1) ((((hi - lo).toNat:Nat):Int) - ((0:Nat):Int)) 1
  rw [e1,e2]
  exact Heap.get?_push_size _ rfl
 ·have e:b=(s.heap.push { cls:=.type "range",data:=.fields #[.int lo t,.int hi u,.int 1 v] }).objs.size:=by simpa using hb
  subst e
  exact I1.fpOk (Nat.le_refl _) (I1.hok.fresh (Nat.le_refl _))
def Rt (ta:TA):TI:=fun σ H R=>ta σ H fun vs H1=>∃ j:Int,vs=[.int j] /\ -(2 ^ 62)<=j /\ j < 2 ^ 62 /\ R (Q7 0 j.toNat) H1
theorem xb {a:Expr} {ta:TA} {p pos:Pos} (hg:Gl X "range") (hm:X.mg "range" = none) (ha:PA X [a] ta) (hs:starEach [a] X.env=[(false,eval a X.env)]:=by rfl):PI X tg (.Call (.Name "range" p) [a] [] pos) (Rt ta):=by
 intro pins s σ H R I h
 refine Call_ (wv I hg hm boot_range (PyProof.Rows.callWith_type1 (QX (ha pos pins s σ H _ I h) fun us s1 ⟨vs,H1,I1,r1,q1⟩=>?_) hs rfl))
 obtain ⟨j,e,q1,q2,q⟩:=q1
 subst e
 cases r1 with
 | cons r rr =>
  cases rr
  obtain ⟨t,rfl⟩:=r
  exact call_range_1 (Vg I1 (by omega) (by omega) q1 q2 (by simpa using q))
def Qu (wi:TI) (g:TG) (tb:TS):TS:=fun D σ H=>wi σ H fun J H1=>∃ W:Nat->Nat->St->Hp->Prop,(∃ m,W 0 m σ H1) /\ ∀ i m σ H,W i m σ H →
 (J.stop i H /\ D.nx σ H) \/ (J.go i H /\ ∃ N:St->Hp->Prop,(∀ σ' H',N σ' H' -> ∃ m',m' < m /\ W (i+1) m' σ' H') /\ ∀ x H',J.yld i H x H' -> g x σ H' fun σ2 H2=>tb { D with nx:=N,ct:=N,bk:=D.nx } σ2 H2)
def s8 (fp:List Addr) (h:Heap):List (Addr × Obj):=fp.filterMap fun b=>(h.get? b).map fun o=>(b,o)
theorem we {fp:List Addr} {h:Heap} {b:Addr} {o:Obj} (hb:b ∈ fp) (e:h.get? b=some o):(b,o) ∈ s8 fp h:=List.mem_filterMap.mpr ⟨b,hb,by rw [e]; rfl⟩
theorem YW {fp:List Addr} {h:Heap} {p:Addr × Obj} (hp:p ∈ s8 fp h):p.1 ∈ fp /\ h.get? p.1=some p.2:=by
 obtain ⟨b,hb,e⟩:=List.mem_filterMap.mp hp
 cases q:h.get? b with
 | none=>rw [q] at e; cases e
 | some o =>
  rw [q] at e
  have e':(b,o)=p:=Option.some.inj e
  subst e'
  exact ⟨hb,q⟩
theorem Inv.pinned {pins:List (Addr × Obj)} {σ:St} {H:Hp} {s:Shared} {fp:List Addr} (I:Inv X pins σ H s) (hf:∀ b ∈ fp,sZ X pins H b) (ho:∀ b ∈ fp,∃ o,s.heap.get? b=some o /\ ∀ v,o.data ≠ .cell v):Inv X (pins ++ s8 fp s.heap) σ H s :=
 I.pins_of fun p hp=>(List.mem_append.mp hp).elim (fun z=>I.pin p (List.mem_append_right _ z)) fun z=>by
  obtain ⟨hb,e⟩:=YW z
  obtain ⟨f0,f1,f2,_⟩:=hf p.1 hb
  obtain ⟨o,e',d⟩:=ho p.1 hb
  rw [e] at e'; cases e'
  exact ⟨e,f0,f1,f2,d⟩
theorem Inv.unpinned {pins pl:List (Addr × Obj)} {σ:St} {H:Hp} {s:Shared} (I:Inv X (pins ++ pl) σ H s):Inv X pins σ H s:=I.pins_of fun p hp=>I.pin p (List.mem_append_right _ (List.mem_append_left _ hp))
theorem xy {iter:Expr} {body:List Stmt} {wi:TI} {g:TG} {tb:TS} {pos:Pos} (hp:PassesOwn (model X.prog X.w) X.A X.env X.xe) (hc:X.calm=true) (hi:PI X tg iter wi) (hg:PG X tg g) (hb:QW X body tb)
  (hs:∀ x,foldedSetIterable iter X.env x=pure x:=by intro _; rfl):PS X (.For tg iter body [] pos) (Qu wi g tb):=by
 intro pins s σ H D I h
 refine wpAny_For (QX (hi pins s σ H _ I h) fun v s1 h1=>QX h1 fun itv s2 h2=>?_) hs
 obtain ⟨it,fp,tn,J,H2,e,I2,T,st2,f2,W,⟨m0,w0⟩,turn⟩:=h2
 subst e
 -- what stays true of the iterator's objects through the loop
 have stat:∀ {H':Hp},(∀ b ∈ fp,H' b=none) -> ∀ b ∈ fp,sZ X pins H' b:=fun hn b hb=>⟨hn b hb,(f2 b hb).2⟩
 refine codeAny_forLoop_any (fun n s'=>∃ i σ' H',Inv X pins σ' H' s' /\ tn i s'.heap /\ (∀ b ∈ fp,H' b=none) /\ W i n σ' H') ?_ m0 ⟨0,σ,H2,I2,st2,fun b hb=>(f2 b hb).1,w0⟩
 rintro n s3 ⟨i,σ3,H3,I3,st3,fr3,w3⟩
 rcases turn i n σ3 H3 w3 with ⟨stop,qn⟩ | ⟨go,N,hN,step⟩
 ·refine wpAny_passesOwn hp (QX (T.done X rfl rfl rfl hc i pins s3 σ3 H3 X.xe I3 (stat fr3) st3 stop) fun r s4 ⟨hr,I4⟩=>?_)
  subst hr
  exact wpAny_execs_nil ⟨σ3,H3,I4,qn⟩
 ·refine wpAny_passesOwn hp (QX (T.item X rfl rfl rfl hc i pins s3 σ3 H3 X.xe I3 (stat fr3) st3 go) fun r s4 ⟨u,hr,h4⟩=>?_)
  subst hr
  refine wpAny_passesOwn hp (QX h4 fun _ s5 ⟨x,H5,I5,r5,y5,st5,fr5⟩=>?_)
  have I5':=I5.pinned (stat fr5) (T.obj _ _ st5)
  refine wpAny_passesOwn hp (QX (hg _ s5 σ3 H5 x u _ I5' r5 (step x H5 y5)) fun _ s6 ⟨σ6,H6,I6,q6⟩=>?_)
  refine wpAny_passesOwn hp (QX (hb _ s6 σ6 H6 _ I6 q6) fun f s7 q7=>?_)
  have again:∀ {σ7:St} {H7:Hp},Inv X (pins ++ s8 fp s5.heap) σ7 H7 s7->N σ7 H7 -> ∃ m,m < n /\ ∃ i σ' H',Inv X pins σ' H' s7 /\ tn i s7.heap /\ (∀ b ∈ fp,H' b=none) /\ W i m σ' H':=fun {σ7 H7} I7 n7=>by
   obtain ⟨m',hm,w7⟩:=hN σ7 H7 n7
   refine ⟨m',hm,i+1,σ7,H7,I7.unpinned,T.keep _ _ _ st5 fun b hb o e=>(I7.pin (b,o) (List.mem_append_right _ (List.mem_append_right _ (we hb e)))).1,fun b hb=>?_,w7⟩
   obtain ⟨o,e,d⟩:=T.obj _ _ st5 b hb
   exact (I7.pin (b,o) (List.mem_append_right _ (List.mem_append_right _ (we hb e)))).2.1
  cases f with
  | next=>obtain ⟨σ7,H7,I7,n7⟩:=q7; exact again I7 n7
  | cont=>obtain ⟨σ7,H7,I7,n7⟩:=q7; exact again I7 n7
  | brk=>obtain ⟨σ7,H7,I7,q7⟩:=q7; exact ⟨σ7,H7,I7.unpinned,q7⟩
  | ret v=>obtain ⟨x7,σ7,H7,I7,r7,q7⟩:=q7; exact ⟨x7,σ7,H7,I7.unpinned,r7,q7⟩
end
theorem Vh {K:QM} {a:Addr} {xs:List V} {g:TG} {tb:TS} {D:Ends} {σ:St} {H:Hp} (Pv:Nat->St->Hp->Prop) (h0:Pv 0 σ H) (hl:∀ i σ H,i<=xs.length->Pv i σ H->Q0 K H a xs)
  (hs:∀ i x σ H,xs[i]? = some x->Pv i σ H->g x σ H fun σ2 H2=>tb { D with nx:=Pv (i+1),ct:=Pv (i+1),bk:=D.nx } σ2 H2) (hd:∀ σ H,Pv xs.length σ H->D.nx σ H) :
  ∃ W:Nat->Nat->St->Hp->Prop,(∃ m,W 0 m σ H) /\ ∀ i m σ H,W i m σ H →
   ((Q5 K a).stop i H /\ D.nx σ H) \/ ((Q5 K a).go i H /\ ∃ N:St->Hp->Prop,(∀ σ' H',N σ' H' -> ∃ m',m' < m /\ W (i+1) m' σ' H') /\ ∀ x H',(Q5 K a).yld i H x H' -> g x σ H' fun σ2 H2=>tb { D with nx:=N,ct:=N,bk:=D.nx } σ2 H2):=by
 refine ⟨fun i m σ H=>m=xs.length - i /\ i<=xs.length /\ Pv i σ H,⟨xs.length,by simp,Nat.zero_le _,h0⟩,?_⟩
 rintro i m σ H ⟨rfl,hi,p⟩
 have q:=hl i σ H hi p
 by_cases hlt:i < xs.length
 ·refine .inr ⟨⟨xs,xs[i],q,by simp [hlt]⟩,Pv (i+1),fun σ' H' p'=>⟨xs.length - (i+1),by omega,rfl,hlt,p'⟩,fun x H' y=>?_⟩
  obtain ⟨e,y⟩:=y
  subst e
  exact hs i x σ _ (y xs q) p
 ·have e:i=xs.length:=by omega
  subst e
  exact .inl ⟨⟨xs,q,Nat.le_refl _⟩,hd σ H p⟩
theorem qW {K:QM} {a:Addr} {xs:List V} {g:TG} {tb:TS} {D:Ends} {σ:St} {H:Hp} (Pv:Nat->St->Hp->Prop) (h0:Pv 0 σ H) (hl:∀ i σ H,i<=xs.length->Pv i σ H->Q1 K H a xs)
  (hs:∀ i x σ H,xs[i]? = some x->Pv i σ H->g x σ H fun σ2 H2=>tb { D with nx:=Pv (i+1),ct:=Pv (i+1),bk:=D.nx } σ2 H2) (hd:∀ σ H,Pv xs.length σ H->D.nx σ H) :
  ∃ W:Nat->Nat->St->Hp->Prop,(∃ m,W 0 m σ H) /\ ∀ i m σ H,W i m σ H →
   ((Q6 K a).stop i H /\ D.nx σ H) \/ ((Q6 K a).go i H /\ ∃ N:St->Hp->Prop,(∀ σ' H',N σ' H' -> ∃ m',m' < m /\ W (i+1) m' σ' H') /\ ∀ x H',(Q6 K a).yld i H x H' -> g x σ H' fun σ2 H2=>tb { D with nx:=N,ct:=N,bk:=D.nx } σ2 H2):=by
 refine ⟨fun i m σ H=>m=xs.length - i /\ i<=xs.length /\ Pv i σ H,⟨xs.length,by simp,Nat.zero_le _,h0⟩,?_⟩
 rintro i m σ H ⟨rfl,hi,p⟩
 have q:=hl i σ H hi p
 by_cases hlt:i < xs.length
 ·refine .inr ⟨⟨xs,xs[i],q,by simp [hlt]⟩,Pv (i+1),fun σ' H' p'=>⟨xs.length - (i+1),by omega,rfl,hlt,p'⟩,fun x H' y=>?_⟩
  obtain ⟨e,y⟩:=y
  subst e
  exact hs i x σ _ (y xs q) p
 ·have e:i=xs.length:=by omega
  subst e
  exact .inl ⟨⟨xs,q,Nat.le_refl _⟩,hd σ H p⟩
theorem ud {lo:Int} {n:Nat} {g:TG} {tb:TS} {D:Ends} {σ:St} {H:Hp} (Pv:Nat->St->Hp->Prop) (h0:Pv 0 σ H)
  (hs:∀ i σ H,i < n->Pv i σ H->g (.int (lo+i)) σ H fun σ2 H2=>tb { D with nx:=Pv (i+1),ct:=Pv (i+1),bk:=D.nx } σ2 H2) (hd:∀ σ H,Pv n σ H->D.nx σ H) :
  ∃ W:Nat->Nat->St->Hp->Prop,(∃ m,W 0 m σ H) /\ ∀ i m σ H,W i m σ H →
   ((Q7 lo n).stop i H /\ D.nx σ H) \/ ((Q7 lo n).go i H /\ ∃ N:St->Hp->Prop,(∀ σ' H',N σ' H' -> ∃ m',m' < m /\ W (i+1) m' σ' H') /\ ∀ x H',(Q7 lo n).yld i H x H' -> g x σ H' fun σ2 H2=>tb { D with nx:=N,ct:=N,bk:=D.nx } σ2 H2):=by
 refine ⟨fun i m σ H=>m=n - i /\ i<=n /\ Pv i σ H,⟨n,by simp,Nat.zero_le _,h0⟩,?_⟩
 rintro i m σ H ⟨rfl,hi,p⟩
 by_cases hlt:i < n
 ·refine .inr ⟨hlt,Pv (i+1),fun σ' H' p'=>⟨n - (i+1),by omega,rfl,hlt,p'⟩,fun x H' y=>?_⟩
  obtain ⟨e,y⟩:=y
  subst e y
  exact hs i σ _ hlt p
 ·have e:i=n:=by omega
  subst e
  exact .inl ⟨Nat.le_refl _,hd σ H p⟩
end L2
namespace L2
open PySem PySem.Spec PyProof.Rows
abbrev R2:=V->V->Hp->VK->Prop
def Q8 (X:Cx) (f:Value->Value->Sem Value) (r:R2):Prop :=
 ∀ (pins:List (Addr × Obj)) (s:Shared) (σ:St) (H:Hp) (x y:V) (v u:Value) (Q:VK),Inv X pins σ H s->zU x v->zU y u->r x y H Q →
  wpAny (model X.prog X.w) X.A (f v u) (EP X pins σ Q) X.xe s
def Q9 (X:Cx) (f:Value->Sem Value) (r:V->Hp->VK->Prop):Prop :=
 ∀ (pins:List (Addr × Obj)) (s:Shared) (σ:St) (H:Hp) (x:V) (v:Value) (Q:VK),Inv X pins σ H s->zU x v->r x H Q →
  wpAny (model X.prog X.w) X.A (f v) (EP X pins σ Q) X.xe s
def y7 (X:Cx) (f:Value) (r:List V->Hp->VK->Prop):Prop :=
 ∀ (pins:List (Addr × Obj)) (s:Shared) (σ:St) (H:Hp) (xs:List V) (us:List Value) (Q:VK),Inv X pins σ H s->zP xs us->r xs H Q →
  wpAny (model X.prog X.w) X.A (call f us) (EP X pins σ Q) X.xe s
def Qv (X:Cx) (r:V->Hp->(Bool->Hp->Prop)->Prop):Prop :=
 ∀ (pins:List (Addr × Obj)) (s:Shared) (σ:St) (H:Hp) (x:V) (v:Value) (Q:Bool->Hp->Prop),Inv X pins σ H s->zU x v->r x H Q →
  wpAny (model X.prog X.w) X.A (truthy v) (TP X pins σ Q) X.xe s
def Ja (r:R2) (ta tb:TE):TE:=fun σ H Q=>ta σ H fun x H1=>tb σ H1 fun y H2=>r x y H2 Q
def Jb (r:V->Hp->VK->Prop) (ta:TE):TE:=fun σ H Q=>ta σ H fun x H1=>r x H1 Q
def rI (C:Int->Int->Prop) (g:Int->Int->V):R2:=fun x y H Q=>∃ i j,x = .int i /\ y = .int j /\ C i j /\ Q (g i j) H
def Jc (g:Int->Int->V):R2:=fun x y H Q=>∃ i j,x = .int i /\ y = .int j /\ Q (g i j) H
def rU (g:Int->V):V->Hp->VK->Prop:=fun x H Q=>∃ i,x = .int i /\ Q (g i) H
section
variable {X:Cx} {a b c:Expr} {ta tb tc:TE} {pos:Pos}
theorem Ru (ha:PE X a ta) (hb:PE X b tb) {pins:List (Addr × Obj)} {s:Shared} {σ:St} {H:Hp} {R:V->V->Hp->Prop} (I:Inv X pins σ H s)
  (h:ta σ H fun x H1=>tb σ H1 fun y H2=>R x y H2) {Q:QN} {f:Value->Value->Sem Value}
  (hf:∀ v u s2 x y H2,Inv X pins σ H2 s2->zU x v->zU y u->R x y H2->wpAny (model X.prog X.w) X.A (f v u) Q X.xe s2) :
  wpAny (model X.prog X.w) X.A (eval a X.env) (fun v s₁=>wpAny (model X.prog X.w) X.A (eval b X.env) (fun u s₂=>wpAny (model X.prog X.w) X.A (f v u) Q X.xe s₂) X.xe s₁) X.xe s:=by
 refine QX (ha pins s σ H _ I h) fun v s1 ⟨x,H1,I1,r1,q1⟩=>?_
 refine QX (hb pins s1 σ H1 _ I1 q1) fun u s2 ⟨y,H2,I2,r2,q2⟩=>?_
 exact hf v u s2 x y H2 I2 r1 r2 q2
theorem zz {op:Operator} {r:R2} (ho:Q8 X (binaryOp op) r) (ha:PE X a ta) (hb:PE X b tb):PE X (.BinOp a op b pos) (Ja r ta tb):=by
 intro pins s σ H Q I h
 exact wpAny_BinOp (Ru ha hb I h fun v u s2 x y H2 I2 rx ry q=>ho pins s2 σ H2 x y v u Q I2 rx ry q)
theorem Rv {op:UnaryOp} {r:V->Hp->VK->Prop} (ho:Q9 X (unaryOp op) r) (ha:PE X a ta):PE X (.UnaryOp op a pos) (Jb r ta):=by
 intro pins s σ H Q I h
 exact UnaryOp_ (QX (ha pins s σ H _ I h) fun v s1 ⟨x,H1,I1,r1,q1⟩=>ho pins s1 σ H1 x v Q I1 r1 q1)
theorem Jd {f:Value->Value->Sem Value} {C:Int->Int->Prop} {g:Int->Int->Int}
  (rule:∀ (i j:Int) (t u:Tok) (s:Shared) (Q:QN) (E:QN),C i j->Q (.int (g i j) s.toks) { s with toks:=s.toks+1 } -> wpAny (model X.prog X.w) X.A (f (.int i t) (.int j u)) Q E s) :
  Q8 X f (rI C fun i j=>.int (g i j)):=by
 intro pins s σ H x y v u Q I rx ry h
 obtain ⟨i,j,rfl,rfl,hc,q⟩:=h
 obtain ⟨t,rfl⟩:=rx
 obtain ⟨t',rfl⟩:=ry
 exact rule i j t t' s _ _ hc ⟨.int (g i j),H,I.tok _,⟨_,rfl⟩,q⟩
theorem Re {f:Value->Value->Sem Value} {g:Int->Int->Int}
  (rule:∀ (i j:Int) (t u:Tok) (s:Shared) (Q:QN) (E:QN),Q (.int (g i j) s.toks) { s with toks:=s.toks+1 } -> wpAny (model X.prog X.w) X.A (f (.int i t) (.int j u)) Q E s) :
  Q8 X f (Jc fun i j=>.int (g i j)):=by
 intro pins s σ H x y v u Q I rx ry h
 obtain ⟨i,j,rfl,rfl,q⟩:=h
 obtain ⟨t,rfl⟩:=rx
 obtain ⟨t',rfl⟩:=ry
 exact rule i j t t' s _ _ ⟨.int (g i j),H,I.tok _,⟨_,rfl⟩,q⟩
theorem Rw {f:Value->Value->Sem Value} {g:Int->Int->Bool}
  (rule:∀ (i j:Int) (t u:Tok) (s:Shared) (Q:QN) (E:QN),Q (.bool (g i j)) s->wpAny (model X.prog X.w) X.A (f (.int i t) (.int j u)) Q E s) :
  Q8 X f (Jc fun i j=>.bl (g i j)):=by
 intro pins s σ H x y v u Q I rx ry h
 obtain ⟨i,j,rfl,rfl,q⟩:=h
 obtain ⟨t,rfl⟩:=rx
 obtain ⟨t',rfl⟩:=ry
 exact rule i j t t' s _ _ ⟨.bl (g i j),H,I,rfl,q⟩
def R5 (i j:Int):Prop:=0<=j /\ j<=1000000 /\ i.natAbs < 2 ^ 64
theorem ZO (k:Nat):(0:Int)<=2 ^ k:=by
 rw [two_pow_cast]
 exact Int.natCast_nonneg _
theorem z9:Q8 X (binaryOp .Add) (Jc fun i j=>.int (i+j)):=Re fun _ _ _ _ _ _ _ q=>add_int q
theorem ue:Q8 X (binaryOp .Sub) (Jc fun i j=>.int (i - j)):=Re fun _ _ _ _ _ _ _ q=>sub_int q
theorem tj:Q8 X (binaryOp .Mod) (rI (fun _ j=>0 < j) fun i j=>.int (i % j)):=Jd fun i j _ _ _ _ _ hc q=>by
 have h1:(0:Int) < j:=hc
 exact mod_int' (by omega) (by rw [Int.fmod_eq_emod_of_nonneg i (by omega)]; exact q)
theorem YX:Q8 X (binaryOp .Pow) (rI R5 fun i j=>.int (i ^ j.toNat)):=Jd fun _ _ _ _ _ _ _ hc q=>pow_int_small hc.1 hc.2.1 hc.2.2 q
theorem Ux:Q8 X (binaryOp .LShift) (rI R5 fun i j=>.int (i * 2 ^ j.toNat)):=Jd fun _ _ _ _ _ _ _ hc q=>lshift_int_small hc.1 hc.2.1 hc.2.2 q
theorem T6:Q8 X (binaryOp .RShift) (rI (fun _ j=>0<=j) fun i j=>.int (i / 2 ^ j.toNat)):=Jd fun i j _ _ _ _ _ hc q =>
 rshift_int hc (by rw [Int.fdiv_eq_ediv_of_nonneg i (ZO _)]; exact q)
theorem Uy:Q8 X (binaryOp .BitAnd) (Jc fun i j=>.int (Builtin.bitAnd i j)):=Re fun _ _ _ _ _ _ _ q=>and_int q
theorem Rx:Q8 X (binaryOp .BitOr) (Jc fun i j=>.int (Builtin.bitOr i j)):=Re fun _ _ _ _ _ _ _ q=>or_int q
theorem Je {f:Value->Sem Value} {g:Int->Int}
  (rule:∀ (i:Int) (t:Tok) (s:Shared) (Q:QN) (E:QN),Q (.int (g i) s.toks) { s with toks:=s.toks+1 } -> wpAny (model X.prog X.w) X.A (f (.int i t)) Q E s) :
  Q9 X f (rU fun i=>.int (g i)):=by
 intro pins s σ H x v Q I rx h
 obtain ⟨i,rfl,q⟩:=h
 obtain ⟨t,rfl⟩:=rx
 exact rule i t s _ _ ⟨.int (g i),H,I.tok _,⟨_,rfl⟩,q⟩
theorem T7:Q9 X (unaryOp .USub) (rU fun i=>.int (-i)):=Je fun _ _ _ _ _ q=>neg_int q
end
def R6:V->V->Bool
 | .non,.non=>true | .non,.int _=>true | .int _,.non=>true | .non,.bl _=>true | .bl _,.non=>true | .non,.str _=>true | .str _,.non=>true
 | .int _,.int _=>true | .bl _,.bl _=>true | .str _,.str _=>true | .byt _,.byt _=>true
 | .int _,.str _=>true | .str _,.int _=>true | .bl _,.str _=>true | .str _,.bl _=>true
 | _,_=>false
def Jf:R2:=fun x y H Q=>R6 x y=true /\ Q (.bl (decide (x=y))) H
def Jg:R2:=fun x y H Q=>R6 x y=true /\ Q (.bl (!decide (x=y))) H
theorem YY {i j:Int}:decide (V.int i=V.int j)=(i == j):=by
 rw [Bool.eq_iff_iff]
 simp
theorem Uz {i j:Bool}:decide (V.bl i=V.bl j)=(i == j):=by
 rw [Bool.eq_iff_iff]
 simp
theorem YZ {i j:Str}:decide (V.str i=V.str j)=(i == j):=by
 rw [Bool.eq_iff_iff]
 simp
theorem Y0 {i j:Array UInt8}:decide (V.byt i=V.byt j)=(i.toList == j.toList):=by
 rw [Bool.eq_iff_iff]
 cases i
 cases j
 simp
section
variable {X:Cx} {a b c:Expr} {ta tb tc:TE} {pos:Pos}
theorem zS {pins:List (Addr × Obj)} {σ:St} {H:Hp} {s:Shared} {Q:VK} {k k':Bool} (I:Inv X pins σ H s) (q:Q (.bl k) H) (e:k=k'):EP X pins σ Q (.bool k') s:=by
 subst e
 exact ⟨.bl k,H,I,rfl,q⟩
theorem xN:Q8 X (compareOp .Eq) Jf:=by
 intro pins s σ H x y v u Q I rx ry h
 obtain ⟨hs,q⟩:=h
 cases x with
 | non =>
  cases rx
  cases y with
  | non=>cases ry; exact PySem.EqNone.eq_none_none (zS I q (by simp))
  | bl j=>cases ry; exact PySem.EqNone.eq_none_bool (zS I q (by simp))
  | int j=>obtain ⟨t',rfl⟩:=ry; exact PySem.EqNone.eq_none_int (zS I q (by simp))
  | str j=>obtain ⟨t',rfl⟩:=ry; exact PySem.EqNone.eq_none_str (zS I q (by simp))
  | _=>exact absurd (show false=true from hs) Bool.false_ne_true
 | bl i =>
  cases rx
  cases y with
  | non=>cases ry; exact PySem.EqNone.eq_bool_none (zS I q (by simp))
  | bl j=>cases ry; exact eq_bool (zS I q Uz)
  | str j=>obtain ⟨t',rfl⟩:=ry; exact PySem.EqMixed.eq_bool_str (zS I q (by simp))
  | _=>exact absurd (show false=true from hs) Bool.false_ne_true
 | int i =>
  obtain ⟨t,rfl⟩:=rx
  cases y with
  | non=>cases ry; exact PySem.EqNone.eq_int_none (zS I q (by simp))
  | int j=>obtain ⟨t',rfl⟩:=ry; exact eq_int (zS I q YY)
  | str j=>obtain ⟨t',rfl⟩:=ry; exact PySem.EqMixed.eq_int_str (zS I q (by simp))
  | _=>exact absurd (show false=true from hs) Bool.false_ne_true
 | str i =>
  obtain ⟨t,rfl⟩:=rx
  cases y with
  | non=>cases ry; exact PySem.EqNone.eq_str_none (zS I q (by simp))
  | bl j=>cases ry; exact PySem.EqMixed.eq_str_bool (zS I q (by simp))
  | int j=>obtain ⟨t',rfl⟩:=ry; exact PySem.EqMixed.eq_str_int (zS I q (by simp))
  | str j=>obtain ⟨t',rfl⟩:=ry; exact eq_str (zS I q YZ)
  | _=>exact absurd (show false=true from hs) Bool.false_ne_true
 | byt i =>
  obtain ⟨t,rfl⟩:=rx
  cases y with
  | byt j=>obtain ⟨t',rfl⟩:=ry; exact PySem.W.eq_bytes (zS I q Y0)
  | _=>exact absurd (show false=true from hs) Bool.false_ne_true
 | _=>cases y <;> exact absurd (show false=true from hs) Bool.false_ne_true
theorem sf:Q8 X (compareOp .NotEq) Jg:=by
 intro pins s σ H x y v u Q I rx ry h
 obtain ⟨hs,q⟩:=h
 cases x with
 | non =>
  cases rx
  cases y with
  | non=>cases ry; exact PySem.EqNone.ne_none_none (zS I q (by simp))
  | bl j=>cases ry; exact PySem.EqNone.ne_none_bool (zS I q (by simp))
  | int j=>obtain ⟨t',rfl⟩:=ry; exact PySem.EqNone.ne_none_int (zS I q (by simp))
  | str j=>obtain ⟨t',rfl⟩:=ry; exact PySem.EqNone.ne_none_str (zS I q (by simp))
  | _=>exact absurd (show false=true from hs) Bool.false_ne_true
 | bl i =>
  cases rx
  cases y with
  | non=>cases ry; exact PySem.EqNone.ne_bool_none (zS I q (by simp))
  | bl j=>cases ry; exact ne_bool (zS I q (congrArg not Uz))
  | str j=>obtain ⟨t',rfl⟩:=ry; exact PySem.EqMixed.ne_bool_str (zS I q (by simp))
  | _=>exact absurd (show false=true from hs) Bool.false_ne_true
 | int i =>
  obtain ⟨t,rfl⟩:=rx
  cases y with
  | non=>cases ry; exact PySem.EqNone.ne_int_none (zS I q (by simp))
  | int j=>obtain ⟨t',rfl⟩:=ry; exact ne_int (zS I q (congrArg not YY))
  | str j=>obtain ⟨t',rfl⟩:=ry; exact PySem.EqMixed.ne_int_str (zS I q (by simp))
  | _=>exact absurd (show false=true from hs) Bool.false_ne_true
 | str i =>
  obtain ⟨t,rfl⟩:=rx
  cases y with
  | non=>cases ry; exact PySem.EqNone.ne_str_none (zS I q (by simp))
  | bl j=>cases ry; exact PySem.EqMixed.ne_str_bool (zS I q (by simp))
  | int j=>obtain ⟨t',rfl⟩:=ry; exact PySem.EqMixed.ne_str_int (zS I q (by simp))
  | str j=>obtain ⟨t',rfl⟩:=ry; exact ne_str (zS I q (congrArg not YZ))
  | _=>exact absurd (show false=true from hs) Bool.false_ne_true
 | byt i =>
  obtain ⟨t,rfl⟩:=rx
  cases y with
  | byt j=>obtain ⟨t',rfl⟩:=ry; exact PySem.W.ne_bytes (zS I q (congrArg not Y0))
  | _=>exact absurd (show false=true from hs) Bool.false_ne_true
 | _=>cases y <;> exact absurd (show false=true from hs) Bool.false_ne_true
theorem sg:Q8 X (compareOp .Lt) (Jc fun i j=>.bl (decide (i < j))):=Rw fun _ _ _ _ _ _ _ q=>lt_int q
theorem qX:Q8 X (compareOp .LtE) (Jc fun i j=>.bl (decide (i<=j))):=Rw fun _ _ _ _ _ _ _ q=>le_int q
theorem qY:Q8 X (compareOp .Gt) (Jc fun i j=>.bl (decide (j < i))):=Rw fun _ _ _ _ _ _ _ q=>gt_int q
theorem zA (b:Expr) {op:CmpOp} (h:op ≠ .In:=by decide) (h2:op ≠ .NotIn:=by decide):behindInMarks op b=false:=by
 have e1:(op == CmpOp.In)=false:=by cases op <;> first | rfl | exact absurd rfl h
 have e2:(op == CmpOp.NotIn)=false:=by cases op <;> first | rfl | exact absurd rfl h2
 cases b <;> simp [behindInMarks,e1,e2]
theorem yu {op:CmpOp} {r:R2} (ho:Q8 X (compareOp op) r) (ha:PE X a ta) (hb:PE X b tb) (hm:behindInMarks op b=false):PE X (.Compare a [op] [b] pos) (Ja r ta tb):=by
 intro pins s σ H Q I h
 exact wpAny_Compare1 (Ru ha hb I h fun v u s2 x y H2 I2 rx ry q=>ho pins s2 σ H2 x y v u Q I2 rx ry q) hm
def T8 (t:TE):TT:=fun σ H Q=>t σ H fun x H'=>∃ k,x = .bl k /\ Q k H'
theorem zD {op:CmpOp} {r:R2} (ho:Q8 X (compareOp op) r) (ha:PE X a ta) (hb:PE X b tb) (hm:behindInMarks op b=false):PT X (.Compare a [op] [b] pos) (T8 (Ja r ta tb)):=by
 intro pins s σ H Q I h
 refine wpAny_isTrue_Compare1 (QX (ha pins s σ H _ I h) fun v s1 ⟨x,H1,I1,r1,q1⟩=>QX (hb pins s1 σ H1 _ I1 q1) fun u s2 ⟨y,H2,I2,r2,q2⟩ =>
  QX (ho pins s2 σ H2 x y v u _ I2 r1 r2 q2) fun c s3 ⟨z,H3,I3,r3,k,e,q3⟩=>?_) hm
 subst e
 cases r3
 exact wpAny_truthy_bool ⟨H3,I3,q3⟩
def UA (r r':R2) (ta tb tc:TE):TE:=fun σ H Q=>ta σ H fun x H1=>tb σ H1 fun y H2=>r x y H2 fun z H3=>∃ k,z = .bl k ∧
 (if k=true then tc σ H3 fun w' H4=>r' y w' H4 Q else Q (.bl false) H3)
theorem jT {op op':CmpOp} {r r':R2} (ho:Q8 X (compareOp op) r) (ho':Q8 X (compareOp op') r') (ha:PE X a ta) (hb:PE X b tb) (hc:PE X c tc)
  (hm:lastMarks [op,op'] [b,c]=false:=by with_unfolding_all rfl):PE X (.Compare a [op,op'] [b,c] pos) (UA r r' ta tb tc):=by
 intro pins s σ H Q I h
 refine Compare_chain (QX (ha pins s σ H _ I h) fun v s1 ⟨x,H1,I1,r1,q1⟩=>chain_link (QX (hb pins s1 σ H1 _ I1 q1) fun u s2 ⟨y,H2,I2,r2,q2⟩ =>
  QX (ho pins s2 σ H2 x y v u _ I2 r1 r2 q2) fun d s3 ⟨z,H3,I3,r3,k,e,q3⟩=>?_)) hm
 subst e
 cases r3
 refine wpAny_truthy_bool ?_
 cases k with
 | false=>exact ite_ff ⟨.bl false,H3,I3,rfl,q3⟩
 | true=>exact ite_tt (chain_last (QX (hc pins s3 σ H3 _ I3 q3) fun w' s4 ⟨z',H4,I4,r4,q4⟩=>ho' pins s4 σ H4 y z' u w' Q I4 r2 r4 q4))
theorem Vi {op op':CmpOp} {r r':R2} (ho:Q8 X (compareOp op) r) (ho':Q8 X (compareOp op') r') (ha:PE X a ta) (hb:PE X b tb) (hc:PE X c tc)
  (hm:lastMarks [op,op'] [b,c]=false:=by with_unfolding_all rfl):PT X (.Compare a [op,op'] [b,c] pos) (T8 (UA r r' ta tb tc)):=by
 intro pins s σ H Q I h
 refine isTrue_chain (QX (ha pins s σ H _ I h) fun v s1 ⟨x,H1,I1,r1,q1⟩=>test_link (QX (hb pins s1 σ H1 _ I1 q1) fun u s2 ⟨y,H2,I2,r2,q2⟩ =>
  QX (ho pins s2 σ H2 x y v u _ I2 r1 r2 q2) fun d s3 ⟨z,H3,I3,r3,k,e,q3⟩=>?_)) hm
 subst e
 cases r3
 refine wpAny_truthy_bool ?_
 cases k with
 | false =>
  obtain ⟨k',e',q'⟩:=q3
  cases e'
  exact ite_ff ⟨H3,I3,q'⟩
 | true =>
  refine ite_tt (test_last (QX (hc pins s3 σ H3 _ I3 q3) fun w' s4 ⟨z',H4,I4,r4,q4⟩=>QX (ho' pins s4 σ H4 y z' u w' _ I4 r2 r4 q4) fun d' s5 ⟨z2,H5,I5,r5,k2,e2,q5⟩=>?_))
  subst e2
  cases r5
  exact wpAny_truthy_bool ⟨H5,I5,q5⟩
def R8 (K:QM) (x:V) (H:Hp) (k:Bool):Prop :=
 match x with
 | .non=>k=false
 | .bl b=>k=b
 | .int i=>k=(i != 0)
 | .str y=>y.length<=sizeLine /\ k=((y.length:Int) != 0)
 | .byt y=>y.size<=sizeLine /\ k=((y.size:Int) != 0)
 | .ref p=>(∃ xs,Q0 K H p xs /\ k = !xs.isEmpty) \/ (∃ xs,Q1 K H p xs /\ k = !xs.isEmpty) \/ ∃ kvs,H p=some (.dK kvs) /\ k = !kvs.isEmpty
 | _=>False
theorem ZP {κ:Type} {kvs:List (κ × V)} {vs:List (κ × Value)} (r:KV kvs vs):(!vs.isEmpty) = !kvs.isEmpty:=by
 cases r <;> rfl
theorem tm {xs:List V} {its:List Value} (r:zP xs its):(!its.toArray.isEmpty) = !xs.isEmpty:=by
 cases r <;> simp
theorem s9:(sizeLine:Nat) < 2 ^ 63:=by rw [sizeLine_eq]; decide
theorem T9:Qv X (fun x H Q=>∃ k,R8 X.K x H k /\ Q k H):=by
 intro pins s σ H x v Q I rx h
 obtain ⟨k,e,q⟩:=h
 have hl:=s9
 have hs:sizeLine=16777216:=sizeLine_eq
 cases x with
 | non =>
  cases rx
  have e':k=false:=e
  subst e'
  exact truthy_none ⟨H,I,q⟩
 | bl b =>
  cases rx
  have e':k=b:=e
  subst e'
  exact wpAny_truthy_bool ⟨H,I,q⟩
 | int i =>
  obtain ⟨t,rfl⟩:=rx
  have e':k=(i != 0):=e
  subst e'
  exact PySem.P.truthy_int ⟨H,I,q⟩
 | str y =>
  obtain ⟨t,rfl⟩:=rx
  obtain ⟨hy,e'⟩:y.length<=sizeLine /\ k=((y.length:Int) != 0):=e
  subst e'
  exact PySem.P.truthy_str (by omega) ⟨H,I.tok _,q⟩
 | byt y =>
  obtain ⟨t,rfl⟩:=rx
  obtain ⟨hy,e'⟩:y.size<=sizeLine /\ k=((y.size:Int) != 0):=e
  subst e'
  exact PySem.W.truthy_bytes (by omega) ⟨H,I.tok _,q⟩
 | ref p =>
  cases rx
  have e':(∃ xs,Q0 X.K H p xs /\ k = !xs.isEmpty) \/ (∃ xs,Q1 X.K H p xs /\ k = !xs.isEmpty) \/ ∃ kvs,H p=some (.dK kvs) /\ k = !kvs.isEmpty:=e
  rcases e' with ⟨xs,hx,e'⟩ | ⟨xs,hx,e'⟩ | ⟨kvs,hx,e'⟩
  ·subst e'
   obtain ⟨its,r,pl,hz⟩:=I.list hx
   have hlen:=r.length
   exact wpAny_truthy_list pl.isList (by simp only [List.size_toArray]; omega) ⟨H,I.tok _,by rw [tm r]; exact q⟩
  ·subst e'
   obtain ⟨its,r,pl,hz⟩:=I.tuple hx
   have hlen:=r.length
   exact truthy_tuple pl (by simp only [List.size_toArray]; omega) ⟨H,I.tok _,by rw [tm r]; exact q⟩
  ·subst e'
   obtain ⟨hz,hS,vs,r,m⟩:kvs.length<=sizeLine /\ (p == sysModules)=false /\ ∃ vs,KV kvs vs /\ s.heap.DictOf (yt X.prog X.w) p vs:=I.hok p _ hx
   have hlen:kvs.length=vs.length:=Paired.length r
   exact wpAny_truthy_dict hS m (by omega) ⟨H,I.tok _,by rw [ZP r]; exact q⟩
 | _=>exact (show False from e).elim
theorem Vj (ha:PE X a ta) (he:∀ whole,isTrue a X.env whole=(do let v ← whole; standAt a.pos; holding [v] (truthy v))) :
  PT X a (fun σ H Q=>ta σ H fun x H'=>∃ k,R8 X.K x H' k /\ Q k H'):=by
 intro pins s σ H Q I h
 exact isTrue_plain (QX (ha pins s σ H _ I h) fun v s1 ⟨x,H1,I1,r1,q1⟩=>T9 pins s1 σ H1 x v Q I1 r1 q1) (he _)
theorem xz {x:V} {us:List Value} (r:zP [x] us):∃ u,us=[u] /\ zU x u:=by
 cases r with
 | cons r1 r2=>cases r2; exact ⟨_,rfl,r1⟩
theorem Y1 {x y:V} {us:List Value} (r:zP [x,y] us):∃ u w',us=[u,w'] /\ zU x u /\ zU y w':=by
 cases r with
 | cons r1 r2 =>
  cases r2 with
  | cons r3 r4=>cases r4; exact ⟨_,_,rfl,r1,r3⟩
theorem xT (hc:X.calm=true):y7 X (.builtin "max") (fun xs H Q=>∃ i j,xs=[.int i,.int j] /\ Q (.int (if j > i then j else i)) H):=by
 intro pins s σ H xs us Q I r h
 obtain ⟨i,j,rfl,q⟩:=h
 obtain ⟨u,w',rfl,⟨t,rfl⟩,⟨t',rfl⟩⟩:=Y1 r
 refine max_two_ints (I.ok.hd hc) fun h' tk k=>⟨_,H,I.kept k,?_,q⟩
 by_cases hj:j > i
 ·rw [if_pos hj,if_pos hj]; exact ⟨_,rfl⟩
 ·rw [if_neg hj,if_neg hj]; exact ⟨_,rfl⟩
theorem ra (hc:X.calm=true):y7 X (.builtin "min") (fun xs H Q=>∃ i j,xs=[.int i,.int j] /\ Q (.int (if j < i then j else i)) H):=by
 intro pins s σ H xs us Q I r h
 obtain ⟨i,j,rfl,q⟩:=h
 obtain ⟨u,w',rfl,⟨t,rfl⟩,⟨t',rfl⟩⟩:=Y1 r
 refine min_two_ints (I.ok.hd hc) fun h' tk k=>⟨_,H,I.kept k,?_,q⟩
 by_cases hj:j < i
 ·rw [if_pos hj,if_pos hj]; exact ⟨_,rfl⟩
 ·rw [if_neg hj,if_neg hj]; exact ⟨_,rfl⟩
theorem Y2:y7 X (.type "int") (fun xs H Q=>(∃ i,xs=[.int i] /\ Q (.int i) H) \/ ∃ k,xs=[.bl k] /\ Q (.int (if k then 1 else 0)) H):=by
 intro pins s σ H xs us Q I r h
 rcases h with ⟨i,rfl,q⟩ | ⟨k,rfl,q⟩
 ·obtain ⟨u,rfl,t,rfl⟩:=xz r
  exact call_int_int ⟨.int i,H,I,⟨_,rfl⟩,q⟩
 ·obtain ⟨u,rfl,r1⟩:=xz r
  cases r1
  exact call_int_bool ⟨.int (if k then 1 else 0),H,I.tok _,⟨_,rfl⟩,q⟩
end
end L2
namespace L2
open PySem PySem.Spec PyProof.Rows
structure ObjM (h:Heap) (x dx C:Addr) (mA:Str->Option Value):Prop where
 obj:h.get? x=some (PySem.W.instObj C dx)
 ns:h.Ns1 dx mA
 ne:dx ≠ x
theorem Y3 {h:Heap} {dx:Addr} {mA:Str->Option Value} (n:h.Ns1 dx mA):∃ od,h.get? dx=some od /\ ∀ name,PySem.W.lookIn name od=some (mA name):=by
 obtain ⟨o,es,ep,ho,hd,hk,_,hm⟩:=n
 refine ⟨o,ho,fun name=>?_⟩
 have e:=hm name
 unfold nsFind findBy at e
 rw [← Array.find?_toList] at e
 unfold PySem.W.lookIn
 rw [hd]
 dsimp only
 split
 ·rename_i y q
  rw [q] at e
  exact congrArg some e
 ·rename_i q
  rw [q] at e
  have a:es.toList.any (·.refKey)=false:=by
   rw [List.any_eq_false]
   intro y hy
   obtain ⟨z,t,hkey⟩:=hk y (Array.mem_toList_iff.mp hy)
   simp [DictEntry.refKey,hkey]
  have a':¬ es.toList.any (·.refKey)=true:=by rw [a]; exact Bool.false_ne_true
  rw [if_neg a']
  exact congrArg some e
theorem ObjM.look {h:Heap} {x dx C:Addr} {mA:Str->Option Value} (I:ObjM h x dx C mA):∃ od,PySem.W.InstAt h x (PySem.W.instObj C dx) C (some od) /\ ∀ name,PySem.W.lookIn name od=some (mA name) :=
 let ⟨od,ho,hl⟩:=Y3 I.ns
 ⟨od,⟨I.obj,rfl,rfl,ho⟩,hl⟩
section
variable {P:Program} {w:World} {H H':Hp} {h h':Heap} {a C dx:Addr} {fs fs':List (Str × V)}
theorem UZ (hok:QQ P w H h) (e:H a=some (.ins C dx fs)):∃ mA,ObjM h a dx C mA /\ (∀ f,W8 (fs.lookup f) (mA f)) /\ PySem.Within mA (fs.map (·.1)) /\ fs.length<=1000 /\ H dx=some (.own a):=by
 obtain ⟨d,z,ne,ob,mA,n,r,q⟩:=(show zT P w H h a (.ins C dx fs) from hok a _ e)
 exact ⟨mA,⟨ob,n,ne⟩,r,q,z,d⟩
end
structure Cls (K:QM) (C:Addr):Prop where
 pg:PySem.W.plainGet K C Str.empty=true
 hd:PySem.W.hasDictIn K C=true
 po:PySem.W.plainOver K C=true
 sa:PySem.W.findIn K (.ref C) "__setattr__" = some (some (.builtin "object.__setattr__"))
theorem Cls.get {K:QM} {C:Addr} (c:Cls K C) (f:Str):PySem.W.plainGet K C f=true:=c.pg
section
variable {X:Cx} {pins:List (Addr × Obj)} {σ:St} {H:Hp} {s:Shared} {A:Around} {E:QN} {Q:QN} {c:Value} {b:Bool}
inductive TyOf (K:QM) (H:Hp):V->Value->Prop where
 | non:TyOf K H .non (.type "NoneType")
 | bl (x:Bool):TyOf K H (.bl x) (.type "bool")
 | int (i:Int):TyOf K H (.int i) (.type "int")
 | str (x:Str):TyOf K H (.str x) (.type "str")
 | flt (x:UInt64):TyOf K H (.flt x) (.type "float")
 | lst {a:Addr} {xs:List V} (e:H a=some (.lst xs)):TyOf K H (.ref a) (.type "list")
 | frz {a:Addr} {o:Obj} {xs:List V} (e:H a=some (.frz o (.lst xs))):TyOf K H (.ref a) (.type "list")
 | tup {a:Addr} {xs:List V} (e:H a=some (.tup xs)):TyOf K H (.ref a) (.type "tuple")
 | dK {a:Addr} {kvs:List (QO × V)} (e:H a=some (.dK kvs)):TyOf K H (.ref a) (.type "dict")
 | dT {a:Addr} {kvs:List (List QO × V)} (e:H a=some (.dT kvs)):TyOf K H (.ref a) (.type "dict")
 | ins {a C dx:Addr} {fs:List (Str × V)} (e:H a=some (.ins C dx fs)) (cl:Cls K C) (ha:PySem.W.findIn K (.ref C) "__class__" = some (some (.builtin "object.__class__")))
   (hn:PySem.W.specialIn K (.builtin "object.__class__") "__get__" = some (some (.builtin "getset_descriptor.__get__"))) (htk:PySem.W.takesIn K (.builtin "object.__class__")=some true)
   (hm:PySem.W.mroIn K C (.type "object")=some true):TyOf K H (.ref a) (.ref C)
theorem xU {x:V} {u t:Value} (I:Inv X pins σ H s) (rx:zU x u) (ty:TyOf X.K H x t) (e:PySem.W.kitOne X.K t c=some b) (h:∀ tk,Q (.bool b) { s with toks:=tk }) :
  wpAny (model X.prog X.w) A (call (.builtin "isinstance") [u,c]) Q E s:=by
 cases ty with
 | non=>cases (show u=Value.none from rx); exact PySem.W.kia_one PySem.W.kitx_none I.kIn True.intro e (fun z=>nomatch z) h
 | bl y=>cases (show u=Value.bool y from rx); exact PySem.W.kia_one PySem.W.kitx_bool I.kIn True.intro e (fun z=>nomatch z) h
 | int i=>obtain ⟨t,q⟩:=(show ∃ t,u=Value.int i t from rx); cases q; exact PySem.W.kia_one PySem.W.kitx_int I.kIn True.intro e (fun z=>nomatch z) h
 | str y=>obtain ⟨t,q⟩:=(show ∃ t,u=Value.str y t from rx); cases q; exact PySem.W.kia_one PySem.W.kitx_str I.kIn True.intro e (fun z=>nomatch z) h
 | flt y=>obtain ⟨t,q⟩:=(show ∃ t,u=Value.float y t from rx); cases q; exact PySem.W.kia_one PySem.W.kitx_float I.kIn True.intro e (fun z=>nomatch z) h
 | @lst a xs ea =>
  cases (show u=Value.ref a from rx)
  obtain ⟨_,_,n,_,h1⟩:=(show zT X.prog X.w H s.heap a (.lst xs) from I.hok a _ ea)
  exact PySem.W.kia_one PySem.W.kitx_list I.kIn ⟨_,h1,rfl⟩ e (fun z=>nomatch z) h
 | @frz a ob xs ea =>
  cases (show u=Value.ref a from rx)
  obtain ⟨_,_,_,n,_,h1⟩:=(show zT X.prog X.w H s.heap a (.frz ob (.lst xs)) from I.hok a _ ea)
  exact PySem.W.kia_one PySem.W.kitx_list I.kIn ⟨_,h1,rfl⟩ e (fun z=>nomatch z) h
 | @tup a xs ea =>
  cases (show u=Value.ref a from rx)
  obtain ⟨_,_,_,p⟩:=(show zT X.prog X.w H s.heap a (.tup xs) from I.hok a _ ea)
  obtain ⟨o,h1,h2,_⟩:=p
  exact PySem.W.kia_one PySem.W.kitx_tuple I.kIn ⟨o,h1,h2⟩ e (fun z=>nomatch z) h
 | @dK a kvs ea =>
  cases (show u=Value.ref a from rx)
  obtain ⟨_,_,vs,_,p⟩:=(show zT X.prog X.w H s.heap a (.dK kvs) from I.hok a _ ea)
  obtain ⟨o,es,ep,h1,h2,_⟩:=p
  exact PySem.W.kia_one PySem.W.kitx_dict I.kIn ⟨o,h1,h2.1⟩ e (fun z=>nomatch z) h
 | @dT a kvs ea =>
  cases (show u=Value.ref a from rx)
  obtain ⟨_,_,xs,_,o,es,ep,h1,h2,_⟩:=(show zT X.prog X.w H s.heap a (.dT kvs) from I.hok a _ ea)
  exact PySem.W.kia_one PySem.W.kitx_dict I.kIn ⟨o,h1,h2.1⟩ e (fun z=>nomatch z) h
 | @ins a C dx fs ea cl ha hn htk hm =>
  cases (show u=Value.ref a from rx)
  obtain ⟨mA,O,_⟩:=UZ I.hok ea
  obtain ⟨od,J,_⟩:=O.look
  exact PySem.W.kia_one (PySem.W.kitx_own (cl.get _) cl.hd ha hn htk hm) I.kIn J e (fun z=>nomatch z) h
end
end L2
namespace L2
open PySem PySem.Spec PyProof.Rows
structure Room (k:Nat) (A:Around):Prop where
 hd:A.handled=none
 dp:A.depth+3 * k+5 < recursionLimit
 un:A.units+16 * k+200 < cLine
 gd:A.guards=some []
theorem Room.mono {j k:Nat} {A:Around} (r:Room k A) (h:j<=k):Room j A:=⟨r.hd,by have:=r.dp; omega,by have:=r.un; omega,r.gd⟩
theorem Room.deeper {k:Nat} {A:Around} (r:Room (k+1) A) (env:Env):Room k (A.deeper env) :=
 ⟨r.hd,by have:=r.dp; show A.depth+1+3 * k+5 < _; omega,by have:=r.un; show A.units+3+16 * k+200 < _; omega,r.gd⟩
theorem Room.depth {k:Nat} {A:Around} (r:Room k A):A.depth < recursionLimit:=by have:=r.dp; omega
theorem Room.units0 {k:Nat} {A:Around} (r:Room k A):A.units < cLine:=by have:=r.un; omega
def R9:TA:=fun _ H Q=>Q [] H
def U0 (ta:TE) (tr:TA):TA:=fun σ H Q=>ta σ H fun x H1=>tr σ H1 fun xs H2=>Q (x :: xs) H2
section
variable {X:Cx} {e:Expr} {es:List Expr} {te:TE} {t:TA} {pos:Pos}
theorem zb:PA X [] R9:=fun _ _ _ _ H Q I h=>Calls.spliced_nil ⟨[],H,I,.nil,h⟩
theorem za (ha:PE X e te) (hr:PA X es t) (hs:starEach (e :: es) X.env=(false,eval e X.env) :: starEach es X.env:=by rfl):PA X (e :: es) (U0 te t):=by
 intro pos pins s σ H Q I h
 rw [hs]
 show wpAny _ _ (spliced ((false,eval e X.env) :: backTo pos (starEach es X.env))) _ _ s
 refine Calls.spliced_cons (QX (ha pins s σ H _ I h) fun u s1 ⟨x,H1,I1,r1,q1⟩=>?_)
 exact QX (hr pos pins s1 σ H1 _ I1 q1) fun us s2 ⟨xs,H2,I2,r2,q2⟩=>⟨x :: xs,H2,I2,.cons r1 r2,q2⟩
def Qw (t:TA):TE:=fun σ H Q=>t σ H fun xs H1=>xs.length<=sizeLine /\ ∀ p,H1 p=none->Q (.ref p) (QP H1 p (.tup xs))
def Qx (t:TA):TE:=fun σ H Q=>t σ H fun xs H1=>xs.length<=sizeLine /\ ∀ p,H1 p=none->Q (.ref p) (QP H1 p (.lst xs))
theorem zR {x1} (h:PA X es t):PE X (.Tuple es x1 pos) (Qw t):=by
 intro pins s σ H Q I hq
 refine wpAny_Tuple_spliced (QX (h pos pins s σ H _ I hq) fun us s1 ⟨xs,H1,I1,r,z,q⟩=>⟨by rw [← r.length]; exact z,?_⟩)
 have hf:H1 s1.heap.objs.size=none:=I1.hok.fresh (Nat.le_refl _)
 refine ⟨.ref s1.heap.objs.size,QP H1 s1.heap.objs.size (.tup xs),I1.laid (t':=s1.toks) (fun b u e=>Heap.get?_push_of_some _ e) (Nat.le_refl _) ?_,rfl,q _ hf⟩
 exact ⟨z,us,r,⟨_,Heap.get?_push_size _ rfl,rfl,_,rfl⟩⟩
theorem yI (h:PA X es t):PE X (.List es pos) (Qx t):=by
 intro pins s σ H Q I hq
 refine wpAny_List_spliced (QX (h pos pins s σ H _ I hq) fun us s1 ⟨xs,H1,I1,r,z,q⟩=>⟨by rw [← r.length]; exact z,?_⟩)
 have hf:H1 s1.heap.objs.size=none:=I1.hok.fresh (Nat.le_refl _)
 refine ⟨.ref s1.heap.objs.size,QP H1 s1.heap.objs.size (.lst xs),I1.laid (t':=s1.toks) (fun b u e=>Heap.get?_push_of_some _ e) (Nat.le_refl _) ?_,rfl,q _ hf⟩
 exact ⟨z,us,0,r,Heap.get?_push_size _ rfl⟩
end
abbrev Sp:=List V->Hp->VK->XK->Prop
abbrev Jh:=List Env->Hp->Shared->XK->Value->Shared->Prop
structure Env0 (P:Program) (w:World) (K:QM) (mg:Str->Option Value) (base:Heap) (A:Around) (outer:List Env) (s:Shared) (H:Hp):Prop where
 frames:A.frames=some outer
 mod:Mod K mg base
 bs:∀ b o,base.get? b=some o->s.heap.get? b=some o /\ H b=none
 bsz:base.objs.size<=s.heap.objs.size
 funs:s.heap.FunFrames base outer
 frf:∀ b ∈ QT outer,H b=none
 hok:QQ P w H s.heap
 bare:AllBare s.gens
def CE (outer:List Env) (P:Program) (w:World) (H:Hp) (s:Shared) (Q:VK) (u:Value) (s':Shared):Prop :=
 ∃ v H',s'.os=s.os /\ AllBare s'.gens /\ Un (QT outer) [] H H' s.heap s'.heap /\ QQ P w H' s'.heap /\ zU v u /\ Q v H'
def CR (CX:Jh) (outer:List Env) (P:Program) (w:World) (H:Hp) (s:Shared) (Q:VK) (E:XK) (r:Result) (s':Shared):Prop :=
 match r with
 | .ok (.ret u)=>CE outer P w H s Q u s'
 | .ok _=>False
 | .error e=>CX outer H s E e s'
structure FnOk (P:Program) (w:World) (K:QM) (mg:Str->Option Value) (base:Heap) (CX:Jh) (k:Nat) (f:Addr) (fd:FuncData) (ps:List Str) (sp:Sp):Prop where
 len:∀ vs H Q E,sp vs H Q E->vs.length=ps.length
 run:∀ (A:Around) (outer:List Env) (s:Shared) (H:Hp) (args:Args) (us:List Value) (vs:List V) (Q:VK) (E:XK),Room k A->Env0 P w K mg base A outer s H->BindsTo s fd args (ps.zip us)->zP vs us->sp vs H Q E →
  codeAny (model P w) A (.call (.ref f) args) (CR CX outer P w H s Q E) s
theorem FnOk.mono {P:Program} {w:World} {K:QM} {mg:Str->Option Value} {base:Heap} {CX:Jh} {j k:Nat} {f:Addr} {fd:FuncData} {ps:List Str} {sp:Sp} (F:FnOk P w K mg base CX j f fd ps sp) (h:j<=k) :
  FnOk P w K mg base CX k f fd ps sp:=⟨F.len,fun A outer s H args us vs Q E hr=>F.run A outer s H args us vs Q E (hr.mono h)⟩
section
variable {X:Cx} {pins:List (Addr × Obj)} {σ:St} {H:Hp} {s s':Shared}
theorem Inv.env0 (I:Inv X pins σ H s):Env0 X.prog X.w X.K X.mg X.base X.A X.stack s H :=
 ⟨I.ok.frames,I.ok.mod,I.bs,Nat.le_trans I.ok.bsz I.sz,I.stack,I.stkFree,I.hok,I.bare⟩
theorem Inv.after {Q:VK} {u:Value} (I:Inv X pins σ H s) (h:CE X.stack X.prog X.w H s Q u s'):EP X pins σ Q u s':=by
 obtain ⟨v,H',os,bare,un,hok,r,q⟩:=h
 obtain ⟨hh,g,d,t,os'⟩:=s'
 obtain rfl:os' = s.os:=os
 exact ⟨v,H',I.call (h':=hh) (g':=g) (d':=d) (t':=t) (ch:=[]) un hok bare (fun b z=>absurd z (by simp)),r,q⟩
end
def Vk (sp:Sp) (dvs:List V) (E:XK) (t:TA):TE:=fun σ H Q=>t σ H fun vs H1=>sp (vs ++ dvs) H1 Q E
def sh (K:QM) (fd:FuncData) (ps:List Str) (ds:List Value):Prop :=
 ∀ (s:Shared) (us:List Value),K.In s.heap->(us ++ ds).length=ps.length->BindsTo s fd ⟨us,[]⟩ (ps.zip (us ++ ds))
theorem sh.all {K:QM} {fd:FuncData} {ps:List Str} (h:∀ us:List Value,us.length=ps.length->bindArgs fd ⟨us,[]⟩=pure (ps.zip us)):sh K fd ps []:=fun s us _ hl=>by
 rw [List.append_nil] at hl ⊢
 exact .of_eq (h us hl)
def uf (CX:Jh) (X:Cx) (E:XK):Prop:=∀ (pins:List (Addr × Obj)) (σ:St) (H:Hp) (s:Shared) (e:Value) (s':Shared),Inv X pins σ H s->CX X.stack H s E e s' -> X.xe e s'
section
variable {X:Cx} {CX:Jh} {k:Nat} {f C:Addr} {fd:FuncData} {ps:List Str} {sp:Sp} {dvs:List V} {ds:List Value} {E:XK} {x m:Str} {p pos apos:Pos} {e o:Expr} {es:List Expr} {ta:TE} {t:TA}
theorem Sa {pins:List (Addr × Obj)} {σ:St} {H:Hp} {s:Shared} {Q:VK} {us:List Value} {vs:List V} (F:FnOk X.prog X.w X.K X.mg X.base CX k f fd ps sp) (hr:Room k X.A) (hb:sh X.K fd ps ds) (hd:zP dvs ds) (hx:uf CX X E)
  (I:Inv X pins σ H s) (r:zP vs us) (h:sp (vs ++ dvs) H Q E):wpAny (model X.prog X.w) X.A (call (.ref f) us) (EP X pins σ Q) X.xe s:=by
 have r2:zP (vs ++ dvs) (us ++ ds):=r.append hd
 have hl:(us ++ ds).length=ps.length:=by rw [← r2.length]; exact F.len _ _ _ _ h
 refine wpAny_call (codeAny_mono (F.run X.A X.stack s H ⟨us,[]⟩ (us ++ ds) (vs ++ dvs) Q E hr I.env0 (hb s us I.kIn hl) r2 h) fun r s' hq=>?_)
 cases r with
 | error e=>exact hx pins σ H s e s' I hq
 | ok fl =>
  cases fl with
  | ret u=>exact I.after hq
  | next=>exact False.elim hq
  | brk=>exact False.elim hq
  | cont=>exact False.elim hq
theorem Y4 (F:FnOk X.prog X.w X.K X.mg X.base CX k f fd ps sp) (hr:Room k X.A) (hg:Gl X x) (hm:X.mg x=some (.ref f)) (hk:PySem.W.keepIn X.K (.ref f)=true) (hb:sh X.K fd ps ds) (hd:zP dvs ds) (hx:uf CX X E)
  (ha:PA X (e :: es) t) (hdb:(x == ("__debug__":Str))=false:=by decide) (he:starEach (e :: es) X.env=(false,eval e X.env) :: starEach es X.env:=by rfl) (hpl:(backTo pos (starEach es X.env)).any (·.1)=false:=by rfl) :
  PE X (.Call (.Name x p) (e :: es) [] pos) (Vk sp dvs E t):=by
 intro pins s σ H Q I h
 refine wpAny_Call_Name_kw (ua I hg hm ?_ hdb)
 refine PySem.W.callWith_K (h₀:=X.base) I.ok.mod.kin hk (QX (ha pos pins s σ H _ I h) fun us s1 ⟨vs,H1,I1,r,q⟩=>⟨I1.kIn,?_⟩) he hpl
 exact Sa F hr hb hd hx I1 r q
end
structure FnScope (N P:List Str) (sc:Scope):Prop where
 kind:sc.kind = .function
 co:sc.isCoroutine=false
 gen:sc.isGenerator=false
 nd:N.Nodup
 pre:N.take P.length=P
 par:∀ x ∈ P,sc.names.lookup x=some .local \/ sc.names.lookup x=some .cell
 nofree:∀ y ∈ sc.names,y.2 ≠ .free
theorem re {kindOf:Str->Option NameKind} {x:Str}:∀ {binds:List (Str × Value)} {m:Str->Option Value},(∀ v,(x,v) ∉ binds)->bindL kindOf binds m x=m x
 | [],_,_=>rfl
 | (n,v) :: r,m,h=>by
  unfold bindL
  rw [re fun w hw=>h w (List.mem_cons_of_mem _ hw)]
  split
  ·have:x ≠ n:=by rintro rfl; exact h v List.mem_cons_self
   simp [this]
  ·rfl
theorem rg {kindOf:Str->Option NameKind} {x:Str}:∀ {binds:List (Str × Value)} {m:Str->Option Value},(∀ v,(x,v) ∉ binds)->bindC kindOf binds m x=m x
 | [],_,_=>rfl
 | (n,v) :: r,m,h=>by
  unfold bindC
  rw [rg fun w hw=>h w (List.mem_cons_of_mem _ hw)]
  split
  ·rfl
  ·have:x ≠ n:=by rintro rfl; exact h v List.mem_cons_self
   simp [this]
theorem rh {kindOf:Str->Option NameKind} {x:Str} {v:Value}:∀ {P:List Str} {vs:List Value} {i:Nat} {m:Str->Option Value},P.Nodup->P[i]? = some x->vs[i]? = some v->kindOf x=some .local →
  bindL kindOf (P.zip vs) m x=some v
 | [],_,_,_,_,h,_,_=>by simp at h
 | _ :: _,[],_,_,_,_,h,_=>by simp at h
 | p :: P,w :: vs,0,m,nd,h1,h2,hk=>by
  simp at h1 h2; subst h1; subst h2
  show bindL kindOf ((p,w) :: P.zip vs) m p=_
  unfold bindL
  rw [re fun v hv=>(List.nodup_cons.mp nd).1 (List.of_mem_zip hv).1,if_pos hk]
  simp
 | p :: P,w :: vs,i+1,m,nd,h1,h2,hk=>by
  show bindL kindOf ((p,w) :: P.zip vs) m x=_
  unfold bindL
  exact rh (i:=i) (List.nodup_cons.mp nd).2 (by simpa using h1) (by simpa using h2) hk
theorem rj {kindOf:Str->Option NameKind} {x:Str} {v:Value}:∀ {P:List Str} {vs:List Value} {i:Nat} {m:Str->Option Value},P.Nodup->P[i]? = some x->vs[i]? = some v->kindOf x ≠ some .local →
  bindC kindOf (P.zip vs) m x=some v
 | [],_,_,_,_,h,_,_=>by simp at h
 | _ :: _,[],_,_,_,_,h,_=>by simp at h
 | p :: P,w :: vs,0,m,nd,h1,h2,hk=>by
  simp at h1 h2; subst h1; subst h2
  show bindC kindOf ((p,w) :: P.zip vs) m p=_
  unfold bindC
  rw [rg fun v hv=>(List.nodup_cons.mp nd).1 (List.of_mem_zip hv).1,if_neg hk]
  simp
 | p :: P,w :: vs,i+1,m,nd,h1,h2,hk=>by
  show bindC kindOf ((p,w) :: P.zip vs) m x=_
  unfold bindC
  exact rj (i:=i) (List.nodup_cons.mp nd).2 (by simpa using h1) (by simpa using h2) hk
def start (N:List Str) (vs:List V):St:=vs.map some ++ List.replicate (N.length - vs.length) none
def qZ (CX:Jh) (P:Program) (w:World) (K:QM) (mg:Str->Option Value) (base:Heap) (N:List Str) (qual:Str) (scope:Scope) (f:Addr) (cd:Value) (A:Around) (outer:List Env) (s:Shared) (H:Hp) (E:XK):Cx where
 prog:=P
 w:=w
 K:=K
 mg:=mg
 base:=base
 A:=A.deeper (envOfC qual scope s.heap.objs.size f cd)
 N:=N
 s₀:=s
 H₀:=H
 env:=envOfC qual scope s.heap.objs.size f cd
 outer:=outer
 stack:=envOfC qual scope s.heap.objs.size f cd :: outer
 ex:=[]
 calm:=true
 fn:=fun _=>true
 pn:=[]
 xe:=fun e s'=>wpAny (model P w) (A.deeper (envOfC qual scope s.heap.objs.size f cd)) (leaving (envOfC qual scope s.heap.objs.size f cd) e) (fun _ s''=>CX outer H s E e s'') (fun e' s''=>CX outer H s E e' s'') s'
theorem jU {sc:Scope} {n:Nat} {x:Str} (h:sc.names.lookup x=some .cell):∃ c,(cellsFrom n sc.names []).lookup x=some c:=by
 have q:=PySem.W.cellsFrom_some sc.names n [] (.inl h)
 exact Option.isSome_iff_exists.mp q
theorem rn {CX:Jh} {P:Program} {w:World} {K:QM} {mg:Str->Option Value} {base:Heap} {N ps:List Str} {qual:Str} {scope:Scope} {f:Addr} {cd:Value} {A:Around} {outer:List Env} {s s1:Shared} {H:Hp} {E:XK} {us:List Value} {vs:List V}
  (S:FnScope N ps scope) (hd:A.handled=none) (e0:Env0 P w K mg base A outer s H) (hl:vs.length=ps.length) (r:zP vs us)
  (x:InCallC s s.heap.objs.size (bindL (envOfC qual scope s.heap.objs.size f cd).kindOf (ps.zip us) fun _=>none) (cellsFrom (s.heap.objs.size+1) scope.names []) (bindC (envOfC qual scope s.heap.objs.size f cd).kindOf (ps.zip us) fun _=>none) s1) :
  Inv (qZ CX P w K mg base N qual scope f cd A outer s H E) [] (start N vs) H s1:=by
 have hpl:ps.length<=N.length:=by have:=congrArg List.length S.pre; rw [List.length_take] at this; omega
 obtain ⟨h1,tk,rfl,hk⟩:=x.done
 have noA:∀ b:Addr,b ∉ (qZ CX P w K mg base N qual scope f cd A outer s H E).ex:=fun b z=>absurd (show b ∈ ([]:List Addr) from z) (by simp)
 refine ⟨⟨e0.mod,S.kind,rfl,rfl,Nat.le_refl _,fun y z c h1 h2=>?_,fun y hy=>?_,fun y c _ h=>?_,fun _=>hd,Around.frames_deeper e0.frames,.inr ⟨rfl,rfl⟩,fun b z=>absurd z (noA b),e0.bs,e0.bsz,fun b _ _=>noA b,fun b z=>absurd z (noA b),e0.funs,e0.frf⟩,
  rfl,e0.bare,Un.kept hk,⟨_,x.toInCall.ns,fun i y v h1 h2 h3=>?_⟩,fun y c h=>⟨_,x.cell y c h⟩,e0.hok.fresh (Nat.le_refl _),fun y c h=>?_,fun p hp=>absurd (show p ∈ ([]:List (Addr × Obj)) from hp) (by simp),e0.hok.kept hk,?_⟩
 ·exact name_of_addr x.apart (PySem.mem_of_lookup h1) (PySem.mem_of_lookup h2)
 ·have hy:scope.names.lookup y=some .cell \/ scope.names.lookup y=some .free:=hy
  rcases hy with hy | hy
  ·exact jU hy
  ·exact absurd rfl (S.nofree _ (PySem.mem_of_lookup hy))
 ·exact Nat.le_of_lt (x.above y c (PySem.mem_of_lookup h))
 ·have hi:i < vs.length:=by
   unfold start at h2
   by_cases hi:i < vs.length
   ·exact hi
   ·rw [List.getElem?_append_right (by simpa using hi)] at h2
    rw [List.getElem?_replicate] at h2
    split at h2 <;> cases h2
  have ha:vs[i]? = some v:=by
   unfold start at h2
   rw [List.getElem?_append_left (by simpa using hi),List.getElem?_map] at h2
   cases e:vs[i]? with
   | none=>rw [e] at h2; cases h2
   | some a=>rw [e] at h2; cases h2; rfl
  obtain ⟨u,hu,rv⟩:=r.get ha
  have hp:ps[i]? = some y:=by
   rw [← S.pre,List.getElem?_take_of_lt (by omega)]; exact h1
  have ndP:ps.Nodup:=by rw [← S.pre]; exact S.nd.sublist (List.take_sublist _ _)
  refine ⟨u,rv,?_⟩
  rcases S.par y (List.mem_of_getElem? hp) with k | k
  ·exact .inl ⟨k,rh ndP hp hu k⟩
  ·obtain ⟨c,e⟩:=jU (n:=s.heap.objs.size+1) k
   refine .inr ⟨.inl k,c,e,?_⟩
   have q:=x.cell y c e
   rw [rj ndP hp hu (by show scope.names.lookup y ≠ _; rw [k]; decide)] at q
   exact q
 ·exact e0.hok.fresh (Nat.le_of_lt (x.above y c (PySem.mem_of_lookup h)))
 ·unfold start
  show _=N.length
  rw [List.length_append,List.length_map,List.length_replicate]
  omega
theorem Sb {CX:Jh} {P:Program} {w:World} {K:QM} {mg:Str->Option Value} {base:Heap} {k:Nat} {f:Addr} {name qual:Str} {params:Arguments} {body:List Stmt} {scope:Scope} {dV kV doc pm cdv ct oc:Value} {an od:Option Addr}
  {osl:Array (Option Value)} {N ps:List Str} {sp:Sp} (lk:K.lookup f=some ⟨oc,od,.func (PySem.W.fnOf name qual params body scope dV kV doc pm an cdv ct),osl⟩) (hcd:PySem.W.codeIn K cdv qual=true) (S:FnScope N ps scope)
  (len:∀ vs H Q E,sp vs H Q E->vs.length=ps.length)
  (hbody:∀ (A:Around) (outer:List Env) (s:Shared) (H:Hp) (vs:List V) (Q:VK) (E:XK),Room k (A.deeper (envOfC qual scope s.heap.objs.size f cdv))->sp vs H Q E →
   ∃ t,QW (qZ CX P w K mg base N qual scope f cdv A outer s H E) body t /\ t { nx:=fun _ H'=>Q .non H',rt:=Q } (start N vs) H) :
  FnOk P w K mg base CX (k+1) f (PySem.W.fnOf name qual params body scope dV kV doc pm an cdv ct) ps sp:=by
 refine ⟨len,fun A outer s H args us vs Q E hr e0 hb r hsp=>?_⟩
 have hl:=len _ _ _ _ hsp
 have KX:K.In s.heap:=e0.mod.kin.keeps fun b o e=>(e0.bs b o e).1
 have lim:s.heap.NoLimit:=e0.mod.nolimit.keeps fun b o e=>(e0.bs b o e).1
 have hkind:∀ y ∈ ps.zip us,scope.names.lookup y.1=some .local \/ (scope.names.lookup y.1=some .cell /\ ((cellsFrom (s.heap.objs.size+1) scope.names []).lookup y.1).isSome=true):=fun ⟨n,v⟩ hy=>by
  rcases S.par n (List.of_mem_zip hy).1 with q | q
  ·exact .inl q
  ·exact .inr ⟨q,PySem.W.cellsFrom_some _ _ _ (.inl q)⟩
 refine codeAny_call_function hr.depth (KX _ _ lk) rfl S.co S.gen rfl (PySem.W.codeRec_of KX hcd) (hb _ _ _ _ ?_)
 refine wpAny_newFunctionEnv_cells S.kind hkind fun env he s1 x=>?_
 subst he
 refine ⟨lim.keeps x.toInCall.keep,codeAny_func ?_⟩
 obtain ⟨t,ht,hq⟩:=hbody A outer s H vs Q E (hr.deeper _) hsp
 have I:Inv (qZ CX P w K mg base N qual scope f cdv A outer s H E) [] (start N vs) H s1:=rn S hr.hd e0 hl r x
 refine wpAny_mono (ht [] s1 (start N vs) H _ I hq) (fun fl s' hs=>?_) fun e s' hs=>hs
 have fin:∀ {σ':St} {H':Hp} {v:V} {u:Value},Inv (qZ CX P w K mg base N qual scope f cdv A outer s H E) [] σ' H' s' -> zU v u->Q v H' -> CE outer P w H s Q u s' :=
  fun {σ' H' v u} J rv q=>⟨v,H',J.os,J.bare,J.base,J.hok,rv,q⟩
 cases fl with
 | ret u =>
  obtain ⟨v,σ',H',J,rv,q⟩:=hs
  exact fin J rv q
 | next =>
  obtain ⟨σ',H',J,q⟩:=hs
  exact fin (v:=V.non) (u:=Value.none) J rfl q
 | brk =>
  obtain ⟨_,_,_,q⟩:=hs
  exact False.elim q
 | cont =>
  obtain ⟨_,_,_,q⟩:=hs
  exact False.elim q
end L2
namespace L2
open PySem PySem.Spec PyProof.Rows
section
variable {X:Cx} {x:Str} {p pos:Pos} {e:Expr} {es:List Expr} {t:TA} {id T:String} {r:List V->Hp->VK->Prop}
def Ji (r:List V->Hp->VK->Prop) (t:TA):TE:=fun σ H Q=>t σ H fun vs H1=>r vs H1 Q
theorem zm (hc:y7 X (.builtin id) r) (hg:Gl X x) (hm:X.mg x=none) (hv:bootBuiltins x=some (.builtin id)) (ha:PA X (e :: es) t) (hn:x ≠ "__name__":=by decide) (hdb:(x == ("__debug__":Str))=false:=by decide)
  (he:starEach (e :: es) X.env=(false,eval e X.env) :: starEach es X.env:=by rfl) (hpl:(backTo pos (starEach es X.env)).any (·.1)=false:=by rfl):PE X (.Call (.Name x p) (e :: es) [] pos) (Ji r t):=by
 intro pins s σ H Q I h
 refine wpAny_Call_Name_kw (wv I hg hm hv ?_ hn hdb)
 exact PyProof.Rows.callWith_builtin1 (QX (ha pos pins s σ H _ I h) fun us s1 ⟨vs,H1,I1,r1,q1⟩=>hc pins s1 σ H1 vs us Q I1 r1 q1) he hpl
theorem yk (hc:y7 X (.type T) r) (hg:Gl X x) (hm:X.mg x=none) (hv:bootBuiltins x=some (.type T)) (ha:PA X (e :: es) t) (hn:x ≠ "__name__":=by decide) (hdb:(x == ("__debug__":Str))=false:=by decide)
  (he:starEach (e :: es) X.env=(false,eval e X.env) :: starEach es X.env:=by rfl) (hpl:(backTo pos (starEach es X.env)).any (·.1)=false:=by rfl):PE X (.Call (.Name x p) (e :: es) [] pos) (Ji r t):=by
 intro pins s σ H Q I h
 refine wpAny_Call_Name_kw (wv I hg hm hv ?_ hn hdb)
 exact PyProof.Rows.callWith_type1 (QX (ha pos pins s σ H _ I h) fun us s1 ⟨vs,H1,I1,r1,q1⟩=>hc pins s1 σ H1 vs us Q I1 r1 q1) he hpl
end
end L2
namespace HT
open PySem PyProof.Rows
section
variable {prog:Program} {w:World} {A:Around} {E:QN} {s:Shared}
theorem cat_tup {t b:Addr} {vs ws:List Value} {Q:QN} (ht:IsTup s.heap t vs.toArray) (hb:IsTup s.heap b ws.toArray) (hv:vs ≠ [])
  (h1:ws=[]->Q (.ref t) s) (h2:ws ≠ []->Q (.ref s.heap.objs.size) { s with heap:=s.heap.push { cls:=.type "tuple",data:=.seq (vs ++ ws).toArray } })
  (hsz:vs.length+ws.length<=sizeLine):wpAny (model prog w) A (binaryOp .Add (.ref t) (.ref b)) Q E s:=by
 obtain ⟨⟨cls,dd,data,sl⟩,ho,hc,n,hd⟩:=id ht
 obtain ⟨⟨cls2,dd2,data2,sl2⟩,ho2,hc2,n2,hd2⟩:=id hb
 simp only at hc hd hc2 hd2
 subst hc hd hc2 hd2
 have e:vs.toArray ++ ws.toArray=(vs ++ ws).toArray:=by simp
 by_cases hw:ws=[]
 ·exact concat_meets ⟨_,ho,rfl⟩ ⟨_,ho2,rfl⟩ noFill_tuple_add seq_tuple_add PySem.F.slot_tuple_add PySem.F.entry_tuple_add (PySem.F.args_tuple_add_2 _ _)
   (tuple_addW1 t b vs.toArray ws.toArray n n2 dd dd2 sl sl2 (by simpa using hv) (by simp [hw])) ⟨ho,ho2,h1 hw⟩
 ·refine concat_meets ⟨_,ho,rfl⟩ ⟨_,ho2,rfl⟩ noFill_tuple_add seq_tuple_add PySem.F.slot_tuple_add PySem.F.entry_tuple_add (PySem.F.args_tuple_add_2 _ _)
   (tuple_addW2 t b vs.toArray ws.toArray n n2 dd dd2 sl sl2 (by simpa using hv) (by simpa using hw) (by rw [List.size_toArray,List.size_toArray]; exact hsz)) ⟨ho,ho2,?_⟩
  rw [e]
  exact h2 hw
def sIx (n d:Nat):Option Int->Nat
 | none=>d
 | some v=>if v < 0 then (v+(n:Int)).toNat else min v.toNat n
theorem sIx_none (n d:Nat):sIx n d none=d:=rfl
theorem sIx_nat (n d k:Nat):sIx n d (some (k:Int))=min k n:=by
 show (if (k:Int) < 0 then ((k:Int)+(n:Int)).toNat else min (k:Int).toNat n)=min k n
 rw [if_neg (by omega),Int.toNat_natCast]
theorem Sc (n d:Nat) (hd:d<=n) (o:Option Int):sIx n d o<=n:=by
 cases o with
 | none=>exact hd
 | some v =>
  show (if v < 0 then (v+(n:Int)).toNat else min v.toNat n)<=n
  by_cases hv:v < 0
  ·rw [if_pos hv]; omega
  ·rw [if_neg hv]; exact Nat.min_le_right _ _
theorem Y5 (v:Int) (n d:Nat):(if v < 0 then max (v+(n:Int)) 0 else min v (n:Int))=((sIx n d (some v):Nat):Int):=by
 show (if v < 0 then max (v+(n:Int)) 0 else min v (n:Int))=(((if v < 0 then (v+(n:Int)).toNat else min v.toNat n):Nat):Int)
 by_cases hv:v < 0
 ·simp only [if_pos hv]; omega
 ·simp only [if_neg hv]; omega
theorem ZQ (lo hi:Option Int) (n:Nat):Builtin.Slice.sliceAdjust lo hi 1 (n:Int)=(((sIx n 0 lo:Nat):Int),((sIx n n hi:Nat):Int)):=by
 have h1:¬ ((1:Int) < 0):=by omega
 unfold Builtin.Slice.sliceAdjust
 simp only [h1,if_false]
 refine Prod.ext ?_ ?_
 ·cases lo with
  | none=>rfl
  | some v=>exact Y5 v n 0
 ·cases hi with
  | none=>rfl
  | some v=>exact Y5 v n n
theorem ZR (i j:Nat):Builtin.Slice.slicePlaces (i:Int) (j:Int) 1=j - i:=by
 unfold Builtin.Slice.slicePlaces
 have h1:(1:Int) > 0:=by omega
 simp only [h1,if_true,Int.ediv_one]
 split <;> omega
theorem slicePart_ {v:Value} {o:Option Int} {Q:Option Int->Shared->Prop} (p:IsPart v o) (h:Q o s):wpAny (model prog w) A (Builtin.Slice.slicePartIndex v) Q E s:=by
 cases p with
 | none=>exact slicePart_none h
 | int i t=>exact slicePart_int h
theorem xK {sl:Addr} {vl vu:Value} {lo hi:Option Int} {n:Nat} {Q:Int × Int × Nat->Shared->Prop} (hs:s.heap.IsSliceOf sl vl vu .none) (pl:IsPart vl lo) (pu:IsPart vu hi)
  (h:Q (((sIx n 0 lo:Nat):Int),1,sIx n n hi - sIx n 0 lo) s):wpAny (model prog w) A (Builtin.Slice.sliceApplied (.ref sl) (pure (n:Int))) Q E s:=by
 obtain ⟨os,hos,hcs,hds⟩:=id hs
 unfold Builtin.Slice.sliceApplied Builtin.Slice.sliceFields
 refine wpAny_bind (wpAny_bind (wpAny_field hos hds (x:=vl) rfl (wpAny_bind (wpAny_field hos hds (x:=vu) rfl (wpAny_bind (wpAny_field hos hds (x:=.none) rfl (wpAny_pure ?_)))))))
 refine wpAny_bind (slicePart_none ?_)
 show wpAny _ _ (if ((1:Int) == 0)=true then _ else _) _ _ s
 rw [if_neg (by decide)]
 refine wpAny_bind (slicePart_ pl (wpAny_bind (slicePart_ pu (wpAny_bind (wpAny_pure ?_)))))
 show wpAny _ _ (match Builtin.Slice.sliceAdjust lo hi 1 (n:Int) with | (lo,hi)=>pure (lo,(1:Int),Builtin.Slice.slicePlaces lo hi 1)) _ _ s
 rw [ZQ lo hi n]
 show wpAny _ _ (pure (((sIx n 0 lo:Nat):Int),(1:Int),Builtin.Slice.slicePlaces ((sIx n 0 lo:Nat):Int) ((sIx n n hi:Nat):Int) 1)) _ _ s
 rw [ZR]
 exact wpAny_pure h
theorem Vl (xs:Array Value) (i k:Nat):((List.range k).filterMap fun (m:Nat)=>xs[((i:Int)+(m:Int) * 1).toNat]?).toArray=((xs.toList.drop i).take k).toArray:=by
 have e:(fun (m:Nat)=>xs[((i:Int)+(m:Int) * 1).toNat]?)=fun m=>xs[i+m]?:=by
  funext m
  have:((i:Int)+(m:Int) * 1).toNat=i+m:=by omega
  rw [this]
 rw [e]
 have:=pick_run xs i k
 rw [List.filterMap_map] at this
 have e2:((fun x=>xs[x]?) ∘ fun x=>i+x)=fun m=>xs[i+m]?:=rfl
 rw [e2] at this
 rw [this]
theorem getItem_tuple_cut {t sl:Addr} {items:Array Value} {vl vu:Value} {lo hi:Option Int} {Q:QN} (ht:IsTup s.heap t items) (hs:s.heap.IsSliceOf sl vl vu .none) (pl:IsPart vl lo) (pu:IsPart vu hi)
  (hw:¬ (sIx items.size 0 lo=0 /\ sIx items.size items.size hi=items.size))
  (h:Q (.ref s.heap.objs.size) { s with heap:=s.heap.push { cls:=.type "tuple",data:=.seq ((items.toList.drop (sIx items.size 0 lo)).take (sIx items.size items.size hi - sIx items.size 0 lo)).toArray } })
  (hsz:items.size<=sizeLine):wpAny (model prog w) A (getItem (.ref t) (.ref sl)) Q E s:=by
 have htake:sizeOk (.seq ((items.toList.drop (sIx items.size 0 lo)).take (sIx items.size items.size hi - sIx items.size 0 lo)).toArray):=by
  show ((items.toList.drop (sIx items.size 0 lo)).take (sIx items.size items.size hi - sIx items.size 0 lo)).toArray.size<=sizeLine
  rw [List.size_toArray,List.length_take,List.length_drop,Array.length_toList]
  omega
 have hj:sIx items.size items.size hi<=items.size:=Sc _ _ (Nat.le_refl _) hi
 obtain ⟨os,hos,hcs,hds⟩:=id hs
 have hTs:s.TypeIs (.ref sl) "slice":=⟨os,hos,hcs⟩
 unfold getItem
 try with_reducible refine wpAny_holding ?_
 first | refine wpAny_bind (wpAny_pure ?_) | skip
 refine wpAny_bind (wpAny_sequenceKey ht.typeIs (by decide) ?_)
 refine wpAny_bind (wpAny_callSpecial?_slot (name:=Str.ofString "__getitem__") ht.typeIs PyProof.Rows.slot_tuple_getitem
  (wpAny_call_entry PyProof.Rows.slot_tuple_getitem ht.typeIs entry_tuple_getitem ?_ (args_tuple_getitem _ _)))
 show wpAny _ _ (Builtin.Tuple.tupleItemsOf (.ref t) >>= _) _ _ s
 refine wpAny_bind (tupleItemsOf_ ht ?_)
 refine wpAny_bind (wpAny_typeOf hTs ?_)
 rw [if_pos (by decide)]
 refine wpAny_bind (xK hs pl pu ?_)
 have hno:¬ ((((sIx items.size 0 lo:Nat):Int) == 0 && (1:Int) == 1 && (sIx items.size items.size hi - sIx items.size 0 lo) == items.size)=true):=by
  intro q
  rw [Bool.and_eq_true,Bool.and_eq_true] at q
  have q1:((sIx items.size 0 lo:Nat):Int)=0:=eq_of_beq q.1.1
  have q2:sIx items.size items.size hi - sIx items.size 0 lo=items.size:=eq_of_beq q.2
  exact hw ⟨by omega,by omega⟩
 show wpAny _ _ (if (((sIx items.size 0 lo:Nat):Int) == 0 && (1:Int) == 1 && (sIx items.size items.size hi - sIx items.size 0 lo) == items.size)=true then _ else _) _ _ s
 rw [if_neg hno,Vl]
 first
  | exact wpAny_bind (m:=Builtin.Tuple.tupleExact _) (wpAny_newObj_type (wpAny_pure ⟨_,rfl,wpAny_pure h⟩) htake)
  | exact wpAny_bind (m:=Builtin.Tuple.tupleExact _) (wpAny_newObj_type (wpAny_bind (wpAny_pure (wpAny_pure ⟨_,rfl,wpAny_pure h⟩))) htake)
  | exact wpAny_bind (wpAny_bind (m:=Builtin.Tuple.tupleExact _) (wpAny_newObj_type (wpAny_pure (wpAny_pure ⟨_,rfl,wpAny_pure h⟩)) htake))
  | exact wpAny_bind (wpAny_bind (m:=Builtin.Tuple.tupleExact _) (wpAny_newObj_type (wpAny_pure ⟨_,rfl,wpAny_pure h⟩) htake))
end
end HT
namespace L2
open PySem PySem.Spec PyProof.Rows
abbrev TO:=St->Hp->(Option Int->Hp->Prop)->Prop
def PO (X:Cx) (e:Option Expr) (t:TO):Prop :=
 ∀ (pins:List (Addr × Obj)) (s:Shared) (σ:St) (H:Hp) (Q:Option Int->Hp->Prop),Inv X pins σ H s->t σ H Q →
  wpAny (model X.prog X.w) X.A (evalPart e X.env) (fun u s'=>∃ o H',Inv X pins σ H' s' /\ IsPart u o /\ Q o H') X.xe s
def U1:TO:=fun _ H Q=>Q none H
def Ry (t:TE):TO:=fun σ H Q=>t σ H fun x H1=>∃ i,x = .int i /\ Q (some i) H1
theorem ZS {ns:List Int}:∀ {us:List Value},zP (ns.map V.int) us->IntsAre us ns:=by
 induction ns with
 | nil=>intro us r; rw [List.map_nil] at r; cases r; exact .nil
 | cons n ns ih =>
  intro us r
  rw [List.map_cons] at r
  cases r with
  | cons r1 r2 =>
   obtain ⟨t,e⟩:=r1
   subst e
   exact .cons n t (ih r2)
section
variable {X:Cx} {e:Expr} {te:TE} {lo hi:Option Expr} {tl th:TO} {pos p2:Pos}
theorem zV:PO X none U1:=by
 intro pins s σ H Q I h
 rw [evalPart_none]
 exact wpAny_pure ⟨none,H,I,.none,h⟩
theorem zO (h:PE X e te):PO X (some e) (Ry te):=by
 intro pins s σ H Q I hw
 rw [evalPart_some]
 refine QX (h pins s σ H _ I hw) fun u s1 ⟨x,H1,I1,r1,q1⟩=>?_
 obtain ⟨i,rfl,q⟩:=q1
 obtain ⟨t,rfl⟩:=r1
 exact ⟨some i,H1,I1,.int i t,q⟩
def Jj (X:Cx) (r:V->Option Int->Option Int->Hp->VK->Prop):Prop :=
 ∀ (pins:List (Addr × Obj)) (s:Shared) (σ:St) (H:Hp) (x:V) (v vl vu:Value) (lo hi:Option Int) (sl:Addr) (Q:VK),Inv X pins σ H s->zU x v->s.heap.IsSliceOf sl vl vu .none->IsPart vl lo->IsPart vu hi->r x lo hi H Q →
  ∃ T id,typeLookup (.type T) "__getitem__" = pure (some (.builtin id)) /\ s.TypeIs v T /\ wpAny (model X.prog X.w) X.A (getItem v (.ref sl)) (EP X pins σ Q) X.xe s
def Jk (r:V->Option Int->Option Int->Hp->VK->Prop) (te:TE) (tl th:TO):TE:=fun σ H Q=>te σ H fun x H1=>tl σ H1 fun l H2=>th σ H2 fun u H3=>r x l u H3 Q
theorem zK {r:V->Option Int->Option Int->Hp->VK->Prop} (hr:Jj X r) (he:PE X e te) (hl:PO X lo tl) (hu:PO X hi th):PE X (.Subscript e (.Slice lo hi none p2) pos) (Jk r te tl th):=by
 intro pins s σ H Q I h
 refine Subscript_ (QX (he pins s σ H _ I h) fun v s1 ⟨x,H1,I1,r1,q1⟩=>?_)
 refine wpAny_Slice (QX (hl pins s1 σ H1 _ I1 q1) fun vl s2 ⟨l,H2,I2,pl,q2⟩=>QX (hu pins s2 σ H2 _ I2 q2) fun vu s3 ⟨u,H3,I3,pu,q3⟩=>?_)
 rw [evalPart_none]
 refine wpAny_pure ?_
 have I4:Inv X pins σ H3 { s3 with heap:=s3.heap.push { cls:=.type "slice",data:=.fields #[vl,vu,.none] } }:=I3.kept (t':=s3.toks) fun b ob q=>Heap.get?_push_of_some _ q
 obtain ⟨T,id,hT,ht,hg⟩:=hr pins { s3 with heap:=s3.heap.push { cls:=.type "slice",data:=.fields #[vl,vu,.none] } } σ H3 x v vl vu l u s3.heap.objs.size Q I4 r1 (Heap.IsSliceOf.new ..) pl pu q3
 show wpAny (model X.prog X.w) X.A (subscriptTail e (.Slice lo hi none p2) v (.ref s3.heap.objs.size)) (EP X pins σ Q) X.xe { s3 with heap:=s3.heap.push { cls:=.type "slice",data:=.fields #[vl,vu,.none] } }
 exact tail_any (ops:=[.ref s3.heap.objs.size,v]) ht hT hg (by with_unfolding_all rfl)
def vm (xs:List V) (lo hi:Option Int):List V:=(xs.drop (HT.sIx xs.length 0 lo)).take (HT.sIx xs.length xs.length hi - HT.sIx xs.length 0 lo)
theorem xc (xs:List V) (lo hi:Option Int):(vm xs lo hi).length<=xs.length:=by
 unfold vm
 rw [List.length_take,List.length_drop]
 omega
def Qy (K:QM):V->Option Int->Option Int->Hp->VK->Prop:=fun x lo hi H Q=>∃ a xs,x = .ref a /\ Q1 K H a xs ∧
 ¬ (HT.sIx xs.length 0 lo=0 /\ HT.sIx xs.length xs.length hi=xs.length) /\ ∀ p,H p=none->Q (.ref p) (QP H p (.tup (vm xs lo hi)))
theorem Y6:Jj X (Qy X.K):=by
 intro pins s σ H x v vl vu lo hi sl Q I rx hs pl pu h
 obtain ⟨a,xs,rfl,hx,hw,q⟩:=h
 cases rx
 obtain ⟨its,r,ht,hz⟩:=I.tuple hx
 have hlen:its.toArray.size=xs.length:=by rw [List.size_toArray]; exact r.length.symm
 refine ⟨"tuple",_,PyProof.Rows.slot_tuple_getitem.lookup,ht.typeIs,?_⟩
 refine HT.getItem_tuple_cut ht hs pl pu (by rw [hlen]; exact hw) ?_ (by rw [hlen]; exact hz)
 rw [hlen]
 refine ⟨.ref s.heap.objs.size,_,I.laid (t':=s.toks) (o:=.tup (vm xs lo hi)) (fun b ob q=>Heap.get?_push_of_some _ q) (Nat.le_refl _) ?_,rfl,q _ (I.hok.fresh (Nat.le_refl _))⟩
 exact ⟨Nat.le_trans (xc xs lo hi) hz,_,(r.drop (HT.sIx xs.length 0 lo)).take (HT.sIx xs.length xs.length hi - HT.sIx xs.length 0 lo),IsTup.new _ _⟩
def Rz (K:QM):R2:=fun x y H Q=>∃ a b xs ys,x = .ref a /\ y = .ref b /\ Q1 K H a xs /\ Q1 K H b ys /\ xs ≠ [] /\ xs.length+ys.length<=sizeLine ∧
 (ys=[]->Q (.ref a) H) /\ (ys ≠ [] -> ∀ p,H p=none->Q (.ref p) (QP H p (.tup (xs ++ ys))))
theorem zP.nil_iff {xs:List V} {us:List Value} (r:zP xs us):us=[] ↔ xs=[]:=by
 cases r with
 | nil=>simp
 | cons _ _=>simp
theorem U2:Q8 X (binaryOp .Add) (Rz X.K):=by
 intro pins s σ H x y v u Q I rx ry h
 obtain ⟨a,b,xs,ys,rfl,rfl,ha,hb,hx,hz,q1,q2⟩:=h
 cases rx
 cases ry
 obtain ⟨its,r1,p1,_⟩:=I.tuple ha
 obtain ⟨its2,r2,p2,_⟩:=I.tuple hb
 refine HT.cat_tup p1 p2 (fun z=>hx (r1.nil_iff.mp z)) (fun z=>⟨.ref a,H,I,rfl,q1 (r2.nil_iff.mp z)⟩) (fun z=>?_) (by rw [← r1.length,← r2.length]; exact hz)
 refine ⟨.ref s.heap.objs.size,_,I.laid (t':=s.toks) (o:=.tup (xs ++ ys)) (fun b ob q=>Heap.get?_push_of_some _ q) (Nat.le_refl _) ?_,rfl,q2 (fun w=>z (r2.nil_iff.mpr w)) _ (I.hok.fresh (Nat.le_refl _))⟩
 exact ⟨by rw [List.length_append]; exact hz,_,r1.append r2,IsTup.new _ _⟩
end
end L2
namespace L2
open PySem PySem.Spec PyProof.Rows
def Jl (n:Nat) (i:Int):Option Nat:=if 0<=i then (if i < n then some i.toNat else none) else if -(n:Int)<=i then some (i+n).toNat else none
def Jm {α:Type} (xs:List α) (i:Int):Option α:=(Jl xs.length i).bind fun j=>xs[j]?
theorem Y7 {n:Nat} {i:Int} {j:Nat} (h:Jl n i=some j):seqIndex? i n=some j /\ j < n /\ -(n:Int)<=i /\ i < n:=by
 unfold Jl at h
 by_cases h0:0<=i
 ·rw [if_pos h0] at h
  by_cases h1:i < n
  ·rw [if_pos h1] at h
   have e:i.toNat=j:=Option.some.inj h
   exact ⟨by rw [seqIndex_of h0 h1,e],by omega,by omega,h1⟩
  ·rw [if_neg h1] at h; cases h
 ·rw [if_neg h0] at h
  by_cases h1:-(n:Int)<=i
  ·rw [if_pos h1] at h
   have e:(i+n).toNat=j:=Option.some.inj h
   exact ⟨by rw [seqIndex_neg (by omega) h1,e],by omega,h1,by omega⟩
  ·rw [if_neg h1] at h; cases h
theorem Y8 {α:Type} {xs:List α} {i:Int} {v:α} (h:Jm xs i=some v):∃ j,seqIndex? i xs.length=some j /\ xs[j]? = some v /\ j < xs.length /\ -(xs.length:Int)<=i /\ i < xs.length:=by
 unfold Jm at h
 cases e:Jl xs.length i with
 | none=>rw [e] at h; cases h
 | some j =>
  rw [e] at h
  obtain ⟨h1,h2,h3,h4⟩:=Y7 e
  exact ⟨j,h1,h,h2,h3,h4⟩
theorem zp {α:Type} {xs:List α} {j:Nat} {v:α} (h:xs[j]? = some v):Jm xs (j:Int)=some v:=by
 have hj:j < xs.length:=(List.getElem?_eq_some_iff.mp h).1
 have e:Jl xs.length (j:Int)=some j:=by
  unfold Jl
  rw [if_pos (by omega),if_pos (by omega)]; simp
 unfold Jm; rw [e]; exact h
def U3 (b:Expr):Prop:=∀ o i,subscripted b false o i=operate [o,i] (getItem o i)
def Jn (X:Cx) (r:R2):Prop :=
 ∀ (value slice:Expr) (pins:List (Addr × Obj)) (s:Shared) (σ:St) (H:Hp) (x y:V) (v u:Value) (Q:VK),Inv X pins σ H s->zU x v->zU y u->r x y H Q →
  subscripted slice false v u=operate [v,u] (getItem v u)->wpAny (model X.prog X.w) X.A (subscriptTail value slice v u) (EP X pins σ Q) X.xe s
def Jo (X:Cx) (id:String) (r:V->List V->Hp->VK->Prop):Prop :=
 ∀ (pins:List (Addr × Obj)) (s:Shared) (σ:St) (H:Hp) (x:V) (xs:List V) (v:Value) (us:List Value) (Q:VK),Inv X pins σ H s->zU x v->zP xs us->r x xs H Q →
  wpAny (model X.prog X.w) X.A (call (.builtin id) (v :: us)) (EP X pins σ Q) X.xe s
section
variable {X:Cx} {a b:Expr} {ta tb:TE} {pos:Pos}
theorem zF {r:R2} (hr:Jn X r) (ha:PE X a ta) (hb:PE X b tb) (hs:U3 b):PE X (.Subscript a b pos) (Ja r ta tb):=by
 intro pins s σ H Q I h
 exact Subscript_ (Ru ha hb I h fun v u s2 x y H2 I2 rx ry q=>hr a b pins s2 σ H2 x y v u Q I2 rx ry q (hs _ _))
def Qa (K:QM):R2:=fun x y H Q=>∃ p xs i v,x = .ref p /\ y = .int i /\ Q0 K H p xs /\ Jm xs i=some v /\ Q v H
def Qb (K:QM):R2:=fun x y H Q=>∃ p xs i v,x = .ref p /\ y = .int i /\ Q1 K H p xs /\ Jm xs i=some v /\ Q v H
theorem zW:Jn X (Qa X.K):=by
 intro value slice pins s σ H x y v u Q I rx ry h hs
 obtain ⟨p,xs,i,z,rfl,rfl,hq,he,q⟩:=h
 cases rx
 obtain ⟨t,rfl⟩:=ry
 obtain ⟨its,r,pl,hz⟩:=I.list hq
 obtain ⟨j,h1,h2,h3,h4,h5⟩:=Y8 he
 obtain ⟨w,ew,rw'⟩:=r.get h2
 have hl:=r.length
 have hn:=s9
 have fin:EP X pins σ Q w s:=⟨z,H,I,rw',q⟩
 by_cases h0:0<=i
 ·have hj:i.toNat=j:=by
   rw [seqIndex_of h0 h5] at h1
   exact Option.some.inj h1
  exact item_listR pl.isList h0 (by omega) (by rw [hj]; simpa using ew) fin hs
 ·have hj:(i+(its.toArray.size:Int)).toNat=j:=by
   rw [seqIndex_neg (by omega) h4] at h1
   rw [List.size_toArray,← hl]
   exact Option.some.inj h1
  exact subscriptTail_builtinR (x:=w) pl.isList.typeIs slot_list_getitem.lookup
   (wpAny_getItem_list_neg (Q:=fun r s'=>r=w /\ EP X pins σ Q r s') pl.isList (by omega) (by rw [List.size_toArray] <;> omega) (by omega) (by rw [hj]; simpa using ew) ⟨rfl,fin⟩) hs
theorem zN:Jn X (Qb X.K):=by
 intro value slice pins s σ H x y v u Q I rx ry h hs
 obtain ⟨p,xs,i,z,rfl,rfl,hq,he,q⟩:=h
 cases rx
 obtain ⟨t,rfl⟩:=ry
 obtain ⟨its,r,pl,hz⟩:=I.tuple hq
 obtain ⟨j,h1,h2,h3,h4,h5⟩:=Y8 he
 obtain ⟨w,ew,rw'⟩:=r.get h2
 have hl:=r.length
 have hn:=s9
 have fin:EP X pins σ Q w s:=⟨z,H,I,rw',q⟩
 exact subscriptTail_builtinR (x:=w) pl.typeIs slot_tuple_getitem.lookup
  (getItem_tuple (j:=j) (Q:=fun r s'=>r=w /\ EP X pins σ Q r s') pl (by omega) (by omega) (by rw [List.size_toArray,← hl]; exact h1) (by simpa using ew) ⟨rfl,fin⟩) hs
theorem ZT (its:List Value) (n j:Nat) (u:Value):Obj.mapSeq (·.setIfInBounds j u) { cls:=.type "list",data:=.seq its.toArray n } = { cls:=.type "list",data:=.seq (its.set j u).toArray n }:=by
 simp [Obj.mapSeq]
theorem Inv.lst {pins:List (Addr × Obj)} {σ:St} {H:Hp} {s:Shared} {p:Addr} {xs:List V} (I:Inv X pins σ H s) (h:H p=some (.lst xs)) :
  ∃ (its:List Value) (n:Nat),zP xs its /\ s.heap.get? p=some { cls:=.type "list",data:=.seq its.toArray n } /\ xs.length<=sizeLine:=by
 obtain ⟨z,its,n,r,e⟩:=I.hok p _ h
 exact ⟨its,n,r,e,z⟩
theorem Inv.lstUpd {pins:List (Addr × Obj)} {σ:St} {H:Hp} {s:Shared} {p:Addr} {xs ys:List V} {its its':List Value} {n n':Nat} {f:Obj->Obj} (I:Inv X pins σ H s) (h:H p=some (.lst xs))
  (ho:s.heap.get? p=some { cls:=.type "list",data:=.seq its.toArray n }) (hf:f { cls:=.type "list",data:=.seq its.toArray n } = { cls:=.type "list",data:=.seq its'.toArray n' }) (r:zP ys its') (hz:ys.length<=sizeLine) (t:Nat) :
  Inv X pins σ (QP H p (.lst ys)) { s with heap:=s.heap.update p f,toks:=t }:=by
 have e:(s.heap.update p f).get? p=some { cls:=.type "list",data:=.seq its'.toArray n' }:=by
  rw [Heap.get?_update_self f ho (by rw [hf] <;> rfl),hf]
 refine I.write (x:=p) (e:=p) (by rw [h]; trivial) (.inl rfl) (fun b u hb q=>(Heap.get?_update_other _ _ (Ne.symm hb)).trans q) ⟨_,e⟩ ?_
 exact ⟨hz,its',n',r,e⟩
def RA:V->V->V->Hp->(Hp->Prop)->Prop:=fun o i v H Q=>∃ p xs k j,o = .ref p /\ i = .int k /\ H p=some (.lst xs) /\ Jl xs.length k=some j /\ Q (QP H p (.lst (xs.set j v)))
theorem wf:R3 X RA:=by
 intro pins s σ H o i v ov iv u Q I ro ri rv h
 obtain ⟨p,xs,k,j,rfl,rfl,hp,hj,q⟩:=h
 cases ro
 obtain ⟨t,rfl⟩:=ri
 obtain ⟨its,n,r,ho,hz⟩:=I.lst hp
 obtain ⟨h1,h2,h3,h4⟩:=Y7 hj
 have hl:=r.length
 have hn:=s9
 have I':Inv X pins σ (QP H p (.lst (xs.set j v))) { s with heap:=s.heap.update p (Obj.mapSeq (·.setIfInBounds j u)) } :=
  I.lstUpd hp ho (ZT its n j u) (r.set rv j) (by rw [List.length_set]; exact hz) s.toks
 by_cases h0:0<=k
 ·have hk:k.toNat=j:=by
   rw [seqIndex_of h0 h4] at h1
   exact Option.some.inj h1
  exact PySem.W.ki_setAt ho h0 (by omega) (by rw [List.size_toArray,← hl]; exact h4) (by rw [hk]; exact ⟨_,I',q⟩)
 ·have hk:(k+(its.toArray.size:Int)).toNat=j:=by
   rw [seqIndex_neg (by omega) h3] at h1
   rw [List.size_toArray,← hl]
   exact Option.some.inj h1
  exact PySem.W.ki_setBack ho (by omega) (by rw [List.size_toArray,← hl]; exact h3) (by omega) (by rw [hk]; exact ⟨_,I',q⟩)
theorem rq (lo hi:Option Int) (n:Nat):(sliceBounds lo hi none n).1=((HT.sIx n 0 lo:Nat):Int) /\ (sliceBounds lo hi none n).2.1=((HT.sIx n n hi:Nat):Int) /\ (sliceBounds lo hi none n).2.2=1:=by
 refine ⟨?_,?_,rfl⟩
 ·cases lo with
  | none=>simp [sliceBounds,HT.sIx]
  | some i =>
   simp only [sliceBounds,HT.sIx,Option.getD_none,show (1:Int) > 0 by decide,if_true]
   by_cases h:i < 0
   ·simp only [h,if_true] <;> omega
   ·simp only [h,if_false] <;> omega
 ·cases hi with
  | none=>simp [sliceBounds,HT.sIx]
  | some i =>
   simp only [sliceBounds,HT.sIx,Option.getD_none,show (1:Int) > 0 by decide,if_true]
   by_cases h:i < 0
   ·simp only [h,if_true] <;> omega
   ·simp only [h,if_false] <;> omega
theorem si (its:List Value) (lo hi:Option Int):slicePick its.toArray lo hi none=((its.drop (HT.sIx its.length 0 lo)).take (HT.sIx its.length its.length hi - HT.sIx its.length 0 lo)).toArray:=by
 obtain ⟨h1,h2,h3⟩:=rq lo hi its.toArray.size
 unfold slicePick
 rw [h1,h2,h3]
 simp only [sliceRange_one,pick_run,List.size_toArray] <;> rfl
def Qc (K:QM):V->Option Int->Option Int->Hp->VK->Prop:=fun x lo hi H Q=>∃ a xs,x = .ref a /\ Q0 K H a xs /\ ∀ p,H p=none->Q (.ref p) (QP H p (.lst (vm xs lo hi)))
theorem U4:Jj X (Qc X.K):=by
 intro pins s σ H x v vl vu lo hi sl Q I rx hs pl pu h
 obtain ⟨a,xs,rfl,hx,q⟩:=h
 cases rx
 obtain ⟨its,r,ht,hz⟩:=I.list hx
 have hlen:=r.length
 refine ⟨"list",_,slot_list_getitem.lookup,ht.isList.typeIs,?_⟩
 refine wpAny_getItem_list_slice ht.isList hs pl pu .none (by simp) ?_ (by rw [List.size_toArray] <;> omega)
 rw [si,← hlen]
 refine ⟨.ref s.heap.objs.size,_,I.laid (t':=s.toks) (o:=.lst (vm xs lo hi)) (fun b ob q=>Heap.get?_push_of_some _ q) (Nat.le_refl _) ?_,rfl,q _ (I.hok.fresh (Nat.le_refl _))⟩
 exact ⟨Nat.le_trans (xc xs lo hi) hz,_,0,(r.drop (HT.sIx xs.length 0 lo)).take (HT.sIx xs.length xs.length hi - HT.sIx xs.length 0 lo),Heap.get?_push_size _ rfl⟩
def vU:V->Bool
 | .non=>true
 | .bl _=>true
 | .int _=>true
 | .str _=>true
 | _=>false
def Jp:V->V->Bool
 | .non,.non=>true
 | .bl a,.bl b=>a == b
 | .bl a,.int b=>(if a then 1 else 0) == b
 | .int a,.bl b=>a == (if b then 1 else 0)
 | .int a,.int b=>a == b
 | .str a,.str b=>a == b
 | _,_=>false
theorem Sd {A:Around} {s:Shared} {y x:V} {u v:Value} (ry:zU y u) (rx:zU x v) (fy:vU y=true) (fx:vU x=true):SeqAt.EqAt A s u v (Jp y x):=by
 cases y with
 | non =>
  cases ry
  cases x with
  | non=>cases rx; exact SeqAt.EqAt.same _
  | bl b=>cases rx; exact SeqAt.EqAt.none_bool b
  | int b=>obtain ⟨t,rfl⟩:=rx; exact SeqAt.EqAt.none_int b t
  | str b=>obtain ⟨t,rfl⟩:=rx; exact SeqAt.EqAt.none_str b t
  | _=>exact absurd (show false=true from fx) Bool.false_ne_true
 | bl a =>
  cases ry
  cases x with
  | non=>cases rx; exact SeqAt.EqAt.bool_none a
  | bl b=>cases rx; exact SeqAt.EqAt.bool_bool a b
  | int b=>obtain ⟨t,rfl⟩:=rx; exact SeqAt.EqAt.bool_int a b t
  | str b=>obtain ⟨t,rfl⟩:=rx; exact SeqAt.EqAt.bool_str a b t
  | _=>exact absurd (show false=true from fx) Bool.false_ne_true
 | int a =>
  obtain ⟨t',rfl⟩:=ry
  cases x with
  | non=>cases rx; exact SeqAt.EqAt.int_none a t'
  | bl b=>cases rx; exact SeqAt.EqAt.int_bool a t' b
  | int b=>obtain ⟨t,rfl⟩:=rx; exact SeqAt.EqAt.int_int a t' b t
  | str b=>obtain ⟨t,rfl⟩:=rx; exact SeqAt.EqAt.int_str a t' b t
  | _=>exact absurd (show false=true from fx) Bool.false_ne_true
 | str a =>
  obtain ⟨t',rfl⟩:=ry
  cases x with
  | non=>cases rx; exact SeqAt.EqAt.str_none a t'
  | bl b=>cases rx; exact SeqAt.EqAt.str_bool a t' b
  | int b=>obtain ⟨t,rfl⟩:=rx; exact SeqAt.EqAt.str_int a t' b t
  | str b=>obtain ⟨t,rfl⟩:=rx; exact SeqAt.EqAt.str_str a t' b t
  | _=>exact absurd (show false=true from fx) Bool.false_ne_true
 | _=>exact absurd (show false=true from fy) Bool.false_ne_true
theorem zt:y7 X (.builtin "len") (fun xs H Q=>∃ p ys,xs=[.ref p] /\ (Q0 X.K H p ys \/ Q1 X.K H p ys) /\ Q (.int ys.length) H):=by
 intro pins s σ H xs us Q I r h
 obtain ⟨p,ys,rfl,hq,q⟩:=h
 obtain ⟨u,rfl,rx⟩:=xz r
 cases rx
 have hn:=s9
 rcases hq with hq | hq
 ·obtain ⟨its,r',pl,hz⟩:=I.list hq
  have hlen:=r'.length
  exact Calls.call_len_list pl.isList (by simp only [List.size_toArray] <;> omega) ⟨.int ys.length,H,I.tok _,⟨s.toks+1,by rw [List.size_toArray,hlen]⟩,q⟩
 ·obtain ⟨its,r',pl,hz⟩:=I.tuple hq
  have hlen:=r'.length
  exact len_tuple pl (by simp only [List.size_toArray] <;> omega) ⟨.int ys.length,H,I.tok _,⟨s.toks+1,by rw [List.size_toArray,hlen]⟩,q⟩
theorem xV:y7 X (.type "list") (fun xs H Q=>∃ p ys,xs=[.ref p] /\ (Q0 X.K H p ys \/ Q1 X.K H p ys) /\ ∀ l,H l=none->Q (.ref l) (QP H l (.lst ys))):=by
 intro pins s σ H xs us Q I r h
 obtain ⟨p,ys,rfl,hq,q⟩:=h
 obtain ⟨u,rfl,rx⟩:=xz r
 cases rx
 have fin:∀ (its:List Value),zP ys its->ys.length<=sizeLine -> ∀ (h':Heap) (c':Nat),(∀ b o',s.heap.get? b=some o' -> h'.get? b=some o') →
   h'.get? s.heap.objs.size=some { cls:=.type "list",dict:=none,data:=.seq its.toArray c',slots:=#[] } -> EP X pins σ Q (.ref s.heap.objs.size) { s with heap:=h' }:=fun its r' hz h' c' kp e =>
  ⟨.ref s.heap.objs.size,_,I.laid (t':=s.toks) kp (Nat.le_refl _) (show zT X.prog X.w _ h' _ (.lst ys) from ⟨hz,its,c',r',e⟩),rfl,q _ (I.hok.fresh (Nat.le_refl _))⟩
 rcases hq with hq | hq
 ·obtain ⟨its,r',pl,hz⟩:=I.list hq
  have hlen:=r'.length
  obtain ⟨o,ho,hc,n,hd⟩:=pl.isList
  exact call_list_seq p (.inl rfl) ho hc hd (fun h' c' kp e=>fin its r' hz h' c' kp e) (by simp only [List.size_toArray] <;> omega)
 ·obtain ⟨its,r',pl,hz⟩:=I.tuple hq
  have hlen:=r'.length
  obtain ⟨o,ho,hc,n,hd⟩:=pl
  exact call_list_seq p (.inr rfl) ho hc hd (fun h' c' kp e=>fin its r' hz h' c' kp e) (by simp only [List.size_toArray] <;> omega)
theorem yJ:y7 X (.type "tuple") (fun xs H Q=>∃ p ys,xs=[.ref p] /\ ((Q0 X.K H p ys /\ ∀ l,H l=none->Q (.ref l) (QP H l (.tup ys))) \/ (Q1 X.K H p ys /\ Q (.ref p) H))):=by
 intro pins s σ H xs us Q I r h
 obtain ⟨p,ys,rfl,h⟩:=h
 obtain ⟨u,rfl,rx⟩:=xz r
 cases rx
 rcases h with ⟨hq,q⟩ | ⟨hq,q⟩
 ·obtain ⟨its,r',pl,hz⟩:=I.list hq
  have hlen:=r'.length
  refine call_tuple_list pl.isList (fun h' kp=>?_) (by simp only [List.size_toArray] <;> omega)
  have I1:Inv X pins σ H { s with heap:=h' }:=I.kept (t':=s.toks) kp
  have I2:Inv X pins σ (QP H h'.objs.size (.tup ys)) { s with heap:=h'.push { cls:=.type "tuple",data:=.seq its.toArray } } :=
   I1.laid (t':=s.toks) (fun b o e=>Heap.get?_push_of_some _ e) (Nat.le_refl _) (show zT X.prog X.w _ _ _ (.tup ys) from ⟨hz,its,r',IsTup.new _ _⟩)
  exact ⟨.ref h'.objs.size,_,I2,rfl,q _ (I1.hok.fresh (Nat.le_refl _))⟩
 ·obtain ⟨its,r',pl,hz⟩:=I.tuple hq
  exact call_tuple_same pl ⟨.ref p,H,I,rfl,q⟩
def Jq (K:QM) (T:String) (x:V) (H:Hp):Prop:=match x with
 | .str _=>T = "str"
 | .int _=>T = "int"
 | .ref p=>(T = "list" /\ ∃ xs,Q0 K H p xs) \/ (T = "tuple" /\ ∃ o,K.lookup p=some o /\ o.cls = .type "tuple" /\ o.dict=none) ∨
   (T = "dict" /\ ((∃ kvs,H p=some (.dK kvs)) \/ ∃ kvs,H p=some (.dT kvs))) \/ (T = "set" /\ ∃ S n,H p=some (.set S n))
 | _=>False
theorem Se {pins:List (Addr × Obj)} {σ:St} {H:Hp} {s:Shared} {T:String} {x:V} {v:Value} (I:Inv X pins σ H s) (r:zU x v) (ty:Jq X.K T x H) :
  s.TypeIs v T /\ ∀ a,v = .ref a -> ∃ ob,s.heap.get? a=some ob /\ ob.dict=none:=by
 cases x with
 | str z =>
  obtain ⟨t,rfl⟩:=r
  cases (show T = "str" from ty)
  exact ⟨typeIs_str s z t,fun _ e=>nomatch e⟩
 | int i =>
  obtain ⟨t,rfl⟩:=r
  cases (show T = "int" from ty)
  exact ⟨typeIs_int s i t,fun _ e=>nomatch e⟩
 | ref p =>
  cases r
  rcases ty with ⟨rfl,xs,hq⟩ | ⟨rfl,o,hk,hc,hd⟩ | ⟨rfl,hk⟩ | ⟨rfl,S,n,hk⟩
  ·obtain ⟨its,_,pl,_⟩:=I.list hq
   refine ⟨pl.isList.typeIs,fun a e=>?_⟩
   cases e
   obtain ⟨o,n,e,c,hd,_⟩:=pl
   exact ⟨o,e,hd⟩
  ·refine ⟨⟨o,I.kIn p o hk,hc⟩,fun a e=>?_⟩
   cases e
   exact ⟨o,I.kIn _ o hk,hd⟩
  ·have z:∃ o,s.heap.get? p=some o /\ o.ExactDict:=by
    rcases hk with ⟨kvs,hk⟩ | ⟨kvs,hk⟩
    ·obtain ⟨_,_,_,_,o,_,_,e,ex,_⟩:=I.hok p _ hk
     exact ⟨o,e,ex⟩
    ·obtain ⟨_,_,_,_,o,_,_,e,ex,_⟩:=I.hok p _ hk
     exact ⟨o,e,ex⟩
   obtain ⟨o,e,ex⟩:=z
   refine ⟨⟨o,e,ex.1⟩,fun a e2=>?_⟩
   cases e2
   exact ⟨o,e,ex.2.1⟩
  ·obtain ⟨o,_,_,_,e,ex,_⟩:=I.hok p _ hk
   refine ⟨⟨o,e,ex.1⟩,fun a e2=>?_⟩
   cases e2
   exact ⟨o,e,ex.2.1⟩
 | _=>exact False.elim ty
def Jr (K:QM) (T:String) (r:V->List V->Hp->VK->Prop) (to:TE) (t:TA):TE:=fun σ H Q=>to σ H fun x H1=>Jq K T x H1 /\ t σ H1 fun xs H2=>r x xs H2 Q
variable {o e:Expr} {es:List Expr} {to:TE} {t:TA} {name:Str} {apos cpos:Pos} {T id:String} {r:V->List V->Hp->VK->Prop}
theorem Vm (pa:PlainAttrs T) (slot:Slot T name id) (hty:typeOf (.builtin id)=pure (.type "method_descriptor")) (hm:Jo X id r) (ho:PE X o to) (ha:PA X (e :: es) t)
  (hbase:attributeBase o name X.env (eval o X.env)=eval o X.env:=by rfl)
  (hfew:((backTo cpos (starEach (e :: es) X.env)).all (fun x=>!x.1) && (backToKw cpos (keywordEach [] X.env)).all (fun x=>x.1.isSome)
   && decide ((e :: es).length+([]:List Keyword).length+(if ([]:List Keyword).isEmpty then 0 else 1) < 30))=true:=by rfl)
  (hline:(apos.endLine == cpos.line)=true:=by rfl) (hs:starEach (e :: es) X.env=(false,eval e X.env) :: starEach es X.env:=by rfl) (hplain:(backTo cpos (starEach es X.env)).any (·.1)=false:=by rfl) :
  PE X (.Call (.Attribute o name apos) (e :: es) [] cpos) (Jr X.K T r to t):=by
 intro pins s σ H Q I h
 refine wpAny_Call_method_late hbase hfew hline rfl (QX (ho pins s σ H _ I h) fun v s1 ⟨x,H1,I1,r1,ty,q1⟩=>?_)
 obtain ⟨h1,h2⟩:=Se I1 r1 ty
 refine ⟨T,id,pa,slot,hty,h1,h2,?_⟩
 have hA:=ha cpos pins s1 σ H1 _ I1 q1
 rw [hs] at hA ⊢
 refine Calls.callWith_builtin (by show (false || (backTo cpos (starEach es X.env)).any (·.1))=false; rw [hplain] <;> rfl) (Calls.evalArgs_plain ?_)
 exact QX hA fun us s2 ⟨vs,H2,I2,r2,q2⟩=>hm pins s2 σ H2 x vs v us Q I2 r1 r2 q2
end
end L2
namespace L2
open PySem PySem.Spec PyProof.Rows
def Js (X:Cx) (id:String) (r:V->List V->Hp->VK->Prop):Prop :=
 ∀ (pins:List (Addr × Obj)) (s:Shared) (σ:St) (H:Hp) (x:V) (xs:List V) (v:Value) (us:List Value) (Q:VK),Inv X pins σ H s->zU x v->zP xs us->r x xs H Q →
  wpAny (model X.prog X.w) X.A (call (.builtin id) (v :: us)) (EP X pins σ Q) X.xe s
theorem zP.one:∀ {x:V} {us:List Value},zP [x] us -> ∃ u,us=[u] /\ zU x u
 | _,_,.cons r .nil=>⟨_,rfl,r⟩
theorem zP.eraseIdx:∀ {xs:List V} {us:List Value} (i:Nat),zP xs us->zP (xs.eraseIdx i) (us.eraseIdx i)
 | _,_,_,.nil=>.nil
 | _,_,0,.cons _ t=>t
 | _,_,i+1,.cons r t=>.cons r (zP.eraseIdx i t)
theorem zP.rep {xs:List V} {us:List Value} (h:zP xs us):∀ k:Nat,zP (List.replicate k xs).flatten (List.replicate k us).flatten
 | 0=>.nil
 | k+1=>by
  rw [List.replicate_succ,List.replicate_succ,List.flatten_cons,List.flatten_cons]
  exact zP.append h (zP.rep h k)
theorem rA {α:Type}:∀ (l:List α) (i:Nat),(l.eraseIdx i).length<=l.length
 | [],_=>Nat.le_refl _
 | _ :: _,0=>Nat.le_succ _
 | _ :: r,i+1=>Nat.succ_le_succ (rA r i)
theorem rB (its:List Value):∀ (k:Nat) (acc:List Value),
  List.foldl (fun x1 x2=>x1 ++ x2) acc.toArray (List.replicate k its.toArray)=(acc ++ (List.replicate k its).flatten).toArray
 | 0,acc=>by simp
 | k+1,acc=>by
  have e:acc.toArray ++ its.toArray=(acc ++ its).toArray:=by simp
  have e2:(acc ++ its) ++ (List.replicate k its).flatten=acc ++ (List.replicate (k+1) its).flatten:=by
   rw [List.replicate_succ,List.flatten_cons,List.append_assoc]
  rw [← e2,← rB its k (acc ++ its),← e,List.replicate_succ,List.foldl_cons]
section
variable {X:Cx} {pins:List (Addr × Obj)} {σ:St} {H:Hp} {s:Shared} {l b:Addr} {xs ys zs:List V}
theorem Inv.lset {its its':List Value} {n:Nat} {f:Array Value->Array Value} {t':Nat} (I:Inv X pins σ H s) (hH:H l=some (.lst xs))
  (e:s.heap.get? l=some { cls:=.type "list",data:=.seq its.toArray n }) (hf:f its.toArray=its'.toArray) (hv:zP ys its') (hz:ys.length<=sizeLine) :
  Inv X pins σ (QP H l (.lst ys)) { s with heap:=s.heap.update l (Obj.mapSeq f),toks:=t' }:=by
 have q:=PySem.IsL.update e f
 rw [hf] at q
 refine I.write (x:=l) (e:=l) (by rw [hH]; exact trivial) (.inl rfl) (fun b' u hb hu=>(Heap.get?_update_other s.heap (Obj.mapSeq f) (Ne.symm hb)).trans hu) ⟨_,q⟩ ?_
 exact ⟨hz,its',_,hv,q⟩
theorem Inv.lnew {its:List Value} {t':Nat} (I:Inv X pins σ H s) (hv:zP ys its) (hz:ys.length<=sizeLine) :
  Inv X pins σ (QP H s.heap.objs.size (.lst ys)) { s with heap:=s.heap.push { cls:=.type "list",data:=.seq its.toArray },toks:=t' } :=
 I.laid (fun _ _ q=>Heap.get?_push_of_some _ q) (Nat.le_refl _) ⟨hz,its,0,hv,Heap.get?_push_size _ rfl⟩
theorem Inv.fresh (I:Inv X pins σ H s):H s.heap.objs.size=none:=I.hok.fresh (Nat.le_refl _)
theorem Inv.lstM (I:Inv X pins σ H s) (hH:H l=some (.lst xs)):xs.length<=sizeLine /\ ∃ (its:List Value) (n:Nat),zP xs its /\ xs.length=its.length /\ s.heap.get? l=some { cls:=.type "list",data:=.seq its.toArray n }:=by
 obtain ⟨z,its,n,r,e⟩:=I.hok l _ hH
 exact ⟨z,its,n,r,r.length,e⟩
theorem Vn {n:Nat} (h:n<=sizeLine):Builtin.List.listTooLong n=false:=by
 unfold Builtin.List.listTooLong
 exact decide_eq_false (by omega)
end
section
variable {X:Cx}
def U5:V->List V->Hp->VK->Prop:=fun x vs H Q=>∃ l xs y,x = .ref l /\ vs=[y] /\ H l=some (.lst xs) /\ xs.length < sizeLine /\ Q .non (QP H l (.lst (xs ++ [y])))
theorem rC:Js X "list.append" U5:=by
 intro pins s σ H x vs v us Q I rx rv h
 obtain ⟨l,xs,y,rfl,rfl,hH,hz,q⟩:=h
 cases rx
 obtain ⟨u,rfl,ru⟩:=rv.one
 obtain ⟨z,its,n,r,hl,e⟩:=I.lstM hH
 refine call_meets F.slot_list_append ⟨_,e,rfl⟩ F.entry_list_append (F.args_list_append_2 _ _) (PySem.list_append l its.toArray n u (by rw [List.size_toArray]; omega)) ⟨e,?_⟩
 refine ⟨.non,_,I.lset (its':=its ++ [u]) hH e (by simp) (r.append (.cons ru .nil)) ?_,rfl,q⟩
 rw [List.length_append,List.length_singleton]
 omega
def Sf:V->List V->Hp->VK->Prop:=fun x vs H Q=>∃ l xs i k y,x = .ref l /\ vs=[.int i] /\ H l=some (.lst xs) /\ -(2 ^ 63)<=i /\ i < 2 ^ 63 /\ seqIndex? i xs.length=some k /\ xs[k]? = some y /\ Q y (QP H l (.lst (xs.eraseIdx k)))
theorem Vo:Js X "list.pop" Sf:=by
 intro pins s σ H x vs v us Q I rx rv h
 obtain ⟨l,xs,i,k,y,rfl,rfl,hH,h1,h2,hk,hy,q⟩:=h
 cases rx
 obtain ⟨u,rfl,ru⟩:=rv.one
 obtain ⟨t,rfl⟩:=ru
 obtain ⟨z,its,n,r,hl,e⟩:=I.lstM hH
 obtain ⟨w,hw,rw'⟩:=r.get hy
 refine call_meets F.slot_list_pop ⟨_,e,rfl⟩ F.entry_list_pop (F.args_list_pop_2 _ _)
  (MeetsSeq.list_pop_at l its.toArray n i t k w (fitsIndex_both h1 h2) (by rw [List.size_toArray,← hl]; exact hk) (by rw [← Array.getElem?_toList]; exact hw) (by rw [List.size_toArray]; omega)) ⟨e,?_⟩
 refine ⟨y,_,I.lset (its':=its.eraseIdx k) hH e ?_ (r.eraseIdx k) ?_,rw',q⟩
 ·show its.toArray.eraseIdxIfInBounds k=(its.eraseIdx k).toArray
  rw [List.eraseIdxIfInBounds_toArray]
 ·have:=rA xs k
  omega
def Qz:R2:=fun x y H Q=>∃ l b xs zs,x = .ref l /\ y = .ref b /\ H l=some (.lst xs) /\ H b=some (.lst zs) /\ xs.length+zs.length<=sizeLine /\ ∀ p,H p=none->Q (.ref p) (QP H p (.lst (xs ++ zs)))
theorem UB:Q8 X (binaryOp .Add) Qz:=by
 intro pins s σ H x y v u Q I rx ry h
 obtain ⟨l,b,xs,zs,rfl,rfl,hH,hB,hz,q⟩:=h
 cases rx
 cases ry
 obtain ⟨z,its,n,r,hl,e⟩:=I.lstM hH
 obtain ⟨z2,its2,n2,r2,hl2,e2⟩:=I.lstM hB
 refine PySem.P.add_list e e2 ?_ (by rw [List.size_toArray,List.size_toArray]; omega)
 have ea:its.toArray ++ its2.toArray=(its ++ its2).toArray:=by simp
 rw [ea]
 exact ⟨.ref _,_,I.lnew (t':=s.toks) (r.append r2) (by rw [List.length_append]; omega),rfl,q _ I.fresh⟩
def QA:R2:=fun x y H Q=>∃ l k xs,x = .ref l /\ y = .int k /\ H l=some (.lst xs) /\ -(2 ^ 63)<=k /\ k < 2 ^ 63 /\ xs.length * k.toNat<=sizeLine ∧
 ∀ p,H p=none->Q (.ref p) (QP H p (.lst (List.replicate k.toNat xs).flatten))
theorem U6 {α:Type} (xs:List α) (k:Nat):(List.replicate k xs).flatten.length=k * xs.length:=by
 induction k with
 | zero=>simp
 | succ k ih=>rw [List.replicate_succ,List.flatten_cons,List.length_append,ih,Nat.succ_mul,Nat.add_comm]
theorem Sg:Q8 X (binaryOp .Mult) QA:=by
 intro pins s σ H x y v u Q I rx ry h
 obtain ⟨l,k,xs,rfl,rfl,hH,h1,h2,hz,q⟩:=h
 cases rx
 obtain ⟨t,rfl⟩:=ry
 obtain ⟨z,its,n,r,hl,e⟩:=I.lstM hH
 have hlen:its.toArray.size * k.toNat<=sizeLine:=by rw [List.size_toArray,← hl]; exact hz
 have hcap:¬ its.toArray.size * k.toNat > (2 ^ 63 - 1) / 8:=by
  have:(sizeLine:Nat)<=(2 ^ 63 - 1) / 8:=by decide
  omega
 have hfit:¬ (!Builtin.List.listFitsIndex k)=true:=by
  rw [fitsIndex_both h1 h2]
  exact Bool.false_ne_true
 have hlong:¬ Builtin.List.listTooLong (its.toArray.size * k.toNat)=true:=by
  rw [Vn hlen]
  exact Bool.false_ne_true
 have hnew:List.foldl (fun x1 x2=>x1 ++ x2) #[] (List.replicate (if its.toArray.isEmpty=true then 0 else k.toNat) its.toArray)=(List.replicate k.toNat its).flatten.toArray:=by
  have f0:∀ m:Nat,List.foldl (fun x1 x2=>x1 ++ x2) #[] (List.replicate m its.toArray)=(List.replicate m its).flatten.toArray:=fun m=>by
   have:=rB its m []
   rw [List.nil_append] at this
   exact this
  rw [f0]
  cases its with
  | nil=>simp
  | cons a r'=>rw [if_neg (by simp)]
 refine wpAny_binaryOp_repeat_ref (T:="list") (U:="int") (by decide) ⟨_,e,rfl⟩ (fun s'=>typeIs_int s' k t) noFill_list_mul F.fills_int_mul F.slot_int_rmul repeat_list F.slot_int_index.lookup
  (call_meets F.slot_int_rmul (typeIs_int s k t) F.entry_int_rmul (F.args_int_rmul_2 _ _) (int___rmul___int_list k t l its.toArray n)
   ⟨e,rfl,⟨_,e,rfl⟩,call_meets F.slot_list_mul ⟨_,e,rfl⟩ F.entry_list_mul (F.args_list_mul_2 _ _) (AutoListH.list___mul___list_int_3 l its.toArray n k t hfit hcap hlong) ⟨e,?_⟩⟩)
 rw [hnew]
 exact ⟨.ref _,_,I.lnew (t':=s.toks) (r.rep k.toNat) (by rw [U6,Nat.mul_comm]; exact hz),rfl,q _ I.fresh⟩
end
end L2
namespace Att
open PySem PySem.W PySem.Calls PyProof.Rows
theorem ug {P:Params} {h:Heap}:∀ (ns:List Int) (vs:List Value),WellAll P h vs (ns.map WData.int)->IntsAre vs ns:=by
 intro ns
 induction ns with
 | nil =>
  intro vs w
  rw [List.map_nil] at w
  cases w
  exact .nil
 | cons n ns ih =>
  intro vs w
  rw [List.map_cons] at w
  cases w with
  | cons a b =>
   cases a
   exact .cons _ _ (ih _ b)
theorem Y9 {l:OpenLaw} {n:Nat} (hn:l.most=some n) {P:Params} {h:Heap} {args:List WData} {vals:List Value}
  (hpre:l.row.toRowW.claim.pre args=true) (hwl:WellAll P h vals args) :
  ∃ a vs ns,vals=[Value.ref a] /\ args=[WData.list (ns.map WData.int)] /\ h.get? a=some { cls:=.type "list",data:=.seq vs.toArray } /\ IntsAre vs ns /\ ns.length<=n:=by
 have hsh:WShape.hasAll [] args [.list .int]=true:=(pre_splitW hpre).1
 have hc:l.pre.holds [] { args:=args } = true:=(pre_splitW hpre).2
 obtain ⟨d,r,rfl,h1,h2⟩:=hasAllW_cons hsh
 obtain rfl:=hasAllW_nil h2
 obtain ⟨xs,rfl,h3⟩:=hasW_list h1
 obtain ⟨ns,rfl⟩:=items_int h3
 have hlen:ns.length<=n:=by
  unfold OpenLaw.pre at hc
  have h4:(WTm.not (.lt (.lit (.int (n:Int))) (.len (.arg 0)))).holds [] { args:=[.list (ns.map .int)] } = true:=by
   have h4:=(holds_andW hc).1
   rw [hn] at h4
   exact h4
  have h5:=condW_of h4 (w_not (w_lt w_lit (w_len_list (w_arg rfl))))
  rw [List.length_map] at h5
  refine Nat.le_of_not_lt fun q=>?_
  have q':(n:Int) < ((ns.length:Nat):Int):=by omega
  first
   | (rw [decide_eq_true q'] at h5; exact absurd h5 (by decide))
   | (simp at h5; omega)
 cases hwl with
 | cons w1 w2 =>
  cases w2
  cases w1 with
  | list ho hall=>exact ⟨_,_,ns,rfl,rfl,ho,ug ns _ hall,hlen⟩
theorem Xa (l:OpenLaw) (args:List WData):l.row.toRowW.claim.post args (.bool true) args=true :=
 postW_of (r:=l.row.toRowW) (X:=(true == true))
  (show WShape.has [] (.bool true) .bool=true by first | rfl | decide | simp [WShape.has,WShape.arms,WShape.armsAll])
  (show (WTm.eq .res (.lit (.bool true))).value [] { args:=args,res:=some (.bool true),after:=args } = some (.bool (true == true)) from w_eq_bool (w_res rfl) w_lit) rfl
theorem attach_call {l:OpenLaw} {n:Nat} {q:Program} {loose:List Str} {XP:(Str->Option Value)->Heap->Prop} {YP:World->Heap->Prop} {d:DefRec}
  (hn:l.most=some n) (hdf:d.params.defaults=[])
  (call:∀ (w:World) (s₀ s₁:Shared) (mg mb:Str->Option Value) (fa:Addr) (o:Obj) (pm cd doc:Value) (a:Addr) (vs:List Value) (ns:List Int),
   Ground q loose [] XP w s₀ mg mb s₁.heap->YP w s₁.heap →
   s₁.heap.get? fa=some o->o.data = .func (docDef d.name d.params d.body d.scope pm cd doc)->s₁.heap.CodeRec cd d.name->mg d.name=some (.ref fa) →
   s₁.heap.get? a=some { cls:=.type "list",data:=.seq vs.toArray } -> IntsAre vs ns->ns.length<=n->s₁.gens = #[] →
   codeAny (model l.prog w) callerA (.call (.ref fa) ⟨[.ref a],[]⟩) (fun r s'=>r = .ok (.ret (.bool true)) /\ OldK s₁.heap s'.heap /\ s'.os=s₁.os /\ AllBare s'.gens) s₁) :
  WalkO q loose XP YP l.row.toRowW d [] (fun f vs=>PySem.call f vs):=by
 intro w s₀ s₁ mg mb G Y fa o pm cd doc dV kV ho hd hcd hD hmg hg args vals as hpre hlay hrd hwl hlo
 obtain rfl:dV = .none:=Dflts.none hD hdf
 obtain rfl:kV = .none:=Dflts.noKw hD
 obtain ⟨a,vs,ns,rfl,rfl,hobj,hints,hlen⟩:=Y9 hn hpre hwl
 refine enter_call (codeAny_mono (call w s₀ s₁ mg mb fa o pm cd doc a vs ns G Y ho (fd_plain hd) hcd hmg hobj hints hlen hg) fun r s' hq=>?_)
 obtain ⟨rfl,h2,h3,h4⟩:=hq
 exact ⟨.inl ⟨.bool true,.bool true,[],rfl,fun _=>rfl,.bool true,Xa l _,fun _=>⟨List.Pairwise.nil,fun _ hm=>(nomatch hm)⟩⟩,h2,h3,h4⟩
end Att
namespace L2
open PySem PySem.Spec PyProof.Rows
theorem wM:∀ {vs:List Value} {ns:List Int},IntsAre vs ns->zP (ns.map V.int) vs
 | _,_,.nil=>.nil
 | _,_,.cons n t h=>.cons ⟨t,rfl⟩ (wM h)
def Rf (H:Hp):Prop:=∀ b,H b=none \/ ∃ o xs,H b=some (.frz o (.lst xs))
theorem Vp {P:Program} {w:World} {K:QM} {mg mb:Str->Option Value} {CX:Jh} {k:Nat} {fa a:Addr} {fd:FuncData} {x:Str} {sp:Sp} {s₁:Shared} {vs:List Value} {ns:List Int}
  (KX:K.In s₁.heap) (hns:s₁.heap.Ns mainGlobals mg) (hb:s₁.heap.Ns builtinsNs mb) (hbb:∀ x:Str,x ≠ "__name__" -> mb x=bootBuiltins x) (hlim:s₁.heap.NoLimit) (hg:s₁.gens = #[])
  (ha:s₁.heap.get? a=some { cls:=.type "list",data:=.seq vs.toArray }) (hi:IntsAre vs ns) (hl:ns.length<=sizeLine) (hr:Room k callerA)
  (F:∀ base:Heap,K.In base->base.Ns mainGlobals mg->FnOk P w K mg base CX k fa fd [x] sp) (hbind:∀ (s:Shared) (u:Value),BindsTo s fd ⟨[u],[]⟩ [(x,u)])
  (hsp:∀ H:Hp,Rf H->Q0 K H a (ns.map V.int)->sp [.ref a] H (fun v _=>v = .bl true) fun _ _ _=>False)
  (hCX:∀ H e s',CX [] H s₁ (fun _ _ _=>False) e s' -> False) :
  codeAny (model P w) callerA (.call (.ref fa) ⟨[.ref a],[]⟩) (fun r s'=>r = .ok (.ret (.bool true)) /\ OldK s₁.heap s'.heap /\ s'.os=s₁.os /\ AllBare s'.gens) s₁:=by
 have rv:=wM hi
 have lenV:=hi.length
 -- from an abstract heap in which nothing but the script may be tracked
 have core:∀ H:Hp,Rf H->Q0 K H a (ns.map V.int)->QQ P w H s₁.heap->(∀ b,H b ≠ none->b=a)->(H a ≠ none->K.lookup a=none) →
   codeAny (model P w) callerA (.call (.ref fa) ⟨[.ref a],[]⟩) (fun r s'=>r = .ok (.ret (.bool true)) /\ OldK s₁.heap s'.heap /\ s'.os=s₁.os /\ AllBare s'.gens) s₁:=by
  intro H hO hS hok hA hK
  have base_of:∀ {b:Addr} {o:Obj},s₁.heap.get? b=some o->H b=none->(Vc s₁.heap H).get? b=some o:=fun e n=>Vd e n
  have noA:∀ {b:Addr} {o:Obj} {es:Array DictEntry} {ep:Nat},s₁.heap.get? b=some o->o.data = .dict es ep->H b=none:=fun {b o es ep} e d=>by
   cases q:H b with
   | none=>rfl
   | some u =>
    have e':b=a:=hA b (by rw [q]; simp)
    subst e'
    rw [ha] at e; cases e
    have d':Data.seq vs.toArray _=Data.dict es ep:=d
    cases d'
  have nsK:∀ {b:Addr} {m:Str->Option Value},s₁.heap.Ns b m->(Vc s₁.heap H).Ns b m:=fun {b m} ⟨o,es,ep,e,d,r⟩=>⟨o,es,ep,base_of e (noA e d),d,r⟩
  have hKb:K.In (Vc s₁.heap H):=fun b o e=>base_of (KX b o e) (by
   cases q:H b with
   | none=>rfl
   | some u =>
    have e':b=a:=hA b (by rw [q]; simp)
    subst e'
    rw [hK (by rw [q]; simp)] at e; cases e)
  have hM:Mod K mg (Vc s₁.heap H):=⟨hKb,nsK hns,⟨mb,nsK hb,hbb⟩,let ⟨mc,h1,h2⟩:=hlim; ⟨mc,nsK h1,h2⟩⟩
  have e0:Env0 P w K mg (Vc s₁.heap H) callerA [] s₁ H:=⟨rfl,hM,fun b o e=>UW e,Nat.le_of_eq (YS _ _),trivial,fun b hb=>absurd (show b ∈ ([]:List Addr) from hb) (by simp),hok,.of_eq hg⟩
  refine codeAny_mono ((F _ hKb (nsK hns)).run callerA [] s₁ H ⟨[.ref a],[]⟩ [.ref a] [.ref a] _ _ hr e0 (hbind s₁ (.ref a)) (.cons rfl .nil) (hsp H hO hS)) fun r s' h=>?_
  cases r with
  | error e=>exact (hCX H e s' h).elim
  | ok fl =>
   cases fl with
   | next=>exact False.elim h
   | brk=>exact False.elim h
   | cont=>exact False.elim h
   | ret u =>
    obtain ⟨v,H',os,bare,un,hok',r',q⟩:=h
    have q':v = .bl true:=q
    subst q'
    obtain rfl:u=Value.bool true:=r'
    refine ⟨rfl,OldK.of_keep fun b o e=>?_,os,bare⟩
    cases q:H b with
    | none=>exact un.keep b o e q (by intro z; exact absurd (show b ∈ ([]:List Addr) from z) (by simp)) (by simp)
    | some u =>
     rcases hO b with z | ⟨ob,xs,z⟩
     ·rw [q] at z; cases z
     ·have z2:=un.frzs b ob _ z
      obtain ⟨e1,_⟩:=hok b _ z
      obtain ⟨e2,_⟩:=hok' b _ z2
      rw [e] at e1; cases e1
      exact e2
 cases hk:K.lookup a with
 | some o =>
  -- the script is one of the module's own objects
  have e:=KX a o hk
  rw [ha] at e
  cases e
  refine core (fun _=>none) (fun _=>.inl rfl) (.inr ⟨_,vs.toArray,_,hk,rfl,rfl,rfl,by rw [List.size_toArray,lenV]; exact hl,by simpa using rv⟩) (fun b u z=>by have z':(none:Option HO)=some u:=z; cases z') (fun b z=>absurd rfl z) fun z=>absurd rfl z
 | none =>
  refine core (fun b=>if b=a then some (.frz { cls:=.type "list",data:=.seq vs.toArray } (.lst (ns.map V.int))) else none) (fun b=>?_) (.inl (.inr ⟨{ cls:=.type "list",data:=.seq vs.toArray },if_pos rfl⟩)) (fun b u z=>?_) (fun b z=>?_) fun _=>hk
  ·by_cases hb:b=a
   ·exact .inr ⟨_,_,if_pos hb⟩
   ·exact .inl (if_neg hb)
  ·by_cases hb:b=a
   ·have z':=(if_pos hb).symm.trans z
    cases z'
    subst hb
    exact ⟨ha,by rw [List.length_map]; exact hl,vs,_,rv,ha⟩
   ·have z':=(if_neg hb).symm.trans z
    cases z'
  ·by_cases hb:b=a
   ·exact hb
   ·exact absurd (if_neg hb) z
end L2
namespace L2
open PySem PySem.Spec PyProof.Rows
theorem walk_of {l:PySem.W.OpenLaw} {n k:Nat} {q:Program} {loose:List Str} {XP:(Str->Option Value)->Heap->Prop} {YP:World->Heap->Prop} {d:DefRec} {K:Params->QM} {CX:World->Jh} {sp:World->Sp} {x:Str}
  (hn:l.most=some n) (hn2:n<=sizeLine) (hdf:d.params.defaults=[]) (hr:Room k callerA)
  (hY:∀ (w:World) (h:Heap),YP w h->(K w.params).In h)
  (F:∀ (w:World) (mg:Str->Option Value) (fa:Addr) (h:Heap),(K w.params).In h->h.Ns mainGlobals mg->mg d.name=some (.ref fa) →
   ∃ fd:FuncData,(∀ (s:Shared) (u:Value),BindsTo s fd ⟨[u],[]⟩ [(x,u)]) ∧
    ∀ base:Heap,(K w.params).In base->base.Ns mainGlobals mg->FnOk l.prog w (K w.params) mg base (CX w) k fa fd [x] (sp w))
  (hsp:∀ (w:World) (H:Hp) (a:Addr) (ns:List Int),ns.length<=n->Rf H->Q0 (K w.params) H a (ns.map V.int)->sp w [.ref a] H (fun v _=>v = .bl true) fun _ _ _=>False)
  (hCX:∀ (w:World) (H:Hp) (s:Shared) (e:Value) (s':Shared),CX w [] H s (fun _ _ _=>False) e s' -> False) :
  PySem.W.WalkO q loose XP YP l.row.toRowW d [] (fun f vs=>PySem.call f vs):=by
 refine Att.attach_call hn hdf fun w s₀ s₁ mg mb fa o pm cd doc a vs ns G Y ho hd hcd hmg hobj hints hlen hg=>?_
 have KX:=hY w _ Y
 obtain ⟨fd,hb,hF⟩:=F w mg fa _ KX G.T.g hmg
 exact Vp KX G.T.g G.T.b G.T.builtins G.T.nolimit hg hobj hints (Nat.le_trans hlen hn2) hr hF hb (fun H hO hS=>hsp w H a ns hlen hO hS) fun H e s'=>hCX w H s₁ e s'
end L2
namespace L2
open PySem PySem.Spec PyProof.Rows
def uh (s:Stmt):Arguments:=match s with
 | .FunctionDef _ a _ _ _ _ _ _ _ _=>a
 | _=>{ posonlyargs:=[],args:=[],vararg:=none,kwonlyargs:=[],kw_defaults:=[],kwarg:=none,defaults:=[] }
def xW (s:Stmt):List Stmt:=match s with
 | .FunctionDef _ _ b _ _ _ _ _ _ _=>b
 | _=>[]
def zi (s:Stmt):Scope:=match s with
 | .FunctionDef _ _ _ _ _ _ sc _ _ _=>sc
 | _=>{ kind:=.function,names:=[],isGenerator:=false,isCoroutine:=false }
abbrev Jt:Jh:=fun _ _ _ _ _ _=>False
abbrev E0:XK:=fun _ _ _=>False
theorem RB {X:Cx}:uf Jt X E0:=fun _ _ _ _ _ _ _ h=>h.elim
structure Fun (K:QM) (x qual:Str) (st:Stmt) (f:Addr) (fd:FuncData):Prop where
 ex:∃ (oc:Value) (od:Option Addr) (kV doc pm:Value) (an:Option Addr) (cdv ct:Value) (osl:Array (Option Value)),
  fd=PySem.W.fnOf x qual (uh st) (xW st) (zi st) .none kV doc pm an cdv ct /\ K.lookup f=some ⟨oc,od,.func fd,osl⟩ /\ PySem.W.codeIn K cdv qual=true
 kp:PySem.W.keepIn K (.ref f)=true
section
variable {P:Program} {w:World} {K:QM} {mg:Str->Option Value} {base:Heap}
theorem Fun.ok {x qual:Str} {st:Stmt} {f:Addr} {fd:FuncData} {N ps:List Str} {k:Nat} {sp:Sp} (F:Fun K x qual st f fd) (S:FnScope N ps (zi st)) (len:∀ vs H Q E,sp vs H Q E->vs.length=ps.length)
  (hbody:∀ (cdv:Value) (A:Around) (outer:List Env) (s:Shared) (H:Hp) (vs:List V) (Q:VK) (E:XK),Room k (A.deeper (envOfC qual (zi st) s.heap.objs.size f cdv))->sp vs H Q E →
   ∃ t,QW (qZ Jt P w K mg base N qual (zi st) f cdv A outer s H E).nox (xW st) t /\ t { nx:=fun _ H'=>Q .non H',rt:=Q } (start N vs) H):FnOk P w K mg base Jt (k+1) f fd ps sp:=by
 obtain ⟨oc,od,kV,doc,pm,an,cdv,ct,osl,rfl,lk,hcd⟩:=F.ex
 refine Sb lk hcd S len fun A outer s H vs Q E hr hsp=>?_
 obtain ⟨t,h,q⟩:=hbody cdv A outer s H vs Q E hr hsp
 exact ⟨t,h.nox,q⟩
theorem Fun.binds {x qual:Str} {st:Stmt} {f:Addr} {fd:FuncData} {ps:List Str} (F:Fun K x qual st f fd)
  (h:∀ (kV doc pm:Value) (an:Option Addr) (cdv ct:Value) (us:List Value),us.length=ps.length->bindArgs (PySem.W.fnOf x qual (uh st) (xW st) (zi st) .none kV doc pm an cdv ct) ⟨us,[]⟩=pure (ps.zip us)):sh K fd ps []:=by
 obtain ⟨oc,od,kV,doc,pm,an,cdv,ct,osl,rfl,lk,hcd⟩:=F.ex
 exact .all (h kV doc pm an cdv ct)
theorem fun_mk {x qual:Str} {st:Stmt} {f:Addr} {oc:Value} {od an:Option Addr} {osl:Array (Option Value)} {kV doc pm cdv ct:Value} (l:K.lookup f=some ⟨oc,od,.func (PySem.W.fnOf x qual (uh st) (xW st) (zi st) .none kV doc pm an cdv ct),osl⟩)
  (c:PySem.W.codeIn K cdv qual=true) (k:PySem.W.keepIn K (.ref f)=true):Fun K x qual st f (PySem.W.fnOf x qual (uh st) (xW st) (zi st) .none kV doc pm an cdv ct):=⟨⟨oc,od,kV,doc,pm,an,cdv,ct,osl,rfl,l,c⟩,k⟩
end
theorem xX {n:Nat} (h:n<=1000):n < sizeLine:=Nat.lt_of_le_of_lt h (by decide)
section
variable {X:Cx}
theorem pv (i:Nat) {x:Str} {pos:Pos} (hN:X.N[i]? = some x:=by rfl) (hv:QU X.env.scope x:=by first | exact Or.inl rfl | exact Or.inr (Or.inl rfl) | exact Or.inr (Or.inr rfl)) (hd:(x == ("__debug__":Str))=false:=by decide)
  (hcd:(x == ("__classdict__":Str))=false:=by decide):PE X (.Name x pos) (Rl i):=T1 hN hv hd hcd
end
theorem yD {A B:Prop} (h:B):if false=true then A else B:=by
 rw [if_neg Bool.false_ne_true]
 exact h
theorem xk {A B:Prop} (h:A):if true=true then A else B:=by
 rw [if_pos rfl]
 exact h
theorem W9 {c A B:Prop} [Decidable c] (h1:c->A) (h2:¬ c->B):if c then A else B:=by
 by_cases h:c
 ·rw [if_pos h]
  exact h1 h
 ·rw [if_neg h]
  exact h2 h
end L2
namespace L3
open PySem PySem.Spec PyProof.Rows L2
theorem yW:bootBuiltins "len" = some (.builtin "len"):=by decide +kernel
theorem ZU:bootBuiltins "max" = some (.builtin "max"):=by decide +kernel
theorem Sh:bootBuiltins "min" = some (.builtin "min"):=by decide +kernel
theorem UC:bootBuiltins "repr" = some (.builtin "repr"):=by decide +kernel
theorem zB:bootBuiltins "isinstance" = some (.builtin "isinstance"):=by decide +kernel
theorem Vq:bootBuiltins "all" = some (.builtin "all"):=by decide +kernel
theorem Vr:bootBuiltins "any" = some (.builtin "any"):=by decide +kernel
theorem RC:bootBuiltins "sum" = some (.builtin "sum"):=by decide +kernel
theorem jV:bootBuiltins "sorted" = some (.builtin "sorted"):=by decide +kernel
theorem U7:bootBuiltins "int" = some (.type "int"):=by decide +kernel
theorem UD:bootBuiltins "bool" = some (.type "bool"):=by decide +kernel
theorem yK:bootBuiltins "tuple" = some (.type "tuple"):=by decide +kernel
theorem tq:bootBuiltins "list" = some (.type "list"):=by decide +kernel
def Ju (K:QM) (H:Hp) (x:V) (T:String):Prop:=match x with
 | .non=>T = "NoneType"
 | .bl _=>T = "bool"
 | .int _=>T = "int"
 | .str _=>T = "str"
 | .ref a=>(T = "tuple" /\ ∃ xs,Q1 K H a xs) \/ (T = "list" /\ ∃ xs,Q0 K H a xs) \/ (T = "dict" /\ ∃ kvs,H a=some (.dK kvs))
 | _=>False
section
variable {X:Cx} {a b c:Expr} {ta tb tc:TE} {pos:Pos}
def Qd (K:QM):List V->Hp->VK->Prop:=fun xs H Q=>∃ x T t k,xs=[x,.ty T] /\ Ju K H x t /\ PySem.W.kitOne K (.type t) (.type T)=some k /\ Q (.bl k) H
theorem yo:y7 X (.builtin "isinstance") (Qd X.K):=by
 intro pins s σ H xs us Q I r h
 obtain ⟨x,T,t,k,rfl,ty,e,q⟩:=h
 obtain ⟨u,w',rfl,rx,rt⟩:=Y1 r
 cases (show w' = Value.type T from rt)
 have fin:∀ tk,EP X pins σ Q (.bool k) { s with toks:=tk }:=fun tk=>⟨.bl k,H,I.tok _,rfl,q⟩
 cases x with
 | non=>cases (show t = "NoneType" from ty); exact xU I rx .non e fin
 | bl y=>cases (show t = "bool" from ty); exact xU I rx (.bl y) e fin
 | int i=>cases (show t = "int" from ty); exact xU I rx (.int i) e fin
 | str y=>cases (show t = "str" from ty); exact xU I rx (.str y) e fin
 | byt y=>exact ty.elim
 | flt y=>exact ty.elim
 | ty y=>exact ty.elim
 | ref a =>
  cases (show u=Value.ref a from rx)
  rcases ty with ⟨rfl,xs,hq⟩ | ⟨rfl,xs,hq⟩ | ⟨rfl,kvs,hq⟩
  ·obtain ⟨its,_,⟨o,h1,h2,_⟩,_⟩:=I.tuple hq
   exact PySem.W.kia_one PySem.W.kitx_tuple I.kIn ⟨o,h1,h2⟩ e (fun z=>nomatch z) fin
  ·obtain ⟨its,_,pl,_⟩:=I.list hq
   obtain ⟨o,h1,h2,_⟩:=pl.isList
   exact PySem.W.kia_one PySem.W.kitx_list I.kIn ⟨o,h1,h2⟩ e (fun z=>nomatch z) fin
  ·exact xU (x:=V.ref a) I (show zU (.ref a) (.ref a) from rfl) (.dK hq) e fin
theorem xL {x:Str} {T:String} {pos:Pos} (hg:Gl X x) (hm:X.mg x=none) (hv:bootBuiltins x=some (.type T)) (hn:x ≠ "__name__":=by decide) (hd:(x == ("__debug__":Str))=false:=by decide):PE X (.Name x pos) (tC (.ty T)) :=
 UX hg hm hv (show zU (.ty T) (Value.type T) from rfl) hn hd
theorem xE:Q8 X (binaryOp .Mult) (rI IntMulOk fun i j=>.int (i * j)):=Jd fun _ _ _ _ _ _ _ hc q=>mul_int q hc
def U8 (i j:Int):Prop:=0 < j /\ j < 2 ^ 200
theorem U8.py {i j:Int} (h:U8 i j):Builtin.divisionGoesByPylong i j=false:=by
 refine PyProof.noPylong_of_log2 ?_
 obtain ⟨h1,h2⟩:=h
 have h0:j.natAbs ≠ 0:=by omega
 have h3:j.natAbs < 2 ^ 200:=by
  have:(j.natAbs:Int)=j:=by omega
  have h4:((j.natAbs:Nat):Int) < ((2 ^ 200:Nat):Int):=by rw [this]; exact h2
  exact Int.ofNat_lt.mp h4
 exact Nat.lt_of_lt_of_le ((Nat.log2_lt h0).mpr h3) (by decide)
theorem sj:Q8 X (binaryOp .FloorDiv) (rI U8 fun i j=>.int (i / j)):=Jd fun i j _ _ _ _ _ hc q=>by
 have:=hc.1
 refine floordiv_int (by omega) ?_ (.inl hc.py)
 rw [Int.fdiv_eq_ediv_of_nonneg i (by omega)]
 exact q
end
def zn (P:Program) (w:World) (K:QM) (mg:Str->Option Value) (base:Heap) (k:Nat) (x:Str) (ps:List Str) (sp:Sp):Prop :=
 ∃ (f:Addr) (fd:FuncData),FnOk P w K mg base Jt k f fd ps sp /\ sh K fd ps [] /\ PySem.W.keepIn K (.ref f)=true /\ mg x=some (.ref f)
theorem zn.mono {P:Program} {w:World} {K:QM} {mg:Str->Option Value} {base:Heap} {j k:Nat} {x:Str} {ps:List Str} {sp:Sp} (C:zn P w K mg base j x ps sp) (h:j<=k):zn P w K mg base k x ps sp:=by
 obtain ⟨f,fd,F,b,kp,m⟩:=C
 exact ⟨f,fd,F.mono h,b,kp,m⟩
section
variable {X:Cx} {k:Nat} {ps:List Str} {sp:Sp} {x:Str} {p pos:Pos} {e:Expr} {es:List Expr} {t:TA}
theorem zg (C:zn X.prog X.w X.K X.mg X.base k x ps sp) (hr:Room k X.A) (hg:Gl X x)
  (ha:PA X (e :: es) t) (hdb:(x == ("__debug__":Str))=false:=by decide) (he:starEach (e :: es) X.env=(false,eval e X.env) :: starEach es X.env:=by rfl) (hpl:(backTo pos (starEach es X.env)).any (·.1)=false:=by rfl) :
  PE X (.Call (.Name x p) (e :: es) [] pos) (Vk sp [] E0 t):=by
 obtain ⟨f,fd,F,b,kp,m⟩:=C
 exact Y4 F hr hg m kp b .nil RB ha hdb he hpl
end
structure Grow (m:List Addr) (H H':Hp):Prop where
 keep:∀ b o,b ∉ m->H b=some o->H' b=some o
 tup:∀ b xs,H b=some (.tup xs)->H' b=some (.tup xs)
 frz:∀ b o u,H b=some (.frz o u)->H' b=some (.frz o u)
theorem Grow.refl (m:List Addr) (H:Hp):Grow m H H:=⟨fun _ _ _ h=>h,fun _ _ h=>h,fun _ _ _ h=>h⟩
theorem Grow.trans {m:List Addr} {H H1 H2:Hp} (a:Grow m H H1) (b:Grow m H1 H2):Grow m H H2 :=
 ⟨fun c o n h=>b.keep c o n (a.keep c o n h),fun c xs h=>b.tup c xs (a.tup c xs h),fun c o u h=>b.frz c o u (a.frz c o u h)⟩
theorem Grow.new {m:List Addr} {H:Hp} {p:Addr} (h:H p=none) (o:HO):Grow m H (QP H p o) :=
 ⟨fun b u _ q=>by rw [zq (zC q h)]; exact q,fun b xs q=>by rw [zq (zC q h)]; exact q,fun b u v q=>by rw [zq (zC q h)]; exact q⟩
theorem Grow.set {m:List Addr} {H:Hp} {p:Addr} {xs:List V} (h:H p=some (.lst xs)) (hm:p ∈ m) (ys:List V):Grow m H (QP H p (.lst ys)) :=
 ⟨fun b u hb q=>by rw [zq (show b ≠ p from fun z=>hb (by rw [z]; exact hm))]; exact q,fun b zs q=>by rw [zq (fun z=>by subst z; rw [h] at q; cases q)]; exact q,fun b u v q=>by rw [zq (fun z=>by subst z; rw [h] at q; cases q)]; exact q⟩
theorem Grow.mono {m m':List Addr} {H H':Hp} (a:Grow m H H') (h:∀ b ∈ m,b ∈ m'):Grow m' H H':=⟨fun b o n q=>a.keep b o (fun z=>n (h b z)) q,a.tup,a.frz⟩
theorem Grow.sqT {m:List Addr} {H H':Hp} (g:Grow m H H') {K:QM} {a:Addr} {xs:List V} (h:Q1 K H a xs):Q1 K H' a xs:=by
 rcases h with (h | ⟨o,h⟩) | h
 ·exact .inl (.inl (g.tup _ _ h))
 ·exact .inl (.inr ⟨o,g.frz _ _ _ h⟩)
 ·exact .inr h
theorem Grow.free {H H':Hp} {m:List Addr} (g:Grow m H H') {l:Addr} (hm:l ∉ m) (h:H' l=none):H l=none:=by
 cases q:H l with
 | none=>rfl
 | some o=>rw [g.keep l o hm q] at h; cases h
def Jv (K:QM) (H:Hp) (a:Addr) (ns:List Int):Prop :=
 (∃ o,H a=some (.frz o (.lst (ns.map V.int)))) ∨
  ∃ (o:Obj) (its:Array Value) (n:Nat),K.lookup a=some o /\ o.cls = .type "list" /\ o.dict=none /\ o.data = .seq its n /\ its.size<=sizeLine /\ zP (ns.map V.int) its.toList
theorem Jv.sq {K:QM} {H:Hp} {a:Addr} {ns:List Int} (h:Jv K H a ns):Q0 K H a (ns.map V.int):=by
 rcases h with ⟨o,h⟩ | h
 ·exact .inl (.inr ⟨o,h⟩)
 ·exact .inr h
theorem Jv.of {K:QM} {H:Hp} {a:Addr} {ns:List Int} (hO:Rf H) (h:Q0 K H a (ns.map V.int)):Jv K H a ns:=by
 rcases h with (h | ⟨o,h⟩) | h
 ·rcases hO a with z | ⟨o,xs,z⟩
  ·rw [h] at z; cases z
  ·rw [h] at z; cases z
 ·exact .inl ⟨o,h⟩
 ·exact .inr h
theorem Grow.scr {m:List Addr} {H H':Hp} (g:Grow m H H') {K:QM} {a:Addr} {ns:List Int} (h:Jv K H a ns):Jv K H' a ns:=by
 rcases h with ⟨o,h⟩ | h
 ·exact .inl ⟨o,g.frz _ _ _ h⟩
 ·exact .inr h
section
variable {prog:Program} {w:World} {A:Around} {R:Result->Shared->Prop} {s:Shared}
theorem Xb {elt target iter:Expr} {ifs:List Expr} {scope:Scope} {pos:Pos} {it acc:Value} {env:Env} (I:Nat->Shared->Prop)
  (turn:∀ n s,I n s->wpAny (model prog w) A (pyNext it) (fun r s₁=>match r with
   | none=>R (.ok .next) s₁
   | some v=>wpAny (model prog w) A (letOwnedTupleGo target it v) (fun _ s₂=>wpAny (model prog w) A (assign target env v) (fun _ s₃ =>
     wpAny (model prog w) A (forIn ifs true fun c r=>if r=true then do let ok ← isTrue c env (eval c env); pure (ForInStep.yield ok) else pure (ForInStep.yield r)) (fun ok s₄ =>
      if ok=true then wpAny (model prog w) A (eval elt env) (fun x s₅ =>
       wpAny (model prog w) A (call (.builtin "list.append") [acc,x]) (fun _ s₆=>∃ m,m < n /\ I m s₆) (fun _ _=>False) s₅) (fun _ _=>False) s₄
      else ∃ m,m < n /\ I m s₄) (fun _ _=>False) s₃) (fun _ _=>False) s₂) (fun _ _=>False) s₁) (fun _ _=>False) s)
  (n:Nat) (h:I n s) :
  codeAny (model prog w) A (.compLoop (.ListComp elt [⟨target,iter,ifs,0⟩] scope pos) 0 it acc env) R s:=by
 refine codeAny_loop rfl I (fun n s hI=>?_) n h
 show wpAny _ A ((compTurn (.ListComp elt [⟨target,iter,ifs,0⟩] scope pos) 0 it acc env).onRaise (fun x=>do noteFrame x env; theTreesLotGoes x)) _ _ s
 refine wpAny_noted ?_
 rw [compTurn_list]
 have no:∀ (E:QN) (e:Value) (s:Shared),(fun (_:Value) (_:Shared)=>False) e s->E e s:=fun _ _ _ f=>f.elim
 refine wpAny_bind (wpAny_standAt (wpAny_bind (wpAny_mono (turn n s hI) (fun r s₁ h₁=>?_) (no _))))
 cases r with
 | none=>exact wpAny_pure h₁
 | some v =>
  refine wpAny_bind (wpAny_mono h₁ (fun _ s₂ h₂=>?_) (no _))
  refine wpAny_bind (wpAny_mono h₂ (fun _ s₃ h₃=>wpAny_bind (wpAny_mono h₃ (fun ok s₄ h₄=>?_) (no _))) (no _))
  cases ok with
  | true =>
   simp only [if_true] at h₄ ⊢
   exact wpAny_bind (wpAny_bind (wpAny_mono h₄ (fun x s₅ h₅=>wpAny_bind (wpAny_mono h₅ (fun _ s₆ h₆=>wpAny_pure (wpAny_pure ⟨rfl,h₆⟩)) (no _))) (no _)))
  | false =>
   simp only [Bool.false_eq_true,if_false] at h₄ ⊢
   first
    | exact wpAny_bind (wpAny_pure (wpAny_pure ⟨rfl,h₄⟩))
    | exact wpAny_pure ⟨rfl,h₄⟩
end
theorem ZV {scope:Scope} {env:Env} (hfree:∀ y ∈ scope.names,y.2 = .free -> ∃ c,env.cells.lookup y.1=some c) :
  ∃ cl,closureFor scope env=pure cl /\ (∀ x c,cl.lookup x=some c->env.cells.lookup x=some c) /\ ∀ y ∈ scope.names,y.2 = .free -> ∃ c,cl.lookup y.1=some c:=by
 have key:∀ (l:List (Str × NameKind)) (cs:List (Str × Addr)),(∀ y ∈ l,y.2 = .free -> ∃ c,env.cells.lookup y.1=some c)->(∀ x c,cs.lookup x=some c->env.cells.lookup x=some c) →
   ∃ cl,(forIn l cs (fun (x:Str × NameKind) r=>do if x.2 == .free then do let c ← cellOf env x.1; pure (ForInStep.yield ((x.1,c) :: r)) else pure (ForInStep.yield r)):Sem (List (Str × Addr)))=pure cl ∧
    (∀ x c,cl.lookup x=some c->env.cells.lookup x=some c) /\ (∀ y ∈ l,y.2 = .free -> ∃ c,cl.lookup y.1=some c) /\ ∀ x c,cs.lookup x=some c -> ∃ c',cl.lookup x=some c':=by
  intro l
  induction l with
  | nil=>intro cs _ h2; exact ⟨cs,rfl,h2,fun y hy=>absurd hy (by simp),fun x c h=>⟨c,h⟩⟩
  | cons y r ih =>
   intro cs h1 h2
   obtain ⟨n,k⟩:=y
   by_cases hk:k = .free
   ·subst hk
    obtain ⟨c,hc⟩:=h1 (n,.free) (by simp) rfl
    have hc':env.cells.lookup n=some c:=hc
    have e0:cellOf env n=pure c:=by unfold cellOf; rw [hc']
    obtain ⟨cl,e,p1,p2,p3⟩:=ih ((n,c) :: cs) (fun z hz=>h1 z (List.mem_cons_of_mem _ hz)) (fun x d h=>by
     by_cases hx:x=n
     ·subst hx
      rw [List.lookup_cons_self] at h
      cases h; exact hc'
     ·rw [List.lookup_cons,beq_eq_false_iff_ne.mpr hx] at h
      exact h2 x d h)
    refine ⟨cl,?_,p1,fun z hz=>?_,fun x d h=>?_⟩
    ·rw [List.forIn_cons]
     simp only [beq_self_eq_true,if_true,e0,pure_bind]
     exact e
    ·rcases List.mem_cons.mp hz with rfl | hz
     ·intro _
      exact p3 n c List.lookup_cons_self
     ·exact p2 z hz
    ·by_cases hx:x=n
     ·subst hx; exact p3 x c List.lookup_cons_self
     ·exact p3 x d (by rw [List.lookup_cons,beq_eq_false_iff_ne.mpr hx]; exact h)
   ·have hb:(k == NameKind.free)=false:=beq_eq_false_iff_ne.mpr hk
    obtain ⟨cl,e,p1,p2,p3⟩:=ih cs (fun z hz=>h1 z (List.mem_cons_of_mem _ hz)) h2
    refine ⟨cl,?_,p1,fun z hz=>?_,p3⟩
    ·rw [List.forIn_cons]
     simp only [hb,Bool.false_eq_true,if_false,pure_bind]
     exact e
    ·rcases List.mem_cons.mp hz with rfl | hz
     ·intro h; exact absurd h hk
     ·exact p2 z hz
 obtain ⟨cl,e,p1,p2,_⟩:=key scope.names [] hfree (fun x c h=>by cases h)
 refine ⟨cl,?_,p1,p2⟩
 unfold closureFor
 first
  | (rw [show (forIn scope.names [] _:Sem (List (Str × Addr)))=pure cl from e]; rfl)
  | (simp only [bind_pure]; exact e)
  | exact e
def TR (X:Cx) (ifs:List Expr) (t:TT):Prop :=
 ∀ (pins:List (Addr × Obj)) (s:Shared) (σ:L2.St) (H:Hp) (Q:Bool->Hp->Prop),Inv X pins σ H s->t σ H Q →
  wpAny (model X.prog X.w) X.A (forIn ifs true fun c r=>if r=true then do let ok ← isTrue c X.env (eval c X.env); pure (ForInStep.yield ok) else pure (ForInStep.yield r)) (TP X pins σ Q) X.xe s
def q8:TT:=fun _ H Q=>Q true H
theorem zX {X:Cx}:TR X [] q8:=fun pins s σ H Q I h=>wpAny_pure ⟨H,I,h⟩
theorem jW {X:Cx} {c:Expr} {t:TT} (hc:PT X c t):TR X [c] t:=fun pins s σ H Q I h=>wpAny_tests_one (hc pins s σ H Q I h)
abbrev Jw (X:Cx) (N':List Str) (scope:Scope) (cl:List (Str × Addr)) (C D:Addr) (fp:List Addr) (s:Shared) (H:Hp):Cx :=
 { X with N:=N',s₀:=s,H₀:=H,env:=compEnvC scope cl C X.env,outer:=X.stack,ex:=D :: fp,fn:=fun _=>false,xe:=fun _ _=>False }
def U9 (sub:List (Option Nat)) (σ:L2.St):L2.St:=sub.map fun o=>match o with
 | none=>none
 | some i=>(match σ[i]? with | some v=>v | none=>none)
def wN (J:It) (σ0:L2.St) (H1:Hp) (g:TG) (tt:TT) (te:TE) (Q:VK):Prop :=
 ∃ W:Nat->Nat->List V->L2.St->Hp->Prop,(∃ m,W 0 m [] σ0 H1) /\ ∀ i m ys σ' H',W i m ys σ' H' →
  (J.stop i H' /\ ∀ l,H' l=none->Q (.ref l) (QP H' l (.lst ys))) ∨
  (J.go i H' /\ ∃ Nn:List V->L2.St->Hp->Prop,(∀ zs σ2 H2,Nn zs σ2 H2 -> ∃ m',m' < m /\ W (i+1) m' zs σ2 H2) ∧
   ∀ x H2,J.yld i H' x H2->g x σ' H2 fun σ2 H3=>tt σ2 H3 fun b H4=>if b=true then te σ2 H4 fun y H5=>ys.length < sizeLine /\ Nn (ys ++ [y]) σ2 H5 else Nn ys σ2 H4)
def Si (wi:TI) (sub:List (Option Nat)) (g:TG) (tt:TT) (te:TE):TE:=fun σ H Q=>wi σ H fun J H1=>wN J (U9 sub σ) H1 g tt te Q
structure CSc (X:Cx) (scope:Scope) (N':List Str) (sub:List (Option Nat)):Prop where
 free:∀ y ∈ scope.names,y.2 = .free->X.env.kindOf y.1=some .cell
 nocell:∀ y ∈ scope.names,y.2 ≠ .cell
 kind:scope.kind = .function
 names:∀ y ∈ scope.names,y.2 = .local->scope.names.lookup y.1=some .local
 len:sub.length=N'.length
 cap:∀ (j:Nat) (y:Str) (i:Nat),N'[j]? = some y->sub[j]? = some (some i)->X.N[i]? = some y /\ X.env.scope.names.lookup y=some .cell /\ scope.names.lookup y=some .free
theorem QQ.track {P:Program} {w:World} {H:Hp} {h:Heap} {a:Addr} {o:HO} (x:QQ P w H h) (hn:H a=none) (new:zT P w (QP H a o) h a o):QQ P w (QP H a o) h:=fun b u e=>by
 by_cases hb:b=a
 ·subst hb; rw [zd] at e; cases e; exact new
 ·rw [zq hb] at e
  exact (x b u e).stay (fun c v _ q=>q) (fun c q=>by rw [zq (zC q hn)]; exact q) fun c xs q=>by rw [zq (zC q hn)]; exact q
theorem ww {scope:Scope} {env:Env} {y:Str} {k:NameKind} (h:(relabel scope env).names.lookup y=some k) :
  ∃ k',scope.names.lookup y=some k' /\ (k=k' \/ (k = .cell /\ k' = .free)):=by
 have key:∀ l:List (Str × NameKind),(l.map fun (n,k)=>if (k == NameKind.free && env.scope.kind == .function && env.kindOf n == some .cell) then (n,NameKind.cell) else (n,k)).lookup y=some k →
   ∃ k',l.lookup y=some k' /\ (k=k' \/ (k = .cell /\ k' = .free)):=by
  intro l
  induction l with
  | nil=>intro h; cases h
  | cons p r ih =>
   obtain ⟨n,k0⟩:=p
   intro h
   rw [List.map_cons] at h
   by_cases hc:(k0 == NameKind.free && env.scope.kind == .function && env.kindOf n == some .cell)=true
   ·have hf:k0 = .free:=by
     simp only [Bool.and_eq_true,beq_iff_eq] at hc
     exact hc.1.1
    dsimp only at h
    rw [if_pos hc,List.lookup_cons] at h
    rw [List.lookup_cons]
    cases hx:y == n with
    | true=>rw [hx] at h; cases h; exact ⟨k0,rfl,.inr ⟨rfl,hf⟩⟩
    | false=>rw [hx] at h; exact ih h
   ·dsimp only at h
    rw [if_neg hc,List.lookup_cons] at h
    rw [List.lookup_cons]
    cases hx:y == n with
    | true=>rw [hx] at h; cases h; exact ⟨_,rfl,.inl rfl⟩
    | false=>rw [hx] at h; exact ih h
 exact key scope.names h
theorem rD {scope:Scope} {env:Env} {y:Str} (hk:env.scope.kind = .function) (hc:env.kindOf y=some .cell) (h:scope.names.lookup y=some .free):(relabel scope env).names.lookup y=some .cell:=by
 have key:∀ l:List (Str × NameKind),l.lookup y=some .free->(l.map fun (n,k)=>if (k == NameKind.free && env.scope.kind == .function && env.kindOf n == some .cell) then (n,NameKind.cell) else (n,k)).lookup y=some .cell:=by
  intro l
  induction l with
  | nil=>intro h; cases h
  | cons p r ih =>
   obtain ⟨n,k0⟩:=p
   intro h
   rw [List.map_cons]
   rw [List.lookup_cons] at h
   dsimp only
   cases hx:y == n with
   | true =>
    rw [hx] at h
    cases h
    have e:y=n:=by simpa using hx
    subst e
    rw [if_pos (by simp [hk,hc]),List.lookup_cons,hx]
   | false =>
    rw [hx] at h
    by_cases hc2:(k0 == NameKind.free && env.scope.kind == .function && env.kindOf n == some .cell)=true
    ·rw [if_pos hc2,List.lookup_cons,hx]; exact ih h
    ·rw [if_neg hc2,List.lookup_cons,hx]; exact ih h
 exact key scope.names h
section
variable {X:Cx} {pins:List (Addr × Obj)} {σ:L2.St} {H2:Hp} {s₂:Shared} {it:Addr} {fp:List Addr} {tn:Nat->Heap->Prop} {J:It} {scope:Scope} {cl:List (Str × Addr)} {N':List Str} {sub:List (Option Nat)}
theorem ZW {h₁:Heap} {tk:Nat} (I:Inv X pins σ H2 s₂) (S:CSc X scope N' sub) (hcl1:∀ x c,cl.lookup x=some c->X.env.cells.lookup x=some c) (hcl2:∀ y ∈ scope.names,y.2 = .free -> ∃ c,cl.lookup y.1=some c)
    (f2:∀ b ∈ fp,sZ X pins H2 b) (hfp:∀ b ∈ fp,b < s₂.heap.objs.size) {m:Str->Option Value} {ob:Obj}
    (hns:h₁.Ns (s₂.heap.objs.size+1) m) (hk:∀ b o,(s₂.heap.push ob).get? b=some o->h₁.get? b=some o) :
    Inv (Jw X N' scope cl (s₂.heap.objs.size+1) s₂.heap.objs.size fp { s₂ with heap:=s₂.heap.push ob } H2) pins (U9 sub σ) H2 { s₂ with heap:=h₁,toks:=tk }:=by
  have old:∀ b o,s₂.heap.get? b=some o->(s₂.heap.push ob).get? b=some o:=fun b o e=>Heap.get?_push_of_some _ e
  have old2:∀ b o,s₂.heap.get? b=some o->h₁.get? b=some o:=fun b o e=>hk b o (old b o e)
  have sz:(s₂.heap.push ob).objs.size=s₂.heap.objs.size+1:=Heap.size_push ..
  have cells:∀ x c,cl.lookup x=some c->c < s₂.heap.objs.size:=fun x c e=>let ⟨v,q⟩:=I.cell x c (hcl1 x c e); q.lt
  have has:∀ x,((relabel scope X.env).names.lookup x=some .cell \/ (relabel scope X.env).names.lookup x=some .free) -> ∃ c,cl.lookup x=some c:=fun x hx=>by
    rcases hx with hx | hx
    · obtain ⟨k',e,z⟩:=ww hx
      rcases z with z | ⟨_,z⟩
      · subst z; exact absurd rfl (S.nocell _ (PySem.mem_of_lookup e))
      · subst z; exact hcl2 _ (PySem.mem_of_lookup e) rfl
    · obtain ⟨k',e,z⟩:=ww hx
      rcases z with z | ⟨z,_⟩
      · subst z; exact hcl2 _ (PySem.mem_of_lookup e) rfl
      · cases z
  have frsz:∀ b ∈ QT X.stack,b < s₂.heap.objs.size:=fun b hb=>by
    rcases List.mem_cons.mp (I.stkSub b hb) with z | z
    · rw [z]; exact I.lt
    · exact Nat.lt_of_not_le fun q=>I.nofs q z
  refine
    { ok :=
      { mod:=I.ok.mod,kind:=S.kind,glob:=I.ok.glob,blt:=I.ok.blt
        above:=by show (s₂.heap.push ob).objs.size<=s₂.heap.objs.size+1; rw [sz]; exact Nat.le_refl _
        inj:=fun x y c h1 h2=>I.ok.inj x y c (hcl1 x c h1) (hcl1 y c h2)
        has:=has
        cab:=fun x c z=>by cases z
        hd:=I.ok.hd,frames:=I.ok.frames,stk:=.inl rfl
        exf:=fun b hb=>?exf
        bs:=fun b o e=>⟨old b o (I.bk b o e),(I.bs b o e).2⟩
        bsz:=by show X.base.objs.size<=(s₂.heap.push ob).objs.size; rw [sz]; exact Nat.le_succ_of_le (Nat.le_trans I.ok.bsz I.sz)
        noex:=fun b o e hb=>?noex
        exfs:=fun b hb=>?exfs
        funs:=?funs
        frf:=I.stkFree }
      os:=rfl,bare:=I.bare,base:=Un.kept fun b u e=>hk b u e
      loc:=⟨m,hns,?loc⟩
      cell:=fun x c e=>?cell
      free:=I.hok.fresh (Nat.le_succ _)
      freeC:=fun x c e=>I.freeC x c (hcl1 x c e)
      pin:=fun p hp=>?pin
      hok:=I.hok.kept old2
      len:=?len }
  case exf =>
    rcases List.mem_cons.mp hb with rfl | hb
    · exact ⟨Nat.ne_of_lt (Nat.lt_succ_self _),fun x c e=>Nat.ne_of_lt (cells x c e)⟩
    · exact ⟨Nat.ne_of_lt (Nat.lt_succ_of_lt (hfp b hb)),fun x c e=>(f2 b hb).2.2.2.2.1 x c (hcl1 x c e)⟩
  case noex =>
    have hl:b < X.s₀.heap.objs.size:=Nat.lt_of_lt_of_le (Heap.lt_size e) I.ok.bsz
    rcases List.mem_cons.mp hb with rfl | hb
    · exact absurd (Nat.lt_of_lt_of_le hl I.sz) (Nat.lt_irrefl _)
    · rcases (f2 b hb).2.2.2.1 with z | z
      · exact I.ok.noex b o e z
      · exact absurd (Nat.lt_of_lt_of_le hl z) (Nat.lt_irrefl _)
  case exfs =>
    intro hs
    rcases List.mem_cons.mp hb with rfl | hb
    · exact absurd (frsz _ hs) (Nat.lt_irrefl _)
    · rcases List.mem_cons.mp (I.stkSub b hs) with z | z
      · exact (f2 b hb).2.1 z
      · exact (f2 b hb).2.2.1 z
  case funs=>exact Heap.FunFrames.of_keeps (fun b o e _=>⟨o,old b o e,rfl⟩) I.stack
  case loc =>
    intro j y v hj hv hvis
    obtain ⟨mX,_,lX⟩:=I.loc
    unfold U9 at hv
    rw [List.getElem?_map] at hv
    cases hs:sub[j]? with
    | none=>rw [hs] at hv; cases hv
    | some o =>
      rw [hs] at hv
      cases o with
      | none=>cases hv
      | some i =>
        obtain ⟨hN,hc,hf⟩:=S.cap j y i hj hs
        have hv':σ[i]? = some (some v):=by
          have z:(match σ[i]? with | some v=>v | none=>none)=some v:=Option.some.inj hv
          cases q:σ[i]? with
          | none=>rw [q] at z; cases z
          | some w=>rw [q] at z; rw [show w=some v from z]
        obtain ⟨u,ru,hl⟩:=lX i y v hN hv' (.inr (.inl hc))
        refine ⟨u,ru,?_⟩
        have kc:(relabel scope X.env).names.lookup y=some .cell:=rD I.ok.kind hc hf
        rcases hl with ⟨z,_⟩ | ⟨_,c,e,ic⟩
        · have z':X.env.scope.names.lookup y=some .local :=z
          rw [hc] at z'; cases z'
        · obtain ⟨c',e'⟩:=hcl2 _ (PySem.mem_of_lookup hf) rfl
          have:=hcl1 _ _ e'
          rw [e] at this; cases this
          refine .inr ⟨.inl kc,c,e',?_⟩
          obtain ⟨oc,h1,h2⟩:=ic
          exact ⟨oc,old2 _ _ h1,h2⟩
  case cell =>
    obtain ⟨v,oc,h1,h2⟩:=I.cell x c (hcl1 x c e)
    exact ⟨v,oc,old2 _ _ h1,h2⟩
  case pin =>
    obtain ⟨p1,p2,p3,p4,p5⟩:=I.pin p hp
    refine ⟨old2 _ _ p1,p2,Nat.ne_of_lt (Nat.lt_succ_of_lt (Heap.lt_size p1)),fun hs=>?_,p5⟩
    rcases List.mem_cons.mp (I.stkSub _ hs) with z | z
    · exact p3 z
    · exact p4 z
  case len =>
    show (U9 sub σ).length=N'.length
    unfold U9
    rw [List.length_map]; exact S.len
theorem Vs {C D:Addr} {s₀:Shared} {s':Shared} {σ':L2.St} {H':Hp} {ys:List V} {us:List Value} {k:Nat} {oC:Obj} (I:Inv X pins σ H2 s₂)
    (hs₀:∀ b o,s₂.heap.get? b=some o->s₀.heap.get? b=some o) (hos:s₀.os=s₂.os) (hD:s₂.heap.objs.size<=D) (hC:s₂.heap.objs.size<=C) (hDC:D ≠ C) (f2:∀ b ∈ fp,sZ X pins H2 b)
    (I':Inv (Jw X N' scope cl C D fp s₀ H2) pins σ' H' s') (hn:H' D=none) (hy:s'.heap.get? D=some { cls:=.type "list",data:=.seq us.toArray k }) (rv:zP ys us) (hz:ys.length<=sizeLine)
    (ho:s'.heap.get? C=some oC) (hd:∀ v,oC.data ≠ .cell v):Inv X (pins ++ [(C,oC)]) σ (QP H' D (.lst ys)) s' /\ sZ X pins (QP H' D (.lst ys)) C:=by
  have neD:∀ b o,s₂.heap.get? b=some o->b ≠ D:=fun b o e=>Nat.ne_of_lt (Nat.lt_of_lt_of_le (Heap.lt_size e) hD)
  have nm:∀ b o,s₂.heap.get? b=some o->b ∉ fp->b ∉ D :: fp:=fun b o e h z=>(List.mem_cons.mp z).elim (neD b o e) h
  have U:=I'.base
  have HC:QP H' D (.lst ys) C=none:=by rw [zq (Ne.symm hDC)]; exact I'.free
  have fpc:sZ X pins (QP H' D (.lst ys)) C:=I.fpOk hC HC
  have un:Un (QT X.stack) fp H2 (QP H' D (.lst ys)) s₂.heap s'.heap :=
    { keep:=fun b o e n h1 h2=>U.keep b o (hs₀ b o e) n h1 (nm b o e h2)
      slot:=fun b o e n h1 h2=>U.slot b o (hs₀ b o e) n h1 (nm b o e h2)
      free:=fun b o e n h2=>by rw [zq (neD b o e)]; exact U.free b o (hs₀ b o e) n (nm b o e h2)
      there:=fun b o e h2=>U.there b o (hs₀ b o e) (nm b o e h2)
      tups:=fun b xs e=>by have z:=U.tups b xs e; rw [zq (zC z hn)]; exact z
      frzs:=fun b o u e=>by have z:=U.frzs b o u e; rw [zq (zC z hn)]; exact z
      tbls:=fun b ps e=>by obtain ⟨more,z⟩:=U.tbls b ps e; exact ⟨more,by rw [zq (zC z hn)]; exact z⟩ }
  have hok:QQ X.prog X.w (QP H' D (.lst ys)) s'.heap:=QQ.track I'.hok hn ⟨hz,us,k,rv,hy⟩
  have IX:Inv X pins σ (QP H' D (.lst ys)) s':=I.call' (I'.os.trans hos) un hok I'.bare fun b hb=>⟨(f2 b hb).2.2.2.1,(f2 b hb).2.1,(f2 b hb).2.2.2.2.1,(f2 b hb).2.2.2.2.2⟩
  refine ⟨IX.pins_of fun p hp=>?_,fpc⟩
  rcases List.mem_append.mp hp with hp | hp
  · exact IX.pin p (List.mem_append_right _ hp)
  · rw [List.mem_singleton.mp hp]
    exact ⟨ho,HC,fpc.2.1,fpc.2.2.1,hd⟩
end
section
variable {X:Cx} {scope:Scope} {N':List Str} {sub:List (Option Nat)} {x:Str} {px pos:Pos} {elt iter:Expr} {ifs:List Expr} {wi:TI} {g:TG} {tt:TT} {te:TE}
theorem CSc.clos {pins:List (Addr × Obj)} {σ:L2.St} {H:Hp} {s:Shared} (S:CSc X scope N' sub) (I:Inv X pins σ H s):∃ cl,closureFor scope X.env=pure cl /\ (∀ x c,cl.lookup x=some c->X.env.cells.lookup x=some c) /\ ∀ y ∈ scope.names,y.2 = .free -> ∃ c,cl.lookup y.1=some c :=
 ZV fun y hy hf=>I.ok.has y.1 (.inl (S.free y hy hf))
end
structure Blt (mg:Str->Option Value):Prop where
 abs:mg "abs" = none
 len:mg "len" = none
 max:mg "max" = none
 min:mg "min" = none
 divmod:mg "divmod" = none
 repr:mg "repr" = none
 isinstance:mg "isinstance" = none
 all:mg "all" = none
 range:mg "range" = none
 int:mg "int" = none
 bool:mg "bool" = none
 str:mg "str" = none
 tuple:mg "tuple" = none
 list:mg "list" = none
 dict:mg "dict" = none
def Jx (b:V->Hp->VK->Prop):Sp:=fun vs H Q _=>∃ x,vs=[x] /\ b x H Q
def Jy (b:V->V->Hp->VK->Prop):Sp:=fun vs H Q _=>∃ x y,vs=[x,y] /\ b x y H Q
def Jz (b:V->V->V->Hp->VK->Prop):Sp:=fun vs H Q _=>∃ x y z,vs=[x,y,z] /\ b x y z H Q
theorem yX {b:V->Hp->VK->Prop} {p:Str}:∀ vs H Q E,Jx b vs H Q E->vs.length=[p].length:=fun vs H Q E h=>by
 obtain ⟨x,rfl,_⟩:=h; rfl
theorem yf {b:V->V->Hp->VK->Prop} {p q:Str}:∀ vs H Q E,Jy b vs H Q E->vs.length=[p,q].length:=fun vs H Q E h=>by
 obtain ⟨x,y,rfl,_⟩:=h; rfl
theorem xY {b:V->V->V->Hp->VK->Prop} {p q r:Str}:∀ vs H Q E,Jz b vs H Q E->vs.length=[p,q,r].length:=fun vs H Q E h=>by
 obtain ⟨x,y,z,rfl,_⟩:=h; rfl
def tw:V->Bool
 | .int _=>true
 | _=>false
def ZX:V->Bool
 | .non=>true
 | .int _=>true
 | _=>false
def Kn (K:QM) (H:Hp) (x:V):Prop:=∃ T,Ju K H x T
structure Deed where
 add:Int
 lo:Option Int
 hi:Option Int
 deriving DecidableEq
def ov:Option Int->V
 | none=>.non
 | some i=>.int i
def Deed.vs (d:Deed):List V:=[.int d.add,ov d.lo,ov d.hi]
def Deed.Ok (d:Deed):Prop:=∀ l h,d.lo=some l->d.hi=some h->l < h \/ (l=h /\ d.add=0)
def ui (lo:Option Int) (r:Int):Int:=match lo with
 | none=>r
 | some l=>if l > r then l else r
def sk (hi:Option Int) (r:Int):Int:=match hi with
 | none=>r
 | some h=>if h < r then h else r
def Deed.mk' (d:Deed) (v:Int):Int:=sk d.hi (ui d.lo (v+d.add))
def QB:V->V->V->Bool
 | .int a,.int l,.int h=>decide (l < h) || (decide (l=h) && decide (a=0))
 | _,_,_=>true
def vo:List V->Bool
 | [x,y,z]=>tw x && (ZX y && (ZX z && QB x y z))
 | _=>false
theorem ZY {d:Deed} (h:d.Ok):vo d.vs=true:=by
 obtain ⟨a,lo,hi⟩:=d
 cases lo with
 | none=>cases hi <;> rfl
 | some l =>
  cases hi with
  | none=>rfl
  | some u =>
   have:=h l u rfl rfl
   show (decide (l < u) || (decide (l=u) && decide (a=0)))=true
   rcases this with q | ⟨q,q2⟩
   ·simp [q]
   ·have q2':a=0:=q2
    simp [q,q2']
theorem Xc {x:V} (h:tw x=true):∃ i,x = .int i:=by
 cases x <;> first | exact ⟨_,rfl⟩ | cases h
theorem UE {x:V} (h:ZX x=true):∃ o,x=ov o:=by
 cases x <;> first | exact ⟨none,rfl⟩ | exact ⟨some _,rfl⟩ | cases h
theorem QC {xs:List V} (h:xs.length=3):∃ x y z,xs=[x,y,z]:=by
 match xs,h with
 | [x,y,z],_=>exact ⟨x,y,z,rfl⟩
theorem q9 {xs:List V} (h:xs.length ≠ 3):vo xs=false:=by
 match xs,h with
 | [],_=>rfl
 | [_],_=>rfl
 | [_,_],_=>rfl
 | [_,_,_],h=>exact absurd rfl h
 | _ :: _ :: _ :: _ :: _,_=>rfl
def rE (K:QM) (H:Hp) (x:V) (d:Deed):Prop:=∃ a,x = .ref a /\ Q1 K H a d.vs
theorem Grow.deed {m:List Addr} {H H':Hp} (g:Grow m H H') {K:QM} {x:V} {d:Deed} (h:rE K H x d):rE K H' x d:=by
 obtain ⟨a,e,h⟩:=h
 exact ⟨a,e,g.sqT h⟩
theorem uj {K:QM} {H:Hp} {i:Int}:Kn K H (.int i):=⟨"int",rfl⟩
theorem Sj {K:QM} {H:Hp}:Kn K H .non:=⟨"NoneType",rfl⟩
theorem Sk {K:QM} {H:Hp} (o:Option Int):Kn K H (ov o):=by cases o; exact Sj; exact uj
def yF (K:QM):Sp:=Jx fun x H Q=>Kn K H x /\ Q (.bl (tw x)) H
def rF (K:QM):Sp:=Jx fun x H Q=>Kn K H x /\ Q (.bl (ZX x)) H
def tD (K:QM):Sp:=Jx fun x H Q=>(∃ T,T ≠ "tuple" /\ Ju K H x T /\ Q (.bl false) H) \/ ∃ a xs,x = .ref a /\ Q1 K H a xs /\ (∀ y ∈ xs,Kn K H y) /\ Q (.bl (vo xs)) H
def vp (K:QM):Sp:=Jy fun x y H Q=>∃ d v,rE K H x d /\ y = .int v /\ Q (.int (d.mk' v)) H
def JA (H:Hp) (a:Addr):Prop:=∃ p0 p1:Int,H a=some (.lst [.int p0,.int p1]) /\ 0<=p0
def Sm (n:Int):Prop:=-(10 ^ 30) < n /\ n < 10 ^ 30
def UF (K:QM):Sp:=Jy fun x y H Q=>∃ a ns k,x = .ref a /\ y = .int k /\ Jv K H a ns /\ 0<=k /\ k < 1000 /\ ∀ p H',H p=none->Grow [] H H' -> JA H' p->Q (.ref p) H'
def xZ (_:QM):Sp:=Jy fun x y H Q=>∃ a m,x = .ref a /\ y = .int m /\ JA H a /\ 0 < m /\ m < 2 ^ 200 /\ ∀ n H',0<=n->n < m->Grow [a] H H' -> JA H' a->Q (.int n) H'
def jX (K:QM):Sp:=Jx fun x H Q=>∃ a ns,x = .ref a /\ Jv K H a ns /\ ns.length<=63 /\ ∀ H',Q (.bl true) H'
theorem JB {n:Nat} (h:Nat.ble n 1000=true):n<=sizeLine:=Nat.le_of_lt (xX (Nat.le_of_ble_eq_true h))
theorem Grow.shrink {H H':Hp} {l:Addr} (h:H l=none) (g:Grow [l] H H'):Grow [] H H' :=
 ⟨fun b o _ q=>g.keep b o (fun z=>by rw [List.mem_singleton.mp z] at q; rw [h] at q; cases q) q,g.tup,g.frz⟩
theorem Grow.wk {m:List Addr} {H H':Hp} (g:Grow [] H H'):Grow m H H':=g.mono (by simp)
theorem JA.grow {H H':Hp} {a:Addr} (p:JA H a) (g:Grow [] H H'):JA H' a:=by
 obtain ⟨u0,u1,hu,hn⟩:=p
 exact ⟨u0,u1,g.keep _ _ (by simp) hu,hn⟩
theorem Xd {i j:Int} (h2:-(2 ^ 60) < j /\ j < 2 ^ 60):IntMulOk i j:=PySem.IntMulOk.of_right (Nat.le_trans ((PySem.intBits_le_iff (m:=60)).mpr (by obtain ⟨a,b⟩:=h2; omega)) (by decide))
def uR:List V->List V->Bool
 | [],[]=>true
 | x :: xs,y :: ys=>Jp x y && uR xs ys
 | _,_=>false
theorem sr:∀ {xs ys:List V},uR xs ys=true->xs.length=ys.length
 | [],[],_=>rfl
 | x :: xs,y :: ys,h=>by
  have h':(Jp x y && uR xs ys)=true:=h
  rw [Bool.and_eq_true] at h'
  simp [sr h'.2]
 | [],_ :: _,h=>by cases h
 | _ :: _,[],h=>by cases h
theorem jY:∀ {xs ys:List V},uR xs ys=true ↔ xs.length=ys.length /\ ∀ (j:Nat) (x y:V),xs[j]? = some x->ys[j]? = some y->Jp x y=true
 | [],[]=>by simp [uR]
 | x :: xs,y :: ys=>by
  show (Jp x y && uR xs ys)=true ↔ _
  rw [Bool.and_eq_true,jY]
  constructor
  ·rintro ⟨h1,h2,h3⟩
   refine ⟨by simp [h2],fun j a b ha hb=>?_⟩
   cases j with
   | zero=>simp at ha hb; subst ha hb; exact h1
   | succ j=>exact h3 j a b (by simpa using ha) (by simpa using hb)
  ·rintro ⟨h1,h2⟩
   exact ⟨h2 0 x y rfl rfl,by simpa using h1,fun j a b ha hb=>h2 (j+1) a b (by simpa using ha) (by simpa using hb)⟩
 | [],_ :: _=>by simp [uR]
 | _ :: _,[]=>by simp [uR]
theorem vq {xs ys:List V}:((List.range (min xs.length ys.length)).all (fun j=>match xs[j]?,ys[j]? with | some x,some y=>Jp x y | _,_=>true) && xs.length == ys.length)=uR xs ys:=by
 rw [Bool.eq_iff_iff,Bool.and_eq_true,List.all_eq_true,beq_iff_eq,jY]
 constructor
 ·rintro ⟨h1,h2⟩
  refine ⟨h2,fun j x y hx hy=>?_⟩
  have hj:j < xs.length:=(List.getElem?_eq_some_iff.mp hx).1
  have:=h1 j (List.mem_range.mpr (by rw [← h2]; simpa using hj))
  rw [hx,hy] at this
  exact this
 ·rintro ⟨h1,h2⟩
  refine ⟨fun j hj=>?_,h1⟩
  have hj':=List.mem_range.mp hj
  have a:j < xs.length:=by omega
  have b:j < ys.length:=by omega
  rw [List.getElem?_eq_getElem a,List.getElem?_eq_getElem b]
  exact h2 j _ _ (List.getElem?_eq_getElem a) (List.getElem?_eq_getElem b)
theorem ja {xs:List V} {us:List Value} (r:zP xs us) (j:Nat) (h:j < us.length):∃ x,xs[j]? = some x /\ zU x us[j]:=by
 have hl:=r.length
 have hx:xs[j]? = some xs[j]:=List.getElem?_eq_getElem (by omega)
 obtain ⟨u,e,q⟩:=r.get hx
 rw [List.getElem?_eq_getElem h] at e
 cases e
 exact ⟨_,hx,q⟩
theorem Xe {A:Around} {s:Shared} {xs ys:List V} {us ws:List Value} (r1:zP xs us) (r2:zP ys ws) (f1:xs.all vU=true) (f2:ys.all vU=true) :
  ∀ j (h1:j < us.toArray.size) (h2:j < ws.toArray.size),SeqAt.EqAt A s us.toArray[j] ws.toArray[j] ((fun j=>match xs[j]?,ys[j]? with | some x,some y=>Jp x y | _,_=>true) j):=by
 intro j h1 h2
 obtain ⟨x,ex,qx⟩:=ja r1 j (by simpa using h1)
 obtain ⟨y,ey,qy⟩:=ja r2 j (by simpa using h2)
 have fx:vU x=true:=List.all_eq_true.mp f1 x (List.mem_of_getElem? ex)
 have fy:vU y=true:=List.all_eq_true.mp f2 y (List.mem_of_getElem? ey)
 show SeqAt.EqAt A s _ _ (match xs[j]?,ys[j]? with | some x,some y=>Jp x y | _,_=>true)
 rw [ex,ey]
 simpa using Sd qx qy fx fy
section
variable {X:Cx}
theorem ym {h:Heap} {a:Addr} {its:Array Value} (t:IsTup h a its):h.IsTuple a its:=t
end
section
variable {X:Cx} {pos:Pos}
theorem wO:∀ {bs:List Bool} {us:List Value},zP (bs.map V.bl) us->LSm.BoolsAre us bs
 | [],_,.nil=>.nil
 | b :: bs,_,.cons r t=>by
  cases r
  exact .cons b (wO t)
theorem wP (hcalm:X.calm=true):y7 X (.builtin "all") (fun xs H Q=>∃ (l:Addr) (bs:List Bool),xs=[.ref l] /\ Q0 X.K H l (bs.map V.bl) /\ Q (.bl (bs.all id)) H):=by
 intro pins s σ H xs us Q I r h
 obtain ⟨l,bs,rfl,hl,q⟩:=h
 obtain ⟨u,rfl,rx⟩:=xz r
 cases (show u=Value.ref l from rx)
 obtain ⟨vs,rv,pl,_⟩:=I.list hl
 have hl':s.heap.IsList l vs.toArray:=pl.isList
 have hb:LSm.BoolsAre vs bs:=wO rv
 have hlt:l < s.heap.objs.size:=by obtain ⟨_,e,_⟩:=hl'; exact Heap.lt_size e
 refine call_all_walk (wpAny_pyIter_list hl' ?_)
 refine ⟨s.heap.objs.size,[s.heap.objs.size,l],[s.heap.objs.size],vs.toArray.size,_,_,fun i=>(bs[i]?).getD true,rfl,Walks.list (A:=X.A.in1) (I.ok.hd hcalm) _ l (Nat.ne_of_lt hlt) vs.toArray,
  ⟨⟨_,Heap.get?_push_size _ rfl,rfl,rfl⟩,hl'.push _⟩,fun i v s' Q' E' hP hQ=>?_,fun h' tk hk=>?_⟩
 ·obtain ⟨b,e,rfl⟩:=hb.get i v (by simpa using hP)
  simp only [e,Option.getD_some] at hQ
  exact wpAny_truthy_bool hQ
 ·have e:((List.range vs.toArray.size).all fun i=>(bs[i]?).getD true)=bs.all id:=by
   have hlen:bs.length=vs.length:=by rw [← rv.length,List.length_map]
   rw [List.size_toArray,← hlen,Bool.eq_iff_iff,List.all_eq_true,List.all_eq_true]
   constructor
   ·intro z b hb'
    obtain ⟨i,hi,rfl⟩:=List.getElem_of_mem hb'
    have:=z i (List.mem_range.mpr hi)
    simpa [List.getElem?_eq_getElem hi] using this
   ·intro z i hi
    have hi':=List.mem_range.mp hi
    simpa [List.getElem?_eq_getElem hi'] using z _ (List.getElem_mem hi')
  rw [e]
  exact ⟨.bl (bs.all id),H,I.kept (t':=tk) (h':=h') (LSm.kept_iter hk),rfl,q⟩
end
theorem CSc.of {X:Cx} {scope:Scope} {N':List Str} {sub:List (Option Nat)} (sc:Scope) (NN:List Str) (e:X.env.scope=sc) (en:X.N=NN)
  (h:((scope.names.all fun y=>(y.2 != .free || sc.names.lookup y.1 == some .cell) && (y.2 != .cell) && (y.2 != .local || scope.names.lookup y.1 == some .local)) && (sub.length == N'.length) &&
   ((N'.zip sub).all fun p=>match p.2 with | none=>true | some i=>NN[i]? == some p.1 && sc.names.lookup p.1 == some .cell && scope.names.lookup p.1 == some .free))=true)
  (hk:scope.kind = .function):CSc X scope N' sub:=by
 rw [Bool.and_eq_true,Bool.and_eq_true] at h
 obtain ⟨⟨h1,h2⟩,h3⟩:=h
 have k1:=fun y hy=>List.all_eq_true.mp h1 y hy
 refine ⟨fun y hy hf=>?_,fun y hy hc=>?_,hk,fun y hy hl=>?_,by simpa using h2,fun j y i hj hs=>?_⟩
 ·have:=k1 y hy
  simp only [hf,Bool.and_eq_true] at this
  have z:=this.1.1
  show X.env.scope.names.lookup y.1=_
  rw [e]; simpa using z
 ·have:=k1 y hy
  simp only [hc,Bool.and_eq_true] at this
  simp at this
 ·have:=k1 y hy
  simp only [hl,Bool.and_eq_true] at this
  simpa using this.2
 ·have hm:(y,some i) ∈ N'.zip sub:=by
   have:(N'.zip sub)[j]? = some (y,some i):=by
    rw [List.getElem?_zip_eq_some]; exact ⟨hj,hs⟩
   exact List.mem_of_getElem? this
  have:=List.all_eq_true.mp h3 _ hm
  simp only [Bool.and_eq_true,beq_iff_eq] at this
  rw [e,en]
  exact ⟨this.1.1,this.1.2,this.2⟩
def Deed.Bd (B:Int) (d:Deed):Prop:=(-B<=d.add /\ d.add<=B) /\ (∀ l,d.lo=some l -> -B<=l /\ l<=B) /\ ∀ h,d.hi=some h -> -B<=h /\ h<=B
theorem RD (a v:Int):(Deed.mk a none none).mk' v=v+a:=rfl
theorem RE (a l v:Int):(Deed.mk a (some l) none).mk' v=if l > v+a then l else v+a:=rfl
theorem RF (a h v:Int):(Deed.mk a none (some h)).mk' v=if h < v+a then h else v+a:=rfl
theorem RG (a l h v:Int):(Deed.mk a (some l) (some h)).mk' v=if h < (if l > v+a then l else v+a) then h else (if l > v+a then l else v+a):=rfl
theorem RH {e:Deed} {B C:Int} (b:e.Bd B) (hB:0<=B) {v:Int} (h1:-C<=v) (h2:v<=C) (hC:0<=C):-(B+C)<=e.mk' v /\ e.mk' v<=B+C:=by
 obtain ⟨a,lo,hi⟩:=e
 obtain ⟨⟨b1,b2⟩,b3,b4⟩:=b
 have b1':-B<=a:=b1
 have b2':a<=B:=b2
 cases lo with
 | none =>
  cases hi with
  | none=>rw [RD]; omega
  | some h=>have:=b4 h rfl; rw [RF]; split <;> omega
 | some l =>
  have:=b3 l rfl
  cases hi with
  | none=>rw [RE]; split <;> omega
  | some h=>have:=b4 h rfl; rw [RG]; (repeat' split) <;> omega
theorem yY {c:Bool} {A B:Prop} (e:c=false) (h:B):if c=true then A else B:=by rw [e]; exact yD h
theorem yT {c:Bool} {A B:Prop} (e:c=true) (h:A):if c=true then A else B:=by rw [e]; exact xk h
theorem jZ {K:QM} {a:Addr} {xs:List V} {g:TG} {tt:TT} {te:TE} {Q:VK} {σ:L2.St} {H:Hp} (Pv:Nat->List V->L2.St->Hp->Prop) (h0:Pv 0 [] σ H) (hl:∀ i ys σ H,i<=xs.length->Pv i ys σ H->Q1 K H a xs)
  (hs:∀ i x ys σ H,xs[i]? = some x->Pv i ys σ H->g x σ H fun σ2 H3=>tt σ2 H3 fun b H4=>if b=true then te σ2 H4 fun y H5=>ys.length < sizeLine /\ Pv (i+1) (ys ++ [y]) σ2 H5 else Pv (i+1) ys σ2 H4)
  (hd:∀ ys σ H,Pv xs.length ys σ H -> ∀ l,H l=none->Q (.ref l) (QP H l (.lst ys))) :
  wN (Q6 K a) σ H g tt te Q:=by
 refine ⟨fun i m ys σ H=>m=xs.length - i /\ i<=xs.length /\ Pv i ys σ H,⟨xs.length,by simp,Nat.zero_le _,h0⟩,?_⟩
 rintro i m ys σ H ⟨rfl,hi,p⟩
 have q:=hl i ys σ H hi p
 by_cases hlt:i < xs.length
 ·refine .inr ⟨⟨xs,xs[i],q,by simp [hlt]⟩,Pv (i+1),fun zs σ' H' p'=>⟨xs.length - (i+1),by omega,rfl,hlt,p'⟩,fun x H' y=>?_⟩
  obtain ⟨e,y⟩:=y
  subst e
  exact hs i x ys σ _ (y xs q) p
 ·have e:i=xs.length:=by omega
  subst e
  exact .inl ⟨⟨xs,q,Nat.le_refl _⟩,hd ys σ H p⟩
theorem rG {K:QM} {a:Addr} {xs:List V} {g:TG} {tt:TT} {te:TE} {Q:VK} {σ:L2.St} {H:Hp} (Pv:Nat->List V->L2.St->Hp->Prop) (h0:Pv 0 [] σ H) (hl:∀ i ys σ H,i<=xs.length->Pv i ys σ H->Q0 K H a xs)
  (hs:∀ i x ys σ H,xs[i]? = some x->Pv i ys σ H->g x σ H fun σ2 H3=>tt σ2 H3 fun b H4=>if b=true then te σ2 H4 fun y H5=>ys.length < sizeLine /\ Pv (i+1) (ys ++ [y]) σ2 H5 else Pv (i+1) ys σ2 H4)
  (hd:∀ ys σ H,Pv xs.length ys σ H -> ∀ l,H l=none->Q (.ref l) (QP H l (.lst ys))) :
  wN (Q5 K a) σ H g tt te Q:=by
 refine ⟨fun i m ys σ H=>m=xs.length - i /\ i<=xs.length /\ Pv i ys σ H,⟨xs.length,by simp,Nat.zero_le _,h0⟩,?_⟩
 rintro i m ys σ H ⟨rfl,hi,p⟩
 have q:=hl i ys σ H hi p
 by_cases hlt:i < xs.length
 ·refine .inr ⟨⟨xs,xs[i],q,by simp [hlt]⟩,Pv (i+1),fun zs σ' H' p'=>⟨xs.length - (i+1),by omega,rfl,hlt,p'⟩,fun x H' y=>?_⟩
  obtain ⟨e,y⟩:=y
  subst e
  exact hs i x ys σ _ (y xs q) p
 ·have e:i=xs.length:=by omega
  subst e
  exact .inl ⟨⟨xs,q,Nat.le_refl _⟩,hd ys σ H p⟩
theorem yL {X:Cx} {K:QM} (h:X.K=K):Jn X (Qb K):=by subst h; exact zN
theorem j3 {X:Cx} {K:QM} (h:X.K=K):Jn X (Qa K):=by subst h; exact zW
theorem Deed.Bd.mono {d:Deed} {B C:Int} (b:d.Bd B) (h:B<=C):d.Bd C:=by
 obtain ⟨⟨b1,b2⟩,b3,b4⟩:=b
 exact ⟨⟨by omega,by omega⟩,fun l e=>by have:=b3 l e; omega,fun l e=>by have:=b4 l e; omega⟩
section
variable {X:Cx}
def Qe (K:QM) (neg:Bool):R2:=fun x y H Q=>∃ a b xs ys,x = .ref a /\ y = .ref b /\ Q0 K H a xs /\ Q0 K H b ys /\ xs.all vU=true /\ ys.all vU=true /\ Q (.bl (if neg then !uR xs ys else uR xs ys)) H
theorem Xf {k:Nat} (hr:Room k X.A):Q8 X (compareOp .NotEq) (Qe X.K true):=by
 intro pins s σ H x y v u Q I rx ry h
 obtain ⟨a,b,xs,ys,rfl,rfl,ha,hb,f1,f2,q⟩:=h
 cases rx; cases ry
 obtain ⟨us,r1,t1,_⟩:=I.list ha
 obtain ⟨ws,r2,t2,_⟩:=I.list hb
 by_cases hl:us.length=ws.length
 ·refine SeqAt.RcNeAt.lists t1.isList t2.isList (by simpa using hl) hr.units0 (Xe r1 r2 f1 f2) _ _ _ _ ?_
  have e:=vq (xs:=xs) (ys:=ys)
  have e2:(xs.length == ys.length)=true:=by rw [beq_iff_eq,r1.length,r2.length]; exact hl
  rw [e2,Bool.and_true,show min xs.length ys.length=xs.length by rw [r1.length,r2.length]; omega] at e
  rw [List.size_toArray,← r1.length,e]
  exact ⟨.bl _,H,I,rfl,q⟩
 ·refine SeqAt.RcNeAt.lists_lengths t1.isList t2.isList (by simpa using hl) hr.units0 _ _ _ _ ?_
  have e:uR xs ys=false:=by
   cases z:uR xs ys with
   | false=>rfl
   | true=>exact absurd (by rw [← r1.length,← r2.length]; exact sr z) hl
  rw [e] at q
  exact ⟨.bl _,H,I,rfl,q⟩
theorem UG {k:Nat} (hr:Room k X.A):Q8 X (compareOp .Eq) (Qe X.K false):=by
 intro pins s σ H x y v u Q I rx ry h
 obtain ⟨a,b,xs,ys,rfl,rfl,ha,hb,f1,f2,q⟩:=h
 cases rx; cases ry
 obtain ⟨us,r1,t1,_⟩:=I.list ha
 obtain ⟨ws,r2,t2,_⟩:=I.list hb
 by_cases hl:us.length=ws.length
 ·refine SeqAt.eq_listAt t1.isList t2.isList (by simpa using hl) hr.units0 (Xe r1 r2 f1 f2) ?_
  have e:=vq (xs:=xs) (ys:=ys)
  have e2:(xs.length == ys.length)=true:=by rw [beq_iff_eq,r1.length,r2.length]; exact hl
  rw [e2,Bool.and_true,show min xs.length ys.length=xs.length by rw [r1.length,r2.length]; omega] at e
  rw [List.size_toArray,← r1.length,e]
  exact ⟨.bl _,H,I,rfl,q⟩
 ·refine SeqAt.eq_list_lengthsAt t1.isList t2.isList (by simpa using hl) hr.units0 ?_
  have e:uR xs ys=false:=by
   cases z:uR xs ys with
   | false=>rfl
   | true=>exact absurd (by rw [← r1.length,← r2.length]; exact sr z) hl
  rw [e] at q
  exact ⟨.bl _,H,I,rfl,q⟩
end
theorem Ta {i j:Int}:Jp (.int i) (.int j)=decide (i=j):=by rw [Bool.eq_iff_iff]; simp [Jp]
theorem wQ:∀ {xs ys:List Int},uR (xs.map V.int) (ys.map V.int)=decide (xs=ys)
 | [],[]=>rfl
 | x :: xs,y :: ys=>by
  show (Jp (.int x) (.int y) && uR (xs.map V.int) (ys.map V.int))=_
  rw [Ta,wQ,Bool.eq_iff_iff]
  simp
 | [],_ :: _=>by simp [uR]
 | _ :: _,[]=>by simp [uR]
theorem rH {xs:List Int}:(xs.map V.int).all vU=true:=by
 rw [List.all_eq_true]; intro x hx; obtain ⟨i,_,rfl⟩:=List.mem_map.mp hx; rfl
theorem Grow.sqL {H H':Hp} (g:Grow [] H H') {K:QM} {a:Addr} {xs:List V} (h:Q0 K H a xs):Q0 K H' a xs:=by
 rcases h with (h | ⟨o,h⟩) | h
 ·exact .inl (.inl (g.keep _ _ (by simp) h))
 ·exact .inl (.inr ⟨o,g.frz _ _ _ h⟩)
 ·exact .inr h
section
variable {K:QM} {a:Addr} {xs:List V} {n:Nat} {tt:TT} {te:TE} {Q:VK} {σ:L2.St} {H:Hp}
theorem wR {p:V->Bool} {f:V->V} {i:Nat} {x:V} (hx:xs[i]? = some x):((xs.take (i+1)).filter p).map f=((xs.take i).filter p).map f ++ (if p x=true then [f x] else []):=by
 rw [List.take_add_one,hx,List.filter_append,List.map_append]
 congr 1
 show ((([x]:List V)).filter p).map f=_
 by_cases c:p x=true
 ·rw [if_pos c,List.filter_cons_of_pos c]; rfl
 ·rw [if_neg c,List.filter_cons_of_neg c]; rfl
theorem Za {p:V->Bool} {f:V->V} {i:Nat} (h:xs.length<=1000):(((xs.take i).filter p).map f).length < sizeLine:=by
 rw [List.length_map]
 refine xX ?_
 have:=List.length_filter_le p (xs.take i)
 have:=List.length_take_le i xs
 have:(xs.take i).length<=xs.length:=by rw [List.length_take]; omega
 omega
theorem Zb {p:V->Bool} {f:V->V}:((xs.take xs.length).filter p).map f=(xs.filter p).map f:=by rw [List.take_length]
theorem ZZ (p:V->Bool) (f:V->V) (hl:Q0 K H a xs) (hlen:xs.length<=1000)
  (ht:∀ x H' (R:Bool->Hp->Prop),x ∈ xs->Grow [] H H' -> (∀ H2,Grow [] H' H2->R (p x) H2)->tt (σ.set n (some x)) H' R)
  (hs:∀ x H' (R:VK),x ∈ xs->p x=true->Grow [] H H' -> (∀ H2,Grow [] H' H2->R (f x) H2)->te (σ.set n (some x)) H' R)
  (hd:∀ H' l,Grow [] H H' -> H' l=none->Q (.ref l) (QP H' l (.lst ((xs.filter p).map f)))):wN (Q5 K a) σ H (wL n) tt te Q:=by
 refine rG (xs:=xs) (fun i ys σ' H'=>Grow [] H H' /\ (σ' = σ \/ ∃ e,σ' = σ.set n e) /\ ys=((xs.take i).filter p).map f) ⟨Grow.refl _ _,.inl rfl,rfl⟩ ?_ ?_ ?_
 ·rintro i ys σ' H' _ ⟨g,_⟩
  exact g.sqL hl
 ·rintro i x ys σ' H' hx ⟨g,hσ,rfl⟩
  have e:σ'.set n (some x) = σ.set n (some x):=by
   rcases hσ with rfl | ⟨e,rfl⟩
   ·rfl
   ·rw [List.set_set]
  show tt (σ'.set n (some x)) H' _
  rw [e]
  refine ht x H' _ (List.mem_of_getElem? hx) g fun H2 g2=>?_
  by_cases c:p x=true
  ·rw [if_pos c]
   refine hs x H2 _ (List.mem_of_getElem? hx) c (g.trans g2) fun H3 g3=>⟨Za hlen,(g.trans g2).trans g3,.inr ⟨_,rfl⟩,?_⟩
   rw [wR hx,if_pos c]
  ·rw [if_neg c]
   refine ⟨g.trans g2,.inr ⟨_,rfl⟩,?_⟩
   rw [wR hx,if_neg c,List.append_nil]
 ·rintro ys σ' H' ⟨g,_,rfl⟩ l hl
  rw [Zb]
  exact hd H' l g hl
theorem tE (p:V->Bool) (f:V->V) (hl:Q1 K H a xs) (hlen:xs.length<=1000)
  (ht:∀ x H' (R:Bool->Hp->Prop),x ∈ xs->Grow [] H H' -> (∀ H2,Grow [] H' H2->R (p x) H2)->tt (σ.set n (some x)) H' R)
  (hs:∀ x H' (R:VK),x ∈ xs->p x=true->Grow [] H H' -> (∀ H2,Grow [] H' H2->R (f x) H2)->te (σ.set n (some x)) H' R)
  (hd:∀ H' l,Grow [] H H' -> H' l=none->Q (.ref l) (QP H' l (.lst ((xs.filter p).map f)))):wN (Q6 K a) σ H (wL n) tt te Q:=by
 refine jZ (xs:=xs) (fun i ys σ' H'=>Grow [] H H' /\ (σ' = σ \/ ∃ e,σ' = σ.set n e) /\ ys=((xs.take i).filter p).map f) ⟨Grow.refl _ _,.inl rfl,rfl⟩ ?_ ?_ ?_
 ·rintro i ys σ' H' _ ⟨g,_⟩
  exact g.sqT hl
 ·rintro i x ys σ' H' hx ⟨g,hσ,rfl⟩
  have e:σ'.set n (some x) = σ.set n (some x):=by
   rcases hσ with rfl | ⟨e,rfl⟩
   ·rfl
   ·rw [List.set_set]
  show tt (σ'.set n (some x)) H' _
  rw [e]
  refine ht x H' _ (List.mem_of_getElem? hx) g fun H2 g2=>?_
  by_cases c:p x=true
  ·rw [if_pos c]
   refine hs x H2 _ (List.mem_of_getElem? hx) c (g.trans g2) fun H3 g3=>⟨Za hlen,(g.trans g2).trans g3,.inr ⟨_,rfl⟩,?_⟩
   rw [wR hx,if_pos c]
  ·rw [if_neg c]
   refine ⟨g.trans g2,.inr ⟨_,rfl⟩,?_⟩
   rw [wR hx,if_neg c,List.append_nil]
 ·rintro ys σ' H' ⟨g,_,rfl⟩ l hl
  rw [Zb]
  exact hd H' l g hl
theorem Zc {p:V->Bool} (h:∀ x,p x=true):xs.filter p=xs:=List.filter_eq_self.mpr fun x _=>h x
theorem Xg (f:V->V) (hl:Q0 K H a xs) (hlen:xs.length<=1000)
  (hs:∀ x H' (R:VK),x ∈ xs->Grow [] H H' -> (∀ H2,Grow [] H' H2->R (f x) H2)->te (σ.set n (some x)) H' R)
  (hd:∀ H' l,Grow [] H H' -> H' l=none->Q (.ref l) (QP H' l (.lst (xs.map f)))):wN (Q5 K a) σ H (wL n) q8 te Q :=
 ZZ (fun _=>true) f hl hlen (fun x H' R _ _ k=>k H' (Grow.refl _ _)) (fun x H' R hx _ g k=>hs x H' R hx g k) (fun H' l g hl=>by rw [Zc fun _=>rfl]; exact hd H' l g hl)
theorem Xh (f:V->V) (hl:Q1 K H a xs) (hlen:xs.length<=1000)
  (hs:∀ x H' (R:VK),x ∈ xs->Grow [] H H' -> (∀ H2,Grow [] H' H2->R (f x) H2)->te (σ.set n (some x)) H' R)
  (hd:∀ H' l,Grow [] H H' -> H' l=none->Q (.ref l) (QP H' l (.lst (xs.map f)))):wN (Q6 K a) σ H (wL n) q8 te Q :=
 tE (fun _=>true) f hl hlen (fun x H' R _ _ k=>k H' (Grow.refl _ _)) (fun x H' R hx _ g k=>hs x H' R hx g k) (fun H' l g hl=>by rw [Zc fun _=>rfl]; exact hd H' l g hl)
def vi (f:Int->Int):V->V
 | .int i=>.int (f i)
 | v=>v
theorem Sl (f:Int->Int) (ns:List Int):(ns.map V.int).map (vi f)=(ns.map f).map V.int:=by
 rw [List.map_map,List.map_map]; rfl
theorem Z0 {ns:List Int} (f:Int->Int) (hl:Q0 K H a (ns.map V.int)) (hlen:ns.length<=1000)
  (hs:∀ i H' (R:VK),i ∈ ns->Grow [] H H' -> (∀ H2,Grow [] H' H2->R (.int (f i)) H2)->te (σ.set n (some (.int i))) H' R)
  (hd:∀ H' l,Grow [] H H' -> H' l=none->Q (.ref l) (QP H' l (.lst ((ns.map f).map V.int)))):wN (Q5 K a) σ H (wL n) q8 te Q :=
 Xg (vi f) hl (by rw [List.length_map]; exact hlen) (fun x H' R hx g k=>by obtain ⟨i,hi,rfl⟩:=List.mem_map.mp hx; exact hs i H' R hi g k) (fun H' l g hl=>by rw [Sl]; exact hd H' l g hl)
end
mutual
inductive Dat (K:QM) (H:Hp):V->PyData->Prop
 | non:Dat K H .non .none
 | bl (b:Bool):Dat K H (.bl b) (.bool b)
 | int (i:Int):Dat K H (.int i) (.int i)
 | tup {a:Addr} {xs:List V} {ds:List PyData}:Q1 K H a xs->DatAll K H xs ds->Dat K H (.ref a) (.tuple ds)
 | lst {a:Addr} {xs:List V} {ds:List PyData}:Q0 K H a xs->DatAll K H xs ds->Dat K H (.ref a) (.list ds)
inductive DatAll (K:QM) (H:Hp):List V->List PyData->Prop
 | nil:DatAll K H [] []
 | cons {x:V} {xs:List V} {d:PyData} {ds:List PyData}:Dat K H x d->DatAll K H xs ds->DatAll K H (x :: xs) (d :: ds)
end
mutual
/-- a bound of the text's length -/
def wtD:PyData->Nat
 | .list xs | .tuple xs=>wtAll xs+3
 | .int _=>1921
 | .none | .bool _=>5
 | _=>20000000
def wtAll:List PyData->Nat
 | []=>0
 | x :: xs=>wtD x+2+wtAll xs
end
abbrev QJ:=Option (Option Int × Option Int)
def oD:Option Int->PyData
 | none=>.none
 | some i=>.int i
theorem Xi {α:Type} (xs:List α):(xs.map (fun _=>true)).all id=true:=by rw [List.all_eq_true]; intro x hx; obtain ⟨_,_,rfl⟩:=List.mem_map.mp hx; rfl
theorem Vt (gs:List Int):(gs.map V.int).map (fun _=>V.bl true)=(gs.map (fun _=>true)).map V.bl:=by rw [List.map_map,List.map_map]; rfl
section
variable {K:QM} {a:Addr} {xs:List V} {lo:Int} {n k:Nat} {te:TE} {Q:VK} {σ:L2.St} {H:Hp}
theorem v0 (Pv:Nat->List V->Hp->Prop) (h0:Pv 0 [] H)
  (hs:∀ i ys H',i < n->Pv i ys H' -> te (σ.set k (some (.int (lo+i)))) H' fun y H5=>ys.length < sizeLine /\ Pv (i+1) (ys ++ [y]) H5)
  (hd:∀ ys H',Pv n ys H' -> ∀ l,H' l=none->Q (.ref l) (QP H' l (.lst ys))):wN (Q7 lo n) σ H (wL k) q8 te Q:=by
 refine ⟨fun i m ys σ' H'=>m=n - i /\ i<=n /\ (σ' = σ \/ ∃ e,σ' = σ.set k e) /\ Pv i ys H',⟨n,by simp,Nat.zero_le _,.inl rfl,h0⟩,?_⟩
 rintro i m ys σ' H' ⟨rfl,hi,hσ,p⟩
 by_cases hlt:i < n
 ·refine .inr ⟨hlt,fun zs σ2 H2=>(σ2 = σ \/ ∃ e,σ2 = σ.set k e) /\ Pv (i+1) zs H2,fun zs σ2 H2 p'=>⟨n - (i+1),by omega,rfl,hlt,p'.1,p'.2⟩,fun x H2 y=>?_⟩
  obtain ⟨e,y⟩:=y
  subst e y
  have e:σ'.set k (some (V.int (lo+i))) = σ.set k (some (V.int (lo+i))):=by
   rcases hσ with rfl | ⟨e,rfl⟩
   ·rfl
   ·rw [List.set_set]
  show if true=true then te (σ'.set k (some (V.int (lo+i)))) H2 (fun y H5=>ys.length < sizeLine /\ ((σ'.set k (some (V.int (lo+i))) = σ \/ ∃ e,σ'.set k (some (V.int (lo+i))) = σ.set k e) /\ Pv (i+1) (ys ++ [y]) H5)) else ((σ'.set k (some (V.int (lo+i))) = σ \/ ∃ e,σ'.set k (some (V.int (lo+i))) = σ.set k e) /\ Pv (i+1) ys H2)
  rw [if_pos rfl,e]
  have e2:(fun (y:V) (H5:Hp)=>ys.length < sizeLine /\ ((σ.set k (some (V.int (lo+i))) = σ \/ ∃ e,σ.set k (some (V.int (lo+i))) = σ.set k e) /\ Pv (i+1) (ys ++ [y]) H5))=fun y H5=>ys.length < sizeLine /\ Pv (i+1) (ys ++ [y]) H5:=by
   funext y H5
   exact propext ⟨fun z=>⟨z.1,z.2.2⟩,fun z=>⟨z.1,.inr ⟨_,rfl⟩,z.2⟩⟩
  rw [e2]
  exact hs i ys H2 hlt p
 ·have e:i=n:=by omega
  subst e
  exact .inl ⟨Nat.le_refl _,hd ys H' p⟩
theorem tF (Pv:Nat->List V->Hp->Prop) (h0:Pv 0 [] H) (hl:∀ i ys H',Pv i ys H' -> Q0 K H' a xs)
  (hs:∀ i x ys H',xs[i]? = some x->Pv i ys H' -> te (σ.set k (some x)) H' fun y H5=>ys.length < sizeLine /\ Pv (i+1) (ys ++ [y]) H5)
  (hd:∀ ys H',Pv xs.length ys H' -> ∀ l,H' l=none->Q (.ref l) (QP H' l (.lst ys))):wN (Q5 K a) σ H (wL k) q8 te Q:=by
 refine rG (xs:=xs) (fun i ys σ' H'=>(σ' = σ \/ ∃ e,σ' = σ.set k e) /\ Pv i ys H') ⟨.inl rfl,h0⟩ (fun i ys σ' H' _ p=>hl i ys H' p.2) ?_ (fun ys σ' H' p l hl=>hd ys H' p.2 l hl)
 rintro i x ys σ' H' hx ⟨hσ,p⟩
 have e:σ'.set k (some x) = σ.set k (some x):=by
  rcases hσ with rfl | ⟨e,rfl⟩
  ·rfl
  ·rw [List.set_set]
 show if true=true then te (σ'.set k (some x)) H' (fun y H5=>ys.length < sizeLine /\ ((σ'.set k (some x) = σ \/ ∃ e,σ'.set k (some x) = σ.set k e) /\ Pv (i+1) (ys ++ [y]) H5)) else ((σ'.set k (some x) = σ \/ ∃ e,σ'.set k (some x) = σ.set k e) /\ Pv (i+1) ys H')
 rw [if_pos rfl,e]
 have e2:(fun (y:V) (H5:Hp)=>ys.length < sizeLine /\ ((σ.set k (some x) = σ \/ ∃ e,σ.set k (some x) = σ.set k e) /\ Pv (i+1) (ys ++ [y]) H5))=fun y H5=>ys.length < sizeLine /\ Pv (i+1) (ys ++ [y]) H5:=by
  funext y H5
  exact propext ⟨fun z=>⟨z.1,z.2.2⟩,fun z=>⟨z.1,.inr ⟨_,rfl⟩,z.2⟩⟩
 rw [e2]
 exact hs i x ys H' hx p
end
theorem Grow.less {m m':List Addr} {H H':Hp} (g:Grow m H H') (h:∀ b ∈ m,b ∈ m' \/ H b=none):Grow m' H H' :=
 ⟨fun b o n q=>g.keep b o (fun z=>by
  rcases h b z with w | w
  ·exact n w
  ·rw [w] at q; cases q) q,g.tup,g.frz⟩
theorem ss {n:Nat} {i:Int} (h0:0<=i) (h:i.toNat < n):Jl n i=some i.toNat:=by
 unfold Jl; rw [if_pos h0,if_pos (by omega)]
structure Ask where
 hand:Int
 box:Int
 deed:Deed
def RI (K:QM) (H:Hp) (x:V) (k:Ask):Prop:=∃ r rd,x = .ref r /\ Q1 K H r [.int k.hand,.int k.box,.ref rd] /\ Q1 K H rd k.deed.vs
def zI (K:QM) (H:Hp) (x:V) (b:List Int):Prop:=∃ r,x = .ref r /\ Q1 K H r (b.map V.int)
def RJ (m:Nat) (k:Ask):Prop:=0<=k.hand /\ k.hand<=15 /\ 0<=k.box /\ k.box < m /\ k.deed.Ok
theorem Grow.board {m:List Addr} {H H':Hp} (g:Grow m H H') {K:QM} {x:V} {b:List Int} (h:zI K H x b):zI K H' x b:=by
 obtain ⟨r,e,h1⟩:=h
 exact ⟨r,e,g.sqT h1⟩
def jb (d:Deed):PyData:=.tuple [.int d.add,oD d.lo,oD d.hi]
theorem Vu {K:QM} {H:Hp}:∀ xs:List Int,DatAll K H (xs.map V.int) (xs.map PyData.int)
 | []=>.nil
 | x :: xs=>.cons (.int x) (Vu xs)
def vL (K:QM):Sp:=Jz fun x y z H Q=>∃ i l u,x = .int i /\ y = .int l /\ z = .int u /\ Q (.bl (decide (l<=i) && decide (i<=u))) H
def uk (K:QM):Sp:=Jx fun x H Q=>∃ b,zI K H x b /\ 1<=b.length /\ b.length<=16 /\ ∀ H',Grow [] H H' -> Q (.bl true) H'
def wS (K:QM):Sp:=Jx fun x H Q=>∃ b,zI K H x b /\ 1<=b.length /\ b.length<=16 /\ ∀ H',Grow [] H H' -> Q .non H'
def rJ (K:QM):Sp:=Jy fun x y H Q=>∃ b k,zI K H x b /\ RI K H y k /\ RJ b.length k /\ Q (.bl true) H
theorem Vv {P:Program} {w:World} {K:QM} {mg:Str->Option Value} {base:Heap} {CX:Jh} {k:Nat} {f:Addr} {fd:FuncData} {ps:List Str} {sp:Sp} (h:∀ vs H Q E,¬ sp vs H Q E):FnOk P w K mg base CX k f fd ps sp :=
 ⟨fun vs H Q E z=>(h vs H Q E z).elim,by
  intros
  first
   | exact (h _ _ _ _ (by assumption)).elim⟩
def JC (b:V->V->V->V->Hp->VK->Prop):Sp:=fun vs H Q _=>∃ x y z u,vs=[x,y,z,u] /\ b x y z u H Q
theorem Tb {b:V->V->V->V->Hp->VK->Prop} {p q r s:Str}:∀ vs H Q E,JC b vs H Q E->vs.length=[p,q,r,s].length:=fun vs H Q E h=>by
 obtain ⟨x,y,z,u,rfl,_⟩:=h; rfl
def yP {α:Type} (R:V -> α -> Prop):List V->List α -> Prop
 | [],[]=>True
 | x :: xs,k :: ks=>R x k /\ yP R xs ks
 | _,_=>False
section
variable {α:Type} {R S:V -> α -> Prop}
theorem yP.imp (h:∀ x k,R x k->S x k):∀ {xs:List V} {ks:List α},yP R xs ks->yP S xs ks
 | [],[],_=>trivial
 | _ :: _,_ :: _,⟨a,t⟩=>⟨h _ _ a,yP.imp h t⟩
 | [],_ :: _,z=>z.elim
 | _ :: _,[],z=>z.elim
theorem yP.len:∀ {xs:List V} {ks:List α},yP R xs ks->xs.length=ks.length
 | [],[],_=>rfl
 | _ :: xs,_ :: ks,⟨_,t⟩=>congrArg (· + 1) (yP.len t)
 | [],_ :: _,h=>h.elim
 | _ :: _,[],h=>h.elim
theorem yP.get:∀ {xs:List V} {ks:List α} {i:Nat} {x:V},yP R xs ks->xs[i]? = some x -> ∃ k,ks[i]? = some k /\ R x k
 | _ :: _,k :: _,0,x,⟨h,_⟩,e=>by
  obtain rfl:=Option.some.inj e
  exact ⟨k,rfl,h⟩
 | _ :: _,_ :: _,i+1,x,⟨_,t⟩,e=>yP.get (i:=i) t e
 | [],[],i,x,_,e=>by cases e
 | [],_ :: _,_,_,h,_=>h.elim
 | _ :: _,[],_,_,h,_=>h.elim
theorem yP.getR:∀ {xs:List V} {ks:List α} {i:Nat} {k:α},yP R xs ks->ks[i]? = some k -> ∃ x,xs[i]? = some x /\ R x k
 | x :: _,_ :: _,0,k,⟨h,_⟩,e=>by
  obtain rfl:=Option.some.inj e
  exact ⟨x,rfl,h⟩
 | _ :: _,_ :: _,i+1,k,⟨_,t⟩,e=>yP.getR (i:=i) t e
 | [],[],i,k,_,e=>by cases e
 | [],_ :: _,_,_,h,_=>h.elim
 | _ :: _,[],_,_,h,_=>h.elim
theorem yP.app:∀ {xs ys:List V} {ks js:List α},yP R xs ks->yP R ys js->yP R (xs ++ ys) (ks ++ js)
 | [],_,[],_,_,h=>h
 | _ :: _,_,_ :: _,_,⟨h,t⟩,q=>⟨h,yP.app t q⟩
 | [],_,_ :: _,_,h,_=>h.elim
 | _ :: _,_,[],_,h,_=>h.elim
theorem yP.one {x:V} {k:α} (h:R x k):yP R [x] [k]:=⟨h,trivial⟩
theorem yP.take:∀ {xs:List V} {ks:List α} {n:Nat},yP R xs ks->yP R (xs.take n) (ks.take n)
 | [],[],n,_=>by rw [List.take_nil,List.take_nil]; trivial
 | _ :: _,_ :: _,0,_=>trivial
 | _ :: _,_ :: _,n+1,⟨h,t⟩=>⟨h,yP.take t⟩
 | [],_ :: _,_,h=>h.elim
 | _ :: _,[],_,h=>h.elim
end
theorem yP.drop {α:Type} {R:V -> α -> Prop}:∀ {xs:List V} {ks:List α} {n:Nat},yP R xs ks->yP R (xs.drop n) (ks.drop n)
 | [],[],n,_=>by rw [List.drop_nil,List.drop_nil]; trivial
 | _ :: _,_ :: _,0,h=>h
 | _ :: _,_ :: _,n+1,⟨h,t⟩=>yP.drop (n:=n) t
 | [],_ :: _,_,h=>h.elim
 | _ :: _,[],_,h=>h.elim
theorem rK {X:Cx} {K:QM} (h:X.K=K):y7 X (.builtin "len") (fun xs H Q=>∃ p ys,xs=[.ref p] /\ (Q0 K H p ys \/ Q1 K H p ys) /\ Q (.int ys.length) H):=by subst h; exact zt
section
variable {prog:Program} {w:World} {A:Around} {E:QN} {s:Shared}
theorem jc {jt t:Addr} {i:Nat} {vs:Array Value} {v:Value} {Q:QN} (hit:s.heap.IsTupleIter jt t i) (ht:s.heap.IsTuple t vs) (hv:vs[i]? = some v)
  (hQ:∀ h',h'.IsTupleIter jt t (i+1)->Heap.SameBut jt s.heap h' -> Q v { s with heap:=h' }):wpAny (model prog w) A (Builtin.SmallTypes.nextOf (.ref jt)) Q E s:=by
 obtain ⟨oj,hoj,cj,dj⟩:=id hit
 obtain ⟨ot,hot,_,nt,dt⟩:=ht
 unfold Builtin.SmallTypes.nextOf
 refine wpAny_bind (wpAny_callSpecial?_slot (name:=Str.ofString "__next__") hit.typeIs F.slot_tuple_iterator_next (wpAny_call_entry F.slot_tuple_iterator_next hit.typeIs F.entry_tuple_iterator_next ?_ (F.args_tuple_iterator_next_1 _)))
 show wpAny _ _ (field (.ref jt) 0 >>= _) _ _ s
 refine wpAny_bind (wpAny_field hoj dj (x:=.ref t) rfl ?_); show wpAny _ _ (if (Value.ref t == Value.none)=true then _ else _) _ _ s
 rw [if_neg (show ¬ ((Value.ref t == Value.none)=true) by exact Bool.false_ne_true)]; show wpAny _ _ (field (.ref jt) 1 >>= _) _ _ s
 refine wpAny_bind (wpAny_field hoj dj (x:=.int i 0) rfl ?_); show wpAny _ _ (seqItems? (.ref t) >>= _) _ _ s
 refine wpAny_bind (wpAny_seqItems hot dt ?_); simp only [Int.toNat_natCast,hv]
 refine wpAny_bind (wpAny_setField hoj dj (by simp) (wpAny_pure ⟨v,rfl,wpAny_pure (hQ _ ⟨_,Heap.get?_update_self _ hoj (Obj.isFreed_of_fields (Obj.data_mapFields dj _)),(Obj.cls_mapFields ..).trans cj,by rw [Obj.data_mapFields dj]; simp [rawInt]⟩ (Heap.SameBut.update ..))⟩))
theorem tG {jt t:Addr} {i:Nat} {vs:Array Value} {Q:QN} (hh:A.handled=none) (hit:s.heap.IsTupleIter jt t i) (ht:s.heap.IsTuple t vs) (hv:vs[i]? = none)
  (hE:∀ h' e,Heap.ExtBut jt s.heap h' -> (∃ o,h'.get? e=some o /\ o.cls = .type "StopIteration")->E (.ref e) { s with heap:=h' }):wpAny (model prog w) A (Builtin.SmallTypes.nextOf (.ref jt)) Q E s:=by
 obtain ⟨oj,hoj,cj,dj⟩:=id hit
 obtain ⟨ot,hot,_,nt,dt⟩:=ht
 unfold Builtin.SmallTypes.nextOf
 refine wpAny_bind (wpAny_callSpecial?_slot (name:=Str.ofString "__next__") hit.typeIs F.slot_tuple_iterator_next (wpAny_call_entry F.slot_tuple_iterator_next hit.typeIs F.entry_tuple_iterator_next ?_ (F.args_tuple_iterator_next_1 _)))
 show wpAny _ _ (field (.ref jt) 0 >>= _) _ _ s
 refine wpAny_bind (wpAny_field hoj dj (x:=.ref t) rfl ?_); show wpAny _ _ (if (Value.ref t == Value.none)=true then _ else _) _ _ s
 rw [if_neg (show ¬ ((Value.ref t == Value.none)=true) by exact Bool.false_ne_true)]; show wpAny _ _ (field (.ref jt) 1 >>= _) _ _ s
 refine wpAny_bind (wpAny_field hoj dj (x:=.int i 0) rfl ?_); show wpAny _ _ (seqItems? (.ref t) >>= _) _ _ s
 refine wpAny_bind (wpAny_seqItems hot dt ?_); simp only [Int.toNat_natCast,hv]
 refine wpAny_bind (wpAny_rule (wpAny_bind (wpAny_setField hoj dj (by simp) ?_))); show wpAny _ _ (newExc (.type "StopIteration") [] >>= _) _ _ _
 refine wpAny_bind ?_; simp only [newExc,newTuple]
 refine wpAny_bind (wpAny_newObj_type ?_ (by size_fits)); refine wpAny_bind (m:=firstArgMember _ _) (wpAny_of_eq (a:=Value.none) (by first | rfl | (simp only [firstArgMember]; rfl)) ?_)
 refine wpAny_newObj_type ?_ (by size_fits); simp only [raiseNew]
 refine wpAny_bind (wpAny_handled ?_); (first | rw [show A.in1.handled=none from hh] | rw [hh])
 exact wpAny_bind (wpAny_pure (wpAny_throw (hE _ _ (((Heap.SameBut.update ..).extBut.push _).push _) ⟨_,Heap.get?_push_size _ rfl,rfl⟩)))
end
theorem Xj {prog:Program} {w:World} {A:Around} (hh:A.handled=none) (jt t:Addr) (hne:t ≠ jt) (vs:Array Value) :
  Draws prog w A jt [jt,t] vs.size (fun i v=>vs[i]? = some v) (fun i h=>h.IsTupleIter jt t i /\ h.IsTuple t vs) where
 live:=fun _ _ st=>let ⟨o,ho,_⟩:=st.1; ⟨o,ho⟩
 frame:=fun _ _ _ st hk=>⟨st.1.at (hk jt (by simp)),st.2.at (hk t (by simp))⟩
 item:=fun i s Q E hi st hQ=>jc st.1 st.2 (v:=vs[i]) (by simp [hi]) fun h' hit' hs'=>hQ _ h' s.toks (by simp [hi]) ⟨hit',st.2.extBut hs'.extBut hne⟩ hs'
 done:=fun s Q E st hE=>tG hh st.1 st.2 (by simp) hE
theorem Xk {prog:Program} {w:World} {A:Around} (hh:A.handled=none) (jt t:Addr) (vs:Array Value) {i:Nat} (hv:vs[i]? = none) :
  Draws prog w A jt [jt,t] i (fun _ _=>True) (fun j h=>j=i /\ h.IsTupleIter jt t i /\ h.IsTuple t vs) where
 live:=fun _ _ st=>let ⟨o,ho,_⟩:=st.2.1; ⟨o,ho⟩
 frame:=fun _ _ _ st hk=>⟨st.1,st.2.1.at (hk jt (by simp)),st.2.2.at (hk t (by simp))⟩
 item:=fun j s Q E hj st hQ=>absurd st.1 (Nat.ne_of_lt hj)
 done:=fun s Q E st hE=>tG hh st.2.1 st.2.2 hv hE
section
variable {X:Cx} {pins:List (Addr × Obj)} {σ:L2.St} {H:Hp} {s:Shared} {h':Heap}
theorem jd {fp:List Addr} {t':Nat} (I:Inv X pins σ H s) (k:∀ b o,b ∉ fp->s.heap.get? b=some o->h'.get? b=some o) (ff:∀ b ∈ fp,sZ X pins H b):Inv X pins σ H { s with heap:=h',toks:=t' }:=by
 have nit:∀ b u,H b=some u->b ∉ fp:=fun b u e z=>by rw [(ff b z).1] at e; cases e
 refine I.step (g':=s.gens) (d':=s.drawn) (ch:=fp) (fun b hb=>?_) (fun b o _ _ hc e _=>k b o hc e) (fun b o _ _ hc e _=>⟨o.slots,k b o hc e⟩) (fun _ _ _ _ n=>n) (fun b o hc e=>⟨o,k b o hc e⟩) (fun _ _ e=>e) (fun _ _ _ e=>e) (fun b ps e=>⟨#[],by rw [e]; simp⟩) (fun m hm=>?_) (fun b u e=>?_) I.bare
 ·obtain ⟨_,f1,_,f3,f4,f5⟩:=ff b hb
  exact ⟨f3,f1,f4,f5⟩
 ·obtain ⟨o,es,ep,ho,r⟩:=hm
  exact ⟨o,es,ep,k _ o (fun z=>(ff _ z).2.1 rfl) ho,r⟩
 ·refine (I.hok b u e).stay (fun c v hc q=>k c v ?_ q) (fun _ q=>q) fun _ _ q=>q
  rcases hc with z | z
  ·rw [z]; exact nit b u e
  ·exact nit c _ z
theorem Zd {fp:List Addr} {T:Addr} {o:HO} {t':Nat} (I:Inv X pins σ H s) (k:∀ b o,b ∉ fp->s.heap.get? b=some o->h'.get? b=some o) (ff:∀ b ∈ fp,sZ X pins H b) (hT:s.heap.objs.size<=T)
  (new:zT X.prog X.w (QP H T o) h' T o):Inv X pins σ (QP H T o) { s with heap:=h',toks:=t' }:=by
 have hn:H T=none:=I.hok.fresh hT
 have I1:Inv X pins σ H { s with heap:=h',toks:=t' }:=jd I k ff
 have hok:QQ X.prog X.w (QP H T o) h':=QQ.track I1.hok hn new
 refine I.step (g':=s.gens) (d':=s.drawn) (ch:=fp) (fun b hb=>?_) (fun b o _ _ hc e _=>k b o hc e) (fun b o _ _ hc e _=>⟨o.slots,k b o hc e⟩) (fun b u _ e n=>by rw [zq (Nat.ne_of_lt (Nat.lt_of_lt_of_le (Heap.lt_size e) hT))]; exact n) (fun b o hc e=>⟨o,k b o hc e⟩)
  (fun b xs e=>by rw [zq (zC e hn)]; exact e) (fun b u xs e=>by rw [zq (zC e hn)]; exact e) (fun b ps e=>⟨#[],by rw [zq (zC e hn),e]; simp⟩) (fun m hm=>?_) hok I.bare
 ·obtain ⟨_,f1,_,f3,f4,f5⟩:=ff b hb
  exact ⟨f3,f1,f4,f5⟩
 ·obtain ⟨o,es,ep,ho,r⟩:=hm
  exact ⟨o,es,ep,k _ o (fun z=>(ff _ z).2.1 rfl) ho,r⟩
end
section
variable {X:Cx} {elts:List Expr} {kt:Nat} {pt:Pos}
theorem Sn:bootBuiltins "enumerate" = some (.type "enumerate"):=by decide +kernel
end
section
variable {K:QM} {a:Addr} {xs:List V} {k:Nat} {tt:TT} {te:TE} {Q:VK} {σ:L2.St} {H:Hp}
theorem Z1 (p:V->Bool) (Pv:Nat->List V->Hp->Prop) (h0:Pv 0 [] H) (hl:∀ i ys H',Pv i ys H' -> Q1 K H' a xs)
  (ht:∀ x H' (R:Bool->Hp->Prop),x ∈ xs->R (p x) H' -> tt (σ.set k (some x)) H' R)
  (hs:∀ i x ys H',xs[i]? = some x->Pv i ys H' -> p x=true->te (σ.set k (some x)) H' fun y H5=>ys.length < sizeLine /\ Pv (i+1) (ys ++ [y]) H5)
  (hn:∀ i x ys H',xs[i]? = some x->Pv i ys H' -> p x=false->Pv (i+1) ys H')
  (hd:∀ ys H',Pv xs.length ys H' -> ∀ l,H' l=none->Q (.ref l) (QP H' l (.lst ys))):wN (Q6 K a) σ H (wL k) tt te Q:=by
 refine jZ (xs:=xs) (fun i ys σ' H'=>(σ' = σ \/ ∃ e,σ' = σ.set k e) /\ Pv i ys H') ⟨.inl rfl,h0⟩ (fun i ys σ' H' _ p=>hl i ys H' p.2) ?_ (fun ys σ' H' p l hl=>hd ys H' p.2 l hl)
 rintro i x ys σ' H' hx ⟨hσ,pv⟩
 have e:σ'.set k (some x) = σ.set k (some x):=by
  rcases hσ with rfl | ⟨e,rfl⟩
  ·rfl
  ·rw [List.set_set]
 show tt (σ'.set k (some x)) H' _
 rw [e]
 refine ht x H' _ (List.mem_of_getElem? hx) ?_
 by_cases c:p x=true
 ·rw [if_pos c]
  have e2:(fun (y:V) (H5:Hp)=>ys.length < sizeLine /\ ((σ.set k (some x) = σ \/ ∃ e,σ.set k (some x) = σ.set k e) /\ Pv (i+1) (ys ++ [y]) H5))=fun y H5=>ys.length < sizeLine /\ Pv (i+1) (ys ++ [y]) H5:=by
   funext y H5
   exact propext ⟨fun z=>⟨z.1,z.2.2⟩,fun z=>⟨z.1,.inr ⟨_,rfl⟩,z.2⟩⟩
  have z:=hs i x ys H' hx pv c
  rw [← e2] at z
  exact z
 ·rw [if_neg c]
  exact ⟨.inr ⟨_,rfl⟩,hn i x ys H' hx pv (by simpa using c)⟩
end
section
variable {X:Cx}
theorem ul (hcalm:X.calm=true):y7 X (.builtin "any") (fun xs H Q=>∃ (l:Addr) (bs:List Bool),xs=[.ref l] /\ Q0 X.K H l (bs.map V.bl) /\ Q (.bl (bs.any id)) H):=by
 intro pins s σ H xs us Q I r h
 obtain ⟨l,bs,rfl,hl,q⟩:=h
 obtain ⟨u,rfl,rx⟩:=xz r
 cases (show u=Value.ref l from rx)
 obtain ⟨vs,rv,pl,_⟩:=I.list hl
 have hl':s.heap.IsList l vs.toArray:=pl.isList
 have hb:LSm.BoolsAre vs bs:=wO rv
 have hlt:l < s.heap.objs.size:=by obtain ⟨_,e,_⟩:=hl'; exact Heap.lt_size e
 refine call_any_walk (wpAny_pyIter_list hl' ?_)
 refine ⟨s.heap.objs.size,[s.heap.objs.size,l],[s.heap.objs.size],vs.toArray.size,_,_,fun i=>(bs[i]?).getD true,rfl,Walks.list (A:=X.A.in1) (I.ok.hd hcalm) _ l (Nat.ne_of_lt hlt) vs.toArray,
  ⟨⟨_,Heap.get?_push_size _ rfl,rfl,rfl⟩,hl'.push _⟩,fun i v s' Q' E' hP hQ=>?_,fun h' tk hk=>?_⟩
 ·obtain ⟨b,e,rfl⟩:=hb.get i v (by simpa using hP)
  simp only [e,Option.getD_some] at hQ
  exact wpAny_truthy_bool hQ
 ·have e:((List.range vs.toArray.size).any fun i=>(bs[i]?).getD true)=bs.any id:=by
   have hlen:bs.length=vs.length:=by rw [← rv.length,List.length_map]
   rw [List.size_toArray,← hlen,Bool.eq_iff_iff,List.any_eq_true,List.any_eq_true]
   constructor
   ·rintro ⟨i,hi,z⟩
    have hi':=List.mem_range.mp hi
    exact ⟨bs[i],List.getElem_mem hi',by simpa [List.getElem?_eq_getElem hi'] using z⟩
   ·rintro ⟨b,hb',z⟩
    obtain ⟨i,hi,rfl⟩:=List.getElem_of_mem hb'
    exact ⟨i,List.mem_range.mpr hi,by simpa [List.getElem?_eq_getElem hi] using z⟩
  rw [e]
  exact ⟨.bl (bs.any id),H,I.kept (t':=tk) (h':=h') (LSm.kept_iter hk),rfl,q⟩
theorem Vw {K:QM} (h:X.K=K):Jj X (Qc K):=by subst h; exact U4
theorem rL {K:QM} (h:X.K=K):y7 X (.builtin "isinstance") (Qd K):=by subst h; exact yo
end
theorem tH {i j:Int} (h:-(2 ^ 60) < i /\ i < 2 ^ 60):IntMulOk i j:=PySem.IntMulOk.of_left (Nat.le_trans ((PySem.intBits_le_iff (m:=60)).mpr (by obtain ⟨a,b⟩:=h; omega)) (by decide))
theorem Tc {k:Nat}:(1:Int) * 2 ^ ((k:Int)).toNat=((2 ^ k:Nat):Int):=by rw [Int.toNat_natCast,Int.one_mul,Int.natCast_pow]; rfl
section
variable {X:Cx}
theorem Xl:∀ {ns:List Int} {us:List Value},zP (ns.map V.int) us -> ∀ (i:Nat) (v:Value),us[i]? = some v -> ∃ t,v=Value.int ((ns[i]?).getD 0) t
 | [],_,.nil,i,v,e=>by cases e
 | n :: ns,_,.cons r t,0,v,e=>by
  obtain ⟨u,rfl⟩:=r
  obtain rfl:=Option.some.inj e
  exact ⟨u,rfl⟩
 | n :: ns,_,.cons r t,i+1,v,e=>Xl t i v e
theorem Xm (hcalm:X.calm=true):y7 X (.builtin "max") (fun xs H Q=>∃ (l:Addr) (ns:List Int),xs=[.ref l] /\ Q0 X.K H l (ns.map V.int) /\ 0 < ns.length /\ ∀ M,M ∈ ns->(∀ a ∈ ns,a<=M)->Q (.int M) H):=by
 intro pins s σ H xs us Q I r h
 obtain ⟨l,ns,rfl,hl,h0,q⟩:=h
 obtain ⟨u,rfl,rx⟩:=xz r
 cases (show u=Value.ref l from rx)
 obtain ⟨vs,rv,pl,_⟩:=I.list hl
 have hl':s.heap.IsList l vs.toArray:=pl.isList
 have hb:=Xl rv
 have hlen:ns.length=vs.length:=by rw [← rv.length,List.length_map]
 have hlt:l < s.heap.objs.size:=by obtain ⟨_,e,_⟩:=hl'; exact Heap.lt_size e
 have best:=argBest_gt (fun i=>(ns[i]?).getD 0) (vs.length - 1)
 refine call_max_walk (wpAny_pyIter_list hl' ?_)
 refine ⟨s.heap.objs.size,[s.heap.objs.size,l],[s.heap.objs.size],vs.toArray.size,_,_,fun i j=>decide ((ns[i]?).getD 0 > (ns[j]?).getD 0),rfl,Walks.list (A:=X.A.in1) (I.ok.hd hcalm) _ l (Nat.ne_of_lt hlt) vs.toArray,
  ⟨⟨_,Heap.get?_push_size _ rfl,rfl,rfl⟩,hl'.push _⟩,?_,?_,CmpOf.ints_gt _ (fun i v hP=>hb i v (by simpa using hP)),fun v h' tk hP hk=>?_⟩
 ·intro b hb
  have sz:(s.heap.push { cls:=.type "list_iterator",data:=.fields #[.ref l,.int 0 0] }).objs.size=s.heap.objs.size+1:=Heap.size_push ..
  rcases List.mem_cons.mp hb with z | z
  ·rw [z]; show _ < (s.heap.push _).objs.size; rw [sz]; omega
  ·rw [List.mem_singleton.mp z]; show _ < (s.heap.push _).objs.size; rw [sz]; exact Nat.lt_succ_of_lt hlt
 ·rw [List.size_toArray]; omega
 ·rw [List.size_toArray] at hP
  obtain ⟨t,rfl⟩:=hb _ v (by simpa using hP)
  have hi:argBest (fun i j=>decide ((ns[i]?).getD 0 > (ns[j]?).getD 0)) (vs.length - 1) < ns.length:=by have:=best.1; omega
  refine ⟨.int ((ns[argBest (fun i j=>decide ((ns[i]?).getD 0 > (ns[j]?).getD 0)) (vs.length - 1)]?).getD 0),H,I.kept (t':=tk) (h':=h') (LSm.kept_iter hk),⟨t,rfl⟩,q _ ?_ ?_⟩
  ·rw [List.getElem?_eq_getElem hi]; exact List.getElem_mem hi
  ·intro a ha
   obtain ⟨j,hj,rfl⟩:=List.getElem_of_mem ha
   have:=best.2 j (by omega)
   rw [List.getElem?_eq_getElem hj] at this
   exact this
end
def pI (p:Int->Bool):V->Bool
 | .int i=>p i
 | _=>false
theorem Xn (p:Int->Bool):∀ ns:List Int,((ns.map V.int).filter (pI p)).map id=(ns.filter p).map V.int
 | []=>rfl
 | n :: ns=>by
  have ih:=Xn p ns
  rw [List.map_id] at ih ⊢
  rw [List.map_cons,List.filter_cons,List.filter_cons,show pI p (V.int n)=p n from rfl]
  split
  ·rw [ih]; rfl
  ·exact ih
section
variable {X:Cx} {pins:List (Addr × Obj)} {σ:L2.St} {H2:Hp} {s₂:Shared} {it:Addr} {fp:List Addr} {tn:Nat->Heap->Prop} {J:It} {scope:Scope} {cl:List (Str × Addr)} {N':List Str} {sub:List (Option Nat)}
theorem Xo {C D:Addr} {s₀:Shared} {tg:Expr} {pos:Pos} {elt iter:Expr} {ifs:List Expr} {g:TG} {tt:TT} {te:TE} {Q:VK} {RR:Value->Addr->Result->Shared->Prop} {W:Nat->Nat->List V->L2.St->Hp->Prop}
  (I:Inv X pins σ H2 s₂) (hcalm:X.calm=true) (T:Turn X.prog X.w X.K tg J fp it tn) (f2:∀ b ∈ fp,sZ X pins H2 b) (hfp:∀ b ∈ fp,b < s₂.heap.objs.size)
  (hs₀:∀ b o,s₂.heap.get? b=some o->s₀.heap.get? b=some o) (hos:s₀.os=s₂.os) (hD:s₂.heap.objs.size<=D) (hC:s₂.heap.objs.size<=C) (hDC:D ≠ C)
  (hcl1:∀ x c,cl.lookup x=some c->X.env.cells.lookup x=some c)
  (hg:PG (Jw X N' scope cl C D fp s₀ H2) tg g) (ht:TR (Jw X N' scope cl C D fp s₀ H2) ifs tt) (he:PE (Jw X N' scope cl C D fp s₀ H2) elt te)
  (turn:∀ i m ys σ' H',W i m ys σ' H' →
   (J.stop i H' /\ ∀ l,H' l=none->Q (.ref l) (QP H' l (.lst ys))) ∨
   (J.go i H' /\ ∃ Nn:List V->L2.St->Hp->Prop,(∀ zs σ2 H2,Nn zs σ2 H2 -> ∃ m',m' < m /\ W (i+1) m' zs σ2 H2) ∧
    ∀ x H2,J.yld i H' x H2->g x σ' H2 fun σ2 H3=>tt σ2 H3 fun b H4=>if b=true then te σ2 H4 fun y H5=>ys.length < sizeLine /\ Nn (ys ++ [y]) σ2 H5 else Nn ys σ2 H4))
  (hRR:∀ (D C:Addr) (oC:Obj) (m:Str->Option Value) (s':Shared) (Hf:Hp),Inv X (pins ++ [(C,oC)]) σ Hf s' -> s'.heap.Ns C m->sZ X pins Hf C->Q (.ref D) Hf->RR (.ref D) C (.ok .next) s')
  (n:Nat) (s:Shared) (h:∃ i ys us k σ' H',Inv (Jw X N' scope cl C D fp s₀ H2) pins σ' H' s /\ tn i s.heap /\ (∀ b ∈ fp,H' b=none) /\ H' D=none ∧
   s.heap.get? D=some { cls:=.type "list",data:=.seq (us:List Value).toArray k } /\ zP ys us /\ ys.length<=sizeLine /\ W i n ys σ' H') :
  codeAny (model X.prog X.w) X.A (.compLoop (.ListComp elt [⟨tg,iter,ifs,0⟩] scope pos) 0 (.ref it) (.ref D) (compEnvC scope cl C X.env)) (RR (.ref D) C) s:=by
 have frsz:∀ b ∈ QT X.stack,b < s₂.heap.objs.size:=fun b hb=>by
  rcases List.mem_cons.mp (I.stkSub b hb) with z | z
  ·rw [z]; exact I.lt
  ·exact Nat.lt_of_not_le fun q=>I.nofs q z
 have cells:∀ x c,cl.lookup x=some c->c < s₂.heap.objs.size:=fun x c e=>let ⟨v,q⟩:=I.cell x c (hcl1 x c e); q.lt
 have pinsz:∀ p ∈ X.pn ++ pins,p.1 < s₂.heap.objs.size:=fun p hp=>Heap.lt_size (I.pin p hp).1
 refine Xb (fun n s=>∃ i ys us k σ' H',Inv (Jw X N' scope cl C D fp s₀ H2) pins σ' H' s /\ tn i s.heap /\ (∀ b ∈ fp,H' b=none) /\ H' D=none ∧
   s.heap.get? D=some { cls:=.type "list",data:=.seq (us:List Value).toArray k } /\ zP ys us /\ ys.length<=sizeLine /\ W i n ys σ' H') ?_ n h
 rintro n s ⟨i,ys,us,k,σ',H',I',st',fr,hn,hy,rv,hz,w'⟩
 have pD:Inv (Jw X N' scope cl C D fp s₀ H2) (pins ++ [(D,{ cls:=.type "list",data:=.seq us.toArray k })]) σ' H' s:=I'.pins_of fun p hp=>by
  rcases List.mem_append.mp hp with hp | hp
  ·exact I'.pin p (List.mem_append_right _ hp)
  ·rw [List.mem_singleton.mp hp]
   exact ⟨hy,hn,hDC,fun z=>absurd (Nat.lt_of_lt_of_le (frsz _ z) hD) (Nat.lt_irrefl _),fun v z=>by cases z⟩
 have fpok:∀ {H'':Hp},(∀ b ∈ fp,H'' b=none) -> ∀ b ∈ fp,sZ (Jw X N' scope cl C D fp s₀ H2) (pins ++ [(D,{ cls:=.type "list",data:=.seq us.toArray k })]) H'' b:=fun hz b hb=>by
  refine ⟨hz b hb,Nat.ne_of_lt (Nat.lt_of_lt_of_le (hfp b hb) hC),fun z=>?_,.inl (List.mem_cons_of_mem _ hb),fun x c e=>(f2 b hb).2.2.2.2.1 x c (hcl1 x c e),fun p hp=>?_⟩
  ·rcases List.mem_cons.mp (I.stkSub b z) with z | z
   ·exact (f2 b hb).2.1 z
   ·exact (f2 b hb).2.2.1 z
  ·rcases List.mem_append.mp hp with hp | hp
   ·exact (f2 b hb).2.2.2.2.2 p (List.mem_append_left _ hp)
   ·rcases List.mem_append.mp hp with hp | hp
    ·exact (f2 b hb).2.2.2.2.2 p (List.mem_append_right _ hp)
    ·rw [List.mem_singleton.mp hp]
     exact Nat.ne_of_gt (Nat.lt_of_lt_of_le (hfp b hb) hD)
 rcases turn i n ys σ' H' w' with ⟨stop,q⟩ | ⟨go,Nn,hN,step⟩
 ·refine QX (T.done (Jw X N' scope cl C D fp s₀ H2) rfl rfl rfl hcalm i _ s σ' H' (fun _ _=>False) pD (fpok fr) st' stop) fun r s1 ⟨hr,I1⟩=>?_
  subst hr
  have hy1:=(I1.pin (D,{ cls:=.type "list",data:=.seq us.toArray k }) (by simp)).1
  obtain ⟨m,hm,_⟩:=I1.loc
  obtain ⟨oC,es,ep,hoC,hdC,_⟩:=id hm
  obtain ⟨IX,fpc⟩:=Vs I hs₀ hos hD hC hDC f2 I1.unpinned hn hy1 rv hz hoC (by intro v z; rw [hdC] at z; cases z)
  exact hRR D C oC m s1 _ IX hm fpc (q D hn)
 ·refine QX (T.item (Jw X N' scope cl C D fp s₀ H2) rfl rfl rfl hcalm i _ s σ' H' (fun _ _=>False) pD (fpok fr) st' go) fun r s1 ⟨u,hr,h4⟩=>?_
  subst hr
  refine QX h4 fun _ s2 ⟨x5,H5,I5,r5,y5,st5,fr5⟩=>?_
  have I5':=I5.pinned (fpok fr5) (T.obj _ _ st5)
  refine QX (hg _ s2 σ' H5 x5 u _ I5' r5 (step x5 H5 y5)) fun _ s3 ⟨σ6,H6,I6,q6⟩=>?_
  refine QX (ht _ s3 σ6 H6 _ I6 q6) fun ok s4 ⟨H7,I7,q7⟩=>?_
  have stay:∀ {σ7:L2.St} {H7:Hp} {s7:Shared},Inv (Jw X N' scope cl C D fp s₀ H2) (pins ++ [(D,{ cls:=.type "list",data:=.seq us.toArray k })] ++ s8 fp s2.heap) σ7 H7 s7 →
    (∀ b ∈ fp,∀ o,s2.heap.get? b=some o->s7.heap.get? b=some o) /\ (∀ b ∈ fp,H7 b=none) /\ H7 D=none /\ s7.heap.get? D=some { cls:=.type "list",data:=.seq us.toArray k }:=fun {σ7 H7 s7} I7=>by
   have d:=I7.pin (D,{ cls:=.type "list",data:=.seq us.toArray k }) (by simp)
   refine ⟨fun b hb o e=>(I7.pin (b,o) (List.mem_append_right _ (List.mem_append_right _ (we hb e)))).1,fun b hb=>?_,d.2.1,d.1⟩
   obtain ⟨o,e,_⟩:=T.obj _ _ st5 b hb
   exact (I7.pin (b,o) (List.mem_append_right _ (List.mem_append_right _ (we hb e)))).2.1
  cases ok with
  | false =>
   rw [if_neg (by decide)] at q7 ⊢
   obtain ⟨k1,k2,k3,k4⟩:=stay I7
   obtain ⟨m',hm,w7⟩:=hN ys σ6 H7 q7
   exact ⟨m',hm,i+1,ys,us,k,σ6,H7,I7.unpinned.unpinned,T.keep _ _ _ st5 k1,k2,k3,k4,rv,hz,w7⟩
  | true =>
   rw [if_pos rfl] at q7 ⊢
   refine QX (he _ s4 σ6 H7 _ I7 q7) fun v s5 ⟨y,H8,I8,r8,hl8,n8⟩=>?_
   obtain ⟨k1,k2,k3,k4⟩:=stay I8
   refine wpAny_list_append_plain (l:=D) ⟨k,k4⟩ (fun h' pl sb=>?_) (by rw [List.size_toArray,← rv.length]; exact hz)
   obtain ⟨k',e'⟩:=pl
   obtain ⟨m',hm,w8⟩:=hN _ σ6 H8 n8
   refine ⟨m',hm,i+1,ys ++ [y],us ++ [v],k',σ6,H8,?_,T.keep _ _ _ (T.keep _ _ _ st5 k1) fun b hb o e=>sb.extBut b o (Nat.ne_of_lt (Nat.lt_of_lt_of_le (hfp b hb) hD)) e,k2,k3,?_,rv.append (.cons r8 .nil),?_,w8⟩
   ·exact (I8.unpinned.unpinned).turned (it:=D) (t':=s5.toks) (h':=h') (fun b o hb e=>sb.extBut b o hb e) k3 hDC (.inl (by simp)) (fun x c e=>Nat.ne_of_lt (Nat.lt_of_lt_of_le (cells x c e) hD)) (fun p hp=>Nat.ne_of_lt (Nat.lt_of_lt_of_le (pinsz p hp) hD))
   ·rw [e']; simp
   ·rw [List.length_append]; exact hl8
theorem um {tg:Expr} {pos:Pos} {elt iter:Expr} {ifs:List Expr} {g:TG} {tt:TT} {te:TE} {E:QN} {Q:VK} {RR:Value->Addr->Result->Shared->Prop}
  (I:Inv X pins σ H2 s₂) (hcalm:X.calm=true) (T:Turn X.prog X.w X.K tg J fp it tn) (st:tn 0 s₂.heap) (f2:∀ b ∈ fp,sZ X pins H2 b)
  (S:CSc X scope N' sub) (hcl1:∀ x c,cl.lookup x=some c->X.env.cells.lookup x=some c) (hcl2:∀ y ∈ scope.names,y.2 = .free -> ∃ c,cl.lookup y.1=some c)
  (hg:∀ C D fp s H,PG (Jw X N' scope cl C D fp s H) tg g) (ht:∀ C D fp s H,TR (Jw X N' scope cl C D fp s H) ifs tt) (he:∀ C D fp s H,PE (Jw X N' scope cl C D fp s H) elt te)
  (hW:wN J (U9 sub σ) H2 g tt te Q)
  (hRR:∀ (D C:Addr) (oC:Obj) (m:Str->Option Value) (s':Shared) (Hf:Hp),Inv X (pins ++ [(C,oC)]) σ Hf s' -> s'.heap.Ns C m->sZ X pins Hf C->Q (.ref D) Hf->RR (.ref D) C (.ok .next) s') :
  wpAny (model X.prog X.w) X.A (newList []) (fun acc s₃=>wpAny (model X.prog X.w) X.A (newFunctionEnv scope X.env.globals cl [] X.env.qual none .none (some X.env)) (fun cenv s₄ =>
   codeAny (model X.prog X.w) X.A (.compStart (.ListComp elt [⟨tg,iter,ifs,0⟩] scope pos) 0 (.ref it) acc { cenv with scope:=relabel scope X.env }) (RR acc cenv.locals) s₄) E s₃) E s₂:=by
 obtain ⟨W,⟨m0,w0⟩,turn⟩:=hW
 refine wpAny_newObj_type (wpAny_newFunctionEnv S.nocell (by intro y hy; simp at hy) (fun h₁ hns₁ hsb₁=>?_) S.kind)
 dsimp only at hns₁ hsb₁ ⊢
 have hC:(s₂.heap.push { cls:=.type "list",dict:=none,data:=.seq ([]:List Value).toArray }).objs.size=s₂.heap.objs.size+1:=Heap.size_push ..
 rw [hC] at hns₁ hsb₁ ⊢
 have hk:∀ b o,(s₂.heap.push { cls:=.type "list",dict:=none,data:=.seq ([]:List Value).toArray }).get? b=some o->h₁.get? b=some o:=fun b o e =>
  hsb₁.extBut b o (by have:=Heap.lt_size e; rw [hC] at this; exact Nat.ne_of_lt this) (Heap.get?_push_of_some _ e)
 have hfp:∀ b ∈ fp,b < s₂.heap.objs.size:=fun b hb=>by
  obtain ⟨o,e,_⟩:=T.obj _ _ st b hb
  exact Heap.lt_size e
 have I0:=ZW (tk:=s₂.toks+([]:List (Str × Value)).length) I S hcl1 hcl2 f2 hfp hns₁ hk
 have hD0:h₁.get? s₂.heap.objs.size=some { cls:=.type "list",data:=.seq ([]:List Value).toArray 0 }:=hk _ _ (Heap.get?_push_size _ rfl)
 have loop:codeAny (model X.prog X.w) X.A (.compLoop (.ListComp elt [⟨tg,iter,ifs,0⟩] scope pos) 0 (.ref it) (.ref s₂.heap.objs.size) (compEnvC scope cl (s₂.heap.objs.size+1) X.env)) (RR (.ref s₂.heap.objs.size) (s₂.heap.objs.size+1)) { s₂ with heap:=h₁,toks:=s₂.toks+([]:List (Str × Value)).length } :=
  Xo (s₀:={ s₂ with heap:=s₂.heap.push { cls:=.type "list",dict:=none,data:=.seq ([]:List Value).toArray } }) (C:=s₂.heap.objs.size+1) (D:=s₂.heap.objs.size) I hcalm T f2 hfp (fun b o e=>Heap.get?_push_of_some _ e) rfl (Nat.le_refl _) (Nat.le_succ _) (Nat.ne_of_lt (Nat.lt_succ_self _)) hcl1 (hg _ _ _ _ _) (ht _ _ _ _ _) (he _ _ _ _ _) turn hRR m0 _
   ⟨0,[],[],0,U9 sub σ,H2,I0,T.keep _ _ _ st fun b hb o e=>hk b o (Heap.get?_push_of_some _ e),fun b hb=>(f2 b hb).1,I.hok.fresh (Nat.le_refl _),hD0,.nil,Nat.zero_le _,w0⟩
 exact codeAny_compStart_list loop (T.self _ _ _ _ _ (T.keep _ _ _ st fun b hb o e=>hk b o (Heap.get?_push_of_some _ e)) loop)
end
section
variable {X:Cx} {scope:Scope} {N':List Str} {sub:List (Option Nat)} {tg:Expr} {pos:Pos} {elt iter:Expr} {ifs:List Expr} {wi:TI} {g:TG} {tt:TT} {te:TE}
theorem z6 (S:CSc X scope N' sub) (hcalm:X.calm=true) (hi:PI X tg iter wi)
  (hg:∀ cl C D fp s H,PG (Jw X N' scope cl C D fp s H) tg g) (ht:∀ cl C D fp s H,TR (Jw X N' scope cl C D fp s H) ifs tt) (he:∀ cl C D fp s H,PE (Jw X N' scope cl C D fp s H) elt te)
  (hs:∀ x,foldedSetIterable iter X.env x=pure x:=by intro _; rfl):PE X (.ListComp elt [⟨tg,iter,ifs,0⟩] scope pos) (Si wi sub g tt te):=by
 intro pins s σ H Q I h
 obtain ⟨cl,hclos,hcl1,hcl2⟩:=S.clos I
 rw [eval_ListComp]
 refine wpAny_comprehension_free (use:=none) rfl hs hclos S.kind S.names (QX (hi pins s σ H _ I h) fun v s1 h1=>QX h1 fun itv s2 h2=>?_)
 obtain ⟨it,fp,tn,J,H2,e,I2,T,st2,f2,hW⟩:=h2
 subst e
 refine um (RR:=fun acc C=>compPost (model X.prog X.w) X.A X.xe none (EP X pins σ Q) acc C) I2 hcalm T st2 f2 S hcl1 hcl2 (hg cl) (ht cl) (he cl) hW ?_
 intro D C oC m s' Hf IX hm fpc q
 refine ⟨m,hm,fun h' sb=>⟨.ref D,Hf,?_,rfl,q⟩⟩
 exact (IX.unpinned).turned (it:=C) (t':=s'.toks) (h':=h') (fun b o hb e=>sb.extBut b o hb e) fpc.1 fpc.2.1 fpc.2.2.2.1 fpc.2.2.2.2.1 fpc.2.2.2.2.2
theorem su {i:Nat} {y:Str} {py spos:Pos} (hN:X.N.Nodup) (hiN:X.N[i]? = some y) (hy:X.env.scope.names.lookup y=some .local) (S:CSc X scope N' sub) (hcalm:X.calm=true) (hi:PI X tg iter wi)
  (hg:∀ cl C D fp s H,PG (Jw X N' scope cl C D fp s H) tg g) (ht:∀ cl C D fp s H,TR (Jw X N' scope cl C D fp s H) ifs tt) (he:∀ cl C D fp s H,PE (Jw X N' scope cl C D fp s H) elt te)
  (hsw:swapsWith (.ListComp elt [⟨tg,iter,ifs,0⟩] scope pos) (some (.Name y py)) spos.line X.env=pure true:=by rfl)
  (hs:∀ x,foldedSetIterable iter X.env x=pure x:=by intro _; rfl):PS X (.Assign [.Name y py] (.ListComp elt [⟨tg,iter,ifs,0⟩] scope pos) spos) (Rc (Si wi sub g tt te) (wL i)):=by
 intro pins s σ H D I h
 obtain ⟨cl,hclos,hcl1,hcl2⟩:=S.clos I
 rw [exec_Assign_Name_used _ _ _ _ hsw]
 refine wpAny_bind (wpAny_standAt (wpAny_bind ?_))
 show wpAny _ X.A (do let _ ← comprehension (.ListComp elt [⟨tg,iter,ifs,0⟩] scope pos) scope X.env _ (newList []) false (eval iter X.env) (some (assign (.Name y py) X.env))) _ _ s
 refine wpAny_bind (wpAny_mono (wpAny_comprehension_free (use:=some (assign (.Name y py) X.env)) (Q:=fun _ s'=>SP X pins D .next s') rfl hs hclos S.kind S.names
  (QX (hi pins s σ H _ I h) fun v s1 h1=>QX h1 fun itv s2 h2=>?_)) (fun _ s' hq=>wpAny_pure (wpAny_pure hq)) fun _ _ e=>e)
 obtain ⟨it,fp,tn,J,H2,e,I2,T,st2,f2,hW⟩:=h2
 subst e
 refine um (Q:=fun x H1=>wL i x σ H1 D.nx) (RR:=fun acc C=>compPost (model X.prog X.w) X.A X.xe (some (assign (.Name y py) X.env)) (fun _ s'=>SP X pins D .next s') acc C) I2 hcalm T st2 f2 S hcl1 hcl2 (hg cl) (ht cl) (he cl) hW ?_
 intro L C oC m s' Hf IX hm fpc q
 have st:=zj (X:=X) (pos:=py) hN hiN (.inl hy) (.inr hy) _ s' σ Hf (.ref L) (.ref L) D.nx IX rfl q
 refine QX st fun _ s'' ⟨σ2,H2,I2',q2⟩=>?_
 have p:=I2'.pin (C,oC) (by simp)
 have hm':s''.heap.Ns C m:=by
  obtain ⟨o,es,ep,e1,r⟩:=hm
  have z:=(IX.pin (C,oC) (by simp)).1
  rw [e1] at z; cases z
  exact ⟨_,es,ep,p.1,r⟩
 refine ⟨m,hm',fun h' sb=>⟨σ2,H2,?_,q2⟩⟩
 exact (I2'.unpinned).turned (it:=C) (t':=s''.toks) (h':=h') (fun b o hb e=>sb.extBut b o hb e) p.2.1 fpc.2.1 fpc.2.2.2.1 fpc.2.2.2.2.1 fpc.2.2.2.2.2
end
section
variable {prog:Program} {w:World} {A:Around} {E:QN} {s:Shared}
def Z2 (h:Heap) (a:Addr) (cn:String) (vs:Array Value):Prop:=(cn = "tuple_iterator" /\ h.IsTuple a vs) \/ (cn = "list_iterator" /\ h.IsList a vs)
theorem Z2.iter {a:Addr} {cn:String} {vs:Array Value} {Q:QN} (h:Z2 s.heap a cn vs)
  (q:Q (.ref s.heap.objs.size) { s with heap:=s.heap.push { cls:=.type cn,data:=.fields #[.ref a,.int 0 0] } }):wpAny (model prog w) A (pyIter (.ref a)) Q E s:=by
 rcases h with ⟨rfl,h⟩ | ⟨rfl,h⟩
 ·exact wpAny_pyIter_tuple h q
 ·exact wpAny_pyIter_list h q
def JD (c:String) (a:Addr):Obj:={ cls:=.type c,data:=.fields #[.ref a,.int 0 0] }
end
def JE (c:Bool) (K:QM) (H:Hp) (a:Addr) (xs:List V):Prop:=match c with
 | true=>Q1 K H a xs
 | false=>Q0 K H a xs
def uo (c:Bool) (h:Heap) (j a:Addr) (i:Nat):Prop:=match c with
 | true=>h.IsTupleIter j a i
 | false=>h.IsListIter j a i
def Vx (c:Bool) (h:Heap) (a:Addr) (vs:Array Value):Prop:=match c with
 | true=>h.IsTuple a vs
 | false=>h.IsList a vs
def JF (c:Bool):String:=match c with
 | true=>"tuple_iterator"
 | false=>"list_iterator"
theorem uo.at {c:Bool} {h h':Heap} {j a:Addr} {i:Nat} (x:uo c h j a i) (k:∀ o,h.get? j=some o->h'.get? j=some o):uo c h' j a i:=by
 cases c
 ·exact Heap.IsListIter.at x k
 ·exact Heap.IsTupleIter.at x k
theorem uo.obj {c:Bool} {h:Heap} {j a:Addr} {i:Nat} (x:uo c h j a i):∃ o,h.get? j=some o /\ ∀ v,o.data ≠ .cell v:=by
 cases c
 ·obtain ⟨o,e,_,d⟩:=x
  exact ⟨o,e,fun v z=>by rw [d] at z; cases z⟩
 ·obtain ⟨o,e,_,d⟩:=x
  exact ⟨o,e,fun v z=>by rw [d] at z; cases z⟩
theorem uo.mk {c:Bool} {h:Heap} {j a:Addr} (e:h.get? j=some (JD (JF c) a)):uo c h j a 0:=by
 cases c
 ·exact ⟨_,e,rfl,rfl⟩
 ·exact ⟨_,e,rfl,rfl⟩
theorem Vx.src {c:Bool} {h:Heap} {a:Addr} {vs:Array Value} (x:Vx c h a vs):Z2 h a (JF c) vs:=by
 cases c
 ·exact .inr ⟨rfl,x⟩
 ·exact .inl ⟨rfl,x⟩
theorem Vx.lt {c:Bool} {h:Heap} {a:Addr} {vs:Array Value} (x:Vx c h a vs):a < h.objs.size:=by
 cases c
 ·obtain ⟨_,e,_⟩:=(show h.IsList a vs from x); exact Heap.lt_size e
 ·obtain ⟨_,e,_⟩:=(show h.IsTuple a vs from x); exact Heap.lt_size e
theorem So {prog:Program} {w:World} {A:Around} (hh:A.handled=none) (c:Bool) (j t:Addr) (hne:t ≠ j) (vs:Array Value) :
  Draws prog w A j [j,t] vs.size (fun i v=>vs[i]? = some v) (fun i h=>uo c h j t i /\ Vx c h t vs):=by
 cases c
 ·exact Draws.list hh j t hne vs
 ·exact Xj hh j t hne vs
theorem Z3 {prog:Program} {w:World} {A:Around} (hh:A.handled=none) (jt t:Addr) (vs:Array Value) {i:Nat} (hv:vs[i]? = none) :
  Draws prog w A jt [jt,t] i (fun _ _=>True) (fun j h=>j=i /\ h.IsListIter jt t i /\ h.IsList t vs) where
 live:=fun _ _ st=>let ⟨o,ho,_⟩:=st.2.1; ⟨o,ho⟩
 frame:=fun _ _ _ st hk=>⟨st.1,st.2.1.at (hk jt (by simp)),st.2.2.at (hk t (by simp))⟩
 item:=fun j s Q E hj st hQ=>absurd st.1 (Nat.ne_of_lt hj)
 done:=fun s Q E st hE=>wpAny_nextOf_list_end hh st.2.1 st.2.2 hv hE
theorem Z4 {prog:Program} {w:World} {A:Around} (hh:A.handled=none) (c:Bool) (j t:Addr) (vs:Array Value) {i:Nat} (hv:vs[i]? = none) :
  Draws prog w A j [j,t] i (fun _ _=>True) (fun k h=>k=i /\ uo c h j t i /\ Vx c h t vs):=by
 cases c
 ·exact Z3 hh j t vs hv
 ·exact Xk hh j t vs hv
theorem sv {X:Cx} {pins:List (Addr × Obj)} {σ:L2.St} {H:Hp} {s:Shared} {c:Bool} {a:Addr} {xs:List V} (I:Inv X pins σ H s) (h:JE c X.K H a xs):∃ its:List Value,zP xs its /\ Vx c s.heap a its.toArray:=by
 cases c
 ·obtain ⟨its,r,p,_⟩:=I.list h
  exact ⟨its,r,p.isList⟩
 ·obtain ⟨its,r,p,_⟩:=I.tuple h
  exact ⟨its,r,p⟩
theorem rM {X:Cx} {pins:List (Addr × Obj)} {σ:L2.St} {H:Hp} {s:Shared} {c:Bool} {a:Addr} {xs ys:List V} (I:Inv X pins σ H s) (h:JE c X.K H a xs) (h':JE c X.K H a ys):xs=ys:=by
 cases c
 ·exact I.list_inj h h'
 ·exact I.tuple_inj h h'
section
variable {prog:Program} {w:World} {A:Around} {E:QN} {s:Shared}
open PySem.AutoSeq1 (wpAny_loadPart')
theorem Xp (t:Addr) (c:Bool) (vs:Array Value) :
  Meets (Builtin.«enumerate.__new__» ⟨[.type "enumerate",.ref t],[]⟩) (fun _ R s=>Vx c s.heap t vs ∧
   R (.ok (.ret (.ref (s.heap.push (JD (JF c) t)).objs.size)))
    { s with heap:=(s.heap.push (JD (JF c) t)).push { cls:=.type "enumerate",data:=.fields #[.none,.bool false,.ref s.heap.objs.size,rawInt 0,.none,.none] } }) :=
 .of_wp fun prog w A R s h=>by
  obtain ⟨hp,g,d,tk,os⟩:=s; obtain ⟨hT,h⟩:=h
  have hT':Z2 (Shared.heap ⟨hp,g,d,tk,os⟩) t (JF c) vs:=hT.src
  obtain ⟨ot,hot⟩:∃ o,hp.get? t=some o:=by
   cases c
   ·obtain ⟨o,e,_⟩:=(show hp.IsList t vs from hT); exact ⟨o,e⟩
   ·obtain ⟨o,e,_⟩:=(show hp.IsTuple t vs from hT); exact ⟨o,e⟩
  have hsub:=sub_enumerate
  wp_walk using wpAny_loadPart' hot
  refine wpAny_stack_any fun st=>wpAny_pure ?_
  split
  ·rename_i c' _ _ _ _ _
   cases (c' == Value.type "enumerate") <;> (wp_walk using wpAny_loadPart' hot,Z2.iter hT') <;> exact ⟨_,rfl,h⟩
  ·wp_walk using wpAny_loadPart' hot,Z2.iter hT'
   exact ⟨_,rfl,h⟩
theorem Z5 {t:Addr} {c:Bool} {vs:Array Value} {Q:QN} (ht:Vx c s.heap t vs)
  (h:∀ h',IsEnum h' (s.heap.objs.size+1) s.heap.objs.size 0 .none->uo c h' s.heap.objs.size t 0->h'.objs.size=s.heap.objs.size+2->(∀ b o,s.heap.get? b=some o->h'.get? b=some o)->Q (.ref (s.heap.objs.size+1)) { s with heap:=h' }) :
  wpAny (model prog w) A (call (.type "enumerate") [.ref t]) Q E s:=by
 refine callType_new F.called_enumerate (by decide) (F.typeCall_enumerate_1 _) (F.newCall_enumerate_1 _) (fun obj=>F.args_object_init_2 obj _) F.entry_enumerate_new (Xp t c vs) ⟨ht,?_⟩
 have hz:(s.heap.push (JD (JF c) t)).objs.size=s.heap.objs.size+1:=Heap.size_push ..
 show _ /\ _
 rw [hz]
 have he:IsEnum ((s.heap.push (JD (JF c) t)).push { cls:=.type "enumerate",data:=.fields #[.none,.bool false,.ref s.heap.objs.size,rawInt 0,.none,.none] }) (s.heap.objs.size+1) s.heap.objs.size 0 .none:=by
  have:=Heap.get?_push_size (s.heap.push (JD (JF c) t)) (o:={ cls:=.type "enumerate",data:=.fields #[.none,.bool false,.ref s.heap.objs.size,rawInt 0,.none,.none] }) rfl
  rw [hz] at this; exact this
 exact ⟨⟨_,he,rfl⟩,h _ he (.mk (Heap.get?_push_of_some _ (Heap.get?_push_size _ rfl))) (by rw [Heap.size_push,Heap.size_push]) fun b o x=>Heap.get?_push_of_some _ (Heap.get?_push_of_some _ x)⟩
end
def TU (c:Bool) (K:QM) (a:Addr):It :=
 ⟨fun i H=>∃ xs x,JE c K H a xs /\ xs[i]? = some x,fun i H x H'=>∃ T v,H T=none /\ x = .ref T /\ H' = QP H T (.tup [.int i,v]) /\ ∀ xs,JE c K H a xs->xs[i]? = some v,fun i H=>∃ xs,JE c K H a xs /\ xs.length<=i⟩
theorem Z6 {P:Program} {w:World} {K:QM} {elts:List Expr} {kt:Nat} {pt:Pos} (c:Bool) (a e jt:Addr) (hej:e ≠ jt) (hae:a ≠ e) (haj:a ≠ jt) :
  Turn P w K (.Tuple elts kt pt) (TU c K a) [e,jt] e (fun i h=>(∃ old,IsEnum h e jt i old) /\ uo c h jt a i) where
 mem:=by simp
 obj:=fun i h st b hb=>by
  obtain ⟨⟨old,he⟩,st⟩:=st
  simp only [List.mem_cons,List.mem_nil_iff,or_false] at hb
  rcases hb with rfl | rfl
  ·exact ⟨_,he,fun v z=>by cases z⟩
  ·exact st.obj
 keep:=fun i h h' st k=>by
  obtain ⟨⟨old,he⟩,st⟩:=st
  exact ⟨⟨old,k e (by simp) _ he⟩,st.at fun o q=>k jt (by simp) o q⟩
 item:=by
  intro X hP hw hK hc i pins s σ H E I hf st hg
  subst hP hw hK
  obtain ⟨⟨old,he⟩,hit⟩:=st
  obtain ⟨xs,x,hq,hx⟩:=hg
  obtain ⟨its,rv,p⟩:=sv I hq
  obtain ⟨u,hu,ru⟩:=rv.get hx
  have hlt:i < its.toArray.size:=by have:=(List.getElem?_eq_some_iff.mp hu).1; simpa using this
  refine wpAny_pyNext_enum_itemD (So (A:=X.A.in1) (I.ok.hd hc) c jt a haj its.toArray) he ⟨hit,p⟩ hlt hej (by simp [hej,Ne.symm hae]) fun v h1 tk hv hout hst1 hT hsz hk=>?_
  have hvu:v=u:=by
   have e1:its.toArray[i]? = some v:=hv
   have e2:its.toArray[i]? = some u:=by simpa using hu
   rw [e1] at e2; exact Option.some.inj e2
  subst hvu
  refine ⟨_,rfl,wpAny_letOwnedTupleGo_enum (s:={ s with heap:=h1,toks:=tk+1 }) hout fun h2 he2 hs2=>?_⟩
  have hk2:∀ b o,b ∉ [e,jt]->s.heap.get? b=some o->h2.get? b=some o:=fun b o hb q=>by
   have n1:b ≠ e:=fun z=>hb (by simp [z])
   have n2:b ≠ jt:=fun z=>hb (by simp [z])
   exact (hs2.2 b n1).trans (hk b o n1 n2 q)
  have eT:s.heap.objs.size ≠ e:=Nat.ne_of_gt (Heap.lt_size he)
  have hT2:h2.get? s.heap.objs.size=some { cls:=.type "tuple",data:=.seq #[.int i tk,v] }:=(hs2.2 _ eT).trans hT
  have hn:H s.heap.objs.size=none:=I.hok.fresh (Nat.le_refl _)
  have I2:Inv X pins σ (QP H s.heap.objs.size (.tup [.int i,x])) { s with heap:=h2,toks:=tk+1 }:=Zd (s:=s) I hk2 hf (Nat.le_refl _) ⟨by show 2<=sizeLine; decide,[.int i tk,v],.cons ⟨_,rfl⟩ (.cons ru .nil),_,hT2,rfl,0,rfl⟩
  refine ⟨.ref s.heap.objs.size,QP H s.heap.objs.size (.tup [.int i,x]),I2,rfl,⟨_,x,hn,rfl,rfl,fun ys hy=>by rw [rM I hy hq]; exact hx⟩,⟨⟨v,by simpa using he2⟩,?_⟩,fun b hb=>?_⟩
  ·exact hst1.1.at fun o q=>(hs2.2 jt (Ne.symm hej)).trans q
  ·have nb:b ≠ s.heap.objs.size:=by
    obtain ⟨oj,hoj,_⟩:=hit.obj
    simp only [List.mem_cons,List.mem_nil_iff,or_false] at hb
    rcases hb with rfl | rfl
    ·exact Ne.symm eT
    ·exact Nat.ne_of_lt (Heap.lt_size hoj)
   rw [zq nb]; exact (hf b hb).1
 done:=by
  intro X hP hw hK hc i pins s σ H E I hf st hg
  subst hP hw hK
  obtain ⟨⟨old,he⟩,hit⟩:=st
  obtain ⟨xs,hq,hx⟩:=hg
  obtain ⟨its,rv,p⟩:=sv I hq
  have hl:=rv.length
  refine wpAny_pyNext_enum_endD (Z4 (A:=X.A.in1) (I.ok.hd hc) c jt a its.toArray (i:=i) (by simp; omega)) he ⟨rfl,hit,p⟩ fun h' eb=>⟨rfl,?_⟩
  exact jd (fp:=[e,jt]) (t':=s.toks) I (fun b o hb q=>eb b o (fun z=>hb (by simp [z])) q) hf
 self:=fun _ _ _ _ _ st h=>by
  obtain ⟨⟨old,he⟩,_⟩:=st
  exact wpAny_pyIter_enum he h
section
variable {X:Cx} {elts:List Expr} {kt:Nat} {pt:Pos} {K:QM}
def Sq (c:Bool) (K:QM) (ta:TA):TI:=fun σ H R=>ta σ H fun vs H1=>∃ a xs,vs=[.ref a] /\ JE c K H1 a xs /\ R (TU c K a) H1
theorem wT {a:Expr} {ta:TA} {p pos:Pos} (c:Bool) (hK:X.K=K) (hg:Gl X "enumerate") (hm:X.mg "enumerate" = none) (ha:PA X [a] ta) (hs:starEach [a] X.env=[(false,eval a X.env)]:=by rfl) :
  PI X (.Tuple elts kt pt) (.Call (.Name "enumerate" p) [a] [] pos) (Sq c K ta):=by
 subst hK
 intro pins s σ H R I h
 refine Call_ (wv I hg hm Sn (PyProof.Rows.callWith_type1 (QX (ha pos pins s σ H _ I h) fun us s1 ⟨vs,H1,I1,r1,q1⟩=>?_) hs rfl))
 obtain ⟨t,xs,e,hq,q⟩:=q1
 subst e
 obtain ⟨u,rfl,e1⟩:=xz r1
 cases (show u=Value.ref t from e1)
 obtain ⟨its,rv,p⟩:=sv I1 hq
 refine Z5 p fun h' he hit _ hk=>?_
 refine wpAny_pyIter_enum he ?_
 have lt:t < s1.heap.objs.size:=p.lt
 have I2:Inv X pins σ H1 { s1 with heap:=h' }:=I1.kept (t':=s1.toks) hk
 refine ⟨s1.heap.objs.size+1,[s1.heap.objs.size+1,s1.heap.objs.size],_,_,H1,rfl,I2,Z6 c t (s1.heap.objs.size+1) s1.heap.objs.size (Nat.succ_ne_self _) (Nat.ne_of_lt (Nat.lt_succ_of_lt lt)) (Nat.ne_of_lt lt),⟨⟨_,he⟩,hit⟩,fun b hb=>?_,q⟩
 simp only [List.mem_cons,List.mem_nil_iff,or_false] at hb
 rcases hb with rfl | rfl
 ·exact I1.fpOk (Nat.le_succ _) (I1.hok.fresh (Nat.le_succ _))
 ·exact I1.fpOk (Nat.le_refl _) (I1.hok.fresh (Nat.le_refl _))
end
section
variable {K:QM} {a:Addr} {c:Bool} {xs:List V} {g:TG} {tt:TT} {te:TE} {tb:TS} {D:Ends} {Q:VK} {σ:L2.St} {H:Hp}
theorem uq (Pv:Nat->L2.St->Hp->Prop) (h0:Pv 0 σ H) (hl:∀ i σ H,i<=xs.length->Pv i σ H->JE c K H a xs)
  (hs:∀ i x σ H T,xs[i]? = some x->Pv i σ H->H T=none->g (.ref T) σ (QP H T (.tup [.int i,x])) fun σ2 H2=>tb { D with nx:=Pv (i+1),ct:=Pv (i+1),bk:=D.nx } σ2 H2) (hd:∀ σ H,Pv xs.length σ H->D.nx σ H) :
  ∃ W:Nat->Nat->L2.St->Hp->Prop,(∃ m,W 0 m σ H) /\ ∀ i m σ H,W i m σ H →
   ((TU c K a).stop i H /\ D.nx σ H) \/ ((TU c K a).go i H /\ ∃ N:L2.St->Hp->Prop,(∀ σ' H',N σ' H' -> ∃ m',m' < m /\ W (i+1) m' σ' H') /\ ∀ x H',(TU c K a).yld i H x H' -> g x σ H' fun σ2 H2=>tb { D with nx:=N,ct:=N,bk:=D.nx } σ2 H2):=by
 refine ⟨fun i m σ H=>m=xs.length - i /\ i<=xs.length /\ Pv i σ H,⟨xs.length,by simp,Nat.zero_le _,h0⟩,?_⟩
 rintro i m σ H ⟨rfl,hi,p⟩
 have q:=hl i σ H hi p
 by_cases hlt:i < xs.length
 ·refine .inr ⟨⟨xs,xs[i],q,by simp [hlt]⟩,Pv (i+1),fun σ' H' p'=>⟨xs.length - (i+1),by omega,rfl,hlt,p'⟩,fun x H' y=>?_⟩
  obtain ⟨T,v,hT,rfl,rfl,y⟩:=y
  exact hs i v σ H T (y xs q) p hT
 ·have e:i=xs.length:=by omega
  subst e
  exact .inl ⟨⟨xs,q,Nat.le_refl _⟩,hd σ H p⟩
theorem tI (Pv:Nat->List V->L2.St->Hp->Prop) (h0:Pv 0 [] σ H) (hl:∀ i zs σ H,Pv i zs σ H->JE c K H a xs)
  (hs:∀ i x zs σ H T,xs[i]? = some x->Pv i zs σ H->H T=none->g (.ref T) σ (QP H T (.tup [.int i,x])) fun σ2 H3=>tt σ2 H3 fun b H4=>if b=true then te σ2 H4 fun y H5=>zs.length < sizeLine /\ Pv (i+1) (zs ++ [y]) σ2 H5 else Pv (i+1) zs σ2 H4)
  (hd:∀ zs σ H,Pv xs.length zs σ H -> ∀ l,H l=none->Q (.ref l) (QP H l (.lst zs))) :
  wN (TU c K a) σ H g tt te Q:=by
 refine ⟨fun i m zs σ H=>m=xs.length - i /\ i<=xs.length /\ Pv i zs σ H,⟨xs.length,by simp,Nat.zero_le _,h0⟩,?_⟩
 rintro i m zs σ H ⟨rfl,hi,p⟩
 have q:=hl i zs σ H p
 by_cases hlt:i < xs.length
 ·refine .inr ⟨⟨xs,xs[i],q,by simp [hlt]⟩,Pv (i+1),fun ws σ' H' p'=>⟨xs.length - (i+1),by omega,rfl,hlt,p'⟩,fun x H' y=>?_⟩
  obtain ⟨T,v,hT,rfl,rfl,y1⟩:=y
  exact hs i v zs σ H T (y1 xs q) p hT
 ·have e:i=xs.length:=by omega
  subst e
  exact .inl ⟨⟨xs,q,Nat.le_refl _⟩,hd zs σ H p⟩
end
section
variable {X:Cx}
theorem UH:Q8 X (compareOp .Is) (fun x y H Q=>∃ k j:Bool,x = .bl k /\ y = .bl j /\ Q (.bl (k == j)) H):=by
 intro pins s σ H x y v u Q I rx ry h
 obtain ⟨k,j,rfl,rfl,q⟩:=h
 cases (show v=Value.bool k from rx)
 cases (show u=Value.bool j from ry)
 refine wpAny_is_plain (by cases k <;> cases j <;> rfl) (zS I q ?_)
 cases k <;> cases j <;> rfl
theorem Xq:Q8 X (compareOp .IsNot) (fun x y H Q=>∃ k j:Bool,x = .bl k /\ y = .bl j /\ Q (.bl (!(k == j))) H):=by
 intro pins s σ H x y v u Q I rx ry h
 obtain ⟨k,j,rfl,rfl,q⟩:=h
 cases (show v=Value.bool k from rx)
 cases (show u=Value.bool j from ry)
 refine wpAny_isNot_plain (by cases k <;> cases j <;> rfl) (zS I q ?_)
 cases k <;> cases j <;> rfl
variable {K:QM}
theorem Xr {es:List Expr} {k:Nat} {pos:Pos} {t:Q2} (n:Nat) (h0:X.K=K) (hc:X.calm=true) (h:Q3 X es t)
  (hn:(assignEach es X.env).length=n) (hst:(assignEach es X.env).findIdx? (·.1)=none):PG X (.Tuple es k pos) (R4 K n t):=by subst h0; exact yH hc h hn hst
end
theorem wM:∀ {ns:List Int} {us:List Value},IntsAre us ns->zP (ns.map V.int) us:=by
 intro ns us h
 induction h with
 | nil=>exact .nil
 | cons n t _ ih=>exact .cons ⟨t,rfl⟩ ih
section
variable {X:Cx} {K:QM}
theorem v3 {α β:Type} {f g:α -> Option β}:∀ {l:List α},(∀ x ∈ l,f x=g x)->l.filterMap f=l.filterMap g
 | [],_=>rfl
 | x :: xs,h=>by rw [List.filterMap_cons,List.filterMap_cons,h x (by simp),v3 fun y hy=>h y (List.mem_cons_of_mem _ hy)]
theorem sw (its:List Value):slicePick its.toArray none none (some (-1))=its.reverse.toArray:=by
 have key:∀ l:List Value,((List.range l.length).map fun k:Nat=>((l.length:Int) - 1 + -1 * (k:Int)).toNat).filterMap (l.toArray[·]?)=l.reverse:=by
  intro l
  refine List.ext_getElem? fun i=>?_
  have e:((List.range l.length).map fun k:Nat=>((l.length:Int) - 1 + -1 * (k:Int)).toNat).filterMap (l.toArray[·]?)=(List.range l.length).filterMap fun k=>l[l.length - 1 - k]?:=by
   rw [List.filterMap_map]
   refine v3 fun k hk=>?_
   have:=List.mem_range.mp hk
   show l.toArray[((l.length:Int) - 1 + -1 * (k:Int)).toNat]? = _
   rw [show ((l.length:Int) - 1 + -1 * (k:Int)).toNat=l.length - 1 - k by omega]; simp
  have e2:(List.range l.length).filterMap (fun k=>l[l.length - 1 - k]?)=(List.range l.length).map fun k=>l.getD (l.length - 1 - k) .none:=by
   rw [← List.filterMap_eq_map]
   refine v3 fun k hk=>?_
   have:=List.mem_range.mp hk
   rw [List.getElem?_eq_getElem (by omega)]
   show _=some (l.getD (l.length - 1 - k) .none)
   rw [List.getD_eq_getElem?_getD,List.getElem?_eq_getElem (by omega)]; rfl
  rw [e,e2,List.getElem?_map]
  by_cases hi:i < l.length
  ·rw [List.getElem?_range hi,List.getElem?_reverse hi,List.getElem?_eq_getElem (by omega)]
   show some (l.getD (l.length - 1 - i) .none)=_
   rw [List.getD_eq_getElem?_getD,List.getElem?_eq_getElem (by omega)]; rfl
  ·rw [List.getElem?_eq_none (by rw [List.length_range]; omega),List.getElem?_eq_none (by rw [List.length_reverse]; omega)]; rfl
 unfold slicePick
 have b1:(sliceBounds none none (some (-1)) its.toArray.size).1=(its.length:Int) - 1:=by simp [sliceBounds]
 have b2:(sliceBounds none none (some (-1)) its.toArray.size).2.1 = -1:=by simp [sliceBounds]
 have b3:(sliceBounds none none (some (-1)) its.toArray.size).2.2 = -1:=rfl
 rw [b1,b2,b3]
 have c:sliceRange ((its.length:Int) - 1) (-1) (-1)=(List.range its.length).map fun k:Nat=>((its.length:Int) - 1 + -1 * (k:Int)).toNat:=by
  unfold sliceRange
  by_cases h:its.length=0
  ·rw [h]; rfl
  ·rw [if_neg (by decide),if_pos (by omega)]
   have:(((its.length:Int) - 1 - -1 - -1 - 1) / (- -1)).toNat=its.length:=by
    rw [show ((its.length:Int) - 1 - -1 - -1 - 1)=its.length by omega,show (- -1:Int)=1 from rfl,Int.ediv_one]; omega
   dsimp only
   rw [this]
 rw [c,key]
theorem Xs:∀ {xs:List V} {us:List Value},zP xs us->zP xs.reverse us.reverse
 | _,_,.nil=>.nil
 | _,_,.cons r t=>by
  rw [List.reverse_cons,List.reverse_cons]
  exact (Xs t).append (.cons r .nil)
end
theorem ur {xs:List V} {c:Nat}:vm xs none (some (c:Int))=xs.take c:=by
 unfold vm
 rw [HT.sIx_none,HT.sIx_nat,List.drop_zero,Nat.sub_zero]
 by_cases h:c<=xs.length
 ·rw [Nat.min_eq_left h]
 ·rw [Nat.min_eq_right (by omega),List.take_of_length_le (by omega),List.take_of_length_le (by omega)]
theorem vt {xs:List V} {c:Nat}:vm xs (some (c:Int)) none=xs.drop c:=by
 unfold vm
 rw [HT.sIx_none,HT.sIx_nat]
 by_cases h:c<=xs.length
 ·rw [Nat.min_eq_left h,List.take_of_length_le (by rw [List.length_drop]; exact Nat.le_refl _)]
 ·rw [Nat.min_eq_right (by omega),List.drop_eq_nil_of_le (by omega),List.drop_eq_nil_of_le (by omega)]; simp
mutual
inductive Dq (K:QM) (H:Hp):V->PyData->Prop
 | non:Dq K H .non .none
 | bl (b:Bool):Dq K H (.bl b) (.bool b)
 | int (i:Int):Dq K H (.int i) (.int i)
 | str (x:Str):Dq K H (.str x) (.str x)
 | tup {a:Addr} {xs:List V} {ds:List PyData}:Q1 K H a xs->DqAll K H xs ds->Dq K H (.ref a) (.tuple ds)
 | lst {a:Addr} {xs:List V} {ds:List PyData}:Q0 K H a xs->DqAll K H xs ds->Dq K H (.ref a) (.list ds)
inductive DqAll (K:QM) (H:Hp):List V->List PyData->Prop
 | nil:DqAll K H [] []
 | cons {x:V} {xs:List V} {d:PyData} {ds:List PyData}:Dq K H x d->DqAll K H xs ds->DqAll K H (x :: xs) (d :: ds)
end
theorem DqAll.len {K:QM} {H:Hp}:∀ {xs:List V} {ds:List PyData},DqAll K H xs ds->xs.length=ds.length
 | _,_,.nil=>rfl
 | _,_,.cons _ t=>congrArg (· + 1) (DqAll.len t)
theorem wU (n:Nat):(List.range n).all (fun _=>true)=true:=List.all_eq_true.mpr fun _ _=>rfl
section
variable {X:Cx} {pins:List (Addr × Obj)} {σ:L2.St} {H:Hp} {s:Shared}
mutual
theorem dq_eq (I:Inv X pins σ H s):∀ {d:PyData} {x y:V} {u v:Value} {A:Around},Dq X.K H x d->Dq X.K H y d->zU x u->zU y v->A.units+d.depth < cLine->SeqAt.EqAt A s u v true
 | _,_,y,u,v,A,.non,hy,ru,rv,_=>by
  cases hy
  cases (show u=Value.none from ru)
  cases (show v=Value.none from rv)
  exact SeqAt.EqAt.same _
 | _,_,y,u,v,A,.bl b,hy,ru,rv,_=>by
  cases hy
  cases (show u=Value.bool b from ru)
  cases (show v=Value.bool b from rv)
  exact SeqAt.EqAt.same _
 | _,_,y,u,v,A,.int i,hy,ru,rv,_=>by
  cases hy
  obtain ⟨t,rfl⟩:=ru
  obtain ⟨t',rfl⟩:=rv
  have z:=SeqAt.EqAt.int_int (A:=A) (s:=s) i t i t'
  rw [beq_self_eq_true] at z
  exact z
 | _,_,y,u,v,A,.str x,hy,ru,rv,_=>by
  cases hy
  obtain ⟨t,rfl⟩:=ru
  obtain ⟨t',rfl⟩:=rv
  have z:=SeqAt.EqAt.str_str (A:=A) (s:=s) x t x t'
  rw [beq_self_eq_true] at z
  exact z
 | _,_,y,u,v,A,.tup (a:=a) (xs:=xs) (ds:=ds) hs ha,hy,ru,rv,hu=>by
  cases hy with
  | tup hs' ha' =>
   rename_i a' xs'
   cases (show u=Value.ref a from ru)
   cases (show v=Value.ref a' from rv)
   obtain ⟨us,r1,t1,_⟩:=I.tuple hs
   obtain ⟨ws,r2,t2,_⟩:=I.tuple hs'
   have hd:A.units+(PyData.depthAll ds+1) < cLine:=hu
   by_cases e:a=a'
   ·subst e; exact SeqAt.EqAt.same _
   ·have l1:=ha.len
    have l2:=ha'.len
    have q:=SeqAt.RcAt.tuples (e:=fun _=>true) (ym t1) (ym t2) (by omega) (dqs_eq I ha ha' r1 r2 (A:=A.in1) (by show A.units+1+PyData.depthAll ds < cLine; omega))
    rw [wU,Bool.true_and,List.size_toArray,List.size_toArray,← r1.length,← r2.length,l1,l2,beq_self_eq_true] at q
    exact SeqAt.EqAt.of_refs e q
 | _,_,y,u,v,A,.lst (a:=a) (xs:=xs) (ds:=ds) hs ha,hy,ru,rv,hu=>by
  cases hy with
  | lst hs' ha' =>
   rename_i a' xs'
   cases (show u=Value.ref a from ru)
   cases (show v=Value.ref a' from rv)
   obtain ⟨us,r1,t1,_⟩:=I.list hs
   obtain ⟨ws,r2,t2,_⟩:=I.list hs'
   have hd:A.units+(PyData.depthAll ds+1) < cLine:=hu
   by_cases e:a=a'
   ·subst e; exact SeqAt.EqAt.same _
   ·have l1:=ha.len
    have l2:=ha'.len
    have q:=SeqAt.RcAt.lists (e:=fun _=>true) t1.isList t2.isList (by rw [List.size_toArray,List.size_toArray,← r1.length,← r2.length,l1,l2]) (by omega) (dqs_eq I ha ha' r1 r2 (A:=A.in1) (by show A.units+1+PyData.depthAll ds < cLine; omega))
    rw [wU] at q
    exact SeqAt.EqAt.of_refs e q
theorem dqs_eq (I:Inv X pins σ H s):∀ {ds:List PyData} {xs ys:List V} {us vs:List Value} {A:Around},DqAll X.K H xs ds->DqAll X.K H ys ds->zP xs us->zP ys vs->A.units+PyData.depthAll ds < cLine →
  ∀ j (h1:j < us.toArray.size) (h2:j < vs.toArray.size),SeqAt.EqAt A s us.toArray[j] vs.toArray[j] true
 | _,_,_,_,_,A,.nil,hy,ru,rv,_=>fun j h1 _=>by
  cases ru
  exact absurd h1 (Nat.not_lt_zero j)
 | _,_,_,_,_,A,.cons (d:=d) (ds:=ds) hx tx,hy,ru,rv,hd=>fun j h1 h2=>by
  cases hy with
  | cons hy ty =>
   cases ru with
   | cons r1 rr1 =>
    cases rv with
    | cons r2 rr2 =>
     have hd':A.units+max d.depth (PyData.depthAll ds) < cLine:=hd
     cases j with
     | zero=>simpa using dq_eq I hx hy r1 r2 (A:=A) (by omega)
     | succ j =>
      have z:=dqs_eq I tx ty rr1 rr2 (A:=A) (by omega) j (by simpa using h1) (by simpa using h2)
      simpa using z
end
variable {K:QM}
def Sr (K:QM) (neg:Bool):R2:=fun x y H Q=>∃ d,Dq K H x d /\ Dq K H y d /\ (∃ a,x = .ref a) /\ d.depth<=100 /\ Q (.bl neg) H
theorem Ss {k:Nat} (hK:X.K=K) (hr:Room k X.A):Q8 X (compareOp .NotEq) (Sr K false):=by
 subst hK
 intro pins s σ H x y u v Q I rx ry h
 obtain ⟨d,hx,hy,⟨a0,e0⟩,hd,q⟩:=h
 have hu:=hr.un
 cases hx with
 | non=>cases e0
 | bl b=>cases e0
 | int i=>cases e0
 | str x=>cases e0
 | tup hs ha =>
  cases hy with
  | tup hs' ha' =>
   rename_i a xs ds a' xs'
   cases (show u=Value.ref a from rx)
   cases (show v=Value.ref a' from ry)
   obtain ⟨us,r1,t1,_⟩:=I.tuple hs
   obtain ⟨ws,r2,t2,_⟩:=I.tuple hs'
   have hd':PyData.depthAll ds+1<=100:=hd
   refine SeqAt.RcNeAt.tuples (e:=fun _=>true) (ym t1) (ym t2) hr.units0 (dqs_eq I ha ha' r1 r2 (A:=X.A.in1) (by show X.A.units+1+PyData.depthAll ds < cLine; omega)) _ _ _ _ ?_
   rw [wU,Bool.true_and,List.size_toArray,List.size_toArray,← r1.length,← r2.length,ha.len,ha'.len,beq_self_eq_true]
   exact ⟨.bl false,H,I,rfl,q⟩
 | lst hs ha =>
  cases hy with
  | lst hs' ha' =>
   rename_i a xs ds a' xs'
   cases (show u=Value.ref a from rx)
   cases (show v=Value.ref a' from ry)
   obtain ⟨us,r1,t1,_⟩:=I.list hs
   obtain ⟨ws,r2,t2,_⟩:=I.list hs'
   have hd':PyData.depthAll ds+1<=100:=hd
   refine SeqAt.RcNeAt.lists (e:=fun _=>true) t1.isList t2.isList (by rw [List.size_toArray,List.size_toArray,← r1.length,← r2.length,ha.len,ha'.len]) hr.units0 (dqs_eq I ha ha' r1 r2 (A:=X.A.in1) (by show X.A.units+1+PyData.depthAll ds < cLine; omega)) _ _ _ _ ?_
   rw [wU]
   exact ⟨.bl false,H,I,rfl,q⟩
end
section
variable {X:Cx} {a:Expr} {ta:TA} {p p2 pos pos2:Pos}
def RK (ta:TA):TE:=fun σ H Q=>ta σ H fun vs H1=>∃ n:Nat,vs=[.int n] /\ n<=1000 /\ ∀ l,H1 l=none->Q (.ref l) (QP H1 l (.lst ((List.range n).map fun i:Nat=>V.int i)))
theorem x4 (hc:X.calm=true) (hgl:Gl X "list") (hml:X.mg "list" = none) (hgr:Gl X "range") (hmr:X.mg "range" = none) (ha:PA X [a] ta)
  (hs:starEach [a] X.env=[(false,eval a X.env)]:=by rfl) (hs2:starEach [(.Call (.Name "range" p2) [a] [] pos2:Expr)] X.env=[(false,eval (.Call (.Name "range" p2) [a] [] pos2) X.env)]:=by rfl) :
  PE X (.Call (.Name "list" p) [.Call (.Name "range" p2) [a] [] pos2] [] pos) (RK ta):=by
 intro pins s σ H Q I h
 refine wpAny_Call_Name_kw (wv I hgl hml tq (PyProof.Rows.callWith_type1 ?_ hs2 rfl))
 rw [hs2]
 show wpAny _ _ (spliced [(false,eval (.Call (.Name "range" p2) [a] [] pos2) X.env)]) _ _ s
 refine Calls.spliced_cons ?_
 refine Call_ (wv I hgr hmr boot_range (PyProof.Rows.callWith_type1 (QX (ha pos2 pins s σ H _ I h) fun us s1 ⟨vs,H1,I1,r1,q1⟩=>?_) hs rfl))
 obtain ⟨n,e,hn,q⟩:=q1
 subst e
 obtain ⟨u,rfl,e1⟩:=xz r1
 obtain ⟨t,rfl⟩:=e1
 refine call_range_1 (Calls.spliced_nil ?_)
 have I2:Inv X pins σ H1 { s1 with heap:=s1.heap.push { cls:=.type "range",data:=.fields #[.int 0 s1.toks,.int n t,.int 1 (s1.toks+1)] },toks:=s1.toks+1+1 }:=I1.kept fun b o e=>Heap.get?_push_of_some _ e
 refine call_list_range (n:=n) (I.ok.hd hc) (IsRange.new ..) (small_one (by omega) (by omega) (by omega) (by omega)) (by rw [rangeSize_one]; split <;> omega) (by omega) fun h' tk acc c' hk hS hacc=>?_
 have hvr:zP ((List.range n).map fun i:Nat=>V.int i) acc.toList:=by
  have hlen:acc.toList.length=n:=by rw [Array.length_toList]; exact hacc.1
  have key:∀ (m:Nat) (l:List Value) (j:Nat),l.length=m->(∀ i v,l[i]? = some v -> ∃ t,v=Value.int ((j+i:Nat):Int) t)->zP ((List.range' j m).map fun i:Nat=>V.int i) l:=by
   intro m
   induction m with
   | zero =>
    intro l j hl _
    rw [List.length_eq_zero_iff.mp hl]
    exact .nil
   | succ m ih =>
    intro l j hl hv
    match l,hl,hv with
    | x :: l,hl,hv =>
     refine .cons ?_ (ih l (j+1) (by simpa using hl) fun i v h=>?_)
     ·obtain ⟨t,e⟩:=hv 0 x rfl
      exact ⟨t,e⟩
     ·obtain ⟨t,e⟩:=hv (i+1) v (by simpa using h)
      exact ⟨t,by rw [e,show j+(i+1)=j+1+i by omega]⟩
  rw [List.range_eq_range']
  refine key n acc.toList 0 hlen fun i v h=>?_
  obtain ⟨t,e⟩:=hacc.2 i v (by rw [← h]; exact (Array.getElem?_toList).symm)
  exact ⟨t,by rw [e]; congr 1; omega⟩
 refine ⟨.ref (s1.heap.push { cls:=.type "range",data:=.fields #[.int 0 s1.toks,.int n t,.int 1 (s1.toks+1)] }).objs.size,_,I2.laid (t':=tk) hk (Nat.le_refl _) (show zT X.prog X.w _ h' _ (.lst ((List.range n).map fun i:Nat=>V.int i)) from ⟨by rw [List.length_map,List.length_range]; exact Nat.le_of_lt (xX hn),acc.toList,c',hvr,by simpa using hS⟩),rfl,q _ (I2.hok.fresh (Nat.le_refl _))⟩
end
def zy (gs:List Nat):List V:=gs.map fun g:Nat=>V.int g
theorem yP.of_get {α:Type} {R:V -> α -> Prop}:∀ {xs:List V} {ks:List α},xs.length=ks.length->(∀ (i:Nat) (x:V),xs[i]? = some x -> ∃ k,ks[i]? = some k /\ R x k)->yP R xs ks
 | [],[],_,_=>trivial
 | x :: xs,k :: ks,hl,h=>by
  refine ⟨?_,yP.of_get (by simpa using hl) fun i y hy=>by simpa using h (i+1) y (by simpa using hy)⟩
  obtain ⟨k',e,r⟩:=h 0 x rfl
  cases e
  exact r
 | [],_ :: _,hl,_=>by simp at hl
 | _ :: _,[],hl,_=>by simp at hl
section
variable {prog:Program} {w:World} {A:Around} {E:QN} {s:Shared}
theorem Vy {l:Addr} {us:List Value} {Q:List Value->Shared->Prop} (tu:s.heap.IsTuple l us.toArray) (hu:us.length<=sizeLine)
  (q:Q us { s with heap:=(s.heap.push (seqObj "list" #[] 0)).update s.heap.objs.size (Obj.mapSeq (· ++ us.toArray)) }):wpAny (model prog w) A (collect (.ref l)) Q E s:=by
 obtain ⟨ob,eo,ec,m,ed⟩:=id tu
 have eo2:(s.heap.push (seqObj "list" #[] 0)).get? l=some ob:=Heap.get?_push_of_some _ eo
 unfold collect
 refine wpAny_bind (wpAny_runValue (codeAny_builtin entry_proto_collect' (show wpAny _ _ (do again (.builtin "list.__iadd__" ⟨[← newList [],.ref l],[]⟩)) _ _ s from ?_)))
 refine wpAny_bind (wpAny_newList (wpAny_pure ⟨Code.quiet_builtin _ (by decide +kernel),codeAny_builtin entry_list_iadd' (show wpAny _ _ (Builtin.List.listExtendWith (.ref s.heap.objs.size) (.ref l) (.ref s.heap.objs.size)) _ _ { s with heap:=s.heap.push (seqObj "list" #[] 0) } from ?_)⟩))
 unfold Builtin.List.listExtendWith
 refine wpAny_bind (wpAny_typeOf (T:="tuple") ⟨ob,eo2,ec⟩ ?_)
 have k1:(Value.type "tuple" == Value.type "tuple")=true:=rfl
 rw [if_pos (by simp [k1])]
 refine wpAny_bind (listItems_at eo2 ed (wpAny_bind (listItems_at (xs:=#[]) (n:=0) (Heap.get?_push_size _ rfl) rfl ?_)))
 rw [if_neg (by simp)]
 refine wpAny_bind (listUpdate_at (xs:=#[]) (n:=0) (Heap.get?_push_size _ rfl) rfl (wpAny_pure ?_) (Nat.zero_le _) (by show (#[] ++ us.toArray).size<=sizeLine+1; simp only [Array.size_append,List.size_toArray,List.length_nil]; omega))
 refine wpAny_bind (wpAny_load (get?_update_seq (Heap.get?_push_size _ rfl) _) ?_)
 show wpAny _ _ (pure ((#[]:Array Value) ++ us.toArray).toList) Q E _
 rw [show ((#[]:Array Value) ++ us.toArray).toList=us by simp]
 exact wpAny_pure q
theorem Z7 {l:Addr} {us:List Value} {ns:List Int} {Q:QN} (tu:s.heap.IsTuple l us.toArray) (iu:IntsAre us ns) (u64:us.length < 64)
  (q:∀ (out:Array Value) (ms:List Int),IntsAre out.toList ms->ms.Perm ns->ms.Pairwise (· <= ·)->Q (.ref (s.heap.objs.size+1)) { s with heap:=sortedAll s.heap us out }) :
  wpAny (model prog w) A (call (.builtin "sorted") [.ref l]) Q E s:=by
 refine Calls.call_function_entry kind_sorted plain_sorted entry_sorted (args_sorted1 _) ?_
 unfold Builtin.«sorted»
 refine wpAny_bind (m:=checkCount "sorted" 1 1 _) (wpAny_pure (wpAny_bind (Vy tu (by rw [sizeLine_eq]; omega) (wpAny_bind (wpAny_newList ?_)))))
 have e1:((s.heap.push (seqObj "list" #[] 0)).update s.heap.objs.size (Obj.mapSeq (· ++ us.toArray))).objs.size=s.heap.objs.size+1:=by rw [Heap.size_update,size_push']
 have e2:(((s.heap.push (seqObj "list" #[] 0)).update s.heap.objs.size (Obj.mapSeq (· ++ us.toArray))).push (seqObj "list" us.toArray 0)).get? (s.heap.objs.size+1)=some (seqObj "list" us.toArray 0):=by
  rw [← e1]; exact Heap.get?_push_size _ rfl
 show wpAny _ _ _ _ _ { s with heap:=((s.heap.push (seqObj "list" #[] 0)).update s.heap.objs.size (Obj.mapSeq (· ++ us.toArray))).push (seqObj "list" us.toArray 0) }
 rw [e1]
 refine wpAny_bind (wpAny_holding (wpAny_call_entry slot_list_sort ⟨_,e2,rfl⟩ entry_list_sort (list_sort_tree e2 iu u64 fun out ms b1 b2 b3=>⟨_,rfl,wpAny_pure ⟨_,rfl,q out ms b1 b2 b3⟩⟩) (args_list_sort _)))
end
section
variable {X:Cx} {K:QM}
theorem vM (hK:X.K=K):y7 X (.builtin "sorted") (fun xs H Q=>∃ (l:Addr) (ns:List Int),xs=[.ref l] /\ Q1 K H l (ns.map V.int) /\ ns.length < 64 /\ ∀ (p:Addr) (ms:List Int),H p=none->ms.Perm ns->ms.Pairwise (· <= ·)->Q (.ref p) (QP H p (.lst (ms.map V.int)))):=by
 subst hK
 intro pins s σ H xs us Q I r h
 obtain ⟨l,ns,rfl,hl,h64,q⟩:=h
 obtain ⟨u,rfl,rx⟩:=xz r
 cases (show u=Value.ref l from rx)
 obtain ⟨vs,rv,pl,hz⟩:=I.tuple hl
 have hlen:=rv.length
 rw [List.length_map] at hlen hz
 refine Z7 pl (ZS rv) (by omega) fun out ms i1 i2 i3=>?_
 obtain ⟨e,he⟩:=sortedAll_at s.heap vs out
 have hn:H (s.heap.objs.size+1)=none:=I.hok.fresh (Nat.le_succ _)
 have rl:=wM i1
 refine ⟨.ref (s.heap.objs.size+1),_,?_,rfl,q _ ms hn i2 i3⟩
 refine I.laid (t':=s.toks) (fun b o q=>sortedAll_old q) (Nat.le_succ _) (show zT X.prog X.w _ _ _ (.lst (ms.map V.int)) from ⟨by rw [List.length_map,i2.length_eq]; exact hz,out.toList,e,rl,he⟩)
end
section
variable {prog:Program} {w:World} {A:Around} {E:QN} {s:Shared}
theorem Vz (its:List Value):((List.range its.length).filterMap fun (k:Nat)=>its.toArray[((its.length:Int) - 1+(k:Int) * (-1)).toNat]?).toArray=its.reverse.toArray:=by
 have e:=sw its
 unfold slicePick at e
 have b1:(sliceBounds none none (some (-1)) its.toArray.size).1=(its.length:Int) - 1:=by simp [sliceBounds]
 have b2:(sliceBounds none none (some (-1)) its.toArray.size).2.1 = -1:=by simp [sliceBounds]
 have b3:(sliceBounds none none (some (-1)) its.toArray.size).2.2 = -1:=rfl
 rw [b1,b2,b3] at e
 have c:sliceRange ((its.length:Int) - 1) (-1) (-1)=(List.range its.length).map fun k:Nat=>((its.length:Int) - 1 + -1 * (k:Int)).toNat:=by
  unfold sliceRange
  by_cases h:its.length=0
  ·rw [h]; rfl
  ·rw [if_neg (by decide),if_pos (by omega)]
   have:(((its.length:Int) - 1 - -1 - -1 - 1) / (- -1)).toNat=its.length:=by
    rw [show ((its.length:Int) - 1 - -1 - -1 - 1)=its.length by omega,show (- -1:Int)=1 from rfl,Int.ediv_one]; omega
   dsimp only
   rw [this]
 rw [c,List.filterMap_map] at e
 rw [← e]
 congr 1
 refine v3 fun k _=>?_
 show its.toArray[((its.length:Int) - 1+(k:Int) * (-1)).toNat]? = its.toArray[((its.length:Int) - 1 + -1 * (k:Int)).toNat]?
 rw [Int.mul_comm]
theorem je {sl:Addr} {vs:Value} {n:Nat} {Q:Int × Int × Nat->Shared->Prop} (hs:s.heap.IsSliceOf sl .none .none vs) (ps:IsPart vs (some (-1))) (q:Q ((n:Int) - 1,-1,n) s) :
  wpAny (model prog w) A (Builtin.Slice.sliceApplied (.ref sl) (pure (n:Int))) Q E s:=by
 obtain ⟨ob,e1,e2,e3⟩:=id hs
 unfold Builtin.Slice.sliceApplied Builtin.Slice.sliceFields
 refine wpAny_bind (wpAny_bind (wpAny_field e1 e3 (x:=.none) rfl (wpAny_bind (wpAny_field e1 e3 (x:=.none) rfl (wpAny_bind (wpAny_field e1 e3 (x:=vs) rfl (wpAny_pure (wpAny_bind (HT.slicePart_ ps ?_)))))))))
 show wpAny _ _ (if ((-1:Int) == 0)=true then _ else _) _ _ s
 rw [if_neg (by decide)]
 refine wpAny_bind (HT.slicePart_ .none (wpAny_bind (HT.slicePart_ .none (wpAny_bind (wpAny_pure ?_)))))
 have e4:Builtin.Slice.slicePlaces ((n:Int) - 1) (-1) (-1)=n:=by
  unfold Builtin.Slice.slicePlaces
  simp only [show ¬ ((-1:Int) > 0) by decide,if_false,show (- -1:Int)=1 from rfl,Int.ediv_one]
  split <;> omega
 show wpAny _ _ (pure ((n:Int) - 1,(-1:Int),Builtin.Slice.slicePlaces ((n:Int) - 1) (-1) (-1))) _ _ s
 rw [e4]
 exact wpAny_pure q
theorem VA {t sl:Addr} {its:List Value} {vs:Value} {Q:QN} (ht:s.heap.IsTuple t its.toArray) (hs:s.heap.IsSliceOf sl .none .none vs) (ps:IsPart vs (some (-1)))
  (q:Q (.ref s.heap.objs.size) { s with heap:=s.heap.push { cls:=.type "tuple",data:=.seq its.reverse.toArray } }) (hz:its.length<=sizeLine):wpAny (model prog w) A (getItem (.ref t) (.ref sl)) Q E s:=by
 obtain ⟨ob,e1,e2,e3⟩:=id hs
 have ty:s.TypeIs (.ref sl) "slice":=⟨ob,e1,e2⟩
 have hk:sizeOk (.seq its.reverse.toArray):=by
  show its.reverse.toArray.size<=sizeLine
  rw [List.size_toArray,List.length_reverse]; exact hz
 unfold getItem
 try with_reducible refine wpAny_holding ?_
 first | refine wpAny_bind (wpAny_pure ?_) | skip
 refine wpAny_bind (wpAny_sequenceKey ht.typeIs (by decide) (wpAny_bind (wpAny_callSpecial?_slot (name:=Str.ofString "__getitem__") ht.typeIs slot_tuple_getitem (wpAny_call_entry slot_tuple_getitem ht.typeIs entry_tuple_getitem ?_ (args_tuple_getitem _ _)))))
 show wpAny _ _ (Builtin.Tuple.tupleItemsOf (.ref t) >>= _) _ _ s
 refine wpAny_bind (tupleItemsOf_ ht (wpAny_bind (wpAny_typeOf ty ?_)))
 rw [if_pos (by decide)]
 refine wpAny_bind (je hs ps ?_)
 show wpAny _ _ (if (((its.toArray.size:Nat):Int) - 1 == 0 && (-1:Int) == 1 && its.toArray.size == its.toArray.size)=true then _ else _) _ _ s
 rw [if_neg (by rw [show ((-1:Int) == 1)=false from rfl,Bool.and_false,Bool.false_and]; exact Bool.false_ne_true)]
 have e:=Vz its
 rw [List.size_toArray,e]
 first
  | exact wpAny_bind (m:=Builtin.Tuple.tupleExact _) (wpAny_newObj_type (wpAny_pure ⟨_,rfl,wpAny_pure q⟩) hk)
  | exact wpAny_bind (m:=Builtin.Tuple.tupleExact _) (wpAny_newObj_type (wpAny_bind (wpAny_pure (wpAny_pure ⟨_,rfl,wpAny_pure q⟩))) hk)
  | exact wpAny_bind (wpAny_bind (m:=Builtin.Tuple.tupleExact _) (wpAny_newObj_type (wpAny_pure (wpAny_pure ⟨_,rfl,wpAny_pure q⟩)) hk))
  | exact wpAny_bind (wpAny_bind (m:=Builtin.Tuple.tupleExact _) (wpAny_newObj_type (wpAny_pure ⟨_,rfl,wpAny_pure q⟩) hk))
end
section
variable {X:Cx} {K:QM}
def RL (K:QM) (te:TE):TE:=fun σ H Q=>te σ H fun x H1=>∃ a xs,x = .ref a /\ Q1 K H1 a xs /\ ∀ p,H1 p=none->Q (.ref p) (QP H1 p (.tup xs.reverse))
theorem Xt {e:Expr} {te:TE} {j:Nat} {pc pu p2 pos:Pos} (hK:X.K=K) (he:PE X e te):PE X (.Subscript e (.Slice none none (some (.UnaryOp .USub (.Constant (.int 1) j pc) pu)) p2) pos) (RL K te):=by
 subst hK
 intro pins s σ H Q I h
 refine Subscript_ (QX (he pins s σ H _ I h) fun v s1 ⟨x,H1,I1,r1,q1⟩=>?_)
 obtain ⟨a,xs,rfl,hx,q⟩:=q1
 cases (show v=Value.ref a from r1)
 refine wpAny_Slice (QX (zV pins s1 σ H1 (fun o H2=>o=none /\ H2=H1) I1 ⟨rfl,rfl⟩) fun vl s2 ⟨l,H2,I2,pl,q2a,q2⟩=>QX (zV pins s2 σ H2 (fun o H3=>o=none /\ H3=H1) I2 ⟨rfl,q2⟩) fun vu s3 ⟨u,H3,I3,pu',q3a,q3⟩=>?_)
 subst q2a q3a
 cases pl
 cases pu'
 subst q3
 refine QX (zO (Rv T7 zh) pins s3 σ H3 (fun o H4=>o=some (-1) /\ H4=H3) I3 ⟨_,rfl,_,rfl,rfl,rfl⟩) fun vs s4 ⟨o,H4,I4,po,q4,q5⟩=>?_
 subst q4 q5
 have I5:Inv X pins σ H4 { s4 with heap:=s4.heap.push { cls:=.type "slice",data:=.fields #[.none,.none,vs] } }:=I4.kept (t':=s4.toks) fun b ob q=>Heap.get?_push_of_some _ q
 show wpAny (model X.prog X.w) X.A (subscriptTail e _ (.ref a) (.ref s4.heap.objs.size)) (EP X pins σ Q) X.xe { s4 with heap:=s4.heap.push { cls:=.type "slice",data:=.fields #[.none,.none,vs] } }
 obtain ⟨its,r,ht,hz⟩:=I5.tuple hx
 have hlen:=r.length
 refine tail_any (ops:=[.ref a,.ref s4.heap.objs.size]) ht.typeIs slot_tuple_getitem.lookup ?_ (by with_unfolding_all rfl)
 refine VA ht (Heap.IsSliceOf.new ..) po ?_ (by omega)
 refine ⟨.ref _,_,I5.laid (t':=s4.toks) (o:=.tup xs.reverse) (fun b ob q=>Heap.get?_push_of_some _ q) (Nat.le_refl _) ?_,rfl,q _ (I5.hok.fresh (Nat.le_refl _))⟩
 exact ⟨by rw [List.length_reverse]; exact hz,_,Xs r,IsTup.new _ _⟩
end
theorem Xu {a b:Nat}:Builtin.bitAnd (a:Int) (b:Int)=((a &&& b:Nat):Int):=by
 unfold Builtin.bitAnd
 rw [decide_eq_true (Int.natCast_nonneg a),decide_eq_true (Int.natCast_nonneg b)]; rfl
theorem Su {a b:Nat}:Builtin.bitOr (a:Int) (b:Int)=((a ||| b:Nat):Int):=by
 have e:∀ x:Nat,decide (0<=Builtin.bitNot (x:Int))=false:=fun x=>decide_eq_false (by show ¬ 0 <= -(x:Int) - 1; omega)
 have n2:∀ x:Int,Builtin.bitNot (Builtin.bitNot x)=x:=fun x=>by show -(-x - 1) - 1=x; omega
 unfold Builtin.bitOr Builtin.bitAnd
 rw [e a,e b]
 show Builtin.bitNot (Builtin.bitNot (((Builtin.bitNot (Builtin.bitNot (a:Int))).toNat ||| (Builtin.bitNot (Builtin.bitNot (b:Int))).toNat:Nat):Int))=_
 rw [n2,n2,n2]; rfl
theorem VB {a k:Nat}:(a:Int) / 2 ^ ((k:Int)).toNat=((a / 2 ^ k:Nat):Int):=by
 rw [Int.toNat_natCast,Int.natCast_ediv,Int.natCast_pow]; rfl
section
variable {X:Cx}
theorem jf (ns:List Int):∀ n,n<=ns.length->preSum (fun i=>ns.getD i 0) n=(ns.take n).sum:=by
 intro n
 induction n with
 | zero=>intro _; rfl
 | succ n ih =>
  intro h
  show preSum (fun i=>ns.getD i 0) n+ns.getD n 0=_
  rw [ih (by omega),List.take_succ,List.sum_append,List.getD_eq_getElem?_getD,List.getElem?_eq_getElem (show n < ns.length by omega)]
  simp
theorem Xv (hcalm:X.calm=true):y7 X (.builtin "sum") (fun xs H Q=>∃ (l:Addr) (ns:List Int),xs=[.ref l] /\ Q0 X.K H l (ns.map V.int) /\ Q (.int ns.sum) H):=by
 intro pins s σ H xs us Q I r h
 obtain ⟨l,ns,rfl,hl,q⟩:=h
 obtain ⟨u,rfl,rx⟩:=xz r
 cases (show u=Value.ref l from rx)
 obtain ⟨vs,rv,pl,_⟩:=I.list hl
 have hl':s.heap.IsList l vs.toArray:=pl.isList
 have hlt:l < s.heap.objs.size:=by obtain ⟨_,e,_⟩:=hl'; exact Heap.lt_size e
 have hlen:ns.length=vs.length:=by rw [← rv.length,List.length_map]
 refine call_sum_walkG (wpAny_pyIter_list hl' ?_)
 refine ⟨s.heap.objs.size,[s.heap.objs.size,l],[s.heap.objs.size],vs.toArray.size,_,_,fun i=>ns.getD i 0,rfl,Walks.list (A:=X.A.in1) (I.ok.hd hcalm) _ l (Nat.ne_of_lt hlt) vs.toArray,
  ⟨⟨_,Heap.get?_push_size _ rfl,rfl,rfl⟩,hl'.push _⟩,fun b hb=>?_,fun i v hP=>?_,fun h' tk t' hk=>?_⟩
 ·rcases List.mem_cons.mp hb with rfl | hb
  ·exact Heap.lt_size (Heap.get?_push_size _ rfl)
  ·rcases List.mem_cons.mp hb with rfl | hb
   ·exact Nat.lt_trans hlt (Heap.lt_size (Heap.get?_push_size _ rfl))
   ·cases hb
 ·have hv:vs[i]? = some v:=by simpa using hP
  have hi:i < ns.length:=by rw [hlen]; exact (List.getElem?_eq_some_iff.mp hv).1
  obtain ⟨u,eu,rxv⟩:=rv.get (show (ns.map V.int)[i]? = some (V.int ns[i]) by rw [List.getElem?_map,List.getElem?_eq_getElem hi]; rfl)
  rw [hv] at eu; cases eu
  obtain ⟨t,rfl⟩:=rxv
  exact ⟨t,by show _=Value.int (ns.getD i 0) t; rw [List.getD_eq_getElem?_getD,List.getElem?_eq_getElem hi]; rfl⟩
 ·have e:preSum (fun i=>ns.getD i 0) vs.toArray.size=ns.sum:=by
   rw [List.size_toArray,← hlen,jf ns _ (Nat.le_refl _),List.take_length]
  rw [e]
  exact ⟨.int ns.sum,H,I.kept (t':=tk) (h':=h') (LSm.kept_iter hk),⟨_,rfl⟩,q⟩
end
theorem Xw {ms ns:List Int} (h:ms.Perm ns) (s:ms.Pairwise (· <= ·)) (t:ns.Pairwise (· <= ·)):ms=ns:=h.eq_of_pairwise (le:=(· <= ·)) (fun _ _ _ _ a b=>Int.le_antisymm a b) s t
theorem zM {gs:List Nat}:(zy gs).length=gs.length:=by unfold zy; rw [List.length_map]
theorem wV {a b:List Nat}:zy (a ++ b)=zy a ++ zy b:=by unfold zy; exact List.map_append
theorem Grow.shrink2 {H H':Hp} {f l:Addr} (g:Grow [f,l] H H') (h:H l=none):Grow [f] H H' :=
 ⟨fun b o hb q=>g.keep b o (fun z=>by rcases List.mem_cons.mp z with z | z; exact hb (by simp [z]); rw [List.mem_singleton.mp z,h] at q; cases q) q,g.tup,g.frz⟩
theorem natsV_get? {gs:List Nat} {i g:Nat} (h:gs[i]? = some g):(zy gs)[i]? = some (.int g):=by unfold zy; rw [List.getElem?_map,h]; rfl
section
variable {X:Cx} {K:QM}
theorem Ze (hK:X.K=K):Jo X "list.index" (fun x vs H Q=>∃ (l:Addr) (ns:List Nat) (j:Nat),x = .ref l /\ vs=[.int j] /\ Q0 K H l (zy ns) /\ j ∈ ns /\ ns.length<=1000 /\ Q (.int (ns.idxOf j:Nat)) H):=by
 subst hK
 intro pins s σ H x vs v us Q I rx rv h
 obtain ⟨l,ns,j,rfl,rfl,hq,hj,hl,q⟩:=h
 cases rx
 obtain ⟨u,rfl,t,rfl⟩:=xz rv
 obtain ⟨its,r,⟨o,n,ho,hc,hdi,hd⟩,hz⟩:=I.list hq
 obtain ⟨oc,od,oda,osl⟩:=o
 cases hc
 cases hd
 have hlen:=r.length
 rw [zM] at hlen
 have hp:=List.idxOf_lt_length_of_mem hj
 have at_:∀ m,m < ns.length -> ∃ t,its[m]? = some (.int (ns.getD m 0:Nat) t):=fun m hm=>by
  have e1:(zy ns)[m]? = some (.int (ns.getD m 0:Nat)):=natsV_get? (by rw [List.getD_eq_getElem?_getD,List.getElem?_eq_getElem hm]; rfl)
  obtain ⟨u,hu,t,rfl⟩:=r.get e1
  exact ⟨t,hu⟩
 have hjj:∀ m (hm:m < its.toArray.size),∃ t,its.toArray[m] = .int (ns.getD m 0:Nat) t:=fun m hm=>by
  have hm':m < its.length:=by simpa using hm
  obtain ⟨t,e⟩:=at_ m (by omega)
  rw [List.getElem?_eq_getElem hm'] at e
  exact ⟨t,by simpa using Option.some.inj e⟩
 have key:∀ (x:Int),x=(j:Int) -> ∀ (p:Nat),p=ns.idxOf j->wpAny (model X.prog X.w) X.A (call (.builtin "list.index") (.ref l :: [.int x t])) (EP X pins σ Q) X.xe s:=by
  intro x hx p hpp
  have hp':p < its.toArray.size:=by simp; omega
  refine call_meets F.slot_list_index ⟨_,ho,rfl⟩ F.entry_list_index (F.args_list_index_2 _ _)
   (SeqAt.list_indexAt l its.toArray n od osl (.int x t) (fun v=>match v with | .int a _=>a == x | _=>false) p hp' (by have:=hp'; simp at this; omega) ?_ ?_) ⟨ho,?_,?_⟩
  ·obtain ⟨t',e⟩:=hjj p hp'
   rw [e]
   show ((ns.getD p 0:Nat):Int) == x
   have:ns.getD p 0=j:=by
    rw [hpp,List.getD_eq_getElem?_getD,List.getElem?_eq_getElem hp]
    exact List.getElem_idxOf hp
   rw [this,hx]; simp
  ·intro m hm hlt
   obtain ⟨t',e⟩:=hjj m hm
   rw [e]
   show (((ns.getD m 0:Nat):Int) == x)=false
   have hne:ns.getD m 0 ≠ j:=by
    have hm':m < ns.length:=by rw [hlen]; simpa using hm
    intro z
    have z':ns[m]=j:=by rw [← z,List.getD_eq_getElem?_getD,List.getElem?_eq_getElem hm']; rfl
    have:=List.not_of_lt_findIdx (p:=(· == j)) (xs:=ns) (i:=m) (by rw [hpp] at hlt; exact hlt)
    rw [z'] at this; simp at this
   rw [hx]
   exact beq_false_of_ne fun z=>hne (Int.ofNat.inj z)
  ·intro y hy
   obtain ⟨m,hm,rfl⟩:=List.getElem_of_mem (by simpa using hy:y ∈ its)
   obtain ⟨t',e⟩:=hjj m (by simpa using hm)
   have e':its[m] = .int (ns.getD m 0:Nat) t':=by simpa using e
   rw [e']
   exact SeqAt.EqAt.int_int _ _ _ _
  ·exact ⟨.int (ns.idxOf j:Nat),H,I.tok _,⟨_,by rw [hpp]⟩,q⟩
 exact key _ rfl _ rfl
end
theorem UI {X:Cx} {K:QM} {T:String} {name:Str} {id:String} {r:V->List V->Hp->VK->Prop} {o e:Expr} {es:List Expr} {to:TE} {t:TA} {apos cpos:Pos} (hK:X.K=K) (pa:PlainAttrs T) (slot:Slot T name id) (hty:typeOf (.builtin id)=pure (.type "method_descriptor")) (hm:Jo X id r) (ho:PE X o to) (ha:PA X (e :: es) t)
  (hbase:attributeBase o name X.env (eval o X.env)=eval o X.env:=by rfl)
  (hfew:((backTo cpos (starEach (e :: es) X.env)).all (fun x=>!x.1) && (backToKw cpos (keywordEach [] X.env)).all (fun x=>x.1.isSome)
   && decide ((e :: es).length+([]:List Keyword).length+(if ([]:List Keyword).isEmpty then 0 else 1) < 30))=true:=by rfl)
  (hline:(apos.endLine == cpos.line)=true:=by rfl) (hs:starEach (e :: es) X.env=(false,eval e X.env) :: starEach es X.env:=by rfl) (hplain:(backTo cpos (starEach es X.env)).any (·.1)=false:=by rfl) :
  PE X (.Call (.Attribute o name apos) (e :: es) [] cpos) (Jr K T r to t):=by
 subst hK
 exact Vm pa slot hty hm ho ha hbase hfew hline hs hplain
open PySem PySem.Spec PyProof.Rows L2 HT
section
variable {prog:Program} {w:World} {A:Around} {E:QN} {s:Shared}
theorem VC (l b:Addr) (us ws:Array Value) (n m:Nat) (d1 d2:Option Addr) (e1 e2:Array (Option Value)) (h0:us.isEmpty=true) :
  Meets (Builtin.«tuple.__add__» ⟨[.ref l,.ref b],[]⟩) (fun _ R s=>s.heap.get? l=some ⟨.type "tuple",d1,.seq us n,e1⟩ /\ s.heap.get? b=some ⟨.type "tuple",d2,.seq ws m,e2⟩ /\ R (.ok (.ret (.ref b))) s) :=
 .of_wp fun P w A R s h=>by
  obtain ⟨hh,gg,dd,tk,os⟩:=s
  obtain ⟨eL,eT,q⟩:=h
  have k1:=PySem.AutoSeq1.sub_tuple_tuple
  wp_walk using PySem.AutoSeq1.wpAny_loadPart' eL,PySem.AutoSeq1.wpAny_loadPart' eT
  exact ⟨_,rfl,q⟩
theorem VD {t b:Addr} {vs ws:List Value} {Q:QN} (ht:IsTup s.heap t vs.toArray) (hb:IsTup s.heap b ws.toArray) (hv:vs=[]) (h1:Q (.ref b) s):wpAny (model prog w) A (binaryOp .Add (.ref t) (.ref b)) Q E s:=by
 obtain ⟨⟨c1,d1,x1,l1⟩,ho,hc,n,hd⟩:=id ht
 obtain ⟨⟨c2,d2,x2,l2⟩,ho2,hc2,m,hd2⟩:=id hb
 cases hc
 cases hd
 cases hc2
 cases hd2
 exact concat_meets ⟨_,ho,rfl⟩ ⟨_,ho2,rfl⟩ noFill_tuple_add seq_tuple_add PySem.F.slot_tuple_add PySem.F.entry_tuple_add (PySem.F.args_tuple_add_2 _ _) (VC t b vs.toArray ws.toArray n m d1 d2 l1 l2 (by simp [hv])) ⟨ho,ho2,h1⟩
theorem sx {t sl:Addr} {us:Array Value} {vl vu:Value} {lo hi:Option Int} {Q:QN} (ht:IsTup s.heap t us) (hs:s.heap.IsSliceOf sl vl vu .none) (pl:IsPart vl lo) (pu:IsPart vu hi)
  (hw:sIx us.size 0 lo=0 /\ sIx us.size us.size hi=us.size) (h:Q (.ref t) s):wpAny (model prog w) A (getItem (.ref t) (.ref sl)) Q E s:=by
 obtain ⟨os,hos,hcs,hds⟩:=id hs
 have hTs:s.TypeIs (.ref sl) "slice":=⟨os,hos,hcs⟩
 unfold getItem
 try with_reducible refine wpAny_holding ?_
 first | refine wpAny_bind (wpAny_pure ?_) | skip
 refine wpAny_bind (wpAny_sequenceKey ht.typeIs (by decide) ?_)
 refine wpAny_bind (wpAny_callSpecial?_slot (name:=Str.ofString "__getitem__") ht.typeIs PyProof.Rows.slot_tuple_getitem
  (wpAny_call_entry PyProof.Rows.slot_tuple_getitem ht.typeIs entry_tuple_getitem ?_ (args_tuple_getitem _ _)))
 show wpAny _ _ (Builtin.Tuple.tupleItemsOf (.ref t) >>= _) _ _ s
 refine wpAny_bind (tupleItemsOf_ ht ?_)
 refine wpAny_bind (wpAny_typeOf hTs ?_)
 rw [if_pos (by decide)]
 refine wpAny_bind (xK hs pl pu ?_)
 have yes:(((sIx us.size 0 lo:Nat):Int) == 0 && (1:Int) == 1 && (sIx us.size us.size hi - sIx us.size 0 lo) == us.size)=true:=by
  rw [hw.1,hw.2]; simp
 show wpAny _ _ (if (((sIx us.size 0 lo:Nat):Int) == 0 && (1:Int) == 1 && (sIx us.size us.size hi - sIx us.size 0 lo) == us.size)=true then _ else _) _ _ s
 rw [if_pos yes]
 refine wpAny_bind ?_
 unfold Builtin.Tuple.tupleIsExact
 refine wpAny_bind (wpAny_typeOf ht.typeIs (wpAny_pure ?_))
 show wpAny _ _ (rule _ >>= _) _ _ s
 exact wpAny_bind (wpAny_rule (wpAny_bind (wpAny_pure (wpAny_pure ⟨_,rfl,wpAny_pure h⟩))))
end
section
variable {X:Cx} {K:QM}
def QD (K:QM):V->Option Int->Option Int->Hp->VK->Prop:=fun x lo hi H Q=>∃ a xs,x = .ref a /\ Q1 K H a xs /\ ∀ p H',Grow [] H H' -> Q1 K H' p (vm xs lo hi)->Q (.ref p) H'
theorem Xx {xs:List V} {lo hi:Option Int} (h:HT.sIx xs.length 0 lo=0 /\ HT.sIx xs.length xs.length hi=xs.length):vm xs lo hi=xs:=by
 unfold vm
 rw [h.1,h.2,List.drop_zero,Nat.sub_zero,List.take_length]
theorem yg (hK:X.K=K):Jj X (QD K):=by
 subst hK
 intro pins s σ H x v vl vu lo hi sl Q I rx hs pl pu h
 obtain ⟨a,xs,rfl,hx,q⟩:=h
 by_cases hw:HT.sIx xs.length 0 lo=0 /\ HT.sIx xs.length xs.length hi=xs.length
 ·cases rx
  obtain ⟨its,r,ht,hz⟩:=I.tuple hx
  have hlen:its.toArray.size=xs.length:=by rw [List.size_toArray]; exact r.length.symm
  refine ⟨"tuple",_,PyProof.Rows.slot_tuple_getitem.lookup,ht.typeIs,?_⟩
  exact sx ht hs pl pu (by rw [hlen]; exact hw) ⟨.ref a,H,I,rfl,q a H (Grow.refl _ _) (by rw [Xx hw]; exact hx)⟩
 ·exact Y6 pins s σ H _ v vl vu lo hi sl Q I rx hs pl pu ⟨a,xs,rfl,hx,hw,fun p hp=>q p _ (Grow.new hp _) (Q1.of zd)⟩
def RM (K:QM):R2:=fun x y H Q=>∃ a b xs ys,x = .ref a /\ y = .ref b /\ Q1 K H a xs /\ Q1 K H b ys /\ xs.length+ys.length<=sizeLine /\ ∀ p H',Grow [] H H' -> Q1 K H' p (xs ++ ys)->Q (.ref p) H'
theorem yv (hK:X.K=K):Q8 X (binaryOp .Add) (RM K):=by
 subst hK
 intro pins s σ H x y v u Q I rx ry h
 obtain ⟨a,b,xs,ys,rfl,rfl,ha,hb,hz,q⟩:=h
 by_cases hx:xs=[]
 ·cases rx
  cases ry
  obtain ⟨its,r1,p1,_⟩:=I.tuple ha
  obtain ⟨its2,r2,p2,_⟩:=I.tuple hb
  exact VD p1 p2 (r1.nil_iff.mpr hx) ⟨.ref b,H,I,rfl,q b H (Grow.refl _ _) (by rw [hx]; exact hb)⟩
 ·exact U2 pins s σ H _ _ v u Q I rx ry ⟨a,b,xs,ys,rfl,rfl,ha,hb,hx,hz,fun e=>q a H (Grow.refl _ _) (by rw [e,List.append_nil]; exact ha),fun _ p hp=>q p _ (Grow.new hp _) (Q1.of zd)⟩
end
section
variable {c:TT} {e:TE} {i:Nat} {v v':V} {t u r:TS} {D:Ends} {σ:L2.St} {H:Hp} {rt:VK} {bk ct:L2.St->Hp->Prop}
theorem VE (Good:L2.St->Hp->Prop) (hr:∀ σ' H',Good σ' H' -> r D σ' H') (hc:(∀ σ' H',Good σ' H' -> r D σ' H')->TQ c t u { D with nx:=r D } σ H):Rb (TQ c t u) r D σ H:=hc hr
theorem yh (Good:V->Hp->Prop) (hc:∀ K:VK,(∀ v H',Good v H' -> K v H')->e σ H K) (hr:∀ v H',Good v H' -> t D (σ.set i (some v)) H'):Rb (Rc e (wL i)) t D σ H:=hc _ fun v H' g=>hr v H' g
theorem yp (h:t D σ H):T3 ({ nx:=t D,rt:=rt,bk:=bk,ct:=ct }:Ends) σ H:=h
theorem yM (Good:Bool->Hp->Prop) (hc:∀ K:Bool->Hp->Prop,(∀ b H',Good b H' -> K b H')->c σ H K) (hr:∀ b H',Good b H' -> if b=true then t { D with nx:=r D } σ H' else u { D with nx:=r D } σ H'):Rb (TQ c t u) r D σ H:=hc _ hr
end
abbrev QK:=Option QO
def JG (a:Addr) (kvs:List (V × V)):HO:=.ext fun h=>∃ o es n,h.get? a=some o /\ o.cls = .type "dict" /\ o.data = .dict es n /\ zP (kvs.map (·.1)) (es.toList.map (·.key)) /\ zP (kvs.map (·.2)) (es.toList.map (·.val))
mutual
/-- nested data,whose lists and dicts are none of m -/
inductive Od (K:QM) (m:List Addr) (H:Hp):V->PyData->Prop
 | non:Od K m H .non .none
 | bl (b:Bool):Od K m H (.bl b) (.bool b)
 | int (i:Int):Od K m H (.int i) (.int i)
 | str (x:Str):Od K m H (.str x) (.str x)
 | tup {a:Addr} {xs:List V} {ds:List PyData}:Q1 K H a xs->Ods K m H xs ds->Od K m H (.ref a) (.tuple ds)
 | lst {a:Addr} {xs:List V} {ds:List PyData}:H a=some (.lst xs)->a ∉ m->a ≠ sysModules->Ods K m H xs ds->Od K m H (.ref a) (.list ds)
 | dct {a:Addr} {kvs:List (V × V)} {ds:List (PyData × PyData)}:H a=some (JG a kvs)->a ∉ m->a ≠ sysModules->Ods K m H (kvs.map (·.1)) (ds.map (·.1))->Ods K m H (kvs.map (·.2)) (ds.map (·.2))->Od K m H (.ref a) (.dict ds)
inductive Ods (K:QM) (m:List Addr) (H:Hp):List V->List PyData->Prop
 | nil:Ods K m H [] []
 | cons {x:V} {xs:List V} {d:PyData} {ds:List PyData}:Od K m H x d->Ods K m H xs ds->Ods K m H (x :: xs) (d :: ds)
end
section
variable {K:QM} {m:List Addr} {H H':Hp}
mutual
theorem Od.grow (g:Grow m H H'):∀ {x:V} {d:PyData},Od K m H x d->Od K m H' x d
 | _,_,.non=>.non
 | _,_,.bl b=>.bl b
 | _,_,.int i=>.int i
 | _,_,.str x=>.str x
 | _,_,.tup h t=>.tup (g.sqT h) (Ods.grow g t)
 | _,_,.lst h n b t=>.lst (g.keep _ _ n h) n b (Ods.grow g t)
 | _,_,.dct h n b t u=>.dct (g.keep _ _ n h) n b (Ods.grow g t) (Ods.grow g u)
theorem Ods.grow (g:Grow m H H'):∀ {xs:List V} {ds:List PyData},Ods K m H xs ds->Ods K m H' xs ds
 | _,_,.nil=>.nil
 | _,_,.cons h t=>.cons (Od.grow g h) (Ods.grow g t)
end
theorem Ods.length:∀ {xs:List V} {ds:List PyData},Ods K m H xs ds->xs.length=ds.length
 | _,_,.nil=>rfl
 | _,_,.cons _ t=>congrArg (· + 1) (Ods.length t)
theorem Ods.get:∀ {xs:List V} {ds:List PyData} {i:Nat} {x:V},Ods K m H xs ds->xs[i]? = some x -> ∃ d,ds[i]? = some d /\ Od K m H x d
 | _,_,_,_,.nil,e=>by simp at e
 | _,_,0,_,.cons h _,e=>by simp at e; subst e; exact ⟨_,rfl,h⟩
 | _,_,i+1,x,.cons _ t,e=>Ods.get (i:=i) t (by simpa using e)
end
section
variable {X:Cx} {pins:List (Addr × Obj)} {σ:L2.St} {H:Hp} {s:Shared} {m:List Addr}
theorem Xy (I:Inv X pins σ H s):sysModules < s.heap.objs.size:=Nat.lt_trans (by decide) (show mainGlobals < s.heap.objs.size from (I.mod.glob.keeps I.bk).lt)
theorem JG.at (I:Inv X pins σ H s) {a:Addr} {kvs:List (V × V)} (h:H a=some (JG a kvs)):∃ o es n,s.heap.get? a=some o /\ o.cls = .type "dict" /\ o.data = .dict es n /\ zP (kvs.map (·.1)) (es.toList.map (·.key)) /\ zP (kvs.map (·.2)) (es.toList.map (·.val)):=(I.hok a _ h).1
mutual
theorem Od.reads (I:Inv X pins σ H s):∀ {x:V} {d:PyData} {u:Value},Od X.K m H x d->zU x u -> ∃ as,Reads s.heap u d as /\ sysModules ∉ as
 | _,_,u,.non,r=>by
  cases (show u=Value.none from r)
  exact ⟨_,.none,by simp⟩
 | _,_,u,.bl b,r=>by
  cases (show u=Value.bool b from r)
  exact ⟨_,.bool b,by simp⟩
 | _,_,u,.int i,r=>by
  obtain ⟨t,rfl⟩:=r
  exact ⟨_,.int i t,by simp⟩
 | _,_,u,.str x,r=>by
  obtain ⟨t,rfl⟩:=r
  exact ⟨_,.str x t,by simp⟩
 | _,_,u,.tup (a:=a) hs hd,r=>by
  cases (show u=Value.ref a from r)
  obtain ⟨its,r1,⟨o,e1,e2,n,e3⟩,_⟩:=I.tuple hs
  obtain ⟨as,q,ns⟩:=Ods.reads I hd r1
  exact ⟨_,.tuple e1 e2 e3 q,ns⟩
 | _,_,u,.lst (a:=a) hs _ hb hd,r=>by
  cases (show u=Value.ref a from r)
  obtain ⟨its,r1,⟨o,n,e1,e2,_,e3⟩,_⟩:=I.list (Q0.of hs)
  obtain ⟨as,q,ns⟩:=Ods.reads I hd r1
  exact ⟨_,.list e1 e2 e3 q,fun z=>(List.mem_cons.mp z).elim (fun e=>hb e.symm) ns⟩
 | _,_,u,.dct (a:=a) hs _ hb h1 h2,r=>by
  cases (show u=Value.ref a from r)
  obtain ⟨o,es,n,e1,e2,e3,v1,v2⟩:=JG.at I hs
  obtain ⟨as,q1,n1⟩:=Ods.reads I h1 v1
  obtain ⟨bs,q2,n2⟩:=Ods.reads I h2 v2
  refine ⟨_,.dict e1 e2 e3 q1 q2,fun z=>?_⟩
  rcases List.mem_append.mp z with z | z
  ·exact (List.mem_cons.mp z).elim (fun e=>hb e.symm) n1
  ·exact n2 z
theorem Ods.reads (I:Inv X pins σ H s):∀ {xs:List V} {ds:List PyData} {us:List Value},Ods X.K m H xs ds->zP xs us -> ∃ as,ReadsAll s.heap us ds as /\ sysModules ∉ as
 | _,_,_,.nil,.nil=>⟨_,.nil,by simp⟩
 | _,_,_,.cons h t,.cons r rs=>by
  obtain ⟨as,q,n1⟩:=Od.reads I h r
  obtain ⟨bs,q2,n2⟩:=Ods.reads I t rs
  exact ⟨_,.cons q q2,fun z=>(List.mem_append.mp z).elim n1 n2⟩
end
def Sv (K:QM):List V->Hp->VK->Prop:=fun xs H Q=>∃ x d m,xs=[x] /\ Od K m H x d /\ d.showable=true /\ d.depth<=60 /\ d.shown.length<=sizeLine /\ Q (.str d.shown) H
theorem tJ {K:QM} {k:Nat} (hK:X.K=K) (hr:Room k X.A):y7 X (.builtin "repr") (Sv K):=by
 subst hK
 intro pins s σ H xs us Q I r h
 obtain ⟨x,d,m,rfl,hd,h1,h3,h4,q⟩:=h
 obtain ⟨u,rfl,rx⟩:=xz r
 have key:∀ a,u = .ref a->wpAny (model X.prog X.w) X.A (call (.builtin "repr") [u]) (EP X pins σ Q) X.xe s:=fun a e=>by
  subst e
  obtain ⟨as,rd,ns⟩:=Od.reads I hd rx
  exact repr_of_reads' rd h1 (fun _=>ns) hr.gd (by have:=hr.un; omega) (fun _ _ e=>e) (fun h' t tk hk=>⟨.str _,H,I.kept hk,⟨_,rfl⟩,q⟩) h4
 cases hd with
 | non =>
  cases (show u=Value.none from rx)
  exact PySem.P.repr_of_none ⟨.str _,H,I.tok _,⟨_,rfl⟩,q⟩
 | bl b =>
  cases (show u=Value.bool b from rx)
  exact PySem.P.repr_of_bool ⟨.str _,H,I.tok _,⟨_,rfl⟩,q⟩
 | int i =>
  obtain ⟨t,rfl⟩:=rx
  exact PySem.P.repr_of_int (of_decide_eq_true h1) ⟨.str _,H,I.tok _,⟨_,rfl⟩,q⟩
 | str x =>
  obtain ⟨t,rfl⟩:=rx
  exact PySem.P.repr_of_str ⟨.str _,H,I.tok _,⟨_,rfl⟩,q⟩ h4
 | tup hs ha=>exact key _ rx
 | lst hs _ _ ha=>exact key _ rx
 | dct hs _ _ h1 h2=>exact key _ rx
end
theorem Xz {ks:List (Option Expr)} {vs es:List Expr} {p:Pos} {env:Env}:starEach (.Dict ks vs p :: es) env=(false,eval (.Dict ks vs p) env) :: starEach es env:=by rfl
section
variable {X:Cx} {K:QM} {R R':DR} {D:PyData} {Ds:List PyData} {e:Expr} {es:List Expr} {pos:Pos} {j}
theorem Z8 (hK:X.K=K):y7 X (.type "list") (fun xs H Q=>∃ p ys,xs=[.ref p] /\ (Q0 K H p ys \/ Q1 K H p ys) /\ ∀ l,H l=none->l ≠ sysModules->Q (.ref l) (QP H l (.lst ys))):=by
 subst hK
 intro pins s σ H xs us Q I r h
 obtain ⟨p,ys,rfl,hq,q⟩:=h
 obtain ⟨u,rfl,rx⟩:=xz r
 cases rx
 have fin:∀ (its:List Value),zP ys its->ys.length<=sizeLine -> ∀ (h':Heap) (c':Nat),(∀ b o',s.heap.get? b=some o' -> h'.get? b=some o') →
   h'.get? s.heap.objs.size=some { cls:=.type "list",dict:=none,data:=.seq its.toArray c',slots:=#[] } -> EP X pins σ Q (.ref s.heap.objs.size) { s with heap:=h' }:=fun its r' hz h' c' kp e =>
  ⟨.ref s.heap.objs.size,_,I.laid (t':=s.toks) kp (Nat.le_refl _) (show zT X.prog X.w _ h' _ (.lst ys) from ⟨hz,its,c',r',e⟩),rfl,q _ (I.hok.fresh (Nat.le_refl _)) (Nat.ne_of_gt (Xy I))⟩
 rcases hq with hq | hq
 ·obtain ⟨its,r',pl,hz⟩:=I.list hq
  have hlen:=r'.length
  obtain ⟨o,ho,hc,n,hd⟩:=pl.isList
  exact call_list_seq p (.inl rfl) ho hc hd (fun h' c' kp e=>fin its r' hz h' c' kp e) (by simp only [List.size_toArray] <;> omega)
 ·obtain ⟨its,r',pl,hz⟩:=I.tuple hq
  have hlen:=r'.length
  obtain ⟨o,ho,hc,n,hd⟩:=pl
  exact call_list_seq p (.inr rfl) ho hc hd (fun h' c' kp e=>fin its r' hz h' c' kp e) (by simp only [List.size_toArray] <;> omega)
end
def JH:PyData->String
 | .none=>"NoneType"
 | .bool _=>"bool"
 | .int _=>"int"
 | .str _=>"str"
 | .list _=>"list"
 | .tuple _=>"tuple"
 | .dict _=>"dict"
def RN (K:QM):List V->Hp->VK->Prop:=fun xs H Q=>∃ x d m T k,xs=[x,.ty T] /\ Od K m H x d /\ PySem.W.kitOne K (.type (JH d)) (.type T)=some k /\ Q (.bl k) H
theorem rN {X:Cx} {K:QM} (hK:X.K=K):y7 X (.builtin "isinstance") (RN K):=by
 subst hK
 intro pins s σ H xs us Q I r h
 obtain ⟨x,d,m,T,k,rfl,hd,e,q⟩:=h
 cases hd with
 | non=>exact yo pins s σ H _ us Q I r ⟨_,T,_,k,rfl,rfl,e,q⟩
 | bl b=>exact yo pins s σ H _ us Q I r ⟨_,T,_,k,rfl,rfl,e,q⟩
 | int i=>exact yo pins s σ H _ us Q I r ⟨_,T,_,k,rfl,rfl,e,q⟩
 | str y=>exact yo pins s σ H _ us Q I r ⟨_,T,_,k,rfl,rfl,e,q⟩
 | tup hs _=>exact yo pins s σ H _ us Q I r ⟨_,T,_,k,rfl,.inl ⟨rfl,_,hs⟩,e,q⟩
 | lst hs _ _ _=>exact yo pins s σ H _ us Q I r ⟨_,T,_,k,rfl,.inr (.inl ⟨rfl,_,Q0.of hs⟩),e,q⟩
 | @dct a kvs ds hs _ _ _ _ =>
  obtain ⟨u,w',rfl,rx,rt⟩:=Y1 r
  cases (show w' = Value.type T from rt)
  cases (show u=Value.ref a from rx)
  obtain ⟨o,es,n,e1,e2,_⟩:=JG.at I hs
  exact PySem.W.kia_one PySem.W.kitx_dict I.kIn ⟨o,e1,e2⟩ e (fun z=>nomatch z) fun tk=>⟨.bl k,H,I.tok _,rfl,q⟩
def Qf:PyData->Bool
 | .int _=>true
 | _=>false
mutual
def leD (B:Int):PyData->Bool
 | .int i=>decide (-B<=i) && decide (i<=B)
 | .list xs | .tuple xs=>leDs B xs
 | .dict kvs=>leDk B kvs
 | .none | .bool _ | .str _=>true
def leDs (B:Int):List PyData->Bool
 | []=>true
 | x :: xs=>leD B x && leDs B xs
def leDk (B:Int):List (PyData × PyData)->Bool
 | []=>true
 | (k,v) :: r=>leD B k && leD B v && leDk B r
end
mutual
def wtO:PyData->Nat
 | .list xs | .tuple xs=>wtOs xs+3
 | .dict kvs=>wtOk kvs+3
 | .int _=>1921
 | .none | .bool _=>5
 | .str x=>(reprText x).length
def wtOs:List PyData->Nat
 | []=>0
 | x :: xs=>wtO x+2+wtOs xs
def wtOk:List (PyData × PyData)->Nat
 | []=>0
 | (k,v) :: r=>wtO k+wtO v+4+wtOk r
end
mutual
theorem leD_mono {B B':Int} (h:B<=B'):∀ {d:PyData},leD B d=true->leD B' d=true
 | .int i,z=>by
  simp only [leD,Bool.and_eq_true,decide_eq_true_eq] at z ⊢
  omega
 | .list xs,z=>leDs_mono h (xs:=xs) z
 | .tuple xs,z=>leDs_mono h (xs:=xs) z
 | .dict kvs,z=>leDk_mono h (kvs:=kvs) z
 | .none,_=>rfl
 | .bool _,_=>rfl
 | .str _,_=>rfl
theorem leDs_mono {B B':Int} (h:B<=B'):∀ {xs:List PyData},leDs B xs=true->leDs B' xs=true
 | [],_=>rfl
 | x :: xs,z=>by
  have z':=Bool.and_eq_true_iff.mp (show (leD B x && leDs B xs)=true from z)
  show (leD B' x && leDs B' xs)=true
  rw [leD_mono h z'.1,leDs_mono h z'.2]; rfl
theorem leDk_mono {B B':Int} (h:B<=B'):∀ {kvs:List (PyData × PyData)},leDk B kvs=true->leDk B' kvs=true
 | [],_=>rfl
 | (k,v) :: r,z=>by
  have z':=Bool.and_eq_true_iff.mp (show (leD B k && leD B v && leDk B r)=true from z)
  have z'':=Bool.and_eq_true_iff.mp z'.1
  show (leD B' k && leD B' v && leDk B' r)=true
  rw [leD_mono h z''.1,leD_mono h z''.2,leDk_mono h z'.2]; rfl
end
theorem xn {B:Int}:∀ {xs:List PyData},leDs B xs=true ↔ ∀ x ∈ xs,leD B x=true
 | []=>by simp [leDs]
 | x :: xs=>by simp [leDs,xn (xs:=xs)]
def Bg:Int:=2 ^ 1000
mutual
theorem showable_le {B:Int} (hB:B<=Bg):∀ {d:PyData},leD B d=true->d.showable=true
 | .int i,z=>by
  simp only [leD,Bool.and_eq_true,decide_eq_true_eq] at z
  have hb:Bg=2 ^ 1000:=rfl
  show decide (i.natAbs.log2 < 1920)=true
  refine decide_eq_true ?_
  by_cases h0:i.natAbs=0
  ·rw [h0]; decide
  ·rw [Nat.log2_lt h0]
   have h1:(i.natAbs:Int)<=Bg:=by omega
   have h2:i.natAbs<=2 ^ 1000:=by rw [hb] at h1; exact_mod_cast h1
   exact Nat.lt_of_le_of_lt h2 (Nat.pow_lt_pow_right (by decide) (by decide))
 | .list xs,z=>showableAll_le hB (xs:=xs) z
 | .tuple xs,z=>showableAll_le hB (xs:=xs) z
 | .dict kvs,z=>showableKv_le hB (kvs:=kvs) z
 | .none,_=>rfl
 | .bool _,_=>rfl
 | .str _,_=>rfl
theorem showableAll_le {B:Int} (hB:B<=Bg):∀ {xs:List PyData},leDs B xs=true->PyData.showableAll xs=true
 | [],_=>rfl
 | x :: xs,z=>by
  have z':=Bool.and_eq_true_iff.mp (show (leD B x && leDs B xs)=true from z)
  show (x.showable && PyData.showableAll xs)=true
  rw [showable_le hB z'.1,showableAll_le hB z'.2]; rfl
theorem showableKv_le {B:Int} (hB:B<=Bg):∀ {kvs:List (PyData × PyData)},leDk B kvs=true->PyData.showableKv kvs=true
 | [],_=>rfl
 | (k,v) :: r,z=>by
  have z':=Bool.and_eq_true_iff.mp (show (leD B k && leD B v && leDk B r)=true from z)
  have z'':=Bool.and_eq_true_iff.mp z'.1
  show (k.showable && v.showable && PyData.showableKv r)=true
  rw [showable_le hB z''.1,showable_le hB z''.2,showableKv_le hB z'.2]; rfl
end
mutual
theorem shown_le:∀ {d:PyData},d.showable=true->d.shown.length<=wtO d
 | .none,_=>by decide
 | .bool b,_=>by cases b <;> decide
 | .int i,h=>int_text_len_1921 (of_decide_eq_true h)
 | .str x,_=>Nat.le_refl _
 | .list xs,h=>by
  have q:=shown_les (xs:=xs) h
  have l:=listText_len_le (PyData.shownAll xs)
  show (listText (PyData.shownAll xs)).length<=wtOs xs+3
  omega
 | .tuple xs,h=>by
  have q:=shown_les (xs:=xs) h
  have l:=tupleText_len_le (PyData.shownAll xs)
  show (tupleText (PyData.shownAll xs)).length<=wtOs xs+3
  omega
 | .dict kvs,h=>by
  have q:=shown_lek (kvs:=kvs) h
  have l:=dictText_len_le (PyData.shownKv kvs)
  show (dictText (PyData.shownKv kvs)).length<=wtOk kvs+3
  omega
theorem shown_les:∀ {xs:List PyData},PyData.showableAll xs=true->((PyData.shownAll xs).map (·.length)).sum+2 * (PyData.shownAll xs).length<=wtOs xs
 | [],_=>by decide
 | x :: xs,h=>by
  have h':(x.showable && PyData.showableAll xs)=true:=h
  rw [Bool.and_eq_true] at h'
  have q1:=shown_le (d:=x) h'.1
  have q2:=shown_les (xs:=xs) h'.2
  show (((x.shown :: PyData.shownAll xs).map (·.length)).sum+2 * (x.shown :: PyData.shownAll xs).length)<=wtO x+2+wtOs xs
  rw [List.map_cons,List.sum_cons,List.length_cons]
  omega
theorem shown_lek:∀ {kvs:List (PyData × PyData)},PyData.showableKv kvs=true->((PyData.shownKv kvs).map (·.length)).sum+2 * (PyData.shownKv kvs).length<=wtOk kvs
 | [],_=>by decide
 | (k,v) :: r,h=>by
  have h':(k.showable && v.showable && PyData.showableKv r)=true:=h
  rw [Bool.and_eq_true,Bool.and_eq_true] at h'
  have q1:=shown_le (d:=k) h'.1.1
  have q2:=shown_le (d:=v) h'.1.2
  have q3:=shown_lek (kvs:=r) h'.2
  have e:(k.shown ++ ": " ++ v.shown).length=k.shown.length+2+v.shown.length:=by
   rw [strLen_append,strLen_append]; rfl
  show ((((k.shown ++ ": " ++ v.shown) :: PyData.shownKv r).map (·.length)).sum+2 * ((k.shown ++ ": " ++ v.shown) :: PyData.shownKv r).length)<=wtO k+wtO v+4+wtOk r
  rw [List.map_cons,List.sum_cons,List.length_cons,e]
  omega
end
structure GdS (n k w:Nat) (ds:List PyData):Prop where
 le:leDs (10 ^ 30+n) ds=true
 dp:PyData.depthAll ds<=k
 wt:wtOs ds<=w
structure GdD (n k w:Nat) (d:PyData):Prop where
 le:leD (10 ^ 30+n) d=true
 dp:d.depth<=k
 wt:wtO d<=w
theorem yi {k:Nat}:∀ {xs:List PyData},PyData.depthAll xs<=k ↔ ∀ x ∈ xs,x.depth<=k
 | []=>by simp [PyData.depthAll]
 | x :: xs=>by
  show max x.depth (PyData.depthAll xs)<=k ↔ _
  rw [Nat.max_le,yi (xs:=xs)]
  simp
theorem GdD.one {n k w:Nat} {d:PyData} (h:GdD n k w d):GdS n k (w+2) [d]:=⟨by show (leD _ d && true)=true; rw [h.le]; rfl,by show max d.depth 0<=k; have:=h.dp; omega,by show wtO d+2+0<=w+2; have:=h.wt; omega⟩
theorem GdS.tup {n k w:Nat} {ds:List PyData} (h:GdS n k w ds):GdD n (k+1) (w+3) (.tuple ds):=⟨h.le,Nat.succ_le_succ h.dp,Nat.add_le_add_right h.wt 3⟩
theorem GdS.lst {n k w:Nat} {ds:List PyData} (h:GdS n k w ds):GdD n (k+1) (w+3) (.list ds):=⟨h.le,Nat.succ_le_succ h.dp,Nat.add_le_add_right h.wt 3⟩
theorem GdD.mono {n n' k k' w w':Nat} {d:PyData} (h:GdD n k w d) (h1:n<=n') (h2:k<=k') (h3:w<=w'):GdD n' k' w' d:=⟨leD_mono (by omega) h.le,Nat.le_trans h.dp h2,Nat.le_trans h.wt h3⟩
theorem RO {n:Nat} (h:n<=1000000):(10:Int) ^ 30+n<=Bg:=by
 have h1:(10:Int) ^ 30+1000000<=Bg:=by decide +kernel
 omega
section
variable {K:QM} {m:List Addr} {H:Hp} {x:V}
theorem Od.inv_tup {ds:List PyData} (h:Od K m H x (.tuple ds)):∃ a xs,x = .ref a /\ Q1 K H a xs /\ Ods K m H xs ds:=by
 cases h with
 | tup h1 h2=>exact ⟨_,_,rfl,h1,h2⟩
end
section
variable {X:Cx} {K:QM}
def JI (H:Hp) (r:Addr) (xs:List V):Prop:=∃ o:Obj,H r=some (.frz o (.tup xs)) /\ o.cls = .type "tuple" /\ o.dict=none
theorem JI.sqT {H:Hp} {r:Addr} {xs:List V} (h:JI H r xs):Q1 K H r xs:=by
 obtain ⟨o,e,_⟩:=h
 exact .inl (.inr ⟨o,e⟩)
theorem Grow.frT {m:List Addr} {H H':Hp} (g:Grow m H H') {r:Addr} {xs:List V} (h:JI H r xs):JI H' r xs:=by
 obtain ⟨o,e,c,d⟩:=h
 exact ⟨o,g.frz _ _ _ e,c,d⟩
theorem jg:y7 X (.type "tuple") (fun xs H Q=>∃ p ys,xs=[.ref p] /\ Q0 X.K H p ys /\ ∀ (l:Addr) (o:Obj),H l=none->o.cls = .type "tuple" -> o.dict=none->Q (.ref l) (QP H l (.frz o (.tup ys)))):=by
 intro pins s σ H xs us Q I r h
 obtain ⟨p,ys,rfl,hq,q⟩:=h
 obtain ⟨u,rfl,rx⟩:=xz r
 cases rx
 obtain ⟨its,r',pl,hz⟩:=I.list hq
 have hlen:=r'.length
 refine call_tuple_list pl.isList (fun h' kp=>?_) (by simp only [List.size_toArray] <;> omega)
 have I1:Inv X pins σ H { s with heap:=h' }:=I.kept (t':=s.toks) kp
 have I2:Inv X pins σ (QP H h'.objs.size (.frz { cls:=.type "tuple",data:=.seq its.toArray } (.tup ys))) { s with heap:=h'.push { cls:=.type "tuple",data:=.seq its.toArray } } :=
  I1.laid (t':=s.toks) (fun b o e=>Heap.get?_push_of_some _ e) (Nat.le_refl _) (show zT X.prog X.w _ _ _ (.frz _ (.tup ys)) from ⟨Heap.get?_push_size _ rfl,hz,its,r',IsTup.new _ _⟩)
 exact ⟨.ref h'.objs.size,_,I2,rfl,q _ _ (I1.hok.fresh (Nat.le_refl _)) rfl rfl⟩
end
structure Call72 where
 hand:Int
 box:Int
 deed:Deed
 begun:Int
 ended:Int
 answer:Int
instance:Inhabited Call72:=⟨⟨0,0,⟨0,none,none⟩,0,0,0⟩⟩
def Call72.vs (c:Call72) (rd:Addr):List V:=[.int c.hand,.int c.box,.ref rd,.int c.begun,.int c.ended,.int c.answer]
def yy (K:QM) (H:Hp) (x:V) (c:Call72):Prop:=∃ r rd,x = .ref r /\ Q1 K H r (c.vs rd) /\ Q1 K H rd c.deed.vs
def zx (K:QM) (H:Hp) (x:V) (cs:List Call72):Prop:=∃ r xs,x = .ref r /\ Q1 K H r xs /\ yP (yy K H) xs cs
theorem Grow.call72 {m:List Addr} {H H':Hp} (g:Grow m H H') {K:QM} {x:V} {c:Call72} (h:yy K H x c):yy K H' x c:=by
 obtain ⟨r,rd,e,h1,h2⟩:=h
 exact ⟨r,rd,e,g.sqT h1,g.sqT h2⟩
theorem Grow.callsR {m:List Addr} {H H':Hp} (g:Grow m H H') {K:QM} {xs:List V} {cs:List Call72} (h:yP (yy K H) xs cs):yP (yy K H') xs cs:=h.imp fun _ _ z=>g.call72 z
theorem Grow.calls72 {m:List Addr} {H H':Hp} (g:Grow m H H') {K:QM} {x:V} {cs:List Call72} (h:zx K H x cs):zx K H' x cs:=by
 obtain ⟨r,xs,e,h1,h2⟩:=h
 exact ⟨r,xs,e,g.sqT h1,g.callsR h2⟩
structure CallOk72 (m:Nat) (c:Call72):Prop where
 h0:0<=c.hand
 h1:c.hand<=15
 b0:0<=c.box
 b1:c.box < m
 d:c.deed.Ok
 t0:0<=c.begun
 t1:c.begun<=c.ended
def x6 (b:Int) (cs:List Call72):Nat:=cs.countP fun c=>decide (c.box=b)
structure Calls72 (m:Nat) (cs:List Call72):Prop where
 len:cs.length<=40
 ok:∀ c ∈ cs,CallOk72 m c
 few:∀ b:Int,x6 b cs<=8
def cg (cs:List Call72) (k:Nat):Call72:=cs.getD k default
theorem yA {cs:List Call72} {k:Nat} {c:Call72} (h:cs[k]? = some c):cg cs k=c:=by unfold cg; rw [List.getD_eq_getElem?_getD,h]; rfl
theorem Zf {cs:List Call72} {k:Nat} (h:k < cs.length):cg cs k ∈ cs:=by
 have:=List.getElem?_eq_getElem h
 rw [yA this]; exact List.getElem_mem h
def sY (cs:List Call72):List Int->List Nat->Bool
 | _,[]=>true
 | vs,k :: r=>if vs.getD (cg cs k).box.toNat 0=(cg cs k).answer then sY cs (vs.set (cg cs k).box.toNat ((cg cs k).deed.mk' (cg cs k).answer)) r else false
theorem vw {cs:List Call72} {vs:List Int} {k:Nat} {r:List Nat}:sY cs vs (k :: r)=if vs.getD (cg cs k).box.toNat 0=(cg cs k).answer then sY cs (vs.set (cg cs k).box.toNat ((cg cs k).deed.mk' (cg cs k).answer)) r else false:=rfl
theorem xA {α:Type} {l:List α} {j:Nat} {x d:α} (h:j < l.length):(l.set j x).getD j d=x:=by rw [List.getD_eq_getElem?_getD,List.getElem?_set_self h]; rfl
theorem xo {α:Type} {l:List α} {i j:Nat} {x d:α} (h:i ≠ j):(l.set i x).getD j d=l.getD j d:=by rw [List.getD_eq_getElem?_getD,List.getD_eq_getElem?_getD,List.getElem?_set_ne h]
def yR (n:Nat) (d:PyData) (ns:List Nat):Prop:=d = .tuple (ns.map fun k:Nat=>PyData.int (k:Int)) /\ ns.Perm (List.range n)
theorem wA:∀ {a b:List Nat},(a.map fun k:Nat=>PyData.int (k:Int))=b.map (fun k:Nat=>PyData.int (k:Int))->a=b
 | [],[],_=>rfl
 | [],_ :: _,h=>by cases h
 | _ :: _,[],h=>by cases h
 | x :: a,y :: b,h=>by
  obtain ⟨h1,h2⟩:=List.cons.inj h
  have:x=y:=by injection h1 with h1; omega
  rw [this,wA h2]
theorem yR.uniq {n:Nat} {d:PyData} {ns ms:List Nat} (h:yR n d ns) (h':yR n d ms):ns=ms:=by
 have:=h.1.symm.trans h'.1
 injection this with this
 exact wA this
def UJ (d:PyData):Prop:=∀ ds,d = .tuple ds->ds.length < 64 /\ ∀ e ∈ ds,∀ kvs,e ≠ .dict kvs
def xB (K:QM) (H:Hp) (x:V) (ns:List Nat):Prop:=∃ r,x = .ref r /\ Q1 K H r (zy ns)
def Sw (K:QM) (H:Hp) (x:V) (ns:List Nat):Prop:=∃ r,x = .ref r /\ Q0 K H r (zy ns)
theorem yS {ns:List Nat} {i:Nat} {x:V} (h:(zy ns)[i]? = some x):∃ k,ns[i]? = some k /\ x = .int k:=by
 unfold zy at h
 rw [List.getElem?_map] at h
 obtain ⟨k,hk,e⟩:=Option.map_eq_some_iff.mp h
 exact ⟨k,hk,e.symm⟩
theorem XA {ns:List Nat} {i k:Nat} (h:ns[i]? = some k):ns.drop i=k :: ns.drop (i+1):=by
 obtain ⟨hlt,e⟩:=List.getElem?_eq_some_iff.mp h
 rw [List.drop_eq_getElem_cons hlt,e]
theorem xB.grow {K:QM} {H H':Hp} {x:V} {ns:List Nat} {m:List Addr} (h:xB K H x ns) (g:Grow m H H'):xB K H' x ns:=by
 obtain ⟨r,e,s⟩:=h
 exact ⟨r,e,g.sqT s⟩
theorem Zg {K:QM} {m:List Addr} {H:Hp}:∀ {xs:List V} {ns:List Nat},Ods K m H xs (ns.map fun k:Nat=>PyData.int (k:Int))->xs=zy ns
 | _,[],.nil=>rfl
 | _,k :: ns,.cons (.int _) t=>by rw [Zg t]; rfl
theorem XB {K:QM} {m:List Addr} {H:Hp} {x:V} {d:PyData} {ns:List Nat} (e:d = .tuple (ns.map fun k:Nat=>PyData.int (k:Int))) (h:Od K m H x d):xB K H x ns:=by
 subst e
 obtain ⟨r,xs,rfl,hs,os⟩:=h.inv_tup
 exact ⟨r,rfl,by rw [← Zg os]; exact hs⟩
section
variable {K:QM} {a:Addr} {xs:List V} {k:Nat} {te:TE} {Q:VK} {σ:L2.St} {H:Hp}
theorem yw (Pv:Nat->List V->Hp->Prop) (h0:Pv 0 [] H) (hl:∀ i ys H',Pv i ys H' -> Q1 K H' a xs)
  (hs:∀ i x ys H',xs[i]? = some x->Pv i ys H' -> te (σ.set k (some x)) H' fun y H5=>ys.length < sizeLine /\ Pv (i+1) (ys ++ [y]) H5)
  (hd:∀ ys H',Pv xs.length ys H' -> ∀ l,H' l=none->Q (.ref l) (QP H' l (.lst ys))):wN (Q6 K a) σ H (wL k) q8 te Q :=
 Z1 (fun _=>true) Pv h0 hl (fun _ _ _ _ h=>h) (fun i x ys H' hx p _=>hs i x ys H' hx p) (fun _ _ _ _ _ _ z=>nomatch z) hd
end
theorem rO (n:Nat):(List.replicate n true).all id=true:=by rw [List.all_eq_true]; intro x hx; rw [(List.mem_replicate.mp hx).2]; rfl
theorem uS {n:Nat} (h:n<=5000):n < sizeLine:=Nat.lt_of_le_of_lt h (by decide)
theorem uT {n:Nat} (h:n<=5000):n<=sizeLine:=Nat.le_trans h (by decide)
theorem Grow.shrinkL {H H':Hp} {m:List Addr} (h:∀ a ∈ m,H a=none) (g:Grow m H H'):Grow [] H H' :=
 ⟨fun b o _ q=>g.keep b o (fun z=>by rw [h b z] at q; cases q) q,g.tup,g.frz⟩
theorem Zh {b:Int} {cs:List Call72} {c:Call72}:x6 b (cs ++ [c])=x6 b cs+(if c.box=b then 1 else 0):=by
 unfold x6
 rw [List.countP_append,List.countP_cons,List.countP_nil]
 by_cases h:c.box=b
 ·rw [if_pos h,decide_eq_true h]; rfl
 ·rw [if_neg h,decide_eq_false h]; rfl
def Sx (H:Hp) (zs:List V) (nss:List (List Nat)):Prop:=yP (fun z ns=>∃ a,z = .ref a /\ H a=some (.lst (zy ns))) zs nss
structure Bx72 (H:Hp) (as:List Addr) (nss:List (List Nat)):Prop where
 len:nss.length=as.length
 at_:∀ (j:Nat) (a:Addr),as[j]? = some a->H a=some (.lst (zy (nss.getD j [])))
theorem Bx72.ls {H:Hp} {as:List Addr} {nss:List (List Nat)} (h:Bx72 H as nss):Sx H (as.map V.ref) nss:=by
 refine yP.of_get (by rw [List.length_map,h.len]) fun i x hx=>?_
 rw [List.getElem?_map] at hx
 obtain ⟨a,ha,rfl⟩:=Option.map_eq_some_iff.mp hx
 have hi:i < nss.length:=by rw [h.len]; exact (List.getElem?_eq_some_iff.mp ha).1
 refine ⟨nss[i],List.getElem?_eq_getElem hi,a,rfl,?_⟩
 rw [h.at_ i a ha,List.getD_eq_getElem?_getD,List.getElem?_eq_getElem hi]; rfl
def XC:PyData->Bool
 | .tuple _=>true
 | _=>false
theorem rP {K:QM} (d:PyData):PySem.W.kitOne K (.type (JH d)) (.type "tuple")=some (XC d):=by cases d <;> rfl
def xO:PyData->Bool
 | .int _=>true
 | _=>false
def Td:PyData->Bool
 | .bool _=>true
 | _=>false
theorem rQ {d:PyData} (h:XC d=false) (n:Nat):¬ ∃ ns,yR n d ns:=by
 rintro ⟨ns,e,_⟩
 rw [e] at h; cases h
theorem Zi {K:QM} {m:List Addr} {H:Hp} {x:V} {d:PyData} (h:Od K m H x d) (ht:XC d=true):∃ r xs ds,x = .ref r /\ d = .tuple ds /\ Q1 K H r xs /\ Ods K m H xs ds:=by
 cases h <;> first | exact ⟨_,_,_,rfl,rfl,by assumption,by assumption⟩ | cases ht
theorem XD {K:QM} {m:List Addr} {H:Hp} {x:V} {d:PyData} (h:Od K m H x d) (hd:∀ kvs,d ≠ .dict kvs):∃ t,Ju K H x t /\ PySem.W.kitOne K (.type t) (.type "int")=some (xO d || Td d) /\ PySem.W.kitOne K (.type t) (.type "bool")=some (Td d) /\ tw x=xO d:=by
 cases h with
 | non=>exact ⟨"NoneType",rfl,rfl,rfl,rfl⟩
 | bl b=>exact ⟨"bool",rfl,rfl,rfl,rfl⟩
 | int i=>exact ⟨"int",rfl,rfl,rfl,rfl⟩
 | str y=>exact ⟨"str",rfl,rfl,rfl,rfl⟩
 | tup hs _=>exact ⟨"tuple",.inl ⟨rfl,_,hs⟩,rfl,rfl,rfl⟩
 | lst hs _ _ _=>exact ⟨"list",.inr (.inl ⟨rfl,_,Q0.of hs⟩),rfl,rfl,rfl⟩
 | dct=>exact absurd rfl (hd _)
theorem XE:∀ {ds:List PyData},ds.all xO=true -> ∃ zs:List Int,ds=zs.map PyData.int
 | [],_=>⟨[],rfl⟩
 | d :: ds,h=>by
  rw [List.all_cons,Bool.and_eq_true] at h
  obtain ⟨zs,e⟩:=XE h.2
  cases d with
  | int i=>exact ⟨i :: zs,by rw [e]; rfl⟩
  | _=>cases h.1
theorem vx {K:QM} {m:List Addr} {H:Hp}:∀ {xs:List V} {zs:List Int},Ods K m H xs (zs.map PyData.int)->xs=zs.map V.int
 | _,[],.nil=>rfl
 | _,k :: ns,.cons (.int _) t=>by rw [vx t]; rfl
theorem rR {n:Nat} {ds:List PyData} (h:∃ ns,yR n (.tuple ds) ns):ds.all xO=true:=by
 obtain ⟨ns,e,_⟩:=h
 injection e with e
 rw [e,List.all_map,List.all_eq_true]
 intro k _; rfl
theorem Z9 (n:Nat):((List.range n).map fun k:Nat=>(k:Int)).Pairwise (· <= ·):=by
 rw [List.pairwise_map]
 exact (List.pairwise_lt_range (n:=n)).imp fun h=>by omega
theorem rS {n:Nat} {zs ms:List Int} (hp:ms.Perm zs) (hs:ms.Pairwise (· <= ·)):ms=((List.range n).map fun k:Nat=>(k:Int)) ↔ ∃ ns,yR n (.tuple (zs.map PyData.int)) ns:=by
 constructor
 ·intro e
  have hz:zs.Perm ((List.range n).map fun k:Nat=>(k:Int)):=by rw [← e]; exact hp.symm
  have h0:∀ z ∈ zs,0<=z:=fun z hz'=>by
   obtain ⟨k,_,rfl⟩:=List.mem_map.mp (hz.mem_iff.mp hz')
   exact Int.natCast_nonneg k
  have ez:(zs.map Int.toNat).map (fun k:Nat=>(k:Int))=zs:=by
   rw [List.map_map]
   conv=>rhs; rw [← List.map_id zs]
   exact List.map_congr_left fun z hz'=>Int.toNat_of_nonneg (h0 z hz')
  refine ⟨zs.map Int.toNat,?_,?_⟩
  ·rw [show (zs.map PyData.int)=((zs.map Int.toNat).map (fun k:Nat=>(k:Int))).map PyData.int by rw [ez],List.map_map]; rfl
  ·have:=hz.map Int.toNat
   rw [List.map_map,show (Int.toNat ∘ fun k:Nat=>(k:Int))=id from funext fun k=>Int.toNat_natCast k,List.map_id] at this
   exact this
 ·rintro ⟨ns,e,hn⟩
  injection e with e
  have ez:zs=ns.map fun k:Nat=>(k:Int):=by
   have:zs.map PyData.int=(ns.map fun k:Nat=>(k:Int)).map PyData.int:=by rw [e,List.map_map]; rfl
   exact List.map_inj_right (fun _ _ h=>by injection h) |>.mp this
  refine Xw (hp.trans ?_) hs (Z9 n)
  rw [ez]
  exact hn.map _
theorem v4:∀ ms:List Int,(ms.map V.int).all vU=true
 | []=>rfl
 | _ :: ms=>by rw [List.map_cons,List.all_cons,v4 ms]; rfl
theorem yb (ns:List Nat):zy ns=(ns.map fun k:Nat=>(k:Int)).map V.int:=by unfold zy; rw [List.map_map]; rfl
theorem Zj (ns:List Nat):(zy ns).all vU=true:=by rw [yb]; exact v4 _
def vN (K:QM):Sp:=Jy fun x y H Q=>∃ b c,zI K H x b /\ yy K H y c /\ CallOk72 b.length c /\ ∀ H',Grow [] H H' -> Q (.bl true) H'
def Zk (K:QM):Sp:=Jy fun x y H Q=>∃ b cs,zI K H x b /\ 1<=b.length /\ b.length<=16 /\ zx K H y cs /\ Calls72 b.length cs /\ ∀ H',Grow [] H H' -> Q (.bl true) H'
def rT (K:QM):Sp:=Jy fun x y H Q=>∃ b cs,zI K H x b /\ 1<=b.length /\ b.length<=16 /\ zx K H y cs /\ Calls72 b.length cs /\ ∀ H',Grow [] H H' -> Q .non H'
def tK (K:QM):Sp:=Jy fun x y H Q=>∃ (d:PyData) (m:List Addr) (n:Nat),Od K m H x d /\ UJ d /\ Sw K H y (List.range n) /\ ∀ b H',Grow [] H H' -> (b=true ↔ ∃ ns,yR n d ns)->Q (.bl b) H'
def Zl (K:QM):Sp:=Jz fun x y z H Q=>∃ b cs ns,zI K H x b /\ zx K H y cs /\ xB K H z ns /\ (∀ c ∈ cs,CallOk72 b.length c) /\ (∀ k ∈ ns,k < cs.length) /\ ∀ H',Grow [] H H' -> Q (.bl (sY cs b ns)) H'
theorem y8 {H:Hp} {p r:Addr} (pp:JA H p) (h:H r=none):r ∉ [p]:=fun z=>by
 rw [List.mem_singleton.mp z] at h
 obtain ⟨_,_,e,_⟩:=pp
 rw [e] at h; cases h
def XF (K:QM):Sp:=Jy fun x y H Q=>∃ a ns k,x = .ref a /\ y = .int k /\ Jv K H a ns /\ 0<=k /\ ∀ n:Int,(n=0 \/ n ∈ ns)->Q (.int n) H
def JJ (n:Int):Prop:=-(10 ^ 27)<=n /\ n<=10 ^ 27
def sy (_:QM):Sp:=Jy fun x y H Q=>∃ (p:Addr) (b:Bool),x = .ref p /\ y = .bl b /\ JA H p /\ ∀ n H',JJ n->Grow [p] H H' -> JA H' p->Q (.int n) H'
def rV (K:QM):Sp:=Jy fun x y H Q=>∃ (p:Addr) (b:Bool),x = .ref p /\ y = .bl b /\ JA H p /\ ∀ d v H',d.Ok->d.Bd (10 ^ 27+6)->Grow [p] H H' -> JA H' p->rE K H' v d->Q v H'
def XG:List Int->List Call72->Option (List Int)
 | vs,[]=>some vs
 | vs,c :: r=>if vs.getD c.box.toNat 0=c.answer then XG (vs.set c.box.toNat (c.deed.mk' c.answer)) r else none
theorem Te {cs:List Call72}:∀ {ns:List Nat} {vs:List Int},sY cs vs ns=(XG vs (ns.map (cg cs))).isSome
 | [],_=>rfl
 | k :: r,vs=>by
  rw [vw]
  show _=(if vs.getD (cg cs k).box.toNat 0=(cg cs k).answer then XG (vs.set (cg cs k).box.toNat ((cg cs k).deed.mk' (cg cs k).answer)) (r.map (cg cs)) else none).isSome
  split
  ·exact Te
  ·rfl
theorem jh {c:Call72}:∀ {cs:List Call72} {vs ws:List Int},XG vs cs=some ws->ws.getD c.box.toNat 0=c.answer->XG vs (cs ++ [c])=some (ws.set c.box.toNat (c.deed.mk' c.answer))
 | [],vs,ws,h,ha=>by
  cases h
  show (if vs.getD c.box.toNat 0=c.answer then _ else none)=_
  rw [if_pos ha]; rfl
 | e :: r,vs,ws,h,ha=>by
  have h':(if vs.getD e.box.toNat 0=e.answer then XG (vs.set e.box.toNat (e.deed.mk' e.answer)) r else none)=some ws:=h
  show (if vs.getD e.box.toNat 0=e.answer then XG (vs.set e.box.toNat (e.deed.mk' e.answer)) (r ++ [c]) else none)=_
  by_cases hv:vs.getD e.box.toNat 0=e.answer
  ·rw [if_pos hv] at h' ⊢
   exact jh h' ha
  ·rw [if_neg hv] at h'; cases h'
structure Cb72 (B:Int) (c:Call72):Prop where
 hand:-B<=c.hand /\ c.hand<=B
 box:-B<=c.box /\ c.box<=B
 deed:c.deed.Bd B
 begun:-B<=c.begun /\ c.begun<=B
 ended:-B<=c.ended /\ c.ended<=B
 answer:-B<=c.answer /\ c.answer<=B
theorem VF {m:Nat} {cs:List Call72} (ok:∀ c ∈ cs,CallOk72 m c) {b:Int} (h:¬ (0<=b /\ b < m)):x6 b cs=0:=by
 unfold x6
 rw [List.countP_eq_zero]
 intro c hc
 have:=(ok c hc).b0; have:=(ok c hc).b1
 rw [decide_eq_true_eq]
 omega
theorem VG {b:Int} {cs ds:List Call72} (h:cs.Perm ds):x6 b cs=x6 b ds:=h.countP_eq _
theorem Calls72.perm {m:Nat} {cs ds:List Call72} (h:Calls72 m cs) (p:ds.Perm cs):Calls72 m ds:=⟨by rw [p.length_eq]; exact h.len,fun c hc=>h.ok c (p.mem_iff.mp hc),fun b=>by rw [VG p]; exact h.few b⟩
theorem XH {ms:List Nat} (nd:ms.Nodup):ms.map (fun j=>ms.idxOf j)=List.range ms.length:=by
 refine List.ext_getElem (by rw [List.length_map,List.length_range]) fun i h1 h2=>?_
 rw [List.getElem_map,List.getElem_range]
 exact nd.idxOf_getElem i (by rw [List.length_map] at h1; exact h1)
theorem tL {ms:List Nat} {n:Nat} (h:ms.Perm (List.range n)):((List.range n).map fun j=>ms.idxOf j).Perm (List.range n):=by
 have nd:ms.Nodup:=h.nodup_iff.mpr List.nodup_range
 have:=h.symm.map fun j=>ms.idxOf j
 rw [XH nd,h.length_eq,List.length_range] at this
 exact this
theorem XI {cs:List Call72}:(List.range cs.length).map (cg cs)=cs:=by
 refine List.ext_getElem (by rw [List.length_map,List.length_range]) fun i h1 h2=>?_
 rw [List.getElem_map,List.getElem_range]
 exact yA (List.getElem?_eq_getElem h2)
theorem Zm {ms:List Nat} {cs:List Call72} (h:ms.Perm (List.range cs.length)):((List.range cs.length).map fun j=>ms.idxOf j).map (cg (ms.map (cg cs)))=cs:=by
 conv=>rhs; rw [← XI (cs:=cs)]
 rw [List.map_map]
 refine List.map_congr_left fun j hj=>?_
 have hm:j ∈ ms:=h.mem_iff.mpr hj
 have hi:=List.idxOf_lt_length_of_mem hm
 show cg (ms.map (cg cs)) (ms.idxOf j)=cg cs j
 rw [yA (c:=cg cs j)]
 rw [List.getElem?_map,List.getElem?_eq_getElem hi,List.getElem_idxOf hi]; rfl
theorem wB {ms:List Nat} {cs:List Call72} (h:ms.Perm (List.range cs.length)):(ms.map (cg cs)).Perm cs:=by
 have:=h.map (cg cs)
 rw [XI] at this
 exact this
theorem Grow.shrinkTo {H H':Hp} {m m':List Addr} (h:∀ a ∈ m,a ∈ m' \/ H a=none) (g:Grow m H H'):Grow m' H H' :=
 ⟨fun b o hb q=>g.keep b o (fun z=>by rcases h b z with h | h; exact hb h; rw [h] at q; cases q) q,g.tup,g.frz⟩
theorem VH (n:Nat):(List.replicate n [V.int 8]).flatten=zy (List.replicate n 8):=by
 induction n with
 | zero=>rfl
 | succ n ih=>rw [List.replicate_succ,List.flatten_cons,ih]; rfl
theorem XJ (n:Nat):(List.replicate n 8).sum=8 * n:=by
 induction n with
 | zero=>rfl
 | succ n ih=>rw [List.replicate_succ,List.sum_cons,ih]; omega
theorem XL:∀ {l:List Nat} {j x:Nat},l[j]? = some x->0 < x->(l.set j (x - 1)).sum+1=l.sum
 | [],_,_,h,_=>by cases h
 | a :: l,0,x,h,h0=>by
  have e:a=x:=Option.some.inj h
  subst e
  show a - 1+l.sum+1=a+l.sum
  omega
 | a :: l,j+1,x,h,h0=>by
  have:=XL (l:=l) (j:=j) h h0
  show a+(l.set j (x - 1)).sum+1=a+l.sum
  omega
theorem rW:∀ {l:List Nat},0 < l.sum -> ∃ x ∈ l,0 < x
 | [],h=>absurd h (by simp)
 | a :: l,h=>by
  rcases Nat.eq_zero_or_pos a with e | e
  ·have h':0 < a+l.sum:=h
   obtain ⟨x,hx,h0⟩:=rW (l:=l) (by omega)
   exact ⟨x,List.mem_cons_of_mem _ hx,h0⟩
  ·exact ⟨a,List.mem_cons_self ..,e⟩
theorem Ya {α:Type} {l:List α} {i:Nat} {c:α} (h:l[i]? = some c):l=l.take i ++ [c] ++ l.drop (i+1):=by
 obtain ⟨hlt,e⟩:=List.getElem?_eq_some_iff.mp h
 conv=>lhs; rw [← List.take_append_drop i l,List.drop_eq_getElem_cons hlt,e]
 rw [List.append_assoc]; rfl
theorem sA {b:Int} {a d:List Call72}:x6 b (a ++ d)=x6 b a+x6 b d:=List.countP_append
theorem XM {b:Int} {c:Call72}:x6 b [c]=if c.box=b then 1 else 0:=by
 have:=Zh (b:=b) (cs:=[]) (c:=c)
 rw [List.nil_append] at this
 rw [this]; exact Nat.zero_add _
theorem Calls72.spoil {n i:Nat} {cs:List Call72} {c c':Call72} (h:Calls72 n cs) (hi:cs[i]? = some c) (hb:c'.box=c.box) (ok:CallOk72 n c'):Calls72 n (cs.take i ++ [c'] ++ cs.drop (i+1)):=by
 have e:=Ya hi
 refine ⟨?_,fun x hx=>?_,fun b=>?_⟩
 ·have:=congrArg List.length e
  rw [List.length_append,List.length_append,List.length_singleton] at this ⊢
  have:=h.len
  omega
 ·rcases List.mem_append.mp hx with hx | hx
  ·rcases List.mem_append.mp hx with hx | hx
   ·exact h.ok x (List.mem_of_mem_take hx)
   ·rw [List.mem_singleton.mp hx]; exact ok
  ·exact h.ok x (List.mem_of_mem_drop hx)
 ·have f:=h.few b
  rw [e,sA,sA,XM] at f
  rw [sA,sA,XM,hb]
  exact f
theorem Cb72.mono {B C:Int} {c:Call72} (h:Cb72 B c) (hB:B<=C):Cb72 C c:=⟨by have:=h.hand; omega,by have:=h.box; omega,h.deed.mono hB,by have:=h.begun; omega,by have:=h.ended; omega,by have:=h.answer; omega⟩
theorem ji {X:Cx} {K:QM} {k:Nat} (hK:X.K=K) (hr:Room k X.A):Q8 X (compareOp .Eq) (fun x y H Q=>∃ a b xs,x = .ref a /\ y = .ref b /\ Q1 K H a xs /\ Q1 K H b [] /\ Q (.bl xs.isEmpty) H):=by
 subst hK
 intro pins s σ H x y v u Q I rx ry h
 obtain ⟨a,b,xs,rfl,rfl,ha,hb,q⟩:=h
 cases rx; cases ry
 obtain ⟨us,r1,t1,_⟩:=I.tuple ha
 obtain ⟨ws,r2,t2,_⟩:=I.tuple hb
 have hw:ws.length=0:=r2.length.symm
 refine SeqAt.eq_tupleAt (e:=fun _=>true) (ym t1) (ym t2) hr.units0 (fun j h1 h2=>absurd h2 (by simp; omega)) ?_
 have e:((List.range (min us.toArray.size ws.toArray.size)).all (fun _=>true) && us.toArray.size == ws.toArray.size)=xs.isEmpty:=by
  rw [List.size_toArray,List.size_toArray,hw,← r1.length]
  cases xs with
  | nil=>rfl
  | cons a r=>simp
 rw [e]
 exact ⟨.bl _,H,I,rfl,q⟩
def wp (c:Call72):PyData:=.tuple [.int c.hand,.int c.box,jb c.deed,.int c.begun,.int c.ended,.int c.answer]
theorem Yb {K:QM} {m:List Addr} {H:Hp} {x:V} {b:List Int} (h:zI K H x b):Od K m H x (.tuple (b.map PyData.int)):=by
 obtain ⟨r,rfl,hs⟩:=h
 refine .tup hs ?_
 clear hs
 induction b with
 | nil=>exact .nil
 | cons a b ih=>exact .cons (.int a) ih
theorem XN {K:QM} {m:List Addr} {H:Hp}:∀ {o:Option Int},Od K m H (ov o) (oD o)
 | none=>.non
 | some _=>.int _
theorem XO {K:QM} {m:List Addr} {H:Hp} {x:V} {c:Call72} (h:yy K H x c):Od K m H x (wp c):=by
 obtain ⟨r,rd,rfl,h1,h2⟩:=h
 exact .tup h1 (.cons (.int _) (.cons (.int _) (.cons (.tup h2 (.cons (.int _) (.cons XN (.cons XN .nil)))) (.cons (.int _) (.cons (.int _) (.cons (.int _) .nil))))))
theorem ut {K:QM} {m:List Addr} {H:Hp}:∀ {xs:List V} {cs:List Call72},yP (yy K H) xs cs->Ods K m H xs (cs.map wp)
 | [],[],_=>.nil
 | [],_ :: _,h=>h.elim
 | _ :: _,[],h=>h.elim
 | _ :: _,_ :: _,h=>.cons (XO h.1) (ut h.2)
theorem Yc {K:QM} {m:List Addr} {H:Hp} {x:V} {cs:List Call72} (h:zx K H x cs):Od K m H x (.tuple (cs.map wp)):=by
 obtain ⟨r,xs,rfl,h1,h2⟩:=h
 exact .tup h1 (ut h2)
theorem uu {w:Nat}:∀ {ds:List PyData},(∀ d ∈ ds,wtO d<=w)->wtOs ds<=ds.length * (w+2)
 | [],_=>by simp [wtOs]
 | d :: ds,h=>by
  have h1:=h d (List.mem_cons_self ..)
  have h2:=uu (ds:=ds) fun e he=>h e (List.mem_cons_of_mem _ he)
  show wtO d+2+wtOs ds<=(ds.length+1) * (w+2)
  rw [Nat.succ_mul]; omega
theorem y9 {B:Int} {i:Int} (h:-B<=i /\ i<=B):leD B (.int i)=true:=by
 show (decide (-B<=i) && decide (i<=B))=true
 rw [decide_eq_true h.1,decide_eq_true h.2]; rfl
theorem XQ {B:Int} {o:Option Int} (h:∀ l,o=some l -> -B<=l /\ l<=B):leD B (oD o)=true:=by
 cases o with
 | none=>rfl
 | some l=>exact y9 (h l rfl)
theorem XR {B:Int} {c:Call72} (h:Cb72 B c):leD B (wp c)=true:=by
 show leDs B [.int c.hand,.int c.box,jb c.deed,.int c.begun,.int c.ended,.int c.answer]=true
 have e:leD B (jb c.deed)=true:=by
  show leDs B [.int c.deed.add,oD c.deed.lo,oD c.deed.hi]=true
  rw [xn]
  intro x hx
  rcases List.mem_cons.mp hx with rfl | hx
  ·exact y9 h.deed.1
  rcases List.mem_cons.mp hx with rfl | hx
  ·exact XQ h.deed.2.1
  rw [List.mem_singleton.mp hx]; exact XQ h.deed.2.2
 rw [xn]
 intro x hx
 rcases List.mem_cons.mp hx with rfl | hx
 ·exact y9 h.hand
 rcases List.mem_cons.mp hx with rfl | hx
 ·exact y9 h.box
 rcases List.mem_cons.mp hx with rfl | hx
 ·exact e
 rcases List.mem_cons.mp hx with rfl | hx
 ·exact y9 h.begun
 rcases List.mem_cons.mp hx with rfl | hx
 ·exact y9 h.ended
 rw [List.mem_singleton.mp hx]; exact y9 h.answer
theorem XS (o:Option Int):(oD o).depth=0:=by cases o <;> rfl
theorem XT:∀ o:Option Int,wtO (oD o)<=1921
 | none=>by decide
 | some _=>Nat.le_refl _
theorem XU (c:Call72):(wp c).depth<=2:=by
 show (PyData.tuple [.int c.hand,.int c.box,jb c.deed,.int c.begun,.int c.ended,.int c.answer]).depth<=2
 have e:(jb c.deed).depth<=1:=by
  show PyData.depthAll [.int c.deed.add,oD c.deed.lo,oD c.deed.hi]+1<=1
  have:PyData.depthAll [.int c.deed.add,oD c.deed.lo,oD c.deed.hi]<=0:=yi.mpr fun x hx=>by
   rcases List.mem_cons.mp hx with rfl | hx
   ·exact Nat.le_refl _
   rcases List.mem_cons.mp hx with rfl | hx
   ·rw [XS]; exact Nat.le_refl _
   rw [List.mem_singleton.mp hx,XS]; exact Nat.le_refl _
  omega
 show PyData.depthAll [.int c.hand,.int c.box,jb c.deed,.int c.begun,.int c.ended,.int c.answer]+1<=2
 have:PyData.depthAll [.int c.hand,.int c.box,jb c.deed,.int c.begun,.int c.ended,.int c.answer]<=1:=yi.mpr fun x hx=>by
  rcases List.mem_cons.mp hx with rfl | hx
  ·exact Nat.zero_le _
  rcases List.mem_cons.mp hx with rfl | hx
  ·exact Nat.zero_le _
  rcases List.mem_cons.mp hx with rfl | hx
  ·exact e
  rcases List.mem_cons.mp hx with rfl | hx
  ·exact Nat.zero_le _
  rcases List.mem_cons.mp hx with rfl | hx
  ·exact Nat.zero_le _
  rw [List.mem_singleton.mp hx]; exact Nat.zero_le _
 omega
theorem XV (c:Call72):wtO (wp c)<=20000:=by
 have h1:=XT c.deed.lo
 have h2:=XT c.deed.hi
 have e:wtO (wp c)=1921+2+(1921+2+((1921+2+(wtO (oD c.deed.lo)+2+(wtO (oD c.deed.hi)+2+0))+3)+2+(1921+2+(1921+2+(1921+2+0)))))+3:=rfl
 omega
def xf (b:List Int) (cs:List Call72) (ds:List PyData):PyData:=.tuple [.tuple (b.map PyData.int),.tuple (cs.map wp),.list ds]
theorem Tf {b:List Int} {cs:List Call72} {ds:List PyData} (b16:b.length<=16) (bb:∀ v ∈ b,JJ v) (c40:cs.length<=40) (bd:∀ c ∈ cs,Cb72 (10 ^ 29+5) c) (d30:ds.length<=30) (hd:∀ d ∈ ds,GdD 10 5 130000 d) :
  (xf b cs ds).showable=true /\ (xf b cs ds).depth<=60 /\ (xf b cs ds).shown.length<=sizeLine:=by
 have hB:(10:Int) ^ 30+10<=Bg:=RO (n:=10) (by decide)
 have s:(xf b cs ds).showable=true:=by
  refine showable_le hB ?_
  show leDs _ [.tuple (b.map PyData.int),.tuple (cs.map wp),.list ds]=true
  rw [xn]
  intro x hx
  rcases List.mem_cons.mp hx with rfl | hx
  ·show leDs _ (b.map PyData.int)=true
   rw [xn]
   intro y hy
   obtain ⟨v,hv,rfl⟩:=List.mem_map.mp hy
   refine y9 ?_
   have:=bb v hv
   unfold JJ at this
   omega
  rcases List.mem_cons.mp hx with rfl | hx
  ·show leDs _ (cs.map wp)=true
   rw [xn]
   intro y hy
   obtain ⟨c,hc,rfl⟩:=List.mem_map.mp hy
   exact XR ((bd c hc).mono (by decide))
  rw [List.mem_singleton.mp hx]
  show leDs _ ds=true
  rw [xn]
  exact fun d h=>(hd d h).le
 refine ⟨s,?_,?_⟩
 ·show PyData.depthAll [.tuple (b.map PyData.int),.tuple (cs.map wp),.list ds]+1<=60
  have:PyData.depthAll [.tuple (b.map PyData.int),.tuple (cs.map wp),.list ds]<=10:=yi.mpr fun x hx=>by
   rcases List.mem_cons.mp hx with rfl | hx
   ·have:PyData.depthAll (b.map PyData.int)<=0:=yi.mpr fun y hy=>by
     obtain ⟨v,_,rfl⟩:=List.mem_map.mp hy
     exact Nat.le_refl _
    show PyData.depthAll (b.map PyData.int)+1<=10
    omega
   rcases List.mem_cons.mp hx with rfl | hx
   ·have:PyData.depthAll (cs.map wp)<=2:=yi.mpr fun y hy=>by
     obtain ⟨v,_,rfl⟩:=List.mem_map.mp hy
     exact XU v
    show PyData.depthAll (cs.map wp)+1<=10
    omega
   rw [List.mem_singleton.mp hx]
   have:PyData.depthAll ds<=5:=yi.mpr fun y hy=>(hd y hy).dp
   show PyData.depthAll ds+1<=10
   omega
  omega
 ·refine Nat.le_trans (shown_le s) ?_
  have w1:=uu (w:=1921) (ds:=b.map PyData.int) (fun d h=>by obtain ⟨v,_,rfl⟩:=List.mem_map.mp h; exact Nat.le_refl _)
  have w2:=uu (w:=20000) (ds:=cs.map wp) (fun d h=>by obtain ⟨v,_,rfl⟩:=List.mem_map.mp h; exact XV v)
  have w3:=uu (w:=130000) (ds:=ds) fun d h=>(hd d h).wt
  rw [List.length_map] at w1 w2
  have m1:b.length * (1921+2)<=16 * (1921+2):=Nat.mul_le_mul_right _ b16
  have m2:cs.length * (20000+2)<=40 * (20000+2):=Nat.mul_le_mul_right _ c40
  have m3:ds.length * (130000+2)<=30 * (130000+2):=Nat.mul_le_mul_right _ d30
  have e:wtO (xf b cs ds)=(wtOs (b.map PyData.int)+3)+2+((wtOs (cs.map wp)+3)+2+((wtOs ds+3)+2+0))+3:=rfl
  have:(16000000:Nat)<=sizeLine:=by decide
  omega
def tM (K:QM):Sp:=Jy fun x y H Q=>∃ (p l:Addr) (xs:List V) (cs:List Call72),x = .ref p /\ y = .ref l /\ JA H p /\ H l=some (.lst xs) /\ l ≠ p /\ yP (yy K H) xs cs /\ cs.length<=40 ∧
 ∀ (ms:List Nat) (r ro:Addr) (yc:V) H',ms.Perm (List.range cs.length)->Grow [p] H H' -> JA H' p->Q1 K H' r [yc,.ref ro]->zx K H' yc (ms.map (cg cs))->JI H' ro (zy ((List.range cs.length).map fun j=>ms.idxOf j))->Q (.ref r) H'
section
variable {X:Cx} {K:QM}
def Tg:R2:=fun x y H Q=>∃ l b xs zs,x = .ref l /\ y = .ref b /\ H l=some (.lst xs) /\ H b=some (.lst zs) /\ xs.length+zs.length<=sizeLine /\ ∀ p,H p=none->p ≠ sysModules->Q (.ref p) (QP H p (.lst (xs ++ zs)))
theorem XW:Q8 X (binaryOp .Add) Tg:=by
 intro pins s σ H x y v u Q I rx ry h
 obtain ⟨l,b,xs,zs,rfl,rfl,hH,hB,hz,q⟩:=h
 cases rx
 cases ry
 obtain ⟨z,its,n,r,hl,e⟩:=I.lstM hH
 obtain ⟨z2,its2,n2,r2,hl2,e2⟩:=I.lstM hB
 refine PySem.P.add_list e e2 ?_ (by rw [List.size_toArray,List.size_toArray]; omega)
 have ea:its.toArray ++ its2.toArray=(its ++ its2).toArray:=by simp
 rw [ea]
 exact ⟨.ref _,_,I.lnew (t':=s.toks) (r.append r2) (by rw [List.length_append]; omega),rfl,q _ I.fresh (Nat.ne_of_gt (Xy I))⟩
end
def JK (K:QM) (p:Addr) (H:Hp) (v:V):Prop:=∃ d,Od K [p] H v d /\ (∀ kvs,d ≠ .dict kvs) /\ GdD 10 2 1935 d
def JL (K:QM) (p:Addr) (H:Hp) (v:V):Prop:=∃ d,Od K [p] H v d /\ UJ d /\ GdD 10 5 130000 d
section
variable {K:QM} {p:Addr} {H H':Hp} {v:V}
theorem JL.grow (h:JL K p H v) (g:Grow [p] H H'):JL K p H' v:=by
 obtain ⟨d,a,b,c⟩:=h
 exact ⟨d,a.grow g,b,c⟩
theorem Sy {i:Int} (h:-(10 ^ 20)<=i /\ i<=10 ^ 20):GdD 10 0 1921 (.int i):=⟨y9 ⟨by omega,by omega⟩,Nat.le_refl _,Nat.le_refl _⟩
theorem JK.int {i:Int} (h:-(10 ^ 20)<=i /\ i<=10 ^ 20):JK K p H (.int i):=⟨_,.int i,(fun _ z=>nomatch z),(Sy h).mono (by decide) (by decide) (by decide)⟩
theorem JK.non:JK K p H .non:=⟨_,.non,(fun _ z=>nomatch z),⟨rfl,Nat.zero_le _,by decide⟩⟩
theorem JK.bl (b:Bool):JK K p H (.bl b):=⟨_,.bl b,(fun _ z=>nomatch z),⟨rfl,Nat.zero_le _,by cases b <;> decide⟩⟩
theorem XX:∀ k,k < 41->(reprText (Str.ofString (toString ((k:Nat):Int)))).length<=10:=by decide +kernel
theorem JK.num {k:Nat} (h:k < 41):JK K p H (.str (Str.ofString (toString (k:Int)))):=⟨_,.str _,(fun _ z=>nomatch z),⟨rfl,Nat.zero_le _,Nat.le_trans (XX k h) (by decide)⟩⟩
theorem VI:∀ {vs:List V},(∀ v ∈ vs,JK K p H v) -> ∃ ds,Ods K [p] H vs ds /\ (∀ d ∈ ds,∀ kvs,d ≠ .dict kvs) /\ ∀ d ∈ ds,GdD 10 2 1935 d
 | [],_=>⟨[],.nil,(fun _ h=>nomatch h),fun _ h=>nomatch h⟩
 | v :: vs,h=>by
  obtain ⟨d,a,b,c⟩:=h v (List.mem_cons_self ..)
  obtain ⟨ds,o,nd,gd⟩:=VI fun w hw=>h w (List.mem_cons_of_mem _ hw)
  refine ⟨d :: ds,.cons a o,fun e he=>?_,fun e he=>?_⟩
  ·rcases List.mem_cons.mp he with rfl | he
   ·exact b
   ·exact nd e he
  ·rcases List.mem_cons.mp he with rfl | he
   ·exact c
   ·exact gd e he
theorem Th {ds:List PyData} (hl:ds.length < 64) (gd:∀ d ∈ ds,GdD 10 2 1935 d):GdS 10 2 122100 ds:=by
 refine ⟨xn.mpr fun d h=>(gd d h).le,yi.mpr fun d h=>(gd d h).dp,?_⟩
 have:=uu (w:=1935) fun d h=>(gd d h).wt
 have:ds.length * (1935+2)<=63 * (1935+2):=Nat.mul_le_mul_right _ (by omega)
 omega
theorem JL.tup {r:Addr} {vs:List V} (h:Q1 K H r vs) (hl:vs.length < 64) (he:∀ v ∈ vs,JK K p H v):JL K p H (.ref r):=by
 obtain ⟨ds,o,nd,gd⟩:=VI he
 have dl:ds.length < 64:=by rw [← o.length]; exact hl
 refine ⟨.tuple ds,.tup h o,fun es e=>?_,((Th dl gd).tup).mono (by decide) (by decide) (by decide)⟩
 injection e with e
 rw [← e]
 exact ⟨dl,nd⟩
theorem JL.lst {l:Addr} {vs:List V} (h:H l=some (.lst vs)) (n1:l ∉ [p]) (n2:l ≠ sysModules) (hl:vs.length < 64) (he:∀ v ∈ vs,JK K p H v):JL K p H (.ref l):=by
 obtain ⟨ds,o,nd,gd⟩:=VI he
 have dl:ds.length < 64:=by rw [← o.length]; exact hl
 exact ⟨.list ds,.lst h n1 n2 o,(fun _ e=>nomatch e),((Th dl gd).lst).mono (by decide) (by decide) (by decide)⟩
theorem JL.one {r ro:Addr} {vs:List V} (h:Q1 K H r [.ref ro]) (ho:Q1 K H ro vs) (hl:vs.length < 64) (he:∀ v ∈ vs,JK K p H v):JL K p H (.ref r):=by
 obtain ⟨ds,o,nd,gd⟩:=VI he
 have dl:ds.length < 64:=by rw [← o.length]; exact hl
 refine ⟨.tuple [.tuple ds],.tup h (.cons (.tup ho o) .nil),fun es e=>?_,(((Th dl gd).tup.one).tup).mono (by decide) (by decide) (by decide)⟩
 injection e with e
 rw [← e]
 exact ⟨(show (1:Nat) < 64 by decide),fun e he kvs z=>by rw [List.mem_singleton.mp he] at z; cases z⟩
theorem JL.of_e (h:JK K p H v) (ht:∀ r,v ≠ .ref r):JL K p H v:=by
 obtain ⟨d,a,b,c⟩:=h
 refine ⟨d,a,fun ds e=>?_,c.mono (by decide) (by decide) (by decide)⟩
 subst e
 obtain ⟨r,_,e,_⟩:=a.inv_tup
 exact absurd e (ht r)
theorem UK:∀ {xs:List V},(∀ v ∈ xs,JL K p H v) -> ∃ ds,Ods K [p] H xs ds /\ ∀ d ∈ ds,UJ d /\ GdD 10 5 130000 d
 | [],_=>⟨[],.nil,fun _ h=>nomatch h⟩
 | v :: vs,h=>by
  obtain ⟨d,a,b,c⟩:=h v (List.mem_cons_self ..)
  obtain ⟨ds,o,gd⟩:=UK fun w hw=>h w (List.mem_cons_of_mem _ hw)
  refine ⟨d :: ds,.cons a o,fun e he=>?_⟩
  rcases List.mem_cons.mp he with rfl | he
  ·exact ⟨b,c⟩
  ·exact gd e he
end
def JM (v:V):Prop:=∃ k:Nat,k < 41 /\ v = .int k
theorem JM.e {K:QM} {p:Addr} {H:Hp} {v:V} (h:JM v):JK K p H v:=by
 obtain ⟨k,hk,rfl⟩:=h
 exact JK.int ⟨by omega,by omega⟩
theorem UL {ns:List Nat} (h:∀ k ∈ ns,k < 40):∀ v ∈ zy ns,JM v:=fun v hv=>by
 obtain ⟨k,hk,rfl⟩:=List.mem_map.mp hv
 exact ⟨k,by have:=h k hk; omega,rfl⟩
theorem XY {xs:List V} {lo hi:Option Int} {v:V} (h:v ∈ vm xs lo hi):v ∈ xs:=List.mem_of_mem_drop (List.mem_of_mem_take h)
theorem vW {xs:List V} {lo hi:Option Int} (h:∀ v ∈ xs,JM v):∀ v ∈ vm xs lo hi,JM v:=fun v hv=>h v (XY hv)
theorem XZ {xs ys:List V} (h:∀ v ∈ xs,JM v) (h':∀ v ∈ ys,JM v):∀ v ∈ xs ++ ys,JM v:=fun v hv=>(List.mem_append.mp hv).elim (h v) (h' v)
theorem X0 {K:QM} {p:Addr} {H:Hp} {xs ys:List V} (h:∀ v ∈ xs,JK K p H v) (h':∀ v ∈ ys,JK K p H v):∀ v ∈ xs ++ ys,JK K p H v:=fun v hv=>(List.mem_append.mp hv).elim (h v) (h' v)
theorem Ti {K:QM} {p:Addr} {H:Hp} {x:V} (h:JK K p H x):∀ v ∈ [x],JK K p H v:=fun v hv=>by rw [List.mem_singleton.mp hv]; exact h
theorem JN {K:QM} {p:Addr} {H:Hp} {xs:List V} (h:∀ v ∈ xs,JM v):∀ v ∈ xs,JK K p H v:=fun v hv=>(h v hv).e
theorem Zn {K:QM} {p:Addr} {H H':Hp} {xs:List V} (h:∀ v ∈ xs,JL K p H v) (g:Grow [p] H H'):∀ v ∈ xs,JL K p H' v:=fun v hv=>(h v hv).grow g
theorem xp {K:QM} {p:Addr} {H:Hp} {x:V} {xs:List V} (hx:JL K p H x) (h:∀ v ∈ xs,JL K p H v):∀ v ∈ x :: xs,JL K p H v:=fun v hv=>by
 rcases List.mem_cons.mp hv with rfl | hv
 ·exact hx
 ·exact h v hv
theorem VJ {K:QM} {p:Addr} {H:Hp}:∀ v ∈ ([]:List V),JL K p H v:=fun _ h=>nomatch h
theorem Tj {K:QM} {p:Addr} {H:Hp} {xs ys:List V} (h:∀ v ∈ xs,JL K p H v) (h':∀ v ∈ ys,JL K p H v):∀ v ∈ xs ++ ys,JL K p H v:=fun v hv=>(List.mem_append.mp hv).elim (h v) (h' v)
theorem X1 (xs:List V) (i:Nat):(vm xs (some (i:Int)) (some ((i:Int)+1))).length<=1:=by
 unfold vm
 rw [show (i:Int)+1=((i+1:Nat):Int) from by omega,HT.sIx_nat,HT.sIx_nat,List.length_take]
 omega
structure S72 (K:QM) (p:Addr) (H:Hp) (l:Addr) (xs:List V) (n:Nat):Prop where
 at_:H l=some (.lst xs)
 gd:∀ v ∈ xs,JL K p H v
 ne:l ∉ [p]
 len:xs.length<=n
theorem S72.grow {K:QM} {p:Addr} {H H':Hp} {l:Addr} {xs:List V} {n:Nat} (h:S72 K p H l xs n) (g:Grow [p] H H'):S72 K p H' l xs n:=⟨g.keep _ _ h.ne h.at_,Zn h.gd g,h.ne,h.len⟩
theorem Sz {ms ns:List Nat} (h:ms.Perm ns) (hl:∀ k ∈ ns,k < 40):∀ k ∈ ms,k < 40:=fun k hk=>hl k (h.mem_iff.mp hk)
theorem rX {K:QM} {m:List Addr} {H:Hp} {r:Addr} {ns:List Nat} (h:Q1 K H r (zy ns)):Od K m H (.ref r) (.tuple (ns.map fun k:Nat=>PyData.int (k:Int))):=by
 refine .tup h ?_
 clear h
 induction ns with
 | nil=>exact .nil
 | cons a b ih=>exact .cons (.int _) ih
theorem rY {ns:List Nat} (h:ns.length < 64):UJ (.tuple (ns.map fun k:Nat=>PyData.int (k:Int))):=fun ds e=>by
 injection e with e
 rw [← e]
 refine ⟨by rw [List.length_map]; exact h,fun d hd kvs z=>?_⟩
 obtain ⟨k,_,rfl⟩:=List.mem_map.mp hd
 cases z
def wW (t:Nat) (o:List Nat):Prop:=∀ j,t.testBit j=true ↔ j ∈ o
theorem wW.nil:wW 0 []:=fun j=>by simp
theorem wW.or {t n:Nat} {o:List Nat} (h:wW t o):wW (t ||| 2 ^ n) (o ++ [n]):=fun j=>by
 rw [Nat.testBit_or,Bool.or_eq_true,h j,Nat.testBit_two_pow,decide_eq_true_eq,List.mem_append,List.mem_singleton]
 exact or_congr Iff.rfl ⟨fun e=>e.symm,fun e=>e.symm⟩
def Va (l:List Nat):Nat:=l.foldl (fun m i=>m ||| 2 ^ i) 0
theorem Zo:∀ {l o:List Nat} {t:Nat},wW t o->wW (l.foldl (fun m i=>m ||| 2 ^ i) t) (o ++ l)
 | [],o,t,h=>by rw [List.append_nil]; exact h
 | i :: l,o,t,h=>by
  have:=Zo (l:=l) (h.or (n:=i))
  rw [List.append_assoc] at this; exact this
theorem X2 (l:List Nat):wW (Va l) l:=by
 have:=Zo (l:=l) wW.nil
 rwa [List.nil_append] at this
theorem X3 {l:List Nat} {i:Nat}:Va (l ++ [i])=Va l ||| 2 ^ i:=by unfold Va; rw [List.foldl_append]; rfl
theorem X4:∀ {l:List Nat} {n t:Nat},t < 2 ^ n->(∀ i ∈ l,i < n)->l.foldl (fun m i=>m ||| 2 ^ i) t < 2 ^ n
 | [],_,_,h,_=>h
 | i :: l,n,t,h,hl=>X4 (l:=l) (Nat.or_lt_two_pow h (Nat.pow_lt_pow_right (by decide) (hl i (List.mem_cons_self ..)))) fun j hj=>hl j (List.mem_cons_of_mem _ hj)
theorem Zp:∀ {n:Nat} {l:List Nat},l.length=n->l.Pairwise (· < ·)->(l.map fun i=>2 ^ i).sum=Va l
 | 0,l,h,_=>by rw [List.length_eq_zero_iff.mp h]; rfl
 | n+1,l,h,pw=>by
  have hl:l ≠ []:=fun z=>by rw [z] at h; cases h
  have e:=(List.dropLast_concat_getLast hl).symm
  generalize l.dropLast=m at e
  generalize l.getLast hl=i at e
  subst e
  rw [List.length_append] at h
  have pm:=(List.pairwise_append.mp pw)
  rw [List.map_append,List.sum_append,Zp (n:=n) (by simpa using h) pm.1,X3]
  have lt:Va m < 2 ^ i:=X4 (Nat.two_pow_pos i) fun j hj=>pm.2.2 j hj i (by simp)
  show Va m+(2 ^ i+0)=_
  have:=Nat.two_pow_add_eq_or_of_lt lt 1
  rw [Nat.mul_one] at this
  rw [Nat.add_zero,Nat.add_comm,this,Nat.or_comm]
theorem X5 {t M:Nat}:M &&& t=M ↔ ∀ j,M.testBit j=true->t.testBit j=true:=by
 constructor
 ·intro h j hj
  have:(M &&& t).testBit j=true:=by rw [h]; exact hj
  rw [Nat.testBit_and,Bool.and_eq_true] at this
  exact this.2
 ·intro h
  refine Nat.eq_of_testBit_eq fun j=>?_
  rw [Nat.testBit_and]
  cases c:M.testBit j with
  | false=>rfl
  | true=>rw [h j c]; rfl
abbrev yU:=(Nat × List Int) × List Nat
def x8 (E:List yU) (k:Nat × List Int) (o:List Nat):List yU:=if (E.any fun e=>decide (e.1=k))=true then E.map (fun e=>if e.1=k then (e.1,o) else e) else E ++ [(k,o)]
def wX (cs:List Call72) (e:yU) (n M:Nat):Bool:=(decide (e.1.1.testBit n=false) && decide (M &&& e.1.1=M)) && decide (e.1.2.getD (cg cs n).box.toNat 0=(cg cs n).answer)
def x9 (cs:List Call72) (vs:List Int) (n:Nat):List Int:=vs.set (cg cs n).box.toNat ((cg cs n).deed.mk' (cg cs n).answer)
def yx (cs:List Call72) (e:yU) (F:List yU) (p:Nat × Nat):List yU:=if wX cs e p.1 p.2=true then x8 F (e.1.1 ||| 2 ^ p.1,x9 cs e.1.2 p.1) (e.2 ++ [p.1]) else F
def zY (cs:List Call72) (ms:List (Nat × Nat)) (F:List yU) (e:yU):List yU:=ms.foldl (yx cs e) F
def Zq (cs:List Call72) (ms:List (Nat × Nat)) (E:List yU):List yU:=E.foldl (zY cs ms) []
def wq (cs:List Call72) (ms:List (Nat × Nat)) (b:List Int):Nat->List yU
 | 0=>[((0,b),[])]
 | r+1=>Zq cs ms (wq cs ms b r)
def jj (cs:List Call72) (ms:List (Nat × Nat)) (b:List Int):Option (List Nat):=(wq cs ms b ms.length).head?.map (·.2)
inductive Run73 (cs:List Call72) (ms:List (Nat × Nat)) (b:List Int):List Nat->List Int->Prop
 | nil:Run73 cs ms b [] b
 | snoc {o:List Nat} {vs:List Int} {n M:Nat}:Run73 cs ms b o vs->(n,M) ∈ ms->n ∉ o->(∀ j,M.testBit j=true->j ∈ o)->vs.getD (cg cs n).box.toNat 0=(cg cs n).answer->Run73 cs ms b (o ++ [n]) (x9 cs vs n)
section
variable {cs:List Call72} {ms:List (Nat × Nat)} {b:List Int}
theorem Run73.nodup {o:List Nat} {vs:List Int} (h:Run73 cs ms b o vs):o.Nodup:=by
 induction h with
 | nil=>exact List.nodup_nil
 | snoc h hm hn hj ha ih =>
  rw [List.nodup_append]
  exact ⟨ih,by simp,fun x hx y hy z=>hn (by rw [List.mem_singleton] at hy; rw [← hy,← z]; exact hx)⟩
theorem Run73.mem {o:List Nat} {vs:List Int} (h:Run73 cs ms b o vs):∀ n ∈ o,n ∈ ms.map (·.1):=by
 induction h with
 | nil=>exact nofun
 | snoc h hm hn hj ha ih =>
  intro x hx
  rcases List.mem_append.mp hx with z | z
  ·exact ih x z
  ·rw [List.mem_singleton.mp z]; exact List.mem_map.mpr ⟨_,hm,rfl⟩
def jk (cs:List Call72) (ms:List (Nat × Nat)) (b:List Int) (r:Nat) (E:List yU):Prop:=∀ e ∈ E,e.2.length=r /\ wW e.1.1 e.2 /\ Run73 cs ms b e.2 e.1.2
theorem X6 {E:List yU} {k:Nat × List Int} {o:List Nat} {e:yU} (h:e ∈ x8 E k o):e ∈ E \/ e=(k,o):=by
 unfold x8 at h
 split at h
 ·obtain ⟨x,hx,rfl⟩:=List.mem_map.mp h
  by_cases c:x.1=k
  ·rw [if_pos c,c]; exact .inr rfl
  ·rw [if_neg c]; exact .inl hx
 ·rcases List.mem_append.mp h with z | z
  ·exact .inl z
  ·exact .inr (List.mem_singleton.mp z)
theorem X7 {E:List yU} {k k':Nat × List Int} {o:List Nat} (h:k' ∈ E.map (·.1)):k' ∈ (x8 E k o).map (·.1):=by
 unfold x8
 split
 ·obtain ⟨x,hx,rfl⟩:=List.mem_map.mp h
  refine List.mem_map.mpr ⟨_,List.mem_map.mpr ⟨x,hx,rfl⟩,?_⟩
  split <;> rfl
 ·rw [List.map_append]; exact List.mem_append_left _ h
theorem uU {E:List yU} {k:Nat × List Int} {o:List Nat}:k ∈ (x8 E k o).map (·.1):=by
 unfold x8
 split
 ·rename_i h
  obtain ⟨x,hx,hk⟩:=List.any_eq_true.mp h
  refine List.mem_map.mpr ⟨_,List.mem_map.mpr ⟨x,hx,rfl⟩,?_⟩
  rw [if_pos (of_decide_eq_true hk)]; exact of_decide_eq_true hk
 ·rw [List.map_append]; exact List.mem_append_right _ (by simp)
theorem X8 {E:List yU} {k:Nat × List Int} {o:List Nat}:(x8 E k o).length<=E.length+1:=by
 unfold x8
 split
 ·rw [List.length_map]; omega
 ·rw [List.length_append]; simp
theorem Yd {e x:yU} {F:List yU} {p:Nat × Nat} (h:x ∈ yx cs e F p):x ∈ F \/ (wX cs e p.1 p.2=true /\ x=((e.1.1 ||| 2 ^ p.1,x9 cs e.1.2 p.1),e.2 ++ [p.1])):=by
 unfold yx at h
 split at h
 ·rename_i c
  rcases X6 h with z | z
  ·exact .inl z
  ·exact .inr ⟨c,z⟩
 ·exact .inl h
theorem Ye {e:yU} {F:List yU} {p:Nat × Nat} {k:Nat × List Int} (h:k ∈ F.map (·.1)):k ∈ (yx cs e F p).map (·.1):=by
 unfold yx
 split
 ·exact X7 h
 ·exact h
theorem Yf {e:yU} {F:List yU} {p:Nat × Nat}:(yx cs e F p).length<=F.length+1:=by
 unfold yx
 split
 ·exact X8
 ·omega
theorem tN {e x:yU}:∀ {ms:List (Nat × Nat)} {F:List yU},x ∈ zY cs ms F e->x ∈ F \/ ∃ p ∈ ms,wX cs e p.1 p.2=true /\ x=((e.1.1 ||| 2 ^ p.1,x9 cs e.1.2 p.1),e.2 ++ [p.1])
 | [],_,h=>.inl h
 | p :: ms,F,h=>by
  rcases tN (ms:=ms) (F:=yx cs e F p) h with z | ⟨q,hq,z⟩
  ·rcases Yd z with z | z
   ·exact .inl z
   ·exact .inr ⟨p,List.mem_cons_self ..,z⟩
  ·exact .inr ⟨q,List.mem_cons_of_mem _ hq,z⟩
theorem vy {e:yU} {k:Nat × List Int}:∀ {ms:List (Nat × Nat)} {F:List yU},k ∈ F.map (·.1)->k ∈ (zY cs ms F e).map (·.1)
 | [],_,h=>h
 | p :: ms,F,h=>vy (ms:=ms) (F:=yx cs e F p) (Ye h)
theorem tO {e:yU} {p:Nat × Nat} (hm:wX cs e p.1 p.2=true):∀ {ms:List (Nat × Nat)} {F:List yU},p ∈ ms->(e.1.1 ||| 2 ^ p.1,x9 cs e.1.2 p.1) ∈ (zY cs ms F e).map (·.1)
 | q :: ms,F,h=>by
  show _ ∈ (zY cs ms (yx cs e F q) e).map (·.1)
  rcases List.mem_cons.mp h with rfl | h
  ·refine vy ?_
   unfold yx
   rw [if_pos hm]
   exact uU
  ·exact tO hm h
theorem vz {e:yU}:∀ {ms:List (Nat × Nat)} {F:List yU},(zY cs ms F e).length<=F.length+ms.length
 | [],_=>Nat.le_refl _
 | p :: ms,F=>by
  have h1:=vz (e:=e) (ms:=ms) (F:=yx cs e F p)
  have h2:=Yf (cs:=cs) (e:=e) (F:=F) (p:=p)
  show (zY cs ms (yx cs e F p) e).length<=F.length+(ms.length+1)
  omega
theorem tP {x:yU}:∀ {E F:List yU},x ∈ E.foldl (zY cs ms) F->x ∈ F \/ ∃ e ∈ E,∃ p ∈ ms,wX cs e p.1 p.2=true /\ x=((e.1.1 ||| 2 ^ p.1,x9 cs e.1.2 p.1),e.2 ++ [p.1])
 | [],_,h=>.inl h
 | e :: E,F,h=>by
  rcases tP (E:=E) (F:=zY cs ms F e) h with z | ⟨q,hq,z⟩
  ·rcases tN z with z | z
   ·exact .inl z
   ·exact .inr ⟨e,List.mem_cons_self ..,z⟩
  ·exact .inr ⟨q,List.mem_cons_of_mem _ hq,z⟩
theorem tQ {k:Nat × List Int}:∀ {E F:List yU},k ∈ F.map (·.1)->k ∈ (E.foldl (zY cs ms) F).map (·.1)
 | [],_,h=>h
 | e :: E,F,h=>tQ (E:=E) (F:=zY cs ms F e) (vy h)
theorem tR {e:yU} {p:Nat × Nat} (hm:wX cs e p.1 p.2=true) (hp:p ∈ ms):∀ {E F:List yU},e ∈ E->(e.1.1 ||| 2 ^ p.1,x9 cs e.1.2 p.1) ∈ (E.foldl (zY cs ms) F).map (·.1)
 | x :: E,F,h=>by
  show _ ∈ (E.foldl (zY cs ms) (zY cs ms F x)).map (·.1)
  rcases List.mem_cons.mp h with rfl | h
  ·exact tQ (tO hm hp)
  ·exact tR hm hp h
theorem vA:∀ {E F:List yU},(E.foldl (zY cs ms) F).length<=F.length+E.length * ms.length
 | [],F=>by simp
 | e :: E,F=>by
  have h1:=vA (E:=E) (F:=zY cs ms F e)
  have h2:=vz (cs:=cs) (e:=e) (ms:=ms) (F:=F)
  show (E.foldl (zY cs ms) (zY cs ms F e)).length<=F.length+(E.length+1) * ms.length
  rw [Nat.add_mul]; omega
theorem rZ {e:yU} {n M:Nat} (hi:wW e.1.1 e.2):wX cs e n M=true ↔ n ∉ e.2 /\ (∀ j,M.testBit j=true->j ∈ e.2) /\ e.1.2.getD (cg cs n).box.toNat 0=(cg cs n).answer:=by
 unfold wX
 rw [Bool.and_eq_true,Bool.and_eq_true,decide_eq_true_eq,decide_eq_true_eq,decide_eq_true_eq,X5]
 have h1:e.1.1.testBit n=false ↔ n ∉ e.2:=by
  rw [← hi n,Bool.not_eq_true]
 have h2:(∀ j,M.testBit j=true->e.1.1.testBit j=true) ↔ ∀ j,M.testBit j=true->j ∈ e.2:=forall_congr' fun j=>imp_congr Iff.rfl (hi j)
 rw [h1,h2,and_assoc]
theorem r9 {r:Nat} {E:List yU} (h:jk cs ms b r E):jk cs ms b (r+1) (Zq cs ms E):=by
 intro x hx
 rcases tP hx with z | ⟨e,he,p,hp,hm,rfl⟩
 ·cases z
 obtain ⟨h1,h2,h3⟩:=h e he
 obtain ⟨m1,m2,m3⟩:=(rZ h2).mp hm
 exact ⟨by rw [List.length_append,h1]; rfl,h2.or,.snoc h3 hp m1 m2 m3⟩
theorem xF:∀ r:Nat,jk cs ms b r (wq cs ms b r)
 | 0=>by
  intro e he
  rw [List.mem_singleton.mp he]
  exact ⟨rfl,wW.nil,.nil⟩
 | r+1=>r9 (xF r)
theorem uv:∀ r:Nat,(wq cs ms b r).length<=ms.length ^ r
 | 0=>Nat.le_refl _
 | r+1=>by
  have h1:=vA (cs:=cs) (ms:=ms) (E:=wq cs ms b r) (F:=[])
  have h2:=Nat.mul_le_mul_right ms.length (uv r)
  show (Zq cs ms (wq cs ms b r)).length<=ms.length ^ r * ms.length
  exact Nat.le_trans h1 (by simpa using h2)
theorem X9 {o:List Nat} {vs:List Int} (h:Run73 cs ms b o vs):∃ t,wW t o /\ (t,vs) ∈ (wq cs ms b o.length).map (·.1):=by
 induction h with
 | nil=>exact ⟨0,wW.nil,by simp [wq]⟩
 | @snoc o vs n M h hm hn hj ha ih =>
  obtain ⟨t,ht,hk⟩:=ih
  obtain ⟨e,he,ek⟩:=List.mem_map.mp hk
  obtain ⟨h1,h2,h3⟩:=xF o.length e he
  have ee:e.1=(t,vs):=ek
  have emem:∀ j,j ∈ e.2 ↔ j ∈ o:=fun j=>by rw [← h2 j,ee,ht j]
  have may:wX cs e n M=true:=(rZ h2).mpr ⟨fun z=>hn ((emem n).mp z),fun j z=>(emem j).mpr (hj j z),by rw [ee]; exact ha⟩
  refine ⟨t ||| 2 ^ n,ht.or,?_⟩
  rw [List.length_append]
  have:=tR (cs:=cs) (ms:=ms) (p:=(n,M)) may hm (E:=wq cs ms b o.length) (F:=[]) he
  rw [ee] at this
  exact this
theorem Yg {o:List Nat} (h:jj cs ms b=some o):∃ vs,Run73 cs ms b o vs /\ o.length=ms.length:=by
 unfold jj at h
 obtain ⟨e,he,rfl⟩:=Option.map_eq_some_iff.mp h
 obtain ⟨h1,_,h3⟩:=xF (cs:=cs) (ms:=ms) (b:=b) ms.length e (List.mem_of_mem_head? he)
 exact ⟨_,h3,h1⟩
theorem Yh (h:jj cs ms b=none) {o:List Nat} {vs:List Int} (hr:Run73 cs ms b o vs):o.length ≠ ms.length:=fun z=>by
 obtain ⟨t,_,hk⟩:=X9 hr
 rw [z] at hk
 unfold jj at h
 rw [Option.map_eq_none_iff,List.head?_eq_none_iff] at h
 rw [h] at hk
 cases hk
theorem wY:∀ {o ns:List Nat},o.Nodup->(∀ n ∈ o,n ∈ ns)->ns.length<=o.length->o.Perm ns
 | [],ns,_,_,hl=>by
  rw [List.length_eq_zero_iff.mp (Nat.le_zero.mp hl)]
 | a :: o,ns,nd,hm,hl=>by
  have ha:=hm a (List.mem_cons_self ..)
  have pe:=List.perm_cons_erase ha
  obtain ⟨na,nd'⟩:=List.nodup_cons.mp nd
  refine (List.Perm.cons a (wY nd' (fun n hn=>?_) ?_)).trans pe.symm
  ·exact (List.mem_erase_of_ne (fun z=>na (by rw [← z]; exact hn))).mpr (hm n (List.mem_cons_of_mem _ hn))
  ·have:=pe.length_eq
   rw [List.length_cons] at this hl
   omega
theorem Run73.perm {o:List Nat} {vs:List Int} (h:Run73 cs ms b o vs) (hl:o.length=ms.length):o.Perm (ms.map (·.1)):=wY h.nodup h.mem (by rw [List.length_map,hl]; exact Nat.le_refl _)
end
abbrev QL (cs:List Call72) (a b:Nat):Prop:=¬ (cg cs b).ended < (cg cs a).begun
theorem VL {cs:List Call72} {ms:List (Nat × Nat)} {b:List Int} {o:List Nat} {vs:List Int} (h:Run73 cs ms b o vs):XG b (o.map (cg cs))=some vs:=by
 induction h with
 | nil=>rfl
 | snoc h hm hn hj ha ih =>
  rw [List.map_append]
  exact jh ih ha
theorem VM {cs:List Call72} {ms:List (Nat × Nat)} {b:List Int} {o:List Nat} {vs:List Int} (h:Run73 cs ms b o vs):sY cs b o=true:=by rw [Te,VL h]; rfl
abbrev Wa (cs:List Call72) (x:Nat) (k:Nat):Bool:=decide ((cg cs k).box=(x:Int))
def Rg (cs:List Call72) (x:Nat):List Nat:=(List.range cs.length).filter (Wa cs x)
theorem VN {cs:List Call72} {x:Nat}:(Rg cs x).length=x6 (x:Int) cs:=by
 unfold Rg x6
 rw [← List.countP_eq_length_filter]
 conv=>rhs; rw [← XI (cs:=cs),List.countP_map]
 rfl
open PySem
structure ItK (prog:Program) (w:World) (K:Type) [DecidableEq K] where
 is:Heap->K->Value->Prop
 hash:K->Int
 draws:K->Nat
 inj:∀ {h:Heap} {v:Value} {x y:K},is h x v->is h y v->x=y
 keeps:∀ {h h':Heap} {k:K} {v:Value} {d:Addr} {o:Obj} {es ep},is h k v->h.get? d=some o->o.data = .dict es ep->Heap.SameBut d h h' -> is h' k v
 pyHash:∀ {A:Around} {E:QN} {s:Shared} {k:K} {v:Value} {Q:Int->Shared->Prop},A.units < cLine->is s.heap k v->Q (hash k) { s with toks:=s.toks+draws k } -> wpAny (model prog w) A (PySem.pyHash v) Q E s
 eqBool:∀ {A:Around} {E:QN} {s:Shared} {x y:K} {a b:Value} {Q:Bool->Shared->Prop},A.units < cLine->is s.heap x a->is s.heap y b->Q (decide (x=y)) s->wpAny (model prog w) A (PySem.eqBool a b) Q E s
 quiet:∀ {A:Around} {E:QN} {s:Shared} {k:K} {v:Value} {Q:Bool->Shared->Prop},is s.heap k v->Q true s->wpAny (model prog w) A (eqIsQuiet 7 v) Q E s
def uw (prog:Program) (w:World):ItK prog w Int where
 is:=fun _ k v=>(intKind prog w).is k v=true
 hash:=(intKind prog w).hash
 draws:=fun _=>1
 inj:=fun h1 h2=>(intKind prog w).inj _ _ _ h1 h2
 keeps:=fun h _ _ _=>h
 pyHash:=fun _ h q=>(intKind prog w).pyHash h q
 eqBool:=fun _ h1 h2 q=>(intKind prog w).eqBool h1 h2 q
 quiet:=fun h q=>by rw [eqIsQuiet_byValue _ ((intKind prog w).byValue _ _ h)]; exact wpAny_pure q
section
variable {prog:Program} {w:World} {A:Around} {E:QN} {s:Shared}
theorem SA {K:Type} [DecidableEq K] {knd:KeyKind prog w K} {ks:List K} {a:Addr} {Q:Bool->Shared->Prop} (hk:IsTupleKey knd s.heap ks a) (h:Q true s):wpAny (model prog w) A (eqIsQuiet 7 (.ref a)) Q E s:=by
 have hT:=hk.typeIs
 obtain ⟨o,items,n,ho,_,hd,hi⟩:=hk
 unfold eqIsQuiet
 refine wpAny_bind (wpAny_specialOf hT F.slot_tuple_eq.lookup ?_)
 show wpAny _ _ (isInstance (.ref a) (.type "tuple") >>= _) _ _ s
 refine wpAny_bind (wpAny_isInstance hT isSubtype_tuple_tuple ?_)
 simp only [Bool.not_true,Bool.false_eq_true,if_false]
 refine wpAny_bind (wpAny_seqItems ho hd ?_)
 refine wpAny_bind ?_
 show wpAny _ _ (forIn items _ _) _ _ s
 rw [← Array.forIn_toList]
 refine wpAny_forIn_list _ (fun rest r s'=>r.1=none /\ s' = s /\ ∀ v ∈ rest,carriedByValue v=true) _ ?_ ?_ _ _ ⟨rfl,rfl,hi.byValue⟩
 ·rintro v rest r s' ⟨hr,rfl,hall⟩
  rw [eqIsQuiet_byValue _ (hall v List.mem_cons_self)]
  refine wpAny_bind (wpAny_pure ?_)
  simp only [Bool.not_true,Bool.false_eq_true,if_false]
  exact wpAny_pure ⟨rfl,rfl,fun u hu'=>hall u (List.mem_cons_of_mem _ hu')⟩
 ·rintro ⟨r1,r2⟩ s' ⟨hr,rfl,_⟩
  simp only at hr
  subst hr
  exact wpAny_pure h
end
def RP (prog:Program) (w:World):ItK prog w (List Int) where
 is:=fun h k v=>∃ a,v = .ref a /\ IsTupleKey (intKind prog w) h k a
 hash:=tupleKeyHash (intKind prog w)
 draws:=fun ks=>ks.length+1
 inj:=fun ⟨a,e,h1⟩ ⟨b,e',h2⟩=>by subst e; cases e'; exact h1.inj h2
 keeps:=fun ⟨a,e,h1⟩ ho hd hs=>⟨a,e,h1.keeps ho hd hs⟩
 pyHash:=fun hu ⟨a,e,h1⟩ q=>by subst e; exact wpAny_pyHash_tuple hu h1 q
 eqBool:=fun hu ⟨a,e,h1⟩ ⟨b,e',h2⟩ q=>by subst e e'; exact wpAny_eqBool_tuple hu h1 h2 q
 quiet:=fun ⟨a,e,h1⟩ q=>by subst e; exact SA h1 q
section
variable {prog:Program} {w:World} {K1 K2:Type} [DecidableEq K1] [DecidableEq K2] {k1:ItK prog w K1} {k2:ItK prog w K2}
def qR (k1:ItK prog w K1) (k2:ItK prog w K2) (h:Heap) (k:K1 × K2) (a:Addr):Prop :=
 ∃ o u v n,h.get? a=some o /\ o.cls = .type "tuple" /\ o.data = .seq #[u,v] n /\ k1.is h k.1 u /\ k2.is h k.2 v
theorem qR.typeIs {s:Shared} {k:K1 × K2} {a:Addr} (x:qR k1 k2 s.heap k a):s.TypeIs (.ref a) "tuple":=let ⟨o,_,_,_,ho,hc,_⟩:=x; ⟨o,ho,hc⟩
theorem qR.inj {h:Heap} {a:Addr} {x y:K1 × K2} (hx:qR k1 k2 h x a) (hy:qR k1 k2 h y a):x=y:=by
 obtain ⟨o,u,v,n,ho,_,hd,hu,hv⟩:=hx
 obtain ⟨o',u',v',n',ho',_,hd',hu',hv'⟩:=hy
 obtain rfl:o=o':=Option.some.inj (ho.symm.trans ho')
 rw [hd] at hd'
 injection hd' with h1 _
 have h1':=congrArg Array.toList h1
 simp only [List.cons.injEq,and_true] at h1'
 obtain ⟨rfl,rfl⟩:=h1'
 exact Prod.ext (k1.inj hu hu') (k2.inj hv hv')
theorem qR.keeps {h h':Heap} {k:K1 × K2} {a d:Addr} {o:Obj} {es ep} (x:qR k1 k2 h k a) (ho:h.get? d=some o) (hd:o.data = .dict es ep) (hs:Heap.SameBut d h h'):qR k1 k2 h' k a:=by
 obtain ⟨o',u,v,n,ho',hc,hd',hu,hv⟩:=x
 have hne:a ≠ d:=by
  rintro rfl
  obtain rfl:o' = o:=Option.some.inj (ho'.symm.trans ho)
  rw [hd] at hd'; exact nomatch hd'
 exact ⟨o',u,v,n,(hs.2 a hne).trans ho',hc,hd',k1.keeps hu ho hd hs,k2.keeps hv ho hd hs⟩
def ux (k1:ItK prog w K1) (k2:ItK prog w K2) (k:K1 × K2):Int:=reduceHash (Builtin.Tuple.tupleHashOf [k1.hash k.1,k2.hash k.2])
variable {A:Around} {E:QN} {s:Shared}
theorem Wb {k:K1 × K2} {a:Addr} {Q:Int->Shared->Prop} (hu:A.units+1 < cLine) (hk:qR k1 k2 s.heap k a) (h:Q (ux k1 k2 k) { s with toks:=s.toks+(k1.draws k.1+k2.draws k.2+1) }) :
  wpAny (model prog w) A (pyHash (.ref a)) Q E s:=by
 have hT:=hk.typeIs
 obtain ⟨o,u,v,n,ho,_,hd,iu,iv⟩:=hk
 unfold pyHash
 first | unfold pyHashByItsType | skip
 first | refine wpAny_bind (wpAny_cRoomFor_or (.inr (by omega)) ?_) | skip
 refine wpAny_bind (wpAny_specialOf hT F.slot_tuple_hash.lookup ?_)
 show wpAny _ _ (if (some (Value.builtin "tuple.__hash__") == some Value.none)=true then _ else _) Q E s
 rw [if_neg (by rw [beq_builtin_none]; exact Bool.false_ne_true)]
 refine wpAny_bind (wpAny_specialOf hT F.slot_tuple_hash.lookup ?_)
 show wpAny _ _ (callSpecialIfBoundUnlessNone? (.ref a) "__hash__" _ >>= _) Q E s
 refine wpAny_bind (wpAny_callSpecialIfBoundUnlessNone?_slot hT F.slot_tuple_hash (wpAny_call_entry F.slot_tuple_hash hT F.entry_tuple_hash ?_ (F.args_tuple_hash_1 _)))
 show wpAny _ _ (Builtin.Tuple.tupleItemsOf (.ref a) >>= _) _ _ s
 refine wpAny_bind (wpAny_tupleItemsOf ho hd ?_)
 refine wpAny_bind ?_
 rw [← Array.forIn_toList]
 have hu':A.in1.units < cLine:=hu
 refine wpAny_forIn_list _
  (fun rest (b:Array Int) s'=>(rest=[u,v] /\ b.toList=[] /\ s' = s) \/ (rest=[v] /\ b.toList=[k1.hash k.1] /\ s' = { s with toks:=s.toks+k1.draws k.1 }) \/ (rest=[] /\ b.toList=[k1.hash k.1,k2.hash k.2] /\ s' = { s with toks:=s.toks+(k1.draws k.1+k2.draws k.2) }))
  _ ?_ ?_ _ _ (.inl ⟨rfl,rfl,rfl⟩)
 ·rintro x rest b s' (⟨e,hb,rfl⟩ | ⟨e,hb,rfl⟩ | ⟨e,_⟩)
  ·cases e
   refine wpAny_bind (k1.pyHash hu' iu ?_)
   first
    | exact wpAny_pure (.inr (.inl ⟨rfl,by simp [hb],rfl⟩))
    | exact wpAny_bind (wpAny_pure (wpAny_pure (.inr (.inl ⟨rfl,by simp [hb],rfl⟩))))
  ·cases e
   refine wpAny_bind (k2.pyHash hu' iv ?_)
   first
    | exact wpAny_pure (.inr (.inr ⟨rfl,by simp [hb],by simp [Nat.add_assoc]⟩))
    | exact wpAny_bind (wpAny_pure (wpAny_pure (.inr (.inr ⟨rfl,by simp [hb],by simp [Nat.add_assoc]⟩))))
  ·cases e
 ·rintro b s' (⟨e,_⟩ | ⟨e,_⟩ | ⟨_,hb,rfl⟩)
  ·cases e
  ·cases e
  show wpAny _ _ (retInt (Builtin.Tuple.tupleHashOf b.toList)) _ _ _
  rw [hb]
  refine wpAny_ret_mkInt ?_
  show wpAny _ _ (if (decide (-(2:Int) ^ 63<=Builtin.Tuple.tupleHashOf [k1.hash k.1,k2.hash k.2]) && decide (Builtin.Tuple.tupleHashOf [k1.hash k.1,k2.hash k.2] < 2 ^ 63))=true then _ else _) Q E _
  unfold ux reduceHash at h
  by_cases hr:(decide (-(2:Int) ^ 63<=Builtin.Tuple.tupleHashOf [k1.hash k.1,k2.hash k.2]) && decide (Builtin.Tuple.tupleHashOf [k1.hash k.1,k2.hash k.2] < 2 ^ 63))=true
  ·rw [if_pos hr]
   rw [if_pos hr] at h
   exact wpAny_pure (by simpa [Nat.add_assoc] using h)
  ·rw [if_neg hr]
   rw [if_neg hr] at h
   exact wpAny_bind (wpAny_rule (wpAny_pure (by simpa [Nat.add_assoc] using h)))
theorem Yi {x y:K1 × K2} {a b:Addr} {P:Fin->Shared->Prop} (hu:A.units < cLine) (hx:qR k1 k2 s.heap x a) (hy:qR k1 k2 s.heap y b) (h:P (.done (.ret (.bool (decide (x=y))))) s) :
  wpAny (model prog w) A (Builtin.«tuple.__eq__» ⟨[.ref a,.ref b],[]⟩) P E s:=by
 have hTb:=hy.typeIs
 obtain ⟨oa,u,v,na,hoa,_,hda,iu,iv⟩:=hx
 obtain ⟨ob,u',v',nb,hob,_,hdb,iu',iv'⟩:=hy
 show wpAny _ _ (isInstance (.ref b) (.type "tuple") >>= _) _ _ s
 refine wpAny_bind (wpAny_isInstance hTb isSubtype_tuple_tuple ?_)
 simp only [Bool.not_true,Bool.false_eq_true,if_false]
 refine wpAny_bind (wpAny_tupleItemsOf hoa hda ?_)
 refine wpAny_bind (wpAny_tupleItemsOf hob hdb ?_)
 refine wpAny_bind ?_
 have ed:decide (x=y)=(decide (x.1=y.1) && decide (x.2=y.2)):=by
  rw [Bool.eq_iff_iff]; simp [Prod.ext_iff]
 refine wpAny_forIn_list _
  (fun rest r s'=>r.1=none /\ s' = s /\ ((rest=[(u,u'),(v,v')]) \/ (rest=[(v,v')] /\ x.1=y.1) \/ (rest=[] /\ x=y)))
  _ ?_ ?_ _ _ ⟨rfl,rfl,.inl rfl⟩
 ·rintro ⟨p,q⟩ rest r s' ⟨hr,rfl,(e | ⟨e,e1⟩ | ⟨e,_⟩)⟩
  ·cases e
   refine wpAny_bind (k1.eqBool hu iu iu' ?_)
   by_cases hk:x.1=y.1
   ·rw [decide_eq_true hk]
    simp only [Bool.not_true,Bool.false_eq_true,if_false]
    refine wpAny_pure ?_
    simp [hk]
   ·rw [decide_eq_false hk]
    simp only [Bool.not_false,if_true]
    rw [ed,decide_eq_false hk,Bool.false_and] at h
    exact wpAny_bind (wpAny_pure (wpAny_pure (wpAny_pure h)))
  ·cases e
   refine wpAny_bind (k2.eqBool hu iv iv' ?_)
   by_cases hk:x.2=y.2
   ·rw [decide_eq_true hk]
    simp only [Bool.not_true,Bool.false_eq_true,if_false]
    refine wpAny_pure ?_
    simp [Prod.ext e1 hk]
   ·rw [decide_eq_false hk]
    simp only [Bool.not_false,if_true]
    rw [ed,decide_eq_false hk,Bool.and_false] at h
    exact wpAny_bind (wpAny_pure (wpAny_pure (wpAny_pure h)))
  ·cases e
 ·rintro ⟨r1,r2⟩ s' ⟨hr,rfl,(e | ⟨e,e1⟩ | ⟨_,e⟩)⟩
  ·cases e
  ·cases e
  simp only at hr
  subst hr
  refine wpAny_pure ?_
  show P (.done (.ret (.bool ((#[u,v]:Array Value).size == (#[u',v']:Array Value).size)))) s'
  rw [decide_eq_true e] at h
  exact h
theorem Tk {x y:K1 × K2} {a b:Addr} {Q:Bool->Shared->Prop} (hu:A.units+1 < cLine) (hx:qR k1 k2 s.heap x a) (hy:qR k1 k2 s.heap y b) (h:Q (decide (x=y)) s) :
  wpAny (model prog w) A (eqBool (.ref a) (.ref b)) Q E s:=by
 unfold eqBool
 try with_reducible refine wpAny_holding ?_
 show wpAny _ _ (if (Value.ref a == Value.ref b)=true then _ else _) Q E s
 by_cases hab:(Value.ref a == Value.ref b)=true
 ·rw [if_pos hab]
  have e:a=b:=by have:=eq_of_beq hab; injection this
  subst e
  obtain rfl:=hx.inj hy
  exact wpAny_bind (wpAny_rule (wpAny_pure (by simpa using h)))
 ·rw [if_neg hab]
  exact wpAny_bind (wpAny_richCompare_same_room (op:=.Eq) hx.typeIs hy.typeIs F.slot_tuple_eq
   (wpAny_call_entry F.slot_tuple_eq hx.typeIs F.entry_tuple_eq (Yi hu hx hy ⟨_,rfl,(fun e=>nomatch e),wpAny_truthy_bool h⟩) (F.args_tuple_eq_2 _ _)) (by omega))
theorem sB {k:K1 × K2} {a:Addr} {Q:Bool->Shared->Prop} (hk:qR k1 k2 s.heap k a) (h:Q true s):wpAny (model prog w) A (eqIsQuiet 8 (.ref a)) Q E s:=by
 have hT:=hk.typeIs
 obtain ⟨o,u,v,n,ho,_,hd,iu,iv⟩:=hk
 unfold eqIsQuiet
 refine wpAny_bind (wpAny_specialOf hT F.slot_tuple_eq.lookup ?_)
 show wpAny _ _ (isInstance (.ref a) (.type "tuple") >>= _) _ _ s
 refine wpAny_bind (wpAny_isInstance hT isSubtype_tuple_tuple ?_)
 simp only [Bool.not_true,Bool.false_eq_true,if_false]
 refine wpAny_bind (wpAny_seqItems ho hd ?_)
 refine wpAny_bind ?_
 show wpAny _ _ (forIn #[u,v] _ _) _ _ s
 rw [← Array.forIn_toList]
 refine wpAny_forIn_list _ (fun rest r s'=>r.1=none /\ s' = s /\ (rest=[u,v] \/ rest=[v] \/ rest=[])) _ ?_ ?_ _ _ ⟨rfl,rfl,.inl rfl⟩
 ·rintro x rest r s' ⟨hr,rfl,(e | e | e)⟩
  ·cases e
   refine wpAny_bind (k1.quiet iu ?_)
   simp only [Bool.not_true,Bool.false_eq_true,if_false]
   refine wpAny_pure ?_
   simp
  ·cases e
   refine wpAny_bind (k2.quiet iv ?_)
   simp only [Bool.not_true,Bool.false_eq_true,if_false]
   refine wpAny_pure ?_
   simp
  ·cases e
 ·rintro ⟨r1,r2⟩ s' ⟨hr,rfl,_⟩
  simp only at hr
  subst hr
  exact wpAny_pure h
end
def uy {prog:Program} {w:World} {K1 K2:Type} [DecidableEq K1] [DecidableEq K2] (k1:ItK prog w K1) (k2:ItK prog w K2):HeapKind prog w (K1 × K2) where
 is:=qR k1 k2
 hash:=ux k1 k2
 draws:=fun k=>k1.draws k.1+k2.draws k.2+1
 room:=fun A=>A.units+1 < cLine
 inj:=fun hx hy=>hx.inj hy
 keeps:=fun x ho hd hs=>x.keeps ho hd hs
 pyHash:=fun hu hk h=>Wb hu hk h
 eqBool:=fun hu hx hy h=>Tk hu hx hy h
 quiet:=fun hk h=>sB hk h
def JO (h:Heap) (e T:Addr) (cls:Value):Prop :=
 ∃ oe vs oT ts,h.get? e=some oe /\ oe.cls=cls /\ oe.data = .fields vs /\ vs[1]? = some (.ref T) /\ T ≠ e /\ h.get? T=some oT /\ oT.data = .fields ts /\ ts[3]? = some .none /\ vs[2]? = some .none
structure Lft (fr:List Addr) (e T0 T:Addr) (cls:Value) (h h':Heap):Prop where
 keep:∀ b o,b ∉ fr->b ≠ e->b ≠ T0->h.get? b=some o->h'.get? b=some o
 slot:∀ b o,b ∈ fr->b ≠ e->b ≠ T0->h.get? b=some o -> ∃ sl,h'.get? b=some { o with slots:=sl }
 new:h.get? T=none
 trc:JO h' e T cls
section
variable {M:Model} {A:Around} {E:QN} {s:Shared}
theorem wC {base:Heap} {env:Env} {outer:List Env} {L e:Addr} {oe:Obj} {vs:Array Value} {head:Value} {hadNext:Bool} {Q:Unit->Shared->Prop}
  (hfr:A.frames=some (env :: outer)) (hl:s.heap.FunFrames base (env :: outer)) (hf:env.frame=some L)
  (he:s.heap.get? e=some oe) (hd:oe.data = .fields vs) (hsz:1 < vs.size) (hv2:vs[2]? = some .none)
  (h:∀ h' T,Lft ((env :: outer).filterMap (·.frame)) e e T oe.cls s.heap h' -> Q () { s with heap:=h' }) :
  wpAny M A (do let a ← frameOf env; let pl ← entryPlaceOf L hadNext; let b ← EntryCells.newEntry head a .none (rawInt L) .none pl; setField (.ref e) 1 b) (fun _ s'=>wpAny M A (setFlight (.ref e) none) Q E s') E s:=by
 have hne:e ∉ (env :: outer).filterMap (·.frame):=fun hm=>by
  obtain ⟨_,o,ho,hnf⟩:=hl.mem hm
  rw [he] at ho
  cases ho
  exact hnf vs hd
 refine wpAny_bind (wpAny_frameOf_fun hfr hl hf fun h1 s1=>?_)
 refine wpAny_bind (wpAny_entryPlaceOf fun pl hpl=>?_)
 unfold EntryCells.newEntry newFields
 refine wpAny_bind (wpAny_newObj_type ?_ (hpl.sizeOk5 _ _ _ _ _))
 have e1:h1.get? e=some oe:=(s1.2.1 e hne).trans he
 have hTe:h1.objs.size ≠ e:=Nat.ne_of_gt (Heap.lt_size e1)
 generalize hT:({ cls:=.type "traceback",dict:=none,data:=.fields ([head,.ref L,.none,rawInt L,.none] ++ (if pl.isEmpty then List.replicate 6 Value.none else pl)).toArray }:Obj)=oT
 have hTd:oT.data = .fields ([head,.ref L,.none,rawInt L,.none] ++ (if pl.isEmpty then List.replicate 6 Value.none else pl)).toArray:=by rw [← hT]
 have hTf:oT.isFreed=false:=Obj.isFreed_of_fields hTd
 have e2:=Heap.get?_push_of_some (h:=h1) oT e1
 refine wpAny_setField e2 hd hsz ?_
 have d3:=Obj.data_mapFields hd (·.setIfInBounds 1 (Value.ref h1.objs.size))
 have e3:=Heap.get?_update_self (Obj.mapFields (·.setIfInBounds 1 (Value.ref h1.objs.size))) e2 (Obj.isFreed_of_fields d3)
 have t3:((h1.push oT).update e (Obj.mapFields (·.setIfInBounds 1 (Value.ref h1.objs.size)))).get? h1.objs.size=some oT:=(Heap.get?_update_other _ _ (Ne.symm hTe)).trans (Heap.get?_push_size h1 hTf)
 unfold setFlight
 refine wpAny_bind (wpAny_field e3 d3 (x:=.ref h1.objs.size) (by simp [hsz]) ?_)
 rw [if_pos (show (Value.ref h1.objs.size != Value.none)=true from by simp)]
 refine wpAny_setField t3 hTd (by simp only [List.size_toArray,List.length_append,List.length_cons,List.length_nil] <;> omega) (h _ h1.objs.size ?_)
 have keep:∀ b o,b ≠ e->h1.get? b=some o →
   (((h1.push oT).update e (Obj.mapFields (·.setIfInBounds 1 (Value.ref h1.objs.size)))).update h1.objs.size (Obj.mapFields (·.setIfInBounds 3 ((none:Option Addr).elim Value.none fun f=>rawInt f)))).get? b=some o:=fun b o hbe hb=>by
  rw [Heap.get?_update_other _ _ (Nat.ne_of_gt (Heap.lt_size hb)),Heap.get?_update_other _ _ (Ne.symm hbe)]
  exact Heap.get?_push_of_some _ hb
 refine ⟨fun b o hb hbe _ ho=>keep b o hbe ((s1.2.1 b hb).trans ho),fun b o hb hbe _ ho=>?_,?_,?_⟩
 ·obtain ⟨sl,hs⟩:=s1.2.2 b o ho
  exact ⟨sl,keep b _ hbe hs⟩
 ·cases q:s.heap.get? h1.objs.size with
  | none=>rfl
  | some o =>
   have:=Heap.lt_size q
   rw [s1.1] at this
   exact absurd this (Nat.lt_irrefl _)
 ·refine ⟨_,_,_,_,(Heap.get?_update_other _ _ hTe).trans e3,Obj.cls_mapFields _ _,d3,by simp [hsz],hTe,Heap.get?_update_self _ t3 (Obj.isFreed_of_fields (Obj.data_mapFields hTd _)),Obj.data_mapFields hTd _,?_,(Array.getElem?_setIfInBounds_ne (by decide)).trans hv2⟩
  simp only [Array.getElem?_setIfInBounds,if_true]
  rw [if_pos (by simp only [List.size_toArray,List.length_append,List.length_cons,List.length_nil]; omega)]
  rfl
theorem jl {base:Heap} {env:Env} {outer:List Env} {L e:Addr} {oe:Obj} {vs:Array Value} {Q:Unit->Shared->Prop}
  (hfr:A.frames=some (env :: outer)) (hl:s.heap.FunFrames base (env :: outer)) (hf:env.frame=some L)
  (he:s.heap.get? e=some oe) (hd:oe.data = .fields vs) (h1:vs[1]? = some .none) (hv2:vs[2]? = some .none)
  (h:∀ h' T,Lft ((env :: outer).filterMap (·.frame)) e e T oe.cls s.heap h' -> Q () { s with heap:=h' }):wpAny M A (leaving env (.ref e)) Q E s:=by
 unfold leaving noteFrame
 simp only [hf]
 refine wpAny_bind (wpAny_bind (wpAny_field he hd h1 ?_))
 rw [if_neg (by decide)]
 exact wC hfr hl hf he hd (Array.getElem?_eq_some_iff.mp h1).1 hv2 h
theorem Yj {base:Heap} {env:Env} {outer:List Env} {L e T0:Addr} {cls:Value} {Q:Unit->Shared->Prop}
  (hfr:A.frames=some (env :: outer)) (hl:s.heap.FunFrames base (env :: outer)) (hf:env.frame=some L) (ht:JO s.heap e T0 cls)
  (h:∀ h' T,Lft ((env :: outer).filterMap (·.frame)) e T0 T cls s.heap h' -> Q () { s with heap:=h' }):wpAny M A (leaving env (.ref e)) Q E s:=by
 obtain ⟨oe,vs,oT,ts,he,hcls,hd,h1,hTe,hT,hdT,h3,hv2⟩:=ht
 subst hcls
 unfold leaving noteFrame
 simp only [hf]
 refine wpAny_bind (wpAny_bind (wpAny_field he hd h1 ?_))
 rw [if_pos (show (Value.ref T0 != Value.none)=true from by simp)]
 refine wpAny_bind (wpAny_field hT hdT h3 ?_)
 rw [if_neg (show ¬ ((Value.none == rawInt L)=true) from by simp [rawInt])]
 refine wpAny_bind (wpAny_setField hT hdT (Array.getElem?_eq_some_iff.mp h3).1 ?_)
 have other:∀ b,b ≠ T0->(s.heap.update T0 (Obj.mapFields (·.setIfInBounds 3 Value.none))).get? b=s.heap.get? b:=fun b hb=>Heap.get?_update_other _ _ (Ne.symm hb)
 have nf:∀ b o,s.heap.get? b=some o->(∀ vs,o.data ≠ .fields vs)->b ≠ T0:=fun b o hb hnf q=>by
  rw [q,hT] at hb
  cases hb
  exact hnf ts hdT
 refine wC hfr (hl.of_keeps fun b o hb hnf=>⟨o,(other b (nf b o hb hnf)).trans hb,rfl⟩) hf ((other e (Ne.symm hTe)).trans he) hd (Array.getElem?_eq_some_iff.mp h1).1 hv2 fun h' T x=>h h' T ?_
 refine ⟨fun b o hb hbe hb0 ho=>x.keep b o hb hbe hbe ((other b hb0).trans ho),fun b o hb hbe hb0 ho=>x.slot b o hb hbe hbe ((other b hb0).trans ho),?_,x.trc⟩
 have:=x.new
 by_cases q:T=T0
 ·subst q
  have e5:=Heap.get?_update_self (Obj.mapFields (·.setIfInBounds 3 Value.none)) hT (Obj.isFreed_of_fields (Obj.data_mapFields hdT _))
  rw [show (s.heap.update T (Obj.mapFields (·.setIfInBounds 3 Value.none))).get? T=_ from e5] at this
  cases this
 ·rw [← other T q]; exact this
end
def JP (P:Program) (w:World):Jh:=fun outer H s E e s'=>∃ (a T C:Addr) (H':Hp),e = .ref a /\ s'.os=s.os /\ AllBare s'.gens /\ Un (QT outer) [] H H' s.heap s'.heap /\ QQ P w H' s'.heap ∧
 JO s'.heap a T (.ref C) /\ H' a=none /\ H' T=none /\ s.heap.get? a=none /\ s.heap.get? T=none /\ E e (some C) H'
theorem zT.at {P:Program} {w:World} {H:Hp} {h:Heap} {a:Addr} {o:HO} (x:zT P w H h a o):∃ ob,h.get? a=some ob:=by
 induction o with
 | lst xs=>obtain ⟨z,its,n,r,e⟩:=x; exact ⟨_,e⟩
 | tup xs=>obtain ⟨z,its,r,ob,e,c⟩:=x; exact ⟨_,e⟩
 | dK kvs=>obtain ⟨z,y,vs,r,ob,es,ep,e,c⟩:=x; exact ⟨_,e⟩
 | dT kvs=>obtain ⟨z,y,xs,r,ob,es,ep,e,c⟩:=x; exact ⟨_,e⟩
 | set S n=>obtain ⟨ob,es,ep,t,e,c⟩:=x; exact ⟨_,e⟩
 | ins C dx fs=>obtain ⟨d,z,ne,e,_⟩:=x; exact ⟨_,e⟩
 | own y=>exact x
 | xd fs=>obtain ⟨mA,⟨od,es,ep,e,c⟩,r⟩:=x; exact ⟨_,e⟩
 | rng lo hi=>obtain ⟨t,u,v,e⟩:=x; exact ⟨_,e⟩
 | frz ob u ih=>exact ⟨_,x.1⟩
 | tbl ps=>exact ⟨_,x⟩
 | met f y=>exact ⟨_,x⟩
 | ext φ=>exact x.2.1
theorem VO {P:Program} {w:World} {H:Hp} {h h':Heap} {fr:List Addr} {e T0 T:Addr} {cls:Value} (x:QQ P w H h) (l:Lft fr e T0 T cls h h') (hfr:∀ b ∈ fr,H b=none) (he:H e=none) (h0:H T0=none):QQ P w H h':=fun b u q=>by
 refine (x b u q).stay (fun c v hc r=>?_) (fun _ r=>r) fun _ _ r=>r
 have hn:H c ≠ none:=by
  rcases hc with rfl | hc
  ·rw [q]; exact fun z=>nomatch z
  ·rw [hc]; exact fun z=>nomatch z
 exact l.keep c v (fun z=>hn (hfr c z)) (fun z=>hn (by rw [z]; exact he)) (fun z=>hn (by rw [z]; exact h0)) r
section
variable {P:Program} {w:World} {K:QM} {mg:Str->Option Value} {base:Heap} {N:List Str} {qual:Str} {scope:Scope} {f:Addr} {cd:Value} {A:Around} {outer:List Env} {s0:Shared} {H0:Hp} {E:XK}
 {pins:List (Addr × Obj)} {σ:L2.St} {H:Hp} {s:Shared}
theorem Wc {h2:Heap} {e T0 T C:Addr} (I:Inv (qZ (JP P w) P w K mg base N qual scope f cd A outer s0 H0 E) pins σ H s) (l:Lft ((envOfC qual scope s0.heap.objs.size f cd :: outer).filterMap (·.frame)) e T0 T (.ref C) s.heap h2)
  (new:∀ b o,s0.heap.get? b=some o->b ≠ e /\ b ≠ T0) (he0:H e=none) (ht0:H T0=none) (q:E (.ref e) (some C) H):JP P w outer H0 s0 E (.ref e) { s with heap:=h2 }:=by
 have hfr:∀ b ∈ (envOfC qual scope s0.heap.objs.size f cd :: outer).filterMap (·.frame),H b=none:=I.stkFree
 have hU:Un (QT outer) [] H0 H s0.heap s.heap:=I.base
 have newT:∀ b o,s0.heap.get? b=some o->b ≠ T:=fun b o hb z=>by
  obtain ⟨o',h1⟩:=hU.there b o hb (by simp)
  have:=l.new
  rw [← z,h1] at this; cases this
 have nin:∀ b o,s0.heap.get? b=some o->b ∉ QT outer->b ∉ (envOfC qual scope s0.heap.objs.size f cd :: outer).filterMap (·.frame):=fun b o hb hn z=>by
  rcases List.mem_cons.mp (show b ∈ s0.heap.objs.size :: QT outer from z) with z | z
  ·exact Nat.ne_of_lt (Heap.lt_size hb) z
  ·exact hn z
 have isin:∀ b,b ∈ QT outer->b ∈ (envOfC qual scope s0.heap.objs.size f cd :: outer).filterMap (·.frame):=fun b hb=>show b ∈ s0.heap.objs.size :: QT outer from List.mem_cons_of_mem _ hb
 refine ⟨e,T,C,H,rfl,I.os,I.bare,⟨fun b o hb hn hf hx'=>?_,fun b o hb hn hf hx'=>?_,hU.free,fun b o hb hx'=>?_,hU.tups,hU.frzs,hU.tbls⟩,VO I.hok l hfr he0 ht0,l.trc,he0,?_,?_,?_,q⟩
 ·obtain ⟨n1,n2⟩:=new b o hb
  exact l.keep b o (nin b o hb hf) n1 n2 (hU.keep b o hb hn hf hx')
 ·obtain ⟨n1,n2⟩:=new b o hb
  obtain ⟨sl,h1⟩:=hU.slot b o hb hn hf hx'
  obtain ⟨sl',h2⟩:=l.slot b _ (isin b hf) n1 n2 h1
  exact ⟨sl',h2⟩
 ·obtain ⟨n1,n2⟩:=new b o hb
  obtain ⟨o',h1⟩:=hU.there b o hb hx'
  by_cases z:b ∈ (envOfC qual scope s0.heap.objs.size f cd :: outer).filterMap (·.frame)
  ·obtain ⟨sl,h2⟩:=l.slot b o' z n1 n2 h1
   exact ⟨_,h2⟩
  ·exact ⟨o',l.keep b o' z n1 n2 h1⟩
 ·cases r:H T with
  | none=>rfl
  | some o =>
   obtain ⟨ob,z⟩:=zT.at (I.hok T o r)
   rw [l.new] at z; cases z
 ·cases r:s0.heap.get? e with
  | none=>rfl
  | some o=>exact absurd rfl (new e o r).1
 ·cases r:s0.heap.get? T with
  | none=>rfl
  | some o=>exact absurd rfl (newT T o r)
theorem Tl {h':Heap} {e C:Addr} {args:List Value} (I:Inv (qZ (JP P w) P w K mg base N qual scope f cd A outer s0 H0 E) pins σ H s) (hx:Heap.MadeExcOf s.heap h' e (.ref C) args) (q:E (.ref e) (some C) H) :
  (qZ (JP P w) P w K mg base N qual scope f cd A outer s0 H0 E).xe (.ref e) { s with heap:=h' }:=by
 obtain ⟨t,he,ht,_⟩:=hx.there
 have he0:H e=none:=by
  cases r:H e with
  | none=>rfl
  | some o =>
   obtain ⟨ob,z⟩:=zT.at (I.hok e o r)
   rw [hx.new] at z; cases z
 have I1:Inv (qZ (JP P w) P w K mg base N qual scope f cd A outer s0 H0 E) pins σ H { s with heap:=h' }:=I.kept (t':=s.toks) hx.keeps
 have new:∀ b o,s0.heap.get? b=some o->b ≠ e:=fun b o hb z=>by
  have hU:Un (QT outer) [] H0 H s0.heap s.heap:=I.base
  obtain ⟨o',ho'⟩:=hU.there b o hb (by simp)
  rw [z,hx.new] at ho'; cases ho'
 refine jl (base:=base) (outer:=outer) (L:=s0.heap.objs.size) I.ok.frames I1.stack rfl he rfl rfl rfl fun h2 T l=>?_
 exact Wc I1 l (fun b o hb=>⟨new b o hb,new b o hb⟩) he0 he0 q
theorem Wd {E':XK} (hE:∀ e C H',E' e (some C) H' -> E e (some C) H'):uf (JP P w) (qZ (JP P w) P w K mg base N qual scope f cd A outer s0 H0 E) E':=by
 intro pins σ H s ex s' I hc
 obtain ⟨e,T0,C,H',rfl,os,bare,un,hok,trc,e0,t0,ne,nt,q⟩:=hc
 have I1:Inv (qZ (JP P w) P w K mg base N qual scope f cd A outer s0 H0 E) pins σ H' s':=I.call' (ch:=[]) os un hok bare (fun b z=>absurd z (by simp))
 have new:∀ b o,s0.heap.get? b=some o->b ≠ e /\ b ≠ T0:=fun b o hb=>by
  have hU:Un (QT outer) [] H0 H s0.heap s.heap:=I.base
  obtain ⟨o',ho'⟩:=hU.there b o hb (by simp)
  refine ⟨fun z=>?_,fun z=>?_⟩
  ·rw [z,ne] at ho'; cases ho'
  ·rw [z,nt] at ho'; cases ho'
 refine Yj (base:=base) (outer:=outer) (L:=s0.heap.objs.size) I.ok.frames I1.stack rfl trc fun h2 T l=>?_
 exact Wc I1 l new e0 t0 (hE _ _ _ q)
end
abbrev JQ:List Value:=[.type "ValueError",.type "Exception",.type "BaseException",.type "object"]
def qS (K:QM) (mg:Str->Option Value) (x:Str) (C:Addr):Prop:=∀ h:Heap,K.In h->OwnCls x C JQ "ValueError.__new__" mg h
def UM (X:Cx) (E:XK):Prop:=∀ (pins:List (Addr × Obj)) (σ:L2.St) (H:Hp) (s:Shared) (h':Heap) (e C:Addr) (args:List Value),Inv X pins σ H s->Heap.MadeExcOf s.heap h' e (.ref C) args->E (.ref e) (some C) H->X.xe (.ref e) { s with heap:=h' }
def SB (C:Addr) (E:XK) (te:TE):TS:=fun _ σ H=>te σ H fun _ H1=>∀ e,E (.ref e) (some C) H1
section
variable {X:Cx} {x:Str} {C:Addr} {np cpos pos:Pos} {e₀:Expr} {te:TE} {E:XK}
theorem Zr (hc:X.calm=true) (O:qS X.K X.mg x C) (hg:Gl X x) (hr:UM X E) (he:PE X e₀ te) (hdb:(x == ("__debug__":Str))=false:=by decide)
  (hst:starEach [e₀] X.env=[(false,eval e₀ X.env)]:=by rfl):PS X (.Raise (some (.Call (.Name x np) [e₀] [] cpos)) none pos) (SB C E te):=by
 intro pins s σ H D I h
 obtain ⟨tl,N,nm,q,bs,hdct,sn,sub,ab,col,dd,k0,k1,k2,k3,k5,mN,hC,hN,hni,T⟩:=(O X.base I.mod.kin).obj
 refine wpAny_Raise_call_subT (C:=C) (nm:=nm) (q:=q) (N:=N) (bs:=bs) (bm:=tl) (hdct:=hdct) (sn:=sn) (sub:=sub) (ab:=ab) (col:=col) (dd:=dd) (k0:=k0) (k1:=k1) (k2:=k2) (k3:=k3) (k5:=k5)
  PySem.F.excBase_ValueError (mN:=mN) (T.hasType PySem.F.excBase_ValueError.hasBase) (I.ok.hd hc) (by rw [hst]; rfl) hni (ua I hg (O s.heap I.kIn).bound ⟨rfl,?_⟩ hdb)
 rw [hst]
 refine Calls.evalArgs_plain ?_
 show wpAny _ _ (spliced [(false,eval e₀ X.env)]) _ _ s
 refine Calls.spliced_cons (QX (he pins s σ H _ I h) fun v s1 ⟨y,H1,I1,r1,q1⟩=>Calls.spliced_nil ?_)
 exact ⟨rfl,JB rfl,I1.bk _ _ hC,hN.keeps I1.bk,T.keeps I1.bk,fun h' e hm=>hr pins σ H1 s1 h' e C _ I1 hm (q1 e)⟩
end
section
variable {P:Program} {w:World} {K:QM} {mg:Str->Option Value} {base:Heap} {N:List Str} {qual:Str} {scope:Scope} {f:Addr} {cd:Value} {A:Around} {outer:List Env} {s0:Shared} {H0:Hp} {E:XK}
theorem qa:UM (qZ (JP P w) P w K mg base N qual scope f cd A outer s0 H0 E) E:=fun _ _ _ _ _ _ _ _ I hx q=>Tl I hx q
end
section
variable {M:Model} {A:Around} {E:QN} {s:Shared}
theorem We {base:Heap} {env:Env} {outer:List Env} {L e T0:Addr} {cls:Value} {Q:Unit->Shared->Prop}
  (hfr:A.frames=some (env :: outer)) (hl:s.heap.FunFrames base (env :: outer)) (hf:env.frame=some L) (ht:JO s.heap e T0 cls)
  (h:∀ h' T,Lft ((env :: outer).filterMap (·.frame)) e T0 T cls s.heap h' -> Q () { s with heap:=h' }):wpAny M A (noteFrame (.ref e) env) (fun _ s'=>wpAny M A (setFlight (.ref e) none) Q E s') E s:=by
 obtain ⟨oe,vs,oT,ts,he,hcls,hd,h1,hTe,hT,hdT,h3,hv2⟩:=ht
 subst hcls
 unfold noteFrame
 simp only [hf]
 refine wpAny_bind (wpAny_field he hd h1 ?_)
 rw [if_pos (show (Value.ref T0 != Value.none)=true from by simp)]
 refine wpAny_bind (wpAny_field hT hdT h3 ?_)
 rw [if_neg (show ¬ ((Value.none == rawInt L)=true) from by simp [rawInt])]
 refine wpAny_bind (wpAny_setField hT hdT (Array.getElem?_eq_some_iff.mp h3).1 ?_)
 have other:∀ b,b ≠ T0->(s.heap.update T0 (Obj.mapFields (·.setIfInBounds 3 Value.none))).get? b=s.heap.get? b:=fun b hb=>Heap.get?_update_other _ _ (Ne.symm hb)
 have nf:∀ b o,s.heap.get? b=some o->(∀ vs,o.data ≠ .fields vs)->b ≠ T0:=fun b o hb hnf q=>by
  rw [q,hT] at hb
  cases hb
  exact hnf ts hdT
 refine wC hfr (hl.of_keeps fun b o hb hnf=>⟨o,(other b (nf b o hb hnf)).trans hb,rfl⟩) hf ((other e (Ne.symm hTe)).trans he) hd (Array.getElem?_eq_some_iff.mp h1).1 hv2 fun h' T x=>h h' T ?_
 refine ⟨fun b o hb hbe hb0 ho=>x.keep b o hb hbe hbe ((other b hb0).trans ho),fun b o hb hbe hb0 ho=>x.slot b o hb hbe hbe ((other b hb0).trans ho),?_,x.trc⟩
 have:=x.new
 by_cases q:T=T0
 ·subst q
  have e5:=Heap.get?_update_self (Obj.mapFields (·.setIfInBounds 3 Value.none)) hT (Obj.isFreed_of_fields (Obj.data_mapFields hdT _))
  rw [show (s.heap.update T (Obj.mapFields (·.setIfInBounds 3 Value.none))).get? T=_ from e5] at this
  cases this
 ·rw [← other T q]; exact this
theorem Yk {e T0:Addr} {cls:Value} {Q:Unit->Shared->Prop} (ht:JO s.heap e T0 cls)
  (h:∀ h',(∀ b,b ≠ T0->h'.get? b=s.heap.get? b)->JO h' e T0 cls->Q () { s with heap:=h' }):wpAny M A (setFlight (.ref e) none) Q E s:=by
 obtain ⟨oe,vs,oT,ts,he,hcls,hd,h1,hTe,hT,hdT,h3,hv2⟩:=ht
 unfold setFlight
 refine wpAny_bind (wpAny_field he hd h1 ?_)
 rw [if_pos (show (Value.ref T0 != Value.none)=true from by simp)]
 have other:∀ b,b ≠ T0->(s.heap.update T0 (Obj.mapFields (·.setIfInBounds 3 ((none:Option Addr).elim Value.none fun f=>rawInt f)))).get? b=s.heap.get? b:=fun b hb=>Heap.get?_update_other _ _ (Ne.symm hb)
 refine wpAny_setField hT hdT (Array.getElem?_eq_some_iff.mp h3).1 (h _ other ⟨oe,vs,_,_,(other e (Ne.symm hTe)).trans he,hcls,hd,h1,hTe,Heap.get?_update_self _ hT (Obj.isFreed_of_fields (Obj.data_mapFields hdT _)),Obj.data_mapFields hdT _,?_,hv2⟩)
 simp only [Array.getElem?_setIfInBounds,if_true]
 rw [if_pos (Array.getElem?_eq_some_iff.mp h3).1]
 rfl
end
structure ApX (X:Cx) (pins:List (Addr × Obj)) (H:Hp) (a T:Addr):Prop where
 s0:∀ b o,X.s₀.heap.get? b=some o->b ≠ a /\ b ≠ T
 loc:X.env.locals ≠ a /\ X.env.locals ≠ T
 cel:∀ x c,X.env.cells.lookup x=some c->c ≠ a /\ c ≠ T
 pin:∀ p ∈ X.pn ++ pins,p.1 ≠ a /\ p.1 ≠ T
 ha:H a=none
 hT:H T=none
theorem ApX.of {X:Cx} {pins:List (Addr × Obj)} {σ:L2.St} {H H':Hp} {s:Shared} {a T:Addr} (I:Inv X pins σ H s) (hx:X.ex=[]) (na:s.heap.get? a=none) (nT:s.heap.get? T=none) (ha:H' a=none) (hT:H' T=none):ApX X pins H' a T:=by
 have ne:∀ b o,s.heap.get? b=some o->b ≠ a /\ b ≠ T:=fun b o hb=>⟨fun z=>(by rw [z,na] at hb; cases hb),fun z=>(by rw [z,nT] at hb; cases hb)⟩
 refine ⟨fun b o hb=>?_,?_,fun x c hc=>?_,fun p hp=>ne _ _ (I.pin p hp).1,ha,hT⟩
 ·obtain ⟨o',h1⟩:=I.base.there b o hb (by rw [hx]; simp)
  exact ne b o' h1
 ·obtain ⟨m,⟨o,es,ep,ho,_⟩,_⟩:=I.loc
  exact ne _ _ ho
 ·obtain ⟨v,hv⟩:=I.cell x c hc
  obtain ⟨o,ho,_⟩:=hv
  exact ne _ _ ho
theorem Inv.leftK {X:Cx} {pins:List (Addr × Obj)} {σ:L2.St} {H:Hp} {s:Shared} {a T0:Addr} {h2:Heap} (I:Inv X pins σ H s) (hx:X.ex=[]) (ap:ApX X pins H a T0)
  (lk:∀ b o,b ∉ QT X.stack->b ≠ a->b ≠ T0->s.heap.get? b=some o->h2.get? b=some o) (ls:∀ b o,b ∈ QT X.stack->b ≠ a->b ≠ T0->s.heap.get? b=some o -> ∃ sl,h2.get? b=some { o with slots:=sl }):Inv X pins σ H { s with heap:=h2 }:=by
 have stk:∀ b,b ∈ QT X.stack->b=X.env.locals \/ b ∈ X.fs:=fun b hb=>List.mem_cons.mp (I.stkSub b hb)
 have any:∀ b o,b ≠ a->b ≠ T0->s.heap.get? b=some o -> ∃ sl,h2.get? b=some { o with slots:=sl }:=fun b o n1 n2 ho=>by
  by_cases z:b ∈ QT X.stack
  ·exact ls b o z n1 n2 ho
  ·exact ⟨o.slots,lk b o z n1 n2 ho⟩
 have cellK:∀ x c,X.env.cells.lookup x=some c -> ∀ v,s.heap.IsCell c v->h2.IsCell c v:=fun x c e v ⟨o,ho,hd⟩=>by
  obtain ⟨n1,n2⟩:=ap.cel x c e
  obtain ⟨sl,h1⟩:=any c o n1 n2 ho
  exact ⟨_,h1,hd⟩
 refine ⟨I.ok,I.os,I.bare,⟨fun b o hb hn hf hx'=>?_,fun b o hb hn hf hx'=>?_,I.base.free,fun b o hb hx'=>?_,I.base.tups,I.base.frzs,I.base.tbls⟩,?_,fun x c hc=>?_,I.free,I.freeC,fun p hp=>?_,fun b u q=>?_,I.len⟩
 ·obtain ⟨n1,n2⟩:=ap.s0 b o hb
  refine lk b o (fun z=>?_) n1 n2 (I.base.keep b o hb hn hf hx')
  rcases stk b z with z | z
  ·exact absurd (Nat.lt_of_lt_of_le (Heap.lt_size hb) I.ok.above) (by rw [z]; exact Nat.lt_irrefl _)
  ·exact hf z
 ·obtain ⟨n1,n2⟩:=ap.s0 b o hb
  obtain ⟨sl,h1⟩:=I.base.slot b o hb hn hf hx'
  obtain ⟨sl',h3⟩:=any b _ n1 n2 h1
  exact ⟨sl',h3⟩
 ·obtain ⟨n1,n2⟩:=ap.s0 b o hb
  obtain ⟨o',h1⟩:=I.base.there b o hb hx'
  obtain ⟨sl,h3⟩:=any b o' n1 n2 h1
  exact ⟨_,h3⟩
 ·obtain ⟨m,⟨o,es,ep,ho,r⟩,hl⟩:=I.loc
  obtain ⟨sl,h1⟩:=any _ o ap.loc.1 ap.loc.2 ho
  refine ⟨m,⟨_,es,ep,h1,r⟩,fun i x v e1 e2 e3=>?_⟩
  obtain ⟨u,ru,lk⟩:=hl i x v e1 e2 e3
  refine ⟨u,ru,?_⟩
  rcases lk with lk | ⟨k1,c,k2,k3⟩
  ·exact .inl lk
  ·exact .inr ⟨k1,c,k2,cellK x c k2 _ k3⟩
 ·obtain ⟨v,hv⟩:=I.cell x c hc
  exact ⟨v,cellK x c hc v hv⟩
 ·obtain ⟨p1,p2,p3,p4,p5⟩:=I.pin p hp
  obtain ⟨n1,n2⟩:=ap.pin p hp
  refine ⟨lk _ _ (fun z=>?_) n1 n2 p1,p2,p3,p4,p5⟩
  rcases stk _ z with z | z
  ·exact p3 z
  ·exact p4 z
 ·refine (I.hok b u q).stay (fun c v hc r=>?_) (fun _ r=>r) fun _ _ r=>r
  have hn:H c ≠ none:=by
   rcases hc with rfl | hc
   ·rw [q]; exact fun z=>nomatch z
   ·rw [hc]; exact fun z=>nomatch z
  exact lk c v (fun z=>hn (I.stkFree c z)) (fun z=>hn (by rw [z]; exact ap.ha)) (fun z=>hn (by rw [z]; exact ap.hT)) r
theorem Inv.left {X:Cx} {pins:List (Addr × Obj)} {σ:L2.St} {H:Hp} {s:Shared} {a T0 T:Addr} {cls:Value} {h2:Heap} (I:Inv X pins σ H s) (hx:X.ex=[]) (ap:ApX X pins H a T0)
  (l:Lft (QT X.stack) a T0 T cls s.heap h2):Inv X pins σ H { s with heap:=h2 }:=Inv.leftK I hx ap l.keep l.slot
abbrev pinX (X:Cx) (ps:List (Addr × Obj)) (E:QN):Cx:={ X with pn:=X.pn ++ ps,xe:=E }
def Wf (X:Cx) (ps:List (Addr × Obj)) (E:XK):QN:=fun e s'=>∃ (a T C:Addr) (σ:L2.St) (H:Hp),e = .ref a /\ Inv X ps σ H s' /\ JO s'.heap a T (.ref C) /\ ApX X ps H a T /\ E e (some C) H
section
variable {X:Cx} {ps pins:List (Addr × Obj)} {E:QN} {σ:L2.St} {H:Hp} {s:Shared}
theorem Inv.pinX (I:Inv X ps σ H s):Inv (pinX X ps E) [] σ H s :=
 ⟨⟨I.ok.mod,I.ok.kind,I.ok.glob,I.ok.blt,I.ok.above,I.ok.inj,I.ok.has,I.ok.cab,I.ok.hd,I.ok.frames,I.ok.stk,I.ok.exf,I.ok.bs,I.ok.bsz,I.ok.noex,I.ok.exfs,I.ok.funs,I.ok.frf⟩,I.os,I.bare,I.base,I.loc,I.cell,I.free,I.freeC,fun p hp=>I.pin p (by simpa using hp),I.hok,I.len⟩
theorem Inv.unpin (I:Inv (L3.pinX X ps E) pins σ H s):Inv X ps σ H s :=
 ⟨⟨I.ok.mod,I.ok.kind,I.ok.glob,I.ok.blt,I.ok.above,I.ok.inj,I.ok.has,I.ok.cab,I.ok.hd,I.ok.frames,I.ok.stk,I.ok.exf,I.ok.bs,I.ok.bsz,I.ok.noex,I.ok.exfs,I.ok.funs,I.ok.frf⟩,I.os,I.bare,I.base,I.loc,I.cell,I.free,I.freeC,fun p hp=>I.pin p (List.mem_append_left _ hp),I.hok,I.len⟩
end
theorem Zs {X:Cx} {ps:List (Addr × Obj)} {E:XK} (hx:X.ex=[]):uf (JP X.prog X.w) (pinX X ps (Wf X ps E)) E:=by
 intro pins σ H s ex s' I hc
 obtain ⟨a,T0,C,H',rfl,os,bare,un,hok,trc,e0,t0,ne,nt,q⟩:=hc
 have I0:Inv X ps σ H s:=Inv.unpin I
 have I1:Inv X ps σ H' s':=I0.call' (ch:=[]) os un hok bare (fun b z=>absurd z (by simp))
 exact ⟨a,T0,C,σ,H',rfl,I1,trc,ApX.of I0 hx ne nt e0 t0,q⟩
abbrev handX (X:Cx) (e:Addr):Cx:={ X with A:=X.A.mark (some (.ref e)),calm:=false,xe:=fun _ _=>False }
section
variable {X:Cx} {pins:List (Addr × Obj)} {σ:L2.St} {H:Hp} {s:Shared} {e:Addr}
theorem Inv.handX (I:Inv X pins σ H s):Inv (handX X e) pins σ H s :=
 ⟨⟨I.ok.mod,I.ok.kind,I.ok.glob,I.ok.blt,I.ok.above,I.ok.inj,I.ok.has,I.ok.cab,fun z=>(nomatch z),I.ok.frames,I.ok.stk,I.ok.exf,I.ok.bs,I.ok.bsz,I.ok.noex,I.ok.exfs,I.ok.funs,I.ok.frf⟩,I.os,I.bare,I.base,I.loc,I.cell,I.free,I.freeC,I.pin,I.hok,I.len⟩
theorem Inv.unhand (ok:X.Ok) (I:Inv (L3.handX X e) pins σ H s):Inv X pins σ H s:=⟨ok,I.os,I.bare,I.base,I.loc,I.cell,I.free,I.freeC,I.pin,I.hok,I.len⟩
theorem SP.unpin {ps:List (Addr × Obj)} {E:QN} {D:Ends} {f:Flow} (h:SP (L3.pinX X ps E) [] D f s):SP X ps D f s:=by
 cases f with
 | next=>obtain ⟨σ',H',I,q⟩:=h; exact ⟨σ',H',Inv.unpin I,q⟩
 | brk=>obtain ⟨σ',H',I,q⟩:=h; exact ⟨σ',H',Inv.unpin I,q⟩
 | cont=>obtain ⟨σ',H',I,q⟩:=h; exact ⟨σ',H',Inv.unpin I,q⟩
 | ret u=>obtain ⟨v,σ',H',I,r,q⟩:=h; exact ⟨v,σ',H',Inv.unpin I,r,q⟩
end
open PySem.W in
/-- an exception class as the text's constants show it -/
theorem excC_of {K:QM} {mg:Str->Option Value} {x:Str} {C:Addr} (b:mg x=some (.ref C)) (q:PySem.W.excIn K C JQ "ValueError.__new__" = true):qS K mg x C:=by
 intro h X
 refine ⟨b,?_⟩
 unfold PySem.W.excIn at q
 cases ho:K.lookup C with
 | none=>rw [ho] at q; cases q
 | some ob =>
  rw [ho] at q
  obtain ⟨oc,od,oda,osl⟩:=ob
  split at q
  ·rename_i dd cd sl e
   obtain ⟨rfl,rfl,rfl,rfl⟩:=Obj.mk.inj (Option.some.inj e)
   split at q
   ·rename_i C' bm k0 k1 k2 k3 n k5 hm hs
    simp only [Bool.and_eq_true,beq_iff_eq,Bool.not_eq_true'] at q
    obtain ⟨⟨⟨⟨⟨rfl,rfl⟩,hdel⟩,ht⟩,hok⟩,hni⟩:=q
    obtain ⟨nm,bs,mro,ns,qn,hd,sn,sub,ab,col,del⟩:=cd
    dsimp only at hm hdel hok hni
    subst hm hdel
    obtain ⟨l⟩:=osl
    have hl:l=[k0,k1,k2,k3,some (.builtin "ValueError.__new__"),k5]:=hs
    subst hl
    exact ⟨bm,ns,nm,qn,bs,hd,sn,sub,ab,col,od,k0,k1,k2,k3,k5,_,X _ _ ho,.of_isNs (PySem.W.isNs_of_in X hok),PySem.W.nsMap_none_of_in X hok hni,PySem.W.tail_of_in X ht⟩
   ·cases q
  ·cases q
theorem RQ {X:Cx}:uf (JP X.prog X.w) X E0:=fun _ _ _ _ _ _ _ h=>by
 obtain ⟨_,_,_,_,_,_,_,_,_,_,_,_,_,_,q⟩:=h
 exact q.elim
section
variable {P:Program} {w:World} {K:QM} {mg:Str->Option Value} {base:Heap}
theorem Fun.okX {x qual:Str} {st:Stmt} {f:Addr} {fd:FuncData} {N ps:List Str} {k:Nat} {sp:Sp} (F:Fun K x qual st f fd) (S:FnScope N ps (zi st)) (len:∀ vs H Q E,sp vs H Q E->vs.length=ps.length)
  (hbody:∀ (cdv:Value) (A:Around) (outer:List Env) (s:Shared) (H:Hp) (vs:List V) (Q:VK) (E:XK),Room k (A.deeper (envOfC qual (zi st) s.heap.objs.size f cdv))->sp vs H Q E →
   ∃ t,QW (qZ (JP P w) P w K mg base N qual (zi st) f cdv A outer s H E) (xW st) t /\ t { nx:=fun _ H'=>Q .non H',rt:=Q } (start N vs) H):FnOk P w K mg base (JP P w) (k+1) f fd ps sp:=by
 obtain ⟨oc,od,kV,doc,pm,an,cdv,ct,osl,rfl,lk,hcd⟩:=F.ex
 exact Sb lk hcd S len fun A outer s H vs Q E hr hsp=>hbody cdv A outer s H vs Q E hr hsp
end
def yZ (P:Program) (w:World) (K:QM) (mg:Str->Option Value) (base:Heap) (k:Nat) (x:Str) (ps:List Str) (sp:Sp):Prop :=
 ∃ (f:Addr) (fd:FuncData),FnOk P w K mg base (JP P w) k f fd ps sp /\ sh K fd ps [] /\ PySem.W.keepIn K (.ref f)=true /\ mg x=some (.ref f)
section
variable {P:Program} {w:World} {K:QM} {mg:Str->Option Value} {base:Heap} {C:Addr} {j k:Nat} {m x:Str} {ps:List Str} {sp:Sp}
theorem yZ.mono (c:yZ P w K mg base j x ps sp) (h:j<=k):yZ P w K mg base k x ps sp:=by
 obtain ⟨f,fd,F,b,mt⟩:=c
 exact ⟨f,fd,F.mono h,b,mt⟩
end
section
variable {X:Cx} {C:Addr} {k:Nat} {m x:Str} {ps:List Str} {sp:Sp} {o e:Expr} {es:List Expr} {ta:TE} {t:TA} {apos pos p:Pos} {E:XK}
theorem wZ (c:yZ X.prog X.w X.K X.mg X.base k x ps sp) (hx:uf (JP X.prog X.w) X E) (hr:Room k X.A) (hg:Gl X x)
  (ha:PA X (e :: es) t) (hdb:(x == ("__debug__":Str))=false:=by decide) (he:starEach (e :: es) X.env=(false,eval e X.env) :: starEach es X.env:=by rfl) (hpl:(backTo pos (starEach es X.env)).any (·.1)=false:=by rfl) :
  PE X (.Call (.Name x p) (e :: es) [] pos) (Vk sp [] E t):=by
 obtain ⟨f,fd,F,b,kp,m⟩:=c
 exact Y4 F hr hg m kp b .nil hx ha hdb he hpl
end
open PySem PySem.Spec PyProof.Rows L2 PySem.W
open PySem.Builtin PySem.Builtin.ObjectAttr PySem.Builtin.Getset_descriptor in
theorem exc_class_get {prog:Program} {w:World} {A:Around} {s:Shared} {K:QM} {a C:Addr} {o:Obj} {R:Result->Shared->Prop} {tp:Value} (X:K.In s.heap) (hx:s.heap.get? a=some o) (hc:o.cls = .ref C) (hm:PySem.W.mroIn K C (.type "object")=some true)
  (h:R (.ok (.ret (.ref C))) s):codeAny (model prog w) A (.call (.builtin "getset_descriptor.__get__") ⟨[.builtin "object.__class__",.ref a,tp],[]⟩) R s:=by
 obtain ⟨hh,g,dr,t,os⟩:=s
 have L0:Looks (model prog w) hh (typeOf (.ref a)) (.ref C):=hc ▸ (Looks.ld hx).andThen .now
 have L1:=looks_mroIn (M:=model prog w) X hm
 refine codeAny_call_builtin KF.slot_gs.plain KF.entry_gs (KF.slot_gs.check _ _ _ _ _ _ _ _ KF.type_class (KF.args_gs _ _ _) ?_)
 unfold Builtin.«getset_descriptor.__get__» descrGet
 rw [dga_obj]
 refine wpAny_bind (wpAny_pure ?_)
 unfold descrGetter descrCheckInstance descrNameAndClass isInstance
 simp only [KF.owner_class]
 repeat lk
 refine ⟨Code.quiet_builtin _ (by decide +kernel),codeAny_builtin KF.entry_class ?_⟩
 unfold Builtin.«object.__class__» shownTypeOf
 repeat lk
 exact h
section
variable {prog:Program} {w:World} {A:Around} {E:QN} {K:QM} {a C:Addr} {o:Obj} {h:Heap} {g:Array GenState} {d:Drawn} {t:Nat} {os:OsState}
theorem uz {tk:Tok} {Q:PySem.Fin->Shared->Prop} (X:K.In h) (hx:h.get? a=some o) (hc:o.cls = .ref C) (ha:findIn K (.ref C) "__class__" = some (some (.builtin "object.__class__"))) (hm:PySem.W.mroIn K C (.type "object")=some true)
  (hq:Q (.done (.ret (.ref C))) ⟨h,g,d,t,os⟩):wpAny (model prog w) A (Builtin.«object.__getattribute__» ⟨[.ref a,.str "__class__" tk],[]⟩) Q E ⟨h,g,d,t,os⟩:=by
 have L0:Looks (model prog w) h (typeOf (.ref a)) (.ref C):=hc ▸ (Looks.ld hx).andThen .now
 have L1:=looks_findIn (M:=model prog w) X ha
 have f5:=PySem.F.typeOf_object_class
 have f6:=PySem.F.slot_gs_get.lookup
 have f7:=PySem.F.slot_gs_set.lookup
 repeat (any_goals (first | assumption | with_reducible refine L0.at ?_ | with_reducible refine L1.at ?_ | (with_reducible refine wpAny_loadPart_at hx ?_; rw [hc]) | wp_step))
 refine exc_class_get X hx hc hm ?_
 repeat (any_goals (first | assumption | wp_step))
theorem qb {M:Model} {nameV:Value} {Q:Unit->Shared->Prop} (X:K.In h) (hx:h.get? a=some o) (hc:o.cls = .ref C) (hb:PySem.W.mroIn K C (.type "BaseException")=some true) (hq:Q () ⟨h,g,d,t,os⟩) :
  wpAny M A (checkBuiltinCall "BaseException.__getattribute__" ⟨[.ref a,nameV],[]⟩) Q E ⟨h,g,d,t,os⟩:=by
 have hk:builtinKind "BaseException.__getattribute__" = some .slot:=by decide +kernel
 have hsplit:splitId "BaseException.__getattribute__" = some ("BaseException","__getattribute__"):=by decide +kernel
 have L0:Looks M h (typeOf (.ref a)) (.ref C):=hc ▸ (Looks.ld hx).andThen .now
 have L1:=looks_mroIn (M:=M) X hb
 have ha:=PySem.F.args_bexc_ga (.ref a) nameV
 simp only [checkBuiltinCall,hk,hsplit]
 refine wpAny_bind ?_
 unfold isInstance
 repeat (first | with_reducible refine L0.at ?_ | with_reducible refine L1.at ?_ | wp_step)
 exact hq
theorem uV {tk:Tok} {R:Result->Shared->Prop} (X:K.In h) (hx:h.get? a=some o) (hc:o.cls = .ref C) (ha:findIn K (.ref C) "__class__" = some (some (.builtin "object.__class__"))) (hm:PySem.W.mroIn K C (.type "object")=some true) (hb:PySem.W.mroIn K C (.type "BaseException")=some true)
  (hq:R (.ok (.ret (.ref C))) ⟨h,g,d,t,os⟩):codeAny (model prog w) A (.call (.builtin "BaseException.__getattribute__") ⟨[.ref a,.str "__class__" tk],[]⟩) R ⟨h,g,d,t,os⟩ :=
 codeAny_call_builtin (by decide +kernel) PySem.F.entry_bexc_ga (qb X hx hc hb (uz X hx hc ha hm hq))
theorem qc {tk:Tok} {Q:QN} (X:K.In h) (hx:h.get? a=some o) (hc:o.cls = .ref C) (hga:findIn K (.ref C) "__getattribute__" = some (some (.builtin "BaseException.__getattribute__"))) (hgt:findIn K (.ref C) "__getattr__" = some none)
  (ha:findIn K (.ref C) "__class__" = some (some (.builtin "object.__class__"))) (hm:PySem.W.mroIn K C (.type "object")=some true) (hb:PySem.W.mroIn K C (.type "BaseException")=some true)
  (hq:Q (.ref C) ⟨h,g,d,t,os⟩):wpAny (model prog w) A (getAttrBy (.ref a) (.str "__class__" tk) false) Q E ⟨h,g,d,t,os⟩:=by
 have L0:Looks (model prog w) h (typeOf (.ref a)) (.ref C):=hc ▸ (Looks.ld hx).andThen .now
 have L1:=looks_findIn (M:=model prog w) X hga
 have L2:=looks_findIn (M:=model prog w) X hgt
 have f3:=PySem.F.attr_ValueError.ga.bind (.ref a)
 have hx2:(Value.builtin "BaseException.__getattribute__" == Value.builtin "object.__getattribute__")=false:=by decide +kernel
 have hx1:(onTheHeap (Value.ref C) && Value.builtin "BaseException.__getattribute__" == Value.builtin "object.__getattribute__")=false:=by rw [hx2]; rfl
 repeat (any_goals (first | assumption | with_reducible refine L0.at ?_ | with_reducible refine L1.at ?_ | with_reducible refine L2.at ?_ | (with_reducible refine wpAny_loadPart_at hx ?_; rw [hc]) | wp_step))
 refine uV X hx hc ha hm hb ?_
 repeat (any_goals (first | assumption | wp_step))
theorem uW {Q:Option Value->Shared->Prop} (X:K.In h) (hx:h.get? a=some o) (hc:o.cls = .ref C) (hga:findIn K (.ref C) "__getattribute__" = some (some (.builtin "BaseException.__getattribute__"))) (hgt:findIn K (.ref C) "__getattr__" = some none)
  (ha:findIn K (.ref C) "__class__" = some (some (.builtin "object.__class__"))) (hm:PySem.W.mroIn K C (.type "object")=some true) (hb:PySem.W.mroIn K C (.type "BaseException")=some true)
  (hq:Q (some (.ref C)) ⟨h,g,d,t+1,os⟩):wpAny (model prog w) A (getAttr? (.ref a) "__class__") Q E ⟨h,g,d,t,os⟩:=by
 unfold getAttr? getAttrBy?
 repeat (any_goals (first | assumption | with_reducible apply qc X hx hc hga hgt ha hm hb | wp_step))
end
structure ExcK (K:QM) (C:Addr):Prop where
 ga:findIn K (.ref C) "__getattribute__" = some (some (.builtin "BaseException.__getattribute__"))
 gt:findIn K (.ref C) "__getattr__" = some none
 cl:findIn K (.ref C) "__class__" = some (some (.builtin "object.__class__"))
 ob:mroIn K C (.type "object")=some true
 be:mroIn K C (.type "BaseException")=some true
theorem Wg {K:QM} {C:Addr} {b:Value} {r:Bool} (e:mroIn K C b=some r):∃ cd,clsIn K C=some cd:=by
 obtain ⟨cd,a,_⟩:=Option.bind_eq_some_iff.mp e
 exact ⟨cd,a⟩
theorem VP {K:QM} {a C:Addr} (F:ExcK K C):KitX K (.ref a) (.ref C) (fun h=>∃ o,h.get? a=some o /\ o.cls = .ref C) where
 ty:=fun M h _ p=>by
  obtain ⟨o,h1,h2⟩:=p
  exact h2 ▸ (Looks.ld h1).andThen .now
 it:=fun _ _ X _=>by
  obtain ⟨cdD,hcD⟩:=Wg F.ob
  unfold clsIn at hcD
  split at hcD
  ·rename_i c' d' cd' sl' ho
   intro A' Q' E' s' k q
   unfold isType loadHead
   exact wpAny_bind (wpAny_loadPart (k _ _ (X _ _ ho)) (wpAny_pure q))
  ·cases hcD
 ne:=fun h tp dd its n sl X htp=>by
  obtain ⟨cdD,hcD⟩:=Wg F.ob
  refine Bool.eq_false_iff.mpr fun q=>?_
  have e:C=tp:=Value.ref.inj (beq_iff_eq.mp q)
  subst e
  unfold clsIn at hcD
  split at hcD
  ·rename_i c' d' cd' sl' ho
   have z:=(X _ _ ho).symm.trans htp
   cases z
  ·cases hcD
 ca:=fun {_ _ _ _ _ s} X p k=>by
  obtain ⟨h,g,d,t,os⟩:=s
  obtain ⟨o,h1,h2⟩:=p
  exact uW X h1 h2 F.ga F.gt F.cl F.ob F.be k
def JR (a C:Addr):HO:=.ext fun h=>∃ o,h.get? a=some o /\ o.cls = .ref C /\ ∃ vs,o.data = .fields vs /\ vs[2]? = some .none
theorem JR.cl {h:Heap} {a C:Addr} (p:∃ o,h.get? a=some o /\ o.cls = .ref C /\ ∃ vs,o.data = .fields vs /\ vs[2]? = some .none):∃ o,h.get? a=some o /\ o.cls = .ref C:=p.imp fun _ z=>⟨z.1,z.2.1⟩
def SC (K:QM):List V->Hp->VK->Prop:=fun xs H Q=>∃ (a C:Addr) (y:V) (c:Value) (b:Bool),xs=[.ref a,y] /\ H a=some (JR a C) /\ (∀ u,zU y u->u=c) /\ ExcK K C /\ kitOne K (.ref C) c=some b /\ Q (.bl b) H
theorem xC {X:Cx} {K:QM} (hK:X.K=K):y7 X (.builtin "isinstance") (SC K):=by
 subst hK
 intro pins s σ H xs us Q I r h
 obtain ⟨a,C,y,c,b,rfl,hH,hy,F,e,q⟩:=h
 obtain ⟨u,w',rfl,rx,ry⟩:=Y1 r
 cases (show u=Value.ref a from rx)
 have:=hy w' ry
 subst this
 exact kia_one (VP F) I.kIn (JR.cl (I.hok a _ hH).1) e (fun z=>nomatch z) fun tk=>⟨.bl b,H,I.tok _,rfl,q⟩
theorem sC {M:Model} {A:Around} {E:QN} {K:QM} {h:Heap} {g:Array GenState} {d:Drawn} {t:Nat} {os:OsState} {e C' C N:Addr} {oe:Obj} {Q:Bool->Shared->Prop} {nm q:Str} {bs bm:List Value} {hdct:Bool} {sn:List Str} {sub:List Value} {ab:Bool} {col:Option Bool} {dd:Option Addr} {k0 k1 k2 k3 k5:Option Value} {newId:String}
  (X:K.In h) (hC:h.get? C=some (excClassObj nm q C N bs bm hdct sn sub ab col dd k0 k1 k2 k3 k5 newId)) (he:h.get? e=some oe) (hcls:oe.cls = .ref C') (hbase:bm.contains (.type "BaseException")=true) (hup:mroIn K C' (.ref C)=some true)
  (hq:Q true ⟨h,g,d,t,os⟩):wpAny M A (excMatches (.ref e) (.ref C)) Q E ⟨h,g,d,t,os⟩:=by
 have hcB:(Value.ref C :: bm).contains (.type "BaseException")=true:=by rw [List.contains_cons,hbase,Bool.or_true]
 have L1:=looks_mroIn (M:=M) X hup
 have f:=tc_notTuple
 unfold excMatches
 repeat (first | (with_reducible refine wpAny_loadPart_at he ?_; rw [hcls]) | with_reducible refine L1.at ?_ | with_reducible refine wpAny_loadPart_at hC ?_ | (with_reducible refine wpAny_isSubtype_exc hC ?_; rw [hcB]) | wp_step)
 exact hq
section
variable {X:Cx} {pins:List (Addr × Obj)} {σ:L2.St} {H:Hp} {s:Shared}
theorem w4 {M:Model} {A:Around} {E:QN} {i:Nat} {x:Str} {pos:Pos} {Q:Unit->Shared->Prop} (I:Inv X pins σ H s) (hN:X.N.Nodup) (hi:X.N[i]? = some x) (hx:X.env.kindOf x=some .local) (hx2:X.env.scope.names.lookup x=some .local)
  (h:∀ s',Inv X pins (σ.set i none) H s' -> Q () s'):wpAny M A (do bindName X.env x .none; unbindBehindTheSuite X.env x pos) Q E s:=by
 have hcls:(X.env.scope.kind == .class || (X.env.scope.kind == .module && X.env.locals != X.env.globals))=false:=by rw [I.ok.kind]; rfl
 refine wpAny_bind (wpAny_bindName (wd (v:=.non) I hN hi (.inl hx2) rfl (fun s1 I1=>?_) (.inr hx2)))
 unfold unbindBehindTheSuite
 refine wpAny_onRaise ?_
 unfold unbindName
 refine wpAny_bind (wpAny_point (wpAny_bind ?_))
 unfold deleteName
 simp only [hx,hcls]
 rw [if_neg (by decide)]
 obtain ⟨m,hn,hl⟩:=id I1.loc
 refine wpAny_bind (wpAny_nsDel_keeps hn fun h' v hn' hs=>?_)
 have hiσ:i < σ.length:=by rw [I.len]; exact (List.getElem?_eq_some_iff.mp hi).1
 have hm:(m x).isSome=true:=by
  obtain ⟨u,_,l⟩:=hl i x .non hi (List.getElem?_set_self hiσ) (.inl hx2)
  rcases l with ⟨_,e⟩ | ⟨k,_⟩
  ·rw [e]; rfl
  ·rcases k with k | k <;> (rw [hx] at k; cases k)
 simp only [hm,if_true,Bool.not_true,Bool.false_eq_true,if_false]
 refine wpAny_pure (wpAny_point (h _ ?_))
 obtain ⟨oL,_,_,hoL,_⟩:=id hn
 have cne:=I1.cne
 have tracked:QQ X.prog X.w H h':=fun b ob e=>by
  refine (I1.hok b ob e).stay (fun c w' hc q=>(hs.2 c ?_).trans q) (fun _ q=>q) fun _ _ q=>q
  rintro rfl
  have hfree:=I1.free
  rcases hc with hc | hc
  ·rw [← hc] at e; rw [hfree] at e; cases e
  ·rw [hfree] at hc; cases hc
 refine ⟨I1.ok,I1.os,I1.bare,⟨fun b o e n hb hx=>?_,fun b o e n hb hx=>?_,I1.base.free,fun b o e hx=>?_,I1.base.tups,I1.base.frzs,I1.base.tbls⟩,⟨_,hn',fun j y v' e1 e2 e3=>?_⟩,fun y c e=>?_,I1.free,I1.freeC,fun p hp=>?_,tracked,by rw [List.length_set]; exact I.len⟩
 ·exact (hs.2 b (Nat.ne_of_lt (Nat.lt_of_lt_of_le (Heap.lt_size e) I1.ok.above))).trans (I1.base.keep b o e n hb hx)
 ·obtain ⟨sl,e1⟩:=I1.base.slot b o e n hb hx
  exact ⟨sl,(hs.2 b (Nat.ne_of_lt (Nat.lt_of_lt_of_le (Heap.lt_size e) I1.ok.above))).trans e1⟩
 ·obtain ⟨o',e1⟩:=I1.base.there b o e hx
  exact ⟨o',(hs.2 b (Nat.ne_of_lt (Nat.lt_of_lt_of_le (Heap.lt_size e) I1.ok.above))).trans e1⟩
 ·have hj:j ≠ i:=fun z=>by
   subst z
   rw [List.getElem?_set_self hiσ] at e2
   cases e2
  rw [List.getElem?_set_ne (Ne.symm hj)] at e2
  obtain ⟨u',r',q⟩:=hl j y v' e1 (by rw [List.getElem?_set_ne (Ne.symm hj)]; exact e2) e3
  refine ⟨u',r',?_⟩
  rcases q with ⟨k,e⟩ | ⟨k,c,e,z⟩
  ·refine .inl ⟨k,?_⟩
   have:y ≠ x:=fun e=>hj (t5 hN e1 (e ▸ hi))
   simp [this,e]
  ·exact .inr ⟨k,c,e,z.sameBut hs (cne y c e)⟩
 ·obtain ⟨w',z⟩:=I1.cell y c e
  exact ⟨w',z.sameBut hs (cne y c e)⟩
 ·obtain ⟨e,n,ne,nf,d⟩:=I1.pin p hp
  exact ⟨(hs.2 p.1 ne).trans e,n,ne,nf,d⟩
end
theorem Inv.trackX {X:Cx} {pins:List (Addr × Obj)} {σ:L2.St} {H:Hp} {s:Shared} {a T C:Addr} {o:Obj} (I:L2.Inv X pins σ H s) (ap:ApX X pins H a T) {vs:Array Value} (he:s.heap.get? a=some o) (hc:o.cls = .ref C) (hd:o.data = .fields vs) (h2:vs[2]? = some .none):L2.Inv X pins σ (QP H a (JR a C)) s:=by
 refine ⟨I.ok,I.os,I.bare,⟨I.base.keep,I.base.slot,fun b o' e n hx=>?_,I.base.there,fun b xs e=>?_,fun b o' u e=>?_,fun b ps e=>?_⟩,I.loc,I.cell,?_,fun x c e=>?_,fun p hp=>?_,?_,I.len⟩
 ·rw [zq (ap.s0 b o' e).1]; exact I.base.free b o' e n hx
 ·have z:=I.base.tups b xs e
  rw [zq (zC z ap.ha)]; exact z
 ·have z:=I.base.frzs b o' u e
  rw [zq (zC z ap.ha)]; exact z
 ·obtain ⟨more,z⟩:=I.base.tbls b ps e
  exact ⟨more,by rw [zq (zC z ap.ha)]; exact z⟩
 ·rw [zq ap.loc.1]; exact I.free
 ·rw [zq (ap.cel x c e).1]; exact I.freeC x c e
 ·obtain ⟨p1,p2,p3,p4,p5⟩:=I.pin p hp
  exact ⟨p1,by rw [zq (ap.pin p hp).1]; exact p2,p3,p4,p5⟩
 ·refine QQ.track I.hok ap.ha ⟨⟨o,he,hc,vs,hd,h2⟩,⟨o,he⟩,fun h1 h2 φ k=>?_⟩
  obtain ⟨o',e1,e2⟩:=φ
  exact ⟨o',k _ e1,e2⟩
def UN (i:Nat) (D:Ends):Ends:={ nx:=fun σ H=>D.nx (σ.set i none) H,rt:=D.rt,bk:=fun σ H=>D.bk (σ.set i none) H,ct:=fun σ H=>D.ct (σ.set i none) H }
def SD (n i:Nat) (K:QM) (B:Addr) (E:XK) (tb:TS) (th:Addr->TS):TS:=fun D σ H=>tb D σ H /\ ∀ (e C':Addr) (σ':L2.St) (H':Hp),σ'.length=n->H' e=none->E (.ref e) (some C') H' -> mroIn K C' (.ref B)=some true /\ th e (UN i D) (σ'.set i (some (.ref e))) (QP H' e (JR e C'))
section
variable {X:Cx} {x y:Str} {C:Addr} {np hpos pos:Pos} {body suite:List Stmt} {b₀:Stmt} {tb:TS} {th:Addr->TS} {E:XK} {i:Nat} {K:QM}
theorem Zt (hK:X.K=K) (hx:X.ex=[]) (hstk:X.stack=X.env :: X.outer) (hf:X.env.frame=some X.env.locals) (O:qS X.K X.mg x C) (hg:Gl X x) (hN:X.N.Nodup) (hi:X.N[i]? = some y) (hy:X.env.kindOf y=some .local) (hy2:X.env.scope.names.lookup y=some .local)
  (hB:∀ ps,QW (pinX X ps (Wf X ps E)) body tb) (hS:∀ e,QW (handX X e) (b₀ :: suite) (th e)) (hdb:(x == ("__debug__":Str))=false:=by decide) :
  PS X (.Try body [.ExceptHandler (some (.Name x np)) (some y) (b₀ :: suite) hpos] [] [] pos) (SD X.N.length i K C E tb th):=by
 subst hK
 intro pins s σ H D I ⟨hb,hh⟩
 refine wpAny_Try_except (wpAny_mono (hB pins [] s σ H D (Inv.pinX I) hb) (fun f s1 h1=>?_) (fun ex s1 h1=>?_))
 ·have h2:=SP.unpin h1
  cases f with
  | next=>exact wpAny_execs_nil h2
  | brk=>exact h2
  | cont=>exact h2
  | ret u=>exact h2
 ·obtain ⟨a,T,C',σ',H',rfl,I1,trc,ap,q⟩:=h1
  have hfr:X.A.frames=some (X.env :: X.outer):=by rw [← hstk]; exact I.ok.frames
  have hst:s1.heap.FunFrames X.base (X.env :: X.outer):=by rw [← hstk]; exact I1.stack
  refine We (base:=X.base) (outer:=X.outer) hfr hst hf trc fun h2 T2 l=>?_
  have l':Lft (QT X.stack) a T T2 (.ref C') s1.heap h2:=by rw [hstk]; exact l
  have I2:=Inv.left I1 hx ap l'
  have I3:Inv (handX X a) pins σ' H' { s1 with heap:=h2 }:=Inv.handX I2
  obtain ⟨tl,N,nm,q0,bs,hdct,sn,sub,ab,col,dd,k0,k1,k2,k3,k5,mN,hC,hNs,hni,TL⟩:=(O X.base I.mod.kin).obj
  obtain ⟨oe,vs,oT,ts,he,hcls,_⟩:=id l.trc
  have hn:H' a=none:=ap.ha
  obtain ⟨hup,q2⟩:=hh a C' σ' H' I1.len hn q
  refine wpAny_handleBy_cons (codeAny_handlers_test (ua (X:=handX X a) I3 hg (O X.base I.mod.kin).bound ?_ hdb)) (by intro q; cases q)
  refine sC I2.kIn (I2.bk _ _ hC) he hcls (TL.hasType PySem.F.excBase_ValueError.hasBase) hup (codeAny_handlers_suite_as ?_)
  refine Yk (s:={ s1 with heap:=h2 }) l.trc fun h3 hk trc3=>?_
  have hT2:H' T2=none:=by
   cases r:H' T2 with
   | none=>rfl
   | some o =>
    obtain ⟨ob,z⟩:=zT.at (I1.hok T2 o r)
    rw [l.new] at z; cases z
  have ap2:ApX X pins H' T2 T2:=ApX.of I1 hx l.new l.new hT2 hT2
  have I4:=Inv.leftK I2 hx ap2 (h2:=h3) (fun b o _ n1 _ ho=>(hk b n1).trans ho) (fun b o _ n1 _ ho=>⟨o.slots,(hk b n1).trans ho⟩)
  obtain ⟨oe3,vs3,oT3,ts3,he3,hcls3,hd3,_,_,_,_,_,hv3⟩:=id trc3
  have I5:=Inv.trackX (C:=C') I4 ap he3 hcls3 hd3 hv3
  have I6:L2.Inv (handX X a) pins σ' (QP H' a (JR a C')) { s1 with heap:=h3 }:=Inv.handX I5
  refine wd (X:=handX X a) (v:=.ref a) I6 hN hi (.inl hy2) rfl (fun s5 I7=>?_) (.inr hy2)
  refine wpAny_mono (hS a pins s5 _ _ (UN i D) I7 q2) (fun f s2 h=>?_) (fun _ _ z=>False.elim z)
  cases f with
  | next =>
   obtain ⟨σ2,H2,J,q3⟩:=h
   exact w4 (Inv.unhand I.ok J) hN hi hy hy2 fun s' J'=>⟨_,H2,J',q3⟩
  | brk =>
   obtain ⟨σ2,H2,J,q3⟩:=h
   exact w4 (Inv.unhand I.ok J) hN hi hy hy2 fun s' J'=>⟨_,H2,J',q3⟩
  | cont =>
   obtain ⟨σ2,H2,J,q3⟩:=h
   exact w4 (Inv.unhand I.ok J) hN hi hy hy2 fun s' J'=>⟨_,H2,J',q3⟩
  | ret u =>
   obtain ⟨v,σ2,H2,J,r,q3⟩:=h
   exact w4 (Inv.unhand I.ok J) hN hi hy hy2 fun s' J'=>⟨v,_,H2,J',r,q3⟩
end
theorem qd:bootBuiltins "ValueError" = some (.type "ValueError"):=by kernel_rfl
end L3
namespace L2
open PySem PySem.Spec PyProof.Rows
end L2
namespace L2
open PySem PySem.Spec PyProof.Rows
end L2
namespace L2
open PySem PySem.Spec PyProof.Rows
end L2
namespace L2
open PySem PySem.Spec PyProof.Rows
end L2
namespace L2
open PySem PySem.Spec PyProof.Rows
end L2
namespace L2
open PySem PySem.Spec PyProof.Rows
end L2
namespace L2
open PySem PySem.Spec PyProof.Rows
section
variable {κ:Type} [DecidableEq κ]
def wI (kvs:List (κ × V)) (k:κ):Option V:=(kvs.find? fun kv=>decide (kv.1=k)).map (·.2)
def qe (kvs:List (κ × V)) (k:κ) (v:V):List (κ × V) :=
 if (kvs.any fun kv=>decide (kv.1=k))=true then kvs.map (fun kv=>if kv.1=k then (kv.1,v) else kv) else kvs ++ [(k,v)]
theorem yC {p:κ × V} {r:List (κ × V)} {k:κ} (e:p.1=k):wI (p :: r) k=some p.2:=by simp [wI,List.find?_cons,e]
theorem yq {p:κ × V} {r:List (κ × V)} {k:κ} (e:¬ p.1=k):wI (p :: r) k=wI r k:=by simp [wI,List.find?_cons,e]
theorem wg (k:κ):∀ kvs:List (κ × V),(kvs.any fun kv=>decide (kv.1=k))=(wI kvs k).isSome
 | []=>rfl
 | p :: r=>by
  rw [List.any_cons]
  by_cases e:p.1=k
  ·simp only [yC e,decide_eq_true e,Bool.true_or,Option.isSome_some]
  ·rw [yq e,decide_eq_false e,Bool.false_or]; exact wg k r
theorem Zu (k j:κ) (y:V):∀ kvs:List (κ × V),wI (kvs.map fun kv=>if kv.1=k then (kv.1,y) else kv) j=(wI kvs j).map fun x=>if j=k then y else x
 | []=>rfl
 | p :: r=>by
  have ih:=Zu k j y r
  rw [List.map_cons]
  by_cases h:p.1=k
  ·rw [if_pos h]
   by_cases e:p.1=j
   ·rw [yC (p:=(p.1,y)) e,yC e,Option.map_some,if_pos (e.symm.trans h)]
   ·rw [yq (p:=(p.1,y)) e,yq e,ih]
  ·rw [if_neg h]
   by_cases e:p.1=j
   ·rw [yC (p:=p) e,yC e,Option.map_some,if_neg (fun z=>h (e.trans z))]
   ·rw [yq (p:=p) e,yq e,ih]
theorem qf (k j:κ) (y:V):∀ kvs:List (κ × V),wI kvs k=none->wI (kvs ++ [(k,y)]) j=if j=k then some y else wI kvs j
 | [],_=>by
  by_cases e:k=j
  ·rw [if_pos e.symm]; exact yC (p:=(k,y)) e
  ·rw [if_neg (fun z=>e z.symm)]; exact yq (p:=(k,y)) e
 | p :: r,hn=>by
  rw [List.cons_append]
  have hk:¬ p.1=k:=fun z=>by rw [yC z] at hn; cases hn
  rw [yq hk] at hn
  have ih:=qf k j y r hn
  by_cases e:p.1=j
  ·rw [yC e,yC e,if_neg (fun z=>hk (e.trans z))]
  ·rw [yq e,yq e,ih]
theorem VQ (kvs:List (κ × V)) (k j:κ) (y:V):wI (qe kvs k y) j=if j=k then some y else wI kvs j:=by
 unfold qe
 by_cases a:(kvs.any fun kv=>decide (kv.1=k))=true
 ·rw [if_pos a,Zu]
  rw [wg] at a
  by_cases e:j=k
  ·obtain ⟨x,hx⟩:=Option.isSome_iff_exists.mp a
   rw [if_pos e,e,hx,Option.map_some,if_pos rfl]
  ·rw [if_neg e]
   cases wI kvs j with
   | none=>rfl
   | some x=>rw [Option.map_some,if_neg e]
 ·rw [if_neg a]
  refine qf k j y kvs ?_
  rw [wg] at a
  cases q:wI kvs k with
  | none=>rfl
  | some x=>rw [q] at a; exact (a rfl).elim
theorem wD (kvs:List (κ × V)) (k:κ) (v:V):(qe kvs k v).length<=kvs.length+1:=by
 unfold qe
 split
 ·rw [List.length_map]; omega
 ·rw [List.length_append,List.length_cons,List.length_nil]; omega
theorem VR {kvs:List (κ × V)} {k:κ} (v:V) (h:wI kvs k=none):qe kvs k v=kvs ++ [(k,v)]:=by
 unfold qe
 rw [wg,h]
 exact if_neg (by decide)
theorem W8.isSome_eq {o:Option V} {u:Option Value} (r:W8 o u):o.isSome=u.isSome:=by
 cases o with
 | none=>cases u with
  | none=>rfl
  | some _=>exact (show False from r).elim
 | some _=>cases u with
  | none=>exact (show False from r).elim
  | some _=>rfl
theorem W8.getD {o:Option V} {u:Option Value} {d:V} {d':Value} (r:W8 o u) (rd:zU d d'):zU (o.getD d) (u.getD d'):=by
 cases o with
 | none=>cases u with
  | none=>exact rd
  | some _=>exact (show False from r).elim
 | some _=>cases u with
  | none=>exact (show False from r).elim
  | some _=>exact r
theorem KV.val {kvs:List (κ × V)} {vs:List (κ × Value)} (r:KV kvs vs) (k:κ):W8 (wI kvs k) (valueAt vs k):=by
 unfold KV at r
 induction r with
 | nil=>exact True.intro
 | @cons p q ps qs h t ih =>
  obtain ⟨h1,h2⟩:=h
  by_cases e:p.1=k
  ·have e':q.1=k:=h1.symm.trans e
   have b:valueAt (q :: qs) k=some q.2:=by simp [valueAt,List.find?_cons,e']
   rw [yC e,b]; exact h2
  ·have e':¬ q.1=k:=fun z=>e (h1.trans z)
   have b:valueAt (q :: qs) k=valueAt qs k:=by simp [valueAt,List.find?_cons,e']
   rw [yq e,b]; exact ih
theorem KV.any {kvs:List (κ × V)} {vs:List (κ × Value)} (r:KV kvs vs) (k:κ):(kvs.any fun kv=>decide (kv.1=k))=vs.any fun kv=>decide (kv.1=k):=by
 unfold KV at r
 induction r with
 | nil=>rfl
 | cons h t ih=>rw [List.any_cons,List.any_cons,ih,h.1]
theorem KV.repl {kvs:List (κ × V)} {vs:List (κ × Value)} (r:KV kvs vs) (k:κ) {y:V} {u:Value} (ry:zU y u) :
  KV (kvs.map fun kv=>if kv.1=k then (kv.1,y) else kv) (vs.map fun kv=>if kv.1=k then (kv.1,u) else kv):=by
 unfold KV at r ⊢
 induction r with
 | nil=>exact .nil
 | @cons p q ps qs h t ih =>
  rw [List.map_cons,List.map_cons]
  refine .cons ?_ ih
  obtain ⟨h1,h2⟩:=h
  by_cases e:p.1=k
  ·rw [if_pos e,if_pos (h1.symm.trans e)]; exact ⟨h1,ry⟩
  ·rw [if_neg e,if_neg (fun z=>e (h1.trans z))]; exact ⟨h1,h2⟩
theorem KV.put {kvs:List (κ × V)} {vs:List (κ × Value)} (r:KV kvs vs) (k:κ) {y:V} {u:Value} (ry:zU y u):KV (qe kvs k y) (stored vs k u):=by
 unfold qe stored
 rw [r.any k]
 by_cases e:(vs.any fun kv=>decide (kv.1=k))=true
 ·rw [if_pos e,if_pos e]; exact r.repl k ry
 ·rw [if_neg e,if_neg e]; exact Paired.snoc r ⟨rfl,ry⟩
theorem KV.length {kvs:List (κ × V)} {vs:List (κ × Value)} (r:KV kvs vs):kvs.length=vs.length:=Paired.length r
end
theorem Tm {P:Program} {w:World} {k:QO} {u:Value} (r:zU (kV k) u):(yt P w).is k u=true:=by
 cases k with
 | inl i=>obtain ⟨t,e⟩:=(show ∃ t,u=Value.int i t from r); subst e; exact qU P w i t
 | inr x=>obtain ⟨t,e⟩:=(show ∃ t,u=Value.str x t from r); subst e; exact qV P w x t
theorem qg {P:Program} {w:World}:∀ {ks:List QO} {us:List Value},zP (ks.map kV) us->ItemsAre (yt P w) ks us
 | [],_,r=>by rw [List.map_nil] at r; cases r; exact .nil
 | k :: ks,_,r=>by
  rw [List.map_cons] at r
  cases r with
  | cons h t=>exact .cons (Tm h) (qg t)
abbrev KT (H:Hp):List (List QO × V)->List (List QO × Addr × Value)->Prop:=Paired fun p q=>p.1=q.1 /\ H q.2.1=some (.tup (p.1.map kV)) /\ zU p.2 q.2.2
theorem KT.val {H:Hp} {kvs:List (List QO × V)} {xs:List (List QO × Addr × Value)} (r:KT H kvs xs) (k:List QO):W8 (wI kvs k) ((atKey xs k).map (·.2)):=by
 induction r with
 | nil=>exact True.intro
 | @cons p q ps qs h t ih =>
  obtain ⟨h1,_,h2⟩:=h
  by_cases e:p.1=k
  ·have e':q.1=k:=h1.symm.trans e
   have b:atKey (q :: qs) k=some q.2:=by simp [atKey,List.find?_cons,e']
   rw [yC e,b]; exact h2
  ·have e':¬ q.1=k:=fun z=>e (h1.trans z)
   have b:atKey (q :: qs) k=atKey qs k:=by simp [atKey,List.find?_cons,e']
   rw [yq e,b]; exact ih
theorem KT.repl {H:Hp} {kvs:List (List QO × V)} {xs:List (List QO × Addr × Value)} (r:KT H kvs xs) (k:List QO) {y:V} {u:Value} (ry:zU y u) :
  KT H (kvs.map fun kv=>if kv.1=k then (kv.1,y) else kv) (xs.map (putAt k u)):=by
 induction r with
 | nil=>exact .nil
 | @cons p q ps qs h t ih =>
  rw [List.map_cons,List.map_cons]
  refine .cons ?_ ih
  obtain ⟨h1,h2,h3⟩:=h
  unfold putAt
  by_cases e:p.1=k
  ·rw [if_pos e,if_pos (h1.symm.trans e)]; exact ⟨h1,h2,ry⟩
  ·rw [if_neg e,if_neg (fun z=>e (h1.trans z))]; exact ⟨h1,h2,h3⟩
theorem KT.put {H:Hp} {kvs:List (List QO × V)} {xs:List (List QO × Addr × Value)} (r:KT H kvs xs) (k:List QO) {b:Addr} {y:V} {u:Value} (hb:H b=some (.tup (k.map kV))) (ry:zU y u) :
  KT H (qe kvs k y) (storedH xs k b u):=by
 have e:(kvs.any fun kv=>decide (kv.1=k))=(atKey xs k).isSome:=by
  rw [wg,(r.val k).isSome_eq,Option.isSome_map]
 unfold qe storedH
 rw [e]
 by_cases q:(atKey xs k).isSome=true
 ·rw [if_pos q,if_pos q]; exact r.repl k ry
 ·rw [if_neg q,if_neg q]; exact Paired.snoc r ⟨rfl,hb,ry⟩
theorem KT.keeps {H H':Hp} {kvs:List (List QO × V)} {xs:List (List QO × Addr × Value)} (r:KT H kvs xs) (ht:∀ b ys,H b=some (.tup ys)->H' b=some (.tup ys)):KT H' kvs xs :=
 Paired.mapP r fun _ _ z=>⟨z.1,ht _ _ z.2.1,z.2.2⟩
section
variable {P:Program} {w:World} {H:Hp} {h:Heap} {a:Addr}
theorem SE {u:HO} (ok:QQ P w H h) (e:Rd H a u):zT P w H h a u:=e.ok ok
theorem Tn {kvs:List (QO × V)} (ok:QQ P w H h) (e:Rd H a (.dK kvs)):kvs.length<=sizeLine /\ (a == sysModules)=false /\ ∃ vs,KV kvs vs /\ h.DictOf (yt P w) a vs :=
 show zT P w H h a (.dK kvs) from SE ok e
theorem RS {kvs:List (QO × V)} (ok:QQ P w H h) (e:H a=some (.dK kvs)):kvs.length<=sizeLine /\ (a == sysModules)=false /\ ∃ vs,KV kvs vs /\ h.DictOf (yt P w) a vs:=Tn ok (.inl e)
theorem Wh {ks:List QO} (ok:QQ P w H h) (e:H a=some (.tup (ks.map kV))):(tupleKind (yt P w)).is h ks a:=by
 obtain ⟨_,its,r,o,h1,h2,n,h3⟩:=(show zT P w H h a (.tup (ks.map kV)) from ok a _ e)
 exact ⟨o,its.toArray,n,h1,h2,h3,by simpa using qg r⟩
theorem To {kvs:List (List QO × V)} (ok:QQ P w H h) (e:Rd H a (.dT kvs)):kvs.length<=sizeLine /\ (a == sysModules)=false ∧
  ∃ xs,KT H kvs xs /\ h.DictOfH (tupleKind (yt P w)) a xs:=by
 obtain ⟨z,y,xs,r,o,es,ep,h1,h2,h3,h4,h5⟩:=(show zT P w H h a (.dT kvs) from SE ok e)
 refine ⟨z,y,xs,r,o,es,ep,h1,h2,h3,h4,fun x hx=>?_,h5⟩
 have all:∀ {l:List (List QO × V)} {m:List (List QO × Addr × Value)},KT H l m -> ∀ x ∈ m,(tupleKind (yt P w)).is h x.1 x.2.1:=by
  intro l m q
  induction q with
  | nil=>intro x hx; exact nomatch hx
  | @cons p q ps qs hq t ih =>
   intro x hx
   rcases List.mem_cons.mp hx with e | hx
   ·subst e
    exact Wh ok (by rw [← hq.1]; exact hq.2.1)
   ·exact ih x hx
 exact all r x hx
theorem RT {kvs:List (List QO × V)} (ok:QQ P w H h) (e:H a=some (.dT kvs)):kvs.length<=sizeLine /\ (a == sysModules)=false ∧
  ∃ xs,KT H kvs xs /\ h.DictOfH (tupleKind (yt P w)) a xs:=To ok (.inl e)
end
def SF (H:Hp) (a:Addr) (y:V) (r:Option V):Prop :=
 (∃ kvs k,Rd H a (.dK kvs) /\ y=kV k /\ r=wI kvs k) \/ ∃ kvs k b,Rd H a (.dT kvs) /\ y = .ref b /\ H b=some (.tup (k.map kV)) /\ r=wI kvs k
def TV (H:Hp) (a:Addr) (y v:V) (H':Hp):Prop :=
 (∃ kvs k,H a=some (.dK kvs) /\ y=kV k /\ kvs.length < sizeLine /\ H' = QP H a (.dK (qe kvs k v))) ∨
 ∃ kvs k b,H a=some (.dT kvs) /\ y = .ref b /\ H b=some (.tup (k.map kV)) /\ kvs.length < sizeLine /\ H' = QP H a (.dT (qe kvs k v))
theorem SF.k {H:Hp} {a:Addr} {kvs:List (QO × V)} {k:QO} (e:H a=some (.dK kvs)):SF H a (kV k) (wI kvs k):=.inl ⟨kvs,k,.inl e,rfl,rfl⟩
theorem TV.k {H:Hp} {a:Addr} {kvs:List (QO × V)} {k:QO} {v:V} (e:H a=some (.dK kvs)) (hl:kvs.length < sizeLine):TV H a (kV k) v (QP H a (.dK (qe kvs k v))):=.inl ⟨kvs,k,e,rfl,hl,rfl⟩
section
variable {X:Cx} {pins:List (Addr × Obj)} {σ:St} {H:Hp} {s:Shared} {a:Addr} {y v:V} {u r:Value} {o:Option V} {A:Around} {E:QN}
theorem Inv.big (I:Inv X pins σ H s):sysModules < s.heap.objs.size:=by
 have h:mainGlobals < s.heap.objs.size:=(I.mod.glob.keeps I.bk).lt
 exact Nat.lt_trans (by decide) h
theorem uA {h':Heap} {t':Nat} {ob:HO} (I:Inv X pins σ H s) (mu:QR (H a)) (hs:Heap.SameBut a s.heap h') (he:∃ q,h'.get? a=some q) (new:zT X.prog X.w (QP H a ob) h' a ob) :
  Inv X pins σ (QP H a ob) { s with heap:=h',toks:=t' } :=
 I.write (x:=a) (e:=a) mu (.inl rfl) (fun b q hb z=>(hs.2 b hb).trans z) he new
theorem SG {P:Program} {w:World} {H':Hp} {h':Heap} {kvs:List (QO × V)} {vs:List (QO × Value)} (z:kvs.length<=sizeLine) (hd:(a == sysModules)=false) (rel:KV kvs vs) (dd:h'.DictOf (yt P w) a vs) :
  zT P w H' h' a (.dK kvs):=⟨z,hd,vs,rel,dd⟩
theorem Wi {H':Hp} {Q:Unit->Shared->Prop} (hu:A.units+1 < cLine) (I:Inv X pins σ H s) (g:TV H a y v H') (ry:zU y u) (rv:zU v r) (h:∀ s',Inv X pins σ H' s' -> Q () s') :
  wpAny (model X.prog X.w) A (setItem (.ref a) u r) Q E s:=by
 rcases g with ⟨kvs,k,e,ey,l,eH⟩ | ⟨kvs,k,b,e,ey,eb,l,eH⟩
 ·subst ey eH
  obtain ⟨z,hd,vs,rel,dd⟩:=RS I.hok e
  have hz:vs.length<=sizeLine:=by rw [← rel.length]; exact z
  have hl:(qe kvs k v).length<=sizeLine:=by have:=wD kvs k v; omega
  refine wpAny_setItem_pairs (hsz:=hz) (Tm ry) dd fun h' dd' hs=>h _ ?_
  have he:∃ q,h'.get? a=some q:=let ⟨q,_,_,hq,_⟩:=dd'; ⟨q,hq⟩
  exact uA I (by rw [e]; exact True.intro) hs he (SG hl hd (rel.put k rv) dd')
 ·subst ey eH
  cases (show u=Value.ref b from ry)
  obtain ⟨z,hd,xs,rel,dd⟩:=RT I.hok e
  have hz:xs.length<=sizeLine:=by rw [← Paired.length rel]; exact z
  have hl:(qe kvs k v).length<=sizeLine:=by have:=wD kvs k v; omega
  refine wpAny_setItem_heap (hsz:=hz) (tupleKind_room_in1 hu) (Wh I.hok eb) dd fun h' dd' hs=>h _ ?_
  obtain ⟨q,es,ep,hq,h2,h3,h4,_,h5⟩:=dd'
  refine uA I (by rw [e]; exact True.intro) hs ⟨q,hq⟩ ⟨hl,hd,_,(rel.put k eb rv).keeps fun c ys ec=>?_,q,es,ep,hq,h2,h3,h4,h5⟩
  rw [zq (Rk ec e (fun z=>nomatch z))]
  exact ec
end
def RU (td ty tv:TE):TS:=fun D σ H=>tv σ H fun v H1=>td σ H1 fun x H2=>ty σ H2 fun y H3=>∃ a H4,x = .ref a /\ TV H3 a y v H4 /\ D.nx σ H4
section
variable {X:Cx} {o i e value:Expr} {pos pos' tpos:Pos} {td ty tv:TE}
theorem Wj (hu:X.A.units+1 < cLine) (ho:PE X o td) (hi:PE X i ty) (hv:PE X value tv) (hs:swapsWith value (some (.Subscript o i pos')) pos.line X.env=pure false) :
  PS X (.Assign [.Subscript o i pos'] value pos) (RU td ty tv):=by
 intro pins s σ H D I h
 refine wpAny_Assign_Subscript (QX (hv pins s σ H _ I h) fun r s1 ⟨v,H1,I1,rv,q1⟩=>QX (ho pins s1 σ H1 _ I1 q1) fun u s2 ⟨x,H2,I2,rx,q2⟩=>QX (hi pins s2 σ H2 _ I2 q2) fun iv s3 ⟨y,H3,I3,ry,a,H4,ex,g,q3⟩=>?_) hs
 subst ex
 obtain rfl:u=Value.ref a:=rx
 exact Wi hu I3 g ry rv fun s4 I4=>⟨σ,H4,I4,q3⟩
end
theorem VS {P:Program} {w:World} {H:Hp} (h:Heap) (hb:sysModules < h.objs.size):zT P w H (h.push { cls:=.type "dict",data:=.dict #[] }) h.objs.size (.dK []) :=
 ⟨Nat.zero_le _,beq_eq_false_iff_ne.mpr (Ne.symm (Nat.ne_of_lt hb)),[],.nil,Heap.DictOf.new h⟩
def SH:TE:=fun _ H Q=>∀ p,H p=none->Q (.ref p) (QP H p (.dK []))
section
variable {X:Cx} {pos:Pos}
theorem Zv:PE X (.Dict [] [] pos) SH:=fun pins s σ H Q I h =>
 wpAny_Dict_empty ⟨.ref s.heap.objs.size,_,I.laid (a:=s.heap.objs.size) (o:=.dK []) (t':=s.toks) (fun _ _ q=>Heap.get?_push_of_some _ q) (Nat.le_refl _) (VS s.heap I.big),rfl,h _ (I.hok.fresh (Nat.le_refl _))⟩
end
structure M2 (X:Cx) (o:Expr) (m:Str) (apos:Pos) (e f:Expr) (cpos:Pos):Prop where
 base:attributeBase o m X.env (eval o X.env)=eval o X.env
 few:((backTo cpos (starEach [e,f] X.env)).all (fun x=>!x.1) && (backToKw cpos (keywordEach [] X.env)).all (fun x=>x.1.isSome)
  && decide (([e,f]:List Expr).length+([]:List Keyword).length+(if ([]:List Keyword).isEmpty then 0 else 1) < 30))=true
 line:(apos.endLine == cpos.line)=true
 trees:backTo cpos (starEach [e,f] X.env)=[(false,eval e X.env),(false,eval f X.env)]
def JS (H:Hp) (a:Addr):Prop:=(∃ kvs,Rd H a (.dK kvs)) \/ ∃ kvs,Rd H a (.dT kvs)
theorem SI {X:Cx} {pins:List (Addr × Obj)} {σ:St} {H:Hp} {s:Shared} {a:Addr} (I:Inv X pins σ H s) (d:JS H a) :
  s.TypeIs (.ref a) "dict" /\ (∀ b,Value.ref a = .ref b -> ∃ ob,s.heap.get? b=some ob /\ ob.dict=none) /\ (a == sysModules)=false:=by
 rcases d with ⟨kvs,e⟩ | ⟨kvs,e⟩
 ·obtain ⟨_,hd,vs,_,dd⟩:=Tn I.hok e
  refine ⟨dd.typeIs,fun b q=>?_,hd⟩
  cases q
  obtain ⟨ob,_,_,h1,h2,_⟩:=dd
  exact ⟨ob,h1,h2.2.1⟩
 ·obtain ⟨_,hd,xs,_,dd⟩:=To I.hok e
  refine ⟨dd.typeIs,fun b q=>?_,hd⟩
  cases q
  obtain ⟨ob,_,_,h1,h2,_⟩:=dd
  exact ⟨ob,h1,h2.2.1⟩
section
variable {X:Cx} {pins:List (Addr × Obj)} {σ:St} {H:Hp} {s:Shared} {a:Addr} {y d:V} {u r:Value} {o:Option V} {A:Around} {E:QN}
theorem SJ {Q:QN} (hu:A.units+1 < cLine) (I:Inv X pins σ H s) (g:SF H a y o) (ry:zU y u) (rd:zU d r) (h:∀ w' s',Inv X pins σ H s' -> zU (o.getD d) w' -> Q w' s') :
  wpAny (model X.prog X.w) A (call (.builtin "dict.get") [.ref a,u,r]) Q E s:=by
 rcases g with ⟨kvs,k,e,ey,l⟩ | ⟨kvs,k,b,e,ey,eb,l⟩
 ·subst ey
  obtain ⟨z,hd,vs,rel,dd⟩:=Tn I.hok e
  refine call_meetsIn PySem.F.slot_dict_get dd.typeIs PySem.F.entry_dict_get (PySem.F.args_dict_get_3 _ _ _) (meets_dict_get_default (yt X.prog X.w) a (Tm ry) hd r) ⟨_,dd.mapOf,h _ _ (I.tok _) ?_⟩
  rw [l]
  exact (rel.val k).getD rd
 ·subst ey
  cases (show u=Value.ref b from ry)
  obtain ⟨z,hd,xs,rel,dd⟩:=To I.hok e
  refine call_meetsIn PySem.F.slot_dict_get dd.typeIs PySem.F.entry_dict_get (PySem.F.args_dict_get_3 _ _ _) (meetsH_dict_get_default (tupleKind (yt X.prog X.w)) a b hd r) ⟨tupleKind_room_in1 hu,k,xs,Wh I.hok eb,dd,h _ _ (I.tok _) ?_⟩
  rw [l]
  exact (rel.val k).getD rd
end
def SK (td ty tx:TE):TE:=fun σ H Q=>td σ H fun x H1=>∃ a,x = .ref a /\ JS H1 a /\ ty σ H1 fun y H2=>tx σ H2 fun z H3=>∃ o,SF H3 a y o /\ Q (o.getD z) H3
section
variable {X:Cx} {o e f:Expr} {apos cpos:Pos} {td ty tx:TE}
theorem VT (hu:X.A.units+1 < cLine) (ho:PE X o td) (he:PE X e ty) (hf:PE X f tx) (m:M2 X o "get" apos e f cpos):PE X (.Call (.Attribute o "get" apos) [e,f] [] cpos) (SK td ty tx):=by
 intro pins s σ H Q I h
 refine wpAny_Call_method m.base m.few m.line PySem.F.plainAttrs_dict PySem.F.slot_dict_get PySem.F.type_dict_get (QX (ho pins s σ H _ I h) fun u s1 ⟨x,H1,I1,rx,a,ex,d,q1⟩=>?_)
 subst ex
 obtain rfl:u=Value.ref a:=rx
 obtain ⟨t1,t2,_⟩:=SI I1 d
 refine ⟨t1,t2,?_⟩
 rw [m.trees]
 refine Calls.callWith_builtin rfl (Calls.evalArgs_plain (Calls.spliced_cons (QX (he pins s1 σ H1 _ I1 q1) fun iv s2 ⟨y,H2,I2,ry,q2⟩ =>
  Calls.spliced_cons (QX (hf pins s2 σ H2 _ I2 q2) fun fv s3 ⟨z,H3,I3,rz,ov,g,q3⟩=>Calls.spliced_nil ?_))))
 exact SJ hu I3 g ry rz fun w' s4 I4 rw'=>⟨_,H3,I4,rw',q3⟩
end
end L2
namespace Att
open PySem PySem.W PySem.Calls PyProof.Rows
end Att
namespace L2
open PySem PySem.Spec PyProof.Rows
end L2
namespace L3
open PySem PySem.Spec PyProof.Rows L2
open PySem PySem.Spec PyProof.Rows L2 PySem.W
def xm (es:Array DictEntry) (d:Addr) (ep:Nat) (h:Heap):Prop:=∃ o,h.get? d=some o /\ o.ExactDict /\ o.data = .dict es ep
section
variable {prog:Program} {w:World} {A:Around} {E:QN} {s:Shared} {es:Array DictEntry} {d it:Addr} {ep i:Nat}
theorem xm.typeIs (h:xm es d ep s.heap):s.TypeIs (.ref d) "dict":=let ⟨o,ho,hc,_⟩:=h; ⟨o,ho,hc.1⟩
theorem xm.keep {h h':Heap} (x:xm es d ep h) (e:∀ o,h.get? d=some o->h'.get? d=some o):xm es d ep h':=let ⟨o,ho,r⟩:=x; ⟨o,e o ho,r⟩
theorem VU {Q:QN} (hd:(d == sysModules)=false) (hm:xm es d ep s.heap)
  (hQ:Q (.ref s.heap.objs.size) { s with heap:=s.heap.push { cls:=.type "dict_keyiterator",data:=.fields #[.ref d,.int 0 0,.int es.size 0,.int ep 0] } }) :
  wpAny (model prog w) A (pyIter (.ref d)) Q E s:=by
 obtain ⟨o,ho,hc,hdat⟩:=id hm
 have hT:s.TypeIs (.ref d) "dict":=hm.typeIs
 refine wpAny_pyIter_slot hT PySem.F.slot_dict_iter (wpAny_call_entry PySem.F.slot_dict_iter hT PySem.F.entry_dict_iter ?_ (PySem.F.args_dict_iter_1 _))
 unfold Builtin.«dict.__iter__»
 refine wpAny_bind ?_
 unfold Builtin.Dict.dictSlotNone
 refine wpAny_bind (wpAny_notOrdered_dict hT ?_)
 show wpAny _ _ (pure (Value.ref d)) _ _ s
 refine wpAny_pure ?_
 show wpAny _ _ (Builtin.Dict.showsAll d >>= _) _ _ s
 unfold Builtin.Dict.showsAll
 rw [if_neg (by rw [hd]; exact Bool.false_ne_true)]
 refine wpAny_bind (wpAny_pure ?_)
 refine wpAny_bind (wpAny_dictEntries ho hdat ?_)
 refine wpAny_bind (wpAny_dictEpoch ho hdat ?_)
 refine wpAny_bind (wpAny_newObj_type (wpAny_pure ⟨_,rfl,"dict_keyiterator",_,⟨_,Heap.get?_push_size _ rfl,rfl⟩,PySem.F.slot_dict_keyiterator_next.lookup,?_⟩))
 simpa [rawInt] using hQ
theorem VV {Q:Option Value->Shared->Prop} (hit:s.heap.IsKeyIter it d i es.size ep) (hm:xm es d ep s.heap) (hlt:i < es.size)
  (hQ:∀ h',h'.IsKeyIter it d (i+1) es.size ep->Heap.SameBut it s.heap h' -> Q (some es[i].key) { s with heap:=h' }) :
  wpAny (model prog w) A (pyNext (.ref it)) Q E s:=by
 obtain ⟨o,ho,hc,hd⟩:=id hit
 obtain ⟨od,hod,hcd,hdd⟩:=id hm
 unfold pyNext
 refine wpAny_bind (wpAny_attempt (wpAny_callSpecial?_slot (name:=Str.ofString "__next__") hit.typeIs PySem.F.slot_dict_keyiterator_next
  (wpAny_call_entry PySem.F.slot_dict_keyiterator_next hit.typeIs PySem.F.entry_dict_keyiterator_next ?_ (PySem.F.args_dict_keyiterator_next_1 _))))
 refine wpAny_bind (wpAny_pure ?_)
 refine wpAny_bind ?_
 refine wpAny_bind ?_
 first | refine wpAny_bind (wpAny_typeNameOfWhole_keyiter hit.typeIs (wpAny_pure ?_)) | refine wpAny_bind (wpAny_typeNameOf_keyiter hit.typeIs (wpAny_pure ?_))
 refine wpAny_bind (wpAny_fieldsOf ho hd ?_)
 have hown:Builtin.Dict_items.ownsTuple "dict_keyiterator" = false:=by decide
 simp only [hown,Bool.false_eq_true,if_false]
 show wpAny _ _ (if (Value.ref d == Value.none)=true then _ else _) _ _ s
 rw [if_neg (show ¬ ((Value.ref d == Value.none)=true) from Bool.false_ne_true)]
 refine wpAny_bind (wpAny_pure ?_)
 refine wpAny_bind (wpAny_dictEntries hod hdd ?_)
 rw [if_neg (by simp)]
 refine wpAny_bind (wpAny_pure ?_)
 refine wpAny_bind (wpAny_dictEpoch hod hdd ?_)
 rw [if_neg (by simp)]
 refine wpAny_pure ?_
 simp only [show ¬ ((i:Int) < 0) from by omega,if_false,Int.toNat_natCast,Array.getElem?_eq_getElem hlt]
 refine wpAny_bind ?_
 first | refine wpAny_bind (wpAny_typeNameOfWhole_keyiter hit.typeIs (wpAny_pure ?_)) | refine wpAny_bind (wpAny_typeNameOf_keyiter hit.typeIs (wpAny_pure ?_))
 refine wpAny_bind (wpAny_isOneOf_keyiter hit.typeIs ?_)
 show wpAny _ _ (setField (.ref it) 1 (rawInt ((i:Int)+1)) >>= _) _ _ s
 refine wpAny_bind (wpAny_setField ho hd (by simp) ?_)
 have hit':(s.heap.update it (Obj.mapFields (·.setIfInBounds 1 (rawInt ((i:Int)+1))))).IsKeyIter it d (i+1) es.size ep :=
  ⟨_,Heap.get?_update_self _ ho (Obj.isFreed_of_fields (Obj.data_mapFields hd _)),(Obj.cls_mapFields ..).trans hc,by rw [Obj.data_mapFields hd]; simp [rawInt]⟩
 refine wpAny_bind (wpAny_holding ?_)
 refine wpAny_bind (wpAny_isOneOf_keyiter (s:={ s with heap:=s.heap.update it (Obj.mapFields (·.setIfInBounds 1 (rawInt ((i:Int)+1)))) }) hit'.typeIs ?_)
 show wpAny _ _ (pure es[i].key) _ _ _
 exact wpAny_pure (wpAny_pure ⟨_,rfl,wpAny_pure (hQ _ hit' (Heap.SameBut.update ..))⟩)
theorem Tp {Q:Option Value->Shared->Prop} (hh:A.handled=none) (hit:s.heap.IsKeyIter it d es.size es.size ep) (hm:xm es d ep s.heap)
  (hQ:∀ h',Heap.ExtBut it s.heap h' -> Q none { s with heap:=h' }):wpAny (model prog w) A (pyNext (.ref it)) Q E s:=by
 obtain ⟨o,ho,hc,hd⟩:=id hit
 obtain ⟨od,hod,hcd,hdd⟩:=id hm
 unfold pyNext
 refine wpAny_bind (wpAny_attempt (wpAny_callSpecial?_slot (name:=Str.ofString "__next__") hit.typeIs PySem.F.slot_dict_keyiterator_next
  (wpAny_call_entry PySem.F.slot_dict_keyiterator_next hit.typeIs PySem.F.entry_dict_keyiterator_next ?_ (PySem.F.args_dict_keyiterator_next_1 _))))
 refine wpAny_bind (wpAny_pure ?_)
 refine wpAny_bind ?_
 refine wpAny_bind ?_
 first | refine wpAny_bind (wpAny_typeNameOfWhole_keyiter hit.typeIs (wpAny_pure ?_)) | refine wpAny_bind (wpAny_typeNameOf_keyiter hit.typeIs (wpAny_pure ?_))
 refine wpAny_bind (wpAny_fieldsOf ho hd ?_)
 have hown:Builtin.Dict_items.ownsTuple "dict_keyiterator" = false:=by decide
 simp only [hown,Bool.false_eq_true,if_false]
 show wpAny _ _ (if (Value.ref d == Value.none)=true then _ else _) _ _ s
 rw [if_neg (show ¬ ((Value.ref d == Value.none)=true) from Bool.false_ne_true)]
 refine wpAny_bind (wpAny_pure ?_)
 refine wpAny_bind (wpAny_dictEntries hod hdd ?_)
 rw [if_neg (by simp)]
 refine wpAny_bind (wpAny_pure ?_)
 refine wpAny_bind (wpAny_dictEpoch hod hdd ?_)
 rw [if_neg (by simp)]
 refine wpAny_pure ?_
 simp only [show ¬ ((es.size:Int) < 0) from by omega,if_false,Int.toNat_natCast,Array.getElem?_eq_none (Nat.le_refl es.size)]
 refine wpAny_bind ?_
 first | refine wpAny_bind (wpAny_typeNameOfWhole_keyiter hit.typeIs (wpAny_pure ?_)) | refine wpAny_bind (wpAny_typeNameOf_keyiter hit.typeIs (wpAny_pure ?_))
 show wpAny _ _ (setField (.ref it) 0 .none >>= _) _ _ s
 refine wpAny_bind (wpAny_setField ho hd (by simp) ?_)
 show wpAny _ _ (newExc (.type "StopIteration") [] >>= _) _ _ _
 refine wpAny_bind ?_
 simp only [newExc,newTuple]
 refine wpAny_bind (wpAny_newObj_type ?_ (by size_fits))
 refine wpAny_bind (m:=firstArgMember _ _) (wpAny_of_eq (a:=Value.none) (by first | rfl | (simp only [firstArgMember]; rfl)) ?_)
 refine wpAny_newObj_type ?_ (by size_fits)
 simp only [raiseNew]
 refine wpAny_bind (wpAny_handled ?_)
 rw [show A.in1.handled=none from hh]
 refine wpAny_bind (wpAny_pure (wpAny_throw ?_))
 refine wpAny_bind (wpAny_isInstance (T:="StopIteration") (b:=true) ⟨_,Heap.get?_push_size _ rfl,rfl⟩ isSubtype_stop ?_)
 exact wpAny_pure (hQ _ (((Heap.SameBut.update ..).extBut.push _).push _))
end
open PySem PySem.Spec PyProof.Rows L2 HT
section
variable {prog:Program} {w:World} {A:Around} {E:QN} {s:Shared}
theorem sD {Q:List Value->Shared->Prop} {r:Addr} {a b c:Int} {t u v:Tok} {n:Nat} (hh:A.handled=none) (hr:IsRange s.heap r a b c t u v) (hsmall:Builtin.Range.small a b c=true)
  (hn:Builtin.Range.rangeSize a b c=n) (hlen:n<=2 ^ 24)
  (hQ:∀ (h':Heap) tk acc',(∀ b o,s.heap.get? b=some o->h'.get? b=some o)->ItemsOf (fun i v=>∃ t,v = .int (a+i * c) t) acc' n->Q acc'.toList { s with heap:=h',toks:=tk }) :
  wpAny (model prog w) A (collect (.ref r)) Q E s:=by
 unfold collect
 refine wpAny_bind (wpAny_runValue (codeAny_builtin F.entry_proto_collect ?_))
 rw [Around.under_plainId F.plain_proto_collect _]
 show wpAny _ A.in1 (newList [] >>= fun l=>again (.builtin "list.__iadd__" ⟨[l,.ref r],[]⟩)) _ _ s
 refine wpAny_bind (wpAny_newObj_type ?_)
 refine wpAny_pure ⟨plainId_quiet F.plain_list_iadd _,codeAny_builtin F.entry_list_iadd ?_⟩
 rw [Around.under_plainId F.plain_list_iadd _]
 show wpAny _ A.in1 (Builtin.List.listExtendWith (.ref s.heap.objs.size) (.ref r) (.ref s.heap.objs.size)) _ _ _
 have hS:(s.heap.push { cls:=.type "list",data:=.seq ([]:List Value).toArray }).get? s.heap.objs.size=some { cls:=.type "list",data:=.seq ([]:List Value).toArray }:=Heap.get?_push_size _ rfl
 have hr':IsRange (s.heap.push { cls:=.type "list",data:=.seq ([]:List Value).toArray }) r a b c t u v:=Heap.get?_push_of_some _ hr
 have fin:∀ (h':Heap) tk acc' c',(∀ b o,s.heap.get? b=some o->h'.get? b=some o)->h'.get? s.heap.objs.size=some { cls:=.type "list",dict:=none,data:=.seq acc' c',slots:=#[] } -> ItemsOf (fun i v=>∃ t,v = .int (a+i * c) t) acc' n →
   wpAny (model prog w) A (load s.heap.objs.size >>= fun o=>match o.data with | .seq xs _=>pure xs.toList | _=>unsupported "internal:collect") Q E { s with heap:=h',toks:=tk }:=fun h' tk acc' c' hk hS' hacc =>
  wpAny_bind (wpAny_load hS' (wpAny_pure (hQ h' tk acc' hk hacc)))
 refine wpAny_mono (wpAny_extend_range (R:=fun r' s'=>∃ (h':Heap) (tk:Nat) (acc':Array Value) (c':Nat),r' = .ok (.ret (.ref s.heap.objs.size)) /\ s' = { s with heap:=h',toks:=tk } /\ (∀ b o,s.heap.get? b=some o->h'.get? b=some o) /\ h'.get? s.heap.objs.size=some { cls:=.type "list",dict:=none,data:=.seq acc' c',slots:=#[] } /\ ItemsOf (fun i v=>∃ t,v = .int (a+i * c) t) acc' n) (s:={ s with heap:=s.heap.push { cls:=.type "list",data:=.seq ([]:List Value).toArray } }) (A:=A) hh hr' hsmall hn hlen s.heap.objs.size _ _ hS fun h' tk acc' c' hk hS hacc =>
  ⟨h',tk,acc',c',rfl,rfl,fun b o e=>hk b o (Nat.ne_of_lt (Heap.lt_size e)) (Heap.get?_push_of_some _ e),hS,hacc⟩) (fun fn s' h=>?_) (fun e s' h=>?_)
 ·cases fn with
  | done f =>
   obtain ⟨h',tk,acc',c',e,rfl,hf,hl,hS'⟩:=h
   cases e
   exact fin h' tk acc' c' hf hl hS'
  | again c =>
   refine ⟨h.1,codeAny_mono h.2 fun r s'' hr=>?_⟩
   obtain ⟨h',tk,acc',c',e,rfl,hf,hl,hS'⟩:=hr
   subst e
   exact fin h' tk acc' c' hf hl hS'
 ·obtain ⟨h',tk,acc',c',e,_⟩:=h
  cases e
theorem vX {Q:QN} {r:Addr} {a b c:Int} {t u v:Tok} {n:Nat} (hh:A.handled=none) (hr:IsRange s.heap r a b c t u v) (hsmall:Builtin.Range.small a b c=true)
  (hn:Builtin.Range.rangeSize a b c=n) (hlen:n<=2 ^ 24) (hsz:n<=sizeLine)
  (hQ:∀ (h':Heap) tk acc',(∀ b o,s.heap.get? b=some o->h'.get? b=some o)->ItemsOf (fun i v=>∃ t,v = .int (a+i * c) t) acc' n->Q (.ref h'.objs.size) { s with heap:=h'.push { cls:=.type "tuple",data:=.seq acc' },toks:=tk }) :
  wpAny (model prog w) A (call (.type "tuple") [.ref r]) Q E s:=by
 refine callType_codes (Q₁:=fun obj s₁=>s₁.TypeIs obj "tuple" /\ Q obj s₁) F.called_tuple (F.typeCall_tuple_1 _) F.entry_object_init ?_ fun obj s₁ h₁=>?_
 ·refine codeAny_of_tree ?_
  show wpAny _ A.in1.in1 (do checkBuiltinCall "tuple.__new__" ⟨[.type "tuple",.ref r],[]⟩; again (.builtin "tuple.__new__" ⟨[.type "tuple",.ref r],[]⟩)) _ _ s
  refine wpAny_bind (wpAny_of_eq (F.newCall_tuple_1 _) (wpAny_pure ⟨plainId_quiet F.plain_tuple_new _,codeAny_builtin F.entry_tuple_new ?_⟩))
  rw [Around.under_plainId F.plain_tuple_new _]
  have hsub:=sub_tuple_self
  have hinit:=init_tuple_lookup
  have hmh:=madeHere_tuple
  have hTI:s.TypeIs (.ref r) "range":=⟨_,hr,rfl⟩
  wp_walk using wpAny_typeOf hTI,sD (A:=A.in1.in1) hh hr hsmall hn hlen
  intro h' tk acc hf hacc
  show wpAny _ _ (Builtin.Tuple.tupleExact acc.toList.toArray >>= fun v=>ret v) _ _ _
  unfold Builtin.Tuple.tupleExact
  refine wpAny_bind (wpAny_newObj_type ?_ (by show acc.toList.toArray.size<=sizeLine; simp only [Array.toArray_toList]; rw [hacc.1]; exact hsz))
  refine wpAny_pure ⟨⟨_,Heap.get?_push_size _ rfl,rfl⟩,?_⟩
  have e:acc.toList.toArray=acc:=by simp
  rw [e]
  exact hQ h' tk acc hf hacc
 ·exact ⟨h₁.1,F.args_object_init_2 obj _,object_init_meets F.called_tuple.init.lookup F.called_tuple.made (by decide) prog w A.in1 _ s₁ ⟨h₁.1,rfl,h₁.2⟩⟩
end
theorem Yl:∀ (m:Nat) (l:List Value) (j:Nat),l.length=m->(∀ i v,l[i]? = some v -> ∃ t,v=Value.int ((j+i:Nat):Int) t)->zP ((List.range' j m).map fun i:Nat=>V.int i) l:=by
 intro m
 induction m with
 | zero =>
  intro l j hl _
  rw [List.length_eq_zero_iff.mp hl]
  exact .nil
 | succ m ih =>
  intro l j hl hv
  match l,hl,hv with
  | x :: l,hl,hv =>
   refine .cons ?_ (ih l (j+1) (by simpa using hl) fun i v h=>?_)
   ·obtain ⟨t,e⟩:=hv 0 x rfl
    exact ⟨t,e⟩
   ·obtain ⟨t,e⟩:=hv (i+1) v (by simpa using h)
    exact ⟨t,by rw [e,show j+(i+1)=j+1+i by omega]⟩
section
variable {X:Cx} {a:Expr} {ta:TA} {p p2 pos pos2:Pos}
def RV (ta:TA):TE:=fun σ H Q=>ta σ H fun vs H1=>∃ n:Nat,vs=[.int n] /\ n<=1000 /\ ∀ l,H1 l=none->Q (.ref l) (QP H1 l (.tup ((List.range n).map fun i:Nat=>V.int i)))
theorem jm (hc:X.calm=true) (hgl:Gl X "tuple") (hml:X.mg "tuple" = none) (hgr:Gl X "range") (hmr:X.mg "range" = none) (ha:PA X [a] ta)
  (hs:starEach [a] X.env=[(false,eval a X.env)]:=by rfl) (hs2:starEach [(.Call (.Name "range" p2) [a] [] pos2:Expr)] X.env=[(false,eval (.Call (.Name "range" p2) [a] [] pos2) X.env)]:=by rfl) :
  PE X (.Call (.Name "tuple" p) [.Call (.Name "range" p2) [a] [] pos2] [] pos) (RV ta):=by
 intro pins s σ H Q I h
 refine wpAny_Call_Name_kw (wv I hgl hml yK (PyProof.Rows.callWith_type1 ?_ hs2 rfl))
 rw [hs2]
 show wpAny _ _ (spliced [(false,eval (.Call (.Name "range" p2) [a] [] pos2) X.env)]) _ _ s
 refine Calls.spliced_cons ?_
 refine Call_ (wv I hgr hmr boot_range (PyProof.Rows.callWith_type1 (QX (ha pos2 pins s σ H _ I h) fun us s1 ⟨vs,H1,I1,r1,q1⟩=>?_) hs rfl))
 obtain ⟨n,e,hn,q⟩:=q1
 subst e
 obtain ⟨u,rfl,e1⟩:=xz r1
 obtain ⟨t,rfl⟩:=e1
 refine call_range_1 (Calls.spliced_nil ?_)
 have I2:Inv X pins σ H1 { s1 with heap:=s1.heap.push { cls:=.type "range",data:=.fields #[.int 0 s1.toks,.int n t,.int 1 (s1.toks+1)] },toks:=s1.toks+1+1 }:=I1.kept fun b o e=>Heap.get?_push_of_some _ e
 refine vX (n:=n) (I.ok.hd hc) (IsRange.new ..) (small_one (by omega) (by omega) (by omega) (by omega)) (by rw [rangeSize_one]; split <;> omega) (by omega) (Nat.le_of_lt (xX hn)) fun h' tk acc hk hacc=>?_
 have hvr:zP ((List.range n).map fun i:Nat=>V.int i) acc.toList:=by
  have hlen:acc.toList.length=n:=by rw [Array.length_toList]; exact hacc.1
  rw [List.range_eq_range']
  refine Yl n acc.toList 0 hlen fun i v h=>?_
  obtain ⟨t,e⟩:=hacc.2 i v (by rw [← h]; exact (Array.getElem?_toList).symm)
  exact ⟨t,by rw [e]; congr 1; omega⟩
 have I3:Inv X pins σ H1 { s1 with heap:=h',toks:=tk }:=I2.kept (t':=tk) hk
 refine ⟨.ref h'.objs.size,_,I3.laid (t':=tk) (o:=.tup ((List.range n).map fun i:Nat=>V.int i)) (fun b o e=>Heap.get?_push_of_some _ e) (Nat.le_refl _) ⟨by rw [List.length_map,List.length_range]; exact Nat.le_of_lt (xX hn),acc.toList,hvr,by simpa using IsTup.new _ _⟩,rfl,q _ (I3.hok.fresh (Nat.le_refl _))⟩
end
abbrev FW:=List (List Int × List Int)
section
variable {prog:Program} {w:World} {A:Around} {E:QN} {s:Shared} {es:Array DictEntry} {d it r:Addr} {ep i:Nat} {ok ov:Value}
theorem VW {Q:QN} (lo:(d == sysModules)=false) (hm:xm es d ep s.heap) (q:Q (.ref s.heap.objs.size) { s with heap:=s.heap.push { cls:=.type "dict_items",data:=.fields #[.ref d] } }) :
  wpAny (model prog w) A (call (.builtin "dict.items") [.ref d]) Q E s:=by
 have hT:s.TypeIs (.ref d) "dict":=hm.typeIs
 refine wpAny_call_entry PySem.F.slot_dict_items hT PySem.F.entry_dict_items ?_ (PySem.F.args_dict_items_1 _)
 unfold Builtin.«dict.items»
 refine wpAny_bind ?_
 unfold Builtin.Dict.noArgs
 refine wpAny_bind (wpAny_notOrdered_dict hT (show wpAny _ _ (pure d) _ _ s from wpAny_pure ?_))
 show wpAny _ _ (Builtin.Dict.showsAll d >>= _) _ _ s
 unfold Builtin.Dict.showsAll
 rw [if_neg (by rw [lo]; exact Bool.false_ne_true)]
 exact wpAny_bind (wpAny_pure (wpAny_bind (wpAny_newObj_type (wpAny_pure ⟨_,rfl,q⟩))))
theorem VX {Q:QN} (hv:s.heap.IsItemsView r d) (hm:xm es d ep s.heap)
  (hQ:Q (.ref s.heap.objs.size) { s with heap:=s.heap.push { cls:=.type "dict_itemiterator",data:=.fields #[.none,.bool false,.ref d,.int 0 0,.int es.size 0,.int ep 0,.none,.none] } }) :
  wpAny (model prog w) A (pyIter (.ref r)) Q E s:=by
 obtain ⟨o1,h1,c1,d1⟩:=id hv
 obtain ⟨o,ho,hc,hdat⟩:=id hm
 refine wpAny_pyIter_slot hv.typeIs PySem.F.slot_dict_items_iter (wpAny_call_entry PySem.F.slot_dict_items_iter hv.typeIs PySem.F.entry_dict_items_iter ?_ (PySem.F.args_dict_items_iter_1 _))
 unfold Builtin.«dict_items.__iter__»
 refine wpAny_bind (wpAny_pure (wpAny_bind ?_))
 unfold Builtin.Dict_items.dictOf
 refine wpAny_bind (wpAny_field h1 d1 (x:=.ref d) rfl (wpAny_pure (wpAny_bind ?_)))
 unfold Builtin.Dict_items.newIterator
 refine wpAny_bind (wpAny_dictEntries ho hdat (wpAny_bind (wpAny_dictEpoch ho hdat ?_)))
 have own:Builtin.Dict_items.ownsTuple "dict_itemiterator" = true:=by decide
 simp only [own,if_true]
 refine wpAny_newObj_type (wpAny_pure ⟨_,rfl,"dict_itemiterator",_,⟨_,Heap.get?_push_size _ rfl,rfl⟩,PySem.F.slot_dict_itemiterator_next.lookup,?_⟩)
  (by simp only [sizeOk,Builtin.Dict_items.ownedTupleFields,List.size_toArray,List.length_append,List.length_cons,List.length_nil,sizeLine_eq]; omega)
 simpa [rawInt,Builtin.Dict_items.ownedTupleFields] using hQ
theorem VY {Q:Option Value->Shared->Prop} (hit:IsItemIter s.heap it d i es.size ep ok ov) (hm:xm es d ep s.heap) (hlt:i < es.size)
  (hQ:∀ h',IsItemIterOut h' it d (i+1) es.size ep es[i].key es[i].val s.heap.objs.size->h'.get? s.heap.objs.size=some { cls:=.type "tuple",data:=.seq #[es[i].key,es[i].val] } →
   (∀ b o,b ≠ it->s.heap.get? b=some o->h'.get? b=some o)->Q (some (.ref s.heap.objs.size)) { s with heap:=h' }) :
  wpAny (model prog w) A (pyNext (.ref it)) Q E s:=by
 obtain ⟨hp,g,dr,tk,os⟩:=s
 obtain ⟨od,hod,hcd,hdd⟩:=id hm
 have hT:Shared.TypeIs ⟨hp,g,dr,tk,os⟩ (.ref it) "dict_itemiterator":=⟨_,hit,rfl⟩
 unfold pyNext
 refine wpAny_bind (wpAny_attempt (wpAny_callSpecial?_slot (name:=Str.ofString "__next__") hT PySem.F.slot_dict_itemiterator_next
  (wpAny_call_entry PySem.F.slot_dict_itemiterator_next hT PySem.F.entry_dict_itemiterator_next ?_ (PySem.F.args_dict_itemiterator_next_1 _))))
 refine wpAny_bind (wpAny_pure (wpAny_bind (wpAny_bind ?_)))
 first | refine wpAny_bind (wpAny_typeNameOfWhole_itemiter hT (wpAny_pure ?_)) | refine wpAny_bind (wpAny_typeNameOf_itemiter hT (wpAny_pure ?_))
 refine wpAny_bind (wpAny_fieldsOf hit rfl ?_)
 have own:Builtin.Dict_items.ownsTuple "dict_itemiterator" = true:=by decide
 simp only [own,if_true]
 show wpAny _ _ (if (Value.ref d == Value.none)=true then _ else _) _ _ _
 rw [if_neg (show ¬ ((Value.ref d == Value.none)=true) from Bool.false_ne_true)]
 refine wpAny_bind (wpAny_pure (wpAny_bind (wpAny_dictEntries hod hdd ?_)))
 rw [if_neg (by simp)]
 refine wpAny_bind (wpAny_pure (wpAny_bind (wpAny_dictEpoch hod hdd ?_)))
 rw [if_neg (by simp)]
 refine wpAny_pure ?_
 simp only [show ¬ ((i:Int) < 0) from by omega,if_false,Int.toNat_natCast,Array.getElem?_eq_getElem hlt]
 refine wpAny_bind ?_
 first | refine wpAny_bind (wpAny_typeNameOfWhole_itemiter hT (wpAny_pure ?_)) | refine wpAny_bind (wpAny_typeNameOf_itemiter hT (wpAny_pure ?_))
 refine wpAny_bind (wpAny_isOneOf_itemiter hT ?_)
 show wpAny _ _ (setField (.ref it) 3 (rawInt ((i:Int)+1)) >>= _) _ _ ⟨hp,g,dr,tk,os⟩
 refine wpAny_bind (wpAny_setField_rec hit (by simp) fun h1 he1 hs1=>?_)
 replace hs1:Heap.SameBut it hp h1:=hs1
 replace he1:IsItemIter h1 it d (i+1) es.size ep ok ov:=by
  have e:((i+1:Nat):Int)=(i:Int)+1:=by omega
  unfold IsItemIter; rw [e]; simpa [rawInt] using he1
 have hT1:Shared.TypeIs ⟨h1,g,dr,tk,os⟩ (.ref it) "dict_itemiterator":=⟨_,he1,rfl⟩
 refine wpAny_bind (wpAny_holding (wpAny_bind (wpAny_isOneOf_itemiter hT1 (wpAny_bind (wpAny_isOneOf_itemiter hT1 ?_)))))
 show wpAny _ _ (Builtin.Dict_items.pairFromOwner (.ref it) 6 es[i].key es[i].val) _ _ ⟨h1,g,dr,tk,os⟩
 unfold Builtin.Dict_items.pairFromOwner
 refine wpAny_bind (wpAny_newTuple ?_)
 have he2:IsItemIter (h1.push { cls:=.type "tuple",data:=.seq #[es[i].key,es[i].val] }) it d (i+1) es.size ep ok ov:=Heap.get?_push_of_some _ he1
 generalize hh2:h1.push { cls:=.type "tuple",data:=.seq #[es[i].key,es[i].val] } = h2 at he2
 have hz1:h1.objs.size=hp.objs.size:=hs1.1
 have hil:it < hp.objs.size:=Heap.lt_size hit
 have ht2:h2.get? hp.objs.size=some { cls:=.type "tuple",data:=.seq #[es[i].key,es[i].val] }:=by rw [← hh2,← hz1]; exact Heap.get?_push_size _ rfl
 have hk2:∀ b o,b ≠ it->hp.get? b=some o->h2.get? b=some o:=fun b o hb e=>by rw [← hh2]; exact Heap.get?_push_of_some _ (hs1.extBut b o hb e)
 show wpAny _ _ (Builtin.Dict_items.ownedTupleIsFree (.ref it) >>= _) _ _ ⟨h2,g,dr,tk,os⟩
 rw [hz1]
 clear hh2 he1 hs1 hT1 hz1 h1
 refine wpAny_bind ?_
 unfold Builtin.Dict_items.ownedTupleIsFree
 refine wpAny_bind (wpAny_field he2 rfl (x:=.none) rfl (wpAny_pure ?_))
 simp only [if_true]
 refine wpAny_bind (wpAny_field he2 rfl (x:=ok) rfl (wpAny_bind (wpAny_field he2 rfl (x:=ov) rfl ?_)))
 refine wpAny_bind (wpAny_setField_rec he2 (by simp) fun h3 he3 hs3=>?_)
 replace hs3:Heap.SameBut it h2 h3:=hs3
 replace he3:IsItemIter h3 it d (i+1) es.size ep es[i].key ov:=he3
 refine wpAny_bind (wpAny_setField_rec he3 (by simp) fun h4 he4 hs4=>?_)
 replace hs4:Heap.SameBut it h3 h4:=hs4
 replace he4:IsItemIter h4 it d (i+1) es.size ep es[i].key es[i].val:=he4
 refine wpAny_bind (wpAny_setField_rec he4 (by simp) fun h5 he5 hs5=>?_)
 replace hs5:Heap.SameBut it h4 h5:=hs5
 replace he5:IsItemIterOut h5 it d (i+1) es.size ep es[i].key es[i].val hp.objs.size:=he5
 refine wpAny_bind (wpAny_setField_rec he5 (by simp) fun h6 he6 hs6=>?_)
 replace hs6:Heap.SameBut it h5 h6:=hs6
 replace he6:IsItemIterOut h6 it d (i+1) es.size ep es[i].key es[i].val hp.objs.size:=he6
 have keep:∀ b o,b ≠ it->h2.get? b=some o->h6.get? b=some o:=fun b o hb e=>hs6.extBut b o hb (hs5.extBut b o hb (hs4.extBut b o hb (hs3.extBut b o hb e)))
 exact wpAny_bind (wpAny_letGo (wpAny_pure (wpAny_pure ⟨_,rfl,wpAny_pure (hQ h6 he6 (keep _ _ (Nat.ne_of_gt hil) ht2) fun b o hb e=>keep b o hb (hk2 b o hb e))⟩)))
theorem Tq {Q:Option Value->Shared->Prop} (hh:A.handled=none) (hit:IsItemIter s.heap it d es.size es.size ep ok ov) (hm:xm es d ep s.heap)
  (hQ:∀ h',Heap.ExtBut it s.heap h' -> Q none { s with heap:=h' }):wpAny (model prog w) A (pyNext (.ref it)) Q E s:=by
 obtain ⟨od,hod,hcd,hdd⟩:=id hm
 have hT:s.TypeIs (.ref it) "dict_itemiterator":=⟨_,hit,rfl⟩
 unfold pyNext
 refine wpAny_bind (wpAny_attempt (wpAny_callSpecial?_slot (name:=Str.ofString "__next__") hT PySem.F.slot_dict_itemiterator_next
  (wpAny_call_entry PySem.F.slot_dict_itemiterator_next hT PySem.F.entry_dict_itemiterator_next ?_ (PySem.F.args_dict_itemiterator_next_1 _))))
 refine wpAny_bind (wpAny_pure (wpAny_bind (wpAny_bind ?_)))
 first | refine wpAny_bind (wpAny_typeNameOfWhole_itemiter hT (wpAny_pure ?_)) | refine wpAny_bind (wpAny_typeNameOf_itemiter hT (wpAny_pure ?_))
 refine wpAny_bind (wpAny_fieldsOf hit rfl ?_)
 have own:Builtin.Dict_items.ownsTuple "dict_itemiterator" = true:=by decide
 simp only [own,if_true]
 show wpAny _ _ (if (Value.ref d == Value.none)=true then _ else _) _ _ s
 rw [if_neg (show ¬ ((Value.ref d == Value.none)=true) from Bool.false_ne_true)]
 refine wpAny_bind (wpAny_pure (wpAny_bind (wpAny_dictEntries hod hdd ?_)))
 rw [if_neg (by simp)]
 refine wpAny_bind (wpAny_pure (wpAny_bind (wpAny_dictEpoch hod hdd ?_)))
 rw [if_neg (by simp)]
 refine wpAny_pure ?_
 simp only [show ¬ ((es.size:Int) < 0) from by omega,if_false,Int.toNat_natCast,Array.getElem?_eq_none (Nat.le_refl es.size)]
 refine wpAny_bind ?_
 first | refine wpAny_bind (wpAny_typeNameOfWhole_itemiter hT (wpAny_pure ?_)) | refine wpAny_bind (wpAny_typeNameOf_itemiter hT (wpAny_pure ?_))
 show wpAny _ _ (setField (.ref it) 2 .none >>= _) _ _ s
 refine wpAny_bind (wpAny_setField hit rfl (by simp) ?_)
 show wpAny _ _ (newExc (.type "StopIteration") [] >>= _) _ _ _
 refine wpAny_bind ?_
 simp only [newExc,newTuple]
 refine wpAny_bind (wpAny_newObj_type ?_ (by size_fits))
 refine wpAny_bind (m:=firstArgMember _ _) (wpAny_of_eq (a:=Value.none) (by first | rfl | (simp only [firstArgMember]; rfl)) ?_)
 refine wpAny_newObj_type ?_ (by size_fits)
 simp only [raiseNew]
 refine wpAny_bind (wpAny_handled ?_)
 rw [show A.in1.handled=none from hh]
 refine wpAny_bind (wpAny_pure (wpAny_throw ?_))
 refine wpAny_bind (wpAny_isInstance (T:="StopIteration") (b:=true) ⟨_,Heap.get?_push_size _ rfl,rfl⟩ isSubtype_stop ?_)
 exact wpAny_pure (hQ _ (((Heap.SameBut.update ..).extBut.push _).push _))
end
theorem Ym:entryFor table "dict_itemiterator.__iter__" = some Builtin.«dict_keyiterator.__iter__»:=entryFor_alias (id':="dict_keyiterator.__iter__") (by kernel_rfl) rfl (by decide +kernel) (by kernel_rfl)
theorem qh {α β:Type} {R:α -> β -> Prop}:∀ {as:List α} {bs:List β} {i:Nat} {b:β},Paired R as bs->bs[i]? = some b -> ∃ a,as[i]? = some a /\ R a b
 | _,_,0,_,.cons r _,e=>⟨_,rfl,by cases Option.some.inj e; exact r⟩
 | _,_,i+1,_,.cons _ t,e=>qh (i:=i) t e
section
variable {prog:Program} {w:World} {A:Around} {E:QN} {s:Shared} {es:Array DictEntry} {d it r:Addr} {ep i:Nat}
theorem VZ {Q:QN} (lo:(d == sysModules)=false) (hm:xm es d ep s.heap) (q:Q (.ref s.heap.objs.size) { s with heap:=s.heap.push { cls:=.type "dict_values",data:=.fields #[.ref d] } }) :
  wpAny (model prog w) A (call (.builtin "dict.values") [.ref d]) Q E s:=by
 have hT:s.TypeIs (.ref d) "dict":=hm.typeIs
 refine wpAny_call_entry PySem.F.slot_dict_values hT PySem.F.entry_dict_values ?_ (PySem.F.args_dict_values_1 _)
 unfold Builtin.«dict.values»
 refine wpAny_bind ?_
 unfold Builtin.Dict.noArgs
 refine wpAny_bind (wpAny_notOrdered_dict hT (show wpAny _ _ (pure d) _ _ s from wpAny_pure ?_))
 show wpAny _ _ (Builtin.Dict.showsAll d >>= _) _ _ s
 unfold Builtin.Dict.showsAll
 rw [if_neg (by rw [lo]; exact Bool.false_ne_true)]
 exact wpAny_bind (wpAny_pure (wpAny_bind (wpAny_newObj_type (wpAny_pure ⟨_,rfl,q⟩))))
theorem V0 {Q:QN} (hv:s.heap.IsValuesView r d) (hm:xm es d ep s.heap)
  (hQ:Q (.ref s.heap.objs.size) { s with heap:=s.heap.push { cls:=.type "dict_valueiterator",data:=.fields #[.ref d,.int 0 0,.int es.size 0,.int ep 0] } }) :
  wpAny (model prog w) A (pyIter (.ref r)) Q E s:=by
 obtain ⟨ov,hov,hcv,hdv⟩:=id hv
 obtain ⟨o,ho,hc,hdat⟩:=id hm
 refine wpAny_pyIter_slot hv.typeIs PySem.F.slot_dict_values_iter (wpAny_call_entry PySem.F.slot_dict_values_iter hv.typeIs PySem.F.entry_dict_values_iter ?_ (PySem.F.args_dict_values_iter_1 _))
 unfold Builtin.«dict_values.__iter__»
 refine wpAny_bind (wpAny_pure (wpAny_bind ?_))
 unfold Builtin.Dict_items.dictOf
 refine wpAny_bind (wpAny_field hov hdv (x:=.ref d) rfl (wpAny_pure (wpAny_bind ?_)))
 unfold Builtin.Dict_items.newIterator
 refine wpAny_bind (wpAny_dictEntries ho hdat (wpAny_bind (wpAny_dictEpoch ho hdat ?_)))
 have own:Builtin.Dict_items.ownsTuple "dict_valueiterator" = false:=by decide
 simp only [own,Bool.false_eq_true,if_false]
 refine wpAny_newObj_type (wpAny_pure ⟨_,rfl,"dict_valueiterator",_,⟨_,Heap.get?_push_size _ rfl,rfl⟩,PySem.F.slot_dict_valueiterator_next.lookup,?_⟩)
 simpa [rawInt] using hQ
theorem V1 {Q:Option Value->Shared->Prop} (hit:s.heap.IsValIter it d i es.size ep) (hm:xm es d ep s.heap) (hlt:i < es.size)
  (hQ:∀ h',h'.IsValIter it d (i+1) es.size ep->Heap.SameBut it s.heap h' -> Q (some es[i].val) { s with heap:=h' }) :
  wpAny (model prog w) A (pyNext (.ref it)) Q E s:=by
 obtain ⟨o,ho,hc,hd⟩:=id hit
 obtain ⟨od,hod,hcd,hdd⟩:=id hm
 unfold pyNext
 refine wpAny_bind (wpAny_attempt (wpAny_callSpecial?_slot (name:=Str.ofString "__next__") hit.typeIs PySem.F.slot_dict_valueiterator_next
  (wpAny_call_entry PySem.F.slot_dict_valueiterator_next hit.typeIs PySem.F.entry_dict_valueiterator_next ?_ (PySem.F.args_dict_valueiterator_next_1 _))))
 refine wpAny_bind (wpAny_pure ?_)
 refine wpAny_bind ?_
 refine wpAny_bind ?_
 first | refine wpAny_bind (wpAny_typeNameOfWhole_valiter hit.typeIs (wpAny_pure ?_)) | refine wpAny_bind (wpAny_typeNameOf_valiter hit.typeIs (wpAny_pure ?_))
 refine wpAny_bind (wpAny_fieldsOf ho hd ?_)
 have hown:Builtin.Dict_items.ownsTuple "dict_valueiterator" = false:=by decide
 simp only [hown,Bool.false_eq_true,if_false]
 show wpAny _ _ (if (Value.ref d == Value.none)=true then _ else _) _ _ s
 rw [if_neg (show ¬ ((Value.ref d == Value.none)=true) from Bool.false_ne_true)]
 refine wpAny_bind (wpAny_pure ?_)
 refine wpAny_bind (wpAny_dictEntries hod hdd ?_)
 rw [if_neg (by simp)]
 refine wpAny_bind (wpAny_pure ?_)
 refine wpAny_bind (wpAny_dictEpoch hod hdd ?_)
 rw [if_neg (by simp)]
 refine wpAny_pure ?_
 simp only [show ¬ ((i:Int) < 0) from by omega,if_false,Int.toNat_natCast,Array.getElem?_eq_getElem hlt]
 refine wpAny_bind ?_
 first | refine wpAny_bind (wpAny_typeNameOfWhole_valiter hit.typeIs (wpAny_pure ?_)) | refine wpAny_bind (wpAny_typeNameOf_valiter hit.typeIs (wpAny_pure ?_))
 refine wpAny_bind (wpAny_isOneOf_valiter hit.typeIs ?_)
 show wpAny _ _ (setField (.ref it) 1 (rawInt ((i:Int)+1)) >>= _) _ _ s
 refine wpAny_bind (wpAny_setField ho hd (by simp) ?_)
 have hit':(s.heap.update it (Obj.mapFields (·.setIfInBounds 1 (rawInt ((i:Int)+1))))).IsValIter it d (i+1) es.size ep :=
  ⟨_,Heap.get?_update_self _ ho (Obj.isFreed_of_fields (Obj.data_mapFields hd _)),(Obj.cls_mapFields ..).trans hc,by rw [Obj.data_mapFields hd]; simp [rawInt]⟩
 refine wpAny_bind (wpAny_holding ?_)
 refine wpAny_bind (wpAny_isOneOf_valiter (s:={ s with heap:=s.heap.update it (Obj.mapFields (·.setIfInBounds 1 (rawInt ((i:Int)+1)))) }) hit'.typeIs ?_)
 refine wpAny_bind (wpAny_isOneOf_valiter (s:={ s with heap:=s.heap.update it (Obj.mapFields (·.setIfInBounds 1 (rawInt ((i:Int)+1)))) }) hit'.typeIs ?_)
 show wpAny _ _ (pure es[i].val) _ _ _
 exact wpAny_pure (wpAny_pure ⟨_,rfl,wpAny_pure (hQ _ hit' (Heap.SameBut.update ..))⟩)
theorem Tr {Q:Option Value->Shared->Prop} (hh:A.handled=none) (hit:s.heap.IsValIter it d es.size es.size ep) (hm:xm es d ep s.heap)
  (hQ:∀ h',Heap.ExtBut it s.heap h' -> Q none { s with heap:=h' }):wpAny (model prog w) A (pyNext (.ref it)) Q E s:=by
 obtain ⟨o,ho,hc,hd⟩:=id hit
 obtain ⟨od,hod,hcd,hdd⟩:=id hm
 unfold pyNext
 refine wpAny_bind (wpAny_attempt (wpAny_callSpecial?_slot (name:=Str.ofString "__next__") hit.typeIs PySem.F.slot_dict_valueiterator_next
  (wpAny_call_entry PySem.F.slot_dict_valueiterator_next hit.typeIs PySem.F.entry_dict_valueiterator_next ?_ (PySem.F.args_dict_valueiterator_next_1 _))))
 refine wpAny_bind (wpAny_pure ?_)
 refine wpAny_bind ?_
 refine wpAny_bind ?_
 first | refine wpAny_bind (wpAny_typeNameOfWhole_valiter hit.typeIs (wpAny_pure ?_)) | refine wpAny_bind (wpAny_typeNameOf_valiter hit.typeIs (wpAny_pure ?_))
 refine wpAny_bind (wpAny_fieldsOf ho hd ?_)
 have hown:Builtin.Dict_items.ownsTuple "dict_valueiterator" = false:=by decide
 simp only [hown,Bool.false_eq_true,if_false]
 show wpAny _ _ (if (Value.ref d == Value.none)=true then _ else _) _ _ s
 rw [if_neg (show ¬ ((Value.ref d == Value.none)=true) from Bool.false_ne_true)]
 refine wpAny_bind (wpAny_pure ?_)
 refine wpAny_bind (wpAny_dictEntries hod hdd ?_)
 rw [if_neg (by simp)]
 refine wpAny_bind (wpAny_pure ?_)
 refine wpAny_bind (wpAny_dictEpoch hod hdd ?_)
 rw [if_neg (by simp)]
 refine wpAny_pure ?_
 simp only [show ¬ ((es.size:Int) < 0) from by omega,if_false,Int.toNat_natCast,Array.getElem?_eq_none (Nat.le_refl es.size)]
 refine wpAny_bind ?_
 first | refine wpAny_bind (wpAny_typeNameOfWhole_valiter hit.typeIs (wpAny_pure ?_)) | refine wpAny_bind (wpAny_typeNameOf_valiter hit.typeIs (wpAny_pure ?_))
 show wpAny _ _ (setField (.ref it) 0 .none >>= _) _ _ s
 refine wpAny_bind (wpAny_setField ho hd (by simp) ?_)
 show wpAny _ _ (newExc (.type "StopIteration") [] >>= _) _ _ _
 refine wpAny_bind ?_
 simp only [newExc,newTuple]
 refine wpAny_bind (wpAny_newObj_type ?_ (by size_fits))
 refine wpAny_bind (m:=firstArgMember _ _) (wpAny_of_eq (a:=Value.none) (by first | rfl | (simp only [firstArgMember]; rfl)) ?_)
 refine wpAny_newObj_type ?_ (by size_fits)
 simp only [raiseNew]
 refine wpAny_bind (wpAny_handled ?_)
 rw [show A.in1.handled=none from hh]
 refine wpAny_bind (wpAny_pure (wpAny_throw ?_))
 refine wpAny_bind (wpAny_isInstance (T:="StopIteration") (b:=true) ⟨_,Heap.get?_push_size _ rfl,rfl⟩ isSubtype_stop ?_)
 exact wpAny_pure (hQ _ (((Heap.SameBut.update ..).extBut.push _).push _))
theorem Wk (hh:A.handled=none) (I d:Addr) (hne:d ≠ I) (es:Array DictEntry) (ep:Nat) :
  Walks prog w A I [I,d] [I] es.size (fun i v=>∃ h:i < es.size,v=es[i].val) (fun i h=>h.IsValIter I d i es.size ep /\ xm es d ep h) where
 sub:=fun b hb=>by simp at hb; simp [hb]
 frame:=fun _ _ _ st hk=>⟨st.1.at fun o e=>hk I (by simp) o e,st.2.keep fun o e=>hk d (by simp) o e⟩
 item:=fun i s Q E hi st hQ=>by
  refine V1 st.1 st.2 hi fun h' hit' hs'=>?_
  exact hQ _ h' s.toks ⟨hi,rfl⟩ ⟨hit',st.2.keep fun o e=>hs'.extBut d o hne e⟩ fun b o hb e=>hs'.extBut b o (fun h=>hb (by simp [h])) e
 done:=fun s Q E st hQ=>Tr hh st.1 st.2 fun h' he'=>hQ h' s.toks fun b o hb e=>he' b o (fun h=>hb (by simp [h])) e
 self:=fun _ _ _ _ st hQ=>wpAny_pyIter_valiter st.1 hQ
theorem Ts:KdlSrc prog w "dict_values" r d es.size (fun i v=>∃ h:i < es.size,v=es[i].val) (fun h=>h.IsValuesView r d /\ xm es d ep h) where
 type:=fun _ hm=>hm.1.typeIs
 there:=fun _ hm=>⟨let ⟨_,ho,_⟩:=hm.1; Heap.lt_size ho,let ⟨_,ho,_⟩:=hm.2; Heap.lt_size ho⟩
 keep:=fun _ _ hm hk=>⟨let ⟨o,ho,x⟩:=hm.1; ⟨o,hk r (.inl rfl) o ho,x⟩,hm.2.keep fun o e=>hk d (.inr rfl) o e⟩
 notList:=by decide
 notTuple:=by decide
 hint:=fun _ _ _ _ hm hq=>kdl_hint_values hm.1.typeIs hq
 iter:=fun _ _ hh hm=>⟨_,_,(fun _ _ hq=>V0 hm.1 hm.2 hq),Wk hh _ d (let ⟨_,ho,_⟩:=hm.2; Nat.ne_of_lt (Heap.lt_size ho)) es ep,⟨⟨_,Heap.get?_push_size _ rfl,rfl,rfl⟩,hm.2.keep fun o e=>Heap.get?_push_of_some _ e⟩⟩
end
structure Pt (κ:Type) [DecidableEq κ] where
 it:(P:Program)->(w:World)->ItK P w κ
 at_:QM->Hp -> κ -> V->Prop
 rel:∀ {X:Cx} {pins:List (Addr × Obj)} {σ:L2.St} {H:Hp} {s:Shared} {k:κ} {v:V} {u:Value},Inv X pins σ H s->at_ X.K H k v->zU v u->(it X.prog X.w).is s.heap k u
 grow:∀ {m:List Addr} {H H':Hp} {K:QM} {k:κ} {v:V},Grow m H H' -> at_ K H k v->at_ K H' k v
theorem Wl {P:Program} {w:World} {i:Int} {t:Tok}:(intKind P w).is i (.int i t)=true:=by simp [intKind,Value.isInt]
theorem uB {P:Program} {w:World}:∀ {ks:List Int} {us:List Value},zP (ks.map V.int) us->ItemsAre (intKind P w) ks us
 | [],_,r=>by rw [List.map_nil] at r; cases r; exact .nil
 | k :: ks,_,r=>by
  rw [List.map_cons] at r
  cases r with
  | cons h t=>obtain ⟨tk,e⟩:=(show ∃ t,_=Value.int k t from h); subst e; exact .cons Wl (uB t)
def JT:Pt Int where
 it:=uw
 at_:=fun _ _ k v=>v = .int k
 rel:=fun _ e r=>by
  subst e
  obtain ⟨t,e⟩:=(show ∃ t,_=Value.int _ t from r)
  subst e
  exact Wl
 grow:=fun _ e=>e
def JU:Pt (List Int) where
 it:=RP
 at_:=fun K H k v=>∃ r,v = .ref r /\ Q1 K H r (k.map V.int)
 rel:=fun {X pins σ H s k v u} I z rv=>by
  obtain ⟨r,e,h⟩:=z
  subst e
  obtain rfl:u=Value.ref r:=rv
  obtain ⟨its,rs,p,_⟩:=I.tuple h
  obtain ⟨o,h1,h2,n,h3⟩:=p
  exact ⟨r,rfl,o,its.toArray,n,h1,h2,h3,by simpa using uB rs⟩
 grow:=fun g ⟨r,e,h⟩=>⟨r,e,g.sqT h⟩
section
variable {κ1 κ2:Type} [DecidableEq κ1] [DecidableEq κ2]
def JV (p1:Pt κ1) (p2:Pt κ2) (K:QM) (H:Hp) (k:κ1 × κ2) (b:Addr):Prop:=∃ v1 v2,Q1 K H b [v1,v2] /\ p1.at_ K H k.1 v1 /\ p2.at_ K H k.2 v2
abbrev PR:List ((κ1 × κ2) × Addr × V)->List ((κ1 × κ2) × Addr × Value)->Prop:=Paired fun p q=>p.1=q.1 /\ p.2.1=q.2.1 /\ zU p.2.2 q.2.2
def V2 (p1:Pt κ1) (p2:Pt κ2) (P:Program) (w:World) (h:Heap) (a:Addr) (kvs:List ((κ1 × κ2) × Addr × V)):Prop :=
 (a == sysModules)=false /\ ∃ xs:List ((κ1 × κ2) × Addr × Value),PR kvs xs /\ ∃ o es ep,h.get? a=some o /\ o.ExactDict /\ o.data = .dict es ep /\ es.toList=xs.map (entryOfKey (uy (p1.it P w) (p2.it P w))) /\ (xs.map (·.1)).Nodup
def JW (p1:Pt κ1) (p2:Pt κ2) (P:Program) (w:World) (a:Addr) (kvs:List ((κ1 × κ2) × Addr × V)):HO:=.ext fun h=>V2 p1 p2 P w h a kvs
def JX (p1:Pt κ1) (p2:Pt κ2) (K:QM) (H:Hp) (kvs:List ((κ1 × κ2) × Addr × V)):Prop:=∀ x ∈ kvs,JV p1 p2 K H x.1 x.2.1
def JY (x:(κ1 × κ2) × Addr × V):(κ1 × κ2) × V:=(x.1,x.2.2)
def xq (kvs:List ((κ1 × κ2) × Addr × V)) (k:κ1 × κ2) (b:Addr) (v:V):List ((κ1 × κ2) × Addr × V) :=
 if (kvs.any fun x=>decide (x.1=k))=true then kvs.map (fun x=>if x.1=k then (x.1,x.2.1,v) else x) else kvs ++ [(k,b,v)]
variable {p1:Pt κ1} {p2:Pt κ2} {P:Program} {w:World} {K:QM} {H H':Hp} {h h':Heap} {a b:Addr} {kvs:List ((κ1 × κ2) × Addr × V)} {k:κ1 × κ2} {v:V}
theorem JV.grow {m:List Addr} (g:Grow m H H') (x:JV p1 p2 K H k b):JV p1 p2 K H' k b:=by
 obtain ⟨v1,v2,h1,h2,h3⟩:=x
 exact ⟨v1,v2,g.sqT h1,p1.grow g h2,p2.grow g h3⟩
theorem JX.grow {m:List Addr} (g:Grow m H H') (x:JX p1 p2 K H kvs):JX p1 p2 K H' kvs:=fun y hy=>(x y hy).grow g
theorem JX.store (x:JX p1 p2 K H kvs) (hk:JV p1 p2 K H k b):JX p1 p2 K H (xq kvs k b v):=by
 intro y hy
 unfold xq at hy
 split at hy
 ·obtain ⟨z,hz,rfl⟩:=List.mem_map.mp hy
  by_cases c:z.1=k
  ·rw [if_pos c]; exact x z hz
  ·rw [if_neg c]; exact x z hz
 ·rcases List.mem_append.mp hy with z | z
  ·exact x y z
  ·rw [List.mem_singleton.mp z]; exact hk
theorem V2.ok (z:V2 p1 p2 P w h a kvs) {P':Program} {w':World}:zT P' w' H h a (JW p1 p2 P w a kvs):=by
 obtain ⟨lo,xs,r,o,es,ep,g,hx,hd,he,nd⟩:=z
 refine ⟨⟨lo,xs,r,o,es,ep,g,hx,hd,he,nd⟩,⟨o,g⟩,?_⟩
 rintro h1 h2 ⟨lo',xs',r',o',es',ep',g',t⟩ kp
 exact ⟨lo',xs',r',o',es',ep',kp o' g',t⟩
theorem V2.new (h:Heap) (hb:sysModules < h.objs.size):V2 p1 p2 P w (h.push { cls:=.type "dict",data:=.dict #[] }) h.objs.size ([]:List ((κ1 × κ2) × Addr × V)) :=
 ⟨beq_eq_false_iff_ne.mpr (Ne.symm (Nat.ne_of_lt hb)),[],.nil,_,#[],0,Heap.get?_push_size _ rfl,⟨rfl,rfl,rfl⟩,rfl,rfl,List.nodup_nil⟩
theorem PR.val {xs:List ((κ1 × κ2) × Addr × Value)} (r:PR kvs xs) (k:κ1 × κ2):W8 (wI (kvs.map JY) k) ((atKey xs k).map (·.2)):=by
 induction r with
 | nil=>exact True.intro
 | @cons p q ps qs h t ih =>
  obtain ⟨h1,_,h2⟩:=h
  rw [List.map_cons]
  by_cases e:p.1=k
  ·have e':q.1=k:=h1.symm.trans e
   have b:atKey (q :: qs) k=some q.2:=by simp [atKey,List.find?_cons,e']
   rw [yC (p:=JY p) e,b]; exact h2
  ·have e':¬ q.1=k:=fun z=>e (h1.trans z)
   have b:atKey (q :: qs) k=atKey qs k:=by simp [atKey,List.find?_cons,e']
   rw [yq (p:=JY p) e,b]; exact ih
theorem PR.any {xs:List ((κ1 × κ2) × Addr × Value)} (r:PR kvs xs) (k:κ1 × κ2):(kvs.any fun x=>decide (x.1=k))=(atKey xs k).isSome:=by
 have h:=(r.val k).isSome_eq
 rw [Option.isSome_map] at h
 rw [← h,← wg,List.any_map]; rfl
theorem PR.repl {xs:List ((κ1 × κ2) × Addr × Value)} (r:PR kvs xs) (k:κ1 × κ2) {u:Value} (ru:zU v u):PR (kvs.map fun x=>if x.1=k then (x.1,x.2.1,v) else x) (xs.map (putAt k u)):=by
 induction r with
 | nil=>exact .nil
 | @cons p q ps qs h t ih =>
  rw [List.map_cons,List.map_cons]
  refine .cons ?_ ih
  obtain ⟨h1,h2,h3⟩:=h
  unfold putAt
  by_cases c:p.1=k
  ·rw [if_pos c,if_pos (h1.symm.trans c)]; exact ⟨h1,h2,ru⟩
  ·rw [if_neg c,if_neg (fun z=>c (h1.trans z))]; exact ⟨h1,h2,h3⟩
theorem PR.put {xs:List ((κ1 × κ2) × Addr × Value)} (r:PR kvs xs) (k:κ1 × κ2) {u:Value} (ru:zU v u):PR (xq kvs k b v) (storedH xs k b u):=by
 have e:=r.any k
 unfold xq storedH
 rw [e]
 split
 ·exact r.repl k ru
 ·exact Paired.snoc r ⟨rfl,rfl,ru⟩
end
section
variable {κ1 κ2:Type} [DecidableEq κ1] [DecidableEq κ2] {p1:Pt κ1} {p2:Pt κ2} {kvs:List ((κ1 × κ2) × Addr × V)} {k:κ1 × κ2} {v:V}
variable {X:Cx} {pins:List (Addr × Obj)} {σ:L2.St} {H:Hp} {s:Shared} {a b:Addr} {A:Around} {E:QN}
theorem JV.is (I:Inv X pins σ H s) (x:JV p1 p2 X.K H k b):(uy (p1.it X.prog X.w) (p2.it X.prog X.w)).is s.heap k b:=by
 obtain ⟨v1,v2,h,h1,h2⟩:=x
 obtain ⟨its,rs,p,_⟩:=I.tuple h
 obtain ⟨o,g1,g2,n,g3⟩:=p
 cases rs with
 | cons r1 t =>
  cases t with
  | cons r2 t =>
   cases t
   exact ⟨o,_,_,n,g1,g2,g3,p1.rel I h1 r1,p2.rel I h2 r2⟩
theorem Tt (I:Inv X pins σ H s) (e:Rd H a (JW p1 p2 X.prog X.w a kvs)) (c:JX p1 p2 X.K H kvs):(a == sysModules)=false /\ ∃ xs,PR kvs xs /\ s.heap.DictOfH (uy (p1.it X.prog X.w) (p2.it X.prog X.w)) a xs:=by
 obtain ⟨⟨lo,xs,r,o,es,ep,g,hx,hd,he,nd⟩,_⟩:=(show zT X.prog X.w H s.heap a (JW p1 p2 X.prog X.w a kvs) from e.ok I.hok)
 refine ⟨lo,xs,r,o,es,ep,g,hx,hd,he,fun x hx=>?_,nd⟩
 have all:∀ {l:List ((κ1 × κ2) × Addr × V)} {m:List ((κ1 × κ2) × Addr × Value)},PR l m->JX p1 p2 X.K H l -> ∀ x ∈ m,(uy (p1.it X.prog X.w) (p2.it X.prog X.w)).is s.heap x.1 x.2.1:=by
  intro l m q
  induction q with
  | nil=>intro _ x hx; exact nomatch hx
  | @cons p q ps qs hq t ih =>
   intro c x hx
   rcases List.mem_cons.mp hx with e | hx
   ·subst e
    rw [← hq.1,← hq.2.1]
    exact (c p (List.mem_cons_self ..)).is I
   ·exact ih (fun y hy=>c y (List.mem_cons_of_mem _ hy)) x hx
 exact all r c x hx
theorem UO {A:Around} {P:Program} {w:World} {k1:ItK P w κ1} {k2:ItK P w κ2} (hu:A.units+2 < cLine):(uy k1 k2).room A.in1:=hu
theorem QE {Q:QN} (hu:A.units+2 < cLine) (I:Inv X pins σ H s) (e:Rd H a (JW p1 p2 X.prog X.w a kvs)) (c:JX p1 p2 X.K H kvs) (hk:JV p1 p2 X.K H k b) (h:∀ s',Inv X pins σ H s' -> Q (.bool (wI (kvs.map JY) k).isSome) s') :
  wpAny (model X.prog X.w) A (compareOp .In (.ref b) (.ref a)) Q E s:=by
 obtain ⟨lo,xs,rel,dd⟩:=Tt I e c
 refine wpAny_in_heap (UO hu) (hk.is I) lo dd ?_
 have q:=(rel.val k).isSome_eq
 rw [Option.isSome_map] at q
 rw [← q]
 exact h _ (I.tok _)
theorem Wm {Q:Unit->Shared->Prop} {u:Value} (hu:A.units+2 < cLine) (I:Inv X pins σ H s) (e:H a=some (JW p1 p2 X.prog X.w a kvs)) (c:JX p1 p2 X.K H kvs) (hk:JV p1 p2 X.K H k b) (hl:kvs.length < sizeLine) (ru:zU v u)
  (h:∀ s',Inv X pins σ (QP H a (JW p1 p2 X.prog X.w a (xq kvs k b v))) s' -> Q () s') :
  wpAny (model X.prog X.w) A (setItem (.ref a) (.ref b) u) Q E s:=by
 obtain ⟨lo,xs,rel,dd⟩:=Tt I (.inl e) c
 have hz:xs.length<=sizeLine:=by rw [← Paired.length rel]; exact Nat.le_of_lt hl
 refine wpAny_setItem_heap (hsz:=hz) (UO hu) (hk.is I) dd fun h' dd' hs=>h _ ?_
 obtain ⟨q,es,ep,hq,h2,h3,h4,_,h5⟩:=dd'
 refine uA I (by rw [e]; exact True.intro) hs ⟨q,hq⟩ (V2.ok ⟨lo,_,rel.put k ru,q,es,ep,hq,h2,h3,h4,h5⟩)
end
section
variable {κ1 κ2:Type} [DecidableEq κ1] [DecidableEq κ2]
def SL (p1:Pt κ1) (p2:Pt κ2) (P:Program) (w:World):TE:=fun _ H Q=>∀ a,H a=none->Q (.ref a) (QP H a (JW p1 p2 P w a []))
def RW (p1:Pt κ1) (p2:Pt κ2) (P:Program) (w:World) (K:QM) (ty td:TE):TE:=fun σ H Q=>ty σ H fun y H1=>td σ H1 fun x H2=>∃ a kvs k b,x = .ref a /\ y = .ref b /\ Rd H2 a (JW p1 p2 P w a kvs) /\ JX p1 p2 K H2 kvs /\ JV p1 p2 K H2 k b /\ Q (.bl (wI (kvs.map JY) k).isSome) H2
def SM (p1:Pt κ1) (p2:Pt κ2) (P:Program) (w:World) (K:QM) (td ty tv:TE):TS:=fun D σ H=>tv σ H fun v H1=>td σ H1 fun x H2=>ty σ H2 fun y H3 =>
 ∃ a kvs k b,x = .ref a /\ y = .ref b /\ H3 a=some (JW p1 p2 P w a kvs) /\ JX p1 p2 K H3 kvs /\ JV p1 p2 K H3 k b /\ kvs.length < sizeLine /\ D.nx σ (QP H3 a (JW p1 p2 P w a (xq kvs k b v)))
def Tu (p1:Pt κ1) (p2:Pt κ2) (P:Program) (w:World) (K:QM) (tk tv:TE):TE:=fun σ H Q=>∀ p,H p=none->tk σ (QP H p (JW p1 p2 P w p [])) fun y H1=>tv σ H1 fun v H2=>H2 p=some (JW p1 p2 P w p []) /\ ∃ b k,y = .ref b /\ JV p1 p2 K H2 k b /\ Q (.ref p) (QP H2 p (JW p1 p2 P w p [(k,b,v)]))
variable {p1:Pt κ1} {p2:Pt κ2} {X:Cx} {P:Program} {w:World} {K:QM} {o i e value:Expr} {pos pos':Pos} {td ty tv tk:TE} {k v:Expr}
theorem Zw (p1:Pt κ1) (p2:Pt κ2) (hP:X.prog=P) (hw:X.w=w):PE X (.Dict [] [] pos) (SL p1 p2 P w):=by
 subst hP hw
 exact fun pins s σ H Q I h =>
  wpAny_Dict_empty ⟨.ref s.heap.objs.size,_,I.laid (a:=s.heap.objs.size) (o:=JW p1 p2 X.prog X.w s.heap.objs.size []) (t':=s.toks) (fun _ _ q=>Heap.get?_push_of_some _ q) (Nat.le_refl _) (V2.new s.heap I.big).ok,rfl,h _ (I.hok.fresh (Nat.le_refl _))⟩
theorem Tv (hP:X.prog=P) (hw:X.w=w) (hK:X.K=K) (hu:X.A.units+2 < cLine) (hi:PE X i ty) (ho:PE X o td):PC X .In i o (RW p1 p2 P w K ty td):=by
 subst hP hw hK
 intro pins s σ H Q I h
 refine QX (hi pins s σ H _ I h) fun iv s1 ⟨y,H1,I1,ry,q1⟩=>QX (ho pins s1 σ H1 _ I1 q1) fun u s2 ⟨x,H2,I2,rx,a,kvs,k,b,ex,ey,hr,hc,hk,q2⟩=>?_
 subst ex ey
 obtain rfl:u=Value.ref a:=rx
 obtain rfl:iv=Value.ref b:=ry
 exact QE hu I2 hr hc hk fun s3 I3=>⟨.bl _,H2,I3,rfl,q2⟩
theorem Zx (hP:X.prog=P) (hw:X.w=w) (hK:X.K=K) (hu:X.A.units+2 < cLine) (ho:PE X o td) (hi:PE X i ty) (hv:PE X value tv) (hs:swapsWith value (some (.Subscript o i pos')) pos.line X.env=pure false) :
  PS X (.Assign [.Subscript o i pos'] value pos) (SM p1 p2 P w K td ty tv):=by
 subst hP hw hK
 intro pins s σ H D I h
 refine wpAny_Assign_Subscript (QX (hv pins s σ H _ I h) fun r s1 ⟨v,H1,I1,rv,q1⟩=>QX (ho pins s1 σ H1 _ I1 q1) fun u s2 ⟨x,H2,I2,rx,q2⟩=>QX (hi pins s2 σ H2 _ I2 q2) fun iv s3 ⟨y,H3,I3,ry,a,kvs,k,b,ex,ey,hr,hc,hk,hl,q3⟩=>?_) hs
 subst ex ey
 obtain rfl:u=Value.ref a:=rx
 obtain rfl:iv=Value.ref b:=ry
 exact Wm hu I3 hr hc hk hl rv fun s4 I4=>⟨σ,_,I4,q3⟩
theorem Wn (hP:X.prog=P) (hw:X.w=w) (hK:X.K=K) (hu:X.A.units+2 < cLine) (hk:PE X k tk) (hv:PE X v tv):PE X (.Dict [some k] [v] pos) (Tu p1 p2 P w K tk tv):=by
 subst hP hw hK
 intro pins s σ H Q I q
 have hn:=I.hok.fresh (Nat.le_refl s.heap.objs.size)
 have I1:=I.laid (a:=s.heap.objs.size) (o:=JW p1 p2 X.prog X.w s.heap.objs.size []) (h':=s.heap.push { cls:=.type "dict",data:=.dict #[] }) (t':=s.toks) (fun _ _ q=>Heap.get?_push_of_some _ q) (Nat.le_refl _) (V2.new s.heap I.big).ok
 rw [arm_eval_Dict,zip_pairTrees [some k] [v] X.env pos rfl rfl,dictDisplay_pairs (pairTrees [some k] [v] X.env pos) (by intro z; cases z) (show 1 < 17 by decide)]
 refine wpAny_bind (wpAny_standAt (wpAny_bind ?_))
 unfold subDict
 refine wpAny_bind (wpAny_alloc ?_)
 refine wpAny_bind (wpAny_holding ?_)
 rw [if_pos (show (pairTrees [some k] [v] X.env pos).length<=15 from (show 1<=15 by decide))]
 refine wpAny_bind (pairTrees_cons_walk (QX (hk pins _ σ _ _ I1 (q _ hn)) fun kv s1 ⟨y,H1,I2,ry,q1⟩=>QX (hv pins s1 σ H1 _ I2 q1) fun vv s2 ⟨vV,H2,I3,rv,e,b,ks,ey,eb,q2⟩=>pairTrees_nil_walk ?_))
 subst ey
 cases (show kv=Value.ref b from ry)
 obtain ⟨lo,xs,rel,dd⟩:=Tt I3 (.inl e) nofun
 cases rel
 refine wpAny_holding ?_
 rw [List.forIn_cons]
 refine wpAny_bind (wpAny_bind (wpAny_bind (wpAny_dictSet_heap (hsz:=Nat.zero_le _) (show (uy (p1.it X.prog X.w) (p2.it X.prog X.w)).room X.A from Nat.lt_of_succ_lt hu) (eb.is I3) dd fun h' dd' hs=>wpAny_pure ?_)))
 show wpAny _ _ (forIn [] _ _) _ _ _
 rw [List.forIn_nil]
 first
  | refine wpAny_pure (wpAny_pure (wpAny_pure (wpAny_pure ⟨.ref s.heap.objs.size,_,?_,rfl,q2⟩)))
  | refine wpAny_pure (wpAny_pure (wpAny_pure ⟨.ref s.heap.objs.size,_,?_,rfl,q2⟩))
 obtain ⟨qo,es,ep,hq,h2,h3,h4,_,h5⟩:=dd'
 exact uA I3 (by rw [e]; exact True.intro) hs ⟨qo,hq⟩ (V2.ok ⟨lo,_,PR.put .nil ks rv,qo,es,ep,hq,h2,h3,h4,h5⟩)
end
abbrev JZ:List (V × V)->List DictEntry->Prop:=Paired fun (p:V × V) (e:DictEntry)=>zU p.1 e.key /\ zU p.2 e.val
structure WkE (a:Addr) (u:HO) (kvs:List (V × V)):Prop where
 lo:∀ {P:Program} {w:World} {H:Hp} {h:Heap},zT P w H h a u->(a == sysModules)=false /\ ∃ o es ep,h.get? a=some o /\ o.ExactDict /\ o.data = .dict es ep /\ JZ kvs es.toList
 any:∀ {P:Program} {w:World} {H H':Hp} {h:Heap},zT P w H h a u->zT P w H' h a u
 mu:QR (some u)
theorem Wo {k:QO} {v:Value} (h:qT k v=true):zU (kV k) v:=by
 rcases zZ h with ⟨i,t,rfl,rfl⟩ | ⟨x,t,rfl,rfl⟩
 ·exact ⟨t,rfl⟩
 ·exact ⟨t,rfl⟩
theorem SN {P:Program} {w:World}:∀ {kvs:List (QO × V)} {vs:List (QO × Value)} {es:List DictEntry},KV kvs vs->Pairs (yt P w) es vs->JZ (kvs.map fun p=>(kV p.1,p.2)) es
 | _,_,_,.nil,.nil=>.nil
 | p :: _,q :: _,e :: _,.cons r t,.cons h1 h2 t2=>.cons ⟨(show zU (kV p.1) e.key by rw [r.1]; exact Wo h1),(show zU p.2 e.val by rw [h2]; exact r.2)⟩ (SN t t2)
theorem SO (a:Addr) (kvs:List (QO × V)):WkE a (HO.dK kvs) (kvs.map fun p=>(kV p.1,p.2)) where
 lo:=fun x=>by
  obtain ⟨z,hd,vs,rel,o,es,ep,g,hx,hdat,_,hp,_⟩:=x
  exact ⟨hd,o,es,ep,g,hx,hdat,SN rel hp⟩
 any:=fun x=>x
 mu:=trivial
section
variable {κ1 κ2:Type} [DecidableEq κ1] [DecidableEq κ2] {p1:Pt κ1} {p2:Pt κ2}
theorem SQ {P:Program} {w:World} {k1:ItK P w κ1} {k2:ItK P w κ2}:∀ {kvs:List ((κ1 × κ2) × Addr × V)} {xs:List ((κ1 × κ2) × Addr × Value)},PR kvs xs->JZ (kvs.map fun x=>(V.ref x.2.1,x.2.2)) (xs.map (entryOfKey (uy k1 k2)))
 | _,_,.nil=>.nil
 | p :: _,q :: _,.cons r t=>.cons ⟨(show zU (V.ref p.2.1) (Value.ref q.2.1) by rw [r.2.1]; rfl),r.2.2⟩ (SQ t)
theorem SR (P:Program) (w:World) (a:Addr) (kvs:List ((κ1 × κ2) × Addr × V)):WkE a (JW p1 p2 P w a kvs) (kvs.map fun x=>(V.ref x.2.1,x.2.2)) where
 lo:=fun x=>by
  obtain ⟨⟨lo,xs,r,o,es,ep,g,hx,hd,he,nd⟩,_⟩:=x
  exact ⟨lo,o,es,ep,g,hx,hd,by rw [he]; exact SQ r⟩
 any:=fun x=>x
 mu:=trivial
end
theorem UP {kvs:List (V × V)} {es:Array DictEntry} {i:Nat} (r:JZ kvs es.toList) (hi:i < es.size):∃ p,kvs[i]? = some p /\ zU p.1 es[i].key /\ zU p.2 es[i].val:=by
 have e:es.toList[i]? = some es[i]:=by rw [Array.getElem?_toList,Array.getElem?_eq_getElem hi]
 obtain ⟨p,hp,h⟩:=qh r e
 exact ⟨p,hp,h⟩
theorem V3 {P:Program} {w:World} {H:Hp} {h:Heap} {a:Addr} {o:Obj} {u:HO} {kvs:List (V × V)} {es:Array DictEntry} {ep:Nat} (W:WkE a u kvs) (x:zT P w H h a (.frz o u)) (hd:o.data = .dict es ep):h.get? a=some o /\ JZ kvs es.toList:=by
 obtain ⟨g,y⟩:=x
 obtain ⟨_,o',es',ep',g',_,hd',r⟩:=W.lo y
 rw [g] at g'
 cases g'
 rw [hd] at hd'
 injection hd' with e1 _
 subst e1
 exact ⟨g,r⟩
def J0 (a:Addr) (o:Obj) (u:HO) (kvs:List (V × V)):It :=
 ⟨fun i H=>i < kvs.length /\ H a=some (.frz o u),fun i H x H'=>∃ T p,H T=none /\ x = .ref T /\ kvs[i]? = some p /\ H' = QP H T (.tup [p.1,p.2]),fun i H=>i=kvs.length /\ H a=some (.frz o u)⟩
def J3 (a:Addr) (o:Obj) (u:HO) (kvs:List (V × V)):It :=
 ⟨fun i H=>i < kvs.length /\ H a=some (.frz o u),fun i H x H'=>H' = H /\ ∃ p,kvs[i]? = some p /\ x=p.1,fun i H=>i=kvs.length /\ H a=some (.frz o u)⟩
theorem SS {P:Program} {w:World} {K:QM} {elts:List Expr} {kt:Nat} {pt:Pos} (a it:Addr) (o:Obj) (u:HO) (es:Array DictEntry) (ep:Nat) (kvs:List (V × V)) (W:WkE a u kvs) (hx:o.ExactDict) (hd:o.data = .dict es ep) (hes:es.size=kvs.length) :
  Turn P w K (.Tuple elts kt pt) (J0 a o u kvs) [it] it (fun i h=>∃ ok ov,IsItemIter h it a i es.size ep ok ov) where
 mem:=by simp
 obj:=fun i h st b hb=>by
  have e:b=it:=by simpa using hb
  subst e
  obtain ⟨ok,ov,st⟩:=st
  exact ⟨_,st,fun v z=>by cases z⟩
 keep:=fun i h h' st k=>by
  obtain ⟨ok,ov,st⟩:=st
  exact ⟨ok,ov,k it (by simp) _ st⟩
 item:=by
  intro X hP hw hK hc i pins s σ H E I hf st hg
  subst hP hw hK
  obtain ⟨ok,ov,st⟩:=st
  obtain ⟨hi,hH⟩:=hg
  obtain ⟨g,r⟩:=V3 W (I.hok a _ hH) hd
  have hie:i < es.size:=by omega
  obtain ⟨p,hp,r1,r2⟩:=UP r hie
  refine VY st ⟨o,g,hx,hd⟩ hie fun h1 hout hT hk=>?_
  refine ⟨_,rfl,wpAny_letOwnedTupleGo_items (s:={ s with heap:=h1 }) hout fun h2 he2 hs2=>?_⟩
  have eT:s.heap.objs.size ≠ it:=Nat.ne_of_gt (Heap.lt_size st)
  have hk2:∀ b o,b ∉ [it]->s.heap.get? b=some o->h2.get? b=some o:=fun b o hb q=>by
   have n1:b ≠ it:=fun z=>hb (by simp [z])
   exact (hs2.2 b n1).trans (hk b o n1 q)
  have hT2:h2.get? s.heap.objs.size=some { cls:=.type "tuple",data:=.seq #[es[i].key,es[i].val] }:=(hs2.2 _ eT).trans hT
  have hn:H s.heap.objs.size=none:=I.hok.fresh (Nat.le_refl _)
  have I2:Inv X pins σ (QP H s.heap.objs.size (.tup [p.1,p.2])) { s with heap:=h2,toks:=s.toks }:=Zd (s:=s) I hk2 hf (Nat.le_refl _) ⟨by show 2<=sizeLine; decide,[es[i].key,es[i].val],.cons r1 (.cons r2 .nil),_,hT2,rfl,0,rfl⟩
  refine ⟨.ref s.heap.objs.size,_,I2,rfl,⟨_,p,hn,rfl,hp,rfl⟩,⟨_,_,he2⟩,fun b hb=>?_⟩
  have e:b=it:=by simpa using hb
  subst e
  rw [zq (Ne.symm eT)]
  exact (hf b (by simp)).1
 done:=by
  intro X hP hw hK hc i pins s σ H E I hf st hg
  subst hP hw hK
  obtain ⟨ok,ov,st⟩:=st
  obtain ⟨hi,hH⟩:=hg
  obtain ⟨g,r⟩:=V3 W (I.hok a _ hH) hd
  have ei:i=es.size:=by omega
  subst ei
  exact Tq (I.ok.hd hc) st ⟨o,g,hx,hd⟩ fun h' eb=>⟨rfl,jd (fp:=[it]) (t':=s.toks) I (fun b o hb q=>eb b o (fun z=>hb (by simp [z])) q) hf⟩
 self:=fun _ _ _ _ _ st h=>by
  obtain ⟨ok,ov,st⟩:=st
  have hT:Shared.TypeIs _ (.ref it) "dict_itemiterator":=⟨_,st,rfl⟩
  refine wpAny_pyIter_slot hT PySem.F.slot_dict_itemiterator_iter (wpAny_call_entry PySem.F.slot_dict_itemiterator_iter hT Ym ?_ (PySem.F.args_dict_itemiterator_iter_1 _))
  show wpAny _ _ (ret (.ref it)) _ _ _
  exact wpAny_pure ⟨_,rfl,"dict_itemiterator",_,hT,PySem.F.slot_dict_itemiterator_next.lookup,h⟩
theorem ST {P:Program} {w:World} {K:QM} {tg:Expr} (a it:Addr) (o:Obj) (u:HO) (es:Array DictEntry) (ep:Nat) (kvs:List (V × V)) (W:WkE a u kvs) (hx:o.ExactDict) (hd:o.data = .dict es ep) (hes:es.size=kvs.length) :
  Turn P w K tg (J3 a o u kvs) [it] it (fun i h=>h.IsKeyIter it a i es.size ep) where
 mem:=by simp
 obj:=fun i h st b hb=>by
  have e:b=it:=by simpa using hb
  subst e
  obtain ⟨o,e,c,d⟩:=st
  exact ⟨o,e,fun v z=>by rw [d] at z; cases z⟩
 keep:=fun i h h' st k=>st.at fun o e=>k it (by simp) o e
 item:=by
  intro X hP hw hK hc i pins s σ H E I hf st hg
  subst hP hw hK
  obtain ⟨hi,hH⟩:=hg
  obtain ⟨g,r⟩:=V3 W (I.hok a _ hH) hd
  have hie:i < es.size:=by omega
  obtain ⟨p,hp,r1,r2⟩:=UP r hie
  obtain ⟨f0,f1,f2,f3,f4,f5⟩:=hf it (by simp)
  refine VV st ⟨o,g,hx,hd⟩ hie fun h' st' sb=>?_
  have I1:Inv X pins σ H { s with heap:=h' }:=I.turned (t':=s.toks) (fun b o hb e=>(sb.2 b hb).trans e) f0 f1 f3 f4 f5
  obtain ⟨oi,e,c,d⟩:=id st'
  exact ⟨_,rfl,Vf (s:={ s with heap:=h' }) e c d (by decide) ⟨p.1,H,I1,r1,⟨rfl,p,hp,rfl⟩,st',fun b hb=>(hf b hb).1⟩⟩
 done:=by
  intro X hP hw hK hc i pins s σ H E I hf st hg
  subst hP hw hK
  obtain ⟨hi,hH⟩:=hg
  obtain ⟨g,r⟩:=V3 W (I.hok a _ hH) hd
  obtain ⟨f0,f1,f2,f3,f4,f5⟩:=hf it (by simp)
  have ei:i=es.size:=by omega
  subst ei
  exact Tp (I.ok.hd hc) st ⟨o,g,hx,hd⟩ fun h' eb=>⟨rfl,I.turned (t':=s.toks) (fun b o hb e=>eb b o hb e) f0 f1 f3 f4 f5⟩
 self:=fun _ _ _ _ _ st h=>wpAny_pyIter_keyiter st h
theorem Grow.frzE {m:List Addr} {H:Hp} {d:Addr} {u:HO} {o:Obj} (h:H d=some u) (mu:QR (some u)) (hm:d ∈ m):Grow m H (QP H d (.frz o u)) :=
 ⟨fun b v hb q=>by rw [zq (show b ≠ d from fun z=>hb (by rw [z]; exact hm))]; exact q,fun b zs q=>by rw [zq (fun z=>by subst z; rw [h] at q; cases q; exact mu)]; exact q,fun b u v q=>by rw [zq (fun z=>by subst z; rw [h] at q; cases q; exact mu)]; exact q⟩
section
variable {X:Cx} {elts:List Expr} {kt:Nat} {pt:Pos} {tg:Expr}
def Rh (H1:Hp) (a:Addr) (u:HO) (kvs:List (V × V)) (R:Obj->Hp->Prop):Prop:=WkE a u kvs /\ Rd H1 a u /\ ∀ o H',H' a=some (.frz o u)->Grow [a] H1 H' -> (∀ b,b ≠ a->H' b=H1 b)->R o H'
theorem jn {pins:List (Addr × Obj)} {σ:L2.St} {H1:Hp} {s1:Shared} {a:Addr} {u:HO} {kvs:List (V × V)} {R:Obj->Hp->Prop} {G:Prop} (I1:Inv X pins σ H1 s1) (h:Rh H1 a u kvs R)
  (key:∀ (H2:Hp) (ob:Obj) (es:Array DictEntry) (ep:Nat),Inv X pins σ H2 s1->WkE a u kvs->H2 a=some (.frz ob u)->(a == sysModules)=false->s1.heap.get? a=some ob->ob.ExactDict->ob.data = .dict es ep->es.size=kvs.length->JZ kvs es.toList->R ob H2->G):G:=by
 obtain ⟨W,hrd,q⟩:=h
 rcases hrd with ha | ⟨ob,ha⟩
 ·have ok1:=I1.hok a _ ha
  obtain ⟨lo,ob,es,ep,g,hx,hd,r⟩:=W.lo ok1
  have I2:Inv X pins σ (QP H1 a (.frz ob u)) { s1 with heap:=s1.heap,toks:=s1.toks }:=uA I1 (by rw [ha]; exact W.mu) (Heap.SameBut.refl ..) ⟨ob,g⟩ ⟨g,W.any ok1⟩
  have hl:es.size=kvs.length:=by rw [← Array.length_toList]; exact (Paired.length r).symm
  exact key _ ob es ep I2 W zd lo g hx hd hl r (q ob _ zd (Grow.frzE ha W.mu (by simp)) fun b hb=>zq hb)
 ·have ok1:=I1.hok a _ ha
  obtain ⟨g,y⟩:=ok1
  obtain ⟨lo,ob',es,ep,g',hx,hd,r⟩:=W.lo y
  rw [g] at g'
  cases g'
  have hl:es.size=kvs.length:=by rw [← Array.length_toList]; exact (Paired.length r).symm
  exact key _ ob es ep I1 W ha lo g hx hd hl r (q ob _ ha (Grow.refl _ _) fun _ _=>rfl)
def QF (tl:TE):TI:=fun σ H R=>tl σ H fun x H1=>∃ a u kvs,x = .ref a /\ Rh H1 a u kvs (fun o H'=>R (J0 a o u kvs) H')
def QG (tl:TE):TI:=fun σ H R=>tl σ H fun x H1=>∃ a u kvs,x = .ref a /\ Rh H1 a u kvs (fun o H'=>R (J3 a o u kvs) H')
theorem Wp {o:Expr} {to:TE} {apos cpos:Pos} (ho:PE X o to)
  (hbase:attributeBase o "items" X.env (eval o X.env)=eval o X.env:=by rfl) (hline:(apos.endLine == cpos.line)=true:=by rfl) :
  PI X (.Tuple elts kt pt) (.Call (.Attribute o "items" apos) [] [] cpos) (QF to):=by
 intro pins s σ H R I h
 refine wpAny_Call_method0_late hbase hline (QX (ho pins s σ H _ I h) fun v s1 ⟨x,H1,I1,r1,a,u,kvs,ex,hw⟩=>?_)
 subst ex
 obtain rfl:v=Value.ref a:=r1
 refine jn I1 hw fun H2 ob es ep I2 W hH lo g hx hd hl r hR=>?_
 have em:xm es a ep s1.heap:=⟨ob,g,hx,hd⟩
 refine ⟨"dict","dict.items",PySem.F.plainAttrs_dict,PySem.F.slot_dict_items,PySem.F.type_dict_items,em.typeIs,fun b e=>by cases e; exact ⟨ob,g,hx.2.1⟩,Calls.callWith_builtin rfl (PySem.evalArgs_none (VW lo em ?_))⟩
 have em':xm es a ep (s1.heap.push { cls:=.type "dict_items",data:=.fields #[.ref a] }):=em.keep fun o e=>Heap.get?_push_of_some _ e
 have I3:Inv X pins σ H2 { s1 with heap:=s1.heap.push { cls:=.type "dict_items",data:=.fields #[.ref a] } }:=I2.kept (t':=s1.toks) fun b o e=>Heap.get?_push_of_some _ e
 refine VX (s:={ s1 with heap:=s1.heap.push { cls:=.type "dict_items",data:=.fields #[.ref a] } }) ⟨_,Heap.get?_push_size _ rfl,rfl,rfl⟩ em' ?_
 refine ⟨_,[_],_,_,H2,rfl,I3.kept (t':=s1.toks) fun b o e=>Heap.get?_push_of_some _ e,SS a _ ob u es ep kvs W hx hd hl,⟨_,_,Heap.get?_push_size _ rfl⟩,fun b hb=>?_,hR⟩
 have e:=List.mem_singleton.mp hb
 subst e
 exact I3.fpOk (Nat.le_refl _) (I3.hok.fresh (Nat.le_refl _))
theorem Tw {l:Expr} {tl:TE} (hl:PE X l tl):PI X tg l (QG tl):=by
 intro pins s σ H R I h
 refine QX (hl pins s σ H _ I h) fun v s1 ⟨x,H1,I1,r1,a,u,kvs,ex,hw⟩=>?_
 subst ex
 obtain rfl:v=Value.ref a:=r1
 refine jn I1 hw fun H2 ob es ep I2 W hH lo g hx hd hl r hR=>?_
 refine VU lo ⟨ob,g,hx,hd⟩ ?_
 refine ⟨s1.heap.objs.size,[s1.heap.objs.size],_,_,H2,rfl,I2.kept (t':=s1.toks) fun b o e=>Heap.get?_push_of_some _ e,ST a _ ob u es ep kvs W hx hd hl,⟨_,Heap.get?_push_size _ rfl,rfl,rfl⟩,fun b hb=>?_,hR⟩
 have e:b=s1.heap.objs.size:=by simpa using hb
 subst e
 exact I2.fpOk (Nat.le_refl _) (I2.hok.fresh (Nat.le_refl _))
end
theorem SU {a:Addr} {o:Obj} {u:HO} {kvs:List (V × V)} {g:TG} {tb:TS} {D:Ends} {σ:L2.St} {H:Hp} (Pv:Nat->L2.St->Hp->Prop) (h0:Pv 0 σ H) (hl:∀ i σ H,i<=kvs.length->Pv i σ H->H a=some (.frz o u))
  (hs:∀ i p T σ H,kvs[i]? = some p->H T=none->Pv i σ H->g (.ref T) σ (QP H T (.tup [p.1,p.2])) fun σ2 H2=>tb { D with nx:=Pv (i+1),ct:=Pv (i+1),bk:=D.nx } σ2 H2) (hd:∀ σ H,Pv kvs.length σ H->D.nx σ H) :
  ∃ W:Nat->Nat->L2.St->Hp->Prop,(∃ m,W 0 m σ H) /\ ∀ i m σ H,W i m σ H →
   ((J0 a o u kvs).stop i H /\ D.nx σ H) \/ ((J0 a o u kvs).go i H /\ ∃ N:L2.St->Hp->Prop,(∀ σ' H',N σ' H' -> ∃ m',m' < m /\ W (i+1) m' σ' H') /\ ∀ x H',(J0 a o u kvs).yld i H x H' -> g x σ H' fun σ2 H2=>tb { D with nx:=N,ct:=N,bk:=D.nx } σ2 H2):=by
 refine ⟨fun i m σ H=>m=kvs.length - i /\ i<=kvs.length /\ Pv i σ H,⟨kvs.length,by simp,Nat.zero_le _,h0⟩,?_⟩
 rintro i m σ H ⟨rfl,hi,p⟩
 have q:=hl i σ H hi p
 by_cases hlt:i < kvs.length
 ·refine .inr ⟨⟨hlt,q⟩,Pv (i+1),fun σ' H' p'=>⟨kvs.length - (i+1),by omega,rfl,hlt,p'⟩,fun x H' y=>?_⟩
  obtain ⟨T,pk,hT,rfl,hp,rfl⟩:=y
  exact hs i pk T σ H hp hT p
 ·have e:i=kvs.length:=by omega
  exact .inl ⟨⟨e,q⟩,hd σ H (e ▸ p)⟩
theorem RX {a:Addr} {o:Obj} {u:HO} {kvs:List (V × V)} {g:TG} {tb:TS} {D:Ends} {σ:L2.St} {H:Hp} (Pv:Nat->L2.St->Hp->Prop) (h0:Pv 0 σ H) (hl:∀ i σ H,i<=kvs.length->Pv i σ H->H a=some (.frz o u))
  (hs:∀ i p σ H,kvs[i]? = some p->Pv i σ H->g p.1 σ H fun σ2 H2=>tb { D with nx:=Pv (i+1),ct:=Pv (i+1),bk:=D.nx } σ2 H2) (hd:∀ σ H,Pv kvs.length σ H->D.nx σ H) :
  ∃ W:Nat->Nat->L2.St->Hp->Prop,(∃ m,W 0 m σ H) /\ ∀ i m σ H,W i m σ H →
   ((J3 a o u kvs).stop i H /\ D.nx σ H) \/ ((J3 a o u kvs).go i H /\ ∃ N:L2.St->Hp->Prop,(∀ σ' H',N σ' H' -> ∃ m',m' < m /\ W (i+1) m' σ' H') /\ ∀ x H',(J3 a o u kvs).yld i H x H' -> g x σ H' fun σ2 H2=>tb { D with nx:=N,ct:=N,bk:=D.nx } σ2 H2):=by
 refine ⟨fun i m σ H=>m=kvs.length - i /\ i<=kvs.length /\ Pv i σ H,⟨kvs.length,by simp,Nat.zero_le _,h0⟩,?_⟩
 rintro i m σ H ⟨rfl,hi,p⟩
 have q:=hl i σ H hi p
 by_cases hlt:i < kvs.length
 ·refine .inr ⟨⟨hlt,q⟩,Pv (i+1),fun σ' H' p'=>⟨kvs.length - (i+1),by omega,rfl,hlt,p'⟩,fun x H' y=>?_⟩
  obtain ⟨rfl,pk,hp,rfl⟩:=y
  exact hs i pk σ _ hp p
 ·have e:i=kvs.length:=by omega
  exact .inl ⟨⟨e,q⟩,hd σ H (e ▸ p)⟩
theorem Wq:∀ {kvs:List (V × V)} {es:List DictEntry},JZ kvs es->zP (kvs.map (·.2)) (es.map (·.val))
 | _,_,.nil=>.nil
 | _,_,.cons h t=>.cons h.2 (Wq t)
section
variable {X:Cx} {o:Expr} {to:TE} {p pos apos cpos:Pos}
def Wr (to:TE):TE:=fun σ H Q=>to σ H fun x H1=>∃ a u kvs,x=V.ref a /\ kvs.length<=sizeLine /\ Rh H1 a u kvs (fun _ H'=>∀ l,H' l=none->Q (.ref l) (QP H' l (.lst (kvs.map (·.2)))))
theorem jo {k:Nat} (hr:Room k X.A) (hgl:Gl X "list") (hmt:X.mg "list" = none) (ho:PE X o to)
  (hbase:attributeBase o "values" X.env (eval o X.env)=eval o X.env:=by rfl) (hline:(apos.endLine == cpos.line)=true:=by rfl)
  (hs2:starEach [(.Call (.Attribute o "values" apos) [] [] cpos:Expr)] X.env=[(false,eval (.Call (.Attribute o "values" apos) [] [] cpos) X.env)]:=by rfl) :
  PE X (.Call (.Name "list" p) [.Call (.Attribute o "values" apos) [] [] cpos] [] pos) (Wr to):=by
 intro pins s σ H Q I h
 refine wpAny_Call_Name_kw (wv I hgl hmt tq (PyProof.Rows.callWith_type1 ?_ hs2 rfl))
 rw [hs2]
 show wpAny _ _ (spliced [(false,eval (.Call (.Attribute o "values" apos) [] [] cpos) X.env)]) _ _ s
 refine Calls.spliced_cons ?_
 refine wpAny_Call_method0_late hbase hline (QX (ho pins s σ H _ I h) fun v s1 ⟨x,H1,I1,r1,a,u,kvs,ex,hz,hw⟩=>?_)
 subst ex
 obtain rfl:v=Value.ref a:=r1
 refine jn I1 hw fun H2 ob es ep I2 W hH lo g hx hd hl r hR=>?_
 have em:xm es a ep s1.heap:=⟨ob,g,hx,hd⟩
 refine ⟨"dict","dict.values",PySem.F.plainAttrs_dict,PySem.F.slot_dict_values,PySem.F.type_dict_values,em.typeIs,fun b e=>by cases e; exact ⟨ob,g,hx.2.1⟩,Calls.callWith_builtin rfl (PySem.evalArgs_none (VZ lo em (Calls.spliced_nil ?_)))⟩
 have em':xm es a ep (s1.heap.push { cls:=.type "dict_values",data:=.fields #[.ref a] }):=em.keep fun o e=>Heap.get?_push_of_some _ e
 have I3:Inv X pins σ H2 { s1 with heap:=s1.heap.push { cls:=.type "dict_values",data:=.fields #[.ref a] } }:=I2.kept (t':=s1.toks) fun b o e=>Heap.get?_push_of_some _ e
 refine kdl_call (s:={ s1 with heap:=s1.heap.push { cls:=.type "dict_values",data:=.fields #[.ref a] } }) (Ts (es:=es) (ep:=ep) (d:=a) (r:=s1.heap.objs.size)) hr.hd ⟨⟨_,Heap.get?_push_size _ rfl,rfl,rfl⟩,em'⟩ (by rw [hl]; exact hz) fun h' tk acc' c' kp e hI=>?_
 have hacc:acc'.toList=es.toList.map (·.val):=by
  apply List.ext_getElem
  ·rw [Array.length_toList,hI.1,List.length_map,Array.length_toList]
  ·intro j h1 h2
   rw [Array.length_toList] at h1
   obtain ⟨hj,ev⟩:=hI.2 j acc'[j] (Array.getElem?_eq_getElem h1)
   rw [Array.getElem_toList,ev,List.getElem_map,Array.getElem_toList]
 refine ⟨.ref _,_,I3.laid (t':=tk) kp (Nat.le_refl _) (show zT X.prog X.w _ h' _ (.lst (kvs.map (·.2))) from ⟨by rw [List.length_map]; exact hz,acc'.toList,c',by rw [hacc]; exact Wq r,by rw [Array.toArray_toList]; exact e⟩),rfl,hR _ (I3.hok.fresh (Nat.le_refl _))⟩
end
theorem Room.u173 {k:Nat} {A:Around} (r:Room k A):A.units+1 < cLine:=by have:=r.un; omega
theorem Room.u2 {k:Nat} {A:Around} (r:Room k A):A.units+2 < cLine:=by have:=r.un; omega
def Ws (K:QM) (H:Hp) (x:(Int × List Int) × Addr × V) (e:yU):Prop:=x.1=((e.1.1:Int),e.1.2) /\ xB K H x.2.2 e.2
abbrev yV (K:QM) (H:Hp):List ((Int × List Int) × Addr × V)->List yU->Prop:=Paired (Ws K H)
theorem yV.grow {K:QM} {H H':Hp} {m:List Addr} {kvs:List ((Int × List Int) × Addr × V)} {E:List yU} (g:Grow m H H') (h:yV K H kvs E):yV K H' kvs E:=Paired.mapP h fun _ _ z=>⟨z.1,z.2.grow g⟩
theorem sE {K:QM} {H:Hp} {x:(Int × List Int) × Addr × V} {e:yU} {t:Nat} {vs:List Int} (h:Ws K H x e):x.1=((t:Int),vs) ↔ e.1=(t,vs):=by
 rw [h.1]
 constructor
 ·intro z
  have z1:=congrArg Prod.fst z
  have z2:=congrArg Prod.snd z
  exact Prod.ext (Int.ofNat.inj z1) z2
 ·intro z
  rw [z]
theorem Zy {K:QM} {H:Hp} {t:Nat} {vs:List Int}:∀ {kvs:List ((Int × List Int) × Addr × V)} {E:List yU},yV K H kvs E->(kvs.any fun x=>decide (x.1=((t:Int),vs)))=E.any fun e=>decide (e.1=(t,vs))
 | _,_,.nil=>rfl
 | _,_,.cons h r=>by
  rw [List.any_cons,List.any_cons,Zy r]
  congr 1
  exact decide_eq_decide.mpr (sE h)
theorem qj {K:QM} {H:Hp} {t:Nat} {vs:List Int} {v:V} {o:List Nat} (hv:xB K H v o):∀ {kvs:List ((Int × List Int) × Addr × V)} {E:List yU},yV K H kvs E →
  yV K H (kvs.map fun x=>if x.1=((t:Int),vs) then (x.1,x.2.1,v) else x) (E.map fun e=>if e.1=(t,vs) then (e.1,o) else e)
 | _,_,.nil=>.nil
 | x :: _,e :: _,.cons h r=>by
  refine .cons ?_ (qj hv r)
  dsimp only
  by_cases c:e.1=(t,vs)
  ·rw [if_pos c,if_pos ((sE h).mpr c)]
   exact ⟨h.1,hv⟩
  ·rw [if_neg c,if_neg (fun z=>c ((sE h).mp z))]
   exact h
theorem yV.store {K:QM} {H:Hp} {kvs:List ((Int × List Int) × Addr × V)} {E:List yU} {t:Nat} {vs:List Int} {b:Addr} {v:V} {o:List Nat} (h:yV K H kvs E) (hv:xB K H v o) :
  yV K H (xq kvs ((t:Int),vs) b v) (x8 E (t,vs) o):=by
 unfold xq x8
 rw [Zy h]
 split
 ·exact qj hv h
 ·exact Paired.snoc h ⟨rfl,hv⟩
theorem yV.get {K:QM} {H:Hp} {kvs:List ((Int × List Int) × Addr × V)} {E:List yU} {i:Nat} {x:(Int × List Int) × Addr × V} (h:yV K H kvs E) (hx:kvs[i]? = some x):∃ e,E[i]? = some e /\ Ws K H x e:=by
 induction h generalizing i with
 | nil=>cases hx
 | @cons y e ys es h t ih =>
  cases i with
  | zero=>cases hx; exact ⟨e,rfl,h⟩
  | succ i=>exact ih hx
def y4 (ms:List (Nat × Nat)):List (QO × V):=ms.map fun p=>(Sum.inl (p.1:Int),V.int ((p.2:Nat):Int))
def uC (K:QM) (H:Hp) (v:V) (o:Option (List Nat)):Prop:=match o with
 | none=>v = .non
 | some ns=>xB K H v ns
theorem uC.grow {K:QM} {H H':Hp} {v:V} {o:Option (List Nat)} {m:List Addr} (h:uC K H v o) (g:Grow m H H'):uC K H' v o:=by
 cases o with
 | none=>exact h
 | some ns=>exact xB.grow h g
structure MsOk73 (m:Nat) (cs:List Call72) (ms:List (Nat × Nat)):Prop where
 lt:∀ p ∈ ms,p.1 < cs.length
 c40:cs.length<=40
 ok:∀ c ∈ cs,CallOk72 m c
 m16:m<=16
 few:ms.length<=8
def Zz (K:QM):Sp:=Jy fun x y H Q=>∃ b cs,zI K H x b /\ zx K H y cs /\ b.length<=16 /\ Calls72 b.length cs ∧
 ∀ l zs H',Grow [] H H' -> H l=none->H' l=some (.lst zs)->Sx H' zs ((List.range b.length).map (Rg cs))->Q (.ref l) H'
def qk (K:QM):Sp:=Jx fun x H Q=>∃ ns,Sw K H x ns /\ ns.Pairwise (· < ·) /\ (∀ k ∈ ns,k < 40) /\ ∀ H',Grow [] H H' -> Q (.int (Va ns:Nat)) H'
def ZA (P:Program) (w:World) (K:QM):Sp:=Jz fun x y z H Q=>∃ (cs:List Call72) (m:Nat) (am:Addr) (ms:List (Nat × Nat)) (ar:Addr) (kvs:List ((Int × List Int) × Addr × V)) (E:List yU),
 zx K H x cs /\ y = .ref am /\ Rd H am (.dK (y4 ms)) /\ z = .ref ar /\ H ar=some (JW JT JU P w ar kvs) /\ am ≠ ar /\ JX JT JU K H kvs /\ yV K H kvs E /\ MsOk73 m cs ms /\ (∀ e ∈ E,e.1.2.length=m /\ e.2.length<=40) /\ E.length * ms.length<=sizeLine ∧
 ∀ r kvs' H',H r=none->Grow [am,ar] H H' -> Rd H' am (.dK (y4 ms))->H' r=some (JW JT JU P w r kvs')->JX JT JU K H' kvs' -> yV K H' kvs' (Zq cs ms E)->Q (.ref r) H'
def Wt (K:QM):Sp:=Jz fun x y z H Q=>∃ (b:List Int) (cs:List Call72) (am:Addr) (ms:List (Nat × Nat)),zI K H x b /\ zx K H y cs /\ z = .ref am /\ Rd H am (.dK (y4 ms)) /\ MsOk73 b.length cs ms ∧
 ∀ v H',Grow [am] H H' -> uC K H' v (jj cs ms b)->Q v H'
theorem uD:∀ {l l':List Nat},l.Nodup->(∀ x ∈ l,x ∈ l')->l.length<=l'.length
 | [],_,_,_=>Nat.zero_le _
 | a :: l,l',nd,hm=>by
  obtain ⟨na,nd'⟩:=List.nodup_cons.mp nd
  have pe:=List.perm_cons_erase (hm a (List.mem_cons_self ..))
  have:=uD (l':=l'.erase a) nd' fun n hn=>(List.mem_erase_of_ne (fun z=>na (by rw [← z]; exact hn))).mpr (hm n (List.mem_cons_of_mem _ hn))
  have e:=pe.length_eq
  rw [List.length_cons] at e ⊢
  omega
theorem RY {ns:List Nat} {n:Nat} (pw:ns.Pairwise (· < ·)) (lt:∀ k ∈ ns,k < n):ns.length<=n:=by
 have nd:ns.Nodup:=pw.imp fun h=>Nat.ne_of_lt h
 have:=uD (l:=ns) (l':=List.range n) nd fun x hx=>List.mem_range.mpr (lt x hx)
 rwa [List.length_range] at this
theorem ql:∀ ns:List Nat,((ns.map fun k:Nat=>(k:Int)).map fun i=>1 * (2:Int) ^ i.toNat).sum=((ns.map fun i=>2 ^ i).sum:Nat)
 | []=>rfl
 | k :: ns=>by
  rw [List.map_cons,List.map_cons,List.sum_cons,ql ns,List.map_cons,List.sum_cons,Int.toNat_natCast,Int.one_mul,Int.natCast_add,Int.natCast_pow]; rfl
theorem V4 {ms:List (Nat × Nat)} {n:Nat} (h:n ∉ ms.map (·.1)):wI (y4 ms) (Sum.inl (n:Int))=none:=by
 have key:∀ ms:List (Nat × Nat),n ∉ ms.map (·.1)->wI (y4 ms) (Sum.inl (n:Int))=none:=by
  intro ms
  induction ms with
  | nil=>exact fun _=>rfl
  | cons p ms ih =>
   intro h
   rw [List.map_cons,List.mem_cons,not_or] at h
   show wI ((Sum.inl (p.1:Int),V.int ((p.2:Nat):Int)) :: y4 ms) _=none
   rw [yq (fun z=>h.1 (by injection z with z; omega))]
   exact ih h.2
 exact key ms h
theorem V5 {ms:List (Nat × Nat)} {n M:Nat} (h:n ∉ ms.map (·.1)):qe (y4 ms) (Sum.inl (n:Int)) (V.int ((M:Nat):Int))=y4 (ms ++ [(n,M)]):=by
 rw [VR _ (V4 h)]
 unfold y4
 rw [List.map_append]; rfl
theorem V6 {ms:List (Nat × Nat)} {i:Nat} {p:V × V} (h:((y4 ms).map fun q=>(kV q.1,q.2))[i]? = some p):∃ q,ms[i]? = some q /\ p=(V.int (q.1:Int),V.int ((q.2:Nat):Int)):=by
 unfold y4 at h
 rw [List.map_map,List.getElem?_map] at h
 obtain ⟨q,hq,rfl⟩:=Option.map_eq_some_iff.mp h
 exact ⟨q,hq,rfl⟩
theorem xg {α:Type} {l:List α} {i:Nat} {x:α} (h:l[i]? = some x):l.take (i+1)=l.take i ++ [x]:=by rw [List.take_succ,h]; rfl
theorem Grow.setK73 {m:List Addr} {H:Hp} {d:Addr} {kvs:List (QO × V)} {o:HO} (h:H d=some (.dK kvs)) (hm:d ∈ m):Grow m H (QP H d o) :=
 ⟨fun b v hb q=>by rw [zq (show b ≠ d from fun z=>hb (by rw [z]; exact hm))]; exact q,fun b zs q=>by rw [zq (fun z=>by subst z; rw [h] at q; cases q)]; exact q,fun b u v q=>by rw [zq (fun z=>by subst z; rw [h] at q; cases q)]; exact q⟩
theorem Grow.setE73 {m:List Addr} {H:Hp} {d:Addr} {φ:Heap->Prop} {o:HO} (h:H d=some (.ext φ)) (hm:d ∈ m):Grow m H (QP H d o) :=
 ⟨fun b v hb q=>by rw [zq (show b ≠ d from fun z=>hb (by rw [z]; exact hm))]; exact q,fun b zs q=>by rw [zq (fun z=>by subst z; rw [h] at q; cases q)]; exact q,fun b u v q=>by rw [zq (fun z=>by subst z; rw [h] at q; cases q)]; exact q⟩
theorem Wu {cs:List Call72} {i x:Nat}:(List.range (i+1)).filter (Wa cs x)=(List.range i).filter (Wa cs x) ++ if (cg cs i).box=(x:Int) then [i] else []:=by
 rw [List.range_succ,List.filter_append]
 congr 1
 by_cases c:(cg cs i).box=(x:Int)
 ·rw [if_pos c,List.filter_cons,if_pos (decide_eq_true c)]; rfl
 ·rw [if_neg c,List.filter_cons,if_neg (by rw [decide_eq_true_eq]; exact c)]; rfl
theorem Wv {t n:Nat}:decide (V.int (Builtin.bitAnd ((t:Int) / 2 ^ ((n:Int)).toNat) 1)=V.int 0)=decide (t.testBit n=false):=by
 rw [VB,show (1:Int)=((1:Nat):Int) from rfl,Xu,Nat.and_one_is_mod,Nat.testBit_eq_decide_div_mod_eq]
 refine decide_eq_decide.mpr ⟨fun h=>?_,fun h=>?_⟩
 ·injection h with h
  rw [decide_eq_false_iff_not]; omega
 ·rw [decide_eq_false_iff_not] at h
  have:t / 2 ^ n % 2=0:=by omega
  rw [this]; rfl
theorem Ww {t M:Nat}:decide (V.int (Builtin.bitAnd (M:Int) (t:Int))=V.int (M:Int))=decide (M &&& t=M):=by
 rw [Xu]
 exact decide_eq_decide.mpr ⟨fun h=>by injection h with h; omega,fun h=>by rw [h]⟩
theorem V7 {t n:Nat}:Builtin.bitOr (t:Int) (1 * 2 ^ ((n:Int)).toNat)=((t ||| 2 ^ n:Nat):Int):=by rw [Tc,Su]
theorem Wx {vs:List Int} {i:Nat} {v:Int} (h:i < vs.length):(vs.map V.int).take i ++ [V.int v] ++ (vs.map V.int).drop (i+1)=(vs.set i v).map V.int:=by
 rw [← List.map_take,← List.map_drop,show [V.int v]=[v].map V.int from rfl,← List.map_append,← List.map_append,List.set_eq_take_append_cons_drop,if_pos h,List.append_assoc]; rfl
theorem Yn {cs:List Call72} {ms:List (Nat × Nat)} {E:List yU} {e:yU} {i j:Nat} (hi:i < E.length) (hj:j < ms.length):((ms.take j).foldl (yx cs e) ((E.take i).foldl (zY cs ms) [])).length < E.length * ms.length:=by
 have h1:=vA (cs:=cs) (ms:=ms) (E:=E.take i) (F:=[])
 have h2:=vz (cs:=cs) (e:=e) (ms:=ms.take j) (F:=(E.take i).foldl (zY cs ms) [])
 have h3:((ms.take j).foldl (yx cs e) ((E.take i).foldl (zY cs ms) [])).length<=((E.take i).foldl (zY cs ms) []).length+(ms.take j).length:=h2
 rw [List.length_take] at h1 h3
 have h4:(i+1) * ms.length<=E.length * ms.length:=Nat.mul_le_mul_right _ hi
 rw [Nat.min_eq_left (by omega)] at h1 h3
 rw [Nat.add_mul] at h4
 simp only [List.length_nil,Nat.zero_add] at h1
 omega
def RZ (σ:L2.St) (x y z u a b c:Option V):Prop:=∃ e7 e8 e9 e10 e11 e12 e13 e14 e15 e16:Option V,σ = [x,y,z,u,a,b,c,e7,e8,e9,e10,e11,e12,e13,e14,e15,e16]
structure Om73 (P:Program) (w:World) (K:QM) (H:Hp) (am ar d:Addr) (o:Obj) (ms:List (Nat × Nat)) (kvs:List ((Int × List Int) × Addr × V)) (F:List yU) (H':Hp):Prop where
 g:Grow [am,ar,d] H H'
 r:H' ar=some (.frz o (JW JT JU P w ar kvs))
 m:Rd H' am (.dK (y4 ms))
 d:∃ kvs',H' d=some (JW JT JU P w d kvs') /\ JX JT JU K H' kvs' /\ yV K H' kvs' F
theorem Om73.grow {P:Program} {w:World} {K:QM} {H H1 H2:Hp} {am ar d:Addr} {o:Obj} {ms:List (Nat × Nat)} {kvs:List ((Int × List Int) × Addr × V)} {F:List yU} (h:Om73 P w K H am ar d o ms kvs F H1) (g:Grow [] H1 H2):Om73 P w K H am ar d o ms kvs F H2:=by
 obtain ⟨kvs',h1,h2,h3⟩:=h.d
 exact ⟨h.g.trans g.wk,g.keep _ _ (by simp) h.r,h.m.imp (fun z=>g.keep _ _ (by simp) z) fun ⟨o,z⟩=>⟨o,g.keep _ _ (by simp) z⟩,kvs',g.keep _ _ (by simp) h1,h2.grow g,h3.grow g⟩
theorem Wy {cs:List Call72} {ms:List (Nat × Nat)} {b:List Int} {o:List Nat} {vs:List Int} (h:Run73 cs ms b o vs):vs.length=b.length:=by
 induction h with
 | nil=>rfl
 | snoc h hm hn hj ha ih=>unfold x9; rw [List.length_set,ih]
theorem V8 {cs:List Call72} {ms:List (Nat × Nat)} {b:List Int} {r:Nat} (hr:r<=40):∀ e ∈ wq cs ms b r,e.1.2.length=b.length /\ e.2.length<=40:=fun e he=>by
 obtain ⟨h1,_,h3⟩:=xF r e he
 exact ⟨Wy h3,by omega⟩
theorem Wz {n r:Nat} (h:n<=8) (hr:r<=8):n ^ r<=sizeLine:=by
 have h1:n ^ r<=8 ^ r:=Nat.pow_le_pow_left h r
 have h2:8 ^ r<=8 ^ 8:=Nat.pow_le_pow_right (by decide) hr
 rw [sizeLine_eq]
 exact Nat.le_trans (Nat.le_trans h1 h2) (by decide)
theorem WA {cs:List Call72} {ms:List (Nat × Nat)} {b:List Int} {r:Nat} (h:ms.length<=8) (hr:r < ms.length):(wq cs ms b r).length * ms.length<=sizeLine:=by
 have h1:=Nat.mul_le_mul_right ms.length (uv (cs:=cs) (ms:=ms) (b:=b) r)
 have h2:=Wz h (show r+1<=8 by omega)
 exact Nat.le_trans h1 h2
theorem Yo {cs:List Call72} {ms:List (Nat × Nat)} {b:List Int} (h:ms.length<=8):(wq cs ms b ms.length).length<=sizeLine:=Nat.le_trans (uv _) (Wz h h)
section
variable {X:Cx} {K:QM}
noncomputable def sF (q:List Int) (h:Heap):Value->Bool:=fun v=>@decide (∃ a us,v = .ref a /\ IsTup h a us /\ zP (q.map V.int) us.toList) (Classical.propDecidable _)
theorem tS:∀ {p q:List Int} {us:List Value},zP (p.map V.int) us->zP (q.map V.int) us->p=q
 | [],[],_,_,_=>rfl
 | [],_ :: _,_,.nil,h=>by cases h
 | _ :: _,[],_,h,.nil=>by cases h
 | a :: p,b :: q,_,.cons h1 t1,.cons h2 t2=>by
  obtain ⟨t,e⟩:=(show ∃ t,_=Value.int a t from h1)
  obtain ⟨t',e'⟩:=(show ∃ t,_=Value.int b t from h2)
  rw [e] at e'
  injection e' with e' _
  rw [e',tS t1 t2]
theorem ZB {p q:List Int} {h:Heap} {a:Addr} {us:Array Value} (t:IsTup h a us) (r:zP (p.map V.int) us.toList):sF q h (.ref a)=decide (p=q):=by
 unfold sF
 by_cases c:p=q
 ·rw [decide_eq_true c]
  exact @decide_eq_true _ (Classical.propDecidable _) ⟨a,us,rfl,t,c ▸ r⟩
 ·rw [decide_eq_false c]
  refine @decide_eq_false _ (Classical.propDecidable _) ?_
  rintro ⟨b,vs,e,t',r'⟩
  cases e
  obtain ⟨o,e1,_,n,e2⟩:=t
  obtain ⟨o',e1',_,n',e2'⟩:=t'
  rw [e1] at e1'
  cases e1'
  rw [e2] at e2'
  injection e2' with e3 _
  rw [← e3] at r'
  exact c (tS r r')
theorem WB {A:Around} {pins:List (Addr × Obj)} {σ:L2.St} {H:Hp} {s:Shared} (I:Inv X pins σ H s) {r:Addr} {q:List Int} (hr:A.units < cLine) (hx:Q1 X.K H r (q.map V.int)):∀ {ys:List V} {us:List Value} {l:List (List Int)},zP ys us->yP (zI X.K H) ys l →
  (∀ w ∈ us,SeqAt.EqAt A s w (.ref r) (sF q s.heap w)) /\ us.any (sF q s.heap)=decide (q ∈ l)
 | [],_,[],.nil,_=>⟨(fun w h=>by cases h),rfl⟩
 | y :: ys,_,p :: l,.cons ry rr,⟨⟨a,e,hs⟩,t⟩=>by
  obtain ⟨h1,h2⟩:=WB I hr hx rr t
  subst e
  cases ry
  obtain ⟨ws,r1,t1,_⟩:=I.tuple hs
  obtain ⟨vs,r2,t2,_⟩:=I.tuple hx
  have key:sF q s.heap (.ref a)=decide (p=q):=ZB t1 (by simpa using r1)
  refine ⟨fun w hw=>?_,?_⟩
  ·rcases List.mem_cons.mp hw with rfl | hw
   ·rw [key]
    by_cases c:a=r
    ·subst c
     have k2:sF q s.heap (.ref a)=decide (q=q):=ZB t2 (by simpa using r2)
     rw [← key,k2,decide_eq_true rfl]
     exact SeqAt.EqAt.same _
    ·refine SeqAt.EqAt.of_refs c ?_
     have z:=SeqAt.RcAt.tuples (A:=A) (ym t1) (ym t2) hr (Xe r1 r2 rH rH)
     rw [List.size_toArray,List.size_toArray,← r1.length,← r2.length,vq,wQ] at z
     exact z
   ·exact h1 w hw
  ·rw [List.any_cons,h2,key]
   by_cases c:p=q
   ·subst c; rw [decide_eq_true rfl,decide_eq_true (List.mem_cons_self ..)]; rfl
   ·rw [decide_eq_false c,Bool.false_or]
    by_cases d:q ∈ l
    ·rw [decide_eq_true d,decide_eq_true (List.mem_cons_of_mem _ d)]
    ·rw [decide_eq_false d,decide_eq_false fun z=>(List.mem_cons.mp z).elim (fun w=>c w.symm) d]
def SV (K:QM):R2:=fun x y H Q=>∃ (r p:Addr) (ys:List V) (q:List Int) (l:List (List Int)),x = .ref r /\ y = .ref p /\ Q1 K H r (q.map V.int) /\ Q0 K H p ys /\ yP (zI K H) ys l /\ Q (.bl (decide (q ∈ l))) H
theorem V9 {k:Nat} (hK:X.K=K) (hr:Room k X.A):Q8 X (compareOp .In) (SV K):=by
 subst hK
 intro pins s σ H x y v u Q I rx ry h
 obtain ⟨r,p,ys,q,l,rfl,rfl,hx,hq,ha,qq⟩:=h
 cases rx; cases ry
 obtain ⟨its,rv,pl,hz⟩:=I.list hq
 have key:=fun (A:Around) (h:A.units < cLine)=>WB (A:=A) I h hx rv ha
 refine SeqAt.in_listAt (sF q s.heap) pl.isList (fun w hw=>(key _ ?_).1 w (by simpa using hw)) ⟨.bl _,H,I,rfl,?_⟩
 ·have:=hr.un; show _ < _; simp; omega
 ·rw [show its.toArray.any (sF q s.heap)=its.any (sF q s.heap) by simp,(key X.A (by have:=hr.un; omega)).2]
  exact qq
end
theorem Yp {a b:List Nat} (h:(a.map fun k:Nat=>(k:Int))=b.map fun k:Nat=>(k:Int)):a=b:=List.map_inj_right (fun _ _ z=>Int.ofNat.inj z) |>.mp h
def sG (left:List Nat) (k:Nat):List Nat:=left.filter fun j=>!decide (j=k)
theorem v7:∀ {left:List Nat} {k:Nat},left.Nodup->k ∈ left->(sG left k).length+1=left.length
 | x :: r,k,nd,h=>by
  obtain ⟨nx,nd'⟩:=List.nodup_cons.mp nd
  unfold sG
  by_cases c:x=k
  ·subst c
   rw [List.filter_cons,if_neg (by simp)]
   have:r.filter (fun j=>!decide (j=x))=r:=List.filter_eq_self.mpr fun j hj=>by
    have:j ≠ x:=fun z=>nx (by rw [← z]; exact hj)
    simp [this]
   rw [this]; rfl
  ·have hk:k ∈ r:=(List.mem_cons.mp h).resolve_left fun z=>c z.symm
   rw [List.filter_cons,if_pos (by simp [c])]
   have:=v7 nd' hk
   unfold sG at this
   rw [List.length_cons,List.length_cons]; omega
theorem v8 {left:List Nat} {k j:Nat}:j ∈ sG left k ↔ j ∈ left /\ j ≠ k:=by
 unfold sG
 rw [List.mem_filter]
 simp
theorem tT {left:List Nat} {k:Nat} (h:left.Nodup):(sG left k).Nodup:=h.sublist List.filter_sublist
def qr:Nat->Nat
 | 0=>0
 | n+1=>1+(n+1) * qr n
theorem Tx {n:Nat} (h:n<=8):qr n<=200000:=by
 have key:∀ n:Fin 9,qr n.val<=200000:=by decide +kernel
 exact key ⟨n,by omega⟩
theorem jp {cs:List Call72} {i:Nat} {c:Call72} (h:i < cs.length):(cs.take i ++ [c] ++ cs.drop (i+1)).length=cs.length:=by
 rw [List.length_append,List.length_append,List.length_singleton,List.length_take,List.length_drop]; omega
theorem vB {K:QM} {H:Hp}:∀ (ns:List Nat),DqAll K H (ns.map fun k:Nat=>V.int (k:Int)) (ns.map fun k:Nat=>PyData.int (k:Int))
 | []=>.nil
 | k :: ns=>.cons (.int _) (vB ns)
section
variable {bef:Nat->Nat->Bool}
def w5 (bef:Nat->Nat->Bool) (ns:List Nat):List (Nat × Nat):=ns.map fun n=>(n,Va (ns.filter fun j=>bef j n))
theorem uE {ns:List Nat}:(w5 bef ns).map (·.1)=ns:=by
 unfold w5
 rw [List.map_map]
 conv=>rhs; rw [← List.map_id ns]
 rfl
theorem w6 {ns:List Nat}:(w5 bef ns).length=ns.length:=List.length_map ..
theorem WC {cs:List Call72} {ns:List Nat} {b:List Int} {o:List Nat} {vs:List Int} (h:Run73 cs (w5 bef ns) b o vs):∀ k ∈ o,∀ j ∈ ns,bef j k=true->j ∈ o:=by
 induction h with
 | nil=>exact nofun
 | @snoc o vs n M h hm hn hj ha ih =>
  intro k hk j hjn lt
  rcases List.mem_append.mp hk with z | z
  ·exact List.mem_append_left _ (ih k z j hjn lt)
  ·have ek:=List.mem_singleton.mp z
   subst ek
   obtain ⟨n',_,e⟩:=List.mem_map.mp hm
   injection e with e1 e2
   subst e1
   refine List.mem_append_left _ (hj j ?_)
   rw [← e2]
   exact (X2 _ j).mpr (List.mem_filter.mpr ⟨hjn,lt⟩)
theorem Ua {cs:List Call72} {ns:List Nat} {b:List Int} {o:List Nat} {vs:List Int} (h:Run73 cs (w5 bef ns) b o vs):o.Pairwise (fun k j=>¬ bef j k=true):=by
 induction h with
 | nil=>exact .nil
 | @snoc o vs n M h hm hn hj ha ih =>
  refine List.pairwise_append.mpr ⟨ih,by simp,fun k hk j hj' lt=>?_⟩
  rw [List.mem_singleton.mp hj'] at lt
  have hns:n ∈ ns:=by
   have:n ∈ (w5 bef ns).map (·.1):=List.mem_map.mpr ⟨_,hm,rfl⟩
   rwa [uE] at this
  exact hn (WC h k hk n hns lt)
theorem tU {cs:List Call72} {ns:List Nat} {b:List Int} (irr:∀ k,bef k k=false):∀ {r p:List Nat} {vs:List Int},(∀ x,x ∈ p ++ r ↔ x ∈ ns)->(p ++ r).Nodup->Run73 cs (w5 bef ns) b p vs->r.Pairwise (fun k j=>¬ bef j k=true)->sY cs vs r=true →
  ∃ ws,Run73 cs (w5 bef ns) b (p ++ r) ws
 | [],p,vs,_,_,h,_,_=>⟨vs,by rw [List.append_nil]; exact h⟩
 | n :: r,p,vs,hm,nd,h,hk,ha=>by
  have hk':=List.pairwise_cons.mp hk
  have hns:n ∈ ns:=(hm n).mp (by simp)
  rw [vw] at ha
  have hv:vs.getD (cg cs n).box.toNat 0=(cg cs n).answer:=by
   by_cases c:vs.getD (cg cs n).box.toNat 0=(cg cs n).answer
   ·exact c
   ·rw [if_neg c] at ha; cases ha
  rw [if_pos hv] at ha
  have np:n ∉ p:=fun z=>(List.nodup_append.mp nd).2.2 n z n (by simp) rfl
  have e:p ++ n :: r=(p ++ [n]) ++ r:=by rw [List.append_assoc]; rfl
  rw [e] at hm nd ⊢
  refine tU irr hm nd (.snoc h (List.mem_map.mpr ⟨n,hns,rfl⟩) np (fun j hj=>?_) hv) hk'.2 ha
  obtain ⟨j1,j2⟩:=List.mem_filter.mp ((X2 _ j).mp hj)
  rcases List.mem_append.mp ((hm j).mpr j1) with z | z
  ·rcases List.mem_append.mp z with z | z
   ·exact z
   ·rw [List.mem_singleton.mp z,irr] at j2; cases j2
  ·exact absurd j2 (hk'.1 j z)
end
def zE (cs:List Call72) (j n:Nat):Bool:=decide ((cg cs j).hand=(cg cs n).hand) && decide ((cg cs j).begun < (cg cs n).begun)
def vC (cs:List Call72):List Nat->Bool
 | []=>true
 | k :: r=>!(r.any fun j=>zE cs j k) && vC cs r
theorem wa {cs:List Call72}:∀ {o:List Nat},vC cs o=true ↔ o.Pairwise (fun k j=>¬ zE cs j k=true)
 | []=>by simp [vC]
 | k :: r=>by
  show (!(r.any fun j=>zE cs j k) && vC cs r)=true ↔ _
  rw [Bool.and_eq_true,List.pairwise_cons,wa,Bool.not_eq_true',List.any_eq_false]
def uX (b:List Int) (cs:List Call72) (ns:List Nat):Prop:=ns.Perm (List.range cs.length) /\ vC cs ns=true /\ sY cs b ns=true
def wx (cs:List Call72) (b:List Int):Option (List Nat):=jj cs (w5 (zE cs) (List.range cs.length)) b
theorem vD {cs:List Call72} (k:Nat):zE cs k k=false:=by
 unfold zE
 rw [decide_eq_false (p:=(cg cs k).begun < (cg cs k).begun) (by omega),Bool.and_false]
theorem uF {cs:List Call72} {b:List Int} {o:List Nat} (h:wx cs b=some o):uX b cs o:=by
 obtain ⟨vs,hr,hl⟩:=Yg h
 have:=hr.perm hl
 rw [uE] at this
 exact ⟨this,wa.mpr (Ua hr),VM hr⟩
theorem jq {cs:List Call72} {b:List Int} (h:wx cs b=none) {o:List Nat} (hs:uX b cs o):False:=by
 obtain ⟨h1,h2,h3⟩:=hs
 obtain ⟨ws,hr⟩:=tU (cs:=cs) (ns:=List.range cs.length) (b:=b) vD (r:=o) (p:=[]) (vs:=b) (fun x=>h1.mem_iff) (h1.nodup_iff.mpr List.nodup_range) .nil (wa.mp h2) h3
 exact Yh h hr (by rw [List.nil_append,w6]; exact h1.length_eq)
def wu (cs:List Call72):List Nat->Int->Option Int
 | [],_=>none
 | k :: r,h=>match wu cs r h with
  | some v=>some v
  | none=>if (cg cs k).hand=h then some (cg cs k).begun else none
theorem tV {cs:List Call72} {h:Int} {k:Nat}:∀ {o:List Nat},wu cs (o ++ [k]) h=if (cg cs k).hand=h then some (cg cs k).begun else wu cs o h
 | []=>rfl
 | j :: o=>by
  show (match wu cs (o ++ [k]) h with | some v=>some v | none=>if (cg cs j).hand=h then some (cg cs j).begun else none)=_
  rw [tV]
  by_cases c:(cg cs k).hand=h
  ·rw [if_pos c,if_pos c]
  ·rw [if_neg c,if_neg c]; rfl
theorem WD {cs:List Call72} {k:Nat} {o:List Nat} (h:vC cs o=true) (b0:0<=(cg cs k).begun) (hb:∀ j ∈ o,0<=(cg cs j).begun):vC cs (o ++ [k]) = !decide ((wu cs o (cg cs k).hand).getD 0 > (cg cs k).begun):=by
 have key:∀ {o:List Nat},vC cs o=true->(∀ j ∈ o,0<=(cg cs j).begun)->(∀ j ∈ o,(cg cs j).hand=(cg cs k).hand->(cg cs j).begun<=(wu cs o (cg cs k).hand).getD 0) /\ (wu cs o (cg cs k).hand=none \/ ∃ j ∈ o,(cg cs j).hand=(cg cs k).hand /\ wu cs o (cg cs k).hand=some (cg cs j).begun):=by
  intro o
  induction o with
  | nil=>intro _ _; exact ⟨nofun,.inl rfl⟩
  | cons j o ih =>
   intro h hb
   have h':(!(o.any fun i=>zE cs i j) && vC cs o)=true:=h
   rw [Bool.and_eq_true,Bool.not_eq_true',List.any_eq_false] at h'
   obtain ⟨i1,i2⟩:=ih h'.2 fun i hi=>hb i (List.mem_cons_of_mem _ hi)
   have e:wu cs (j :: o) (cg cs k).hand=match wu cs o (cg cs k).hand with | some v=>some v | none=>if (cg cs j).hand=(cg cs k).hand then some (cg cs j).begun else none:=rfl
   rcases i2 with n | ⟨i,hi,hh,hv⟩
   ·rw [n] at e i1
    have e':wu cs (j :: o) (cg cs k).hand=if (cg cs j).hand=(cg cs k).hand then some (cg cs j).begun else none:=e
    by_cases c:(cg cs j).hand=(cg cs k).hand
    ·rw [if_pos c] at e'
     rw [e']
     refine ⟨fun i hi hc=>?_,.inr ⟨j,List.mem_cons_self ..,c,rfl⟩⟩
     rcases List.mem_cons.mp hi with rfl | hi
     ·exact Int.le_refl _
     ·have z1:=i1 i hi hc
      have z2:=hb i (List.mem_cons_of_mem _ hi)
      have z3:=hb j (List.mem_cons_self ..)
      have z4:(none:Option Int).getD 0=0:=rfl
      rw [z4] at z1
      show (cg cs i).begun<=(cg cs j).begun
      omega
    ·rw [if_neg c] at e'
     rw [e']
     refine ⟨fun i hi hc=>?_,.inl rfl⟩
     rcases List.mem_cons.mp hi with rfl | hi
     ·exact absurd hc c
     ·exact i1 i hi hc
   ·rw [hv] at e i1
    have e':wu cs (j :: o) (cg cs k).hand=some (cg cs i).begun:=e
    rw [e']
    refine ⟨fun l hl hc=>?_,.inr ⟨i,List.mem_cons_of_mem _ hi,hh,rfl⟩⟩
    rcases List.mem_cons.mp hl with rfl | hl
    ·have:=h'.1 i hi
     unfold zE at this
     rw [Bool.and_eq_true,decide_eq_true_eq,decide_eq_true_eq] at this
     show (cg cs l).begun<=(cg cs i).begun
     have:¬ (cg cs i).begun < (cg cs l).begun:=fun z=>this ⟨by rw [hh,hc],z⟩
     omega
    ·exact i1 l hl hc
 obtain ⟨k1,k2⟩:=key h hb
 rw [Bool.eq_iff_iff,wa,List.pairwise_append,Bool.not_eq_true',decide_eq_false_iff_not]
 constructor
 ·rintro ⟨_,_,h3⟩ lt
  rcases k2 with n | ⟨j,hj,hh,hv⟩
  ·rw [n] at lt
   have:(none:Option Int).getD 0=0:=rfl
   omega
  ·rw [hv] at lt
   have lt':(cg cs j).begun > (cg cs k).begun:=lt
   refine h3 j hj k (List.mem_singleton.mpr rfl) ?_
   unfold zE
   rw [Bool.and_eq_true,decide_eq_true_eq,decide_eq_true_eq]
   exact ⟨hh.symm,lt'⟩
 ·intro le
  refine ⟨wa.mp h,by simp,fun j hj k' hk' bf=>?_⟩
  rw [List.mem_singleton.mp hk'] at bf
  unfold zE at bf
  rw [Bool.and_eq_true,decide_eq_true_eq,decide_eq_true_eq] at bf
  have:=k1 j hj bf.1.symm
  omega
theorem Ub {cs:List Call72} {o r:List Nat} (h:vC cs (o ++ r)=true):vC cs o=true:=wa.mpr (List.pairwise_append.mp (wa.mp h)).1
theorem jr {X:Cx} {K:QM} {k:Nat} (hK:X.K=K) (hr:Room k X.A):Q8 X (compareOp .NotEq) (fun x y H Q=>∃ a b xs,x = .ref a /\ y = .ref b /\ Q1 K H a xs /\ Q1 K H b [] /\ Q (.bl (!xs.isEmpty)) H):=by
 subst hK
 intro pins s σ H x y v u Q I rx ry h
 obtain ⟨a,b,xs,rfl,rfl,ha,hb,q⟩:=h
 cases rx; cases ry
 obtain ⟨us,r1,t1,_⟩:=I.tuple ha
 obtain ⟨ws,r2,t2,_⟩:=I.tuple hb
 have hw:ws.length=0:=r2.length.symm
 refine SeqAt.RcNeAt.tuples (e:=fun _=>true) (ym t1) (ym t2) hr.units0 (fun j h1 h2=>absurd h2 (by simp; omega)) _ _ _ _ ?_
 rw [wU,Bool.true_and,List.size_toArray,List.size_toArray,hw,← r1.length]
 have e:(xs.length == 0)=xs.isEmpty:=by cases xs <;> rfl
 rw [e]
 exact ⟨.bl (!xs.isEmpty),H,I,rfl,q⟩
theorem vO {α:Type}:∀ {l:List α} {j:Nat} (h:j < l.length),(l[j] :: l.eraseIdx j).Perm l
 | [],_,h=>absurd h (by simp)
 | a :: l,0,_=>List.Perm.refl _
 | a :: l,j+1,h=>(List.Perm.swap a _ _).trans ((vO (l:=l) (j:=j) (by simpa using h)).cons a)
theorem Yq {β:Type} {R:V -> β -> Prop} {zs xs:List V} (h:zs.Perm xs):∀ {ks:List β},yP R xs ks -> ∃ ks':List β,ks'.Perm ks /\ yP R zs ks':=by
 induction h with
 | nil=>intro ks a; cases ks with
  | nil=>exact ⟨[],List.Perm.refl _,trivial⟩
  | cons k ks=>exact a.elim
 | cons x _ ih=>intro ks a; cases ks with
  | nil=>exact a.elim
  | cons k ks =>
   obtain ⟨ks',h1,h2⟩:=ih a.2
   exact ⟨k :: ks',h1.cons k,a.1,h2⟩
 | swap x y l=>intro ks a; cases ks with
  | nil=>exact a.elim
  | cons k ks=>cases ks with
   | nil=>exact a.2.elim
   | cons k2 ks=>exact ⟨k2 :: k :: ks,List.Perm.swap ..,a.2.1,a.1,a.2.2⟩
 | trans _ _ ih1 ih2 =>
  intro ks a
  obtain ⟨k1,p1,a1⟩:=ih2 a
  obtain ⟨k2,p2,a2⟩:=ih1 a1
  exact ⟨k2,p2.trans p1,a2⟩
theorem uG {zs:List V} {ns:List Nat} (h:zs.Perm (zy ns)):∃ ms:List Nat,ms.Perm ns /\ zs=zy ms:=by
 have a0:∀ ns:List Nat,yP (fun (v:V) (k:Nat)=>v = .int k) (zy ns) ns:=fun ns=>by
  induction ns with
  | nil=>trivial
  | cons k ns ih=>exact ⟨rfl,ih⟩
 obtain ⟨ms,h1,h2⟩:=Yq h (a0 ns)
 refine ⟨ms,h1,?_⟩
 clear h h1 a0
 induction zs generalizing ms with
 | nil=>cases ms with
  | nil=>rfl
  | cons k ms=>exact h2.elim
 | cons z zs ih=>cases ms with
  | nil=>exact h2.elim
  | cons k ms=>rw [h2.1,ih ms h2.2]; rfl
def uH (K:QM):Sp:=Jy fun x y H Q=>∃ (p:Addr) (xs:List V),x = .ref p /\ JA H p /\ (∃ r,y = .ref r /\ (Q0 K H r xs \/ Q1 K H r xs)) /\ xs.length<=40 /\ ∀ l zs H',zs.Perm xs->Grow [p] H H' -> JA H' p->H l=none->l ≠ p->H' l=some (.lst zs)->Q (.ref l) H'
def yB (cs:List Call72):Prop:=∀ i j,i < cs.length->j < cs.length->(cg cs i).hand=(cg cs j).hand->(cg cs i).begun=(cg cs j).begun->i=j
def WE (K:QM):Sp:=Jy fun x y H Q=>∃ cs o,zx K H x cs /\ (∀ c ∈ cs,0<=c.begun) /\ xB K H y o /\ (∀ k ∈ o,k < cs.length) /\ o.length<=40 /\ ∀ H',Grow [] H H' -> Q (.bl (vC cs o)) H'
def vP (b:List Int) (cs:List Call72) (d:PyData):Prop:=∃ ns,yR cs.length d ns /\ vC cs ns=true /\ sY cs b ns=true
theorem vE {b:List Int} {cs:List Call72} {ns:List Nat}:vP b cs (.tuple (ns.map fun k:Nat=>PyData.int (k:Int))) ↔ uX b cs ns:=by
 constructor
 ·rintro ⟨ms,⟨e,hp⟩,h1,h2⟩
  injection e with e
  rw [wA e]
  exact ⟨hp,h1,h2⟩
 ·rintro ⟨h1,h2,h3⟩
  exact ⟨ns,⟨rfl,h1⟩,h2,h3⟩
def WF (K:QM):Sp:=Jx fun x H Q=>∃ cs,zx K H x cs /\ cs.length<=40 /\ ∀ d H',H d=none->Grow [] H H' -> H' d=some (.dK (y4 (w5 (zE cs) (List.range cs.length))))->Q (.ref d) H'
def uY (xs:Array Nat):Prop:=∀ i j (h:j < xs.size) (ij:i < j),xs[i] < xs[j]
theorem sH {xs:Array Nat} {j:Nat} (hr:uY xs):∀ (fuel lo hi:Nat),hi - lo<=fuel->lo<=hi->hi<=xs.size->(∀ i (h:i < xs.size),i < lo->xs[i] < j)->(∀ i (h:i < xs.size),hi<=i->j<=xs[i]) →
  SetTable.below.go xs j fuel lo hi<=xs.size /\ (∀ i (h:i < xs.size),i < SetTable.below.go xs j fuel lo hi->xs[i] < j) /\ (∀ i (h:i < xs.size),SetTable.below.go xs j fuel lo hi<=i->j<=xs[i])
 | 0,lo,hi,hf,hl,hs,h1,h2=>by
  unfold SetTable.below.go
  exact ⟨by omega,h1,fun i h hi'=>h2 i h (by omega)⟩
 | fuel+1,lo,hi,hf,hl,hs,h1,h2=>by
  unfold SetTable.below.go
  split
  ·rename_i hlt
   have hm:(lo+hi) / 2 < xs.size:=by omega
   simp only [Array.getD,hm,dite_true]
   split
   ·rename_i hv
    refine sH hr fuel _ _ (by omega) (by omega) hs (fun i h hi'=>?_) h2
    rcases Nat.lt_or_eq_of_le (Nat.lt_succ_iff.mp hi') with z | z
    ·exact Nat.lt_trans (hr i _ hm z) hv
    ·subst z; exact hv
   ·rename_i hv
    refine sH hr fuel _ _ (by omega) (by omega) (by omega) h1 (fun i h hi'=>?_)
    rcases Nat.lt_or_eq_of_le hi' with z | z
    ·exact Nat.le_trans (Nat.le_of_not_lt hv) (Nat.le_of_lt (hr _ i h z))
    ·subst z; exact Nat.le_of_not_lt hv
  ·exact ⟨by omega,h1,fun i h hi'=>h2 i h (by omega)⟩
theorem WG {xs:Array Nat} (hr:uY xs) (j:Nat):SetTable.below xs j<=xs.size /\ (∀ i (h:i < xs.size),i < SetTable.below xs j->xs[i] < j) /\ (∀ i (h:i < xs.size),SetTable.below xs j<=i->j<=xs[i]) :=
 sH hr _ _ _ (by omega) (by omega) (Nat.le_refl _) (fun i _ z=>absurd z (by omega)) (fun i h z=>absurd z (by omega))
theorem uI {xs:Array Nat}:uY xs ↔ xs.toList.Pairwise (· < ·):=by
 rw [List.pairwise_iff_getElem]
 constructor
 ·intro h i j hi hj ij
  simpa using h i j (by simpa using hj) ij
 ·intro h i j hj ij
  have hj2:j < xs.toList.length:=by rw [Array.length_toList]; exact hj
  exact h i j (Nat.lt_trans ij hj2) hj2 ij
def SW (t:SetTable) (j:Nat):Prop:=t.place[SetTable.below t.place j]? ≠ some j
theorem Yr {t:SetTable} {j:Nat} (h:t.slot j = .empty):SW t j:=fun z=>by
 unfold SetTable.slot at h; simp [z] at h
theorem Uc {t:SetTable} {j:Nat} (hr:uY t.place) (hf:SW t j):uY (t.put j).1.place:=by
 obtain ⟨b1,b2,b3⟩:=WG hr j
 rw [uI]
 show (SetTable.insertAt t.place (SetTable.below t.place j) j).toList.Pairwise (· < ·)
 rw [SetTable.toList_insertAt,List.pairwise_append]
 have pw:=uI.mp hr
 refine ⟨pw.sublist (List.take_sublist _ _),?_,?_⟩
 ·rw [List.pairwise_cons]
  refine ⟨fun a ha=>?_,pw.sublist (List.drop_sublist _ _)⟩
  obtain ⟨i,hi,e⟩:=List.mem_iff_getElem.mp ha
  rw [List.getElem_drop] at e
  rw [List.length_drop] at hi
  have hi2:SetTable.below t.place j+i < t.place.size:=by rw [Array.length_toList] at hi; omega
  have e2:t.place[SetTable.below t.place j+i]=a:=by simpa using e
  have h0:SetTable.below t.place j < t.place.size:=by omega
  have p0:j < t.place[SetTable.below t.place j]:=by
   have:=b3 _ h0 (Nat.le_refl _)
   rcases Nat.lt_or_eq_of_le this with z | z
   ·exact z
   ·exact absurd (by rw [Array.getElem?_eq_getElem h0,← z]) hf
  rcases Nat.eq_zero_or_pos i with z | z
  ·subst z; rw [← e2]; exact p0
  ·rw [← e2]; exact Nat.lt_trans p0 (hr _ _ hi2 (by omega))
 ·intro a ha b hb
  obtain ⟨i,hi,e⟩:=List.mem_iff_getElem.mp ha
  rw [List.getElem_take] at e
  rw [List.length_take,Array.length_toList] at hi
  have a1:a < j:=by rw [← e]; simpa using b2 i (by omega) (by omega)
  rcases List.mem_cons.mp hb with z | z
  ·rw [z]; exact a1
  ·obtain ⟨i2,hi2,e2⟩:=List.mem_iff_getElem.mp z
   rw [List.getElem_drop] at e2
   rw [List.length_drop,Array.length_toList] at hi2
   have:=b3 (SetTable.below t.place j+i2) (by omega) (by omega)
   rw [← e2]; exact Nat.lt_of_lt_of_le a1 (by simpa using this)
section
variable {prog:Program} {w:World} {A:Around} {E:QN} {s:Shared}
theorem Ty (a:Value) {Q₁:QN}
  (h:Q₁ (.ref s.heap.objs.size) { s with heap:=s.heap.push { cls:=.type "set",dict:=none,data:=.set #[] 0 (.fresh 0 0 (!w.params.followText "set-order")) } }) :
  codeAny (model prog w) A (.call (.builtin "set.__new__") ⟨[.type "set",a],[]⟩) (wants Q₁ E) s:=by
 refine codeAny_of_tree ?_
 show wpAny _ A.in1 (do checkBuiltinCall "set.__new__" ⟨[.type "set",a],[]⟩; again (.builtin "set.__new__" ⟨[.type "set",a],[]⟩)) _ _ s
 refine wpAny_bind (wpAny_of_eq (PySem.F.newCall_set_1 a) (wpAny_pure ⟨plainId_quiet PySem.F.plain_set_new _,codeAny_builtin PySem.F.entry_set_new ?_⟩))
 rw [Around.under_plainId PySem.F.plain_set_new _]
 unfold Builtin.«set.__new__» Builtin.Frozenset.newClass
 have hsub:=sub_set_self
 obtain ⟨hp,g,d,tk,os⟩:=s
 dsimp only
 wp_walk
 refine wpAny_askSetting (wpAny_pure ?_)
 dsimp only
 simp only [newObj]
 exact wpAny_bind (wpAny_alloc (wpAny_pure (wpAny_pure h)))
end
def itP {α:Type} (f:α -> α):Nat -> α -> α
 | 0,x=>x
 | n+1,x=>itP f n (f x)
theorem yN {α:Type} {f:α -> α}:∀ {a b:Nat} {x:α},itP f (a+b) x=itP f b (itP f a x)
 | 0,b,x=>by rw [Nat.zero_add]; rfl
 | a+1,b,x=>by
  rw [show a+1+b=(a+b)+1 from by omega]
  show itP f (a+b) (f x)=itP f b (itP f a (f x))
  exact yN
def lpP (m:Nat) (x:Nat × Nat):Nat × Nat:=SetTable.leap m x.1 x.2
theorem WH {m:Nat}:∀ {n:Nat} {x:Nat × Nat},(itP (lpP m) n x).2=x.2 / 32 ^ n
 | 0,x=>by show x.2=x.2 / 1; rw [Nat.div_one]
 | n+1,x=>by
  show (itP (lpP m) n (lpP m x)).2=_
  rw [WH]
  show x.2 / 32 / 32 ^ n=_
  rw [Nat.div_div_eq_div_mul,Nat.pow_succ,Nat.mul_comm]
theorem SX {m:Nat} {n:Nat} {x:Nat × Nat} (h:0 < n):(itP (lpP m) n x).1<=m:=by
 obtain ⟨n,rfl⟩:∃ k,n=k+1:=⟨n - 1,by omega⟩
 rw [yN]
 show (SetTable.leap m (itP (lpP m) n x).1 (itP (lpP m) n x).2).1<=m
 unfold SetTable.leap
 exact Nat.le_of_lt_succ (Nat.mod_lt _ (Nat.succ_pos m))
def vF (m:Nat):Prop:=m=7 \/ m=31 \/ m=127
theorem Tz (m:Nat) (h:vF m):(∀ i,i < m+1 -> ∃ a,a < m+1 /\ (itP (lpP m) a (0,0)).1=i) /\ itP (lpP m) (m+1) (0,0)=(0,0):=by
 rcases h with rfl | rfl | rfl
 ·decide +kernel
 ·decide +kernel
 ·decide +kernel
theorem SY {m:Nat} (h:vF m) {i t:Nat} (hi:i<=m) (ht:t<=m):∃ k,k<=m /\ (itP (lpP m) k (i,0)).1=t:=by
 obtain ⟨h1,h2⟩:=Tz m h
 obtain ⟨a,a1,a2⟩:=h1 i (by omega)
 obtain ⟨b,b1,b2⟩:=h1 t (by omega)
 have e:itP (lpP m) a (0,0)=(i,0):=Prod.ext a2 (by rw [WH]; exact Nat.zero_div _)
 by_cases c:a<=b
 ·refine ⟨b - a,by omega,?_⟩
  rw [← e,← yN,show a+(b - a)=b by omega]
  exact b2
 ·refine ⟨m+1 - a+b,by omega,?_⟩
  rw [← e,← yN,show a+(m+1 - a+b)=m+1+b by omega,yN,h2]
  exact b2
theorem qt {m:Nat} (h:vF m) {i p t:Nat} (hp:p < 2 ^ 64) (ht:t<=m):∃ L,L<=13+m /\ (itP (lpP m) L (i,p)).1=t:=by
 have e:itP (lpP m) 13 (i,p)=((itP (lpP m) 13 (i,p)).1,0):=Prod.ext rfl (by rw [WH]; exact Nat.div_eq_of_lt (Nat.lt_trans hp (by decide)))
 obtain ⟨k,k1,k2⟩:=SY h (SX (m:=m) (n:=13) (x:=(i,p)) (by decide)) ht
 refine ⟨13+k,by omega,?_⟩
 rw [yN,e]
 exact k2
theorem WI {m i:Nat}:SetTable.runEnd m i - i<=9:=by
 unfold SetTable.runEnd; split <;> omega
theorem vG {t:SetTable}:∀ (c:Nat) (p:SetTable.Probe),p.more=c -> ∃ q,itP t.advance (c+1) p=q /\ (q.i,q.perturb)=lpP t.mask (p.i,p.perturb) /\ q.j=q.i /\ q.more<=9 /\ q.dummy=p.dummy
 | 0,p,h=>by
  refine ⟨t.advance p,rfl,?_⟩
  have e:t.advance p = { p with j:=(SetTable.leap t.mask p.i p.perturb).1,more:=SetTable.runEnd t.mask (SetTable.leap t.mask p.i p.perturb).1 - (SetTable.leap t.mask p.i p.perturb).1,i:=(SetTable.leap t.mask p.i p.perturb).1,perturb:=(SetTable.leap t.mask p.i p.perturb).2 }:=by
   unfold SetTable.advance
   rw [if_neg (by omega)]
  rw [e]
  exact ⟨rfl,rfl,WI,rfl⟩
 | c+1,p,h=>by
  have e:t.advance p = { p with j:=p.j+1,more:=p.more - 1 }:=by
   unfold SetTable.advance
   rw [if_pos (by omega)]
  obtain ⟨q,q1,q2,q3,q4,q5⟩:=vG c (t.advance p) (by rw [e]; show p.more - 1=c; omega)
  refine ⟨q,q1,?_,q3,q4,?_⟩
  ·rw [q2,e]
  ·rw [q5,e]
theorem uJ {t:SetTable}:∀ (L:Nat) (p:SetTable.Probe),p.more<=9->p.j=p.i -> ∃ n q,n<=10 * L /\ itP t.advance n p=q /\ q.j=(itP (lpP t.mask) L (p.i,p.perturb)).1
 | 0,p,h,e=>⟨0,p,Nat.le_refl _,rfl,e⟩
 | L+1,p,h,e=>by
  obtain ⟨q,q1,q2,q3,q4,q5⟩:=vG (t:=t) p.more p rfl
  obtain ⟨n,r,n1,n2,n3⟩:=uJ (t:=t) L q q4 q3
  refine ⟨p.more+1+n,r,by omega,?_,?_⟩
  ·rw [yN,q1]; exact n2
  ·rw [n3,q2]; rfl
def Vb (t:SetTable) (N:Nat) (p:SetTable.Probe):Prop:=∃ n,n < N /\ t.slot (itP t.advance n p).j = .empty
theorem Ud {t:SetTable} (hd:t.dummies = #[]) {j:Nat} (h:j ∉ t.place.toList):t.slot j = .empty:=by
 unfold SetTable.slot
 dsimp only
 rw [if_neg,if_neg]
 ·unfold SetTable.has; rw [hd]; simp
 ·intro e
  rw [beq_iff_eq] at e
  exact h (by have:=Array.mem_of_getElem? e; exact Array.mem_toList_iff.mpr this)
theorem ZC {t:SetTable} (hd:t.dummies = #[]) {j:Nat}:t.slot j ≠ .dummy:=by
 unfold SetTable.slot
 dsimp only
 split
 ·intro z; cases z
 ·rw [if_neg]
  ·intro z; cases z
  ·unfold SetTable.has; rw [hd]; simp
theorem w9 {t:SetTable} {j i:Nat} (h:t.slot j = .live i):t.place[i]? = some j:=by
 unfold SetTable.slot at h
 dsimp only at h
 split at h
 ·rename_i e
  cases h
  exact eq_of_beq e
 ·split at h <;> cases h
theorem SZ {l:List Nat}:∀ {m:Nat},l.length<=m -> ∃ j,j<=m /\ j ∉ l:=by
 intro m h
 apply Classical.byContradiction
 intro z
 have h1:∀ j ∈ List.range (m+1),j ∈ l:=fun j hj=>Classical.byContradiction fun w=>z ⟨j,by have:=List.mem_range.mp hj; omega,w⟩
 have:=(List.nodup_range (n:=m+1)).length_le_of_subset h1
 rw [List.length_range] at this
 omega
theorem Ue {t:SetTable} (hm:vF t.mask) (hd:t.dummies = #[]) (hf:t.place.size<=t.mask) (h:Int):Vb t (10 * SetTable.turns t.mask) (t.probeStart h):=by
 obtain ⟨j,j1,j2⟩:=SZ (l:=t.place.toList) (m:=t.mask) (by rw [Array.length_toList]; exact hf)
 have hb:SetTable.bits h < 2 ^ 64:=by
  unfold SetTable.bits
  have h1:=Int.emod_nonneg h (b:=(2:Int) ^ 64) (by decide)
  have h2:=Int.emod_lt_of_pos h (b:=(2:Int) ^ 64) (by decide)
  omega
 obtain ⟨L,l1,l2⟩:=qt hm (i:=SetTable.bits h % (t.mask+1)) hb j1
 obtain ⟨n,q,n1,n2,n3⟩:=uJ (t:=t) L (t.probeStart h) (by show SetTable.runEnd _ _ - _<=9; exact WI) rfl
 refine ⟨n,?_,?_⟩
 ·have e:SetTable.turns t.mask=t.mask+15:=rfl
  rw [e]; omega
 ·rw [n2,n3]
  show t.slot (itP (lpP t.mask) L (SetTable.bits h % (t.mask+1),SetTable.bits h)).1=_
  rw [l2]
  exact Ud hd j2
theorem va {t:SetTable} {p:SetTable.Probe}:(t.advance p).dummy=p.dummy:=by
 unfold SetTable.advance; split <;> rfl
theorem UQ {t:SetTable} {ha:Nat->Int} {h:Int} (hd:t.dummies = #[]):∀ (fuel:Nat) (p:SetTable.Probe),p.dummy=none->Vb t fuel p →
  (∃ j,SetTable.probe.go t ha h fuel p=some (.empty j none)) \/ ∃ (q:SetTable.Probe) (i N:Nat),N < fuel /\ SetTable.probe.go t ha h fuel p=some (.candidate q.j i (t.advance q)) /\ t.slot q.j = .live i /\ (t.advance q).dummy=none /\ Vb t N (t.advance q)
 | 0,p,_,⟨n,hn,_⟩=>absurd hn (Nat.not_lt_zero _)
 | fuel+1,p,hp,⟨n,hn,hs⟩=>by
  unfold SetTable.probe.go
  cases e:t.slot p.j with
  | empty=>exact .inl ⟨p.j,by rw [hp]⟩
  | dummy=>exact absurd e (ZC hd)
  | live i =>
   have nx:Vb t fuel (t.advance p):=by
    cases n with
    | zero=>rw [show itP t.advance 0 p=p from rfl,e] at hs; cases hs
    | succ n=>exact ⟨n,by omega,hs⟩
   dsimp only
   split
   ·exact .inr ⟨p,i,fuel,Nat.lt_succ_self _,rfl,e,by rw [va]; exact hp,nx⟩
   ·rcases UQ hd fuel (t.advance p) (by rw [va]; exact hp) nx with z | ⟨q,i',N,h1,h2⟩
    ·exact .inl z
    ·exact .inr ⟨q,i',N,by omega,h2⟩
theorem TB (h:Int):SetTable.bits h < 2 ^ 64:=by
 unfold SetTable.bits
 have h1:=Int.emod_nonneg h (b:=(2:Int) ^ 64) (by decide)
 have h2:=Int.emod_lt_of_pos h (b:=(2:Int) ^ 64) (by decide)
 omega
theorem qu {m:Nat} {owner:Array (Option Nat)}:∀ (L fuel i p:Nat),L < fuel->(owner.getD (itP (lpP m) L (i,p)).1 (some 0)).isNone=true -> ∃ j,SetTable.layClean.free m owner fuel i p=some j /\ (owner.getD j (some 0)).isNone=true
 | _,0,_,_,h,_=>absurd h (Nat.not_lt_zero _)
 | L,fuel+1,i,p,h,ho=>by
  unfold SetTable.layClean.free
  split
  ·rename_i k e
   exact ⟨i+k,rfl,by have:=List.find?_some (p:=fun k=>(owner.getD (i+k) (some 0)).isNone) e; exact this⟩
  ·rename_i e
   cases L with
   | zero =>
    have le:i<=SetTable.runEnd m i:=by unfold SetTable.runEnd; split <;> omega
    have:=List.find?_eq_none.mp e 0 (List.mem_range.mpr (by omega))
    exact absurd ho this
   | succ L=>exact qu L fuel _ _ (by omega) ho
theorem WJ {owner:Array (Option Nat)} {j:Nat} (h:(owner.getD j (some 0)).isNone=true):owner[j]? = some none:=by
 rw [← Array.getElem?_toList]
 unfold Array.getD at h
 split at h
 ·rename_i hj
  rw [List.getElem?_eq_getElem (by rw [Array.length_toList]; exact hj)]
  congr 1
  have:owner[j]=none:=by
   cases e:owner[j] with
   | none=>rfl
   | some x=>simp [e] at h
  simpa using this
 ·cases h
theorem ju {l:List (Option Nat)}:(l.filterMap id).length < l.length -> ∃ j,j < l.length /\ l[j]? = some none:=by
 induction l with
 | nil=>intro h; cases h
 | cons x l ih =>
  intro h
  cases x with
  | none=>exact ⟨0,by simp,rfl⟩
  | some v =>
   obtain ⟨j,j1,j2⟩:=ih (by simpa using h)
   exact ⟨j+1,by simpa using j1,by simpa using j2⟩
theorem Uf {l:List (Option Nat)} {j k:Nat} (h:l[j]? = some none):((l.set j (some k)).filterMap id).Perm (k :: l.filterMap id):=by
 induction l generalizing j with
 | nil=>cases h
 | cons x l ih =>
  cases j with
  | zero =>
   rw [List.getElem?_cons_zero] at h
   injection h with h
   subst h
   exact List.Perm.refl _
  | succ j =>
   rw [List.getElem?_cons_succ] at h
   rw [List.set_cons_succ]
   cases x with
   | none=>exact ih h
   | some v =>
    refine (List.Perm.cons v (ih h)).trans ?_
    exact List.Perm.swap ..
def Ri (m:Nat) (acc:Option (Array (Option Nat) × Nat)) (h:Int):Option (Array (Option Nat) × Nat):=do
 let (owner,k) ← acc
 let j ← SetTable.layClean.free m owner (SetTable.turns m) (SetTable.bits h % (m+1)) (SetTable.bits h)
 pure (owner.setIfInBounds j (some k),k+1)
theorem Ug {m:Nat} {o:Array (Option Nat)} (hz:o.size=m+1):((List.range (m+1)).filterMap fun j=>(o.getD j none).map (j,·)).map (·.2)=o.toList.filterMap id:=by
 have e:o.toList=(List.range (m+1)).map fun j=>o.getD j none:=by
  refine List.ext_getElem (by rw [Array.length_toList,List.length_map,List.length_range,hz]) fun i h1 h2=>?_
  rw [List.getElem_map,List.getElem_range]
  rw [Array.length_toList] at h1
  unfold Array.getD
  rw [dif_pos h1]
  simp
 rw [e,List.map_filterMap,List.filterMap_map]
 congr 1
 funext j
 show Option.map (fun x=>x.2) (Option.map (fun x=>(j,x)) (o.getD j none))=id (o.getD j none)
 cases o.getD j none <;> rfl
theorem qv {α:Type}:∀ l:List α,(List.range l.length).filterMap (l[·]?)=l
 | []=>rfl
 | a :: l=>by
  rw [List.length_cons,List.range_succ_eq_map,List.filterMap_cons,List.getElem?_cons_zero]
  dsimp only
  rw [List.filterMap_map]
  congr 1
  exact qv l
theorem WK {α:Type} {es:Array α} {order:Array Nat} (h:order.toList.Perm (List.range es.size)):(order.filterMap (es[·]?)).toList.Perm es.toList:=by
 rw [Array.toList_filterMap]
 refine (h.filterMap _).trans ?_
 have:=qv es.toList
 rw [Array.length_toList] at this
 have e:(fun i:Nat=>es[i]?)=fun i=>es.toList[i]?:=funext fun i=>by rw [Array.getElem?_toList]
 rw [e,this]
abbrev uZ (prog:Program) (w:World) (h:Heap) (k:Int × Int) (a:Addr):Prop:=qR (uw prog w) (uw prog w) h k a
theorem uZ.keep {prog:Program} {w:World} {h h':Heap} {k:Int × Int} {a:Addr} (x:uZ prog w h k a) (hs:∀ o,h.get? a=some o->h'.get? a=some o):uZ prog w h' k a:=by
 obtain ⟨o,u,v,n,ho,hc,hd,hu,hv⟩:=x
 exact ⟨o,u,v,n,hs o ho,hc,hd,hu,hv⟩
section
variable {prog:Program} {w:World} {A:Around} {E:QN} {s:Shared}
theorem ZD {u:Value} {k:Int} (h:(intKind prog w).is k u=true):∃ t,u = .int k t:=by
 cases u with
 | int i t =>
  have:i=k:=(intKind prog w).inj _ _ _ Wl h
  exact ⟨t,by rw [this]⟩
 | bool b =>
  exfalso
  cases b <;> simp [intKind,Value.isInt] at h
 | _=>simp [intKind,Value.isInt] at h
theorem WL {k:Int × Int} {a:Addr} {Q:Bool->Shared->Prop} (hk:uZ prog w s.heap k a) (h:Q false s):wpAny (model prog w) A (ofAClassStatement 8 (.ref a)) Q E s:=by
 have hT:=hk.typeIs
 obtain ⟨o,u,v,n,ho,_,hd,iu,iv⟩:=hk
 obtain ⟨t1,rfl⟩:=ZD iu
 obtain ⟨t2,rfl⟩:=ZD iv
 unfold ofAClassStatement
 refine wpAny_bind (wpAny_typeOf hT ?_)
 dsimp only
 rw [if_pos (by decide)]
 refine wpAny_bind (wpAny_pure ?_)
 simp only [Bool.not_true,Bool.false_eq_true,if_false]
 refine wpAny_bind (wpAny_seqItems ho hd ?_)
 dsimp only
 refine wpAny_bind ?_
 rw [← Array.forIn_toList]
 refine wpAny_forIn_list _ (fun rest r s'=>r.1=none /\ s' = s /\ ∀ x ∈ rest,∃ i t,x=Value.int i t) _ ?_ ?_ _ _ ⟨rfl,rfl,fun x hx=>by
  rcases List.mem_cons.mp hx with rfl | hx
  ·exact ⟨_,_,rfl⟩
  ·rw [List.mem_singleton.mp hx]; exact ⟨_,_,rfl⟩⟩
 ·rintro x rest r s' ⟨hr,rfl,hall⟩
  obtain ⟨i,t,rfl⟩:=hall x (by simp)
  refine wpAny_bind ?_
  unfold ofAClassStatement
  refine wpAny_pure ?_
  simp only [Bool.false_eq_true,if_false]
  exact wpAny_pure ⟨rfl,rfl,fun y hy=>hall y (by simp [hy])⟩
 ·rintro ⟨r1,r2⟩ s' ⟨hr,rfl,_⟩
  simp only at hr
  subst hr
  exact wpAny_pure h
theorem Uh {k:Int × Int} {a:Addr} {Q:Bool->Shared->Prop} (hk:uZ prog w s.heap k a) (h:Q true s):wpAny (model prog w) A (hashByValue 8 (.ref a)) Q E s:=by
 have hT:=hk.typeIs
 obtain ⟨o,u,v,n,ho,_,hd,iu,iv⟩:=hk
 obtain ⟨t1,rfl⟩:=ZD iu
 obtain ⟨t2,rfl⟩:=ZD iv
 unfold hashByValue
 refine wpAny_bind (wpAny_specialOf hT F.slot_tuple_hash.lookup ?_)
 dsimp only
 refine wpAny_bind (wpAny_seqItems ho hd ?_)
 dsimp only [Option.getD]
 refine wpAny_bind ?_
 rw [← Array.forIn_toList]
 refine wpAny_forIn_list _ (fun rest r s'=>r.1=none /\ s' = s /\ ∀ x ∈ rest,∃ i t,x=Value.int i t) _ ?_ ?_ _ _ ⟨rfl,rfl,fun x hx=>by
  rcases List.mem_cons.mp hx with rfl | hx
  ·exact ⟨_,_,rfl⟩
  ·rw [List.mem_singleton.mp hx]; exact ⟨_,_,rfl⟩⟩
 ·rintro x rest r s' ⟨hr,rfl,hall⟩
  obtain ⟨i,t,rfl⟩:=hall x (by simp)
  refine wpAny_bind ?_
  rw [hashByValue_scannable _ rfl]
  refine wpAny_pure ?_
  simp only [plainKind,Bool.not_true,Bool.false_eq_true,if_false]
  exact wpAny_pure ⟨rfl,rfl,fun y hy=>hall y (by simp [hy])⟩
 ·rintro ⟨r1,r2⟩ s' ⟨hr,rfl,_⟩
  simp only at hr
  subst hr
  exact wpAny_pure h
theorem UR {kx:Int × Int} {x:Addr} {ys:List Value} {Q:Bool->Shared->Prop} (hx:uZ prog w s.heap kx x) (hy:∀ y ∈ ys,∃ k b,y=Value.ref b /\ uZ prog w s.heap k b) (h:Q false s):wpAny (model prog w) A (searchCouldBeSeen (.ref x) ys) Q E s:=by
 unfold searchCouldBeSeen
 refine wpAny_bind ?_
 refine wpAny_forIn_list _ (fun rest r s'=>r.1=none /\ s' = s /\ ∀ y ∈ rest,∃ k b,y=Value.ref b /\ uZ prog w s.heap k b) _ ?_ ?_ _ _ ⟨rfl,rfl,hy⟩
 ·rintro y rest r s' ⟨hr,rfl,hall⟩
  obtain ⟨k,b,rfl,hb⟩:=hall y (by simp)
  have next:∀ z ∈ rest,∃ k b,z=Value.ref b /\ uZ prog w s'.heap k b:=fun z hz=>hall z (by simp [hz])
  dsimp only
  split
  ·exact wpAny_pure ⟨rfl,rfl,next⟩
  ·refine wpAny_bind (sB hx ?_)
   simp only [Bool.not_true,Bool.false_eq_true,if_false]
   refine wpAny_bind (sB hb ?_)
   simp only [Bool.not_true,Bool.false_eq_true,if_false]
   refine wpAny_bind (WL hx ?_)
   simp only [Bool.false_eq_true,if_false]
   refine wpAny_bind (WL hb ?_)
   simp only [Bool.false_eq_true,if_false]
   exact wpAny_pure ⟨rfl,rfl,next⟩
 ·rintro ⟨r1,r2⟩ s' ⟨hr,rfl,_⟩
  simp only at hr
  subst hr
  exact wpAny_pure h
end
def vQ (es:Array (Int × Value)) (ep:Nat) (t:SetTable):Obj:={ cls:=.type "set",dict:=none,data:=.set es ep t,slots:=#[] }
section
variable {prog:Program} {w:World} {A:Around} {E:QN} {s:Shared}
theorem TC {a:Addr} {es:Array (Int × Value)} {ep:Nat} {t:SetTable} {x:Addr} {kx:Int × Int} {h:Int} (ho:s.heap.get? a=some (vQ es ep t)) (fit:t.fits es.size=true) (hm:vF t.mask) (hd:t.dummies = #[]) (hu:A.units+1 < cLine)
  (hx:uZ prog w s.heap kx x) (hy:∀ e ∈ es.toList,∃ k b,e.2=Value.ref b /\ uZ prog w s.heap k b /\ k ≠ kx) {Q:SetFound->Shared->Prop} (hq:∀ j,Q (.free j false) s) :
  ∀ (N fuel:Nat) (p:SetTable.Probe) (o:Option SetTable.Probe),o.getD (t.probeStart h)=p->p.dummy=none->Vb t N p->N<=10 * SetTable.turns t.mask->N < fuel->wpAny (model prog w) A (setSearchFrom a (.ref x) h true fuel o) Q E s:=by
 intro N
 induction N using Nat.strongRecOn with
 | _ N ih =>
  intro fuel p o e0 hp em hN hf
  obtain ⟨fuel,rfl⟩:∃ f,fuel=f+1:=⟨fuel - 1,by omega⟩
  unfold setSearchFrom
  refine wpAny_bind (wpAny_setState_of ho rfl fit ?_)
  dsimp only
  have gw:t.gaveWay=false:=by
   unfold SetTable.gaveWay
   rcases hm with z | z | z <;> rw [z] <;> rfl
  rw [gw]
  simp only [Bool.false_eq_true,if_false]
  rw [e0]
  unfold SetTable.probe
  have key:∀ ha:Nat->Int,(∃ j,SetTable.probe.go t ha h (10 * SetTable.turns t.mask) p=some (.empty j none)) \/ ∃ (q:SetTable.Probe) (i N':Nat),N' < N /\ SetTable.probe.go t ha h (10 * SetTable.turns t.mask) p=some (.candidate q.j i (t.advance q)) /\ t.slot q.j = .live i /\ (t.advance q).dummy=none /\ Vb t N' (t.advance q):=fun ha=>by
   have mono:∀ (f g:Nat) (p:SetTable.Probe) (r:SetTable.Met),f<=g->SetTable.probe.go t ha h f p=some r->SetTable.probe.go t ha h g p=some r:=by
    intro f
    induction f with
    | zero=>intro g p r _ z; unfold SetTable.probe.go at z; cases z
    | succ f ihf =>
     intro g p r l z
     obtain ⟨g,rfl⟩:∃ g',g=g' + 1:=⟨g - 1,by omega⟩
     unfold SetTable.probe.go at z ⊢
     split
     ·rename_i e; rw [e] at z; exact z
     ·rename_i e; rw [e] at z; exact ihf g _ r (by omega) z
     ·rename_i i e
      rw [e] at z
      dsimp only at z
      split
      ·rename_i c; rw [if_pos c] at z; exact z
      ·rename_i c; rw [if_neg c] at z; exact ihf g _ r (by omega) z
   rcases UQ (ha:=ha) (h:=h) hd N p hp em with ⟨j,z⟩ | ⟨q,i,N',n1,z,r⟩
   ·exact .inl ⟨j,mono _ _ _ _ hN z⟩
   ·exact .inr ⟨q,i,N',n1,mono _ _ _ _ hN z,r⟩
  rcases key _ with ⟨j,e⟩ | ⟨q,i,N',n1,e,sl,dn,em'⟩
  ·rw [e]
   dsimp only
   exact wpAny_pure (hq j)
  ·rw [e]
   dsimp only
   have pl:=w9 sl
   have isz:i < es.size:=by
    have h1:i < t.place.size:=(Array.getElem?_eq_some_iff.mp pl).1
    unfold SetTable.fits at fit
    simp only [Bool.and_eq_true,beq_iff_eq] at fit
    omega
   obtain ⟨ky,b,e2,hb,ne⟩:=hy (es[i]'isz) (by simp)
   have ei:es[i]? = some (es[i].1,Value.ref b):=by rw [Array.getElem?_eq_getElem isz,← e2]
   have fin:∀ {s2:Shared},s2=s->wpAny (model prog w) A (setSearchFrom a (.ref x) h true fuel (some (t.advance q))) Q E s2:=fun z=>by
    subst z
    exact ih N' n1 fuel _ _ rfl dn em' (by omega) (by omega)
   have rest:wpAny (model prog w) A (do
     let some (_,y):=es[i]? | unsupported "internal:set-entry"
     let equal ← holding [y] (eqBool y (.ref x))
     let (es',_,t') ← setState a
     if true && equal then return .there none
     let some smq:=t'.sameMemory t.moves t.mask | unsupported "set.changed-during-lookup:is-the-new-block-at-the-old-address"
     let still ← match (if smq then t'.slot q.j else .empty) with
      | .live i'=>match es'[i']? with
       | some (_,y')=>do pure (if ← isSame y' y then some i' else none)
       | none=>pure none
      | _=>pure none
     match still with
     | none=>rule "set.search.anew"; setSearchFrom a (.ref x) h true fuel none
     | some i'=>if equal then return .there (some i') else setSearchFrom a (.ref x) h true fuel (some (t.advance q))) Q E s:=by
    rw [ei]
    dsimp only
    refine wpAny_bind (wpAny_holding (Tk hu hb hx ?_))
    rw [decide_eq_false ne]
    refine wpAny_bind (wpAny_setState_of ho rfl fit ?_)
    dsimp only
    simp only [Bool.and_false,Bool.false_eq_true,if_false]
    have sm:t.sameMemory t.moves t.mask=some true:=by unfold SetTable.sameMemory; rw [if_pos (by simp)]
    rw [sm]
    dsimp only
    simp only [if_true]
    rw [sl]
    dsimp only
    rw [ei]
    dsimp only
    refine wpAny_bind (wpAny_isSame_ref_self (wpAny_bind (wpAny_pure ?_)))
    simp only [if_true]
    exact fin rfl
   by_cases hl:t.led=true
   ·rw [hl]
    simp only [Bool.not_true,Bool.false_eq_true,if_false]
    exact rest
   ·rw [Bool.not_eq_true] at hl
    rw [hl]
    simp only [Bool.not_false,if_true]
    refine wpAny_bind (m:=searchCouldBeSeen _ _) (UR hx (fun y hy'=>?_) ?_)
    ·obtain ⟨e,he,rfl⟩:=List.mem_map.mp hy'
     obtain ⟨k,b,h1,h2,_⟩:=hy e (by
      have:=Array.mem_toList_iff.mp he
      exact Array.mem_toList_iff.mpr (Array.mem_filter.mp this).1)
     exact ⟨k,b,h1,h2⟩
    ·simp only [Bool.false_eq_true,if_false]
     exact rest
end
structure SetPS (h:Heap) (a:Addr) (ad:Nat->Addr) (m:Nat) (es:Array (Int × Value)) (ep:Nat) (t:SetTable):Prop where
 at_:h.get? a=some (vQ es ep t)
 el:∀ e ∈ es.toList,∃ i,i < m /\ e.2=Value.ref (ad i)
 sz:es.size=m
 pz:t.place.size=m
 dm:t.dummies = #[]
 room:(t.mask=7 /\ m<=4) \/ (t.mask=31 /\ m<=18) \/ (t.mask=127 /\ m<=60)
def Ui (h:Heap) (a:Addr) (ad:Nat->Addr) (m:Nat):Prop:=∃ es ep t,SetPS h a ad m es ep t
section
variable {prog:Program} {w:World} {A:Around} {E:QN} {s:Shared} {a:Addr} {ad:Nat->Addr} {m:Nat}
theorem jv {t:SetTable} {n:Nat} (hd:t.dummies = #[]) (hz:t.place.size=n) (hm:n<=t.mask):t.fits n=true:=by
 unfold SetTable.fits SetTable.fill
 rw [hd]
 simp [hz,hm]
theorem SetPS.fit {h:Heap} {es ep t} (S:SetPS h a ad m es ep t):t.fits es.size=true:=by
 refine jv S.dm (S.pz.trans S.sz.symm) ?_
 rw [S.sz]
 rcases S.room with ⟨z,l⟩ | ⟨z,l⟩ | ⟨z,l⟩ <;> rw [z] <;> omega
theorem qw {es:Array (Int × Value)} {ep:Nat} {t:SetTable} {es1:Array (Int × Value)} {t1:SetTable} {Q:Unit->Shared->Prop} (ho:s.heap.get? a=some (vQ es ep t)) (hz:es1.size<=100)
  (h:∀ h',Heap.SameBut a s.heap h' -> h'.get? a=some (vQ es1 (ep+1) t1)->Q () { s with heap:=h' }):wpAny (model prog w) A (storeSet a es1 t1) Q E s:=by
 refine wpAny_storeSet_of ho rfl ?_ (fits_of_scanBound (by have:scanBound=4096:=rfl; omega))
 exact h _ (Heap.SameBut.update s.heap a (Obj.putSet es1 t1)) (Heap.get?_update_self (Obj.putSet es1 t1) ho rfl)
theorem vc {α:Type} (xs:Array α) (p:Nat) (x:α) (hp:p<=xs.size):(SetTable.insertAt xs p x).size=xs.size+1:=by
 rw [← Array.length_toList,SetTable.toList_insertAt]
 rw [List.length_append,List.length_cons,List.length_take,List.length_drop,Array.length_toList]
 omega
theorem Ys (xs:Array Nat) (j:Nat):SetTable.below xs j<=xs.size:=by
 have key:∀ (fuel lo hi:Nat),lo<=hi->hi<=xs.size->SetTable.below.go xs j fuel lo hi<=xs.size:=by
  intro fuel
  induction fuel with
  | zero=>intro lo hi h1 h2; unfold SetTable.below.go; omega
  | succ f ih =>
   intro lo hi h1 h2
   unfold SetTable.below.go
   split
   ·dsimp only
    split
    ·exact ih _ _ (by omega) h2
    ·exact ih _ _ (by omega) (by omega)
   ·omega
 exact key _ _ _ (Nat.zero_le _) (Nat.le_refl _)
theorem S0 {t:SetTable} (hd:t.dummies = #[]) (j:Nat):(t.put j).1 = { t with place:=SetTable.insertAt t.place (SetTable.below t.place j) j } /\ (t.put j).2=SetTable.below t.place j:=by
 unfold SetTable.put
 dsimp only
 refine ⟨?_,rfl⟩
 rw [if_neg (by unfold SetTable.has; rw [hd]; simp)]
theorem QH:SetTable.sizeAbove (SetTable.grown 5) - 1=31:=by decide +kernel
theorem QI:SetTable.sizeAbove (SetTable.grown 19) - 1=127:=by decide +kernel
end
theorem Ui.keep {h h':Heap} {a:Addr} {ad:Nat->Addr} {m:Nat} (S:Ui h a ad m) (k:∀ o,h.get? a=some o->h'.get? a=some o):Ui h' a ad m:=by
 obtain ⟨es,ep,t,S⟩:=S
 exact ⟨es,ep,t,{ S with at_:=k _ S.at_ }⟩
def jw (h:Heap) (a:Addr) (n:Nat):Prop:=∃ ad,Ui h a ad n
section
variable {X:Cx} {K:QM} {P:Program} {w:World}
theorem zT.setP {H:Hp} {h:Heap} {a:Addr} {n:Nat} (S:jw h a n):zT P w H h a (.ext fun h=>jw h a n):=by
 obtain ⟨ad,S⟩:=S
 obtain ⟨es,ep,t,S'⟩:=S
 exact ⟨⟨ad,es,ep,t,S'⟩,⟨_,S'.at_⟩,fun h1 h2 ⟨ad,s1⟩ k=>⟨ad,s1.keep k⟩⟩
def PrL (K:QM) (H:Hp) (v:V) (k:Int × Int):Prop:=∃ b,v = .ref b /\ JV JT JT K H k b
theorem PrL.grow {H H':Hp} {v:V} {k:Int × Int} {m:List Addr} (x:PrL K H v k) (g:Grow m H H'):PrL K H' v k:=by
 obtain ⟨b,e,h⟩:=x
 exact ⟨b,e,h.grow g⟩
theorem WM:y7 X (.builtin "len") (fun xs H Q=>∃ a n,xs=[V.ref a] /\ H a=some (.ext fun h=>jw h a n) /\ Q (.int n) H):=by
 intro pins s σ H xs us Q I r h
 obtain ⟨a,n,rfl,ha,q⟩:=h
 obtain ⟨u,rfl,ru⟩:=xz r
 cases ru
 obtain ⟨ad,es,ep,t,S⟩:jw s.heap a n:=(I.hok a _ ha).1
 have z:=S.sz
 refine call_len_set S.at_ ⟨rfl,rfl,rfl⟩ rfl S.fit (by rw [z]; have:=S.room; omega) ?_
 rw [z]
 exact ⟨.int n,H,I.tok _,⟨_,rfl⟩,q⟩
end
theorem TD:bootBuiltins "set" = some (.type "set"):=by decide +kernel
def jx (c:Call72):Int × Int:=(c.hand,c.begun)
theorem ZE {cs:List Call72} (h:yB cs):(cs.map jx).Nodup:=by
 rw [List.Nodup,List.pairwise_iff_getElem]
 intro i j hi hj hij z
 rw [List.length_map] at hi hj
 rw [List.getElem_map,List.getElem_map] at z
 have e1:cg cs i=cs[i]:=yA (List.getElem?_eq_getElem hi)
 have e2:cg cs j=cs[j]:=yA (List.getElem?_eq_getElem hj)
 have z1:cs[i].hand=cs[j].hand:=congrArg Prod.fst z
 have z2:cs[i].begun=cs[j].begun:=congrArg Prod.snd z
 have:=h i j hi hj (by rw [e1,e2]; exact z1) (by rw [e1,e2]; exact z2)
 omega
theorem sI {cs:List Call72} (h:(cs.map jx).Nodup):yB cs:=by
 intro i j hi hj h1 h2
 have e1:cg cs i=cs[i]:=yA (List.getElem?_eq_getElem hi)
 have e2:cg cs j=cs[j]:=yA (List.getElem?_eq_getElem hj)
 rw [e1,e2] at h1 h2
 have li:i < (cs.map jx).length:=by rw [List.length_map]; exact hi
 have lj:j < (cs.map jx).length:=by rw [List.length_map]; exact hj
 refine (List.getElem_inj (h₀:=li) (h₁:=lj) h).mp ?_
 rw [List.getElem_map,List.getElem_map]
 exact Prod.ext h1 h2
def y6 (cs:List Call72) (left:List Nat) (vs:List Int):Prop:=∃ o:List Nat,o.Perm left /\ vC cs o=true /\ sY cs vs o=true
def wb (cs:List Call72) (left:List Nat) (k:Nat) (vs:List Int):Bool:=decide (vs.getD (cg cs k).box.toNat 0=(cg cs k).answer) && !(left.any fun j=>zE cs j k)
def jy (cs:List Call72) (k:Nat) (vs:List Int):List Int:=vs.set (cg cs k).box.toNat ((cg cs k).deed.mk' (vs.getD (cg cs k).box.toNat 0))
theorem uK {cs:List Call72} {k:Nat} {r:List Nat}:vC cs (k :: r)=(!(r.any fun j=>zE cs j k) && vC cs r):=rfl
theorem WN {left r:List Nat} {k:Nat} (nd:left.Nodup) (h:(k :: r).Perm left):r.Perm (sG left k):=by
 have nd2:=h.nodup_iff.mpr nd
 rw [List.nodup_cons] at nd2
 have km:k ∈ left:=h.mem_iff.mp (by simp)
 refine wY nd2.2 (fun j hj=>v8.mpr ⟨h.mem_iff.mp (by simp [hj]),fun z=>nd2.1 (z ▸ hj)⟩) ?_
 have:=v7 nd km
 have:=h.length_eq
 rw [List.length_cons] at this
 omega
theorem WO {left r:List Nat} {k:Nat} (nd:left.Nodup) (km:k ∈ left) (h:r.Perm (sG left k)):(k :: r).Perm left:=by
 refine wY (List.nodup_cons.mpr ⟨fun z=>(v8.mp (h.mem_iff.mp z)).2 rfl,h.nodup_iff.mpr (tT nd)⟩) (fun j hj=>?_) ?_
 ·rcases List.mem_cons.mp hj with rfl | hj
  ·exact km
  ·exact (v8.mp (h.mem_iff.mp hj)).1
 ·have:=v7 nd km
  rw [List.length_cons,h.length_eq]
  omega
theorem ZF {cs:List Call72} {left r:List Nat} {k:Nat} (h:(k :: r).Perm left):left.any (fun j=>zE cs j k)=r.any fun j=>zE cs j k:=by
 have:left.any (fun j=>zE cs j k)=(k :: r).any fun j=>zE cs j k:=by
  rw [Bool.eq_iff_iff,List.any_eq_true,List.any_eq_true]
  exact ⟨fun ⟨j,h1,h2⟩=>⟨j,h.mem_iff.mpr h1,h2⟩,fun ⟨j,h1,h2⟩=>⟨j,h.mem_iff.mp h1,h2⟩⟩
 rw [this,List.any_cons,vD,Bool.false_or]
theorem Yt {cs:List Call72} {vs:List Int}:y6 cs [] vs:=⟨[],List.Perm.refl _,rfl,rfl⟩
theorem uL {cs:List Call72} {left:List Nat} {vs:List Int} (hne:left ≠ []) (nd:left.Nodup):y6 cs left vs ↔ ∃ k ∈ left,wb cs left k vs=true /\ y6 cs (sG left k) (jy cs k vs):=by
 constructor
 ·rintro ⟨o,h1,h2,h3⟩
  cases o with
  | nil=>exact absurd (List.perm_nil.mp h1.symm) hne
  | cons k r =>
   rw [uK,Bool.and_eq_true] at h2
   rw [vw] at h3
   by_cases c:vs.getD (cg cs k).box.toNat 0=(cg cs k).answer
   ·rw [if_pos c] at h3
    refine ⟨k,h1.mem_iff.mp (by simp),?_,r,WN nd h1,h2.2,?_⟩
    ·unfold wb
     rw [decide_eq_true c,ZF h1,h2.1]; rfl
    ·unfold jy
     rw [c]; exact h3
   ·rw [if_neg c] at h3; cases h3
 ·rintro ⟨k,km,hm,r,h1,h2,h3⟩
  have hp:=WO nd km h1
  unfold wb at hm
  rw [Bool.and_eq_true,decide_eq_true_eq,ZF hp] at hm
  refine ⟨k :: r,hp,?_,?_⟩
  ·rw [uK,hm.2,h2]; rfl
  ·rw [vw,if_pos hm.1]
   unfold jy at h3
   rw [hm.1] at h3; exact h3
def xh (P:Program) (w:World) (K:QM) (cs:List Call72) (dk m:Nat) (H:Hp):Prop :=
 ∃ kvs:List ((List Int × List Int) × Addr × V),H dk=some (JW JU JU P w dk kvs) /\ JX JU JU K H kvs /\ (∀ x ∈ kvs,∃ (left:List Nat) (vs:List Int),x.1=(left.map (fun k:Nat=>(k:Int)),vs) /\ ¬ y6 cs left vs) /\ kvs.length<=m
theorem xh.grow {P:Program} {w:World} {K:QM} {cs:List Call72} {dk m:Nat} {H H':Hp} (h:xh P w K cs dk m H) {ms:List Addr} (hm:dk ∉ ms) (g:Grow ms H H'):xh P w K cs dk m H':=by
 obtain ⟨kvs,h1,h2,h3,h4⟩:=h
 exact ⟨kvs,g.keep _ _ hm h1,h2.grow g,h3,h4⟩
theorem xh.mono {P:Program} {w:World} {K:QM} {cs:List Call72} {dk m m':Nat} {H:Hp} (h:xh P w K cs dk m H) (hm:m<=m'):xh P w K cs dk m' H:=by
 obtain ⟨kvs,h1,h2,h3,h4⟩:=h
 exact ⟨kvs,h1,h2,h3,Nat.le_trans h4 hm⟩
theorem tW {cs:List Call72} {left:List Nat} {vs:List Int}:∀ {kvs:List ((List Int × List Int) × Addr × V)},(∀ x ∈ kvs,∃ (left:List Nat) (vs:List Int),x.1=(left.map (fun k:Nat=>(k:Int)),vs) /\ ¬ y6 cs left vs) →
  ∀ y,wI (kvs.map JY) (left.map (fun k:Nat=>(k:Int)),vs)=some y -> ¬ y6 cs left vs
 | [],_,y,h=>by cases h
 | x :: kvs,hk,y,h=>by
  rw [List.map_cons] at h
  by_cases e:(JY x).1=(left.map (fun k:Nat=>(k:Int)),vs)
  ·obtain ⟨l',v',e1,e2⟩:=hk x (List.mem_cons_self ..)
   have e3:x.1=(left.map (fun k:Nat=>(k:Int)),vs):=e
   rw [e1] at e3
   have e4:=Yp (congrArg Prod.fst e3)
   have e5:v' = vs:=congrArg Prod.snd e3
   rw [← e4,← e5]
   exact e2
  ·rw [yq e] at h
   exact tW (fun z hz=>hk z (List.mem_cons_of_mem _ hz)) y h
theorem Yu {P:Program} {w:World} {K:QM} {cs:List Call72} {dk m:Nat} {H:Hp} {kvs:List ((List Int × List Int) × Addr × V)} {left:List Nat} {vs:List Int} {b:Addr} (h1:H dk=some (JW JU JU P w dk kvs)) (h2:JX JU JU K H kvs)
  (h3:∀ x ∈ kvs,∃ (left:List Nat) (vs:List Int),x.1=(left.map (fun k:Nat=>(k:Int)),vs) /\ ¬ y6 cs left vs) (h4:kvs.length<=m) (hk:JV JU JU K H (left.map (fun k:Nat=>(k:Int)),vs) b) (hf:¬ y6 cs left vs) (y:V) :
  Grow [dk] H (QP H dk (JW JU JU P w dk (xq kvs (left.map (fun k:Nat=>(k:Int)),vs) b y))) /\ xh P w K cs dk (m+1) (QP H dk (JW JU JU P w dk (xq kvs (left.map (fun k:Nat=>(k:Int)),vs) b y))):=by
 have g:Grow [dk] H (QP H dk (JW JU JU P w dk (xq kvs (left.map (fun k:Nat=>(k:Int)),vs) b y))):=Grow.setE73 h1 (by simp)
 refine ⟨g,_,zd,(h2.store hk).grow g,fun x hx=>?_,?_⟩
 ·unfold xq at hx
  split at hx
  ·obtain ⟨z,hz,rfl⟩:=List.mem_map.mp hx
   by_cases c:z.1=(left.map (fun k:Nat=>(k:Int)),vs)
   ·rw [if_pos c]; exact ⟨left,vs,c,hf⟩
   ·rw [if_neg c]; exact h3 z hz
  ·rcases List.mem_append.mp hx with z | z
   ·exact h3 x z
   ·rw [List.mem_singleton.mp z]; exact ⟨left,vs,rfl,hf⟩
 ·unfold xq
  split
  ·rw [List.length_map]; omega
  ·rw [List.length_append]; show _+1<=_; omega
def sJ (K:QM):Sp:=JC fun x y z u H Q=>∃ (cs:List Call72) (left:List Nat) (k:Nat) (vs:List Int),zx K H x cs /\ xB K H y left /\ z = .int k /\ zI K H u vs /\ (∀ j ∈ left,j < cs.length) /\ k < cs.length /\ left.length<=40 /\ 0<=(cg cs k).box /\ (cg cs k).box.toNat < vs.length /\ ∀ H',Grow [] H H' -> Q (.bl (wb cs left k vs)) H'
def sK (K:QM):Sp:=Jz fun x y z H Q=>∃ (cs:List Call72) (k:Nat) (vs:List Int),zx K H x cs /\ y = .int k /\ zI K H z vs /\ k < cs.length /\ vs.length<=16 /\ (cg cs k).deed.Ok /\ 0<=(cg cs k).box /\ (cg cs k).box.toNat < vs.length /\ ∀ v H',Grow [] H H' -> zI K H' v (jy cs k vs)->Q v H'
def xG (P:Program) (w:World) (N:Nat) (K:QM):Sp:=fun xs H Q _=>∃ y z u t,xs=[y,z,u,t] /\ ∃ (cs:List Call72) (left:List Nat) (vs:List Int) (dk m:Nat),zx K H y cs /\ xB K H z left /\ zI K H u vs /\ t = .ref dk /\ xh P w K cs dk m H /\ left.Nodup /\ (∀ k ∈ left,k < cs.length) /\ Calls72 vs.length cs /\ vs.length<=16 /\ left.length < N /\ left.length<=8 /\ m+qr left.length<=1000000 ∧
 ∀ c H',Grow [dk] H H' -> xh P w K cs dk (m+qr left.length) H' -> (c=true ↔ y6 cs left vs)->Q (.bl c) H'
theorem WP {P:Program} {w:World} {K:QM}:∀ vs H Q E,¬ xG P w 0 K vs H Q E:=by
 rintro vs H Q E h
 obtain ⟨y,z,u,t,rfl,cs,left,vs,dk,m,_,_,_,_,_,_,_,_,_,h,_⟩:=h
 exact absurd h (Nat.not_lt_zero _)
theorem qz {P:Program} {w:World} {N:Nat} {K:QM} {a b c d:Str}:∀ vs H Q E,xG P w N K vs H Q E->vs.length=[a,b,c,d].length:=by
 rintro vs H Q E ⟨y,z,u,t,rfl,_⟩; rfl
theorem WQ {b:List Int} {cs:List Call72} (h:∃ o,uX b cs o):∃ o,wx cs b=some o /\ uX b cs o:=by
 obtain ⟨o,ho⟩:=h
 cases e:wx cs b with
 | some o'=>exact ⟨o',rfl,uF e⟩
 | none=>exact (jq e ho).elim
theorem WR {b:List Int} {cs:List Call72} (h:∀ o,¬ uX b cs o):wx cs b=none:=by
 cases e:wx cs b with
 | some o'=>exact absurd (uF e) (h o')
 | none=>rfl
theorem Yv {b:List Int} {cs:List Call72}:y6 cs (List.range cs.length) b ↔ ∃ o,uX b cs o:=Iff.rfl
theorem v9 {c:TT} {t u:TS} {D:Ends} {σ:L2.St} {H:Hp} (Good:Bool->Hp->Prop) (hc:∀ K:Bool->Hp->Prop,(∀ b H',Good b H' -> K b H')->c σ H K) (hr:∀ b H',Good b H' -> if b=true then t D σ H' else u D σ H'):TQ c t u D σ H:=hc _ hr
def Yw (c:Call72):List Int:=[c.hand,c.begun]
theorem Uj {cs:List Call72} (h:yB cs) {i:Nat} {c:Call72} (hc:cs[i]? = some c):decide (Yw c ∈ (cs.map Yw).take i)=false:=by
 refine decide_eq_false fun z=>?_
 rw [← List.map_take] at z
 obtain ⟨d,hd,e⟩:=List.mem_map.mp z
 obtain ⟨j,hj⟩:=List.mem_iff_getElem?.mp hd
 rw [List.getElem?_take] at hj
 split at hj
 ·rename_i lt
  have hl:=(List.getElem?_eq_some_iff.mp hc).1
  have e1:cg cs i=c:=yA hc
  have e2:cg cs j=d:=yA hj
  have e3:d.hand=c.hand /\ d.begun=c.begun:=by
   unfold Yw at e
   injection e with a1 a2
   injection a2 with a2 _
   exact ⟨a1,a2⟩
  have:=h j i (by omega) hl (by rw [e1,e2]; exact e3.1) (by rw [e1,e2]; exact e3.2)
  omega
 ·cases hj
def Occ (t:SetTable) (j:Nat):Prop:=j ∈ t.place.toList
def WT (t:SetTable) (h:Int) (j:Nat):Prop:=∃ n,(itP t.advance n (t.probeStart h)).j=j /\ ∀ n',n' < n->Occ t (itP t.advance n' (t.probeStart h)).j
theorem Uk {t:SetTable} (hr:uY t.place) (hd:t.dummies = #[]) {j:Nat} (h:Occ t j):∃ i,t.slot j = .live i /\ t.place[i]? = some j:=by
 have hf:t.place[SetTable.below t.place j]? = some j:=by
  obtain ⟨b1,b2,b3⟩:=WG hr j
  obtain ⟨i,hi⟩:=List.mem_iff_getElem?.mp h
  rw [Array.getElem?_toList] at hi
  obtain ⟨hi1,hi2⟩:=Array.getElem?_eq_some_iff.mp hi
  have h1:¬ i < SetTable.below t.place j:=fun z=>by have:=b2 i hi1 z; omega
  have h0:SetTable.below t.place j < t.place.size:=by omega
  have h2:=b3 _ h0 (Nat.le_refl _)
  have h3:¬ SetTable.below t.place j < i:=fun z=>by have:=hr _ _ hi1 z; omega
  have e:SetTable.below t.place j=i:=by omega
  rw [e]; exact hi
 refine ⟨_,?_,hf⟩
 unfold SetTable.slot
 dsimp only
 rw [if_pos (by rw [hf]; simp)]
theorem Ul {t:SetTable} {j i:Nat} (h:t.slot j = .live i):Occ t j:=by
 have:=w9 h
 unfold Occ
 rw [List.mem_iff_getElem?]
 exact ⟨i,by rw [Array.getElem?_toList]; exact this⟩
theorem WU {t:SetTable} (hr:uY t.place) (hd:t.dummies = #[]) {j:Nat} (h:t.slot j = .empty):¬ Occ t j:=fun z=>by
 obtain ⟨i,e,_⟩:=Uk hr hd z
 rw [h] at e; cases e
theorem US {t:SetTable} {ha:Nat->Int} {h:Int} (hd:t.dummies = #[]):∀ (fuel:Nat) (p:SetTable.Probe),p.dummy=none->Vb t fuel p →
  (∃ n,n < fuel /\ SetTable.probe.go t ha h fuel p=some (.empty (itP t.advance n p).j none) /\ t.slot (itP t.advance n p).j = .empty /\ ∀ n',n' < n -> ∃ i,t.slot (itP t.advance n' p).j = .live i /\ ¬ (ha i == h)=true) ∨
  ∃ (n i N:Nat),N+n < fuel /\ SetTable.probe.go t ha h fuel p=some (.candidate (itP t.advance n p).j i (itP t.advance (n+1) p)) /\ t.slot (itP t.advance n p).j = .live i /\ (itP t.advance (n+1) p).dummy=none /\ Vb t N (itP t.advance (n+1) p) /\ ∀ n',n' < n -> ∃ i,t.slot (itP t.advance n' p).j = .live i /\ ¬ (ha i == h)=true
 | 0,p,_,⟨n,hn,_⟩=>absurd hn (Nat.not_lt_zero _)
 | fuel+1,p,hp,⟨n,hn,hs⟩=>by
  unfold SetTable.probe.go
  cases e:t.slot p.j with
  | empty=>exact .inl ⟨0,by omega,by rw [hp]; rfl,e,fun n' h=>absurd h (Nat.not_lt_zero _)⟩
  | dummy=>exact absurd e (ZC hd)
  | live i =>
   have nx:Vb t fuel (t.advance p):=by
    cases n with
    | zero=>rw [show itP t.advance 0 p=p from rfl,e] at hs; cases hs
    | succ n=>exact ⟨n,by omega,hs⟩
   dsimp only
   split
   ·exact .inr ⟨0,i,fuel,by omega,rfl,e,by show (t.advance p).dummy=none; rw [va]; exact hp,nx,fun n' h=>absurd h (Nat.not_lt_zero _)⟩
   ·rename_i ne
    have step:∀ {m:Nat},(∀ n',n' < m -> ∃ i,t.slot (itP t.advance n' (t.advance p)).j = .live i /\ ¬ (ha i == h)=true) -> ∀ n',n' < m+1 -> ∃ i,t.slot (itP t.advance n' p).j = .live i /\ ¬ (ha i == h)=true:=fun hm n' hn'=>by
     cases n' with
     | zero=>exact ⟨i,e,ne⟩
     | succ n'=>exact hm n' (by omega)
    rcases US hd fuel (t.advance p) (by rw [va]; exact hp) nx with ⟨m,m1,m2,m3,m4⟩ | ⟨m,i',N,m1,m2,m3,m4,m5,m6⟩
    ·exact .inl ⟨m+1,by omega,m2,m3,step m4⟩
    ·exact .inr ⟨m+1,i',N,by omega,m2,m3,m4,m5,step m6⟩
theorem WV {t:SetTable} {ha:Nat->Int} {h:Int}:∀ (f g:Nat) (p:SetTable.Probe) (r:SetTable.Met),f<=g->SetTable.probe.go t ha h f p=some r->SetTable.probe.go t ha h g p=some r:=by
 intro f
 induction f with
 | zero=>intro g p r _ z; unfold SetTable.probe.go at z; cases z
 | succ f ihf =>
  intro g p r l z
  obtain ⟨g,rfl⟩:∃ g',g=g' + 1:=⟨g - 1,by omega⟩
  unfold SetTable.probe.go at z ⊢
  split
  ·rename_i e; rw [e] at z; exact z
  ·rename_i e; rw [e] at z; exact ihf g _ r (by omega) z
  ·rename_i i e
   rw [e] at z
   dsimp only at z
   split
   ·rename_i c; rw [if_pos c] at z; exact z
   ·rename_i c; rw [if_neg c] at z; exact ihf g _ r (by omega) z
theorem Um {α:Type} {f:α -> α} {n:Nat} {x:α}:itP f (n+1) x=f (itP f n x):=by rw [yN]; rfl
section
variable {prog:Program} {w:World} {A:Around} {E:QN} {s:Shared}
def haQ (es:Array (Int × Value)) (i:Nat):Int:=(es[i]?.map (·.1)).getD 0
set_option maxHeartbeats 800000 in
/-- the search: n steps are done,over places whose things are others -/
theorem search_any {a:Addr} {es:Array (Int × Value)} {ep:Nat} {t:SetTable} {x:Addr} {kx:Int × Int} {h:Int} (ho:s.heap.get? a=some (vQ es ep t)) (fit:t.fits es.size=true) (hm:vF t.mask) (hd:t.dummies = #[]) (hu:A.units+1 < cLine)
  (hx:uZ prog w s.heap kx x) {key:Value->Int × Int} (hy:∀ e ∈ es.toList,∃ b,e.2=Value.ref b /\ uZ prog w s.heap (key e.2) b) {Q:SetFound->Shared->Prop}
  (there:(∃ e ∈ es.toList,key e.2=kx)->Q (.there none) s)
  (free:∀ n,t.slot (itP t.advance n (t.probeStart h)).j = .empty->(∀ n',n' < n -> ∃ i e,t.slot (itP t.advance n' (t.probeStart h)).j = .live i /\ es[i]? = some e /\ ¬ (e.1=h /\ key e.2=kx))->Q (.free (itP t.advance n (t.probeStart h)).j false) s) :
  ∀ (N n fuel:Nat) (o:Option SetTable.Probe),o.getD (t.probeStart h)=itP t.advance n (t.probeStart h)->(itP t.advance n (t.probeStart h)).dummy=none->Vb t N (itP t.advance n (t.probeStart h))->N<=10 * SetTable.turns t.mask->N < fuel →
   (∀ n',n' < n -> ∃ i e,t.slot (itP t.advance n' (t.probeStart h)).j = .live i /\ es[i]? = some e /\ ¬ (e.1=h /\ key e.2=kx))->wpAny (model prog w) A (setSearchFrom a (.ref x) h true fuel o) Q E s:=by
 intro N
 induction N using Nat.strongRecOn with
 | _ N ih =>
  intro n fuel o e0 hp em hN hf past
  obtain ⟨fuel,rfl⟩:∃ f,fuel=f+1:=⟨fuel - 1,by omega⟩
  have at_live:∀ {j i:Nat},t.slot j = .live i -> ∃ e,es[i]? = some e:=fun {j i} sl=>by
   have pl:=w9 sl
   have h1:i < t.place.size:=(Array.getElem?_eq_some_iff.mp pl).1
   unfold SetTable.fits at fit
   simp only [Bool.and_eq_true,beq_iff_eq] at fit
   exact ⟨_,Array.getElem?_eq_getElem (by omega)⟩
  have more:∀ {m:Nat},(∀ n',n' < m -> ∃ i,t.slot (itP t.advance n' (itP t.advance n (t.probeStart h))).j = .live i /\ ¬ (haQ es i == h)=true) -> ∀ n',n' < n+m -> ∃ i e,t.slot (itP t.advance n' (t.probeStart h)).j = .live i /\ es[i]? = some e /\ ¬ (e.1=h /\ key e.2=kx):=fun {m} hm' n' hn'=>by
   by_cases c:n' < n
   ·exact past n' c
   ·obtain ⟨i,s1,s2⟩:=hm' (n' - n) (by omega)
    rw [← yN,show n+(n' - n)=n' by omega] at s1
    obtain ⟨e,he⟩:=at_live s1
    refine ⟨i,e,s1,he,fun z=>s2 ?_⟩
    unfold haQ
    rw [he]
    show (e.1 == h)=true
    rw [z.1]; simp
  unfold setSearchFrom
  refine wpAny_bind (wpAny_setState_of ho rfl fit ?_)
  dsimp only
  have gw:t.gaveWay=false:=by
   unfold SetTable.gaveWay
   rcases hm with z | z | z <;> rw [z] <;> rfl
  rw [gw]
  simp only [Bool.false_eq_true,if_false]
  rw [e0]
  unfold SetTable.probe
  rcases US (ha:=haQ es) (h:=h) hd N _ hp em with ⟨m,m1,m2,m3,m4⟩ | ⟨m,i,N',m1,m2,m3,m4,m5,m6⟩
  ·have e2:∀ ha,ha=haQ es->SetTable.probe.go t ha h (10 * SetTable.turns t.mask) (itP t.advance n (t.probeStart h))=some (.empty (itP t.advance m (itP t.advance n (t.probeStart h))).j none):=fun ha z=>by rw [z]; exact WV _ _ _ _ hN m2
   rw [e2]
   rotate_left
   ·rfl
   dsimp only
   rw [← yN] at m3 ⊢
   exact wpAny_pure (free (n+m) m3 (more m4))
  ·have e2:∀ ha,ha=haQ es->SetTable.probe.go t ha h (10 * SetTable.turns t.mask) (itP t.advance n (t.probeStart h))=some (.candidate (itP t.advance m (itP t.advance n (t.probeStart h))).j i (itP t.advance (m+1) (itP t.advance n (t.probeStart h)))):=fun ha z=>by rw [z]; exact WV _ _ _ _ hN m2
   rw [e2]
   rotate_left
   ·rfl
   dsimp only
   obtain ⟨e,ei'⟩:=at_live m3
   have em_:e ∈ es.toList:=by
    have:=Array.mem_of_getElem? ei'
    exact Array.mem_toList_iff.mpr this
   obtain ⟨b,e2,hb⟩:=hy e em_
   have ei:es[i]? = some (e.1,Value.ref b):=by rw [ei',← e2]
   have rest:wpAny (model prog w) A (do
     let some (_,y):=es[i]? | unsupported "internal:set-entry"
     let equal ← holding [y] (eqBool y (.ref x))
     let (es',_,t') ← setState a
     if true && equal then return .there none
     let some smq:=t'.sameMemory t.moves t.mask | unsupported "set.changed-during-lookup:is-the-new-block-at-the-old-address"
     let still ← match (if smq then t'.slot (itP t.advance m (itP t.advance n (t.probeStart h))).j else .empty) with
      | .live i'=>match es'[i']? with
       | some (_,y')=>do pure (if ← isSame y' y then some i' else none)
       | none=>pure none
      | _=>pure none
     match still with
     | none=>rule "set.search.anew"; setSearchFrom a (.ref x) h true fuel none
     | some i'=>if equal then return .there (some i') else setSearchFrom a (.ref x) h true fuel (some (itP t.advance (m+1) (itP t.advance n (t.probeStart h))))) Q E s:=by
    rw [ei]
    dsimp only
    refine wpAny_bind (wpAny_holding (Tk hu hb hx ?_))
    by_cases ek:key e.2=kx
    ·rw [decide_eq_true ek]
     refine wpAny_bind (wpAny_setState_of ho rfl fit ?_)
     dsimp only
     simp only [Bool.and_self,if_true]
     exact wpAny_pure (there ⟨e,em_,ek⟩)
    ·rw [decide_eq_false ek]
     refine wpAny_bind (wpAny_setState_of ho rfl fit ?_)
     dsimp only
     simp only [Bool.and_false,Bool.false_eq_true,if_false]
     have sm:t.sameMemory t.moves t.mask=some true:=by unfold SetTable.sameMemory; rw [if_pos (by simp)]
     rw [sm]
     dsimp only
     simp only [if_true]
     rw [m3]
     dsimp only
     rw [ei]
     dsimp only
     refine wpAny_bind (wpAny_isSame_ref_self (wpAny_bind (wpAny_pure ?_)))
     simp only [if_true]
     rw [← yN] at m4 m5 ⊢
     refine ih N' (by omega) (n+(m+1)) fuel _ rfl m4 m5 (by omega) (by omega) fun n' hn'=>?_
     by_cases c:n' < n+m
     ·exact more m6 n' c
     ·have en:n' = n+m:=by omega
      rw [← yN] at m3
      exact ⟨i,e,by rw [en]; exact m3,ei',fun z=>ek z.2⟩
   by_cases hl:t.led=true
   ·rw [hl]
    simp only [Bool.not_true,Bool.false_eq_true,if_false]
    exact rest
   ·rw [Bool.not_eq_true] at hl
    rw [hl]
    simp only [Bool.not_false,if_true]
    refine wpAny_bind (m:=searchCouldBeSeen _ _) (UR hx (fun y hy'=>?_) ?_)
    ·obtain ⟨e',he,rfl⟩:=List.mem_map.mp hy'
     obtain ⟨b',h1,h2⟩:=hy e' (by
      have:=Array.mem_toList_iff.mp he
      exact Array.mem_toList_iff.mpr (Array.mem_filter.mp this).1)
     exact ⟨_,b',h1,h2⟩
    ·simp only [Bool.false_eq_true,if_false]
     exact rest
end
def Yx (t:SetTable) (es:Array (Int × Value)):Prop:=∀ j e,(j,e) ∈ t.place.toList.zip es.toList->WT t e.1 j
theorem S1 {α β:Type} {as:List α} {bs:List β} {i:Nat} {a:α} {b:β} (h1:as[i]? = some a) (h2:bs[i]? = some b):(a,b) ∈ as.zip bs:=by
 rw [List.mem_iff_getElem?]
 exact ⟨i,List.getElem?_zip_eq_some.mpr ⟨h1,h2⟩⟩
theorem TF {t:SetTable} {p j j0:Nat}:Occ { t with place:=SetTable.insertAt t.place p j0 } j ↔ j=j0 \/ Occ t j:=by
 unfold Occ
 show j ∈ (SetTable.insertAt t.place p j0).toList ↔ _
 rw [SetTable.toList_insertAt,List.mem_append,List.mem_cons]
 conv=>rhs; rw [← List.take_append_drop p t.place.toList,List.mem_append]
 constructor
 ·rintro (z | z | z)
  ·exact .inr (.inl z)
  ·exact .inl z
  ·exact .inr (.inr z)
 ·rintro (z | z | z)
  ·exact .inr (.inl z)
  ·exact .inl z
  ·exact .inr (.inr z)
theorem sL {t:SetTable} {p j j0:Nat} {h:Int} (x:WT t h j):WT { t with place:=SetTable.insertAt t.place p j0 } h j:=by
 obtain ⟨n,h1,h2⟩:=x
 exact ⟨n,h1,fun n' hn'=>TF.mpr (.inr (h2 n' hn'))⟩
theorem Uo {t:SetTable} {es:Array (Int × Value)} {p j0:Nat} {e0:Int × Value} (hz:t.place.size=es.size) (hp:p<=es.size) (x:Yx t es) (h0:WT t e0.1 j0):Yx { t with place:=SetTable.insertAt t.place p j0 } (SetTable.insertAt es p e0):=by
 intro j e hm
 have hm':(j,e) ∈ (SetTable.insertAt t.place p j0).toList.zip (SetTable.insertAt es p e0).toList:=hm
 rw [SetTable.toList_insertAt,SetTable.toList_insertAt,List.zip_append (by rw [List.length_take,List.length_take,Array.length_toList,Array.length_toList,hz]),List.zip_cons_cons] at hm'
 have back:t.place.toList.zip es.toList=(t.place.toList.take p).zip (es.toList.take p) ++ (t.place.toList.drop p).zip (es.toList.drop p):=by
  rw [← List.zip_append (by rw [List.length_take,List.length_take,Array.length_toList,Array.length_toList,hz]),List.take_append_drop,List.take_append_drop]
 rcases List.mem_append.mp hm' with z | z
 ·exact sL (x j e (by rw [back]; exact List.mem_append_left _ z))
 ·rcases List.mem_cons.mp z with z | z
  ·injection z with z1 z2
   subst z1 z2
   exact sL h0
  ·exact sL (x j e (by rw [back]; exact List.mem_append_right _ z))
def TM (m:Nat):SetTable:={ mask:=m,place:=#[],dummies:=#[],finger:=0,led:=false,moves:=0,plain:=false }
def UT (o:Array (Option Nat)) (j:Nat):Prop:=∃ k,o[j]? = some (some k)
def R0 (m:Nat) (o:Array (Option Nat)) (h:Int) (j:Nat):Prop:=∃ n,(itP (TM m).advance n ((TM m).probeStart h)).j=j /\ ∀ n',n' < n->UT o (itP (TM m).advance n' ((TM m).probeStart h)).j
theorem wc {t:SetTable}:∀ (n:Nat) (p:SetTable.Probe),n<=p.more->itP t.advance n p = { p with j:=p.j+n,more:=p.more - n }
 | 0,p,_=>rfl
 | n+1,p,h=>by
  have e:t.advance p = { p with j:=p.j+1,more:=p.more - 1 }:=by
   unfold SetTable.advance
   rw [if_pos (by omega)]
  show itP t.advance n (t.advance p)=_
  rw [wc n (t.advance p) (by rw [e]; show n<=p.more - 1; omega),e]
  show ({ p with j:=p.j+1+n,more:=p.more - 1 - n }:SetTable.Probe)=_
  rw [show p.j+1+n=p.j+(n+1) by omega,show p.more - 1 - n=p.more - (n+1) by omega]
theorem ZG {o:Array (Option Nat)} {m j:Nat} (hz:o.size=m+1) (hj:j<=m) (h:(o.getD j (some 0)).isNone=false):UT o j:=by
 unfold UT
 have hj':j < o.size:=by omega
 unfold Array.getD at h
 rw [dif_pos hj'] at h
 cases e:o[j] with
 | none=>simp [e] at h
 | some k=>exact ⟨k,by rw [Array.getElem?_eq_getElem hj',e]⟩
theorem S2 {m i:Nat} (h:i<=m):SetTable.runEnd m i<=m:=by unfold SetTable.runEnd; split <;> omega
theorem S3 {m i:Nat}:i<=SetTable.runEnd m i:=by unfold SetTable.runEnd; split <;> omega
theorem qA {m:Nat} {o:Array (Option Nat)} (hz:o.size=m+1):∀ (fuel i pt j:Nat) (p:SetTable.Probe),p.i=i->p.perturb=pt->p.j=i->p.more=SetTable.runEnd m i - i->i<=m->SetTable.layClean.free m o fuel i pt=some j →
  ∃ n,(itP (TM m).advance n p).j=j /\ ∀ n',n' < n->UT o (itP (TM m).advance n' p).j
 | 0,i,pt,j,p,_,_,_,_,_,h=>by unfold SetTable.layClean.free at h; cases h
 | fuel+1,i,pt,j,p,e1,e2,e3,e4,hi,h=>by
  unfold SetTable.layClean.free at h
  have le:=S3 (m:=m) (i:=i)
  have el:=S2 hi
  split at h
  ·rename_i k hk
   cases h
   obtain ⟨hk1,hk2⟩:=List.find?_range_eq_some.mp hk
   have hkl:k<=p.more:=by have:=List.mem_range.mp hk2.1; omega
   refine ⟨k,?_,fun n' hn'=>?_⟩
   ·rw [wc k p hkl]; show p.j+k=_; omega
   ·rw [wc n' p (by omega)]
    show UT o (p.j+n')
    rw [e3]
    refine ZG hz (by omega) ?_
    have:=hk2.2 n' hn'
    simpa using this
  ·rename_i hk
   obtain ⟨q,q1,q2,q3,q4,q5⟩:=vG (t:=TM m) p.more p rfl
   have qi:q.i=(SetTable.leap m i pt).1:=by
    have:=congrArg Prod.fst q2
    rw [e1,e2] at this; exact this
   have qp:q.perturb=(SetTable.leap m i pt).2:=by
    have:=congrArg Prod.snd q2
    rw [e1,e2] at this; exact this
   have li:(SetTable.leap m i pt).1<=m:=by unfold SetTable.leap; exact Nat.le_of_lt_succ (Nat.mod_lt _ (Nat.succ_pos m))
   have qm:q.more=SetTable.runEnd m (SetTable.leap m i pt).1 - (SetTable.leap m i pt).1:=by
    have er:=wc (t:=TM m) p.more p (Nat.le_refl _)
    rw [Um,er] at q1
    have:q.more=((TM m).advance { p with j:=p.j+p.more,more:=p.more - p.more }).more:=by rw [q1]
    rw [this]
    unfold SetTable.advance
    rw [if_neg (by show ¬ p.more - p.more > 0; omega)]
    show SetTable.runEnd m (SetTable.leap m p.i p.perturb).1 - (SetTable.leap m p.i p.perturb).1=_
    rw [e1,e2]
   obtain ⟨n,n1,n2⟩:=qA hz fuel _ _ j q qi qp (by rw [q3,qi]) qm li h
   refine ⟨p.more+1+n,by rw [yN,q1]; exact n1,fun n' hn'=>?_⟩
   by_cases c:n' <= p.more
   ·rw [wc n' p c]
    show UT o (p.j+n')
    rw [e3]
    refine ZG hz (by omega) ?_
    have:=List.find?_eq_none.mp hk n' (List.mem_range.mpr (by omega))
    exact Bool.eq_false_iff.mpr this
   ·have:=n2 (n' - (p.more+1)) (by omega)
    rw [← q1,← yN,show p.more+1+(n' - (p.more+1))=n' by omega] at this
    exact this
def S4 (m:Nat) (o:Array (Option Nat)) (Hf:Nat->Int):Prop:=∀ j k,o[j]? = some (some k)->R0 m o (Hf k) j
theorem WW {o:Array (Option Nat)} {j j0 k:Nat} (h0:o[j0]? = some none) (h:UT o j):UT (o.setIfInBounds j0 (some k)) j:=by
 obtain ⟨k',h⟩:=h
 have ne:j0 ≠ j:=fun z=>by rw [z,h] at h0; cases h0
 exact ⟨k',by rw [Array.getElem?_setIfInBounds_ne ne]; exact h⟩
theorem WX {m:Nat} (hm:vF m) {owner:Array (Option Nat)} {k:Nat} {Hf:Nat->Int} (hz:owner.size=m+1) (ow:(owner.toList.filterMap id).Perm (List.range k)) (pv:S4 m owner Hf) (hk:k<=m) {h:Int} (eh:Hf k=h) :
  ∃ o',Ri m (some (owner,k)) h=some (o',k+1) /\ o'.size=m+1 /\ (o'.toList.filterMap id).Perm (List.range (k+1)) /\ S4 m o' Hf:=by
 obtain ⟨t,t1,t2⟩:=ju (l:=owner.toList) (by have:=ow.length_eq; rw [List.length_range] at this; rw [this,Array.length_toList,hz]; omega)
 rw [Array.length_toList,hz] at t1
 obtain ⟨L,l1,l2⟩:=qt hm (i:=SetTable.bits h % (m+1)) (TB h) (show t<=m by omega)
 have t3:(owner.getD t (some 0)).isNone=true:=by
  rw [Array.getElem?_toList] at t2
  have ht:t < owner.size:=by omega
  have e:owner[t]=none:=by
   rw [Array.getElem?_eq_getElem ht] at t2
   exact Option.some.inj t2
  unfold Array.getD
  rw [dif_pos ht]
  simp [e]
 obtain ⟨j,j1,j2⟩:=qu (m:=m) (owner:=owner) L (SetTable.turns m) (SetTable.bits h % (m+1)) (SetTable.bits h) (by show L < m+15; omega) (by rw [l2]; exact t3)
 have hj:=WJ j2
 refine ⟨owner.setIfInBounds j (some k),?_,?_,?_,fun j' k' hj'=>?_⟩
 ·unfold Ri
  show (SetTable.layClean.free m owner (SetTable.turns m) (SetTable.bits h % (m+1)) (SetTable.bits h)).bind _=_
  rw [j1]; rfl
 ·rw [Array.size_setIfInBounds]; exact hz
 ·rw [Array.toList_setIfInBounds]
  have hj':=hj
  rw [← Array.getElem?_toList] at hj'
  refine (Uf hj').trans ?_
  rw [List.range_succ]
  exact ((List.Perm.cons k ow).trans (by simpa using (List.perm_append_singleton k (List.range k)).symm))
 ·by_cases c:j=j'
  ·subst c
   have hjs:j < owner.size:=(Array.getElem?_eq_some_iff.mp hj).1
   rw [Array.getElem?_setIfInBounds_self_of_lt hjs] at hj'
   injection hj' with hj'
   injection hj' with hj'
   subst hj'
   rw [eh]
   obtain ⟨n,n1,n2⟩:=qA hz (SetTable.turns m) (SetTable.bits h % (m+1)) (SetTable.bits h) j ((TM m).probeStart h) rfl rfl rfl rfl (Nat.le_of_lt_succ (Nat.mod_lt _ (Nat.succ_pos m))) j1
   exact ⟨n,n1,fun n' hn'=>WW hj (n2 n' hn')⟩
  ·rw [Array.getElem?_setIfInBounds_ne c] at hj'
   obtain ⟨n,n1,n2⟩:=pv j' k' hj'
   exact ⟨n,n1,fun n' hn'=>WW hj (n2 n' hn')⟩
theorem qB {m:Nat} (hm:vF m) {Hf:Nat->Int}:∀ (hs:List Int) (owner:Array (Option Nat)) (k:Nat),owner.size=m+1->(owner.toList.filterMap id).Perm (List.range k)->S4 m owner Hf->k+hs.length<=m->(∀ (i:Nat) (h:Int),hs[i]? = some h->Hf (k+i)=h) →
  ∃ o',hs.foldl (Ri m) (some (owner,k))=some (o',k+hs.length) /\ o'.size=m+1 /\ (o'.toList.filterMap id).Perm (List.range (k+hs.length)) /\ S4 m o' Hf
 | [],owner,k,hz,ow,pv,_,_=>⟨owner,rfl,hz,ow,pv⟩
 | h :: hs,owner,k,hz,ow,pv,hk,hf=>by
  rw [List.length_cons] at hk
  obtain ⟨o1,a1,a2,a3,a4⟩:=WX hm hz ow pv (by omega) (hf 0 h rfl)
  obtain ⟨o2,b1,b2,b3,b4⟩:=qB hm hs o1 (k+1) a2 a3 a4 (by omega) (fun i h' hi=>by rw [show k+1+i=k+(i+1) by omega]; exact hf (i+1) h' (by rw [List.getElem?_cons_succ]; exact hi))
  refine ⟨o2,?_,b2,?_,b4⟩
  ·rw [List.foldl_cons,a1,b1,List.length_cons]; congr 2; omega
  ·rw [List.length_cons,show k+(hs.length+1)=k+1+hs.length by omega]; exact b3
theorem Yy {m:Nat} (hm:vF m) {hashes:Array Int} (hk:hashes.size<=m):∃ o',SetTable.layClean m hashes=some o' /\ o'.size=m+1 /\ (o'.toList.filterMap id).Perm (List.range hashes.size) /\ S4 m o' fun k=>hashes.getD k 0:=by
 have e0:((Array.replicate (m+1) (none:Option Nat)).toList.filterMap id)=[]:=by
  rw [Array.toList_replicate]
  generalize m+1=n
  induction n with
  | zero=>rfl
  | succ n ih=>rw [List.replicate_succ]; exact ih
 obtain ⟨o',a1,a2,a3,a4⟩:=qB hm (Hf:=fun k=>hashes.getD k 0) hashes.toList (Array.replicate (m+1) none) 0 (by rw [Array.size_replicate]) (by rw [e0]; exact List.Perm.refl _) (fun j k z=>by
  rw [Array.getElem?_replicate] at z
  split at z <;> cases z) (by rw [Array.length_toList]; omega) (fun i h hi=>by
  rw [Array.getElem?_toList] at hi
  obtain ⟨h1,h2⟩:=Array.getElem?_eq_some_iff.mp hi
  rw [Nat.zero_add]
  unfold Array.getD
  rw [dif_pos h1]
  exact h2)
 refine ⟨o',?_,a2,by simpa using a3,a4⟩
 unfold SetTable.layClean
 rw [← Array.foldl_toList]
 show Option.map _ (hashes.toList.foldl (Ri m) (some (Array.replicate (m+1) none,0)))=_
 rw [a1]; rfl
theorem UU {α β:Type}:∀ l:List (α × β),(l.map (·.1)).zip (l.map (·.2))=l
 | []=>rfl
 | (a,b) :: l=>by rw [List.map_cons,List.map_cons,List.zip_cons_cons,UU l]
def vd (m:Nat) (o:Array (Option Nat)):List (Nat × Nat):=(List.range (m+1)).filterMap fun j=>(o.getD j none).map (j,·)
theorem ZH {m:Nat} {o:Array (Option Nat)} (hz:o.size=m+1) {j k:Nat}:(j,k) ∈ vd m o ↔ o[j]? = some (some k):=by
 unfold vd
 rw [List.mem_filterMap]
 constructor
 ·rintro ⟨i,hi,e⟩
  obtain ⟨k',e1,e2⟩:=Option.map_eq_some_iff.mp e
  injection e2 with e2 e3
  subst e2 e3
  have hi':i < o.size:=by rw [hz]; exact List.mem_range.mp hi
  unfold Array.getD at e1
  rw [dif_pos hi'] at e1
  rw [Array.getElem?_eq_getElem hi']
  exact congrArg some e1
 ·intro e
  obtain ⟨h1,h2⟩:=Array.getElem?_eq_some_iff.mp e
  refine ⟨j,List.mem_range.mpr (by omega),?_⟩
  unfold Array.getD
  rw [dif_pos h1]
  show Option.map _ (o[j])=_
  rw [h2]; rfl
theorem Up {m:Nat} {o:Array (Option Nat)}:((vd m o).map (·.1)).Pairwise (· < ·):=by
 have e:(vd m o).map (·.1)=(List.range (m+1)).filter fun j=>(o.getD j none).isSome:=by
  unfold vd
  rw [List.map_filterMap,← List.filterMap_eq_filter]
  congr 1
  funext j
  show Option.map (fun x=>x.1) (Option.map (fun x=>(j,x)) (o.getD j none))=_
  cases e:o.getD j none with
  | none=>simp [Option.guard,e]
  | some v=>simp [Option.guard,e]
 rw [e]
 exact List.pairwise_lt_range.sublist List.filter_sublist
theorem qC {α β:Type} {f:α -> Option β} {g:α -> β}:∀ {l:List α},(∀ x ∈ l,f x=some (g x))->l.filterMap f=l.map g
 | [],_=>rfl
 | a :: l,h=>by
  rw [List.filterMap_cons,h a (by simp),List.map_cons]
  dsimp only
  rw [qC fun x hx=>h x (by simp [hx])]
theorem Uq {t:SetTable} {es:Array (Int × Value)} {wanted:Nat} (hm:vF (SetTable.sizeAbove wanted - 1)) (hk:es.size<=SetTable.sizeAbove wanted - 1) :
  ∃ t' order,t.relaid (es.map (·.1)) wanted=some (t',order) /\ t'.mask=SetTable.sizeAbove wanted - 1 /\ t'.place.size=es.size /\ t'.dummies = #[] /\ order.toList.Perm (List.range es.size) /\ uY t'.place /\ Yx t' (order.filterMap (es[·]?)):=by
 obtain ⟨o,a1,a2,a3,a4⟩:=Yy hm (hashes:=es.map (·.1)) (by rw [Array.size_map]; exact hk)
 rw [Array.size_map] at a3
 unfold SetTable.relaid SetTable.laid
 generalize SetTable.sizeAbove wanted - 1=m at *
 have e:=Ug a2
 have hs2:((vd m o).map (·.2)).Perm (List.range es.size):=by rw [← e] at a3; exact a3
 have hl:=hs2.length_eq
 rw [List.length_map,List.length_range] at hl
 refine ⟨{ mask:=m,place:=((vd m o).map (·.1)).toArray,dummies:=#[],finger:=t.finger,led:=t.led,moves:=t.movedTo m,plain:=t.plain },((vd m o).map (·.2)).toArray,by rw [a1]; rfl,rfl,?_,rfl,hs2,?_,?_⟩
 ·show ((vd m o).map (·.1)).toArray.size=_
  rw [List.size_toArray,List.length_map]; exact hl
 ·rw [uI]
  exact Up
 ·intro j x hx
  have hx':(j,x) ∈ ((vd m o).map (·.1)).zip ((((vd m o).map (·.2)).toArray.filterMap (es[·]?)).toList):=hx
  have ef:(((vd m o).map (·.2)).toArray.filterMap (es[·]?)).toList=((vd m o).map (·.2)).map fun k=>es.getD k (0,.none):=by
   rw [Array.toList_filterMap]
   show ((vd m o).map (·.2)).filterMap (fun k=>es[k]?)=_
   refine qC fun k hk'=>?_
   have hk2:=List.mem_range.mp (hs2.mem_iff.mp hk')
   show es[k]? = some (es.getD k (0,.none))
   unfold Array.getD
   rw [dif_pos hk2,Array.getElem?_eq_getElem hk2]; rfl
  rw [ef,List.zip_map_right,UU] at hx'
  obtain ⟨⟨j',k⟩,hjk,e2⟩:=List.mem_map.mp hx'
  injection e2 with e3 e4
  have e3':j' = j:=e3
  have e4':es.getD k (0,.none)=x:=e4
  subst e3'
  have ok:=(ZH a2).mp hjk
  have hk2:k < es.size:=List.mem_range.mp (hs2.mem_iff.mp (List.mem_map.mpr ⟨_,hjk,rfl⟩))
  obtain ⟨n,n1,n2⟩:=a4 _ _ ok
  have eh:(es.map (·.1)).getD k 0=x.1:=by
   rw [← e4']
   unfold Array.getD
   rw [dif_pos (by rw [Array.size_map]; exact hk2),dif_pos hk2]
   simp
  dsimp only at n1 n2
  rw [eh] at n1 n2
  refine ⟨n,n1,fun n' hn'=>?_⟩
  obtain ⟨k',hk'⟩:=n2 n' hn'
  exact List.mem_map.mpr ⟨_,(ZH a2).mpr hk',rfl⟩
def vH (ks:List (Int × Int)) (k:Int × Int):List (Int × Int):=if k ∈ ks then ks else ks ++ [k]
def Yz (ks:List (Int × Int)):List (Int × Int):=ks.foldl vH []
def Rj (kA:Addr->Int × Int):Value->Int × Int
 | .ref b=>kA b
 | _=>(0,0)
structure SetQS (prog:Program) (w:World) (h:Heap) (a:Addr) (kA:Addr->Int × Int) (bs:Addr->Prop) (ks:List (Int × Int)) (es:Array (Int × Value)) (ep:Nat) (t:SetTable):Prop where
 at_:h.get? a=some (vQ es ep t)
 el:∀ e ∈ es.toList,∃ b,bs b /\ e.2=Value.ref b /\ e.1=ux (uw prog w) (uw prog w) (kA b)
 pm:(es.toList.map fun e=>Rj kA e.2).Perm ks
 pz:t.place.size=es.size
 dm:t.dummies = #[]
 room:(t.mask=7 /\ es.size<=4) \/ (t.mask=31 /\ es.size<=18) \/ (t.mask=127 /\ es.size<=60)
 rise:uY t.place
 path:Yx t es
def ve (prog:Program) (w:World) (h:Heap) (a:Addr) (kA:Addr->Int × Int) (bs:Addr->Prop) (ks:List (Int × Int)):Prop:=∃ es ep t,SetQS prog w h a kA bs ks es ep t
section
variable {prog:Program} {w:World} {A:Around} {E:QN} {s:Shared} {a:Addr} {kA:Addr->Int × Int} {bs:Addr->Prop} {ks:List (Int × Int)}
theorem SetQS.mk_ {h:Heap} {es ep t} (S:SetQS prog w h a kA bs ks es ep t):vF t.mask:=by
 rcases S.room with ⟨z,_⟩ | ⟨z,_⟩ | ⟨z,_⟩
 ·exact .inl z
 ·exact .inr (.inl z)
 ·exact .inr (.inr z)
theorem SetQS.fit {h:Heap} {es ep t} (S:SetQS prog w h a kA bs ks es ep t):t.fits es.size=true:=by
 refine jv S.dm S.pz ?_
 rcases S.room with ⟨z,l⟩ | ⟨z,l⟩ | ⟨z,l⟩ <;> rw [z] <;> omega
theorem SetQS.len {h:Heap} {es ep t} (S:SetQS prog w h a kA bs ks es ep t):es.size=ks.length:=by
 have:=S.pm.length_eq
 rw [List.length_map,Array.length_toList] at this
 exact this
theorem ve.keep {h h':Heap} (S:ve prog w h a kA bs ks) (k:∀ o,h.get? a=some o->h'.get? a=some o):ve prog w h' a kA bs ks:=by
 obtain ⟨es,ep,t,S⟩:=S
 exact ⟨es,ep,t,{ S with at_:=k _ S.at_ }⟩
set_option maxHeartbeats 1600000 in
theorem WY {es:Array (Int × Value)} {ep:Nat} {t:SetTable} {wanted:Nat} {Q:Unit->Shared->Prop} (ho:s.heap.get? a=some (vQ es ep t)) (fit:t.fits es.size=true) (hz:es.size<=60) (hm:vF (SetTable.sizeAbove wanted - 1)) (hk:es.size<=SetTable.sizeAbove wanted - 1)
  (h:∀ h' es1 t1,Heap.SameBut a s.heap h' -> h'.get? a=some (vQ es1 (ep+1) t1)->es1.toList.Perm es.toList->t1.mask=SetTable.sizeAbove wanted - 1->t1.place.size=es.size->t1.dummies = #[]->uY t1.place->Yx t1 es1->Q () { s with heap:=h' }) :
  wpAny (model prog w) A (setRelay a wanted) Q E s:=by
 obtain ⟨t',order,r1,r2,r3,r4,r6,r7,r8⟩:=Uq (t:=t) (es:=es) (wanted:=wanted) hm hk
 have p:=WK (es:=es) r6
 have z:(order.filterMap (es[·]?)).size=es.size:=by have:=p.length_eq; rw [Array.length_toList,Array.length_toList] at this; exact this
 unfold setRelay
 refine wpAny_bind (wpAny_setState_of ho rfl fit ?_)
 dsimp only
 have w128:SetTable.sizeAbove wanted<=128:=by rcases hm with y | y | y <;> omega
 have zline:=sizeLine_eq
 rw [if_neg (by omega)]
 rw [r1]
 refine wpAny_bind ?_
 show wpAny _ _ (do
  if (order.filterMap (es[·]?)).size != es.size then unsupported "internal:set-table-lost-an-element"
  pure (order.filterMap (es[·]?),t')) _ _ _
 rw [if_neg (by rw [z]; simp)]
 refine wpAny_pure ?_
 dsimp only
 exact qw ho (by rw [z]; omega) fun h' sb hg=>h h' _ _ sb hg p r2 r3 r4 r7 r8
set_option maxHeartbeats 3200000 in
theorem ve.add {b:Addr} {Q:Bool->Shared->Prop} (S:ve prog w s.heap a kA bs ks) (hm:ks.length < 60) (hu:A.units+1 < cLine) (hk:∀ b,bs b->uZ prog w s.heap (kA b) b) (hb:bs b)
  (h:∀ bb h',Heap.SameBut a s.heap h' -> ve prog w h' a kA bs (vH ks (kA b))->Q bb { s with heap:=h' }) :
  wpAny (model prog w) A (setAddHashed a (.ref b) (ux (uw prog w) (uw prog w) (kA b))) Q E s:=by
 obtain ⟨es,ep,t,S⟩:=S
 have lz:=S.len
 generalize hhs:ux (uw prog w) (uw prog w) (kA b)=hs
 unfold setAddHashed setAddHashedIn
 refine wpAny_holding (wpAny_bind (wpAny_setState_of S.at_ rfl S.fit ?_))
 dsimp only
 rw [if_neg (by unfold byScan; simp [Value.scannable])]
 unfold setSearch
 have pm:t.place.size<=t.mask:=by rw [S.pz]; rcases S.room with ⟨z,l⟩ | ⟨z,l⟩ | ⟨z,l⟩ <;> rw [z] <;> omega
 have mem:∀ k,k ∈ ks ↔ ∃ e ∈ es.toList,Rj kA e.2=k:=fun k=>by rw [← S.pm.mem_iff,List.mem_map]
 refine wpAny_bind (search_any (key:=Rj kA) S.at_ S.fit S.mk_ S.dm hu (hk b hb) (fun e he=>?_) (fun he=>?_) (fun n hsl past=>?_) (10 * SetTable.turns t.mask) 0 100000 none rfl rfl (Ue S.mk_ S.dm pm hs) (Nat.le_refl _) ?_ (fun n' hn'=>absurd hn' (Nat.not_lt_zero _)))
 ·obtain ⟨c,h1,h2,_⟩:=S.el e he
  exact ⟨c,h2,by rw [h2]; exact hk c h1⟩
 ·dsimp only
  refine wpAny_pure (h false s.heap (Heap.SameBut.refl a s.heap) ?_)
  rw [show vH ks (kA b)=ks from if_pos ((mem _).mpr he)]
  exact ⟨es,ep,t,S⟩
 ·have fresh:kA b ∉ ks:=fun z=>by
   obtain ⟨e,he,ek⟩:=(mem _).mp z
   obtain ⟨c,c1,c2,c3⟩:=S.el e he
   have ec:kA c=kA b:=by rw [c2] at ek; exact ek
   have eh:e.1=hs:=by rw [c3,ec,hhs]
   obtain ⟨i,hi⟩:=List.mem_iff_getElem?.mp he
   have hi1:i < es.size:=by have:=(List.getElem?_eq_some_iff.mp hi).1; rwa [Array.length_toList] at this
   have hip:i < t.place.toList.length:=by rw [Array.length_toList,S.pz]; exact hi1
   obtain ⟨m,m1,m2⟩:=S.path _ e (S1 (List.getElem?_eq_getElem hip) hi)
   rw [eh] at m1 m2
   have occ_m:Occ t (itP t.advance m (t.probeStart hs)).j:=by rw [m1]; exact List.getElem_mem hip
   rcases Nat.lt_trichotomy m n with c' | c' | c'
   ·obtain ⟨i',e',s1,s2,s3⟩:=past m c'
    rw [m1] at s1
    have pl:=w9 s1
    have hi'1:=(Array.getElem?_eq_some_iff.mp pl).1
    have hpi:t.place[i]? = some t.place.toList[i]:=by rw [← Array.getElem?_toList]; exact List.getElem?_eq_getElem hip
    obtain ⟨q1,q2⟩:=Array.getElem?_eq_some_iff.mp pl
    obtain ⟨q3,q4⟩:=Array.getElem?_eq_some_iff.mp hpi
    have ei:i' = i:=by
     rcases Nat.lt_trichotomy i' i with z | z | z
     ·have:=S.rise _ _ q3 z; omega
     ·exact z
     ·have:=S.rise _ _ q1 z; omega
    subst ei
    rw [Array.getElem?_toList,s2] at hi
    injection hi with hi
    subst hi
    exact s3 ⟨eh,by rw [c2]; exact ec⟩
   ·subst c'
    exact WU S.rise S.dm hsl occ_m
   ·exact WU S.rise S.dm hsl (m2 n c')
  have hp:WT t hs (itP t.advance n (t.probeStart hs)).j:=⟨n,rfl,fun n' hn'=>by
   obtain ⟨i,_,s1,_⟩:=past n' hn'
   exact Ul s1⟩
  have fw:=Yr hsl
  generalize (itP t.advance n (t.probeStart hs)).j=j at hsl hp fw
  have es_:vH ks (kA b)=ks ++ [kA b]:=if_neg fresh
  rw [es_] at h
  dsimp only
  refine wpAny_bind (wpAny_setState_of S.at_ rfl S.fit ?_)
  dsimp only
  obtain ⟨p1,p2⟩:=S0 S.dm j
  have rp:=Uc S.rise fw
  rw [p1] at rp
  rw [p1,p2]
  have bz:=Ys t.place j
  have ez:=vc es (SetTable.below t.place j) (hs,Value.ref b) (by rw [← S.pz]; exact bz)
  have tz:=vc t.place (SetTable.below t.place j) j bz
  rw [S.pz] at tz
  have el1:∀ e ∈ (SetTable.insertAt es (SetTable.below t.place j) (hs,Value.ref b)).toList,∃ b,bs b /\ e.2=Value.ref b /\ e.1=ux (uw prog w) (uw prog w) (kA b):=fun e he=>by
   rw [SetTable.toList_insertAt] at he
   rcases List.mem_append.mp he with z | z
   ·exact S.el e (List.mem_of_mem_take z)
   ·rcases List.mem_cons.mp z with z | z
    ·exact ⟨b,hb,by rw [z],by rw [z,hhs]⟩
    ·exact S.el e (List.mem_of_mem_drop z)
  have pm1:((SetTable.insertAt es (SetTable.below t.place j) (hs,Value.ref b)).toList.map fun e=>Rj kA e.2).Perm (ks ++ [kA b]):=by
   rw [SetTable.toList_insertAt]
   refine ((List.perm_middle).map _).trans ?_
   rw [List.take_append_drop,List.map_cons]
   refine ((List.Perm.cons _ S.pm)).trans ?_
   exact (List.perm_append_singleton (kA b) ks).symm
  have pq1:=Uo (e0:=(hs,Value.ref b)) (j0:=j) S.pz (p:=SetTable.below t.place j) (by rw [← S.pz]; exact bz) S.path hp
  generalize SetTable.insertAt es (SetTable.below t.place j) (hs,Value.ref b)=es1 at ez el1 pm1 pq1 ⊢
  generalize SetTable.insertAt t.place (SetTable.below t.place j) j=pl1 at tz rp pq1 ⊢
  have main:∀ (t1:SetTable),t1.place=pl1->t1.dummies = #[]->t1.mask=t.mask->Yx t1 es1->wpAny (model prog w) A (do
    storeSet a es1 t1
    if !false && t1.tooFull then setRelay a (SetTable.grown (es.size+1))
    return true) Q E s:=by
   intro t1 e1 e2 e3 pq
   refine wpAny_bind (qw S.at_ (by omega) fun h1 sb1 g1=>?_)
   have fl:t1.fill=es.size+1:=by unfold SetTable.fill; rw [e1,e2,tz]; rfl
   by_cases c:t1.tooFull=true
   ·rw [c]
    simp only [Bool.not_false,Bool.and_self,if_true]
    have c2:t.mask * 3<=(es.size+1) * 5:=by unfold SetTable.tooFull at c; rw [fl,e3] at c; exact of_decide_eq_true c
    have cs:(es.size=4 /\ t.mask=7) \/ (es.size=18 /\ t.mask=31):=by
     rcases S.room with ⟨z,l⟩ | ⟨z,l⟩ | ⟨z,l⟩
     ·left; omega
     ·right; omega
     ·omega
    have sa:∃ mk,SetTable.sizeAbove (SetTable.grown (es.size+1)) - 1=mk /\ vF mk /\ es.size+1<=mk /\ ((mk=31 /\ es.size+1<=18) \/ (mk=127 /\ es.size+1<=60)):=by
     rcases cs with ⟨z,_⟩ | ⟨z,_⟩
     ·rw [z]; exact ⟨31,QH,.inr (.inl rfl),by omega,.inl ⟨rfl,by omega⟩⟩
     ·rw [z]; exact ⟨127,QI,.inr (.inr rfl),by omega,.inr ⟨rfl,by omega⟩⟩
    obtain ⟨mk,s1,s2,s3,s4⟩:=sa
    have f1:t1.fits es1.size=true:=jv e2 (by rw [e1,tz,ez]) (by rw [ez,e3]; omega)
    refine wpAny_bind (WY (s:={ s with heap:=h1 }) g1 f1 (by omega) (by rw [s1]; exact s2) (by rw [s1,ez]; exact s3) fun h2 es2 t2 sb2 g2 pm2 m2 z2 d2 r2 q2=>?_)
    have z3:es2.size=es.size+1:=by have:=pm2.length_eq; rw [Array.length_toList,Array.length_toList] at this; rw [this,ez]
    refine wpAny_pure (h true _ (sb1.trans sb2) ⟨es2,_,t2,g2,fun e he=>el1 e (pm2.mem_iff.mp he),(pm2.map _).trans pm1,by rw [z2,ez,z3],d2,?_,r2,q2⟩)
    rw [m2,s1,z3]
    rcases s4 with y | y
    ·exact .inr (.inl y)
    ·exact .inr (.inr y)
   ·rw [Bool.not_eq_true] at c
    rw [c]
    simp only [Bool.and_false,Bool.false_eq_true,if_false]
    refine wpAny_pure (h true _ sb1 ⟨es1,_,t1,g1,el1,pm1,by rw [e1,tz,ez],e2,?_,by rw [e1]; exact rp,pq⟩)
    have c2:(es.size+1) * 5 < t.mask * 3:=by unfold SetTable.tooFull at c; rw [fl,e3] at c; exact Nat.lt_of_not_le (of_decide_eq_false c)
    rw [e3,ez]
    rcases S.room with ⟨z,l⟩ | ⟨z,l⟩ | ⟨z,l⟩
    ·left; exact ⟨z,by omega⟩
    ·right; left; exact ⟨z,by omega⟩
    ·right; right; exact ⟨z,by omega⟩
  split
  ·refine wpAny_bind (Uh (hk b hb) ?_)
   simp only [if_true]
   exact main _ rfl S.dm rfl pq1
  ·refine wpAny_bind (wpAny_pure ?_)
   simp only [if_true]
   exact main _ rfl S.dm rfl pq1
 ·show 10 * (t.mask+15) < 100000
  rcases S.mk_ with z | z | z <;> rw [z] <;> decide
end
theorem TH {ks:List (Int × Int)}:(Yz ks).length<=ks.length:=by
 have key:∀ (ks acc:List (Int × Int)),(ks.foldl vH acc).length<=acc.length+ks.length:=by
  intro ks
  induction ks with
  | nil=>intro acc; exact Nat.le_refl _
  | cons k ks ih =>
   intro acc
   rw [List.foldl_cons,List.length_cons]
   have:=ih (vH acc k)
   have:(vH acc k).length<=acc.length+1:=by
    unfold vH
    split
    ·omega
    ·rw [List.length_append]; exact Nat.le_refl _
   omega
 have:=key ks []
 rw [List.length_nil,Nat.zero_add] at this
 exact this
theorem TJ {ks:List (Int × Int)}:(Yz ks).length=ks.length ↔ ks.Nodup:=by
 have key:∀ (ks acc:List (Int × Int)),acc.Nodup->((ks.foldl vH acc).length=acc.length+ks.length ↔ (acc ++ ks).Nodup) /\ (ks.foldl vH acc).length<=acc.length+ks.length:=by
  intro ks
  induction ks with
  | nil=>intro acc h; simp [h]
  | cons k ks ih =>
   intro acc h
   rw [List.foldl_cons,List.length_cons]
   by_cases c:k ∈ acc
   ·have e:vH acc k=acc:=if_pos c
    rw [e]
    obtain ⟨_,i2⟩:=ih acc h
    refine ⟨⟨fun z=>by omega,fun z=>?_⟩,by omega⟩
    rw [List.nodup_append] at z
    exact absurd rfl (z.2.2 k c k (by simp))
   ·have e:vH acc k=acc ++ [k]:=if_neg c
    rw [e]
    have nd:(acc ++ [k]).Nodup:=List.nodup_append.mpr ⟨h,by simp,fun x hx y hy z=>by rw [List.mem_singleton.mp hy] at z; exact c (z ▸ hx)⟩
    obtain ⟨i1,i2⟩:=ih (acc ++ [k]) nd
    rw [List.length_append,List.length_singleton] at i1 i2
    rw [List.append_assoc] at i1
    exact ⟨⟨fun z=>i1.mp (by omega),fun z=>by have:=i1.mpr z; omega⟩,by omega⟩
 have:=(key ks [] (by simp)).1
 rw [List.length_nil,Nat.zero_add,List.nil_append] at this
 exact this
section
variable {prog:Program} {w:World} {A:Around} {E:QN} {s:Shared}
theorem WZ {R:Result->Shared->Prop} {I:Addr} {fp wr:List Addr} {n:Nat} {P:Nat->Value->Prop} {St:Nat->Heap->Prop} (W:Walks prog w A.in1 I fp wr n P St) (S:Addr) (hSf:S ∉ fp)
  (kA:Addr->Int × Int) (ad:Nat->Addr) (hval:∀ i v,P i v->v = .ref (ad i)) (hb:n<=50) (hu:A.in1.units+1 < cLine) (had:∀ i,i < n->ad i ∉ S :: wr) :
  ∀ (k i:Nat) (s:Shared),n - i=k->i<=n->St i s.heap->ve prog w s.heap S kA (fun b=>∃ i,i < n /\ ad i=b) (Yz ((List.range i).map fun i=>kA (ad i)))->(∀ i,i < n->uZ prog w s.heap (kA (ad i)) (ad i)) →
   (∀ s',Moved (S :: wr) (fun a b=>b=a) s s' -> ve prog w s'.heap S kA (fun b=>∃ i,i < n /\ ad i=b) (Yz ((List.range n).map fun i=>kA (ad i)))->R (.ok (.ret .none)) s') →
   codeAny (model prog w) A (.builtin "set.update.loop" ⟨[.ref S,.ref I],[]⟩) R s:=by
 have WS:=W.toS
 have hSw:S ∉ wr:=fun h=>hSf (W.sub _ h)
 have hsub:∀ b ∈ wr,b ∈ S :: wr:=fun b hb=>List.mem_cons_of_mem _ hb
 intro k
 induction k with
 | zero =>
  intro i s hk hi hst hS hK hR
  have e:i=n:=by omega
  subst e
  refine codeAny_builtin F.entry_set_update_loop ?_
  rw [Around.under_plainId F.plain_set_update_loop _]
  show wpAny _ A.in1 (pyNext (.ref I) >>= _) _ _ s
  refine wpAny_bind (WS.done s _ _ hst fun s' hm=>?_)
  show wpAny _ A.in1 (ret Value.none) _ _ s'
  exact wpAny_pure (hR s' (hm.mono hsub) (hS.keep fun o e=>hm.heap S o hSw e))
 | succ k ih =>
  intro i s hk hi hst hS hK hR
  have hlt:i < n:=by omega
  refine codeAny_builtin F.entry_set_update_loop ?_
  rw [Around.under_plainId F.plain_set_update_loop _]
  show wpAny _ A.in1 (pyNext (.ref I) >>= _) _ _ s
  refine wpAny_bind (WS.item i s _ _ hlt hst fun v s' hP hst' hm=>?_)
  obtain rfl:=hval i v hP
  show wpAny _ A.in1 (holding [Value.ref (ad i)] (setAdd S (.ref (ad i))) >>= _) _ _ s'
  refine wpAny_bind (wpAny_holding ?_)
  have hK':∀ i,i < n->uZ prog w s'.heap (kA (ad i)) (ad i):=fun j hj=>(hK j hj).keep fun o e=>hm.heap (ad j) o (fun z=>had j hj (hsub _ z)) e
  unfold setAdd
  refine wpAny_holding (wpAny_bind (Wb hu (hK' i hlt) ?_))
  have dl:=TH (ks:=(List.range i).map fun i=>kA (ad i))
  rw [List.length_map,List.length_range] at dl
  refine ve.add (s:={ s' with toks:=s'.toks+_ }) (hS.keep fun o e=>hm.heap S o hSw e) (by omega) hu (fun b hb=>?_) ⟨i,hlt,rfl⟩ fun bb h' hsb h2=>?_
  ·obtain ⟨j,hj,rfl⟩:=hb
   exact hK' j hj
  have e2:vH (Yz ((List.range i).map fun i=>kA (ad i))) (kA (ad i))=Yz ((List.range (i+1)).map fun i=>kA (ad i)):=by
   unfold Yz
   rw [List.range_succ,List.map_append,List.foldl_append]; rfl
  rw [e2] at h2
  refine wpAny_pure ⟨plainId_quiet F.plain_set_update_loop _,ih (i+1) _ (by omega) hlt (WS.frame _ s' _ _ hst' (Nat.le_add_right _ _) fun b hb o e=>?_) h2 (fun j hj=>(hK' j hj).keep fun o e=>?_) fun s'' hm'' h3=>?_⟩
  ·rw [hsb.2 b (fun h:b=S=>hSf (by rw [← h]; exact hb))]; exact e
  ·show h'.get? (ad j)=some o
   rw [hsb.2 (ad j) (fun h:ad j=S=>had j hj (by rw [h]; exact List.mem_cons_self))]; exact e
  ·refine hR s'' (Moved.trans WS.gtrans ((hm.mono hsub).then_heap (Nat.le_add_right _ _) fun b o hb e=>?_) hm'') h3
   rw [hsb.2 b (fun h:b=S=>hb (by rw [h]; exact List.mem_cons_self))]; exact e
theorem YA {led:Bool} {h:Heap} {a:Addr} {kA:Addr->Int × Int} {bs:Addr->Prop} (hg:h.get? a=some { cls:=.type "set",dict:=none,data:=.set #[] 0 (.fresh 0 0 led) }):ve prog w h a kA bs [] :=
 ⟨#[],0,_,hg,fun e he=>(by simp at he),List.Perm.refl _,rfl,rfl,.inl ⟨rfl,by simp⟩,fun i j hj _=>absurd hj (by simp [SetTable.fresh]),fun j e h=>by simp [SetTable.fresh] at h⟩
set_option maxHeartbeats 3200000 in
theorem YB {l:Addr} {items:Array Value} {kA:Addr->Int × Int} {ad:Nat->Addr} {Q:QN}
  (hh:A.handled=none) (hu:A.units+8 < cLine) (hl:s.heap.IsList l items) (hi:∀ (i:Nat) (v:Value),items[i]? = some v->v = .ref (ad i)) (hk:∀ i,i < items.size->uZ prog w s.heap (kA (ad i)) (ad i)) (hb:items.size<=50)
  (h:∀ (h':Heap) (tk:Nat),ve prog w h' s.heap.objs.size kA (fun b=>∃ i,i < items.size /\ ad i=b) (Yz ((List.range items.size).map fun i=>kA (ad i)))->(∀ b o,b < s.heap.objs.size->s.heap.get? b=some o->h'.get? b=some o)->Q (.ref s.heap.objs.size) { s with heap:=h',toks:=tk }) :
  wpAny (model prog w) A (call (.type "set") [.ref l]) Q E s:=by
 obtain ⟨c,tl,hmro⟩:=PySem.F.called_set.mro
 have hmade:=PySem.F.called_set.made
 have hsub:=PySem.F.called_set.sub
 refine wpAny_call (codeAny_of_tree ?_)
 show wpAny _ _ (callAny (.type "set") _) _ _ _
 refine wpAny_pure ⟨Code.quiet_builtin _ (by decide +kernel),codeAny_builtin PySem.F.entry_type_call ?_⟩
 rw [Around.under_plain (weight_type_call_type "set" [.ref l] []) rfl]
 have h1:=PySem.F.called_set.notType
 have h2:=PySem.F.called_set.canCreate
 have hct:=PySem.F.typeCall_set_1 (.ref l)
 repeat (any_goals (first | assumption | wp_step))
 generalize hled:(!w.params.followText "set-order")=led
 refine codeAny_mono (Ty (.ref l) (E:=E) (Q₁:=fun obj s₁=>obj = .ref s.heap.objs.size /\ s₁ = { s with heap:=s.heap.push { cls:=.type "set",dict:=none,data:=.set #[] 0 (.fresh 0 0 led) } }) ⟨rfl,by rw [hled]⟩) fun r s₁ hr=>?_
 cases r with
 | error e=>exact hr
 | ok fl =>
  cases fl with
  | ret obj =>
   obtain ⟨rfl,rfl⟩:=hr
   have hS:(s.heap.push { cls:=.type "set",dict:=none,data:=.set #[] 0 (.fresh 0 0 led) }).get? s.heap.objs.size=some { cls:=.type "set",dict:=none,data:=.set #[] 0 (.fresh 0 0 led) }:=Heap.get?_push_size _ rfl
   have hT:Shared.TypeIs { s with heap:=s.heap.push { cls:=.type "set",dict:=none,data:=.set #[] 0 (.fresh 0 0 led) } } (.ref s.heap.objs.size) "set":=⟨_,hS,rfl⟩
   have hli:=PySem.F.called_set.init.lookup
   have hbi:=PySem.F.called_set.init.bind (.ref s.heap.objs.size)
   repeat (any_goals (first | assumption | wp_step))
   refine codeAny_mono (codeAny_call_builtin (R:=wants (fun r s₂=>r = .none /\ ∃ h' tk,s₂ = { s with heap:=h',toks:=tk } /\ ve prog w h' s.heap.objs.size kA (fun b=>∃ i,i < items.size /\ ad i=b) (Yz ((List.range items.size).map fun i=>kA (ad i))) ∧
     (∀ b o,b < s.heap.objs.size->s.heap.get? b=some o->h'.get? b=some o)) E) PySem.F.called_set.init.plain PySem.F.entry_set_init (check_set_init_1 hT ?_)) fun r₂ s₂ hr₂=>?_
   ·obtain ⟨ol,hol,hcl,nl,hdl⟩:=hl
    obtain ⟨ocls,odict,odata,oslots⟩:=ol
    simp only at hcl hdl
    subst hcl; subst hdl
    have hol':(s.heap.push { cls:=.type "set",dict:=none,data:=.set #[] 0 (.fresh 0 0 led) }).get? l=some { cls:=.type "list",dict:=odict,data:=.seq items nl,slots:=oslots }:=Heap.get?_push_of_some _ hol
    have hsls:=PySem.F.sub_list_set
    have hslf:=PySem.F.sub_list_frozenset
    have hne:(Value.type "list" == Value.type "dict")=false:=by decide
    have hl1:(s.heap.push { cls:=.type "set",dict:=none,data:=.set #[] 0 (.fresh 0 0 led) }).IsList l items:=⟨_,hol',rfl,nl,rfl⟩
    unfold Builtin.«set.__init__» noKeywords Builtin.Frozenset.updateFrom
    generalize hPI:pyIter=PI
    wp_walk
    subst hPI
    refine wpAny_pyIter_list hl1 (wpAny_bind (wpAny_runValue ?_))
    have hlS:l < s.heap.objs.size:=Heap.lt_size hol
    have hz:(s.heap.push { cls:=.type "set",dict:=none,data:=.set #[] 0 (.fresh 0 0 led) }).objs.size=s.heap.objs.size+1:=Heap.size_push ..
    have nI:l ≠ (s.heap.push { cls:=.type "set",dict:=none,data:=.set #[] 0 (.fresh 0 0 led) }).objs.size:=by rw [hz]; exact Nat.ne_of_lt (Nat.lt_succ_of_lt hlS)
    have adl:∀ i,i < items.size->ad i < s.heap.objs.size:=fun i hi'=>by
     obtain ⟨o,_,_,_,ho,_⟩:=hk i hi'
     exact Heap.lt_size ho
    refine WZ (Walks.list (by simp [hh]) _ l nI items) s.heap.objs.size (by rw [hz]; simp only [List.mem_cons,List.mem_singleton,List.not_mem_nil,or_false,not_or]; exact ⟨Nat.ne_of_lt (Nat.lt_succ_self _),Nat.ne_of_gt hlS⟩) kA ad (fun i v hv=>hi i v hv) hb ?_ (fun i hi'=>by rw [hz]; simp only [List.mem_cons,List.mem_singleton,List.not_mem_nil,or_false,not_or]; exact ⟨Nat.ne_of_lt (adl i hi'),Nat.ne_of_lt (Nat.lt_succ_of_lt (adl i hi'))⟩) (items.size - 0) 0 _ (by omega) (Nat.zero_le _)
     ⟨⟨_,Heap.get?_push_size _ rfl,rfl,rfl⟩,(hl1.push _)⟩ (YA (Heap.get?_push_of_some _ hS)) (fun i hi'=>(hk i hi').keep fun o e=>Heap.get?_push_of_some _ (Heap.get?_push_of_some _ e)) fun s' hm hS'=>?_
    ·show A.units+1+1+1+1 < cLine
     omega
    obtain ⟨h',g',d',tk',os'⟩:=s'
    have eg:g' = s.gens:=hm.gens
    have ed:d' = s.drawn:=hm.drawn
    have eo:os' = s.os:=hm.os
    subst eg; subst ed; subst eo
    refine wpAny_pure ?_
    show wpAny _ _ (ret Value.none) _ _ _
    refine wpAny_pure ⟨rfl,h',tk',rfl,hS',fun b o hb e=>?_⟩
    exact hm.heap b o (by rw [hz]; simp only [List.mem_cons,List.mem_singleton,List.not_mem_nil,or_false,not_or]; exact ⟨Nat.ne_of_lt hb,Nat.ne_of_lt (Nat.lt_succ_of_lt hb)⟩) (Heap.get?_push_of_some _ (Heap.get?_push_of_some _ e))
   ·cases r₂ with
    | error e=>exact hr₂
    | ok fl₂ =>
     cases fl₂ with
     | ret r =>
      obtain ⟨rfl,h',tk,rfl,hS',hk'⟩:=hr₂
      repeat (any_goals (first | assumption | wp_step))
      exact h _ _ hS' hk'
     | _=>exact hr₂.elim
  | _=>exact hr.elim
theorem ve.pn {h:Heap} {a:Addr} {kA:Addr->Int × Int} {bs:Addr->Prop} {ks:List (Int × Int)} (S:ve prog w h a kA bs ks):jw h a ks.length:=by
 obtain ⟨es,ep,t,S⟩:=S
 refine ⟨fun i=>match es[i]? with | some (_,.ref b)=>b | _=>0,es,ep,t,S.at_,fun e he=>?_,S.len,by rw [S.pz,S.len],S.dm,by rw [← S.len]; exact S.room⟩
 obtain ⟨i,hi⟩:=List.mem_iff_getElem?.mp he
 obtain ⟨b,_,e2,_⟩:=S.el e he
 have hl:=(List.getElem?_eq_some_iff.mp hi).1
 rw [Array.length_toList,S.len] at hl
 refine ⟨i,hl,?_⟩
 rw [Array.getElem?_toList] at hi
 have ee:e=(e.1,Value.ref b):=by rw [← e2]
 rw [ee] at hi
 rw [hi,e2]
end
section
variable {X:Cx} {K:QM}
theorem W0 {k:Nat} (hK:X.K=K) (hr:Room k X.A):y7 X (.type "set") (fun xs H Q=>∃ a vs ks,xs=[V.ref a] /\ Q0 K H a vs /\ yP (PrL K H) vs ks /\ ks.length<=50 /\ ∀ l,H l=none->Q (.ref l) (QP H l (.ext fun h=>jw h l (Yz ks).length))):=by
 subst hK
 intro pins s σ H xs us Q I r h
 obtain ⟨a,vs,ks,rfl,ha,hA,hl,q⟩:=h
 obtain ⟨u,rfl,ru⟩:=xz r
 cases ru
 obtain ⟨its,rv,p,hz⟩:=I.list ha
 have hlen:=rv.length
 have al:=hA.len
 let ad:Nat->Addr:=fun i=>match its[i]? with
  | some (.ref b)=>b
  | _=>0
 obtain ⟨kA,hkA⟩:∃ kA:Addr->Int × Int,∀ b k,uZ X.prog X.w s.heap k b->kA b=k:=by
  refine ⟨fun b=>Classical.epsilon fun k=>uZ X.prog X.w s.heap k b,fun b k hk=>?_⟩
  have:=Classical.epsilon_spec (p:=fun k=>uZ X.prog X.w s.heap k b) ⟨k,hk⟩
  exact this.inj hk
 have key:∀ (i:Nat) (v:Value),its[i]? = some v->v = .ref (ad i) /\ ∃ k,ks[i]? = some k /\ uZ X.prog X.w s.heap k (ad i):=fun i v hv=>by
  obtain ⟨hj,ej⟩:=List.getElem?_eq_some_iff.mp hv
  obtain ⟨z,hz1,hz2⟩:=ja rv i hj
  rw [ej] at hz2
  obtain ⟨k,hk,b,rfl,hb⟩:=hA.get hz1
  obtain rfl:v=Value.ref b:=hz2
  have e:ad i=b:=by show (match its[i]? with | some (.ref b)=>b | _=>0)=b; rw [hv]
  rw [e]
  exact ⟨rfl,k,hk,hb.is I⟩
 have hz2:its.toArray.size=ks.length:=by rw [List.size_toArray,← al]; exact hlen.symm
 have hks:(List.range its.toArray.size).map (fun i=>kA (ad i))=ks:=by
  refine List.ext_getElem (by rw [List.length_map,List.length_range,hz2]) fun i h1 h2=>?_
  rw [List.getElem_map,List.getElem_range]
  rw [List.length_map,List.length_range,List.size_toArray] at h1
  obtain ⟨_,k,k1,k2⟩:=key i _ (List.getElem?_eq_getElem h1)
  rw [hkA _ _ k2]
  rw [List.getElem?_eq_getElem h2] at k1
  exact (Option.some.inj k1).symm
 refine YB (kA:=kA) (ad:=ad) hr.hd (by have:=hr.un; omega) p.isList (fun i v hv=>(key i v (by simpa using hv)).1) (fun i hi=>?_) (by rw [hz2]; exact hl) fun h' tk hS kp=>?_
 ·rw [List.size_toArray] at hi
  obtain ⟨_,k,k1,k2⟩:=key i _ (List.getElem?_eq_getElem hi)
  rw [hkA _ _ k2]; exact k2
 ·rw [hks] at hS
  exact ⟨.ref s.heap.objs.size,_,I.laid (t':=tk) (fun b o eb=>kp b o (Heap.lt_size eb) eb) (Nat.le_refl _) (zT.setP hS.pn),rfl,q _ (I.hok.fresh (Nat.le_refl _))⟩
end
def TK (h:Heap) (e:Addr):Prop:=∃ o vs,h.get? e=some o /\ o.data = .fields vs /\ vs[2]? = some .none
theorem sM:entryFor table "proto.unchain" = some Builtin.«proto.unchain»:=entryFor_of_fast (by kernel_rfl)
section
variable {prog:Program} {w:World} {A:Around} {E:QN} {s:Shared}
theorem YC {e x:Addr} {Q:QN} (hn:TK s.heap e) (h:Q .none s):wpAny (model prog w) A (runValue (.builtin "proto.unchain" ⟨[.ref x,.ref e,.ref e,.bool false],[]⟩)) Q E s:=by
 obtain ⟨o,vs,ho,hd,h2⟩:=hn
 refine wpAny_runValue (codeAny_builtin sM ?_)
 show wpAny _ _ (field (.ref e) 2 >>= _) _ _ s
 refine wpAny_bind (wpAny_field ho hd h2 ?_)
 exact wpAny_pure h
theorem vY {it l e:Addr} {i:Nat} {items:Array Value} {Q:Option Value->Shared->Prop} (hh:A.handled=some (.ref e)) (hne:e ≠ it) (hn:TK s.heap e)
  (hit:s.heap.IsListIter it l i) (hl:s.heap.IsList l items) (hx:items[i]? = none)
  (hQ:∀ h',Heap.ExtBut it s.heap h' -> Q none { s with heap:=h' }):wpAny (model prog w) A (pyNext (.ref it)) Q E s:=by
 obtain ⟨o,ho,hc,hd⟩:=id hit
 obtain ⟨ol,hol,_,nl,hdl⟩:=hl
 unfold pyNext
 refine wpAny_bind (wpAny_attempt (wpAny_callSpecial?_slot (name:=Str.ofString "__next__") hit.typeIs slot_listiter_next
  (wpAny_call_entry slot_listiter_next hit.typeIs entry_listiter_next ?_ (args_listiter_next _))))
 show wpAny _ _ (field (.ref it) 0 >>= _) _ _ s
 refine wpAny_bind (wpAny_field ho hd (x:=.ref l) rfl ?_)
 show wpAny _ _ (if (Value.ref l == Value.none)=true then _ else _) _ _ s
 rw [if_neg (show ¬ ((Value.ref l == Value.none)=true) from Bool.false_ne_true)]
 show wpAny _ _ (field (.ref it) 1 >>= _) _ _ s
 refine wpAny_bind (wpAny_field ho hd (x:=.int i 0) rfl ?_)
 show wpAny _ _ (seqItems? (.ref l) >>= _) _ _ s
 refine wpAny_bind (wpAny_seqItems hol hdl ?_)
 simp only [Int.toNat_natCast,hx]
 refine wpAny_bind (wpAny_rule (wpAny_bind (wpAny_setField ho hd (by simp) ?_)))
 show wpAny _ _ (newExc (.type "StopIteration") [] >>= _) _ _ _
 refine wpAny_bind ?_
 simp only [newExc,newTuple]
 refine wpAny_bind (wpAny_newObj_type ?_ (by size_fits))
 refine wpAny_bind (m:=firstArgMember _ _) (wpAny_of_eq (a:=Value.none) (by first | rfl | (simp only [firstArgMember]; rfl)) ?_)
 refine wpAny_newObj_type ?_ (by size_fits)
 simp only [raiseNew]
 refine wpAny_bind (wpAny_handled ?_)
 rw [show A.in1.handled=some (.ref e) from hh]
 obtain ⟨oe,vs,hoe,hde,h2⟩:=hn
 have sb:=Heap.SameBut.update s.heap it (Obj.mapFields (·.setIfInBounds 0 Value.none))
 generalize s.heap.update it (Obj.mapFields (·.setIfInBounds 0 Value.none))=h1 at sb ⊢
 have e1:h1.get? e=some oe:=(sb.2 e hne).trans hoe
 have e2:=Heap.get?_push_of_some (h:=h1) { cls:=Value.type "tuple",data:=Data.seq #[] } e1
 have lt:=Heap.lt_size e2
 have ext:Heap.ExtBut it s.heap (h1.push { cls:=Value.type "tuple",data:=Data.seq #[] }):=sb.extBut.push _
 generalize h1.push { cls:=Value.type "tuple",data:=Data.seq #[] } = h2' at e2 lt ext ⊢
 have hne2:Value.ref e ≠ Value.ref h2'.objs.size:=fun z=>Nat.ne_of_lt lt (Value.ref.inj z)
 dsimp only
 rw [if_pos (bne_iff_ne.mpr hne2)]
 generalize hO:({ cls:=Value.type "StopIteration",data:=Data.fields (#[Value.ref h1.objs.size,Value.none,Value.none,Value.none,Value.bool false,Value.none] ++ ownMembersOf (Value.type "StopIteration") []) }:Obj)=oS
 have hSd:oS.data=Data.fields (#[Value.ref h1.objs.size,Value.none,Value.none,Value.none,Value.bool false,Value.none] ++ ownMembersOf (Value.type "StopIteration") []):=by rw [← hO]
 have hSc:oS.cls=Value.type "StopIteration":=by rw [← hO]
 have e3:=Heap.get?_push_of_some (h:=h2') oS e2
 have eS:(h2'.push oS).get? h2'.objs.size=some oS:=Heap.get?_push_size _ (Obj.isFreed_of_fields hSd)
 refine wpAny_bind (wpAny_holding (YC ⟨oe,vs,e3,hde,h2⟩ ?_))
 refine wpAny_bind (m:=updateField _ _ _) ?_
 refine wpAny_setField (a:=h2'.objs.size) eS hSd (by rw [Array.size_append]; exact Nat.lt_of_lt_of_le (show 2 < 6 by decide) (Nat.le_add_right 6 _)) (wpAny_throw ?_)
 have e5:=Heap.get?_update_self (Obj.mapFields (·.setIfInBounds 2 (Value.ref e))) eS (Obj.isFreed_of_fields (Obj.data_mapFields hSd _))
 refine wpAny_bind (wpAny_isInstance (T:="StopIteration") (b:=true) ⟨_,e5,(Obj.cls_mapFields ..).trans hSc⟩ isSubtype_stop ?_)
 refine wpAny_pure (hQ _ fun b o' hb ho'=>?_)
 have q:=ext b o' hb ho'
 exact (Heap.get?_update_other _ _ (Nat.ne_of_gt (Heap.lt_size q))).trans (Heap.get?_push_of_some _ q)
theorem S6 {e:Addr} (hh:A.handled=some (.ref e)) (I ax:Addr) (hne:ax ≠ I) (he:e ≠ I) (items:Array Value) :
  Walks prog w A I [I,ax,e] [I] items.size (fun i v=>items[i]? = some v) (fun i h=>(h.IsListIter I ax i /\ h.IsList ax items) /\ TK h e) where
 sub:=fun b hb=>by simp at hb; simp [hb]
 frame:=fun _ _ _ st hk=>⟨⟨st.1.1.at fun o e=>hk I (by simp) o e,st.1.2.at fun o e=>hk ax (by simp) o e⟩,by obtain ⟨o,vs,z,r⟩:=st.2; exact ⟨o,vs,hk e (by simp) o z,r⟩⟩
 item:=fun i s Q E hi st hQ=>by
  refine wpAny_pyNext_list_item st.1.1 st.1.2 (x:=items[i]) (by simp [hi]) fun h' hit' hs'=>?_
  obtain ⟨o,vs,z,r⟩:=st.2
  exact hQ _ h' s.toks (by simp [hi]) ⟨⟨hit',st.1.2.extBut hs'.extBut hne⟩,⟨o,vs,hs'.extBut e o he z,r⟩⟩ fun b o hb e=>hs'.extBut b o (fun h=>hb (by simp [h])) e
 done:=fun s Q E st hQ=>vY hh he st.2 st.1.1 st.1.2 (by simp) fun h' he'=>hQ h' s.toks fun b o hb e=>he' b o (fun h=>hb (by simp [h])) e
 self:=fun _ _ _ _ st hQ=>wpAny_pyIter_listiter st.1.1 hQ
end
theorem W1 {X:Cx} {K:QM} {e:Addr} (hK:X.K=K) (hh:X.A.handled=some (.ref e)):y7 X (.builtin "any") (fun xs H Q=>∃ (l:Addr) (bs:List Bool) (C:Addr),xs=[.ref l] /\ H e=some (JR e C) /\ Q0 K H l (bs.map V.bl) /\ Q (.bl (bs.any id)) H):=by
 subst hK
 intro pins s σ H xs us Q I r h
 obtain ⟨l,bs,C,rfl,hE,hl,q⟩:=h
 obtain ⟨u,rfl,rx⟩:=xz r
 cases (show u=Value.ref l from rx)
 obtain ⟨vs,rv,pl,_⟩:=I.list hl
 have hl':s.heap.IsList l vs.toArray:=pl.isList
 have hb:LSm.BoolsAre vs bs:=wO rv
 have hlt:l < s.heap.objs.size:=by obtain ⟨_,e,_⟩:=hl'; exact Heap.lt_size e
 obtain ⟨oe,heo,_,ws,hed,hew⟩:=(I.hok e _ hE).1
 have het:e < s.heap.objs.size:=Heap.lt_size heo
 refine call_any_walk (wpAny_pyIter_list hl' ?_)
 refine ⟨s.heap.objs.size,[s.heap.objs.size,l,e],[s.heap.objs.size],vs.toArray.size,_,_,fun i=>(bs[i]?).getD true,rfl,S6 (A:=X.A.in1) hh _ l (Nat.ne_of_lt hlt) (Nat.ne_of_lt het) vs.toArray,
  ⟨⟨⟨_,Heap.get?_push_size _ rfl,rfl,rfl⟩,hl'.push _⟩,⟨oe,ws,Heap.get?_push_of_some _ heo,hed,hew⟩⟩,fun i v s' Q' E' hP hQ=>?_,fun h' tk hk=>?_⟩
 ·obtain ⟨b,e,rfl⟩:=hb.get i v (by simpa using hP)
  simp only [e,Option.getD_some] at hQ
  exact wpAny_truthy_bool hQ
 ·have e:((List.range vs.toArray.size).any fun i=>(bs[i]?).getD true)=bs.any id:=by
   have hlen:bs.length=vs.length:=by rw [← rv.length,List.length_map]
   rw [List.size_toArray,← hlen,Bool.eq_iff_iff,List.any_eq_true,List.any_eq_true]
   constructor
   ·rintro ⟨i,hi,z⟩
    have hi':=List.mem_range.mp hi
    exact ⟨bs[i],List.getElem_mem hi',by simpa [List.getElem?_eq_getElem hi'] using z⟩
   ·rintro ⟨b,hb',z⟩
    obtain ⟨i,hi,rfl⟩:=List.getElem_of_mem hb'
    exact ⟨i,List.mem_range.mpr hi,by simpa [List.getElem?_eq_getElem hi] using z⟩
  rw [e]
  exact ⟨.bl (bs.any id),H,I.kept (t':=tk) (h':=h') (LSm.kept_iter hk),rfl,q⟩
structure RoomH (k:Nat) (A:Around):Prop where
 dp:A.depth+3 * k+5 < recursionLimit
 un:A.units+16 * k+200 < cLine
theorem RoomH.mono {j k:Nat} {A:Around} (r:RoomH k A) (h:j<=k):RoomH j A:=⟨by have:=r.dp; omega,by have:=r.un; omega⟩
theorem RoomH.of {k:Nat} {X:Cx} {e:Addr} (r:Room k X.A):RoomH k (handX X e).A:=⟨r.dp,r.un⟩
abbrev cxH (P:Program) (w:World) (K:QM) (mg:Str->Option Value) (base:Heap) (N:List Str) (qual:Str) (scope:Scope) (f:Addr) (cd:Value) (A:Around) (outer:List Env) (s:Shared) (H:Hp):Cx :=
 { qZ Jt P w K mg base N qual scope f cd A outer s H E0 with calm:=false,xe:=fun _ _=>False }
structure FnOkH (P:Program) (w:World) (K:QM) (mg:Str->Option Value) (base:Heap) (k:Nat) (f:Addr) (fd:FuncData) (ps:List Str) (sp:Addr->Sp):Prop where
 len:∀ e vs H Q E,sp e vs H Q E->vs.length=ps.length
 run:∀ (A:Around) (outer:List Env) (s:Shared) (H:Hp) (args:Args) (us:List Value) (vs:List V) (Q:VK) (e:Addr),A.handled=some (.ref e)->RoomH k A->Env0 P w K mg base A outer s H->BindsTo s fd args (ps.zip us)->zP vs us->sp e vs H Q E0 →
  codeAny (model P w) A (.call (.ref f) args) (CR Jt outer P w H s Q E0) s
section
variable {P:Program} {w:World} {K:QM} {mg:Str->Option Value} {base:Heap}
theorem YD {N ps:List Str} {qual:Str} {scope:Scope} {f:Addr} {cd:Value} {A:Around} {outer:List Env} {s s1:Shared} {H:Hp} {us:List Value} {vs:List V}
  (S:FnScope N ps scope) (e0:Env0 P w K mg base A outer s H) (hl:vs.length=ps.length) (r:zP vs us)
  (x:InCallC s s.heap.objs.size (bindL (envOfC qual scope s.heap.objs.size f cd).kindOf (ps.zip us) fun _=>none) (cellsFrom (s.heap.objs.size+1) scope.names []) (bindC (envOfC qual scope s.heap.objs.size f cd).kindOf (ps.zip us) fun _=>none) s1) :
  Inv (cxH P w K mg base N qual scope f cd A outer s H) [] (start N vs) H s1:=by
 have e1:Env0 P w K mg base { A with handled:=none } outer s H:=⟨e0.frames,e0.mod,e0.bs,e0.bsz,e0.funs,e0.frf,e0.hok,e0.bare⟩
 have I:=rn (CX:=Jt) (E:=E0) (A:={ A with handled:=none }) (f:=f) (cd:=cd) (qual:=qual) S rfl e1 hl r x
 exact ⟨⟨I.ok.mod,I.ok.kind,I.ok.glob,I.ok.blt,I.ok.above,I.ok.inj,I.ok.has,I.ok.cab,fun z=>(nomatch z),Around.frames_deeper e0.frames,I.ok.stk,I.ok.exf,I.ok.bs,I.ok.bsz,I.ok.noex,I.ok.exfs,I.ok.funs,I.ok.frf⟩,I.os,I.bare,I.base,I.loc,I.cell,I.free,I.freeC,I.pin,I.hok,I.len⟩
theorem S7 {k:Nat} {x qual:Str} {st:Stmt} {f:Addr} {fd:FuncData} {N ps:List Str} {sp:Addr->Sp} (F:Fun K x qual st f fd) (S:FnScope N ps (zi st))
  (len:∀ e vs H Q E,sp e vs H Q E->vs.length=ps.length)
  (hbody:∀ (cdv:Value) (A:Around) (outer:List Env) (s:Shared) (H:Hp) (vs:List V) (Q:VK) (E:XK) (e:Addr),A.handled=some (.ref e)->RoomH k A->sp e vs H Q E0 →
   ∃ t,QW (cxH P w K mg base N qual (zi st) f cdv A outer s H) (xW st) t /\ t { nx:=fun _ H'=>Q .non H',rt:=Q } (start N vs) H) :
  FnOkH P w K mg base (k+1) f fd ps sp:=by
 obtain ⟨oc,od,kV,doc,pm,an,cdv,ct,osl,rfl,lk,hcd⟩:=F.ex
 refine ⟨len,fun A outer s H args us vs Q e hh hr e0 hb r hsp=>?_⟩
 have hl:=len _ _ _ _ _ hsp
 have KX:K.In s.heap:=e0.mod.kin.keeps fun b o e=>(e0.bs b o e).1
 have lim:s.heap.NoLimit:=e0.mod.nolimit.keeps fun b o e=>(e0.bs b o e).1
 have hkind:∀ y ∈ ps.zip us,(zi st).names.lookup y.1=some .local \/ ((zi st).names.lookup y.1=some .cell /\ ((cellsFrom (s.heap.objs.size+1) (zi st).names []).lookup y.1).isSome=true):=fun ⟨n,v⟩ hy=>by
  rcases S.par n (List.of_mem_zip hy).1 with q | q
  ·exact .inl q
  ·exact .inr ⟨q,PySem.W.cellsFrom_some _ _ _ (.inl q)⟩
 refine codeAny_call_function (by have:=hr.dp; omega) (KX _ _ lk) rfl S.co S.gen rfl (PySem.W.codeRec_of KX hcd) (hb _ _ _ _ ?_)
 refine wpAny_newFunctionEnv_cells S.kind hkind fun env he s1 x=>?_
 subst he
 refine ⟨lim.keeps x.toInCall.keep,codeAny_func ?_⟩
 obtain ⟨t,ht,hq⟩:=hbody cdv A outer s H vs Q E0 e hh (hr.mono (Nat.le_succ _)) hsp
 have I:=YD (f:=f) (cd:=cdv) (qual:=qual) S e0 hl r x
 refine wpAny_mono (ht [] s1 (start N vs) H _ I hq) (fun fl s' hs=>?_) fun e s' hs=>hs.elim
 have fin:∀ {σ':L2.St} {H':Hp} {v:V} {u:Value},Inv (cxH P w K mg base N qual (zi st) f cdv A outer s H) [] σ' H' s' -> zU v u->Q v H' -> CE outer P w H s Q u s' :=
  fun {σ' H' v u} J rv q=>⟨v,H',J.os,J.bare,J.base,J.hok,rv,q⟩
 cases fl with
 | ret u =>
  obtain ⟨v,σ',H',J,rv,q⟩:=hs
  exact fin J rv q
 | next =>
  obtain ⟨σ',H',J,q⟩:=hs
  exact fin (v:=V.non) (u:=Value.none) J rfl q
 | brk =>
  obtain ⟨_,_,_,q⟩:=hs
  exact False.elim q
 | cont =>
  obtain ⟨_,_,_,q⟩:=hs
  exact False.elim q
end
def wE (P:Program) (w:World) (K:QM) (mg:Str->Option Value) (base:Heap) (k:Nat) (x:Str) (ps:List Str) (sp:Addr->Sp):Prop :=
 ∃ (f:Addr) (fd:FuncData),FnOkH P w K mg base k f fd ps sp /\ sh K fd ps [] /\ PySem.W.keepIn K (.ref f)=true /\ mg x=some (.ref f)
theorem wE.mono {P:Program} {w:World} {K:QM} {mg:Str->Option Value} {base:Heap} {j k:Nat} {x:Str} {ps:List Str} {sp:Addr->Sp} (c:wE P w K mg base j x ps sp) (h:j<=k):wE P w K mg base k x ps sp:=by
 obtain ⟨f,fd,F,b,mt⟩:=c
 exact ⟨f,fd,⟨F.len,fun A outer s H args us vs Q e hh hr=>F.run A outer s H args us vs Q e hh (hr.mono h)⟩,b,mt⟩
section
variable {X:Cx} {k:Nat} {x:Str} {ps:List Str} {sp:Addr->Sp} {e:Expr} {es:List Expr} {t:TA} {pos p:Pos} {e0:Addr}
theorem ZI (c:wE X.prog X.w X.K X.mg X.base k x ps sp) (hh:X.A.handled=some (.ref e0)) (hr:RoomH k X.A) (hg:Gl X x)
  (ha:PA X (e :: es) t) (hdb:(x == ("__debug__":Str))=false:=by decide) (he:starEach (e :: es) X.env=(false,eval e X.env) :: starEach es X.env:=by rfl) (hpl:(backTo pos (starEach es X.env)).any (·.1)=false:=by rfl) :
  PE X (.Call (.Name x p) (e :: es) [] pos) (Vk (sp e0) [] E0 t):=by
 obtain ⟨f,fd,F,hb,hk,hm⟩:=c
 intro pins s σ H Q I h
 refine wpAny_Call_Name_kw (ua I hg hm ?_ hdb)
 refine PySem.W.callWith_K (h₀:=X.base) I.ok.mod.kin hk (QX (ha pos pins s σ H _ I h) fun us s1 ⟨vs,H1,I1,r,q⟩=>⟨I1.kIn,?_⟩) he hpl
 have q':sp e0 vs H1 Q E0:=by rw [← List.append_nil vs]; exact q
 have hl:(us ++ []).length=ps.length:=by rw [List.append_nil,← r.length]; exact F.len _ _ _ _ _ q'
 have hb':=hb s1 us I1.kIn hl
 rw [List.append_nil] at hb'
 refine wpAny_call (codeAny_mono (F.run X.A X.stack s1 H1 ⟨us,[]⟩ us vs Q e0 hh hr I1.env0 hb' r q') fun r s' hq=>?_)
 cases r with
 | error e=>exact hq.elim
 | ok fl =>
  cases fl with
  | ret u=>exact I1.after hq
  | next=>exact False.elim hq
  | brk=>exact False.elim hq
  | cont=>exact False.elim hq
end
def R1 (f:V->V->Hp->VK->XK->Prop):Sp:=fun vs H Q E=>∃ x y,vs=[x,y] /\ f x y H Q E
def Qg (f:V->V->V->Hp->VK->XK->Prop):Sp:=fun vs H Q E=>∃ x y z,vs=[x,y,z] /\ f x y z H Q E
theorem ZJ {f:V->V->Hp->VK->XK->Prop} {p q:Str}:∀ vs H Q E,R1 f vs H Q E->vs.length=[p,q].length:=by rintro vs H Q E ⟨x,y,rfl,_⟩; rfl
theorem Ur {f:V->V->V->Hp->VK->XK->Prop} {p q r:Str}:∀ vs H Q E,Qg f vs H Q E->vs.length=[p,q,r].length:=by rintro vs H Q E ⟨x,y,z,rfl,_⟩; rfl
structure KdN76 (K:QM) (cs:List Addr) (A:Addr):Prop where
 kk:∀ C ∈ A :: cs,ExcK K C
 kq:∀ (i:Nat) (C:Addr),cs[i]? = some C -> ∀ (j:Nat) (D:Addr),cs[j]? = some D->PySem.W.kitOne K (.ref C) (.ref D)=some (decide (i=j))
 kv:∀ C ∈ A :: cs,PySem.W.kitOne K (.ref C) (.type "ValueError")=some true
 kb:∀ C ∈ A :: cs,PySem.W.kitOne K (.ref C) (.ref A)=some true
 up:∀ C ∈ A :: cs,PySem.W.mroIn K C (.ref A)=some true
def UV (K:QM) (cs:List Addr) (A:Addr):Bool :=
 ((List.range cs.length).all fun i=>(List.range cs.length).all fun j=>PySem.W.kitOne K (.ref (cs.getD i 0)) (.ref (cs.getD j 0)) == some (i == j)) &&
  (A :: cs).all fun C=>PySem.W.kitOne K (.ref C) (.ref A) == some true && PySem.W.kitOne K (.ref C) (.type "ValueError") == some true && PySem.W.mroIn K C (.ref A) == some true
theorem kdN_of76 {K:QM} {cs:List Addr} {A:Addr} (h:UV K cs A=true) (k:∀ C ∈ A :: cs,ExcK K C):KdN76 K cs A:=by
 unfold UV at h
 simp only [Bool.and_eq_true,List.all_eq_true,beq_iff_eq,List.mem_range] at h
 obtain ⟨h2,h4⟩:=h
 refine ⟨k,fun i C hi j D hj=>?_,fun C hC=>(h4 C hC).1.2,fun C hC=>(h4 C hC).1.1,fun C hC=>(h4 C hC).2⟩
 have i16:=(List.getElem?_eq_some_iff.mp hi).1
 have j16:=(List.getElem?_eq_some_iff.mp hj).1
 have:=h2 i i16 j j16
 rw [List.getD_eq_getElem?_getD,List.getD_eq_getElem?_getD,hi,hj] at this
 rw [show PySem.W.kitOne K (.ref C) (.ref D)=some (i == j) from this]
 congr 1
theorem qD {K:QM} {cs:List Addr} {A C D a:Addr} {i j:Nat} {σ:L2.St} {H:Hp} {Q:VK} (k:KdN76 K cs A) (hc:cs[i]? = some C) (ha:H a=some (JR a C)) (hσ:σ[0]? = some (some (.ref a))) (hj:cs[j]? = some D) (q:Q (.bl (decide (i=j))) H) :
  Ji (SC K) (U0 (Rl 0) (U0 (tC (V.ref D)) R9)) σ H Q:=⟨_,hσ,a,C,_,_,_,rfl,ha,(fun u r=>r),k.kk C (List.mem_cons_of_mem _ (List.mem_of_getElem? hc)),k.kq i C hc j D hj,q⟩
def Qh (i:Nat):List V:=[.bl (decide (i=1)),.bl (decide (i=0)),.bl false]
def wj (cs:List Addr) (K:QM) (e:Addr):Sp:=Jx fun x H Q=>∃ (C:Addr) (i:Nat),x = .ref e /\ H e=some (JR e C) /\ cs[i]? = some C /\ i < 2 /\ ∀ l H',Grow [] H H' -> H' l=some (.lst (Qh i))->Q (.ref l) H'
def vg (A:Addr) (K:QM):Sp:=R1 fun x y H Q E=>∃ b cs,zI K H x b /\ 1<=b.length /\ b.length<=16 /\ zx K H y cs /\ Calls72 b.length cs /\ (yB cs -> ∀ H',Grow [] H H' -> Q .non H') /\ (¬ yB cs -> ∀ e H',Grow [] H H' -> E (.ref e) (some A) H')
def wm (A:Addr) (K:QM):Sp:=Qg fun x y z H Q E=>∃ (b:List Int) (cs:List Call72) (d:PyData) (m:List Addr),zI K H x b /\ 1<=b.length /\ b.length<=16 /\ zx K H y cs /\ Calls72 b.length cs /\ Od K m H z d /\ UJ d ∧
 (yB cs -> ∀ t H',(t=true ↔ vP b cs d)->Grow [] H H' -> Q (.bl t) H') /\ (¬ yB cs -> ∀ e H',Grow [] H H' -> E (.ref e) (some A) H')
def uM (A T:Addr) (K:QM):Sp:=R1 fun x y H Q E=>∃ b cs,zI K H x b /\ 1<=b.length /\ b.length<=16 /\ zx K H y cs /\ Calls72 b.length cs ∧
 (yB cs->cs.length<=8 -> ∀ v H',Grow [] H H' -> uC K H' v (wx cs b)->Q v H') /\ (¬ yB cs -> ∀ e H',Grow [] H H' -> E (.ref e) (some A) H') /\ (yB cs -> ¬ cs.length<=8 -> ∀ e H',Grow [] H H' -> E (.ref e) (some T) H')
open Classical in
noncomputable def tru76 (b:List Int) (cs:List Call72) (d:PyData):List V:=if yB cs then [.bl (decide (vP b cs d)),.bl (!decide (vP b cs d))] else [.bl false,.bl true,.bl false]
def tX (K:QM):Sp:=Jz fun x y z H Q=>∃ (b:List Int) (cs:List Call72) (d:PyData) (m:List Addr),zI K H x b /\ 1<=b.length /\ b.length<=16 /\ zx K H y cs /\ Calls72 b.length cs /\ Od K m H z d /\ UJ d /\ ∀ l H',Grow [] H H' -> H' l=some (.lst (tru76 b cs d))->Q (.ref l) H'
def vI (K:QM):Sp:=Jy fun x y H Q=>∃ b cs,zI K H x b /\ 1<=b.length /\ b.length<=16 /\ zx K H y cs /\ Calls72 b.length cs ∧
 (yB cs->cs.length<=8 -> ∀ v H',Grow [] H H' -> uC K H' v (wx cs b)->Q v H') /\ (¬ (yB cs /\ cs.length<=8) -> ∀ l H',Grow [] H H' -> (∀ o:Bool,(o=true ↔ yB cs)->H' l=some (.lst [.bl o,.bl !o,.bl false]))->Q (.ref l) H')
def uN (K:QM):Sp:=Jx fun x H Q=>∃ cs,zx K H x cs /\ cs.length<=40 /\ ∀ (o:Bool) H',Grow [] H H' -> (o=true ↔ yB cs)->Q (.bl o) H'
def ZK (K:QM):Sp:=Jz fun x y z H Q=>∃ (b:List Int) (cs:List Call72) (d:PyData) (m:List Addr),zI K H x b /\ b.length<=16 /\ zx K H y cs /\ Calls72 b.length cs /\ Od K m H z d /\ UJ d /\ ∀ t H',(t=true ↔ vP b cs d)->Grow [] H H' -> Q (.bl t) H'
def tY (K:QM):Sp:=Jx fun x H Q=>∃ p,x = .ref p /\ JA H p /\ ∀ (n m:Nat) (r:Addr) H',1<=n->n<=16->m<=8 * n->m<=40->Grow [p] H H' -> JA H' p->Q1 K H' r [.int n,.int m]->Q (.ref r) H'
structure Hist76 (b:List Int) (cs:List Call72):Prop where
 b1:1<=b.length
 b16:b.length<=16
 bb:∀ v ∈ b,JJ v
 ok:Calls72 b.length cs
 bd:∀ c ∈ cs,Cb72 (10 ^ 29) c
 inc:cs.Pairwise fun c d=>c.hand=d.hand->c.begun < d.begun
 pl:(XG b cs).isSome=true
def qE (K:QM):Sp:=Jx fun x H Q=>∃ p,x = .ref p /\ JA H p ∧
 ∀ (b:List Int) (cs:List Call72) (xs:List V) (r rb l:Addr) H',Hist76 b cs->Grow [p] H H' -> JA H' p->Q1 K H' r [.ref rb,.ref l]->Q1 K H' rb (b.map V.int)->H' l=some (.lst xs)->l ≠ p->yP (yy K H') xs cs->Q (.ref r) H'
theorem W2 {cs:List Call72} (h:cs.Pairwise fun c d=>c.hand=d.hand->c.begun < d.begun):(cs.map jx).Nodup:=by
 rw [List.Nodup,List.pairwise_map]
 refine h.imp fun {c d} hcd z=>?_
 have z1:c.hand=d.hand:=congrArg Prod.fst z
 have z2:c.begun=d.begun:=congrArg Prod.snd z
 have:=hcd z1
 omega
theorem YE {cs ds:List Call72} (h:ds.Perm cs) (o:yB cs):yB ds:=sI ((h.map jx).nodup_iff.mpr (ZE o))
theorem Us {cs:List Call72} {o:List Nat}:vC cs o=true ↔ (o.map (cg cs)).Pairwise fun c d=>¬ (d.hand=c.hand /\ d.begun < c.begun):=by
 rw [wa,List.pairwise_map]
 refine Iff.intro (fun h=>h.imp fun {k j} z w=>z ?_) (fun h=>h.imp fun {k j} z w=>z ?_)
 ·unfold zE
  rw [decide_eq_true w.1,decide_eq_true w.2]; rfl
 ·unfold zE at w
  rw [Bool.and_eq_true,decide_eq_true_eq,decide_eq_true_eq] at w
  exact w
theorem YF {b:List Int} {cs:List Call72} {ms:List Nat} (h:Hist76 b cs) (hp:ms.Perm (List.range cs.length)):uX b (ms.map (cg cs)) ((List.range cs.length).map fun j=>ms.idxOf j):=by
 have hl:(ms.map (cg cs)).length=cs.length:=by rw [List.length_map,hp.length_eq,List.length_range]
 refine ⟨by rw [hl]; exact tL hp,?_,?_⟩
 ·rw [Us,Zm hp]
  exact h.inc.imp fun {c d} z w=>by have:=z w.1.symm; omega
 ·rw [Te,Zm hp]; exact h.pl
theorem YG {b:List Int} {cs:List Call72} {ms:List Nat} (h:Hist76 b cs) (hp:ms.Perm (List.range cs.length)):yB (ms.map (cg cs)):=YE (wB hp) (sI (W2 h.inc))
def uO (K:QM):Sp:=Jy fun x y H Q=>∃ (p:Addr) (cs:List Call72) (n:Nat) (B:Int),x = .ref p /\ JA H p /\ zx K H y cs /\ Calls72 n cs /\ 0 < cs.length /\ (∀ c ∈ cs,Cb72 B c) ∧
 ∀ (cs':List Call72) (v:V) H',Calls72 n cs' -> cs'.length=cs.length->(∀ c ∈ cs',Cb72 (B+1) c)->Grow [p] H H' -> JA H' p->zx K H' v cs' -> Q v H'
def uP (K:QM):Sp:=Jy fun x y H Q=>∃ (p ro:Addr) (ns:List Nat),x = .ref p /\ y = .ref ro /\ JA H p /\ Q1 K H ro (zy ns) /\ ns.length<=40 /\ (∀ k ∈ ns,k < 40) ∧
 ∀ (l:Addr) (xs:List V) H',Grow [p] H H' -> JA H' p->H' l=some (.lst xs)->l ∉ [p]->l ≠ sysModules->(∀ v ∈ xs,JL K p H' v)->xs.length<=30->Q (.ref l) H'
def tZ (K:QM):Sp:=Jz fun x y z H Q=>∃ (b:List Int) (cs:List Call72) (l:Addr) (xs:List V) (ds:List PyData) (m:List Addr),zI K H x b /\ 1<=b.length /\ b.length<=16 /\ (∀ v ∈ b,JJ v) /\ zx K H y cs /\ Calls72 b.length cs /\ (∀ c ∈ cs,Cb72 (10 ^ 29+5) c) /\ z = .ref l /\ H l=some (.lst xs) /\ l ∉ m /\ l ≠ sysModules /\ Ods K m H xs ds /\ (∀ d ∈ ds,UJ d /\ GdD 10 5 130000 d) /\ ds.length<=30 /\ ∀ H',Grow [] H H' -> Q (.bl true) H'
theorem qF {cs:List Call72}:(!(((List.range cs.length).map fun j=>decide (Yw (cg cs j) ∈ (cs.map Yw).take j)).any id))=true ↔ yB cs:=by
 rw [Bool.not_eq_true',List.any_eq_false]
 constructor
 ·intro h i j hi hj h1 h2
  have key:∀ i j,i < j->j < cs.length->(cg cs i).hand=(cg cs j).hand->(cg cs i).begun=(cg cs j).begun->False:=fun i j ij hj h1 h2=>by
   refine h _ (List.mem_map.mpr ⟨j,List.mem_range.mpr hj,rfl⟩) (decide_eq_true ?_)
   rw [← List.map_take]
   refine List.mem_map.mpr ⟨cg cs i,?_,by unfold Yw; rw [h1,h2]⟩
   rw [List.mem_iff_getElem?]
   refine ⟨i,?_⟩
   rw [List.getElem?_take,if_pos ij,List.getElem?_eq_getElem (by omega),yA (List.getElem?_eq_getElem (show i < cs.length by omega))]
  rcases Nat.lt_trichotomy i j with z | z | z
  ·exact (key i j z hj h1 h2).elim
  ·exact z
  ·exact (key j i z hi h1.symm h2.symm).elim
 ·intro h x hx
  obtain ⟨j,hj,rfl⟩:=List.mem_map.mp hx
  have hj':=List.mem_range.mp hj
  show ¬ decide _=true
  rw [Uj h (List.getElem?_eq_getElem hj' |>.trans (by rw [← yA (List.getElem?_eq_getElem hj')]))]
  exact Bool.false_ne_true
open Classical in
theorem tru_own76 {b:List Int} {cs:List Call72} {d:PyData} {t:Bool} (ow:yB cs) (ht:t=true ↔ vP b cs d):tru76 b cs d=[.bl t,.bl !t]:=by
 unfold tru76
 rw [if_pos ow]
 cases t with
 | true=>rw [decide_eq_true (ht.mp rfl)]
 | false=>rw [decide_eq_false fun z=>by have:=ht.mpr z; cases this]
theorem qG {b:List Int} {cs:List Call72} {d:PyData} (no:¬ yB cs):tru76 b cs d=[.bl false,.bl true,.bl false]:=by
 unfold tru76
 rw [if_neg no]
theorem YH {cs:List Call72} {k:Nat} {r:List Nat} {ws:List Int}:(vC cs (k :: r)=true /\ sY cs ws (k :: r)=true) ↔ wb cs (k :: r) k ws=true /\ vC cs r=true /\ sY cs (jy cs k ws) r=true:=by
 rw [uK,vw]
 unfold wb jy
 rw [List.any_cons,vD,Bool.false_or,Bool.and_eq_true,Bool.and_eq_true,decide_eq_true_eq]
 by_cases c:ws.getD (cg cs k).box.toNat 0=(cg cs k).answer
 ·rw [if_pos c,c]
  exact ⟨fun z=>⟨⟨rfl,z.1.1⟩,z.1.2,z.2⟩,fun z=>⟨⟨z.1.2,z.2.1⟩,z.2.2⟩⟩
 ·rw [if_neg c]
  exact ⟨fun z=>(by cases z.2),fun z=>absurd z.1.1 c⟩
theorem W3 {xs:List V} {i j:Nat}:(vm xs (some (i:Int)) (some (j:Int))).length<=j - i:=by
 unfold vm
 rw [HT.sIx_nat,HT.sIx_nat,List.length_take]
 omega
def ZL (K:QM):R2:=fun x y H Q=>(x = .non /\ y = .non /\ Q (.bl false) H) \/ Sr K false x y H Q
section
variable {X:Cx} {K:QM}
theorem Ut {k:Nat} (hK:X.K=K) (hr:Room k X.A):Q8 X (compareOp .NotEq) (ZL K):=by
 intro pins s σ H x y u v Q I rx ry h
 rcases h with ⟨rfl,rfl,q⟩ | h
 ·exact sf pins s σ H _ _ u v Q I rx ry ⟨rfl,q⟩
 ·exact Ss hK hr pins s σ H _ _ u v Q I rx ry h
end
def jz (K:QM) (H:Hp) (b:List Int) (cs:List Call72) (v:V):Prop :=
 (yB cs /\ cs.length<=8 /\ uC K H v (wx cs b)) \/ (¬ (yB cs /\ cs.length<=8) /\ ∃ (l:Addr) (o:Bool),(o=true ↔ yB cs) /\ v = .ref l /\ Q0 K H l [.bl o,.bl !o,.bl false])
theorem YI {K:QM} {H:Hp} {b:List Int} {cs:List Call72} {x y:V} {Q:VK} (hx:jz K H b cs x) (hy:jz K H b cs y) (q:Q (.bl false) H):ZL K x y H Q:=by
 rcases hx with ⟨h1,h2,h3⟩ | ⟨h1,l,o,h2,rfl,h3⟩
 ·rcases hy with ⟨_,_,h4⟩ | ⟨h4,_⟩
  ·generalize wx cs b=so at h3 h4
   cases so with
   | none=>exact .inl ⟨h3,h4,q⟩
   | some ns =>
    obtain ⟨r,rfl,hr⟩:=(show xB K H x ns from h3)
    obtain ⟨r2,rfl,hr2⟩:=(show xB K H y ns from h4)
    refine .inr ⟨.tuple (ns.map fun k:Nat=>PyData.int (k:Int)),.tup hr (vB ns),.tup hr2 (vB ns),⟨_,rfl⟩,?_,q⟩
    show PyData.depthAll (ns.map fun k:Nat=>PyData.int (k:Int))+1<=100
    have:PyData.depthAll (ns.map fun k:Nat=>PyData.int (k:Int))<=0:=yi.mpr fun y hy=>by
     obtain ⟨v,_,rfl⟩:=List.mem_map.mp hy
     exact Nat.le_refl _
    omega
  ·exact absurd ⟨h1,h2⟩ h4
 ·rcases hy with ⟨h4,h5,_⟩ | ⟨_,l2,o2,h4,rfl,h5⟩
  ·exact absurd ⟨h4,h5⟩ h1
  ·have e:o2=o:=by rw [Bool.eq_iff_iff,h4,h2]
   subst e
   refine .inr ⟨.list [.bool o2,.bool (!o2),.bool false],.lst h3 (.cons (.bl _) (.cons (.bl _) (.cons (.bl _) .nil))),.lst h5 (.cons (.bl _) (.cons (.bl _) (.cons (.bl _) .nil))),⟨_,rfl⟩,(show (1:Nat)<=100 by decide),q⟩
theorem jz.grow {K:QM} {H H':Hp} {b:List Int} {cs:List Call72} {v:V} (h:jz K H b cs v) (g:Grow [] H H'):jz K H' b cs v:=by
 rcases h with ⟨h1,h2,h3⟩ | ⟨h1,l,o,h2,h3,h4⟩
 ·exact .inl ⟨h1,h2,h3.grow g⟩
 ·exact .inr ⟨h1,l,o,h2,h3,g.sqL h4⟩
theorem Uu {o:Bool}:uR [V.bl o,.bl !o,.bl false] [V.bl o,.bl !o,.bl false]=true:=by cases o <;> rfl
theorem Uv {o:Bool}:uR [V.bl o,.bl !o] [V.bl o,.bl !o]=true:=by cases o <;> rfl
structure HI76 (n i:Nat) (b vs:List Int) (rs:List Nat) (cs:List Call72) (ck:List Int):Prop where
 vl:vs.length=n
 rl:rs.length=n
 cl:cs.length=i
 pl:XG b cs=some vs
 ok:∀ c ∈ cs,CallOk72 n c
 rm:∀ j,j < n->rs.getD j 0+x6 j cs=8
 sm:rs.sum+i=8 * n
 vb:∀ v ∈ vs,-(10 ^ 27+i * (10 ^ 27+6))<=v /\ v<=10 ^ 27+i * (10 ^ 27+6)
 bd:∀ c ∈ cs,Cb72 (10 ^ 29) c
 kl:ck.length=16
 kb:∀ v ∈ ck,0<=v /\ v<=5+3 * (i:Int)
 lt:∀ c ∈ cs,c.begun < ck.getD c.hand.toNat 0
 inc:cs.Pairwise fun c d=>c.hand=d.hand->c.begun < d.begun
theorem HI76.hist {n i:Nat} {b vs:List Int} {rs:List Nat} {cs:List Call72} {ck:List Int} (h:HI76 n i b vs rs cs ck) (i40:i<=40) (bl:b.length=n) (n1:1<=n) (n16:n<=16) (bb:∀ v ∈ b,JJ v):Hist76 b cs:=by
 refine ⟨by omega,by omega,bb,?_,h.bd,h.inc,by rw [h.pl]; rfl⟩
 rw [bl]
 refine ⟨by rw [h.cl]; exact i40,h.ok,fun x=>?_⟩
 by_cases hx:0<=x /\ x < n
 ·have:=h.rm x.toNat (by omega)
  rw [show ((x.toNat:Nat):Int)=x from by omega] at this
  omega
 ·rw [VF h.ok hx]; exact Nat.zero_le _
theorem HI76.start {n:Nat} {b ck:List Int} (bl:b.length=n) (bb:∀ v ∈ b,JJ v) (kl:ck.length=16) (kb:∀ v ∈ ck,0<=v /\ v<=5):HI76 n 0 b b (List.replicate n 8) [] ck:=by
 refine ⟨bl,List.length_replicate,rfl,rfl,(fun _ h=>nomatch h),fun j hj=>?_,(by rw [XJ]; rfl),fun v hv=>?_,(fun _ h=>nomatch h),kl,fun v hv=>?_,(fun _ h=>nomatch h),.nil⟩
 ·rw [List.getD_eq_getElem?_getD,List.getElem?_replicate,if_pos hj]; rfl
 ·have:=bb v hv
  unfold JJ at this
  omega
 ·have:=kb v hv
  omega
theorem HI76.next {n i:Nat} {b vs:List Int} {rs:List Nat} {cs:List Call72} {ck:List Int} (h:HI76 n i b vs rs cs ck) {bx x ha:Nat} {t u:Int} {d:Deed} (i40:i < 40) (n16:n<=16)
  (hx:rs[bx]? = some x) (x0:0 < x) (t0:0<=t) (t1:t<=2) (u0:0<=u) (u1:u<=5) (h1:ha < 16) (od:d.Ok) (bd:d.Bd (10 ^ 27+6)) :
  HI76 n (i+1) b (vs.set bx (d.mk' (vs.getD bx 0))) (rs.set bx (x - 1)) (cs ++ [⟨ha,bx,d,ck.getD ha 0,ck.getD ha 0+u,vs.getD bx 0⟩]) (ck.set ha (ck.getD ha 0+1+t)):=by
 have hbx:bx < n:=by rw [← h.rl]; exact (List.getElem?_eq_some_iff.mp hx).1
 have hv:vs.getD bx 0 ∈ vs:=by
  have hb:bx < vs.length:=by rw [h.vl]; exact hbx
  rw [List.getD_eq_getElem?_getD,List.getElem?_eq_getElem hb]; exact List.getElem_mem hb
 have hka:ha < ck.length:=by rw [h.kl]; exact h1
 have hc:ck.getD ha 0 ∈ ck:=by
  rw [List.getD_eq_getElem?_getD,List.getElem?_eq_getElem hka]; exact List.getElem_mem hka
 have kv:=h.kb _ hc
 have vb:=h.vb _ hv
 have C0:(0:Int)<=10 ^ 27+i * (10 ^ 27+6):=by omega
 have mk:=RH bd (by decide) vb.1 vb.2 C0
 have nb:(⟨ha,bx,d,ck.getD ha 0,ck.getD ha 0+u,vs.getD bx 0⟩:Call72).box.toNat=bx:=Int.toNat_natCast bx
 refine ⟨by rw [List.length_set,h.vl],by rw [List.length_set,h.rl],by rw [List.length_append,List.length_singleton,h.cl],?_,?_,?_,?_,?_,?_,by rw [List.length_set,h.kl],?_,?_,?_⟩
 ·have:=jh (c:=⟨ha,bx,d,ck.getD ha 0,ck.getD ha 0+u,vs.getD bx 0⟩) h.pl (by rw [nb])
  rw [this,nb]
 ·intro c hc'
  rcases List.mem_append.mp hc' with hc' | hc'
  ·exact h.ok c hc'
  ·rw [List.mem_singleton.mp hc']
   exact ⟨Int.natCast_nonneg ha,by show (ha:Int)<=15; omega,Int.natCast_nonneg bx,by show (bx:Int) < n; omega,od,kv.1,by show ck.getD ha 0<=ck.getD ha 0+u; omega⟩
 ·intro j hj
  rw [Zh]
  have r:=h.rm j hj
  by_cases e:j=bx
  ·subst e
   rw [xA (by rw [h.rl]; exact hj),if_pos rfl]
   rw [List.getD_eq_getElem?_getD,hx] at r
   have:x+x6 j cs=8:=r
   omega
  ·rw [xo (fun z=>e z.symm),if_neg (by show ¬ (bx:Int)=j; omega)]
   exact r
 ·have:=XL hx x0
  have:=h.sm
  omega
 ·intro v hv'
  rcases List.mem_or_eq_of_mem_set hv' with hv' | rfl
  ·have:=h.vb v hv'
   push_cast at this ⊢
   omega
  ·push_cast
   omega
 ·intro c hc'
  rcases List.mem_append.mp hc' with hc' | hc'
  ·exact h.bd c hc'
  ·rw [List.mem_singleton.mp hc']
   refine ⟨?_,?_,?_,?_,?_,?_⟩
   ·show -(10 ^ 29)<=(ha:Int) /\ (ha:Int)<=10 ^ 29; omega
   ·show -(10 ^ 29)<=(bx:Int) /\ (bx:Int)<=10 ^ 29; omega
   ·exact bd.mono (by decide)
   ·show -(10 ^ 29)<=ck.getD ha 0 /\ ck.getD ha 0<=10 ^ 29; omega
   ·show -(10 ^ 29)<=ck.getD ha 0+u /\ ck.getD ha 0+u<=10 ^ 29; omega
   ·show -(10 ^ 29)<=vs.getD bx 0 /\ vs.getD bx 0<=10 ^ 29; omega
 ·intro v hv'
  rcases List.mem_or_eq_of_mem_set hv' with hv' | rfl
  ·have:=h.kb v hv'
   push_cast
   omega
  ·push_cast
   omega
 ·intro c hc'
  rcases List.mem_append.mp hc' with hc' | hc'
  ·have:=h.lt c hc'
   by_cases e:ha=c.hand.toNat
   ·rw [← e] at this ⊢
    rw [xA hka]
    omega
   ·rw [xo e]; exact this
  ·rw [List.mem_singleton.mp hc']
   show ck.getD ha 0 < (ck.set ha (ck.getD ha 0+1+t)).getD (ha:Int).toNat 0
   rw [Int.toNat_natCast,xA hka]
   omega
 ·refine List.pairwise_append.mpr ⟨h.inc,by simp,fun c hc' e he hh=>?_⟩
  rw [List.mem_singleton.mp he] at hh ⊢
  have:=h.lt c hc'
  have hh':c.hand=(ha:Int):=hh
  rw [hh',Int.toNat_natCast] at this
  exact this
end L3
namespace My
open PySem PySem.Spec PyProof.Rows L2 L3
def top (i:Nat):Stmt:=PySem.Challenge.pw_joinedasks_k76_whole_serial_orders.main.body.getD i (.Pass ⟨0,0,0,0⟩)
section
variable {P:Program} {w:World} {K:QM} {mg:Str->Option Value} {base:Heap} {n:Nat} {f:Addr} {fd:FuncData}
theorem vR:FnScope ["_law_pot_here","_law_many","_law_digit"] ["_law_pot_here","_law_many"] (zi (top 42)):=⟨rfl,rfl,rfl,by decide +kernel,rfl,by decide +kernel,by decide +kernel⟩
theorem qH (F:Fun K "_law_take" "_law_take" (top 42) f fd) (B:Blt mg)      :
  FnOk P w K mg base Jt (n+1) f fd ["_law_pot_here","_law_many"] (xZ K):=by
 refine F.ok vR yf (fun cdv A outer s H vs Q E hr h=>?_)
 obtain ⟨x,y,rfl,a,m,rfl,rfl,⟨p0,p1,hp,h0⟩,hm,hm2,q⟩:=h
 refine ⟨_,(ze (zQ (zD qY (zF zW (pv 0) zh (fun _ _=>rfl)) zh (zA _)) (ze (zv (i:=2) vR.nd rfl (Or.inl rfl) (zz tj (zF zW (pv 0) zh (fun _ _=>rfl)) (pv 1))) (ze (yQ (zz sj (zF zW (pv 0) zh (fun _ _=>rfl)) (pv 1)) (tf (pv 0) zh wf)) (zf (zr (pv 2))))) zu) (ze (yQ (zz tj (zz z9 (zz xE (zF zW (pv 0) zh (fun _ _=>rfl)) zh) zh) zh) (tf (pv 0) zh wf)) (zf (zr (zz tj (zz sj (zz tj (zz xE (zF zW (pv 0) zh (fun _ _=>rfl)) (zF zW (pv 0) zh (fun _ _=>rfl))) zh) zh) (pv 1)))))),?_⟩
 refine ⟨_,rfl,a,_,_,_,rfl,rfl,Q0.of hp,rfl,_,_,rfl,rfl,_,rfl,?_⟩
 refine W9 (fun c=>?_) (fun c=>?_)
 ·refine ⟨_,rfl,a,_,_,_,rfl,rfl,Q0.of hp,rfl,_,rfl,p0,m,rfl,rfl,hm,?_⟩
  refine ⟨_,rfl,a,_,_,_,rfl,rfl,Q0.of hp,rfl,_,rfl,p0,m,rfl,rfl,⟨hm,hm2⟩,_,rfl,a,_,0,0,rfl,rfl,hp,rfl,?_⟩
  exact ⟨_,rfl,q _ _ (Int.emod_nonneg _ (by omega)) (Int.emod_lt_of_pos _ hm) (Grow.set hp (by simp) _) ⟨p0 / m,p1,zd,Int.ediv_nonneg h0 (by omega)⟩⟩
 ·refine ⟨_,rfl,a,_,_,_,rfl,rfl,Q0.of hp,rfl,p1,48271,rfl,rfl,Xd ⟨by decide,by decide⟩,_,_,rfl,rfl,_,_,rfl,rfl,(by show (0:Int) < 2147483647; decide),_,rfl,a,_,1,1,rfl,rfl,hp,rfl,?_⟩
  have b0:0<=(p1 * 48271+12345) % 2147483647:=Int.emod_nonneg _ (by decide)
  have b1:(p1 * 48271+12345) % 2147483647 < 2147483647:=Int.emod_lt_of_pos _ (by decide)
  refine ⟨_,rfl,a,_,_,_,rfl,rfl,Q0.of zd,rfl,_,rfl,a,_,_,_,rfl,rfl,Q0.of zd,rfl,(p1 * 48271+12345) % 2147483647,(p1 * 48271+12345) % 2147483647,rfl,rfl,Xd ⟨by omega,by omega⟩,_,_,rfl,rfl,(by show (0:Int) < 2147483629; decide),_,_,rfl,rfl,⟨by decide,by decide⟩,_,rfl,_,_,rfl,rfl,hm,?_⟩
  exact q _ _ (Int.emod_nonneg _ (by omega)) (Int.emod_lt_of_pos _ hm) (Grow.set hp (by simp) _) ⟨p0,(p1 * 48271+12345) % 2147483647,zd,h0⟩
theorem zw:FnScope ["_law_pot_here","_law_calls","_law_at_here","_law_other","_law_hand","_law_box","_law_deed_here","_law_begun","_law_ended","_law_answer","_law_choice","_law_call"] ["_law_pot_here","_law_calls"] (zi (top 50)):=⟨rfl,rfl,rfl,by decide +kernel,rfl,by decide +kernel,by decide +kernel⟩
theorem u3 (F:Fun K "_law_spoilt" "_law_spoilt" (top 50) f fd) (B:Blt mg) (qc0:zn P w K mg base n "_law_take" ["_law_pot_here","_law_many"] (xZ K))     :
  FnOk P w K mg base Jt (n+1) f fd ["_law_pot_here","_law_calls"] (uO K):=by
 refine F.ok zw yf (fun cdv A outer s H vs Q E hr h=>?_)
 obtain ⟨x,y,rfl,p,cs,n,B0,rfl,pp,hc,ok,c0,bd,q⟩:=h
 refine ⟨_,(ze (jS (i:=2) (j:=3) rfl zw.nd rfl rfl (by decide) rfl rfl (za (zg qc0 hr rfl (za (pv 0) (za (zm zt rfl B.len yW (za (pv 1) zb)) zb))) (za (zg qc0 hr rfl (za (pv 0) (za (zm zt rfl B.len yW (za (pv 1) zb)) zb))) zb)) rfl) (ze (yQ (zF zN (pv 1) (pv 2) (fun _ _=>rfl)) (yH rfl (zo (zj (i:=4) zw.nd rfl (Or.inl rfl)) (zo (zj (i:=5) zw.nd rfl (Or.inl rfl)) (zo (zj (i:=6) zw.nd rfl (Or.inl rfl)) (zo (zj (i:=7) zw.nd rfl (Or.inl rfl)) (zo (zj (i:=8) zw.nd rfl (Or.inl rfl)) (zo (zj (i:=9) zw.nd rfl (Or.inl rfl)) z8)))))))) (ze (zv (i:=10) zw.nd rfl (Or.inl rfl) (zg qc0 hr rfl (za (pv 0) (za zh zb)))) (ze (zQ (zD xN (pv 10) zh (zA _)) (zf (zv (i:=9) zw.nd rfl (Or.inl rfl) (zF zN (zF zN (pv 1) (pv 3) (fun _ _=>rfl)) zh (fun _ _=>rfl)))) zu) (ze (zQ (zD xN (pv 10) zh (zA _)) (zf (zv (i:=9) zw.nd rfl (Or.inl rfl) (zz ue (zz z9 (pv 9) zh) (zz xE zh (zg qc0 hr rfl (za (pv 0) (za zh zb))))))) zu) (ze (zQ (zD xN (pv 10) zh (zA _)) (zf (zv (i:=6) zw.nd rfl (Or.inl rfl) (zF zN (zF zN (pv 1) (pv 3) (fun _ _=>rfl)) zh (fun _ _=>rfl)))) zu) (ze (zQ (zD xN (pv 10) zh (zA _)) (zf (zv (i:=7) zw.nd rfl (Or.inl rfl) (pv 8))) zu) (ze (zQ (zD xN (pv 10) zh (zA _)) (ze (jS (i:=4) (j:=7) rfl zw.nd rfl rfl (by decide) rfl rfl (za (zF zN (zF zN (pv 1) (pv 3) (fun _ _=>rfl)) zh (fun _ _=>rfl)) (za (zF zN (zF zN (pv 1) (pv 3) (fun _ _=>rfl)) zh (fun _ _=>rfl)) zb)) rfl) (zf (zv (i:=8) zw.nd rfl (Or.inl rfl) (zm (xT rfl) rfl B.max ZU (za (pv 7) (za (pv 8) zb)))))) zu) (ze (zv (i:=11) zw.nd rfl (Or.inl rfl) (zR (za (pv 4) (za (pv 5) (za (pv 6) (za (pv 7) (za (pv 8) (za (pv 9) zb)))))))) (zf (zr (zz (yv (K:=K) rfl) (zz (yv (K:=K) rfl) (zK (yg (K:=K) rfl) (pv 1) zV (zO (pv 2))) (zR (za (pv 11) zb))) (zK (yg (K:=K) rfl) (pv 1) (zO (zz z9 (pv 2) zh)) zV))))))))))))),?_⟩
 obtain ⟨rc,xs,rfl,hrc,hall⟩:=id hc
 have xl:=hall.len
 have c40:=ok.len
 have x0:0 < xs.length:=by omega
 refine ⟨_,rfl,_,rfl,rc,_,rfl,.inr hrc,_,_,rfl,p,_,rfl,rfl,pp,by omega,Int.lt_of_le_of_lt (b:=100) (by omega) (by decide),fun i' H1 i0 i1 g1 pp1=>?_⟩
 refine ⟨_,rfl,_,rfl,rc,_,rfl,.inr (g1.sqT hrc),_,_,rfl,p,_,rfl,rfl,pp1,by omega,Int.lt_of_le_of_lt (b:=100) (by omega) (by decide),fun t' H2 t0 t1 g2 pp2=>⟨_,_,rfl,?_⟩⟩
 obtain ⟨i,rfl⟩:=Int.eq_ofNat_of_zero_le i0
 obtain ⟨t,rfl⟩:=Int.eq_ofNat_of_zero_le t0
 have hi:i < cs.length:=by omega
 have ht:t < cs.length:=by omega
 have G2:Grow [p] H H2:=g1.trans g2
 try dsimp only
 obtain ⟨z,hz,rz,rd,rfl,sz,sd⟩:=hall.getR (List.getElem?_eq_getElem hi)
 have o:=ok.ok _ (List.getElem_mem hi)
 have cb:=bd _ (List.getElem_mem hi)
 have hci:cs[i]? = some cs[i]:=List.getElem?_eq_getElem hi
 generalize cs[i]=c at sz sd o cb hci
 obtain ⟨z2,hz2,rz2,rd2,rfl,sz2,sd2⟩:=hall.getR (List.getElem?_eq_getElem ht)
 have o2:=ok.ok _ (List.getElem_mem ht)
 have cb2:=bd _ (List.getElem_mem ht)
 generalize cs[t]=c2 at sz2 sd2 o2 cb2
 refine ⟨_,rfl,_,rfl,rc,_,_,.ref rz,rfl,rfl,G2.sqT hrc,zp hz,rz,_,rfl,G2.sqT sz,rfl,_,_,rfl,_,_,rfl,_,_,rfl,_,_,rfl,_,_,rfl,_,_,rfl,rfl,?_⟩
 try dsimp only
 refine yh (fun v H'=>∃ k:Int,v = .int k /\ Grow [p] H2 H' /\ JA H' p) (fun Kk hk=>⟨_,rfl,_,_,rfl,p,5,rfl,rfl,pp2,by decide,by decide,fun k H' k0 k1 g pp'=>hk _ _ ⟨k,rfl,g,pp'⟩⟩) ?_
 rintro _ H3 ⟨k,rfl,g3,pp3⟩
 have G3:=G2.trans g3
 have e5:=cb.answer
 have e6:=cb2.answer
 have a1:=o.t0
 have a2:=o.t1
 have a3:=o2.t0
 have a4:=o2.t1
 have e3:=cb.begun
 have e4:=cb.ended
 have e7:=cb2.begun
 have e8:=cb.hand
 have e9:=cb2.hand
 refine VE (fun σ' H'=>∃ an:Int,σ' = [some (.ref p),some (.ref rc),some (.int i),some (.int t),some (.int c.hand),some (.int c.box),some (.ref rd),some (.int c.begun),some (.int c.ended),some (.int an),some (.int k),none] /\ -B0<=an /\ an<=B0 /\ (k=1->an=c.answer) /\ H' = H3) ?_ (fun hk=>?_)
 rotate_left
 ·refine ⟨_,rfl,rfl,_,rfl,?_⟩
  by_cases k0:k=0
  ·exact yT (decide_eq_true (congrArg V.int k0)) ⟨_,rfl,_,rfl,rc,_,_,.ref rz2,rfl,rfl,G3.sqT hrc,zp hz2,rz2,_,5,.int c2.answer,rfl,rfl,G3.sqT sz2,zp (j:=5) rfl,hk _ _ ⟨c2.answer,rfl,by omega,by omega,(fun z=>by omega),rfl⟩⟩
  ·exact yY (decide_eq_false fun z=>k0 (V.int.inj z)) (hk _ _ ⟨c.answer,rfl,by omega,by omega,(fun _=>rfl),rfl⟩)
 rintro _ H3 ⟨an,rfl,an0,an1,_,rfl⟩
 refine VE (fun σ' H'=>∃ aw:Int,σ' = [some (.ref p),some (.ref rc),some (.int i),some (.int t),some (.int c.hand),some (.int c.box),some (.ref rd),some (.int c.begun),some (.int c.ended),some (.int aw),some (.int k),none] /\ -(B0+1)<=aw /\ aw<=B0+1 /\ Grow [p] H3 H' /\ JA H' p) ?_ (fun hk=>?_)
 rotate_left
 ·refine ⟨_,rfl,rfl,_,rfl,?_⟩
  by_cases k0:k=1
  ·refine yT (decide_eq_true (congrArg V.int k0)) ⟨_,rfl,_,_,rfl,rfl,_,rfl,_,_,rfl,p,2,rfl,rfl,pp3,by decide,by decide,fun t H' t0 t1 g pp'=>⟨_,_,rfl,rfl,tH ⟨by decide,by decide⟩,_,_,rfl,rfl,hk _ _ ⟨an+1 - 2 * t,rfl,by omega,by omega,g,pp'⟩⟩⟩
  ·exact yY (decide_eq_false fun z=>k0 (V.int.inj z)) (hk _ _ ⟨an,rfl,by omega,by omega,Grow.refl _ _,pp3⟩)
 rintro _ H4 ⟨aw,rfl,aw0,aw1,g4,pp4⟩
 have G4:=G3.trans g4
 refine VE (fun σ' H'=>∃ (rd':Addr) (dd:Deed),σ' = [some (.ref p),some (.ref rc),some (.int i),some (.int t),some (.int c.hand),some (.int c.box),some (.ref rd'),some (.int c.begun),some (.int c.ended),some (.int aw),some (.int k),none] /\ dd.Ok /\ dd.Bd (B0+1) /\ Q1 K H' rd' dd.vs /\ H' = H4) ?_ (fun hk=>?_)
 rotate_left
 ·refine ⟨_,rfl,rfl,_,rfl,?_⟩
  by_cases k0:k=2
  ·exact yT (decide_eq_true (congrArg V.int k0)) ⟨_,rfl,_,rfl,rc,_,_,.ref rz2,rfl,rfl,G4.sqT hrc,zp hz2,rz2,_,2,.ref rd2,rfl,rfl,G4.sqT sz2,zp (j:=2) rfl,hk _ _ ⟨rd2,c2.deed,rfl,o2.d,cb2.deed.mono (by omega),G4.sqT sd2,rfl⟩⟩
  ·exact yY (decide_eq_false fun z=>k0 (V.int.inj z)) (hk _ _ ⟨rd,c.deed,rfl,o.d,cb.deed.mono (by omega),G4.sqT sd,rfl⟩)
 rintro _ H4 ⟨rd',dd,rfl,dok,dbd,sd',rfl⟩
 refine VE (fun σ' H'=>∃ be:Int,σ' = [some (.ref p),some (.ref rc),some (.int i),some (.int t),some (.int c.hand),some (.int c.box),some (.ref rd'),some (.int be),some (.int c.ended),some (.int aw),some (.int k),none] /\ 0<=be /\ be<=c.ended /\ H' = H4) ?_ (fun hk=>?_)
 rotate_left
 ·refine ⟨_,rfl,rfl,_,rfl,?_⟩
  by_cases k0:k=3
  ·exact yT (decide_eq_true (congrArg V.int k0)) ⟨_,rfl,hk _ _ ⟨c.ended,rfl,by omega,by omega,rfl⟩⟩
  ·exact yY (decide_eq_false fun z=>k0 (V.int.inj z)) (hk _ _ ⟨c.begun,rfl,a1,a2,rfl⟩)
 rintro _ H4 ⟨be0,rfl,b00,b01,rfl⟩
 refine VE (fun σ' H'=>∃ ha be en:Int,σ' = [some (.ref p),some (.ref rc),some (.int i),some (.int t),some (.int ha),some (.int c.box),some (.ref rd'),some (.int be),some (.int en),some (.int aw),some (.int k),none] /\ 0<=ha /\ ha<=15 /\ -B0<=ha /\ ha<=B0 /\ 0<=be /\ be<=en /\ en<=B0 /\ H' = H4) ?_ (fun hk=>?_)
 rotate_left
 ·refine ⟨_,rfl,rfl,_,rfl,?_⟩
  by_cases k0:k=4
  ·have m1:=o2.h0
   have m2:=o2.h1
   refine yT (decide_eq_true (congrArg V.int k0)) ⟨_,rfl,_,rfl,rc,_,_,.ref rz2,rfl,rfl,G4.sqT hrc,zp hz2,rz2,_,0,.int c2.hand,rfl,rfl,G4.sqT sz2,zp (j:=0) rfl,_,rfl,_,rfl,rc,_,_,.ref rz2,rfl,rfl,G4.sqT hrc,zp hz2,rz2,_,3,.int c2.begun,rfl,rfl,G4.sqT sz2,zp (j:=3) rfl,_,_,rfl,?_⟩
   try dsimp only
   refine ⟨_,rfl,_,rfl,_,_,rfl,hk _ _ ⟨c2.hand,c2.begun,_,rfl,m1,m2,by omega,by omega,a3,?_,?_,rfl⟩⟩
   ·split <;> omega
   ·split <;> omega
  ·have m1:=o.h0
   have m2:=o.h1
   exact yY (decide_eq_false fun z=>k0 (V.int.inj z)) (hk _ _ ⟨c.hand,be0,c.ended,rfl,m1,m2,by omega,by omega,b00,b01,by omega,rfl⟩)
 rintro _ H6 ⟨ha,be,en,rfl,h0,h15,hB0,hB1,b0,n0,nB,rfl⟩
 have g6:=(Grow.refl _ _:Grow [p] H6 H6)
 have pp6:=pp4
 have e2:=cb.box
 have ok':CallOk72 n ⟨ha,c.box,dd,be,en,aw⟩:=⟨h0,h15,o.b0,o.b1,dok,b0,n0⟩
 have cb':Cb72 (B0+1) ⟨ha,c.box,dd,be,en,aw⟩:=by
  refine ⟨?_,?_,dbd,?_,?_,?_⟩
  ·show -(B0+1)<=ha /\ ha<=B0+1; omega
  ·show -(B0+1)<=c.box /\ c.box<=B0+1; omega
  ·show -(B0+1)<=be /\ be<=B0+1; omega
  ·show -(B0+1)<=en /\ en<=B0+1; omega
  ·show -(B0+1)<=aw /\ aw<=B0+1; omega
 refine yh (fun v H'=>∃ tc,v = .ref tc /\ yy K H' (.ref tc) ⟨ha,c.box,dd,be,en,aw⟩ /\ Grow [] H6 H') (fun Kk hk=>⟨_,rfl,_,rfl,_,rfl,_,rfl,_,rfl,_,rfl,JB rfl,fun tc htc=>hk _ _ ⟨tc,rfl,⟨tc,rd',rfl,Q1.of zd,(Grow.new (m:=[]) htc _).sqT (g6.sqT sd')⟩,Grow.new htc _⟩⟩) ?_
 rintro _ J5 ⟨tc,rfl,htc,j5⟩
 have cl1:=xc xs
 refine ⟨_,rfl,_,rfl,_,rfl,rc,_,rfl,j5.sqT (G4.sqT hrc),fun p1 J6 j6 h6=>⟨_,rfl,JB rfl,fun t6 ht6=>?_⟩⟩
 have gt6:=Grow.new (m:=[]) ht6 (.tup [.ref tc])
 refine ⟨p1,t6,_,_,rfl,rfl,gt6.sqT h6,Q1.of zd,?_,fun p2 J7 j7 h7=>?_⟩
 ·have:=cl1 none (some (i:Int)); exact uT (by show _+1<=5000; omega)
 have G7:=j5.trans (j6.trans (gt6.trans j7))
 refine ⟨_,rfl,_,rfl,_,_,rfl,rfl,_,rfl,rc,_,rfl,G7.sqT (G4.sqT hrc),fun p3 J8 j8 h8=>⟨p2,p3,_,_,rfl,rfl,j8.sqT h7,h8,?_,fun p4 J9 j9 h9=>?_⟩⟩
 ·have:=cl1 none (some (i:Int)); have:=cl1 (some ((i:Int)+1)) none
  exact uT (by rw [List.length_append]; show _+1+_<=5000; omega)
 have G9:=G7.trans (j8.trans j9)
 rw [show (i:Int)+1=((i+1:Nat):Int) from by omega,ur,vt] at h9
 refine q (cs.take i ++ [⟨ha,c.box,dd,be,en,aw⟩] ++ cs.drop (i+1)) _ _ (ok.spoil hci rfl ok') (jp hi) (fun x hx=>?_) (G4.trans G9.wk) (pp6.grow G9) ⟨p4,_,rfl,h9,?_⟩
 ·rcases List.mem_append.mp hx with hx | hx
  ·rcases List.mem_append.mp hx with hx | hx
   ·exact (bd x (List.mem_of_mem_take hx)).mono (by omega)
   ·rw [List.mem_singleton.mp hx]; exact cb'
  ·exact (bd x (List.mem_of_mem_drop hx)).mono (by omega)
 ·have hA:=(G4.trans G9.wk).callsR hall
  exact ((hA.take (n:=i)).app (yP.one ((j6.trans (gt6.trans (j7.trans (j8.trans j9)))).call72 htc))).app (hA.drop (n:=i+1))
theorem xt:FnScope ["_law_deed_here","_law_value"] ["_law_deed_here","_law_value"] (zi (top 46)):=⟨rfl,rfl,rfl,by decide +kernel,rfl,by decide +kernel,by decide +kernel⟩
theorem qI (F:Fun K "_law_done" "_law_done" (top 46) f fd) (B:Blt mg)      :
  FnOk P w K mg base Jt (n+1) f fd ["_law_deed_here","_law_value"] (vp K):=by
 refine F.ok xt yf (fun cdv A outer s H vs Q E hr h=>?_)
 obtain ⟨x,y,rfl,d,v,hd,rfl,q⟩:=h
 refine ⟨_,(ze (zv (i:=1) xt.nd rfl (Or.inl rfl) (zz z9 (pv 1) (zF zN (pv 0) zh (fun _ _=>rfl)))) (ze (zQ (PW.pt (wK (ub (t9 (zF zN (pv 0) zh (fun _ _=>rfl)))) (xP (zD sg (pv 1) (zF zN (pv 0) zh (fun _ _=>rfl)) (zA _))))) (zf (zv (i:=1) xt.nd rfl (Or.inl rfl) (zF zN (pv 0) zh (fun _ _=>rfl)))) zu) (ze (zQ (PW.pt (wK (ub (t9 (zF zN (pv 0) zh (fun _ _=>rfl)))) (xP (zD qY (pv 1) (zF zN (pv 0) zh (fun _ _=>rfl)) (zA _))))) (zf (zv (i:=1) xt.nd rfl (Or.inl rfl) (zF zN (pv 0) zh (fun _ _=>rfl)))) zu) (zf (zr (pv 1)))))),?_⟩
 obtain ⟨a,rfl,hs⟩:=hd
 obtain ⟨ad,lo,hi⟩:=d
 have i0:Jm (⟨ad,lo,hi⟩:Deed).vs 0=some (.int ad):=zp (j:=0) rfl
 have i1:Jm (⟨ad,lo,hi⟩:Deed).vs 1=some (ov lo):=zp (j:=1) rfl
 have i2:Jm (⟨ad,lo,hi⟩:Deed).vs 2=some (ov hi):=zp (j:=2) rfl
 refine yh (fun w H'=>w = .int (v+ad) /\ H' = H) (fun Kk hk=>⟨_,rfl,_,rfl,a,_,_,_,rfl,rfl,hs,i0,_,_,rfl,rfl,hk _ _ ⟨rfl,rfl⟩⟩) ?_
 rintro _ H ⟨rfl,rfl⟩
 refine VE (fun σ' H'=>σ' = [some (.ref a),some (.int (ui lo (v+ad)))] /\ H' = H) ?_ (fun hk=>?_)
 rotate_left
 ·refine ⟨_,rfl,a,_,_,_,rfl,rfl,hs,i1,_,rfl,?_⟩
  cases lo with
  | none=>exact yD (hk _ _ ⟨rfl,rfl⟩)
  | some l =>
   refine xk ⟨_,rfl,_,rfl,a,_,_,_,rfl,rfl,hs,i1,_,_,rfl,rfl,_,rfl,?_⟩
   by_cases h:v+ad < l
   ·refine yT (decide_eq_true h) ⟨_,rfl,a,_,_,_,rfl,rfl,hs,i1,hk _ _ ⟨?_,rfl⟩⟩
    show [some (V.ref a),some (V.int l)]=_
    unfold ui; dsimp only; rw [if_pos h]
   ·refine yY (decide_eq_false h) (hk _ _ ⟨?_,rfl⟩)
    unfold ui; dsimp only; rw [if_neg h]; rfl
 rintro _ H ⟨rfl,rfl⟩
 refine VE (fun σ' H'=>σ' = [some (.ref a),some (.int ((⟨ad,lo,hi⟩:Deed).mk' v))] /\ H' = H) ?_ (fun hk=>?_)
 rotate_left
 ·refine ⟨_,rfl,a,_,_,_,rfl,rfl,hs,i2,_,rfl,?_⟩
  cases hi with
  | none=>exact yD (hk _ _ ⟨rfl,rfl⟩)
  | some l =>
   refine xk ⟨_,rfl,_,rfl,a,_,_,_,rfl,rfl,hs,i2,_,_,rfl,rfl,_,rfl,?_⟩
   by_cases h:l < ui lo (v+ad)
   ·refine yT (decide_eq_true h) ⟨_,rfl,a,_,_,_,rfl,rfl,hs,i2,hk _ _ ⟨?_,rfl⟩⟩
    show [some (V.ref a),some (V.int l)]=_
    unfold Deed.mk' sk; dsimp only; rw [if_pos h]
   ·refine yY (decide_eq_false h) (hk _ _ ⟨?_,rfl⟩)
    unfold Deed.mk' sk; dsimp only; rw [if_neg h]
 rintro _ H ⟨rfl,rfl⟩
 exact ⟨_,rfl,q⟩
theorem wy:FnScope ["_law_calls","_law_k","_law_values","_law_box"] ["_law_calls","_law_k","_law_values"] (zi (top 53)):=⟨rfl,rfl,rfl,by decide +kernel,rfl,by decide +kernel,by decide +kernel⟩
theorem u4 (F:Fun K "_law_behind" "_law_behind" (top 53) f fd) (B:Blt mg) (qc0:zn P w K mg base n "_law_done" ["_law_deed_here","_law_value"] (vp K))     :
  FnOk P w K mg base Jt (n+1) f fd ["_law_calls","_law_k","_law_values"] (sK K):=by
 refine F.ok wy xY (fun cdv A outer s H vs Q E hr h=>?_)
 obtain ⟨x,y,z,rfl,cs,k,vs,hc,rfl,hb,hk,v16,dok,bx0,bx1,q⟩:=h
 refine ⟨_,(ze (zv (i:=3) wy.nd rfl (Or.inl rfl) (zF zN (zF zN (pv 0) (pv 1) (fun _ _=>rfl)) zh (fun _ _=>rfl))) (zf (zr (zz (yv (K:=K) rfl) (zz (yv (K:=K) rfl) (zK (yg (K:=K) rfl) (pv 2) zV (zO (pv 3))) (zR (za (zg qc0 hr rfl (za (zF zN (zF zN (pv 0) (pv 1) (fun _ _=>rfl)) zh (fun _ _=>rfl)) (za (zF zN (pv 2) (pv 3) (fun _ _=>rfl)) zb))) zb))) (zK (yg (K:=K) rfl) (pv 2) (zO (zz z9 (pv 3) zh)) zV))))),?_⟩
 obtain ⟨rc,xs,rfl,hrc,hall⟩:=id hc
 obtain ⟨rb,rfl,hrb⟩:=id hb
 obtain ⟨zk,hzk,rz,rd,rfl,sz,sd⟩:=hall.getR (List.getElem?_eq_getElem hk)
 have ec:cg cs k=cs[k]:=yA (List.getElem?_eq_getElem hk)
 rw [← ec] at sz sd
 have eb:(cg cs k).box=((cg cs k).box.toNat:Int):=by omega
 have bml:(vs.map V.int).length=vs.length:=List.length_map ..
 refine yh (fun v H'=>v = .int ((cg cs k).box.toNat:Int) /\ H' = H) (fun Kk hk2=>⟨_,rfl,_,rfl,rc,_,_,.ref rz,rfl,rfl,hrc,zp hzk,rz,_,1,.int (cg cs k).box,rfl,rfl,sz,zp (j:=1) rfl,hk2 _ _ ⟨congrArg V.int eb,rfl⟩⟩) ?_
 rintro _ H ⟨rfl,rfl⟩
 generalize hx:(cg cs k).box.toNat=bx at bx1 ⊢
 have hat:(vs.map V.int)[bx]? = some (.int (vs.getD bx 0)):=by
  rw [List.getElem?_map,List.getElem?_eq_getElem bx1,List.getD_eq_getElem?_getD,List.getElem?_eq_getElem bx1]; rfl
 have cl1:=xc (vs.map V.int)
 refine ⟨_,rfl,_,rfl,_,rfl,rb,_,rfl,hrb,fun p1 H1 g1 h1=>?_⟩
 refine ⟨_,rfl,_,rfl,rc,_,_,.ref rz,rfl,rfl,g1.sqT hrc,zp hzk,rz,_,2,.ref rd,rfl,rfl,g1.sqT sz,zp (j:=2) rfl,_,rfl,_,rfl,rb,_,_,_,rfl,rfl,g1.sqT hrb,zp hat,_,_,rfl,(cg cs k).deed,_,⟨rd,rfl,g1.sqT sd⟩,rfl,JB rfl,fun t ht=>?_⟩
 have gt:=Grow.new (m:=[]) ht (.tup [.int ((cg cs k).deed.mk' (vs.getD bx 0))])
 refine ⟨p1,t,_,_,rfl,rfl,gt.sqT h1,Q1.of zd,uT (by have:=cl1 none (some (bx:Int)); show _+1<=5000; omega),fun p2 H2 g2 h2=>?_⟩
 have G:=g1.trans (gt.trans g2)
 refine ⟨_,rfl,_,rfl,_,_,rfl,rfl,_,rfl,rb,_,rfl,G.sqT hrb,fun p3 H3 g3 h3=>⟨p2,p3,_,_,rfl,rfl,g3.sqT h2,h3,uT (by have:=cl1 none (some (bx:Int)); have:=cl1 (some ((bx:Int)+1)) none; rw [List.length_append]; show _+1+_<=5000; omega),fun p4 H4 g4 h4=>?_⟩⟩
 refine q _ _ (G.trans (g3.trans g4)) ⟨p4,rfl,?_⟩
 rw [show (bx:Int)+1=((bx+1:Nat):Int) from by omega,ur,vt] at h4
 unfold jy
 rw [hx,List.set_eq_take_append_cons_drop,if_pos bx1,List.map_append,List.map_cons,List.map_take,List.map_drop]
 rw [List.append_assoc] at h4
 exact h4
theorem jA:FnScope ["_law_calls","_law_left","_law_k","_law_values"] ["_law_calls","_law_left","_law_k","_law_values"] (zi (top 52)):=⟨rfl,rfl,rfl,by decide +kernel,rfl,by decide +kernel,by decide +kernel⟩
theorem jB (F:Fun K "_law_may" "_law_may" (top 52) f fd) (B:Blt mg)   (g_any:mg "any" = none)   :
  FnOk P w K mg base Jt (n+1) f fd ["_law_calls","_law_left","_law_k","_law_values"] (sJ K):=by
 refine F.ok jA Tb (fun cdv A outer s H vs Q E hr h=>?_)
 obtain ⟨x,y,z,u,rfl,cs,left,k,vs,hc,hn,rfl,hb,hl,hk,l40,bx0,bx1,q⟩:=h
 refine ⟨_,(ze (zQ (zD sf (zF zN (pv 3) (zF zN (zF zN (pv 0) (pv 2) (fun _ _=>rfl)) zh (fun _ _=>rfl)) (fun _ _=>rfl)) (zF zN (zF zN (pv 0) (pv 2) (fun _ _=>rfl)) zh (fun _ _=>rfl)) (zA _)) (zf (zr yr)) zu) (zf (zr (uc (zm (ul rfl) rfl g_any Vr (za (z6 (CSc.of (N':=["_law_j","_law_calls","_law_k"]) (sub:=[none,some 0,some 2]) (zi (top 52)) ["_law_calls","_law_left","_law_k","_law_values"] rfl rfl (by decide +kernel) rfl) rfl (xx (pv 1)) (fun _ _ _ _ _ _=>zj (i:=0) (show (["_law_j","_law_calls","_law_k"]:List Str).Nodup by decide +kernel) rfl (Or.inl rfl)) (fun _ _ _ _ _ _=>zX) (fun _ _ _ _ _ _=>(xS (yu xN (zF (yL (K:=K) rfl) (zF (yL (K:=K) rfl) (pv 1) (pv 0) (fun _ _=>rfl)) zh (fun _ _=>rfl)) (zF (yL (K:=K) rfl) (zF (yL (K:=K) rfl) (pv 1) (pv 2) (fun _ _=>rfl)) zh (fun _ _=>rfl)) (zA _)) (xR (yu sg (zF (yL (K:=K) rfl) (zF (yL (K:=K) rfl) (pv 1) (pv 0) (fun _ _=>rfl)) zh (fun _ _=>rfl)) (zF (yL (K:=K) rfl) (zF (yL (K:=K) rfl) (pv 1) (pv 2) (fun _ _=>rfl)) zh (fun _ _=>rfl)) (zA _)))))) zb)))))),?_⟩
 obtain ⟨rc,xs,rfl,hrc,hall⟩:=id hc
 obtain ⟨rl,rfl,hrl⟩:=id hn
 obtain ⟨rb,rfl,hrb⟩:=id hb
 obtain ⟨zk,hzk,rz,rd,rfl,sz,sd⟩:=hall.getR (List.getElem?_eq_getElem hk)
 have ec:cg cs k=cs[k]:=yA (List.getElem?_eq_getElem hk)
 rw [← ec] at sz sd
 have eb:(cg cs k).box=((cg cs k).box.toNat:Int):=by omega
 have bml:(vs.map V.int).length=vs.length:=List.length_map ..
 have hat:Jm (vs.map V.int) (cg cs k).box=some (.int (vs.getD (cg cs k).box.toNat 0)):=by
  rw [eb]
  refine zp ?_
  rw [Int.toNat_natCast,List.getElem?_map,List.getElem?_eq_getElem bx1,List.getD_eq_getElem?_getD,List.getElem?_eq_getElem bx1]; rfl
 refine ⟨_,rfl,_,rfl,_,rfl,rc,_,_,.ref rz,rfl,rfl,hrc,zp hzk,rz,_,1,.int (cg cs k).box,rfl,rfl,sz,zp (j:=1) rfl,rb,_,_,_,rfl,rfl,hrb,hat,_,rfl,_,rfl,rc,_,_,.ref rz,rfl,rfl,hrc,zp hzk,rz,_,5,.int (cg cs k).answer,rfl,rfl,sz,zp (j:=5) rfl,rfl,_,rfl,?_⟩
 by_cases ca:vs.getD (cg cs k).box.toNat 0=(cg cs k).answer
 ·refine yY ?_ (yp ?_)
  ·rw [ca]; simp
  refine ⟨_,rfl,rl,rfl,⟨_,hrl⟩,yw (xs:=zy left) (fun j ys H'=>Grow [] H H' /\ ys=((left.take j).map fun j=>zE cs j k).map V.bl) ⟨Grow.refl _ _,rfl⟩ (fun j ys H' z=>z.1.sqT hrl) ?_ ?_⟩
  ·rintro j x ys H2 hx2 ⟨f2,rfl⟩
   obtain ⟨n,hnj,rfl⟩:=yS hx2
   have hn':=hl n (List.mem_of_getElem? hnj)
   have hj:=(List.getElem?_eq_some_iff.mp hnj).1
   obtain ⟨z2,hz2,rz2,rd2,rfl,sz2,_⟩:=hall.getR (List.getElem?_eq_getElem hn')
   have ec2:cg cs n=cs[n]:=yA (List.getElem?_eq_getElem hn')
   rw [← ec2] at sz2
   have fin:V.bl (zE cs n k)=V.bl (zE cs n k) /\ (((left.take j).map fun j=>zE cs j k).map V.bl).length < sizeLine /\ Grow [] H H2 /\ ((left.take j).map fun j=>zE cs j k).map V.bl ++ [V.bl (zE cs n k)]=((left.take (j+1)).map fun j=>zE cs j k).map V.bl:=by
    refine ⟨rfl,?_,f2,?_⟩
    ·rw [List.length_map,List.length_map,List.length_take]; exact uS (by omega)
    ·rw [xg hnj,List.map_append,List.map_append]; rfl
   obtain ⟨_,f3,f4,f5⟩:=fin
   refine ⟨_,rfl,_,rfl,rc,_,_,.ref rz2,rfl,rfl,f2.sqT hrc,zp hz2,rz2,_,0,.int (cg cs n).hand,rfl,rfl,f2.sqT sz2,zp (j:=0) rfl,_,rfl,_,rfl,rc,_,_,.ref rz,rfl,rfl,f2.sqT hrc,zp hzk,rz,_,0,.int (cg cs k).hand,rfl,rfl,f2.sqT sz,zp (j:=0) rfl,rfl,_,rfl,?_⟩
   by_cases ch:(cg cs n).hand=(cg cs k).hand
   ·refine yT (decide_eq_true (congrArg V.int ch)) ⟨_,rfl,_,rfl,rc,_,_,.ref rz2,rfl,rfl,f2.sqT hrc,zp hz2,rz2,_,3,.int (cg cs n).begun,rfl,rfl,f2.sqT sz2,zp (j:=3) rfl,_,rfl,_,rfl,rc,_,_,.ref rz,rfl,rfl,f2.sqT hrc,zp hzk,rz,_,3,.int (cg cs k).begun,rfl,rfl,f2.sqT sz,zp (j:=3) rfl,_,_,rfl,rfl,f3,f4,?_⟩
    rw [← f5]
    unfold zE
    rw [decide_eq_true ch,Bool.true_and]
   ·refine yY (decide_eq_false fun z=>ch (V.int.inj z)) ⟨f3,f4,?_⟩
    rw [← f5]
    unfold zE
    rw [decide_eq_false ch,Bool.false_and]
  ·rintro ys H2 ⟨f2,rfl⟩ l2 hl2
   rw [zM,List.take_length]
   have gl:=Grow.new (m:=[]) hl2 (.lst ((left.map fun j=>zE cs j k).map V.bl))
   refine ⟨l2,_,rfl,Q0.of zd,_,rfl,?_⟩
   have ea:(left.map fun j=>zE cs j k).any id=left.any fun j=>zE cs j k:=by rw [List.any_map]; rfl
   rw [ea]
   have em:wb cs left k vs = !(left.any fun j=>zE cs j k):=by unfold wb; rw [decide_eq_true ca,Bool.true_and]
   rw [← em]
   exact q _ (f2.trans gl)
 ·refine yT ?_ ?_
  ·show (!decide (V.int _=V.int _))=true
   rw [decide_eq_false fun z=>ca (V.int.inj z)]; rfl
  have em:wb cs left k vs=false:=by unfold wb; rw [decide_eq_false ca,Bool.false_and]
  rw [← em]
  exact q _ (Grow.refl _ _)
theorem ya:FnScope ["_law_board","_law_calls","_law_thing","_law_values","_law_at_here","_law_k"] ["_law_board","_law_calls","_law_thing"] (zi (top 54)):=⟨rfl,rfl,rfl,by decide +kernel,rfl,by decide +kernel,by decide +kernel⟩
theorem vJ (F:Fun K "_law_is_serial" "_law_is_serial" (top 54) f fd) (B:Blt mg) (qc0:zn P w K mg base n "_law_behind" ["_law_calls","_law_k","_law_values"] (sK K)) (qc1:zn P w K mg base n "_law_may" ["_law_calls","_law_left","_law_k","_law_values"] (sJ K))  (g_enumerate:mg "enumerate" = none) (g_sorted:mg "sorted" = none) (g_any:mg "any" = none)   :
  FnOk P w K mg base Jt (n+1) f fd ["_law_board","_law_calls","_law_thing"] (ZK K):=by
 refine F.ok ya xY (fun cdv A outer s H vs Q E hr h=>?_)
 obtain ⟨x,y,z,rfl,b,cs,d,m,hb,b16,hc,ok,hd,hl,q⟩:=h
 refine ⟨_,(ze (zQ (PW.pt (vT (yG (z7 (zm (rN (K:=K) rfl) rfl B.isinstance zB (za (pv 2) (za (xL rfl B.tuple yK) zb))))) (xQ (z7 (zm (ul rfl) rfl g_any Vr (za (z6 (CSc.of (N':=["_law_k"]) (sub:=[none]) (zi (top 54)) ["_law_board","_law_calls","_law_thing","_law_values","_law_at_here","_law_k"] rfl rfl (by decide +kernel) rfl) rfl (xx (pv 2)) (fun _ _ _ _ _ _=>zj (i:=0) (show (["_law_k"]:List Str).Nodup by decide +kernel) rfl (Or.inl rfl)) (fun _ _ _ _ _ _=>zX) (fun _ _ _ _ _ _=>(UY (uc (zm (rL (K:=K) rfl) rfl B.isinstance zB (za (pv 0) (za (xL rfl B.int U7) zb)))) (xR (zm (rL (K:=K) rfl) rfl B.isinstance zB (za (pv 0) (za (xL rfl B.bool UD) zb))))))) zb)))))) (zf (zr yr)) zu) (ze (zQ (zD (Xf hr) (zm (vM (K:=K) rfl) rfl g_sorted jV (za (pv 2) zb)) (x4 rfl rfl B.list rfl B.range (za (zm zt rfl B.len yW (za (pv 1) zb)) zb)) (zA _)) (zf (zr yr)) zu) (ze (zv (i:=3) ya.nd rfl (Or.inl rfl) (pv 0)) (ze (xy PassesOwn.never rfl (wT true (K:=K) rfl rfl g_enumerate (za (pv 2) zb)) (yH rfl (zo (zj (i:=4) ya.nd rfl (Or.inl rfl)) (zo (zj (i:=5) ya.nd rfl (Or.inl rfl)) z8))) (ze (zQ (yG (z7 (zg qc1 hr rfl (za (pv 1) (za (zK (yg (K:=K) rfl) (pv 2) (zO (pv 4)) zV) (za (pv 5) (za (pv 3) zb))))))) (zf (zr yr)) zu) (zf (zv (i:=3) ya.nd rfl (Or.inl rfl) (zg qc0 hr rfl (za (pv 1) (za (pv 5) (za (pv 3) zb)))))))) (zf (zr yr)))))),?_⟩
 obtain ⟨rc,xs',rfl,hrc,hall⟩:=id hc
 obtain ⟨rb,rfl,hrb⟩:=id hb
 have xl':=hall.len
 have c40:=ok.len
 have nord:(¬ ∃ ns,yR cs.length d ns) -> ∀ H',Grow [] H H' -> Q (.bl false) H':=fun no H' g=>q false H' ⟨(fun z=>nomatch z),fun ⟨ns,o,_⟩=>absurd ⟨ns,o⟩ no⟩ g
 refine yM (fun b H'=>Grow [] H H' /\ (b=true -> ¬ ∃ ns,yR cs.length d ns) /\ (b=false -> ∃ (r:Addr) (zs:List Int),z = .ref r /\ d = .tuple (zs.map PyData.int) /\ Q1 K H r (zs.map V.int) /\ zs.length < 64)) (fun Kk hk=>⟨_,rfl,_,d,m,_,_,rfl,hd,rP d,_,rfl,?_⟩) ?_
 ·cases ht:XC d with
  | false=>exact xk (hk _ _ ⟨Grow.refl _ _,(fun _=>rQ ht cs.length),fun z=>nomatch z⟩)
  | true =>
   obtain ⟨r,xs,ds,rfl,rfl,hs,os⟩:=Zi hd ht
   obtain ⟨h64,hnd⟩:=hl ds rfl
   have xl:=os.length
   refine yD ⟨_,rfl,r,rfl,⟨_,hs⟩,yw (xs:=xs) (fun i ys H'=>ys=((ds.take i).map fun e=>!xO e).map V.bl /\ H' = H) ⟨rfl,rfl⟩ (fun i ys H' z=>by rw [z.2]; exact hs) ?_ ?_⟩
   ·rintro i x ys H' hx ⟨rfl,rfl⟩
    obtain ⟨e,he,oe⟩:=os.get hx
    obtain ⟨t,ty,k1,k2,hw⟩:=XD oe (hnd e (List.mem_of_getElem? he))
    have fin:∀ v:Bool,v = !xO e->(((ds.take i).map fun e=>!xO e).map V.bl).length < sizeLine /\ ((ds.take i).map fun e=>!xO e).map V.bl ++ [V.bl v]=((ds.take (i+1)).map fun e=>!xO e).map V.bl /\ H' = H':=fun v hv=>by
     refine ⟨uS (by rw [List.length_map,List.length_map,List.length_take]; omega),?_,rfl⟩
     rw [hv,List.take_succ,he,List.map_append,List.map_append]; rfl
    refine ⟨_,rfl,_,_,t,_,rfl,ty,k1,_,rfl,_,rfl,?_⟩
    cases hq:(xO e || Td e) with
    | false =>
     have hq':=hq
     rw [Bool.or_eq_false_iff] at hq'
     exact yT rfl (fin true (by rw [hq'.1]; rfl))
    | true =>
     refine yY rfl ⟨_,rfl,_,_,t,_,rfl,ty,k2,fin _ ?_⟩
     cases e <;> first | rfl | cases hq
   ·rintro ys H' ⟨rfl,rfl⟩ l hl'
    rw [xl,List.take_length]
    have ea:((ds.map fun e=>!xO e).any id) = !(ds.all xO):=by
     rw [List.any_map,List.all_eq_not_any_not,Bool.not_not]; rfl
    refine ⟨l,ds.map fun e=>!xO e,rfl,Q0.of zd,_,rfl,hk _ _ ⟨Grow.new hl' _,fun z=>?_,fun z=>?_⟩⟩
    ·intro ho
     rw [ea,rR ho] at z
     cases z
    ·rw [ea,Bool.not_eq_false'] at z
     obtain ⟨zs,rfl⟩:=XE z
     rw [vx os] at hs
     exact ⟨r,zs,rfl,rfl,hs,by rw [List.length_map] at h64; exact h64⟩
 rintro bb H1 ⟨g1,hb1,hb2⟩
 cases bb with
 | true=>exact xk (nord (hb1 rfl) _ g1)
 | false =>
  obtain ⟨ro,zs,rfl,rfl,hs,h64⟩:=hb2 rfl
  refine yD (yp ?_)
  refine yM (fun c H'=>(c=false ↔ ∃ ns,yR cs.length (.tuple (zs.map PyData.int)) ns) /\ Grow [] H1 H') (fun Kk hk=>⟨_,rfl,ro,zs,rfl,g1.sqT hs,h64,fun p ms hp hperm hpw=>?_⟩) ?_
  ·have gp:=Grow.new (m:=[]) hp (.lst (ms.map V.int))
   refine ⟨_,rfl,rc,_,rfl,.inr ((g1.trans gp).sqT hrc),xs'.length,rfl,by omega,fun l hl'=>?_⟩
   have gl:=Grow.new (m:=[]) hl' (.lst ((List.range xs'.length).map fun i:Nat=>V.int i))
   refine ⟨p,l,_,_,rfl,rfl,Q0.of (gl.keep _ _ (by simp) zd),Q0.of zd,v4 _,Zj _,_,rfl,hk _ _ ⟨?_,gp.trans gl⟩⟩
   rw [if_pos rfl,show ((List.range xs'.length).map fun i:Nat=>V.int i)=zy (List.range xs'.length) from rfl,yb,wQ,xl',Bool.not_eq_false',decide_eq_true_eq]
   exact rS hperm hpw
  rintro c H2 ⟨hord,g2⟩
  have G2:=g1.trans g2
  cases c with
  | true=>exact xk (nord (fun z=>by have:=hord.mpr z; cases this) _ G2)
  | false =>
   obtain ⟨o,ho⟩:=hord.mp rfl
   have hro:Q1 K H ro (zy o):=by
    have hn:xB K H (.ref ro) o:=XB ho.1 hd
    obtain ⟨r',e',h'⟩:=hn
    cases e'; exact h'
   have ol:o.length=cs.length:=by rw [ho.2.length_eq,List.length_range]
   have olt:∀ k ∈ o,k < cs.length:=fun k hk=>List.mem_range.mp (ho.2.mem_iff.mp hk)
   have hiff:vP b cs (.tuple (zs.map PyData.int)) ↔ (vC cs o=true /\ sY cs b o=true):=by
    rw [ho.1,vE]
    exact ⟨fun z=>z.2,fun z=>⟨ho.2,z⟩⟩
   rw [hiff] at q
   refine yD (yp ?_)
   refine yh (fun v H'=>v = .ref rb /\ H' = H2) (fun Kk hk=>⟨_,rfl,hk _ _ ⟨rfl,rfl⟩⟩) ?_
   rintro _ H2 ⟨rfl,rfl⟩
   refine ⟨_,rfl,ro,_,rfl,G2.sqT hro,uq (c:=true) (xs:=zy o) (fun i σ H'=>∃ (vv:V) (ws:List Int) (e4 e5:Option V),σ = [some (.ref rb),some (.ref rc),some (.ref ro),some vv,e4,e5] /\ zI K H' vv ws /\ ws.length=b.length /\ ((vC cs o=true /\ sY cs b o=true) ↔ (vC cs (o.drop i)=true /\ sY cs ws (o.drop i)=true)) /\ Grow [] H H') ⟨.ref rb,b,_,_,rfl,G2.board hb,rfl,Iff.rfl,G2⟩ (fun i σ H' _ z=>by obtain ⟨_,_,_,_,_,_,_,_,g⟩:=z; exact g.sqT hro) ?_ ?_⟩
   ·rintro i v σ H3 T hv ⟨vv,ws,e4,e5,rfl,hw,wl,hh,g3⟩ hT
    obtain ⟨k,hki,rfl⟩:=yS hv
    have hi:=(List.getElem?_eq_some_iff.mp hki).1
    have hk':=olt k (List.mem_of_getElem? hki)
    have ed:o.drop i=k :: o.drop (i+1):=by rw [List.drop_eq_getElem_cons hi,(List.getElem?_eq_some_iff.mp hki).2]
    have bx:=ok.ok _ (Zf hk')
    have bx0:=bx.b0
    have bx1:(cg cs k).box.toNat < ws.length:=by have:=bx.b1; omega
    rw [ed,YH,← ed] at hh
    have gT:=Grow.new (m:=[]) hT (.tup [.int i,.int k])
    refine ⟨T,_,rfl,Q1.of zd,rfl,_,_,rfl,_,_,rfl,rfl,?_⟩
    try dsimp only
    have g3T:=g3.trans gT
    have hwT:=gT.board hw
    generalize QP H3 T (.tup [.int i,.int k])=H4 at g3T hwT ⊢
    have bl:(jy cs k ws).length=ws.length:=List.length_set ..
    refine yM (fun c H'=>c=(!wb cs (o.drop i) k ws) /\ Grow [] H4 H') (fun Kk hk9=>⟨_,rfl,_,rfl,_,rfl,_,rfl,ro,_,rfl,g3T.sqT hro,fun p1 H5 g5 h5=>⟨_,rfl,_,rfl,_,_,_,_,rfl,cs,o.drop i,k,ws,(g3T.trans g5).calls72 hc,⟨p1,rfl,?_⟩,rfl,g5.board hwT,(fun j hj=>olt j (List.mem_of_mem_drop hj)),hk',by rw [List.length_drop]; omega,bx0,bx1,fun H6 g6=>⟨_,rfl,hk9 _ _ ⟨rfl,g5.trans g6⟩⟩⟩⟩) ?_
    ·rw [vt] at h5
     unfold zy at h5 ⊢
     rw [List.map_drop]
     exact h5
    rintro _ H5 ⟨rfl,g5⟩
    cases hm:wb cs (o.drop i) k ws with
    | false =>
     rw [hm] at hh
     exact xk (q false _ ⟨(fun z=>nomatch z),fun z=>by have:=(hh.mp z).1; cases this⟩ (g3T.trans g5))
    | true =>
     rw [hm] at hh
     refine yD (yp ?_)
     refine ⟨_,rfl,_,rfl,_,rfl,_,_,_,rfl,cs,k,ws,(g3T.trans g5).calls72 hc,rfl,g5.board hwT,hk',by omega,bx.d,bx0,bx1,fun v6 H6 g6 hb6=>?_⟩
     exact ⟨v6,jy cs k ws,_,_,rfl,hb6,by omega,⟨fun z=>(hh.mp z).2,fun z=>hh.mpr ⟨rfl,z⟩⟩,g3T.trans (g5.trans g6)⟩
   ·rintro σ H3 ⟨vv,ws,e4,e5,rfl,hw,wl,hh,g3⟩
    rw [zM,List.drop_length] at hh
    exact q true _ ⟨fun _=>hh.mpr ⟨rfl,rfl⟩,fun _=>rfl⟩ g3
theorem wF:FnScope ["_law_calls","_law_left","_law_values","_law_dead","_law_k","_law_rest"] ["_law_calls","_law_left","_law_values","_law_dead"] (zi (top 55)):=⟨rfl,rfl,rfl,by decide +kernel,rfl,by decide +kernel,by decide +kernel⟩
theorem jC (F:Fun K "_law_can" "_law_can" (top 55) f fd) (B:Blt mg) {N:Nat} (qc0:zn P w K mg base n "_law_may" ["_law_calls","_law_left","_law_k","_law_values"] (sJ K)) (qc1:zn P w K mg base n "_law_can" ["_law_calls","_law_left","_law_values","_law_dead"] (xG P w N K)) (qc2:zn P w K mg base n "_law_behind" ["_law_calls","_law_k","_law_values"] (sK K))     :
  FnOk P w K mg base Jt (n+1) f fd ["_law_calls","_law_left","_law_values","_law_dead"] (xG P w (N+1) K):=by
 refine F.ok wF qz (fun cdv A outer s H vs Q E hr h=>?_)
 obtain ⟨y,z,u,t,rfl,cs,left,vs,dk,m,hc,hn,hb,rfl,hk,nd,lt,C,v16,lN,l8,big,q⟩:=h
 refine ⟨_,(ze (zQ (zD (ji (K:=K) rfl hr) (pv 1) (zR zb) (zA _)) (zf (zr yr)) zu) (ze (zQ (ub (Tv (p1:=JU) (p2:=JU) (P:=P) (w:=w) (K:=K) rfl rfl rfl (Room.u2 hr) (zR (za (pv 1) (za (pv 2) zb))) (pv 3))) (zf (zr yr)) zu) (ze (xy PassesOwn.never rfl (xx (pv 1)) (zj (i:=4) wF.nd rfl (Or.inr rfl)) (zf (zQ (z7 (zg qc0 hr rfl (za (pv 0) (za (pv 1) (za (pv 4) (za (pv 2) zb)))))) (ze (zv (i:=5) wF.nd rfl (Or.inl rfl) (yk yJ rfl B.tuple yK (za (z6 (CSc.of (N':=["_law_j","_law_k"]) (sub:=[none,some 4]) (zi (top 55)) ["_law_calls","_law_left","_law_values","_law_dead","_law_k","_law_rest"] rfl rfl (by decide +kernel) rfl) rfl (xx (pv 1)) (fun _ _ _ _ _ _=>zj (i:=0) (show (["_law_j","_law_k"]:List Str).Nodup by decide +kernel) rfl (Or.inl rfl)) (fun _ _ _ _ _ _=>(jW (zD sf (pv 0) (pv 1) (zA _)))) (fun _ _ _ _ _ _=>(pv 0))) zb))) (zf (zQ (z7 (zg qc1 hr rfl (za (pv 0) (za (pv 5) (za (zg qc2 hr rfl (za (pv 0) (za (pv 4) (za (pv 2) zb)))) (za (pv 3) zb)))))) (zf (zr yr)) zu))) zu))) (ze (Zx (p1:=JU) (p2:=JU) (P:=P) (w:=w) (K:=K) rfl rfl rfl (Room.u2 hr) (pv 3) (zR (za (pv 1) (za (pv 2) zb))) yr rfl) (zf (zr yr)))))),?_⟩
 obtain ⟨rc,xs,rfl,hrc,hall⟩:=id hc
 obtain ⟨rl,rfl,hrl⟩:=id hn
 obtain ⟨rb,rfl,hrb⟩:=id hb
 have c40:=C.len
 refine yM (fun c H'=>c=(zy left).isEmpty /\ Grow [] H H') (fun Kk hk=>⟨_,rfl,JB rfl,fun t ht=>⟨rl,t,zy left,rfl,rfl,(Grow.new (m:=[]) ht _).sqT hrl,Q1.of zd,_,rfl,hk _ _ ⟨rfl,Grow.new ht _⟩⟩⟩) ?_
 rintro _ H1 ⟨rfl,g1⟩
 have hk1:=hk.grow (ms:=[]) (by simp) g1
 by_cases hne:left=[]
 ·subst hne
  refine xk (q true _ g1.wk (hk1.mono (Nat.le_add_right _ _)) ⟨fun _=>Yt,fun _=>rfl⟩)
 have hE:(zy left).isEmpty=false:=by
  cases left with
  | nil=>exact absurd rfl hne
  | cons a l=>rfl
 rw [hE]
 refine yD (yp ?_)
 have hlen:qr left.length=1+left.length * qr (left.length - 1):=by
  cases left with
  | nil=>exact absurd rfl hne
  | cons a l=>rfl
 have szl1:(1000000:Nat) < sizeLine:=by rw [sizeLine_eq]; decide
 have hrlI:∀ {ms:List Addr} {H':Hp},Grow ms H H' -> Q1 K H' rl ((left.map fun k:Nat=>(k:Int)).map V.int):=fun g=>by rw [← yb]; exact g.sqT hrl
 refine yM (fun c H'=>(c=true -> ¬ y6 cs left vs) /\ Grow [] H1 H') (fun Kk hk2=>⟨_,rfl,_,rfl,JB rfl,fun tk htk=>?_⟩) ?_
 ·have gk:=Grow.new (m:=[]) htk (.tup [V.ref rl,V.ref rb])
  have g2:=g1.trans gk
  obtain ⟨kvs,h1,h2,h3,h4⟩:=hk1.grow (by simp) gk
  have kat:JV JU JU K (QP H1 tk (.tup [V.ref rl,V.ref rb])) (left.map (fun k:Nat=>(k:Int)),vs) tk:=⟨_,_,Q1.of zd,⟨rl,rfl,hrlI g2⟩,⟨rb,rfl,g2.sqT hrb⟩⟩
  refine ⟨_,rfl,dk,kvs,_,tk,rfl,rfl,.inl h1,h2,kat,_,rfl,hk2 _ _ ⟨fun z=>?_,gk⟩⟩
  cases e:wI (kvs.map JY) (left.map (fun k:Nat=>(k:Int)),vs) with
  | some y=>exact tW h3 y e
  | none=>rw [e] at z; cases z
 rintro c H2 ⟨hcan0,g2⟩
 have G2:=g1.trans g2
 have hk2:=hk1.grow (ms:=[]) (by simp) g2
 cases c with
 | true =>
  exact xk (q false _ G2.wk (hk2.mono (Nat.le_add_right _ _)) ⟨fun z=>by (cases z),fun z=>absurd z (hcan0 rfl)⟩)
 | false =>
 refine yD (yp ?_)
 refine ⟨_,rfl,rl,rfl,⟨_,G2.sqT hrl⟩,qW (xs:=zy left) (fun i σ H'=>∃ (e4 e5:Option V),σ = [some (.ref rc),some (.ref rl),some (.ref rb),some (.ref dk),e4,e5] /\ Grow [dk] H H' /\ xh P w K cs dk (m+i * qr (left.length - 1)) H' /\ ∀ k ∈ left.take i,¬ (wb cs left k vs=true /\ y6 cs (sG left k) (jy cs k vs))) ⟨_,_,rfl,G2.wk,hk2.mono (Nat.le_add_right _ _),fun k hk=>by (cases hk)⟩ (fun i σ H' _ z=>by obtain ⟨_,_,_,g,_⟩:=z; exact g.sqT hrl) ?_ ?_⟩
 ·rintro i x σ J1 hx ⟨e4,e5,rfl,f1,kn1,hno⟩
  obtain ⟨k,hki,rfl⟩:=yS hx
  have hi:=(List.getElem?_eq_some_iff.mp hki).1
  have km:=List.mem_of_getElem? hki
  have hk':=lt k km
  have bx:=C.ok _ (Zf hk')
  have bx0:=bx.b0
  have bx1:(cg cs k).box.toNat < vs.length:=by have:=bx.b1; omega
  have wl:=v7 nd km
  have mul:i * qr (left.length - 1)+qr (left.length - 1)<=left.length * qr (left.length - 1):=by
   have:=Nat.mul_le_mul_right (qr (left.length - 1)) (show i+1<=left.length by omega)
   rwa [Nat.add_mul,Nat.one_mul] at this
  have kn1':xh P w K cs dk (m+(i+1) * qr (left.length - 1)) J1:=kn1.mono (by rw [Nat.add_mul]; omega)
  have stay:∀ {H':Hp} (e5:Option V),Grow [dk] H H' -> xh P w K cs dk (m+(i+1) * qr (left.length - 1)) H' -> ¬ (wb cs left k vs=true /\ y6 cs (sG left k) (jy cs k vs)) -> ∃ (e4' e5':Option V),[some (V.ref rc),some (V.ref rl),some (V.ref rb),some (V.ref dk),some (V.int (k:Int)),e5]=[some (V.ref rc),some (V.ref rl),some (V.ref rb),some (V.ref dk),e4',e5'] /\ Grow [dk] H H' /\ xh P w K cs dk (m+(i+1) * qr (left.length - 1)) H' /\ ∀ k ∈ left.take (i+1),¬ (wb cs left k vs=true /\ y6 cs (sG left k) (jy cs k vs)):=fun e5 h2 h3 h6=>⟨_,e5,rfl,h2,h3,fun j hj=>by
   rw [xg hki] at hj
   rcases List.mem_append.mp hj with z | z
   ·exact hno j z
   ·rw [List.mem_singleton.mp z]; exact h6⟩
  try dsimp only
  show TQ _ _ _ _ _ _
  refine v9 (fun c H'=>c=wb cs left k vs /\ Grow [] J1 H') (fun Kk hk9=>⟨_,rfl,_,rfl,_,rfl,_,rfl,_,_,_,_,rfl,cs,left,k,vs,f1.calls72 hc,⟨rl,rfl,f1.sqT hrl⟩,rfl,⟨rb,rfl,f1.sqT hrb⟩,lt,hk',by omega,bx0,bx1,fun H' g=>⟨_,rfl,hk9 _ _ ⟨rfl,g⟩⟩⟩) ?_
  rintro _ J2 ⟨rfl,f2⟩
  have f12:=f1.trans f2.wk
  have kn2:=kn1.grow (ms:=[]) (by simp) f2
  have kn2':=kn1'.grow (ms:=[]) (by simp) f2
  cases hmay:wb cs left k vs with
  | false =>
   refine yD ?_
   exact stay e5 f12 kn2' fun z=>by rw [hmay] at z; cases z.1
  | true =>
   refine xk ?_
   have hrlI2:Q1 K J2 rl ((left.map fun k:Nat=>(k:Int)).map V.int):=by rw [← yb]; exact f12.sqT hrl
   refine yh (fun v H'=>xB K H' v (sG left k) /\ Grow [] J2 H') (fun Kk hk2=>⟨_,rfl,rl,rfl,⟨_,hrlI2⟩,tE (pI fun j=>!decide (j=(k:Int))) id hrlI2 (by rw [List.length_map,List.length_map]; omega) ?_ ?_ ?_⟩) ?_
   ·rintro x J4 R hx4 f4 kk
    obtain ⟨j,hj,rfl⟩:=List.mem_map.mp hx4
    refine ⟨_,rfl,_,rfl,rfl,_,rfl,?_⟩
    have:(!decide (V.int j=V.int (k:Int)))=pI (fun j=>!decide (j=(k:Int))) (V.int j):=by
     show _ = !decide (j=(k:Int))
     congr 1
     exact decide_eq_decide.mpr ⟨V.int.inj,congrArg V.int⟩
    rw [this]
    exact kk _ (Grow.refl _ _)
   ·rintro x J4 R hx4 _ f4 kk
    exact ⟨_,rfl,kk _ (Grow.refl _ _)⟩
   ·rintro J4 l4 f4 hl4
    rw [Xn]
    have ef:((left.map fun k:Nat=>(k:Int)).filter fun j=>!decide (j=(k:Int)))=(sG left k).map fun k:Nat=>(k:Int):=by
     unfold sG
     rw [List.filter_map]
     congr 1
     refine List.filter_congr fun j _=>?_
     show (!decide ((j:Int)=(k:Int))) = !decide (j=k)
     congr 1
     exact decide_eq_decide.mpr ⟨fun h=>Int.ofNat.inj h,fun h=>by rw [h]⟩
    rw [ef,← yb]
    exact ⟨l4,_,rfl,.inl ⟨Q0.of zd,fun r hr=>hk2 _ _ ⟨⟨r,rfl,Q1.of zd⟩,f4.trans ((Grow.new hl4 _).trans (Grow.new hr _))⟩⟩⟩
   rintro vr J4 ⟨hvr,f4⟩
   have f14:=f12.trans f4.wk
   have kn4:=kn2.grow (ms:=[]) (by simp) f4
   have bl:(jy cs k vs).length=vs.length:=List.length_set ..
   refine v9 (fun c H'=>(c=true ↔ y6 cs (sG left k) (jy cs k vs)) /\ Grow [dk] J4 H' /\ xh P w K cs dk (m+(i+1) * qr (left.length - 1)) H') (fun Kk hk3=>⟨_,rfl,_,rfl,_,rfl,_,rfl,_,rfl,_,_,_,rfl,cs,k,vs,f14.calls72 hc,rfl,⟨rb,rfl,f14.sqT hrb⟩,hk',v16,bx.d,bx0,bx1,fun v5 J5 f5 hb5=>⟨_,rfl,_,_,_,_,rfl,cs,sG left k,jy cs k vs,dk,m+i * qr (left.length - 1),(f14.trans f5.wk).calls72 hc,?_,hb5,rfl,kn4.grow (ms:=[]) (by simp) f5,tT nd,(fun j hj=>lt j (v8.mp hj).1),by rw [bl]; exact C,by rw [bl]; exact v16,by omega,by omega,?_,fun c J6 f6 kn6 z=>⟨_,rfl,hk3 _ _ ⟨z,f5.wk.trans f6,?_⟩⟩⟩⟩) ?_
   ·obtain ⟨r,rfl,hr⟩:=hvr
    exact ⟨r,rfl,f5.sqT hr⟩
   ·rw [show (sG left k).length=left.length - 1 by omega]; omega
   ·rw [show (sG left k).length=left.length - 1 by omega] at kn6
    exact kn6.mono (by rw [Nat.add_mul]; omega)
   rintro c J5 ⟨z1,f5,kn5⟩
   have f15:=f14.trans f5
   cases c with
   | false =>
    refine yD ?_
    exact stay _ f15 kn5 fun z=>by have:=z1.mpr z.2; cases this
   | true =>
    refine xk ?_
    exact q true _ f15 (kn5.mono (by rw [hlen,Nat.add_mul]; omega)) ⟨fun _=>(uL hne nd).mpr ⟨k,km,hmay,z1.mp rfl⟩,fun _=>rfl⟩
 ·rintro σ J1 ⟨e4,e5,rfl,f1,kn1,hno⟩
  rw [zM] at kn1
  rw [zM,List.take_length] at hno
  have hcv:¬ y6 cs left vs:=fun z=>by
   obtain ⟨k,hk1,hk2⟩:=(uL hne nd).mp z
   exact hno k hk1 hk2
  refine ⟨_,rfl,_,rfl,_,rfl,JB rfl,fun tk2 htk2=>?_⟩
  have gk2:=Grow.new (m:=[]) htk2 (.tup [V.ref rl,V.ref rb])
  have f4:=f1.trans gk2.wk
  obtain ⟨kv3,d1,d2,d3,d4⟩:=kn1.grow (ms:=[]) (by simp) gk2
  have kat2:JV JU JU K (QP J1 tk2 (.tup [V.ref rl,V.ref rb])) (left.map (fun k:Nat=>(k:Int)),vs) tk2:=⟨_,_,Q1.of zd,⟨rl,rfl,hrlI f4⟩,⟨rb,rfl,f4.sqT hrb⟩⟩
  obtain ⟨gs,dd⟩:=Yu (P:=P) (w:=w) d1 d2 d3 d4 kat2 hcv (.bl true)
  refine ⟨dk,kv3,_,tk2,rfl,rfl,d1,d2,kat2,by omega,?_⟩
  exact q false _ (f4.trans gs) (dd.mono (by omega)) ⟨fun z=>by (cases z),fun z=>absurd z hcv⟩
theorem wG:FnScope ["deed","value","add","low","high","result"] ["deed","value"] (zi (top 13)):=⟨rfl,rfl,rfl,by decide +kernel,rfl,by decide +kernel,by decide +kernel⟩
theorem TN (F:Fun K "made" "made" (top 13) f fd) (B:Blt mg)      :
  FnOk P w K mg base Jt (n+1) f fd ["deed","value"] (vp K):=by
 refine F.ok wG yf (fun cdv A outer s H vs Q E hr h=>?_)
 obtain ⟨x,y,rfl,d,v,⟨a,rfl,hs⟩,rfl,q⟩:=h
 refine ⟨_,(ze (yQ (pv 0) (yH rfl (zo (zj (i:=2) wG.nd rfl (Or.inl rfl)) (zo (zj (i:=3) wG.nd rfl (Or.inl rfl)) (zo (zj (i:=4) wG.nd rfl (Or.inl rfl)) z8))))) (ze (zv (i:=5) wG.nd rfl (Or.inl rfl) (zz z9 (pv 1) (pv 2))) (ze (zQ (PW.pt (wK (ub (t9 (pv 3))) (xP (zD qY (pv 3) (pv 5) (zA _))))) (zf (zv (i:=5) wG.nd rfl (Or.inl rfl) (pv 3))) zu) (ze (zQ (PW.pt (wK (ub (t9 (pv 4))) (xP (zD sg (pv 4) (pv 5) (zA _))))) (zf (zv (i:=5) wG.nd rfl (Or.inl rfl) (pv 4))) zu) (zf (zr (pv 5))))))),?_⟩
 obtain ⟨ad,lo,hi⟩:=d
 refine ⟨_,rfl,a,_,rfl,hs,rfl,_,_,rfl,_,_,rfl,_,_,rfl,rfl,?_⟩
 refine ⟨_,rfl,_,rfl,_,_,rfl,rfl,?_⟩
 cases lo with
 | none =>
  refine ⟨_,rfl,_,rfl,yD (yD ?_)⟩
  cases hi with
  | none=>exact ⟨_,rfl,_,rfl,yD (yD ⟨_,rfl,q⟩)⟩
  | some u =>
   refine ⟨_,rfl,_,rfl,xk ⟨_,rfl,_,rfl,_,_,rfl,rfl,_,rfl,?_⟩⟩
   have q':Q (.int (if u < v+ad then u else v+ad)) H:=q
   refine W9 (fun c=>?_) (fun c=>?_)
   ·have c':u < v+ad:=of_decide_eq_true c
    rw [if_pos c'] at q'
    exact ⟨_,rfl,_,rfl,q'⟩
   ·have c':¬ u < v+ad:=fun z=>c (decide_eq_true z)
    rw [if_neg c'] at q'
    exact ⟨_,rfl,q'⟩
 | some l =>
  refine ⟨_,rfl,_,rfl,xk ⟨_,rfl,_,rfl,_,_,rfl,rfl,_,rfl,?_⟩⟩
  have q0:Q (.int (sk hi (if l > v+ad then l else v+ad))) H:=q
  clear q
  refine W9 (fun c=>?_) (fun c=>?_)
  ·have c':l > v+ad:=of_decide_eq_true c
   rw [if_pos c'] at q0
   have q:=q0
   refine ⟨_,rfl,?_⟩
   cases hi with
   | none=>exact ⟨_,rfl,_,rfl,yD (yD ⟨_,rfl,q⟩)⟩
   | some u =>
    refine ⟨_,rfl,_,rfl,xk ⟨_,rfl,_,rfl,_,_,rfl,rfl,_,rfl,?_⟩⟩
    have q':Q (.int (if u < l then u else l)) H:=q
    refine W9 (fun c=>?_) (fun c=>?_)
    ·have c':u < l:=of_decide_eq_true c
     rw [if_pos c'] at q'
     exact ⟨_,rfl,_,rfl,q'⟩
    ·have c':¬ u < l:=fun z=>c (decide_eq_true z)
     rw [if_neg c'] at q'
     exact ⟨_,rfl,q'⟩
  ·have c':¬ l > v+ad:=fun z=>c (decide_eq_true z)
   rw [if_neg c'] at q0
   have q:=q0
   cases hi with
   | none=>exact ⟨_,rfl,_,rfl,yD (yD ⟨_,rfl,q⟩)⟩
   | some u =>
    refine ⟨_,rfl,_,rfl,xk ⟨_,rfl,_,rfl,_,_,rfl,rfl,_,rfl,?_⟩⟩
    have q':Q (.int (if u < v+ad then u else v+ad)) H:=q
    refine W9 (fun c=>?_) (fun c=>?_)
    ·have c':u < v+ad:=of_decide_eq_true c
     rw [if_pos c'] at q'
     exact ⟨_,rfl,_,rfl,q'⟩
    ·have c':¬ u < v+ad:=fun z=>c (decide_eq_true z)
     rw [if_neg c'] at q'
     exact ⟨_,rfl,q'⟩
theorem zH:FnScope ["calls","masks","reached","following","taken","values","order","number","mask","hand","box","deed","begun","ended","answer","may_follow","left"] ["calls","masks","reached"] (zi (top 30)):=⟨rfl,rfl,rfl,by decide +kernel,rfl,by decide +kernel,by decide +kernel⟩
theorem jD (F:Fun K "one_more" "one_more" (top 30) f fd) (B:Blt mg) (qc0:zn P w K mg base n "made" ["deed","value"] (vp K))     :
  FnOk P w K mg base Jt (n+1) f fd ["calls","masks","reached"] (ZA P w K):=by
 refine F.ok zH xY (fun cdv A outer s H vs Q E hr h=>?_)
 obtain ⟨x,y,z,rfl,cs,m,am,ms,ar,kvs,E,hc,rfl,hm,rfl,har,ne,kc,es,ok,ev,few,q⟩:=h
 refine ⟨_,(ze (zv (i:=3) zH.nd rfl (Or.inl rfl) (Zw (P:=P) (w:=w) JT JU rfl rfl)) (ze (xy PassesOwn.never rfl (Wp (pv 2)) (yH rfl (zo (yH rfl (zo (zj (i:=4) zH.nd rfl (Or.inl rfl)) (zo (zj (i:=5) zH.nd rfl (Or.inl rfl)) z8))) (zo (zj (i:=6) zH.nd rfl (Or.inl rfl)) z8))) (zf (xy PassesOwn.never rfl (Wp (pv 1)) (yH rfl (zo (zj (i:=7) zH.nd rfl (Or.inl rfl)) (zo (zj (i:=8) zH.nd rfl (Or.inl rfl)) z8))) (ze (yQ (zF zN (pv 0) (pv 7) (fun _ _=>rfl)) (yH rfl (zo (zj (i:=9) zH.nd rfl (Or.inl rfl)) (zo (zj (i:=10) zH.nd rfl (Or.inl rfl)) (zo (zj (i:=11) zH.nd rfl (Or.inl rfl)) (zo (zj (i:=12) zH.nd rfl (Or.inl rfl)) (zo (zj (i:=13) zH.nd rfl (Or.inl rfl)) (zo (zj (i:=14) zH.nd rfl (Or.inl rfl)) z8)))))))) (ze (zv (i:=15) zH.nd rfl (Or.inl rfl) (xS (yu xN (zz Uy (zz T6 (pv 4) (pv 7)) zh) zh (zA _)) (xR (yu xN (zz Uy (pv 8) (pv 4)) (pv 8) (zA _))))) (zf (zQ (PW.pt (wK (z7 (pv 15)) (xP (zD xN (zF zN (pv 5) (pv 10) (fun _ _=>rfl)) (pv 14) (zA _))))) (ze (zv (i:=16) zH.nd rfl (Or.inl rfl) (zz (yv (K:=K) rfl) (zz (yv (K:=K) rfl) (zK (yg (K:=K) rfl) (pv 5) zV (zO (pv 10))) (zR (za (zg qc0 hr rfl (za (pv 11) (za (pv 14) zb))) zb))) (zK (yg (K:=K) rfl) (pv 5) (zO (zz z9 (pv 10) zh)) zV))) (zf (Zx (p1:=JT) (p2:=JU) (P:=P) (w:=w) (K:=K) rfl rfl rfl (Room.u2 hr) (pv 3) (zR (za (zz Rx (pv 4) (zz Ux zh (pv 7))) (za (pv 16) zb))) (zz (yv (K:=K) rfl) (pv 6) (zR (za (pv 7) zb))) rfl))) zu))))))) (zf (zr (pv 3))))),?_⟩
 obtain ⟨rc,xs,rfl,hrc,hall⟩:=id hc
 refine yh (fun v H'=>∃ d,v = .ref d /\ H d=none /\ H' = QP H d (JW JT JU P w d [])) (fun Kk hk=>fun d hd=>hk _ _ ⟨d,rfl,hd,rfl⟩) ?_
 rintro _ _ ⟨d,rfl,hd,rfl⟩
 have g0:=Grow.new (m:=[]) hd (JW JT JU P w d [])
 have hd0:=zd (H:=H) (a:=d) (o:=JW JT JU P w d [])
 have nda:d ≠ ar:=fun z=>by rw [z,har] at hd; cases hd
 have ndm:d ≠ am:=fun z=>by
  rw [z] at hd
  rcases hm with h | ⟨o,h⟩ <;> rw [h] at hd <;> cases hd
 have har0:=g0.keep _ _ (by simp) har
 have hm0:Rd (QP H d (JW JT JU P w d [])) am (.dK (y4 ms)):=hm.imp (fun z=>g0.keep _ _ (by simp) z) fun ⟨o,z⟩=>⟨o,g0.keep _ _ (by simp) z⟩
 generalize QP H d _=H0 at g0 hd0 har0 hm0 ⊢
 refine ⟨_,rfl,ar,_,_,rfl,SR P w ar kvs,.inl har0,fun o H1 hf1 g1 ho1=>?_⟩
 have om1:Om73 P w K H am ar d o ms kvs [] H1:=⟨g0.wk.trans (g1.mono (by simp)),hf1,hm0.imp (fun z=>by rw [ho1 am ne]; exact z) fun ⟨o,z⟩=>⟨o,g1.frz _ _ _ z⟩,[],by rw [ho1 d nda]; exact hd0,nofun,.nil⟩
 refine SU (fun i σ H'=>(∃ e4 e5 e6,RZ σ (some (.ref rc)) (some (.ref am)) (some (.ref ar)) (some (.ref d)) e4 e5 e6) /\ Om73 P w K H am ar d o ms kvs ((E.take i).foldl (zY cs ms) []) H') ⟨⟨_,_,_,_,_,_,_,_,_,_,_,_,_,rfl⟩,om1⟩ (fun i σ H' _ z=>z.2.r) ?_ ?_
 ·rintro i p T σ H2 hp hT ⟨⟨e4,e5,e6,e7,e8,e9,e10,e11,e12,e13,e14,e15,e16,rfl⟩,om2⟩
  rw [List.getElem?_map] at hp
  obtain ⟨x,hx,rfl⟩:=Option.map_eq_some_iff.mp hp
  obtain ⟨e,he,hk,hn⟩:=es.get hx
  obtain ⟨v1,v2,hb,hv1,hv2⟩:=kc x (List.mem_of_getElem? hx)
  rw [hk] at hv1 hv2
  obtain rfl:v1=V.int (e.1.1:Int):=hv1
  obtain ⟨rv,rfl,hrv⟩:=hv2
  obtain ⟨ro,ero,hro⟩:=hn
  rw [ero]
  have hi:=(List.getElem?_eq_some_iff.mp he).1
  have evE:=ev e (List.mem_of_getElem? he)
  have gT:=Grow.new (m:=[]) hT (.tup [V.ref x.2.1,.ref ro])
  have om3:=om2.grow gT
  have hTT:=zd (H:=H2) (a:=T) (o:=.tup [V.ref x.2.1,.ref ro])
  generalize QP H2 T _=H3 at gT om3 hTT ⊢
  refine ⟨T,_,rfl,Q1.of hTT,rfl,_,_,rfl,x.2.1,_,rfl,om3.g.sqT hb,rfl,_,_,rfl,_,_,rfl,rfl,_,_,rfl,rfl,?_⟩
  try dsimp only
  refine ⟨_,rfl,am,_,_,rfl,SO am (y4 ms),om3.m,fun o2 H4 hf4 g4 ho4=>?_⟩
  obtain ⟨kv3,d1,d2,d3⟩:=om3.d
  have om4:Om73 P w K H am ar d o ms kvs ((E.take i).foldl (zY cs ms) []) H4:=⟨om3.g.trans (g4.mono (by simp)),g4.frz _ _ _ om3.r,.inr ⟨o2,hf4⟩,kv3,by rw [ho4 d ndm]; exact d1,d2.grow g4,d3.grow g4⟩
  clear d1 d2 d3 om3 om2
  refine SU (fun j σ H'=>RZ σ (some (.ref rc)) (some (.ref am)) (some (.ref ar)) (some (.ref d)) (some (.int (e.1.1:Int))) (some (.ref rv)) (some (.ref ro)) /\ Om73 P w K H am ar d o ms kvs ((ms.take j).foldl (yx cs e) ((E.take i).foldl (zY cs ms) [])) H' /\ H' am=some (.frz o2 (.dK (y4 ms)))) ⟨⟨_,_,_,_,_,_,_,_,_,_,rfl⟩,om4,hf4⟩ (fun j σ H' _ z=>z.2.2) ?_ ?_
  ·rintro j p2 T2 σ H5 hp2 hT2 ⟨⟨e7,e8,e9,e10,e11,e12,e13,e14,e15,e16,rfl⟩,om5,hf5⟩
   obtain ⟨nM,hnM,rfl⟩:=V6 hp2
   obtain ⟨n,M⟩:=nM
   have hj:=(List.getElem?_eq_some_iff.mp hnM).1
   have hn':n < cs.length:=ok.lt _ (List.mem_of_getElem? hnM)
   have gT2:=Grow.new (m:=[]) hT2 (.tup [V.int (n:Int),.int ((M:Nat):Int)])
   have om6:=om5.grow gT2
   have hf6:=gT2.keep _ _ (by simp) hf5
   have hTT2:=zd (H:=H5) (a:=T2) (o:=.tup [V.int (n:Int),.int ((M:Nat):Int)])
   generalize QP H5 T2 _=H6 at gT2 om6 hTT2 hf6 ⊢
   obtain ⟨zc,hzc,rz,rd,rfl,sz,sd⟩:=hall.getR (List.getElem?_eq_getElem hn')
   have ec:cg cs n=cs[n]:=yA (List.getElem?_eq_getElem hn')
   have oc:CallOk72 m (cg cs n):=ok.ok _ (Zf hn')
   rw [← ec] at sz sd
   refine ⟨T2,_,rfl,Q1.of hTT2,rfl,_,_,rfl,_,_,rfl,rfl,?_⟩
   try dsimp only
   refine ⟨_,rfl,_,rfl,rc,_,_,.ref rz,rfl,rfl,om6.g.sqT hrc,zp hzc,rz,_,rfl,om6.g.sqT sz,rfl,_,_,rfl,_,_,rfl,_,_,rfl,_,_,rfl,_,_,rfl,_,_,rfl,rfl,?_⟩
   try dsimp only
   refine yh (fun v H'=>v = .bl (decide (e.1.1.testBit n=false) && decide (M &&& e.1.1=M)) /\ H' = H6) (fun Kk hk=>⟨_,rfl,_,rfl,_,_,rfl,rfl,by omega,_,_,rfl,rfl,rfl,_,rfl,?_⟩) ?_
   ·rw [Wv]
    by_cases c1:e.1.1.testBit n=false
    ·rw [decide_eq_true c1]
     refine xk ⟨_,rfl,_,rfl,_,_,rfl,rfl,_,rfl,rfl,?_⟩
     rw [Ww]
     exact hk _ _ ⟨by rw [decide_eq_true c1]; rfl,rfl⟩
    ·rw [decide_eq_false c1]
     exact yD (hk _ _ ⟨by rw [decide_eq_false c1]; rfl,rfl⟩)
   rintro _ H6 ⟨rfl,rfl⟩
   have tk:(ms.take (j+1)).foldl (yx cs e) ((E.take i).foldl (zY cs ms) [])=yx cs e ((ms.take j).foldl (yx cs e) ((E.take i).foldl (zY cs ms) [])) (n,M):=by
    rw [xg hnM,List.foldl_append]; rfl
   generalize hF:(ms.take j).foldl (yx cs e) ((E.take i).foldl (zY cs ms) [])=F at om6 tk
   have flen:F.length < E.length * ms.length:=by rw [← hF]; exact Yn hi hj
   generalize hc1:(decide (e.1.1.testBit n=false) && decide (M &&& e.1.1=M))=c1
   refine ⟨_,rfl,c1,rfl,?_⟩
   have stay:¬ wX cs e n M=true->RZ [some (.ref rc),some (.ref am),some (.ref ar),some (.ref d),some (.int (e.1.1:Int)),some (.ref rv),some (.ref ro),some (.int (n:Int)),some (.int ((M:Nat):Int)),some (.int (cg cs n).hand),some (.int (cg cs n).box),some (.ref rd),some (.int (cg cs n).begun),some (.int (cg cs n).ended),some (.int (cg cs n).answer),some (.bl c1),e16] (some (.ref rc)) (some (.ref am)) (some (.ref ar)) (some (.ref d)) (some (.int (e.1.1:Int))) (some (.ref rv)) (some (.ref ro)) /\ Om73 P w K H am ar d o ms kvs ((ms.take (j+1)).foldl (yx cs e) ((E.take i).foldl (zY cs ms) [])) H6 /\ H6 am=some (.frz o2 (.dK (y4 ms))):=fun hmay=>by
    refine ⟨⟨_,_,_,_,_,_,_,_,_,_,rfl⟩,?_,hf6⟩
    rw [tk]
    unfold yx
    rw [if_neg hmay]
    exact om6
   cases c1 with
   | false =>
    refine yD (yD ?_)
    exact stay (fun z=>by
     unfold wX at z
     rw [hc1] at z; cases z)
   | true =>
    refine xk ?_
    have b0:=oc.b0
    have b1:=oc.b1
    have hbx:(cg cs n).box.toNat < e.1.2.length:=by rw [evE.1]; omega
    have ebx:(cg cs n).box=((cg cs n).box.toNat:Int):=(Int.toNat_of_nonneg b0).symm
    have hat:Jm (e.1.2.map V.int) (cg cs n).box=some (.int (e.1.2.getD (cg cs n).box.toNat 0)):=by
     rw [ebx]
     refine zp ?_
     rw [List.getElem?_map,List.getElem?_eq_getElem hbx,Int.toNat_natCast,List.getD_eq_getElem?_getD,List.getElem?_eq_getElem hbx]
     rfl
    have hrv6:=om6.g.sqT hrv
    refine ⟨_,rfl,_,rfl,rv,_,_,_,rfl,rfl,hrv6,hat,_,rfl,rfl,_,rfl,?_⟩
    by_cases ca:e.1.2.getD (cg cs n).box.toNat 0=(cg cs n).answer
    ·have may:wX cs e n M=true:=by
      unfold wX
      rw [hc1,decide_eq_true ca]; rfl
     refine yT (decide_eq_true (congrArg V.int ca)) ?_
     refine yh (fun v H'=>∃ rl,v = .ref rl /\ Q1 K H' rl ((x9 cs e.1.2 n).map V.int) /\ Grow [] H6 H') (fun Kk hk=>?_) ?_
     ·refine ⟨_,rfl,_,rfl,_,rfl,rv,_,rfl,hrv6,fun p1 H7 g7 h7=>⟨_,rfl,_,rfl,_,_,rfl,(cg cs n).deed,(cg cs n).answer,⟨rd,rfl,g7.sqT (om6.g.sqT sd)⟩,rfl,JB rfl,fun t7 ht7=>?_⟩⟩
      have gt7:=Grow.new (m:=[]) ht7 (.tup [.int ((cg cs n).deed.mk' (cg cs n).answer)])
      have cl1:∀ lo hi,(vm (e.1.2.map V.int) lo hi).length<=16:=fun lo hi=>by
       have:=xc (e.1.2.map V.int) lo hi
       rw [List.length_map,evE.1] at this
       exact Nat.le_trans this ok.m16
      refine ⟨p1,t7,_,_,rfl,rfl,gt7.sqT h7,Q1.of zd,?_,fun p2 H8 g8 h8=>?_⟩
      ·exact uT (Nat.le_trans (Nat.add_le_add (cl1 _ _) (Nat.le_refl 1)) (by decide))
      refine ⟨_,rfl,_,rfl,_,_,rfl,rfl,_,rfl,rv,_,rfl,g8.sqT (gt7.sqT (g7.sqT hrv6)),fun p3 H9 g9 h9=>⟨p2,p3,_,_,rfl,rfl,g9.sqT h8,h9,?_,fun p4 H10 g10 h10=>hk _ _ ⟨p4,rfl,?_,g7.trans (gt7.trans (g8.trans (g9.trans g10)))⟩⟩⟩
      ·rw [List.length_append]
       exact uT (Nat.le_trans (Nat.add_le_add (Nat.add_le_add (cl1 _ _) (Nat.le_refl 1)) (cl1 _ _)) (by decide))
      ·have e1:(cg cs n).box+1=(((cg cs n).box.toNat+1:Nat):Int):=by omega
       rw [e1,ebx,Int.toNat_natCast,ur,vt,Wx hbx] at h10
       exact h10
     rintro _ H7 ⟨rl,rfl,hrl,g7⟩
     have om7:=om6.grow g7
     have hf7:=g7.keep _ _ (by simp) hf6
     refine ⟨_,rfl,_,rfl,JB rfl,fun t8 ht8=>?_⟩
     have gt8:=Grow.new (m:=[]) ht8 (.tup [.int (n:Int)])
     have hro8:=gt8.sqT (om7.g.sqT hro)
     refine ⟨ro,t8,_,_,rfl,rfl,hro8,Q1.of zd,?_,fun po H9 g9 h9=>?_⟩
     ·rw [zM]; exact uT (by show _+1<=5000; have:=evE.2; omega)
     have om9:=(om7.grow gt8).grow g9
     have hf9:=g9.keep _ _ (by simp) (gt8.keep _ _ (by simp) hf7)
     refine ⟨_,rfl,_,rfl,_,rfl,_,_,rfl,rfl,⟨by omega,by have:=ok.c40; omega,by decide⟩,_,_,rfl,rfl,_,rfl,JB rfl,fun tkk htk=>?_⟩
     have gtk:=Grow.new (m:=[]) htk (.tup [.int (Builtin.bitOr (e.1.1:Int) (1 * 2 ^ ((n:Int)).toNat)),.ref rl])
     have om10:=om9.grow gtk
     have hf10:=gtk.keep _ _ (by simp) hf9
     have htk10:=zd (H:=H9) (a:=tkk) (o:=.tup [.int (Builtin.bitOr (e.1.1:Int) (1 * 2 ^ ((n:Int)).toNat)),.ref rl])
     have hrl10:=gtk.sqT (g9.sqT (gt8.sqT hrl))
     have h10:=gtk.sqT h9
     generalize QP H9 tkk _=H10 at om10 hf10 htk10 hrl10 h10 ⊢
     rw [V7] at htk10
     obtain ⟨kv10,d1,d2,d3⟩:=om10.d
     have kat:JV JT JU K H10 (((e.1.1 ||| 2 ^ n:Nat):Int),x9 cs e.1.2 n) tkk:=⟨_,_,Q1.of htk10,rfl,rl,rfl,hrl10⟩
     have nums:xB K H10 (.ref po) (e.2 ++ [n]):=⟨po,rfl,by rw [wV]; exact h10⟩
     refine ⟨d,kv10,_,tkk,rfl,rfl,d1,d2,kat,?_,⟨_,_,_,_,_,_,_,_,_,_,rfl⟩,?_,?_⟩
     ·rw [Paired.length d3]
      exact Nat.lt_of_lt_of_le flen few
     ·have gs:Grow [d] H10 (QP H10 d (JW JT JU P w d (xq kv10 (((e.1.1 ||| 2 ^ n:Nat):Int),x9 cs e.1.2 n) tkk (.ref po)))):=Grow.setE73 d1 (by simp)
      refine ⟨om10.g.trans (gs.mono (by simp)),gs.frz _ _ _ om10.r,om10.m.imp (fun z=>gs.keep _ _ (by simpa using Ne.symm ndm) z) (fun ⟨o,z⟩=>⟨o,gs.frz _ _ _ z⟩),_,zd,(d2.store kat).grow gs,?_⟩
      rw [tk]
      unfold yx
      rw [if_pos may]
      exact (d3.store nums).grow gs
     ·rw [zq (Ne.symm ndm)]; exact hf10
    ·refine yY (decide_eq_false (fun z=>ca (V.int.inj z))) ?_
     exact stay (fun z=>by
      unfold wX at z
      rw [decide_eq_false ca,Bool.and_false] at z; cases z)
  ·rintro σ H5 ⟨⟨e7,e8,e9,e10,e11,e12,e13,e14,e15,e16,rfl⟩,om5,_⟩
   rw [List.length_map,show (y4 ms).length=ms.length from List.length_map ..,List.take_length] at om5
   refine ⟨⟨_,_,_,_,_,_,_,_,_,_,_,_,_,rfl⟩,?_⟩
   rw [xg he,List.foldl_append]
   exact om5
 ·rintro σ H2 ⟨⟨e4,e5,e6,e7,e8,e9,e10,e11,e12,e13,e14,e15,e16,rfl⟩,om2⟩
  rw [List.length_map,show kvs.length=E.length from Paired.length es,List.take_length] at om2
  obtain ⟨kv2,d1,d2,d3⟩:=om2.d
  exact ⟨_,rfl,q d kv2 H2 hd (om2.g.less fun b hb=>by
   simp only [List.mem_cons,List.not_mem_nil,or_false] at hb ⊢
   rcases hb with rfl | rfl | rfl
   ·exact .inl (.inl rfl)
   ·exact .inl (.inr rfl)
   ·exact .inr hd) om2.m d1 d2 d3⟩
theorem xi:FnScope ["board","calls","masks","reached","number","orders"] ["board","calls","masks"] (zi (top 31)):=⟨rfl,rfl,rfl,by decide +kernel,rfl,by decide +kernel,by decide +kernel⟩
theorem jE (F:Fun K "order_by" "order_by" (top 31) f fd) (B:Blt mg) (qc0:zn P w K mg base n "one_more" ["calls","masks","reached"] (ZA P w K))     :
  FnOk P w K mg base Jt (n+1) f fd ["board","calls","masks"] (Wt K):=by
 refine F.ok xi xY (fun cdv A outer s H vs Q E hr h=>?_)
 obtain ⟨x,y,z,rfl,b,cs,am,ms,hb,hc,rfl,hm,ok,q⟩:=h
 refine ⟨_,(ze (zv (i:=3) xi.nd rfl (Or.inl rfl) (Wn (p1:=JT) (p2:=JU) (P:=P) (w:=w) (K:=K) rfl rfl rfl (Room.u2 hr) (zR (za zh (za (pv 0) zb))) (zR zb))) (ze (xy PassesOwn.never rfl (Tw (pv 2)) (zj (i:=4) xi.nd rfl (Or.inl rfl)) (zf (zv (i:=3) xi.nd rfl (Or.inl rfl) (zg qc0 hr rfl (za (pv 1) (za (pv 2) (za (pv 3) zb))))))) (ze (zv (i:=5) xi.nd rfl (Or.inl rfl) (jo hr rfl B.list (pv 3))) (zf (zr (Ve (Vj (pv 5) (fun _=>rfl)) (zF zW (pv 5) zh (fun _ _=>rfl)) wJ)))))),?_⟩
 obtain ⟨rb,rfl,hrb⟩:=id hb
 obtain ⟨rc,xs,rfl,hrc,hall⟩:=id hc
 refine yh (fun v H'=>∃ d kvs,v = .ref d /\ H d=none /\ H' d=some (JW JT JU P w d kvs) /\ JX JT JU K H' kvs /\ yV K H' kvs [((0,b),[])] /\ Grow [] H H') (fun Kk hk=>fun p hp=>⟨_,rfl,JB rfl,fun tk htk=>⟨JB rfl,fun te hte=>?_⟩⟩) ?_
 ·have g0:=Grow.new (m:=[]) hp (JW JT JU P w p [])
  have gk:=Grow.new (m:=[]) htk (.tup [V.int 0,.ref rb])
  have ge:=Grow.new (m:=[]) hte (.tup [])
  have hp1:QP (QP (QP H p (JW JT JU P w p [])) tk (.tup [V.int 0,.ref rb])) te (.tup []) p=some (JW JT JU P w p []):=ge.keep _ _ (by simp) (gk.keep _ _ (by simp) zd)
  have gs:Grow [p] (QP (QP (QP H p (JW JT JU P w p [])) tk (.tup [V.int 0,.ref rb])) te (.tup [])) (QP (QP (QP (QP H p (JW JT JU P w p [])) tk (.tup [V.int 0,.ref rb])) te (.tup [])) p (JW JT JU P w p [(((0:Int),b),tk,.ref te)])):=Grow.setE73 hp1 (by simp)
  have kat:JV JT JU K (QP (QP (QP H p (JW JT JU P w p [])) tk (.tup [V.int 0,.ref rb])) te (.tup [])) ((0:Int),b) tk:=⟨_,_,ge.sqT (Q1.of zd),rfl,rb,rfl,(g0.trans (gk.trans ge)).sqT hrb⟩
  refine ⟨hp1,tk,((0:Int),b),rfl,kat,hk _ _ ⟨p,_,rfl,hp,zd,?_,?_,Grow.shrink hp ((g0.trans (gk.trans ge)).wk.trans gs)⟩⟩
  ·intro x hx
   rw [List.mem_singleton.mp hx]
   exact kat.grow gs
  ·exact .cons ⟨rfl,te,rfl,gs.sqT (Q1.of zd)⟩ .nil
 rintro _ H0 ⟨d,kvs0,rfl,hd,hd0,kc0,es0,g0⟩
 have nda:d ≠ am:=fun z=>by
  rw [z] at hd
  rcases hm with h | ⟨o,h⟩ <;> rw [h] at hd <;> cases hd
 have hm0:Rd H0 am (.dK (y4 ms)):=hm.imp (fun z=>g0.keep _ _ (by simp) z) fun ⟨o,z⟩=>⟨o,g0.keep _ _ (by simp) z⟩
 refine ⟨_,rfl,am,_,_,rfl,SO am (y4 ms),hm0,fun o H1 hf1 g1 ho1=>?_⟩
 refine RX (fun i σ H'=>∃ (r:Addr) (kvs:List ((Int × List Int) × Addr × V)) (e4 e5:Option V),σ = [some (.ref rb),some (.ref rc),some (.ref am),some (.ref r),e4,e5] /\ Grow [am] H H' /\ H' am=some (.frz o (.dK (y4 ms))) /\ H' r=some (JW JT JU P w r kvs) /\ am ≠ r /\ H r=none /\ JX JT JU K H' kvs /\ yV K H' kvs (wq cs ms b i)) ⟨d,kvs0,_,_,rfl,g0.wk.trans g1,hf1,by rw [ho1 d nda]; exact hd0,Ne.symm nda,hd,kc0.grow g1,es0.grow g1⟩ (fun i σ H' _ z=>by obtain ⟨_,_,_,_,_,_,h,_⟩:=z; exact h) ?_ ?_
 ·rintro i p σ H2 hp ⟨r,kvs,e4,e5,rfl,g2,hf2,hr2,nr,hr0,kc2,es2⟩
  have hi:=(List.getElem?_eq_some_iff.mp hp).1
  rw [List.length_map,show (y4 ms).length=ms.length from List.length_map ..] at hi
  have few8:=ok.few
  try dsimp only
  refine ⟨_,rfl,_,rfl,_,rfl,_,_,_,rfl,cs,b.length,am,ms,r,kvs,wq cs ms b i,⟨rc,xs,rfl,g2.sqT hrc,g2.callsR hall⟩,rfl,.inr ⟨o,hf2⟩,rfl,hr2,nr,kc2,es2,ok,V8 (by omega),WA ok.few hi,fun r' kvs' H3 hr' g3 hm3 hr3 kc3 es3=>⟨r',kvs',_,_,rfl,?_,g3.frz _ _ _ hf2,hr3,fun z=>?_,?_,kc3,es3⟩⟩
  ·exact (g2.mono (by simp):Grow [am,r] H H2).trans g3 |>.less fun c hc=>by
    simp only [List.mem_cons,List.not_mem_nil,or_false] at hc ⊢
    rcases hc with rfl | rfl
    ·exact .inl rfl
    ·exact .inr hr0
  ·rw [← z,hf2] at hr'; cases hr'
  ·refine g2.free (fun z=>?_) hr'
   rw [List.mem_singleton.mp z,hf2] at hr'; cases hr'
 ·rintro σ H2 ⟨r,kvs,e4,e5,rfl,g2,hf2,hr2,nr,hr0,kc2,es2⟩
  rw [List.length_map,show (y4 ms).length=ms.length from List.length_map ..] at es2
  try dsimp only
  have hl:=Paired.length es2
  refine yh (fun v H'=>∃ l,v = .ref l /\ H' l=some (.lst (kvs.map fun x=>x.2.2)) /\ Grow [am] H H' /\ yV K H' kvs (wq cs ms b ms.length)) (fun Kk hk=>⟨_,rfl,r,_,_,rfl,by rw [List.length_map,hl]; exact Yo ok.few,SR P w r kvs,.inl hr2,fun o' H3 hf3 g3 ho3 l hl3=>hk _ _ ⟨l,rfl,by rw [zd,List.map_map]; rfl,?_,?_⟩⟩) ?_
  ·exact ((g2.mono (by simp):Grow [am,r] H H2).trans ((g3.mono (by simp)).trans (Grow.new hl3 _))).less fun c hc=>by
    simp only [List.mem_cons,List.not_mem_nil,or_false] at hc ⊢
    rcases hc with rfl | rfl
    ·exact .inl rfl
    ·exact .inr hr0
  ·exact (es2.grow g3).grow (Grow.new (m:=[]) hl3 _)
  rintro _ H3 ⟨l,rfl,hl3,g3,es3⟩
  refine ⟨_,rfl,_,.inl ⟨_,Q0.of hl3,rfl⟩,?_⟩
  unfold jj at q
  generalize wq cs ms b ms.length=E at es3 q
  cases es3 with
  | nil=>exact yD (q _ _ g3 rfl)
  | @cons x e xs' es' hx t =>
   refine xk ⟨_,rfl,l,_,0,x.2.2,rfl,rfl,Q0.of hl3,zp (j:=0) rfl,q _ _ g3 ?_⟩
   exact hx.2
theorem YJ:FnScope ["numbers"] ["numbers"] (zi (top 29)):=⟨rfl,rfl,rfl,by decide +kernel,rfl,by decide +kernel,by decide +kernel⟩
theorem YK (F:Fun K "as_mask" "as_mask" (top 29) f fd) (B:Blt mg)   (g_sum:mg "sum" = none)   :
  FnOk P w K mg base Jt (n+1) f fd ["numbers"] (qk K):=by
 refine F.ok YJ yX (fun cdv A outer s H vs Q E hr h=>?_)
 obtain ⟨x,rfl,ns,hn,pw,lt,q⟩:=h
 refine ⟨_,(zf (zr (zm (Xv rfl) rfl g_sum RC (za (z6 (CSc.of (N':=["number"]) (sub:=[none]) (zi (top 29)) ["numbers"] rfl rfl (by decide +kernel) rfl) rfl (se (pv 0)) (fun _ _ _ _ _ _=>zj (i:=0) (show (["number"]:List Str).Nodup by decide +kernel) rfl (Or.inl rfl)) (fun _ _ _ _ _ _=>zX) (fun _ _ _ _ _ _=>(zz Ux zh (pv 0)))) zb)))),?_⟩
 obtain ⟨r,rfl,hr⟩:=hn
 have n40:=RY pw lt
 rw [yb] at hr
 refine ⟨_,rfl,r,rfl,⟨_,hr⟩,Z0 (fun i=>1 * 2 ^ i.toNat) hr (by rw [List.length_map]; omega) ?_ ?_⟩
 ·rintro i H' R hi g kk
  obtain ⟨k,hk,rfl⟩:=List.mem_map.mp hi
  have:=lt k hk
  exact ⟨_,rfl,_,_,rfl,rfl,⟨by omega,by omega,by decide⟩,kk _ (Grow.refl _ _)⟩
 ·rintro H' l g hl
  refine ⟨l,_,rfl,Q0.of zd,?_⟩
  rw [ql,Zp rfl pw]
  exact q _ (g.trans (Grow.new hl _))
theorem yz:FnScope ["calls","masks","number","call","hand","begun"] ["calls"] (zi (top 37)):=⟨rfl,rfl,rfl,by decide +kernel,rfl,by decide +kernel,by decide +kernel⟩
theorem sN (F:Fun K "hand_masks" "hand_masks" (top 37) f fd) (B:Blt mg) (qc0:zn P w K mg base n "as_mask" ["numbers"] (qk K))  (g_enumerate:mg "enumerate" = none)   :
  FnOk P w K mg base Jt (n+1) f fd ["calls"] (WF K):=by
 refine F.ok yz yX (fun cdv A outer s H vs Q E hr h=>?_)
 obtain ⟨x,rfl,cs,hc,c40,q⟩:=h
 refine ⟨_,(ze (zv (i:=1) yz.nd rfl (Or.inl rfl) Zv) (ze (xy PassesOwn.never rfl (wT true (K:=K) rfl rfl g_enumerate (za (pv 0) zb)) (yH rfl (zo (zj (i:=2) yz.nd rfl (Or.inl rfl)) (zo (zj (i:=3) yz.nd rfl (Or.inl rfl)) z8))) (ze (yQ (zR (za (zF zN (pv 3) zh (fun _ _=>rfl)) (za (zF zN (pv 3) zh (fun _ _=>rfl)) zb))) (yH rfl (zo (zj (i:=4) yz.nd rfl (Or.inr rfl)) (zo (zj (i:=5) yz.nd rfl (Or.inr rfl)) z8)))) (zf (Wj (Room.u173 hr) (pv 1) (pv 2) (zg qc0 hr rfl (za (z6 (CSc.of (N':=["at","other","hand","begun"]) (sub:=[none,none,some 4,some 5]) (zi (top 37)) ["calls","masks","number","call","hand","begun"] rfl rfl (by decide +kernel) rfl) rfl (wT true (K:=K) rfl rfl g_enumerate (za (pv 0) zb)) (fun _ _ _ _ _ _=>Xr (K:=K) 2 rfl rfl (zo (zj (i:=0) (show (["at","other","hand","begun"]:List Str).Nodup by decide +kernel) rfl (Or.inl rfl) (Or.inr rfl)) (zo (zj (i:=1) (show (["at","other","hand","begun"]:List Str).Nodup by decide +kernel) rfl (Or.inl rfl) (Or.inr rfl)) z8)) rfl rfl) (fun _ _ _ _ _ _=>(jW (PW.pt (wK (zD xN (zF (yL (K:=K) rfl) (pv 1) zh (fun _ _=>rfl)) (pv 2) (zA _)) (xP (zD sg (zF (yL (K:=K) rfl) (pv 1) zh (fun _ _=>rfl)) (pv 3) (zA _))))))) (fun _ _ _ _ _ _=>(pv 0))) zb)) rfl)))) (zf (zr (pv 1))))),?_⟩
 obtain ⟨rc,xs,rfl,hrc,hall⟩:=id hc
 have xl:=hall.len
 refine yh (fun v H'=>∃ d,v = .ref d /\ H d=none /\ H' = QP H d (.dK [])) (fun Kk hk=>fun d hd=>hk _ _ ⟨d,rfl,hd,rfl⟩) ?_
 rintro _ _ ⟨d,rfl,hd,rfl⟩
 have g0:=Grow.new (m:=[]) hd (.dK [])
 refine ⟨_,rfl,rc,_,rfl,g0.sqT hrc,uq (c:=true) (xs:=xs) (fun i σ H'=>∃ (e2 e3 e4 e5:Option V),σ = [some (.ref rc),some (.ref d),e2,e3,e4,e5] /\ H' d=some (.dK (y4 ((w5 (zE cs) (List.range cs.length)).take i))) /\ Grow [d] H H') ⟨_,_,_,_,rfl,zd,g0.wk⟩ (fun i σ H' _ z=>by obtain ⟨_,_,_,_,_,_,g⟩:=z; exact (g.sqT hrc:Q1 K H' rc xs)) ?_ ?_⟩
 ·rintro i x σ H1 T hv ⟨e2,e3,e4,e5,rfl,hd1,g1⟩ hT
  obtain ⟨c,hci,hcat⟩:=hall.get hv
  have hi:=(List.getElem?_eq_some_iff.mp hci).1
  have ec:cg cs i=c:=yA hci
  obtain ⟨rz,rd,rfl,sz,_⟩:=g1.call72 hcat
  have gT:=Grow.new (m:=[]) hT (.tup [.int i,.ref rz])
  have hTT:=zd (H:=H1) (a:=T) (o:=.tup [.int i,.ref rz])
  have hd2:=gT.keep _ _ (by simp) hd1
  have g2:=g1.trans gT.wk
  have sz2:=gT.sqT sz
  generalize QP H1 T _=H2 at gT hTT hd2 g2 sz2 ⊢
  refine ⟨T,_,rfl,Q1.of hTT,rfl,_,_,rfl,_,_,rfl,rfl,?_⟩
  try dsimp only
  refine ⟨_,rfl,rz,_,0,.int c.hand,rfl,rfl,sz2,zp (j:=0) rfl,_,rfl,rz,_,3,.int c.begun,rfl,rfl,sz2,zp (j:=3) rfl,JB rfl,fun tt ht=>⟨tt,_,rfl,Q1.of zd,rfl,_,_,rfl,_,_,rfl,rfl,?_⟩⟩
  have gt:=Grow.new (m:=[]) ht (.tup [.int c.hand,.int c.begun])
  have hd3:=gt.keep _ _ (by simp) hd2
  have g3:=g2.trans gt.wk
  generalize QP H2 tt _=H3 at gt hd3 g3 ⊢
  try dsimp only
  have step:∀ j,(List.range (j+1)).filter (fun k=>zE cs k i)=(List.range j).filter (fun k=>zE cs k i) ++ if zE cs j i=true then [j] else []:=fun j=>by
   rw [List.range_succ,List.filter_append]
   by_cases c:zE cs j i=true <;> simp [c]
  refine ⟨_,rfl,rc,_,rfl,g3.sqT hrc,tI (c:=true) (xs:=xs) (fun j ys σ' H'=>(∃ e0 e1:Option V,σ' = [e0,e1,some (.int c.hand),some (.int c.begun)]) /\ Grow [] H3 H' /\ ys=zy ((List.range j).filter (fun k=>zE cs k i))) ⟨⟨_,_,rfl⟩,Grow.refl _ _,rfl⟩ (fun j ys σ' H' z=>((g3.trans z.2.1.wk).sqT hrc:Q1 K H' rc xs)) ?_ ?_⟩
  ·rintro j v ys σ' H4 T4 hv4 ⟨⟨e0,e1,rfl⟩,g4,rfl⟩ hT4
   obtain ⟨c',hcj,hcat'⟩:=hall.get hv4
   have hj:=(List.getElem?_eq_some_iff.mp hcj).1
   obtain ⟨rz',rd',rfl,sz',_⟩:=(g3.trans g4.wk).call72 hcat'
   have gT4:=Grow.new (m:=[]) hT4 (.tup [.int j,.ref rz'])
   have hTT4:=zd (H:=H4) (a:=T4) (o:=.tup [.int j,.ref rz'])
   have sz4:=gT4.sqT sz'
   generalize QP H4 T4 _=H5 at gT4 hTT4 sz4 ⊢
   have small:(zy ((List.range j).filter (fun k=>zE cs k i))).length < sizeLine:=by
    rw [zM]
    have:=List.length_filter_le (fun k=>zE cs k i) (List.range j)
    rw [List.length_range] at this
    exact uS (by omega)
   have ej:cg cs j=c':=yA hcj
   refine ⟨T4,_,rfl,Q1.of hTT4,rfl,_,_,rfl,_,_,rfl,rfl,?_⟩
   refine ⟨_,rfl,rz',_,0,.int c'.hand,rfl,rfl,sz4,zp (j:=0) rfl,_,rfl,rfl,_,rfl,?_⟩
   by_cases ch:c'.hand=c.hand
   ·refine yT (decide_eq_true (congrArg V.int ch)) ⟨_,rfl,rz',_,3,.int c'.begun,rfl,rfl,sz4,zp (j:=3) rfl,_,rfl,_,_,rfl,rfl,_,rfl,?_⟩
    by_cases cb:c'.begun < c.begun
    ·have bf:zE cs j i=true:=by unfold zE; rw [ej,ec,decide_eq_true ch,decide_eq_true cb]; rfl
     refine yT (decide_eq_true cb) ⟨_,rfl,small,⟨_,_,rfl⟩,g4.trans gT4,?_⟩
     rw [step,if_pos bf,wV]; rfl
    ·have bf:¬ zE cs j i=true:=by unfold zE; rw [ej,ec,decide_eq_false cb,Bool.and_false]; exact Bool.false_ne_true
     refine yY (decide_eq_false cb) ⟨⟨_,_,rfl⟩,g4.trans gT4,?_⟩
     rw [step,if_neg bf,List.append_nil]
   ·have bf:¬ zE cs j i=true:=by unfold zE; rw [ej,ec,decide_eq_false ch,Bool.false_and]; exact Bool.false_ne_true
    refine yY (decide_eq_false fun z=>ch (V.int.inj z)) ?_
    try dsimp only
    refine yY rfl ⟨⟨_,_,rfl⟩,g4.trans gT4,?_⟩
    rw [step,if_neg bf,List.append_nil]
  ·rintro ys σ' H4 ⟨_,g4,rfl⟩ l hl
   rw [xl]
   have gl:=Grow.new (m:=[]) hl (.lst (zy ((List.range cs.length).filter (fun k=>zE cs k i))))
   refine ⟨_,rfl,(List.range cs.length).filter (fun k=>zE cs k i),⟨l,rfl,Q0.of zd⟩,List.pairwise_lt_range.sublist List.filter_sublist,(fun k hk=>by have:=List.mem_range.mp (List.mem_filter.mp hk).1; omega),fun H5 g5=>?_⟩
   have G:=g4.trans (gl.trans g5)
   have hd5:=G.keep _ _ (by simp) hd3
   have hat:(w5 (zE cs) (List.range cs.length))[i]? = some (i,Va ((List.range cs.length).filter (fun k=>zE cs k i))):=by
    unfold w5; rw [List.getElem?_map,List.getElem?_range hi]; rfl
   have nk:i ∉ ((w5 (zE cs) (List.range cs.length)).take i).map (·.1):=by
    rw [List.map_take,uE]
    intro z
    obtain ⟨j,hj⟩:=List.getElem?_of_mem z
    have hj2:=(List.getElem?_eq_some_iff.mp hj).1
    rw [List.length_take] at hj2
    rw [List.getElem?_take_of_lt (by omega),List.getElem?_range (by omega)] at hj
    have:=Option.some.inj hj
    omega
   refine ⟨_,rfl,_,rfl,d,_,rfl,TV.k (k:=Sum.inl (i:Int)) hd5 ?_,⟨_,_,_,_,rfl,?_,g3.trans (G.wk.trans (Grow.setK73 hd5 (by simp)))⟩⟩
   ·unfold y4
    rw [List.length_map,List.length_take,w6]
    exact uS (by omega)
   ·rw [zd,V5 nk,xg hat]
 ·rintro σ H1 ⟨e2,e3,e4,e5,rfl,hd1,g1⟩
  rw [xl,List.take_of_length_le (by rw [w6,List.length_range]; exact Nat.le_refl _)] at hd1
  exact ⟨_,rfl,q d _ hd (Grow.shrink hd g1) hd1⟩
theorem xH:FnScope ["board","calls","numbers","number","call"] ["board","calls"] (zi (top 24)):=⟨rfl,rfl,rfl,by decide +kernel,rfl,by decide +kernel,by decide +kernel⟩
theorem jF (F:Fun K "by_boxes" "by_boxes" (top 24) f fd) (B:Blt mg)   (g_enumerate:mg "enumerate" = none)   :
  FnOk P w K mg base Jt (n+1) f fd ["board","calls"] (Zz K):=by
 refine F.ok xH yf (fun cdv A outer s H vs Q E hr h=>?_)
 obtain ⟨x,y,rfl,b,cs,hb,hc,b16,ok,q⟩:=h
 refine ⟨_,(ze (su (i:=2) xH.nd rfl rfl (CSc.of (N':=["value"]) (sub:=[none]) (zi (top 24)) ["board","calls","numbers","number","call"] rfl rfl (by decide +kernel) rfl) rfl (xx (pv 0)) (fun _ _ _ _ _ _=>zj (i:=0) (show (["value"]:List Str).Nodup by decide +kernel) rfl (Or.inl rfl)) (fun _ _ _ _ _ _=>zX) (fun _ _ _ _ _ _=>(yI zb))) (ze (xy PassesOwn.never rfl (wT true (K:=K) rfl rfl g_enumerate (za (pv 1) zb)) (yH rfl (zo (zj (i:=3) xH.nd rfl (Or.inl rfl)) (zo (zj (i:=4) xH.nd rfl (Or.inl rfl)) z8))) (zf (vn (Vm PySem.F.plainAttrs_list PySem.F.slot_list_append PySem.F.type_list_append rC (zF zW (pv 2) (zF zN (pv 4) zh (fun _ _=>rfl)) (fun _ _=>rfl)) (za (pv 3) zb))))) (zf (zr (pv 2))))),?_⟩
 obtain ⟨rb,rfl,hrb⟩:=id hb
 obtain ⟨rc,xs,rfl,hrc,hall⟩:=id hc
 refine yh (fun v H'=>∃ (l:Addr) (as:List Addr),v = .ref l /\ H' l=some (.lst (as.map V.ref)) /\ l ∉ as /\ H l=none /\ as.length=b.length /\ as.Nodup /\ (∀ a ∈ as,H a=none /\ H' a=some (.lst [])) /\ Grow [] H H') (fun Kk hk=>⟨_,rfl,rb,rfl,⟨_,hrb⟩,yw (xs:=b.map V.int) (fun i ys H'=>∃ as:List Addr,ys=as.map V.ref /\ as.length=i /\ as.Nodup /\ (∀ a ∈ as,H a=none /\ H' a=some (.lst [])) /\ Grow [] H H') ⟨[],rfl,rfl,List.nodup_nil,(fun a h=>nomatch h),Grow.refl _ _⟩ (fun i ys H' ⟨_,_,_,_,_,g⟩=>g.sqT hrb) ?_ ?_⟩) ?_
 ·rintro i x ys H' hx ⟨as,rfl,al,nd,ha,g⟩
  have hi:=(List.getElem?_eq_some_iff.mp hx).1
  rw [List.length_map] at hi
  refine ⟨JB rfl,fun a h0=>⟨uS (by rw [List.length_map]; omega),as ++ [a],by rw [List.map_append]; rfl,by rw [List.length_append,List.length_singleton,al],?_,?_,g.trans (Grow.new h0 _)⟩⟩
  ·refine List.nodup_append.mpr ⟨nd,by simp,fun x hx y hy=>?_⟩
   rw [List.mem_singleton.mp hy]
   rintro rfl
   rw [(ha x hx).2] at h0; cases h0
  ·intro x hx
   rcases List.mem_append.mp hx with hx | hx
   ·exact ⟨(ha x hx).1,by rw [zq (zC (ha x hx).2 h0)]; exact (ha x hx).2⟩
   ·rw [List.mem_singleton.mp hx]
    exact ⟨g.free (by simp) h0,zd⟩
 ·rintro ys H' ⟨as,rfl,al,nd,ha,g⟩ l hl
  rw [List.length_map] at al
  refine hk _ _ ⟨l,as,rfl,zd,fun z=>?_,g.free (by simp) hl,al,nd,fun a h=>⟨(ha a h).1,by rw [zq (zC (ha a h).2 hl)]; exact (ha a h).2⟩,g.trans (Grow.new hl _)⟩
  rw [(ha l z).2] at hl; cases hl
 rintro _ H0 ⟨l,as,rfl,hl0,nl,nl0,al,nd,ha,g0⟩
 have xl:=hall.len
 refine ⟨_,rfl,rc,_,rfl,g0.sqT hrc,uq (xs:=xs) (fun i σ H'=>∃ (nss:List (List Nat)) (e3 e4:Option V),σ = [some (.ref rb),some (.ref rc),some (.ref l),e3,e4] /\ H' l=some (.lst (as.map V.ref)) /\ Bx72 H' as nss /\ (∀ j,j < as.length->nss.getD j []=(List.range i).filter (Wa cs j)) /\ Grow as H0 H') ⟨as.map fun _=>[],_,_,rfl,hl0,⟨by rw [List.length_map],fun j a h=>?_⟩,fun j hj=>?_,Grow.refl _ _⟩ (fun i σ H' _ ⟨_,_,_,_,_,_,_,g⟩=>(g.sqT (g0.sqT hrc):Q1 K H' rc xs)) ?_ ?_⟩
 ·rw [(ha a (List.mem_of_getElem? h)).2,List.getD_eq_getElem?_getD,List.getElem?_map,h]; rfl
 ·rw [List.getD_eq_getElem?_getD,List.getElem?_map,List.getElem?_eq_getElem hj]; rfl
 ·rintro i x σ H1 T hx ⟨nss,e3,e4,rfl,hl1,bx,hn,g1⟩ hT
  obtain ⟨c,hci,hcat⟩:=hall.get hx
  obtain ⟨rz,rd,rfl,sz,_⟩:=(g1.call72 (g0.call72 hcat))
  have gT:=Grow.new (m:=as) hT (.tup [.int i,.ref rz])
  have o:=ok.ok c (List.mem_of_getElem? hci)
  have b0:=o.b0
  have b1:=o.b1
  obtain ⟨j,hj⟩:∃ j:Nat,c.box=j:=⟨c.box.toNat,by omega⟩
  have hjl:j < as.length:=by omega
  have haj:as[j]? = some as[j]:=List.getElem?_eq_getElem hjl
  have aT:∀ {a:Addr} {o:HO},H1 a=some o->QP H1 T (.tup [.int i,.ref rz]) a=some o:=fun h=>by rw [zq (zC h hT)]; exact h
  have nT:(nss.getD j []).length<=40:=by
   rw [hn j hjl]
   have h1:=List.length_filter_le (Wa cs j) (List.range i)
   have h2:=(List.getElem?_eq_some_iff.mp hci).1
   have h3:=ok.len
   rw [List.length_range] at h1
   omega
  refine ⟨T,_,rfl,Q1.of zd,rfl,_,_,rfl,_,_,rfl,rfl,?_⟩
  refine ⟨_,rfl,_,rfl,rz,_,1,.int c.box,rfl,rfl,gT.sqT sz,zp (j:=1) rfl,l,_,_,.ref as[j],rfl,rfl,Q0.of (aT hl1),by rw [hj]; exact zp (by rw [List.getElem?_map,haj]; rfl),.inl ⟨rfl,_,Q0.of (aT (bx.at_ j _ haj))⟩,_,rfl,as[j],_,_,rfl,rfl,aT (bx.at_ j _ haj),uS (by rw [zM]; omega),?_⟩
  refine ⟨nss.set j (nss.getD j [] ++ [i]),_,_,rfl,?_,⟨by rw [List.length_set,bx.len],fun j' a' h'=>?_⟩,fun j' hj'=>?_,g1.trans (gT.trans (Grow.set (aT (bx.at_ j _ haj)) (List.mem_of_getElem? haj) _))⟩
  ·rw [zq (fun z=>nl (by rw [z]; exact List.mem_of_getElem? haj))]; exact aT hl1
  ·by_cases e:j' = j
   ·subst e
    cases h'.symm.trans haj
    rw [zd,xA (by rw [bx.len]; exact hjl),wV]; rfl
   ·have ne:a' ≠ as[j]:=fun z=>e (by
     have h1:as[j']? = as[j]?:=by rw [h',haj,z]
     exact (List.getElem?_inj (by have:=(List.getElem?_eq_some_iff.mp h').1; exact this) nd).mp h1)
    rw [zq ne,aT (bx.at_ j' a' h'),xo (fun z=>e z.symm)]
  ·rw [Wu,yA hci]
   by_cases e:j' = j
   ·subst e
    rw [if_pos hj,xA (by rw [bx.len]; exact hjl),hn j' hj']
   ·rw [if_neg (by omega),xo (fun z=>e z.symm),hn j' hj',List.append_nil]
 ·rintro σ H1 ⟨nss,e3,e4,rfl,hl1,bx,hn,g1⟩
  rw [xl] at hn
  refine ⟨_,rfl,q l _ _ (Grow.shrinkL (fun a h=>(ha a h).1) (g0.wk.trans g1)) nl0 hl1 ?_⟩
  have en:nss=(List.range b.length).map (Rg cs):=by
   refine List.ext_getElem? fun j=>?_
   rw [List.getElem?_map]
   by_cases h:j < b.length
   ·have:=hn j (by omega)
    rw [List.getD_eq_getElem?_getD,List.getElem?_eq_getElem (by rw [bx.len]; omega)] at this
    rw [List.getElem?_range h,List.getElem?_eq_getElem (by rw [bx.len]; omega)]
    exact congrArg some this
   ·rw [List.getElem?_eq_none (by rw [bx.len]; omega),List.getElem?_eq_none (by rw [List.length_range]; omega)]; rfl
  rw [← en]
  exact bx.ls
theorem jG:FnScope ["thing"] ["thing"] (zi (top 8)):=⟨rfl,rfl,rfl,by decide +kernel,rfl,by decide +kernel,by decide +kernel⟩
theorem jH (F:Fun K "is_whole" "is_whole" (top 8) f fd) (B:Blt mg)      :
  FnOk P w K mg base Jt (n+1) f fd ["thing"] (yF K):=by
 refine F.ok jG yX (fun cdv A outer s H vs Q E hr h=>?_)
 obtain ⟨x,rfl,⟨T,ty⟩,q⟩:=h
 refine ⟨_,(zf (zr (xS (zm yo rfl B.isinstance zB (za (pv 0) (za (xL rfl B.int U7) zb))) (xR (uc (zm yo rfl B.isinstance zB (za (pv 0) (za (xL rfl B.bool UD) zb)))))))),?_⟩
 cases x with
 | non=>cases (show T = "NoneType" from ty); exact ⟨_,rfl,_,_,_,false,rfl,rfl,rfl,_,rfl,yD q⟩
 | bl y=>cases (show T = "bool" from ty); exact ⟨_,rfl,_,_,_,true,rfl,rfl,rfl,_,rfl,xk ⟨_,rfl,_,_,_,true,rfl,rfl,rfl,_,rfl,q⟩⟩
 | int i=>cases (show T = "int" from ty); exact ⟨_,rfl,_,_,_,true,rfl,rfl,rfl,_,rfl,xk ⟨_,rfl,_,_,_,false,rfl,rfl,rfl,_,rfl,q⟩⟩
 | str y=>cases (show T = "str" from ty); exact ⟨_,rfl,_,_,_,false,rfl,rfl,rfl,_,rfl,yD q⟩
 | byt y=>exact ty.elim
 | flt y=>exact ty.elim
 | ty y=>exact ty.elim
 | ref a =>
  rcases ty with ⟨rfl,xs,hq⟩ | ⟨rfl,xs,hq⟩ | ⟨rfl,kvs,hq⟩
  ·exact ⟨_,rfl,_,_,_,false,rfl,.inl ⟨rfl,xs,hq⟩,rfl,_,rfl,yD q⟩
  ·exact ⟨_,rfl,_,_,_,false,rfl,.inr (.inl ⟨rfl,xs,hq⟩),rfl,_,rfl,yD q⟩
  ·exact ⟨_,rfl,_,_,_,false,rfl,.inr (.inr ⟨rfl,kvs,hq⟩),rfl,_,rfl,yD q⟩
theorem W4:FnScope ["thing"] ["thing"] (zi (top 11)):=⟨rfl,rfl,rfl,by decide +kernel,rfl,by decide +kernel,by decide +kernel⟩
theorem W5 (F:Fun K "is_end" "is_end" (top 11) f fd) (B:Blt mg) (qc0:zn P w K mg base n "is_whole" ["thing"] (yF K))     :
  FnOk P w K mg base Jt (n+1) f fd ["thing"] (rF K):=by
 refine F.ok W4 yX (fun cdv A outer s H vs Q E hr h=>?_)
 obtain ⟨x,rfl,kn,q⟩:=h
 refine ⟨_,(zf (zr (UY (Uw (jQ (pv 0))) (xR (zg qc0 hr rfl (za (pv 0) zb)))))),?_⟩
 refine ⟨x,rfl,_,rfl,?_⟩
 cases x with
 | non=>exact xk q
 | _=>exact yD ⟨_,rfl,_,rfl,kn,q⟩
theorem wn:FnScope ["thing","add","low","high"] ["thing"] (zi (top 12)):=⟨rfl,rfl,rfl,by decide +kernel,rfl,by decide +kernel,by decide +kernel⟩
theorem YL (F:Fun K "is_deed" "is_deed" (top 12) f fd) (B:Blt mg) (qc0:zn P w K mg base n "is_end" ["thing"] (rF K)) (qc1:zn P w K mg base n "is_whole" ["thing"] (yF K))     :
  FnOk P w K mg base Jt (n+1) f fd ["thing"] (tD K):=by
 refine F.ok wn yX (fun cdv A outer s H vs Q E hr h=>?_)
 obtain ⟨x,rfl,h⟩:=h
 refine ⟨_,(ze (zQ (PW.pt (vT (yG (z7 (zm yo rfl B.isinstance zB (za (pv 0) (za (xL rfl B.tuple yK) zb))))) (xQ (zD sf (zm zt rfl B.len yW (za (pv 0) zb)) zh (zA _))))) (zf (zr yr)) zu) (ze (yQ (pv 0) (yH rfl (zo (zj (i:=1) wn.nd rfl (Or.inl rfl)) (zo (zj (i:=2) wn.nd rfl (Or.inl rfl)) (zo (zj (i:=3) wn.nd rfl (Or.inl rfl)) z8))))) (ze (zQ (yG (PW.pt (wK (z7 (zg qc1 hr rfl (za (pv 1) zb))) (wK (z7 (zg qc0 hr rfl (za (pv 2) zb))) (xP (z7 (zg qc0 hr rfl (za (pv 3) zb)))))))) (zf (zr yr)) zu) (ze (zQ (PW.pt (vT (ub (jQ (pv 2))) (xQ (ub (jQ (pv 3)))))) (zf (zr yr)) zu) (zf (zr (UY (yu sg (pv 2) (pv 3) (zA _)) (xR (xS (yu xN (pv 2) (pv 3) (zA _)) (xR (yu xN (pv 1) zh (zA _)))))))))))),?_⟩
 rcases h with ⟨T,hT,ty,q⟩ | ⟨a,xs,rfl,hs,hk,q⟩
 ·have kt:PySem.W.kitOne K (.type T) (.type "tuple")=some false:=by
   cases x with
   | non=>cases (show T = "NoneType" from ty); rfl
   | bl y=>cases (show T = "bool" from ty); rfl
   | int i=>cases (show T = "int" from ty); rfl
   | str y=>cases (show T = "str" from ty); rfl
   | byt y=>exact ty.elim
   | flt y=>exact ty.elim
   | ty y=>exact ty.elim
   | ref a =>
    rcases ty with ⟨rfl,xs,hq⟩ | ⟨rfl,xs,hq⟩ | ⟨rfl,kvs,hq⟩
    ·exact absurd rfl hT
    ·rfl
    ·rfl
  exact ⟨_,rfl,_,_,_,false,rfl,ty,kt,_,rfl,xk (xk q)⟩
 ·refine ⟨_,rfl,_,_,_,true,rfl,.inl ⟨rfl,xs,hs⟩,rfl,_,rfl,yD ⟨_,rfl,a,xs,rfl,.inr hs,rfl,_,rfl,?_⟩⟩
  by_cases hl:xs.length=3
  ·obtain ⟨y1,y2,y3,rfl⟩:=QC hl
   refine yD ⟨_,rfl,a,_,rfl,hs,rfl,_,_,rfl,_,_,rfl,_,_,rfl,rfl,?_⟩
   refine ⟨_,rfl,_,rfl,hk y1 (by simp),_,rfl,?_⟩
   refine W9 (fun c1=>?_) (fun c1=>?_)
   ·obtain ⟨i1,rfl⟩:=Xc c1
    refine ⟨_,rfl,_,rfl,hk y2 (by simp),_,rfl,?_⟩
    refine W9 (fun c2=>?_) (fun c2=>?_)
    ·obtain ⟨o2,rfl⟩:=UE c2
     refine ⟨_,rfl,_,rfl,hk y3 (by simp),_,rfl,?_⟩
     by_cases c3:ZX y3=true
     ·obtain ⟨o3,rfl⟩:=UE c3
      rw [c3]
      refine yD ?_
      cases o2 with
      | none=>exact ⟨_,rfl,_,rfl,xk (xk (by cases o3 <;> exact q))⟩
      | some l =>
       cases o3 with
       | none=>exact ⟨_,rfl,_,rfl,yD ⟨_,rfl,_,rfl,xk q⟩⟩
       | some u =>
        refine ⟨_,rfl,_,rfl,yD ⟨_,rfl,_,rfl,yD ?_⟩⟩
        refine ⟨_,rfl,_,rfl,_,_,rfl,rfl,_,rfl,?_⟩
        have q':Q (.bl (decide (l < u) || (decide (l=u) && decide (i1=0)))) H:=q
        refine W9 (fun c=>?_) (fun c=>?_)
        ·rw [c] at q'; exact q'
        ·rw [Bool.eq_false_iff.mpr c] at q'
         refine ⟨_,rfl,_,rfl,rfl,_,rfl,?_⟩
         refine W9 (fun d=>?_) (fun d=>?_)
         ·have d':l=u:=V.int.inj (of_decide_eq_true d)
          refine ⟨_,rfl,rfl,?_⟩
          rw [decide_eq_true d'] at q'
          have e:decide (V.int i1=V.int 0)=decide (i1=0):=by simp
          rw [e]; exact q'
         ·have d':¬ l=u:=fun z=>d (by rw [z]; simp)
          rw [decide_eq_false d'] at q'
          exact q'
     ·have e:ZX y3=false:=Bool.eq_false_iff.mpr c3
      rw [e]
      refine xk ?_
      have z:vo [V.int i1,ov o2,y3]=false:=by show (true && (ZX (ov o2) && (ZX y3 && _)))=false; rw [e]; simp
      rw [z] at q; exact q
    ·have e:ZX y2=false:=Bool.eq_false_iff.mpr c2
     refine xk ?_
     have z:vo [V.int i1,y2,y3]=false:=by show (true && (ZX y2 && (ZX y3 && _)))=false; rw [e]; simp
     rw [z] at q; exact q
   ·have e:tw y1=false:=Bool.eq_false_iff.mpr c1
    refine xk ?_
    have z:vo [y1,y2,y3]=false:=by show (tw y1 && (ZX y2 && (ZX y3 && _)))=false; rw [e]; simp
    rw [z] at q; exact q
  ·have e:decide (V.int (xs.length:Int)=V.int 3)=false:=decide_eq_false fun z=>hl (by have:=V.int.inj z; omega)
   rw [e]
   refine xk ?_
   rw [q9 hl] at q; exact q
theorem qJ:FnScope ["thing","least","greatest"] ["thing","least","greatest"] (zi (top 9)):=⟨rfl,rfl,rfl,by decide +kernel,rfl,by decide +kernel,by decide +kernel⟩
theorem qK (F:Fun K "is_within" "is_within" (top 9) f fd) (B:Blt mg) (qc0:zn P w K mg base n "is_whole" ["thing"] (yF K))     :
  FnOk P w K mg base Jt (n+1) f fd ["thing","least","greatest"] (vL K):=by
 refine F.ok qJ xY (fun cdv A outer s H vs Q E hr h=>?_)
 obtain ⟨x,y,z,rfl,i,l,u,rfl,rfl,rfl,q⟩:=h
 refine ⟨_,(zf (zr (xS (zg qc0 hr rfl (za (pv 0) zb)) (xR (jT qX qX (pv 1) (pv 0) (pv 2)))))),?_⟩
 refine ⟨_,rfl,_,rfl,uj,_,rfl,xk ⟨_,rfl,_,rfl,_,_,rfl,rfl,_,rfl,?_⟩⟩
 by_cases c:l<=i
 ·refine yT (decide_eq_true c) ⟨_,rfl,_,_,rfl,rfl,?_⟩
  rw [decide_eq_true c] at q; exact q
 ·refine yY (decide_eq_false c) ?_
  rw [decide_eq_false c] at q; exact q
theorem vh:FnScope ["board","thing","hand","box","deed"] ["board","thing"] (zi (top 19)):=⟨rfl,rfl,rfl,by decide +kernel,rfl,by decide +kernel,by decide +kernel⟩
theorem W6 (F:Fun K "is_ask" "is_ask" (top 19) f fd) (B:Blt mg) (qc0:zn P w K mg base n "is_deed" ["thing"] (tD K)) (qc1:zn P w K mg base n "is_within" ["thing","least","greatest"] (vL K))   {t_LAST_HAND:Tok} (g_LAST_HAND:mg "LAST_HAND" = some (.int 15 t_LAST_HAND))  :
  FnOk P w K mg base Jt (n+1) f fd ["board","thing"] (rJ K):=by
 refine F.ok vh yf (fun cdv A outer s H vs Q E hr h=>?_)
 obtain ⟨x,y,rfl,b,k,⟨rb,rfl,hb⟩,⟨r,rd,rfl,h1,h2⟩,⟨k1,k2,k3,k4,k5⟩,q⟩:=h
 refine ⟨_,(ze (zQ (PW.pt (vT (yG (z7 (zm yo rfl B.isinstance zB (za (pv 1) (za (xL rfl B.tuple yK) zb))))) (xQ (zD sf (zm zt rfl B.len yW (za (pv 1) zb)) zh (zA _))))) (zf (zr yr)) zu) (ze (yQ (pv 1) (yH rfl (zo (zj (i:=2) vh.nd rfl (Or.inl rfl)) (zo (zj (i:=3) vh.nd rfl (Or.inl rfl)) (zo (zj (i:=4) vh.nd rfl (Or.inl rfl)) z8))))) (zf (zr (xS (zg qc1 hr rfl (za (pv 2) (za zh (za (xw rfl g_LAST_HAND (show zU (.int 15) (.int 15 t_LAST_HAND) from ⟨_,rfl⟩)) zb)))) (xS (zg qc1 hr rfl (za (pv 3) (za zh (za (zz ue (zm zt rfl B.len yW (za (pv 0) zb)) zh) zb)))) (xR (zg qc0 hr rfl (za (pv 4) zb))))))))),?_⟩
 have hl:(b.map V.int).length=b.length:=List.length_map ..
 refine ⟨_,rfl,_,_,_,true,rfl,.inl ⟨rfl,_,h1⟩,rfl,_,rfl,yD ⟨_,rfl,r,_,rfl,.inr h1,rfl,_,rfl,yD ?_⟩⟩
 refine ⟨_,rfl,r,_,rfl,h1,rfl,_,_,rfl,_,_,rfl,_,_,rfl,rfl,?_⟩
 refine ⟨_,rfl,_,_,_,rfl,_,_,_,rfl,rfl,rfl,_,rfl,yT (by rw [decide_eq_true k1,decide_eq_true k2]; rfl) ?_⟩
 refine ⟨_,rfl,_,rfl,rb,_,rfl,.inr hb,_,_,rfl,rfl,_,_,_,rfl,_,_,_,rfl,rfl,rfl,_,rfl,yT (by rw [decide_eq_true k3,decide_eq_true (show k.box<=((b.map V.int).length:Int) - 1 by rw [hl]; omega)]; rfl) ?_⟩
 refine ⟨_,rfl,_,rfl,.inr ⟨rd,_,rfl,h2,?_,?_⟩⟩
 ·intro v hv
  simp only [Deed.vs,List.mem_cons,List.mem_nil_iff,or_false] at hv
  rcases hv with rfl | rfl | rfl
  ·exact uj
  ·exact Sk _
  ·exact Sk _
 ·rw [ZY k5]; exact q
theorem wo:FnScope ["board","thing","begun","ended","answer"] ["board","thing"] (zi (top 23)):=⟨rfl,rfl,rfl,by decide +kernel,rfl,by decide +kernel,by decide +kernel⟩
theorem YM (F:Fun K "is_call" "is_call" (top 23) f fd) (B:Blt mg) (qc0:zn P w K mg base n "is_whole" ["thing"] (yF K)) (qc1:zn P w K mg base n "is_ask" ["board","thing"] (rJ K))     :
  FnOk P w K mg base Jt (n+1) f fd ["board","thing"] (vN K):=by
 refine F.ok wo yf (fun cdv A outer s H vs Q E hr h=>?_)
 obtain ⟨x,y,rfl,b,c,hb,hc,ok,q⟩:=h
 refine ⟨_,(ze (zQ (PW.pt (vT (yG (z7 (zm yo rfl B.isinstance zB (za (pv 1) (za (xL rfl B.tuple yK) zb))))) (vT (zD sf (zm zt rfl B.len yW (za (pv 1) zb)) zh (zA _)) (xQ (yG (z7 (zg qc1 hr rfl (za (pv 0) (za (zK Y6 (pv 1) zV (zO zh)) zb))))))))) (zf (zr yr)) zu) (ze (yQ (zK Y6 (pv 1) (zO zh) zV) (yH rfl (zo (zj (i:=2) wo.nd rfl (Or.inl rfl)) (zo (zj (i:=3) wo.nd rfl (Or.inl rfl)) (zo (zj (i:=4) wo.nd rfl (Or.inl rfl)) z8))))) (zf (zr (xS (zg qc0 hr rfl (za (pv 2) zb)) (xS (zg qc0 hr rfl (za (pv 3) zb)) (xS (zg qc0 hr rfl (za (pv 4) zb)) (xR (jT qX qX zh (pv 2) (pv 3)))))))))),?_⟩
 obtain ⟨r,rd,rfl,hr0,hrd⟩:=id hc
 refine yM (fun b H'=>b=false /\ Grow [] H H') (fun Kk hk=>⟨_,rfl,_,"tuple","tuple",true,rfl,.inl ⟨rfl,_,hr0⟩,rfl,_,rfl,yD ⟨_,rfl,r,_,rfl,.inr hr0,rfl,_,rfl,yD ⟨_,rfl,_,rfl,_,rfl,r,_,rfl,hr0,(fun z=>absurd z.2 (by decide:¬ HT.sIx 6 6 (some 3)=6)),fun p hp=>⟨_,_,rfl,b,⟨c.hand,c.box,c.deed⟩,(Grow.new (m:=[]) hp _).board hb,⟨p,rd,rfl,Q1.of zd,(Grow.new (m:=[]) hp _).sqT hrd⟩,⟨ok.h0,ok.h1,ok.b0,ok.b1,ok.d⟩,_,rfl,hk _ _ ⟨rfl,Grow.new hp _⟩⟩⟩⟩⟩) ?_
 rintro _ H1 ⟨rfl,g1⟩
 refine yD (yp ?_)
 refine ⟨_,rfl,_,rfl,r,_,rfl,g1.sqT hr0,(fun z=>absurd z.1 (by decide:¬ HT.sIx 6 0 (some 3)=0)),fun p hp=>⟨p,_,rfl,Q1.of zd,rfl,_,_,rfl,_,_,rfl,_,_,rfl,rfl,?_⟩⟩
 refine ⟨_,rfl,_,rfl,uj,_,rfl,xk ⟨_,rfl,_,rfl,uj,_,rfl,xk ⟨_,rfl,_,rfl,uj,_,rfl,xk ⟨_,rfl,_,_,rfl,rfl,_,rfl,yT (decide_eq_true ok.t0) ⟨_,rfl,_,_,rfl,rfl,?_⟩⟩⟩⟩⟩
 have:=q _ (g1.trans (Grow.new hp (.tup (vm (c.vs rd) (some 3) none))))
 rw [← decide_eq_true ok.t1] at this
 exact this
theorem jI:FnScope ["thing"] ["thing"] (zi (top 17)):=⟨rfl,rfl,rfl,by decide +kernel,rfl,by decide +kernel,by decide +kernel⟩
theorem jJ (F:Fun K "is_board" "is_board" (top 17) f fd) (B:Blt mg) (qc0:zn P w K mg base n "is_whole" ["thing"] (yF K))   {t_MOST_BOXES:Tok} (g_MOST_BOXES:mg "MOST_BOXES" = some (.int 16 t_MOST_BOXES))  :
  FnOk P w K mg base Jt (n+1) f fd ["thing"] (uk K):=by
 refine F.ok jI yX (fun cdv A outer s H vs Q E hr h=>?_)
 obtain ⟨x,rfl,b,⟨r,rfl,hs⟩,b1,b2,q⟩:=h
 refine ⟨_,(ze (zQ (PW.pt (vT (yG (z7 (zm yo rfl B.isinstance zB (za (pv 0) (za (xL rfl B.tuple yK) zb))))) (xQ (yG (Vi qX qX zh (zm zt rfl B.len yW (za (pv 0) zb)) (xw rfl g_MOST_BOXES (show zU (.int 16) (.int 16 t_MOST_BOXES) from ⟨_,rfl⟩))))))) (zf (zr yr)) zu) (zf (zr (zm (wP rfl) rfl B.all Vq (za (z6 (CSc.of (N':=["value"]) (sub:=[none]) (zi (top 17)) ["thing"] rfl rfl (by decide +kernel) rfl) rfl (xx (pv 0)) (fun _ _ _ _ _ _=>zj (i:=0) (show (["value"]:List Str).Nodup by decide +kernel) rfl (Or.inl rfl)) (fun _ _ _ _ _ _=>zX) (fun _ _ _ _ _ _=>(zg qc0 hr rfl (za (pv 0) zb)))) zb))))),?_⟩
 have hl:(b.map V.int).length=b.length:=List.length_map ..
 refine ⟨_,rfl,_,_,_,true,rfl,.inl ⟨rfl,_,hs⟩,rfl,_,rfl,yD ?_⟩
 refine ⟨_,rfl,r,_,rfl,.inr hs,_,_,rfl,rfl,_,rfl,yT (decide_eq_true (by rw [hl]; omega)) ⟨_,_,rfl,rfl,_,rfl,yY (by rw [decide_eq_true (show ((b.map V.int).length:Int)<=16 by rw [hl]; omega)]; rfl) ?_⟩⟩
 refine ⟨_,rfl,r,rfl,⟨_,hs⟩,Xh (fun _=>V.bl true) hs (by rw [hl]; omega) ?_ ?_⟩
 ·intro x H1 R hx g k
  obtain ⟨i,_,rfl⟩:=List.mem_map.mp hx
  exact ⟨_,rfl,_,rfl,uj,k _ (Grow.refl _ _)⟩
 ·intro H1 p g hp
  refine ⟨p,b.map (fun _=>true),rfl,Q0.of (by rw [zd,Vt]),?_⟩
  rw [Xi]
  exact q _ (g.trans (Grow.new hp _))
theorem sO:FnScope ["thing"] ["thing"] (zi (top 18)):=⟨rfl,rfl,rfl,by decide +kernel,rfl,by decide +kernel,by decide +kernel⟩
theorem sP (F:Fun K "need_board" "need_board" (top 18) f fd) (B:Blt mg) (qc0:zn P w K mg base n "is_board" ["thing"] (uk K))     :
  FnOk P w K mg base Jt (n+1) f fd ["thing"] (wS K):=by
 refine F.ok sO yX (fun cdv A outer s H vs Q E hr h=>?_)
 obtain ⟨x,rfl,b,hb,b1,b2,q⟩:=h
 refine ⟨_,(zf (zQ (yG (z7 (zg qc0 hr rfl (za (pv 0) zb)))) (zf jR) zu)),?_⟩
 exact ⟨_,rfl,_,rfl,b,hb,b1,b2,fun H1 g1=>⟨_,rfl,yD (q _ g1)⟩⟩
theorem qL:FnScope ["board","thing"] ["board","thing"] (zi (top 25)):=⟨rfl,rfl,rfl,by decide +kernel,rfl,by decide +kernel,by decide +kernel⟩
theorem qM (F:Fun K "are_calls" "are_calls" (top 25) f fd) (B:Blt mg) (qc0:zn P w K mg base n "by_boxes" ["board","calls"] (Zz K)) (qc1:zn P w K mg base n "is_call" ["board","thing"] (vN K)) (qc2:zn P w K mg base n "need_board" ["thing"] (wS K))   {t_MOST_AT_A_BOX:Tok} (g_MOST_AT_A_BOX:mg "MOST_AT_A_BOX" = some (.int 8 t_MOST_AT_A_BOX)) {t_MOST_CALLS:Tok} (g_MOST_CALLS:mg "MOST_CALLS" = some (.int 40 t_MOST_CALLS))  :
  FnOk P w K mg base Jt (n+1) f fd ["board","thing"] (Zk K):=by
 refine F.ok qL yf (fun cdv A outer s H vs Q E hr h=>?_)
 obtain ⟨x,y,rfl,b,cs,hb,b1,b16,hc,ok,q⟩:=h
 refine ⟨_,(ze (vn (zg qc2 hr rfl (za (pv 0) zb))) (ze (zQ (PW.pt (vT (yG (z7 (zm yo rfl B.isinstance zB (za (pv 1) (za (xL rfl B.tuple yK) zb))))) (xQ (zD qY (zm zt rfl B.len yW (za (pv 1) zb)) (xw rfl g_MOST_CALLS (show zU (.int 40) (.int 40 t_MOST_CALLS) from ⟨_,rfl⟩)) (zA _))))) (zf (zr yr)) zu) (ze (zQ (yG (z7 (zm (wP rfl) rfl B.all Vq (za (z6 (CSc.of (N':=["call","board"]) (sub:=[none,some 0]) (zi (top 25)) ["board","thing"] rfl rfl (by decide +kernel) rfl) rfl (xx (pv 1)) (fun _ _ _ _ _ _=>zj (i:=0) (show (["call","board"]:List Str).Nodup by decide +kernel) rfl (Or.inl rfl)) (fun _ _ _ _ _ _=>zX) (fun _ _ _ _ _ _=>(zg qc1 hr rfl (za (pv 1) (za (pv 0) zb))))) zb)))) (zf (zr yr)) zu) (zf (zr (zm (wP rfl) rfl B.all Vq (za (z6 (CSc.of (N':=["numbers"]) (sub:=[none]) (zi (top 25)) ["board","thing"] rfl rfl (by decide +kernel) rfl) rfl (se (zg qc0 hr rfl (za (pv 0) (za (pv 1) zb)))) (fun _ _ _ _ _ _=>zj (i:=0) (show (["numbers"]:List Str).Nodup by decide +kernel) rfl (Or.inl rfl)) (fun _ _ _ _ _ _=>zX) (fun _ _ _ _ _ _=>(yu qX (zm (rK (K:=K) rfl) rfl B.len yW (za (pv 0) zb)) (xw rfl g_MOST_AT_A_BOX (show zU (.int 8) (.int 8 t_MOST_AT_A_BOX) from ⟨_,rfl⟩)) (zA _)))) zb))))))),?_⟩
 obtain ⟨rc,xs,rfl,hrc,hall⟩:=id hc
 have xl:=hall.len
 have cl:=ok.len
 refine ⟨_,rfl,_,rfl,b,hb,b1,b16,fun H0 g0=>?_⟩
 try dsimp only
 refine yM (fun b H'=>b=false /\ H' = H0) (fun Kk hk=>⟨_,rfl,_,"tuple","tuple",true,rfl,.inl ⟨rfl,_,g0.sqT hrc⟩,rfl,_,rfl,yD ⟨_,rfl,rc,_,rfl,.inr (g0.sqT hrc),_,_,rfl,rfl,_,rfl,hk _ _ ⟨decide_eq_false (by omega),rfl⟩⟩⟩) ?_
 rintro _ H0 ⟨rfl,rfl⟩
 refine yD (yp ?_)
 refine yM (fun b H'=>b=false /\ Grow [] H0 H') (fun Kk hk=>⟨_,rfl,rc,rfl,⟨_,g0.sqT hrc⟩,yw (xs:=xs) (fun i ys H'=>ys=(List.replicate i true).map V.bl /\ Grow [] H0 H') ⟨rfl,Grow.refl _ _⟩ (fun i ys H' ⟨_,g⟩=>(g0.trans g).sqT hrc) ?_ ?_⟩) ?_
 ·rintro i x ys H' hx ⟨rfl,g'⟩
  have hi:=(List.getElem?_eq_some_iff.mp hx).1
  obtain ⟨c,hci,hcat⟩:=hall.get hx
  refine ⟨_,rfl,_,rfl,_,_,rfl,b,c,(g0.trans g').board hb,(g0.trans g').call72 hcat,ok.ok c (List.mem_of_getElem? hci),fun H2 g2=>⟨uS (by rw [List.length_map,List.length_replicate]; omega),by rw [List.replicate_succ',List.map_append]; rfl,g'.trans g2⟩⟩
 ·rintro ys H' ⟨rfl,g'⟩ l hl
  exact ⟨l,List.replicate xs.length true,rfl,Q0.of zd,_,rfl,hk _ _ ⟨by rw [rO]; rfl,g'.trans (Grow.new hl _)⟩⟩
 rintro _ H1 ⟨rfl,g1⟩
 refine yD (yp ?_)
 refine ⟨_,rfl,_,rfl,_,_,rfl,b,cs,(g0.trans g1).board hb,(g0.trans g1).calls72 hc,b16,ok,fun l zs H2 g2 _ hl2 hz=>⟨l,rfl,⟨_,Q0.of hl2⟩,tF (xs:=zs) (fun i ys H'=>ys=(List.replicate i true).map V.bl /\ H' = H2) ⟨rfl,rfl⟩ (fun i ys H' z=>by rw [z.2]; exact Q0.of hl2) ?_ ?_⟩⟩
 ·rintro i x ys H' hx ⟨rfl,rfl⟩
  have hi:=(List.getElem?_eq_some_iff.mp hx).1
  obtain ⟨ns,hni,a,rfl,hA⟩:=hz.get hx
  have zl:=hz.len
  rw [List.length_map,List.length_range] at zl
  have n8':ns.length<=8:=by
   obtain ⟨j,_,rfl⟩:=List.mem_map.mp (List.mem_of_getElem? hni)
   rw [VN]; exact ok.few j
  refine ⟨_,rfl,a,_,rfl,.inl (Q0.of hA),_,_,rfl,rfl,uS (by rw [List.length_map,List.length_replicate]; omega),?_,rfl⟩
  have e8:decide (((zy ns).length:Int)<=8)=true:=decide_eq_true (by rw [zM]; omega)
  rw [List.replicate_succ',List.map_append]
  show _ ++ [V.bl (decide (((zy ns).length:Int)<=8))]=_
  rw [e8]; rfl
 ·rintro ys H' ⟨rfl,rfl⟩ l' hl'
  refine ⟨l',List.replicate zs.length true,rfl,Q0.of zd,?_⟩
  rw [rO]
  exact q _ (g0.trans (g1.trans (g2.trans (Grow.new hl' _))))
theorem sQ:FnScope ["board","thing"] ["board","thing"] (zi (top 26)):=⟨rfl,rfl,rfl,by decide +kernel,rfl,by decide +kernel,by decide +kernel⟩
theorem sR (F:Fun K "need_calls" "need_calls" (top 26) f fd) (B:Blt mg) (qc0:zn P w K mg base n "are_calls" ["board","thing"] (Zk K))     :
  FnOk P w K mg base Jt (n+1) f fd ["board","thing"] (rT K):=by
 refine F.ok sQ yf (fun cdv A outer s H vs Q E hr h=>?_)
 obtain ⟨x,y,rfl,b,cs,hb,b1,b16,hc,ok,q⟩:=h
 refine ⟨_,(zf (zQ (yG (z7 (zg qc0 hr rfl (za (pv 0) (za (pv 1) zb))))) (zf jR) zu)),?_⟩
 exact ⟨_,rfl,_,rfl,_,_,rfl,b,cs,hb,b1,b16,hc,ok,fun H' g=>⟨_,rfl,yD (q _ g)⟩⟩
theorem xD:FnScope ["board","thing","begins"] ["board","thing"] (zi (top 34)):=⟨rfl,rfl,rfl,by decide +kernel,rfl,by decide +kernel,by decide +kernel⟩
theorem vK (F:Fun K "need_own_times" "need_own_times" (top 34) f fd) (B:Blt mg) {A_NoCalls:Addr} (x_NoCalls:qS K mg "NoCalls" A_NoCalls) (qc0:zn P w K mg base n "need_calls" ["board","thing"] (rT K))  (g_set:mg "set" = none)   :
  FnOk P w K mg base (JP P w) (n+1) f fd ["board","thing"] (vg A_NoCalls K):=by
 refine Fun.okX F xD ZJ (fun cdv A outer s H vs Q E hr h=>?_)
 obtain ⟨x,y,rfl,b,cs,hb,b1,b16,hc,ok,q1,q2⟩:=h
 refine ⟨_,(ze (vn (zg qc0 hr rfl (za (pv 0) (za (pv 1) zb)))) (ze (su (i:=2) xD.nd rfl rfl (CSc.of (N':=["call"]) (sub:=[none]) (zi (top 34)) ["board","thing","begins"] rfl rfl (by decide +kernel) rfl) rfl (xx (pv 1)) (fun _ _ _ _ _ _=>zj (i:=0) (show (["call"]:List Str).Nodup by decide +kernel) rfl (Or.inl rfl)) (fun _ _ _ _ _ _=>zX) (fun _ _ _ _ _ _=>(zR (za (zF (yL (K:=K) rfl) (pv 0) zh (fun _ _=>rfl)) (za (zF (yL (K:=K) rfl) (pv 0) zh (fun _ _=>rfl)) zb))))) (zf (zQ (zD sf (zm WM rfl B.len yW (za (yk (W0 (K:=K) rfl hr) rfl g_set TD (za (pv 2) zb)) zb)) (zm zt rfl B.len yW (za (pv 2) zb)) (zA _)) (zf (Zr rfl x_NoCalls rfl qa YU)) zu)))),?_⟩
 obtain ⟨rc,xs,rfl,hrc,hall⟩:=id hc
 have xl:=hall.len
 have c40:=ok.len
 refine ⟨_,rfl,_,rfl,_,_,rfl,b,cs,hb,b1,b16,hc,ok,fun H1 g1=>?_⟩
 try dsimp only
 refine yh (fun v H'=>∃ (l:Addr) (vs:List V),v = .ref l /\ H' l=some (.lst vs) /\ yP (PrL K H') vs (cs.map jx) /\ Grow [] H1 H') (fun Kk hk=>⟨_,rfl,rc,rfl,⟨_,g1.sqT hrc⟩,yw (xs:=xs) (fun i ys H'=>Grow [] H1 H' /\ yP (PrL K H') ys ((cs.take i).map jx) /\ ys.length=i) ⟨Grow.refl _ _,trivial,rfl⟩ (fun i ys H' z=>(g1.trans z.1).sqT hrc) ?_ ?_⟩) ?_
 ·rintro i x ys H2 hx ⟨g2,hA,yl⟩
  obtain ⟨c,hc2,rz,rd,rfl,sz,sd⟩:=hall.get hx
  have G:=g1.trans g2
  refine ⟨_,rfl,rz,_,0,.int c.hand,rfl,rfl,G.sqT sz,zp (j:=0) rfl,_,rfl,rz,_,3,.int c.begun,rfl,rfl,G.sqT sz,zp (j:=3) rfl,JB rfl,fun t ht=>?_⟩
  have gt:=Grow.new (m:=[]) ht (.tup [.int c.hand,.int c.begun])
  refine ⟨uS (by have:=(List.getElem?_eq_some_iff.mp hx).1; omega),g2.trans gt,?_,by rw [List.length_append,List.length_singleton,yl]⟩
  rw [List.take_succ,hc2,List.map_append]
  exact yP.app (hA.imp fun _ _ z=>z.grow gt) ⟨⟨t,rfl,_,_,Q1.of zd,rfl,rfl⟩,trivial⟩
 ·rintro ys H2 ⟨g2,hA,yl⟩ l hl
  rw [xl,List.take_length] at hA
  have gl:=Grow.new (m:=[]) hl (.lst ys)
  exact hk _ _ ⟨l,ys,rfl,zd,hA.imp fun _ _ z=>z.grow gl,g2.trans gl⟩
 rintro _ H2 ⟨l,vs,rfl,hl,hA,g2⟩
 have vl:=hA.len
 rw [List.length_map] at vl
 have e:(cs.map jx).length=vs.length:=by rw [List.length_map,vl]
 refine ⟨_,rfl,l,vs,cs.map jx,rfl,Q0.of hl,hA,by rw [List.length_map]; omega,fun p hp=>?_⟩
 have gp:=Grow.new (m:=[]) hp (.ext fun h=>jw h p (Yz (cs.map jx)).length)
 refine ⟨p,(Yz (cs.map jx)).length,rfl,zd,_,rfl,l,vs,rfl,.inl (Q0.of (gp.keep _ _ (by simp) hl)),rfl,_,rfl,?_⟩
 have G:=g1.trans (g2.trans gp)
 have di:=TJ (ks:=cs.map jx)
 rw [e] at di
 by_cases hn:(cs.map jx).Nodup
 ·refine yY ?_ (q1 (sI hn) _ G)
  rw [di.mpr hn]; simp
 ·refine yT ?_ fun e=>q2 (fun z=>hn (ZE z)) e _ G
  have ne:(Yz (cs.map jx)).length ≠ vs.length:=fun z=>hn (di.mp z)
  show (!decide (V.int _=V.int _))=true
  rw [decide_eq_false fun z=>ne (by have:=V.int.inj z; omega)]; rfl
theorem jK:FnScope ["board","calls"] ["board","calls"] (zi (top 38)):=⟨rfl,rfl,rfl,by decide +kernel,rfl,by decide +kernel,by decide +kernel⟩
theorem jL (F:Fun K "a_serial" "a_serial" (top 38) f fd) (B:Blt mg) {A_TooMany:Addr} {A_NoCalls:Addr} (x_TooMany:qS K mg "TooMany" A_TooMany) (x_NoCalls:qS K mg "NoCalls" A_NoCalls) (qc0:zn P w K mg base n "order_by" ["board","calls","masks"] (Wt K)) (qc1:zn P w K mg base n "hand_masks" ["calls"] (WF K)) (qc2:yZ P w K mg base n "need_own_times" ["board","thing"] (vg A_NoCalls K))   {t_MOST_FOR_SERIAL:Tok} (g_MOST_FOR_SERIAL:mg "MOST_FOR_SERIAL" = some (.int 8 t_MOST_FOR_SERIAL))  :
  FnOk P w K mg base (JP P w) (n+1) f fd ["board","calls"] (uM A_NoCalls A_TooMany K):=by
 refine Fun.okX F jK ZJ (fun cdv A outer s H vs Q E hr h=>?_)
 obtain ⟨x,y,rfl,b,cs,hb,b1,b16,hc,ok,q1,q2,q3⟩:=h
 refine ⟨_,(ze (vn (wZ qc2 (Wd fun _ _ _ z=>z) hr rfl (za (pv 0) (za (pv 1) zb)))) (ze (zQ (zD qY (zm zt rfl B.len yW (za (pv 1) zb)) (xw rfl g_MOST_FOR_SERIAL (show zU (.int 8) (.int 8 t_MOST_FOR_SERIAL) from ⟨_,rfl⟩)) (zA _)) (zf (Zr rfl x_TooMany rfl qa YU)) zu) (zf (zr (zg qc0 hr rfl (za (pv 0) (za (pv 1) (za (zg qc1 hr rfl (za (pv 1) zb)) zb)))))))),?_⟩
 obtain ⟨rc,xs,rfl,hrc,hall⟩:=id hc
 have xl:=hall.len
 refine ⟨_,rfl,_,rfl,_,_,rfl,b,cs,hb,b1,b16,hc,ok,fun ow H1 g1=>?_,fun no e H1 g1=>q2 no e H1 g1⟩
 try dsimp only
 by_cases c8:cs.length<=8
 rotate_left
 ·exact ⟨_,rfl,rc,_,rfl,.inr (g1.sqT hrc),_,_,rfl,rfl,_,rfl,yT (decide_eq_true (by omega)) fun e=>q3 ow c8 e _ g1⟩
 have q:=q1 ow c8
 refine yM (fun c H'=>c=false /\ H' = H1) (fun Kk hk=>⟨_,rfl,rc,_,rfl,.inr (g1.sqT hrc),_,_,rfl,rfl,_,rfl,hk _ _ ⟨decide_eq_false (by omega),rfl⟩⟩) ?_
 rintro _ H1 ⟨rfl,rfl⟩
 refine yD (yp ?_)
 refine ⟨_,rfl,_,rfl,_,rfl,_,rfl,cs,g1.calls72 hc,ok.len,fun d H2 nd g2 hd=>⟨_,_,_,rfl,b,cs,d,_,(g1.trans g2).board hb,(g1.trans g2).calls72 hc,rfl,.inl hd,⟨?_,ok.len,ok.ok,b16,?_⟩,fun v H3 g3 ho=>?_⟩⟩
 ·intro p hp
  obtain ⟨n,hn,rfl⟩:=List.mem_map.mp hp
  exact List.mem_range.mp hn
 ·rw [w6,List.length_range]; exact c8
 ·exact q v H3 (g1.trans (Grow.shrink nd (g2.wk.trans g3))) ho
theorem vS:FnScope ["_law_e","_law_some_here"] ["_law_e"] (zi (top 56)):=⟨rfl,rfl,rfl,by decide +kernel,rfl,by decide +kernel,by decide +kernel⟩
theorem sS (F:Fun K "_law_word" "_law_word" (top 56) f fd) (B:Blt mg) {A_NoCalls:Addr} {A_TooMany:Addr} {A_NoOrder:Addr} {A_NoNumber:Addr} {A_NoBoard:Addr} {A_AskError:Addr} (v_NoCalls:mg "NoCalls" = some (.ref A_NoCalls)) (v_TooMany:mg "TooMany" = some (.ref A_TooMany)) (v_NoOrder:mg "NoOrder" = some (.ref A_NoOrder)) (v_NoNumber:mg "NoNumber" = some (.ref A_NoNumber)) (v_NoBoard:mg "NoBoard" = some (.ref A_NoBoard)) (kd:KdN76 K [A_NoCalls,A_TooMany,A_NoBoard,A_NoNumber,A_NoOrder] A_AskError)  (g_any:mg "any" = none) (g_ValueError:mg "ValueError" = none) :
  FnOkH P w K mg base (n+1) f fd ["_law_e"] (wj [A_NoCalls,A_TooMany,A_NoBoard,A_NoNumber,A_NoOrder] K):=by
 refine S7 F vS (fun _=>yX) (fun cdv A outer s H vs Q E e0 hh hr h=>?_)
 obtain ⟨x,rfl,C,i,rfl,ha,hc,i2,q⟩:=h
 refine ⟨_,(ze (zv (i:=1) vS.nd rfl (Or.inl rfl) (yI (za (zm (xC (K:=K) rfl) rfl B.isinstance zB (za (pv 0) (za (xw rfl v_NoBoard (show zU (.ref A_NoBoard) (.ref A_NoBoard) from rfl)) zb))) (za (zm (xC (K:=K) rfl) rfl B.isinstance zB (za (pv 0) (za (xw rfl v_NoNumber (show zU (.ref A_NoNumber) (.ref A_NoNumber) from rfl)) zb))) (za (zm (xC (K:=K) rfl) rfl B.isinstance zB (za (pv 0) (za (xw rfl v_NoOrder (show zU (.ref A_NoOrder) (.ref A_NoOrder) from rfl)) zb))) (za (uc (zm (xC (K:=K) rfl) rfl B.isinstance zB (za (pv 0) (za (xL rfl g_ValueError qd) zb)))) zb)))))) (zf (zr (yI (za (zm (xC (K:=K) rfl) rfl B.isinstance zB (za (pv 0) (za (xw rfl v_TooMany (show zU (.ref A_TooMany) (.ref A_TooMany) from rfl)) zb))) (za (zm (xC (K:=K) rfl) rfl B.isinstance zB (za (pv 0) (za (xw rfl v_NoCalls (show zU (.ref A_NoCalls) (.ref A_NoCalls) from rfl)) zb))) (za (zm (W1 (K:=K) rfl hh) rfl g_any Vr (za (pv 1) zb)) zb))))))),?_⟩
 have hm:=List.mem_of_getElem? hc
 refine qD kd hc ha rfl (j:=2) rfl (qD kd hc ha rfl (j:=3) rfl (qD kd hc ha rfl (j:=4) rfl ?_))
 refine ⟨_,rfl,e0,C,_,_,_,rfl,ha,(fun u r=>r),kd.kk C (List.mem_cons_of_mem _ hm),kd.kv C (List.mem_cons_of_mem _ hm),true,rfl,JB rfl,fun p hp=>?_⟩
 have g:=Grow.new (m:=[]) hp (.lst [V.bl (decide (i=2)),.bl (decide (i=3)),.bl (decide (i=4)),.bl (!true)])
 have hpp:QP H p (.lst [V.bl (decide (i=2)),.bl (decide (i=3)),.bl (decide (i=4)),.bl (!true)]) p=some (.lst ([decide (i=2),decide (i=3),decide (i=4),false].map V.bl)):=zd
 have ha1:=g.keep _ _ (by simp) ha
 generalize QP H p _=H1 at g hpp ha1 ⊢
 refine qD kd hc ha1 rfl (j:=1) rfl (qD kd hc ha1 rfl (j:=0) rfl ?_)
 refine ⟨_,rfl,p,_,C,rfl,ha1,Q0.of hpp,JB rfl,fun l hl=>?_⟩
 have ea:[decide (i=2),decide (i=3),decide (i=4),false].any id=false:=by
  rw [decide_eq_false (show ¬ i=2 by omega),decide_eq_false (show ¬ i=3 by omega),decide_eq_false (show ¬ i=4 by omega)]; rfl
 rw [ea]
 exact q l _ (g.trans (Grow.new hl _)) zd
theorem xa:FnScope ["_law_board","_law_calls","_law_found_here","_law_e"] ["_law_board","_law_calls"] (zi (top 58)):=⟨rfl,rfl,rfl,by decide +kernel,rfl,by decide +kernel,by decide +kernel⟩
theorem sT (F:Fun K "_law_found" "_law_found" (top 58) f fd) (B:Blt mg) {A_AskError:Addr} {A_NoCalls:Addr} {A_TooMany:Addr} {A_NoBoard:Addr} {A_NoNumber:Addr} {A_NoOrder:Addr} (x_AskError:qS K mg "AskError" A_AskError) (x_NoCalls:qS K mg "NoCalls" A_NoCalls) (x_TooMany:qS K mg "TooMany" A_TooMany) (kd:KdN76 K [A_NoCalls,A_TooMany,A_NoBoard,A_NoNumber,A_NoOrder] A_AskError) (qc0:yZ P w K mg base n "a_serial" ["board","calls"] (uM A_NoCalls A_TooMany K)) (d__law_word:wE P w K mg base n "_law_word" ["_law_e"] (wj [A_NoCalls,A_TooMany,A_NoBoard,A_NoNumber,A_NoOrder] K))    :
  FnOk P w K mg base Jt (n+1) f fd ["_law_board","_law_calls"] (vI K):=by
 refine F.ok xa yf (fun cdv A outer s H vs Q E hr h=>?_)
 obtain ⟨x,y,rfl,b,cs,hb,b1,b16,hc,ok,q1,q2⟩:=h
 refine ⟨_,(ze (Zt (K:=K) (i:=3) (E:=(fun _ C H'=>((C=some A_NoCalls /\ ¬ yB cs) \/ (C=some A_TooMany /\ yB cs /\ ¬ cs.length<=8)) /\ Grow [] H H')) rfl rfl rfl rfl x_AskError rfl xa.nd rfl rfl rfl (fun ps=>(zf (zv (i:=2) xa.nd rfl (Or.inl rfl) (wZ qc0 (Zs rfl) hr rfl (za (pv 0) (za (pv 1) zb)))))) (fun e=>(zf (zv (i:=2) xa.nd rfl (Or.inl rfl) (ZI d__law_word rfl (RoomH.of hr) rfl (za (pv 3) zb)))))) (zf (zr (pv 2)))),?_⟩
 refine ⟨⟨_,rfl,_,rfl,_,_,rfl,b,cs,hb,b1,b16,hc,ok,fun ow c8 v H' g hv=>⟨_,rfl,q1 ow c8 v H' g hv⟩,fun no e H' g=>⟨.inl ⟨rfl,no⟩,g⟩,fun ow c8 e H' g=>⟨.inr ⟨rfl,ow,c8⟩,g⟩⟩,fun e C' σ' H' hl' hn hE=>?_⟩
 obtain ⟨hC,g⟩:=hE
 obtain ⟨s0,s1,s2,s3,rfl⟩:∃ a b c d,σ' = [a,b,c,d]:=by
  match σ',hl' with
  | [a,b,c,d],_=>exact ⟨a,b,c,d,rfl⟩
 have hm:∃ i,[A_NoCalls,A_TooMany,A_NoBoard,A_NoNumber,A_NoOrder][i]? = some C' /\ i < 2 /\ (∀ o:Bool,(o=true ↔ yB cs)->Qh i=[.bl o,.bl !o,.bl false]) /\ ¬ (yB cs /\ cs.length<=8):=by
  rcases hC with ⟨hC,no⟩ | ⟨hC,ow,c8⟩
  ·obtain rfl:A_NoCalls=C':=(Option.some.inj hC).symm
   refine ⟨0,rfl,by decide,fun o ho=>?_,fun z=>no z.1⟩
   have:o=false:=by
    cases o with
    | false=>rfl
    | true=>exact absurd (ho.mp rfl) no
   rw [this]; rfl
  ·obtain rfl:A_TooMany=C':=(Option.some.inj hC).symm
   refine ⟨1,rfl,by decide,fun o ho=>?_,fun z=>c8 z.2⟩
   rw [ho.mpr ow]; rfl
 obtain ⟨i,hi,i2,hw,hno⟩:=hm
 refine ⟨kd.up _ (List.mem_cons_of_mem _ (List.mem_of_getElem? hi)),_,rfl,_,rfl,C',i,rfl,zd,hi,i2,fun l H2 g2 hl2=>⟨_,rfl,q2 hno l H2 (g.trans ((Grow.new hn _).trans g2)) fun o ho=>?_⟩⟩
 rw [← hw o ho]; exact hl2
theorem zJ:FnScope ["board","calls","order","values","number","hand","box","deed","begun","ended","answer"] ["board","calls","order"] (zi (top 28)):=⟨rfl,rfl,rfl,by decide +kernel,rfl,by decide +kernel,by decide +kernel⟩
theorem uQ (F:Fun K "are_answered" "are_answered" (top 28) f fd) (B:Blt mg) (qc0:zn P w K mg base n "made" ["deed","value"] (vp K))     :
  FnOk P w K mg base Jt (n+1) f fd ["board","calls","order"] (Zl K):=by
 refine F.ok zJ xY (fun cdv A outer s H vs Q E hr h=>?_)
 obtain ⟨x,y,z,rfl,b,cs,ns,hb,hc,hn,ok,hlt,q⟩:=h
 refine ⟨_,(ze (zv (i:=3) zJ.nd rfl (Or.inl rfl) (yk xV rfl B.list tq (za (pv 0) zb))) (ze (xy PassesOwn.never rfl (xx (pv 2)) (zj (i:=4) zJ.nd rfl (Or.inl rfl)) (ze (yQ (zF zN (pv 1) (pv 4) (fun _ _=>rfl)) (yH rfl (zo (zj (i:=5) zJ.nd rfl (Or.inl rfl)) (zo (zj (i:=6) zJ.nd rfl (Or.inl rfl)) (zo (zj (i:=7) zJ.nd rfl (Or.inl rfl)) (zo (zj (i:=8) zJ.nd rfl (Or.inl rfl)) (zo (zj (i:=9) zJ.nd rfl (Or.inl rfl)) (zo (zj (i:=10) zJ.nd rfl (Or.inl rfl)) z8)))))))) (ze (zQ (zD sf (zF zW (pv 3) (pv 6) (fun _ _=>rfl)) (pv 10) (zA _)) (zf (zr yr)) zu) (zf (yQ (zg qc0 hr rfl (za (pv 7) (za (pv 10) zb))) (tf (pv 3) (pv 6) wf)))))) (zf (zr yr)))),?_⟩
 obtain ⟨rb,rfl,hrb⟩:=id hb
 obtain ⟨rc,xs,rfl,hrc,hall⟩:=id hc
 obtain ⟨r,rfl,hr0⟩:=id hn
 refine ⟨_,rfl,rb,_,rfl,.inr hrb,fun l hl0=>?_⟩
 have g0:=Grow.new (m:=[l]) hl0 (.lst (b.map V.int))
 refine ⟨_,rfl,r,rfl,⟨_,g0.sqT hr0⟩,qW (xs:=zy ns) (fun i σ H'=>∃ (vs:List Int) (e4 e5 e6 e7 e8 e9 e10:Option V),σ = [some (.ref rb),some (.ref rc),some (.ref r),some (.ref l),e4,e5,e6,e7,e8,e9,e10] /\ H' l=some (.lst (vs.map V.int)) /\ vs.length=b.length /\ Grow [l] H H' /\ sY cs vs (ns.drop i)=sY cs b ns) ⟨b,_,_,_,_,_,_,_,rfl,zd,rfl,g0,rfl⟩ (fun i σ H' _ ⟨_,_,_,_,_,_,_,_,_,_,_,g,_⟩=>g.sqT hr0) ?_ ?_⟩
 ·rintro i x σ H1 hx ⟨vs,e4,e5,e6,e7,e8,e9,e10,rfl,hl1,vl,g1,hk⟩
  obtain ⟨k,hki,rfl⟩:=yS hx
  have hk':=hlt k (List.mem_of_getElem? hki)
  obtain ⟨z,hz,rz,rd,rfl,sz,sd⟩:=hall.getR (List.getElem?_eq_getElem hk')
  have o:=ok _ (List.getElem_mem hk')
  have ec:cg cs k=cs[k]:=yA (List.getElem?_eq_getElem hk')
  rw [XA hki,vw,ec] at hk
  refine ⟨_,rfl,_,rfl,rc,_,_,.ref rz,rfl,rfl,g1.sqT hrc,zp hz,rz,_,rfl,g1.sqT sz,rfl,_,_,rfl,_,_,rfl,_,_,rfl,_,_,rfl,_,_,rfl,_,_,rfl,rfl,?_⟩
  try dsimp only
  have b0:=o.b0
  have b1:=o.b1
  have hbx:cs[k].box.toNat < vs.length:=by omega
  have hat:Jm (vs.map V.int) cs[k].box=some (.int (vs.getD cs[k].box.toNat 0)):=by
   have:cs[k].box=(cs[k].box.toNat:Int):=by omega
   rw [this]
   refine zp ?_
   rw [List.getElem?_map,List.getElem?_eq_getElem hbx,Int.toNat_natCast,List.getD_eq_getElem?_getD,List.getElem?_eq_getElem hbx]
   rfl
  refine ⟨_,rfl,_,rfl,l,_,_,_,rfl,rfl,Q0.of hl1,hat,_,rfl,rfl,_,rfl,?_⟩
  by_cases ha:vs.getD cs[k].box.toNat 0=cs[k].answer
  ·rw [if_pos ha] at hk
   refine yY (by rw [decide_eq_true (congrArg V.int ha)]; rfl) (yp ?_)
   refine ⟨_,rfl,_,rfl,_,_,rfl,cs[k].deed,cs[k].answer,⟨rd,rfl,g1.sqT sd⟩,rfl,_,rfl,_,rfl,l,_,_,cs[k].box.toNat,rfl,rfl,hl1,?_,⟨vs.set cs[k].box.toNat (cs[k].deed.mk' cs[k].answer),_,_,_,_,_,_,_,rfl,?_,by rw [List.length_set,vl],g1.trans (Grow.set hl1 (by simp) _),hk⟩⟩
   ·exact ss b0 (by rw [List.length_map]; exact hbx)
   ·rw [zd,List.map_set]
  ·rw [if_neg ha] at hk
   refine yT (by rw [decide_eq_false fun z=>ha (V.int.inj z)]; rfl) ?_
   have:=q _ (Grow.shrink hl0 g1)
   rw [← hk] at this
   exact this
 ·rintro σ H1 ⟨vs,e4,e5,e6,e7,e8,e9,e10,rfl,hl1,vl,g1,hk⟩
  rw [zM,List.drop_length] at hk
  have:=q _ (Grow.shrink hl0 g1)
  rw [← hk] at this
  exact this
theorem zL:FnScope ["calls","order","latest","number","hand","box","deed","begun","ended","answer"] ["calls","order"] (zi (top 35)):=⟨rfl,rfl,rfl,by decide +kernel,rfl,by decide +kernel,by decide +kernel⟩
theorem u5 (F:Fun K "keeps_hands" "keeps_hands" (top 35) f fd) (B:Blt mg)      :
  FnOk P w K mg base Jt (n+1) f fd ["calls","order"] (WE K):=by
 refine F.ok zL yf (fun cdv A outer s H vs Q E hr h=>?_)
 obtain ⟨x,y,rfl,cs,o,hc,ok,ho,olt,o40,q⟩:=h
 refine ⟨_,(ze (zv (i:=2) zL.nd rfl (Or.inl rfl) Zv) (ze (xy PassesOwn.never rfl (xx (pv 1)) (zj (i:=3) zL.nd rfl (Or.inl rfl)) (ze (yQ (zF zN (pv 0) (pv 3) (fun _ _=>rfl)) (yH rfl (zo (zj (i:=4) zL.nd rfl (Or.inl rfl)) (zo (zj (i:=5) zL.nd rfl (Or.inl rfl)) (zo (zj (i:=6) zL.nd rfl (Or.inl rfl)) (zo (zj (i:=7) zL.nd rfl (Or.inl rfl)) (zo (zj (i:=8) zL.nd rfl (Or.inl rfl)) (zo (zj (i:=9) zL.nd rfl (Or.inl rfl)) z8)))))))) (ze (zQ (zD qY (VT (Room.u173 hr) (pv 2) (pv 4) zh ⟨rfl,rfl,rfl,rfl⟩) (pv 7) (zA _)) (zf (zr yr)) zu) (zf (Wj (Room.u173 hr) (pv 2) (pv 4) (pv 7) rfl))))) (zf (zr yr)))),?_⟩
 obtain ⟨rc,xs,rfl,hrc,hall⟩:=id hc
 obtain ⟨ro,rfl,hro⟩:=id ho
 have b0:∀ k ∈ o,0<=(cg cs k).begun:=fun k hk=>ok _ (Zf (olt k hk))
 refine yh (fun v H'=>∃ d,v = .ref d /\ H d=none /\ H' = QP H d (.dK [])) (fun Kk hk=>fun d hd=>hk _ _ ⟨d,rfl,hd,rfl⟩) ?_
 rintro _ _ ⟨d,rfl,hd,rfl⟩
 have g0:=Grow.new (m:=[]) hd (.dK [])
 refine ⟨_,rfl,ro,rfl,⟨_,g0.sqT hro⟩,qW (xs:=zy o) (fun i σ H'=>∃ (e3 e4 e5 e6 e7 e8 e9:Option V) (kvs:List (QO × V)),σ = [some (.ref rc),some (.ref ro),some (.ref d),e3,e4,e5,e6,e7,e8,e9] /\ H' d=some (.dK kvs) /\ kvs.length<=i /\ (∀ h:Int,wI kvs (Sum.inl h)=(wu cs (o.take i) h).map V.int) /\ vC cs (o.take i)=true /\ Grow [d] H H') ⟨_,_,_,_,_,_,_,[],rfl,zd,Nat.le_refl _,fun h=>rfl,rfl,g0.wk⟩ (fun i σ H' _ z=>by obtain ⟨_,_,_,_,_,_,_,_,_,_,_,_,_,g⟩:=z; exact g.sqT hro) ?_ ?_⟩
 ·rintro i v σ H1 hv ⟨e3,e4,e5,e6,e7,e8,e9,kvs,rfl,hd1,kl,hvl,hkh,g1⟩
  obtain ⟨k,hki,rfl⟩:=yS hv
  have hko:=List.mem_of_getElem? hki
  have hk':=olt k hko
  have hi:=(List.getElem?_eq_some_iff.mp hki).1
  obtain ⟨z,hz,rz,rd,rfl,sz,sd⟩:=hall.getR (List.getElem?_eq_getElem hk')
  have ec:cg cs k=cs[k]:=yA (List.getElem?_eq_getElem hk')
  have ks:=WD hkh (b0 k hko) fun j hj=>b0 j (List.mem_of_mem_take hj)
  have et:o.take (i+1)=o.take i ++ [k]:=by rw [List.take_succ,hki]; rfl
  rw [ec] at ks
  generalize cs[k]=c at sz sd ec ks
  try dsimp only
  refine ⟨_,rfl,_,rfl,rc,_,_,.ref rz,rfl,rfl,g1.sqT hrc,zp hz,rz,_,rfl,g1.sqT sz,rfl,_,_,rfl,_,_,rfl,_,_,rfl,_,_,rfl,_,_,rfl,_,_,rfl,rfl,?_⟩
  try dsimp only
  have hg:=hvl c.hand
  refine yM (fun t H'=>t=decide ((wu cs (o.take i) c.hand).getD 0 > c.begun) /\ H' = H1) (fun Kk hk=>⟨_,rfl,d,rfl,.inl ⟨_,.inl hd1⟩,_,rfl,_,SF.k (k:=Sum.inl c.hand) hd1,?_⟩) ?_
  ·rw [hg]
   cases e:wu cs (o.take i) c.hand with
   | none=>exact ⟨_,rfl,_,_,rfl,rfl,_,rfl,hk _ _ ⟨by rw [e]; rfl,rfl⟩⟩
   | some w=>exact ⟨_,rfl,_,_,rfl,rfl,_,rfl,hk _ _ ⟨by rw [e]; rfl,rfl⟩⟩
  rintro _ H1 ⟨rfl,rfl⟩
  by_cases lt:(wu cs (o.take i) c.hand).getD 0 > c.begun
  ·rw [decide_eq_true lt] at ks ⊢
   have e:vC cs o=false:=by
    cases e:vC cs o with
    | false=>rfl
    | true =>
     rw [← List.take_append_drop (i+1) o,et] at e
     have:=Ub e
     rw [ks] at this; cases this
   have:=q H1 (Grow.shrink hd g1)
   rw [e] at this
   exact xk this
  ·rw [decide_eq_false lt] at ks ⊢
   refine yD (yp ?_)
   refine ⟨_,rfl,_,rfl,_,rfl,d,_,rfl,TV.k (k:=Sum.inl c.hand) hd1 (uS (by omega)),⟨_,_,_,_,_,_,_,qe kvs (Sum.inl c.hand) (.int c.begun),rfl,zd,?_,fun h=>?_,by rw [et]; exact ks,g1.trans (Grow.setK73 hd1 (by simp))⟩⟩
   ·have:=wD kvs (Sum.inl c.hand) (V.int c.begun)
    omega
   ·rw [VQ,et,tV,ec]
    by_cases e:c.hand=h
    ·rw [if_pos e,if_pos (by rw [e])]; rfl
    ·rw [if_neg e,if_neg (fun z=>e (Sum.inl.inj z).symm)]; exact hvl h
 ·rintro σ H1 ⟨e3,e4,e5,e6,e7,e8,e9,kvs,rfl,hd1,kl,hvl,hkh,g1⟩
  rw [zM,List.take_length] at hkh
  have:=q H1 (Grow.shrink hd g1)
  rw [hkh] at this
  exact this
theorem jM:FnScope ["thing","numbers"] ["thing","numbers"] (zi (top 27)):=⟨rfl,rfl,rfl,by decide +kernel,rfl,by decide +kernel,by decide +kernel⟩
theorem jN (F:Fun K "is_order" "is_order" (top 27) f fd) (B:Blt mg) (qc0:zn P w K mg base n "is_whole" ["thing"] (yF K))  (g_sorted:mg "sorted" = none)   :
  FnOk P w K mg base Jt (n+1) f fd ["thing","numbers"] (tK K):=by
 refine F.ok jM yf (fun cdv A outer s H vs Q E hr h=>?_)
 obtain ⟨x,y,rfl,d,m,n,hd,hl,hn,q⟩:=h
 refine ⟨_,(ze (zQ (PW.pt (vT (yG (z7 (zm (rN (K:=K) rfl) rfl B.isinstance zB (za (pv 0) (za (xL rfl B.tuple yK) zb))))) (xQ (yG (z7 (zm (wP rfl) rfl B.all Vq (za (z6 (CSc.of (N':=["number"]) (sub:=[none]) (zi (top 27)) ["thing","numbers"] rfl rfl (by decide +kernel) rfl) rfl (xx (pv 0)) (fun _ _ _ _ _ _=>zj (i:=0) (show (["number"]:List Str).Nodup by decide +kernel) rfl (Or.inl rfl)) (fun _ _ _ _ _ _=>zX) (fun _ _ _ _ _ _=>(zg qc0 hr rfl (za (pv 0) zb)))) zb))))))) (zf (zr yr)) zu) (zf (zr (yu (UG hr) (zm (vM (K:=K) rfl) rfl g_sorted jV (za (pv 0) zb)) (pv 1) (zA _))))),?_⟩
 refine yM (fun b H'=>Grow [] H H' /\ (b=true -> ¬ ∃ ns,yR n d ns) /\ (b=false -> ∃ (r:Addr) (zs:List Int),x = .ref r /\ d = .tuple (zs.map PyData.int) /\ Q1 K H r (zs.map V.int) /\ zs.length < 64)) (fun Kk hk=>⟨_,rfl,_,d,m,_,_,rfl,hd,rP d,_,rfl,?_⟩) ?_
 ·cases ht:XC d with
  | false=>exact xk (hk _ _ ⟨Grow.refl _ _,(fun _=>rQ ht n),fun z=>nomatch z⟩)
  | true =>
   obtain ⟨r,xs,ds,rfl,rfl,hs,os⟩:=Zi hd ht
   obtain ⟨h64,hnd⟩:=hl ds rfl
   have xl:=os.length
   refine yD ⟨_,rfl,r,rfl,⟨_,hs⟩,yw (xs:=xs) (fun i ys H'=>ys=((ds.take i).map xO).map V.bl /\ H' = H) ⟨rfl,rfl⟩ (fun i ys H' z=>by rw [z.2]; exact hs) ?_ ?_⟩
   ·rintro i x ys H' hx ⟨rfl,rfl⟩
    obtain ⟨e,he,oe⟩:=os.get hx
    obtain ⟨t,ty,_,_,hw⟩:=XD oe (hnd e (List.mem_of_getElem? he))
    refine ⟨_,rfl,_,rfl,⟨t,ty⟩,uS (by rw [List.length_map,List.length_map,List.length_take]; omega),?_,rfl⟩
    rw [hw,List.take_succ,he,List.map_append,List.map_append]; rfl
   ·rintro ys H' ⟨rfl,rfl⟩ l hl'
    rw [xl,List.take_length]
    refine ⟨l,ds.map xO,rfl,Q0.of zd,_,rfl,hk _ _ ⟨Grow.new hl' _,fun z=>?_,fun z=>?_⟩⟩
    ·intro ho
     rw [List.all_map,show (ds.all (id ∘ xO))=ds.all xO from rfl,rR ho] at z
     cases z
    ·rw [Bool.not_eq_false',List.all_map] at z
     obtain ⟨zs,rfl⟩:=XE (show ds.all xO=true from z)
     rw [vx os] at hs
     exact ⟨r,zs,rfl,rfl,hs,by rw [List.length_map] at h64; exact h64⟩
 rintro b H1 ⟨g1,hb1,hb2⟩
 cases b with
 | true=>exact xk (q _ _ g1 ⟨(fun z=>nomatch z),fun z=>absurd z (hb1 rfl)⟩)
 | false =>
  obtain ⟨r,zs,rfl,rfl,hs,h64⟩:=hb2 rfl
  obtain ⟨l,rfl,hl'⟩:=hn
  refine yD (yp ⟨_,rfl,r,zs,rfl,g1.sqT hs,h64,fun p ms hp hperm hpw=>?_⟩)
  have gp:=Grow.new (m:=[]) hp (.lst (ms.map V.int))
  refine ⟨_,rfl,p,l,_,_,rfl,rfl,Q0.of zd,(g1.trans gp).sqL hl',v4 _,Zj _,q _ _ (g1.trans gp) ?_⟩
  rw [if_neg (by decide),yb,wQ,decide_eq_true_eq]
  exact rS hperm hpw
theorem qN:FnScope ["board","calls","order"] ["board","calls","order"] (zi (top 36)):=⟨rfl,rfl,rfl,by decide +kernel,rfl,by decide +kernel,by decide +kernel⟩
theorem qO (F:Fun K "is_serial" "is_serial" (top 36) f fd) (B:Blt mg) {A_NoCalls:Addr} (x_NoCalls:qS K mg "NoCalls" A_NoCalls) (qc0:zn P w K mg base n "are_answered" ["board","calls","order"] (Zl K)) (qc1:zn P w K mg base n "keeps_hands" ["calls","order"] (WE K)) (qc2:zn P w K mg base n "is_order" ["thing","numbers"] (tK K)) (qc3:yZ P w K mg base n "need_own_times" ["board","thing"] (vg A_NoCalls K))     :
  FnOk P w K mg base (JP P w) (n+1) f fd ["board","calls","order"] (wm A_NoCalls K):=by
 refine Fun.okX F qN Ur (fun cdv A outer s H vs Q E hr h=>?_)
 obtain ⟨x,y,z,rfl,b,cs,d,m,hb,b1,b16,hc,ok,hd,hl,q1,q2⟩:=h
 refine ⟨_,(ze (vn (wZ qc3 (Wd fun _ _ _ z=>z) hr rfl (za (pv 0) (za (pv 1) zb)))) (ze (zQ (yG (z7 (zg qc2 hr rfl (za (pv 2) (za (x4 rfl rfl B.list rfl B.range (za (zm zt rfl B.len yW (za (pv 1) zb)) zb)) zb))))) (zf (zr yr)) zu) (zf (zr (xS (zg qc1 hr rfl (za (pv 1) (za (pv 2) zb))) (xR (zg qc0 hr rfl (za (pv 0) (za (pv 1) (za (pv 2) zb)))))))))),?_⟩
 obtain ⟨rc,xs,rfl,hrc,hall⟩:=id hc
 have xl:=hall.len
 have c40:=ok.len
 refine ⟨_,rfl,_,rfl,_,_,rfl,b,cs,hb,b1,b16,hc,ok,fun ow H1 g1=>?_,fun no e H1 g1=>q2 no e H1 g1⟩
 have q:=q1 ow
 try dsimp only
 refine yM (fun c H'=>((!c)=true ↔ ∃ ns,yR cs.length d ns) /\ Grow [] H1 H') (fun Kk hk=>⟨_,rfl,_,rfl,rc,_,rfl,.inr (g1.sqT hrc),xs.length,rfl,by omega,fun l1 hl1=>⟨_,_,rfl,d,m,cs.length,(hd.grow (g1.wk (m:=m))).grow ((Grow.new hl1 _).wk (m:=m)),hl,⟨l1,rfl,Q0.of (by rw [zd,xl]; rfl)⟩,fun b1 H2 g2 h1=>⟨_,rfl,hk _ _ ⟨by rw [Bool.not_not]; exact h1,(Grow.new hl1 _).trans g2⟩⟩⟩⟩) ?_
 rintro c H2 ⟨h1,g2⟩
 have G2:=g1.trans g2
 cases c with
 | true =>
  refine xk (q _ _ ⟨(fun z=>nomatch z),fun ⟨ns,o,_⟩=>absurd (h1.mpr ⟨ns,o⟩) (by decide)⟩ G2)
 | false =>
  obtain ⟨ns,o⟩:=h1.mp rfl
  have hN:xB K H z ns:=XB o.1 hd
  have hlt:∀ k ∈ ns,k < cs.length:=fun k hk=>List.mem_range.mp (o.2.mem_iff.mp hk)
  have iff:∀ bb:Bool,bb=(vC cs ns && sY cs b ns)->(bb=true ↔ vP b cs d):=fun bb e=>by
   rw [e,Bool.and_eq_true]
   exact ⟨fun z=>⟨ns,o,z.1,z.2⟩,fun ⟨ms,o',z1,z2⟩=>by rw [o.uniq o']; exact ⟨z1,z2⟩⟩
  refine yD (yp ?_)
  refine ⟨_,rfl,_,rfl,_,_,rfl,cs,ns,G2.calls72 hc,(fun c hc=>(ok.ok c hc).t0),hN.grow G2,hlt,(by rw [o.2.length_eq,List.length_range]; exact c40),fun H3 g3=>⟨_,rfl,?_⟩⟩
  cases hk:vC cs ns with
  | false=>exact yD (q _ _ (iff _ (by rw [hk]; rfl)) (G2.trans g3))
  | true=>exact xk ⟨_,rfl,_,rfl,_,rfl,_,_,_,rfl,b,cs,ns,(G2.trans g3).board hb,(G2.trans g3).calls72 hc,hN.grow (G2.trans g3),ok.ok,hlt,fun H4 g4=>q _ _ (iff _ (by rw [hk]; rfl)) (G2.trans (g3.trans g4))⟩
theorem yO:FnScope ["_law_board","_law_calls","_law_thing","_law_told","_law_found_here","_law_e"] ["_law_board","_law_calls","_law_thing"] (zi (top 57)):=⟨rfl,rfl,rfl,by decide +kernel,rfl,by decide +kernel,by decide +kernel⟩
theorem sU (F:Fun K "_law_truth" "_law_truth" (top 57) f fd) (B:Blt mg) {A_AskError:Addr} {A_NoCalls:Addr} {A_TooMany:Addr} {A_NoBoard:Addr} {A_NoNumber:Addr} {A_NoOrder:Addr} (x_AskError:qS K mg "AskError" A_AskError) (x_NoCalls:qS K mg "NoCalls" A_NoCalls) (kd:KdN76 K [A_NoCalls,A_TooMany,A_NoBoard,A_NoNumber,A_NoOrder] A_AskError) (qc0:yZ P w K mg base n "is_serial" ["board","calls","order"] (wm A_NoCalls K)) (d__law_word:wE P w K mg base n "_law_word" ["_law_e"] (wj [A_NoCalls,A_TooMany,A_NoBoard,A_NoNumber,A_NoOrder] K))    :
  FnOk P w K mg base Jt (n+1) f fd ["_law_board","_law_calls","_law_thing"] (tX K):=by
 refine F.ok yO xY (fun cdv A outer s H vs Q E hr h=>?_)
 obtain ⟨x,y,z,rfl,b,cs,d,m,hb,b1,b16,hc,ok,hd,hl,q⟩:=h
 refine ⟨_,(ze (Zt (K:=K) (i:=5) (E:=(fun _ C H'=>C=some A_NoCalls /\ ¬ yB cs /\ Grow [] H H')) rfl rfl rfl rfl x_AskError rfl yO.nd rfl rfl rfl (fun ps=>(ze (zv (i:=3) yO.nd rfl (Or.inl rfl) (wZ qc0 (Zs rfl) hr rfl (za (pv 0) (za (pv 1) (za (pv 2) zb))))) (zf (zv (i:=4) yO.nd rfl (Or.inl rfl) (yI (za (yu UH (pv 3) yr (zA _)) (za (yu UH (pv 3) yr (zA _)) zb))))))) (fun e=>(zf (zv (i:=4) yO.nd rfl (Or.inl rfl) (ZI d__law_word rfl (RoomH.of hr) rfl (za (pv 5) zb)))))) (zf (zr (pv 4)))),?_⟩
 refine ⟨⟨_,rfl,_,rfl,_,rfl,_,_,_,rfl,b,cs,d,m,hb,b1,b16,hc,ok,hd,hl,fun ow t H' ht g=>?_,fun no e H' g=>⟨rfl,no,g⟩⟩,fun e C' σ' H' hl' hn hE=>?_⟩
 ·refine ⟨_,rfl,t,true,rfl,rfl,_,rfl,t,false,rfl,rfl,JB rfl,fun l hl=>⟨_,rfl,q l _ (g.trans (Grow.new hl _)) ?_⟩⟩
  rw [tru_own76 ow ht,zd]
  cases t <;> rfl
 obtain ⟨hC,hno,g⟩:=hE
 obtain ⟨s0,s1,s2,s3,s4,s5,rfl⟩:∃ a b c d e f,σ' = [a,b,c,d,e,f]:=by
  match σ',hl' with
  | [a,b,c,d,e,f],_=>exact ⟨a,b,c,d,e,f,rfl⟩
 obtain rfl:A_NoCalls=C':=(Option.some.inj hC).symm
 refine ⟨kd.up _ (List.mem_cons_of_mem _ (by simp)),_,rfl,_,rfl,A_NoCalls,0,rfl,zd,rfl,by decide,fun l H2 g2 hl2=>⟨_,rfl,q l H2 (g.trans ((Grow.new hn _).trans g2)) ?_⟩⟩
 rw [qG hno]; exact hl2
theorem xu:FnScope ["_law_calls","_law_pairs"] ["_law_calls"] (zi (top 51)):=⟨rfl,rfl,rfl,by decide +kernel,rfl,by decide +kernel,by decide +kernel⟩
theorem vj (F:Fun K "_law_are_unlike" "_law_are_unlike" (top 51) f fd) (B:Blt mg)   (g_any:mg "any" = none) (g_enumerate:mg "enumerate" = none)   :
  FnOk P w K mg base Jt (n+1) f fd ["_law_calls"] (uN K):=by
 refine F.ok xu yX (fun cdv A outer s H vs Q E hr h=>?_)
 obtain ⟨x,rfl,cs,hc,c40,q⟩:=h
 refine ⟨_,(ze (zv (i:=1) xu.nd rfl (Or.inr rfl) (z6 (CSc.of (N':=["_law_call"]) (sub:=[none]) (zi (top 51)) ["_law_calls","_law_pairs"] rfl rfl (by decide +kernel) rfl) rfl (xx (pv 0)) (fun _ _ _ _ _ _=>zj (i:=0) (show (["_law_call"]:List Str).Nodup by decide +kernel) rfl (Or.inl rfl)) (fun _ _ _ _ _ _=>zX) (fun _ _ _ _ _ _=>(zR (za (zF (yL (K:=K) rfl) (pv 0) zh (fun _ _=>rfl)) (za (zF (yL (K:=K) rfl) (pv 0) zh (fun _ _=>rfl)) zb)))))) (zf (zr (uc (zm (ul rfl) rfl g_any Vr (za (z6 (CSc.of (N':=["_law_k","_law_pair","_law_pairs"]) (sub:=[none,none,some 1]) (zi (top 51)) ["_law_calls","_law_pairs"] rfl rfl (by decide +kernel) rfl) rfl (wT false (K:=K) rfl rfl g_enumerate (za (pv 1) zb)) (fun _ _ _ _ _ _=>Xr (K:=K) 2 rfl rfl (zo (zj (i:=0) (show (["_law_k","_law_pair","_law_pairs"]:List Str).Nodup by decide +kernel) rfl (Or.inl rfl) (Or.inr rfl)) (zo (zj (i:=1) (show (["_law_k","_law_pair","_law_pairs"]:List Str).Nodup by decide +kernel) rfl (Or.inl rfl) (Or.inr rfl)) z8)) rfl rfl) (fun _ _ _ _ _ _=>zX) (fun _ _ _ _ _ _=>(yu (V9 (K:=K) rfl hr) (pv 1) (zK (Vw (K:=K) rfl) (pv 2) zV (zO (pv 0))) (by with_unfolding_all rfl)))) zb)))))),?_⟩
 obtain ⟨rc,xs,rfl,hrc,hall⟩:=id hc
 have xl:=hall.len
 refine yh (fun v H'=>∃ (l:Addr) (ys:List V),v = .ref l /\ H' l=some (.lst ys) /\ yP (zI K H') ys (cs.map Yw) /\ Grow [] H H') (fun Kk hk=>⟨_,rfl,rc,rfl,⟨_,hrc⟩,yw (xs:=xs) (fun i ys H'=>Grow [] H H' /\ yP (zI K H') ys ((cs.take i).map Yw) /\ ys.length=i) ⟨Grow.refl _ _,trivial,rfl⟩ (fun i ys H' z=>z.1.sqT hrc) ?_ ?_⟩) ?_
 ·rintro i x ys H2 hx ⟨g2,hA,yl⟩
  obtain ⟨c,hc2,rz,rd,rfl,sz,sd⟩:=hall.get hx
  refine ⟨_,rfl,rz,_,0,.int c.hand,rfl,rfl,g2.sqT sz,zp (j:=0) rfl,_,rfl,rz,_,3,.int c.begun,rfl,rfl,g2.sqT sz,zp (j:=3) rfl,JB rfl,fun t ht=>?_⟩
  have gt:=Grow.new (m:=[]) ht (.tup [.int c.hand,.int c.begun])
  refine ⟨uS (by have:=(List.getElem?_eq_some_iff.mp hx).1; omega),g2.trans gt,?_,by rw [List.length_append,List.length_singleton,yl]⟩
  rw [List.take_succ,hc2,List.map_append]
  exact yP.app (hA.imp fun _ _ z=>gt.board z) ⟨⟨t,rfl,Q1.of zd⟩,trivial⟩
 ·rintro ys H2 ⟨g2,hA,yl⟩ l hl
  rw [xl,List.take_length] at hA
  have gl:=Grow.new (m:=[]) hl (.lst ys)
  exact hk _ _ ⟨l,ys,rfl,zd,hA.imp fun _ _ z=>gl.board z,g2.trans gl⟩
 rintro _ H1 ⟨lp,ps,rfl,hlp,hps,g1⟩
 have pl:=hps.len
 rw [List.length_map] at pl
 refine ⟨_,rfl,lp,_,rfl,Q0.of hlp,tI (c:=false) (xs:=ps) (fun j ys σ' H'=>(∃ e0 e1:Option V,σ' = [e0,e1,some (.ref lp)]) /\ Grow [] H1 H' /\ ys=(((List.range j).map fun j=>decide (Yw (cg cs j) ∈ (cs.map Yw).take j)).map V.bl)) ⟨⟨_,_,rfl⟩,Grow.refl _ _,rfl⟩ (fun j ys σ' H' z=>(Q0.of (z.2.1.keep _ _ (by simp) hlp):Q0 K H' lp ps)) ?_ ?_⟩
 ·rintro j v ys σ' H2 T hv ⟨⟨e0,e1,rfl⟩,g2,rfl⟩ hT
  obtain ⟨pr,hpr,r,rfl,hr⟩:=hps.get hv
  rw [List.getElem?_map] at hpr
  obtain ⟨c,hcj,rfl⟩:=Option.map_eq_some_iff.mp hpr
  have hj:=(List.getElem?_eq_some_iff.mp hcj).1
  have gT:=Grow.new (m:=[]) hT (.tup [.int j,.ref r])
  have g2T:=g2.trans gT
  refine ⟨T,_,rfl,Q1.of zd,rfl,_,_,rfl,_,_,rfl,rfl,_,rfl,?_⟩
  refine ⟨_,rfl,_,rfl,_,rfl,lp,_,rfl,Q0.of ((g2T).keep _ _ (by simp) hlp),fun p1 hp1=>?_⟩
  have gp:=Grow.new (m:=[]) hp1 (.lst (vm ps none (some (j:Int))))
  refine ⟨r,p1,_,Yw c,(cs.map Yw).take j,rfl,rfl,(g2T.trans gp).sqT hr,Q0.of zd,?_,?_⟩
  ·have h9:yP (zI K (QP (QP H2 T (.tup [.int j,.ref r])) p1 (.lst (vm ps none (some (j:Int)))))) ps (cs.map Yw):=hps.imp fun _ _ z=>(g2T.trans gp).board z
   have h8:=h9.take (n:=j)
   rw [← ur (xs:=ps)] at h8
   exact h8
  refine ⟨?_,⟨_,_,rfl⟩,g2T.trans gp,?_⟩
  ·rw [List.length_map,List.length_map,List.length_range]; exact uS (by omega)
  ·rw [List.range_succ,List.map_append,List.map_append,← yA hcj]; rfl
 ·rintro ys σ' H2 ⟨_,g2,rfl⟩ l hl
  refine ⟨l,_,rfl,Q0.of zd,_,rfl,q _ _ (g1.trans (g2.trans (Grow.new hl _))) ?_⟩
  rw [pl]
  exact qF
theorem yj:FnScope ["_law_board","_law_calls","_law_things_here","_law_shown","_law_unlike","_law_thing","_law_due","_law_found_here"] ["_law_board","_law_calls","_law_things_here"] (zi (top 60)):=⟨rfl,rfl,rfl,by decide +kernel,rfl,by decide +kernel,by decide +kernel⟩
theorem sV (F:Fun K "_law_right" "_law_right" (top 60) f fd) (B:Blt mg) (qc0:zn P w K mg base n "_law_is_serial" ["_law_board","_law_calls","_law_thing"] (ZK K)) (qc1:zn P w K mg base n "_law_can" ["_law_calls","_law_left","_law_values","_law_dead"] (xG P w 9 K)) (qc2:zn P w K mg base n "_law_found" ["_law_board","_law_calls"] (vI K)) (qc3:zn P w K mg base n "_law_truth" ["_law_board","_law_calls","_law_thing"] (tX K)) (qc4:zn P w K mg base n "_law_are_unlike" ["_law_calls"] (uN K))     :
  FnOk P w K mg base Jt (n+1) f fd ["_law_board","_law_calls","_law_things_here"] (tZ K):=by
 refine F.ok yj xY (fun cdv A outer s H vs Q E hr h=>?_)
 obtain ⟨x,y,z,rfl,b,cs,l,xs,ds,m,hb,b1,b16,bb,hc,ok,bd,rfl,hl,lm,ls,ho,hds,d30,q⟩:=h
 refine ⟨_,(ze (zv (i:=3) yj.nd rfl (Or.inl rfl) (zm (tJ (K:=K) rfl hr) rfl B.repr UC (za (zR (za (pv 0) (za (pv 1) (za (pv 2) zb)))) zb))) (ze (zv (i:=4) yj.nd rfl (Or.inl rfl) (zg qc4 hr rfl (za (pv 1) zb))) (ze (xy PassesOwn.never rfl (se (pv 2)) (zj (i:=5) yj.nd rfl (Or.inl rfl)) (ze (zv (i:=6) yj.nd rfl (Or.inl rfl) (yI (za yr (za yr (za yr zb))))) (ze (zQ (z7 (pv 4)) (zf (zv (i:=6) yj.nd rfl (Or.inl rfl) (yI (za (zg qc0 hr rfl (za (pv 0) (za (pv 1) (za (pv 5) zb)))) (za (uc (zg qc0 hr rfl (za (pv 0) (za (pv 1) (za (pv 5) zb))))) zb))))) zu) (zf (zQ (PW.pt (vT (zD (Xf hr) (zg qc3 hr rfl (za (pv 0) (za (pv 1) (za (pv 5) zb)))) (pv 6) (zA _)) (xQ (zD (Xf hr) (zg qc3 hr rfl (za (pv 0) (za (pv 1) (za (pv 5) zb)))) (pv 6) (zA _))))) (zf (zr yr)) zu))))) (ze (zv (i:=7) yj.nd rfl (Or.inl rfl) (zg qc2 hr rfl (za (pv 0) (za (pv 1) zb)))) (ze (zQ (PW.pt (vT (zD sf (zm (tJ (K:=K) rfl hr) rfl B.repr UC (za (zR (za (pv 0) (za (pv 1) (za (pv 2) zb)))) zb)) (pv 3) (zA _)) (xQ (zD (Ut (K:=K) rfl hr) (zg qc2 hr rfl (za (pv 0) (za (pv 1) zb))) (pv 7) (zA _))))) (zf (zr yr)) zu) (ze (zQ (PW.pt (vT (zD qY (zm zt rfl B.len yW (za (pv 1) zb)) zh (zA _)) (xQ (yG (z7 (pv 4)))))) (zf (zr (yu (UG hr) (pv 7) (yI (za (pv 4) (za (uc (pv 4)) (za yr zb)))) (zA _)))) zu) (ze (zQ (yG (z7 (zg qc1 hr rfl (za (pv 1) (za (jm rfl rfl B.tuple rfl B.range (za (zm zt rfl B.len yW (za (pv 1) zb)) zb)) (za (pv 0) (za (Zw (P:=P) (w:=w) JU JU rfl rfl) zb Xz))))))) (zf (zr (Uw (jQ (pv 7))))) zu) (zf (zr (zg qc0 hr rfl (za (pv 0) (za (pv 1) (za (pv 7) zb))))))))))))),?_⟩
 obtain ⟨s1,s2,s3⟩:=Tf b16 bb ok.len bd d30 fun d h=>(hds d h).2
 have OD:∀ (H':Hp) (t:Addr),Grow [] H H' -> Q1 K H' t [x,y,.ref l]->Od K m H' (.ref t) (xf b cs ds):=fun H' t g ht=>.tup ht (.cons (Yb (g.board hb)) (.cons (Yc (g.calls72 hc)) (.cons (.lst (g.keep _ _ (by simp) hl) lm ls (ho.grow g.wk)) .nil)))
 have xl:=ho.length
 refine yh (fun v H'=>v = .str (xf b cs ds).shown /\ Grow [] H H') (fun Kk hk=>⟨_,rfl,_,rfl,_,rfl,JB rfl,fun t ht=>⟨_,xf b cs ds,m,rfl,OD _ t (Grow.new ht _) (Q1.of zd),s1,s2,s3,hk _ _ ⟨rfl,Grow.new ht _⟩⟩⟩) ?_
 rintro _ H1 ⟨rfl,g1⟩
 refine yh (fun v H'=>∃ o:Bool,v = .bl o /\ (o=true ↔ yB cs) /\ Grow [] H1 H') (fun Kk hk=>⟨_,rfl,_,rfl,cs,g1.calls72 hc,ok.len,fun o H' g ho=>hk _ _ ⟨o,rfl,ho,g⟩⟩) ?_
 rintro _ H2 ⟨o,rfl,hoo,g2⟩
 have G2:=g1.trans g2
 refine ⟨_,rfl,l,rfl,⟨_,Q0.of (G2.keep _ _ (by simp) hl)⟩,Vh (xs:=xs) (fun i σ H'=>∃ (e5 e6 e7:Option V),σ = [some x,some y,some (.ref l),some (.str (xf b cs ds).shown),some (.bl o),e5,e6,e7] /\ Grow [] H H') ⟨_,_,_,rfl,G2⟩ (fun i σ H' _ ⟨_,_,_,_,g⟩=>Q0.of (g.keep _ _ (by simp) hl)) ?_ ?_⟩
 ·rintro i v σ H3 hv ⟨e5,e6,e7,rfl,g3⟩
  obtain ⟨d,hd,od⟩:=ho.get hv
  obtain ⟨fl,_⟩:=hds d (List.mem_of_getElem? hd)
  refine yh (fun v H'=>∃ l6,v = .ref l6 /\ H' l6=some (.lst [.bl false,.bl true,.bl false]) /\ Grow [] H3 H') (fun Kk hk=>⟨JB rfl,fun l6 hl6=>hk _ _ ⟨l6,rfl,zd,Grow.new hl6 _⟩⟩) ?_
  rintro _ H4 ⟨l6,rfl,hl6,g4⟩
  have G4:=g3.trans g4
  refine VE (fun σ' H'=>∃ l6,σ' = [some x,some y,some (.ref l),some (.str (xf b cs ds).shown),some (.bl o),some v,some (.ref l6),e7] /\ H' l6=some (.lst (tru76 b cs d)) /\ Grow [] H4 H') ?_ (fun hk=>?_)
  rotate_left
  ·refine ⟨_,rfl,_,rfl,?_⟩
   cases o with
   | true =>
    have ow:=hoo.mp rfl
    refine xk ⟨_,rfl,_,rfl,_,rfl,_,_,_,rfl,b,cs,d,m,G4.board hb,b16,G4.calls72 hc,ok,od.grow (G4.wk (m:=m)),fl,fun t H5 ht g5=>⟨_,rfl,_,rfl,_,rfl,_,_,_,rfl,b,cs,d,m,(G4.trans g5).board hb,b16,(G4.trans g5).calls72 hc,ok,od.grow ((G4.trans g5).wk (m:=m)),fl,fun t2 H6 ht2 g6=>⟨_,rfl,JB rfl,fun l7 hl7=>hk _ _ ⟨l7,rfl,?_,g5.trans (g6.trans (Grow.new hl7 _))⟩⟩⟩⟩
    have e2:t2=t:=by rw [Bool.eq_iff_iff,ht2,ht]
    rw [zd,tru_own76 ow ht,e2]
   | false =>
    have no:¬ yB cs:=fun z=>by have:=hoo.mpr z; cases this
    exact yD (hk _ _ ⟨l6,rfl,by rw [qG no]; exact hl6,Grow.refl _ _⟩)
  rintro _ H5 ⟨l7,rfl,hl7,g5⟩
  have G5:=G4.trans g5
  have fl7:(tru76 b cs d).all vU=true /\ uR (tru76 b cs d) (tru76 b cs d)=true:=by
   unfold tru76
   split
   ·exact ⟨rfl,Uv⟩
   ·exact ⟨rfl,rfl⟩
  refine v9 (fun c H'=>c=false /\ Grow [] H5 H') (fun Kk hk=>⟨_,rfl,_,rfl,_,rfl,_,_,_,rfl,b,cs,d,m,G5.board hb,b1,b16,G5.calls72 hc,ok,od.grow (G5.wk (m:=m)),fl,fun la H6 g6 hla=>⟨_,rfl,la,l7,_,_,rfl,rfl,Q0.of hla,Q0.of (g6.keep _ _ (by simp) hl7),fl7.1,fl7.1,_,rfl,yY (by rw [if_pos rfl,fl7.2]; rfl) ⟨_,rfl,_,rfl,_,rfl,_,_,_,rfl,b,cs,d,m,(G5.trans g6).board hb,b1,b16,(G5.trans g6).calls72 hc,ok,od.grow ((G5.trans g6).wk (m:=m)),fl,fun lb H7 g7 hlb=>⟨_,rfl,lb,l7,_,_,rfl,rfl,Q0.of hlb,Q0.of ((g6.trans g7).keep _ _ (by simp) hl7),fl7.1,fl7.1,_,rfl,hk _ _ ⟨by rw [if_pos rfl,fl7.2]; rfl,g6.trans g7⟩⟩⟩⟩⟩) ?_
  rintro _ H6 ⟨rfl,g6⟩
  exact yD ⟨_,_,_,rfl,G5.trans g6⟩
 rintro σ H3 ⟨e5,e6,e7,rfl,g3⟩
 try dsimp only
 have fnd:∀ {H':Hp},Grow [] H H' -> ∀ (R:VK),(∀ v H'',Grow [] H' H'' -> jz K H'' b cs v->R v H'')->vI K [x,y] H' R E0:=fun {H'} g R hR=>⟨_,_,rfl,b,cs,g.board hb,b1,b16,g.calls72 hc,ok,fun ow c8 v H'' g' hv=>hR v H'' g' (.inl ⟨ow,c8,hv⟩),fun no l9 H'' g' h9=>hR _ H'' g' (.inr ⟨no,l9,o,hoo,rfl,Q0.of (h9 o hoo)⟩)⟩
 refine yh (fun v H'=>jz K H' b cs v /\ Grow [] H3 H') (fun Kk hk=>⟨_,rfl,_,rfl,fnd g3 _ fun v H' g hf=>hk _ _ ⟨hf,g⟩⟩) ?_
 rintro vf H4 ⟨hf,g4⟩
 have G4:=g3.trans g4
 refine yM (fun c H'=>c=false /\ Grow [] H4 H') (fun Kk hk=>⟨_,rfl,_,rfl,_,rfl,JB rfl,fun t ht=>⟨_,xf b cs ds,m,rfl,OD _ t (G4.trans (Grow.new ht _)) (Q1.of zd),s1,s2,s3,_,rfl,rfl,_,rfl,?_⟩⟩) ?_
 ·refine yY (by simp) ⟨_,rfl,_,rfl,fnd (G4.trans (Grow.new ht _)) _ fun v H' g hv=>⟨_,rfl,YI hv (hf.grow ((Grow.new ht _).trans g)) ⟨_,rfl,hk _ _ ⟨rfl,(Grow.new ht _).trans g⟩⟩⟩⟩
 rintro _ H5 ⟨rfl,g5⟩
 refine yD (yp ?_)
 have G5:=G4.trans g5
 have hf5:=hf.grow g5
 obtain ⟨rc,ys,rfl,hrc,hay⟩:=id hc
 have yl:=hay.len
 refine yM (fun c H'=>(c=true ↔ ¬ (yB cs /\ cs.length<=8)) /\ H' = H5) (fun Kk hk=>⟨_,rfl,rc,_,rfl,.inr (G5.sqT hrc),_,_,rfl,rfl,_,rfl,?_⟩) ?_
 ·by_cases c8:cs.length<=8
  ·refine yY (decide_eq_false (by omega)) ⟨_,rfl,_,rfl,hk _ _ ⟨?_,rfl⟩⟩
   cases o with
   | true=>exact ⟨fun z=>(by cases z),fun z=>absurd ⟨hoo.mp rfl,c8⟩ z⟩
   | false=>exact ⟨fun _ z=>(by have:=hoo.mpr z.1; cases this),fun _=>rfl⟩
  ·exact yT (decide_eq_true (by omega)) (hk _ _ ⟨⟨fun _ z=>c8 z.2,fun _=>rfl⟩,rfl⟩)
 rintro c H5 ⟨hcc,rfl⟩
 cases c with
 | true =>
  have no:=hcc.mp rfl
  rcases hf5 with ⟨z1,z2,_⟩ | ⟨_,l9,o9,h9,rfl,hl9⟩
  ·exact absurd ⟨z1,z2⟩ no
  have e9:o9=o:=by rw [Bool.eq_iff_iff,h9,hoo]
  subst e9
  refine xk ⟨_,rfl,_,rfl,_,rfl,_,rfl,JB rfl,fun l8 hl8=>⟨l9,l8,_,_,rfl,rfl,(Grow.new (m:=[]) hl8 _).sqL hl9,Q0.of zd,rfl,rfl,?_⟩⟩
  rw [if_neg (by decide),Uu]
  exact q _ (G5.trans (Grow.new hl8 _))
 | false =>
  obtain ⟨ow,c8⟩:yB cs /\ cs.length<=8:=by
   apply Classical.byContradiction
   intro z
   have:=hcc.mpr z
   cases this
  rcases hf5 with ⟨_,_,hv⟩ | ⟨no,_⟩
  rotate_left
  ·exact absurd ⟨ow,c8⟩ no
  refine yD (yp ?_)
  refine yM (fun c H'=>(c=true ↔ ¬ ∃ o,uX b cs o) /\ Grow [] H5 H') (fun Kk hk=>⟨_,rfl,_,rfl,rc,_,rfl,.inr (G5.sqT hrc),ys.length,rfl,by omega,fun t ht=>?_⟩) ?_
  ·have gt:=Grow.new (m:=[]) ht (.tup ((List.range ys.length).map fun i:Nat=>V.int i))
   refine ⟨_,rfl,fun dk hdk=>?_⟩
   have gd:=Grow.new (m:=[]) hdk (JW JU JU P w dk [])
   have gtd:=gt.trans gd
   have deadE:xh P w K cs dk 0 (QP (QP H5 t (.tup ((List.range ys.length).map fun i:Nat=>V.int i))) dk (JW JU JU P w dk [])):=⟨[],zd,(fun _ z=>by cases z),(fun _ z=>by cases z),Nat.le_refl _⟩
   refine ⟨_,_,_,_,rfl,cs,List.range cs.length,b,dk,0,(G5.trans gtd).calls72 hc,⟨t,rfl,by rw [← yl]; exact gd.sqT (Q1.of zd)⟩,(G5.trans gtd).board hb,rfl,deadE,List.nodup_range,(fun k hk=>List.mem_range.mp hk),ok,b16,by rw [List.length_range]; omega,by rw [List.length_range]; exact c8,?_,fun c H6 g6 _ hc6=>⟨_,rfl,hk _ _ ⟨?_,?_⟩⟩⟩
   ·rw [List.length_range]
    have:=Tx c8
    omega
   ·rw [Yv] at hc6
    cases c with
    | true=>exact ⟨fun z=>(by cases z),fun z=>absurd (hc6.mp rfl) z⟩
    | false=>exact ⟨fun _ z=>(by have:=hc6.mpr z; cases this),fun _=>rfl⟩
   ·exact Grow.shrinkTo (m:=[dk]) (m':=[]) (fun z hz=>.inr (by rw [List.mem_singleton.mp hz]; exact (gt.free (by simp) hdk))) (gtd.wk.trans g6)
  rintro c H6 ⟨hc6,g6⟩
  have G6:=G5.trans g6
  cases c with
  | true =>
   have no:=hc6.mp rfl
   rw [WR fun o z=>no ⟨o,z⟩] at hv
   obtain rfl:vf = .non:=hv
   exact xk ⟨_,rfl,q _ G6⟩
  | false =>
   have yes:∃ o,uX b cs o:=by
    apply Classical.byContradiction
    intro z
    have:=hc6.mpr z
    cases this
   obtain ⟨od,eo,so⟩:=WQ yes
   rw [eo] at hv
   obtain ⟨r,rfl,hr⟩:=(show xB K H5 vf od from hv)
   have ol:od.length<=40:=by rw [so.1.length_eq,List.length_range]; exact ok.len
   refine yD (yp ⟨_,rfl,_,rfl,_,rfl,_,_,_,rfl,b,cs,.tuple (od.map fun k:Nat=>PyData.int (k:Int)),[],G6.board hb,b16,G6.calls72 hc,ok,rX (g6.sqT hr),rY (by omega),fun t H7 ht g7=>?_⟩)
   rw [ht.mpr (vE.mpr so)]
   exact q _ (G6.trans g7)
theorem xM:FnScope ["_law_pot_here","_law_row","_law_left"] ["_law_pot_here","_law_row"] (zi (top 43)):=⟨rfl,rfl,rfl,by decide +kernel,rfl,by decide +kernel,by decide +kernel⟩
theorem vZ (F:Fun K "_law_shuffled" "_law_shuffled" (top 43) f fd) (B:Blt mg) (qc0:zn P w K mg base n "_law_take" ["_law_pot_here","_law_many"] (xZ K))     :
  FnOk P w K mg base Jt (n+1) f fd ["_law_pot_here","_law_row"] (uH K):=by
 refine F.ok xM yf (fun cdv A outer s H vs Q E hr h=>?_)
 obtain ⟨x,y,rfl,p,xs,rfl,pp,⟨r,rfl,hn⟩,hl,q⟩:=h
 refine ⟨_,(ze (zv (i:=2) xM.nd rfl (Or.inr rfl) (yk xV rfl B.list tq (za (pv 1) zb))) (zf (zr (z6 (CSc.of (N':=["_law_k","_law_left","_law_pot_here"]) (sub:=[none,some 2,some 0]) (zi (top 43)) ["_law_pot_here","_law_row","_law_left"] rfl rfl (by decide +kernel) rfl) rfl (xb rfl B.range (za (zm zt rfl B.len yW (za (pv 1) zb)) zb)) (fun _ _ _ _ _ _=>zj (i:=0) (show (["_law_k","_law_left","_law_pot_here"]:List Str).Nodup by decide +kernel) rfl (Or.inl rfl)) (fun _ _ _ _ _ _=>zX) (fun _ _ _ _ _ _=>(UI (K:=K) rfl PySem.F.plainAttrs_list PySem.F.slot_list_pop PySem.F.type_list_pop Vo (pv 1) (za (zg qc0 hr rfl (za (pv 2) (za (zm (rK (K:=K) rfl) rfl B.len yW (za (pv 1) zb)) zb))) zb))))))),?_⟩
 refine ⟨_,rfl,r,_,rfl,hn,fun l hl0=>?_⟩
 have gl:=Grow.new (m:=[p,l]) hl0 (.lst xs)
 have pl:p ≠ l:=fun z=>y8 pp hl0 (by rw [z]; simp)
 have pp0:=pp.grow (Grow.new hl0 (.lst xs))
 have hn0:Q0 K (QP H l (.lst xs)) r xs \/ Q1 K (QP H l (.lst xs)) r xs:=hn.imp (fun z=>(Grow.new (m:=[]) hl0 _).sqL z) fun z=>(Grow.new (m:=[]) hl0 _).sqT z
 have h0:QP H l (.lst xs) l=some (.lst xs):=zd
 generalize QP H l (.lst xs)=H0 at gl pp0 hn0 h0 ⊢
 refine ⟨_,rfl,r,_,rfl,hn0,_,rfl,by omega,by omega,v0 (fun i ys H'=>∃ ms left:List V,ys=ms /\ ms.length=i /\ (ms ++ left).Perm xs /\ H' l=some (.lst left) /\ Grow [p,l] H0 H' /\ JA H' p) ⟨[],xs,rfl,rfl,List.Perm.refl _,h0,Grow.refl _ _,pp0⟩ ?_ ?_⟩
 ·rintro i ys H1 hi ⟨_,left,rfl,ml,hp,hl1,g1,pp1⟩
  have hil:i < xs.length:=by
   have:=hi
   omega
  have hlen:=hp.length_eq
  rw [List.length_append] at hlen
  have ll:0 < left.length:=by omega
  refine ⟨_,rfl,.inl ⟨rfl,_,Q0.of hl1⟩,_,rfl,_,rfl,l,_,rfl,.inl (Q0.of hl1),_,_,rfl,p,_,rfl,rfl,pp1,by omega,Int.lt_of_le_of_lt (b:=100) (by omega) (by decide),fun j' H2 j0 j1 g2 pp2=>?_⟩
  obtain ⟨j,rfl⟩:=Int.eq_ofNat_of_zero_le j0
  have hj:j < left.length:=by omega
  have hl2:=g2.keep _ _ (by simpa using pl.symm) hl1
  refine ⟨l,left,_,j,left[j],rfl,rfl,hl2,by omega,Int.lt_of_le_of_lt (b:=100) (by omega) (by decide),?_,?_,uS (by omega),ys ++ [left[j]],left.eraseIdx j,rfl,by rw [List.length_append,List.length_singleton,ml],?_,?_,g1.trans ((g2.mono (by simp)).trans (Grow.set hl2 (by simp) _)),?_⟩
  ·exact PySem.StrLaws.seqIndex_nonneg (by omega) (by omega)
  ·exact List.getElem?_eq_getElem hj
  ·refine List.Perm.trans ?_ hp
   rw [List.append_assoc]
   exact List.Perm.append_left _ (vO hj)
  ·rw [zd]
  ·obtain ⟨u,w,e,z⟩:=pp2
   exact ⟨u,w,by rw [zq pl]; exact e,z⟩
 ·rintro ys H1 ⟨_,left,rfl,ml,hp,hl1,g1,pp1⟩ l' hl'
  have hlen:=hp.length_eq
  rw [List.length_append,ml] at hlen
  have e0:left=[]:=List.length_eq_zero_iff.mp (by omega)
  subst e0
  rw [List.append_nil] at hp
  have n1:l' ∉ [p,l]:=fun z=>by
   rcases List.mem_cons.mp z with z | z
   ·exact y8 pp1 hl' (by rw [z]; simp)
   ·rw [List.mem_singleton.mp z,hl1] at hl'; cases hl'
  have G:=gl.trans (g1.trans (Grow.new hl' (.lst (ys))))
  exact q l' ys _ hp (Grow.shrink2 G hl0) (pp1.grow (Grow.new hl' _)) ((gl.trans g1).free n1 hl') (fun z=>n1 (by rw [z]; simp)) zd
theorem yn:FnScope ["_law_pot_here","_law_order","_law_row","_law_i","_law_j","_law_some_here"] ["_law_pot_here","_law_order"] (zi (top 59)):=⟨rfl,rfl,rfl,by decide +kernel,rfl,by decide +kernel,by decide +kernel⟩
theorem u6 (F:Fun K "_law_things" "_law_things" (top 59) f fd) (B:Blt mg) (qc0:zn P w K mg base n "_law_shuffled" ["_law_pot_here","_law_row"] (uH K)) (qc1:zn P w K mg base n "_law_take" ["_law_pot_here","_law_many"] (xZ K))     :
  FnOk P w K mg base Jt (n+1) f fd ["_law_pot_here","_law_order"] (uP K):=by
 refine F.ok yn yf (fun cdv A outer s H vs Q E hr h=>?_)
 obtain ⟨x,y,rfl,p,ro,ns,rfl,rfl,pp,hro,hl,hlt,q⟩:=h
 refine ⟨_,(ze (zv (i:=2) yn.nd rfl (Or.inl rfl) (yk (Z8 (K:=K) rfl) rfl B.list tq (za (pv 1) zb))) (ze (jS (i:=3) (j:=4) rfl yn.nd rfl rfl (by decide) rfl rfl (za (zg qc1 hr rfl (za (pv 0) (za (zz z9 (zm zt rfl B.len yW (za (pv 2) zb)) zh) zb))) (za (zg qc1 hr rfl (za (pv 0) (za (zz z9 (zm zt rfl B.len yW (za (pv 2) zb)) zh) zb))) zb)) rfl) (ze (zv (i:=5) yn.nd rfl (Or.inl rfl) (yI (za (pv 1) (za (Xt (K:=K) rfl (pv 1)) (za (yk yJ rfl B.tuple yK (za (zg qc0 hr rfl (za (pv 0) (za (pv 1) zb))) zb)) (za (zz (yv (K:=K) rfl) (zz (yv (K:=K) rfl) (zK (yg (K:=K) rfl) (pv 1) zV (zO (pv 3))) (Xt (K:=K) rfl (zK (yg (K:=K) rfl) (pv 1) (zO (pv 3)) (zO (pv 4))))) (zK (yg (K:=K) rfl) (pv 1) (zO (zm (xT rfl) rfl B.max ZU (za (pv 3) (za (pv 4) zb)))) zV)) (za (pv 2) zb))))))) (ze (zv (i:=5) yn.nd rfl (Or.inl rfl) (zz UB (pv 5) (yI (za (zz (yv (K:=K) rfl) (zz (yv (K:=K) rfl) (zK (yg (K:=K) rfl) (pv 1) zV (zO (pv 3))) (zK (yg (K:=K) rfl) (pv 1) (zO (pv 4)) (zO (zz z9 (pv 4) zh)))) (zK (yg (K:=K) rfl) (pv 1) (zO (zz z9 (pv 3) zh)) zV)) (za (zz (yv (K:=K) rfl) (zz (yv (K:=K) rfl) (zK (yg (K:=K) rfl) (pv 1) zV (zO (pv 3))) (zR (za wJ zb))) (zK (yg (K:=K) rfl) (pv 1) (zO (zz z9 (pv 3) zh)) zV)) zb))))) (ze (zv (i:=5) yn.nd rfl (Or.inl rfl) (zz UB (pv 5) (yI (za (yk yJ rfl B.tuple yK (za (z6 (CSc.of (N':=["_law_number_here"]) (sub:=[none]) (zi (top 59)) ["_law_pot_here","_law_order","_law_row","_law_i","_law_j","_law_some_here"] rfl rfl (by decide +kernel) rfl) rfl (xx (pv 1)) (fun _ _ _ _ _ _=>zj (i:=0) (show (["_law_number_here"]:List Str).Nodup by decide +kernel) rfl (Or.inl rfl)) (fun _ _ _ _ _ _=>zX) (fun _ _ _ _ _ _=>(zF (j3 (K:=K) rfl) (yI (za (pv 0) (za (yu xN (pv 0) zh (zA _)) zb))) (yk Y2 rfl B.int U7 (za (yu sg (pv 0) zh (zA _)) zb)) (fun _ _=>rfl)))) zb)) zb)))) (zf (zr (zz XW (pv 5) (yI (za (zz (yv (K:=K) rfl) (zK (yg (K:=K) rfl) (pv 1) zV (zO (pv 3))) (zK (yg (K:=K) rfl) (pv 1) (zO (zz z9 (pv 3) zh)) zV)) (za (zz (yv (K:=K) rfl) (zz (yv (K:=K) rfl) (zK (yg (K:=K) rfl) (pv 1) zV (zO (pv 3))) (zR (za (zm zt rfl B.len yW (za (pv 2) zb)) zb))) (zK (yg (K:=K) rfl) (pv 1) (zO (zz z9 (pv 3) zh)) zV)) (za wJ (za (zz (yv (K:=K) rfl) (pv 1) (zR (za zh zb))) (za (zR (za (zR zb) zb)) (za YU zb))))))))))))))),?_⟩
 have vl:(zy ns).length=ns.length:=zM
 have oI:=UL hlt
 have pn:∀ {H':Hp} {l:Addr},JA H' p->H' l=none->l ∉ [p]:=fun pp hl=>y8 pp hl
 refine yh (fun v H'=>∃ lr,v = .ref lr /\ H lr=none /\ lr ≠ sysModules /\ H' = QP H lr (.lst (zy ns))) (fun Kk hk=>⟨_,rfl,ro,_,rfl,.inr hro,fun l hl nl=>hk _ _ ⟨l,rfl,hl,nl,rfl⟩⟩) ?_
 rintro _ _ ⟨lr,rfl,nlr,slr,rfl⟩
 have glr:=Grow.new (m:=[]) nlr (.lst (zy ns))
 have nrp:=pn pp nlr
 have hlr:QP H lr (.lst (zy ns)) lr=some (.lst (zy ns)):=zd
 have pp0:=pp.grow glr
 have hro0:=glr.sqT hro
 have G0:Grow [p] H (QP H lr (.lst (zy ns))):=glr.wk
 generalize QP H lr (.lst (zy ns))=H0 at hlr pp0 hro0 G0 ⊢
 refine ⟨_,rfl,_,rfl,lr,_,rfl,.inl (Q0.of hlr),_,_,rfl,rfl,_,_,rfl,p,_,rfl,rfl,pp0,by omega,Int.lt_of_le_of_lt (b:=100) (by omega) (by decide),fun i' H2 i0 i1 g2 pp2=>?_⟩
 refine ⟨_,rfl,_,rfl,lr,_,rfl,.inl (Q0.of (g2.keep _ _ nrp hlr)),_,_,rfl,rfl,_,_,rfl,p,_,rfl,rfl,pp2,by omega,Int.lt_of_le_of_lt (b:=100) (by omega) (by decide),fun j' H3 j0 j1 g3 pp3=>⟨_,_,rfl,?_⟩⟩
 obtain ⟨i,rfl⟩:=Int.eq_ofNat_of_zero_le i0
 obtain ⟨j,rfl⟩:=Int.eq_ofNat_of_zero_le j0
 try dsimp only
 have G3:=G0.trans (g2.trans g3)
 have hro3:=(g2.trans g3).sqT hro0
 have hlr3:=(g2.trans g3).keep _ _ nrp hlr
 clear G0 g2 g3 pp pp0 pp2 hro0 hlr
 have ei:(i:Int)+1=((i+1:Nat):Int):=by omega
 have c1:(vm (zy ns) none (some (i:Int))).length<=i:=by rw [ur,List.length_take]; omega
 have c2:(vm (zy ns) (some ((i:Int)+1)) none).length=ns.length - (i+1):=by rw [ei,vt,List.length_drop,vl]
 have c3:=X1 (zy ns) j
 have c4:(vm (zy ns) (some (i:Int)) (some (j:Int))).length<=j - i:=W3
 have in':i<=ns.length:=by omega
 have jn':j<=ns.length:=by omega
 obtain ⟨mx,emx,mi,mj⟩:∃ mx:Nat,(if (j:Int) > (i:Int) then (j:Int) else (i:Int))=(mx:Int) /\ i<=mx /\ j<=mx:=by
  by_cases c:(j:Int) > (i:Int)
  ·exact ⟨j,by rw [if_pos c],by omega,by omega⟩
  ·exact ⟨i,by rw [if_neg c],by omega,by omega⟩
 have c5:(vm (zy ns) (some (mx:Int)) none).length=ns.length - mx:=by rw [vt,List.length_drop,vl]
 refine yh (fun v H'=>∃ (l7:Addr) (xs:List V),v = .ref l7 /\ S72 K p H' l7 xs 5 /\ Grow [p] H3 H' /\ JA H' p) (fun Kk hk=>?_) ?_
 ·refine ⟨_,rfl,_,rfl,ro,_,rfl,hro3,fun p1 hp1=>?_⟩
  have g1:=Grow.new (m:=[]) hp1 (.tup (zy ns).reverse)
  refine ⟨_,rfl,_,rfl,_,_,rfl,p,zy ns,rfl,pp3.grow g1,⟨ro,rfl,.inr (g1.sqT hro3)⟩,by omega,fun l2 zs H4 hz g4 pp4 nl2 l2p h2=>⟨l2,zs,rfl,.inl ⟨Q0.of h2,fun p2 hp2=>?_⟩⟩⟩
  obtain ⟨ms,hms,rfl⟩:=uG hz
  have g5:=Grow.new (m:=[]) hp2 (.tup (zy ms))
  have Ga:Grow [p] H3 _:=g1.wk.trans (g4.trans g5.wk)
  have pp5:=pp4.grow g5
  refine ⟨_,rfl,_,rfl,_,rfl,ro,_,rfl,Ga.sqT hro3,fun p3 K3 g6 h3=>⟨_,rfl,_,rfl,_,rfl,_,rfl,_,rfl,ro,_,rfl,(Ga.trans g6.wk).sqT hro3,fun p4 K4 g7 h4=>⟨p4,_,rfl,h4,fun p5 hp5=>?_⟩⟩⟩
  have g8:=Grow.new (m:=[]) hp5 (.tup (vm (zy ns) (some (i:Int)) (some (j:Int))).reverse)
  refine ⟨p3,p5,_,_,rfl,rfl,(g7.trans g8).sqT h3,Q1.of zd,uT (by rw [List.length_reverse]; omega),fun p6 K6 g9 h6=>?_⟩
  have Gb:=Ga.trans (g6.trans (g7.trans (g8.trans g9))).wk
  refine ⟨_,rfl,_,rfl,_,rfl,_,_,rfl,_,rfl,ro,_,rfl,Gb.sqT hro3,fun p7 K7 g10 h7=>?_⟩
  rw [emx] at h7
  refine ⟨p6,p7,_,_,rfl,rfl,g10.sqT h6,h7,uT (by rw [List.length_append,List.length_reverse]; omega),fun p8 K8 g11 h8=>⟨_,rfl,JB rfl,fun l9 hl9=>?_⟩⟩
  have g12:=Grow.new (m:=[]) hl9 (.lst [V.ref ro,V.ref p1,V.ref p2,V.ref p8,V.ref lr])
  have gz:=g6.trans (g7.trans (g8.trans (g9.trans (g10.trans (g11.trans g12)))))
  have Gc:=Ga.trans gz.wk
  refine hk _ _ ⟨l9,_,rfl,⟨zd,xp ?_ (xp ?_ (xp ?_ (xp ?_ (xp ?_ VJ)))),pn (pp5.grow (g6.trans (g7.trans (g8.trans (g9.trans (g10.trans g11)))))) hl9,Nat.le_refl _⟩,Gc,pp5.grow gz⟩
  ·exact JL.tup (Gc.sqT hro3) (by omega) (JN oI)
  ·exact JL.tup ((g4.trans (g5.wk.trans gz.wk)).sqT (Q1.of zd)) (by rw [List.length_reverse]; omega) fun v hv=>JN oI v (List.mem_reverse.mp hv)
  ·exact JL.tup (gz.sqT (Q1.of zd)) (by rw [zM,hms.length_eq]; omega) (JN (UL (Sz hms hlt)))
  ·refine JL.tup (g12.sqT h8) (by rw [List.length_append,List.length_append,List.length_reverse]; omega) (JN (XZ (XZ (vW oI) fun v hv=>vW oI v (List.mem_reverse.mp hv)) (vW oI)))
  ·exact JL.lst (Gc.keep _ _ nrp hlr3) nrp slr (by omega) (JN oI)
 rintro _ H5 ⟨l5,xs5,rfl,S5,g5,pp5⟩
 have hro5:=g5.sqT hro3
 have hlr5:=g5.keep _ _ nrp hlr3
 have G5:=G3.trans g5
 clear hro3 hlr3 G3 g5 pp3
 refine yh (fun v H'=>∃ (l7:Addr) (xs:List V),v = .ref l7 /\ S72 K p H' l7 xs 7 /\ Grow [] H5 H') (fun Kk hk=>?_) ?_
 ·refine ⟨_,rfl,_,rfl,_,rfl,_,rfl,ro,_,rfl,hro5,fun p1 K1 g1 h1=>⟨_,rfl,_,rfl,_,rfl,_,rfl,_,_,rfl,rfl,_,rfl,ro,_,rfl,g1.sqT hro5,fun p2 K2 g2 h2=>⟨p1,p2,_,_,rfl,rfl,g2.sqT h1,h2,uT (by omega),fun p3 K3 g3 h3=>?_⟩⟩⟩
  have Ga:=g1.trans (g2.trans g3)
  refine ⟨_,rfl,_,rfl,_,_,rfl,rfl,_,rfl,ro,_,rfl,Ga.sqT hro5,fun p4 K4 g4 h4=>⟨p3,p4,_,_,rfl,rfl,g4.sqT h3,h4,uT (by rw [List.length_append]; omega),fun p5 K5 g5 h5=>?_⟩⟩
  have Gb:=Ga.trans (g4.trans g5)
  refine ⟨_,rfl,_,rfl,_,rfl,ro,_,rfl,Gb.sqT hro5,fun p6 K6 g6 h6=>⟨JB rfl,fun t2 ht2=>?_⟩⟩
  have gt2:=Grow.new (m:=[]) ht2 (.tup [V.non])
  refine ⟨p6,t2,_,_,rfl,rfl,gt2.sqT h6,Q1.of zd,uT (by show _+1<=5000; omega),fun p7 K7 g7 h7=>?_⟩
  have Gc:=Gb.trans (g6.trans (gt2.trans g7))
  refine ⟨_,rfl,_,rfl,_,_,rfl,rfl,_,rfl,ro,_,rfl,Gc.sqT hro5,fun p8 K8 g8 h8=>⟨p7,p8,_,_,rfl,rfl,g8.sqT h7,h8,uT (by rw [List.length_append]; show _+1+_<=5000; omega),fun p9 K9 g9 h9=>⟨JB rfl,fun l1 hl1=>?_⟩⟩⟩
  have Gd:=Gc.trans (g8.trans g9)
  have g11:=Grow.new (m:=[]) hl1 (.lst [V.ref p5,V.ref p9])
  have Ge:=Gd.trans g11
  have S8:=S5.grow (Ge.wk (m:=[p]))
  have sl:=S8.len
  refine ⟨l5,l1,_,_,rfl,rfl,S8.at_,zd,uT (by show _+2<=5000; omega),fun l2 hl2=>?_⟩
  have g12:=Grow.new (m:=[]) hl2 (.lst (xs5 ++ [V.ref p5,V.ref p9]))
  have gz:=g11.trans g12
  have Gf:=Ge.trans g12
  refine hk _ _ ⟨l2,_,rfl,⟨zd,Tj (Zn S8.gd g12.wk) (xp ?_ (xp ?_ VJ)),pn (pp5.grow Ge) hl2,by rw [List.length_append]; show _+2<=7; omega⟩,Gf⟩
  ·exact JL.tup ((g6.trans (gt2.trans (g7.trans (g8.trans (g9.trans gz))))).sqT h5) (by rw [List.length_append,List.length_append]; omega) (JN (XZ (XZ (vW oI) (vW oI)) (vW oI)))
  ·exact JL.tup (gz.sqT h9) (by rw [List.length_append,List.length_append]; show _+1+_ < 64; omega) (X0 (X0 (JN (vW oI)) (Ti JK.non)) (JN (vW oI)))
 rintro _ H8 ⟨l8,xs8,rfl,S8,g8⟩
 have hro8:=g8.sqT hro5
 have hlr8:=g8.keep _ _ (by simp) hlr5
 have G8:=G5.trans g8.wk
 have pp8:=pp5.grow g8
 clear hro5 hlr5 G5 g8 pp5 S5
 have small:∀ {k:Nat} {n:Nat},ns[n]? = some k->k < 40:=fun h=>hlt _ (List.mem_of_getElem? h)
 refine yh (fun v H'=>∃ (l7:Addr) (xs:List V),v = .ref l7 /\ S72 K p H' l7 xs 8 /\ Grow [] H8 H') (fun Kk hk=>⟨_,rfl,_,rfl,ro,rfl,⟨_,hro8⟩,yw (xs:=zy ns) (fun n ys H'=>ys.length=n /\ (∀ v ∈ ys,JM v \/ ∃ b,v = .bl b) /\ Grow [] H8 H') ⟨rfl,(fun _ h=>nomatch h),Grow.refl _ _⟩ (fun n ys H' ⟨_,_,g⟩=>g.sqT hro8) ?_ ?_⟩) ?_
 ·rintro n x ys H' hx ⟨yl,yE,g⟩
  obtain ⟨k,hki,rfl⟩:=yS hx
  have hn:=(List.getElem?_eq_some_iff.mp hki).1
  have k40:=small hki
  refine ⟨_,rfl,_,rfl,rfl,JB rfl,fun l hl0=>⟨_,rfl,_,_,rfl,rfl,.inr ⟨_,rfl,?_⟩⟩⟩
  have gl:=Grow.new (m:=[]) hl0 (.lst [V.int k,V.bl (decide (V.int (k:Int)=V.int 1))])
  by_cases k2:(k:Int) < 2
  ·refine ⟨l,_,1,_,rfl,by rw [decide_eq_true k2]; rfl,Q0.of zd,zp (j:=1) rfl,uS (by omega),by rw [List.length_append,List.length_singleton,yl],fun v hv=>?_,g.trans gl⟩
   rcases List.mem_append.mp hv with hv | hv
   ·exact yE v hv
   ·rw [List.mem_singleton.mp hv]; exact .inr ⟨_,rfl⟩
  ·refine ⟨l,_,0,_,rfl,by rw [decide_eq_false k2]; rfl,Q0.of zd,zp (j:=0) rfl,uS (by omega),by rw [List.length_append,List.length_singleton,yl],fun v hv=>?_,g.trans gl⟩
   rcases List.mem_append.mp hv with hv | hv
   ·exact yE v hv
   ·rw [List.mem_singleton.mp hv]; exact .inl ⟨k,by omega,rfl⟩
 ·rintro ys K1 ⟨yl,yE,g1⟩ l1 hl1
  refine ⟨l1,_,rfl,.inl ⟨Q0.of zd,fun t1 ht1=>⟨JB rfl,fun l2 hl2=>?_⟩⟩⟩
  have g2:=(Grow.new (m:=[]) hl1 (.lst ys)).trans (Grow.new ht1 (.tup ys))
  have gl2:=Grow.new (m:=[]) hl2 (.lst [V.ref t1])
  have Ga:=g1.trans (g2.trans gl2)
  have S9:=S8.grow (Ga.wk (m:=[p]))
  have sl:=S9.len
  refine ⟨l8,l2,_,_,rfl,rfl,S9.at_,zd,uT (by show _+1<=5000; omega),fun l3 hl3=>?_⟩
  have g3:=Grow.new (m:=[]) hl3 (.lst (xs8 ++ [V.ref t1]))
  refine hk _ _ ⟨l3,_,rfl,⟨zd,Tj (Zn S9.gd g3.wk) (xp (JL.tup ((gl2.trans g3).sqT (Q1.of zd)) (by omega) fun v hv=>?_) VJ),pn (pp8.grow Ga) hl3,by rw [List.length_append]; show _+1<=8; omega⟩,Ga.trans g3⟩
  rcases yE v hv with h | ⟨b,rfl⟩
  ·exact h.e
  ·exact JK.bl b
 rintro _ H9 ⟨l9,xs9,rfl,S9,g9⟩
 have hro9:=g9.sqT hro8
 have hlr9:=g9.keep _ _ (by simp) hlr8
 have G9:=G8.trans g9.wk
 have pp9:=pp8.grow g9
 clear hro8 hlr8 G8 g9 pp8 S8
 refine ⟨_,rfl,_,rfl,_,rfl,_,rfl,ro,_,rfl,hro9,fun p1 K1 g1 h1=>⟨_,rfl,_,rfl,_,_,rfl,rfl,_,rfl,ro,_,rfl,g1.sqT hro9,fun p2 K2 g2 h2=>⟨p1,p2,_,_,rfl,rfl,g2.sqT h1,h2,uT (by omega),fun p3 K3 g3 h3=>?_⟩⟩⟩
 have Ga:=g1.trans (g2.trans g3)
 refine ⟨_,rfl,_,rfl,_,rfl,ro,_,rfl,Ga.sqT hro9,fun p4 K4 g4 h4=>⟨_,rfl,lr,_,rfl,.inl (Q0.of ((Ga.trans g4).keep _ _ (by simp) hlr9)),JB rfl,fun t1 ht1=>?_⟩⟩
 have gt1:=Grow.new (m:=[]) ht1 (.tup [V.int (zy ns).length])
 refine ⟨p4,t1,_,_,rfl,rfl,gt1.sqT h4,Q1.of zd,uT (by show _+1<=5000; omega),fun p5 K5 g5 h5=>?_⟩
 have Gb:=Ga.trans (g4.trans (gt1.trans g5))
 refine ⟨_,rfl,_,rfl,_,_,rfl,rfl,_,rfl,ro,_,rfl,Gb.sqT hro9,fun p6 K6 g6 h6=>⟨p5,p6,_,_,rfl,rfl,g6.sqT h5,h6,uT (by rw [List.length_append]; show _+1+_<=5000; omega),fun p7 K7 g7 h7=>?_⟩⟩
 have Gc:=Gb.trans (g6.trans g7)
 refine ⟨_,rfl,JB rfl,fun t2 ht2=>?_⟩
 have gt2:=Grow.new (m:=[]) ht2 (.tup [V.int 0])
 refine ⟨ro,t2,_,_,rfl,rfl,(Gc.trans gt2).sqT hro9,Q1.of zd,uT (by show _+1<=5000; omega),fun p8 K8 g8 h8=>?_⟩
 have Gd:=Gc.trans (gt2.trans g8)
 refine ⟨JB rfl,fun t3 ht3=>⟨JB rfl,fun t4 ht4=>⟨JB rfl,fun l2 hl2=>?_⟩⟩⟩
 have gt3:=Grow.new (m:=[]) ht3 (.tup [])
 have gt4:=Grow.new (m:=[]) ht4 (.tup [V.ref t3])
 have gl2:=Grow.new (m:=[]) hl2 (.lst [V.ref p3,V.ref p7,V.non,V.ref p8,V.ref t4,V.str (Str.ofString "0")])
 have Ge:=Gd.trans (gt3.trans (gt4.trans gl2))
 have S10:=S9.grow (Ge.wk (m:=[p]))
 have sl:=S10.len
 refine ⟨l9,l2,_,_,rfl,rfl,S10.at_,zd,uT (by show _+6<=5000; omega),fun l3 hl3 nl3=>?_⟩
 have gl3:=Grow.new (m:=[]) hl3 (.lst (xs9 ++ [V.ref p3,V.ref p7,V.non,V.ref p8,V.ref t4,V.str (Str.ofString "0")]))
 have gz:=gt3.trans (gt4.trans (gl2.trans gl3))
 have Gf:=Ge.trans gl3
 refine q l3 _ _ (G9.trans Gf.wk) (pp9.grow Gf) zd (pn (pp9.grow Ge) hl3) nl3 (Tj (Zn S10.gd gl3.wk) (xp ?_ (xp ?_ (xp (JL.of_e JK.non (fun _ z=>nomatch z)) (xp ?_ (xp ?_ (xp (JL.of_e (JK.num (k:=0) (by decide)) (fun _ z=>nomatch z)) VJ))))))) (by rw [List.length_append]; show _+6<=30; omega)
 ·exact JL.tup ((g4.trans (gt1.trans (g5.trans (g6.trans (g7.trans (gt2.trans (g8.trans gz))))))).sqT h3) (by rw [List.length_append]; omega) (JN (XZ (vW oI) (vW oI)))
 ·refine JL.tup ((gt2.trans (g8.trans gz)).sqT h7) (by rw [List.length_append,List.length_append]; show _+1+_ < 64; omega) (X0 (X0 (JN (vW oI)) (Ti (JK.int ⟨by omega,by omega⟩))) (JN (vW oI)))
 ·exact JL.tup (gz.sqT h8) (by rw [List.length_append]; show _+1 < 64; omega) (X0 (JN oI) (Ti (JK.int (by decide))))
 ·exact JL.one ((gl2.trans gl3).sqT (Q1.of zd)) ((gt4.trans (gl2.trans gl3)).sqT (Q1.of zd)) (by decide) (fun _ h=>nomatch h)
theorem vk:FnScope ["_law_pot_here","_law_some_here","_law_places"] ["_law_pot_here","_law_some_here"] (zi (top 49)):=⟨rfl,rfl,rfl,by decide +kernel,rfl,by decide +kernel,by decide +kernel⟩
theorem sW (F:Fun K "_law_mixed" "_law_mixed" (top 49) f fd) (B:Blt mg) (qc0:zn P w K mg base n "_law_shuffled" ["_law_pot_here","_law_row"] (uH K))     :
  FnOk P w K mg base Jt (n+1) f fd ["_law_pot_here","_law_some_here"] (tM K):=by
 refine F.ok vk yf (fun cdv A outer s H vs Q E hr h=>?_)
 obtain ⟨x,y,rfl,p,l,xs,cs,rfl,rfl,pp,hl,lp,ha,h40,q⟩:=h
 refine ⟨_,(ze (zv (i:=2) vk.nd rfl (Or.inr rfl) (zg qc0 hr rfl (za (pv 0) (za (x4 rfl rfl B.list rfl B.range (za (zm zt rfl B.len yW (za (pv 1) zb)) zb)) zb)))) (zf (zr (zR (za (yk yJ rfl B.tuple yK (za (z6 (CSc.of (N':=["_law_j","_law_some_here"]) (sub:=[none,some 1]) (zi (top 49)) ["_law_pot_here","_law_some_here","_law_places"] rfl rfl (by decide +kernel) rfl) rfl (se (pv 2)) (fun _ _ _ _ _ _=>zj (i:=0) (show (["_law_j","_law_some_here"]:List Str).Nodup by decide +kernel) rfl (Or.inl rfl)) (fun _ _ _ _ _ _=>zX) (fun _ _ _ _ _ _=>(zF (j3 (K:=K) rfl) (pv 1) (pv 0) (fun _ _=>rfl)))) zb)) (za (yk jg rfl B.tuple yK (za (z6 (CSc.of (N':=["_law_j","_law_places"]) (sub:=[none,some 2]) (zi (top 49)) ["_law_pot_here","_law_some_here","_law_places"] rfl rfl (by decide +kernel) rfl) rfl (xb rfl B.range (za (zm zt rfl B.len yW (za (pv 1) zb)) zb)) (fun _ _ _ _ _ _=>zj (i:=0) (show (["_law_j","_law_places"]:List Str).Nodup by decide +kernel) rfl (Or.inl rfl)) (fun _ _ _ _ _ _=>zX) (fun _ _ _ _ _ _=>(UI (K:=K) rfl PySem.F.plainAttrs_list PySem.F.slot_list_index PySem.F.type_list_index (Ze (K:=K) rfl) (pv 1) (za (pv 0) zb)))) zb)) zb)))))),?_⟩
 have xl:=ha.len
 refine yh (fun v H'=>∃ (l2:Addr) (ms:List Nat),v = .ref l2 /\ ms.Perm (List.range cs.length) /\ H' l2=some (.lst (zy ms)) /\ l2 ≠ p /\ Grow [p] H H' /\ JA H' p) (fun Kk hk=>⟨_,rfl,_,rfl,l,_,rfl,.inl (Q0.of hl),xs.length,rfl,by omega,fun l1 hl1=>⟨_,_,rfl,p,zy (List.range xs.length),rfl,pp.grow (Grow.new hl1 _),⟨l1,rfl,.inl (Q0.of zd)⟩,by rw [zM,List.length_range]; omega,fun l2 zs H2 hz g2 pp2 _ l2p h2=>?_⟩⟩) ?_
 ·obtain ⟨ms,hp,rfl⟩:=uG hz
  exact hk _ _ ⟨l2,ms,rfl,by rw [← xl]; exact hp,h2,l2p,(Grow.new hl1 _).trans g2,pp2⟩
 rintro _ H1 ⟨l2,ms,rfl,hp,h2,l2p,g1,pp1⟩
 have ml:ms.length=cs.length:=by rw [hp.length_eq,List.length_range]
 have hlt:∀ k ∈ ms,k < cs.length:=fun k hk=>List.mem_range.mp (hp.mem_iff.mp hk)
 have hl1:=g1.keep _ _ (by simpa using lp) hl
 have ha1:=g1.callsR ha
 refine ⟨_,rfl,l2,rfl,⟨_,Q0.of h2⟩,tF (xs:=zy ms) (fun i ys H'=>H' = H1 /\ yP (yy K H1) ys ((ms.take i).map (cg cs)) /\ ys.length=i) ⟨rfl,trivial,rfl⟩ (fun i ys H' z=>by rw [z.1]; exact Q0.of h2) ?_ ?_⟩
 ·rintro i x ys H' hx ⟨rfl,hA,yl⟩
  obtain ⟨k,hki,rfl⟩:=yS hx
  have hi:=(List.getElem?_eq_some_iff.mp hki).1
  have hk':=hlt k (List.mem_of_getElem? hki)
  obtain ⟨z,hz,hc⟩:=ha1.getR (List.getElem?_eq_getElem hk')
  refine ⟨_,rfl,_,rfl,l,_,_,z,rfl,rfl,Q0.of hl1,zp hz,uS (by omega),rfl,?_,by rw [List.length_append,List.length_singleton,yl]⟩
  rw [List.take_succ,hki,List.map_append]
  refine hA.app ⟨?_,trivial⟩
  rw [yA (List.getElem?_eq_getElem hk')]; exact hc
 rintro ys H' ⟨rfl,hA,yl⟩ l3 hl3
 rw [zM,List.take_length] at hA
 refine ⟨l3,_,rfl,.inl ⟨Q0.of zd,fun t ht=>?_⟩⟩
 have g2:=(Grow.new (m:=[]) hl3 (.lst ys)).trans (Grow.new ht (.tup ys))
 have hc2:zx K (QP (QP H' l3 (.lst ys)) t (.tup ys)) (.ref t) (ms.map (cg cs)):=⟨t,ys,rfl,Q1.of zd,g2.callsR hA⟩
 generalize QP (QP H' l3 (.lst ys)) t (.tup ys)=H2 at g2 hc2 ⊢
 have h22:=g2.keep _ _ (by simp) h2
 have hl2:=g2.keep _ _ (by simp) hl1
 refine ⟨_,rfl,l,_,rfl,.inl (Q0.of hl2),_,rfl,by omega,by omega,v0 (fun i ys H'=>H' = H2 /\ ys=zy ((List.range i).map fun j=>ms.idxOf j)) ⟨rfl,rfl⟩ ?_ ?_⟩
 ·rintro i ys H' hi ⟨rfl,rfl⟩
  have hi':i < cs.length:=by omega
  have hm:i ∈ ms:=hp.mem_iff.mpr (List.mem_range.mpr hi')
  refine ⟨_,rfl,.inl ⟨rfl,_,Q0.of h22⟩,_,rfl,l2,ms,i,rfl,by rw [Int.zero_add],Q0.of h22,hm,by omega,uS (by rw [zM,List.length_map,List.length_range]; omega),rfl,?_⟩
  rw [List.range_succ,List.map_append,wV]; rfl
 ·rintro ys H' ⟨rfl,rfl⟩ l5 hl5
  have en:((xs.length:Nat):Int).toNat=cs.length:=by omega
  rw [en]
  refine ⟨l5,_,rfl,Q0.of zd,fun ro o hro oc od=>⟨JB rfl,fun r hr0=>?_⟩⟩
  have g5:=Grow.new (m:=[]) hl5 (.lst (zy ((List.range cs.length).map fun j=>ms.idxOf j)))
  have g6:=Grow.new (m:=[]) hro (.frz o (.tup (zy ((List.range cs.length).map fun j=>ms.idxOf j))))
  have g7:=Grow.new (m:=[]) hr0 (.tup [(.ref t),.ref ro])
  have G:=g5.trans (g6.trans g7)
  exact q ms r ro (.ref t) _ hp (g1.trans (g2.wk.trans G.wk)) ((pp1.grow g2).grow G) (Q1.of zd) (G.calls72 hc2) (g7.frT ⟨o,zd,oc,od⟩)
theorem u8:FnScope ["_law_pot_here","_law_wide"] ["_law_pot_here","_law_wide"] (zi (top 44)):=⟨rfl,rfl,rfl,by decide +kernel,rfl,by decide +kernel,by decide +kernel⟩
theorem u9 (F:Fun K "_law_number" "_law_number" (top 44) f fd) (B:Blt mg) (qc0:zn P w K mg base n "_law_take" ["_law_pot_here","_law_many"] (xZ K))     :
  FnOk P w K mg base Jt (n+1) f fd ["_law_pot_here","_law_wide"] (sy K):=by
 refine F.ok u8 yf (fun cdv A outer s H vs Q E hr h=>?_)
 obtain ⟨x,y,rfl,p,b,rfl,rfl,pp,q⟩:=h
 refine ⟨_,(ze (zQ (PW.pt (wK (z7 (pv 1)) (xP (zD xN (zg qc0 hr rfl (za (pv 0) (za zh zb))) zh (zA _))))) (zf (zr (zz xE (zz ue zh (zz xE zh (zg qc0 hr rfl (za (pv 0) (za zh zb))))) (zg qc0 hr rfl (za (pv 0) (za (zz YX zh zh) zb)))))) zu) (zf (zr (zz ue (zg qc0 hr rfl (za (pv 0) (za zh zb))) zh)))),?_⟩
 refine yM (fun b H'=>Grow [p] H H' /\ JA H' p) (fun Kk hk=>⟨_,rfl,_,rfl,?_⟩) ?_
 ·cases b with
  | false=>exact yD (hk _ _ ⟨Grow.refl _ _,pp⟩)
  | true=>exact xk ⟨_,rfl,_,_,rfl,p,3,rfl,rfl,pp,by decide,by decide,fun n H' n0 n1 g pp'=>⟨rfl,_,rfl,hk _ _ ⟨g,pp'⟩⟩⟩
 rintro b1 H1 ⟨g1,pp1⟩
 cases b1 with
 | true =>
  refine xk ⟨_,rfl,_,_,rfl,p,2,rfl,rfl,pp1,by decide,by decide,fun n H2 n0 n1 g2 pp2=>⟨_,_,rfl,rfl,tH ⟨by decide,by decide⟩,_,_,rfl,rfl,_,rfl,_,_,rfl,rfl,⟨by decide,by decide,by decide⟩,_,_,rfl,p,_,rfl,rfl,pp2,by decide,by decide,fun k H3 k0 k1 g3 pp3=>⟨_,_,rfl,rfl,tH ⟨by omega,by omega⟩,?_⟩⟩⟩
  refine q _ _ ?_ (g1.trans (g2.trans g3)) pp3
  have k1':k < 10 ^ 27:=k1
  have:n=0 \/ n=1:=by omega
  unfold JJ
  rcases this with rfl | rfl <;> omega
 | false =>
  refine yD (yp ⟨_,rfl,_,_,rfl,p,7,rfl,rfl,pp1,by decide,by decide,fun n H2 n0 n1 g2 pp2=>⟨_,_,rfl,rfl,q _ _ ?_ (g1.trans g2) pp2⟩⟩)
  unfold JJ; omega
theorem xv:FnScope ["_law_pot_here","_law_wide","_law_add","_law_choice","_law_low"] ["_law_pot_here","_law_wide"] (zi (top 45)):=⟨rfl,rfl,rfl,by decide +kernel,rfl,by decide +kernel,by decide +kernel⟩
theorem qP (F:Fun K "_law_deed" "_law_deed" (top 45) f fd) (B:Blt mg) (qc0:zn P w K mg base n "_law_take" ["_law_pot_here","_law_many"] (xZ K)) (qc1:zn P w K mg base n "_law_number" ["_law_pot_here","_law_wide"] (sy K))     :
  FnOk P w K mg base Jt (n+1) f fd ["_law_pot_here","_law_wide"] (rV K):=by
 refine F.ok xv yf (fun cdv A outer s H vs Q E hr h=>?_)
 obtain ⟨x,y,rfl,p,b,rfl,rfl,pp,q⟩:=h
 refine ⟨_,(ze (zv (i:=2) xv.nd rfl (Or.inl rfl) (zg qc1 hr rfl (za (pv 0) (za (pv 1) zb)))) (ze (zv (i:=3) xv.nd rfl (Or.inl rfl) (zg qc0 hr rfl (za (pv 0) (za zh zb)))) (ze (zQ (zD sg (pv 3) zh (zA _)) (zf (zr (zF zW (yI (za (zR (za zh (za wJ (za wJ zb)))) (za (zR (za (pv 2) (za wJ (za wJ zb)))) zb))) (pv 3) (fun _ _=>rfl)))) zu) (ze (zv (i:=4) xv.nd rfl (Or.inl rfl) (zg qc1 hr rfl (za (pv 0) (za (pv 1) zb)))) (ze (zQ (zD xN (pv 3) zh (zA _)) (zf (zr (zR (za zh (za (pv 4) (za (pv 4) zb)))))) zu) (ze (zQ (zD sg (pv 3) zh (zA _)) (zf (zr (zF zW (yI (za (zR (za (pv 2) (za (pv 4) (za wJ zb)))) (za (zR (za (pv 2) (za wJ (za (pv 4) zb)))) zb))) (zz ue (pv 3) zh) (fun _ _=>rfl)))) zu) (zf (zr (zR (za (pv 2) (za (pv 4) (za (zz z9 (zz z9 (pv 4) zh) (zg qc0 hr rfl (za (pv 0) (za zh zb)))) zb)))))))))))),?_⟩
 have Bd3:∀ {ad:Int} {lo hi:Option Int},JJ ad->(∀ l,lo=some l->JJ l)->(∀ u,hi=some u -> -(10 ^ 27)<=u /\ u<=10 ^ 27+6)->(⟨ad,lo,hi⟩:Deed).Bd (10 ^ 27+6):=fun {ad lo hi} h1 h2 h3=>by
  refine ⟨?_,fun l hl=>?_,fun u hu=>?_⟩
  ·have:=h1.1; have:=h1.2; show -(10 ^ 27+6)<=ad /\ ad<=10 ^ 27+6; omega
  ·have:=(h2 l hl).1; have:=(h2 l hl).2; exact ⟨by omega,by omega⟩
  ·have:=h3 u hu; exact ⟨by omega,by omega⟩
 have n27:JJ 0:=⟨by decide,by decide⟩
 refine yh (fun v H'=>∃ ad:Int,v = .int ad /\ JJ ad /\ Grow [p] H H' /\ JA H' p) (fun Kk hk=>⟨_,rfl,_,rfl,_,_,rfl,p,b,rfl,rfl,pp,fun n H' hn g pp'=>hk _ _ ⟨n,rfl,hn,g,pp'⟩⟩) ?_
 rintro _ H1 ⟨ad,rfl,had,g1,pp1⟩
 refine yh (fun v H'=>∃ k:Int,v = .int k /\ 0<=k /\ k < 6 /\ Grow [p] H1 H' /\ JA H' p) (fun Kk hk=>⟨_,rfl,_,_,rfl,p,6,rfl,rfl,pp1,by decide,by decide,fun n H' n0 n1 g pp'=>hk _ _ ⟨n,rfl,n0,n1,g,pp'⟩⟩) ?_
 rintro _ H2 ⟨k,rfl,k0,k6,g2,pp2⟩
 have G2:=g1.trans g2
 refine ⟨_,rfl,_,_,rfl,rfl,_,rfl,?_⟩
 by_cases hk2:k < 2
 ·refine yT (decide_eq_true hk2) ⟨JB rfl,fun t1 ht1=>⟨_,rfl,JB rfl,fun t2 ht2=>⟨JB rfl,fun l hl=>?_⟩⟩⟩
  have gl:=(Grow.new (m:=[]) ht1 (.tup [.int 0,.non,.non])).trans ((Grow.new ht2 (.tup [.int ad,.non,.non])).trans (Grow.new hl (.lst [.ref t1,.ref t2])))
  have s1:Q1 K (QP (QP (QP H2 t1 (.tup [.int 0,.non,.non])) t2 (.tup [.int ad,.non,.non])) l (.lst [.ref t1,.ref t2])) t1 (⟨0,none,none⟩:Deed).vs:=((Grow.new (m:=[]) ht2 _).trans (Grow.new hl _)).sqT (Q1.of zd)
  have s2:Q1 K (QP (QP (QP H2 t1 (.tup [.int 0,.non,.non])) t2 (.tup [.int ad,.non,.non])) l (.lst [.ref t1,.ref t2])) t2 (⟨ad,none,none⟩:Deed).vs:=(Grow.new (m:=[]) hl _).sqT (Q1.of zd)
  have:k=0 \/ k=1:=by omega
  rcases this with rfl | rfl
  ·exact ⟨_,rfl,l,_,0,_,rfl,rfl,Q0.of zd,zp (j:=0) rfl,q ⟨0,none,none⟩ _ _ (fun _ _ z=>nomatch z) (Bd3 n27 (fun _ z=>nomatch z) fun _ z=>nomatch z) (G2.trans gl.wk) (pp2.grow gl) ⟨t1,rfl,s1⟩⟩
  ·exact ⟨_,rfl,l,_,1,_,rfl,rfl,Q0.of zd,zp (j:=1) rfl,q ⟨ad,none,none⟩ _ _ (fun _ _ z=>nomatch z) (Bd3 had (fun _ z=>nomatch z) fun _ z=>nomatch z) (G2.trans gl.wk) (pp2.grow gl) ⟨t2,rfl,s2⟩⟩
 refine yY (decide_eq_false hk2) (yp ?_)
 refine yh (fun v H'=>∃ lo:Int,v = .int lo /\ JJ lo /\ Grow [p] H2 H' /\ JA H' p) (fun Kk hk=>⟨_,rfl,_,rfl,_,_,rfl,p,b,rfl,rfl,pp2,fun n H' hn g pp'=>hk _ _ ⟨n,rfl,hn,g,pp'⟩⟩) ?_
 rintro _ H3 ⟨lo,rfl,hlo,g3,pp3⟩
 have G3:=G2.trans g3
 have lo6:-(10 ^ 27)<=lo /\ lo<=10 ^ 27+6:=by have:=hlo.1; have:=hlo.2; omega
 refine ⟨_,rfl,rfl,_,rfl,?_⟩
 by_cases hk3:k=2
 ·refine yT (decide_eq_true (congrArg V.int hk3)) ⟨_,rfl,_,rfl,JB rfl,fun t ht=>q ⟨0,some lo,some lo⟩ _ _ (fun l u h1 h2=>.inr ⟨by cases h1; cases h2; rfl,rfl⟩) (Bd3 n27 (fun l z=>by cases z; exact hlo) fun u z=>by cases z; exact lo6) (G3.trans (Grow.new ht _)) (pp3.grow (Grow.new ht _)) ⟨t,rfl,Q1.of zd⟩⟩
 refine yY (decide_eq_false fun z=>hk3 (V.int.inj z)) (yp ?_)
 refine ⟨_,rfl,_,_,rfl,rfl,_,rfl,?_⟩
 by_cases hk5:k < 5
 ·refine yT (decide_eq_true hk5) ⟨_,rfl,_,rfl,JB rfl,fun t1 ht1=>⟨_,rfl,_,rfl,JB rfl,fun t2 ht2=>⟨JB rfl,fun l hl=>?_⟩⟩⟩
  have gl:=(Grow.new (m:=[]) ht1 (.tup [.int ad,.int lo,.non])).trans ((Grow.new ht2 (.tup [.int ad,.non,.int lo])).trans (Grow.new hl (.lst [.ref t1,.ref t2])))
  have s1:Q1 K (QP (QP (QP H3 t1 (.tup [.int ad,.int lo,.non])) t2 (.tup [.int ad,.non,.int lo])) l (.lst [.ref t1,.ref t2])) t1 (⟨ad,some lo,none⟩:Deed).vs:=((Grow.new (m:=[]) ht2 _).trans (Grow.new hl _)).sqT (Q1.of zd)
  have s2:Q1 K (QP (QP (QP H3 t1 (.tup [.int ad,.int lo,.non])) t2 (.tup [.int ad,.non,.int lo])) l (.lst [.ref t1,.ref t2])) t2 (⟨ad,none,some lo⟩:Deed).vs:=(Grow.new (m:=[]) hl _).sqT (Q1.of zd)
  have:k=3 \/ k=4:=by omega
  rcases this with rfl | rfl
  ·exact ⟨_,rfl,_,_,rfl,rfl,l,_,0,_,rfl,rfl,Q0.of zd,zp (j:=0) rfl,q ⟨ad,some lo,none⟩ _ _ (fun _ _ _ z=>nomatch z) (Bd3 had (fun l z=>by cases z; exact hlo) fun _ z=>nomatch z) (G3.trans gl.wk) (pp3.grow gl) ⟨t1,rfl,s1⟩⟩
  ·exact ⟨_,rfl,_,_,rfl,rfl,l,_,1,_,rfl,rfl,Q0.of zd,zp (j:=1) rfl,q ⟨ad,none,some lo⟩ _ _ (fun _ _ z=>nomatch z) (Bd3 had (fun _ z=>nomatch z) fun u z=>by cases z; exact lo6) (G3.trans gl.wk) (pp3.grow gl) ⟨t2,rfl,s2⟩⟩
 refine yY (decide_eq_false hk5) (yp ?_)
 refine ⟨_,rfl,_,rfl,_,rfl,_,_,rfl,rfl,_,rfl,_,_,rfl,p,5,rfl,rfl,pp3,by decide,by decide,fun n H4 n0 n1 g4 pp4=>⟨_,_,rfl,rfl,JB rfl,fun t ht=>?_⟩⟩
 refine q ⟨ad,some lo,some (lo+1+n)⟩ _ _ (fun l u h1 h2=>.inl (by cases h1; cases h2; omega)) (Bd3 had (fun l z=>by cases z; exact hlo) fun u z=>?_) (G3.trans (g4.trans (Grow.new ht _))) (pp4.grow (Grow.new ht _)) ⟨t,rfl,Q1.of zd⟩
 cases z
 have:=hlo.1; have:=hlo.2
 omega
theorem xI:FnScope ["_law_pot_here","_law_is_long","_law_boxes"] ["_law_pot_here"] (zi (top 47)):=⟨rfl,rfl,rfl,by decide +kernel,rfl,by decide +kernel,by decide +kernel⟩
theorem sX (F:Fun K "_law_sizes" "_law_sizes" (top 47) f fd) (B:Blt mg) (qc0:zn P w K mg base n "_law_take" ["_law_pot_here","_law_many"] (xZ K))     :
  FnOk P w K mg base Jt (n+1) f fd ["_law_pot_here"] (tY K):=by
 refine F.ok xI yX (fun cdv A outer s H vs Q E hr h=>?_)
 obtain ⟨x,rfl,p,rfl,pp,q⟩:=h
 refine ⟨_,(ze (zv (i:=1) xI.nd rfl (Or.inl rfl) (yu xN (zg qc0 hr rfl (za (pv 0) (za zh zb))) zh (zA _))) (ze (zv (i:=2) xI.nd rfl (Or.inl rfl) (zF zW (yI (za (zz z9 zh (zg qc0 hr rfl (za (pv 0) (za zh zb)))) (za (zz z9 zh (zg qc0 hr rfl (za (pv 0) (za zh zb)))) zb))) (zg qc0 hr rfl (za (pv 0) (za zh zb))) (fun _ _=>rfl))) (ze (zQ (z7 (pv 1)) (zf (zr (zR (za (zm (xT rfl) rfl B.max ZU (za zh (za (pv 2) zb))) (za (zz z9 zh (zg qc0 hr rfl (za (pv 0) (za zh zb)))) zb))))) zu) (zf (zr (zR (za (pv 2) (za (zm (ra rfl) rfl B.min Sh (za (zz xE zh (pv 2)) (za (zz z9 (zg qc0 hr rfl (za (pv 0) (za zh zb))) (zz xE zh (zz sj (zg qc0 hr rfl (za (pv 0) (za zh zb))) zh))) zb))) zb)))))))),?_⟩
 refine yh (fun v H'=>∃ c:Bool,v = .bl c /\ Grow [p] H H' /\ JA H' p) (fun Kk hk=>⟨_,rfl,_,_,rfl,p,8,rfl,rfl,pp,by decide,by decide,fun t H1 t0 t1 g1 pp1=>⟨rfl,hk _ _ ⟨_,rfl,g1,pp1⟩⟩⟩) ?_
 rintro _ H1 ⟨c,rfl,g1,pp1⟩
 refine yh (fun v H'=>∃ n:Nat,v = .int n /\ 1<=n /\ n<=16 /\ Grow [p] H1 H' /\ JA H' p) (fun Kk hk=>⟨_,rfl,_,_,rfl,p,4,rfl,rfl,pp1,by decide,by decide,fun t H2 t0 t1 g2 pp2=>⟨_,_,rfl,rfl,_,rfl,_,_,rfl,p,16,rfl,rfl,pp2,by decide,by decide,fun u H3 u0 u1 g3 pp3=>⟨_,_,rfl,rfl,JB rfl,fun l hl=>⟨_,rfl,_,_,rfl,p,2,rfl,rfl,pp3.grow (Grow.new hl _),by decide,by decide,fun k H5 k0 k1 g5 pp5=>?_⟩⟩⟩⟩) ?_
 ·have nlp:=y8 pp3 hl
  have hl':=g5.keep _ _ nlp (zd (H:=H3) (a:=l) (o:=.lst [V.int (1+t),V.int (1+u)]))
  have G:=g2.trans (g3.trans ((Grow.new (m:=[p]) hl (.lst [V.int (1+t),V.int (1+u)])).trans g5))
  have:k=0 \/ k=1:=by omega
  rcases this with rfl | rfl
  ·exact ⟨l,_,_,_,rfl,rfl,Q0.of hl',zp (j:=0) rfl,hk _ _ ⟨(1+t).toNat,congrArg V.int (by omega),by omega,by omega,G,pp5⟩⟩
  ·exact ⟨l,_,_,_,rfl,rfl,Q0.of hl',zp (j:=1) rfl,hk _ _ ⟨(1+u).toNat,congrArg V.int (by omega),by omega,by omega,G,pp5⟩⟩
 rintro _ H2 ⟨n,rfl,n1,n16,g2,pp2⟩
 have G2:=g1.trans g2
 refine yM (fun b H'=>b=c /\ H' = H2) (fun Kk hk=>⟨_,rfl,_,rfl,hk _ _ ⟨rfl,rfl⟩⟩) ?_
 rintro cb H3 ⟨ecb,eH⟩
 subst eH
 rw [ecb]
 clear ecb
 have mk:∀ {N M:Int} {r:Addr} {H':Hp},Q1 K H' r [.int N,.int M]->1<=N->N<=16->0<=M->M<=8 * N->M<=40->Grow [p] H H' -> JA H' p->Q (.ref r) H':=fun {N M r H'} h n1 n16 m0 m8 m40 g pp=>by
  refine q N.toNat M.toNat r H' (by omega) (by omega) (by omega) (by omega) g pp ?_
  rw [Int.toNat_of_nonneg (by omega),Int.toNat_of_nonneg m0]
  exact h
 cases c with
 | true =>
  refine xk ⟨_,rfl,_,_,rfl,_,rfl,_,_,rfl,p,30,rfl,rfl,pp2,by decide,by decide,fun t H3 t0 t1 g3 pp3=>⟨_,_,rfl,rfl,JB rfl,fun r hr=>?_⟩⟩
  have gr:=Grow.new (m:=[]) hr (.tup [V.int (if (n:Int) > 5 then (n:Int) else 5),V.int (11+t)])
  refine mk (Q1.of zd) ?_ ?_ ?_ ?_ ?_ (G2.trans (g3.trans gr.wk)) (pp3.grow gr)
  ·split <;> omega
  ·split <;> omega
  ·omega
  ·split <;> omega
  ·omega
 | false =>
  refine yD (yp ?_)
  refine ⟨_,rfl,_,rfl,_,_,rfl,rfl,tH ⟨by decide,by decide⟩,_,rfl,_,_,rfl,p,9,rfl,rfl,pp2,by decide,by decide,fun t H3 t0 t1 g3 pp3=>⟨_,rfl,_,_,rfl,p,8,rfl,rfl,pp3,by decide,by decide,fun u H4 u0 u1 g4 pp4=>⟨_,_,rfl,rfl,?_,_,_,rfl,rfl,tH ⟨by decide,by decide⟩,_,_,rfl,rfl,_,_,rfl,JB rfl,fun r hr=>?_⟩⟩⟩
  ·exact ⟨by decide,by decide⟩
  have gr:=Grow.new (m:=[]) hr (.tup [V.int n,V.int (if t+2 * (u / 7) < 8 * (n:Int) then t+2 * (u / 7) else 8 * (n:Int))])
  have u7:u / 7<=1 /\ 0<=u / 7:=by omega
  refine mk (Q1.of zd) (by omega) (by omega) ?_ ?_ ?_ (G2.trans (g3.trans (g4.trans gr.wk))) (pp4.grow gr)
  ·split <;> omega
  ·split <;> omega
  ·split <;> omega
theorem zG:FnScope ["_law_pot_here","_law_wide","_law_boxes","_law_many","_law_board","_law_hands","_law_values","_law_rooms","_law_clocks","_law_found_here","_law_k","_law_hand","_law_box","_law_deed_here"] ["_law_pot_here"] (zi (top 48)):=⟨rfl,rfl,rfl,by decide +kernel,rfl,by decide +kernel,by decide +kernel⟩
theorem qQ (F:Fun K "_law_some" "_law_some" (top 48) f fd) (B:Blt mg) (qc0:zn P w K mg base n "_law_done" ["_law_deed_here","_law_value"] (vp K)) (qc1:zn P w K mg base n "_law_take" ["_law_pot_here","_law_many"] (xZ K)) (qc2:zn P w K mg base n "_law_deed" ["_law_pot_here","_law_wide"] (rV K)) (qc3:zn P w K mg base n "_law_number" ["_law_pot_here","_law_wide"] (sy K)) (qc4:zn P w K mg base n "_law_sizes" ["_law_pot_here"] (tY K))     :
  FnOk P w K mg base Jt (n+1) f fd ["_law_pot_here"] (qE K):=by
 refine F.ok zG yX (fun cdv A outer s H vs Q E hr h=>?_)
 obtain ⟨x,rfl,p,rfl,pp,q⟩:=h
 refine ⟨_,(ze (zv (i:=1) zG.nd rfl (Or.inr rfl) (yu xN (zg qc1 hr rfl (za (pv 0) (za zh zb))) zh (zA _))) (ze (yQ (zg qc4 hr rfl (za (pv 0) zb)) (yH rfl (zo (zj (i:=2) zG.nd rfl (Or.inl rfl)) (zo (zj (i:=3) zG.nd rfl (Or.inl rfl)) z8)))) (ze (zv (i:=4) zG.nd rfl (Or.inl rfl) (yk yJ rfl B.tuple yK (za (z6 (CSc.of (N':=["_law_box","_law_pot_here","_law_wide"]) (sub:=[none,some 0,some 1]) (zi (top 48)) ["_law_pot_here","_law_wide","_law_boxes","_law_many","_law_board","_law_hands","_law_values","_law_rooms","_law_clocks","_law_found_here","_law_k","_law_hand","_law_box","_law_deed_here"] rfl rfl (by decide +kernel) rfl) rfl (xb rfl B.range (za (pv 2) zb)) (fun _ _ _ _ _ _=>zj (i:=0) (show (["_law_box","_law_pot_here","_law_wide"]:List Str).Nodup by decide +kernel) rfl (Or.inl rfl)) (fun _ _ _ _ _ _=>zX) (fun _ _ _ _ _ _=>(zg qc3 hr rfl (za (pv 1) (za (pv 2) zb))))) zb))) (ze (zv (i:=5) zG.nd rfl (Or.inl rfl) (zF zW (yI (za (zz z9 zh (zg qc1 hr rfl (za (pv 0) (za zh zb)))) (za zh zb))) (zg qc1 hr rfl (za (pv 0) (za zh zb))) (fun _ _=>rfl))) (ze (zv (i:=6) zG.nd rfl (Or.inl rfl) (yk xV rfl B.list tq (za (pv 4) zb))) (ze (zv (i:=7) zG.nd rfl (Or.inl rfl) (zz Sg (yI (za zh zb)) (pv 2))) (ze (su (i:=8) zG.nd rfl rfl (CSc.of (N':=["_law_hand","_law_pot_here"]) (sub:=[none,some 0]) (zi (top 48)) ["_law_pot_here","_law_wide","_law_boxes","_law_many","_law_board","_law_hands","_law_values","_law_rooms","_law_clocks","_law_found_here","_law_k","_law_hand","_law_box","_law_deed_here"] rfl rfl (by decide +kernel) rfl) rfl (xb rfl B.range (za zh zb)) (fun _ _ _ _ _ _=>zj (i:=0) (show (["_law_hand","_law_pot_here"]:List Str).Nodup by decide +kernel) rfl (Or.inl rfl)) (fun _ _ _ _ _ _=>zX) (fun _ _ _ _ _ _=>(zg qc1 hr rfl (za (pv 1) (za zh zb))))) (ze (zv (i:=9) zG.nd rfl (Or.inl rfl) (yI zb)) (ze (xy PassesOwn.never rfl (xb rfl B.range (za (pv 3) zb)) (zj (i:=10) zG.nd rfl (Or.inl rfl)) (ze (jS (i:=11) (j:=12) rfl zG.nd rfl rfl (by decide) rfl rfl (za (zg qc1 hr rfl (za (pv 0) (za (pv 5) zb))) (za (zg qc1 hr rfl (za (pv 0) (za (pv 2) zb))) zb)) rfl) (ze (zQ (zD xN (zF zW (pv 7) (pv 12) (fun _ _=>rfl)) zh (zA _)) (zf (zv (i:=12) zG.nd rfl (Or.inl rfl) (Vm PySem.F.plainAttrs_list PySem.F.slot_list_index PySem.F.type_list_index (Ze (K:=K) rfl) (pv 7) (za (zm (Xm rfl) rfl B.max ZU (za (pv 7) zb)) zb)))) zu) (ze (yQ (zz ue (zF zW (pv 7) (pv 12) (fun _ _=>rfl)) zh) (tf (pv 7) (pv 12) wf)) (ze (zv (i:=13) zG.nd rfl (Or.inl rfl) (zg qc2 hr rfl (za (pv 0) (za (pv 1) zb)))) (ze (vn (Vm PySem.F.plainAttrs_list PySem.F.slot_list_append PySem.F.type_list_append rC (pv 9) (za (zR (za (pv 11) (za (pv 12) (za (pv 13) (za (zF zW (pv 8) (pv 11) (fun _ _=>rfl)) (za (zz z9 (zF zW (pv 8) (pv 11) (fun _ _=>rfl)) (zg qc1 hr rfl (za (pv 0) (za zh zb)))) (za (zF zW (pv 6) (pv 12) (fun _ _=>rfl)) zb))))))) zb))) (ze (yQ (zz z9 (zz z9 (zF zW (pv 8) (pv 11) (fun _ _=>rfl)) zh) (zg qc1 hr rfl (za (pv 0) (za zh zb)))) (tf (pv 8) (pv 11) wf)) (zf (yQ (zg qc0 hr rfl (za (pv 13) (za (zF zW (pv 6) (pv 12) (fun _ _=>rfl)) zb))) (tf (pv 6) (pv 12) wf)))))))))) (zf (zr (zR (za (pv 4) (za (pv 9) zb)))))))))))))),?_⟩
 refine yh (fun v H'=>∃ w:Bool,v = .bl w /\ Grow [p] H H' /\ JA H' p) (fun Kk hk=>⟨_,rfl,_,_,rfl,p,2,rfl,rfl,pp,by decide,by decide,fun t H1 t0 t1 g1 pp1=>⟨rfl,hk _ _ ⟨_,rfl,g1,pp1⟩⟩⟩) ?_
 rintro _ Ha ⟨w,rfl,ga,ppa⟩
 refine ⟨_,rfl,_,rfl,p,rfl,ppa,fun n m r0 Hb n1 n16 m8 m40 gb ppb hr0=>⟨r0,_,rfl,hr0,rfl,_,_,rfl,_,_,rfl,rfl,?_⟩⟩
 try dsimp only
 have Gb:=ga.trans gb
 refine yh (fun v H'=>∃ (rb:Addr) (b:List Int),v = .ref rb /\ Q1 K H' rb (b.map V.int) /\ b.length=n /\ (∀ v ∈ b,JJ v) /\ Grow [p] H H' /\ JA H' p) (fun Kk hk=>⟨_,rfl,_,rfl,by omega,by omega,v0 (fun i ys H'=>∃ b:List Int,ys=b.map V.int /\ b.length=i /\ (∀ v ∈ b,JJ v) /\ Grow [p] H H' /\ JA H' p) ⟨[],rfl,rfl,(fun _ h=>nomatch h),Gb,ppb⟩ ?_ ?_⟩) ?_
 ·rintro i ys H' hi ⟨b,rfl,bl,bb,g,pp'⟩
  refine ⟨_,rfl,_,rfl,_,_,rfl,p,w,rfl,rfl,pp',fun k H2 hk g2 pp2=>⟨uS (by rw [List.length_map]; omega),b ++ [k],by rw [List.map_append]; rfl,by rw [List.length_append,List.length_singleton,bl],fun v hv=>?_,g.trans g2,pp2⟩⟩
  rcases List.mem_append.mp hv with hv | hv
  ·exact bb v hv
  ·rw [List.mem_singleton.mp hv]; exact hk
 ·rintro ys H' ⟨b,rfl,bl,bb,g,pp'⟩ l hl
  exact ⟨l,_,rfl,.inl ⟨Q0.of zd,fun t ht=>hk _ _ ⟨t,b,rfl,Q1.of zd,by rw [bl]; omega,bb,g.trans ((Grow.new hl _).trans (Grow.new ht _)),pp'.grow ((Grow.new hl _).trans (Grow.new ht _))⟩⟩⟩
 rintro _ H1 ⟨rb,b,rfl,hb1,bl,bb,g1,pp1⟩
 refine yh (fun v H'=>∃ hn:Nat,v = .int hn /\ 1<=hn /\ hn<=16 /\ Grow [p] H1 H' /\ JA H' p) (fun Kk hk=>⟨_,rfl,_,_,rfl,p,4,rfl,rfl,pp1,by decide,by decide,fun t H2 t0 t1 g2 pp2=>⟨_,_,rfl,rfl,JB rfl,fun l hl=>⟨_,rfl,_,_,rfl,p,2,rfl,rfl,pp2.grow (Grow.new hl _),by decide,by decide,fun k H5 k0 k1 g5 pp5=>?_⟩⟩⟩) ?_
 ·have nlp:=y8 pp2 hl
  have hl':=g5.keep _ _ nlp (zd (H:=H2) (a:=l) (o:=.lst [V.int (1+t),V.int 16]))
  have G:=g2.trans ((Grow.new (m:=[p]) hl (.lst [V.int (1+t),V.int 16])).trans g5)
  have:k=0 \/ k=1:=by omega
  rcases this with rfl | rfl
  ·exact ⟨l,_,_,_,rfl,rfl,Q0.of hl',zp (j:=0) rfl,hk _ _ ⟨(1+t).toNat,congrArg V.int (by omega),by omega,by omega,G,pp5⟩⟩
  ·exact ⟨l,_,_,_,rfl,rfl,Q0.of hl',zp (j:=1) rfl,hk _ _ ⟨16,rfl,by decide,by decide,G,pp5⟩⟩
 rintro _ H1' ⟨hn,rfl,hn1,hn16,g1',pp1'⟩
 have hb1':=g1'.sqT hb1
 have G1':=g1.trans g1'
 clear hb1 g1 pp1 Gb ga gb ppa ppb hr0
 refine yh (fun v H'=>∃ rv,v = .ref rv /\ H1' rv=none /\ H' = QP H1' rv (.lst (b.map V.int))) (fun Kk hk=>⟨_,rfl,rb,_,rfl,.inr hb1',fun rv hv=>hk _ _ ⟨rv,rfl,hv,rfl⟩⟩) ?_
 rintro _ _ ⟨rv,rfl,nv,rfl⟩
 refine yh (fun v H'=>∃ rr,v = .ref rr /\ H' rr=some (.lst (zy (List.replicate n 8))) /\ QP H1' rv (.lst (b.map V.int)) rr=none /\ Grow [] (QP H1' rv (.lst (b.map V.int))) H') (fun Kk hk=>⟨JB rfl,fun l hl=>⟨_,rfl,l,_,_,rfl,rfl,zd,by omega,by omega,uT (by show 1 * _<=_; omega),fun rr hrr=>hk _ _ ⟨rr,rfl,?_,(Grow.new (m:=[]) hl _).free (by simp) hrr,(Grow.new hl _).trans (Grow.new hrr _)⟩⟩⟩) ?_
 ·rw [zd,Int.toNat_natCast,VH]
 rintro _ H2 ⟨rr,rfl,hr2,nr,g2⟩
 have hv2:H2 rv=some (.lst (b.map V.int)):=g2.keep _ _ (by simp) zd
 have gv:=Grow.new (m:=[]) nv (.lst (b.map V.int))
 have pp2:JA H2 p:=(pp1'.grow gv).grow g2
 have nvp:=y8 pp1' nv
 have nrp:=y8 (pp1'.grow gv) nr
 have nrv:rr ≠ rv:=fun z=>by rw [z,zd] at nr; cases nr
 refine yh (fun v H'=>∃ (rk:Addr) (ck:List Int) (Hk:Hp),v = .ref rk /\ Hk rk=none /\ H' rk=some (.lst (ck.map V.int)) /\ ck.length=16 /\ (∀ v ∈ ck,0<=v /\ v<=5) /\ Grow [p] H2 Hk /\ JA Hk p /\ H' = QP Hk rk (.lst (ck.map V.int))) (fun Kk hk=>⟨_,rfl,by decide,by decide,v0 (fun i ys H'=>∃ ck:List Int,ys=ck.map V.int /\ ck.length=i /\ (∀ v ∈ ck,0<=v /\ v<=5) /\ Grow [p] H2 H' /\ JA H' p) ⟨[],rfl,rfl,(fun _ h=>nomatch h),Grow.refl _ _,pp2⟩ ?_ ?_⟩) ?_
 ·rintro i ys H' hi ⟨ck,rfl,kl,kb,g,pp'⟩
  have i16:i < 16:=hi
  refine ⟨_,rfl,_,_,rfl,p,6,rfl,rfl,pp',by decide,by decide,fun k H3 k0 k1 g3 pp3=>⟨uS (by rw [List.length_map]; omega),ck ++ [k],by rw [List.map_append]; rfl,by rw [List.length_append,List.length_singleton,kl],fun v hv=>?_,g.trans g3,pp3⟩⟩
  rcases List.mem_append.mp hv with hv | hv
  ·exact kb v hv
  ·rw [List.mem_singleton.mp hv]; omega
 ·rintro ys H' ⟨ck,rfl,kl,kb,g,pp'⟩ l hl
  exact hk _ _ ⟨l,ck,H',rfl,hl,zd,kl,kb,g,pp',rfl⟩
 rintro _ _ ⟨rk,ck0,Hk,rfl,nk,hk3',kl0,kb0,gk,ppk,rfl⟩
 have gkn:=Grow.new (m:=[]) nk (.lst (ck0.map V.int))
 have nkp:=y8 ppk nk
 have pp3:=ppk.grow gkn
 have hvk:=gk.keep _ _ nvp hv2
 have hrk:=gk.keep _ _ nrp hr2
 have nkv:rk ≠ rv:=fun z=>by rw [z,hvk] at nk; cases nk
 have nkr:rk ≠ rr:=fun z=>by rw [z,hrk] at nk; cases nk
 have hv3:=gkn.keep _ _ (by simp) hvk
 have hr3:=gkn.keep _ _ (by simp) hrk
 have G3:Grow [p] H (QP Hk rk (.lst (ck0.map V.int))):=G1'.trans (gv.wk.trans (g2.wk.trans (gk.trans gkn.wk)))
 have hb3:=(gv.trans g2).sqT hb1'
 have hb3':=gkn.sqT (gk.sqT hb3)
 have fk:H rk=none:=(G1'.trans (gv.wk.trans (g2.wk.trans gk))).free nkp nk
 have fv:H rv=none:=G1'.free nvp nv
 have fr:H rr=none:=G1'.free nrp (gv.free (by simp) nr)
 generalize QP Hk rk (.lst (ck0.map V.int))=H3 at hk3' pp3 hv3 hr3 G3 hb3' ⊢
 clear hrk hvk gkn gk nk ppk hb3 hr2 hv2 g2 gv
 refine ⟨JB rfl,fun rf nf=>?_⟩
 have nfp:=y8 pp3 nf
 have nfv:rf ≠ rv:=fun z=>by rw [z,hv3] at nf; cases nf
 have nfr:rf ≠ rr:=fun z=>by rw [z,hr3] at nf; cases nf
 have nfk:rf ≠ rk:=fun z=>by rw [z,hk3'] at nf; cases nf
 have g4:=Grow.new (m:=[p]) nf (.lst [])
 have G4:Grow [p] H (QP H3 rf (.lst [])):=G3.trans g4
 have hv4:=g4.keep _ _ nvp hv3
 have hr4:=g4.keep _ _ nrp hr3
 have hk4:=g4.keep _ _ nkp hk3'
 have pp4:=pp3.grow (Grow.new nf (.lst []))
 have hf4:QP H3 rf (.lst []) rf=some (.lst []):=zd
 have hb4':=g4.sqT hb3'
 have ff:H rf=none:=G3.free nfp nf
 have mfree:∀ a ∈ [p,rv,rr,rf,rk],a ∈ [p] \/ H a=none:=fun a ha=>by
  rcases List.mem_cons.mp ha with rfl | ha
  ·exact .inl (by simp)
  rcases List.mem_cons.mp ha with rfl | ha
  ·exact .inr fv
  rcases List.mem_cons.mp ha with rfl | ha
  ·exact .inr fr
  rcases List.mem_cons.mp ha with rfl | ha
  ·exact .inr ff
  rw [List.mem_singleton.mp ha]; exact .inr fk
 have npv:p ≠ rv:=fun z=>nvp (by rw [z]; simp)
 have npr:p ≠ rr:=fun z=>nrp (by rw [z]; simp)
 have npf:p ≠ rf:=fun z=>nfp (by rw [z]; simp)
 have npk:p ≠ rk:=fun z=>nkp (by rw [z]; simp)
 have sub:∀ a ∈ [p],a ∈ [p,rv,rr,rf,rk]:=fun a h=>by rw [List.mem_singleton.mp h]; simp
 have I0:=HI76.start bl bb kl0 kb0
 have G4':=G4.mono sub
 generalize QP H3 rf (.lst [])=H4 at G4 G4' hv4 hr4 hk4 pp4 hf4 hb4' ⊢
 clear g4 hr3 hv3 hk3' hb3' G3 nf pp3
 refine ⟨_,rfl,_,rfl,by omega,by omega,?_⟩
 refine ud (fun i σ H'=>∃ (vs:List Int) (rs:List Nat) (cs:List Call72) (xs:List V) (ck:List Int) (e10 e11 e12 e13:Option V),σ = [some (.ref p),some (.bl w),some (.int n),some (.int m),some (.ref rb),some (.int hn),some (.ref rv),some (.ref rr),some (.ref rk),some (.ref rf),e10,e11,e12,e13] /\ HI76 n i b vs rs cs ck /\ H' rv=some (.lst (vs.map V.int)) /\ H' rr=some (.lst (zy rs)) /\ H' rk=some (.lst (ck.map V.int)) /\ H' rf=some (.lst xs) /\ yP (yy K H') xs cs /\ Grow [p,rv,rr,rf,rk] H H' /\ Q1 K H' rb (b.map V.int) /\ JA H' p) ⟨b,_,[],[],ck0,_,_,_,_,rfl,I0,hv4,hr4,hk4,hf4,trivial,G4',hb4',pp4⟩ ?_ ?_
 rotate_left
 ·rintro σ H' ⟨vs,rs,cs,xs,ck,e10,e11,e12,e13,rfl,I,hv,hr',hk,hf,ha,g,hb,pp'⟩
  refine ⟨_,rfl,_,rfl,JB rfl,fun r hr0=>?_⟩
  have gr:=Grow.new (m:=[]) hr0 (.tup [.ref rb,.ref rf])
  exact q b cs xs r rb rf _ (I.hist (by omega) bl n1 n16 bb) ((Grow.shrinkTo mfree g).trans gr.wk) (pp'.grow gr) (Q1.of zd) (gr.sqT hb) (gr.keep _ _ (by simp) hf) (fun z=>npf z.symm) (gr.callsR ha)
 rintro i σ H5 hi ⟨vs,rs,cs,xs,ck,e10,e11,e12,e13,rfl,I,hv5,hr5,hk5,hf5,ha5,G5,hb5,pp5⟩
 have him:i < m:=by omega
 have vl:=I.vl
 have rl:=I.rl
 have kl:=I.kl
 try dsimp only
 refine ⟨_,rfl,_,rfl,_,_,rfl,p,hn,rfl,rfl,pp5,by omega,Int.lt_of_le_of_lt (b:=100) (by omega) (by decide),fun ha' H6' h0 h1 g6' pp6'=>?_⟩
 refine ⟨_,rfl,_,rfl,_,_,rfl,p,n,rfl,rfl,pp6',by omega,Int.lt_of_le_of_lt (b:=100) (by omega) (by decide),fun bx' H6 b0' b1' g6b pp6=>⟨_,_,rfl,?_⟩⟩
 obtain ⟨hnd,rfl⟩:=Int.eq_ofNat_of_zero_le h0
 obtain ⟨bx0,rfl⟩:=Int.eq_ofNat_of_zero_le b0'
 have hh16:hnd < 16:=by omega
 have hbx0:bx0 < n:=by omega
 have g6:=g6'.trans g6b
 try dsimp only
 have hv6:=g6.keep _ _ nvp hv5
 have hr6:=g6.keep _ _ nrp hr5
 have hk6:=g6.keep _ _ nkp hk5
 have hf6:=g6.keep _ _ nfp hf5
 refine VE (fun σ' H'=>∃ (bx x:Nat),σ' = [some (.ref p),some (.bl w),some (.int n),some (.int m),some (.ref rb),some (.int hn),some (.ref rv),some (.ref rr),some (.ref rk),some (.ref rf),some (.int (0+(i:Int))),some (.int hnd),some (.int bx),e13] /\ rs[bx]? = some x /\ 0 < x /\ H' = H6) ?_ (fun hk=>?_)
 rotate_left
 ·obtain ⟨x,hx⟩:∃ x,rs[bx0]? = some x:=⟨_,List.getElem?_eq_getElem (by omega)⟩
  refine ⟨_,rfl,_,rfl,rr,_,_,.int x,rfl,rfl,Q0.of hr6,zp (by unfold zy; rw [List.getElem?_map,hx]; rfl),rfl,_,rfl,?_⟩
  by_cases x0:x=0
  ·refine yT (decide_eq_true (by rw [x0]; rfl)) ⟨_,rfl,.inl ⟨rfl,_,Q0.of hr6⟩,_,rfl,rr,rs.map (fun k:Nat=>(k:Int)),rfl,by rw [← yb]; exact Q0.of hr6,by rw [List.length_map]; omega,fun M hM hmax=>?_⟩
   obtain ⟨k,hk',rfl⟩:=List.mem_map.mp hM
   have hsum:=I.sm
   obtain ⟨z,hz,z0⟩:=rW (l:=rs) (by omega)
   have hle:=hmax z (List.mem_map.mpr ⟨z,hz,rfl⟩)
   have hlt:=List.idxOf_lt_length_of_mem hk'
   refine ⟨rr,rs,k,rfl,rfl,Q0.of hr6,hk',by omega,hk _ _ ⟨rs.idxOf k,k,rfl,?_,by omega,rfl⟩⟩
   rw [List.getElem?_eq_getElem hlt,List.getElem_idxOf hlt]
  ·exact yY (decide_eq_false fun z=>x0 (by have:=V.int.inj z; omega)) (hk _ _ ⟨bx0,x,rfl,hx,by omega,rfl⟩)
 rintro _ H6 ⟨bx,x,rfl,hx,x0,rfl⟩
 have hbx:bx < n:=by rw [← rl]; exact (List.getElem?_eq_some_iff.mp hx).1
 have hrx:Jm (zy rs) bx=some (.int x):=zp (by unfold zy; rw [List.getElem?_map,hx]; rfl)
 have hvx:Jm (vs.map V.int) bx=some (.int (vs.getD bx 0)):=zp (by
  have hb':bx < vs.length:=by omega
  rw [List.getElem?_map,List.getElem?_eq_getElem hb',List.getD_eq_getElem?_getD,List.getElem?_eq_getElem hb']; rfl)
 have hkx:Jm (ck.map V.int) hnd=some (.int (ck.getD hnd 0)):=zp (by
  have hb':hnd < ck.length:=by omega
  rw [List.getElem?_map,List.getElem?_eq_getElem hb',List.getD_eq_getElem?_getD,List.getElem?_eq_getElem hb']; rfl)
 refine ⟨_,rfl,_,rfl,rr,_,_,_,rfl,rfl,Q0.of hr6,hrx,_,_,rfl,rfl,_,rfl,_,rfl,rr,_,_,bx,rfl,rfl,hr6,ss (i:=(bx:Int)) (by omega) (by rw [zM]; omega),?_⟩
 have er:(zy rs).set bx (.int ((x:Int) - 1))=zy (rs.set bx (x - 1)):=by
  unfold zy
  rw [List.map_set,show ((x:Int) - 1)=((x - 1:Nat):Int) from by omega]
 have hr7:QP H6 rr (.lst ((zy rs).set bx (.int ((x:Int) - 1)))) rr=some (.lst (zy (rs.set bx (x - 1)))):=by rw [zd,er]
 have hv7:QP H6 rr (.lst ((zy rs).set bx (.int ((x:Int) - 1)))) rv=some (.lst (vs.map V.int)):=by rw [zq nrv.symm]; exact hv6
 have hk7:QP H6 rr (.lst ((zy rs).set bx (.int ((x:Int) - 1)))) rk=some (.lst (ck.map V.int)):=by rw [zq nkr]; exact hk6
 have hf7:QP H6 rr (.lst ((zy rs).set bx (.int ((x:Int) - 1)))) rf=some (.lst xs):=by rw [zq nfr]; exact hf6
 have g57:Grow [p,rv,rr,rf,rk] H5 (QP H6 rr (.lst ((zy rs).set bx (.int ((x:Int) - 1))))):=(g6.mono sub).trans (Grow.set hr6 (by simp) _)
 have pp7:JA (QP H6 rr (.lst ((zy rs).set bx (.int ((x:Int) - 1))))) p:=by
  obtain ⟨u0,u1,e,z⟩:=pp6
  exact ⟨u0,u1,by rw [zq npr]; exact e,z⟩
 generalize QP H6 rr (.lst ((zy rs).set bx (.int ((x:Int) - 1))))=H7 at hr7 hv7 hk7 hf7 g57 pp7 ⊢
 try dsimp only
 refine yh (fun v H'=>∃ d,rE K H' v d /\ d.Ok /\ d.Bd (10 ^ 27+6) /\ Grow [p] H7 H' /\ JA H' p) (fun Kk hk=>⟨_,rfl,_,rfl,_,_,rfl,p,w,rfl,rfl,pp7,fun d v H' od bd g pp' hd=>hk _ _ ⟨d,hd,od,bd,g,pp'⟩⟩) ?_
 rintro yd H9 ⟨d,hd9,od,bd,g9,pp9⟩
 have hv9:=g9.keep _ _ nvp hv7
 have hr9:=g9.keep _ _ nrp hr7
 have hk9:=g9.keep _ _ nkp hk7
 have hf9:=g9.keep _ _ nfp hf7
 refine ⟨_,rfl,.inl ⟨rfl,_,Q0.of hf9⟩,_,rfl,_,rfl,_,rfl,_,rfl,_,rfl,rk,_,_,_,rfl,rfl,Q0.of hk9,hkx,_,rfl,_,rfl,rk,_,_,_,rfl,rfl,Q0.of hk9,hkx,_,rfl,_,_,rfl,p,6,rfl,rfl,pp9,by decide,by decide,fun u H11 u0 u1 g11 pp11=>?_⟩
 have hv11:=g11.keep _ _ nvp hv9
 have hr11:=g11.keep _ _ nrp hr9
 have hk11:=g11.keep _ _ nkp hk9
 have hf11:=g11.keep _ _ nfp hf9
 refine ⟨_,_,rfl,rfl,_,rfl,_,rfl,rv,_,_,_,rfl,rfl,Q0.of hv11,hvx,JB rfl,fun tc htc=>?_⟩
 obtain ⟨rd,rfl,sd⟩:=g11.deed hd9
 have gtc:=Grow.new (m:=[]) htc (.tup [.int hnd,.int bx,.ref rd,.int (ck.getD hnd 0),.int (ck.getD hnd 0+u),.int (vs.getD bx 0)])
 have hf12:=gtc.keep _ _ (by simp) hf11
 have hv12:=gtc.keep _ _ (by simp) hv11
 have hr12:=gtc.keep _ _ (by simp) hr11
 have hk12:=gtc.keep _ _ (by simp) hk11
 have xl:=ha5.len
 have clI:=I.cl
 refine ⟨rf,_,_,rfl,rfl,hf12,uS (by omega),?_⟩
 have gap:=Grow.set (m:=[p,rv,rr,rf,rk]) hf12 (by simp) (xs ++ [V.ref tc])
 have hv13:=(zq (H:=QP H11 tc (.tup [.int hnd,.int bx,.ref rd,.int (ck.getD hnd 0),.int (ck.getD hnd 0+u),.int (vs.getD bx 0)])) (o:=.lst (xs ++ [V.ref tc])) nfv.symm).trans hv12
 have hr13:=(zq (H:=QP H11 tc (.tup [.int hnd,.int bx,.ref rd,.int (ck.getD hnd 0),.int (ck.getD hnd 0+u),.int (vs.getD bx 0)])) (o:=.lst (xs ++ [V.ref tc])) nfr.symm).trans hr12
 have hk13:=(zq (H:=QP H11 tc (.tup [.int hnd,.int bx,.ref rd,.int (ck.getD hnd 0),.int (ck.getD hnd 0+u),.int (vs.getD bx 0)])) (o:=.lst (xs ++ [V.ref tc])) nfk.symm).trans hk12
 have hf13:=zd (H:=QP H11 tc (.tup [.int hnd,.int bx,.ref rd,.int (ck.getD hnd 0),.int (ck.getD hnd 0+u),.int (vs.getD bx 0)])) (a:=rf) (o:=.lst (xs ++ [V.ref tc]))
 have htc13:=gap.sqT (Q1.of (K:=K) (zd (H:=H11) (a:=tc) (o:=.tup [.int hnd,.int bx,.ref rd,.int (ck.getD hnd 0),.int (ck.getD hnd 0+u),.int (vs.getD bx 0)])))
 have sd13:=gap.sqT (gtc.sqT sd)
 have g513:Grow [p,rv,rr,rf,rk] H5 _:=g57.trans ((g9.mono sub).trans ((g11.mono sub).trans (gtc.wk.trans gap)))
 have pp13:JA (QP (QP H11 tc (.tup [.int hnd,.int bx,.ref rd,.int (ck.getD hnd 0),.int (ck.getD hnd 0+u),.int (vs.getD bx 0)])) rf (.lst (xs ++ [V.ref tc]))) p:=by
  obtain ⟨u0,u1,e,z⟩:=pp11.grow gtc
  exact ⟨u0,u1,by rw [zq npf]; exact e,z⟩
 generalize QP (QP H11 tc (.tup [.int hnd,.int bx,.ref rd,.int (ck.getD hnd 0),.int (ck.getD hnd 0+u),.int (vs.getD bx 0)])) rf (.lst (xs ++ [V.ref tc]))=H13 at hv13 hr13 hk13 hf13 htc13 sd13 g513 pp13 ⊢
 try dsimp only
 refine ⟨_,rfl,_,rfl,rk,_,_,_,rfl,rfl,Q0.of hk13,hkx,_,_,rfl,rfl,_,rfl,_,_,rfl,p,3,rfl,rfl,pp13,by decide,by decide,fun t H14 t0 t1 g14 pp14=>?_⟩
 have hv14:=g14.keep _ _ nvp hv13
 have hr14:=g14.keep _ _ nrp hr13
 have hk14:=g14.keep _ _ nkp hk13
 have hf14:=g14.keep _ _ nfp hf13
 refine ⟨_,_,rfl,rfl,_,rfl,_,rfl,rk,_,_,hnd,rfl,rfl,hk14,ss (i:=(hnd:Int)) (by omega) (by rw [List.length_map]; omega),?_⟩
 have hk15:QP H14 rk (.lst ((ck.map V.int).set hnd (.int (ck.getD hnd 0+1+t)))) rk=some (.lst ((ck.set hnd (ck.getD hnd 0+1+t)).map V.int)):=by rw [zd,List.map_set]
 have hv15:=(zq (H:=H14) (o:=.lst ((ck.map V.int).set hnd (.int (ck.getD hnd 0+1+t)))) nkv.symm).trans hv14
 have hr15:=(zq (H:=H14) (o:=.lst ((ck.map V.int).set hnd (.int (ck.getD hnd 0+1+t)))) nkr.symm).trans hr14
 have hf15:=(zq (H:=H14) (o:=.lst ((ck.map V.int).set hnd (.int (ck.getD hnd 0+1+t)))) nfk).trans hf14
 have gs15:=Grow.set (m:=[p,rv,rr,rf,rk]) hk14 (by simp) ((ck.map V.int).set hnd (.int (ck.getD hnd 0+1+t)))
 have g1315:=(g14.mono sub).trans gs15
 have pp15:JA (QP H14 rk (.lst ((ck.map V.int).set hnd (.int (ck.getD hnd 0+1+t))))) p:=by
  obtain ⟨u0,u1,e,z⟩:=pp14
  exact ⟨u0,u1,by rw [zq npk]; exact e,z⟩
 generalize QP H14 rk (.lst ((ck.map V.int).set hnd (.int (ck.getD hnd 0+1+t))))=H15 at hk15 hv15 hr15 hf15 g1315 pp15 ⊢
 have sd15:=g1315.sqT sd13
 have htc15:=g1315.sqT htc13
 try dsimp only
 refine ⟨_,rfl,_,rfl,_,rfl,rv,_,_,_,rfl,rfl,Q0.of hv15,hvx,_,_,rfl,d,_,⟨rd,rfl,sd15⟩,rfl,_,rfl,_,rfl,rv,_,_,bx,rfl,rfl,hv15,ss (i:=(bx:Int)) (by omega) (by rw [List.length_map]; omega),?_⟩
 have gfin:=Grow.set (m:=[p,rv,rr,rf,rk]) hv15 (by simp) ((vs.map V.int).set bx (.int (d.mk' (vs.getD bx 0))))
 have gall:=g513.trans (g1315.trans gfin)
 have I':=I.next (by omega) n16 hx x0 t0 (by omega) u0 (by omega) hh16 od bd
 refine ⟨_,_,_,xs ++ [V.ref tc],_,_,_,_,_,rfl,I',?_,?_,?_,?_,?_,G5.trans gall,gall.sqT hb5,?_⟩
 ·rw [zd,List.map_set]
 ·rw [zq nrv]; exact hr15
 ·rw [zq nkv]; exact hk15
 ·rw [zq nfv]; exact hf15
 ·exact (gall.callsR ha5).app (yP.one ⟨tc,rd,rfl,gfin.sqT htc15,gfin.sqT sd15⟩)
 ·obtain ⟨u0,u1,e,z⟩:=pp15
  exact ⟨u0,u1,by rw [zq npv]; exact e,z⟩
theorem YN:FnScope ["_law_script","_law_k"] ["_law_script","_law_k"] (zi (top 40)):=⟨rfl,rfl,rfl,by decide +kernel,rfl,by decide +kernel,by decide +kernel⟩
theorem YO (F:Fun K "_law_at" "_law_at" (top 40) f fd) (B:Blt mg)      :
  FnOk P w K mg base Jt (n+1) f fd ["_law_script","_law_k"] (XF K):=by
 refine F.ok YN yf (fun cdv A outer s H vs Q E hr h=>?_)
 obtain ⟨x,y,rfl,a,ns,k,rfl,rfl,hs,k0,q⟩:=h
 refine ⟨_,(ze (zQ (zD sg (pv 1) (zm zt rfl B.len yW (za (pv 0) zb)) (zA _)) (zf (zr (zF zW (pv 0) (pv 1) (fun _ _=>rfl)))) zu) (zf (zr zh))),?_⟩
 refine ⟨_,rfl,_,rfl,a,_,rfl,.inl hs.sq,_,_,rfl,rfl,_,rfl,?_⟩
 refine W9 (fun c=>?_) (fun c=>?_)
 ·have c':k < ((ns.map V.int).length:Int):=of_decide_eq_true c
  rw [List.length_map] at c'
  have hk:k.toNat < ns.length:=by omega
  have ek:k=((k.toNat:Nat):Int):=by omega
  have hat:Jm (ns.map V.int) k=some (.int ns[k.toNat]):=by
   have z:Jm (ns.map V.int) ((k.toNat:Nat):Int)=some (.int ns[k.toNat]):=zp (by rw [List.getElem?_map,List.getElem?_eq_getElem hk]; rfl)
   rw [← ek] at z; exact z
  exact ⟨_,rfl,_,rfl,a,_,_,_,rfl,rfl,hs.sq,hat,q _ (.inr (List.getElem_mem hk))⟩
 ·exact q 0 (.inl rfl)
theorem wH:FnScope ["_law_script","_law_k","_law_cell","_law_seed"] ["_law_script","_law_k"] (zi (top 41)):=⟨rfl,rfl,rfl,by decide +kernel,rfl,by decide +kernel,by decide +kernel⟩
theorem jO (F:Fun K "_law_pot" "_law_pot" (top 41) f fd) (B:Blt mg) (qc0:zn P w K mg base n "_law_at" ["_law_script","_law_k"] (XF K))     :
  FnOk P w K mg base Jt (n+1) f fd ["_law_script","_law_k"] (UF K):=by
 refine F.ok wH yf (fun cdv A outer s H vs Q E hr h=>?_)
 obtain ⟨x,y,rfl,a,ns,k,rfl,rfl,hs,k0,k1,q⟩:=h
 refine ⟨_,(ze (zv (i:=2) wH.nd rfl (Or.inl rfl) (zg qc0 hr rfl (za (pv 0) (za (pv 1) zb)))) (ze (zv (i:=3) wH.nd rfl (Or.inl rfl) (zz tj (zz YX (zz z9 (zz xE (zz z9 (zz tj (pv 2) zh) zh) (zz z9 (zz xE zh (pv 1)) zh)) zh) zh) zh)) (zf (zr (yI (za (zm (xT rfl) rfl B.max ZU (za zh (za (zz ue (pv 2) (zz YX zh zh)) zb))) (za (pv 3) zb))))))),?_⟩
 refine ⟨_,rfl,_,rfl,_,_,rfl,a,ns,k,rfl,rfl,hs,k0,fun c _=>?_⟩
 have c0:0<=c % 2147483629:=Int.emod_nonneg _ (by decide)
 have c1:c % 2147483629 < 2147483629:=Int.emod_lt_of_pos _ (by decide)
 have m0:0<=(c % 2147483629+11) * (977 * k+131):=Int.mul_nonneg (by omega) (by omega)
 have m1:(c % 2147483629+11) * (977 * k+131)<=2147483640 * 1000000:=Int.mul_le_mul (by omega) (by omega) (by omega) (by decide)
 refine ⟨_,rfl,_,_,rfl,rfl,(by show (0:Int) < 2147483629; decide),_,_,rfl,rfl,_,rfl,_,_,rfl,rfl,tH ⟨by decide,by decide⟩,_,_,rfl,rfl,_,_,rfl,rfl,Xd ⟨by omega,by omega⟩,_,_,rfl,rfl,_,_,rfl,rfl,⟨by decide,by decide,by omega⟩,_,_,rfl,rfl,(by show (0:Int) < 2147483647; decide),?_⟩
 refine ⟨_,rfl,_,_,rfl,rfl,⟨by decide,by decide,by decide⟩,_,_,rfl,rfl,_,_,rfl,_,rfl,JB rfl,fun p hp=>?_⟩
 refine q p _ hp (Grow.new hp _) ⟨_,_,zd,?_⟩
 split <;> omega
theorem wz:FnScope ["_law_script","_law_k","_law_pot_here","_law_board","_law_some_here","_law_calls","_law_order","_law_things_here","_law_turn"] ["_law_script"] (zi (top 61)):=⟨rfl,rfl,rfl,by decide +kernel,rfl,by decide +kernel,by decide +kernel⟩
theorem Ra (F:Fun K "law" "law" (top 61) f fd) (B:Blt mg) {A_NoCalls:Addr} (x_NoCalls:qS K mg "NoCalls" A_NoCalls) (qc0:zn P w K mg base n "_law_spoilt" ["_law_pot_here","_law_calls"] (uO K)) (qc1:zn P w K mg base n "_law_right" ["_law_board","_law_calls","_law_things_here"] (tZ K)) (qc2:zn P w K mg base n "_law_things" ["_law_pot_here","_law_order"] (uP K)) (qc3:yZ P w K mg base n "is_serial" ["board","calls","order"] (wm A_NoCalls K)) (qc4:zn P w K mg base n "_law_mixed" ["_law_pot_here","_law_some_here"] (tM K)) (qc5:zn P w K mg base n "_law_some" ["_law_pot_here"] (qE K)) (qc6:zn P w K mg base n "_law_pot" ["_law_script","_law_k"] (UF K))     :
  FnOk P w K mg base Jt (n+1) f fd ["_law_script"] (jX K):=by
 refine F.ok wz yX (fun cdv A outer s H vs Q E hr h=>?_)
 obtain ⟨x,rfl,a,ns,rfl,hs,h63,q⟩:=h
 refine ⟨_,(ze (xy PassesOwn.never rfl (xb rfl B.range (za (zm (xT rfl) rfl B.max ZU (za zh (za (zm (ra rfl) rfl B.min Sh (za zh (za (zm zt rfl B.len yW (za (pv 0) zb)) zb))) zb))) zb)) (zj (i:=1) wz.nd rfl (Or.inl rfl)) (ze (zv (i:=2) wz.nd rfl (Or.inl rfl) (zg qc6 hr rfl (za (pv 0) (za (pv 1) zb)))) (ze (yQ (zg qc5 hr rfl (za (pv 2) zb)) (yH rfl (zo (zj (i:=3) wz.nd rfl (Or.inl rfl)) (zo (zj (i:=4) wz.nd rfl (Or.inl rfl)) z8)))) (ze (yQ (zg qc4 hr rfl (za (pv 2) (za (pv 4) zb))) (yH rfl (zo (zj (i:=5) wz.nd rfl (Or.inl rfl)) (zo (zj (i:=6) wz.nd rfl (Or.inl rfl)) z8)))) (ze (zQ (zD Xq (wZ qc3 RQ hr rfl (za (pv 3) (za (pv 5) (za (pv 6) zb)))) yr (zA _)) (zf (zr yr)) zu) (ze (zv (i:=7) wz.nd rfl (Or.inl rfl) (zg qc2 hr rfl (za (pv 2) (za (pv 6) zb)))) (zf (xy PassesOwn.never rfl (xb rfl B.range (za zh zb)) (zj (i:=8) wz.nd rfl (Or.inl rfl)) (ze (zQ (yG (z7 (zg qc1 hr rfl (za (pv 3) (za (pv 5) (za (pv 7) zb)))))) (zf (zr yr)) zu) (zf (zQ (zD (jr (K:=K) rfl hr) (pv 5) (zR zb) (zA _)) (zf (zv (i:=5) wz.nd rfl (Or.inl rfl) (zg qc0 hr rfl (za (pv 2) (za (pv 5) zb))))) zu))))))))))) (zf (zr yr))),?_⟩
 have hl:(ns.map V.int).length=ns.length:=List.length_map ..
 refine ⟨_,rfl,a,_,rfl,.inl hs.sq,_,_,rfl,_,_,rfl,_,rfl,?_,?_,?_⟩
 ·split <;> split <;> omega
 ·rw [hl]; split <;> split <;> omega
 refine ud (fun i σ H'=>∃ (e1 e2 e3 e4 e5 e6 e7 e8:Option V),σ = [some (.ref a),e1,e2,e3,e4,e5,e6,e7,e8] /\ Grow [] H H') ⟨_,_,_,_,_,_,_,_,rfl,Grow.refl _ _⟩ ?_ ?_
 rotate_left
 ·rintro σ H1 _
  exact q _
 rintro i σ H1 hi ⟨e1,e2,e3,e4,e5,e6,e7,e8,rfl,g⟩
 have i63:i < 1000:=by
  have hi':=hi
  revert hi'
  split <;> split <;> omega
 try dsimp only
 refine yh (fun v H'=>∃ p,v = .ref p /\ H1 p=none /\ Grow [] H1 H' /\ JA H' p) (fun Kk hk=>⟨_,rfl,_,rfl,_,_,rfl,a,ns,_,rfl,rfl,g.scr hs,by omega,by omega,fun p H2 hp g2 pp=>hk _ _ ⟨p,rfl,hp,g2,pp⟩⟩) ?_
 rintro _ H2 ⟨p,rfl,np,g2,pp2⟩
 refine ⟨_,rfl,_,rfl,p,rfl,pp2,fun b cs xr r rb l H6 hist g6 pp6 hr6 hrb6 hl6 lp6 ha6=>⟨r,_,rfl,hr6,rfl,_,_,rfl,_,_,rfl,rfl,?_⟩⟩
 try dsimp only
 have c40:=hist.ok.len
 have b1:=hist.b1
 have b16:=hist.b16
 have bb:=hist.bb
 refine ⟨_,rfl,_,rfl,_,_,rfl,p,l,xr,cs,rfl,rfl,pp6,hl6,lp6,ha6,c40,fun ms r8 ro yc H7 hp g7 pp7 hr7 hc7 hro7=>⟨r8,_,rfl,hr7,rfl,_,_,rfl,_,_,rfl,rfl,?_⟩⟩
 try dsimp only
 have hb7:zI K H7 (.ref rb) b:=⟨rb,rfl,g7.sqT hrb6⟩
 have ok7:Calls72 b.length (ms.map (cg cs)):=hist.ok.perm (wB hp)
 have bd7:∀ c ∈ ms.map (cg cs),Cb72 (10 ^ 29) c:=fun c hc=>hist.bd c ((wB hp).mem_iff.mp hc)
 have ser:=YF hist hp
 have own:=YG hist hp
 have G7:Grow [p] H1 H7:=g2.wk.trans (g6.trans g7)
 have ol:((List.range cs.length).map fun j=>ms.idxOf j).length=cs.length:=by rw [List.length_map,List.length_range]
 have olt:∀ k ∈ (List.range cs.length).map fun j=>ms.idxOf j,k < 40:=fun k hk=>by
  have:=List.mem_range.mp ((tL hp).mem_iff.mp hk)
  omega
 generalize ms.map (cg cs)=ds at hc7 ok7 bd7 ser own
 generalize (List.range cs.length).map (fun j=>ms.idxOf j)=od at ser ol olt hro7
 refine yM (fun c H'=>c=false /\ Grow [] H7 H') (fun Kk hk=>⟨_,rfl,_,rfl,_,rfl,_,_,_,rfl,b,ds,.tuple (od.map fun k:Nat=>PyData.int (k:Int)),[],hb7,b1,b16,hc7,ok7,rX hro7.sqT,rY (by omega),fun ow t H8 ht g8=>⟨true,true,?_,rfl,_,rfl,hk _ _ ⟨rfl,g8⟩⟩,fun no=>absurd own no⟩) ?_
 ·rw [ht.mpr (vE.mpr ser)]
 rintro _ H8 ⟨rfl,g8⟩
 refine yD (yp ?_)
 have pp8:=pp7.grow g8
 refine yh (fun v H'=>∃ (lt:Addr) (xs:List V),v = .ref lt /\ H' lt=some (.lst xs) /\ lt ∉ [p] /\ lt ≠ sysModules /\ (∀ v ∈ xs,JL K p H' v) /\ xs.length<=30 /\ Grow [p] H8 H' /\ JA H' p) (fun Kk hk=>⟨_,rfl,_,rfl,_,_,rfl,p,ro,od,rfl,rfl,pp8,g8.sqT hro7.sqT,by omega,olt,fun lt xs H9 g9 pp9 h1 h2 h3 h4 h5=>hk _ _ ⟨lt,xs,rfl,h1,h2,h3,h4,h5,g9,pp9⟩⟩) ?_
 rintro _ H9 ⟨lt,xs,rfl,hlt,ltp,lts,hgd,x30,g9,pp9⟩
 have G9:=G7.trans (g8.wk.trans g9)
 have hb9:=(g8.wk.trans g9).board hb7
 have hc9:=(g8.wk.trans g9).calls72 hc7
 refine ⟨_,rfl,by decide,by decide,?_⟩
 refine ud (fun j σ H'=>∃ (ds':List Call72) (y:V) (e8:Option V),σ = [some (.ref a),some (.int (0+(i:Int))),some (.ref p),some (.ref rb),some (.ref l),some y,some (.ref ro),some (.ref lt),e8] /\ zx K H' y ds' /\ Calls72 b.length ds' /\ (∀ c ∈ ds',Cb72 (10 ^ 29+j) c) /\ Grow [p] H9 H' /\ JA H' p) ⟨ds,yc,_,rfl,hc9,ok7,(fun c hc=>(bd7 c hc).mono (by omega)),Grow.refl _ _,pp9⟩ ?_ ?_
 rotate_left
 ·rintro σ H10 ⟨ds',y,e8,rfl,_,_,_,g10,_⟩
  exact ⟨_,_,_,_,_,_,_,_,rfl,g.trans ((G9.trans g10).shrink np)⟩
 rintro j σ H10 hj ⟨ds',y,e8,rfl,hc10,ok10,bd10,g10,pp10⟩
 have j4:j < 4:=hj
 try dsimp only
 obtain ⟨dd,hd,fg⟩:=UK (fun v hv=>(hgd v hv).grow g10)
 have hl10:=g10.keep _ _ ltp hlt
 refine yM (fun c H'=>c=false /\ Grow [] H10 H') (fun Kk hk=>⟨_,rfl,_,rfl,_,rfl,_,_,_,rfl,b,ds',lt,xs,dd,[p],g10.board hb9,b1,b16,bb,hc10,ok10,(fun c hc=>(bd10 c hc).mono (by omega)),rfl,hl10,ltp,lts,hd,fg,by rw [← hd.length]; exact x30,fun H11 g11=>⟨_,rfl,hk _ _ ⟨rfl,g11⟩⟩⟩) ?_
 rintro _ H11 ⟨rfl,g11⟩
 refine yD (yp ?_)
 have pp11:=pp10.grow g11
 obtain ⟨ry,ys,rfl,hry,hay⟩:=g11.calls72 hc10
 have yl:=hay.len
 refine v9 (fun c H'=>c=(!ys.isEmpty) /\ Grow [] H11 H') (fun Kk hk=>⟨_,rfl,JB rfl,fun t ht=>⟨ry,t,ys,rfl,rfl,(Grow.new (m:=[]) ht _).sqT hry,Q1.of zd,_,rfl,hk _ _ ⟨rfl,Grow.new ht _⟩⟩⟩) ?_
 rintro _ H12 ⟨rfl,g12⟩
 have G12:Grow [p] H9 H12:=g10.trans (g11.trans g12).wk
 have hc12:zx K H12 (.ref ry) ds':=⟨ry,ys,rfl,g12.sqT hry,g12.callsR hay⟩
 cases ye:ys.isEmpty with
 | true =>
  exact yD ⟨ds',_,_,rfl,hc12,ok10,(fun c hc=>(bd10 c hc).mono (by omega)),G12,pp11.grow g12⟩
 | false =>
  have y0:0 < ds'.length:=by
   cases ys with
   | nil=>cases ye
   | cons a ys=>rw [← yl]; simp
  refine xk ⟨_,rfl,_,rfl,_,_,rfl,p,ds',b.length,10 ^ 29+j,rfl,pp11.grow g12,hc12,ok10,y0,bd10,fun cs2 v2 H13 ok2 cl2 bd2 g13 pp13 hc2=>?_⟩
  exact ⟨cs2,v2,_,rfl,hc2,ok2,(fun c hc=>(bd2 c hc).mono (by omega)),G12.trans g13,pp13⟩
end
theorem xj:∀ {us:List Value},us.length=1 -> ∃ x0,us=[x0]
 | [x0],_=>⟨x0,rfl⟩
theorem z5:∀ {us:List Value},us.length=2 -> ∃ x0,∃ x1,us=[x0,x1]
 | [x0,x1],_=>⟨x0,x1,rfl⟩
theorem xJ:∀ {us:List Value},us.length=3 -> ∃ x0,∃ x1,∃ x2,us=[x0,x1,x2]
 | [x0,x1,x2],_=>⟨x0,x1,x2,rfl⟩
theorem W7:∀ {us:List Value},us.length=4 -> ∃ x0,∃ x1,∃ x2,∃ x3,us=[x0,x1,x2,x3]
 | [x0,x1,x2,x3],_=>⟨x0,x1,x2,x3,rfl⟩
def FA (K:QM) (x:Str) (t:Stmt) (f:Addr) (d:FuncData):Prop:=PySem.W.nsIn K mainGlobals x=some (some (.ref f)) /\ Fun K x x t f d
theorem FA.cl {P:Program} {w:World} {K:QM} {h base:Heap} {mg:Str->Option Value} {x:Str} {t:Stmt} {f:Addr} {d:FuncData} {k:Nat} {ps:List Str} {sp:Sp} (a:FA K x t f d) (X:K.In h) (G:h.Ns mainGlobals mg) (F:FnOk P w K mg base Jt k f d ps sp) (b:sh K d ps []):zn P w K mg base k x ps sp:=⟨_,_,F,b,a.2.kp,PySem.W.mg_of X G a.1⟩
theorem all_mk {l:PySem.W.OpenLaw} {w:World} {K:QM} {h:Heap} {mg:Str->Option Value} {fa f1 f2 f3 f4 f5 f6 f7 f8 f9 f10 f11 f12 f13 f14 f15 f16 f17 f18 f19 f20 f21 f22 f23 f24 f25 f26 f27 f28 f29 f30 f31 f32 f33 f34 f35 f36 f37 f38 f39 f40 f41 f42 f43 f44:Addr} (X:K.In h) (G:h.Ns mainGlobals mg) (hfa:mg "law" = some (.ref fa))
    {d1 d2 d3 d4 d5 d6 d7 d8 d9 d10 d11 d12 d13 d14 d15 d16 d17 d18 d19 d20 d21 d22 d23 d24 d25 d26 d27 d28 d29 d30 d31 d32 d33 d34 d35 d36 d37 d38 d39 d40 d41 d42 d43 d44:FuncData}
    {A_AskError:Addr} (ax_AskError:PySem.W.nsIn K mainGlobals "AskError" = some (some (.ref A_AskError)))
    {A_NoBoard:Addr} (ax_NoBoard:PySem.W.nsIn K mainGlobals "NoBoard" = some (some (.ref A_NoBoard)))
    {A_NoCalls:Addr} (ax_NoCalls:PySem.W.nsIn K mainGlobals "NoCalls" = some (some (.ref A_NoCalls)))
    {A_NoNumber:Addr} (ax_NoNumber:PySem.W.nsIn K mainGlobals "NoNumber" = some (some (.ref A_NoNumber)))
    {A_NoOrder:Addr} (ax_NoOrder:PySem.W.nsIn K mainGlobals "NoOrder" = some (some (.ref A_NoOrder)))
    {A_TooMany:Addr} (ax_TooMany:PySem.W.nsIn K mainGlobals "TooMany" = some (some (.ref A_TooMany)))
    (ex_AskError:PySem.W.excIn K A_AskError JQ "ValueError.__new__" = true)
    (ex_NoCalls:PySem.W.excIn K A_NoCalls JQ "ValueError.__new__" = true)
    (ex_TooMany:PySem.W.excIn K A_TooMany JQ "ValueError.__new__" = true)
    (kd:KdN76 K [A_NoCalls,A_TooMany,A_NoBoard,A_NoNumber,A_NoOrder] A_AskError)
 (h1:FA K "_law_take" ((top 42)) f1 d1)
 (h2:FA K "_law_spoilt" ((top 50)) f2 d2)
 (h3:FA K "_law_done" ((top 46)) f3 d3)
 (h4:FA K "_law_behind" ((top 53)) f4 d4)
 (h5:FA K "_law_may" ((top 52)) f5 d5)
 (h6:FA K "_law_is_serial" ((top 54)) f6 d6)
 (h7:FA K "_law_can" ((top 55)) f7 d7)
 (h8:FA K "made" ((top 13)) f8 d8)
 (h9:FA K "one_more" ((top 30)) f9 d9)
 (h10:FA K "order_by" ((top 31)) f10 d10)
 (h11:FA K "as_mask" ((top 29)) f11 d11)
 (h12:FA K "hand_masks" ((top 37)) f12 d12)
 (h13:FA K "by_boxes" ((top 24)) f13 d13)
 (h14:FA K "is_whole" ((top 8)) f14 d14)
 (h15:FA K "is_end" ((top 11)) f15 d15)
 (h16:FA K "is_deed" ((top 12)) f16 d16)
 (h17:FA K "is_within" ((top 9)) f17 d17)
 (h18:FA K "is_ask" ((top 19)) f18 d18)
 (h19:FA K "is_call" ((top 23)) f19 d19)
 (h20:FA K "is_board" ((top 17)) f20 d20)
 (h21:FA K "need_board" ((top 18)) f21 d21)
 (h22:FA K "are_calls" ((top 25)) f22 d22)
 (h23:FA K "need_calls" ((top 26)) f23 d23)
 (h24:FA K "need_own_times" ((top 34)) f24 d24)
 (h25:FA K "a_serial" ((top 38)) f25 d25)
 (h26:FA K "_law_word" ((top 56)) f26 d26)
 (h27:FA K "_law_found" ((top 58)) f27 d27)
 (h28:FA K "are_answered" ((top 28)) f28 d28)
 (h29:FA K "keeps_hands" ((top 35)) f29 d29)
 (h30:FA K "is_order" ((top 27)) f30 d30)
 (h31:FA K "is_serial" ((top 36)) f31 d31)
 (h32:FA K "_law_truth" ((top 57)) f32 d32)
 (h33:FA K "_law_are_unlike" ((top 51)) f33 d33)
 (h34:FA K "_law_right" ((top 60)) f34 d34)
 (h35:FA K "_law_shuffled" ((top 43)) f35 d35)
 (h36:FA K "_law_things" ((top 59)) f36 d36)
 (h37:FA K "_law_mixed" ((top 49)) f37 d37)
 (h38:FA K "_law_number" ((top 44)) f38 d38)
 (h39:FA K "_law_deed" ((top 45)) f39 d39)
 (h40:FA K "_law_sizes" ((top 47)) f40 d40)
 (h41:FA K "_law_some" ((top 48)) f41 d41)
 (h42:FA K "_law_at" ((top 40)) f42 d42)
 (h43:FA K "_law_pot" ((top 41)) f43 d43)
 (h44:FA K "law" ((top 61)) f44 d44)
    {t_LAST_HAND:Tok} (ga_LAST_HAND:PySem.W.nsIn K mainGlobals "LAST_HAND" = some (some (.int 15 t_LAST_HAND)))
    {t_MOST_AT_A_BOX:Tok} (ga_MOST_AT_A_BOX:PySem.W.nsIn K mainGlobals "MOST_AT_A_BOX" = some (some (.int 8 t_MOST_AT_A_BOX)))
    {t_MOST_BOXES:Tok} (ga_MOST_BOXES:PySem.W.nsIn K mainGlobals "MOST_BOXES" = some (some (.int 16 t_MOST_BOXES)))
    {t_MOST_CALLS:Tok} (ga_MOST_CALLS:PySem.W.nsIn K mainGlobals "MOST_CALLS" = some (some (.int 40 t_MOST_CALLS)))
    {t_MOST_FOR_SERIAL:Tok} (ga_MOST_FOR_SERIAL:PySem.W.nsIn K mainGlobals "MOST_FOR_SERIAL" = some (some (.int 8 t_MOST_FOR_SERIAL)))
    (ga_ValueError:PySem.W.nsIn K mainGlobals "ValueError" = some none)
    (ga_any:PySem.W.nsIn K mainGlobals "any" = some none)
    (ga_enumerate:PySem.W.nsIn K mainGlobals "enumerate" = some none)
    (ga_set:PySem.W.nsIn K mainGlobals "set" = some none)
    (ga_sorted:PySem.W.nsIn K mainGlobals "sorted" = some none)
    (ga_sum:PySem.W.nsIn K mainGlobals "sum" = some none)
    (z_abs:PySem.W.nsIn K mainGlobals "abs" = some none)
    (z_len:PySem.W.nsIn K mainGlobals "len" = some none)
    (z_max:PySem.W.nsIn K mainGlobals "max" = some none)
    (z_min:PySem.W.nsIn K mainGlobals "min" = some none)
    (z_divmod:PySem.W.nsIn K mainGlobals "divmod" = some none)
    (z_repr:PySem.W.nsIn K mainGlobals "repr" = some none)
    (z_isinstance:PySem.W.nsIn K mainGlobals "isinstance" = some none)
    (z_all:PySem.W.nsIn K mainGlobals "all" = some none)
    (z_range:PySem.W.nsIn K mainGlobals "range" = some none)
    (z_int:PySem.W.nsIn K mainGlobals "int" = some none)
    (z_bool:PySem.W.nsIn K mainGlobals "bool" = some none)
    (z_str:PySem.W.nsIn K mainGlobals "str" = some none)
    (z_tuple:PySem.W.nsIn K mainGlobals "tuple" = some none)
    (z_list:PySem.W.nsIn K mainGlobals "list" = some none)
    (z_dict:PySem.W.nsIn K mainGlobals "dict" = some none)
    :
    ∃ fd:FuncData,(∀ (s:Shared) (v:Value),BindsTo s fd ⟨[v],[]⟩ [("_law_script",v)]) /\ ∀ base:Heap,K.In base->base.Ns mainGlobals mg->FnOk l.prog w K mg base Jt 13 fa fd ["_law_script"] (jX K):=by
  have e:=hfa.symm.trans (PySem.W.mg_of X G h44.1)
  cases e
  have b7:=h7.2.binds (ps:=["_law_calls","_law_left","_law_values","_law_dead"]) fun _ _ _ _ _ _ us hl=>by obtain ⟨_,_,_,_,rfl⟩:=W7 hl; rfl
  have b24:=h24.2.binds (ps:=["board","thing"]) fun _ _ _ _ _ _ us hl=>by obtain ⟨_,_,rfl⟩:=z5 hl; rfl
  have b25:=h25.2.binds (ps:=["board","calls"]) fun _ _ _ _ _ _ us hl=>by obtain ⟨_,_,rfl⟩:=z5 hl; rfl
  have b26:=h26.2.binds (ps:=["_law_e"]) fun _ _ _ _ _ _ us hl=>by obtain ⟨_,rfl⟩:=xj hl; rfl
  have b31:=h31.2.binds (ps:=["board","calls","order"]) fun _ _ _ _ _ _ us hl=>by obtain ⟨_,_,_,rfl⟩:=xJ hl; rfl
  have x_AskError:qS K mg "AskError" A_AskError:=excC_of (PySem.W.mg_of X G ax_AskError) ex_AskError
  have x_NoCalls:qS K mg "NoCalls" A_NoCalls:=excC_of (PySem.W.mg_of X G ax_NoCalls) ex_NoCalls
  have x_TooMany:qS K mg "TooMany" A_TooMany:=excC_of (PySem.W.mg_of X G ax_TooMany) ex_TooMany
  have v_AskError:mg "AskError" = some (.ref A_AskError):=PySem.W.mg_of X G ax_AskError
  have v_NoBoard:mg "NoBoard" = some (.ref A_NoBoard):=PySem.W.mg_of X G ax_NoBoard
  have v_NoCalls:mg "NoCalls" = some (.ref A_NoCalls):=PySem.W.mg_of X G ax_NoCalls
  have v_NoNumber:mg "NoNumber" = some (.ref A_NoNumber):=PySem.W.mg_of X G ax_NoNumber
  have v_NoOrder:mg "NoOrder" = some (.ref A_NoOrder):=PySem.W.mg_of X G ax_NoOrder
  have v_TooMany:mg "TooMany" = some (.ref A_TooMany):=PySem.W.mg_of X G ax_TooMany
  have B:Blt mg:=⟨PySem.W.mg_none_of X G z_abs,PySem.W.mg_none_of X G z_len,PySem.W.mg_none_of X G z_max,PySem.W.mg_none_of X G z_min,PySem.W.mg_none_of X G z_divmod,PySem.W.mg_none_of X G z_repr,PySem.W.mg_none_of X G z_isinstance,PySem.W.mg_none_of X G z_all,PySem.W.mg_none_of X G z_range,PySem.W.mg_none_of X G z_int,PySem.W.mg_none_of X G z_bool,PySem.W.mg_none_of X G z_str,PySem.W.mg_none_of X G z_tuple,PySem.W.mg_none_of X G z_list,PySem.W.mg_none_of X G z_dict⟩
  obtain ⟨oc,od,kV,dc,pm,an,cd,ct,sl,rfl,lk,hc⟩:=h44.2.ex
  refine ⟨PySem.W.fnOf "law" "law" (uh (top 61)) (xW (top 61)) (zi (top 61)) .none kV dc pm an cd ct,fun s v=>.of_eq rfl,fun base _ _=>?_⟩
  have C1:zn l.prog w K mg base 1 _ _ _:=h1.cl X G (qH h1.2 B       ) (h1.2.binds fun _ _ _ _ _ _ us hl=>by obtain ⟨_,_,rfl⟩:=z5 hl; rfl)
  have C2:zn l.prog w K mg base 2 _ _ _:=h2.cl X G (u3 h2.2 B    (C1.mono (by decide))   ) (h2.2.binds fun _ _ _ _ _ _ us hl=>by obtain ⟨_,_,rfl⟩:=z5 hl; rfl)
  have C3:zn l.prog w K mg base 1 _ _ _:=h3.cl X G (qI h3.2 B       ) (h3.2.binds fun _ _ _ _ _ _ us hl=>by obtain ⟨_,_,rfl⟩:=z5 hl; rfl)
  have C4:zn l.prog w K mg base 2 _ _ _:=h4.cl X G (u4 h4.2 B    (C3.mono (by decide))   ) (h4.2.binds fun _ _ _ _ _ _ us hl=>by obtain ⟨_,_,_,rfl⟩:=xJ hl; rfl)
  have C5:zn l.prog w K mg base 1 _ _ _:=h5.cl X G (jB h5.2 B     (PySem.W.mg_none_of X G ga_any)  ) (h5.2.binds fun _ _ _ _ _ _ us hl=>by obtain ⟨_,_,_,_,rfl⟩:=W7 hl; rfl)
  have C6:zn l.prog w K mg base 3 _ _ _:=h6.cl X G (vJ h6.2 B    (C4.mono (by decide)) (C5.mono (by decide)) (PySem.W.mg_none_of X G ga_enumerate) (PySem.W.mg_none_of X G ga_sorted) (PySem.W.mg_none_of X G ga_any)  ) (h6.2.binds fun _ _ _ _ _ _ us hl=>by obtain ⟨_,_,_,rfl⟩:=xJ hl; rfl)
  have R7:∀ N:Nat,FnOk l.prog w K mg base Jt (2+N) f7 d7 ["_law_calls","_law_left","_law_values","_law_dead"] (xG l.prog w N K):=by
    intro N
    induction N with
    | zero=>exact Vv WP
    | succ N ih=>exact jC (P:=l.prog) (w:=w) (base:=base) (n:=2+N) h7.2 B (C5.mono (Nat.le_trans (show 1<=2 by decide) (Nat.le_add_right 2 N))) ⟨_,_,ih,b7,h7.2.kp,PySem.W.mg_of X G h7.1⟩ (C4.mono (Nat.le_trans (show 2<=2 by decide) (Nat.le_add_right 2 N)))
  have C7:zn l.prog w K mg base 11 "_law_can" ["_law_calls","_law_left","_law_values","_law_dead"] (xG l.prog w 9 K):=⟨_,_,R7 9,b7,h7.2.kp,PySem.W.mg_of X G h7.1⟩
  have C8:zn l.prog w K mg base 1 _ _ _:=h8.cl X G (TN h8.2 B       ) (h8.2.binds fun _ _ _ _ _ _ us hl=>by obtain ⟨_,_,rfl⟩:=z5 hl; rfl)
  have C9:zn l.prog w K mg base 2 _ _ _:=h9.cl X G (jD h9.2 B    (C8.mono (by decide))   ) (h9.2.binds fun _ _ _ _ _ _ us hl=>by obtain ⟨_,_,_,rfl⟩:=xJ hl; rfl)
  have C10:zn l.prog w K mg base 3 _ _ _:=h10.cl X G (jE h10.2 B    (C9.mono (by decide))   ) (h10.2.binds fun _ _ _ _ _ _ us hl=>by obtain ⟨_,_,_,rfl⟩:=xJ hl; rfl)
  have C11:zn l.prog w K mg base 1 _ _ _:=h11.cl X G (YK h11.2 B     (PySem.W.mg_none_of X G ga_sum)  ) (h11.2.binds fun _ _ _ _ _ _ us hl=>by obtain ⟨_,rfl⟩:=xj hl; rfl)
  have C12:zn l.prog w K mg base 2 _ _ _:=h12.cl X G (sN h12.2 B    (C11.mono (by decide)) (PySem.W.mg_none_of X G ga_enumerate)  ) (h12.2.binds fun _ _ _ _ _ _ us hl=>by obtain ⟨_,rfl⟩:=xj hl; rfl)
  have C13:zn l.prog w K mg base 1 _ _ _:=h13.cl X G (jF h13.2 B     (PySem.W.mg_none_of X G ga_enumerate)  ) (h13.2.binds fun _ _ _ _ _ _ us hl=>by obtain ⟨_,_,rfl⟩:=z5 hl; rfl)
  have C14:zn l.prog w K mg base 1 _ _ _:=h14.cl X G (jH h14.2 B       ) (h14.2.binds fun _ _ _ _ _ _ us hl=>by obtain ⟨_,rfl⟩:=xj hl; rfl)
  have C15:zn l.prog w K mg base 2 _ _ _:=h15.cl X G (W5 h15.2 B    (C14.mono (by decide))   ) (h15.2.binds fun _ _ _ _ _ _ us hl=>by obtain ⟨_,rfl⟩:=xj hl; rfl)
  have C16:zn l.prog w K mg base 3 _ _ _:=h16.cl X G (YL h16.2 B    (C15.mono (by decide)) (C14.mono (by decide))   ) (h16.2.binds fun _ _ _ _ _ _ us hl=>by obtain ⟨_,rfl⟩:=xj hl; rfl)
  have C17:zn l.prog w K mg base 2 _ _ _:=h17.cl X G (qK h17.2 B    (C14.mono (by decide))   ) (h17.2.binds fun _ _ _ _ _ _ us hl=>by obtain ⟨_,_,_,rfl⟩:=xJ hl; rfl)
  have C18:zn l.prog w K mg base 4 _ _ _:=h18.cl X G (W6 h18.2 B    (C16.mono (by decide)) (C17.mono (by decide))  (PySem.W.mg_of X G ga_LAST_HAND) ) (h18.2.binds fun _ _ _ _ _ _ us hl=>by obtain ⟨_,_,rfl⟩:=z5 hl; rfl)
  have C19:zn l.prog w K mg base 5 _ _ _:=h19.cl X G (YM h19.2 B    (C14.mono (by decide)) (C18.mono (by decide))   ) (h19.2.binds fun _ _ _ _ _ _ us hl=>by obtain ⟨_,_,rfl⟩:=z5 hl; rfl)
  have C20:zn l.prog w K mg base 2 _ _ _:=h20.cl X G (jJ h20.2 B    (C14.mono (by decide))  (PySem.W.mg_of X G ga_MOST_BOXES) ) (h20.2.binds fun _ _ _ _ _ _ us hl=>by obtain ⟨_,rfl⟩:=xj hl; rfl)
  have C21:zn l.prog w K mg base 3 _ _ _:=h21.cl X G (sP h21.2 B    (C20.mono (by decide))   ) (h21.2.binds fun _ _ _ _ _ _ us hl=>by obtain ⟨_,rfl⟩:=xj hl; rfl)
  have C22:zn l.prog w K mg base 6 _ _ _:=h22.cl X G (qM h22.2 B    (C13.mono (by decide)) (C19.mono (by decide)) (C21.mono (by decide))  (PySem.W.mg_of X G ga_MOST_AT_A_BOX) (PySem.W.mg_of X G ga_MOST_CALLS) ) (h22.2.binds fun _ _ _ _ _ _ us hl=>by obtain ⟨_,_,rfl⟩:=z5 hl; rfl)
  have C23:zn l.prog w K mg base 7 _ _ _:=h23.cl X G (sR h23.2 B    (C22.mono (by decide))   ) (h23.2.binds fun _ _ _ _ _ _ us hl=>by obtain ⟨_,_,rfl⟩:=z5 hl; rfl)
  have C24:yZ l.prog w K mg base 8 "need_own_times" ["board","thing"] (vg A_NoCalls K):=⟨_,_,vK (P:=l.prog) (w:=w) (base:=base) (n:=7) h24.2 B x_NoCalls   (C23.mono (by decide)) (PySem.W.mg_none_of X G ga_set)  ,b24,h24.2.kp,PySem.W.mg_of X G h24.1⟩
  have C25:yZ l.prog w K mg base 9 "a_serial" ["board","calls"] (uM A_NoCalls A_TooMany K):=⟨_,_,jL (P:=l.prog) (w:=w) (base:=base) (n:=8) h25.2 B x_TooMany x_NoCalls   (C10.mono (by decide)) (C12.mono (by decide)) (C24.mono (by decide))  (PySem.W.mg_of X G ga_MOST_FOR_SERIAL) ,b25,h25.2.kp,PySem.W.mg_of X G h25.1⟩
  have D26:wE l.prog w K mg base 1 "_law_word" ["_law_e"] (wj [A_NoCalls,A_TooMany,A_NoBoard,A_NoNumber,A_NoOrder] K):=⟨_,_,sS (P:=l.prog) (w:=w) (base:=base) (n:=0) h26.2 B  v_NoCalls v_TooMany v_NoOrder v_NoNumber v_NoBoard kd  (PySem.W.mg_none_of X G ga_any) (PySem.W.mg_none_of X G ga_ValueError)  ,b26,h26.2.kp,PySem.W.mg_of X G h26.1⟩
  have C27:zn l.prog w K mg base 10 _ _ _:=h27.cl X G (sT h27.2 B x_AskError x_NoCalls x_TooMany  kd (C25.mono (by decide)) (D26.mono (by decide))   ) (h27.2.binds fun _ _ _ _ _ _ us hl=>by obtain ⟨_,_,rfl⟩:=z5 hl; rfl)
  have C28:zn l.prog w K mg base 2 _ _ _:=h28.cl X G (uQ h28.2 B    (C8.mono (by decide))   ) (h28.2.binds fun _ _ _ _ _ _ us hl=>by obtain ⟨_,_,_,rfl⟩:=xJ hl; rfl)
  have C29:zn l.prog w K mg base 1 _ _ _:=h29.cl X G (u5 h29.2 B       ) (h29.2.binds fun _ _ _ _ _ _ us hl=>by obtain ⟨_,_,rfl⟩:=z5 hl; rfl)
  have C30:zn l.prog w K mg base 2 _ _ _:=h30.cl X G (jN h30.2 B    (C14.mono (by decide)) (PySem.W.mg_none_of X G ga_sorted)  ) (h30.2.binds fun _ _ _ _ _ _ us hl=>by obtain ⟨_,_,rfl⟩:=z5 hl; rfl)
  have C31:yZ l.prog w K mg base 9 "is_serial" ["board","calls","order"] (wm A_NoCalls K):=⟨_,_,qO (P:=l.prog) (w:=w) (base:=base) (n:=8) h31.2 B x_NoCalls   (C28.mono (by decide)) (C29.mono (by decide)) (C30.mono (by decide)) (C24.mono (by decide))   ,b31,h31.2.kp,PySem.W.mg_of X G h31.1⟩
  have C32:zn l.prog w K mg base 10 _ _ _:=h32.cl X G (sU h32.2 B x_AskError x_NoCalls  kd (C31.mono (by decide)) (D26.mono (by decide))   ) (h32.2.binds fun _ _ _ _ _ _ us hl=>by obtain ⟨_,_,_,rfl⟩:=xJ hl; rfl)
  have C33:zn l.prog w K mg base 1 _ _ _:=h33.cl X G (vj h33.2 B     (PySem.W.mg_none_of X G ga_any) (PySem.W.mg_none_of X G ga_enumerate)  ) (h33.2.binds fun _ _ _ _ _ _ us hl=>by obtain ⟨_,rfl⟩:=xj hl; rfl)
  have C34:zn l.prog w K mg base 12 _ _ _:=h34.cl X G (sV h34.2 B    (C6.mono (by decide)) (C7.mono (by decide)) (C27.mono (by decide)) (C32.mono (by decide)) (C33.mono (by decide))   ) (h34.2.binds fun _ _ _ _ _ _ us hl=>by obtain ⟨_,_,_,rfl⟩:=xJ hl; rfl)
  have C35:zn l.prog w K mg base 2 _ _ _:=h35.cl X G (vZ h35.2 B    (C1.mono (by decide))   ) (h35.2.binds fun _ _ _ _ _ _ us hl=>by obtain ⟨_,_,rfl⟩:=z5 hl; rfl)
  have C36:zn l.prog w K mg base 3 _ _ _:=h36.cl X G (u6 h36.2 B    (C35.mono (by decide)) (C1.mono (by decide))   ) (h36.2.binds fun _ _ _ _ _ _ us hl=>by obtain ⟨_,_,rfl⟩:=z5 hl; rfl)
  have C37:zn l.prog w K mg base 3 _ _ _:=h37.cl X G (sW h37.2 B    (C35.mono (by decide))   ) (h37.2.binds fun _ _ _ _ _ _ us hl=>by obtain ⟨_,_,rfl⟩:=z5 hl; rfl)
  have C38:zn l.prog w K mg base 2 _ _ _:=h38.cl X G (u9 h38.2 B    (C1.mono (by decide))   ) (h38.2.binds fun _ _ _ _ _ _ us hl=>by obtain ⟨_,_,rfl⟩:=z5 hl; rfl)
  have C39:zn l.prog w K mg base 3 _ _ _:=h39.cl X G (qP h39.2 B    (C1.mono (by decide)) (C38.mono (by decide))   ) (h39.2.binds fun _ _ _ _ _ _ us hl=>by obtain ⟨_,_,rfl⟩:=z5 hl; rfl)
  have C40:zn l.prog w K mg base 2 _ _ _:=h40.cl X G (sX h40.2 B    (C1.mono (by decide))   ) (h40.2.binds fun _ _ _ _ _ _ us hl=>by obtain ⟨_,rfl⟩:=xj hl; rfl)
  have C41:zn l.prog w K mg base 4 _ _ _:=h41.cl X G (qQ h41.2 B    (C3.mono (by decide)) (C1.mono (by decide)) (C39.mono (by decide)) (C38.mono (by decide)) (C40.mono (by decide))   ) (h41.2.binds fun _ _ _ _ _ _ us hl=>by obtain ⟨_,rfl⟩:=xj hl; rfl)
  have C42:zn l.prog w K mg base 1 _ _ _:=h42.cl X G (YO h42.2 B       ) (h42.2.binds fun _ _ _ _ _ _ us hl=>by obtain ⟨_,_,rfl⟩:=z5 hl; rfl)
  have C43:zn l.prog w K mg base 2 _ _ _:=h43.cl X G (jO h43.2 B    (C42.mono (by decide))   ) (h43.2.binds fun _ _ _ _ _ _ us hl=>by obtain ⟨_,_,rfl⟩:=z5 hl; rfl)
  exact Ra (P:=l.prog) (w:=w) (base:=base) (n:=12) h44.2 B x_NoCalls   (C2.mono (by decide)) (C34.mono (by decide)) (C36.mono (by decide)) (C31.mono (by decide)) (C37.mono (by decide)) (C41.mono (by decide)) (C43.mono (by decide))
theorem walk {l:PySem.W.OpenLaw} {q:Program} {loose:List Str} {XP:(Str->Option Value)->Heap->Prop} {YP:World->Heap->Prop} {d:DefRec} {K:Params->QM} (hn:l.most=some 63) (hdf:d.params.defaults=[])
  (hY:∀ (w:World) (h:Heap),YP w h->(K w.params).In h)
  (F:∀ (w:World) (mg:Str->Option Value) (fa:Addr) (h:Heap),(K w.params).In h->h.Ns mainGlobals mg->mg d.name=some (.ref fa) →
   ∃ fd:FuncData,(∀ (s:Shared) (u:Value),BindsTo s fd ⟨[u],[]⟩ [("_law_script",u)]) /\ ∀ base:Heap,(K w.params).In base->base.Ns mainGlobals mg->FnOk l.prog w (K w.params) mg base Jt 13 fa fd ["_law_script"] (jX (K w.params))) :
  PySem.W.WalkO q loose XP YP l.row.toRowW d [] (fun f vs=>PySem.call f vs) :=
 L2.walk_of (n:=63) (k:=13) (x:="_law_script") (CX:=fun _=>Jt) (sp:=fun w=>jX (K w.params)) hn (by decide) hdf ⟨rfl,by decide,by decide,rfl⟩ hY F (fun _ _ a ns hl hO hS=>⟨_,rfl,a,ns,rfl,Jv.of hO hS,hl,fun _=>rfl⟩) fun _ _ _ _ _ z=>z
theorem walkX {q:Program} {loose:List Str} {XP:(Str->Option Value)->Heap->Prop} {K:Params->QM} {as:List Addr} {n t:Nat} {r:PySem.W.RowW} {d:DefRec} {kwd:List (Str × Expr)} {run:Value->List Value->Sem Value}
  (e:∀ P,as=(K P).map (·.1)) (W:PySem.W.WalkO q loose XP (PySem.W.InK K) r d kwd run):PySem.W.WalkX q loose XP (PySem.W.X.obsZ as) (PySem.W.X.valZ K n t) r d kwd run :=
 fun w s₀ s₁ mg mb G Y a o pm cd doc dV kV h2 h3 h4 h5 h6 h7 args vals as' L hpre hlay hrd hwl hlo =>
  W w s₀ s₁ mg mb G (PySem.W.InK.keeps w s₀.heap s₁.heap (PySem.W.X.z_facts e Y).2.1 L.keeps) a o pm cd doc dV kV h2 h3 h4 h5 h6 h7 args vals as' hpre hlay hrd hwl hlo
end My
open PySem PySem.W PyProof.Rows
namespace PySem.W.Fast
def tw14551822861716655609:=()
def tw5217269595120419566:=()
def tw11282841335957399786:=()
def tw9449208685742396692:=()
def tw5521475258594654000:=()
def tw3232374601580542824:=()
def tw11300767582843510169:=()
def tw1639688715377882012:=()
def tw18395151733787750785:=()
def tw7634163983498828321:=()
def tw4218427103426354184:=()
def tw6849471753364894441:=()
def tw13909313564368413747:=()
def tw15047787626888082752:=()
def tw1503990028718765449:=()
def tw17608686027682011490:=()
def tw985857945701083723:=()
def tw14951427465838414082:=()
def tw5531861708159083831:=()
def tw7365804917994316873:=()
def tw9544536025094778765:=()
def tw306501167976493567:=()
def tw1748143041291330655:=()
def tw3236369804836769972:=()
def tw2698990367002127828:=()
def tw5153432371421605321:=()
def tw1036504014966276251:=()
def tw2782229409572920062:=()
def tw16088543535125314644:=()
def tw15311930741889958442:=()
def tw1173287167888266708:=()
def tw8852022282264867683:=()
def tw4241864414958230008:=()
def tw13600589915497945941:=()
def tw11262330647855240897:=()
def tw17009968848703845820:=()
def tw1188471959598219392:=()
def tw13394800310474356160:=()
def tw9728384258900405976:=()
def tw14894593556837423394:=()
def tw156435906351478731:=()
def tw13820138595969580503:=()
def tw15671720456508251978:=()
def tw13616806604185747501:=()
def tw10534363796664518369:=()
def tw13123894856814169641:=()
def tw17218103652749308812:=()
def tw7668358653707695584:=()
def tw13519766476834613896:=()
def tw16318045499051224215:=()
def tw6022013433107177107:=()
def tw639101047618582239:=()
def tw3381209751051448562:=()
def tw4697034184353778477:=()
def tw860498001453413703:=()
def tw5119408166295319141:=()
def tw2217390992409868537:=()
def tw1250942549879109227:=()
def tw16402014929282411229:=()
def tw3836967365165740283:=()
def tw3008424951484907728:=()
def tw12333767688300361745:=()
def tw15103059087525450769:=()
def tw1153341981619144412:=()
def tw6677849845715258529:=()
def tw10865221767953666947:=()
def tw15512012796441520301:=()
def tw8075339601621332431:=()
def tw9581908532652277323:=()
def tw123333094162121759:=()
def tw2809171736305596852:=()
def tw6911380229577635520:=()
def tw348827259169314729:=()
def tw12625012128834718858:=()
def tw16555160747247026607:=()
def tw9630060833306534442:=()
def tw15773172670957822932:=()
def tw10763588455305424749:=()
def tw15904611194994087246:=()
def tw378997153977576164:=()
def tw6744720179793879475:=()
def tw6270907015094524813:=()
def tw13019403130133864774:=()
def tw17579763334307004644:=()
def tw1137159691858017713:=()
def tw1742318805234010406:=()
def tw4616978516185316904:=()
def tw12514889278120472448:=()
def tw443347672057682490:=()
def tw11715132125992700989:=()
def tw15478196572126605221:=()
def tw3788120647419693040:=()
def tw6407291906821219309:=()
def tw12491904960815438330:=()
def tw11064770141228845660:=()
def tw1550995999587130655:=()
def tw5589990625782779340:=()
def tw7680915807931663237:=()
def tw10325999384826231584:=()
def tw7936976923888622550:=()
def tw6684844690439745535:=()
def tw3602655659568460186:=()
def tw559399135401716248:=()
def tw17497287448575654732:=()
def tw9132377714627611428:=()
def tw4051196993387176629:=()
def tw13573391881571956516:=()
def tw16937422546464096640:=()
def tw13968619551859016779:=()
def tw2614782452165451564:=()
def tw4671655085079485512:=()
def tw6579759808573243957:=()
def tw6217434554897559896:=()
def tw8430888760735021577:=()
def tw14891790997698568815:=()
def tw7470781720799147829:=()
def tw2800593717946481697:=()
def tw9643415384601007244:=()
def tw17140269949721350845:=()
def tw16982508568824529727:=()
def tw12047596286607586221:=()
def tw17584410464071561078:=()
def tw17355532880319540692:=()
def tw15840759647998400308:=()
def tw10300548339503159627:=()
def tw3082042393765902731:=()
def tw942931877471931583:=()
def tw4009776240379069836:=()
def tw12298401878178539598:=()
def tw2237081497979023457:=()
def tw18116813438604775856:=()
def tw1013304874437944298:=()
def tw2805341410541914056:=()
def tw590576069022708640:=()
def tw5153127518119213550:=()
def tw7802166199724833311:=()
def tw7909971503441891098:=()
def tw2652731475732001991:=()
def tw4939438046061264424:=()
def tw7244293469104343653:=()
def tw11420840686575567217:=()
def tw8058471847104970613:=()
def tw18148570473470377181:=()
def tw6251621505865772463:=()
def tw14181693106385914308:=()
def tw13728390071003318609:=()
def tw13852756063594683913:=()
def tw13796218005324977099:=()
def tw14630376518058870141:=()
def tw2035417301886201840:=()
def tw8648880423011312968:=()
def tw4157294688822419630:=()
def tw16800429473886010205:=()
def tw15572976578675390058:=()
def tw6876050956693353317:=()
def tw14014519918839300589:=()
def tw15988859870171777542:=()
def tw2500810989041568275:=()
def tw13566014064545781777:=()
def tw3594989181790902865:=()
def tw12861684616986269717:=()
def tw216435791825923799:=()
def tw10368506815819298941:=()
def tw12834676643585521496:=()
def tw16705352563286048819:=()
def tw5280173277445640493:=()
def tw13135813412607185897:=()
def tw10003362662437346901:=()
def tw15854021461741724245:=()
def tw6639182463896565571:=()
def tw3088513430409781557:=()
def tw2452230278881928047:=()
def tw17765507281319060872:=()
def tw13775922889055721966:=()
def tw4546230749336125678:=()
def tw17983895448025356573:=()
end PySem.W.Fast
set_option maxRecDepth 100000 in
theorem PySem.Challenge.cw_joinedasks_k76_whole_serial_orders_holds : PySem.Challenge.rw_joinedasks_k76_whole_serial_orders.Holds := by
 w_on; o_law; z_head; (case hw=>w_witness2)
 refine My.walkX (fun _=>by kernel_rfl) (My.walk (l:=PySem.Challenge.rw_joinedasks_k76_whole_serial_orders) rfl rfl (fun w h Y=>Y) ?F)
 case F =>
  intro w mg fa h KX G hmg
  refine' My.all_mk KX G hmg  ?ax_AskError ?ax_NoBoard ?ax_NoCalls ?ax_NoNumber ?ax_NoOrder ?ax_TooMany ?ex_AskError ?ex_NoCalls ?ex_TooMany   ?kd  ?h1 ?h2 ?h3 ?h4 ?h5 ?h6 ?h7 ?h8 ?h9 ?h10 ?h11 ?h12 ?h13 ?h14 ?h15 ?h16 ?h17 ?h18 ?h19 ?h20 ?h21 ?h22 ?h23 ?h24 ?h25 ?h26 ?h27 ?h28 ?h29 ?h30 ?h31 ?h32 ?h33 ?h34 ?h35 ?h36 ?h37 ?h38 ?h39 ?h40 ?h41 ?h42 ?h43 ?h44 ?ga_LAST_HAND ?ga_MOST_AT_A_BOX ?ga_MOST_BOXES ?ga_MOST_CALLS ?ga_MOST_FOR_SERIAL ?ga_ValueError ?ga_any ?ga_enumerate ?ga_set ?ga_sorted ?ga_sum ?z_abs ?z_len ?z_max ?z_min ?z_divmod ?z_repr ?z_isinstance ?z_all ?z_range ?z_int ?z_bool ?z_str ?z_tuple ?z_list ?z_dict
  (case ax_AskError=>k_is)
  (case ax_NoBoard=>k_is)
  (case ax_NoCalls=>k_is)
  (case ax_NoNumber=>k_is)
  (case ax_NoOrder=>k_is)
  (case ax_TooMany=>k_is)
  (case ex_AskError=>kernel_rfl)
  (case ex_NoCalls=>kernel_rfl)
  (case ex_TooMany=>kernel_rfl)
  (case kd=>exact L3.kdN_of76 (by kernel_rfl) (fun C h=>by simp only [List.mem_cons,List.not_mem_nil,or_false] at h; rcases h with rfl | rfl | rfl | rfl | rfl | rfl <;> exact ⟨by kernel_rfl,by kernel_rfl,by kernel_rfl,by kernel_rfl,by kernel_rfl⟩))
  (case h1=>exact ⟨by k_is,L2.fun_mk (by k_is) (by k_is) (by k_is)⟩)
  (case h2=>exact ⟨by k_is,L2.fun_mk (by k_is) (by k_is) (by k_is)⟩)
  (case h3=>exact ⟨by k_is,L2.fun_mk (by k_is) (by k_is) (by k_is)⟩)
  (case h4=>exact ⟨by k_is,L2.fun_mk (by k_is) (by k_is) (by k_is)⟩)
  (case h5=>exact ⟨by k_is,L2.fun_mk (by k_is) (by k_is) (by k_is)⟩)
  (case h6=>exact ⟨by k_is,L2.fun_mk (by k_is) (by k_is) (by k_is)⟩)
  (case h7=>exact ⟨by k_is,L2.fun_mk (by k_is) (by k_is) (by k_is)⟩)
  (case h8=>exact ⟨by k_is,L2.fun_mk (by k_is) (by k_is) (by k_is)⟩)
  (case h9=>exact ⟨by k_is,L2.fun_mk (by k_is) (by k_is) (by k_is)⟩)
  (case h10=>exact ⟨by k_is,L2.fun_mk (by k_is) (by k_is) (by k_is)⟩)
  (case h11=>exact ⟨by k_is,L2.fun_mk (by k_is) (by k_is) (by k_is)⟩)
  (case h12=>exact ⟨by k_is,L2.fun_mk (by k_is) (by k_is) (by k_is)⟩)
  (case h13=>exact ⟨by k_is,L2.fun_mk (by k_is) (by k_is) (by k_is)⟩)
  (case h14=>exact ⟨by k_is,L2.fun_mk (by k_is) (by k_is) (by k_is)⟩)
  (case h15=>exact ⟨by k_is,L2.fun_mk (by k_is) (by k_is) (by k_is)⟩)
  (case h16=>exact ⟨by k_is,L2.fun_mk (by k_is) (by k_is) (by k_is)⟩)
  (case h17=>exact ⟨by k_is,L2.fun_mk (by k_is) (by k_is) (by k_is)⟩)
  (case h18=>exact ⟨by k_is,L2.fun_mk (by k_is) (by k_is) (by k_is)⟩)
  (case h19=>exact ⟨by k_is,L2.fun_mk (by k_is) (by k_is) (by k_is)⟩)
  (case h20=>exact ⟨by k_is,L2.fun_mk (by k_is) (by k_is) (by k_is)⟩)
  (case h21=>exact ⟨by k_is,L2.fun_mk (by k_is) (by k_is) (by k_is)⟩)
  (case h22=>exact ⟨by k_is,L2.fun_mk (by k_is) (by k_is) (by k_is)⟩)
  (case h23=>exact ⟨by k_is,L2.fun_mk (by k_is) (by k_is) (by k_is)⟩)
  (case h24=>exact ⟨by k_is,L2.fun_mk (by k_is) (by k_is) (by k_is)⟩)
  (case h25=>exact ⟨by k_is,L2.fun_mk (by k_is) (by k_is) (by k_is)⟩)
  (case h26=>exact ⟨by k_is,L2.fun_mk (by k_is) (by k_is) (by k_is)⟩)
  (case h27=>exact ⟨by k_is,L2.fun_mk (by k_is) (by k_is) (by k_is)⟩)
  (case h28=>exact ⟨by k_is,L2.fun_mk (by k_is) (by k_is) (by k_is)⟩)
  (case h29=>exact ⟨by k_is,L2.fun_mk (by k_is) (by k_is) (by k_is)⟩)
  (case h30=>exact ⟨by k_is,L2.fun_mk (by k_is) (by k_is) (by k_is)⟩)
  (case h31=>exact ⟨by k_is,L2.fun_mk (by k_is) (by k_is) (by k_is)⟩)
  (case h32=>exact ⟨by k_is,L2.fun_mk (by k_is) (by k_is) (by k_is)⟩)
  (case h33=>exact ⟨by k_is,L2.fun_mk (by k_is) (by k_is) (by k_is)⟩)
  (case h34=>exact ⟨by k_is,L2.fun_mk (by k_is) (by k_is) (by k_is)⟩)
  (case h35=>exact ⟨by k_is,L2.fun_mk (by k_is) (by k_is) (by k_is)⟩)
  (case h36=>exact ⟨by k_is,L2.fun_mk (by k_is) (by k_is) (by k_is)⟩)
  (case h37=>exact ⟨by k_is,L2.fun_mk (by k_is) (by k_is) (by k_is)⟩)
  (case h38=>exact ⟨by k_is,L2.fun_mk (by k_is) (by k_is) (by k_is)⟩)
  (case h39=>exact ⟨by k_is,L2.fun_mk (by k_is) (by k_is) (by k_is)⟩)
  (case h40=>exact ⟨by k_is,L2.fun_mk (by k_is) (by k_is) (by k_is)⟩)
  (case h41=>exact ⟨by k_is,L2.fun_mk (by k_is) (by k_is) (by k_is)⟩)
  (case h42=>exact ⟨by k_is,L2.fun_mk (by k_is) (by k_is) (by k_is)⟩)
  (case h43=>exact ⟨by k_is,L2.fun_mk (by k_is) (by k_is) (by k_is)⟩)
  (case h44=>exact ⟨by k_is,L2.fun_mk (by k_is) (by k_is) (by k_is)⟩)
  (case ga_LAST_HAND=>k_is)
  (case ga_MOST_AT_A_BOX=>k_is)
  (case ga_MOST_BOXES=>k_is)
  (case ga_MOST_CALLS=>k_is)
  (case ga_MOST_FOR_SERIAL=>k_is)
  (case ga_ValueError=>k_is)
  (case ga_any=>k_is)
  (case ga_enumerate=>k_is)
  (case ga_set=>k_is)
  (case ga_sorted=>k_is)
  (case ga_sum=>k_is)
  (case z_abs=>k_is); (case z_len=>k_is); (case z_max=>k_is); (case z_min=>k_is); (case z_divmod=>k_is); (case z_repr=>k_is); (case z_isinstance=>k_is); (case z_all=>k_is); (case z_range=>k_is); (case z_int=>k_is); (case z_bool=>k_is); (case z_str=>k_is); (case z_tuple=>k_is); (case z_list=>k_is); (case z_dict=>k_is)
