import PyProof.Rows.All
import Wide.All
import OpenK.AllK
import Wide.FinOn
import Lean
import PyProof.EqAt
import PyProof.EqKinds
import PyProof.TupleCall
import PyProof.NeKinds
import PyProof.ReprRoads
import PyProof.ReprLen
import PyProof.Rows.RegStrFacts
import PyProof.Draws
import PyProof.EnumStmt
import PyProof.ZipIter
import PyProof.ListNew
import PyProof.TupleOfGen
import PyProof.ListRange
import PyProof.Rows.Range3
import PyProof.SumWalkG
import PyProof.Rows.RuleB_lshift
import PyProof.AutoSeq1
import PyProof.Cells
import PyProof.AutoListH
import PyProof.DictTable
import PyProof.RulesAs
import PyProof.NsDelKeeps
import KE.KDictList
import PyProof.DictCompW
import PyProof.DictItems
import PyProof.Rows.SetFrom
import PyProof.SetRoads
import PyProof.IsiH_list
import PyProof.AttrMiss
import KE.KDictOf
import KE.KSortTup
import PyProof.DictWalks
import PyProof.Rows.CallKw2
import PyProof.DictUpdate
import PySem.Challenge.RW_joinedasks_k57_nets_again_and_apart
set_option Elab.async false
set_option linter.all false
set_option maxRecDepth 100000
set_option maxHeartbeats 0
abbrev JN:=PySem.W.Frag
abbrev JO:=PySem.Value->PySem.Shared->Prop
namespace L2
open PySem PySem.Spec PyProof.Rows
abbrev JP:=Sum Int Str
def YV:JP->Value->Bool
 | .inl k,v=>Value.isInt k v
 | .inr x,v=>Value.isStrOf x v
def Ji (w:World):JP->Int
 | .inl k=>hashInt k
 | .inr x=>hashStr w x
theorem yi:∀ {k:JP} {v:Value},YV k v=true->(∃ i t,k=Sum.inl i /\ v=Value.int i t) \/ (∃ x t,k=Sum.inr x /\ v=Value.str x t)
 | .inl i,v,h=>by
  obtain ⟨t,e⟩:=Value.isInt_shape (k:=i) (v:=v) h
  exact .inl ⟨i,t,rfl,e⟩
 | .inr x,v,h=>by
  obtain ⟨t,e⟩:=Value.isStrOf_shape (x:=x) (v:=v) h
  exact .inr ⟨x,t,rfl,e⟩
theorem XV (i:Int) (t:Tok):YV (.inl i) (.int i t)=true:=by simp [YV,Value.isInt]
theorem XW (x:Str) (t:Tok):YV (.inr x) (.str x t)=true:=by simp [YV,Value.isStrOf]
theorem SI (a b:Int):decide ((Sum.inl a:JP)=Sum.inl b)=(a == b):=by
 by_cases e:a=b
 ·subst e; simp
 ·have h:¬ (Sum.inl a:JP)=Sum.inl b:=fun q=>e (Sum.inl.inj q)
  rw [decide_eq_false h]
  exact (beq_eq_false_iff_ne.mpr e).symm
theorem SJ (a b:Str):decide ((Sum.inr a:JP)=Sum.inr b)=decide (a=b):=by
 by_cases e:a=b
 ·subst e; simp
 ·have h:¬ (Sum.inr a:JP)=Sum.inr b:=fun q=>e (Sum.inr.inj q)
  rw [decide_eq_false h,decide_eq_false e]
theorem SK (a:Int) (b:Str):decide ((Sum.inl a:JP)=Sum.inr b)=false:=decide_eq_false (fun q=>nomatch q)
theorem SL (a:Str) (b:Int):decide ((Sum.inr a:JP)=Sum.inl b)=false:=decide_eq_false (fun q=>nomatch q)
def zM (prog:Program) (w:World):PySem.KeyKind prog w JP where
 is:=YV
 hash:=Ji w
 inj:=fun v a b ha hb=>by
  rcases yi ha with ⟨i,t,rfl,rfl⟩ | ⟨x,t,rfl,rfl⟩
  ·rcases yi hb with ⟨j,u,rfl,e⟩ | ⟨y,u,rfl,e⟩
   ·injection e with e1 _; rw [e1]
   ·exact nomatch e
  ·rcases yi hb with ⟨j,u,rfl,e⟩ | ⟨y,u,rfl,e⟩
   ·exact nomatch e
   ·injection e with e1 _; rw [e1]
 byValue:=fun k v h=>by
  rcases yi h with ⟨i,t,rfl,rfl⟩ | ⟨x,t,rfl,rfl⟩ <;> rfl
 pyHash:=fun hv h=>by
  rcases yi hv with ⟨i,t,rfl,rfl⟩ | ⟨x,t,rfl,rfl⟩
  ·exact wpAny_pyHash_int h
  ·exact wpAny_pyHash_str h
 eqBool:=fun hu hv h=>by
  rcases yi hu with ⟨i,t,rfl,rfl⟩ | ⟨x,t,rfl,rfl⟩
  ·rcases yi hv with ⟨j,u,rfl,rfl⟩ | ⟨y,u,rfl,rfl⟩
   ·rw [SI] at h; exact wpAny_eqBool_int h
   ·rw [SK] at h; exact SeqAt.EqAt.int_str i t y u _ _ _ _ h
  ·rcases yi hv with ⟨j,u,rfl,rfl⟩ | ⟨y,u,rfl,rfl⟩
   ·rw [SL] at h; exact SeqAt.EqAt.str_int x t j u _ _ _ _ h
   ·rw [SJ] at h; exact wpAny_eqBool_str h
 «strs»:=fun k x t v h=>by
  rcases yi h with ⟨i,u,rfl,e⟩ | ⟨y,u,rfl,e⟩
  ·exact nomatch e
  ·injection e with e1 _
   subst e1
   cases v <;> rfl
theorem Zx (prog:Program) (w:World) (i:Int) (t:Tok):(zM prog w).is (.inl i) (.int i t)=true:=XV i t
theorem Zy (prog:Program) (w:World) (x:Str) (t:Tok):(zM prog w).is (.inr x) (.str x t)=true:=XW x t
end L2
namespace L2
open PySem PySem.Spec PyProof.Rows
inductive V where
 | non | bl (b:Bool) | int (i:Int) | str (x:Str) | byt (b:Array UInt8) | flt (b:UInt64) | ref (a:Addr) | ty (n:String)
 deriving DecidableEq
def zY:V->Value->Prop
 | .non,u=>u=Value.none
 | .bl b,u=>u=Value.bool b
 | .int i,u=>∃ t,u=Value.int i t
 | .str x,u=>∃ t,u=Value.str x t
 | .byt b,u=>∃ t,u=Value.bytes b t
 | .flt b,u=>∃ t,u=Value.float b t
 | .ref a,u=>u=Value.ref a
 | .ty n,u=>u=Value.type n
abbrev zX:List V->List Value->Prop:=Paired zY
theorem zX.length {xs:List V} {us:List Value} (r:zX xs us):xs.length=us.length:=Paired.length r
theorem zX.get:∀ {xs:List V} {us:List Value} {i:Nat} {x:V},zX xs us->xs[i]? = some x -> ∃ u,us[i]? = some u /\ zY x u
 | _,_,_,_,.nil,e=>by simp at e
 | _,_,0,_,.cons r _,e=>by simp at e; subst e; exact ⟨_,rfl,r⟩
 | _,_,i+1,x,.cons _ t,e=>by
  obtain ⟨u,h1,h2⟩:=zX.get (i:=i) (x:=x) t (by simpa using e)
  exact ⟨u,by simpa using h1,h2⟩
theorem zX.set {x:V} {u:Value} (r:zY x u):∀ {xs:List V} {us:List Value} (i:Nat),zX xs us->zX (xs.set i x) (us.set i u)
 | _,_,_,.nil=>.nil
 | _,_,0,.cons _ t=>.cons r t
 | _,_,i+1,.cons q t=>.cons q (zX.set r i t)
theorem zX.append:∀ {xs ys:List V} {us ws:List Value},zX xs us->zX ys ws->zX (xs ++ ys) (us ++ ws)
 | _,_,_,_,.nil,s=>s
 | _,_,_,_,.cons r t,s=>.cons r (zX.append t s)
theorem zX.take:∀ {xs:List V} {us:List Value} (n:Nat),zX xs us->zX (xs.take n) (us.take n)
 | _,_,0,_=>.nil
 | _,_,_+1,.nil=>.nil
 | _,_,n+1,.cons r t=>.cons r (zX.take n t)
theorem zX.drop:∀ {xs:List V} {us:List Value} (n:Nat),zX xs us->zX (xs.drop n) (us.drop n)
 | _,_,0,r=>r
 | _,_,_+1,.nil=>.nil
 | _,_,n+1,.cons _ t=>zX.drop n t
def je:Option V->Option Value->Prop
 | some v,some u=>zY v u
 | none,none=>True
 | _,_=>False
def KV {κ:Type}:List (κ × V)->List (κ × Value)->Prop:=Paired fun (p:κ × V) (q:κ × Value)=>p.1=q.1 /\ zY p.2 q.2
def kV:JP->V
 | .inl i=>.int i
 | .inr x=>.str x
inductive HO where
 /-- a list -/
 | lst (xs:List V)
 /-- a tuple (never changes) -/
 | tup (xs:List V)
 /-- a dict whose keys are ints and texts; one whose keys are tuples of ints and texts (the empty one is both) -/
 | dK (kvs:List (JP × V)) | dT (kvs:List (List JP × V))
 /-- a set of ints: its members,its size -/
 | set (S:Int->Bool) (n:Nat)
 /-- an instance of the class at C,its dict at dx,its attributes -/
 | ins (C dx:Addr) (fs:List (Str × V))
 /-- the dict of the instance at x -/
 | own (x:Addr)
 /-- the dict of an exception -/
 | xd (fs:List (Str × V))
 /-- a bound method,f of x -/
 | met (f x:Addr)
 /-- a range object lo,lo+1,.. below hi -/
 | rng (lo hi:Int)
 /-- a thing that is known to the object (the script; a dict while a loop walks it): read,never written while it is so -/
 | frz (o:Obj) (u:HO)
 /-- a code object's table -/
 | tbl (ps:Array Value)
 /-- any other thing,by what is true of its one object (a def of one's own: SetO a S n:=HO.ext fun h=>..) -/
 | ext (φ:Heap->Prop)
abbrev Hp:=Addr->Option HO
def JQ (H:Hp) (a:Addr) (o:HO):Hp:=fun b=>if b=a then some o else H b
theorem zc {H:Hp} {a:Addr} {o:HO}:JQ H a o a=some o:=by unfold JQ; rw [if_pos rfl]
theorem zu {H:Hp} {a b:Addr} {o:HO} (h:b ≠ a):JQ H a o b=H b:=by unfold JQ; rw [if_neg h]
theorem Qd {H:Hp} {a b:Addr} {o u:HO} (h:H a=some o) (h':H b=some u) (d:o ≠ u):a ≠ b:=by
 intro e; subst e; rw [h] at h'; exact d (Option.some.inj h')
theorem zA {H:Hp} {a b:Addr} {o:HO} (h:H a=some o) (h':H b=none):a ≠ b:=by
 intro e; subst e; rw [h] at h'; cases h'
section
variable (P:Program) (w:World)
def yw (H:Hp) (h:Heap) (a:Addr):HO->Prop
 | .lst xs=>xs.length<=sizeLine /\ ∃ (its:List Value) (n:Nat),zX xs its /\ h.get? a=some { cls:=.type "list",data:=.seq its.toArray n }
 | .tup xs=>xs.length<=sizeLine /\ ∃ its:List Value,zX xs its /\ IsTup h a its.toArray
 | .dK kvs=>kvs.length<=sizeLine /\ (a == sysModules)=false /\ ∃ vs,KV kvs vs /\ h.DictOf (zM P w) a vs
 | .dT kvs=>kvs.length<=sizeLine /\ (a == sysModules)=false /\ ∃ xs:List (List JP × Addr × Value),
   Paired (fun (p:List JP × V) (q:List JP × Addr × Value)=>p.1=q.1 /\ H q.2.1=some (.tup (p.1.map kV)) /\ zY p.2 q.2.2) kvs xs ∧
   ∃ o es ep,h.get? a=some o /\ o.ExactDict /\ o.data = .dict es ep /\ es.toList=xs.map (entryOfKey (tupleKind (zM P w))) /\ (xs.map (·.1)).Nodup
 | .set S n=>h.SetOf (intKind P w) a S n
 | .ins C dx fs=>H dx=some (.own a) /\ fs.length<=1000 /\ dx ≠ a /\ h.get? a=some (PySem.W.instObj C dx) ∧
   ∃ mA,h.Ns1 dx mA /\ (∀ f,je (fs.lookup f) (mA f)) /\ PySem.Within mA (fs.map (·.1))
 | .own _=>∃ o,h.get? a=some o
 | .xd fs=>∃ mA,h.Ns1 a mA /\ ∀ f,je (fs.lookup f) (mA f)
 | .rng lo hi=>∃ t u v,h.get? a=some { cls:=.type "range",data:=.fields #[.int lo t,.int hi u,.int 1 v] }
 | .frz o u=>h.get? a=some o /\ yw H h a u
 | .tbl ps=>h.get? a=some { cls:=.none,data:=.fields ps }
 | .met f x=>h.get? a=some (PySem.W.methodObj (.ref f) (.ref x))
 | .ext φ=>φ h /\ (∃ o,h.get? a=some o) /\ ∀ h1 h2:Heap,φ h1->(∀ o,h1.get? a=some o->h2.get? a=some o) -> φ h2
def JR (H:Hp) (h:Heap):Prop:=∀ a o,H a=some o->yw P w H h a o
end
section
variable {P:Program} {w:World} {H H':Hp} {h h':Heap} {a:Addr} {o:HO}
theorem yw.lt (x:yw P w H h a o):a < h.objs.size:=by
 cases o with
 | lst xs=>obtain ⟨_,_,_,_,e⟩:=x; exact Heap.lt_size e
 | tup xs=>obtain ⟨_,_,_,p⟩:=x; exact p.lt
 | dK kvs=>obtain ⟨_,_,_,_,o,_,_,e,_⟩:=x; exact Heap.lt_size e
 | dT kvs=>obtain ⟨_,_,_,_,o,_,_,e,_⟩:=x; exact Heap.lt_size e
 | set S n=>obtain ⟨o,_,_,_,e,_⟩:=x; exact Heap.lt_size e
 | ins C dx fs=>obtain ⟨_,_,_,e,_⟩:=x; exact Heap.lt_size e
 | own y=>obtain ⟨_,e⟩:=x; exact Heap.lt_size e
 | xd fs=>obtain ⟨_,⟨_,_,_,e,_⟩,_⟩:=x; exact Heap.lt_size e
 | rng lo hi=>obtain ⟨_,_,_,e⟩:=x; exact Heap.lt_size e
 | frz ob u=>obtain ⟨e,_⟩:=x; exact Heap.lt_size e
 | tbl ps=>exact Heap.lt_size (show h.get? a=some _ from x)
 | met f y=>exact Heap.lt_size (show h.get? a=some _ from x)
 | ext φ=>obtain ⟨_,⟨_,e⟩,_⟩:=x; exact Heap.lt_size e
theorem Paired.mapP {α β:Type} {F G:α -> β -> Prop}:∀ {l₁:List α} {l₂:List β},Paired F l₁ l₂ -> (∀ a b,F a b->G a b)->Paired G l₁ l₂
 | _,_,.nil,_=>.nil
 | _,_,.cons r t,f=>.cons (f _ _ r) (Paired.mapP t f)
theorem yw.stay (x:yw P w H h a o) (k:∀ b u,(b=a \/ H b=some (.own a))->h.get? b=some u->h'.get? b=some u)
  (ho:∀ b,H b=some (.own a)->H' b=some (.own a)) (ht:∀ b xs,H b=some (.tup xs)->H' b=some (.tup xs)):yw P w H' h' a o:=by
 induction o with
 | lst xs=>obtain ⟨z,its,n,r,e⟩:=x; exact ⟨z,its,n,r,k _ _ (.inl rfl) e⟩
 | tup xs=>obtain ⟨z,its,r,ob,e,c⟩:=x; exact ⟨z,its,r,ob,k _ _ (.inl rfl) e,c⟩
 | dK kvs=>obtain ⟨z,y,vs,r,ob,es,ep,e,c⟩:=x; exact ⟨z,y,vs,r,ob,es,ep,k _ _ (.inl rfl) e,c⟩
 | dT kvs =>
  obtain ⟨z,y,xs,r,ob,es,ep,e,c⟩:=x
  exact ⟨z,y,xs,Paired.mapP r fun p q z=>⟨z.1,ht _ _ z.2.1,z.2.2⟩,ob,es,ep,k _ _ (.inl rfl) e,c⟩
 | set S n=>obtain ⟨ob,es,ep,t,e,c⟩:=x; exact ⟨ob,es,ep,t,k _ _ (.inl rfl) e,c⟩
 | ins C dx fs =>
  obtain ⟨d,z,ne,e,mA,⟨od,es,ep,e2,c⟩,r⟩:=x
  exact ⟨ho _ d,z,ne,k _ _ (.inl rfl) e,mA,⟨od,es,ep,k _ _ (.inr d) e2,c⟩,r⟩
 | own y=>obtain ⟨ob,e⟩:=x; exact ⟨ob,k _ _ (.inl rfl) e⟩
 | xd fs=>obtain ⟨mA,⟨od,es,ep,e,c⟩,r⟩:=x; exact ⟨mA,⟨od,es,ep,k _ _ (.inl rfl) e,c⟩,r⟩
 | rng lo hi=>obtain ⟨t,u,v,e⟩:=x; exact ⟨t,u,v,k _ _ (.inl rfl) e⟩
 | frz ob u ih=>obtain ⟨e,q⟩:=x; exact ⟨k _ _ (.inl rfl) e,ih q⟩
 | tbl ps =>
  have e:h.get? a=some { cls:=.none,data:=.fields ps }:=x
  show h'.get? a=some { cls:=.none,data:=.fields ps }
  exact k a _ (.inl rfl) e
 | met f y =>
  have e:h.get? a=some (PySem.W.methodObj (.ref f) (.ref y)):=x
  show h'.get? a=some (PySem.W.methodObj (.ref f) (.ref y))
  exact k a _ (.inl rfl) e
 | ext φ=>obtain ⟨p,⟨o,e⟩,st⟩:=x; exact ⟨st _ _ p fun o q=>k _ _ (.inl rfl) q,⟨o,k _ _ (.inl rfl) e⟩,st⟩
theorem JR.lt (x:JR P w H h) (e:H a=some o):a < h.objs.size:=(x a o e).lt
theorem JR.fresh (x:JR P w H h) (e:h.objs.size<=a):H a=none:=by
 cases q:H a with
 | none=>rfl
 | some u=>exact absurd (Nat.lt_of_lt_of_le (x.lt q) e) (Nat.lt_irrefl _)
theorem JR.kept (x:JR P w H h) (k:∀ b u,h.get? b=some u->h'.get? b=some u):JR P w H h':=fun a o e =>
 (x a o e).stay (fun b u _ q=>k b u q) (fun _ q=>q) fun _ _ q=>q
theorem JR.laid (x:JR P w H h) (k:∀ b u,h.get? b=some u->h'.get? b=some u) (hp:h.objs.size<=a) (new:yw P w (JQ H a o) h' a o):JR P w (JQ H a o) h':=fun b u e=>by
 have hn:=x.fresh hp
 by_cases hb:b=a
 ·subst hb; rw [zc] at e; cases e; exact new
 ·rw [zu hb] at e
  exact (x b u e).stay (fun c v _ q=>k c v q) (fun c q=>by rw [zu (zA q hn)]; exact q) fun c xs q=>by rw [zu (zA q hn)]; exact q
end
def Rd (H:Hp) (a:Addr) (u:HO):Prop:=H a=some u \/ ∃ o,H a=some (.frz o u)
theorem Rd.ok {P:Program} {w:World} {H:Hp} {h:Heap} {a:Addr} {u:HO} (r:Rd H a u) (x:JR P w H h):yw P w H h a u:=by
 rcases r with r | ⟨o,r⟩
 ·exact x a u r
 ·obtain ⟨_,q⟩:=x a _ r
  exact q
def JS:Option HO->Prop
 | some (.lst _)=>True
 | some (.dK _)=>True
 | some (.dT _)=>True
 | some (.set _ _)=>True
 | some (.ins _ _ _)=>True
 | some (.ext _)=>True
 | _=>False
section
variable {P:Program} {w:World} {H:Hp} {h h':Heap} {x e:Addr} {o':HO}
theorem JR.write (ok:JR P w H h) (mu:JS (H x)) (he:e=x \/ H e=some (.own x)) (k:∀ b u,b ≠ e->h.get? b=some u->h'.get? b=some u) (heo:∃ u,h'.get? e=some u)
  (new:yw P w (JQ H x o') h' x o'):JR P w (JQ H x o') h':=fun b u q=>by
 have nown:∀ c y,H c=some (.own y)->c ≠ x:=fun c y r z=>by subst z; rw [r] at mu; exact mu
 have ntup:∀ c xs,H c=some (.tup xs)->c ≠ x:=fun c xs r z=>by subst z; rw [r] at mu; exact mu
 by_cases hb:b=x
 ·subst hb; rw [zc] at q; cases q; exact new
 ·rw [zu hb] at q
  by_cases hbe:b=e
  ·have q':H b=some (.own x):=by
    rcases he with z | z
    ·exact absurd (hbe.trans z) hb
    ·rw [hbe]; exact z
   rw [q] at q'; cases q'
   obtain ⟨v,hv⟩:=heo
   exact ⟨v,by rw [hbe]; exact hv⟩
  ·refine (ok b u q).stay (fun c v hc r=>k c v ?_ r) (fun c r=>by rw [zu (nown c b r)]; exact r) fun c xs r=>by rw [zu (ntup c xs r)]; exact r
   rcases hc with rfl | hc
   ·exact hbe
   ·rintro rfl
    rcases he with z | z
    ·exact nown c b hc z
    ·rw [hc] at z; cases z; exact hb rfl
end
structure Un (fs ex:List Addr) (H H':Hp) (h h':Heap):Prop where
 keep:∀ b o,h.get? b=some o->H b=none->b ∉ fs->b ∉ ex->h'.get? b=some o
 slot:∀ b o,h.get? b=some o->H b=none->b ∈ fs->b ∉ ex -> ∃ sl,h'.get? b=some { o with slots:=sl }
 free:∀ b o,h.get? b=some o->H b=none->b ∉ ex->H' b=none
 there:∀ b o,h.get? b=some o->b ∉ ex -> ∃ o',h'.get? b=some o'
 tups:∀ b xs,H b=some (.tup xs)->H' b=some (.tup xs)
 frzs:∀ b o u,H b=some (.frz o u)->H' b=some (.frz o u)
 tbls:∀ b ps,H b=some (.tbl ps) -> ∃ more,H' b=some (.tbl (ps ++ more))
section
variable {fs fs' ex ex':List Addr} {H H1 H2:Hp} {h h1 h2 h':Heap} {a x e:Addr} {o:HO}
theorem Un.any (u:Un fs ex H H1 h h1) {b:Addr} {ob:Obj} (q:h.get? b=some ob) (n:H b=none) (hx:b ∉ ex):∃ sl,h1.get? b=some { ob with slots:=sl }:=by
 by_cases hb:b ∈ fs
 ·exact u.slot b ob q n hb hx
 ·exact ⟨ob.slots,u.keep b ob q n hb hx⟩
theorem Un.kept (k:∀ b u,h.get? b=some u->h'.get? b=some u):Un fs ex H H h h' :=
 ⟨fun b ob q _ _ _=>k b ob q,fun b ob q _ _ _=>⟨ob.slots,k b ob q⟩,fun _ _ _ n _=>n,fun b ob q _=>⟨ob,k b ob q⟩,fun _ _ q=>q,fun _ _ _ q=>q,fun _ ps q=>⟨#[],by rw [q]; simp⟩⟩
theorem Un.refl:Un fs ex H H h h:=Un.kept fun _ _ q=>q
theorem Un.laid (k:∀ b u,h.get? b=some u->h'.get? b=some u) (hp:h.objs.size<=a) (hn:H a=none):Un fs ex H (JQ H a o) h h' where
 keep:=fun b u q _ _ _=>k b u q
 slot:=fun b u q _ _ _=>⟨u.slots,k b u q⟩
 free:=fun b u q n _=>by rw [zu (Nat.ne_of_lt (Nat.lt_of_lt_of_le (Heap.lt_size q) hp))]; exact n
 there:=fun b u q _=>⟨u,k b u q⟩
 tups:=fun b xs q=>by rw [zu (zA q hn)]; exact q
 frzs:=fun b u xs q=>by rw [zu (zA q hn)]; exact q
 tbls:=fun b ps q=>⟨#[],by rw [zu (zA q hn),q]; simp⟩
theorem Un.write (mu:JS (H x)) (he:e=x \/ H e=some (.own x)) (k:∀ b u,b ≠ e->h.get? b=some u->h'.get? b=some u) (heo:∃ u,h'.get? e=some u):Un fs ex H (JQ H x o) h h':=by
 have hx:∀ b,H b=none->b ≠ x:=fun b n z=>by subst z; rw [n] at mu; exact mu
 have hb:∀ b,H b=none->b ≠ e:=fun b n z=>by
  subst z
  rcases he with r | r
  ·exact hx b n r
  ·rw [n] at r; cases r
 have hm:∀ b u,H b=some u -> ¬ JS (some u)->b ≠ x:=fun b u q nm z=>by subst z; rw [q] at mu; exact nm mu
 refine ⟨fun b u q n _ _=>k b u (hb b n) q,fun b u q n _ _=>⟨u.slots,k b u (hb b n) q⟩,fun b u q n _=>by rw [zu (hx b n)]; exact n,fun b u q _=>?_,
  fun b xs q=>by rw [zu (hm b _ q fun z=>z)]; exact q,fun b u xs q=>by rw [zu (hm b _ q fun z=>z)]; exact q,fun b ps q=>⟨#[],by rw [zu (hm b _ q fun z=>z),q]; simp⟩⟩
 by_cases hbe:b=e
 ·subst hbe; exact heo
 ·exact ⟨u,k b u hbe q⟩
end
def JT (h:Heap) (H:Hp):List Addr:=(List.range h.objs.size).filter fun a=>(H a).isSome
def VR (h:Heap) (H:Hp):Heap:=PySem.W.hideAll h (JT h H)
theorem XX (h:Heap) (H:Hp):(VR h H).objs.size=h.objs.size:=PySem.W.hideAll_size _ _
theorem VS {h:Heap} {H:Hp} {b:Addr} {o:Obj} (e:h.get? b=some o) (n:H b=none):(VR h H).get? b=some o :=
 PySem.W.hideAll_get _ e fun hm=>by
  have q:(H b).isSome=true:=(List.mem_filter.mp hm).2
  rw [n] at q; simp at q
theorem Tk {h:Heap} {H:Hp} {b:Addr} {o:Obj} (e:(VR h H).get? b=some o):h.get? b=some o /\ H b=none:=by
 have e':h.get? b=some o:=PySem.W.of_hideAll (JT h H) e
 refine ⟨e',?_⟩
 cases q:H b with
 | none=>rfl
 | some x =>
  have hm:b ∈ JT h H:=List.mem_filter.mpr ⟨List.mem_range.mpr (Heap.lt_size e'),by simp [q]⟩
  have z:(VR h H).get? b=none:=PySem.W.hideAll_none (JT h H) hm
  rw [z] at e; cases e
end L2
namespace L2
open PySem PySem.Spec PyProof.Rows
structure Mod (K:JN) (mg:Str->Option Value) (base:Heap):Prop where
 kin:K.In base
 glob:base.Ns mainGlobals mg
 blt:∃ mb,base.Ns builtinsNs mb /\ ∀ x:Str,x ≠ "__name__" -> mb x=bootBuiltins x
 nolimit:base.NoLimit
structure Cx where
 prog:Program
 w:World
 K:JN
 mg:Str->Option Value
 base:Heap
 A:Around
 N:List Str
 s₀:Shared
 H₀:Hp
 env:Env
 outer:List Env
 stack:List Env
 ex:List Addr
 fn:Str->Bool
 calm:Bool
 pn:List (Addr × Obj)
 xe:JO
def JU (l:List Env):List Addr:=l.filterMap (·.frame)
abbrev Cx.fs (X:Cx):List Addr:=JU X.outer
def JV (sc:Scope) (x:Str):Prop:=sc.names.lookup x=some .local \/ sc.names.lookup x=some .cell \/ sc.names.lookup x=some .free
def JW (sc:Scope) (x:Str):Prop:=sc.names.lookup x=some .local \/ sc.names.lookup x=some .cell
def Jj (env:Env) (h:Heap) (m:Str->Option Value) (x:Str) (u:Value):Prop :=
 (env.kindOf x=some .local /\ m x=some u) \/ ((env.kindOf x=some .cell \/ env.kindOf x=some .free) /\ ∃ c,env.cells.lookup x=some c /\ h.IsCell c (some u))
structure Cx.Ok (X:Cx):Prop where
 mod:Mod X.K X.mg X.base
 kind:X.env.scope.kind = .function
 glob:X.env.globals=mainGlobals
 blt:X.env.builtins=builtinsNs
 above:X.s₀.heap.objs.size<=X.env.locals
 inj:∀ x y c,X.env.cells.lookup x=some c->X.env.cells.lookup y=some c->x=y
 has:∀ x,(X.env.kindOf x=some .cell \/ X.env.kindOf x=some .free) -> ∃ c,X.env.cells.lookup x=some c
 cab:∀ x c,X.fn x=true->X.env.cells.lookup x=some c->X.s₀.heap.objs.size<=c
 hd:X.calm=true->X.A.handled=none
 frames:X.A.frames=some X.stack
 stk:X.stack=X.outer \/ (X.stack=X.env :: X.outer /\ X.env.frame=some X.env.locals)
 exf:∀ b ∈ X.ex,b ≠ X.env.locals /\ ∀ x c,X.env.cells.lookup x=some c->c ≠ b
 bs:∀ b o,X.base.get? b=some o->X.s₀.heap.get? b=some o /\ X.H₀ b=none
 bsz:X.base.objs.size<=X.s₀.heap.objs.size
 noex:∀ b o,X.base.get? b=some o->b ∉ X.ex
 exfs:∀ b ∈ X.ex,b ∉ X.fs
 funs:X.s₀.heap.FunFrames X.base X.outer
 frf:∀ b ∈ X.fs,X.H₀ b=none
structure Inv (X:Cx) (pins:List (Addr × Obj)) (σ:List (Option V)) (H:Hp) (s:Shared):Prop where
 ok:X.Ok
 os:s.os=X.s₀.os
 bare:AllBare s.gens
 base:Un X.fs X.ex X.H₀ H X.s₀.heap s.heap
 loc:∃ m,s.heap.Ns X.env.locals m /\ ∀ (i:Nat) (x:Str) (v:V),X.N[i]? = some x -> σ[i]? = some (some v)->JV X.env.scope x -> ∃ u,zY v u /\ Jj X.env s.heap m x u
 cell:∀ x c,X.env.cells.lookup x=some c -> ∃ v,s.heap.IsCell c v
 free:H X.env.locals=none
 freeC:∀ x c,X.env.cells.lookup x=some c->H c=none
 pin:∀ p ∈ X.pn ++ pins,s.heap.get? p.1=some p.2 /\ H p.1=none /\ p.1 ≠ X.env.locals /\ p.1 ∉ X.fs /\ ∀ v,p.2.data ≠ .cell v
 hok:JR X.prog X.w H s.heap
 len:σ.length=X.N.length
section
variable {X:Cx} {pins:List (Addr × Obj)} {σ:List (Option V)} {H H':Hp} {s:Shared} {h':Heap}
theorem Cx.Ok.nofr (ok:X.Ok) {b:Addr} {o:Obj} (e:X.base.get? b=some o):b ∉ X.fs:=fun hb=>by
 have:=(ok.funs.mem hb).1
 rw [e] at this; cases this
theorem Inv.bs (I:Inv X pins σ H s):∀ b o,X.base.get? b=some o->s.heap.get? b=some o /\ H b=none:=fun b o e =>
 ⟨I.base.keep b o (I.ok.bs b o e).1 (I.ok.bs b o e).2 (I.ok.nofr e) (I.ok.noex b o e),I.base.free b o (I.ok.bs b o e).1 (I.ok.bs b o e).2 (I.ok.noex b o e)⟩
theorem Inv.bk (I:Inv X pins σ H s):∀ b o,X.base.get? b=some o->s.heap.get? b=some o:=fun b o e=>(I.bs b o e).1
theorem Inv.mod (I:Inv X pins σ H s):Mod X.K X.mg X.base:=I.ok.mod
theorem Inv.kIn (I:Inv X pins σ H s):X.K.In s.heap:=I.ok.mod.kin.keeps I.bk
theorem Inv.lt (I:Inv X pins σ H s):X.env.locals < s.heap.objs.size:=let ⟨_,hn,_⟩:=I.loc; hn.lt
theorem Inv.sz (I:Inv X pins σ H s):X.s₀.heap.objs.size<=s.heap.objs.size:=Nat.le_trans I.ok.above (Nat.le_of_lt I.lt)
theorem Inv.nofs (I:Inv X pins σ H s) {a:Addr} (h:s.heap.objs.size<=a):a ∉ X.fs:=fun hb=>by
 obtain ⟨_,o,ho,_⟩:=I.ok.funs.mem hb
 exact absurd (Nat.lt_of_lt_of_le (Heap.lt_size ho) (Nat.le_trans I.sz h)) (Nat.lt_irrefl _)
theorem Inv.cne (I:Inv X pins σ H s):∀ x c,X.env.cells.lookup x=some c->c ≠ X.env.locals:=fun x c e z=>by
 obtain ⟨v,o,ho,hd⟩:=I.cell x c e
 obtain ⟨m,⟨o',es,ep,ho',hd',_⟩,_⟩:=I.loc
 rw [z,ho'] at ho; cases ho; rw [hd'] at hd; cases hd
theorem Inv.funs (I:Inv X pins σ H s):s.heap.FunFrames X.base X.outer:=by
 have all:∀ (l:List Env),(∀ b ∈ JU l,b ∈ X.fs)->X.s₀.heap.FunFrames X.base l->s.heap.FunFrames X.base l:=by
  intro l
  induction l with
  | nil=>intro _ _; trivial
  | cons env r ih =>
   intro hs hl
   obtain ⟨hk,⟨L,o,hf,hn,ho,hd⟩,hr⟩:=hl
   have hL:L ∈ X.fs:=hs L (by unfold JU; rw [List.filterMap_cons,hf]; exact List.mem_cons_self)
   obtain ⟨sl,e⟩:=I.base.slot L o ho (I.ok.frf L hL) hL fun z=>I.ok.exfs L z hL
   exact ⟨hk,⟨L,_,hf,hn,e,hd⟩,ih (fun b hb=>hs b (by unfold JU; rw [List.filterMap_cons,hf]; exact List.mem_cons_of_mem _ hb)) hr⟩
 exact all X.outer (fun _ hb=>hb) I.ok.funs
theorem Inv.stack (I:Inv X pins σ H s):s.heap.FunFrames X.base X.stack:=by
 rcases I.ok.stk with e | ⟨e,hf⟩
 ·rw [e]; exact I.funs
 ·rw [e]
  obtain ⟨m,hn,_⟩:=I.loc
  refine .cons (by rw [I.ok.kind]; decide) hf hn ?_ I.funs
  exact Heap.get?_none_of_le (Nat.le_trans I.ok.bsz I.ok.above)
theorem Inv.stkSub (I:Inv X pins σ H s):∀ b ∈ JU X.stack,b ∈ X.env.locals :: X.fs:=fun b hb=>by
 rcases I.ok.stk with e | ⟨e,hf⟩
 ·rw [e] at hb; exact List.mem_cons_of_mem _ hb
 ·rw [e] at hb
  unfold JU at hb
  rw [List.filterMap_cons,hf] at hb
  exact hb
theorem Inv.stkFree (I:Inv X pins σ H s):∀ b ∈ JU X.stack,H b=none:=fun b hb=>by
 rcases List.mem_cons.mp (I.stkSub b hb) with e | hb
 ·rw [e]; exact I.free
 ·obtain ⟨_,o,ho,_⟩:=I.ok.funs.mem hb
  exact I.base.free b o ho (I.ok.frf b hb) fun z=>I.ok.exfs b z hb
theorem Inv.step {g':Array GenState} {t':Nat} {d':Drawn} {ch:List Addr} (I:Inv X pins σ H s)
  (hch:∀ b ∈ ch,(b ∈ X.ex \/ X.s₀.heap.objs.size<=b) /\ b ≠ X.env.locals /\ (∀ x c,X.env.cells.lookup x=some c->c ≠ b) /\ ∀ p ∈ X.pn ++ pins,p.1 ≠ b)
  (keep:∀ b o,b ≠ X.env.locals->b ∉ X.fs->b ∉ ch->s.heap.get? b=some o->H b=none->h'.get? b=some o)
  (slot:∀ b o,b ≠ X.env.locals->b ∈ X.fs->b ∉ ch->s.heap.get? b=some o->H b=none -> ∃ sl,h'.get? b=some { o with slots:=sl }) (free:∀ b o,b ∉ ch->s.heap.get? b=some o->H b=none->H' b=none)
  (there:∀ b o,b ∉ ch->s.heap.get? b=some o -> ∃ o',h'.get? b=some o')
  (tups:∀ b xs,H b=some (.tup xs)->H' b=some (.tup xs)) (frzs:∀ b o u,H b=some (.frz o u)->H' b=some (.frz o u)) (tbls:∀ b ps,H b=some (.tbl ps) -> ∃ more,H' b=some (.tbl (ps ++ more)))
  (ns:∀ m,s.heap.Ns X.env.locals m->h'.Ns X.env.locals m) (hok:JR X.prog X.w H' h') (hg:AllBare g') :
  Inv X pins σ H' { s with heap:=h',gens:=g',drawn:=d',toks:=t' }:=by
 have neL:∀ b o,X.s₀.heap.get? b=some o->b ≠ X.env.locals:=fun b o e=>Nat.ne_of_lt (Nat.lt_of_lt_of_le (Heap.lt_size e) I.ok.above)
 have neC:∀ b o,X.s₀.heap.get? b=some o->b ∉ X.ex->b ∉ ch:=fun b o e hx hb=>by
  rcases (hch b hb).1 with z | z
  ·exact hx z
  ·exact absurd (Nat.lt_of_lt_of_le (Heap.lt_size e) z) (Nat.lt_irrefl _)
 have cellK:∀ x c,X.env.cells.lookup x=some c -> ∀ v,s.heap.IsCell c v->h'.IsCell c v:=fun x c e v ⟨o,ho,hd⟩=>by
  have nch:c ∉ ch:=fun z=>(hch c z).2.2.1 x c e rfl
  by_cases hc:c ∈ X.fs
  ·obtain ⟨sl,q⟩:=slot c o (I.cne x c e) hc nch ho (I.freeC x c e)
   exact ⟨_,q,hd⟩
  ·exact ⟨o,keep c o (I.cne x c e) hc nch ho (I.freeC x c e),hd⟩
 refine ⟨I.ok,I.os,hg,⟨fun b o e n hb hx=>?_,fun b o e n hb hx=>?_,fun b o e n hx=>?_,fun b o e hx=>?_,fun b xs e=>tups b xs (I.base.tups b xs e),fun b o xs e=>frzs b o xs (I.base.frzs b o xs e),fun b ps e=>?_⟩,?_,fun x c e=>?_,?_,fun x c e=>?_,fun p hp=>?_,hok,I.len⟩
 ·exact keep b o (neL b o e) hb (neC b o e hx) (I.base.keep b o e n hb hx) (I.base.free b o e n hx)
 ·obtain ⟨sl,e1⟩:=I.base.slot b o e n hb hx
  obtain ⟨sl',e2⟩:=slot b _ (neL b o e) hb (neC b o e hx) e1 (I.base.free b o e n hx)
  exact ⟨sl',e2⟩
 ·obtain ⟨o',e1⟩:=I.base.there b o e hx
  exact free b o' (neC b o e hx) e1 (I.base.free b o e n hx)
 ·obtain ⟨o',e1⟩:=I.base.there b o e hx
  exact there b o' (neC b o e hx) e1
 ·obtain ⟨m1,e1⟩:=I.base.tbls b ps e
  obtain ⟨m2,e2⟩:=tbls b _ e1
  exact ⟨m1 ++ m2,by rw [e2,Array.append_assoc]⟩
 ·obtain ⟨m,hn,hl⟩:=I.loc
  refine ⟨m,ns m hn,fun i x v e1 e2 e3=>?_⟩
  obtain ⟨u,r,l⟩:=hl i x v e1 e2 e3
  refine ⟨u,r,?_⟩
  rcases l with l | ⟨k,c,e,z⟩
  ·exact .inl l
  ·exact .inr ⟨k,c,e,cellK x c e _ z⟩
 ·obtain ⟨v,z⟩:=I.cell x c e
  exact ⟨v,cellK x c e v z⟩
 ·obtain ⟨m,⟨o,_,_,ho,_⟩,_⟩:=I.loc
  exact free _ o (fun z=>(hch _ z).2.1 rfl) ho I.free
 ·obtain ⟨v,o,ho,hd⟩:=I.cell x c e
  exact free c o (fun z=>(hch c z).2.2.1 x c e rfl) ho (I.freeC x c e)
 ·obtain ⟨e,n,ne,nf,d⟩:=I.pin p hp
  have nch:p.1 ∉ ch:=fun z=>(hch p.1 z).2.2.2 p hp rfl
  exact ⟨keep p.1 p.2 ne nf nch e n,free p.1 p.2 nch e n,ne,nf,d⟩
theorem Inv.un {t':Nat} (I:Inv X pins σ H s) (u:Un X.fs [] H H' s.heap h') (hok:JR X.prog X.w H' h'):Inv X pins σ H' { s with heap:=h',toks:=t' }:=by
 obtain ⟨m,⟨o,es,ep,ho,r⟩,_⟩:=id I.loc
 obtain ⟨sl,hL⟩:=u.any ho I.free (by simp)
 exact I.step (g':=s.gens) (d':=s.drawn) (ch:=[]) (fun _ z=>nomatch z) (fun b o _ hb _ e n=>u.keep b o e n hb (by simp)) (fun b o _ hb _ e n=>u.slot b o e n hb (by simp)) (fun b o _ e n=>u.free b o e n (by simp)) (fun b o _ e=>u.there b o e (by simp)) u.tups u.frzs u.tbls (fun m' hm=>by
  obtain ⟨o',es',ep',ho',r'⟩:=hm
  rw [ho] at ho'; cases ho'
  exact ⟨_,es',ep',hL,r'⟩) hok I.bare
theorem Inv.call {g':Array GenState} {t':Nat} {d':Drawn} {ch:List Addr} (I:Inv X pins σ H s) (u:Un (JU X.stack) ch H H' s.heap h') (hok:JR X.prog X.w H' h') (hg:AllBare g')
  (hch:∀ b ∈ ch,(b ∈ X.ex \/ X.s₀.heap.objs.size<=b) /\ b ≠ X.env.locals /\ (∀ x c,X.env.cells.lookup x=some c->c ≠ b) /\ ∀ p ∈ X.pn ++ pins,p.1 ≠ b) :
  Inv X pins σ H' { s with heap:=h',gens:=g',drawn:=d',toks:=t' }:=by
 obtain ⟨m,⟨o,es,ep,ho,r⟩,_⟩:=id I.loc
 obtain ⟨sl,hL⟩:=u.any ho I.free fun z=>(hch _ z).2.1 rfl
 exact I.step (ch:=ch) hch (fun b o hL hb hc e n=>u.keep b o e n (fun z=>(List.mem_cons.mp (I.stkSub b z)).elim hL hb) hc) (fun b o _ _ hc e n=>u.any e n hc) (fun b o hc e n=>u.free b o e n hc) (fun b o hc e=>u.there b o e hc) u.tups u.frzs u.tbls (fun m' hm=>by
  obtain ⟨o',es',ep',ho',r'⟩:=hm
  rw [ho] at ho'; cases ho'
  exact ⟨_,es',ep',hL,r'⟩) hok hg
theorem Inv.turned {t':Nat} {it:Addr} (I:Inv X pins σ H s) (k:∀ b o,b ≠ it->s.heap.get? b=some o->h'.get? b=some o) (hn:H it=none) (hL:it ≠ X.env.locals)
  (h1:it ∈ X.ex \/ X.s₀.heap.objs.size<=it) (h2:∀ x c,X.env.cells.lookup x=some c->c ≠ it) (h3:∀ p ∈ X.pn ++ pins,p.1 ≠ it):Inv X pins σ H { s with heap:=h',toks:=t' }:=by
 have nit:∀ b u,H b=some u->b ≠ it:=fun b u e z=>by rw [z,hn] at e; cases e
 refine I.step (g':=s.gens) (d':=s.drawn) (ch:=[it]) (fun b hb=>?_) (fun b o _ _ hc e _=>k b o (fun z=>hc (by simp [z])) e) (fun b o _ _ hc e _=>⟨o.slots,k b o (fun z=>hc (by simp [z])) e⟩) (fun _ _ _ _ n=>n)
  (fun b o hc e=>⟨o,k b o (fun z=>hc (by simp [z])) e⟩) (fun _ _ e=>e) (fun _ _ _ e=>e) (fun b ps e=>⟨#[],by rw [e]; simp⟩) (fun m hm=>?_) (fun b u e=>?_) I.bare
 ·have e:b=it:=by simpa using hb
  subst e
  exact ⟨h1,hL,h2,h3⟩
 ·obtain ⟨o,es,ep,ho,r⟩:=hm
  exact ⟨o,es,ep,k _ o (Ne.symm hL) ho,r⟩
 ·refine (I.hok b u e).stay (fun c v hc q=>k c v ?_ q) (fun _ q=>q) fun _ _ q=>q
  rcases hc with z | z
  ·rw [z]; exact nit b u e
  ·exact nit c _ z
theorem Inv.tok (I:Inv X pins σ H s) (t:Nat):Inv X pins σ H { s with toks:=t }:=I.un (h':=s.heap) (t':=t) Un.refl I.hok
theorem Inv.kept {t':Nat} (I:Inv X pins σ H s) (k:∀ b u,s.heap.get? b=some u->h'.get? b=some u):Inv X pins σ H { s with heap:=h',toks:=t' }:=I.un (Un.kept k) (I.hok.kept k)
theorem Inv.laid {a:Addr} {o:HO} {t':Nat} (I:Inv X pins σ H s) (k:∀ b u,s.heap.get? b=some u->h'.get? b=some u) (hp:s.heap.objs.size<=a) (new:yw X.prog X.w (JQ H a o) h' a o) :
  Inv X pins σ (JQ H a o) { s with heap:=h',toks:=t' }:=I.un (Un.laid k hp (I.hok.fresh hp)) (I.hok.laid k hp new)
theorem Inv.write {x e:Addr} {o:HO} {t':Nat} (I:Inv X pins σ H s) (mu:JS (H x)) (he:e=x \/ H e=some (.own x)) (k:∀ b u,b ≠ e->s.heap.get? b=some u->h'.get? b=some u) (heo:∃ u,h'.get? e=some u)
  (new:yw X.prog X.w (JQ H x o) h' x o):Inv X pins σ (JQ H x o) { s with heap:=h',toks:=t' }:=I.un (Un.write mu he k heo) (I.hok.write mu he k heo new)
theorem Inv.pins_of {pins':List (Addr × Obj)} (I:Inv X pins σ H s) (h:∀ p ∈ pins',s.heap.get? p.1=some p.2 /\ H p.1=none /\ p.1 ≠ X.env.locals /\ p.1 ∉ X.fs /\ ∀ v,p.2.data ≠ .cell v):Inv X pins' σ H s :=
 ⟨I.ok,I.os,I.bare,I.base,I.loc,I.cell,I.free,I.freeC,fun p hp=>(List.mem_append.mp hp).elim (fun z=>I.pin p (List.mem_append_left _ z)) (h p),I.hok,I.len⟩
theorem Yf {N:List Str} (hN:N.Nodup) {i j:Nat} {x:Str} (a:N[i]? = some x) (b:N[j]? = some x):i=j:=by
 obtain ⟨h1,e1⟩:=List.getElem?_eq_some_iff.mp a
 obtain ⟨h2,e2⟩:=List.getElem?_eq_some_iff.mp b
 exact (List.getElem_inj hN).mp (e1.trans e2.symm)
theorem XY {M:Model} {A:Around} {E:JO} {i:Nat} {x:Str} {v:V} {u:Value} {Q:Unit->Shared->Prop} (I:Inv X pins σ H s) (hN:X.N.Nodup) (hi:X.N[i]? = some x) (hx:JW X.env.scope x) (r:zY v u)
  (h:∀ s',Inv X pins (σ.set i (some v)) H s' -> (∃ a,Heap.SameBut a s.heap s'.heap /\ (a=X.env.locals \/ X.env.cells.lookup x=some a))->Q () s') (hf:X.fn x=true \/ X.env.scope.names.lookup x=some .local :=by first | exact .inl rfl | exact .inr rfl | assumption):wpAny M A (storeName X.env x u) Q E s:=by
 obtain ⟨m,hn,hl⟩:=id I.loc
 have hcls:(X.env.scope.kind == .class || (X.env.scope.kind == .module && X.env.locals != X.env.globals))=false:=by rw [I.ok.kind]; rfl
 have hiσ:i < σ.length:=by rw [I.len]; exact (List.getElem?_eq_some_iff.mp hi).1
 have cne:=I.cne
 have tracked:∀ {a:Addr} {h':Heap},(∃ o,s.heap.get? a=some o /\ H a=none)->Heap.SameBut a s.heap h' -> JR X.prog X.w H h':=fun {a h'} ha hs b ob e=>by
  obtain ⟨_,_,hfree⟩:=ha
  refine (I.hok b ob e).stay (fun c w' hc q=>(hs.2 c ?_).trans q) (fun _ q=>q) fun _ _ q=>q
  rintro rfl
  rcases hc with rfl | hc
  ·rw [hfree] at e; cases e
  ·rw [hfree] at hc; cases hc
 rcases hx with hk | hk
 ·refine wpAny_storeName_local hk hn (fun h' hn' hs=>?_) hcls
  obtain ⟨oL,_,_,hoL,_⟩:=id hn
  refine h _ ⟨I.ok,I.os,I.bare,⟨fun b o e n hb hx=>?_,fun b o e n hb hx=>?_,I.base.free,fun b o e hx=>?_,I.base.tups,I.base.frzs,I.base.tbls⟩,⟨_,hn',fun j y v' e1 e2 e3=>?_⟩,fun y c e=>?_,I.free,I.freeC,fun p hp=>?_,tracked ⟨oL,hoL,I.free⟩ hs,by simpa using I.len⟩ ⟨_,hs,.inl rfl⟩
  ·exact (hs.2 b (Nat.ne_of_lt (Nat.lt_of_lt_of_le (Heap.lt_size e) I.ok.above))).trans (I.base.keep b o e n hb hx)
  ·obtain ⟨sl,e1⟩:=I.base.slot b o e n hb hx
   exact ⟨sl,(hs.2 b (Nat.ne_of_lt (Nat.lt_of_lt_of_le (Heap.lt_size e) I.ok.above))).trans e1⟩
  ·obtain ⟨o',e1⟩:=I.base.there b o e hx
   exact ⟨o',(hs.2 b (Nat.ne_of_lt (Nat.lt_of_lt_of_le (Heap.lt_size e) I.ok.above))).trans e1⟩
  ·by_cases hj:j=i
   ·subst hj
    rw [hi] at e1; cases e1
    rw [List.getElem?_set_self hiσ] at e2
    cases e2
    exact ⟨u,r,.inl ⟨hk,by simp⟩⟩
   ·rw [List.getElem?_set_ne (Ne.symm hj)] at e2
    obtain ⟨u',r',q⟩:=hl j y v' e1 e2 e3
    refine ⟨u',r',?_⟩
    rcases q with ⟨k,e⟩ | ⟨k,c,e,z⟩
    ·refine .inl ⟨k,?_⟩
     have:y ≠ x:=fun e=>hj (Yf hN e1 (e ▸ hi))
     simp [this,e]
    ·exact .inr ⟨k,c,e,z.sameBut hs (cne y c e)⟩
  ·obtain ⟨w',z⟩:=I.cell y c e
   exact ⟨w',z.sameBut hs (cne y c e)⟩
  ·obtain ⟨e,n,ne,nf,d⟩:=I.pin p hp
   exact ⟨(hs.2 p.1 ne).trans e,n,ne,nf,d⟩
 ·have hfn:X.fn x=true:=by
   rcases hf with z | z
   ·exact z
   ·rw [z] at hk; cases hk
  obtain ⟨c,hc⟩:=I.ok.has x (.inl hk)
  obtain ⟨w',z⟩:=I.cell x c hc
  refine wpAny_storeName_cell I.ok.kind hk hc z (fun h' hc' hs=>?_)
  obtain ⟨oc,hoc,hocd⟩:=id z
  refine h { s with heap:=h' } ⟨I.ok,I.os,I.bare,⟨fun b o e n hb hx=>?_,fun b o e n hb hx=>?_,I.base.free,fun b o e hx=>?_,I.base.tups,I.base.frzs,I.base.tbls⟩,⟨m,hn.sameBut hs (Ne.symm (cne x c hc)),fun j y v' e1 e2 e3=>?_⟩,fun y c' e=>?_,I.free,I.freeC,fun p hp=>?_,tracked ⟨oc,hoc,I.freeC x c hc⟩ hs,by simpa using I.len⟩ ⟨c,hs,.inr hc⟩
  ·exact (hs.2 b (Nat.ne_of_lt (Nat.lt_of_lt_of_le (Heap.lt_size e) (I.ok.cab x c hfn hc)))).trans (I.base.keep b o e n hb hx)
  ·obtain ⟨sl,e1⟩:=I.base.slot b o e n hb hx
   exact ⟨sl,(hs.2 b (Nat.ne_of_lt (Nat.lt_of_lt_of_le (Heap.lt_size e) (I.ok.cab x c hfn hc)))).trans e1⟩
  ·obtain ⟨o',e1⟩:=I.base.there b o e hx
   exact ⟨o',(hs.2 b (Nat.ne_of_lt (Nat.lt_of_lt_of_le (Heap.lt_size e) (I.ok.cab x c hfn hc)))).trans e1⟩
  ·by_cases hj:j=i
   ·subst hj
    rw [hi] at e1; cases e1
    rw [List.getElem?_set_self hiσ] at e2
    cases e2
    exact ⟨u,r,.inr ⟨.inl hk,c,hc,hc'⟩⟩
   ·rw [List.getElem?_set_ne (Ne.symm hj)] at e2
    obtain ⟨u',r',q⟩:=hl j y v' e1 e2 e3
    refine ⟨u',r',?_⟩
    rcases q with q | ⟨k,c',e,z'⟩
    ·exact .inl q
    ·refine .inr ⟨k,c',e,z'.sameBut hs ?_⟩
     rintro rfl
     exact hj (Yf hN e1 (I.ok.inj _ _ _ e hc ▸ hi))
  ·by_cases hcc:c' = c
   ·subst hcc; exact ⟨_,hc'⟩
   ·obtain ⟨w2,z2⟩:=I.cell y c' e
    exact ⟨w2,z2.sameBut hs hcc⟩
  ·obtain ⟨e,n,ne,nf,d⟩:=I.pin p hp
   refine ⟨(hs.2 p.1 ?_).trans e,n,ne,nf,d⟩
   intro q
   rw [q,hoc] at e
   have q':oc=p.2:=Option.some.inj e
   exact d w' (by rw [← q']; exact hocd)
theorem xW {M:Model} {A:Around} {E:JO} {i:Nat} {x:Str} {v:V} {u:Value} {Q:Unit->Shared->Prop} (I:Inv X pins σ H s) (hN:X.N.Nodup) (hi:X.N[i]? = some x) (hx:JW X.env.scope x) (r:zY v u)
  (h:∀ s',Inv X pins (σ.set i (some v)) H s' -> Q () s') (hf:X.fn x=true \/ X.env.scope.names.lookup x=some .local :=by first | exact .inl rfl | exact .inr rfl | assumption):wpAny M A (storeName X.env x u) Q E s :=
 XY I hN hi hx r (fun s' I' _=>h s' I') hf
theorem Inv.call' {s':Shared} {ch:List Addr} (I:Inv X pins σ H s) (ho:s'.os=s.os) (u:Un (JU X.stack) ch H H' s.heap s'.heap) (hok:JR X.prog X.w H' s'.heap) (hg:AllBare s'.gens)
  (hch:∀ b ∈ ch,(b ∈ X.ex \/ X.s₀.heap.objs.size<=b) /\ b ≠ X.env.locals /\ (∀ x c,X.env.cells.lookup x=some c->c ≠ b) /\ ∀ p ∈ X.pn ++ pins,p.1 ≠ b):Inv X pins σ H' s':=by
 obtain ⟨h',g',d',t',o'⟩:=s'
 have e:o' = s.os:=ho
 subst e
 exact I.call (g':=g') (t':=t') (d':=d') u hok hg hch
end
abbrev XK:=Value->Option Addr->Hp->Prop
abbrev St:=List (Option V)
abbrev VK:=V->Hp->Prop
abbrev TE:=St->Hp->VK->Prop
abbrev TT:=St->Hp->(Bool->Hp->Prop)->Prop
abbrev TA:=St->Hp->(List V->Hp->Prop)->Prop
structure Ends where
 nx:St->Hp->Prop
 rt:VK
 bk:St->Hp->Prop:=fun _ _=>False
 ct:St->Hp->Prop:=fun _ _=>False
abbrev TS:=Ends->St->Hp->Prop
def EP (X:Cx) (pins:List (Addr × Obj)) (σ:St) (Q:VK) (u:Value) (s':Shared):Prop:=∃ v H',Inv X pins σ H' s' /\ zY v u /\ Q v H'
def TP (X:Cx) (pins:List (Addr × Obj)) (σ:St) (Q:Bool->Hp->Prop) (b:Bool) (s':Shared):Prop:=∃ H',Inv X pins σ H' s' /\ Q b H'
def AP (X:Cx) (pins:List (Addr × Obj)) (σ:St) (Q:List V->Hp->Prop) (us:List Value) (s':Shared):Prop:=∃ vs H',Inv X pins σ H' s' /\ zX vs us /\ Q vs H'
def SP (X:Cx) (pins:List (Addr × Obj)) (D:Ends) (f:Flow) (s':Shared):Prop :=
 match f with
 | .next=>∃ σ' H',Inv X pins σ' H' s' /\ D.nx σ' H'
 | .brk=>∃ σ' H',Inv X pins σ' H' s' /\ D.bk σ' H'
 | .cont=>∃ σ' H',Inv X pins σ' H' s' /\ D.ct σ' H'
 | .ret u=>∃ v σ' H',Inv X pins σ' H' s' /\ zY v u /\ D.rt v H'
def PE (X:Cx) (e:Expr) (t:TE):Prop :=
 ∀ (pins:List (Addr × Obj)) (s:Shared) (σ:St) (H:Hp) (Q:VK),Inv X pins σ H s->t σ H Q->wpAny (model X.prog X.w) X.A (eval e X.env) (EP X pins σ Q) X.xe s
def PT (X:Cx) (e:Expr) (t:TT):Prop :=
 ∀ (pins:List (Addr × Obj)) (s:Shared) (σ:St) (H:Hp) (Q:Bool->Hp->Prop),Inv X pins σ H s->t σ H Q->wpAny (model X.prog X.w) X.A (isTrue e X.env (eval e X.env)) (TP X pins σ Q) X.xe s
def PW (X:Cx) (e:Expr) (t:TT):Prop :=
 ∀ (whole:Sem Value) (pins:List (Addr × Obj)) (s:Shared) (σ:St) (H:Hp) (Q:Bool->Hp->Prop),Inv X pins σ H s->t σ H Q->wpAny (model X.prog X.w) X.A (isTrue e X.env whole) (TP X pins σ Q) X.xe s
theorem PW.pt {X:Cx} {e:Expr} {t:TT} (h:PW X e t):PT X e t:=h _
def PA (X:Cx) (es:List Expr) (t:TA):Prop :=
 ∀ (pos:Pos) (pins:List (Addr × Obj)) (s:Shared) (σ:St) (H:Hp) (Q:List V->Hp->Prop),Inv X pins σ H s->t σ H Q->wpAny (model X.prog X.w) X.A (spliced (backTo pos (starEach es X.env))) (AP X pins σ Q) X.xe s
def PS (X:Cx) (st:Stmt) (t:TS):Prop :=
 ∀ (pins:List (Addr × Obj)) (s:Shared) (σ:St) (H:Hp) (D:Ends),Inv X pins σ H s->t D σ H->wpAny (model X.prog X.w) X.A (exec st X.env) (SP X pins D) X.xe s
def JX (X:Cx) (st:List Stmt) (t:TS):Prop :=
 ∀ (pins:List (Addr × Obj)) (s:Shared) (σ:St) (H:Hp) (D:Ends),Inv X pins σ H s->t D σ H->wpAny (model X.prog X.w) X.A (execs st X.env) (SP X pins D) X.xe s
theorem JY {α:Type} {t:Sem α} {Q Q':α -> Shared->Prop} {M:Model} {A:Around} {E:JO} {s:Shared} (h:wpAny M A t Q E s) (hQ:∀ a s,Q a s->Q' a s):wpAny M A t Q' E s:=wpAny_mono h hQ fun _ _ x=>x
end L2
namespace L2
open PySem PySem.Spec PyProof.Rows
section
variable {X:Cx}
def Q0 (i:Nat):TE:=fun σ H Q=>∃ v,σ[i]? = some (some v) /\ Q v H
def tC (v:V):TE:=fun _ H Q=>Q v H
theorem SM {i:Nat} {x:Str} {pos:Pos} (hN:X.N[i]? = some x) (hv:JV X.env.scope x) (hd:(x == ("__debug__":Str))=false:=by decide) (hcd:(x == ("__classdict__":Str))=false:=by decide):PE X (.Name x pos) (Q0 i):=by
 intro pins s σ H Q I h
 obtain ⟨v,e,h⟩:=h
 obtain ⟨m,hn,hl⟩:=I.loc
 obtain ⟨u,r,l⟩:=hl i x v hN e hv
 have fin:EP X pins σ Q u s:=⟨v,H,I,r,h⟩
 rcases l with ⟨hk,hm⟩ | ⟨hk,c,hc,hcell⟩
 ·exact wpAny_Name (wpAny_loadName_local I.ok.kind hk hn hm fin) hd
 ·rcases hk with hk | hk
  ·exact wpAny_Name (wpAny_loadName_cell I.ok.kind hk hc hcell fin) hd
  ·exact wpAny_Name (wpAny_loadName_free I.ok.kind hk hc hcell fin hcd) hd
theorem ze {i j pos}:PE X (.Constant (.int i) j pos) (tC (.int i)):=fun _ _ _ H _ I h=>wpAny_Constant_int ⟨.int i,H,I.tok _,⟨_,rfl⟩,h⟩
theorem uK {b j pos}:PE X (.Constant (.bool b) j pos) (tC (.bl b)):=fun _ _ _ H _ I h=>Constant_bool ⟨.bl b,H,I,rfl,h⟩
theorem jf {j pos}:PE X (.Constant .none j pos) (tC .non):=fun _ _ _ H _ I h=>Constant_none ⟨.non,H,I,rfl,h⟩
theorem XZ {x j pos}:PE X (.Constant (.str x) j pos) (tC (.str x)):=fun _ _ _ H _ I h=>Calls.Constant_str ⟨.str x,H,I.tok _,⟨_,rfl⟩,h⟩
def Gl (X:Cx) (x:Str):Prop:=X.env.kindOf x=some .globalImplicit
theorem Zz {E:JO} {pins:List (Addr × Obj)} {s:Shared} {σ:St} {H:Hp} {x:Str} {u:Value} {pos:Pos} {Q:JO} (I:Inv X pins σ H s) (hg:Gl X x) (hm:X.mg x=some u) (h:Q u s)
  (hd:(x == ("__debug__":Str))=false:=by decide):wpAny (model X.prog X.w) X.A (eval (.Name x pos) X.env) Q E s :=
 Calls.Name_function_global I.ok.kind hg (Calls.loadGlobal_global (by rw [I.ok.glob]; exact I.mod.glob.keeps I.bk) hm h) hd
theorem uV {E:JO} {pins:List (Addr × Obj)} {s:Shared} {σ:St} {H:Hp} {x:Str} {u:Value} {pos:Pos} {Q:JO} (I:Inv X pins σ H s) (hg:Gl X x) (hm:X.mg x=none) (hv:bootBuiltins x=some u) (h:Q u s)
  (hn:x ≠ "__name__":=by decide) (hd:(x == ("__debug__":Str))=false:=by decide):wpAny (model X.prog X.w) X.A (eval (.Name x pos) X.env) Q E s:=by
 obtain ⟨mb,h1,h2⟩:=I.mod.blt
 exact Calls.Name_function_global I.ok.kind hg (Calls.loadGlobal_builtin (by rw [I.ok.glob]; exact I.mod.glob.keeps I.bk) hm (by rw [I.ok.blt]; exact h1.keeps I.bk) ((h2 x hn).trans hv) h) hd
theorem vV {x:Str} {v:V} {u:Value} {pos:Pos} (hg:Gl X x) (hm:X.mg x=some u) (r:zY v u) (hd:(x == ("__debug__":Str))=false:=by decide):PE X (.Name x pos) (tC v) :=
 fun _ _ _ H _ I h=>Zz I hg hm ⟨v,H,I,r,h⟩ hd
theorem Tl {x:Str} {v:V} {u:Value} {pos:Pos} (hg:Gl X x) (hm:X.mg x=none) (hv:bootBuiltins x=some u) (r:zY v u) (hn:x ≠ "__name__":=by decide) (hd:(x == ("__debug__":Str))=false:=by decide):PE X (.Name x pos) (tC v) :=
 fun _ _ _ H _ I h=>uV I hg hm hv ⟨v,H,I,r,h⟩ hn hd
variable {a b:Expr} {ta tb:TE} {pos:Pos}
def PC (X:Cx) (op:CmpOp) (a b:Expr) (t:TE):Prop :=
 ∀ (pins:List (Addr × Obj)) (s:Shared) (σ:St) (H:Hp) (Q:VK),Inv X pins σ H s->t σ H Q →
  wpAny (model X.prog X.w) X.A (eval a X.env) (fun v s₁=>wpAny (model X.prog X.w) X.A (eval b X.env) (fun u s₂=>wpAny (model X.prog X.w) X.A (compareOp op v u) (EP X pins σ Q) X.xe s₂) X.xe s₁) X.xe s
theorem Yg (b:Expr) {op:CmpOp} (h:op ≠ .In) (h2:op ≠ .NotIn):behindInMarks op b=false:=by
 have e1:(op == CmpOp.In)=false:=by cases op <;> first | rfl | exact absurd rfl h
 have e2:(op == CmpOp.NotIn)=false:=by cases op <;> first | rfl | exact absurd rfl h2
 cases b <;> simp [behindInMarks,e1,e2]
def Jk (ta:TE):TE:=fun σ H Q=>ta σ H fun x H1=>Q (.bl (decide (x = .non))) H1
def Qe (ta:TE):TE:=fun σ H Q=>ta σ H fun x H1=>Q (.bl (!decide (x = .non))) H1
theorem zY.none_iff {x:V} {v:Value} (r:zY x v):(v == Value.none)=decide (x = .non):=by
 cases x with
 | non=>cases r; rfl
 | bl _=>cases r; rfl
 | int _=>obtain ⟨t,rfl⟩:=r; rfl
 | str _=>obtain ⟨t,rfl⟩:=r; rfl
 | byt _=>obtain ⟨t,rfl⟩:=r; rfl
 | flt _=>obtain ⟨t,rfl⟩:=r; rfl
 | ref _=>cases r; rfl
 | ty _=>cases r; rfl
theorem sR {j pos'} (ha:PE X a ta):PC X .Is a (.Constant .none j pos') (Jk ta):=by
 intro pins s σ H Q I h
 refine JY (ha pins s σ H _ I h) fun v s1 ⟨x,H1,I1,r1,q1⟩=>?_
 exact Constant_none (is_none_gen ⟨.bl _,H1,I1,by rw [r1.none_iff]; rfl,q1⟩)
theorem ZA {j pos'} (ha:PE X a ta):PC X .IsNot a (.Constant .none j pos') (Qe ta):=by
 intro pins s σ H Q I h
 refine JY (ha pins s σ H _ I h) fun v s1 ⟨x,H1,I1,r1,q1⟩=>?_
 exact Constant_none (isnot_none_gen ⟨.bl _,H1,I1,by rw [r1.none_iff]; rfl,q1⟩)
def tB (t:TE):TT:=fun σ H Q=>t σ H fun x H1=>∃ c,x = .bl c /\ Q c H1
theorem SN {op:CmpOp} {t:TE} (h:PC X op a b t) (h1:behindInMarks op b=false:=by first | exact Yg _ (by decide) (by decide) | rfl):PE X (.Compare a [op] [b] pos) t:=fun pins s σ H Q I hw=>wpAny_Compare1 (h pins s σ H Q I hw) h1
theorem uC {op:CmpOp} {t:TE} (h:PC X op a b t) (h1:behindInMarks op b=false:=by first | exact Yg _ (by decide) (by decide) | rfl):PT X (.Compare a [op] [b] pos) (tB t):=by
 intro pins s σ H Q I hw
 refine wpAny_isTrue_Compare1 (JY (h pins s σ H _ I hw) fun v s1 h1=>JY h1 fun u s2 h2=>JY h2 fun c s3 ⟨x,H1,I1,r1,q1⟩=>?_) h1
 obtain ⟨d,rfl,q⟩:=q1
 cases r1
 exact wpAny_truthy_bool ⟨H1,I1,q⟩
theorem yE {e:Expr} {t:TE} (h:PE X e t) (he:∀ whole,isTrue e X.env whole=(do let v ← whole; standAt e.pos; holding [v] (truthy v)):=by intro _; rfl):PT X e (tB t):=by
 intro pins s σ H Q I hw
 refine isTrue_plain (JY (h pins s σ H _ I hw) fun v s1 ⟨x,H1,I1,r1,q1⟩=>?_) (he _)
 obtain ⟨d,rfl,q⟩:=q1
 cases r1
 exact wpAny_truthy_bool ⟨H1,I1,q⟩
variable {tA tB':TT} {rest:List Expr}
def Jl (t u:TT):TT:=fun σ H Q=>t σ H fun c H1=>if c=true then u σ H1 Q else Q false H1
def JZ (t u:TT):TT:=fun σ H Q=>t σ H fun c H1=>if c=true then Q true H1 else u σ H1 Q
def Jm (t:TT):TT:=fun σ H Q=>t σ H fun c H1=>Q (!c) H1
theorem xX (ha:PT X a tA):PW X (.BoolOp .And [a] pos) tA:=by
 intro wh pins s σ H Q I h
 refine isTrue_and (JY (ha pins s σ H Q I h) fun c s1 e=>?_)
 cases c with
 | true=>exact isTrue_and_nil e
 | false=>exact e
theorem vh (ha:PT X a tA):PW X (.BoolOp .Or [a] pos) tA:=by
 intro wh pins s σ H Q I h
 refine isTrue_or (JY (ha pins s σ H Q I h) fun c s1 e=>?_)
 cases c with
 | false=>exact isTrue_or_nil e
 | true=>exact e
theorem wN (ha:PT X a tA) (hb:PW X (.BoolOp .And (b :: rest) pos) tB'):PW X (.BoolOp .And (a :: b :: rest) pos) (Jl tA tB'):=by
 intro wh pins s σ H Q I h
 refine isTrue_and (JY (ha pins s σ H _ I h) fun c s1 ⟨H1,I1,q1⟩=>?_)
 cases c with
 | true=>exact hb wh pins s1 σ H1 Q I1 q1
 | false=>exact ⟨H1,I1,q1⟩
theorem rY (ha:PT X a tA) (hb:PW X (.BoolOp .Or (b :: rest) pos) tB'):PW X (.BoolOp .Or (a :: b :: rest) pos) (JZ tA tB'):=by
 intro wh pins s σ H Q I h
 refine isTrue_or (JY (ha pins s σ H _ I h) fun c s1 ⟨H1,I1,q1⟩=>?_)
 cases c with
 | true=>exact ⟨H1,I1,q1⟩
 | false=>exact hb wh pins s1 σ H1 Q I1 q1
theorem yL (ha:PT X a tA):PT X (.UnaryOp .Not a pos) (Jm tA):=by
 intro pins s σ H Q I h
 exact isTrue_not (ha pins s σ H (fun c H1=>Q (!c) H1) I h)
def Qf (ta tb:TE):TE:=fun σ H Q=>ta σ H fun x H1=>∃ c,x = .bl c /\ if c=true then tb σ H1 Q else Q (.bl false) H1
def Jn (ta tb:TE):TE:=fun σ H Q=>ta σ H fun x H1=>∃ c,x = .bl c /\ if c=true then Q (.bl true) H1 else tb σ H1 Q
def Qg (ta:TE):TE:=fun σ H Q=>ta σ H fun x H1=>∃ c,x = .bl c /\ Q (.bl (!c)) H1
theorem wO {op} {t:TE} (h:PE X a t):PE X (.BoolOp op [a] pos) t:=fun pins s σ H Q I hw=>BoolOp_one (h pins s σ H Q I hw)
theorem uD (ha:PE X a ta) (hb:PE X (.BoolOp .And (b :: rest) pos) tb):PE X (.BoolOp .And (a :: b :: rest) pos) (Qf ta tb):=by
 intro pins s σ H Q I h
 refine BoolOp_and (JY (ha pins s σ H _ I h) fun v s1 ⟨x,H1,I1,r1,q1⟩=>?_)
 obtain ⟨c,rfl,q1⟩:=q1
 cases r1
 refine wpAny_truthy_bool ?_
 cases c with
 | true=>exact hb pins s1 σ H1 Q I1 q1
 | false=>exact ⟨.bl false,H1,I1,rfl,q1⟩
theorem Tm (ha:PE X a ta) (hb:PE X (.BoolOp .Or (b :: rest) pos) tb):PE X (.BoolOp .Or (a :: b :: rest) pos) (Jn ta tb):=by
 intro pins s σ H Q I h
 refine BoolOp_or (JY (ha pins s σ H _ I h) fun v s1 ⟨x,H1,I1,r1,q1⟩=>?_)
 obtain ⟨c,rfl,q1⟩:=q1
 cases r1
 refine wpAny_truthy_bool ?_
 cases c with
 | false=>exact hb pins s1 σ H1 Q I1 q1
 | true=>exact ⟨.bl true,H1,I1,rfl,q1⟩
theorem SO (ha:PE X a ta):PE X (.UnaryOp .Not a pos) (Qg ta):=by
 intro pins s σ H Q I h
 refine UnaryOp_ (JY (ha pins s σ H _ I h) fun v s1 ⟨x,H1,I1,r1,q1⟩=>?_)
 obtain ⟨c,rfl,q1⟩:=q1
 cases r1
 exact not_of (wpAny_truthy_bool ⟨.bl (!c),H1,I1,rfl,q1⟩)
def J0 (t:TT) (ta tb:TE):TE:=fun σ H Q=>t σ H fun c H1=>if c=true then ta σ H1 Q else tb σ H1 Q
theorem rZ {c:Expr} (hc:PT X c tA) (ha:PE X a ta) (hb:PE X b tb):PE X (.IfExp c a b pos) (J0 tA ta tb):=by
 intro pins s σ H Q I h
 refine wpAny_IfExp (JY (hc pins s σ H _ I h) fun d s1 ⟨H1,I1,q1⟩=>?_)
 cases d with
 | true=>exact ha pins s1 σ H1 Q I1 q1
 | false=>exact hb pins s1 σ H1 Q I1 q1
end
end L2
namespace L2
open PySem PySem.Spec PyProof.Rows
def J1 (K:JN) (H:Hp) (a:Addr) (xs:List V):Prop :=
 Rd H a (.lst xs) ∨
  ∃ (o:Obj) (its:Array Value) (n:Nat),K.lookup a=some o /\ o.cls = .type "list" /\ o.dict=none /\ o.data = .seq its n /\ its.size<=sizeLine /\ zX xs its.toList
def J3 (K:JN) (H:Hp) (a:Addr) (xs:List V):Prop :=
 Rd H a (.tup xs) ∨
  ∃ (o:Obj) (its:Array Value) (n:Nat),K.lookup a=some o /\ o.cls = .type "tuple" /\ o.data = .seq its n /\ its.size<=sizeLine /\ zX xs its.toList
def Jo:Value->Option V
 | .none=>some .non
 | .bool b=>some (.bl b)
 | .int i _=>some (.int i)
 | .str x _=>some (.str x)
 | .bytes b _=>some (.byt b)
 | .float b _=>some (.flt b)
 | .ref a=>some (.ref a)
 | .type n=>some (.ty n)
 | _=>none
theorem zY.abs {x:V} {u:Value} (r:zY x u):Jo u=some x:=by
 cases x with
 | non=>cases r; rfl
 | bl _=>cases r; rfl
 | int _=>obtain ⟨t,rfl⟩:=r; rfl
 | str _=>obtain ⟨t,rfl⟩:=r; rfl
 | byt _=>obtain ⟨t,rfl⟩:=r; rfl
 | flt _=>obtain ⟨t,rfl⟩:=r; rfl
 | ref _=>cases r; rfl
 | ty _=>cases r; rfl
theorem zY.inj {x y:V} {u:Value} (r:zY x u) (q:zY y u):x=y:=Option.some.inj (r.abs.symm.trans q.abs)
theorem zX.inj:∀ {xs ys:List V} {us:List Value},zX xs us->zX ys us->xs=ys
 | _,_,_,.nil,.nil=>rfl
 | _,_,_,.cons r t,.cons r' t'=>by rw [r.inj r',zX.inj t t']
section
variable {X:Cx} {pins:List (Addr × Obj)} {σ:St} {H:Hp} {s:Shared} {a:Addr} {xs ys:List V}
theorem J1.of {K:JN} (h:H a=some (.lst xs)):J1 K H a xs:=.inl (.inl h)
theorem J3.of {K:JN} (h:H a=some (.tup xs)):J3 K H a xs:=.inl (.inl h)
theorem Inv.list (I:Inv X pins σ H s) (h:J1 X.K H a xs):∃ its:List Value,zX xs its /\ PlainL s.heap a its.toArray /\ xs.length<=sizeLine:=by
 rcases h with h | ⟨o,its,n,hk,hc,hd,hs,hz,r⟩
 ·obtain ⟨z,its,n,r,e⟩:=h.ok I.hok
  exact ⟨its,r,⟨_,n,e,rfl,rfl,rfl⟩,z⟩
 ·refine ⟨its.toList,r,⟨o,n,I.kIn a o hk,hc,hd,by simpa using hs⟩,?_⟩
  have e:=r.length
  simp only [Array.length_toList] at e
  omega
theorem Inv.tuple (I:Inv X pins σ H s) (h:J3 X.K H a xs):∃ its:List Value,zX xs its /\ IsTup s.heap a its.toArray /\ xs.length<=sizeLine:=by
 rcases h with h | ⟨o,its,n,hk,hc,hs,hz,r⟩
 ·obtain ⟨z,its,r,p⟩:=h.ok I.hok
  exact ⟨its,r,p,z⟩
 ·refine ⟨its.toList,r,⟨o,I.kIn a o hk,hc,n,by simpa using hs⟩,?_⟩
  have e:=r.length
  simp only [Array.length_toList] at e
  omega
theorem Inv.list_inj (I:Inv X pins σ H s) (h:J1 X.K H a xs) (h':J1 X.K H a ys):xs=ys:=by
 obtain ⟨its,r,⟨o,n,e,_,_,d⟩,_⟩:=I.list h
 obtain ⟨its',r',⟨o',n',e',_,_,d'⟩,_⟩:=I.list h'
 rw [e] at e'; cases e'
 rw [d] at d'
 injection d' with d1 _
 have:its=its':=by simpa using congrArg Array.toList d1
 subst this
 exact r.inj r'
theorem Inv.tuple_inj (I:Inv X pins σ H s) (h:J3 X.K H a xs) (h':J3 X.K H a ys):xs=ys:=by
 obtain ⟨its,r,⟨o,e,_,n,d⟩,_⟩:=I.tuple h
 obtain ⟨its',r',⟨o',e',_,n',d'⟩,_⟩:=I.tuple h'
 rw [e] at e'; cases e'
 rw [d] at d'
 injection d' with d1 _
 have:its=its':=by simpa using congrArg Array.toList d1
 subst this
 exact r.inj r'
end
abbrev Cx.wish (X:Cx) (E:JO):Cx:={ X with xe:=E }
abbrev Cx.nox (X:Cx):Cx:=X.wish fun _ _=>False
theorem Cx.Ok.wish {X:Cx} (ok:X.Ok) (E:JO):(X.wish E).Ok :=
 ⟨ok.mod,ok.kind,ok.glob,ok.blt,ok.above,ok.inj,ok.has,ok.cab,ok.hd,ok.frames,ok.stk,ok.exf,ok.bs,ok.bsz,ok.noex,ok.exfs,ok.funs,ok.frf⟩
theorem Cx.Ok.unwish {X:Cx} {E:JO} (ok:(X.wish E).Ok):X.Ok :=
 ⟨ok.mod,ok.kind,ok.glob,ok.blt,ok.above,ok.inj,ok.has,ok.cab,ok.hd,ok.frames,ok.stk,ok.exf,ok.bs,ok.bsz,ok.noex,ok.exfs,ok.funs,ok.frf⟩
section
variable {X:Cx} {pins:List (Addr × Obj)} {σ:St} {H:Hp} {s:Shared} {E:JO}
theorem Inv.wish (I:Inv X pins σ H s) (E:JO):Inv (X.wish E) pins σ H s:=⟨I.ok.wish E,I.os,I.bare,I.base,I.loc,I.cell,I.free,I.freeC,I.pin,I.hok,I.len⟩
theorem Inv.unwish (I:Inv (X.wish E) pins σ H s):Inv X pins σ H s:=⟨I.ok.unwish,I.os,I.bare,I.base,I.loc,I.cell,I.free,I.freeC,I.pin,I.hok,I.len⟩
theorem SP.unwish {D:Ends} {f:Flow} {s':Shared} (h:SP (X.wish E) pins D f s'):SP X pins D f s':=by
 cases f with
 | next=>obtain ⟨σ',H',I,q⟩:=h; exact ⟨σ',H',I.unwish,q⟩
 | brk=>obtain ⟨σ',H',I,q⟩:=h; exact ⟨σ',H',I.unwish,q⟩
 | cont=>obtain ⟨σ',H',I,q⟩:=h; exact ⟨σ',H',I.unwish,q⟩
 | ret u=>obtain ⟨v,σ',H',I,r,q⟩:=h; exact ⟨v,σ',H',I.unwish,r,q⟩
theorem JX.nox {st:List Stmt} {t:TS} (h:JX X.nox st t):JX X st t:=fun pins s σ H D I hw =>
 wpAny_mono (h pins s σ H D (I.wish _) hw) (fun _ _ q=>q.unwish) fun _ _ z=>False.elim z
end
section
variable {X:Cx} {st:Stmt} {rest:List Stmt} {t u:TS} {e:Expr} {te:TE} {pos:Pos}
def SQ:TS:=fun D σ H=>D.nx σ H
def Tn (t u:TS):TS:=fun D σ H=>t { D with nx:=u D } σ H
theorem zx:JX X [] SQ:=fun _ _ σ H _ I h=>wpAny_execs_nil ⟨σ,H,I,h⟩
theorem zd (h1:PS X st t) (h2:JX X rest u):JX X (st :: rest) (Tn t u):=by
 intro pins s σ H D I h
 refine wpAny_execs_cons (JY (h1 pins s σ H { D with nx:=u D } I h) fun f s1 q=>?_)
 cases f with
 | next =>
  obtain ⟨σ',H',I',q⟩:=q
  exact h2 pins s1 σ' H' D I' q
 | ret v=>exact q
 | brk=>exact q
 | cont=>exact q
theorem zi (h1:PS X st t):JX X [st] t:=by
 intro pins s σ H D I h
 refine wpAny_execs_cons (JY (h1 pins s σ H D I h) fun f s1 q=>?_)
 cases f with
 | next=>exact wpAny_execs_nil q
 | ret v=>exact q
 | brk=>exact q
 | cont=>exact q
theorem Inv.quiet {pins:List (Addr × Obj)} {σ:St} {H:Hp} {s:Shared} (I:Inv X pins σ H s):interactive X.env=false:=by simp [interactive,I.ok.kind]
def Qh (te:TE):TS:=fun D σ H=>te σ H fun _ H1=>D.nx σ H1
theorem zG (he:PE X e te) (hs:swapsWith e none pos.line X.env=pure false:=by rfl):PS X (.Expr e pos) (Qh te):=by
 intro pins s σ H D I h
 exact wpAny_Expr_any (JY (he pins s σ H _ I h) fun v s1 ⟨x,H1,I1,r1,q1⟩=>⟨σ,H1,I1,q1⟩) I.quiet hs
def Jp (te:TE):TS:=fun D σ H=>te σ H D.rt
theorem zv (he:PE X e te):PS X (.Return (some e) pos) (Jp te):=by
 intro pins s σ H D I h
 exact wpAny_Return_some (JY (he pins s σ H _ I h) fun v s1 ⟨x,H1,I1,r1,q1⟩=>⟨x,σ,H1,I1,r1,q1⟩)
def Qi:TS:=fun D _ H=>D.rt .non H
theorem To:PS X (.Return none pos) Qi:=fun _ _ σ H _ I h=>wpAny_Return_none ⟨.non,σ,H,I,rfl,h⟩
def SR (c:TT) (t u:TS):TS:=fun D σ H=>c σ H fun b H1=>if b=true then t D σ H1 else u D σ H1
theorem ye {c:Expr} {a b:List Stmt} {tc:TT} (hc:PT X c tc) (ha:JX X a t) (hb:JX X b u):PS X (.If c a b pos) (SR tc t u):=by
 intro pins s σ H D I h
 refine wpAny_If (JY (hc pins s σ H _ I h) fun d s1 ⟨H1,I1,q1⟩=>?_)
 cases d with
 | true=>exact ha pins s1 σ H1 D I1 q1
 | false=>exact hb pins s1 σ H1 D I1 q1
def SS:TS:=fun _ _ _=>False
theorem xf:PS X st SS:=fun _ _ _ _ _ _ h=>h.elim
end
abbrev TG:=V->St->Hp->(St->Hp->Prop)->Prop
abbrev J4:=List V->St->Hp->(St->Hp->Prop)->Prop
def PG (X:Cx) (target:Expr) (t:TG):Prop :=
 ∀ (pins:List (Addr × Obj)) (s:Shared) (σ:St) (H:Hp) (v:V) (u:Value) (Q:St->Hp->Prop),Inv X pins σ H s->zY v u->t v σ H Q →
  wpAny (model X.prog X.w) X.A (assign target X.env u) (fun _ s'=>∃ σ' H',Inv X pins σ' H' s' /\ Q σ' H') X.xe s
def J5 (X:Cx) (ts:List Expr) (t:J4):Prop :=
 ∀ (pins:List (Addr × Obj)) (s:Shared) (σ:St) (H:Hp) (vs:List V) (us:List Value) (Q:St->Hp->Prop),Inv X pins σ H s->zX vs us->t vs σ H Q →
  wpAny (model X.prog X.w) X.A (assignInOrder ((assignEach ts X.env).map (·.2)) us) (fun _ s'=>∃ σ' H',Inv X pins σ' H' s' /\ Q σ' H') X.xe s
abbrev Qj:=V->V->V->Hp->(Hp->Prop)->Prop
def Q1 (X:Cx) (t:Qj):Prop :=
 ∀ (pins:List (Addr × Obj)) (s:Shared) (σ:St) (H:Hp) (o i v:V) (ov iv u:Value) (Q:Hp->Prop),Inv X pins σ H s->zY o ov->zY i iv->zY v u->t o i v H Q →
  wpAny (model X.prog X.w) X.A (setItem ov iv u) (fun _ s'=>∃ H',Inv X pins σ H' s' /\ Q H') X.xe s
abbrev J6:=V->V->Hp->VK->Prop
def J8 (X:Cx) (op:Operator) (t:J6):Prop :=
 ∀ (pins:List (Addr × Obj)) (s:Shared) (σ:St) (H:Hp) (x y:V) (v u:Value) (Q:VK),Inv X pins σ H s->zY x v->zY y u->t x y H Q →
  wpAny (model X.prog X.w) X.A (inplaceOp op v u) (EP X pins σ Q) X.xe s
section
variable {X:Cx} {pos:Pos}
def vW (i:Nat):TG:=fun v σ H Q=>Q (σ.set i (some v)) H
theorem zk {i:Nat} {x:Str} (hN:X.N.Nodup) (hi:X.N[i]? = some x) (hx:JW X.env.scope x) (hf:X.fn x=true \/ X.env.scope.names.lookup x=some .local :=by first | exact .inl rfl | exact .inr rfl | assumption):PG X (.Name x pos) (vW i):=by
 intro pins s σ H v u Q I r h
 exact wpAny_assign_Name (xW I hN hi hx r (fun s' I'=>⟨_,H,I',h⟩) hf)
def Jq:J4:=fun vs σ H Q=>vs=[] /\ Q σ H
def Qk (t:TG) (u:J4):J4:=fun vs σ H Q=>∃ v r,vs=v :: r /\ t v σ H fun σ' H'=>u r σ' H' Q
theorem yo:J5 X [] Jq:=by
 intro pins s σ H vs us Q I r h
 obtain ⟨e,h⟩:=h
 subst e
 cases r
 exact assignInOrder_nil ⟨σ,H,I,h⟩
theorem zo {e:Expr} {es:List Expr} {t:TG} {u:J4} (h1:PG X e t) (h2:J5 X es u)
  (hs:(assignEach (e :: es) X.env).map (·.2)=assign e X.env :: (assignEach es X.env).map (·.2):=by rfl):J5 X (e :: es) (Qk t u):=by
 intro pins s σ H vs us Q I r h
 obtain ⟨v,vr,e1,h⟩:=h
 subst e1
 cases r with
 | cons r rr =>
  rw [hs]
  refine assignInOrder_cons (JY (h1 pins s σ H _ _ _ I r h) fun _ s1 ⟨σ1,H1,I1,q1⟩=>?_)
  exact h2 pins s1 σ1 H1 _ _ Q I1 rr q1
def Q2 (K:JN) (n:Nat) (t:J4):TG:=fun v σ H Q=>∃ a xs,v = .ref a /\ J3 K H a xs /\ xs.length=n /\ t xs σ H Q
theorem xP {es:List Expr} {k:Nat} {t:J4} {n:Nat} (hc:X.calm=true) (h:J5 X es t)
  (hn:(assignEach es X.env).length=n:=by rfl) (hst:(assignEach es X.env).findIdx? (·.1)=none:=by rfl):PG X (.Tuple es k pos) (Q2 X.K n t):=by
 intro pins s σ H v u Q I r hw
 obtain ⟨a,xs,e1,hq,hl,hw⟩:=hw
 subst e1
 cases r
 obtain ⟨its,rv,ht,hz⟩:=I.tuple hq
 refine assign_Tuple_tuple (I.ok.hd hc) ht (by simp [hn,← hl,rv.length]) hst fun h' hx=>?_
 have I1:Inv X pins σ H { s with heap:=h' }:=I.kept (t':=s.toks) fun b o e=>hx b o (Nat.ne_of_lt (Heap.lt_size e)) e
 exact h pins _ σ H xs _ Q I1 (by simpa using rv) hw
def Jr (to ti:TE) (t:Qj):TG:=fun v σ H Q=>to σ H fun o H1=>ti σ H1 fun i H2=>t o i v H2 fun H3=>Q σ H3
theorem Yh {o i:Expr} {to ti:TE} {t:Qj} (ho:PE X o to) (hi:PE X i ti) (hs:Q1 X t)
  (ha:∀ v,assign (.Subscript o i pos) X.env v=(do
   let ov ← holding [v] (eval o X.env)
   let iv ← holding [v,ov] (eval i X.env)
   standAt pos
   holding [v,ov,iv] (setItem ov iv v)
   release [v,ov,iv] []):=by intro _; rfl):PG X (.Subscript o i pos) (Jr to ti t):=by
 intro pins s σ H v u Q I r h
 rw [ha]
 refine wpAny_bind (wpAny_holding (JY (ho pins s σ H _ I h) fun ov s1 ⟨x,H1,I1,r1,q1⟩=>?_))
 refine wpAny_bind (wpAny_holding (JY (hi pins s1 σ H1 _ I1 q1) fun iv s2 ⟨y,H2,I2,r2,q2⟩=>?_))
 refine wpAny_bind (wpAny_standAt (wpAny_bind (wpAny_holding (JY (hs pins s2 σ H2 x y v ov iv u _ I2 r1 r2 r q2) fun _ s3 ⟨H3,I3,q3⟩=>?_))))
 exact wpAny_release ⟨σ,H3,I3,q3⟩
def R5 (te:TE) (g:TG):TS:=fun D σ H=>te σ H fun x H1=>g x σ H1 D.nx
theorem we {tg e:Expr} {te:TE} {g:TG} (he:PE X e te) (hg:PG X tg g) (hs:swapsWithSole [tg] e pos.line X.env=pure false:=by rfl) (hw:swappedStores [tg] e X.env=pure none:=by rfl)
  (h1:(assignEach [tg] X.env).map (·.2)=[assign tg X.env]:=by rfl):PS X (.Assign [tg] e pos) (R5 te g):=by
 intro pins s σ H D I h
 refine wpAny_Assign_stores (JY (he pins s σ H _ I h) fun v s1 ⟨x,H1,I1,r1,q1⟩=>?_) hs hw
 rw [h1]
 exact JY (hg pins s1 σ H1 x v _ I1 r1 q1) fun _ s2 q=>q
theorem zJ {i:Nat} {x:Str} {e:Expr} {te:TE} {pos':Pos} (hN:X.N.Nodup) (hi:X.N[i]? = some x) (hx:JW X.env.scope x) (he:PE X e te) (hs:swapsWith e (some (.Name x pos')) pos.line X.env=pure false:=by rfl) (hf:X.fn x=true \/ X.env.scope.names.lookup x=some .local :=by first | exact .inl rfl | exact .inr rfl | assumption) :
  PS X (.Assign [.Name x pos'] e pos) (R5 te (vW i)):=by
 intro pins s σ H D I h
 refine wpAny_Assign_Name (JY (he pins s σ H _ I h) fun v s1 ⟨y,H1,I1,r1,q1⟩=>?_) hs
 exact xW I1 hN hi hx r1 (fun s2 I2=>⟨_,H1,I2,q1⟩) hf
def Js (i j:Nat) (ta:TA):TS:=fun D σ H=>ta σ H fun vs H1=>∃ v w,vs=[v,w] /\ D.nx ((σ.set i (some v)).set j (some w)) H1
theorem X0 {i j:Nat} {x y:Str} {a b:Expr} {ta:TA} {px py pt:Pos} {kt k2 pt2} (hc:X.calm=true) (hN:X.N.Nodup) (hi:X.N[i]? = some x) (hj:X.N[j]? = some y) (hij:i ≠ j)
  (hx:X.env.scope.names.lookup x=some .local) (hy:X.env.scope.names.lookup y=some .local) (ha:PA X [a,b] ta)
  (hw:swappedStores [.Tuple [.Name x px,.Name y py] kt pt] (.Tuple [a,b] k2 pt2) X.env=pure (some [x,y]))
  (hs:swapsWithSole [.Tuple [.Name x px,.Name y py] kt pt] (.Tuple [a,b] k2 pt2) pos.line X.env=pure false:=by rfl) :
  PS X (.Assign [.Tuple [.Name x px,.Name y py] kt pt] (.Tuple [a,b] k2 pt2) pos) (Js i j ta):=by
 intro pins s σ H D I h
 rw [exec_Assign_arm]
 refine wpAny_bind (wpAny_standAt ?_)
 rw [hs]
 refine wpAny_bind (wpAny_pure ?_)
 rw [if_neg (by decide)]
 refine wpAny_bind (Tuple_ (JY (ha _ pins s σ H _ I h) fun us s1 ⟨vs,H1,I1,r1,q1⟩=>?_))
 obtain ⟨v,w,e1,q1⟩:=q1
 subst e1
 obtain ⟨u1,u2,rfl,rv,rw'⟩:∃ u1 u2,us=[u1,u2] /\ zY v u1 /\ zY w u2:=by
  cases r1 with
  | cons p q =>
   cases q with
   | cons p' q' =>
    cases q'
    exact ⟨_,_,rfl,p,p'⟩
 refine wpAny_newObj_type ?_ (by show 2<=sizeLine; decide)
 have I2:Inv X pins σ H1 { s1 with heap:=s1.heap.push { cls:=.type "tuple",data:=.seq [u1,u2].toArray } }:=I1.kept (t':=s1.toks) fun b o e=>Heap.get?_push_of_some _ e
 rw [hw]
 refine wpAny_bind (wpAny_pure ?_)
 show wpAny (model X.prog X.w) X.A (do rule "assign.swapped-stores"; let items ← unpackItems (.ref s1.heap.objs.size) 2 none; assignInOrder [fun v=>bindName X.env y v,fun v=>bindName X.env x v] items.reverse; pure Flow.next) _ _ _
 refine wpAny_bind (wpAny_rule (wpAny_bind (unpackItems_tuple (items:=#[u1,u2]) (I.ok.hd hc) (IsTup.new s1.heap _) fun h' hx'=>?_)))
 have I3:=I2.kept (h':=h') (t':=s1.toks) fun b o e=>hx' b o (Nat.ne_of_lt (Heap.lt_size e)) e
 show wpAny _ _ (assignInOrder [fun v=>bindName X.env y v,fun v=>bindName X.env x v] [u2,u1] >>= fun _=>pure Flow.next) _ _ _
 refine wpAny_bind (assignInOrder_cons (wpAny_bindName (xW I3 hN hj (.inl hy) rw' (fun s2 I4=>?_) (.inr hy))))
 refine assignInOrder_cons (wpAny_bindName (xW I4 hN hi (.inl hx) rv (fun s3 I5=>assignInOrder_nil (wpAny_pure ?_)) (.inr hx)))
 rw [List.set_comm _ _ (Ne.symm hij)] at I5
 exact ⟨_,H1,I5,q1⟩
def J9 (f:Int->Int->Int):J6:=fun x y H Q=>∃ i j,x = .int i /\ y = .int j /\ Q (.int (f i j)) H
theorem UO:J8 X .Add (J9 fun i j=>i+j):=by
 intro pins s σ H x y v u Q I r1 r2 h
 obtain ⟨i,j,e1,e2,q⟩:=h
 subst e1; subst e2
 obtain ⟨t,rfl⟩:=r1
 obtain ⟨t',rfl⟩:=r2
 exact iadd_int ⟨.int _,H,I.tok _,⟨_,rfl⟩,q⟩
theorem ST:J8 X .Sub (J9 fun i j=>i - j):=by
 intro pins s σ H x y v u Q I r1 r2 h
 obtain ⟨i,j,e1,e2,q⟩:=h
 subst e1; subst e2
 obtain ⟨t,rfl⟩:=r1
 obtain ⟨t',rfl⟩:=r2
 exact isub_int ⟨.int _,H,I.tok _,⟨_,rfl⟩,q⟩
end
structure It where
 go:Nat->Hp->Prop
 yld:Nat->Hp->V->Hp->Prop
 stop:Nat->Hp->Prop
def vg (X:Cx) (pins:List (Addr × Obj)) (H:Hp) (b:Addr):Prop :=
 H b=none /\ b ≠ X.env.locals /\ b ∉ X.fs /\ (b ∈ X.ex \/ X.s₀.heap.objs.size<=b) /\ (∀ x c,X.env.cells.lookup x=some c->c ≠ b) /\ ∀ p ∈ X.pn ++ pins,p.1 ≠ b
theorem Inv.fpOk {X:Cx} {pins:List (Addr × Obj)} {σ:St} {H H':Hp} {s:Shared} {b:Addr} (I:Inv X pins σ H s) (hb:s.heap.objs.size<=b) (hn:H' b=none):vg X pins H' b:=by
 refine ⟨hn,Nat.ne_of_gt (Nat.lt_of_lt_of_le I.lt hb),I.nofs hb,.inr (Nat.le_trans I.sz hb),fun x c e z=>?_,fun p hp z=>?_⟩
 ·obtain ⟨v,q⟩:=I.cell x c e
  exact absurd (Nat.lt_of_lt_of_le q.lt (by rw [z]; exact hb)) (Nat.lt_irrefl _)
 ·exact absurd (Nat.lt_of_lt_of_le (Heap.lt_size (I.pin p hp).1) (by rw [z]; exact hb)) (Nat.lt_irrefl _)
structure Turn (P:Program) (w:World) (K:JN) (tg:Expr) (J:It) (fp:List Addr) (it:Addr) (tn:Nat->Heap->Prop):Prop where
 mem:it ∈ fp
 obj:∀ i h,tn i h -> ∀ b ∈ fp,∃ o,h.get? b=some o /\ ∀ v,o.data ≠ .cell v
 keep:∀ i h h',tn i h->(∀ b ∈ fp,∀ o,h.get? b=some o->h'.get? b=some o)->tn i h'
 item:∀ (X:Cx),X.prog=P->X.w=w->X.K=K->X.calm=true -> ∀ (i:Nat) (pins:List (Addr × Obj)) (s:Shared) (σ:St) (H:Hp) (E:JO),Inv X pins σ H s->(∀ b ∈ fp,vg X pins H b)->tn i s.heap->J.go i H →
  wpAny (model P w) X.A (pyNext (.ref it)) (fun r s1=>∃ u,r=some u ∧
   wpAny (model P w) X.A (letOwnedTupleGo tg (.ref it) u) (fun _ s2=>∃ x H',Inv X pins σ H' s2 /\ zY x u /\ J.yld i H x H' /\ tn (i+1) s2.heap /\ ∀ b ∈ fp,H' b=none) E s1) E s
 done:∀ (X:Cx),X.prog=P->X.w=w->X.K=K->X.calm=true -> ∀ (i:Nat) (pins:List (Addr × Obj)) (s:Shared) (σ:St) (H:Hp) (E:JO),Inv X pins σ H s->(∀ b ∈ fp,vg X pins H b)->tn i s.heap->J.stop i H →
  wpAny (model P w) X.A (pyNext (.ref it)) (fun r s1=>r=none /\ Inv X pins σ H s1) E s
 self:∀ (A:Around) (i:Nat) (s:Shared) (Q:JO) (E:JO),tn i s.heap->Q (.ref it) s->wpAny (model P w) A (pyIter (.ref it)) Q E s
abbrev TI:=St->Hp->(It->Hp->Prop)->Prop
def PIE (X:Cx) (pins:List (Addr × Obj)) (σ:St) (tg:Expr) (R:It->Hp->Prop) (itv:Value) (s2:Shared):Prop :=
 ∃ (it:Addr) (fp:List Addr) (tn:Nat->Heap->Prop) (J:It) (H':Hp),itv = .ref it /\ Inv X pins σ H' s2 /\ Turn X.prog X.w X.K tg J fp it tn /\ tn 0 s2.heap /\ (∀ b ∈ fp,vg X pins H' b) /\ R J H'
def PI (X:Cx) (tg iter:Expr) (wi:TI):Prop :=
 ∀ (pins:List (Addr × Obj)) (s:Shared) (σ:St) (H:Hp) (R:It->Hp->Prop),Inv X pins σ H s->wi σ H R →
  wpAny (model X.prog X.w) X.A (eval iter X.env) (fun v s1=>wpAny (model X.prog X.w) X.A (pyIter v) (PIE X pins σ tg R) X.xe s1) X.xe s
theorem VT {M:Model} {A:Around} {E:JO} {s:Shared} {tg:Expr} {it:Addr} {u:Value} {o:Obj} {n:String} {vs:Array Value} {Q:Unit->Shared->Prop} (ho:s.heap.get? it=some o) (hc:o.cls = .type n) (hd:o.data = .fields vs)
    (hn:["enumerate","zip","dict_itemiterator","dict_reverseitemiterator","odict_iterator","itertools.zip_longest","itertools.pairwise"].contains n=false) (hQ:Q () s):wpAny M A (letOwnedTupleGo tg (.ref it) u) Q E s:=by
  unfold letOwnedTupleGo
  cases tg <;> first
    | exact wpAny_pure hQ
    | (cases u <;> first
        | exact wpAny_pure hQ
        | (refine wpAny_bind (wpAny_load ho ?_)
           rw [hc,hd]
           show wpAny M A (if (["enumerate","zip","dict_itemiterator","dict_reverseitemiterator","odict_iterator","itertools.zip_longest","itertools.pairwise"].contains n && vs[0]? == some (rawInt _))=true then _ else _) Q E s
           rw [if_neg (by intro h; rw [hn,Bool.false_and] at h; cases h)]
           exact wpAny_pure hQ))
def Itl (K:JN) (a:Addr):It :=
 ⟨fun i H=>∃ xs x,J1 K H a xs /\ xs[i]? = some x,fun i H x H'=>H' = H /\ ∀ xs,J1 K H a xs->xs[i]? = some x,fun i H=>∃ xs,J1 K H a xs /\ xs.length<=i⟩
def Itt (K:JN) (a:Addr):It :=
 ⟨fun i H=>∃ xs x,J3 K H a xs /\ xs[i]? = some x,fun i H x H'=>H' = H /\ ∀ xs,J3 K H a xs->xs[i]? = some x,fun i H=>∃ xs,J3 K H a xs /\ xs.length<=i⟩
def Itr (lo:Int) (n:Nat):It:=⟨fun i _=>i < n,fun i H x H'=>H' = H /\ x = .int (lo+i),fun i _=>n<=i⟩
theorem jg {P:Program} {w:World} {K:JN} {tg:Expr} (a it:Addr):Turn P w K tg (Itl K a) [it] it (fun i h=>h.IsListIter it a i) where
 mem:=by simp
 obj:=fun i h st b hb=>by
  have e:b=it:=by simpa using hb
  subst e
  obtain ⟨o,e,c,d⟩:=st
  exact ⟨o,e,fun v z=>by rw [d] at z; cases z⟩
 keep:=fun i h h' st k=>st.at fun o e=>k it (by simp) o e
 item:=by
  intro X hP hw hK hc i pins s σ H E I hf st hg
  subst hP hw hK
  obtain ⟨xs,x,hq,hx⟩:=hg
  obtain ⟨its,rv,p,hz⟩:=I.list hq
  obtain ⟨u,hu,ru⟩:=rv.get hx
  obtain ⟨f0,f1,f2,f3,f4,f5⟩:=hf it (by simp)
  refine wpAny_pyNext_list_item st p.isList (x:=u) (by simpa using hu) fun h' st' sb=>?_
  have I1:Inv X pins σ H { s with heap:=h' }:=I.turned (t':=s.toks) (fun b o hb e=>(sb.2 b hb).trans e) f0 f1 f3 f4 f5
  obtain ⟨o,e,c,d⟩:=id st'
  exact ⟨u,rfl,VT (s:={ s with heap:=h' }) e c d (by decide) ⟨x,H,I1,ru,⟨rfl,fun ys hy=>by rw [I.list_inj hy hq]; exact hx⟩,st',fun b hb=>(hf b hb).1⟩⟩
 done:=by
  intro X hP hw hK hc i pins s σ H E I hf st hg
  subst hP hw hK
  obtain ⟨xs,hq,hx⟩:=hg
  obtain ⟨its,rv,p,hz⟩:=I.list hq
  obtain ⟨f0,f1,f2,f3,f4,f5⟩:=hf it (by simp)
  have hl:=rv.length
  exact wpAny_pyNext_list_end (I.ok.hd hc) st p.isList (by simp; omega) fun h' eb=>⟨rfl,I.turned (t':=s.toks) (fun b o hb e=>eb b o hb e) f0 f1 f3 f4 f5⟩
 self:=fun _ _ _ _ _ st h=>wpAny_pyIter_listiter st h
theorem sS {P:Program} {w:World} {K:JN} {tg:Expr} (a it:Addr):Turn P w K tg (Itt K a) [it] it (fun i h=>h.IsTupleIter it a i) where
 mem:=by simp
 obj:=fun i h st b hb=>by
  have e:b=it:=by simpa using hb
  subst e
  obtain ⟨o,e,c,d⟩:=st
  exact ⟨o,e,fun v z=>by rw [d] at z; cases z⟩
 keep:=fun i h h' st k=>st.at fun o e=>k it (by simp) o e
 item:=by
  intro X hP hw hK hc i pins s σ H E I hf st hg
  subst hP hw hK
  obtain ⟨xs,x,hq,hx⟩:=hg
  obtain ⟨its,rv,p,hz⟩:=I.tuple hq
  obtain ⟨u,hu,ru⟩:=rv.get hx
  obtain ⟨f0,f1,f2,f3,f4,f5⟩:=hf it (by simp)
  refine wpAny_pyNext_tuple_item st (show s.heap.IsTuple a its.toArray from p) (x:=u) (by simpa using hu) fun h' st' sb=>?_
  have I1:Inv X pins σ H { s with heap:=h' }:=I.turned (t':=s.toks) (fun b o hb e=>(sb.2 b hb).trans e) f0 f1 f3 f4 f5
  obtain ⟨o,e,c,d⟩:=id st'
  exact ⟨u,rfl,VT (s:={ s with heap:=h' }) e c d (by decide) ⟨x,H,I1,ru,⟨rfl,fun ys hy=>by rw [I.tuple_inj hy hq]; exact hx⟩,st',fun b hb=>(hf b hb).1⟩⟩
 done:=by
  intro X hP hw hK hc i pins s σ H E I hf st hg
  subst hP hw hK
  obtain ⟨xs,hq,hx⟩:=hg
  obtain ⟨its,rv,p,hz⟩:=I.tuple hq
  obtain ⟨f0,f1,f2,f3,f4,f5⟩:=hf it (by simp)
  have hl:=rv.length
  exact wpAny_pyNext_tuple_end (I.ok.hd hc) st (show s.heap.IsTuple a its.toArray from p) (by simp; omega) fun h' eb=>⟨rfl,I.turned (t':=s.toks) (fun b o hb e=>eb b o hb e) f0 f1 f3 f4 f5⟩
 self:=fun _ _ _ _ _ st h=>wpAny_pyIter_tupleiter st h
theorem YW {P:Program} {w:World} {K:JN} {tg:Expr} (it:Addr) (lo:Int) (n:Nat):Turn P w K tg (Itr lo n) [it] it (fun i h=>IsRangeIter h it (lo+(i:Nat) * 1) ((n:Int) - (i:Nat)) 1) where
 mem:=by simp
 obj:=fun i h st b hb=>by
  have e:b=it:=by simpa using hb
  subst e
  exact ⟨_,st,fun v z=>by
   have z':Data.fields _=Data.cell v:=z
   cases z'⟩
 keep:=fun i h h' st k=>k it (by simp) _ st
 item:=by
  intro X hP hw hK hc i pins s σ H E I hf st hg
  subst hP hw hK
  obtain ⟨f0,f1,f2,f3,f4,f5⟩:=hf it (by simp)
  have W:=Walks.range (prog:=X.prog) (w:=X.w) (I.ok.hd hc) it lo 1 n
  refine W.item i s _ _ hg st fun v h' tk hv st' kk=>?_
  obtain ⟨t,rfl⟩:=hv
  have I1:Inv X pins σ H { s with heap:=h',toks:=tk }:=I.turned (fun b o hb e=>kk b o (by simpa using hb) e) f0 f1 f3 f4 f5
  refine ⟨_,rfl,VT (s:={ s with heap:=h',toks:=tk }) (n:="range_iterator") st' rfl rfl (by decide) ⟨.int (lo+i),H,I1,⟨t,?_⟩,⟨rfl,rfl⟩,st',fun b hb=>(hf b hb).1⟩⟩
  rw [Int.mul_one]
 done:=by
  intro X hP hw hK hc i pins s σ H E I hf st hg
  subst hP hw hK
  obtain ⟨f0,f1,f2,f3,f4,f5⟩:=hf it (by simp)
  exact wpAny_pyNext_range_end (I.ok.hd hc) st (by have:n<=i:=hg; omega) fun h' eb=>⟨rfl,I.turned (t':=s.toks) (fun b o hb e=>eb b o hb e) f0 f1 f3 f4 f5⟩
 self:=fun _ _ _ _ _ st h=>wpAny_pyIter_rangeiter st h
end L2
namespace L2
open PySem PySem.Spec PyProof.Rows
section
variable {X:Cx} {tg:Expr}
def Ql (K:JN) (tl:TE):TI:=fun σ H R=>tl σ H fun x H1=>∃ a,x = .ref a /\ (∃ xs,J1 K H1 a xs) /\ R (Itl K a) H1
def Jt (K:JN) (tl:TE):TI:=fun σ H R=>tl σ H fun x H1=>∃ a,x = .ref a /\ (∃ xs,J3 K H1 a xs) /\ R (Itt K a) H1
theorem wX {l:Expr} {tl:TE} (hl:PE X l tl):PI X tg l (Ql X.K tl):=by
 intro pins s σ H R I h
 refine JY (hl pins s σ H _ I h) fun v s1 ⟨x,H1,I1,r1,q1⟩=>?_
 obtain ⟨a,e,⟨xs,hq⟩,q⟩:=q1
 subst e
 cases r1
 obtain ⟨its,rv,p,hz⟩:=I1.list hq
 refine wpAny_pyIter_list p.isList ?_
 refine ⟨s1.heap.objs.size,[s1.heap.objs.size],_,_,H1,rfl,I1.kept (t':=s1.toks) fun b o e=>Heap.get?_push_of_some _ e,jg a _,⟨_,Heap.get?_push_size _ rfl,rfl,rfl⟩,fun b hb=>?_,q⟩
 have e:b=s1.heap.objs.size:=by simpa using hb
 subst e
 exact I1.fpOk (Nat.le_refl _) (I1.hok.fresh (Nat.le_refl _))
theorem sT {l:Expr} {tl:TE} (hl:PE X l tl):PI X tg l (Jt X.K tl):=by
 intro pins s σ H R I h
 refine JY (hl pins s σ H _ I h) fun v s1 ⟨x,H1,I1,r1,q1⟩=>?_
 obtain ⟨a,e,⟨xs,hq⟩,q⟩:=q1
 subst e
 cases r1
 obtain ⟨its,rv,p,hz⟩:=I1.tuple hq
 refine wpAny_pyIter_tuple (show s1.heap.IsTuple a its.toArray from p) ?_
 refine ⟨s1.heap.objs.size,[s1.heap.objs.size],_,_,H1,rfl,I1.kept (t':=s1.toks) fun b o e=>Heap.get?_push_of_some _ e,sS a _,⟨_,Heap.get?_push_size _ rfl,rfl,rfl⟩,fun b hb=>?_,q⟩
 have e:b=s1.heap.objs.size:=by simpa using hb
 subst e
 exact I1.fpOk (Nat.le_refl _) (I1.hok.fresh (Nat.le_refl _))
theorem Yi {pins:List (Addr × Obj)} {σ:St} {H:Hp} {s:Shared} {R:It->Hp->Prop} {E:JO} {lo hi:Int} {t u v:Tok} {tk:Nat} (I:Inv X pins σ H s) (h1:-(2 ^ 62)<=lo) (h2:lo < 2 ^ 62) (h3:-(2 ^ 62)<=hi) (h4:hi < 2 ^ 62)
  (q:R (Itr lo (hi - lo).toNat) H):wpAny (model X.prog X.w) X.A (pyIter (.ref s.heap.objs.size)) (PIE X pins σ tg R) E { s with heap:=s.heap.push { cls:=.type "range",data:=.fields #[.int lo t,.int hi u,.int 1 v] },toks:=tk }:=by
 refine wpAny_pyIter_range (IsRange.new ..) (small_one h1 h2 h3 h4) ?_
 have I1:Inv X pins σ H { s with heap:=s.heap.push { cls:=.type "range",data:=.fields #[.int lo t,.int hi u,.int 1 v] },toks:=tk }:=I.kept fun b o e=>Heap.get?_push_of_some _ e
 refine ⟨(s.heap.push { cls:=.type "range",data:=.fields #[.int lo t,.int hi u,.int 1 v] }).objs.size,[(s.heap.push { cls:=.type "range",data:=.fields #[.int lo t,.int hi u,.int 1 v] }).objs.size],_,_,H,rfl,
  I1.kept (t':=tk) fun b o e=>Heap.get?_push_of_some _ e,YW _ lo (hi - lo).toNat,?_,fun b hb=>?_,q⟩
 ·have e1:lo+((0:Nat):Int) * 1=lo:=by simp
  have e2:(((hi - lo).toNat:Nat):Int) - ((0:Nat):Int)=Builtin.Range.rangeSize lo hi 1:=by rw [rangeSize_one]; split <;> omega
  show IsRangeIter _ _ (lo+((0:Nat):Int) * 1) ((((hi - lo).toNat:Nat):Int) - ((0:Nat):Int)) 1
  rw [e1,e2]
  exact Heap.get?_push_size _ rfl
 ·have e:b=(s.heap.push { cls:=.type "range",data:=.fields #[.int lo t,.int hi u,.int 1 v] }).objs.size:=by simpa using hb
  subst e
  exact I1.fpOk (Nat.le_refl _) (I1.hok.fresh (Nat.le_refl _))
def Qm (ta:TA):TI:=fun σ H R=>ta σ H fun vs H1=>∃ j:Int,vs=[.int j] /\ -(2 ^ 62)<=j /\ j < 2 ^ 62 /\ R (Itr 0 j.toNat) H1
def Qn (ta:TA):TI:=fun σ H R=>ta σ H fun vs H1=>∃ i j:Int,vs=[.int i,.int j] /\ (-(2 ^ 62)<=i /\ i < 2 ^ 62 /\ -(2 ^ 62)<=j /\ j < 2 ^ 62) /\ R (Itr i (j - i).toNat) H1
theorem zS {a:Expr} {ta:TA} {p pos:Pos} (hg:Gl X "range") (hm:X.mg "range" = none) (ha:PA X [a] ta) (hs:starEach [a] X.env=[(false,eval a X.env)]:=by rfl):PI X tg (.Call (.Name "range" p) [a] [] pos) (Qm ta):=by
 intro pins s σ H R I h
 refine Call_ (uV I hg hm boot_range (PyProof.Rows.callWith_type1 (JY (ha pos pins s σ H _ I h) fun us s1 ⟨vs,H1,I1,r1,q1⟩=>?_) hs rfl))
 obtain ⟨j,e,q1,q2,q⟩:=q1
 subst e
 cases r1 with
 | cons r rr =>
  cases rr
  obtain ⟨t,rfl⟩:=r
  exact call_range_1 (Yi I1 (by omega) (by omega) q1 q2 (by simpa using q))
theorem uW {a b:Expr} {ta:TA} {p pos:Pos} (hg:Gl X "range") (hm:X.mg "range" = none) (ha:PA X [a,b] ta) (hs:starEach [a,b] X.env=[(false,eval a X.env),(false,eval b X.env)]:=by rfl) (hs2:starEach [b] X.env=[(false,eval b X.env)]:=by rfl) :
  PI X tg (.Call (.Name "range" p) [a,b] [] pos) (Qn ta):=by
 intro pins s σ H R I h
 refine Call_ (uV I hg hm boot_range (PyProof.Rows.callWith_type1 (JY (ha pos pins s σ H _ I h) fun us s1 ⟨vs,H1,I1,r1,q1⟩=>?_) (by rw [hs,hs2]) (by rw [hs2]; rfl)))
 obtain ⟨i,j,e,⟨q1,q2,q3,q4⟩,q⟩:=q1
 subst e
 cases r1 with
 | cons r rr =>
  cases rr with
  | cons r' rr =>
   cases rr
   obtain ⟨t,rfl⟩:=r
   obtain ⟨t',rfl⟩:=r'
   exact call_range_2 (Yi I1 q1 q2 q3 q4 q)
def Qo (wi:TI) (g:TG) (tb:TS):TS:=fun D σ H=>wi σ H fun J H1=>∃ W:Nat->Nat->St->Hp->Prop,(∃ m,W 0 m σ H1) /\ ∀ i m σ H,W i m σ H →
 (J.stop i H /\ D.nx σ H) \/ (J.go i H /\ ∃ N:St->Hp->Prop,(∀ σ' H',N σ' H' -> ∃ m',m' < m /\ W (i+1) m' σ' H') /\ ∀ x H',J.yld i H x H' -> g x σ H' fun σ2 H2=>tb { D with nx:=N,ct:=N,bk:=D.nx } σ2 H2)
def vi (fp:List Addr) (h:Heap):List (Addr × Obj):=fp.filterMap fun b=>(h.get? b).map fun o=>(b,o)
theorem yM {fp:List Addr} {h:Heap} {b:Addr} {o:Obj} (hb:b ∈ fp) (e:h.get? b=some o):(b,o) ∈ vi fp h:=List.mem_filterMap.mpr ⟨b,hb,by rw [e]; rfl⟩
theorem X1 {fp:List Addr} {h:Heap} {p:Addr × Obj} (hp:p ∈ vi fp h):p.1 ∈ fp /\ h.get? p.1=some p.2:=by
 obtain ⟨b,hb,e⟩:=List.mem_filterMap.mp hp
 cases q:h.get? b with
 | none=>rw [q] at e; cases e
 | some o =>
  rw [q] at e
  have e':(b,o)=p:=Option.some.inj e
  subst e'
  exact ⟨hb,q⟩
theorem Inv.pinned {pins:List (Addr × Obj)} {σ:St} {H:Hp} {s:Shared} {fp:List Addr} (I:Inv X pins σ H s) (hf:∀ b ∈ fp,vg X pins H b) (ho:∀ b ∈ fp,∃ o,s.heap.get? b=some o /\ ∀ v,o.data ≠ .cell v):Inv X (pins ++ vi fp s.heap) σ H s :=
 I.pins_of fun p hp=>(List.mem_append.mp hp).elim (fun z=>I.pin p (List.mem_append_right _ z)) fun z=>by
  obtain ⟨hb,e⟩:=X1 z
  obtain ⟨f0,f1,f2,_⟩:=hf p.1 hb
  obtain ⟨o,e',d⟩:=ho p.1 hb
  rw [e] at e'; cases e'
  exact ⟨e,f0,f1,f2,d⟩
theorem Inv.unpinned {pins pl:List (Addr × Obj)} {σ:St} {H:Hp} {s:Shared} (I:Inv X (pins ++ pl) σ H s):Inv X pins σ H s:=I.pins_of fun p hp=>I.pin p (List.mem_append_right _ (List.mem_append_left _ hp))
theorem yW {iter:Expr} {body:List Stmt} {wi:TI} {g:TG} {tb:TS} {pos:Pos} (hp:PassesOwn (model X.prog X.w) X.A X.env X.xe) (hc:X.calm=true) (hi:PI X tg iter wi) (hg:PG X tg g) (hb:JX X body tb)
  (hs:∀ x,foldedSetIterable iter X.env x=pure x:=by intro _; rfl):PS X (.For tg iter body [] pos) (Qo wi g tb):=by
 intro pins s σ H D I h
 refine wpAny_For (JY (hi pins s σ H _ I h) fun v s1 h1=>JY h1 fun itv s2 h2=>?_) hs
 obtain ⟨it,fp,tn,J,H2,e,I2,T,st2,f2,W,⟨m0,w0⟩,turn⟩:=h2
 subst e
 -- what stays true of the iterator's objects through the loop
 have stat:∀ {H':Hp},(∀ b ∈ fp,H' b=none) -> ∀ b ∈ fp,vg X pins H' b:=fun hn b hb=>⟨hn b hb,(f2 b hb).2⟩
 refine codeAny_forLoop_any (fun n s'=>∃ i σ' H',Inv X pins σ' H' s' /\ tn i s'.heap /\ (∀ b ∈ fp,H' b=none) /\ W i n σ' H') ?_ m0 ⟨0,σ,H2,I2,st2,fun b hb=>(f2 b hb).1,w0⟩
 rintro n s3 ⟨i,σ3,H3,I3,st3,fr3,w3⟩
 rcases turn i n σ3 H3 w3 with ⟨stop,qn⟩ | ⟨go,N,hN,step⟩
 ·refine wpAny_passesOwn hp (JY (T.done X rfl rfl rfl hc i pins s3 σ3 H3 X.xe I3 (stat fr3) st3 stop) fun r s4 ⟨hr,I4⟩=>?_)
  subst hr
  exact wpAny_execs_nil ⟨σ3,H3,I4,qn⟩
 ·refine wpAny_passesOwn hp (JY (T.item X rfl rfl rfl hc i pins s3 σ3 H3 X.xe I3 (stat fr3) st3 go) fun r s4 ⟨u,hr,h4⟩=>?_)
  subst hr
  refine wpAny_passesOwn hp (JY h4 fun _ s5 ⟨x,H5,I5,r5,y5,st5,fr5⟩=>?_)
  have I5':=I5.pinned (stat fr5) (T.obj _ _ st5)
  refine wpAny_passesOwn hp (JY (hg _ s5 σ3 H5 x u _ I5' r5 (step x H5 y5)) fun _ s6 ⟨σ6,H6,I6,q6⟩=>?_)
  refine wpAny_passesOwn hp (JY (hb _ s6 σ6 H6 _ I6 q6) fun f s7 q7=>?_)
  have again:∀ {σ7:St} {H7:Hp},Inv X (pins ++ vi fp s5.heap) σ7 H7 s7->N σ7 H7 -> ∃ m,m < n /\ ∃ i σ' H',Inv X pins σ' H' s7 /\ tn i s7.heap /\ (∀ b ∈ fp,H' b=none) /\ W i m σ' H':=fun {σ7 H7} I7 n7=>by
   obtain ⟨m',hm,w7⟩:=hN σ7 H7 n7
   refine ⟨m',hm,i+1,σ7,H7,I7.unpinned,T.keep _ _ _ st5 fun b hb o e=>(I7.pin (b,o) (List.mem_append_right _ (List.mem_append_right _ (yM hb e)))).1,fun b hb=>?_,w7⟩
   obtain ⟨o,e,d⟩:=T.obj _ _ st5 b hb
   exact (I7.pin (b,o) (List.mem_append_right _ (List.mem_append_right _ (yM hb e)))).2.1
  cases f with
  | next=>obtain ⟨σ7,H7,I7,n7⟩:=q7; exact again I7 n7
  | cont=>obtain ⟨σ7,H7,I7,n7⟩:=q7; exact again I7 n7
  | brk=>obtain ⟨σ7,H7,I7,q7⟩:=q7; exact ⟨σ7,H7,I7.unpinned,q7⟩
  | ret v=>obtain ⟨x7,σ7,H7,I7,r7,q7⟩:=q7; exact ⟨x7,σ7,H7,I7.unpinned,r7,q7⟩
end
theorem vj {K:JN} {a:Addr} {xs:List V} {g:TG} {tb:TS} {D:Ends} {σ:St} {H:Hp} (Pv:Nat->St->Hp->Prop) (h0:Pv 0 σ H) (hl:∀ i σ H,i<=xs.length->Pv i σ H->J1 K H a xs)
  (hs:∀ i x σ H,xs[i]? = some x->Pv i σ H->g x σ H fun σ2 H2=>tb { D with nx:=Pv (i+1),ct:=Pv (i+1),bk:=D.nx } σ2 H2) (hd:∀ σ H,Pv xs.length σ H->D.nx σ H) :
  ∃ W:Nat->Nat->St->Hp->Prop,(∃ m,W 0 m σ H) /\ ∀ i m σ H,W i m σ H →
   ((Itl K a).stop i H /\ D.nx σ H) \/ ((Itl K a).go i H /\ ∃ N:St->Hp->Prop,(∀ σ' H',N σ' H' -> ∃ m',m' < m /\ W (i+1) m' σ' H') /\ ∀ x H',(Itl K a).yld i H x H' -> g x σ H' fun σ2 H2=>tb { D with nx:=N,ct:=N,bk:=D.nx } σ2 H2):=by
 refine ⟨fun i m σ H=>m=xs.length - i /\ i<=xs.length /\ Pv i σ H,⟨xs.length,by simp,Nat.zero_le _,h0⟩,?_⟩
 rintro i m σ H ⟨rfl,hi,p⟩
 have q:=hl i σ H hi p
 by_cases hlt:i < xs.length
 ·refine .inr ⟨⟨xs,xs[i],q,by simp [hlt]⟩,Pv (i+1),fun σ' H' p'=>⟨xs.length - (i+1),by omega,rfl,hlt,p'⟩,fun x H' y=>?_⟩
  obtain ⟨e,y⟩:=y
  subst e
  exact hs i x σ _ (y xs q) p
 ·have e:i=xs.length:=by omega
  subst e
  exact .inl ⟨⟨xs,q,Nat.le_refl _⟩,hd σ H p⟩
theorem uX {K:JN} {a:Addr} {xs:List V} {g:TG} {tb:TS} {D:Ends} {σ:St} {H:Hp} (Pv:Nat->St->Hp->Prop) (h0:Pv 0 σ H) (hl:∀ i σ H,i<=xs.length->Pv i σ H->J3 K H a xs)
  (hs:∀ i x σ H,xs[i]? = some x->Pv i σ H->g x σ H fun σ2 H2=>tb { D with nx:=Pv (i+1),ct:=Pv (i+1),bk:=D.nx } σ2 H2) (hd:∀ σ H,Pv xs.length σ H->D.nx σ H) :
  ∃ W:Nat->Nat->St->Hp->Prop,(∃ m,W 0 m σ H) /\ ∀ i m σ H,W i m σ H →
   ((Itt K a).stop i H /\ D.nx σ H) \/ ((Itt K a).go i H /\ ∃ N:St->Hp->Prop,(∀ σ' H',N σ' H' -> ∃ m',m' < m /\ W (i+1) m' σ' H') /\ ∀ x H',(Itt K a).yld i H x H' -> g x σ H' fun σ2 H2=>tb { D with nx:=N,ct:=N,bk:=D.nx } σ2 H2):=by
 refine ⟨fun i m σ H=>m=xs.length - i /\ i<=xs.length /\ Pv i σ H,⟨xs.length,by simp,Nat.zero_le _,h0⟩,?_⟩
 rintro i m σ H ⟨rfl,hi,p⟩
 have q:=hl i σ H hi p
 by_cases hlt:i < xs.length
 ·refine .inr ⟨⟨xs,xs[i],q,by simp [hlt]⟩,Pv (i+1),fun σ' H' p'=>⟨xs.length - (i+1),by omega,rfl,hlt,p'⟩,fun x H' y=>?_⟩
  obtain ⟨e,y⟩:=y
  subst e
  exact hs i x σ _ (y xs q) p
 ·have e:i=xs.length:=by omega
  subst e
  exact .inl ⟨⟨xs,q,Nat.le_refl _⟩,hd σ H p⟩
theorem yN {lo:Int} {n:Nat} {g:TG} {tb:TS} {D:Ends} {σ:St} {H:Hp} (Pv:Nat->St->Hp->Prop) (h0:Pv 0 σ H)
  (hs:∀ i σ H,i < n->Pv i σ H->g (.int (lo+i)) σ H fun σ2 H2=>tb { D with nx:=Pv (i+1),ct:=Pv (i+1),bk:=D.nx } σ2 H2) (hd:∀ σ H,Pv n σ H->D.nx σ H) :
  ∃ W:Nat->Nat->St->Hp->Prop,(∃ m,W 0 m σ H) /\ ∀ i m σ H,W i m σ H →
   ((Itr lo n).stop i H /\ D.nx σ H) \/ ((Itr lo n).go i H /\ ∃ N:St->Hp->Prop,(∀ σ' H',N σ' H' -> ∃ m',m' < m /\ W (i+1) m' σ' H') /\ ∀ x H',(Itr lo n).yld i H x H' -> g x σ H' fun σ2 H2=>tb { D with nx:=N,ct:=N,bk:=D.nx } σ2 H2):=by
 refine ⟨fun i m σ H=>m=n - i /\ i<=n /\ Pv i σ H,⟨n,by simp,Nat.zero_le _,h0⟩,?_⟩
 rintro i m σ H ⟨rfl,hi,p⟩
 by_cases hlt:i < n
 ·refine .inr ⟨hlt,Pv (i+1),fun σ' H' p'=>⟨n - (i+1),by omega,rfl,hlt,p'⟩,fun x H' y=>?_⟩
  obtain ⟨e,y⟩:=y
  subst e y
  exact hs i σ _ hlt p
 ·have e:i=n:=by omega
  subst e
  exact .inl ⟨Nat.le_refl _,hd σ H p⟩
end L2
namespace L2
open PySem PySem.Spec PyProof.Rows
abbrev R2:=V->V->Hp->VK->Prop
def OpR (X:Cx) (f:Value->Value->Sem Value) (r:R2):Prop :=
 ∀ (pins:List (Addr × Obj)) (s:Shared) (σ:St) (H:Hp) (x y:V) (v u:Value) (Q:VK),Inv X pins σ H s->zY x v->zY y u->r x y H Q →
  wpAny (model X.prog X.w) X.A (f v u) (EP X pins σ Q) X.xe s
def UnR (X:Cx) (f:Value->Sem Value) (r:V->Hp->VK->Prop):Prop :=
 ∀ (pins:List (Addr × Obj)) (s:Shared) (σ:St) (H:Hp) (x:V) (v:Value) (Q:VK),Inv X pins σ H s->zY x v->r x H Q →
  wpAny (model X.prog X.w) X.A (f v) (EP X pins σ Q) X.xe s
def wp (X:Cx) (f:Value) (r:List V->Hp->VK->Prop):Prop :=
 ∀ (pins:List (Addr × Obj)) (s:Shared) (σ:St) (H:Hp) (xs:List V) (us:List Value) (Q:VK),Inv X pins σ H s->zX xs us->r xs H Q →
  wpAny (model X.prog X.w) X.A (call f us) (EP X pins σ Q) X.xe s
def Ju (X:Cx) (r:V->Hp->(Bool->Hp->Prop)->Prop):Prop :=
 ∀ (pins:List (Addr × Obj)) (s:Shared) (σ:St) (H:Hp) (x:V) (v:Value) (Q:Bool->Hp->Prop),Inv X pins σ H s->zY x v->r x H Q →
  wpAny (model X.prog X.w) X.A (truthy v) (TP X pins σ Q) X.xe s
def tOp (r:R2) (ta tb:TE):TE:=fun σ H Q=>ta σ H fun x H1=>tb σ H1 fun y H2=>r x y H2 Q
def tUn (r:V->Hp->VK->Prop) (ta:TE):TE:=fun σ H Q=>ta σ H fun x H1=>r x H1 Q
def rI (C:Int->Int->Prop) (g:Int->Int->V):R2:=fun x y H Q=>∃ i j,x = .int i /\ y = .int j /\ C i j /\ Q (g i j) H
def rI0 (g:Int->Int->V):R2:=fun x y H Q=>∃ i j,x = .int i /\ y = .int j /\ Q (g i j) H
def rU (g:Int->V):V->Hp->VK->Prop:=fun x H Q=>∃ i,x = .int i /\ Q (g i) H
section
variable {X:Cx} {a b c:Expr} {ta tb tc:TE} {pos:Pos}
theorem Qp (ha:PE X a ta) (hb:PE X b tb) {pins:List (Addr × Obj)} {s:Shared} {σ:St} {H:Hp} {R:V->V->Hp->Prop} (I:Inv X pins σ H s)
  (h:ta σ H fun x H1=>tb σ H1 fun y H2=>R x y H2) {Q:JO} {f:Value->Value->Sem Value}
  (hf:∀ v u s2 x y H2,Inv X pins σ H2 s2->zY x v->zY y u->R x y H2->wpAny (model X.prog X.w) X.A (f v u) Q X.xe s2) :
  wpAny (model X.prog X.w) X.A (eval a X.env) (fun v s₁=>wpAny (model X.prog X.w) X.A (eval b X.env) (fun u s₂=>wpAny (model X.prog X.w) X.A (f v u) Q X.xe s₂) X.xe s₁) X.xe s:=by
 refine JY (ha pins s σ H _ I h) fun v s1 ⟨x,H1,I1,r1,q1⟩=>?_
 refine JY (hb pins s1 σ H1 _ I1 q1) fun u s2 ⟨y,H2,I2,r2,q2⟩=>?_
 exact hf v u s2 x y H2 I2 r1 r2 q2
theorem zp {op:Operator} {r:R2} (ho:OpR X (binaryOp op) r) (ha:PE X a ta) (hb:PE X b tb):PE X (.BinOp a op b pos) (tOp r ta tb):=by
 intro pins s σ H Q I h
 exact wpAny_BinOp (Qp ha hb I h fun v u s2 x y H2 I2 rx ry q=>ho pins s2 σ H2 x y v u Q I2 rx ry q)
theorem X2 {op:UnaryOp} {r:V->Hp->VK->Prop} (ho:UnR X (unaryOp op) r) (ha:PE X a ta):PE X (.UnaryOp op a pos) (tUn r ta):=by
 intro pins s σ H Q I h
 exact UnaryOp_ (JY (ha pins s σ H _ I h) fun v s1 ⟨x,H1,I1,r1,q1⟩=>ho pins s1 σ H1 x v Q I1 r1 q1)
theorem opI {f:Value->Value->Sem Value} {C:Int->Int->Prop} {g:Int->Int->Int}
  (rule:∀ (i j:Int) (t u:Tok) (s:Shared) (Q:JO) (E:JO),C i j->Q (.int (g i j) s.toks) { s with toks:=s.toks+1 } -> wpAny (model X.prog X.w) X.A (f (.int i t) (.int j u)) Q E s) :
  OpR X f (rI C fun i j=>.int (g i j)):=by
 intro pins s σ H x y v u Q I rx ry h
 obtain ⟨i,j,rfl,rfl,hc,q⟩:=h
 obtain ⟨t,rfl⟩:=rx
 obtain ⟨t',rfl⟩:=ry
 exact rule i j t t' s _ _ hc ⟨.int (g i j),H,I.tok _,⟨_,rfl⟩,q⟩
theorem SU {f:Value->Value->Sem Value} {g:Int->Int->Int}
  (rule:∀ (i j:Int) (t u:Tok) (s:Shared) (Q:JO) (E:JO),Q (.int (g i j) s.toks) { s with toks:=s.toks+1 } -> wpAny (model X.prog X.w) X.A (f (.int i t) (.int j u)) Q E s) :
  OpR X f (rI0 fun i j=>.int (g i j)):=by
 intro pins s σ H x y v u Q I rx ry h
 obtain ⟨i,j,rfl,rfl,q⟩:=h
 obtain ⟨t,rfl⟩:=rx
 obtain ⟨t',rfl⟩:=ry
 exact rule i j t t' s _ _ ⟨.int (g i j),H,I.tok _,⟨_,rfl⟩,q⟩
theorem Qq {f:Value->Value->Sem Value} {g:Int->Int->Bool}
  (rule:∀ (i j:Int) (t u:Tok) (s:Shared) (Q:JO) (E:JO),Q (.bool (g i j)) s->wpAny (model X.prog X.w) X.A (f (.int i t) (.int j u)) Q E s) :
  OpR X f (rI0 fun i j=>.bl (g i j)):=by
 intro pins s σ H x y v u Q I rx ry h
 obtain ⟨i,j,rfl,rfl,q⟩:=h
 obtain ⟨t,rfl⟩:=rx
 obtain ⟨t',rfl⟩:=ry
 exact rule i j t t' s _ _ ⟨.bl (g i j),H,I,rfl,q⟩
def SG (i j:Int):Prop:=0<=j /\ j<=1000000 /\ i.natAbs < 2 ^ 64
theorem YX (k:Nat):(0:Int)<=2 ^ k:=by
 rw [two_pow_cast]
 exact Int.natCast_nonneg _
theorem yd:OpR X (binaryOp .Add) (rI0 fun i j=>.int (i+j)):=SU fun _ _ _ _ _ _ _ q=>add_int q
theorem yx:OpR X (binaryOp .Sub) (rI0 fun i j=>.int (i - j)):=SU fun _ _ _ _ _ _ _ q=>sub_int q
theorem jh:OpR X (binaryOp .Mod) (rI (fun _ j=>0 < j) fun i j=>.int (i % j)):=opI fun i j _ _ _ _ _ hc q=>by
 have h1:(0:Int) < j:=hc
 exact mod_int' (by omega) (by rw [Int.fmod_eq_emod_of_nonneg i (by omega)]; exact q)
theorem X3:OpR X (binaryOp .Pow) (rI SG fun i j=>.int (i ^ j.toNat)):=opI fun _ _ _ _ _ _ _ hc q=>pow_int_small hc.1 hc.2.1 hc.2.2 q
theorem yX:OpR X (binaryOp .LShift) (rI SG fun i j=>.int (i * 2 ^ j.toNat)):=opI fun _ _ _ _ _ _ _ hc q=>lshift_int_small hc.1 hc.2.1 hc.2.2 q
theorem X4:OpR X (binaryOp .RShift) (rI (fun _ j=>0<=j) fun i j=>.int (i / 2 ^ j.toNat)):=opI fun i j _ _ _ _ _ hc q =>
 rshift_int hc (by rw [Int.fdiv_eq_ediv_of_nonneg i (YX _)]; exact q)
theorem ji:OpR X (binaryOp .BitAnd) (rI0 fun i j=>.int (Builtin.bitAnd i j)):=SU fun _ _ _ _ _ _ _ q=>and_int q
theorem Tp:OpR X (binaryOp .BitOr) (rI0 fun i j=>.int (Builtin.bitOr i j)):=SU fun _ _ _ _ _ _ _ q=>or_int q
theorem UP:OpR X (binaryOp .BitXor) (rI0 fun i j=>.int (Builtin.bitXor i j)):=SU fun _ _ _ _ _ _ _ q=>xor_int q
theorem unI {f:Value->Sem Value} {g:Int->Int}
  (rule:∀ (i:Int) (t:Tok) (s:Shared) (Q:JO) (E:JO),Q (.int (g i) s.toks) { s with toks:=s.toks+1 } -> wpAny (model X.prog X.w) X.A (f (.int i t)) Q E s) :
  UnR X f (rU fun i=>.int (g i)):=by
 intro pins s σ H x v Q I rx h
 obtain ⟨i,rfl,q⟩:=h
 obtain ⟨t,rfl⟩:=rx
 exact rule i t s _ _ ⟨.int (g i),H,I.tok _,⟨_,rfl⟩,q⟩
theorem jj:UnR X (unaryOp .USub) (rU fun i=>.int (-i)):=unI fun _ _ _ _ _ q=>neg_int q
end
def Q3:V->V->Bool
 | .non,.non=>true | .non,.int _=>true | .int _,.non=>true | .non,.bl _=>true | .bl _,.non=>true | .non,.str _=>true | .str _,.non=>true
 | .int _,.int _=>true | .bl _,.bl _=>true | .str _,.str _=>true | .byt _,.byt _=>true
 | .int _,.str _=>true | .str _,.int _=>true | .bl _,.str _=>true | .str _,.bl _=>true
 | _,_=>false
def rEq:R2:=fun x y H Q=>Q3 x y=true /\ Q (.bl (decide (x=y))) H
def rNe:R2:=fun x y H Q=>Q3 x y=true /\ Q (.bl (!decide (x=y))) H
theorem X5 {i j:Int}:decide (V.int i=V.int j)=(i == j):=by
 rw [Bool.eq_iff_iff]
 simp
theorem UQ {i j:Bool}:decide (V.bl i=V.bl j)=(i == j):=by
 rw [Bool.eq_iff_iff]
 simp
theorem X6 {i j:Str}:decide (V.str i=V.str j)=(i == j):=by
 rw [Bool.eq_iff_iff]
 simp
theorem X7 {i j:Array UInt8}:decide (V.byt i=V.byt j)=(i.toList == j.toList):=by
 rw [Bool.eq_iff_iff]
 cases i
 cases j
 simp
section
variable {X:Cx} {a b c:Expr} {ta tb tc:TE} {pos:Pos}
theorem zV {pins:List (Addr × Obj)} {σ:St} {H:Hp} {s:Shared} {Q:VK} {k k':Bool} (I:Inv X pins σ H s) (q:Q (.bl k) H) (e:k=k'):EP X pins σ Q (.bool k') s:=by
 subst e
 exact ⟨.bl k,H,I,rfl,q⟩
theorem wn:OpR X (compareOp .Eq) rEq:=by
 intro pins s σ H x y v u Q I rx ry h
 obtain ⟨hs,q⟩:=h
 cases x with
 | non =>
  cases rx
  cases y with
  | non=>cases ry; exact PySem.EqNone.eq_none_none (zV I q (by simp))
  | bl j=>cases ry; exact PySem.EqNone.eq_none_bool (zV I q (by simp))
  | int j=>obtain ⟨t',rfl⟩:=ry; exact PySem.EqNone.eq_none_int (zV I q (by simp))
  | str j=>obtain ⟨t',rfl⟩:=ry; exact PySem.EqNone.eq_none_str (zV I q (by simp))
  | _=>exact absurd (show false=true from hs) Bool.false_ne_true
 | bl i =>
  cases rx
  cases y with
  | non=>cases ry; exact PySem.EqNone.eq_bool_none (zV I q (by simp))
  | bl j=>cases ry; exact eq_bool (zV I q UQ)
  | str j=>obtain ⟨t',rfl⟩:=ry; exact PySem.EqMixed.eq_bool_str (zV I q (by simp))
  | _=>exact absurd (show false=true from hs) Bool.false_ne_true
 | int i =>
  obtain ⟨t,rfl⟩:=rx
  cases y with
  | non=>cases ry; exact PySem.EqNone.eq_int_none (zV I q (by simp))
  | int j=>obtain ⟨t',rfl⟩:=ry; exact eq_int (zV I q X5)
  | str j=>obtain ⟨t',rfl⟩:=ry; exact PySem.EqMixed.eq_int_str (zV I q (by simp))
  | _=>exact absurd (show false=true from hs) Bool.false_ne_true
 | str i =>
  obtain ⟨t,rfl⟩:=rx
  cases y with
  | non=>cases ry; exact PySem.EqNone.eq_str_none (zV I q (by simp))
  | bl j=>cases ry; exact PySem.EqMixed.eq_str_bool (zV I q (by simp))
  | int j=>obtain ⟨t',rfl⟩:=ry; exact PySem.EqMixed.eq_str_int (zV I q (by simp))
  | str j=>obtain ⟨t',rfl⟩:=ry; exact eq_str (zV I q X6)
  | _=>exact absurd (show false=true from hs) Bool.false_ne_true
 | byt i =>
  obtain ⟨t,rfl⟩:=rx
  cases y with
  | byt j=>obtain ⟨t',rfl⟩:=ry; exact PySem.W.eq_bytes (zV I q X7)
  | _=>exact absurd (show false=true from hs) Bool.false_ne_true
 | _=>cases y <;> exact absurd (show false=true from hs) Bool.false_ne_true
theorem ZB:OpR X (compareOp .NotEq) rNe:=by
 intro pins s σ H x y v u Q I rx ry h
 obtain ⟨hs,q⟩:=h
 cases x with
 | non =>
  cases rx
  cases y with
  | non=>cases ry; exact PySem.EqNone.ne_none_none (zV I q (by simp))
  | bl j=>cases ry; exact PySem.EqNone.ne_none_bool (zV I q (by simp))
  | int j=>obtain ⟨t',rfl⟩:=ry; exact PySem.EqNone.ne_none_int (zV I q (by simp))
  | str j=>obtain ⟨t',rfl⟩:=ry; exact PySem.EqNone.ne_none_str (zV I q (by simp))
  | _=>exact absurd (show false=true from hs) Bool.false_ne_true
 | bl i =>
  cases rx
  cases y with
  | non=>cases ry; exact PySem.EqNone.ne_bool_none (zV I q (by simp))
  | bl j=>cases ry; exact ne_bool (zV I q (congrArg not UQ))
  | str j=>obtain ⟨t',rfl⟩:=ry; exact PySem.EqMixed.ne_bool_str (zV I q (by simp))
  | _=>exact absurd (show false=true from hs) Bool.false_ne_true
 | int i =>
  obtain ⟨t,rfl⟩:=rx
  cases y with
  | non=>cases ry; exact PySem.EqNone.ne_int_none (zV I q (by simp))
  | int j=>obtain ⟨t',rfl⟩:=ry; exact ne_int (zV I q (congrArg not X5))
  | str j=>obtain ⟨t',rfl⟩:=ry; exact PySem.EqMixed.ne_int_str (zV I q (by simp))
  | _=>exact absurd (show false=true from hs) Bool.false_ne_true
 | str i =>
  obtain ⟨t,rfl⟩:=rx
  cases y with
  | non=>cases ry; exact PySem.EqNone.ne_str_none (zV I q (by simp))
  | bl j=>cases ry; exact PySem.EqMixed.ne_str_bool (zV I q (by simp))
  | int j=>obtain ⟨t',rfl⟩:=ry; exact PySem.EqMixed.ne_str_int (zV I q (by simp))
  | str j=>obtain ⟨t',rfl⟩:=ry; exact ne_str (zV I q (congrArg not X6))
  | _=>exact absurd (show false=true from hs) Bool.false_ne_true
 | byt i =>
  obtain ⟨t,rfl⟩:=rx
  cases y with
  | byt j=>obtain ⟨t',rfl⟩:=ry; exact PySem.W.ne_bytes (zV I q (congrArg not X7))
  | _=>exact absurd (show false=true from hs) Bool.false_ne_true
 | _=>cases y <;> exact absurd (show false=true from hs) Bool.false_ne_true
theorem qa:OpR X (compareOp .Lt) (rI0 fun i j=>.bl (decide (i < j))):=Qq fun _ _ _ _ _ _ _ q=>lt_int q
theorem VU:OpR X (compareOp .LtE) (rI0 fun i j=>.bl (decide (i<=j))):=Qq fun _ _ _ _ _ _ _ q=>le_int q
theorem VV:OpR X (compareOp .Gt) (rI0 fun i j=>.bl (decide (j < i))):=Qq fun _ _ _ _ _ _ _ q=>gt_int q
theorem zF (b:Expr) {op:CmpOp} (h:op ≠ .In:=by decide) (h2:op ≠ .NotIn:=by decide):behindInMarks op b=false:=by
 have e1:(op == CmpOp.In)=false:=by cases op <;> first | rfl | exact absurd rfl h
 have e2:(op == CmpOp.NotIn)=false:=by cases op <;> first | rfl | exact absurd rfl h2
 cases b <;> simp [behindInMarks,e1,e2]
theorem xK {op:CmpOp} {r:R2} (ho:OpR X (compareOp op) r) (ha:PE X a ta) (hb:PE X b tb) (hm:behindInMarks op b=false):PE X (.Compare a [op] [b] pos) (tOp r ta tb):=by
 intro pins s σ H Q I h
 exact wpAny_Compare1 (Qp ha hb I h fun v u s2 x y H2 I2 rx ry q=>ho pins s2 σ H2 x y v u Q I2 rx ry q) hm
def SV (t:TE):TT:=fun σ H Q=>t σ H fun x H'=>∃ k,x = .bl k /\ Q k H'
theorem zE {op:CmpOp} {r:R2} (ho:OpR X (compareOp op) r) (ha:PE X a ta) (hb:PE X b tb) (hm:behindInMarks op b=false):PT X (.Compare a [op] [b] pos) (SV (tOp r ta tb)):=by
 intro pins s σ H Q I h
 refine wpAny_isTrue_Compare1 (JY (ha pins s σ H _ I h) fun v s1 ⟨x,H1,I1,r1,q1⟩=>JY (hb pins s1 σ H1 _ I1 q1) fun u s2 ⟨y,H2,I2,r2,q2⟩ =>
  JY (ho pins s2 σ H2 x y v u _ I2 r1 r2 q2) fun c s3 ⟨z,H3,I3,r3,k,e,q3⟩=>?_) hm
 subst e
 cases r3
 exact wpAny_truthy_bool ⟨H3,I3,q3⟩
def UR (r r':R2) (ta tb tc:TE):TE:=fun σ H Q=>ta σ H fun x H1=>tb σ H1 fun y H2=>r x y H2 fun z H3=>∃ k,z = .bl k ∧
 (if k=true then tc σ H3 fun w' H4=>r' y w' H4 Q else Q (.bl false) H3)
theorem VW {op op':CmpOp} {r r':R2} (ho:OpR X (compareOp op) r) (ho':OpR X (compareOp op') r') (ha:PE X a ta) (hb:PE X b tb) (hc:PE X c tc)
  (hm:lastMarks [op,op'] [b,c]=false:=by with_unfolding_all rfl):PE X (.Compare a [op,op'] [b,c] pos) (UR r r' ta tb tc):=by
 intro pins s σ H Q I h
 refine Compare_chain (JY (ha pins s σ H _ I h) fun v s1 ⟨x,H1,I1,r1,q1⟩=>chain_link (JY (hb pins s1 σ H1 _ I1 q1) fun u s2 ⟨y,H2,I2,r2,q2⟩ =>
  JY (ho pins s2 σ H2 x y v u _ I2 r1 r2 q2) fun d s3 ⟨z,H3,I3,r3,k,e,q3⟩=>?_)) hm
 subst e
 cases r3
 refine wpAny_truthy_bool ?_
 cases k with
 | false=>exact ite_ff ⟨.bl false,H3,I3,rfl,q3⟩
 | true=>exact ite_tt (chain_last (JY (hc pins s3 σ H3 _ I3 q3) fun w' s4 ⟨z',H4,I4,r4,q4⟩=>ho' pins s4 σ H4 y z' u w' Q I4 r2 r4 q4))
theorem VX {op op':CmpOp} {r r':R2} (ho:OpR X (compareOp op) r) (ho':OpR X (compareOp op') r') (ha:PE X a ta) (hb:PE X b tb) (hc:PE X c tc)
  (hm:lastMarks [op,op'] [b,c]=false:=by with_unfolding_all rfl):PT X (.Compare a [op,op'] [b,c] pos) (SV (UR r r' ta tb tc)):=by
 intro pins s σ H Q I h
 refine isTrue_chain (JY (ha pins s σ H _ I h) fun v s1 ⟨x,H1,I1,r1,q1⟩=>test_link (JY (hb pins s1 σ H1 _ I1 q1) fun u s2 ⟨y,H2,I2,r2,q2⟩ =>
  JY (ho pins s2 σ H2 x y v u _ I2 r1 r2 q2) fun d s3 ⟨z,H3,I3,r3,k,e,q3⟩=>?_)) hm
 subst e
 cases r3
 refine wpAny_truthy_bool ?_
 cases k with
 | false =>
  obtain ⟨k',e',q'⟩:=q3
  cases e'
  exact ite_ff ⟨H3,I3,q'⟩
 | true =>
  refine ite_tt (test_last (JY (hc pins s3 σ H3 _ I3 q3) fun w' s4 ⟨z',H4,I4,r4,q4⟩=>JY (ho' pins s4 σ H4 y z' u w' _ I4 r2 r4 q4) fun d' s5 ⟨z2,H5,I5,r5,k2,e2,q5⟩=>?_))
  subst e2
  cases r5
  exact wpAny_truthy_bool ⟨H5,I5,q5⟩
def Q4 (K:JN) (x:V) (H:Hp) (k:Bool):Prop :=
 match x with
 | .non=>k=false
 | .bl b=>k=b
 | .int i=>k=(i != 0)
 | .str y=>y.length<=sizeLine /\ k=((y.length:Int) != 0)
 | .byt y=>y.size<=sizeLine /\ k=((y.size:Int) != 0)
 | .ref p=>(∃ xs,J1 K H p xs /\ k = !xs.isEmpty) \/ (∃ xs,J3 K H p xs /\ k = !xs.isEmpty) \/ ∃ kvs,H p=some (.dK kvs) /\ k = !kvs.isEmpty
 | _=>False
theorem YY {κ:Type} {kvs:List (κ × V)} {vs:List (κ × Value)} (r:KV kvs vs):(!vs.isEmpty) = !kvs.isEmpty:=by
 cases r <;> rfl
theorem sU {xs:List V} {its:List Value} (r:zX xs its):(!its.toArray.isEmpty) = !xs.isEmpty:=by
 cases r <;> simp
theorem sV:(sizeLine:Nat) < 2 ^ 63:=by rw [sizeLine_eq]; decide
theorem SW:Ju X (fun x H Q=>∃ k,Q4 X.K x H k /\ Q k H):=by
 intro pins s σ H x v Q I rx h
 obtain ⟨k,e,q⟩:=h
 have hl:=sV
 have hs:sizeLine=16777216:=sizeLine_eq
 cases x with
 | non =>
  cases rx
  have e':k=false:=e
  subst e'
  exact truthy_none ⟨H,I,q⟩
 | bl b =>
  cases rx
  have e':k=b:=e
  subst e'
  exact wpAny_truthy_bool ⟨H,I,q⟩
 | int i =>
  obtain ⟨t,rfl⟩:=rx
  have e':k=(i != 0):=e
  subst e'
  exact PySem.P.truthy_int ⟨H,I,q⟩
 | str y =>
  obtain ⟨t,rfl⟩:=rx
  obtain ⟨hy,e'⟩:y.length<=sizeLine /\ k=((y.length:Int) != 0):=e
  subst e'
  exact PySem.P.truthy_str (by omega) ⟨H,I.tok _,q⟩
 | byt y =>
  obtain ⟨t,rfl⟩:=rx
  obtain ⟨hy,e'⟩:y.size<=sizeLine /\ k=((y.size:Int) != 0):=e
  subst e'
  exact PySem.W.truthy_bytes (by omega) ⟨H,I.tok _,q⟩
 | ref p =>
  cases rx
  have e':(∃ xs,J1 X.K H p xs /\ k = !xs.isEmpty) \/ (∃ xs,J3 X.K H p xs /\ k = !xs.isEmpty) \/ ∃ kvs,H p=some (.dK kvs) /\ k = !kvs.isEmpty:=e
  rcases e' with ⟨xs,hx,e'⟩ | ⟨xs,hx,e'⟩ | ⟨kvs,hx,e'⟩
  ·subst e'
   obtain ⟨its,r,pl,hz⟩:=I.list hx
   have hlen:=r.length
   exact wpAny_truthy_list pl.isList (by simp only [List.size_toArray]; omega) ⟨H,I.tok _,by rw [sU r]; exact q⟩
  ·subst e'
   obtain ⟨its,r,pl,hz⟩:=I.tuple hx
   have hlen:=r.length
   exact truthy_tuple pl (by simp only [List.size_toArray]; omega) ⟨H,I.tok _,by rw [sU r]; exact q⟩
  ·subst e'
   obtain ⟨hz,hS,vs,r,m⟩:kvs.length<=sizeLine /\ (p == sysModules)=false /\ ∃ vs,KV kvs vs /\ s.heap.DictOf (zM X.prog X.w) p vs:=I.hok p _ hx
   have hlen:kvs.length=vs.length:=Paired.length r
   exact wpAny_truthy_dict hS m (by omega) ⟨H,I.tok _,by rw [YY r]; exact q⟩
 | _=>exact (show False from e).elim
theorem qb (ha:PE X a ta) (he:∀ whole,isTrue a X.env whole=(do let v ← whole; standAt a.pos; holding [v] (truthy v))) :
  PT X a (fun σ H Q=>ta σ H fun x H'=>∃ k,Q4 X.K x H' k /\ Q k H'):=by
 intro pins s σ H Q I h
 exact isTrue_plain (JY (ha pins s σ H _ I h) fun v s1 ⟨x,H1,I1,r1,q1⟩=>SW pins s1 σ H1 x v Q I1 r1 q1) (he _)
theorem vX {x:V} {us:List Value} (r:zX [x] us):∃ u,us=[u] /\ zY x u:=by
 cases r with
 | cons r1 r2=>cases r2; exact ⟨_,rfl,r1⟩
theorem YZ {x y:V} {us:List Value} (r:zX [x,y] us):∃ u w',us=[u,w'] /\ zY x u /\ zY y w':=by
 cases r with
 | cons r1 r2 =>
  cases r2 with
  | cons r3 r4=>cases r4; exact ⟨_,_,rfl,r1,r3⟩
theorem uY (hc:X.calm=true):wp X (.builtin "max") (fun xs H Q=>∃ i j,xs=[.int i,.int j] /\ Q (.int (if j > i then j else i)) H):=by
 intro pins s σ H xs us Q I r h
 obtain ⟨i,j,rfl,q⟩:=h
 obtain ⟨u,w',rfl,⟨t,rfl⟩,⟨t',rfl⟩⟩:=YZ r
 refine max_two_ints (I.ok.hd hc) fun h' tk k=>⟨_,H,I.kept k,?_,q⟩
 by_cases hj:j > i
 ·rw [if_pos hj,if_pos hj]; exact ⟨_,rfl⟩
 ·rw [if_neg hj,if_neg hj]; exact ⟨_,rfl⟩
theorem X8 (hc:X.calm=true):wp X (.builtin "min") (fun xs H Q=>∃ i j,xs=[.int i,.int j] /\ Q (.int (if j < i then j else i)) H):=by
 intro pins s σ H xs us Q I r h
 obtain ⟨i,j,rfl,q⟩:=h
 obtain ⟨u,w',rfl,⟨t,rfl⟩,⟨t',rfl⟩⟩:=YZ r
 refine min_two_ints (I.ok.hd hc) fun h' tk k=>⟨_,H,I.kept k,?_,q⟩
 by_cases hj:j < i
 ·rw [if_pos hj,if_pos hj]; exact ⟨_,rfl⟩
 ·rw [if_neg hj,if_neg hj]; exact ⟨_,rfl⟩
theorem vk:wp X (.type "int") (fun xs H Q=>(∃ i,xs=[.int i] /\ Q (.int i) H) \/ ∃ k,xs=[.bl k] /\ Q (.int (if k then 1 else 0)) H):=by
 intro pins s σ H xs us Q I r h
 rcases h with ⟨i,rfl,q⟩ | ⟨k,rfl,q⟩
 ·obtain ⟨u,rfl,t,rfl⟩:=vX r
  exact call_int_int ⟨.int i,H,I,⟨_,rfl⟩,q⟩
 ·obtain ⟨u,rfl,r1⟩:=vX r
  cases r1
  exact call_int_bool ⟨.int (if k then 1 else 0),H,I.tok _,⟨_,rfl⟩,q⟩
end
end L2
namespace L2
open PySem PySem.Spec PyProof.Rows
structure ObjM (h:Heap) (x dx C:Addr) (mA:Str->Option Value):Prop where
 obj:h.get? x=some (PySem.W.instObj C dx)
 ns:h.Ns1 dx mA
 ne:dx ≠ x
theorem X9 {h:Heap} {dx:Addr} {mA:Str->Option Value} (n:h.Ns1 dx mA):∃ od,h.get? dx=some od /\ ∀ name,PySem.W.lookIn name od=some (mA name):=by
 obtain ⟨o,es,ep,ho,hd,hk,_,hm⟩:=n
 refine ⟨o,ho,fun name=>?_⟩
 have e:=hm name
 unfold nsFind findBy at e
 rw [← Array.find?_toList] at e
 unfold PySem.W.lookIn
 rw [hd]
 dsimp only
 split
 ·rename_i y q
  rw [q] at e
  exact congrArg some e
 ·rename_i q
  rw [q] at e
  have a:es.toList.any (·.refKey)=false:=by
   rw [List.any_eq_false]
   intro y hy
   obtain ⟨z,t,hkey⟩:=hk y (Array.mem_toList_iff.mp hy)
   simp [DictEntry.refKey,hkey]
  have a':¬ es.toList.any (·.refKey)=true:=by rw [a]; exact Bool.false_ne_true
  rw [if_neg a']
  exact congrArg some e
theorem ObjM.look {h:Heap} {x dx C:Addr} {mA:Str->Option Value} (I:ObjM h x dx C mA):∃ od,PySem.W.InstAt h x (PySem.W.instObj C dx) C (some od) /\ ∀ name,PySem.W.lookIn name od=some (mA name) :=
 let ⟨od,ho,hl⟩:=X9 I.ns
 ⟨od,⟨I.obj,rfl,rfl,ho⟩,hl⟩
section
variable {prog:Program} {w:World} {A:Around} {E:JO} {s:Shared} {K:JN} {x dx C f:Addr} {mA:Str->Option Value} {name:Str} {v:Value}
theorem Tq {expr:Bool} {Q:JO} (X:K.In s.heap) (I:ObjM s.heap x dx C mA) (hg:PySem.W.plainGet K C name=true) (hh:PySem.W.hasDictIn K C=true)
  (ha:PySem.W.findIn K (.ref C) name=some none) (hv:mA name=some v) (hv':PySem.W.handedIn v=true) (h:Q v { s with toks:=s.toks+1 }) :
  wpAny (model prog w) A (getAttr (.ref x) name expr) Q E s:=by
 obtain ⟨od,J,hl⟩:=I.look
 exact PySem.W.get_value X J (PySem.W.plainGet_of hg).1 (PySem.W.findObj_own hh ha rfl (by rw [hl,hv])) hv' h
theorem VY {pl:Sem Bool} {Q:Value × List Value->Shared->Prop} (X:K.In s.heap) (I:ObjM s.heap x dx C mA) (hg:PySem.W.plainGet K C name=true)
  (hf:PySem.W.findIn K (.ref C) name=some (some (.ref f))) (ht:PySem.W.isFn K (.ref f)=true) (hv:mA name=none) (h:Q (.ref f,[.ref x]) s) :
  wpAny (model prog w) A (getMethod (.ref x) name pl) Q E s:=by
 obtain ⟨od,J,hl⟩:=I.look
 exact PySem.W.method_fn X J (PySem.W.plainGet_of hg).1 (PySem.W.plainGet_of hg).2 hf (beq_iff_eq.mp ht) (by show (PySem.W.lookIn name od).map (·.isSome)=some false; rw [hl,hv]; rfl) h
theorem Tr {ns:List Str} {Q:Unit->Shared->Prop} (X:K.In s.heap) (I:ObjM s.heap x dx C mA)
  (hs:PySem.W.findIn K (.ref C) "__setattr__" = some (some (.builtin "object.__setattr__"))) (hp:PySem.W.plainOver K C=true) (ht:PySem.W.takerIn K C name=some none) (hh:PySem.W.hasDictIn K C=true)
  (hw:PySem.Within mA ns) (hsz:ns.length<=sizeLine)
  (h:∀ h',ObjM h' x dx C (fun y=>if y=name then some v else mA y)->Heap.SameBut dx s.heap h' -> Q () { s with heap:=h',toks:=s.toks+2 }) :
  wpAny (model prog w) A (setAttr (.ref x) name v) Q E s:=by
 obtain ⟨od,J,hl⟩:=I.look
 refine PySem.W.set_plain X J hs (PySem.W.osa_open (s:={ s with toks:=s.toks+1 }) (r:=none) X J hp ht fun b=>?_)
 obtain ⟨cd,hc,hd'⟩:=PySem.W.any_some hh
 have hx:s.heap.get? x=some ⟨.ref C,some dx,.plain,#[]⟩:=I.obj
 refine wpAny_bind (wpAny_pure (wpAny_bind (wpAny_bind (wpAny_loadPart hx (wpAny_bind (PySem.W.Looks.here (s:={ s with toks:=s.toks+1 }) (PySem.W.looks_clsIn X hc) ?_))))))
 rw [hd']
 refine wpAny_pure (a:=some dx) (wpAny_bind (wpAny_pure (wpAny_bind ?_)))
 refine wpAny_nsSet1 (s:={ s with toks:=s.toks+1 }) I.ns fun h' hn2 hs2=>?_
 obtain ⟨oD,esD,epD,hoD,hdD,hcD⟩:=hn2.count (PySem.Within.cons name v hw)
 refine wpAny_bind (wpAny_lookBehind hoD (by rw [hdD]; exact pastItsLine_dict (Nat.le_trans hcD (by rw [List.length_cons]; omega))) ?_)
 exact wpAny_pure (h _ ⟨(hs2.2 _ (Ne.symm I.ne)).trans I.obj,hn2,I.ne⟩ hs2)
theorem VZ {R:Result->Shared->Prop} {vs:List Value} {kw:List (Str × Value)} (X:K.In s.heap) (hm:PySem.W.makesIn K C=true)
  (hi:PySem.W.findIn K (.ref C) "__init__" = some (some (.ref f))) (hf:PySem.W.typeIn K (.ref f)=some (.type "function"))
  (h:codeAny (model prog w) (A.under (.builtin "type.__call__" ⟨.ref C :: vs,kw⟩)) (.call (.ref f) ⟨.ref (s.heap.objs.size+1) :: vs,kw⟩) (PySem.W.InitBack (s.heap.objs.size+1) R)
   { s with heap:=(s.heap.push PySem.W.emptyDict).push (PySem.W.instObj C s.heap.objs.size) }) :
  codeAny (model prog w) A (.call (.ref C) ⟨vs,kw⟩) R s:=by
 obtain ⟨hh,g,d,t,os⟩:=s
 exact PySem.W.make_core (PySem.W.makes_of X hm) (PySem.W.looks_findIn X hi) (fun self=>PySem.W.bind_fn X self hf) (.inl rfl) h
end
def xE (f:Str) (v:V):List (Str × V)->List (Str × V)
 | []=>[(f,v)]
 | (g,x) :: r=>if g=f then (g,v) :: r else (g,x) :: xE f v r
theorem uZ (f g:Str) (v:V):∀ fs:List (Str × V),(xE f v fs).lookup g=if g=f then some v else fs.lookup g
 | []=>by
  show List.lookup g [(f,v)]=_
  by_cases h:g=f
  ·have hb:(g == f)=true:=beq_iff_eq.mpr h
   simp only [List.lookup,hb,if_pos h]
  ·have hb:(g == f)=false:=beq_eq_false_iff_ne.mpr h
   simp only [List.lookup,hb,if_neg h]
 | (k,x) :: r=>by
  have ih:=uZ f g v r
  rw [show xE f v ((k,x) :: r)=(if k=f then (k,v) :: r else (k,x) :: xE f v r) from rfl]
  by_cases hk:k=f
  ·rw [if_pos hk]
   by_cases h:g=k
   ·have hb:(g == k)=true:=beq_iff_eq.mpr h
    simp only [List.lookup,hb,if_pos (h.trans hk)]
   ·have hb:(g == k)=false:=beq_eq_false_iff_ne.mpr h
    simp only [List.lookup,hb,if_neg (fun e:g=f=>h (e.trans hk.symm))]
  ·rw [if_neg hk]
   by_cases h:g=k
   ·have hb:(g == k)=true:=beq_iff_eq.mpr h
    simp only [List.lookup,hb,if_neg (fun e:g=f=>hk (h.symm.trans e))]
   ·have hb:(g == k)=false:=beq_eq_false_iff_ne.mpr h
    simp only [List.lookup,hb]
    exact ih
theorem u7 (f:Str) (v:V):∀ fs:List (Str × V),f ∈ (xE f v fs).map (·.1) /\ ∀ g,g ∈ fs.map (·.1)->g ∈ (xE f v fs).map (·.1)
 | []=>⟨by simp [xE],fun g h=>by simp at h⟩
 | (k,x) :: r=>by
  obtain ⟨i1,i2⟩:=u7 f v r
  rw [show xE f v ((k,x) :: r)=(if k=f then (k,v) :: r else (k,x) :: xE f v r) from rfl]
  by_cases hk:k=f
  ·rw [if_pos hk]
   subst hk
   exact ⟨by simp,fun g h=>by simpa using h⟩
  ·rw [if_neg hk]
   refine ⟨?_,fun g h=>?_⟩
   ·rw [List.map_cons]
    exact List.mem_cons_of_mem _ i1
   ·rw [List.map_cons] at h ⊢
    rcases List.mem_cons.mp h with e | e
    ·exact List.mem_cons.mpr (.inl e)
    ·exact List.mem_cons_of_mem _ (i2 g e)
theorem u9 (f:Str) (v:V):∀ fs:List (Str × V),(xE f v fs).length<=fs.length+1
 | []=>by simp [xE]
 | (k,x) :: r=>by
  have ih:=u9 f v r
  rw [show xE f v ((k,x) :: r)=(if k=f then (k,v) :: r else (k,x) :: xE f v r) from rfl]
  by_cases hk:k=f
  ·rw [if_pos hk,List.length_cons,List.length_cons]; omega
  ·rw [if_neg hk,List.length_cons,List.length_cons]; omega
theorem je.some_of {v:V} {o:Option Value} (r:je (some v) o):∃ u,o=some u /\ zY v u:=by
 cases o with
 | none=>exact (show False from r).elim
 | some u=>exact ⟨u,rfl,r⟩
theorem je.none_of {o:Option Value} (r:je none o):o=none:=by
 cases o with
 | none=>rfl
 | some u=>exact (show False from r).elim
theorem Wa {v:V} {u:Value} (r:zY v u):PySem.W.handedIn u=true:=by
 cases v with
 | non=>cases (show u=Value.none from r); rfl
 | bl b=>cases (show u=Value.bool b from r); rfl
 | int i=>obtain ⟨t,e⟩:=(show ∃ t,u=Value.int i t from r); cases e; rfl
 | str x=>obtain ⟨t,e⟩:=(show ∃ t,u=Value.str x t from r); cases e; rfl
 | byt b=>obtain ⟨t,e⟩:=(show ∃ t,u=Value.bytes b t from r); cases e; rfl
 | flt b=>obtain ⟨t,e⟩:=(show ∃ t,u=Value.float b t from r); cases e; rfl
 | ref a=>cases (show u=Value.ref a from r); rfl
 | ty n=>cases (show u=Value.type n from r); rfl
section
variable {P:Program} {w:World} {H H':Hp} {h h':Heap} {a C dx:Addr} {fs fs':List (Str × V)}
theorem qc (hok:JR P w H h) (e:H a=some (.ins C dx fs)):∃ mA,ObjM h a dx C mA /\ (∀ f,je (fs.lookup f) (mA f)) /\ PySem.Within mA (fs.map (·.1)) /\ fs.length<=1000 /\ H dx=some (.own a):=by
 obtain ⟨d,z,ne,ob,mA,n,r,q⟩:=(show yw P w H h a (.ins C dx fs) from hok a _ e)
 exact ⟨mA,⟨ob,n,ne⟩,r,q,z,d⟩
end
structure Cls (K:JN) (C:Addr):Prop where
 pg:PySem.W.plainGet K C Str.empty=true
 hd:PySem.W.hasDictIn K C=true
 po:PySem.W.plainOver K C=true
 sa:PySem.W.findIn K (.ref C) "__setattr__" = some (some (.builtin "object.__setattr__"))
theorem Cls.get {K:JN} {C:Addr} (c:Cls K C) (f:Str):PySem.W.plainGet K C f=true:=c.pg
def yO (K:JN) (C:Addr) (f:Str):Prop:=PySem.W.findIn K (.ref C) f=some none
theorem yO.taker {K:JN} {C:Addr} {f:Str} (n:yO K C f):PySem.W.takerIn K C f=some none:=by
 unfold PySem.W.takerIn
 rw [show PySem.W.findIn K (.ref C) f=some none from n]
 rfl
structure Meth (K:JN) (C:Addr) (m:Str) (f:Addr):Prop where
 at_:PySem.W.findIn K (.ref C) m=some (some (.ref f))
 fn:PySem.W.isFn K (.ref f)=true
 kp:PySem.W.keepIn K (.ref f)=true
section
variable {X:Cx} {pins:List (Addr × Obj)} {σ:St} {H:Hp} {s:Shared} {a C dx:Addr} {fs:List (Str × V)} {f:Str} {v:V} {A:Around} {E:JO}
theorem sW {b:Bool} {Q:JO} (I:Inv X pins σ H s) (e:H a=some (.ins C dx fs)) (c:Cls X.K C) (n:yO X.K C f) (l:fs.lookup f=some v)
  (h:∀ u s',Inv X pins σ H s' -> zY v u->Q u s'):wpAny (model X.prog X.w) A (getAttr (.ref a) f b) Q E s:=by
 obtain ⟨mA,O,r,_,_,_⟩:=qc I.hok e
 obtain ⟨u,hu,ru⟩:=je.some_of (v:=v) (o:=mA f) (by rw [← l]; exact r f)
 exact Tq I.kIn O (c.get f) c.hd n hu (Wa ru) (h u _ (I.tok _) ru)
theorem sX {m:Str} {g:Addr} {pl:Sem Bool} {Q:Value × List Value->Shared->Prop} (I:Inv X pins σ H s) (e:H a=some (.ins C dx fs)) (c:Cls X.K C) (k:Meth X.K C m g) (l:fs.lookup m=none)
  (h:Q (.ref g,[.ref a]) s):wpAny (model X.prog X.w) A (getMethod (.ref a) m pl) Q E s:=by
 obtain ⟨mA,O,r,_,_,_⟩:=qc I.hok e
 have hn:mA m=none:=je.none_of (by rw [← l]; exact r m)
 exact VY I.kIn O (c.get m) k.at_ k.fn hn h
theorem sY {y:V} {u:Value} {Q:Unit->Shared->Prop} (I:Inv X pins σ H s) (e:H a=some (.ins C dx fs)) (c:Cls X.K C) (n:yO X.K C f) (hl:fs.length < 1000) (ry:zY y u)
  (h:∀ s',Inv X pins σ (JQ H a (.ins C dx (xE f y fs))) s' -> Q () s'):wpAny (model X.prog X.w) A (setAttr (.ref a) f u) Q E s:=by
 obtain ⟨mA,O,r,wi,_,ho⟩:=qc I.hok e
 have hz:(fs.map (·.1)).length<=sizeLine:=by rw [List.length_map,sizeLine_eq]; omega
 refine Tr I.kIn O c.sa c.po n.taker c.hd wi hz fun h' O' sb=>h _ ?_
 have hd:∃ o,h'.get? dx=some o:=let ⟨o,_,_,e',_⟩:=O'.ns; ⟨o,e'⟩
 refine I.write (x:=a) (e:=dx) (by rw [e]; exact True.intro) (.inr ho) (fun b q hb z=>(sb.2 b hb).trans z) hd ?_
 refine ⟨by rw [zu O.ne]; exact ho,?_,O.ne,O'.obj,_,O'.ns,fun g=>?_,fun g hg=>?_⟩
 ·have:=u9 f y fs; omega
 ·show je ((xE f y fs).lookup g) (if g=f then some u else mA g)
  rw [uZ]
  by_cases q:g=f
  ·rw [if_pos q,if_pos q]; exact ry
  ·rw [if_neg q,if_neg q]; exact r g
 ·by_cases q:g=f
  ·rw [q]; exact (u7 f y fs).1
  ·refine (u7 f y fs).2 g (wi g fun z=>hg ?_)
   show (if g=f then some u else mA g)=none
   rw [if_neg q]; exact z
theorem Inv.made (I:Inv X pins σ H s):Inv X pins σ (JQ (JQ H s.heap.objs.size (.own (s.heap.objs.size+1))) (s.heap.objs.size+1) (.ins C s.heap.objs.size []))
  { s with heap:=(s.heap.push PySem.W.emptyDict).push (PySem.W.instObj C s.heap.objs.size) }:=by
 have e1:(s.heap.push PySem.W.emptyDict).get? s.heap.objs.size=some PySem.W.emptyDict:=Heap.get?_push_size s.heap rfl
 have e2:((s.heap.push PySem.W.emptyDict).push (PySem.W.instObj C s.heap.objs.size)).get? (s.heap.objs.size+1)=some (PySem.W.instObj C s.heap.objs.size):=by
  have:=Heap.get?_push_size (s.heap.push PySem.W.emptyDict) (o:=PySem.W.instObj C s.heap.objs.size) rfl
  rwa [Heap.size_push] at this
 have e3:(s.heap.push PySem.W.emptyDict).Ns s.heap.objs.size (fun _=>none):=⟨PySem.W.emptyDict,#[],_,e1,rfl,(fun e he=>absurd he (by simp)),fun _=>rfl⟩
 have I1:=I.laid (a:=s.heap.objs.size) (o:=.own (s.heap.objs.size+1)) (h':=s.heap.push PySem.W.emptyDict) (t':=s.toks) (fun b u q=>Heap.get?_push_of_some _ q) (Nat.le_refl _) ⟨_,e1⟩
 refine I1.laid (a:=s.heap.objs.size+1) (o:=.ins C s.heap.objs.size []) (t':=s.toks) (fun b u q=>Heap.get?_push_of_some _ q) (Nat.le_of_eq (Heap.size_push _ _)) ?_
 have ne:s.heap.objs.size ≠ s.heap.objs.size+1:=Nat.ne_of_lt (Nat.lt_succ_self _)
 refine ⟨by rw [zu ne,zc],Nat.zero_le _,ne,e2,fun _=>none,(Heap.Ns1.of_empty e3).at fun o q=>Heap.get?_push_of_some _ q,fun _=>True.intro,fun y hy=>absurd rfl hy⟩
theorem Ts {prog:Program} {w:World} {env:Env} {e:Expr} {f:Str} {pos:Pos} {s:Shared} {Q:JO} (hb:attributeBase e f env (eval e env)=eval e env)
  (h:wpAny (model prog w) A (eval e env) (fun o s₁=>wpAny (model prog w) A (getAttr o f true) Q E s₁) E s):wpAny (model prog w) A (eval (.Attribute e f pos) env) Q E s :=
 Attribute_any_ h (by rw [arm_eval_Attribute,hb])
end
def Q5 (K:JN) (ta:TE) (f:Str):TE:=fun σ H Q=>ta σ H fun x H1=>∃ a C dx fs v,x = .ref a /\ H1 a=some (.ins C dx fs) /\ Cls K C /\ yO K C f /\ fs.lookup f=some v /\ Q v H1
def Jv (K:JN) (ta tv:TE) (f:Str):TS:=fun D σ H=>tv σ H fun y H1=>ta σ H1 fun x H2=>∃ a C dx fs,x = .ref a /\ H2 a=some (.ins C dx fs) /\ Cls K C /\ yO K C f /\ fs.length < 1000 ∧
 D.nx σ (JQ H2 a (.ins C dx (xE f y fs)))
def Q6 (X:Cx) (op:Operator) (rd:V->V->Hp->VK->Prop):Prop :=
 ∀ (pins:List (Addr × Obj)) (s:Shared) (σ:St) (H:Hp) (x y:V) (u v:Value) (Q:VK),Inv X pins σ H s->zY x u->zY y v->rd x y H Q->wpAny (model X.prog X.w) X.A (inplaceOp op u v) (EP X pins σ Q) X.xe s
def Tt (K:JN) (ta tv:TE) (rd:V->V->Hp->VK->Prop) (f:Str):TS:=fun D σ H=>ta σ H fun x H1=>∃ a C dx fs v,x = .ref a /\ H1 a=some (.ins C dx fs) /\ Cls K C /\ yO K C f /\ fs.lookup f=some v ∧
 tv σ H1 fun y H2=>rd v y H2 fun z H3=>∃ dx' fs',H3 a=some (.ins C dx' fs') /\ fs'.length < 1000 /\ D.nx σ (JQ H3 a (.ins C dx' (xE f z fs')))
section
variable {X:Cx} {o e value:Expr} {f:Str} {pos pos' tpos:Pos} {ta tv:TE}
theorem zz (he:PE X e ta) (hb:attributeBase e f X.env (eval e X.env)=eval e X.env):PE X (.Attribute e f pos) (Q5 X.K ta f):=by
 intro pins s σ H Q I h
 refine Ts hb (JY (he pins s σ H _ I h) fun u s1 ⟨x,H1,I1,rx,a,C,dx,fs,v,ex,ea,c,n,l,q⟩=>?_)
 subst ex
 obtain rfl:u=Value.ref a:=rx
 exact sW I1 ea c n l fun u' s2 I2 ru=>⟨v,H1,I2,ru,q⟩
theorem wf (ha:PE X o ta) (hv:PE X value tv) (hs:swapsWith value (some (.Attribute o f pos')) pos.line X.env=pure false):PS X (.Assign [.Attribute o f pos'] value pos) (Jv X.K ta tv f):=by
 intro pins s σ H D I h
 refine plainObj_wpAny_Assign_Attribute (JY (hv pins s σ H _ I h) fun u s1 ⟨y,H1,I1,ry,q⟩=>JY (ha pins s1 σ H1 _ I1 q) fun ov s2 ⟨x,H2,I2,rx,a,C,dx,fs,ex,ea,c,n,l,q2⟩=>?_) hs
 subst ex
 obtain rfl:ov=Value.ref a:=rx
 exact sY I2 ea c n l ry fun s3 I3=>⟨σ,_,I3,q2⟩
theorem Wb {op:Operator} {rd:V->V->Hp->VK->Prop} (ha:PE X o ta) (hv:PE X value tv) (hop:Q6 X op rd):PS X (.AugAssign (.Attribute o f tpos) op value pos) (Tt X.K ta tv rd f):=by
 intro pins s σ H D I h
 refine wpAny_AugAssign_AttributeAny (JY (ha pins s σ H _ I h) fun ov s1 ⟨x,H1,I1,rx,a,C,dx,fs,v,ex,ea,c,n,l,q⟩=>?_)
 subst ex
 obtain rfl:ov=Value.ref a:=rx
 refine sW I1 ea c n l fun u s2 I2 ru=>JY (hv pins s2 σ H1 _ I2 q) fun w3 s3 ⟨y,H2,I3,ry,q3⟩=>JY (hop pins s3 σ H2 v y u w3 _ I3 ru ry q3) fun w4 s4 ⟨z,H3,I4,rz,dx',fs',ea',l',q4⟩=>?_
 exact sY I4 ea' c n l' rz fun s5 I5=>⟨σ,_,I5,q4⟩
end
section
variable {X:Cx} {pins:List (Addr × Obj)} {σ:St} {H:Hp} {s:Shared} {A:Around} {E:JO} {Q:JO} {c:Value} {b:Bool}
inductive TyOf (K:JN) (H:Hp):V->Value->Prop where
 | non:TyOf K H .non (.type "NoneType")
 | bl (x:Bool):TyOf K H (.bl x) (.type "bool")
 | int (i:Int):TyOf K H (.int i) (.type "int")
 | str (x:Str):TyOf K H (.str x) (.type "str")
 | flt (x:UInt64):TyOf K H (.flt x) (.type "float")
 | lst {a:Addr} {xs:List V} (e:H a=some (.lst xs)):TyOf K H (.ref a) (.type "list")
 | frz {a:Addr} {o:Obj} {xs:List V} (e:H a=some (.frz o (.lst xs))):TyOf K H (.ref a) (.type "list")
 | tup {a:Addr} {xs:List V} (e:H a=some (.tup xs)):TyOf K H (.ref a) (.type "tuple")
 | dK {a:Addr} {kvs:List (JP × V)} (e:H a=some (.dK kvs)):TyOf K H (.ref a) (.type "dict")
 | dT {a:Addr} {kvs:List (List JP × V)} (e:H a=some (.dT kvs)):TyOf K H (.ref a) (.type "dict")
 | ins {a C dx:Addr} {fs:List (Str × V)} (e:H a=some (.ins C dx fs)) (cl:Cls K C) (ha:PySem.W.findIn K (.ref C) "__class__" = some (some (.builtin "object.__class__")))
   (hn:PySem.W.specialIn K (.builtin "object.__class__") "__get__" = some (some (.builtin "getset_descriptor.__get__"))) (htk:PySem.W.takesIn K (.builtin "object.__class__")=some true)
   (hm:PySem.W.mroIn K C (.type "object")=some true):TyOf K H (.ref a) (.ref C)
theorem wq {x:V} {u t:Value} (I:Inv X pins σ H s) (rx:zY x u) (ty:TyOf X.K H x t) (e:PySem.W.kitOne X.K t c=some b) (h:∀ tk,Q (.bool b) { s with toks:=tk }) :
  wpAny (model X.prog X.w) A (call (.builtin "isinstance") [u,c]) Q E s:=by
 cases ty with
 | non=>cases (show u=Value.none from rx); exact PySem.W.kia_one PySem.W.kitx_none I.kIn True.intro e (fun z=>nomatch z) h
 | bl y=>cases (show u=Value.bool y from rx); exact PySem.W.kia_one PySem.W.kitx_bool I.kIn True.intro e (fun z=>nomatch z) h
 | int i=>obtain ⟨t,q⟩:=(show ∃ t,u=Value.int i t from rx); cases q; exact PySem.W.kia_one PySem.W.kitx_int I.kIn True.intro e (fun z=>nomatch z) h
 | str y=>obtain ⟨t,q⟩:=(show ∃ t,u=Value.str y t from rx); cases q; exact PySem.W.kia_one PySem.W.kitx_str I.kIn True.intro e (fun z=>nomatch z) h
 | flt y=>obtain ⟨t,q⟩:=(show ∃ t,u=Value.float y t from rx); cases q; exact PySem.W.kia_one PySem.W.kitx_float I.kIn True.intro e (fun z=>nomatch z) h
 | @lst a xs ea =>
  cases (show u=Value.ref a from rx)
  obtain ⟨_,_,n,_,h1⟩:=(show yw X.prog X.w H s.heap a (.lst xs) from I.hok a _ ea)
  exact PySem.W.kia_one PySem.W.kitx_list I.kIn ⟨_,h1,rfl⟩ e (fun z=>nomatch z) h
 | @frz a ob xs ea =>
  cases (show u=Value.ref a from rx)
  obtain ⟨_,_,_,n,_,h1⟩:=(show yw X.prog X.w H s.heap a (.frz ob (.lst xs)) from I.hok a _ ea)
  exact PySem.W.kia_one PySem.W.kitx_list I.kIn ⟨_,h1,rfl⟩ e (fun z=>nomatch z) h
 | @tup a xs ea =>
  cases (show u=Value.ref a from rx)
  obtain ⟨_,_,_,p⟩:=(show yw X.prog X.w H s.heap a (.tup xs) from I.hok a _ ea)
  obtain ⟨o,h1,h2,_⟩:=p
  exact PySem.W.kia_one PySem.W.kitx_tuple I.kIn ⟨o,h1,h2⟩ e (fun z=>nomatch z) h
 | @dK a kvs ea =>
  cases (show u=Value.ref a from rx)
  obtain ⟨_,_,vs,_,p⟩:=(show yw X.prog X.w H s.heap a (.dK kvs) from I.hok a _ ea)
  obtain ⟨o,es,ep,h1,h2,_⟩:=p
  exact PySem.W.kia_one PySem.W.kitx_dict I.kIn ⟨o,h1,h2.1⟩ e (fun z=>nomatch z) h
 | @dT a kvs ea =>
  cases (show u=Value.ref a from rx)
  obtain ⟨_,_,xs,_,o,es,ep,h1,h2,_⟩:=(show yw X.prog X.w H s.heap a (.dT kvs) from I.hok a _ ea)
  exact PySem.W.kia_one PySem.W.kitx_dict I.kIn ⟨o,h1,h2.1⟩ e (fun z=>nomatch z) h
 | @ins a C dx fs ea cl ha hn htk hm =>
  cases (show u=Value.ref a from rx)
  obtain ⟨mA,O,_⟩:=qc I.hok ea
  obtain ⟨od,J,_⟩:=O.look
  exact PySem.W.kia_one (PySem.W.kitx_own (cl.get _) cl.hd ha hn htk hm) I.kIn J e (fun z=>nomatch z) h
end
end L2
namespace L2
open PySem PySem.Spec PyProof.Rows
structure Room (k:Nat) (A:Around):Prop where
 hd:A.handled=none
 dp:A.depth+3 * k+5 < recursionLimit
 un:A.units+16 * k+200 < cLine
 gd:A.guards=some []
theorem Room.mono {j k:Nat} {A:Around} (r:Room k A) (h:j<=k):Room j A:=⟨r.hd,by have:=r.dp; omega,by have:=r.un; omega,r.gd⟩
theorem Room.deeper {k:Nat} {A:Around} (r:Room (k+1) A) (env:Env):Room k (A.deeper env) :=
 ⟨r.hd,by have:=r.dp; show A.depth+1+3 * k+5 < _; omega,by have:=r.un; show A.units+3+16 * k+200 < _; omega,r.gd⟩
theorem Y0 {A:Around} {C:Addr} {us:List Value} {kw:List (Str × Value)}:(A.under (.builtin "type.__call__" ⟨.ref C :: us,kw⟩)).depth=A.depth+1:=by
 first | rfl | simp [Around.under,Code.weight,Code.isCreation,Code.isGuard,Code.isCaller,Code.frames,Code.isFrame,guardIds]
theorem Y1 {A:Around} {C:Addr} {us:List Value} {kw:List (Str × Value)}:(A.under (.builtin "type.__call__" ⟨.ref C :: us,kw⟩)).units=A.units+1:=by
 first | rfl | simp [Around.under,Code.cUnits,Code.frames,Code.isFrame]
theorem Room.make {k:Nat} {A:Around} (r:Room (k+1) A) (C:Addr) (us:List Value) (kw:List (Str × Value)):Room k (A.under (.builtin "type.__call__" ⟨.ref C :: us,kw⟩)) :=
 ⟨r.hd,by have:=r.dp; rw [Y0]; omega,by have:=r.un; rw [Y1]; omega,r.gd⟩
theorem Room.depth {k:Nat} {A:Around} (r:Room k A):A.depth < recursionLimit:=by have:=r.dp; omega
theorem Room.units0 {k:Nat} {A:Around} (r:Room k A):A.units < cLine:=by have:=r.un; omega
def R6:TA:=fun _ H Q=>Q [] H
def Qr (ta:TE) (tr:TA):TA:=fun σ H Q=>ta σ H fun x H1=>tr σ H1 fun xs H2=>Q (x :: xs) H2
section
variable {X:Cx} {e:Expr} {es:List Expr} {te:TE} {t:TA} {pos:Pos}
theorem zb:PA X [] R6:=fun _ _ _ _ H Q I h=>Calls.spliced_nil ⟨[],H,I,.nil,h⟩
theorem za (ha:PE X e te) (hr:PA X es t) (hs:starEach (e :: es) X.env=(false,eval e X.env) :: starEach es X.env:=by rfl):PA X (e :: es) (Qr te t):=by
 intro pos pins s σ H Q I h
 rw [hs]
 show wpAny _ _ (spliced ((false,eval e X.env) :: backTo pos (starEach es X.env))) _ _ s
 refine Calls.spliced_cons (JY (ha pins s σ H _ I h) fun u s1 ⟨x,H1,I1,r1,q1⟩=>?_)
 exact JY (hr pos pins s1 σ H1 _ I1 q1) fun us s2 ⟨xs,H2,I2,r2,q2⟩=>⟨x :: xs,H2,I2,.cons r1 r2,q2⟩
def Jw (t:TA):TE:=fun σ H Q=>t σ H fun xs H1=>xs.length<=sizeLine /\ ∀ p,H1 p=none->Q (.ref p) (JQ H1 p (.tup xs))
def Jx (t:TA):TE:=fun σ H Q=>t σ H fun xs H1=>xs.length<=sizeLine /\ ∀ p,H1 p=none->Q (.ref p) (JQ H1 p (.lst xs))
theorem zH {x1} (h:PA X es t):PE X (.Tuple es x1 pos) (Jw t):=by
 intro pins s σ H Q I hq
 refine wpAny_Tuple_spliced (JY (h pos pins s σ H _ I hq) fun us s1 ⟨xs,H1,I1,r,z,q⟩=>⟨by rw [← r.length]; exact z,?_⟩)
 have hf:H1 s1.heap.objs.size=none:=I1.hok.fresh (Nat.le_refl _)
 refine ⟨.ref s1.heap.objs.size,JQ H1 s1.heap.objs.size (.tup xs),I1.laid (t':=s1.toks) (fun b u e=>Heap.get?_push_of_some _ e) (Nat.le_refl _) ?_,rfl,q _ hf⟩
 exact ⟨z,us,r,⟨_,Heap.get?_push_size _ rfl,rfl,_,rfl⟩⟩
theorem xg (h:PA X es t):PE X (.List es pos) (Jx t):=by
 intro pins s σ H Q I hq
 refine wpAny_List_spliced (JY (h pos pins s σ H _ I hq) fun us s1 ⟨xs,H1,I1,r,z,q⟩=>⟨by rw [← r.length]; exact z,?_⟩)
 have hf:H1 s1.heap.objs.size=none:=I1.hok.fresh (Nat.le_refl _)
 refine ⟨.ref s1.heap.objs.size,JQ H1 s1.heap.objs.size (.lst xs),I1.laid (t':=s1.toks) (fun b u e=>Heap.get?_push_of_some _ e) (Nat.le_refl _) ?_,rfl,q _ hf⟩
 exact ⟨z,us,0,r,Heap.get?_push_size _ rfl⟩
end
abbrev Sp:=List V->Hp->VK->XK->Prop
abbrev CXT:=List Env->Hp->Shared->XK->Value->Shared->Prop
structure Env0 (P:Program) (w:World) (K:JN) (mg:Str->Option Value) (base:Heap) (A:Around) (outer:List Env) (s:Shared) (H:Hp):Prop where
 frames:A.frames=some outer
 mod:Mod K mg base
 bs:∀ b o,base.get? b=some o->s.heap.get? b=some o /\ H b=none
 bsz:base.objs.size<=s.heap.objs.size
 funs:s.heap.FunFrames base outer
 frf:∀ b ∈ JU outer,H b=none
 hok:JR P w H s.heap
 bare:AllBare s.gens
def CE (outer:List Env) (P:Program) (w:World) (H:Hp) (s:Shared) (Q:VK) (u:Value) (s':Shared):Prop :=
 ∃ v H',s'.os=s.os /\ AllBare s'.gens /\ Un (JU outer) [] H H' s.heap s'.heap /\ JR P w H' s'.heap /\ zY v u /\ Q v H'
def CR (CX:CXT) (outer:List Env) (P:Program) (w:World) (H:Hp) (s:Shared) (Q:VK) (E:XK) (r:Result) (s':Shared):Prop :=
 match r with
 | .ok (.ret u)=>CE outer P w H s Q u s'
 | .ok _=>False
 | .error e=>CX outer H s E e s'
structure FnOk (P:Program) (w:World) (K:JN) (mg:Str->Option Value) (base:Heap) (CX:CXT) (k:Nat) (f:Addr) (fd:FuncData) (ps:List Str) (sp:Sp):Prop where
 len:∀ vs H Q E,sp vs H Q E->vs.length=ps.length
 run:∀ (A:Around) (outer:List Env) (s:Shared) (H:Hp) (args:Args) (us:List Value) (vs:List V) (Q:VK) (E:XK),Room k A->Env0 P w K mg base A outer s H->BindsTo s fd args (ps.zip us)->zX vs us->sp vs H Q E →
  codeAny (model P w) A (.call (.ref f) args) (CR CX outer P w H s Q E) s
theorem FnOk.mono {P:Program} {w:World} {K:JN} {mg:Str->Option Value} {base:Heap} {CX:CXT} {j k:Nat} {f:Addr} {fd:FuncData} {ps:List Str} {sp:Sp} (F:FnOk P w K mg base CX j f fd ps sp) (h:j<=k) :
  FnOk P w K mg base CX k f fd ps sp:=⟨F.len,fun A outer s H args us vs Q E hr=>F.run A outer s H args us vs Q E (hr.mono h)⟩
theorem Env0.make {P:Program} {w:World} {K:JN} {mg:Str->Option Value} {base:Heap} {A:Around} {outer:List Env} {s:Shared} {H:Hp} (e:Env0 P w K mg base A outer s H) (C:Addr) (us:List Value) (kw:List (Str × Value)) :
  Env0 P w K mg base (A.under (.builtin "type.__call__" ⟨.ref C :: us,kw⟩)) outer s H:=⟨by first | exact e.frames | (simpa [Around.under,Code.envs,Code.isFrame,pushEnvs] using e.frames),e.mod,e.bs,e.bsz,e.funs,e.frf,e.hok,e.bare⟩
section
variable {X:Cx} {pins:List (Addr × Obj)} {σ:St} {H:Hp} {s s':Shared}
theorem Inv.env0 (I:Inv X pins σ H s):Env0 X.prog X.w X.K X.mg X.base X.A X.stack s H :=
 ⟨I.ok.frames,I.ok.mod,I.bs,Nat.le_trans I.ok.bsz I.sz,I.stack,I.stkFree,I.hok,I.bare⟩
theorem Inv.after {Q:VK} {u:Value} (I:Inv X pins σ H s) (h:CE X.stack X.prog X.w H s Q u s'):EP X pins σ Q u s':=by
 obtain ⟨v,H',os,bare,un,hok,r,q⟩:=h
 obtain ⟨hh,g,d,t,os'⟩:=s'
 obtain rfl:os' = s.os:=os
 exact ⟨v,H',I.call (h':=hh) (g':=g) (d':=d) (t':=t) (ch:=[]) un hok bare (fun b z=>absurd z (by simp)),r,q⟩
end
def SX (sp:Sp) (dvs:List V) (E:XK) (t:TA):TE:=fun σ H Q=>t σ H fun vs H1=>sp (vs ++ dvs) H1 Q E
def Wc (C:Addr) (m:Str) (sp:Sp) (dvs:List V) (E:XK) (ta:TE) (t:TA):TE:=fun σ H Q=>ta σ H fun x H1=>∃ a dx fs,x = .ref a /\ H1 a=some (.ins C dx fs) /\ fs.lookup m=none ∧
 t σ H1 fun vs H2=>sp (x :: (vs ++ dvs)) H2 Q E
def SY (C:Addr) (sp:Sp) (dvs:List V) (E:XK) (t:TA):TE:=fun σ H Q=>t σ H fun vs H1=>∀ x dx,H1 x=none->H1 dx=none->dx ≠ x →
 sp (.ref x :: (vs ++ dvs)) (JQ (JQ H1 dx (.own x)) x (.ins C dx [])) (fun v H2=>v = .non /\ Q (.ref x) H2) E
def wt (K:JN) (fd:FuncData) (ps:List Str) (ds:List Value):Prop :=
 ∀ (s:Shared) (us:List Value),K.In s.heap->(us ++ ds).length=ps.length->BindsTo s fd ⟨us,[]⟩ (ps.zip (us ++ ds))
theorem wt.all {K:JN} {fd:FuncData} {ps:List Str} (h:∀ us:List Value,us.length=ps.length->bindArgs fd ⟨us,[]⟩=pure (ps.zip us)):wt K fd ps []:=fun s us _ hl=>by
 rw [List.append_nil] at hl ⊢
 exact .of_eq (h us hl)
def tf (CX:CXT) (X:Cx) (E:XK):Prop:=∀ (pins:List (Addr × Obj)) (σ:St) (H:Hp) (s:Shared) (e:Value) (s':Shared),Inv X pins σ H s->CX X.stack H s E e s' -> X.xe e s'
section
variable {X:Cx} {CX:CXT} {k:Nat} {f C:Addr} {fd:FuncData} {ps:List Str} {sp:Sp} {dvs:List V} {ds:List Value} {E:XK} {x m:Str} {p pos apos:Pos} {e o:Expr} {es:List Expr} {ta:TE} {t:TA}
theorem Wd {pins:List (Addr × Obj)} {σ:St} {H:Hp} {s:Shared} {Q:VK} {us:List Value} {vs:List V} (F:FnOk X.prog X.w X.K X.mg X.base CX k f fd ps sp) (hr:Room k X.A) (hb:wt X.K fd ps ds) (hd:zX dvs ds) (hx:tf CX X E)
  (I:Inv X pins σ H s) (r:zX vs us) (h:sp (vs ++ dvs) H Q E):wpAny (model X.prog X.w) X.A (call (.ref f) us) (EP X pins σ Q) X.xe s:=by
 have r2:zX (vs ++ dvs) (us ++ ds):=r.append hd
 have hl:(us ++ ds).length=ps.length:=by rw [← r2.length]; exact F.len _ _ _ _ h
 refine wpAny_call (codeAny_mono (F.run X.A X.stack s H ⟨us,[]⟩ (us ++ ds) (vs ++ dvs) Q E hr I.env0 (hb s us I.kIn hl) r2 h) fun r s' hq=>?_)
 cases r with
 | error e=>exact hx pins σ H s e s' I hq
 | ok fl =>
  cases fl with
  | ret u=>exact I.after hq
  | next=>exact False.elim hq
  | brk=>exact False.elim hq
  | cont=>exact False.elim hq
theorem Tu (F:FnOk X.prog X.w X.K X.mg X.base CX k f fd ps sp) (hr:Room k X.A) (hg:Gl X x) (hm:X.mg x=some (.ref f)) (hk:PySem.W.keepIn X.K (.ref f)=true) (hb:wt X.K fd ps ds) (hd:zX dvs ds) (hx:tf CX X E)
  (ha:PA X (e :: es) t) (hdb:(x == ("__debug__":Str))=false:=by decide) (he:starEach (e :: es) X.env=(false,eval e X.env) :: starEach es X.env:=by rfl) (hpl:(backTo pos (starEach es X.env)).any (·.1)=false:=by rfl) :
  PE X (.Call (.Name x p) (e :: es) [] pos) (SX sp dvs E t):=by
 intro pins s σ H Q I h
 refine wpAny_Call_Name_kw (Zz I hg hm ?_ hdb)
 refine PySem.W.callWith_K (h₀:=X.base) I.ok.mod.kin hk (JY (ha pos pins s σ H _ I h) fun us s1 ⟨vs,H1,I1,r,q⟩=>⟨I1.kIn,?_⟩) he hpl
 exact Wd F hr hb hd hx I1 r q
theorem Tv {pl:Sem Bool} (he:PE X o ta) (c:Cls X.K C) (hm:Meth X.K C m f) (F:FnOk X.prog X.w X.K X.mg X.base CX k f fd ps sp) (hr:Room k X.A) (hb:wt X.K fd ps ds) (hd:zX dvs ds) (hx:tf CX X E) (ha:PA X (e :: es) t)
  (hst:starEach (e :: es) X.env=(false,eval e X.env) :: starEach es X.env:=by rfl) (hpl:(backTo pos (starEach es X.env)).any (·.1)=false:=by rfl)
  (ht:eval (.Call (.Attribute o m apos) (e :: es) [] pos) X.env=(do
   let ov ← eval o X.env
   standAt apos.atName
   let (f,first) ← holding [ov] (getMethod ov m pl)
   callWith pos f first (backTo pos (starEach (e :: es) X.env)) (backToKw pos (keywordEach [] X.env))):=by rfl) :
  PE X (.Call (.Attribute o m apos) (e :: es) [] pos) (Wc C m sp dvs E ta t):=by
 intro pins s σ H Q I h
 refine PySem.W.methodCall_KW (pl:=pl) (JY (he pins s σ H _ I h) fun u s1 ⟨x,H1,I1,rx,a,dx,fs,ex,ea,l,q⟩=>?_) ht
 subst ex
 obtain rfl:u=Value.ref a:=rx
 refine sX I1 ea c hm l ?_
 refine PySem.W.callWith_K (first:=[.ref a]) (h₀:=X.base) I.ok.mod.kin hm.kp (JY (ha pos pins s1 σ H1 _ I1 q) fun us s2 ⟨vs,H2,I2,r,q2⟩=>⟨I2.kIn,?_⟩) hst hpl
 exact Wd (us:=.ref a :: us) (vs:=.ref a :: vs) F hr hb hd hx I2 (.cons rfl r) q2
theorem Yj {pl:Sem Bool} (he:PE X o ta) (c:Cls X.K C) (hm:Meth X.K C m f) (F:FnOk X.prog X.w X.K X.mg X.base CX k f fd ps sp) (hr:Room k X.A) (hb:wt X.K fd ps ds) (hd:zX dvs ds) (hx:tf CX X E)
  (ht:eval (.Call (.Attribute o m apos) [] [] pos) X.env=(do
   let ov ← eval o X.env
   standAt apos.atName
   let (f,first) ← holding [ov] (getMethod ov m pl)
   callWith pos f first (backTo pos (starEach [] X.env)) (backToKw pos (keywordEach [] X.env))):=by rfl) :
  PE X (.Call (.Attribute o m apos) [] [] pos) (Wc C m sp dvs E ta R6):=by
 intro pins s σ H Q I h
 refine PySem.W.methodCall_KW (pl:=pl) (JY (he pins s σ H _ I h) fun u s1 ⟨x,H1,I1,rx,a,dx,fs,ex,ea,l,q⟩=>?_) ht
 subst ex
 obtain rfl:u=Value.ref a:=rx
 refine sX I1 ea c hm l ?_
 exact PySem.W.callWith_K0 (first:=[.ref a]) I1.kIn hm.kp (Wd (us:=[.ref a]) (vs:=[.ref a]) F hr hb hd hx I1 (.cons rfl .nil) q)
structure Mk (K:JN) (C f:Addr):Prop where
 makes:PySem.W.makesIn K C=true
 init:PySem.W.findIn K (.ref C) "__init__" = some (some (.ref f))
 fn:PySem.W.isFn K (.ref f)=true
 kp:PySem.W.keepIn K (.ref C)=true
theorem V0 {pins:List (Addr × Obj)} {σ:St} {H:Hp} {s:Shared} {Q:VK} {us:List Value} {vs:List V} (M:Mk X.K C f) (F:FnOk X.prog X.w X.K X.mg X.base CX k f fd ps sp) (hr:Room (k+1) X.A) (hb:wt X.K fd ps ds) (hd:zX dvs ds)
  (hx:tf CX X E) (I:Inv X pins σ H s) (r:zX vs us)
  (h:∀ x dx,H x=none->H dx=none->dx ≠ x->sp (.ref x :: (vs ++ dvs)) (JQ (JQ H dx (.own x)) x (.ins C dx [])) (fun v H2=>v = .non /\ Q (.ref x) H2) E) :
  wpAny (model X.prog X.w) X.A (call (.ref C) us) (EP X pins σ Q) X.xe s:=by
 have hq:=h (s.heap.objs.size+1) s.heap.objs.size (I.hok.fresh (Nat.le_succ _)) (I.hok.fresh (Nat.le_refl _)) (Nat.ne_of_lt (Nat.lt_succ_self _))
 have I2:=Inv.made (C:=C) I
 have r2:zX (V.ref (s.heap.objs.size+1) :: (vs ++ dvs)) (Value.ref (s.heap.objs.size+1) :: (us ++ ds)):=.cons rfl (r.append hd)
 have hl:(Value.ref (s.heap.objs.size+1) :: us ++ ds).length=ps.length:=by
  have e:=r2.length
  rw [F.len _ _ _ _ hq] at e
  exact e.symm
 refine wpAny_call (VZ (f:=f) I.kIn M.makes M.init (beq_iff_eq.mp M.fn) (codeAny_mono (F.run _ X.stack _ _ ⟨Value.ref (s.heap.objs.size+1) :: us,[]⟩ (Value.ref (s.heap.objs.size+1) :: (us ++ ds)) _ _ E (hr.make C us [])
  (I2.env0.make C us []) (hb _ (Value.ref (s.heap.objs.size+1) :: us) I2.kIn hl) r2 hq) fun r s' hq'=>?_))
 cases r with
 | error e=>exact hx pins σ _ _ e s' I2 hq'
 | ok fl =>
  cases fl with
  | ret u =>
   obtain ⟨v,H',I3,rv,ev,q3⟩:=I2.after hq'
   subst ev
   exact ⟨rv,⟨V.ref (s.heap.objs.size+1),H',I3,rfl,q3⟩⟩
  | next=>exact False.elim hq'
  | brk=>exact False.elim hq'
  | cont=>exact False.elim hq'
theorem Tw (M:Mk X.K C f) (F:FnOk X.prog X.w X.K X.mg X.base CX k f fd ps sp) (hr:Room (k+1) X.A) (hg:Gl X x) (hm:X.mg x=some (.ref C)) (hb:wt X.K fd ps ds) (hd:zX dvs ds) (hx:tf CX X E)
  (ha:PA X (e :: es) t) (hdb:(x == ("__debug__":Str))=false:=by decide) (he:starEach (e :: es) X.env=(false,eval e X.env) :: starEach es X.env:=by rfl) (hpl:(backTo pos (starEach es X.env)).any (·.1)=false:=by rfl) :
  PE X (.Call (.Name x p) (e :: es) [] pos) (SY C sp dvs E t):=by
 intro pins s σ H Q I h
 refine wpAny_Call_Name_kw (Zz I hg hm ?_ hdb)
 refine PySem.W.callWith_K (h₀:=X.base) I.ok.mod.kin M.kp (JY (ha pos pins s σ H _ I h) fun us s1 ⟨vs,H1,I1,r,q⟩=>⟨I1.kIn,?_⟩) he hpl
 exact V0 M F hr hb hd hx I1 r q
end
structure FnScope (N P:List Str) (sc:Scope):Prop where
 kind:sc.kind = .function
 co:sc.isCoroutine=false
 gen:sc.isGenerator=false
 nd:N.Nodup
 pre:N.take P.length=P
 par:∀ x ∈ P,sc.names.lookup x=some .local \/ sc.names.lookup x=some .cell
 nofree:∀ y ∈ sc.names,y.2 ≠ .free
theorem jk {kindOf:Str->Option NameKind} {x:Str}:∀ {binds:List (Str × Value)} {m:Str->Option Value},(∀ v,(x,v) ∉ binds)->bindL kindOf binds m x=m x
 | [],_,_=>rfl
 | (n,v) :: r,m,h=>by
  unfold bindL
  rw [jk fun w hw=>h w (List.mem_cons_of_mem _ hw)]
  split
  ·have:x ≠ n:=by rintro rfl; exact h v List.mem_cons_self
   simp [this]
  ·rfl
theorem jm {kindOf:Str->Option NameKind} {x:Str}:∀ {binds:List (Str × Value)} {m:Str->Option Value},(∀ v,(x,v) ∉ binds)->bindC kindOf binds m x=m x
 | [],_,_=>rfl
 | (n,v) :: r,m,h=>by
  unfold bindC
  rw [jm fun w hw=>h w (List.mem_cons_of_mem _ hw)]
  split
  ·rfl
  ·have:x ≠ n:=by rintro rfl; exact h v List.mem_cons_self
   simp [this]
theorem jn {kindOf:Str->Option NameKind} {x:Str} {v:Value}:∀ {P:List Str} {vs:List Value} {i:Nat} {m:Str->Option Value},P.Nodup->P[i]? = some x->vs[i]? = some v->kindOf x=some .local →
  bindL kindOf (P.zip vs) m x=some v
 | [],_,_,_,_,h,_,_=>by simp at h
 | _ :: _,[],_,_,_,_,h,_=>by simp at h
 | p :: P,w :: vs,0,m,nd,h1,h2,hk=>by
  simp at h1 h2; subst h1; subst h2
  show bindL kindOf ((p,w) :: P.zip vs) m p=_
  unfold bindL
  rw [jk fun v hv=>(List.nodup_cons.mp nd).1 (List.of_mem_zip hv).1,if_pos hk]
  simp
 | p :: P,w :: vs,i+1,m,nd,h1,h2,hk=>by
  show bindL kindOf ((p,w) :: P.zip vs) m x=_
  unfold bindL
  exact jn (i:=i) (List.nodup_cons.mp nd).2 (by simpa using h1) (by simpa using h2) hk
theorem jo {kindOf:Str->Option NameKind} {x:Str} {v:Value}:∀ {P:List Str} {vs:List Value} {i:Nat} {m:Str->Option Value},P.Nodup->P[i]? = some x->vs[i]? = some v->kindOf x ≠ some .local →
  bindC kindOf (P.zip vs) m x=some v
 | [],_,_,_,_,h,_,_=>by simp at h
 | _ :: _,[],_,_,_,_,h,_=>by simp at h
 | p :: P,w :: vs,0,m,nd,h1,h2,hk=>by
  simp at h1 h2; subst h1; subst h2
  show bindC kindOf ((p,w) :: P.zip vs) m p=_
  unfold bindC
  rw [jm fun v hv=>(List.nodup_cons.mp nd).1 (List.of_mem_zip hv).1,if_neg hk]
  simp
 | p :: P,w :: vs,i+1,m,nd,h1,h2,hk=>by
  show bindC kindOf ((p,w) :: P.zip vs) m x=_
  unfold bindC
  exact jo (i:=i) (List.nodup_cons.mp nd).2 (by simpa using h1) (by simpa using h2) hk
def qd (N:List Str) (vs:List V):St:=vs.map some ++ List.replicate (N.length - vs.length) none
def Tx (CX:CXT) (P:Program) (w:World) (K:JN) (mg:Str->Option Value) (base:Heap) (N:List Str) (qual:Str) (scope:Scope) (f:Addr) (cd:Value) (A:Around) (outer:List Env) (s:Shared) (H:Hp) (E:XK):Cx where
 prog:=P
 w:=w
 K:=K
 mg:=mg
 base:=base
 A:=A.deeper (envOfC qual scope s.heap.objs.size f cd)
 N:=N
 s₀:=s
 H₀:=H
 env:=envOfC qual scope s.heap.objs.size f cd
 outer:=outer
 stack:=envOfC qual scope s.heap.objs.size f cd :: outer
 ex:=[]
 calm:=true
 fn:=fun _=>true
 pn:=[]
 xe:=fun e s'=>wpAny (model P w) (A.deeper (envOfC qual scope s.heap.objs.size f cd)) (leaving (envOfC qual scope s.heap.objs.size f cd) e) (fun _ s''=>CX outer H s E e s'') (fun e' s''=>CX outer H s E e' s'') s'
theorem Yk {sc:Scope} {n:Nat} {x:Str} (h:sc.names.lookup x=some .cell):∃ c,(cellsFrom n sc.names []).lookup x=some c:=by
 have q:=PySem.W.cellsFrom_some sc.names n [] (.inl h)
 exact Option.isSome_iff_exists.mp q
theorem We {CX:CXT} {P:Program} {w:World} {K:JN} {mg:Str->Option Value} {base:Heap} {N ps:List Str} {qual:Str} {scope:Scope} {f:Addr} {cd:Value} {A:Around} {outer:List Env} {s s1:Shared} {H:Hp} {E:XK} {us:List Value} {vs:List V}
  (S:FnScope N ps scope) (hd:A.handled=none) (e0:Env0 P w K mg base A outer s H) (hl:vs.length=ps.length) (r:zX vs us)
  (x:InCallC s s.heap.objs.size (bindL (envOfC qual scope s.heap.objs.size f cd).kindOf (ps.zip us) fun _=>none) (cellsFrom (s.heap.objs.size+1) scope.names []) (bindC (envOfC qual scope s.heap.objs.size f cd).kindOf (ps.zip us) fun _=>none) s1) :
  Inv (Tx CX P w K mg base N qual scope f cd A outer s H E) [] (qd N vs) H s1:=by
 have hpl:ps.length<=N.length:=by have:=congrArg List.length S.pre; rw [List.length_take] at this; omega
 obtain ⟨h1,tk,rfl,hk⟩:=x.done
 have noA:∀ b:Addr,b ∉ (Tx CX P w K mg base N qual scope f cd A outer s H E).ex:=fun b z=>absurd (show b ∈ ([]:List Addr) from z) (by simp)
 refine ⟨⟨e0.mod,S.kind,rfl,rfl,Nat.le_refl _,fun y z c h1 h2=>?_,fun y hy=>?_,fun y c _ h=>?_,fun _=>hd,Around.frames_deeper e0.frames,.inr ⟨rfl,rfl⟩,fun b z=>absurd z (noA b),e0.bs,e0.bsz,fun b _ _=>noA b,fun b z=>absurd z (noA b),e0.funs,e0.frf⟩,
  rfl,e0.bare,Un.kept hk,⟨_,x.toInCall.ns,fun i y v h1 h2 h3=>?_⟩,fun y c h=>⟨_,x.cell y c h⟩,e0.hok.fresh (Nat.le_refl _),fun y c h=>?_,fun p hp=>absurd (show p ∈ ([]:List (Addr × Obj)) from hp) (by simp),e0.hok.kept hk,?_⟩
 ·exact name_of_addr x.apart (PySem.mem_of_lookup h1) (PySem.mem_of_lookup h2)
 ·have hy:scope.names.lookup y=some .cell \/ scope.names.lookup y=some .free:=hy
  rcases hy with hy | hy
  ·exact Yk hy
  ·exact absurd rfl (S.nofree _ (PySem.mem_of_lookup hy))
 ·exact Nat.le_of_lt (x.above y c (PySem.mem_of_lookup h))
 ·have hi:i < vs.length:=by
   unfold qd at h2
   by_cases hi:i < vs.length
   ·exact hi
   ·rw [List.getElem?_append_right (by simpa using hi)] at h2
    rw [List.getElem?_replicate] at h2
    split at h2 <;> cases h2
  have ha:vs[i]? = some v:=by
   unfold qd at h2
   rw [List.getElem?_append_left (by simpa using hi),List.getElem?_map] at h2
   cases e:vs[i]? with
   | none=>rw [e] at h2; cases h2
   | some a=>rw [e] at h2; cases h2; rfl
  obtain ⟨u,hu,rv⟩:=r.get ha
  have hp:ps[i]? = some y:=by
   rw [← S.pre,List.getElem?_take_of_lt (by omega)]; exact h1
  have ndP:ps.Nodup:=by rw [← S.pre]; exact S.nd.sublist (List.take_sublist _ _)
  refine ⟨u,rv,?_⟩
  rcases S.par y (List.mem_of_getElem? hp) with k | k
  ·exact .inl ⟨k,jn ndP hp hu k⟩
  ·obtain ⟨c,e⟩:=Yk (n:=s.heap.objs.size+1) k
   refine .inr ⟨.inl k,c,e,?_⟩
   have q:=x.cell y c e
   rw [jo ndP hp hu (by show scope.names.lookup y ≠ _; rw [k]; decide)] at q
   exact q
 ·exact e0.hok.fresh (Nat.le_of_lt (x.above y c (PySem.mem_of_lookup h)))
 ·unfold qd
  show _=N.length
  rw [List.length_append,List.length_map,List.length_replicate]
  omega
theorem SZ {CX:CXT} {P:Program} {w:World} {K:JN} {mg:Str->Option Value} {base:Heap} {k:Nat} {f:Addr} {name qual:Str} {params:Arguments} {body:List Stmt} {scope:Scope} {dV kV doc pm cdv ct oc:Value} {an od:Option Addr}
  {osl:Array (Option Value)} {N ps:List Str} {sp:Sp} (lk:K.lookup f=some ⟨oc,od,.func (PySem.W.fnOf name qual params body scope dV kV doc pm an cdv ct),osl⟩) (hcd:PySem.W.codeIn K cdv qual=true) (S:FnScope N ps scope)
  (len:∀ vs H Q E,sp vs H Q E->vs.length=ps.length)
  (hbody:∀ (A:Around) (outer:List Env) (s:Shared) (H:Hp) (vs:List V) (Q:VK) (E:XK),Room k (A.deeper (envOfC qual scope s.heap.objs.size f cdv))->sp vs H Q E →
   ∃ t,JX (Tx CX P w K mg base N qual scope f cdv A outer s H E) body t /\ t { nx:=fun _ H'=>Q .non H',rt:=Q } (qd N vs) H) :
  FnOk P w K mg base CX (k+1) f (PySem.W.fnOf name qual params body scope dV kV doc pm an cdv ct) ps sp:=by
 refine ⟨len,fun A outer s H args us vs Q E hr e0 hb r hsp=>?_⟩
 have hl:=len _ _ _ _ hsp
 have KX:K.In s.heap:=e0.mod.kin.keeps fun b o e=>(e0.bs b o e).1
 have lim:s.heap.NoLimit:=e0.mod.nolimit.keeps fun b o e=>(e0.bs b o e).1
 have hkind:∀ y ∈ ps.zip us,scope.names.lookup y.1=some .local \/ (scope.names.lookup y.1=some .cell /\ ((cellsFrom (s.heap.objs.size+1) scope.names []).lookup y.1).isSome=true):=fun ⟨n,v⟩ hy=>by
  rcases S.par n (List.of_mem_zip hy).1 with q | q
  ·exact .inl q
  ·exact .inr ⟨q,PySem.W.cellsFrom_some _ _ _ (.inl q)⟩
 refine codeAny_call_function hr.depth (KX _ _ lk) rfl S.co S.gen rfl (PySem.W.codeRec_of KX hcd) (hb _ _ _ _ ?_)
 refine wpAny_newFunctionEnv_cells S.kind hkind fun env he s1 x=>?_
 subst he
 refine ⟨lim.keeps x.toInCall.keep,codeAny_func ?_⟩
 obtain ⟨t,ht,hq⟩:=hbody A outer s H vs Q E (hr.deeper _) hsp
 have I:Inv (Tx CX P w K mg base N qual scope f cdv A outer s H E) [] (qd N vs) H s1:=We S hr.hd e0 hl r x
 refine wpAny_mono (ht [] s1 (qd N vs) H _ I hq) (fun fl s' hs=>?_) fun e s' hs=>hs
 have fin:∀ {σ':St} {H':Hp} {v:V} {u:Value},Inv (Tx CX P w K mg base N qual scope f cdv A outer s H E) [] σ' H' s' -> zY v u->Q v H' -> CE outer P w H s Q u s' :=
  fun {σ' H' v u} J rv q=>⟨v,H',J.os,J.bare,J.base,J.hok,rv,q⟩
 cases fl with
 | ret u =>
  obtain ⟨v,σ',H',J,rv,q⟩:=hs
  exact fin J rv q
 | next =>
  obtain ⟨σ',H',J,q⟩:=hs
  exact fin (v:=V.non) (u:=Value.none) J rfl q
 | brk =>
  obtain ⟨_,_,_,q⟩:=hs
  exact False.elim q
 | cont =>
  obtain ⟨_,_,_,q⟩:=hs
  exact False.elim q
end L2
namespace L2
open PySem PySem.Spec PyProof.Rows
section
variable {X:Cx} {x:Str} {p pos:Pos} {e:Expr} {es:List Expr} {t:TA} {id T:String} {r:List V->Hp->VK->Prop}
def tCB (r:List V->Hp->VK->Prop) (t:TA):TE:=fun σ H Q=>t σ H fun vs H1=>r vs H1 Q
theorem zq (hc:wp X (.builtin id) r) (hg:Gl X x) (hm:X.mg x=none) (hv:bootBuiltins x=some (.builtin id)) (ha:PA X (e :: es) t) (hn:x ≠ "__name__":=by decide) (hdb:(x == ("__debug__":Str))=false:=by decide)
  (he:starEach (e :: es) X.env=(false,eval e X.env) :: starEach es X.env:=by rfl) (hpl:(backTo pos (starEach es X.env)).any (·.1)=false:=by rfl):PE X (.Call (.Name x p) (e :: es) [] pos) (tCB r t):=by
 intro pins s σ H Q I h
 refine wpAny_Call_Name_kw (uV I hg hm hv ?_ hn hdb)
 exact PyProof.Rows.callWith_builtin1 (JY (ha pos pins s σ H _ I h) fun us s1 ⟨vs,H1,I1,r1,q1⟩=>hc pins s1 σ H1 vs us Q I1 r1 q1) he hpl
theorem zZ (hc:wp X (.type T) r) (hg:Gl X x) (hm:X.mg x=none) (hv:bootBuiltins x=some (.type T)) (ha:PA X (e :: es) t) (hn:x ≠ "__name__":=by decide) (hdb:(x == ("__debug__":Str))=false:=by decide)
  (he:starEach (e :: es) X.env=(false,eval e X.env) :: starEach es X.env:=by rfl) (hpl:(backTo pos (starEach es X.env)).any (·.1)=false:=by rfl):PE X (.Call (.Name x p) (e :: es) [] pos) (tCB r t):=by
 intro pins s σ H Q I h
 refine wpAny_Call_Name_kw (uV I hg hm hv ?_ hn hdb)
 exact PyProof.Rows.callWith_type1 (JY (ha pos pins s σ H _ I h) fun us s1 ⟨vs,H1,I1,r1,q1⟩=>hc pins s1 σ H1 vs us Q I1 r1 q1) he hpl
end
end L2
namespace HT
open PySem PyProof.Rows
section
variable {prog:Program} {w:World} {A:Around} {E:JO} {s:Shared}
theorem cat_tup {t b:Addr} {vs ws:List Value} {Q:JO} (ht:IsTup s.heap t vs.toArray) (hb:IsTup s.heap b ws.toArray) (hv:vs ≠ [])
  (h1:ws=[]->Q (.ref t) s) (h2:ws ≠ []->Q (.ref s.heap.objs.size) { s with heap:=s.heap.push { cls:=.type "tuple",data:=.seq (vs ++ ws).toArray } })
  (hsz:vs.length+ws.length<=sizeLine):wpAny (model prog w) A (binaryOp .Add (.ref t) (.ref b)) Q E s:=by
 obtain ⟨⟨cls,dd,data,sl⟩,ho,hc,n,hd⟩:=id ht
 obtain ⟨⟨cls2,dd2,data2,sl2⟩,ho2,hc2,n2,hd2⟩:=id hb
 simp only at hc hd hc2 hd2
 subst hc hd hc2 hd2
 have e:vs.toArray ++ ws.toArray=(vs ++ ws).toArray:=by simp
 by_cases hw:ws=[]
 ·exact concat_meets ⟨_,ho,rfl⟩ ⟨_,ho2,rfl⟩ noFill_tuple_add seq_tuple_add PySem.F.slot_tuple_add PySem.F.entry_tuple_add (PySem.F.args_tuple_add_2 _ _)
   (tuple_addW1 t b vs.toArray ws.toArray n n2 dd dd2 sl sl2 (by simpa using hv) (by simp [hw])) ⟨ho,ho2,h1 hw⟩
 ·refine concat_meets ⟨_,ho,rfl⟩ ⟨_,ho2,rfl⟩ noFill_tuple_add seq_tuple_add PySem.F.slot_tuple_add PySem.F.entry_tuple_add (PySem.F.args_tuple_add_2 _ _)
   (tuple_addW2 t b vs.toArray ws.toArray n n2 dd dd2 sl sl2 (by simpa using hv) (by simpa using hw) (by rw [List.size_toArray,List.size_toArray]; exact hsz)) ⟨ho,ho2,?_⟩
  rw [e]
  exact h2 hw
def sIx (n d:Nat):Option Int->Nat
 | none=>d
 | some v=>if v < 0 then (v+(n:Int)).toNat else min v.toNat n
theorem S0 (n d:Nat) (hd:d<=n) (o:Option Int):sIx n d o<=n:=by
 cases o with
 | none=>exact hd
 | some v =>
  show (if v < 0 then (v+(n:Int)).toNat else min v.toNat n)<=n
  by_cases hv:v < 0
  ·rw [if_pos hv]; omega
  ·rw [if_neg hv]; exact Nat.min_le_right _ _
theorem Wf (v:Int) (n d:Nat):(if v < 0 then max (v+(n:Int)) 0 else min v (n:Int))=((sIx n d (some v):Nat):Int):=by
 show (if v < 0 then max (v+(n:Int)) 0 else min v (n:Int))=(((if v < 0 then (v+(n:Int)).toNat else min v.toNat n):Nat):Int)
 by_cases hv:v < 0
 ·simp only [if_pos hv]; omega
 ·simp only [if_neg hv]; omega
theorem Y2 (lo hi:Option Int) (n:Nat):Builtin.Slice.sliceAdjust lo hi 1 (n:Int)=(((sIx n 0 lo:Nat):Int),((sIx n n hi:Nat):Int)):=by
 have h1:¬ ((1:Int) < 0):=by omega
 unfold Builtin.Slice.sliceAdjust
 simp only [h1,if_false]
 refine Prod.ext ?_ ?_
 ·cases lo with
  | none=>rfl
  | some v=>exact Wf v n 0
 ·cases hi with
  | none=>rfl
  | some v=>exact Wf v n n
theorem Y3 (i j:Nat):Builtin.Slice.slicePlaces (i:Int) (j:Int) 1=j - i:=by
 unfold Builtin.Slice.slicePlaces
 have h1:(1:Int) > 0:=by omega
 simp only [h1,if_true,Int.ediv_one]
 split <;> omega
theorem sZ {v:Value} {o:Option Int} {Q:Option Int->Shared->Prop} (p:IsPart v o) (h:Q o s):wpAny (model prog w) A (Builtin.Slice.slicePartIndex v) Q E s:=by
 cases p with
 | none=>exact slicePart_none h
 | int i t=>exact slicePart_int h
theorem wg {sl:Addr} {vl vu:Value} {lo hi:Option Int} {n:Nat} {Q:Int × Int × Nat->Shared->Prop} (hs:s.heap.IsSliceOf sl vl vu .none) (pl:IsPart vl lo) (pu:IsPart vu hi)
  (h:Q (((sIx n 0 lo:Nat):Int),1,sIx n n hi - sIx n 0 lo) s):wpAny (model prog w) A (Builtin.Slice.sliceApplied (.ref sl) (pure (n:Int))) Q E s:=by
 obtain ⟨os,hos,hcs,hds⟩:=id hs
 unfold Builtin.Slice.sliceApplied Builtin.Slice.sliceFields
 refine wpAny_bind (wpAny_bind (wpAny_field hos hds (x:=vl) rfl (wpAny_bind (wpAny_field hos hds (x:=vu) rfl (wpAny_bind (wpAny_field hos hds (x:=.none) rfl (wpAny_pure ?_)))))))
 refine wpAny_bind (slicePart_none ?_)
 show wpAny _ _ (if ((1:Int) == 0)=true then _ else _) _ _ s
 rw [if_neg (by decide)]
 refine wpAny_bind (sZ pl (wpAny_bind (sZ pu (wpAny_bind (wpAny_pure ?_)))))
 show wpAny _ _ (match Builtin.Slice.sliceAdjust lo hi 1 (n:Int) with | (lo,hi)=>pure (lo,(1:Int),Builtin.Slice.slicePlaces lo hi 1)) _ _ s
 rw [Y2 lo hi n]
 show wpAny _ _ (pure (((sIx n 0 lo:Nat):Int),(1:Int),Builtin.Slice.slicePlaces ((sIx n 0 lo:Nat):Int) ((sIx n n hi:Nat):Int) 1)) _ _ s
 rw [Y3]
 exact wpAny_pure h
theorem V1 (xs:Array Value) (i k:Nat):((List.range k).filterMap fun (m:Nat)=>xs[((i:Int)+(m:Int) * 1).toNat]?).toArray=((xs.toList.drop i).take k).toArray:=by
 have e:(fun (m:Nat)=>xs[((i:Int)+(m:Int) * 1).toNat]?)=fun m=>xs[i+m]?:=by
  funext m
  have:((i:Int)+(m:Int) * 1).toNat=i+m:=by omega
  rw [this]
 rw [e]
 have:=pick_run xs i k
 rw [List.filterMap_map] at this
 have e2:((fun x=>xs[x]?) ∘ fun x=>i+x)=fun m=>xs[i+m]?:=rfl
 rw [e2] at this
 rw [this]
theorem getItem_tuple_cut {t sl:Addr} {items:Array Value} {vl vu:Value} {lo hi:Option Int} {Q:JO} (ht:IsTup s.heap t items) (hs:s.heap.IsSliceOf sl vl vu .none) (pl:IsPart vl lo) (pu:IsPart vu hi)
  (hw:¬ (sIx items.size 0 lo=0 /\ sIx items.size items.size hi=items.size))
  (h:Q (.ref s.heap.objs.size) { s with heap:=s.heap.push { cls:=.type "tuple",data:=.seq ((items.toList.drop (sIx items.size 0 lo)).take (sIx items.size items.size hi - sIx items.size 0 lo)).toArray } })
  (hsz:items.size<=sizeLine):wpAny (model prog w) A (getItem (.ref t) (.ref sl)) Q E s:=by
 have htake:sizeOk (.seq ((items.toList.drop (sIx items.size 0 lo)).take (sIx items.size items.size hi - sIx items.size 0 lo)).toArray):=by
  show ((items.toList.drop (sIx items.size 0 lo)).take (sIx items.size items.size hi - sIx items.size 0 lo)).toArray.size<=sizeLine
  rw [List.size_toArray,List.length_take,List.length_drop,Array.length_toList]
  omega
 have hj:sIx items.size items.size hi<=items.size:=S0 _ _ (Nat.le_refl _) hi
 obtain ⟨os,hos,hcs,hds⟩:=id hs
 have hTs:s.TypeIs (.ref sl) "slice":=⟨os,hos,hcs⟩
 unfold getItem
 try with_reducible refine wpAny_holding ?_
 first | refine wpAny_bind (wpAny_pure ?_) | skip
 refine wpAny_bind (wpAny_sequenceKey ht.typeIs (by decide) ?_)
 refine wpAny_bind (wpAny_callSpecial?_slot (name:=Str.ofString "__getitem__") ht.typeIs PyProof.Rows.slot_tuple_getitem
  (wpAny_call_entry PyProof.Rows.slot_tuple_getitem ht.typeIs entry_tuple_getitem ?_ (args_tuple_getitem _ _)))
 show wpAny _ _ (Builtin.Tuple.tupleItemsOf (.ref t) >>= _) _ _ s
 refine wpAny_bind (tupleItemsOf_ ht ?_)
 refine wpAny_bind (wpAny_typeOf hTs ?_)
 rw [if_pos (by decide)]
 refine wpAny_bind (wg hs pl pu ?_)
 have hno:¬ ((((sIx items.size 0 lo:Nat):Int) == 0 && (1:Int) == 1 && (sIx items.size items.size hi - sIx items.size 0 lo) == items.size)=true):=by
  intro q
  rw [Bool.and_eq_true,Bool.and_eq_true] at q
  have q1:((sIx items.size 0 lo:Nat):Int)=0:=eq_of_beq q.1.1
  have q2:sIx items.size items.size hi - sIx items.size 0 lo=items.size:=eq_of_beq q.2
  exact hw ⟨by omega,by omega⟩
 show wpAny _ _ (if (((sIx items.size 0 lo:Nat):Int) == 0 && (1:Int) == 1 && (sIx items.size items.size hi - sIx items.size 0 lo) == items.size)=true then _ else _) _ _ s
 rw [if_neg hno,V1]
 first
  | exact wpAny_bind (m:=Builtin.Tuple.tupleExact _) (wpAny_newObj_type (wpAny_pure ⟨_,rfl,wpAny_pure h⟩) htake)
  | exact wpAny_bind (m:=Builtin.Tuple.tupleExact _) (wpAny_newObj_type (wpAny_bind (wpAny_pure (wpAny_pure ⟨_,rfl,wpAny_pure h⟩))) htake)
  | exact wpAny_bind (wpAny_bind (m:=Builtin.Tuple.tupleExact _) (wpAny_newObj_type (wpAny_pure (wpAny_pure ⟨_,rfl,wpAny_pure h⟩)) htake))
  | exact wpAny_bind (wpAny_bind (m:=Builtin.Tuple.tupleExact _) (wpAny_newObj_type (wpAny_pure ⟨_,rfl,wpAny_pure h⟩) htake))
end
end HT
namespace L2
open PySem PySem.Spec PyProof.Rows
abbrev TO:=St->Hp->(Option Int->Hp->Prop)->Prop
def PO (X:Cx) (e:Option Expr) (t:TO):Prop :=
 ∀ (pins:List (Addr × Obj)) (s:Shared) (σ:St) (H:Hp) (Q:Option Int->Hp->Prop),Inv X pins σ H s->t σ H Q →
  wpAny (model X.prog X.w) X.A (evalPart e X.env) (fun u s'=>∃ o H',Inv X pins σ H' s' /\ IsPart u o /\ Q o H') X.xe s
def Ty:TO:=fun _ H Q=>Q none H
def Qs (t:TE):TO:=fun σ H Q=>t σ H fun x H1=>∃ i,x = .int i /\ Q (some i) H1
theorem Y4 {ns:List Int}:∀ {us:List Value},zX (ns.map V.int) us->IntsAre us ns:=by
 induction ns with
 | nil=>intro us r; rw [List.map_nil] at r; cases r; exact .nil
 | cons n ns ih =>
  intro us r
  rw [List.map_cons] at r
  cases r with
  | cons r1 r2 =>
   obtain ⟨t,e⟩:=r1
   subst e
   exact .cons n t (ih r2)
section
variable {X:Cx} {e:Expr} {te:TE} {lo hi:Option Expr} {tl th:TO} {pos p2:Pos}
theorem Wg:PO X none Ty:=by
 intro pins s σ H Q I h
 rw [evalPart_none]
 exact wpAny_pure ⟨none,H,I,.none,h⟩
theorem Wh (h:PE X e te):PO X (some e) (Qs te):=by
 intro pins s σ H Q I hw
 rw [evalPart_some]
 refine JY (h pins s σ H _ I hw) fun u s1 ⟨x,H1,I1,r1,q1⟩=>?_
 obtain ⟨i,rfl,q⟩:=q1
 obtain ⟨t,rfl⟩:=r1
 exact ⟨some i,H1,I1,.int i t,q⟩
def SlR (X:Cx) (r:V->Option Int->Option Int->Hp->VK->Prop):Prop :=
 ∀ (pins:List (Addr × Obj)) (s:Shared) (σ:St) (H:Hp) (x:V) (v vl vu:Value) (lo hi:Option Int) (sl:Addr) (Q:VK),Inv X pins σ H s->zY x v->s.heap.IsSliceOf sl vl vu .none->IsPart vl lo->IsPart vu hi->r x lo hi H Q →
  ∃ T id,typeLookup (.type T) "__getitem__" = pure (some (.builtin id)) /\ s.TypeIs v T /\ wpAny (model X.prog X.w) X.A (getItem v (.ref sl)) (EP X pins σ Q) X.xe s
def tSl (r:V->Option Int->Option Int->Hp->VK->Prop) (te:TE) (tl th:TO):TE:=fun σ H Q=>te σ H fun x H1=>tl σ H1 fun l H2=>th σ H2 fun u H3=>r x l u H3 Q
theorem Yl {r:V->Option Int->Option Int->Hp->VK->Prop} (hr:SlR X r) (he:PE X e te) (hl:PO X lo tl) (hu:PO X hi th):PE X (.Subscript e (.Slice lo hi none p2) pos) (tSl r te tl th):=by
 intro pins s σ H Q I h
 refine Subscript_ (JY (he pins s σ H _ I h) fun v s1 ⟨x,H1,I1,r1,q1⟩=>?_)
 refine wpAny_Slice (JY (hl pins s1 σ H1 _ I1 q1) fun vl s2 ⟨l,H2,I2,pl,q2⟩=>JY (hu pins s2 σ H2 _ I2 q2) fun vu s3 ⟨u,H3,I3,pu,q3⟩=>?_)
 rw [evalPart_none]
 refine wpAny_pure ?_
 have I4:Inv X pins σ H3 { s3 with heap:=s3.heap.push { cls:=.type "slice",data:=.fields #[vl,vu,.none] } }:=I3.kept (t':=s3.toks) fun b ob q=>Heap.get?_push_of_some _ q
 obtain ⟨T,id,hT,ht,hg⟩:=hr pins { s3 with heap:=s3.heap.push { cls:=.type "slice",data:=.fields #[vl,vu,.none] } } σ H3 x v vl vu l u s3.heap.objs.size Q I4 r1 (Heap.IsSliceOf.new ..) pl pu q3
 show wpAny (model X.prog X.w) X.A (subscriptTail e (.Slice lo hi none p2) v (.ref s3.heap.objs.size)) (EP X pins σ Q) X.xe { s3 with heap:=s3.heap.push { cls:=.type "slice",data:=.fields #[vl,vu,.none] } }
 exact tail_any (ops:=[.ref s3.heap.objs.size,v]) ht hT hg (by with_unfolding_all rfl)
def qe (xs:List V) (lo hi:Option Int):List V:=(xs.drop (HT.sIx xs.length 0 lo)).take (HT.sIx xs.length xs.length hi - HT.sIx xs.length 0 lo)
theorem tj (xs:List V) (lo hi:Option Int):(qe xs lo hi).length<=xs.length:=by
 unfold qe
 rw [List.length_take,List.length_drop]
 omega
def Jy (K:JN):V->Option Int->Option Int->Hp->VK->Prop:=fun x lo hi H Q=>∃ a xs,x = .ref a /\ J3 K H a xs ∧
 ¬ (HT.sIx xs.length 0 lo=0 /\ HT.sIx xs.length xs.length hi=xs.length) /\ ∀ p,H p=none->Q (.ref p) (JQ H p (.tup (qe xs lo hi)))
theorem S8:SlR X (Jy X.K):=by
 intro pins s σ H x v vl vu lo hi sl Q I rx hs pl pu h
 obtain ⟨a,xs,rfl,hx,hw,q⟩:=h
 cases rx
 obtain ⟨its,r,ht,hz⟩:=I.tuple hx
 have hlen:its.toArray.size=xs.length:=by rw [List.size_toArray]; exact r.length.symm
 refine ⟨"tuple",_,PyProof.Rows.slot_tuple_getitem.lookup,ht.typeIs,?_⟩
 refine HT.getItem_tuple_cut ht hs pl pu (by rw [hlen]; exact hw) ?_ (by rw [hlen]; exact hz)
 rw [hlen]
 refine ⟨.ref s.heap.objs.size,_,I.laid (t':=s.toks) (o:=.tup (qe xs lo hi)) (fun b ob q=>Heap.get?_push_of_some _ q) (Nat.le_refl _) ?_,rfl,q _ (I.hok.fresh (Nat.le_refl _))⟩
 exact ⟨Nat.le_trans (tj xs lo hi) hz,_,(r.drop (HT.sIx xs.length 0 lo)).take (HT.sIx xs.length xs.length hi - HT.sIx xs.length 0 lo),IsTup.new _ _⟩
def Qt (K:JN):R2:=fun x y H Q=>∃ a b xs ys,x = .ref a /\ y = .ref b /\ J3 K H a xs /\ J3 K H b ys /\ xs ≠ [] /\ xs.length+ys.length<=sizeLine ∧
 (ys=[]->Q (.ref a) H) /\ (ys ≠ [] -> ∀ p,H p=none->Q (.ref p) (JQ H p (.tup (xs ++ ys))))
theorem zX.nil_iff {xs:List V} {us:List Value} (r:zX xs us):us=[] ↔ xs=[]:=by
 cases r with
 | nil=>simp
 | cons _ _=>simp
theorem Tz:OpR X (binaryOp .Add) (Qt X.K):=by
 intro pins s σ H x y v u Q I rx ry h
 obtain ⟨a,b,xs,ys,rfl,rfl,ha,hb,hx,hz,q1,q2⟩:=h
 cases rx
 cases ry
 obtain ⟨its,r1,p1,_⟩:=I.tuple ha
 obtain ⟨its2,r2,p2,_⟩:=I.tuple hb
 refine HT.cat_tup p1 p2 (fun z=>hx (r1.nil_iff.mp z)) (fun z=>⟨.ref a,H,I,rfl,q1 (r2.nil_iff.mp z)⟩) (fun z=>?_) (by rw [← r1.length,← r2.length]; exact hz)
 refine ⟨.ref s.heap.objs.size,_,I.laid (t':=s.toks) (o:=.tup (xs ++ ys)) (fun b ob q=>Heap.get?_push_of_some _ q) (Nat.le_refl _) ?_,rfl,q2 (fun w=>z (r2.nil_iff.mpr w)) _ (I.hok.fresh (Nat.le_refl _))⟩
 exact ⟨by rw [List.length_append]; exact hz,_,r1.append r2,IsTup.new _ _⟩
end
end L2
namespace L2
open PySem PySem.Spec PyProof.Rows
def ixN (n:Nat) (i:Int):Option Nat:=if 0<=i then (if i < n then some i.toNat else none) else if -(n:Int)<=i then some (i+n).toNat else none
def atI {α:Type} (xs:List α) (i:Int):Option α:=(ixN xs.length i).bind fun j=>xs[j]?
theorem ZC {n:Nat} {i:Int} {j:Nat} (h:ixN n i=some j):seqIndex? i n=some j /\ j < n /\ -(n:Int)<=i /\ i < n:=by
 unfold ixN at h
 by_cases h0:0<=i
 ·rw [if_pos h0] at h
  by_cases h1:i < n
  ·rw [if_pos h1] at h
   have e:i.toNat=j:=Option.some.inj h
   exact ⟨by rw [seqIndex_of h0 h1,e],by omega,by omega,h1⟩
  ·rw [if_neg h1] at h; cases h
 ·rw [if_neg h0] at h
  by_cases h1:-(n:Int)<=i
  ·rw [if_pos h1] at h
   have e:(i+n).toNat=j:=Option.some.inj h
   exact ⟨by rw [seqIndex_neg (by omega) h1,e],by omega,h1,by omega⟩
  ·rw [if_neg h1] at h; cases h
theorem Wi {α:Type} {xs:List α} {i:Int} {v:α} (h:atI xs i=some v):∃ j,seqIndex? i xs.length=some j /\ xs[j]? = some v /\ j < xs.length /\ -(xs.length:Int)<=i /\ i < xs.length:=by
 unfold atI at h
 cases e:ixN xs.length i with
 | none=>rw [e] at h; cases h
 | some j =>
  rw [e] at h
  obtain ⟨h1,h2,h3,h4⟩:=ZC e
  exact ⟨j,h1,h,h2,h3,h4⟩
theorem zP {α:Type} {xs:List α} {j:Nat} {v:α} (h:xs[j]? = some v):atI xs (j:Int)=some v:=by
 have hj:j < xs.length:=(List.getElem?_eq_some_iff.mp h).1
 have e:ixN xs.length (j:Int)=some j:=by
  unfold ixN
  rw [if_pos (by omega),if_pos (by omega)]; simp
 unfold atI; rw [e]; exact h
def TB (b:Expr):Prop:=∀ o i,subscripted b false o i=operate [o,i] (getItem o i)
def IxR (X:Cx) (r:R2):Prop :=
 ∀ (value slice:Expr) (pins:List (Addr × Obj)) (s:Shared) (σ:St) (H:Hp) (x y:V) (v u:Value) (Q:VK),Inv X pins σ H s->zY x v->zY y u->r x y H Q →
  subscripted slice false v u=operate [v,u] (getItem v u)->wpAny (model X.prog X.w) X.A (subscriptTail value slice v u) (EP X pins σ Q) X.xe s
def MtR (X:Cx) (id:String) (r:V->List V->Hp->VK->Prop):Prop :=
 ∀ (pins:List (Addr × Obj)) (s:Shared) (σ:St) (H:Hp) (x:V) (xs:List V) (v:Value) (us:List Value) (Q:VK),Inv X pins σ H s->zY x v->zX xs us->r x xs H Q →
  wpAny (model X.prog X.w) X.A (call (.builtin id) (v :: us)) (EP X pins σ Q) X.xe s
section
variable {X:Cx} {a b:Expr} {ta tb:TE} {pos:Pos}
theorem yC {r:R2} (hr:IxR X r) (ha:PE X a ta) (hb:PE X b tb) (hs:TB b):PE X (.Subscript a b pos) (tOp r ta tb):=by
 intro pins s σ H Q I h
 exact Subscript_ (Qp ha hb I h fun v u s2 x y H2 I2 rx ry q=>hr a b pins s2 σ H2 x y v u Q I2 rx ry q (hs _ _))
def Jz (K:JN):R2:=fun x y H Q=>∃ p xs i v,x = .ref p /\ y = .int i /\ J1 K H p xs /\ atI xs i=some v /\ Q v H
def Q7 (K:JN):R2:=fun x y H Q=>∃ p xs i v,x = .ref p /\ y = .int i /\ J3 K H p xs /\ atI xs i=some v /\ Q v H
theorem yp:IxR X (Jz X.K):=by
 intro value slice pins s σ H x y v u Q I rx ry h hs
 obtain ⟨p,xs,i,z,rfl,rfl,hq,he,q⟩:=h
 cases rx
 obtain ⟨t,rfl⟩:=ry
 obtain ⟨its,r,pl,hz⟩:=I.list hq
 obtain ⟨j,h1,h2,h3,h4,h5⟩:=Wi he
 obtain ⟨w,ew,rw'⟩:=r.get h2
 have hl:=r.length
 have hn:=sV
 have fin:EP X pins σ Q w s:=⟨z,H,I,rw',q⟩
 by_cases h0:0<=i
 ·have hj:i.toNat=j:=by
   rw [seqIndex_of h0 h5] at h1
   exact Option.some.inj h1
  exact item_listR pl.isList h0 (by omega) (by rw [hj]; simpa using ew) fin hs
 ·have hj:(i+(its.toArray.size:Int)).toNat=j:=by
   rw [seqIndex_neg (by omega) h4] at h1
   rw [List.size_toArray,← hl]
   exact Option.some.inj h1
  exact subscriptTail_builtinR (x:=w) pl.isList.typeIs slot_list_getitem.lookup
   (wpAny_getItem_list_neg (Q:=fun r s'=>r=w /\ EP X pins σ Q r s') pl.isList (by omega) (by rw [List.size_toArray] <;> omega) (by omega) (by rw [hj]; simpa using ew) ⟨rfl,fin⟩) hs
theorem xq:IxR X (Q7 X.K):=by
 intro value slice pins s σ H x y v u Q I rx ry h hs
 obtain ⟨p,xs,i,z,rfl,rfl,hq,he,q⟩:=h
 cases rx
 obtain ⟨t,rfl⟩:=ry
 obtain ⟨its,r,pl,hz⟩:=I.tuple hq
 obtain ⟨j,h1,h2,h3,h4,h5⟩:=Wi he
 obtain ⟨w,ew,rw'⟩:=r.get h2
 have hl:=r.length
 have hn:=sV
 have fin:EP X pins σ Q w s:=⟨z,H,I,rw',q⟩
 exact subscriptTail_builtinR (x:=w) pl.typeIs slot_tuple_getitem.lookup
  (getItem_tuple (j:=j) (Q:=fun r s'=>r=w /\ EP X pins σ Q r s') pl (by omega) (by omega) (by rw [List.size_toArray,← hl]; exact h1) (by simpa using ew) ⟨rfl,fin⟩) hs
theorem Y5 (its:List Value) (n j:Nat) (u:Value):Obj.mapSeq (·.setIfInBounds j u) { cls:=.type "list",data:=.seq its.toArray n } = { cls:=.type "list",data:=.seq (its.set j u).toArray n }:=by
 simp [Obj.mapSeq]
theorem Inv.lst {pins:List (Addr × Obj)} {σ:St} {H:Hp} {s:Shared} {p:Addr} {xs:List V} (I:Inv X pins σ H s) (h:H p=some (.lst xs)) :
  ∃ (its:List Value) (n:Nat),zX xs its /\ s.heap.get? p=some { cls:=.type "list",data:=.seq its.toArray n } /\ xs.length<=sizeLine:=by
 obtain ⟨z,its,n,r,e⟩:=I.hok p _ h
 exact ⟨its,n,r,e,z⟩
theorem Inv.lstUpd {pins:List (Addr × Obj)} {σ:St} {H:Hp} {s:Shared} {p:Addr} {xs ys:List V} {its its':List Value} {n n':Nat} {f:Obj->Obj} (I:Inv X pins σ H s) (h:H p=some (.lst xs))
  (ho:s.heap.get? p=some { cls:=.type "list",data:=.seq its.toArray n }) (hf:f { cls:=.type "list",data:=.seq its.toArray n } = { cls:=.type "list",data:=.seq its'.toArray n' }) (r:zX ys its') (hz:ys.length<=sizeLine) (t:Nat) :
  Inv X pins σ (JQ H p (.lst ys)) { s with heap:=s.heap.update p f,toks:=t }:=by
 have e:(s.heap.update p f).get? p=some { cls:=.type "list",data:=.seq its'.toArray n' }:=by
  rw [Heap.get?_update_self f ho (by rw [hf] <;> rfl),hf]
 refine I.write (x:=p) (e:=p) (by rw [h]; trivial) (.inl rfl) (fun b u hb q=>(Heap.get?_update_other _ _ (Ne.symm hb)).trans q) ⟨_,e⟩ ?_
 exact ⟨hz,its',n',r,e⟩
def Qu:V->V->V->Hp->(Hp->Prop)->Prop:=fun o i v H Q=>∃ p xs k j,o = .ref p /\ i = .int k /\ H p=some (.lst xs) /\ ixN xs.length k=some j /\ Q (JQ H p (.lst (xs.set j v)))
theorem uP:Q1 X Qu:=by
 intro pins s σ H o i v ov iv u Q I ro ri rv h
 obtain ⟨p,xs,k,j,rfl,rfl,hp,hj,q⟩:=h
 cases ro
 obtain ⟨t,rfl⟩:=ri
 obtain ⟨its,n,r,ho,hz⟩:=I.lst hp
 obtain ⟨h1,h2,h3,h4⟩:=ZC hj
 have hl:=r.length
 have hn:=sV
 have I':Inv X pins σ (JQ H p (.lst (xs.set j v))) { s with heap:=s.heap.update p (Obj.mapSeq (·.setIfInBounds j u)) } :=
  I.lstUpd hp ho (Y5 its n j u) (r.set rv j) (by rw [List.length_set]; exact hz) s.toks
 by_cases h0:0<=k
 ·have hk:k.toNat=j:=by
   rw [seqIndex_of h0 h4] at h1
   exact Option.some.inj h1
  exact PySem.W.ki_setAt ho h0 (by omega) (by rw [List.size_toArray,← hl]; exact h4) (by rw [hk]; exact ⟨_,I',q⟩)
 ·have hk:(k+(its.toArray.size:Int)).toNat=j:=by
   rw [seqIndex_neg (by omega) h3] at h1
   rw [List.size_toArray,← hl]
   exact Option.some.inj h1
  exact PySem.W.ki_setBack ho (by omega) (by rw [List.size_toArray,← hl]; exact h3) (by omega) (by rw [hk]; exact ⟨_,I',q⟩)
theorem jp (lo hi:Option Int) (n:Nat):(sliceBounds lo hi none n).1=((HT.sIx n 0 lo:Nat):Int) /\ (sliceBounds lo hi none n).2.1=((HT.sIx n n hi:Nat):Int) /\ (sliceBounds lo hi none n).2.2=1:=by
 refine ⟨?_,?_,rfl⟩
 ·cases lo with
  | none=>simp [sliceBounds,HT.sIx]
  | some i =>
   simp only [sliceBounds,HT.sIx,Option.getD_none,show (1:Int) > 0 by decide,if_true]
   by_cases h:i < 0
   ·simp only [h,if_true] <;> omega
   ·simp only [h,if_false] <;> omega
 ·cases hi with
  | none=>simp [sliceBounds,HT.sIx]
  | some i =>
   simp only [sliceBounds,HT.sIx,Option.getD_none,show (1:Int) > 0 by decide,if_true]
   by_cases h:i < 0
   ·simp only [h,if_true] <;> omega
   ·simp only [h,if_false] <;> omega
theorem qf (its:List Value) (lo hi:Option Int):slicePick its.toArray lo hi none=((its.drop (HT.sIx its.length 0 lo)).take (HT.sIx its.length its.length hi - HT.sIx its.length 0 lo)).toArray:=by
 obtain ⟨h1,h2,h3⟩:=jp lo hi its.toArray.size
 unfold slicePick
 rw [h1,h2,h3]
 simp only [sliceRange_one,pick_run,List.size_toArray] <;> rfl
def JA (K:JN):V->Option Int->Option Int->Hp->VK->Prop:=fun x lo hi H Q=>∃ a xs,x = .ref a /\ J1 K H a xs /\ ∀ p,H p=none->Q (.ref p) (JQ H p (.lst (qe xs lo hi)))
theorem TC:SlR X (JA X.K):=by
 intro pins s σ H x v vl vu lo hi sl Q I rx hs pl pu h
 obtain ⟨a,xs,rfl,hx,q⟩:=h
 cases rx
 obtain ⟨its,r,ht,hz⟩:=I.list hx
 have hlen:=r.length
 refine ⟨"list",_,slot_list_getitem.lookup,ht.isList.typeIs,?_⟩
 refine wpAny_getItem_list_slice ht.isList hs pl pu .none (by simp) ?_ (by rw [List.size_toArray] <;> omega)
 rw [qf,← hlen]
 refine ⟨.ref s.heap.objs.size,_,I.laid (t':=s.toks) (o:=.lst (qe xs lo hi)) (fun b ob q=>Heap.get?_push_of_some _ q) (Nat.le_refl _) ?_,rfl,q _ (I.hok.fresh (Nat.le_refl _))⟩
 exact ⟨Nat.le_trans (tj xs lo hi) hz,_,0,(r.drop (HT.sIx xs.length 0 lo)).take (HT.sIx xs.length xs.length hi - HT.sIx xs.length 0 lo),Heap.get?_push_size _ rfl⟩
def Y6:V->Bool
 | .non=>true
 | .bl _=>true
 | .int _=>true
 | .str _=>true
 | _=>false
def eqV:V->V->Bool
 | .non,.non=>true
 | .bl a,.bl b=>a == b
 | .bl a,.int b=>(if a then 1 else 0) == b
 | .int a,.bl b=>a == (if b then 1 else 0)
 | .int a,.int b=>a == b
 | .str a,.str b=>a == b
 | _,_=>false
theorem S9 {A:Around} {s:Shared} {y x:V} {u v:Value} (ry:zY y u) (rx:zY x v) (fy:Y6 y=true) (fx:Y6 x=true):SeqAt.EqAt A s u v (eqV y x):=by
 cases y with
 | non =>
  cases ry
  cases x with
  | non=>cases rx; exact SeqAt.EqAt.same _
  | bl b=>cases rx; exact SeqAt.EqAt.none_bool b
  | int b=>obtain ⟨t,rfl⟩:=rx; exact SeqAt.EqAt.none_int b t
  | str b=>obtain ⟨t,rfl⟩:=rx; exact SeqAt.EqAt.none_str b t
  | _=>exact absurd (show false=true from fx) Bool.false_ne_true
 | bl a =>
  cases ry
  cases x with
  | non=>cases rx; exact SeqAt.EqAt.bool_none a
  | bl b=>cases rx; exact SeqAt.EqAt.bool_bool a b
  | int b=>obtain ⟨t,rfl⟩:=rx; exact SeqAt.EqAt.bool_int a b t
  | str b=>obtain ⟨t,rfl⟩:=rx; exact SeqAt.EqAt.bool_str a b t
  | _=>exact absurd (show false=true from fx) Bool.false_ne_true
 | int a =>
  obtain ⟨t',rfl⟩:=ry
  cases x with
  | non=>cases rx; exact SeqAt.EqAt.int_none a t'
  | bl b=>cases rx; exact SeqAt.EqAt.int_bool a t' b
  | int b=>obtain ⟨t,rfl⟩:=rx; exact SeqAt.EqAt.int_int a t' b t
  | str b=>obtain ⟨t,rfl⟩:=rx; exact SeqAt.EqAt.int_str a t' b t
  | _=>exact absurd (show false=true from fx) Bool.false_ne_true
 | str a =>
  obtain ⟨t',rfl⟩:=ry
  cases x with
  | non=>cases rx; exact SeqAt.EqAt.str_none a t'
  | bl b=>cases rx; exact SeqAt.EqAt.str_bool a t' b
  | int b=>obtain ⟨t,rfl⟩:=rx; exact SeqAt.EqAt.str_int a t' b t
  | str b=>obtain ⟨t,rfl⟩:=rx; exact SeqAt.EqAt.str_str a t' b t
  | _=>exact absurd (show false=true from fx) Bool.false_ne_true
 | _=>exact absurd (show false=true from fy) Bool.false_ne_true
theorem zD:wp X (.builtin "len") (fun xs H Q=>∃ p ys,xs=[.ref p] /\ (J1 X.K H p ys \/ J3 X.K H p ys) /\ Q (.int ys.length) H):=by
 intro pins s σ H xs us Q I r h
 obtain ⟨p,ys,rfl,hq,q⟩:=h
 obtain ⟨u,rfl,rx⟩:=vX r
 cases rx
 have hn:=sV
 rcases hq with hq | hq
 ·obtain ⟨its,r',pl,hz⟩:=I.list hq
  have hlen:=r'.length
  exact Calls.call_len_list pl.isList (by simp only [List.size_toArray] <;> omega) ⟨.int ys.length,H,I.tok _,⟨s.toks+1,by rw [List.size_toArray,hlen]⟩,q⟩
 ·obtain ⟨its,r',pl,hz⟩:=I.tuple hq
  have hlen:=r'.length
  exact len_tuple pl (by simp only [List.size_toArray] <;> omega) ⟨.int ys.length,H,I.tok _,⟨s.toks+1,by rw [List.size_toArray,hlen]⟩,q⟩
theorem jq:wp X (.type "list") (fun xs H Q=>∃ p ys,xs=[.ref p] /\ (J1 X.K H p ys \/ J3 X.K H p ys) /\ ∀ l,H l=none->Q (.ref l) (JQ H l (.lst ys))):=by
 intro pins s σ H xs us Q I r h
 obtain ⟨p,ys,rfl,hq,q⟩:=h
 obtain ⟨u,rfl,rx⟩:=vX r
 cases rx
 have fin:∀ (its:List Value),zX ys its->ys.length<=sizeLine -> ∀ (h':Heap) (c':Nat),(∀ b o',s.heap.get? b=some o' -> h'.get? b=some o') →
   h'.get? s.heap.objs.size=some { cls:=.type "list",dict:=none,data:=.seq its.toArray c',slots:=#[] } -> EP X pins σ Q (.ref s.heap.objs.size) { s with heap:=h' }:=fun its r' hz h' c' kp e =>
  ⟨.ref s.heap.objs.size,_,I.laid (t':=s.toks) kp (Nat.le_refl _) (show yw X.prog X.w _ h' _ (.lst ys) from ⟨hz,its,c',r',e⟩),rfl,q _ (I.hok.fresh (Nat.le_refl _))⟩
 rcases hq with hq | hq
 ·obtain ⟨its,r',pl,hz⟩:=I.list hq
  have hlen:=r'.length
  obtain ⟨o,ho,hc,n,hd⟩:=pl.isList
  exact call_list_seq p (.inl rfl) ho hc hd (fun h' c' kp e=>fin its r' hz h' c' kp e) (by simp only [List.size_toArray] <;> omega)
 ·obtain ⟨its,r',pl,hz⟩:=I.tuple hq
  have hlen:=r'.length
  obtain ⟨o,ho,hc,n,hd⟩:=pl
  exact call_list_seq p (.inr rfl) ho hc hd (fun h' c' kp e=>fin its r' hz h' c' kp e) (by simp only [List.size_toArray] <;> omega)
theorem z8:wp X (.type "tuple") (fun xs H Q=>∃ p ys,xs=[.ref p] /\ ((J1 X.K H p ys /\ ∀ l,H l=none->Q (.ref l) (JQ H l (.tup ys))) \/ (J3 X.K H p ys /\ Q (.ref p) H))):=by
 intro pins s σ H xs us Q I r h
 obtain ⟨p,ys,rfl,h⟩:=h
 obtain ⟨u,rfl,rx⟩:=vX r
 cases rx
 rcases h with ⟨hq,q⟩ | ⟨hq,q⟩
 ·obtain ⟨its,r',pl,hz⟩:=I.list hq
  have hlen:=r'.length
  refine call_tuple_list pl.isList (fun h' kp=>?_) (by simp only [List.size_toArray] <;> omega)
  have I1:Inv X pins σ H { s with heap:=h' }:=I.kept (t':=s.toks) kp
  have I2:Inv X pins σ (JQ H h'.objs.size (.tup ys)) { s with heap:=h'.push { cls:=.type "tuple",data:=.seq its.toArray } } :=
   I1.laid (t':=s.toks) (fun b o e=>Heap.get?_push_of_some _ e) (Nat.le_refl _) (show yw X.prog X.w _ _ _ (.tup ys) from ⟨hz,its,r',IsTup.new _ _⟩)
  exact ⟨.ref h'.objs.size,_,I2,rfl,q _ (I1.hok.fresh (Nat.le_refl _))⟩
 ·obtain ⟨its,r',pl,hz⟩:=I.tuple hq
  exact call_tuple_same pl ⟨.ref p,H,I,rfl,q⟩
def tyV (K:JN) (T:String) (x:V) (H:Hp):Prop:=match x with
 | .str _=>T = "str"
 | .int _=>T = "int"
 | .ref p=>(T = "list" /\ ∃ xs,J1 K H p xs) \/ (T = "tuple" /\ ∃ o,K.lookup p=some o /\ o.cls = .type "tuple" /\ o.dict=none) ∨
   (T = "dict" /\ ((∃ kvs,H p=some (.dK kvs)) \/ ∃ kvs,H p=some (.dT kvs))) \/ (T = "set" /\ ∃ S n,H p=some (.set S n))
 | _=>False
theorem Ra {pins:List (Addr × Obj)} {σ:St} {H:Hp} {s:Shared} {T:String} {x:V} {v:Value} (I:Inv X pins σ H s) (r:zY x v) (ty:tyV X.K T x H) :
  s.TypeIs v T /\ ∀ a,v = .ref a -> ∃ ob,s.heap.get? a=some ob /\ ob.dict=none:=by
 cases x with
 | str z =>
  obtain ⟨t,rfl⟩:=r
  cases (show T = "str" from ty)
  exact ⟨typeIs_str s z t,fun _ e=>nomatch e⟩
 | int i =>
  obtain ⟨t,rfl⟩:=r
  cases (show T = "int" from ty)
  exact ⟨typeIs_int s i t,fun _ e=>nomatch e⟩
 | ref p =>
  cases r
  rcases ty with ⟨rfl,xs,hq⟩ | ⟨rfl,o,hk,hc,hd⟩ | ⟨rfl,hk⟩ | ⟨rfl,S,n,hk⟩
  ·obtain ⟨its,_,pl,_⟩:=I.list hq
   refine ⟨pl.isList.typeIs,fun a e=>?_⟩
   cases e
   obtain ⟨o,n,e,c,hd,_⟩:=pl
   exact ⟨o,e,hd⟩
  ·refine ⟨⟨o,I.kIn p o hk,hc⟩,fun a e=>?_⟩
   cases e
   exact ⟨o,I.kIn _ o hk,hd⟩
  ·have z:∃ o,s.heap.get? p=some o /\ o.ExactDict:=by
    rcases hk with ⟨kvs,hk⟩ | ⟨kvs,hk⟩
    ·obtain ⟨_,_,_,_,o,_,_,e,ex,_⟩:=I.hok p _ hk
     exact ⟨o,e,ex⟩
    ·obtain ⟨_,_,_,_,o,_,_,e,ex,_⟩:=I.hok p _ hk
     exact ⟨o,e,ex⟩
   obtain ⟨o,e,ex⟩:=z
   refine ⟨⟨o,e,ex.1⟩,fun a e2=>?_⟩
   cases e2
   exact ⟨o,e,ex.2.1⟩
  ·obtain ⟨o,_,_,_,e,ex,_⟩:=I.hok p _ hk
   refine ⟨⟨o,e,ex.1⟩,fun a e2=>?_⟩
   cases e2
   exact ⟨o,e,ex.2.1⟩
 | _=>exact False.elim ty
def tBM (K:JN) (T:String) (r:V->List V->Hp->VK->Prop) (to:TE) (t:TA):TE:=fun σ H Q=>to σ H fun x H1=>tyV K T x H1 /\ t σ H1 fun xs H2=>r x xs H2 Q
variable {o e:Expr} {es:List Expr} {to:TE} {t:TA} {name:Str} {apos cpos:Pos} {T id:String} {r:V->List V->Hp->VK->Prop}
theorem wK (pa:PlainAttrs T) (slot:Slot T name id) (hty:typeOf (.builtin id)=pure (.type "method_descriptor")) (hm:MtR X id r) (ho:PE X o to) (ha:PA X (e :: es) t)
  (hbase:attributeBase o name X.env (eval o X.env)=eval o X.env:=by rfl)
  (hfew:((backTo cpos (starEach (e :: es) X.env)).all (fun x=>!x.1) && (backToKw cpos (keywordEach [] X.env)).all (fun x=>x.1.isSome)
   && decide ((e :: es).length+([]:List Keyword).length+(if ([]:List Keyword).isEmpty then 0 else 1) < 30))=true:=by rfl)
  (hline:(apos.endLine == cpos.line)=true:=by rfl) (hs:starEach (e :: es) X.env=(false,eval e X.env) :: starEach es X.env:=by rfl) (hplain:(backTo cpos (starEach es X.env)).any (·.1)=false:=by rfl) :
  PE X (.Call (.Attribute o name apos) (e :: es) [] cpos) (tBM X.K T r to t):=by
 intro pins s σ H Q I h
 refine wpAny_Call_method_late hbase hfew hline rfl (JY (ho pins s σ H _ I h) fun v s1 ⟨x,H1,I1,r1,ty,q1⟩=>?_)
 obtain ⟨h1,h2⟩:=Ra I1 r1 ty
 refine ⟨T,id,pa,slot,hty,h1,h2,?_⟩
 have hA:=ha cpos pins s1 σ H1 _ I1 q1
 rw [hs] at hA ⊢
 refine Calls.callWith_builtin (by show (false || (backTo cpos (starEach es X.env)).any (·.1))=false; rw [hplain] <;> rfl) (Calls.evalArgs_plain ?_)
 exact JY hA fun us s2 ⟨vs,H2,I2,r2,q2⟩=>hm pins s2 σ H2 x vs v us Q I2 r1 r2 q2
end
end L2
namespace L2
open PySem PySem.Spec PyProof.Rows
def MtM (X:Cx) (id:String) (r:V->List V->Hp->VK->Prop):Prop :=
 ∀ (pins:List (Addr × Obj)) (s:Shared) (σ:St) (H:Hp) (x:V) (xs:List V) (v:Value) (us:List Value) (Q:VK),Inv X pins σ H s->zY x v->zX xs us->r x xs H Q →
  wpAny (model X.prog X.w) X.A (call (.builtin id) (v :: us)) (EP X pins σ Q) X.xe s
theorem zX.one:∀ {x:V} {us:List Value},zX [x] us -> ∃ u,us=[u] /\ zY x u
 | _,_,.cons r .nil=>⟨_,rfl,r⟩
theorem zX.eraseIdx:∀ {xs:List V} {us:List Value} (i:Nat),zX xs us->zX (xs.eraseIdx i) (us.eraseIdx i)
 | _,_,_,.nil=>.nil
 | _,_,0,.cons _ t=>t
 | _,_,i+1,.cons r t=>.cons r (zX.eraseIdx i t)
theorem zX.rep {xs:List V} {us:List Value} (h:zX xs us):∀ k:Nat,zX (List.replicate k xs).flatten (List.replicate k us).flatten
 | 0=>.nil
 | k+1=>by
  rw [List.replicate_succ,List.replicate_succ,List.flatten_cons,List.flatten_cons]
  exact zX.append h (zX.rep h k)
theorem jr {α:Type}:∀ (l:List α) (i:Nat),(l.eraseIdx i).length<=l.length
 | [],_=>Nat.le_refl _
 | _ :: _,0=>Nat.le_succ _
 | _ :: r,i+1=>Nat.succ_le_succ (jr r i)
theorem ju (its:List Value):∀ (k:Nat) (acc:List Value),
  List.foldl (fun x1 x2=>x1 ++ x2) acc.toArray (List.replicate k its.toArray)=(acc ++ (List.replicate k its).flatten).toArray
 | 0,acc=>by simp
 | k+1,acc=>by
  have e:acc.toArray ++ its.toArray=(acc ++ its).toArray:=by simp
  have e2:(acc ++ its) ++ (List.replicate k its).flatten=acc ++ (List.replicate (k+1) its).flatten:=by
   rw [List.replicate_succ,List.flatten_cons,List.append_assoc]
  rw [← e2,← ju its k (acc ++ its),← e,List.replicate_succ,List.foldl_cons]
section
variable {X:Cx} {pins:List (Addr × Obj)} {σ:St} {H:Hp} {s:Shared} {l b:Addr} {xs ys zs:List V}
theorem Inv.lset {its its':List Value} {n:Nat} {f:Array Value->Array Value} {t':Nat} (I:Inv X pins σ H s) (hH:H l=some (.lst xs))
  (e:s.heap.get? l=some { cls:=.type "list",data:=.seq its.toArray n }) (hf:f its.toArray=its'.toArray) (hv:zX ys its') (hz:ys.length<=sizeLine) :
  Inv X pins σ (JQ H l (.lst ys)) { s with heap:=s.heap.update l (Obj.mapSeq f),toks:=t' }:=by
 have q:=PySem.IsL.update e f
 rw [hf] at q
 refine I.write (x:=l) (e:=l) (by rw [hH]; exact trivial) (.inl rfl) (fun b' u hb hu=>(Heap.get?_update_other s.heap (Obj.mapSeq f) (Ne.symm hb)).trans hu) ⟨_,q⟩ ?_
 exact ⟨hz,its',_,hv,q⟩
theorem Inv.lnew {its:List Value} {t':Nat} (I:Inv X pins σ H s) (hv:zX ys its) (hz:ys.length<=sizeLine) :
  Inv X pins σ (JQ H s.heap.objs.size (.lst ys)) { s with heap:=s.heap.push { cls:=.type "list",data:=.seq its.toArray },toks:=t' } :=
 I.laid (fun _ _ q=>Heap.get?_push_of_some _ q) (Nat.le_refl _) ⟨hz,its,0,hv,Heap.get?_push_size _ rfl⟩
theorem Inv.fresh (I:Inv X pins σ H s):H s.heap.objs.size=none:=I.hok.fresh (Nat.le_refl _)
theorem Inv.lstM (I:Inv X pins σ H s) (hH:H l=some (.lst xs)):xs.length<=sizeLine /\ ∃ (its:List Value) (n:Nat),zX xs its /\ xs.length=its.length /\ s.heap.get? l=some { cls:=.type "list",data:=.seq its.toArray n }:=by
 obtain ⟨z,its,n,r,e⟩:=I.hok l _ hH
 exact ⟨z,its,n,r,r.length,e⟩
theorem Ym {n:Nat} (h:n<=sizeLine):Builtin.List.listTooLong n=false:=by
 unfold Builtin.List.listTooLong
 exact decide_eq_false (by omega)
end
section
variable {X:Cx}
def TF:V->List V->Hp->VK->Prop:=fun x vs H Q=>∃ l xs y,x = .ref l /\ vs=[y] /\ H l=some (.lst xs) /\ xs.length < sizeLine /\ Q .non (JQ H l (.lst (xs ++ [y])))
theorem xh:MtM X "list.append" TF:=by
 intro pins s σ H x vs v us Q I rx rv h
 obtain ⟨l,xs,y,rfl,rfl,hH,hz,q⟩:=h
 cases rx
 obtain ⟨u,rfl,ru⟩:=rv.one
 obtain ⟨z,its,n,r,hl,e⟩:=I.lstM hH
 refine call_meets F.slot_list_append ⟨_,e,rfl⟩ F.entry_list_append (F.args_list_append_2 _ _) (PySem.list_append l its.toArray n u (by rw [List.size_toArray]; omega)) ⟨e,?_⟩
 refine ⟨.non,_,I.lset (its':=its ++ [u]) hH e (by simp) (r.append (.cons ru .nil)) ?_,rfl,q⟩
 rw [List.length_append,List.length_singleton]
 omega
def TH:V->List V->Hp->VK->Prop:=fun x vs H Q=>∃ l b xs zs,x = .ref l /\ vs=[.ref b] /\ H l=some (.lst xs) /\ H b=some (.lst zs) /\ xs.length+zs.length<=sizeLine /\ Q .non (JQ H l (.lst (xs ++ zs)))
theorem tm:MtM X "list.extend" TH:=by
 intro pins s σ H x vs v us Q I rx rv h
 obtain ⟨l,b,xs,zs,rfl,rfl,hH,hB,hz,q⟩:=h
 cases rx
 obtain ⟨u,rfl,ru⟩:=rv.one
 cases ru
 obtain ⟨z,its,n,r,hl,e⟩:=I.lstM hH
 obtain ⟨z2,its2,n2,r2,hl2,e2⟩:=I.lstM hB
 have hsz:its.toArray.size+its2.toArray.size<=sizeLine:=by rw [List.size_toArray,List.size_toArray]; omega
 have hlong:¬ (!its.toArray.isEmpty && Builtin.List.listTooLong (its.toArray.size+its2.toArray.size))=true:=by
  rw [Ym hsz,Bool.and_false]
  exact Bool.false_ne_true
 refine call_meets F.slot_list_extend ⟨_,e,rfl⟩ F.entry_list_extend (F.args_list_extend_2 _ _)
  (AutoSeq1.list_extend_list_list_0 l its.toArray n b its2.toArray n2 hlong (by rw [List.size_toArray]; omega) (by omega)) ⟨e,e2,?_⟩
 refine ⟨.non,_,I.lset (its':=its ++ its2) hH e (by simp) (r.append r2) ?_,rfl,q⟩
 rw [List.length_append]
 omega
def Rb:V->List V->Hp->VK->Prop:=fun x vs H Q=>∃ l xs i k y,x = .ref l /\ vs=[.int i] /\ H l=some (.lst xs) /\ -(2 ^ 63)<=i /\ i < 2 ^ 63 /\ seqIndex? i xs.length=some k /\ xs[k]? = some y /\ Q y (JQ H l (.lst (xs.eraseIdx k)))
theorem qg:MtM X "list.pop" Rb:=by
 intro pins s σ H x vs v us Q I rx rv h
 obtain ⟨l,xs,i,k,y,rfl,rfl,hH,h1,h2,hk,hy,q⟩:=h
 cases rx
 obtain ⟨u,rfl,ru⟩:=rv.one
 obtain ⟨t,rfl⟩:=ru
 obtain ⟨z,its,n,r,hl,e⟩:=I.lstM hH
 obtain ⟨w,hw,rw'⟩:=r.get hy
 refine call_meets F.slot_list_pop ⟨_,e,rfl⟩ F.entry_list_pop (F.args_list_pop_2 _ _)
  (MeetsSeq.list_pop_at l its.toArray n i t k w (fitsIndex_both h1 h2) (by rw [List.size_toArray,← hl]; exact hk) (by rw [← Array.getElem?_toList]; exact hw) (by rw [List.size_toArray]; omega)) ⟨e,?_⟩
 refine ⟨y,_,I.lset (its':=its.eraseIdx k) hH e ?_ (r.eraseIdx k) ?_,rw',q⟩
 ·show its.toArray.eraseIdxIfInBounds k=(its.eraseIdx k).toArray
  rw [List.eraseIdxIfInBounds_toArray]
 ·have:=jr xs k
  omega
def JB:R2:=fun x y H Q=>∃ l k xs,x = .ref l /\ y = .int k /\ H l=some (.lst xs) /\ -(2 ^ 63)<=k /\ k < 2 ^ 63 /\ xs.length * k.toNat<=sizeLine ∧
 ∀ p,H p=none->Q (.ref p) (JQ H p (.lst (List.replicate k.toNat xs).flatten))
theorem TJ {α:Type} (xs:List α) (k:Nat):(List.replicate k xs).flatten.length=k * xs.length:=by
 induction k with
 | zero=>simp
 | succ k ih=>rw [List.replicate_succ,List.flatten_cons,List.length_append,ih,Nat.succ_mul,Nat.add_comm]
theorem Rc:OpR X (binaryOp .Mult) JB:=by
 intro pins s σ H x y v u Q I rx ry h
 obtain ⟨l,k,xs,rfl,rfl,hH,h1,h2,hz,q⟩:=h
 cases rx
 obtain ⟨t,rfl⟩:=ry
 obtain ⟨z,its,n,r,hl,e⟩:=I.lstM hH
 have hlen:its.toArray.size * k.toNat<=sizeLine:=by rw [List.size_toArray,← hl]; exact hz
 have hcap:¬ its.toArray.size * k.toNat > (2 ^ 63 - 1) / 8:=by
  have:(sizeLine:Nat)<=(2 ^ 63 - 1) / 8:=by decide
  omega
 have hfit:¬ (!Builtin.List.listFitsIndex k)=true:=by
  rw [fitsIndex_both h1 h2]
  exact Bool.false_ne_true
 have hlong:¬ Builtin.List.listTooLong (its.toArray.size * k.toNat)=true:=by
  rw [Ym hlen]
  exact Bool.false_ne_true
 have hnew:List.foldl (fun x1 x2=>x1 ++ x2) #[] (List.replicate (if its.toArray.isEmpty=true then 0 else k.toNat) its.toArray)=(List.replicate k.toNat its).flatten.toArray:=by
  have f0:∀ m:Nat,List.foldl (fun x1 x2=>x1 ++ x2) #[] (List.replicate m its.toArray)=(List.replicate m its).flatten.toArray:=fun m=>by
   have:=ju its m []
   rw [List.nil_append] at this
   exact this
  rw [f0]
  cases its with
  | nil=>simp
  | cons a r'=>rw [if_neg (by simp)]
 refine wpAny_binaryOp_repeat_ref (T:="list") (U:="int") (by decide) ⟨_,e,rfl⟩ (fun s'=>typeIs_int s' k t) noFill_list_mul F.fills_int_mul F.slot_int_rmul repeat_list F.slot_int_index.lookup
  (call_meets F.slot_int_rmul (typeIs_int s k t) F.entry_int_rmul (F.args_int_rmul_2 _ _) (int___rmul___int_list k t l its.toArray n)
   ⟨e,rfl,⟨_,e,rfl⟩,call_meets F.slot_list_mul ⟨_,e,rfl⟩ F.entry_list_mul (F.args_list_mul_2 _ _) (AutoListH.list___mul___list_int_3 l its.toArray n k t hfit hcap hlong) ⟨e,?_⟩⟩)
 rw [hnew]
 exact ⟨.ref _,_,I.lnew (t':=s.toks) (r.rep k.toNat) (by rw [TJ,Nat.mul_comm]; exact hz),rfl,q _ I.fresh⟩
end
end L2
namespace Att
open PySem PySem.W PySem.Calls PyProof.Rows
theorem tq {P:Params} {h:Heap}:∀ (ns:List Int) (vs:List Value),WellAll P h vs (ns.map WData.int)->IntsAre vs ns:=by
 intro ns
 induction ns with
 | nil =>
  intro vs w
  rw [List.map_nil] at w
  cases w
  exact .nil
 | cons n ns ih =>
  intro vs w
  rw [List.map_cons] at w
  cases w with
  | cons a b =>
   cases a
   exact .cons _ _ (ih _ b)
theorem Wj {l:OpenLaw} {n:Nat} (hn:l.most=some n) {P:Params} {h:Heap} {args:List WData} {vals:List Value}
  (hpre:l.row.toRowW.claim.pre args=true) (hwl:WellAll P h vals args) :
  ∃ a vs ns,vals=[Value.ref a] /\ args=[WData.list (ns.map WData.int)] /\ h.get? a=some { cls:=.type "list",data:=.seq vs.toArray } /\ IntsAre vs ns /\ ns.length<=n:=by
 have hsh:WShape.hasAll [] args [.list .int]=true:=(pre_splitW hpre).1
 have hc:l.pre.holds [] { args:=args } = true:=(pre_splitW hpre).2
 obtain ⟨d,r,rfl,h1,h2⟩:=hasAllW_cons hsh
 obtain rfl:=hasAllW_nil h2
 obtain ⟨xs,rfl,h3⟩:=hasW_list h1
 obtain ⟨ns,rfl⟩:=items_int h3
 have hlen:ns.length<=n:=by
  unfold OpenLaw.pre at hc
  have h4:(WTm.not (.lt (.lit (.int (n:Int))) (.len (.arg 0)))).holds [] { args:=[.list (ns.map .int)] } = true:=by
   have h4:=(holds_andW hc).1
   rw [hn] at h4
   exact h4
  have h5:=condW_of h4 (w_not (w_lt w_lit (w_len_list (w_arg rfl))))
  rw [List.length_map] at h5
  refine Nat.le_of_not_lt fun q=>?_
  have q':(n:Int) < ((ns.length:Nat):Int):=by omega
  first
   | (rw [decide_eq_true q'] at h5; exact absurd h5 (by decide))
   | (simp at h5; omega)
 cases hwl with
 | cons w1 w2 =>
  cases w2
  cases w1 with
  | list ho hall=>exact ⟨_,_,ns,rfl,rfl,ho,tq ns _ hall,hlen⟩
theorem Wk (l:OpenLaw) (args:List WData):l.row.toRowW.claim.post args (.bool true) args=true :=
 postW_of (r:=l.row.toRowW) (X:=(true == true))
  (show WShape.has [] (.bool true) .bool=true by first | rfl | decide | simp [WShape.has,WShape.arms,WShape.armsAll])
  (show (WTm.eq .res (.lit (.bool true))).value [] { args:=args,res:=some (.bool true),after:=args } = some (.bool (true == true)) from w_eq_bool (w_res rfl) w_lit) rfl
theorem attach_call {l:OpenLaw} {n:Nat} {q:Program} {loose:List Str} {XP:(Str->Option Value)->Heap->Prop} {YP:World->Heap->Prop} {d:DefRec}
  (hn:l.most=some n) (hdf:d.params.defaults=[])
  (call:∀ (w:World) (s₀ s₁:Shared) (mg mb:Str->Option Value) (fa:Addr) (o:Obj) (pm cd doc:Value) (a:Addr) (vs:List Value) (ns:List Int),
   Ground q loose [] XP w s₀ mg mb s₁.heap->YP w s₁.heap →
   s₁.heap.get? fa=some o->o.data = .func (docDef d.name d.params d.body d.scope pm cd doc)->s₁.heap.CodeRec cd d.name->mg d.name=some (.ref fa) →
   s₁.heap.get? a=some { cls:=.type "list",data:=.seq vs.toArray } -> IntsAre vs ns->ns.length<=n->s₁.gens = #[] →
   codeAny (model l.prog w) callerA (.call (.ref fa) ⟨[.ref a],[]⟩) (fun r s'=>r = .ok (.ret (.bool true)) /\ OldK s₁.heap s'.heap /\ s'.os=s₁.os /\ AllBare s'.gens) s₁) :
  WalkO q loose XP YP l.row.toRowW d [] (fun f vs=>PySem.call f vs):=by
 intro w s₀ s₁ mg mb G Y fa o pm cd doc dV kV ho hd hcd hD hmg hg args vals as hpre hlay hrd hwl hlo
 obtain rfl:dV = .none:=Dflts.none hD hdf
 obtain rfl:kV = .none:=Dflts.noKw hD
 obtain ⟨a,vs,ns,rfl,rfl,hobj,hints,hlen⟩:=Wj hn hpre hwl
 refine enter_call (codeAny_mono (call w s₀ s₁ mg mb fa o pm cd doc a vs ns G Y ho (fd_plain hd) hcd hmg hobj hints hlen hg) fun r s' hq=>?_)
 obtain ⟨rfl,h2,h3,h4⟩:=hq
 exact ⟨.inl ⟨.bool true,.bool true,[],rfl,fun _=>rfl,.bool true,Wk l _,fun _=>⟨List.Pairwise.nil,fun _ hm=>(nomatch hm)⟩⟩,h2,h3,h4⟩
end Att
namespace L2
open PySem PySem.Spec PyProof.Rows
theorem vm:∀ {vs:List Value} {ns:List Int},IntsAre vs ns->zX (ns.map V.int) vs
 | _,_,.nil=>.nil
 | _,_,.cons n t h=>.cons ⟨t,rfl⟩ (vm h)
def R7 (H:Hp):Prop:=∀ b,H b=none \/ ∃ o xs,H b=some (.frz o (.lst xs))
theorem V2 {P:Program} {w:World} {K:JN} {mg mb:Str->Option Value} {CX:CXT} {k:Nat} {fa a:Addr} {fd:FuncData} {x:Str} {sp:Sp} {s₁:Shared} {vs:List Value} {ns:List Int}
  (KX:K.In s₁.heap) (hns:s₁.heap.Ns mainGlobals mg) (hb:s₁.heap.Ns builtinsNs mb) (hbb:∀ x:Str,x ≠ "__name__" -> mb x=bootBuiltins x) (hlim:s₁.heap.NoLimit) (hg:s₁.gens = #[])
  (ha:s₁.heap.get? a=some { cls:=.type "list",data:=.seq vs.toArray }) (hi:IntsAre vs ns) (hl:ns.length<=sizeLine) (hr:Room k callerA)
  (F:∀ base:Heap,K.In base->base.Ns mainGlobals mg->FnOk P w K mg base CX k fa fd [x] sp) (hbind:∀ (s:Shared) (u:Value),BindsTo s fd ⟨[u],[]⟩ [(x,u)])
  (hsp:∀ H:Hp,R7 H->J1 K H a (ns.map V.int)->sp [.ref a] H (fun v _=>v = .bl true) fun _ _ _=>False)
  (hCX:∀ H e s',CX [] H s₁ (fun _ _ _=>False) e s' -> False) :
  codeAny (model P w) callerA (.call (.ref fa) ⟨[.ref a],[]⟩) (fun r s'=>r = .ok (.ret (.bool true)) /\ OldK s₁.heap s'.heap /\ s'.os=s₁.os /\ AllBare s'.gens) s₁:=by
 have rv:=vm hi
 have lenV:=hi.length
 -- from an abstract heap in which nothing but the script may be tracked
 have core:∀ H:Hp,R7 H->J1 K H a (ns.map V.int)->JR P w H s₁.heap->(∀ b,H b ≠ none->b=a)->(H a ≠ none->K.lookup a=none) →
   codeAny (model P w) callerA (.call (.ref fa) ⟨[.ref a],[]⟩) (fun r s'=>r = .ok (.ret (.bool true)) /\ OldK s₁.heap s'.heap /\ s'.os=s₁.os /\ AllBare s'.gens) s₁:=by
  intro H hO hS hok hA hK
  have base_of:∀ {b:Addr} {o:Obj},s₁.heap.get? b=some o->H b=none->(VR s₁.heap H).get? b=some o:=fun e n=>VS e n
  have noA:∀ {b:Addr} {o:Obj} {es:Array DictEntry} {ep:Nat},s₁.heap.get? b=some o->o.data = .dict es ep->H b=none:=fun {b o es ep} e d=>by
   cases q:H b with
   | none=>rfl
   | some u =>
    have e':b=a:=hA b (by rw [q]; simp)
    subst e'
    rw [ha] at e; cases e
    have d':Data.seq vs.toArray _=Data.dict es ep:=d
    cases d'
  have nsK:∀ {b:Addr} {m:Str->Option Value},s₁.heap.Ns b m->(VR s₁.heap H).Ns b m:=fun {b m} ⟨o,es,ep,e,d,r⟩=>⟨o,es,ep,base_of e (noA e d),d,r⟩
  have hKb:K.In (VR s₁.heap H):=fun b o e=>base_of (KX b o e) (by
   cases q:H b with
   | none=>rfl
   | some u =>
    have e':b=a:=hA b (by rw [q]; simp)
    subst e'
    rw [hK (by rw [q]; simp)] at e; cases e)
  have hM:Mod K mg (VR s₁.heap H):=⟨hKb,nsK hns,⟨mb,nsK hb,hbb⟩,let ⟨mc,h1,h2⟩:=hlim; ⟨mc,nsK h1,h2⟩⟩
  have e0:Env0 P w K mg (VR s₁.heap H) callerA [] s₁ H:=⟨rfl,hM,fun b o e=>Tk e,Nat.le_of_eq (XX _ _),trivial,fun b hb=>absurd (show b ∈ ([]:List Addr) from hb) (by simp),hok,.of_eq hg⟩
  refine codeAny_mono ((F _ hKb (nsK hns)).run callerA [] s₁ H ⟨[.ref a],[]⟩ [.ref a] [.ref a] _ _ hr e0 (hbind s₁ (.ref a)) (.cons rfl .nil) (hsp H hO hS)) fun r s' h=>?_
  cases r with
  | error e=>exact (hCX H e s' h).elim
  | ok fl =>
   cases fl with
   | next=>exact False.elim h
   | brk=>exact False.elim h
   | cont=>exact False.elim h
   | ret u =>
    obtain ⟨v,H',os,bare,un,hok',r',q⟩:=h
    have q':v = .bl true:=q
    subst q'
    obtain rfl:u=Value.bool true:=r'
    refine ⟨rfl,OldK.of_keep fun b o e=>?_,os,bare⟩
    cases q:H b with
    | none=>exact un.keep b o e q (by intro z; exact absurd (show b ∈ ([]:List Addr) from z) (by simp)) (by simp)
    | some u =>
     rcases hO b with z | ⟨ob,xs,z⟩
     ·rw [q] at z; cases z
     ·have z2:=un.frzs b ob _ z
      obtain ⟨e1,_⟩:=hok b _ z
      obtain ⟨e2,_⟩:=hok' b _ z2
      rw [e] at e1; cases e1
      exact e2
 cases hk:K.lookup a with
 | some o =>
  -- the script is one of the module's own objects
  have e:=KX a o hk
  rw [ha] at e
  cases e
  refine core (fun _=>none) (fun _=>.inl rfl) (.inr ⟨_,vs.toArray,_,hk,rfl,rfl,rfl,by rw [List.size_toArray,lenV]; exact hl,by simpa using rv⟩) (fun b u z=>by have z':(none:Option HO)=some u:=z; cases z') (fun b z=>absurd rfl z) fun z=>absurd rfl z
 | none =>
  refine core (fun b=>if b=a then some (.frz { cls:=.type "list",data:=.seq vs.toArray } (.lst (ns.map V.int))) else none) (fun b=>?_) (.inl (.inr ⟨{ cls:=.type "list",data:=.seq vs.toArray },if_pos rfl⟩)) (fun b u z=>?_) (fun b z=>?_) fun _=>hk
  ·by_cases hb:b=a
   ·exact .inr ⟨_,_,if_pos hb⟩
   ·exact .inl (if_neg hb)
  ·by_cases hb:b=a
   ·have z':=(if_pos hb).symm.trans z
    cases z'
    subst hb
    exact ⟨ha,by rw [List.length_map]; exact hl,vs,_,rv,ha⟩
   ·have z':=(if_neg hb).symm.trans z
    cases z'
  ·by_cases hb:b=a
   ·exact hb
   ·exact absurd (if_neg hb) z
end L2
namespace L2
open PySem PySem.Spec PyProof.Rows
theorem walk_of {l:PySem.W.OpenLaw} {n k:Nat} {q:Program} {loose:List Str} {XP:(Str->Option Value)->Heap->Prop} {YP:World->Heap->Prop} {d:DefRec} {K:Params->JN} {CX:World->CXT} {sp:World->Sp} {x:Str}
  (hn:l.most=some n) (hn2:n<=sizeLine) (hdf:d.params.defaults=[]) (hr:Room k callerA)
  (hY:∀ (w:World) (h:Heap),YP w h->(K w.params).In h)
  (F:∀ (w:World) (mg:Str->Option Value) (fa:Addr) (h:Heap),(K w.params).In h->h.Ns mainGlobals mg->mg d.name=some (.ref fa) →
   ∃ fd:FuncData,(∀ (s:Shared) (u:Value),BindsTo s fd ⟨[u],[]⟩ [(x,u)]) ∧
    ∀ base:Heap,(K w.params).In base->base.Ns mainGlobals mg->FnOk l.prog w (K w.params) mg base (CX w) k fa fd [x] (sp w))
  (hsp:∀ (w:World) (H:Hp) (a:Addr) (ns:List Int),ns.length<=n->R7 H->J1 (K w.params) H a (ns.map V.int)->sp w [.ref a] H (fun v _=>v = .bl true) fun _ _ _=>False)
  (hCX:∀ (w:World) (H:Hp) (s:Shared) (e:Value) (s':Shared),CX w [] H s (fun _ _ _=>False) e s' -> False) :
  PySem.W.WalkO q loose XP YP l.row.toRowW d [] (fun f vs=>PySem.call f vs):=by
 refine Att.attach_call hn hdf fun w s₀ s₁ mg mb fa o pm cd doc a vs ns G Y ho hd hcd hmg hobj hints hlen hg=>?_
 have KX:=hY w _ Y
 obtain ⟨fd,hb,hF⟩:=F w mg fa _ KX G.T.g hmg
 exact V2 KX G.T.g G.T.b G.T.builtins G.T.nolimit hg hobj hints (Nat.le_trans hlen hn2) hr hF hb (fun H hO hS=>hsp w H a ns hlen hO hS) fun H e s'=>hCX w H s₁ e s'
end L2
namespace L2
open PySem PySem.Spec PyProof.Rows
def zj (s:Stmt) (j:Nat):Stmt:=match s with
 | .ClassDef _ _ _ body _ _ _ _ _ _ _=>body.getD j (.Pass ⟨0,0,0,0⟩)
 | _=>.Pass ⟨0,0,0,0⟩
def zN (s:Stmt):Arguments:=match s with
 | .FunctionDef _ a _ _ _ _ _ _ _ _=>a
 | _=>{ posonlyargs:=[],args:=[],vararg:=none,kwonlyargs:=[],kw_defaults:=[],kwarg:=none,defaults:=[] }
def zI (s:Stmt):List Stmt:=match s with
 | .FunctionDef _ _ b _ _ _ _ _ _ _=>b
 | _=>[]
def zf (s:Stmt):Scope:=match s with
 | .FunctionDef _ _ _ _ _ _ sc _ _ _=>sc
 | _=>{ kind:=.function,names:=[],isGenerator:=false,isCoroutine:=false }
abbrev CX0:CXT:=fun _ _ _ _ _ _=>False
abbrev E0:XK:=fun _ _ _=>False
theorem Wl {X:Cx}:tf CX0 X E0:=fun _ _ _ _ _ _ _ h=>h.elim
structure Fun (K:JN) (x qual:Str) (st:Stmt) (f:Addr) (fd:FuncData):Prop where
 ex:∃ (oc:Value) (od:Option Addr) (kV doc pm:Value) (an:Option Addr) (cdv ct:Value) (osl:Array (Option Value)),
  fd=PySem.W.fnOf x qual (zN st) (zI st) (zf st) .none kV doc pm an cdv ct /\ K.lookup f=some ⟨oc,od,.func fd,osl⟩ /\ PySem.W.codeIn K cdv qual=true
 kp:PySem.W.keepIn K (.ref f)=true
section
variable {P:Program} {w:World} {K:JN} {mg:Str->Option Value} {base:Heap}
theorem Fun.ok {x qual:Str} {st:Stmt} {f:Addr} {fd:FuncData} {N ps:List Str} {k:Nat} {sp:Sp} (F:Fun K x qual st f fd) (S:FnScope N ps (zf st)) (len:∀ vs H Q E,sp vs H Q E->vs.length=ps.length)
  (hbody:∀ (cdv:Value) (A:Around) (outer:List Env) (s:Shared) (H:Hp) (vs:List V) (Q:VK) (E:XK),Room k (A.deeper (envOfC qual (zf st) s.heap.objs.size f cdv))->sp vs H Q E →
   ∃ t,JX (Tx CX0 P w K mg base N qual (zf st) f cdv A outer s H E).nox (zI st) t /\ t { nx:=fun _ H'=>Q .non H',rt:=Q } (qd N vs) H):FnOk P w K mg base CX0 (k+1) f fd ps sp:=by
 obtain ⟨oc,od,kV,doc,pm,an,cdv,ct,osl,rfl,lk,hcd⟩:=F.ex
 refine SZ lk hcd S len fun A outer s H vs Q E hr hsp=>?_
 obtain ⟨t,h,q⟩:=hbody cdv A outer s H vs Q E hr hsp
 exact ⟨t,h.nox,q⟩
theorem Fun.binds {x qual:Str} {st:Stmt} {f:Addr} {fd:FuncData} {ps:List Str} (F:Fun K x qual st f fd)
  (h:∀ (kV doc pm:Value) (an:Option Addr) (cdv ct:Value) (us:List Value),us.length=ps.length->bindArgs (PySem.W.fnOf x qual (zN st) (zI st) (zf st) .none kV doc pm an cdv ct) ⟨us,[]⟩=pure (ps.zip us)):wt K fd ps []:=by
 obtain ⟨oc,od,kV,doc,pm,an,cdv,ct,osl,rfl,lk,hcd⟩:=F.ex
 exact .all (h kV doc pm an cdv ct)
theorem fun_mk {x qual:Str} {st:Stmt} {f:Addr} {oc:Value} {od an:Option Addr} {osl:Array (Option Value)} {kV doc pm cdv ct:Value} (l:K.lookup f=some ⟨oc,od,.func (PySem.W.fnOf x qual (zN st) (zI st) (zf st) .none kV doc pm an cdv ct),osl⟩)
  (c:PySem.W.codeIn K cdv qual=true) (k:PySem.W.keepIn K (.ref f)=true):Fun K x qual st f (PySem.W.fnOf x qual (zN st) (zI st) (zf st) .none kV doc pm an cdv ct):=⟨⟨oc,od,kV,doc,pm,an,cdv,ct,osl,rfl,l,c⟩,k⟩
end
theorem zr {n:Nat} (h:n<=1000):n < sizeLine:=Nat.lt_of_le_of_lt h (by decide)
section
variable {X:Cx}
theorem pv (i:Nat) {x:Str} {pos:Pos} (hN:X.N[i]? = some x:=by rfl) (hv:JV X.env.scope x:=by first | exact Or.inl rfl | exact Or.inr (Or.inl rfl) | exact Or.inr (Or.inr rfl)) (hd:(x == ("__debug__":Str))=false:=by decide)
  (hcd:(x == ("__classdict__":Str))=false:=by decide):PE X (.Name x pos) (Q0 i):=SM hN hv hd hcd
end
theorem xw {A B:Prop} (h:B):if false=true then A else B:=by
 rw [if_neg Bool.false_ne_true]
 exact h
theorem vn {A B:Prop} (h:A):if true=true then A else B:=by
 rw [if_pos rfl]
 exact h
theorem VN {c A B:Prop} [Decidable c] (h1:c->A) (h2:¬ c->B):if c then A else B:=by
 by_cases h:c
 ·rw [if_pos h]
  exact h1 h
 ·rw [if_neg h]
  exact h2 h
end L2
namespace L3
open PySem PySem.Spec PyProof.Rows L2
theorem wY:bootBuiltins "len" = some (.builtin "len"):=by decide +kernel
theorem TK:bootBuiltins "max" = some (.builtin "max"):=by decide +kernel
theorem Qv:bootBuiltins "min" = some (.builtin "min"):=by decide +kernel
theorem V3:bootBuiltins "divmod" = some (.builtin "divmod"):=by decide +kernel
theorem wP:bootBuiltins "repr" = some (.builtin "repr"):=by decide +kernel
theorem yy:bootBuiltins "isinstance" = some (.builtin "isinstance"):=by decide +kernel
theorem TL:bootBuiltins "all" = some (.builtin "all"):=by decide +kernel
theorem Yn:bootBuiltins "sorted" = some (.builtin "sorted"):=by decide +kernel
theorem Wm:bootBuiltins "int" = some (.type "int"):=by decide +kernel
theorem Re:bootBuiltins "bool" = some (.type "bool"):=by decide +kernel
theorem yZ:bootBuiltins "tuple" = some (.type "tuple"):=by decide +kernel
theorem Rf:bootBuiltins "list" = some (.type "list"):=by decide +kernel
theorem Rg:bootBuiltins "dict" = some (.type "dict"):=by decide +kernel
def TyV (K:JN) (H:Hp) (x:V) (T:String):Prop:=match x with
 | .non=>T = "NoneType"
 | .bl _=>T = "bool"
 | .int _=>T = "int"
 | .str _=>T = "str"
 | .ref a=>(T = "tuple" /\ ∃ xs,J3 K H a xs) \/ (T = "list" /\ ∃ xs,J1 K H a xs) \/ (T = "dict" /\ ∃ kvs,H a=some (.dK kvs))
 | _=>False
section
variable {X:Cx} {a b c:Expr} {ta tb tc:TE} {pos:Pos}
def JC (K:JN):List V->Hp->VK->Prop:=fun xs H Q=>∃ x T t k,xs=[x,.ty T] /\ TyV K H x t /\ PySem.W.kitOne K (.type t) (.type T)=some k /\ Q (.bl k) H
theorem xY:wp X (.builtin "isinstance") (JC X.K):=by
 intro pins s σ H xs us Q I r h
 obtain ⟨x,T,t,k,rfl,ty,e,q⟩:=h
 obtain ⟨u,w',rfl,rx,rt⟩:=YZ r
 cases (show w' = Value.type T from rt)
 have fin:∀ tk,EP X pins σ Q (.bool k) { s with toks:=tk }:=fun tk=>⟨.bl k,H,I.tok _,rfl,q⟩
 cases x with
 | non=>cases (show t = "NoneType" from ty); exact wq I rx .non e fin
 | bl y=>cases (show t = "bool" from ty); exact wq I rx (.bl y) e fin
 | int i=>cases (show t = "int" from ty); exact wq I rx (.int i) e fin
 | str y=>cases (show t = "str" from ty); exact wq I rx (.str y) e fin
 | byt y=>exact ty.elim
 | flt y=>exact ty.elim
 | ty y=>exact ty.elim
 | ref a =>
  cases (show u=Value.ref a from rx)
  rcases ty with ⟨rfl,xs,hq⟩ | ⟨rfl,xs,hq⟩ | ⟨rfl,kvs,hq⟩
  ·obtain ⟨its,_,⟨o,h1,h2,_⟩,_⟩:=I.tuple hq
   exact PySem.W.kia_one PySem.W.kitx_tuple I.kIn ⟨o,h1,h2⟩ e (fun z=>nomatch z) fin
  ·obtain ⟨its,_,pl,_⟩:=I.list hq
   obtain ⟨o,h1,h2,_⟩:=pl.isList
   exact PySem.W.kia_one PySem.W.kitx_list I.kIn ⟨o,h1,h2⟩ e (fun z=>nomatch z) fin
  ·exact wq (x:=V.ref a) I (show zY (.ref a) (.ref a) from rfl) (.dK hq) e fin
theorem tw {x:Str} {T:String} {pos:Pos} (hg:Gl X x) (hm:X.mg x=none) (hv:bootBuiltins x=some (.type T)) (hn:x ≠ "__name__":=by decide) (hd:(x == ("__debug__":Str))=false:=by decide):PE X (.Name x pos) (tC (.ty T)) :=
 Tl hg hm hv (show zY (.ty T) (Value.type T) from rfl) hn hd
theorem xZ:OpR X (binaryOp .Mult) (rI IntMulOk fun i j=>.int (i * j)):=opI fun _ _ _ _ _ _ _ hc q=>mul_int q hc
def V4 (i j:Int):Prop:=0 < j /\ j < 2 ^ 200
theorem V4.py {i j:Int} (h:V4 i j):Builtin.divisionGoesByPylong i j=false:=by
 refine PyProof.noPylong_of_log2 ?_
 obtain ⟨h1,h2⟩:=h
 have h0:j.natAbs ≠ 0:=by omega
 have h3:j.natAbs < 2 ^ 200:=by
  have:(j.natAbs:Int)=j:=by omega
  have h4:((j.natAbs:Nat):Int) < ((2 ^ 200:Nat):Int):=by rw [this]; exact h2
  exact Int.ofNat_lt.mp h4
 exact Nat.lt_of_lt_of_le ((Nat.log2_lt h0).mpr h3) (by decide)
theorem qh:OpR X (binaryOp .FloorDiv) (rI V4 fun i j=>.int (i / j)):=opI fun i j _ _ _ _ _ hc q=>by
 have:=hc.1
 refine floordiv_int (by omega) ?_ (.inl hc.py)
 rw [Int.fdiv_eq_ediv_of_nonneg i (by omega)]
 exact q
theorem jv:wp X (.builtin "divmod") (fun xs H Q=>∃ i j,xs=[.int i,.int j] /\ V4 i j /\ ∀ p,H p=none->Q (.ref p) (JQ H p (.tup [.int (i / j),.int (i % j)]))):=by
 intro pins s σ H xs us Q I r h
 obtain ⟨i,j,rfl,hc,q⟩:=h
 have h1:=hc.1
 obtain ⟨u,w',rfl,⟨t,rfl⟩,⟨t',rfl⟩⟩:=YZ r
 refine divmod_int (by omega) ?_ (.inl hc.py)
 rw [Int.fdiv_eq_ediv_of_nonneg i (by omega),Int.fmod_eq_emod_of_nonneg i (by omega)]
 have hn:H s.heap.objs.size=none:=I.hok.fresh (Nat.le_refl _)
 refine ⟨.ref s.heap.objs.size,_,?_,rfl,q _ hn⟩
 refine I.laid (fun b o e=>Heap.get?_push_of_some _ e) (Nat.le_refl _) ⟨by simp only [List.length_cons,List.length_nil]; rw [sizeLine_eq]; decide,[.int (i / j) s.toks,.int (i % j) (s.toks+1)],.cons ⟨_,rfl⟩ (.cons ⟨_,rfl⟩ .nil),?_⟩
 exact ⟨_,Heap.get?_push_size s.heap rfl,rfl,0,rfl⟩
def JD (i:Int):Prop:=i.natAbs.log2 < 1920
end
def zm (P:Program) (w:World) (K:JN) (mg:Str->Option Value) (base:Heap) (k:Nat) (x:Str) (ps:List Str) (sp:Sp):Prop :=
 ∃ (f:Addr) (fd:FuncData),FnOk P w K mg base CX0 k f fd ps sp /\ wt K fd ps [] /\ PySem.W.keepIn K (.ref f)=true /\ mg x=some (.ref f)
theorem zm.mono {P:Program} {w:World} {K:JN} {mg:Str->Option Value} {base:Heap} {j k:Nat} {x:Str} {ps:List Str} {sp:Sp} (C:zm P w K mg base j x ps sp) (h:j<=k):zm P w K mg base k x ps sp:=by
 obtain ⟨f,fd,F,b,kp,m⟩:=C
 exact ⟨f,fd,F.mono h,b,kp,m⟩
section
variable {X:Cx} {k:Nat} {ps:List Str} {sp:Sp} {x:Str} {p pos:Pos} {e:Expr} {es:List Expr} {t:TA}
theorem zh (C:zm X.prog X.w X.K X.mg X.base k x ps sp) (hr:Room k X.A) (hg:Gl X x)
  (ha:PA X (e :: es) t) (hdb:(x == ("__debug__":Str))=false:=by decide) (he:starEach (e :: es) X.env=(false,eval e X.env) :: starEach es X.env:=by rfl) (hpl:(backTo pos (starEach es X.env)).any (·.1)=false:=by rfl) :
  PE X (.Call (.Name x p) (e :: es) [] pos) (SX sp [] E0 t):=by
 obtain ⟨f,fd,F,b,kp,m⟩:=C
 exact Tu F hr hg m kp b .nil Wl ha hdb he hpl
end
structure Grow (m:List Addr) (H H':Hp):Prop where
 keep:∀ b o,b ∉ m->H b=some o->H' b=some o
 tup:∀ b xs,H b=some (.tup xs)->H' b=some (.tup xs)
 frz:∀ b o u,H b=some (.frz o u)->H' b=some (.frz o u)
theorem Grow.refl (m:List Addr) (H:Hp):Grow m H H:=⟨fun _ _ _ h=>h,fun _ _ h=>h,fun _ _ _ h=>h⟩
theorem Grow.trans {m:List Addr} {H H1 H2:Hp} (a:Grow m H H1) (b:Grow m H1 H2):Grow m H H2 :=
 ⟨fun c o n h=>b.keep c o n (a.keep c o n h),fun c xs h=>b.tup c xs (a.tup c xs h),fun c o u h=>b.frz c o u (a.frz c o u h)⟩
theorem Grow.new {m:List Addr} {H:Hp} {p:Addr} (h:H p=none) (o:HO):Grow m H (JQ H p o) :=
 ⟨fun b u _ q=>by rw [zu (zA q h)]; exact q,fun b xs q=>by rw [zu (zA q h)]; exact q,fun b u v q=>by rw [zu (zA q h)]; exact q⟩
theorem Grow.set {m:List Addr} {H:Hp} {p:Addr} {xs:List V} (h:H p=some (.lst xs)) (hm:p ∈ m) (ys:List V):Grow m H (JQ H p (.lst ys)) :=
 ⟨fun b u hb q=>by rw [zu (show b ≠ p from fun z=>hb (by rw [z]; exact hm))]; exact q,fun b zs q=>by rw [zu (fun z=>by subst z; rw [h] at q; cases q)]; exact q,fun b u v q=>by rw [zu (fun z=>by subst z; rw [h] at q; cases q)]; exact q⟩
theorem Grow.mono {m m':List Addr} {H H':Hp} (a:Grow m H H') (h:∀ b ∈ m,b ∈ m'):Grow m' H H':=⟨fun b o n q=>a.keep b o (fun z=>n (h b z)) q,a.tup,a.frz⟩
theorem Grow.sqT {m:List Addr} {H H':Hp} (g:Grow m H H') {K:JN} {a:Addr} {xs:List V} (h:J3 K H a xs):J3 K H' a xs:=by
 rcases h with (h | ⟨o,h⟩) | h
 ·exact .inl (.inl (g.tup _ _ h))
 ·exact .inl (.inr ⟨o,g.frz _ _ _ h⟩)
 ·exact .inr h
theorem Grow.free {H H':Hp} {m:List Addr} (g:Grow m H H') {l:Addr} (hm:l ∉ m) (h:H' l=none):H l=none:=by
 cases q:H l with
 | none=>rfl
 | some o=>rw [g.keep l o hm q] at h; cases h
def Scr (K:JN) (H:Hp) (a:Addr) (ns:List Int):Prop :=
 (∃ o,H a=some (.frz o (.lst (ns.map V.int)))) ∨
  ∃ (o:Obj) (its:Array Value) (n:Nat),K.lookup a=some o /\ o.cls = .type "list" /\ o.dict=none /\ o.data = .seq its n /\ its.size<=sizeLine /\ zX (ns.map V.int) its.toList
theorem Scr.sq {K:JN} {H:Hp} {a:Addr} {ns:List Int} (h:Scr K H a ns):J1 K H a (ns.map V.int):=by
 rcases h with ⟨o,h⟩ | h
 ·exact .inl (.inr ⟨o,h⟩)
 ·exact .inr h
theorem Scr.of {K:JN} {H:Hp} {a:Addr} {ns:List Int} (hO:R7 H) (h:J1 K H a (ns.map V.int)):Scr K H a ns:=by
 rcases h with (h | ⟨o,h⟩) | h
 ·rcases hO a with z | ⟨o,xs,z⟩
  ·rw [h] at z; cases z
  ·rw [h] at z; cases z
 ·exact .inl ⟨o,h⟩
 ·exact .inr h
theorem Grow.scr {m:List Addr} {H H':Hp} (g:Grow m H H') {K:JN} {a:Addr} {ns:List Int} (h:Scr K H a ns):Scr K H' a ns:=by
 rcases h with ⟨o,h⟩ | h
 ·exact .inl ⟨o,g.frz _ _ _ h⟩
 ·exact .inr h
structure Blt (mg:Str->Option Value):Prop where
 abs:mg "abs" = none
 len:mg "len" = none
 max:mg "max" = none
 min:mg "min" = none
 divmod:mg "divmod" = none
 repr:mg "repr" = none
 isinstance:mg "isinstance" = none
 all:mg "all" = none
 range:mg "range" = none
 int:mg "int" = none
 bool:mg "bool" = none
 str:mg "str" = none
 tuple:mg "tuple" = none
 list:mg "list" = none
 dict:mg "dict" = none
def sp1 (b:V->Hp->VK->Prop):Sp:=fun vs H Q _=>∃ x,vs=[x] /\ b x H Q
def sp2 (b:V->V->Hp->VK->Prop):Sp:=fun vs H Q _=>∃ x y,vs=[x,y] /\ b x y H Q
def sp3 (b:V->V->V->Hp->VK->Prop):Sp:=fun vs H Q _=>∃ x y z,vs=[x,y,z] /\ b x y z H Q
theorem yH {b:V->Hp->VK->Prop} {p:Str}:∀ vs H Q E,sp1 b vs H Q E->vs.length=[p].length:=fun vs H Q E h=>by
 obtain ⟨x,rfl,_⟩:=h; rfl
theorem yq {b:V->V->Hp->VK->Prop} {p q:Str}:∀ vs H Q E,sp2 b vs H Q E->vs.length=[p,q].length:=fun vs H Q E h=>by
 obtain ⟨x,y,rfl,_⟩:=h; rfl
theorem yP {b:V->V->V->Hp->VK->Prop} {p q r:Str}:∀ vs H Q E,sp3 b vs H Q E->vs.length=[p,q,r].length:=fun vs H Q E h=>by
 obtain ⟨x,y,z,rfl,_⟩:=h; rfl
def jw:V->Bool
 | .int _=>true
 | _=>false
def Y7:V->Bool
 | .non=>true
 | .int _=>true
 | _=>false
def Kn (K:JN) (H:Hp) (x:V):Prop:=∃ T,TyV K H x T
structure Deed where
 add:Int
 lo:Option Int
 hi:Option Int
 deriving DecidableEq
def ov:Option Int->V
 | none=>.non
 | some i=>.int i
def Deed.vs (d:Deed):List V:=[.int d.add,ov d.lo,ov d.hi]
def Deed.Ok (d:Deed):Prop:=∀ l h,d.lo=some l->d.hi=some h->l < h \/ (l=h /\ d.add=0)
def yz (lo:Option Int) (r:Int):Int:=match lo with
 | none=>r
 | some l=>if l > r then l else r
def yA (hi:Option Int) (r:Int):Int:=match hi with
 | none=>r
 | some h=>if h < r then h else r
def Deed.mk' (d:Deed) (v:Int):Int:=yA d.hi (yz d.lo (v+d.add))
def JE:V->V->V->Bool
 | .int a,.int l,.int h=>decide (l < h) || (decide (l=h) && decide (a=0))
 | _,_,_=>true
def vY:List V->Bool
 | [x,y,z]=>jw x && (Y7 y && (Y7 z && JE x y z))
 | _=>false
theorem Y8 {d:Deed} (h:d.Ok):vY d.vs=true:=by
 obtain ⟨a,lo,hi⟩:=d
 cases lo with
 | none=>cases hi <;> rfl
 | some l =>
  cases hi with
  | none=>rfl
  | some u =>
   have:=h l u rfl rfl
   show (decide (l < u) || (decide (l=u) && decide (a=0)))=true
   rcases this with q | ⟨q,q2⟩
   ·simp [q]
   ·have q2':a=0:=q2
    simp [q,q2']
theorem Wn {x:V} (h:jw x=true):∃ i,x = .int i:=by
 cases x <;> first | exact ⟨_,rfl⟩ | cases h
theorem US {x:V} (h:Y7 x=true):∃ o,x=ov o:=by
 cases x <;> first | exact ⟨none,rfl⟩ | exact ⟨some _,rfl⟩ | cases h
theorem JF {xs:List V} (h:xs.length=3):∃ x y z,xs=[x,y,z]:=by
 match xs,h with
 | [x,y,z],_=>exact ⟨x,y,z,rfl⟩
theorem ZD {xs:List V} (h:xs.length ≠ 3):vY xs=false:=by
 match xs,h with
 | [],_=>rfl
 | [_],_=>rfl
 | [_,_],_=>rfl
 | [_,_,_],h=>exact absurd rfl h
 | _ :: _ :: _ :: _ :: _,_=>rfl
def Yo (K:JN) (H:Hp) (x:V) (d:Deed):Prop:=∃ a,x = .ref a /\ J3 K H a d.vs
theorem Yp {K:JN} {H:Hp} {i:Int}:Kn K H (.int i):=⟨"int",rfl⟩
theorem Rh {K:JN} {H:Hp}:Kn K H .non:=⟨"NoneType",rfl⟩
theorem Ri {K:JN} {H:Hp} (o:Option Int):Kn K H (ov o):=by cases o; exact Rh; exact Yp
def xy (K:JN):Sp:=sp1 fun x H Q=>Kn K H x /\ Q (.bl (jw x)) H
def jx (K:JN):Sp:=sp1 fun x H Q=>Kn K H x /\ Q (.bl (Y7 x)) H
def s8 (K:JN):Sp:=sp1 fun x H Q=>(∃ T,T ≠ "tuple" /\ TyV K H x T /\ Q (.bl false) H) \/ ∃ a xs,x = .ref a /\ J3 K H a xs /\ (∀ y ∈ xs,Kn K H y) /\ Q (.bl (vY xs)) H
def ZE (K:JN):Sp:=sp2 fun x y H Q=>∃ d v,Yo K H x d /\ y = .int v /\ Q (.int (d.mk' v)) H
def Pot (H:Hp) (a:Addr):Prop:=∃ p0 p1:Int,H a=some (.lst [.int p0,.int p1]) /\ 0<=p0
def UT (K:JN):Sp:=sp2 fun x y H Q=>∃ a ns k,x = .ref a /\ y = .int k /\ Scr K H a ns /\ 0<=k /\ k < 1000 /\ ∀ p H',H p=none->Grow [] H H' -> Pot H' p->Q (.ref p) H'
def wu (_:JN):Sp:=sp2 fun x y H Q=>∃ a m,x = .ref a /\ y = .int m /\ Pot H a /\ 0 < m /\ m < 2 ^ 200 /\ ∀ n H',0<=n->n < m->Grow [a] H H' -> Pot H' a->Q (.int n) H'
def Yq (K:JN):Sp:=sp1 fun x H Q=>∃ a ns,x = .ref a /\ Scr K H a ns /\ ns.length<=63 /\ ∀ H',Q (.bl true) H'
theorem szl {n:Nat} (h:Nat.ble n 1000=true):n<=sizeLine:=Nat.le_of_lt (zr (Nat.le_of_ble_eq_true h))
theorem Grow.wk {m:List Addr} {H H':Hp} (g:Grow [] H H'):Grow m H H':=g.mono (by simp)
theorem Pot.grow {H H':Hp} {a:Addr} (p:Pot H a) (g:Grow [] H H'):Pot H' a:=by
 obtain ⟨u0,u1,hu,hn⟩:=p
 exact ⟨u0,u1,g.keep _ _ (by simp) hu,hn⟩
theorem re {i j:Int} (h2:-(2 ^ 60) < j /\ j < 2 ^ 60):IntMulOk i j:=PySem.IntMulOk.of_right (Nat.le_trans ((PySem.intBits_le_iff (m:=60)).mpr (by obtain ⟨a,b⟩:=h2; omega)) (by decide))
section
variable {prog:Program} {w:World} {A:Around} {R:Result->Shared->Prop} {s:Shared}
theorem Wo {elt target iter:Expr} {ifs:List Expr} {scope:Scope} {pos:Pos} {it acc:Value} {env:Env} (I:Nat->Shared->Prop)
  (turn:∀ n s,I n s->wpAny (model prog w) A (pyNext it) (fun r s₁=>match r with
   | none=>R (.ok .next) s₁
   | some v=>wpAny (model prog w) A (letOwnedTupleGo target it v) (fun _ s₂=>wpAny (model prog w) A (assign target env v) (fun _ s₃ =>
     wpAny (model prog w) A (forIn ifs true fun c r=>if r=true then do let ok ← isTrue c env (eval c env); pure (ForInStep.yield ok) else pure (ForInStep.yield r)) (fun ok s₄ =>
      if ok=true then wpAny (model prog w) A (eval elt env) (fun x s₅ =>
       wpAny (model prog w) A (call (.builtin "list.append") [acc,x]) (fun _ s₆=>∃ m,m < n /\ I m s₆) (fun _ _=>False) s₅) (fun _ _=>False) s₄
      else ∃ m,m < n /\ I m s₄) (fun _ _=>False) s₃) (fun _ _=>False) s₂) (fun _ _=>False) s₁) (fun _ _=>False) s)
  (n:Nat) (h:I n s) :
  codeAny (model prog w) A (.compLoop (.ListComp elt [⟨target,iter,ifs,0⟩] scope pos) 0 it acc env) R s:=by
 refine codeAny_loop rfl I (fun n s hI=>?_) n h
 show wpAny _ A ((compTurn (.ListComp elt [⟨target,iter,ifs,0⟩] scope pos) 0 it acc env).onRaise (fun x=>do noteFrame x env; theTreesLotGoes x)) _ _ s
 refine wpAny_noted ?_
 rw [compTurn_list]
 have no:∀ (E:JO) (e:Value) (s:Shared),(fun (_:Value) (_:Shared)=>False) e s->E e s:=fun _ _ _ f=>f.elim
 refine wpAny_bind (wpAny_standAt (wpAny_bind (wpAny_mono (turn n s hI) (fun r s₁ h₁=>?_) (no _))))
 cases r with
 | none=>exact wpAny_pure h₁
 | some v =>
  refine wpAny_bind (wpAny_mono h₁ (fun _ s₂ h₂=>?_) (no _))
  refine wpAny_bind (wpAny_mono h₂ (fun _ s₃ h₃=>wpAny_bind (wpAny_mono h₃ (fun ok s₄ h₄=>?_) (no _))) (no _))
  cases ok with
  | true =>
   simp only [if_true] at h₄ ⊢
   exact wpAny_bind (wpAny_bind (wpAny_mono h₄ (fun x s₅ h₅=>wpAny_bind (wpAny_mono h₅ (fun _ s₆ h₆=>wpAny_pure (wpAny_pure ⟨rfl,h₆⟩)) (no _))) (no _)))
  | false =>
   simp only [Bool.false_eq_true,if_false] at h₄ ⊢
   first
    | exact wpAny_bind (wpAny_pure (wpAny_pure ⟨rfl,h₄⟩))
    | exact wpAny_pure ⟨rfl,h₄⟩
end
theorem Y9 {scope:Scope} {env:Env} (hfree:∀ y ∈ scope.names,y.2 = .free -> ∃ c,env.cells.lookup y.1=some c) :
  ∃ cl,closureFor scope env=pure cl /\ (∀ x c,cl.lookup x=some c->env.cells.lookup x=some c) /\ ∀ y ∈ scope.names,y.2 = .free -> ∃ c,cl.lookup y.1=some c:=by
 have key:∀ (l:List (Str × NameKind)) (cs:List (Str × Addr)),(∀ y ∈ l,y.2 = .free -> ∃ c,env.cells.lookup y.1=some c)->(∀ x c,cs.lookup x=some c->env.cells.lookup x=some c) →
   ∃ cl,(forIn l cs (fun (x:Str × NameKind) r=>do if x.2 == .free then do let c ← cellOf env x.1; pure (ForInStep.yield ((x.1,c) :: r)) else pure (ForInStep.yield r)):Sem (List (Str × Addr)))=pure cl ∧
    (∀ x c,cl.lookup x=some c->env.cells.lookup x=some c) /\ (∀ y ∈ l,y.2 = .free -> ∃ c,cl.lookup y.1=some c) /\ ∀ x c,cs.lookup x=some c -> ∃ c',cl.lookup x=some c':=by
  intro l
  induction l with
  | nil=>intro cs _ h2; exact ⟨cs,rfl,h2,fun y hy=>absurd hy (by simp),fun x c h=>⟨c,h⟩⟩
  | cons y r ih =>
   intro cs h1 h2
   obtain ⟨n,k⟩:=y
   by_cases hk:k = .free
   ·subst hk
    obtain ⟨c,hc⟩:=h1 (n,.free) (by simp) rfl
    have hc':env.cells.lookup n=some c:=hc
    have e0:cellOf env n=pure c:=by unfold cellOf; rw [hc']
    obtain ⟨cl,e,p1,p2,p3⟩:=ih ((n,c) :: cs) (fun z hz=>h1 z (List.mem_cons_of_mem _ hz)) (fun x d h=>by
     by_cases hx:x=n
     ·subst hx
      rw [List.lookup_cons_self] at h
      cases h; exact hc'
     ·rw [List.lookup_cons,beq_eq_false_iff_ne.mpr hx] at h
      exact h2 x d h)
    refine ⟨cl,?_,p1,fun z hz=>?_,fun x d h=>?_⟩
    ·rw [List.forIn_cons]
     simp only [beq_self_eq_true,if_true,e0,pure_bind]
     exact e
    ·rcases List.mem_cons.mp hz with rfl | hz
     ·intro _
      exact p3 n c List.lookup_cons_self
     ·exact p2 z hz
    ·by_cases hx:x=n
     ·subst hx; exact p3 x c List.lookup_cons_self
     ·exact p3 x d (by rw [List.lookup_cons,beq_eq_false_iff_ne.mpr hx]; exact h)
   ·have hb:(k == NameKind.free)=false:=beq_eq_false_iff_ne.mpr hk
    obtain ⟨cl,e,p1,p2,p3⟩:=ih cs (fun z hz=>h1 z (List.mem_cons_of_mem _ hz)) h2
    refine ⟨cl,?_,p1,fun z hz=>?_,p3⟩
    ·rw [List.forIn_cons]
     simp only [hb,Bool.false_eq_true,if_false,pure_bind]
     exact e
    ·rcases List.mem_cons.mp hz with rfl | hz
     ·intro h; exact absurd h hk
     ·exact p2 z hz
 obtain ⟨cl,e,p1,p2,_⟩:=key scope.names [] hfree (fun x c h=>by cases h)
 refine ⟨cl,?_,p1,p2⟩
 unfold closureFor
 first
  | (rw [show (forIn scope.names [] _:Sem (List (Str × Addr)))=pure cl from e]; rfl)
  | (simp only [bind_pure]; exact e)
  | exact e
def VO (X:Cx) (ifs:List Expr) (t:TT):Prop :=
 ∀ (pins:List (Addr × Obj)) (s:Shared) (σ:L2.St) (H:Hp) (Q:Bool->Hp->Prop),Inv X pins σ H s->t σ H Q →
  wpAny (model X.prog X.w) X.A (forIn ifs true fun c r=>if r=true then do let ok ← isTrue c X.env (eval c X.env); pure (ForInStep.yield ok) else pure (ForInStep.yield r)) (TP X pins σ Q) X.xe s
def Wp:TT:=fun _ H Q=>Q true H
theorem yu {X:Cx}:VO X [] Wp:=fun pins s σ H Q I h=>wpAny_pure ⟨H,I,h⟩
theorem V5 {X:Cx} {c:Expr} {t:TT} (hc:PT X c t):VO X [c] t:=fun pins s σ H Q I h=>wpAny_tests_one (hc pins s σ H Q I h)
abbrev cxC (X:Cx) (N':List Str) (scope:Scope) (cl:List (Str × Addr)) (C D:Addr) (fp:List Addr) (s:Shared) (H:Hp):Cx :=
 { X with N:=N',s₀:=s,H₀:=H,env:=compEnvC scope cl C X.env,outer:=X.stack,ex:=D :: fp,fn:=fun _=>false,xe:=fun _ _=>False }
def VP (sub:List (Option Nat)) (σ:L2.St):L2.St:=sub.map fun o=>match o with
 | none=>none
 | some i=>(match σ[i]? with | some v=>v | none=>none)
def qi (J:It) (σ0:L2.St) (H1:Hp) (g:TG) (tt:TT) (te:TE) (Q:VK):Prop :=
 ∃ W:Nat->Nat->List V->L2.St->Hp->Prop,(∃ m,W 0 m [] σ0 H1) /\ ∀ i m ys σ' H',W i m ys σ' H' →
  (J.stop i H' /\ ∀ l,H' l=none->Q (.ref l) (JQ H' l (.lst ys))) ∨
  (J.go i H' /\ ∃ Nn:List V->L2.St->Hp->Prop,(∀ zs σ2 H2,Nn zs σ2 H2 -> ∃ m',m' < m /\ W (i+1) m' zs σ2 H2) ∧
   ∀ x H2,J.yld i H' x H2->g x σ' H2 fun σ2 H3=>tt σ2 H3 fun b H4=>if b=true then te σ2 H4 fun y H5=>ys.length < sizeLine /\ Nn (ys ++ [y]) σ2 H5 else Nn ys σ2 H4)
def Rj (wi:TI) (sub:List (Option Nat)) (g:TG) (tt:TT) (te:TE):TE:=fun σ H Q=>wi σ H fun J H1=>qi J (VP sub σ) H1 g tt te Q
structure CSc (X:Cx) (scope:Scope) (N':List Str) (sub:List (Option Nat)):Prop where
 free:∀ y ∈ scope.names,y.2 = .free->X.env.kindOf y.1=some .cell
 nocell:∀ y ∈ scope.names,y.2 ≠ .cell
 kind:scope.kind = .function
 names:∀ y ∈ scope.names,y.2 = .local->scope.names.lookup y.1=some .local
 len:sub.length=N'.length
 cap:∀ (j:Nat) (y:Str) (i:Nat),N'[j]? = some y->sub[j]? = some (some i)->X.N[i]? = some y /\ X.env.scope.names.lookup y=some .cell /\ scope.names.lookup y=some .free
theorem JR.track {P:Program} {w:World} {H:Hp} {h:Heap} {a:Addr} {o:HO} (x:JR P w H h) (hn:H a=none) (new:yw P w (JQ H a o) h a o):JR P w (JQ H a o) h:=fun b u e=>by
 by_cases hb:b=a
 ·subst hb; rw [zc] at e; cases e; exact new
 ·rw [zu hb] at e
  exact (x b u e).stay (fun c v _ q=>q) (fun c q=>by rw [zu (zA q hn)]; exact q) fun c xs q=>by rw [zu (zA q hn)]; exact q
theorem wQ {scope:Scope} {env:Env} {y:Str} {k:NameKind} (h:(relabel scope env).names.lookup y=some k) :
  ∃ k',scope.names.lookup y=some k' /\ (k=k' \/ (k = .cell /\ k' = .free)):=by
 have key:∀ l:List (Str × NameKind),(l.map fun (n,k)=>if (k == NameKind.free && env.scope.kind == .function && env.kindOf n == some .cell) then (n,NameKind.cell) else (n,k)).lookup y=some k →
   ∃ k',l.lookup y=some k' /\ (k=k' \/ (k = .cell /\ k' = .free)):=by
  intro l
  induction l with
  | nil=>intro h; cases h
  | cons p r ih =>
   obtain ⟨n,k0⟩:=p
   intro h
   rw [List.map_cons] at h
   by_cases hc:(k0 == NameKind.free && env.scope.kind == .function && env.kindOf n == some .cell)=true
   ·have hf:k0 = .free:=by
     simp only [Bool.and_eq_true,beq_iff_eq] at hc
     exact hc.1.1
    dsimp only at h
    rw [if_pos hc,List.lookup_cons] at h
    rw [List.lookup_cons]
    cases hx:y == n with
    | true=>rw [hx] at h; cases h; exact ⟨k0,rfl,.inr ⟨rfl,hf⟩⟩
    | false=>rw [hx] at h; exact ih h
   ·dsimp only at h
    rw [if_neg hc,List.lookup_cons] at h
    rw [List.lookup_cons]
    cases hx:y == n with
    | true=>rw [hx] at h; cases h; exact ⟨_,rfl,.inl rfl⟩
    | false=>rw [hx] at h; exact ih h
 exact key scope.names h
theorem jy {scope:Scope} {env:Env} {y:Str} (hk:env.scope.kind = .function) (hc:env.kindOf y=some .cell) (h:scope.names.lookup y=some .free):(relabel scope env).names.lookup y=some .cell:=by
 have key:∀ l:List (Str × NameKind),l.lookup y=some .free->(l.map fun (n,k)=>if (k == NameKind.free && env.scope.kind == .function && env.kindOf n == some .cell) then (n,NameKind.cell) else (n,k)).lookup y=some .cell:=by
  intro l
  induction l with
  | nil=>intro h; cases h
  | cons p r ih =>
   obtain ⟨n,k0⟩:=p
   intro h
   rw [List.map_cons]
   rw [List.lookup_cons] at h
   dsimp only
   cases hx:y == n with
   | true =>
    rw [hx] at h
    cases h
    have e:y=n:=by simpa using hx
    subst e
    rw [if_pos (by simp [hk,hc]),List.lookup_cons,hx]
   | false =>
    rw [hx] at h
    by_cases hc2:(k0 == NameKind.free && env.scope.kind == .function && env.kindOf n == some .cell)=true
    ·rw [if_pos hc2,List.lookup_cons,hx]; exact ih h
    ·rw [if_neg hc2,List.lookup_cons,hx]; exact ih h
 exact key scope.names h
section
variable {X:Cx} {pins:List (Addr × Obj)} {σ:L2.St} {H2:Hp} {s₂:Shared} {it:Addr} {fp:List Addr} {tn:Nat->Heap->Prop} {J:It} {scope:Scope} {cl:List (Str × Addr)} {N':List Str} {sub:List (Option Nat)}
theorem rf {h₁:Heap} {tk:Nat} (I:Inv X pins σ H2 s₂) (S:CSc X scope N' sub) (hcl1:∀ x c,cl.lookup x=some c->X.env.cells.lookup x=some c) (hcl2:∀ y ∈ scope.names,y.2 = .free -> ∃ c,cl.lookup y.1=some c)
    (f2:∀ b ∈ fp,vg X pins H2 b) (hfp:∀ b ∈ fp,b < s₂.heap.objs.size) {m:Str->Option Value} {ob:Obj}
    (hns:h₁.Ns (s₂.heap.objs.size+1) m) (hk:∀ b o,(s₂.heap.push ob).get? b=some o->h₁.get? b=some o) :
    Inv (cxC X N' scope cl (s₂.heap.objs.size+1) s₂.heap.objs.size fp { s₂ with heap:=s₂.heap.push ob } H2) pins (VP sub σ) H2 { s₂ with heap:=h₁,toks:=tk }:=by
  have old:∀ b o,s₂.heap.get? b=some o->(s₂.heap.push ob).get? b=some o:=fun b o e=>Heap.get?_push_of_some _ e
  have old2:∀ b o,s₂.heap.get? b=some o->h₁.get? b=some o:=fun b o e=>hk b o (old b o e)
  have sz:(s₂.heap.push ob).objs.size=s₂.heap.objs.size+1:=Heap.size_push ..
  have cells:∀ x c,cl.lookup x=some c->c < s₂.heap.objs.size:=fun x c e=>let ⟨v,q⟩:=I.cell x c (hcl1 x c e); q.lt
  have has:∀ x,((relabel scope X.env).names.lookup x=some .cell \/ (relabel scope X.env).names.lookup x=some .free) -> ∃ c,cl.lookup x=some c:=fun x hx=>by
    rcases hx with hx | hx
    · obtain ⟨k',e,z⟩:=wQ hx
      rcases z with z | ⟨_,z⟩
      · subst z; exact absurd rfl (S.nocell _ (PySem.mem_of_lookup e))
      · subst z; exact hcl2 _ (PySem.mem_of_lookup e) rfl
    · obtain ⟨k',e,z⟩:=wQ hx
      rcases z with z | ⟨z,_⟩
      · subst z; exact hcl2 _ (PySem.mem_of_lookup e) rfl
      · cases z
  have frsz:∀ b ∈ JU X.stack,b < s₂.heap.objs.size:=fun b hb=>by
    rcases List.mem_cons.mp (I.stkSub b hb) with z | z
    · rw [z]; exact I.lt
    · exact Nat.lt_of_not_le fun q=>I.nofs q z
  refine
    { ok :=
      { mod:=I.ok.mod,kind:=S.kind,glob:=I.ok.glob,blt:=I.ok.blt
        above:=by show (s₂.heap.push ob).objs.size<=s₂.heap.objs.size+1; rw [sz]; exact Nat.le_refl _
        inj:=fun x y c h1 h2=>I.ok.inj x y c (hcl1 x c h1) (hcl1 y c h2)
        has:=has
        cab:=fun x c z=>by cases z
        hd:=I.ok.hd,frames:=I.ok.frames,stk:=.inl rfl
        exf:=fun b hb=>?exf
        bs:=fun b o e=>⟨old b o (I.bk b o e),(I.bs b o e).2⟩
        bsz:=by show X.base.objs.size<=(s₂.heap.push ob).objs.size; rw [sz]; exact Nat.le_succ_of_le (Nat.le_trans I.ok.bsz I.sz)
        noex:=fun b o e hb=>?noex
        exfs:=fun b hb=>?exfs
        funs:=?funs
        frf:=I.stkFree }
      os:=rfl,bare:=I.bare,base:=Un.kept fun b u e=>hk b u e
      loc:=⟨m,hns,?loc⟩
      cell:=fun x c e=>?cell
      free:=I.hok.fresh (Nat.le_succ _)
      freeC:=fun x c e=>I.freeC x c (hcl1 x c e)
      pin:=fun p hp=>?pin
      hok:=I.hok.kept old2
      len:=?len }
  case exf =>
    rcases List.mem_cons.mp hb with rfl | hb
    · exact ⟨Nat.ne_of_lt (Nat.lt_succ_self _),fun x c e=>Nat.ne_of_lt (cells x c e)⟩
    · exact ⟨Nat.ne_of_lt (Nat.lt_succ_of_lt (hfp b hb)),fun x c e=>(f2 b hb).2.2.2.2.1 x c (hcl1 x c e)⟩
  case noex =>
    have hl:b < X.s₀.heap.objs.size:=Nat.lt_of_lt_of_le (Heap.lt_size e) I.ok.bsz
    rcases List.mem_cons.mp hb with rfl | hb
    · exact absurd (Nat.lt_of_lt_of_le hl I.sz) (Nat.lt_irrefl _)
    · rcases (f2 b hb).2.2.2.1 with z | z
      · exact I.ok.noex b o e z
      · exact absurd (Nat.lt_of_lt_of_le hl z) (Nat.lt_irrefl _)
  case exfs =>
    intro hs
    rcases List.mem_cons.mp hb with rfl | hb
    · exact absurd (frsz _ hs) (Nat.lt_irrefl _)
    · rcases List.mem_cons.mp (I.stkSub b hs) with z | z
      · exact (f2 b hb).2.1 z
      · exact (f2 b hb).2.2.1 z
  case funs=>exact Heap.FunFrames.of_keeps (fun b o e _=>⟨o,old b o e,rfl⟩) I.stack
  case loc =>
    intro j y v hj hv hvis
    obtain ⟨mX,_,lX⟩:=I.loc
    unfold VP at hv
    rw [List.getElem?_map] at hv
    cases hs:sub[j]? with
    | none=>rw [hs] at hv; cases hv
    | some o =>
      rw [hs] at hv
      cases o with
      | none=>cases hv
      | some i =>
        obtain ⟨hN,hc,hf⟩:=S.cap j y i hj hs
        have hv':σ[i]? = some (some v):=by
          have z:(match σ[i]? with | some v=>v | none=>none)=some v:=Option.some.inj hv
          cases q:σ[i]? with
          | none=>rw [q] at z; cases z
          | some w=>rw [q] at z; rw [show w=some v from z]
        obtain ⟨u,ru,hl⟩:=lX i y v hN hv' (.inr (.inl hc))
        refine ⟨u,ru,?_⟩
        have kc:(relabel scope X.env).names.lookup y=some .cell:=jy I.ok.kind hc hf
        rcases hl with ⟨z,_⟩ | ⟨_,c,e,ic⟩
        · have z':X.env.scope.names.lookup y=some .local :=z
          rw [hc] at z'; cases z'
        · obtain ⟨c',e'⟩:=hcl2 _ (PySem.mem_of_lookup hf) rfl
          have:=hcl1 _ _ e'
          rw [e] at this; cases this
          refine .inr ⟨.inl kc,c,e',?_⟩
          obtain ⟨oc,h1,h2⟩:=ic
          exact ⟨oc,old2 _ _ h1,h2⟩
  case cell =>
    obtain ⟨v,oc,h1,h2⟩:=I.cell x c (hcl1 x c e)
    exact ⟨v,oc,old2 _ _ h1,h2⟩
  case pin =>
    obtain ⟨p1,p2,p3,p4,p5⟩:=I.pin p hp
    refine ⟨old2 _ _ p1,p2,Nat.ne_of_lt (Nat.lt_succ_of_lt (Heap.lt_size p1)),fun hs=>?_,p5⟩
    rcases List.mem_cons.mp (I.stkSub _ hs) with z | z
    · exact p3 z
    · exact p4 z
  case len =>
    show (VP sub σ).length=N'.length
    unfold VP
    rw [List.length_map]; exact S.len
theorem V6 {C D:Addr} {s₀:Shared} {s':Shared} {σ':L2.St} {H':Hp} {ys:List V} {us:List Value} {k:Nat} {oC:Obj} (I:Inv X pins σ H2 s₂)
    (hs₀:∀ b o,s₂.heap.get? b=some o->s₀.heap.get? b=some o) (hos:s₀.os=s₂.os) (hD:s₂.heap.objs.size<=D) (hC:s₂.heap.objs.size<=C) (hDC:D ≠ C) (f2:∀ b ∈ fp,vg X pins H2 b)
    (I':Inv (cxC X N' scope cl C D fp s₀ H2) pins σ' H' s') (hn:H' D=none) (hy:s'.heap.get? D=some { cls:=.type "list",data:=.seq us.toArray k }) (rv:zX ys us) (hz:ys.length<=sizeLine)
    (ho:s'.heap.get? C=some oC) (hd:∀ v,oC.data ≠ .cell v):Inv X (pins ++ [(C,oC)]) σ (JQ H' D (.lst ys)) s' /\ vg X pins (JQ H' D (.lst ys)) C:=by
  have neD:∀ b o,s₂.heap.get? b=some o->b ≠ D:=fun b o e=>Nat.ne_of_lt (Nat.lt_of_lt_of_le (Heap.lt_size e) hD)
  have nm:∀ b o,s₂.heap.get? b=some o->b ∉ fp->b ∉ D :: fp:=fun b o e h z=>(List.mem_cons.mp z).elim (neD b o e) h
  have U:=I'.base
  have HC:JQ H' D (.lst ys) C=none:=by rw [zu (Ne.symm hDC)]; exact I'.free
  have fpc:vg X pins (JQ H' D (.lst ys)) C:=I.fpOk hC HC
  have un:Un (JU X.stack) fp H2 (JQ H' D (.lst ys)) s₂.heap s'.heap :=
    { keep:=fun b o e n h1 h2=>U.keep b o (hs₀ b o e) n h1 (nm b o e h2)
      slot:=fun b o e n h1 h2=>U.slot b o (hs₀ b o e) n h1 (nm b o e h2)
      free:=fun b o e n h2=>by rw [zu (neD b o e)]; exact U.free b o (hs₀ b o e) n (nm b o e h2)
      there:=fun b o e h2=>U.there b o (hs₀ b o e) (nm b o e h2)
      tups:=fun b xs e=>by have z:=U.tups b xs e; rw [zu (zA z hn)]; exact z
      frzs:=fun b o u e=>by have z:=U.frzs b o u e; rw [zu (zA z hn)]; exact z
      tbls:=fun b ps e=>by obtain ⟨more,z⟩:=U.tbls b ps e; exact ⟨more,by rw [zu (zA z hn)]; exact z⟩ }
  have hok:JR X.prog X.w (JQ H' D (.lst ys)) s'.heap:=JR.track I'.hok hn ⟨hz,us,k,rv,hy⟩
  have IX:Inv X pins σ (JQ H' D (.lst ys)) s':=I.call' (I'.os.trans hos) un hok I'.bare fun b hb=>⟨(f2 b hb).2.2.2.1,(f2 b hb).2.1,(f2 b hb).2.2.2.2.1,(f2 b hb).2.2.2.2.2⟩
  refine ⟨IX.pins_of fun p hp=>?_,fpc⟩
  rcases List.mem_append.mp hp with hp | hp
  · exact IX.pin p (List.mem_append_right _ hp)
  · rw [List.mem_singleton.mp hp]
    exact ⟨ho,HC,fpc.2.1,fpc.2.2.1,hd⟩
end
section
variable {X:Cx} {scope:Scope} {N':List Str} {sub:List (Option Nat)} {x:Str} {px pos:Pos} {elt iter:Expr} {ifs:List Expr} {wi:TI} {g:TG} {tt:TT} {te:TE}
theorem CSc.clos {pins:List (Addr × Obj)} {σ:L2.St} {H:Hp} {s:Shared} (S:CSc X scope N' sub) (I:Inv X pins σ H s):∃ cl,closureFor scope X.env=pure cl /\ (∀ x c,cl.lookup x=some c->X.env.cells.lookup x=some c) /\ ∀ y ∈ scope.names,y.2 = .free -> ∃ c,cl.lookup y.1=some c :=
 Y9 fun y hy hf=>I.ok.has y.1 (.inl (S.free y hy hf))
end
def XU:List V->List V->Bool
 | [],[]=>true
 | x :: xs,y :: ys=>eqV x y && XU xs ys
 | _,_=>false
theorem Yr:∀ {xs ys:List V},XU xs ys=true ↔ xs.length=ys.length /\ ∀ (j:Nat) (x y:V),xs[j]? = some x->ys[j]? = some y->eqV x y=true
 | [],[]=>by simp [XU]
 | x :: xs,y :: ys=>by
  show (eqV x y && XU xs ys)=true ↔ _
  rw [Bool.and_eq_true,Yr]
  constructor
  ·rintro ⟨h1,h2,h3⟩
   refine ⟨by simp [h2],fun j a b ha hb=>?_⟩
   cases j with
   | zero=>simp at ha hb; subst ha hb; exact h1
   | succ j=>exact h3 j a b (by simpa using ha) (by simpa using hb)
  ·rintro ⟨h1,h2⟩
   exact ⟨h2 0 x y rfl rfl,by simpa using h1,fun j a b ha hb=>h2 (j+1) a b (by simpa using ha) (by simpa using hb)⟩
 | [],_ :: _=>by simp [XU]
 | _ :: _,[]=>by simp [XU]
theorem Xa {xs ys:List V}:((List.range (min xs.length ys.length)).all (fun j=>match xs[j]?,ys[j]? with | some x,some y=>eqV x y | _,_=>true) && xs.length == ys.length)=XU xs ys:=by
 rw [Bool.eq_iff_iff,Bool.and_eq_true,List.all_eq_true,beq_iff_eq,Yr]
 constructor
 ·rintro ⟨h1,h2⟩
  refine ⟨h2,fun j x y hx hy=>?_⟩
  have hj:j < xs.length:=(List.getElem?_eq_some_iff.mp hx).1
  have:=h1 j (List.mem_range.mpr (by rw [← h2]; simpa using hj))
  rw [hx,hy] at this
  exact this
 ·rintro ⟨h1,h2⟩
  refine ⟨fun j hj=>?_,h1⟩
  have hj':=List.mem_range.mp hj
  have a:j < xs.length:=by omega
  have b:j < ys.length:=by omega
  rw [List.getElem?_eq_getElem a,List.getElem?_eq_getElem b]
  exact h2 j _ _ (List.getElem?_eq_getElem a) (List.getElem?_eq_getElem b)
theorem Wq {xs:List V} {us:List Value} (r:zX xs us) (j:Nat) (h:j < us.length):∃ x,xs[j]? = some x /\ zY x us[j]:=by
 have hl:=r.length
 have hx:xs[j]? = some xs[j]:=List.getElem?_eq_getElem (by omega)
 obtain ⟨u,e,q⟩:=r.get hx
 rw [List.getElem?_eq_getElem h] at e
 cases e
 exact ⟨_,hx,q⟩
theorem Rk {A:Around} {s:Shared} {xs ys:List V} {us ws:List Value} (r1:zX xs us) (r2:zX ys ws) (f1:xs.all Y6=true) (f2:ys.all Y6=true) :
  ∀ j (h1:j < us.toArray.size) (h2:j < ws.toArray.size),SeqAt.EqAt A s us.toArray[j] ws.toArray[j] ((fun j=>match xs[j]?,ys[j]? with | some x,some y=>eqV x y | _,_=>true) j):=by
 intro j h1 h2
 obtain ⟨x,ex,qx⟩:=Wq r1 j (by simpa using h1)
 obtain ⟨y,ey,qy⟩:=Wq r2 j (by simpa using h2)
 have fx:Y6 x=true:=List.all_eq_true.mp f1 x (List.mem_of_getElem? ex)
 have fy:Y6 y=true:=List.all_eq_true.mp f2 y (List.mem_of_getElem? ey)
 show SeqAt.EqAt A s _ _ (match xs[j]?,ys[j]? with | some x,some y=>eqV x y | _,_=>true)
 rw [ex,ey]
 simpa using S9 qx qy fx fy
section
variable {X:Cx}
theorem wA {h:Heap} {a:Addr} {its:Array Value} (t:IsTup h a its):h.IsTuple a its:=t
end
section
variable {X:Cx} {pos:Pos}
def Qw (i j k:Nat) (ta:TA):TS:=fun D σ H=>ta σ H fun vs H1=>∃ v w z,vs=[v,w,z] /\ D.nx (((σ.set i (some v)).set j (some w)).set k (some z)) H1
theorem TM {i j k:Nat} {x y z:Str} {a b c:Expr} {ta:TA} {px py pz pt:Pos} {kt k2 pt2} (hc:X.calm=true) (hN:X.N.Nodup) (hi:X.N[i]? = some x) (hj:X.N[j]? = some y) (hk:X.N[k]? = some z) (hij:i ≠ j) (hik:i ≠ k) (hjk:j ≠ k)
  (hx:X.env.scope.names.lookup x=some .local) (hy:X.env.scope.names.lookup y=some .local) (hz:X.env.scope.names.lookup z=some .local) (ha:PA X [a,b,c] ta)
  (hw:swappedStores [.Tuple [.Name x px,.Name y py,.Name z pz] kt pt] (.Tuple [a,b,c] k2 pt2) X.env=pure (some [x,y,z]))
  (hs:swapsWithSole [.Tuple [.Name x px,.Name y py,.Name z pz] kt pt] (.Tuple [a,b,c] k2 pt2) pos.line X.env=pure false:=by rfl) :
  PS X (.Assign [.Tuple [.Name x px,.Name y py,.Name z pz] kt pt] (.Tuple [a,b,c] k2 pt2) pos) (Qw i j k ta):=by
 intro pins s σ H D I h
 rw [exec_Assign_arm]
 refine wpAny_bind (wpAny_standAt ?_)
 rw [hs]
 refine wpAny_bind (wpAny_pure ?_)
 rw [if_neg (by decide)]
 refine wpAny_bind (Tuple_ (JY (ha _ pins s σ H _ I h) fun us s1 ⟨vs,H1,I1,r1,q1⟩=>?_))
 obtain ⟨v,w,z',e1,q1⟩:=q1
 subst e1
 obtain ⟨u1,u2,u3,rfl,rv,rw',rz⟩:∃ u1 u2 u3,us=[u1,u2,u3] /\ zY v u1 /\ zY w u2 /\ zY z' u3:=by
  cases r1 with
  | cons p q =>
   cases q with
   | cons p' q' =>
    cases q' with
    | cons p2 q2 =>
     cases q2
     exact ⟨_,_,_,rfl,p,p',p2⟩
 refine wpAny_newObj_type ?_ (by show 3<=sizeLine; decide)
 have I2:Inv X pins σ H1 { s1 with heap:=s1.heap.push { cls:=.type "tuple",data:=.seq [u1,u2,u3].toArray } }:=I1.kept (t':=s1.toks) fun b o e=>Heap.get?_push_of_some _ e
 rw [hw]
 refine wpAny_bind (wpAny_pure ?_)
 show wpAny (model X.prog X.w) X.A (do rule "assign.swapped-stores"; let items ← unpackItems (.ref s1.heap.objs.size) 3 none; assignInOrder [fun v=>bindName X.env z v,fun v=>bindName X.env y v,fun v=>bindName X.env x v] items.reverse; pure Flow.next) _ _ _
 refine wpAny_bind (wpAny_rule (wpAny_bind (unpackItems_tuple (items:=#[u1,u2,u3]) (I.ok.hd hc) (IsTup.new s1.heap _) fun h' hx'=>?_)))
 have I3:=I2.kept (h':=h') (t':=s1.toks) fun b o e=>hx' b o (Nat.ne_of_lt (Heap.lt_size e)) e
 show wpAny _ _ (assignInOrder [fun v=>bindName X.env z v,fun v=>bindName X.env y v,fun v=>bindName X.env x v] [u3,u2,u1] >>= fun _=>pure Flow.next) _ _ _
 refine wpAny_bind (assignInOrder_cons (wpAny_bindName (xW I3 hN hk (.inl hz) rz (fun s2 I4=>?_) (.inr hz))))
 refine assignInOrder_cons (wpAny_bindName (xW I4 hN hj (.inl hy) rw' (fun s3 I5=>?_) (.inr hy)))
 refine assignInOrder_cons (wpAny_bindName (xW I5 hN hi (.inl hx) rv (fun s4 I6=>assignInOrder_nil (wpAny_pure ?_)) (.inr hx)))
 have e:(((σ.set k (some z')).set j (some w)).set i (some v))=(((σ.set i (some v)).set j (some w)).set k (some z')):=by
  rw [List.set_comm _ _ (Ne.symm hjk),List.set_comm _ _ (Ne.symm hik),List.set_comm _ _ (Ne.symm hij)]
 rw [e] at I6
 exact ⟨_,H1,I6,q1⟩
theorem jz:∀ {bs:List Bool} {us:List Value},zX (bs.map V.bl) us->LSm.BoolsAre us bs
 | [],_,.nil=>.nil
 | b :: bs,_,.cons r t=>by
  cases r
  exact .cons b (jz t)
theorem tz (hcalm:X.calm=true):wp X (.builtin "all") (fun xs H Q=>∃ (l:Addr) (bs:List Bool),xs=[.ref l] /\ J1 X.K H l (bs.map V.bl) /\ Q (.bl (bs.all id)) H):=by
 intro pins s σ H xs us Q I r h
 obtain ⟨l,bs,rfl,hl,q⟩:=h
 obtain ⟨u,rfl,rx⟩:=vX r
 cases (show u=Value.ref l from rx)
 obtain ⟨vs,rv,pl,_⟩:=I.list hl
 have hl':s.heap.IsList l vs.toArray:=pl.isList
 have hb:LSm.BoolsAre vs bs:=jz rv
 have hlt:l < s.heap.objs.size:=by obtain ⟨_,e,_⟩:=hl'; exact Heap.lt_size e
 refine call_all_walk (wpAny_pyIter_list hl' ?_)
 refine ⟨s.heap.objs.size,[s.heap.objs.size,l],[s.heap.objs.size],vs.toArray.size,_,_,fun i=>(bs[i]?).getD true,rfl,Walks.list (A:=X.A.in1) (I.ok.hd hcalm) _ l (Nat.ne_of_lt hlt) vs.toArray,
  ⟨⟨_,Heap.get?_push_size _ rfl,rfl,rfl⟩,hl'.push _⟩,fun i v s' Q' E' hP hQ=>?_,fun h' tk hk=>?_⟩
 ·obtain ⟨b,e,rfl⟩:=hb.get i v (by simpa using hP)
  simp only [e,Option.getD_some] at hQ
  exact wpAny_truthy_bool hQ
 ·have e:((List.range vs.toArray.size).all fun i=>(bs[i]?).getD true)=bs.all id:=by
   have hlen:bs.length=vs.length:=by rw [← rv.length,List.length_map]
   rw [List.size_toArray,← hlen,Bool.eq_iff_iff,List.all_eq_true,List.all_eq_true]
   constructor
   ·intro z b hb'
    obtain ⟨i,hi,rfl⟩:=List.getElem_of_mem hb'
    have:=z i (List.mem_range.mpr hi)
    simpa [List.getElem?_eq_getElem hi] using this
   ·intro z i hi
    have hi':=List.mem_range.mp hi
    simpa [List.getElem?_eq_getElem hi'] using z _ (List.getElem_mem hi')
  rw [e]
  exact ⟨.bl (bs.all id),H,I.kept (t':=tk) (h':=h') (LSm.kept_iter hk),rfl,q⟩
end
theorem CSc.of {X:Cx} {scope:Scope} {N':List Str} {sub:List (Option Nat)} (sc:Scope) (NN:List Str) (e:X.env.scope=sc) (en:X.N=NN)
  (h:((scope.names.all fun y=>(y.2 != .free || sc.names.lookup y.1 == some .cell) && (y.2 != .cell) && (y.2 != .local || scope.names.lookup y.1 == some .local)) && (sub.length == N'.length) &&
   ((N'.zip sub).all fun p=>match p.2 with | none=>true | some i=>NN[i]? == some p.1 && sc.names.lookup p.1 == some .cell && scope.names.lookup p.1 == some .free))=true)
  (hk:scope.kind = .function):CSc X scope N' sub:=by
 rw [Bool.and_eq_true,Bool.and_eq_true] at h
 obtain ⟨⟨h1,h2⟩,h3⟩:=h
 have k1:=fun y hy=>List.all_eq_true.mp h1 y hy
 refine ⟨fun y hy hf=>?_,fun y hy hc=>?_,hk,fun y hy hl=>?_,by simpa using h2,fun j y i hj hs=>?_⟩
 ·have:=k1 y hy
  simp only [hf,Bool.and_eq_true] at this
  have z:=this.1.1
  show X.env.scope.names.lookup y.1=_
  rw [e]; simpa using z
 ·have:=k1 y hy
  simp only [hc,Bool.and_eq_true] at this
  simp at this
 ·have:=k1 y hy
  simp only [hl,Bool.and_eq_true] at this
  simpa using this.2
 ·have hm:(y,some i) ∈ N'.zip sub:=by
   have:(N'.zip sub)[j]? = some (y,some i):=by
    rw [List.getElem?_zip_eq_some]; exact ⟨hj,hs⟩
   exact List.mem_of_getElem? this
  have:=List.all_eq_true.mp h3 _ hm
  simp only [Bool.and_eq_true,beq_iff_eq] at this
  rw [e,en]
  exact ⟨this.1.1,this.1.2,this.2⟩
def vZ (a:Int) (lo hi:Option Int):Deed:=if lo ≠ none /\ lo=hi then ⟨0,lo,hi⟩ else ⟨a,lo,hi⟩
def R8 (e:Deed) (o:Option Int) (d:Option Int):Option Int:=match o with
 | none=>d
 | some l=>some (e.mk' l)
def uL (d e:Deed):Deed:=vZ (d.add+e.add) (R8 e d.lo e.lo) (R8 e d.hi e.hi)
def Deed.Bd (B:Int) (d:Deed):Prop:=(-B<=d.add /\ d.add<=B) /\ (∀ l,d.lo=some l -> -B<=l /\ l<=B) /\ ∀ h,d.hi=some h -> -B<=h /\ h<=B
theorem Qx (a v:Int):(Deed.mk a none none).mk' v=v+a:=rfl
theorem Rl (a l v:Int):(Deed.mk a (some l) none).mk' v=if l > v+a then l else v+a:=rfl
theorem Rm (a h v:Int):(Deed.mk a none (some h)).mk' v=if h < v+a then h else v+a:=rfl
theorem Wr (a l h v:Int):(Deed.mk a (some l) (some h)).mk' v=if h < (if l > v+a then l else v+a) then h else (if l > v+a then l else v+a):=rfl
theorem Ws {a l h:Int} (o:Deed.Ok ⟨a,some l,some h⟩):l < h \/ (l=h /\ a=0):=o l h rfl rfl
theorem ZF {a:Int} {lo hi:Option Int} (h:∀ l u,lo=some l->hi=some u->l<=u):(vZ a lo hi).Ok:=by
 unfold vZ
 split
 ·rename_i c
  intro l u e1 e2
  have e1':lo=some l:=e1
  have e2':hi=some u:=e2
  right
  refine ⟨?_,rfl⟩
  have:=c.2
  rw [e1',e2'] at this
  exact Option.some.inj this
 ·rename_i c
  intro l u e1 e2
  have e1':lo=some l:=e1
  have e2':hi=some u:=e2
  left
  have:=h l u e1' e2'
  have ne:l ≠ u:=fun z=>c ⟨by rw [e1']; simp,by rw [e1',e2',z]⟩
  omega
theorem TN {a:Int} {lo hi:Option Int} (v:Int):(vZ a lo hi).mk' v=(Deed.mk a lo hi).mk' v:=by
 unfold vZ
 split
 ·rename_i c
  obtain ⟨c1,c2⟩:=c
  subst c2
  cases lo with
  | none=>exact absurd rfl c1
  | some l =>
   rw [Wr,Wr]
   split <;> split <;> split <;> (try split) <;> omega
 ·rfl
theorem sC (l r:Int):yz (some l) r=max l r:=by
 show (if l > r then l else r)=_
 split <;> omega
theorem ua (h r:Int):yA (some h) r=min h r:=by
 show (if h < r then h else r)=_
 split <;> omega
theorem UU (r:Int):yz none r=r:=rfl
theorem UV (r:Int):yA none r=r:=rfl
theorem Ys {l x y:Int} (h:x<=y):max l x<=max l y:=by omega
theorem Yt {l x y:Int} (h:x<=y):min l x<=min l y:=by omega
theorem tD {d:Deed} {v w:Int} (h:v<=w):d.mk' v<=d.mk' w:=by
 obtain ⟨a,lo,hi⟩:=d
 have h':v+a<=w+a:=Int.add_le_add_right h a
 cases lo with
 | none =>
  cases hi with
  | none=>exact h'
  | some u=>simp only [Deed.mk',ua,UU]; exact Yt h'
 | some l =>
  cases hi with
  | none=>simp only [Deed.mk',sC,UV]; exact Ys h'
  | some u=>simp only [Deed.mk',sC,ua]; exact Yt (Ys h')
theorem V7 {d e:Deed} (od:d.Ok) (oe:e.Ok):(uL d e).Ok:=by
 refine ZF fun l u e1 e2=>?_
 obtain ⟨a,lo,hi⟩:=d
 obtain ⟨a',lo',hi'⟩:=e
 cases lo with
 | none =>
  have e1':lo' = some l:=e1
  subst e1'
  cases hi with
  | none =>
   have e2':hi' = some u:=e2
   subst e2'
   have:=Ws oe; omega
  | some h =>
   have e2':(Deed.mk a' (some l) hi').mk' h=u:=Option.some.inj e2
   subst e2'
   cases hi' with
   | none=>rw [Rl]; split <;> omega
   | some h' =>
    have:=Ws oe
    rw [Wr]; (repeat' split) <;> omega
 | some l0 =>
  have e1':(Deed.mk a' lo' hi').mk' l0=l:=Option.some.inj e1
  subst e1'
  cases hi with
  | none =>
   have e2':hi' = some u:=e2
   subst e2'
   cases lo' with
   | none=>rw [Rm]; split <;> omega
   | some l' =>
    have:=Ws oe
    rw [Wr]; (repeat' split) <;> omega
  | some h =>
   have e2':(Deed.mk a' lo' hi').mk' h=u:=Option.some.inj e2
   subst e2'
   have:=Ws od
   exact tD (by omega)
theorem UW {d:Deed} (x y:Int):d.mk' (max x y)=max (d.mk' x) (d.mk' y):=by
 rcases Int.le_total x y with h | h
 ·rw [Int.max_eq_right h,Int.max_eq_right (tD h)]
 ·rw [Int.max_eq_left h,Int.max_eq_left (tD h)]
theorem UX {d:Deed} (x y:Int):d.mk' (min x y)=min (d.mk' x) (d.mk' y):=by
 rcases Int.le_total x y with h | h
 ·rw [Int.min_eq_left h,Int.min_eq_left (tD h)]
 ·rw [Int.min_eq_right h,Int.min_eq_right (tD h)]
theorem Qy {F m W:Int} (h:m<=F):max F W=max F (max m W):=by omega
theorem Qz {F u L:Int} (h:F<=u):min F L=min F (min u L):=by omega
theorem JG {F u W:Int} (h:F<=u):min u (max F W)=max F (min u W):=by omega
theorem QA {F G C W:Int} (h:C=W \/ (W < C /\ C<=F) \/ (C < W /\ F<=C /\ G<=C)):min G (max F W)=min G (max F C):=by
 rcases h with rfl | ⟨h1,h2⟩ | ⟨h1,h2,h3⟩
 ·rfl
 ·rw [Int.max_eq_left h2,Int.max_eq_left (Int.le_trans (Int.le_of_lt h1) h2)]
 ·rw [Int.max_eq_right h2,Int.max_eq_right (Int.le_trans h2 (Int.le_of_lt h1)),Int.min_eq_left h3,Int.min_eq_left (Int.le_trans h3 (Int.le_of_lt h1))]
theorem Rn {a:Int} {lo hi:Option Int} (o:∀ l h,lo=some l->hi=some h->l<=h) (W:Int) :
  yA hi (yz lo W)=W \/ (W < yA hi (yz lo W) /\ ∀ x,yA hi (yz lo W)<=(Deed.mk a lo hi).mk' x) \/ (yA hi (yz lo W) < W /\ ∀ x,(Deed.mk a lo hi).mk' x<=yA hi (yz lo W)):=by
 cases lo with
 | none =>
  cases hi with
  | none=>exact .inl rfl
  | some h =>
   simp only [Deed.mk',ua,UU]
   rcases Int.le_total W h with c | c
   ·exact .inl (Int.min_eq_right c)
   ·rw [Int.min_eq_left c]
    rcases Int.lt_or_eq_of_le c with d | d
    ·exact .inr (.inr ⟨d,fun x=>Int.min_le_left _ _⟩)
    ·exact .inl d
 | some l =>
  cases hi with
  | none =>
   simp only [Deed.mk',sC,UV]
   rcases Int.le_total l W with c | c
   ·exact .inl (Int.max_eq_right c)
   ·rw [Int.max_eq_left c]
    rcases Int.lt_or_eq_of_le c with d | d
    ·exact .inr (.inl ⟨d,fun x=>Int.le_max_left _ _⟩)
    ·exact .inl d.symm
  | some h =>
   have lh:=o l h rfl rfl
   simp only [Deed.mk',sC,ua]
   rcases Int.lt_or_le W l with c | c
   ·rw [Int.max_eq_left (Int.le_of_lt c),Int.min_eq_right lh]
    exact .inr (.inl ⟨c,fun x=>Int.le_min.mpr ⟨lh,Int.le_max_left _ _⟩⟩)
   ·rw [Int.max_eq_right c]
    rcases Int.lt_or_le h W with d | d
    ·rw [Int.min_eq_left (Int.le_of_lt d)]
     exact .inr (.inr ⟨d,fun x=>Int.min_le_left _ _⟩)
    ·exact .inl (Int.min_eq_right d)
theorem V8 {d e:Deed} (od:d.Ok) (oe:e.Ok) (v:Int):(uL d e).mk' v=e.mk' (d.mk' v):=by
 unfold uL
 rw [TN]
 obtain ⟨a,lo,hi⟩:=d
 obtain ⟨a',lo',hi'⟩:=e
 have q2:∀ l h,lo' = some l->hi' = some h->l<=h:=fun l h e1 e2=>by
  subst e1 e2
  rcases Ws oe with z | z
  ·exact Int.le_of_lt z
  ·exact Int.le_of_eq z.1
 have ew:v+(a+a')=v+a+a':=(Int.add_assoc v a a').symm
 have ef:∀ w,(Deed.mk a' lo' hi').mk' w=yA hi' (yz lo' (w+a')):=fun _=>rfl
 have fu:∀ u,hi' = some u -> ∀ w,(Deed.mk a' lo' hi').mk' w<=u:=fun u e w=>by
  rw [ef,e,ua]; exact Int.min_le_left _ _
 have fm:∀ m,lo' = some m -> ∀ w,m<=(Deed.mk a' lo' hi').mk' w:=fun m e w=>by
  rw [ef,e,sC]
  cases hi' with
  | none=>exact Int.le_max_left _ _
  | some h=>rw [ua]; exact Int.le_min.mpr ⟨q2 m h e rfl,Int.le_max_left _ _⟩
 cases lo with
 | none =>
  cases hi with
  | none =>
   show yA hi' (yz lo' (v+(a+a')))=yA hi' (yz lo' (v+a+a'))
   rw [ew]
  | some h =>
   show yA (some ((Deed.mk a' lo' hi').mk' h)) (yz lo' (v+(a+a')))=(Deed.mk a' lo' hi').mk' (yA (some h) (v+a))
   rw [ua,ua,UX,ew,ef (v+a)]
   cases hi' with
   | none=>rfl
   | some u=>rw [ua u]; exact Qz (fu u rfl h)
 | some l =>
  cases hi with
  | none =>
   show yA hi' (yz (some ((Deed.mk a' lo' hi').mk' l)) (v+(a+a')))=(Deed.mk a' lo' hi').mk' (yz (some l) (v+a))
   rw [sC,sC,UW,ew,ef (v+a)]
   have g:max ((Deed.mk a' lo' hi').mk' l) (v+a+a')=max ((Deed.mk a' lo' hi').mk' l) (yz lo' (v+a+a')):=by
    cases lo' with
    | none=>rfl
    | some m=>rw [sC]; exact Qy (fm m rfl l)
   rw [g]
   cases hi' with
   | none=>rfl
   | some u=>rw [ua,ua]; exact JG (fu u rfl l)
  | some h =>
   show yA (some ((Deed.mk a' lo' hi').mk' h)) (yz (some ((Deed.mk a' lo' hi').mk' l)) (v+(a+a')))=(Deed.mk a' lo' hi').mk' (yA (some h) (yz (some l) (v+a)))
   rw [ua,sC,ua,sC,UX,UW,ew,ef (v+a)]
   refine QA ?_
   rcases Rn (a:=a') q2 (v+a+a') with z | z | z
   ·exact .inl z
   ·exact .inr (.inl ⟨z.1,z.2 l⟩)
   ·exact .inr (.inr ⟨z.1,z.2 l,z.2 h⟩)
theorem TQ {e:Deed} {B C:Int} (b:e.Bd B) (hB:0<=B) {v:Int} (h1:-C<=v) (h2:v<=C) (hC:0<=C):-(B+C)<=e.mk' v /\ e.mk' v<=B+C:=by
 obtain ⟨a,lo,hi⟩:=e
 obtain ⟨⟨b1,b2⟩,b3,b4⟩:=b
 have b1':-B<=a:=b1
 have b2':a<=B:=b2
 cases lo with
 | none =>
  cases hi with
  | none=>rw [Qx]; omega
  | some h=>have:=b4 h rfl; rw [Rm]; split <;> omega
 | some l =>
  have:=b3 l rfl
  cases hi with
  | none=>rw [Rl]; split <;> omega
  | some h=>have:=b4 h rfl; rw [Wr]; (repeat' split) <;> omega
theorem V9 {d e:Deed} {B C:Int} (b:d.Bd B) (c:e.Bd C) (hB:0<=B) (hC:0<=C):(uL d e).Bd (B+C):=by
 have key:Deed.Bd (B+C) ⟨d.add+e.add,R8 e d.lo e.lo,R8 e d.hi e.hi⟩:=by
  obtain ⟨a,lo,hi⟩:=d
  obtain ⟨⟨b1,b2⟩,b3,b4⟩:=b
  obtain ⟨⟨c1,c2⟩,c3,c4⟩:=id c
  have b1':-B<=a:=b1
  have b2':a<=B:=b2
  refine ⟨⟨by show -(B+C)<=a+e.add; omega,by show a+e.add<=B+C; omega⟩,fun l h=>?_,fun l h=>?_⟩
  ·cases lo with
   | none=>have:=c3 l h; omega
   | some x =>
    have h':e.mk' x=l:=Option.some.inj h
    have:=b3 x rfl
    have:=TQ (C:=B) (v:=x) c hC (by omega) (by omega) hB
    rw [h'] at this
    omega
  ·cases hi with
   | none=>have:=c4 l h; omega
   | some x =>
    have h':e.mk' x=l:=Option.some.inj h
    have:=b4 x rfl
    have:=TQ (C:=B) (v:=x) c hC (by omega) (by omega) hB
    rw [h'] at this
    omega
 unfold uL vZ
 split
 ·exact ⟨⟨by show -(B+C)<=0; omega,by show 0<=B+C; omega⟩,key.2.1,key.2.2⟩
 ·exact key
theorem yF {c:Bool} {A B:Prop} (e:c=false) (h:B):if c=true then A else B:=by rw [e]; exact xw h
theorem y7 {c:Bool} {A B:Prop} (e:c=true) (h:A):if c=true then A else B:=by rw [e]; exact vn h
theorem Yu {K:JN} {a:Addr} {xs:List V} {g:TG} {tt:TT} {te:TE} {Q:VK} {σ:L2.St} {H:Hp} (Pv:Nat->List V->L2.St->Hp->Prop) (h0:Pv 0 [] σ H) (hl:∀ i ys σ H,i<=xs.length->Pv i ys σ H->J3 K H a xs)
  (hs:∀ i x ys σ H,xs[i]? = some x->Pv i ys σ H->g x σ H fun σ2 H3=>tt σ2 H3 fun b H4=>if b=true then te σ2 H4 fun y H5=>ys.length < sizeLine /\ Pv (i+1) (ys ++ [y]) σ2 H5 else Pv (i+1) ys σ2 H4)
  (hd:∀ ys σ H,Pv xs.length ys σ H -> ∀ l,H l=none->Q (.ref l) (JQ H l (.lst ys))) :
  qi (Itt K a) σ H g tt te Q:=by
 refine ⟨fun i m ys σ H=>m=xs.length - i /\ i<=xs.length /\ Pv i ys σ H,⟨xs.length,by simp,Nat.zero_le _,h0⟩,?_⟩
 rintro i m ys σ H ⟨rfl,hi,p⟩
 have q:=hl i ys σ H hi p
 by_cases hlt:i < xs.length
 ·refine .inr ⟨⟨xs,xs[i],q,by simp [hlt]⟩,Pv (i+1),fun zs σ' H' p'=>⟨xs.length - (i+1),by omega,rfl,hlt,p'⟩,fun x H' y=>?_⟩
  obtain ⟨e,y⟩:=y
  subst e
  exact hs i x ys σ _ (y xs q) p
 ·have e:i=xs.length:=by omega
  subst e
  exact .inl ⟨⟨xs,q,Nat.le_refl _⟩,hd ys σ H p⟩
theorem vo {K:JN} {a:Addr} {xs:List V} {g:TG} {tt:TT} {te:TE} {Q:VK} {σ:L2.St} {H:Hp} (Pv:Nat->List V->L2.St->Hp->Prop) (h0:Pv 0 [] σ H) (hl:∀ i ys σ H,i<=xs.length->Pv i ys σ H->J1 K H a xs)
  (hs:∀ i x ys σ H,xs[i]? = some x->Pv i ys σ H->g x σ H fun σ2 H3=>tt σ2 H3 fun b H4=>if b=true then te σ2 H4 fun y H5=>ys.length < sizeLine /\ Pv (i+1) (ys ++ [y]) σ2 H5 else Pv (i+1) ys σ2 H4)
  (hd:∀ ys σ H,Pv xs.length ys σ H -> ∀ l,H l=none->Q (.ref l) (JQ H l (.lst ys))) :
  qi (Itl K a) σ H g tt te Q:=by
 refine ⟨fun i m ys σ H=>m=xs.length - i /\ i<=xs.length /\ Pv i ys σ H,⟨xs.length,by simp,Nat.zero_le _,h0⟩,?_⟩
 rintro i m ys σ H ⟨rfl,hi,p⟩
 have q:=hl i ys σ H hi p
 by_cases hlt:i < xs.length
 ·refine .inr ⟨⟨xs,xs[i],q,by simp [hlt]⟩,Pv (i+1),fun zs σ' H' p'=>⟨xs.length - (i+1),by omega,rfl,hlt,p'⟩,fun x H' y=>?_⟩
  obtain ⟨e,y⟩:=y
  subst e
  exact hs i x ys σ _ (y xs q) p
 ·have e:i=xs.length:=by omega
  subst e
  exact .inl ⟨⟨xs,q,Nat.le_refl _⟩,hd ys σ H p⟩
theorem Wu {K:JN} {a:Addr} {xs:List V} {n:Nat} {te:TE} {Q:VK} {σ:L2.St} {H:Hp} (Pv:Nat->List V->L2.St->Hp->Prop) (h0:Pv 0 [] σ H) (hl:∀ i ys σ H,i<=xs.length->Pv i ys σ H->J3 K H a xs)
  (hs:∀ i x ys σ H,xs[i]? = some x->Pv i ys σ H->te (σ.set n (some x)) H fun y H5=>ys.length < sizeLine /\ Pv (i+1) (ys ++ [y]) (σ.set n (some x)) H5)
  (hd:∀ ys σ H,Pv xs.length ys σ H -> ∀ l,H l=none->Q (.ref l) (JQ H l (.lst ys))):qi (Itt K a) σ H (vW n) Wp te Q :=
 Yu Pv h0 hl (fun i x ys σ H hx p=>by
  show if true=true then te (σ.set n (some x)) H (fun y H5=>ys.length < sizeLine /\ Pv (i+1) (ys ++ [y]) (σ.set n (some x)) H5) else Pv (i+1) ys (σ.set n (some x)) H
  rw [if_pos rfl]; exact hs i x ys σ H hx p) hd
theorem TR {X:Cx} {K:JN} (h:X.K=K):IxR X (Q7 K):=by subst h; exact xq
theorem Ro {a:Int} {hi:Option Int}:vZ a none hi=⟨a,none,hi⟩:=by simp [vZ]
theorem Rq {a l:Int}:vZ a (some l) (some l)=⟨0,some l,some l⟩:=by simp [vZ]
theorem UY {a l:Int} {hi:Option Int} (h:some l ≠ hi):vZ a (some l) hi=⟨a,some l,hi⟩:=by simp [vZ,h]
def Wv (_:JN):Sp:=sp3 fun x y z H Q=>∃ a lo hi,x = .int a /\ y=ov lo /\ z=ov hi /\ ∀ t,H t=none->Q (.ref t) (JQ H t (.tup (vZ a lo hi).vs))
def jA (K:JN):Sp:=sp2 fun x y H Q=>∃ d e,Yo K H x d /\ Yo K H y e /\ ∀ t,H t=none->Q (.ref t) (JQ H t (.tup (uL d e).vs))
theorem Deed.Bd.mono {d:Deed} {B C:Int} (b:d.Bd B) (h:B<=C):d.Bd C:=by
 obtain ⟨⟨b1,b2⟩,b3,b4⟩:=b
 exact ⟨⟨by omega,by omega⟩,fun l e=>by have:=b3 l e; omega,fun l e=>by have:=b4 l e; omega⟩
theorem TU {i j:Int}:eqV (.int i) (.int j)=decide (i=j):=by rw [Bool.eq_iff_iff]; simp [eqV]
theorem jB:∀ {xs ys:List Int},XU (xs.map V.int) (ys.map V.int)=decide (xs=ys)
 | [],[]=>rfl
 | x :: xs,y :: ys=>by
  show (eqV (.int x) (.int y) && XU (xs.map V.int) (ys.map V.int))=_
  rw [TU,jB,Bool.eq_iff_iff]
  simp
 | [],_ :: _=>by simp [XU]
 | _ :: _,[]=>by simp [XU]
section
variable {K:JN} {a:Addr} {xs:List V} {n:Nat} {tt:TT} {te:TE} {Q:VK} {σ:L2.St} {H:Hp}
theorem jC {p:V->Bool} {f:V->V} {i:Nat} {x:V} (hx:xs[i]? = some x):((xs.take (i+1)).filter p).map f=((xs.take i).filter p).map f ++ (if p x=true then [f x] else []):=by
 rw [List.take_add_one,hx,List.filter_append,List.map_append]
 congr 1
 show ((([x]:List V)).filter p).map f=_
 by_cases c:p x=true
 ·rw [if_pos c,List.filter_cons_of_pos c]; rfl
 ·rw [if_neg c,List.filter_cons_of_neg c]; rfl
theorem Ua {p:V->Bool} {f:V->V} {i:Nat} (h:xs.length<=1000):(((xs.take i).filter p).map f).length < sizeLine:=by
 rw [List.length_map]
 refine zr ?_
 have:=List.length_filter_le p (xs.take i)
 have:=List.length_take_le i xs
 have:(xs.take i).length<=xs.length:=by rw [List.length_take]; omega
 omega
theorem Ub {p:V->Bool} {f:V->V}:((xs.take xs.length).filter p).map f=(xs.filter p).map f:=by rw [List.take_length]
theorem Xb (p:V->Bool) (f:V->V) (hl:J3 K H a xs) (hlen:xs.length<=1000)
  (ht:∀ x H' (R:Bool->Hp->Prop),x ∈ xs->Grow [] H H' -> (∀ H2,Grow [] H' H2->R (p x) H2)->tt (σ.set n (some x)) H' R)
  (hs:∀ x H' (R:VK),x ∈ xs->p x=true->Grow [] H H' -> (∀ H2,Grow [] H' H2->R (f x) H2)->te (σ.set n (some x)) H' R)
  (hd:∀ H' l,Grow [] H H' -> H' l=none->Q (.ref l) (JQ H' l (.lst ((xs.filter p).map f)))):qi (Itt K a) σ H (vW n) tt te Q:=by
 refine Yu (xs:=xs) (fun i ys σ' H'=>Grow [] H H' /\ (σ' = σ \/ ∃ e,σ' = σ.set n e) /\ ys=((xs.take i).filter p).map f) ⟨Grow.refl _ _,.inl rfl,rfl⟩ ?_ ?_ ?_
 ·rintro i ys σ' H' _ ⟨g,_⟩
  exact g.sqT hl
 ·rintro i x ys σ' H' hx ⟨g,hσ,rfl⟩
  have e:σ'.set n (some x) = σ.set n (some x):=by
   rcases hσ with rfl | ⟨e,rfl⟩
   ·rfl
   ·rw [List.set_set]
  show tt (σ'.set n (some x)) H' _
  rw [e]
  refine ht x H' _ (List.mem_of_getElem? hx) g fun H2 g2=>?_
  by_cases c:p x=true
  ·rw [if_pos c]
   refine hs x H2 _ (List.mem_of_getElem? hx) c (g.trans g2) fun H3 g3=>⟨Ua hlen,(g.trans g2).trans g3,.inr ⟨_,rfl⟩,?_⟩
   rw [jC hx,if_pos c]
  ·rw [if_neg c]
   refine ⟨g.trans g2,.inr ⟨_,rfl⟩,?_⟩
   rw [jC hx,if_neg c,List.append_nil]
 ·rintro ys σ' H' ⟨g,_,rfl⟩ l hl
  rw [Ub]
  exact hd H' l g hl
theorem Uc {p:V->Bool} (h:∀ x,p x=true):xs.filter p=xs:=List.filter_eq_self.mpr fun x _=>h x
theorem jD (f:V->V) (hl:J3 K H a xs) (hlen:xs.length<=1000)
  (hs:∀ x H' (R:VK),x ∈ xs->Grow [] H H' -> (∀ H2,Grow [] H' H2->R (f x) H2)->te (σ.set n (some x)) H' R)
  (hd:∀ H' l,Grow [] H H' -> H' l=none->Q (.ref l) (JQ H' l (.lst (xs.map f)))):qi (Itt K a) σ H (vW n) Wp te Q :=
 Xb (fun _=>true) f hl hlen (fun x H' R _ _ k=>k H' (Grow.refl _ _)) (fun x H' R hx _ g k=>hs x H' R hx g k) (fun H' l g hl=>by rw [Uc fun _=>rfl]; exact hd H' l g hl)
end
mutual
inductive Dat (K:JN) (H:Hp):V->PyData->Prop
 | non:Dat K H .non .none
 | bl (b:Bool):Dat K H (.bl b) (.bool b)
 | int (i:Int):Dat K H (.int i) (.int i)
 | tup {a:Addr} {xs:List V} {ds:List PyData}:J3 K H a xs->DatAll K H xs ds->Dat K H (.ref a) (.tuple ds)
 | lst {a:Addr} {xs:List V} {ds:List PyData}:J1 K H a xs->DatAll K H xs ds->Dat K H (.ref a) (.list ds)
inductive DatAll (K:JN) (H:Hp):List V->List PyData->Prop
 | nil:DatAll K H [] []
 | cons {x:V} {xs:List V} {d:PyData} {ds:List PyData}:Dat K H x d->DatAll K H xs ds->DatAll K H (x :: xs) (d :: ds)
end
section
variable {X:Cx} {pins:List (Addr × Obj)} {σ:L2.St} {H:Hp} {s:Shared}
mutual
theorem Dat.reads (I:Inv X pins σ H s):∀ {x:V} {d:PyData} {u:Value},Dat X.K H x d->zY x u -> ∃ as,Reads s.heap u d as
 | _,_,u,.non,r=>by
  cases (show u=Value.none from r)
  exact ⟨_,.none⟩
 | _,_,u,.bl b,r=>by
  cases (show u=Value.bool b from r)
  exact ⟨_,.bool b⟩
 | _,_,u,.int i,r=>by
  obtain ⟨t,rfl⟩:=r
  exact ⟨_,.int i t⟩
 | _,_,u,.tup (a:=a) hs hd,r=>by
  cases (show u=Value.ref a from r)
  obtain ⟨its,r1,⟨o,e1,e2,n,e3⟩,_⟩:=I.tuple hs
  obtain ⟨as,q⟩:=DatAll.reads I hd r1
  exact ⟨_,.tuple e1 e2 e3 q⟩
 | _,_,u,.lst (a:=a) hs hd,r=>by
  cases (show u=Value.ref a from r)
  obtain ⟨its,r1,⟨o,n,e1,e2,_,e3⟩,_⟩:=I.list hs
  obtain ⟨as,q⟩:=DatAll.reads I hd r1
  exact ⟨_,.list e1 e2 e3 q⟩
theorem DatAll.reads (I:Inv X pins σ H s):∀ {xs:List V} {ds:List PyData} {us:List Value},DatAll X.K H xs ds->zX xs us -> ∃ as,ReadsAll s.heap us ds as
 | _,_,_,.nil,.nil=>⟨_,.nil⟩
 | _,_,_,.cons h t,.cons r rs=>by
  obtain ⟨as,q⟩:=Dat.reads I h r
  obtain ⟨bs,q2⟩:=DatAll.reads I t rs
  exact ⟨_,.cons q q2⟩
end
def TV (K:JN):List V->Hp->VK->Prop:=fun xs H Q=>∃ x d,xs=[x] /\ Dat K H x d /\ d.showable=true /\ d.hasDict=false /\ d.depth<=60 /\ d.shown.length<=sizeLine /\ Q (.str d.shown) H
theorem ym {k:Nat} (hr:Room k X.A):wp X (.builtin "repr") (TV X.K):=by
 intro pins s σ H xs us Q I r h
 obtain ⟨x,d,rfl,hd,h1,h2,h3,h4,q⟩:=h
 obtain ⟨u,rfl,rx⟩:=vX r
 cases hd with
 | non =>
  cases (show u=Value.none from rx)
  exact PySem.P.repr_of_none ⟨.str _,H,I.tok _,⟨_,rfl⟩,q⟩
 | bl b =>
  cases (show u=Value.bool b from rx)
  exact PySem.P.repr_of_bool ⟨.str _,H,I.tok _,⟨_,rfl⟩,q⟩
 | int i =>
  obtain ⟨t,rfl⟩:=rx
  exact PySem.P.repr_of_int (of_decide_eq_true h1) ⟨.str _,H,I.tok _,⟨_,rfl⟩,q⟩
 | tup hs ha =>
  rename_i a ys ds
  cases (show u=Value.ref a from rx)
  obtain ⟨as,rd⟩:=Dat.reads I (.tup hs ha) rx
  refine repr_of_reads' rd h1 (fun z=>by rw [h2] at z; cases z) hr.gd (by have:=hr.un; omega) (fun _ _ e=>e) (fun h' t tk hk=>?_) h4
  exact ⟨.str _,H,I.kept hk,⟨_,rfl⟩,q⟩
 | lst hs ha =>
  rename_i a ys ds
  cases (show u=Value.ref a from rx)
  obtain ⟨as,rd⟩:=Dat.reads I (.lst hs ha) rx
  refine repr_of_reads' rd h1 (fun z=>by rw [h2] at z; cases z) hr.gd (by have:=hr.un; omega) (fun _ _ e=>e) (fun h' t tk hk=>?_) h4
  exact ⟨.str _,H,I.kept hk,⟨_,rfl⟩,q⟩
end
mutual
/-- a bound of the text's length -/
def wtD:PyData->Nat
 | .list xs | .tuple xs=>wtAll xs+3
 | .int _=>1921
 | .none | .bool _=>5
 | _=>20000000
def wtAll:List PyData->Nat
 | []=>0
 | x :: xs=>wtD x+2+wtAll xs
end
mutual
theorem shown_wt:∀ {d:PyData},d.showable=true->d.hasDict=false->wtD d<=16777216->d.shown.length<=wtD d
 | .none,_,_,_=>by decide
 | .bool b,_,_,_=>by cases b <;> decide
 | .int i,h,_,_=>int_text_len_1921 (of_decide_eq_true h)
 | .str _,_,_,z=>absurd (show 20000000<=16777216 from z) (by decide)
 | .list xs,h,h2,z=>by
  have z':wtAll xs+3<=16777216:=z
  have q:=shown_wtAll (xs:=xs) h h2 (by omega)
  have l:=listText_len_le (PyData.shownAll xs)
  show (listText (PyData.shownAll xs)).length<=wtAll xs+3
  omega
 | .tuple xs,h,h2,z=>by
  have z':wtAll xs+3<=16777216:=z
  have q:=shown_wtAll (xs:=xs) h h2 (by omega)
  have l:=tupleText_len_le (PyData.shownAll xs)
  show (tupleText (PyData.shownAll xs)).length<=wtAll xs+3
  omega
 | .dict _,_,h,_=>by cases h
theorem shown_wtAll:∀ {xs:List PyData},PyData.showableAll xs=true->PyData.hasDictAll xs=false->wtAll xs<=16777216->((PyData.shownAll xs).map (·.length)).sum+2 * (PyData.shownAll xs).length<=wtAll xs
 | [],_,_,_=>by decide
 | x :: xs,h,h2,z=>by
  have h':(x.showable && PyData.showableAll xs)=true:=h
  have h2':(x.hasDict || PyData.hasDictAll xs)=false:=h2
  rw [Bool.and_eq_true] at h'
  rw [Bool.or_eq_false_iff] at h2'
  have z':wtD x+2+wtAll xs<=16777216:=z
  have q1:=shown_wt (d:=x) h'.1 h2'.1 (by omega)
  have q2:=shown_wtAll (xs:=xs) h'.2 h2'.2 (by omega)
  show (x.shown.length :: (PyData.shownAll xs).map (·.length)).sum+2 * ((PyData.shownAll xs).length+1)<=wtD x+2+wtAll xs
  rw [List.sum_cons]
  omega
end
theorem Xc {d:PyData} (h1:d.showable=true) (h2:d.hasDict=false) (h3:wtD d<=16777216):d.shown.length<=sizeLine:=by
 rw [sizeLine_eq]; exact Nat.le_trans (shown_wt h1 h2 h3) h3
abbrev JM:=Option (Option Int × Option Int)
def Rr (i:Int):Prop:=-(2 ^ 300) < i /\ i < 2 ^ 300
theorem QB {i:Int} (h:Rr i):JD i:=by
 show i.natAbs.log2 < 1920
 by_cases h0:i.natAbs=0
 ·rw [h0]; decide
 ·exact Nat.lt_of_lt_of_le ((Nat.log2_lt h0).mpr (show i.natAbs < 2 ^ 300 by obtain ⟨a,b⟩:=h; omega)) (by decide)
def oD:Option Int->PyData
 | none=>.none
 | some i=>.int i
theorem UZ {K:JN} {H:Hp} (o:Option Int):Dat K H (ov o) (oD o):=by cases o; exact .non; exact .int _
theorem jE {α:Type} (xs:List α):(xs.map (fun _=>true)).all id=true:=by rw [List.all_eq_true]; intro x hx; obtain ⟨_,_,rfl⟩:=List.mem_map.mp hx; rfl
theorem Ud (gs:List Int):(gs.map V.int).map (fun _=>V.bl true)=(gs.map (fun _=>true)).map V.bl:=by rw [List.map_map,List.map_map]; rfl
section
variable {K:JN} {a:Addr} {xs:List V} {lo:Int} {n k:Nat} {te:TE} {Q:VK} {σ:L2.St} {H:Hp}
theorem vp (Pv:Nat->List V->Hp->Prop) (h0:Pv 0 [] H)
  (hs:∀ i ys H',i < n->Pv i ys H' -> te (σ.set k (some (.int (lo+i)))) H' fun y H5=>ys.length < sizeLine /\ Pv (i+1) (ys ++ [y]) H5)
  (hd:∀ ys H',Pv n ys H' -> ∀ l,H' l=none->Q (.ref l) (JQ H' l (.lst ys))):qi (Itr lo n) σ H (vW k) Wp te Q:=by
 refine ⟨fun i m ys σ' H'=>m=n - i /\ i<=n /\ (σ' = σ \/ ∃ e,σ' = σ.set k e) /\ Pv i ys H',⟨n,by simp,Nat.zero_le _,.inl rfl,h0⟩,?_⟩
 rintro i m ys σ' H' ⟨rfl,hi,hσ,p⟩
 by_cases hlt:i < n
 ·refine .inr ⟨hlt,fun zs σ2 H2=>(σ2 = σ \/ ∃ e,σ2 = σ.set k e) /\ Pv (i+1) zs H2,fun zs σ2 H2 p'=>⟨n - (i+1),by omega,rfl,hlt,p'.1,p'.2⟩,fun x H2 y=>?_⟩
  obtain ⟨e,y⟩:=y
  subst e y
  have e:σ'.set k (some (V.int (lo+i))) = σ.set k (some (V.int (lo+i))):=by
   rcases hσ with rfl | ⟨e,rfl⟩
   ·rfl
   ·rw [List.set_set]
  show if true=true then te (σ'.set k (some (V.int (lo+i)))) H2 (fun y H5=>ys.length < sizeLine /\ ((σ'.set k (some (V.int (lo+i))) = σ \/ ∃ e,σ'.set k (some (V.int (lo+i))) = σ.set k e) /\ Pv (i+1) (ys ++ [y]) H5)) else ((σ'.set k (some (V.int (lo+i))) = σ \/ ∃ e,σ'.set k (some (V.int (lo+i))) = σ.set k e) /\ Pv (i+1) ys H2)
  rw [if_pos rfl,e]
  have e2:(fun (y:V) (H5:Hp)=>ys.length < sizeLine /\ ((σ.set k (some (V.int (lo+i))) = σ \/ ∃ e,σ.set k (some (V.int (lo+i))) = σ.set k e) /\ Pv (i+1) (ys ++ [y]) H5))=fun y H5=>ys.length < sizeLine /\ Pv (i+1) (ys ++ [y]) H5:=by
   funext y H5
   exact propext ⟨fun z=>⟨z.1,z.2.2⟩,fun z=>⟨z.1,.inr ⟨_,rfl⟩,z.2⟩⟩
  rw [e2]
  exact hs i ys H2 hlt p
 ·have e:i=n:=by omega
  subst e
  exact .inl ⟨Nat.le_refl _,hd ys H' p⟩
end
theorem Grow.less {m m':List Addr} {H H':Hp} (g:Grow m H H') (h:∀ b ∈ m,b ∈ m' \/ H b=none):Grow m' H H' :=
 ⟨fun b o n q=>g.keep b o (fun z=>by
  rcases h b z with w | w
  ·exact n w
  ·rw [w] at q; cases q) q,g.tup,g.frz⟩
theorem TW {n:Nat} {i:Int} (h0:0<=i) (h:i.toNat < n):ixN n i=some i.toNat:=by
 unfold ixN; rw [if_pos h0,if_pos (by omega)]
theorem Rs {xs:List V} {i:Int} {j:Nat} {v:V} (h:ixN xs.length i=some j) (hv:xs[j]? = some v):atI xs i=some v:=by
 unfold atI; rw [h]; exact hv
structure Ask where
 hand:Int
 box:Int
 deed:Deed
def vq (K:JN) (H:Hp) (x:V) (k:Ask):Prop:=∃ r rd,x = .ref r /\ J3 K H r [.int k.hand,.int k.box,.ref rd] /\ J3 K H rd k.deed.vs
def xL (K:JN) (H:Hp) (x:V) (b:List Int):Prop:=∃ r,x = .ref r /\ J3 K H r (b.map V.int)
def qj (m:Nat) (k:Ask):Prop:=0<=k.hand /\ k.hand<=15 /\ 0<=k.box /\ k.box < m /\ k.deed.Ok
theorem Grow.ask {m:List Addr} {H H':Hp} (g:Grow m H H') {K:JN} {x:V} {k:Ask} (h:vq K H x k):vq K H' x k:=by
 obtain ⟨r,rd,e,h1,h2⟩:=h
 exact ⟨r,rd,e,g.sqT h1,g.sqT h2⟩
theorem Grow.board {m:List Addr} {H H':Hp} (g:Grow m H H') {K:JN} {x:V} {b:List Int} (h:xL K H x b):xL K H' x b:=by
 obtain ⟨r,e,h1⟩:=h
 exact ⟨r,e,g.sqT h1⟩
def InB (B:Int) (xs:List Int):Prop:=∀ v ∈ xs,-B < v /\ v < B
def jF (xs:List Int):PyData:=.tuple (xs.map PyData.int)
def Ue (d:Deed):PyData:=.tuple [.int d.add,oD d.lo,oD d.hi]
theorem Yv {K:JN} {H:Hp}:∀ xs:List Int,DatAll K H (xs.map V.int) (xs.map PyData.int)
 | []=>.nil
 | x :: xs=>.cons (.int x) (Yv xs)
theorem Uf {K:JN} {H:Hp} {r:Addr} {d:Deed} (h:J3 K H r d.vs):Dat K H (.ref r) (Ue d):=.tup h (.cons (.int _) (.cons (UZ _) (.cons (UZ _) .nil)))
def Sh (d:PyData) (w n:Nat):Prop:=d.showable=true /\ d.hasDict=false /\ wtD d<=w /\ d.depth<=n
theorem Sh.mono {d:PyData} {w w' n n':Nat} (h:Sh d w n) (h1:w<=w') (h2:n<=n'):Sh d w' n':=⟨h.1,h.2.1,Nat.le_trans h.2.2.1 h1,Nat.le_trans h.2.2.2 h2⟩
def ShA (ds:List PyData) (w n:Nat):Prop:=PyData.showableAll ds=true /\ PyData.hasDictAll ds=false /\ wtAll ds<=w /\ PyData.depthAll ds<=n
theorem ub {n:Nat}:ShA [] 0 n:=⟨rfl,rfl,Nat.le_refl _,Nat.zero_le _⟩
theorem z9 {d:PyData} {ds:List PyData} {w v n:Nat} (h:Sh d w n) (t:ShA ds v n):ShA (d :: ds) (w+2+v) n:=by
 obtain ⟨a1,a2,a3,a4⟩:=h
 obtain ⟨b1,b2,b3,b4⟩:=t
 refine ⟨?_,?_,?_,?_⟩
 ·show (d.showable && PyData.showableAll ds)=true
  rw [a1,b1]; rfl
 ·show (d.hasDict || PyData.hasDictAll ds)=false
  rw [a2,b2]; rfl
 ·show wtD d+2+wtAll ds<=_; omega
 ·show max d.depth (PyData.depthAll ds)<=n; omega
theorem tE {ds:List PyData} {w n:Nat} (h:ShA ds w n):Sh (.tuple ds) (w+3) (n+1):=⟨h.1,h.2.1,Nat.add_le_add_right h.2.2.1 3,Nat.add_le_add_right h.2.2.2 1⟩
theorem Yw {ds:List PyData} {w n:Nat} (h:ShA ds w n):Sh (.list ds) (w+3) (n+1):=⟨h.1,h.2.1,Nat.add_le_add_right h.2.2.1 3,Nat.add_le_add_right h.2.2.2 1⟩
theorem uE {i:Int} {n:Nat} (h:Rr i):Sh (.int i) 1921 n:=⟨decide_eq_true (QB h),rfl,Nat.le_refl _,Nat.zero_le _⟩
theorem TX {o:Option Int} {n:Nat} (h:∀ i,o=some i->Rr i):Sh (oD o) 1921 n:=by
 cases o with
 | none=>exact ⟨rfl,rfl,(by show (5:Nat)<=1921; decide),Nat.zero_le _⟩
 | some i=>exact uE (h i rfl)
theorem uc {α:Type} {f:α -> PyData} {w n:Nat}:∀ {xs:List α},(∀ x ∈ xs,Sh (f x) w n)->ShA (xs.map f) (xs.length * (w+2)) n
 | [],_=>by rw [show ([]:List α).length * (w+2)=0 from Nat.zero_mul _]; exact ub
 | x :: xs,h=>by
  have z:=z9 (h x (by simp)) (uc (xs:=xs) fun y hy=>h y (List.mem_cons_of_mem _ hy))
  rw [show (x :: xs).length * (w+2)=w+2+xs.length * (w+2) by rw [List.length_cons,Nat.add_mul,Nat.one_mul,Nat.add_comm]]
  exact z
theorem ZG {xs:List Int} {n:Nat} (h:InB (2 ^ 300) xs):Sh (jF xs) (xs.length * 1923+3) (n+1):=tE (uc fun x hx=>uE (h x hx))
theorem Sh.fits {d:PyData} {w n:Nat} (h:Sh d w n) (hw:w<=16777216):d.shown.length<=sizeLine:=Xc h.1 h.2.1 (Nat.le_trans h.2.2.1 hw)
def ya (K:JN):Sp:=sp3 fun x y z H Q=>∃ i l u,x = .int i /\ y = .int l /\ z = .int u /\ Q (.bl (decide (l<=i) && decide (i<=u))) H
def tF (K:JN):Sp:=sp1 fun x H Q=>∃ b,xL K H x b /\ 1<=b.length /\ b.length<=16 /\ ∀ H',Grow [] H H' -> Q (.bl true) H'
def vw (K:JN):Sp:=sp1 fun x H Q=>∃ b,xL K H x b /\ 1<=b.length /\ b.length<=16 /\ ∀ H',Grow [] H H' -> Q .non H'
def sp4 (b:V->V->V->V->Hp->VK->Prop):Sp:=fun vs H Q _=>∃ x y z u,vs=[x,y,z,u] /\ b x y z u H Q
theorem ud {b:V->V->V->V->Hp->VK->Prop} {p q r s:Str}:∀ vs H Q E,sp4 b vs H Q E->vs.length=[p,q,r,s].length:=fun vs H Q E h=>by
 obtain ⟨x,y,z,u,rfl,_⟩:=h; rfl
def zT {α:Type} (R:V -> α -> Prop):List V->List α -> Prop
 | [],[]=>True
 | x :: xs,k :: ks=>R x k /\ zT R xs ks
 | _,_=>False
section
variable {α:Type} {R S:V -> α -> Prop}
theorem zT.imp (h:∀ x k,R x k->S x k):∀ {xs:List V} {ks:List α},zT R xs ks->zT S xs ks
 | [],[],_=>trivial
 | _ :: _,_ :: _,⟨a,t⟩=>⟨h _ _ a,zT.imp h t⟩
 | [],_ :: _,z=>z.elim
 | _ :: _,[],z=>z.elim
theorem zT.len:∀ {xs:List V} {ks:List α},zT R xs ks->xs.length=ks.length
 | [],[],_=>rfl
 | _ :: xs,_ :: ks,⟨_,t⟩=>congrArg (· + 1) (zT.len t)
 | [],_ :: _,h=>h.elim
 | _ :: _,[],h=>h.elim
theorem zT.get:∀ {xs:List V} {ks:List α} {i:Nat} {x:V},zT R xs ks->xs[i]? = some x -> ∃ k,ks[i]? = some k /\ R x k
 | _ :: _,k :: _,0,x,⟨h,_⟩,e=>by
  obtain rfl:=Option.some.inj e
  exact ⟨k,rfl,h⟩
 | _ :: _,_ :: _,i+1,x,⟨_,t⟩,e=>zT.get (i:=i) t e
 | [],[],i,x,_,e=>by cases e
 | [],_ :: _,_,_,h,_=>h.elim
 | _ :: _,[],_,_,h,_=>h.elim
theorem zT.getR:∀ {xs:List V} {ks:List α} {i:Nat} {k:α},zT R xs ks->ks[i]? = some k -> ∃ x,xs[i]? = some x /\ R x k
 | x :: _,_ :: _,0,k,⟨h,_⟩,e=>by
  obtain rfl:=Option.some.inj e
  exact ⟨x,rfl,h⟩
 | _ :: _,_ :: _,i+1,k,⟨_,t⟩,e=>zT.getR (i:=i) t e
 | [],[],i,k,_,e=>by cases e
 | [],_ :: _,_,_,h,_=>h.elim
 | _ :: _,[],_,_,h,_=>h.elim
theorem zT.app:∀ {xs ys:List V} {ks js:List α},zT R xs ks->zT R ys js->zT R (xs ++ ys) (ks ++ js)
 | [],_,[],_,_,h=>h
 | _ :: _,_,_ :: _,_,⟨h,t⟩,q=>⟨h,zT.app t q⟩
 | [],_,_ :: _,_,h,_=>h.elim
 | _ :: _,_,[],_,h,_=>h.elim
theorem zT.one {x:V} {k:α} (h:R x k):zT R [x] [k]:=⟨h,trivial⟩
theorem zT.take:∀ {xs:List V} {ks:List α} {n:Nat},zT R xs ks->zT R (xs.take n) (ks.take n)
 | [],[],n,_=>by rw [List.take_nil,List.take_nil]; trivial
 | _ :: _,_ :: _,0,_=>trivial
 | _ :: _,_ :: _,n+1,⟨h,t⟩=>⟨h,zT.take t⟩
 | [],_ :: _,_,h=>h.elim
 | _ :: _,[],_,h=>h.elim
end
theorem Ug {d:Deed} {n:Nat} (h:d.Bd (2 ^ 299)):Sh (Ue d) 5772 (n+1):=by
 have q:∀ i,-(2 ^ 299)<=i->i<=2 ^ 299->Rr i:=fun i a b=>by
  have e:(2:Int) ^ 300=2 * 2 ^ 299:=by rw [Int.pow_succ,Int.mul_comm]
  have p:(0:Int) < 2 ^ 299:=Int.pow_pos (by decide)
  exact ⟨by rw [e]; omega,by rw [e]; omega⟩
 exact tE (z9 (uE (q _ h.1.1 h.1.2)) (z9 (TX fun i e=>q i (h.2.1 i e).1 (h.2.1 i e).2) (z9 (TX fun i e=>q i (h.2.2 i e).1 (h.2.2 i e).2) ub)))
theorem zT.drop {α:Type} {R:V -> α -> Prop}:∀ {xs:List V} {ks:List α} {n:Nat},zT R xs ks->zT R (xs.drop n) (ks.drop n)
 | [],[],n,_=>by rw [List.drop_nil,List.drop_nil]; trivial
 | _ :: _,_ :: _,0,h=>h
 | _ :: _,_ :: _,n+1,⟨h,t⟩=>zT.drop (n:=n) t
 | [],_ :: _,_,h=>h.elim
 | _ :: _,[],_,h=>h.elim
theorem zT.cut {α:Type} {R:V -> α -> Prop} {xs:List V} {ks:List α} (h:zT R xs ks) (lo hi:Option Int):∃ us,zT R (qe xs lo hi) us /\ ∀ u ∈ us,u ∈ ks:=by
 unfold qe
 exact ⟨_,(h.drop (n:=HT.sIx xs.length 0 lo)).take (n:=HT.sIx xs.length xs.length hi - HT.sIx xs.length 0 lo),fun u hu=>List.mem_of_mem_drop (List.mem_of_mem_take hu)⟩
def sp5 (b:V->V->V->V->V->Hp->VK->Prop):Sp:=fun vs H Q _=>∃ x y z u w,vs=[x,y,z,u,w] /\ b x y z u w H Q
theorem Ww {b:V->V->V->V->V->Hp->VK->Prop} {p q r s t:Str}:∀ vs H Q E,sp5 b vs H Q E->vs.length=[p,q,r,s,t].length:=fun vs H Q E h=>by
 obtain ⟨x,y,z,u,w,rfl,_⟩:=h; rfl
section
variable {prog:Program} {w:World} {A:Around} {E:JO} {s:Shared}
theorem ZH {jt t:Addr} {i:Nat} {vs:Array Value} {v:Value} {Q:JO} (hit:s.heap.IsTupleIter jt t i) (ht:s.heap.IsTuple t vs) (hv:vs[i]? = some v)
  (hQ:∀ h',h'.IsTupleIter jt t (i+1)->Heap.SameBut jt s.heap h' -> Q v { s with heap:=h' }):wpAny (model prog w) A (Builtin.SmallTypes.nextOf (.ref jt)) Q E s:=by
 obtain ⟨oj,hoj,cj,dj⟩:=id hit
 obtain ⟨ot,hot,_,nt,dt⟩:=ht
 unfold Builtin.SmallTypes.nextOf
 refine wpAny_bind (wpAny_callSpecial?_slot (name:=Str.ofString "__next__") hit.typeIs F.slot_tuple_iterator_next (wpAny_call_entry F.slot_tuple_iterator_next hit.typeIs F.entry_tuple_iterator_next ?_ (F.args_tuple_iterator_next_1 _)))
 show wpAny _ _ (field (.ref jt) 0 >>= _) _ _ s
 refine wpAny_bind (wpAny_field hoj dj (x:=.ref t) rfl ?_); show wpAny _ _ (if (Value.ref t == Value.none)=true then _ else _) _ _ s
 rw [if_neg (show ¬ ((Value.ref t == Value.none)=true) by exact Bool.false_ne_true)]; show wpAny _ _ (field (.ref jt) 1 >>= _) _ _ s
 refine wpAny_bind (wpAny_field hoj dj (x:=.int i 0) rfl ?_); show wpAny _ _ (seqItems? (.ref t) >>= _) _ _ s
 refine wpAny_bind (wpAny_seqItems hot dt ?_); simp only [Int.toNat_natCast,hv]
 refine wpAny_bind (wpAny_setField hoj dj (by simp) (wpAny_pure ⟨v,rfl,wpAny_pure (hQ _ ⟨_,Heap.get?_update_self _ hoj (Obj.isFreed_of_fields (Obj.data_mapFields dj _)),(Obj.cls_mapFields ..).trans cj,by rw [Obj.data_mapFields dj]; simp [rawInt]⟩ (Heap.SameBut.update ..))⟩))
theorem rh {jt t:Addr} {i:Nat} {vs:Array Value} {Q:JO} (hh:A.handled=none) (hit:s.heap.IsTupleIter jt t i) (ht:s.heap.IsTuple t vs) (hv:vs[i]? = none)
  (hE:∀ h' e,Heap.ExtBut jt s.heap h' -> (∃ o,h'.get? e=some o /\ o.cls = .type "StopIteration")->E (.ref e) { s with heap:=h' }):wpAny (model prog w) A (Builtin.SmallTypes.nextOf (.ref jt)) Q E s:=by
 obtain ⟨oj,hoj,cj,dj⟩:=id hit
 obtain ⟨ot,hot,_,nt,dt⟩:=ht
 unfold Builtin.SmallTypes.nextOf
 refine wpAny_bind (wpAny_callSpecial?_slot (name:=Str.ofString "__next__") hit.typeIs F.slot_tuple_iterator_next (wpAny_call_entry F.slot_tuple_iterator_next hit.typeIs F.entry_tuple_iterator_next ?_ (F.args_tuple_iterator_next_1 _)))
 show wpAny _ _ (field (.ref jt) 0 >>= _) _ _ s
 refine wpAny_bind (wpAny_field hoj dj (x:=.ref t) rfl ?_); show wpAny _ _ (if (Value.ref t == Value.none)=true then _ else _) _ _ s
 rw [if_neg (show ¬ ((Value.ref t == Value.none)=true) by exact Bool.false_ne_true)]; show wpAny _ _ (field (.ref jt) 1 >>= _) _ _ s
 refine wpAny_bind (wpAny_field hoj dj (x:=.int i 0) rfl ?_); show wpAny _ _ (seqItems? (.ref t) >>= _) _ _ s
 refine wpAny_bind (wpAny_seqItems hot dt ?_); simp only [Int.toNat_natCast,hv]
 refine wpAny_bind (wpAny_rule (wpAny_bind (wpAny_setField hoj dj (by simp) ?_))); show wpAny _ _ (newExc (.type "StopIteration") [] >>= _) _ _ _
 refine wpAny_bind ?_; simp only [newExc,newTuple]
 refine wpAny_bind (wpAny_newObj_type ?_ (by size_fits)); refine wpAny_bind (m:=firstArgMember _ _) (wpAny_of_eq (a:=Value.none) (by first | rfl | (simp only [firstArgMember]; rfl)) ?_)
 refine wpAny_newObj_type ?_ (by size_fits); simp only [raiseNew]
 refine wpAny_bind (wpAny_handled ?_); (first | rw [show A.in1.handled=none from hh] | rw [hh])
 exact wpAny_bind (wpAny_pure (wpAny_throw (hE _ _ (((Heap.SameBut.update ..).extBut.push _).push _) ⟨_,Heap.get?_push_size _ rfl,rfl⟩)))
end
theorem Wx {prog:Program} {w:World} {A:Around} (hh:A.handled=none) (jt t:Addr) (hne:t ≠ jt) (vs:Array Value) :
  Draws prog w A jt [jt,t] vs.size (fun i v=>vs[i]? = some v) (fun i h=>h.IsTupleIter jt t i /\ h.IsTuple t vs) where
 live:=fun _ _ st=>let ⟨o,ho,_⟩:=st.1; ⟨o,ho⟩
 frame:=fun _ _ _ st hk=>⟨st.1.at (hk jt (by simp)),st.2.at (hk t (by simp))⟩
 item:=fun i s Q E hi st hQ=>ZH st.1 st.2 (v:=vs[i]) (by simp [hi]) fun h' hit' hs'=>hQ _ h' s.toks (by simp [hi]) ⟨hit',st.2.extBut hs'.extBut hne⟩ hs'
 done:=fun s Q E st hE=>rh hh st.1 st.2 (by simp) hE
theorem Wy {prog:Program} {w:World} {A:Around} (hh:A.handled=none) (jt t:Addr) (vs:Array Value) {i:Nat} (hv:vs[i]? = none) :
  Draws prog w A jt [jt,t] i (fun _ _=>True) (fun j h=>j=i /\ h.IsTupleIter jt t i /\ h.IsTuple t vs) where
 live:=fun _ _ st=>let ⟨o,ho,_⟩:=st.2.1; ⟨o,ho⟩
 frame:=fun _ _ _ st hk=>⟨st.1,st.2.1.at (hk jt (by simp)),st.2.2.at (hk t (by simp))⟩
 item:=fun j s Q E hj st hQ=>absurd st.1 (Nat.ne_of_lt hj)
 done:=fun s Q E st hE=>rh hh st.2.1 st.2.2 hv hE
section
variable {X:Cx} {pins:List (Addr × Obj)} {σ:L2.St} {H:Hp} {s:Shared} {h':Heap}
theorem Wz {fp:List Addr} {t':Nat} (I:Inv X pins σ H s) (k:∀ b o,b ∉ fp->s.heap.get? b=some o->h'.get? b=some o) (ff:∀ b ∈ fp,vg X pins H b):Inv X pins σ H { s with heap:=h',toks:=t' }:=by
 have nit:∀ b u,H b=some u->b ∉ fp:=fun b u e z=>by rw [(ff b z).1] at e; cases e
 refine I.step (g':=s.gens) (d':=s.drawn) (ch:=fp) (fun b hb=>?_) (fun b o _ _ hc e _=>k b o hc e) (fun b o _ _ hc e _=>⟨o.slots,k b o hc e⟩) (fun _ _ _ _ n=>n) (fun b o hc e=>⟨o,k b o hc e⟩) (fun _ _ e=>e) (fun _ _ _ e=>e) (fun b ps e=>⟨#[],by rw [e]; simp⟩) (fun m hm=>?_) (fun b u e=>?_) I.bare
 ·obtain ⟨_,f1,_,f3,f4,f5⟩:=ff b hb
  exact ⟨f3,f1,f4,f5⟩
 ·obtain ⟨o,es,ep,ho,r⟩:=hm
  exact ⟨o,es,ep,k _ o (fun z=>(ff _ z).2.1 rfl) ho,r⟩
 ·refine (I.hok b u e).stay (fun c v hc q=>k c v ?_ q) (fun _ q=>q) fun _ _ q=>q
  rcases hc with z | z
  ·rw [z]; exact nit b u e
  ·exact nit c _ z
theorem Uh {fp:List Addr} {T:Addr} {o:HO} {t':Nat} (I:Inv X pins σ H s) (k:∀ b o,b ∉ fp->s.heap.get? b=some o->h'.get? b=some o) (ff:∀ b ∈ fp,vg X pins H b) (hT:s.heap.objs.size<=T)
  (new:yw X.prog X.w (JQ H T o) h' T o):Inv X pins σ (JQ H T o) { s with heap:=h',toks:=t' }:=by
 have hn:H T=none:=I.hok.fresh hT
 have I1:Inv X pins σ H { s with heap:=h',toks:=t' }:=Wz I k ff
 have hok:JR X.prog X.w (JQ H T o) h':=JR.track I1.hok hn new
 refine I.step (g':=s.gens) (d':=s.drawn) (ch:=fp) (fun b hb=>?_) (fun b o _ _ hc e _=>k b o hc e) (fun b o _ _ hc e _=>⟨o.slots,k b o hc e⟩) (fun b u _ e n=>by rw [zu (Nat.ne_of_lt (Nat.lt_of_lt_of_le (Heap.lt_size e) hT))]; exact n) (fun b o hc e=>⟨o,k b o hc e⟩)
  (fun b xs e=>by rw [zu (zA e hn)]; exact e) (fun b u xs e=>by rw [zu (zA e hn)]; exact e) (fun b ps e=>⟨#[],by rw [zu (zA e hn),e]; simp⟩) (fun m hm=>?_) hok I.bare
 ·obtain ⟨_,f1,_,f3,f4,f5⟩:=ff b hb
  exact ⟨f3,f1,f4,f5⟩
 ·obtain ⟨o,es,ep,ho,r⟩:=hm
  exact ⟨o,es,ep,k _ o (fun z=>(ff _ z).2.1 rfl) ho,r⟩
end
section
variable {X:Cx} {elts:List Expr} {kt:Nat} {pt:Pos}
theorem Rt:bootBuiltins "enumerate" = some (.type "enumerate"):=by decide +kernel
end
theorem zT.set {α:Type} {R:V -> α -> Prop} {x:V} {k:α} (h:R x k):∀ {xs:List V} {ks:List α} {n:Nat},zT R xs ks->zT R (xs.set n x) (ks.set n k)
 | [],[],n,_=>by cases n <;> trivial
 | _ :: _,_ :: _,0,⟨_,t⟩=>⟨h,t⟩
 | _ :: _,_ :: _,n+1,⟨a,t⟩=>⟨a,zT.set h t⟩
 | [],_ :: _,_,z=>z.elim
 | _ :: _,[],_,z=>z.elim
def xF (k st l:Int):Int:=Builtin.bitAnd (l / 2 ^ (k - st).toNat) 1
def wfI (k st l w:Int):Int:=Builtin.bitXor l (Builtin.bitXor (xF k st l) w * 2 ^ (k - st).toNat)
def swI (k st l:Int):Int:=Builtin.bitOr (l / 2 ^ (k - st+1).toNat * 2 ^ (k - st).toNat) (Builtin.bitAnd l (1 * 2 ^ (k - st).toNat - 1))
def Ru (k n:Int):List Int:=(List.range k.toNat).map fun i:Nat=>Builtin.bitAnd (n / 2 ^ (k - 1 - (0+(i:Int))).toNat) 1
def JH (xs:List Int):Int:=xs.foldl (fun f o=>2 * f+o) 0
def WA (k l:Int) (st:Nat):Int:=JH ((Ru k l).take (st - 1) ++ (Ru k l).drop st)
theorem WB:∀ k:Fin 5,∀ st:Fin 5,st.val<=k.val -> ∀ l:Fin 16,(xF k.val st.val l.val=0 \/ xF k.val st.val l.val=1) /\ ∀ w:Fin 2,(Builtin.bitXor (xF k.val st.val l.val) w.val).natAbs < 2:=by
 decide +kernel
theorem WC {i j:Int} (h:-(2 ^ 60) < i /\ i < 2 ^ 60):IntMulOk i j:=PySem.IntMulOk.of_left (Nat.le_trans ((PySem.intBits_le_iff (m:=60)).mpr (by obtain ⟨a,b⟩:=h; omega)) (by decide))
theorem wv {k:Nat} (h:k<=4):SG 1 (k:Int):=⟨by omega,by omega,by decide⟩
theorem ue {k:Nat} (h:k<=4):(2:Nat) ^ k<=16:=Nat.le_trans (Nat.pow_le_pow_right (by decide) h) (by decide)
theorem qk {k:Nat}:(1:Int) * 2 ^ ((k:Int)).toNat=((2 ^ k:Nat):Int):=by rw [Int.toNat_natCast,Int.one_mul,Int.natCast_pow]; rfl
theorem Q8 {k st:Nat} {l:Int} (k4:k<=4) (hs:st<=k) (l0:0<=l) (l1:l < 16):(xF k st l=0 \/ xF k st l=1) /\ ∀ w:Int,w=0 \/ w=1->(Builtin.bitXor (xF k st l) w).natAbs < 2 ^ 64:=by
 obtain ⟨n,rfl⟩:∃ n:Nat,l=n:=⟨l.toNat,by omega⟩
 have z:=WB ⟨k,by omega⟩ ⟨st,by omega⟩ hs ⟨n,by omega⟩
 refine ⟨z.1,fun w hw=>?_⟩
 rcases hw with rfl | rfl
 ·exact Nat.lt_trans (z.2 0) (by decide)
 ·exact Nat.lt_trans (z.2 1) (by decide)
theorem QC {ys:List Int} {v:Int}:atI ((ys ++ [v]).map V.int) (-1)=some (V.int v):=by
 refine Rs (j:=ys.length) ?_ ?_
 ·unfold ixN
  rw [List.length_map,List.length_append,if_neg (by decide),if_pos (by show -((ys.length+1:Nat):Int) <= -1; omega)]
  exact congrArg some (by show (-1+((ys.length+1:Nat):Int)).toNat=ys.length; omega)
 ·rw [List.getElem?_map]; simp
def wB (_:JN):Sp:=sp2 fun x y H Q=>∃ k l:Nat,x = .int k /\ y = .int l /\ k<=4 /\ l < 2 ^ k /\ Q (.bl true) H
def tG (_:JN):Sp:=sp1 fun x H Q=>∃ k:Nat,x = .int k /\ k<=4 /\ Q .non H
def uF (_:JN):Sp:=sp2 fun x y H Q=>∃ k l:Nat,x = .int k /\ y = .int l /\ k<=4 /\ l < 2 ^ k /\ Q .non H
def tH (_:JN):Sp:=sp3 fun x y z H Q=>∃ (k st:Nat) (l:Int),x = .int k /\ y = .int st /\ z = .int l /\ st<=k /\ Q (.int (xF k st l)) H
def wR (_:JN):Sp:=sp4 fun x y z u H Q=>∃ (k st:Nat) (l w:Int),x = .int k /\ y = .int st /\ z = .int l /\ u = .int w /\ k<=4 /\ st<=k /\ 0<=l /\ l < 16 /\ (w=0 \/ w=1) /\ Q (.int (wfI k st l w)) H
def jG (_:JN):Sp:=sp4 fun x y z u H Q=>∃ (k st:Nat) (l s:Int),x = .int k /\ y = .int st /\ z = .int l /\ u = .int s /\ k<=4 /\ st<=k /\ 0<=l /\ l < 16 /\ 0<=s /\ s < 16 /\ Q (.int (wfI k st l (xF k st s))) H
def uG (_:JN):Sp:=sp3 fun x y z H Q=>∃ (k st:Nat) (l:Int),x = .int k /\ y = .int st /\ z = .int l /\ k<=4 /\ st<=k /\ 0<=l /\ l < 16 /\ Q (.int (swI k st l)) H
section
variable {prog:Program} {w:World} {A:Around} {R:Result->Shared->Prop} {s:Shared}
variable {elt t0 i0 t1 i1:Expr} {ifs:List Expr} {scope:Scope} {pos:Pos} {it acc:Value} {env:Env}
def noX:JO:=fun _ _=>False
end
section
variable {X:Cx} {pins:List (Addr × Obj)} {σ:L2.St} {H2:Hp} {s₂:Shared} {it:Addr} {fp:List Addr} {tn:Nat->Heap->Prop} {J:It} {scope:Scope} {cl:List (Str × Addr)} {N':List Str} {sub:List (Option Nat)}
theorem WD {C D:Addr} {s₀:Shared} {tg:Expr} {pos:Pos} {elt iter:Expr} {ifs:List Expr} {g:TG} {tt:TT} {te:TE} {Q:VK} {RR:Value->Addr->Result->Shared->Prop} {W:Nat->Nat->List V->L2.St->Hp->Prop}
  (I:Inv X pins σ H2 s₂) (hcalm:X.calm=true) (T:Turn X.prog X.w X.K tg J fp it tn) (f2:∀ b ∈ fp,vg X pins H2 b) (hfp:∀ b ∈ fp,b < s₂.heap.objs.size)
  (hs₀:∀ b o,s₂.heap.get? b=some o->s₀.heap.get? b=some o) (hos:s₀.os=s₂.os) (hD:s₂.heap.objs.size<=D) (hC:s₂.heap.objs.size<=C) (hDC:D ≠ C)
  (hcl1:∀ x c,cl.lookup x=some c->X.env.cells.lookup x=some c)
  (hg:PG (cxC X N' scope cl C D fp s₀ H2) tg g) (ht:VO (cxC X N' scope cl C D fp s₀ H2) ifs tt) (he:PE (cxC X N' scope cl C D fp s₀ H2) elt te)
  (turn:∀ i m ys σ' H',W i m ys σ' H' →
   (J.stop i H' /\ ∀ l,H' l=none->Q (.ref l) (JQ H' l (.lst ys))) ∨
   (J.go i H' /\ ∃ Nn:List V->L2.St->Hp->Prop,(∀ zs σ2 H2,Nn zs σ2 H2 -> ∃ m',m' < m /\ W (i+1) m' zs σ2 H2) ∧
    ∀ x H2,J.yld i H' x H2->g x σ' H2 fun σ2 H3=>tt σ2 H3 fun b H4=>if b=true then te σ2 H4 fun y H5=>ys.length < sizeLine /\ Nn (ys ++ [y]) σ2 H5 else Nn ys σ2 H4))
  (hRR:∀ (D C:Addr) (oC:Obj) (m:Str->Option Value) (s':Shared) (Hf:Hp),Inv X (pins ++ [(C,oC)]) σ Hf s' -> s'.heap.Ns C m->vg X pins Hf C->Q (.ref D) Hf->RR (.ref D) C (.ok .next) s')
  (n:Nat) (s:Shared) (h:∃ i ys us k σ' H',Inv (cxC X N' scope cl C D fp s₀ H2) pins σ' H' s /\ tn i s.heap /\ (∀ b ∈ fp,H' b=none) /\ H' D=none ∧
   s.heap.get? D=some { cls:=.type "list",data:=.seq (us:List Value).toArray k } /\ zX ys us /\ ys.length<=sizeLine /\ W i n ys σ' H') :
  codeAny (model X.prog X.w) X.A (.compLoop (.ListComp elt [⟨tg,iter,ifs,0⟩] scope pos) 0 (.ref it) (.ref D) (compEnvC scope cl C X.env)) (RR (.ref D) C) s:=by
 have frsz:∀ b ∈ JU X.stack,b < s₂.heap.objs.size:=fun b hb=>by
  rcases List.mem_cons.mp (I.stkSub b hb) with z | z
  ·rw [z]; exact I.lt
  ·exact Nat.lt_of_not_le fun q=>I.nofs q z
 have cells:∀ x c,cl.lookup x=some c->c < s₂.heap.objs.size:=fun x c e=>let ⟨v,q⟩:=I.cell x c (hcl1 x c e); q.lt
 have pinsz:∀ p ∈ X.pn ++ pins,p.1 < s₂.heap.objs.size:=fun p hp=>Heap.lt_size (I.pin p hp).1
 refine Wo (fun n s=>∃ i ys us k σ' H',Inv (cxC X N' scope cl C D fp s₀ H2) pins σ' H' s /\ tn i s.heap /\ (∀ b ∈ fp,H' b=none) /\ H' D=none ∧
   s.heap.get? D=some { cls:=.type "list",data:=.seq (us:List Value).toArray k } /\ zX ys us /\ ys.length<=sizeLine /\ W i n ys σ' H') ?_ n h
 rintro n s ⟨i,ys,us,k,σ',H',I',st',fr,hn,hy,rv,hz,w'⟩
 have pD:Inv (cxC X N' scope cl C D fp s₀ H2) (pins ++ [(D,{ cls:=.type "list",data:=.seq us.toArray k })]) σ' H' s:=I'.pins_of fun p hp=>by
  rcases List.mem_append.mp hp with hp | hp
  ·exact I'.pin p (List.mem_append_right _ hp)
  ·rw [List.mem_singleton.mp hp]
   exact ⟨hy,hn,hDC,fun z=>absurd (Nat.lt_of_lt_of_le (frsz _ z) hD) (Nat.lt_irrefl _),fun v z=>by cases z⟩
 have fpok:∀ {H'':Hp},(∀ b ∈ fp,H'' b=none) -> ∀ b ∈ fp,vg (cxC X N' scope cl C D fp s₀ H2) (pins ++ [(D,{ cls:=.type "list",data:=.seq us.toArray k })]) H'' b:=fun hz b hb=>by
  refine ⟨hz b hb,Nat.ne_of_lt (Nat.lt_of_lt_of_le (hfp b hb) hC),fun z=>?_,.inl (List.mem_cons_of_mem _ hb),fun x c e=>(f2 b hb).2.2.2.2.1 x c (hcl1 x c e),fun p hp=>?_⟩
  ·rcases List.mem_cons.mp (I.stkSub b z) with z | z
   ·exact (f2 b hb).2.1 z
   ·exact (f2 b hb).2.2.1 z
  ·rcases List.mem_append.mp hp with hp | hp
   ·exact (f2 b hb).2.2.2.2.2 p (List.mem_append_left _ hp)
   ·rcases List.mem_append.mp hp with hp | hp
    ·exact (f2 b hb).2.2.2.2.2 p (List.mem_append_right _ hp)
    ·rw [List.mem_singleton.mp hp]
     exact Nat.ne_of_gt (Nat.lt_of_lt_of_le (hfp b hb) hD)
 rcases turn i n ys σ' H' w' with ⟨stop,q⟩ | ⟨go,Nn,hN,step⟩
 ·refine JY (T.done (cxC X N' scope cl C D fp s₀ H2) rfl rfl rfl hcalm i _ s σ' H' (fun _ _=>False) pD (fpok fr) st' stop) fun r s1 ⟨hr,I1⟩=>?_
  subst hr
  have hy1:=(I1.pin (D,{ cls:=.type "list",data:=.seq us.toArray k }) (by simp)).1
  obtain ⟨m,hm,_⟩:=I1.loc
  obtain ⟨oC,es,ep,hoC,hdC,_⟩:=id hm
  obtain ⟨IX,fpc⟩:=V6 I hs₀ hos hD hC hDC f2 I1.unpinned hn hy1 rv hz hoC (by intro v z; rw [hdC] at z; cases z)
  exact hRR D C oC m s1 _ IX hm fpc (q D hn)
 ·refine JY (T.item (cxC X N' scope cl C D fp s₀ H2) rfl rfl rfl hcalm i _ s σ' H' (fun _ _=>False) pD (fpok fr) st' go) fun r s1 ⟨u,hr,h4⟩=>?_
  subst hr
  refine JY h4 fun _ s2 ⟨x5,H5,I5,r5,y5,st5,fr5⟩=>?_
  have I5':=I5.pinned (fpok fr5) (T.obj _ _ st5)
  refine JY (hg _ s2 σ' H5 x5 u _ I5' r5 (step x5 H5 y5)) fun _ s3 ⟨σ6,H6,I6,q6⟩=>?_
  refine JY (ht _ s3 σ6 H6 _ I6 q6) fun ok s4 ⟨H7,I7,q7⟩=>?_
  have stay:∀ {σ7:L2.St} {H7:Hp} {s7:Shared},Inv (cxC X N' scope cl C D fp s₀ H2) (pins ++ [(D,{ cls:=.type "list",data:=.seq us.toArray k })] ++ vi fp s2.heap) σ7 H7 s7 →
    (∀ b ∈ fp,∀ o,s2.heap.get? b=some o->s7.heap.get? b=some o) /\ (∀ b ∈ fp,H7 b=none) /\ H7 D=none /\ s7.heap.get? D=some { cls:=.type "list",data:=.seq us.toArray k }:=fun {σ7 H7 s7} I7=>by
   have d:=I7.pin (D,{ cls:=.type "list",data:=.seq us.toArray k }) (by simp)
   refine ⟨fun b hb o e=>(I7.pin (b,o) (List.mem_append_right _ (List.mem_append_right _ (yM hb e)))).1,fun b hb=>?_,d.2.1,d.1⟩
   obtain ⟨o,e,_⟩:=T.obj _ _ st5 b hb
   exact (I7.pin (b,o) (List.mem_append_right _ (List.mem_append_right _ (yM hb e)))).2.1
  cases ok with
  | false =>
   rw [if_neg (by decide)] at q7 ⊢
   obtain ⟨k1,k2,k3,k4⟩:=stay I7
   obtain ⟨m',hm,w7⟩:=hN ys σ6 H7 q7
   exact ⟨m',hm,i+1,ys,us,k,σ6,H7,I7.unpinned.unpinned,T.keep _ _ _ st5 k1,k2,k3,k4,rv,hz,w7⟩
  | true =>
   rw [if_pos rfl] at q7 ⊢
   refine JY (he _ s4 σ6 H7 _ I7 q7) fun v s5 ⟨y,H8,I8,r8,hl8,n8⟩=>?_
   obtain ⟨k1,k2,k3,k4⟩:=stay I8
   refine wpAny_list_append_plain (l:=D) ⟨k,k4⟩ (fun h' pl sb=>?_) (by rw [List.size_toArray,← rv.length]; exact hz)
   obtain ⟨k',e'⟩:=pl
   obtain ⟨m',hm,w8⟩:=hN _ σ6 H8 n8
   refine ⟨m',hm,i+1,ys ++ [y],us ++ [v],k',σ6,H8,?_,T.keep _ _ _ (T.keep _ _ _ st5 k1) fun b hb o e=>sb.extBut b o (Nat.ne_of_lt (Nat.lt_of_lt_of_le (hfp b hb) hD)) e,k2,k3,?_,rv.append (.cons r8 .nil),?_,w8⟩
   ·exact (I8.unpinned.unpinned).turned (it:=D) (t':=s5.toks) (h':=h') (fun b o hb e=>sb.extBut b o hb e) k3 hDC (.inl (by simp)) (fun x c e=>Nat.ne_of_lt (Nat.lt_of_lt_of_le (cells x c e) hD)) (fun p hp=>Nat.ne_of_lt (Nat.lt_of_lt_of_le (pinsz p hp) hD))
   ·rw [e']; simp
   ·rw [List.length_append]; exact hl8
theorem tI {tg:Expr} {pos:Pos} {elt iter:Expr} {ifs:List Expr} {g:TG} {tt:TT} {te:TE} {E:JO} {Q:VK} {RR:Value->Addr->Result->Shared->Prop}
  (I:Inv X pins σ H2 s₂) (hcalm:X.calm=true) (T:Turn X.prog X.w X.K tg J fp it tn) (st:tn 0 s₂.heap) (f2:∀ b ∈ fp,vg X pins H2 b)
  (S:CSc X scope N' sub) (hcl1:∀ x c,cl.lookup x=some c->X.env.cells.lookup x=some c) (hcl2:∀ y ∈ scope.names,y.2 = .free -> ∃ c,cl.lookup y.1=some c)
  (hg:∀ C D fp s H,PG (cxC X N' scope cl C D fp s H) tg g) (ht:∀ C D fp s H,VO (cxC X N' scope cl C D fp s H) ifs tt) (he:∀ C D fp s H,PE (cxC X N' scope cl C D fp s H) elt te)
  (hW:qi J (VP sub σ) H2 g tt te Q)
  (hRR:∀ (D C:Addr) (oC:Obj) (m:Str->Option Value) (s':Shared) (Hf:Hp),Inv X (pins ++ [(C,oC)]) σ Hf s' -> s'.heap.Ns C m->vg X pins Hf C->Q (.ref D) Hf->RR (.ref D) C (.ok .next) s') :
  wpAny (model X.prog X.w) X.A (newList []) (fun acc s₃=>wpAny (model X.prog X.w) X.A (newFunctionEnv scope X.env.globals cl [] X.env.qual none .none (some X.env)) (fun cenv s₄ =>
   codeAny (model X.prog X.w) X.A (.compStart (.ListComp elt [⟨tg,iter,ifs,0⟩] scope pos) 0 (.ref it) acc { cenv with scope:=relabel scope X.env }) (RR acc cenv.locals) s₄) E s₃) E s₂:=by
 obtain ⟨W,⟨m0,w0⟩,turn⟩:=hW
 refine wpAny_newObj_type (wpAny_newFunctionEnv S.nocell (by intro y hy; simp at hy) (fun h₁ hns₁ hsb₁=>?_) S.kind)
 dsimp only at hns₁ hsb₁ ⊢
 have hC:(s₂.heap.push { cls:=.type "list",dict:=none,data:=.seq ([]:List Value).toArray }).objs.size=s₂.heap.objs.size+1:=Heap.size_push ..
 rw [hC] at hns₁ hsb₁ ⊢
 have hk:∀ b o,(s₂.heap.push { cls:=.type "list",dict:=none,data:=.seq ([]:List Value).toArray }).get? b=some o->h₁.get? b=some o:=fun b o e =>
  hsb₁.extBut b o (by have:=Heap.lt_size e; rw [hC] at this; exact Nat.ne_of_lt this) (Heap.get?_push_of_some _ e)
 have hfp:∀ b ∈ fp,b < s₂.heap.objs.size:=fun b hb=>by
  obtain ⟨o,e,_⟩:=T.obj _ _ st b hb
  exact Heap.lt_size e
 have I0:=rf (tk:=s₂.toks+([]:List (Str × Value)).length) I S hcl1 hcl2 f2 hfp hns₁ hk
 have hD0:h₁.get? s₂.heap.objs.size=some { cls:=.type "list",data:=.seq ([]:List Value).toArray 0 }:=hk _ _ (Heap.get?_push_size _ rfl)
 have loop:codeAny (model X.prog X.w) X.A (.compLoop (.ListComp elt [⟨tg,iter,ifs,0⟩] scope pos) 0 (.ref it) (.ref s₂.heap.objs.size) (compEnvC scope cl (s₂.heap.objs.size+1) X.env)) (RR (.ref s₂.heap.objs.size) (s₂.heap.objs.size+1)) { s₂ with heap:=h₁,toks:=s₂.toks+([]:List (Str × Value)).length } :=
  WD (s₀:={ s₂ with heap:=s₂.heap.push { cls:=.type "list",dict:=none,data:=.seq ([]:List Value).toArray } }) (C:=s₂.heap.objs.size+1) (D:=s₂.heap.objs.size) I hcalm T f2 hfp (fun b o e=>Heap.get?_push_of_some _ e) rfl (Nat.le_refl _) (Nat.le_succ _) (Nat.ne_of_lt (Nat.lt_succ_self _)) hcl1 (hg _ _ _ _ _) (ht _ _ _ _ _) (he _ _ _ _ _) turn hRR m0 _
   ⟨0,[],[],0,VP sub σ,H2,I0,T.keep _ _ _ st fun b hb o e=>hk b o (Heap.get?_push_of_some _ e),fun b hb=>(f2 b hb).1,I.hok.fresh (Nat.le_refl _),hD0,.nil,Nat.zero_le _,w0⟩
 exact codeAny_compStart_list loop (T.self _ _ _ _ _ (T.keep _ _ _ st fun b hb o e=>hk b o (Heap.get?_push_of_some _ e)) loop)
end
section
variable {X:Cx} {scope:Scope} {N':List Str} {sub:List (Option Nat)} {tg:Expr} {pos:Pos} {elt iter:Expr} {ifs:List Expr} {wi:TI} {g:TG} {tt:TT} {te:TE}
theorem xH (S:CSc X scope N' sub) (hcalm:X.calm=true) (hi:PI X tg iter wi)
  (hg:∀ cl C D fp s H,PG (cxC X N' scope cl C D fp s H) tg g) (ht:∀ cl C D fp s H,VO (cxC X N' scope cl C D fp s H) ifs tt) (he:∀ cl C D fp s H,PE (cxC X N' scope cl C D fp s H) elt te)
  (hs:∀ x,foldedSetIterable iter X.env x=pure x:=by intro _; rfl):PE X (.ListComp elt [⟨tg,iter,ifs,0⟩] scope pos) (Rj wi sub g tt te):=by
 intro pins s σ H Q I h
 obtain ⟨cl,hclos,hcl1,hcl2⟩:=S.clos I
 rw [eval_ListComp]
 refine wpAny_comprehension_free (use:=none) rfl hs hclos S.kind S.names (JY (hi pins s σ H _ I h) fun v s1 h1=>JY h1 fun itv s2 h2=>?_)
 obtain ⟨it,fp,tn,J,H2,e,I2,T,st2,f2,hW⟩:=h2
 subst e
 refine tI (RR:=fun acc C=>compPost (model X.prog X.w) X.A X.xe none (EP X pins σ Q) acc C) I2 hcalm T st2 f2 S hcl1 hcl2 (hg cl) (ht cl) (he cl) hW ?_
 intro D C oC m s' Hf IX hm fpc q
 refine ⟨m,hm,fun h' sb=>⟨.ref D,Hf,?_,rfl,q⟩⟩
 exact (IX.unpinned).turned (it:=C) (t':=s'.toks) (h':=h') (fun b o hb e=>sb.extBut b o hb e) fpc.1 fpc.2.1 fpc.2.2.2.1 fpc.2.2.2.2.1 fpc.2.2.2.2.2
theorem vy {i:Nat} {y:Str} {py spos:Pos} (hN:X.N.Nodup) (hiN:X.N[i]? = some y) (hy:X.env.scope.names.lookup y=some .local) (S:CSc X scope N' sub) (hcalm:X.calm=true) (hi:PI X tg iter wi)
  (hg:∀ cl C D fp s H,PG (cxC X N' scope cl C D fp s H) tg g) (ht:∀ cl C D fp s H,VO (cxC X N' scope cl C D fp s H) ifs tt) (he:∀ cl C D fp s H,PE (cxC X N' scope cl C D fp s H) elt te)
  (hsw:swapsWith (.ListComp elt [⟨tg,iter,ifs,0⟩] scope pos) (some (.Name y py)) spos.line X.env=pure true:=by rfl)
  (hs:∀ x,foldedSetIterable iter X.env x=pure x:=by intro _; rfl):PS X (.Assign [.Name y py] (.ListComp elt [⟨tg,iter,ifs,0⟩] scope pos) spos) (R5 (Rj wi sub g tt te) (vW i)):=by
 intro pins s σ H D I h
 obtain ⟨cl,hclos,hcl1,hcl2⟩:=S.clos I
 rw [exec_Assign_Name_used _ _ _ _ hsw]
 refine wpAny_bind (wpAny_standAt (wpAny_bind ?_))
 show wpAny _ X.A (do let _ ← comprehension (.ListComp elt [⟨tg,iter,ifs,0⟩] scope pos) scope X.env _ (newList []) false (eval iter X.env) (some (assign (.Name y py) X.env))) _ _ s
 refine wpAny_bind (wpAny_mono (wpAny_comprehension_free (use:=some (assign (.Name y py) X.env)) (Q:=fun _ s'=>SP X pins D .next s') rfl hs hclos S.kind S.names
  (JY (hi pins s σ H _ I h) fun v s1 h1=>JY h1 fun itv s2 h2=>?_)) (fun _ s' hq=>wpAny_pure (wpAny_pure hq)) fun _ _ e=>e)
 obtain ⟨it,fp,tn,J,H2,e,I2,T,st2,f2,hW⟩:=h2
 subst e
 refine tI (Q:=fun x H1=>vW i x σ H1 D.nx) (RR:=fun acc C=>compPost (model X.prog X.w) X.A X.xe (some (assign (.Name y py) X.env)) (fun _ s'=>SP X pins D .next s') acc C) I2 hcalm T st2 f2 S hcl1 hcl2 (hg cl) (ht cl) (he cl) hW ?_
 intro L C oC m s' Hf IX hm fpc q
 have st:=zk (X:=X) (pos:=py) hN hiN (.inl hy) (.inr hy) _ s' σ Hf (.ref L) (.ref L) D.nx IX rfl q
 refine JY st fun _ s'' ⟨σ2,H2,I2',q2⟩=>?_
 have p:=I2'.pin (C,oC) (by simp)
 have hm':s''.heap.Ns C m:=by
  obtain ⟨o,es,ep,e1,r⟩:=hm
  have z:=(IX.pin (C,oC) (by simp)).1
  rw [e1] at z; cases z
  exact ⟨_,es,ep,p.1,r⟩
 refine ⟨m,hm',fun h' sb=>⟨σ2,H2,?_,q2⟩⟩
 exact (I2'.unpinned).turned (it:=C) (t':=s''.toks) (h':=h') (fun b o hb e=>sb.extBut b o hb e) p.2.1 fpc.2.1 fpc.2.2.2.1 fpc.2.2.2.2.1 fpc.2.2.2.2.2
end
section
variable {prog:Program} {w:World} {A:Around} {E:JO} {s:Shared}
def Xd (h:Heap) (a:Addr) (cn:String) (vs:Array Value):Prop:=(cn = "tuple_iterator" /\ h.IsTuple a vs) \/ (cn = "list_iterator" /\ h.IsList a vs)
theorem Xd.iter {a:Addr} {cn:String} {vs:Array Value} {Q:JO} (h:Xd s.heap a cn vs)
  (q:Q (.ref s.heap.objs.size) { s with heap:=s.heap.push { cls:=.type cn,data:=.fields #[.ref a,.int 0 0] } }):wpAny (model prog w) A (pyIter (.ref a)) Q E s:=by
 rcases h with ⟨rfl,h⟩ | ⟨rfl,h⟩
 ·exact wpAny_pyIter_tuple h q
 ·exact wpAny_pyIter_list h q
def zpO (c:String) (a:Addr):Obj:={ cls:=.type c,data:=.fields #[.ref a,.int 0 0] }
end
def SqC (c:Bool) (K:JN) (H:Hp) (a:Addr) (xs:List V):Prop:=match c with
 | true=>J3 K H a xs
 | false=>J1 K H a xs
def tJ (c:Bool) (h:Heap) (j a:Addr) (i:Nat):Prop:=match c with
 | true=>h.IsTupleIter j a i
 | false=>h.IsListIter j a i
def Ui (c:Bool) (h:Heap) (a:Addr) (vs:Array Value):Prop:=match c with
 | true=>h.IsTuple a vs
 | false=>h.IsList a vs
def cnC (c:Bool):String:=match c with
 | true=>"tuple_iterator"
 | false=>"list_iterator"
theorem tJ.at {c:Bool} {h h':Heap} {j a:Addr} {i:Nat} (x:tJ c h j a i) (k:∀ o,h.get? j=some o->h'.get? j=some o):tJ c h' j a i:=by
 cases c
 ·exact Heap.IsListIter.at x k
 ·exact Heap.IsTupleIter.at x k
theorem tJ.obj {c:Bool} {h:Heap} {j a:Addr} {i:Nat} (x:tJ c h j a i):∃ o,h.get? j=some o /\ ∀ v,o.data ≠ .cell v:=by
 cases c
 ·obtain ⟨o,e,_,d⟩:=x
  exact ⟨o,e,fun v z=>by rw [d] at z; cases z⟩
 ·obtain ⟨o,e,_,d⟩:=x
  exact ⟨o,e,fun v z=>by rw [d] at z; cases z⟩
theorem tJ.mk {c:Bool} {h:Heap} {j a:Addr} (e:h.get? j=some (zpO (cnC c) a)):tJ c h j a 0:=by
 cases c
 ·exact ⟨_,e,rfl,rfl⟩
 ·exact ⟨_,e,rfl,rfl⟩
theorem Ui.src {c:Bool} {h:Heap} {a:Addr} {vs:Array Value} (x:Ui c h a vs):Xd h a (cnC c) vs:=by
 cases c
 ·exact .inr ⟨rfl,x⟩
 ·exact .inl ⟨rfl,x⟩
theorem Ui.lt {c:Bool} {h:Heap} {a:Addr} {vs:Array Value} (x:Ui c h a vs):a < h.objs.size:=by
 cases c
 ·obtain ⟨_,e,_⟩:=(show h.IsList a vs from x); exact Heap.lt_size e
 ·obtain ⟨_,e,_⟩:=(show h.IsTuple a vs from x); exact Heap.lt_size e
theorem Rv {prog:Program} {w:World} {A:Around} (hh:A.handled=none) (c:Bool) (j t:Addr) (hne:t ≠ j) (vs:Array Value) :
  Draws prog w A j [j,t] vs.size (fun i v=>vs[i]? = some v) (fun i h=>tJ c h j t i /\ Ui c h t vs):=by
 cases c
 ·exact Draws.list hh j t hne vs
 ·exact Wx hh j t hne vs
theorem Xe {prog:Program} {w:World} {A:Around} (hh:A.handled=none) (jt t:Addr) (vs:Array Value) {i:Nat} (hv:vs[i]? = none) :
  Draws prog w A jt [jt,t] i (fun _ _=>True) (fun j h=>j=i /\ h.IsListIter jt t i /\ h.IsList t vs) where
 live:=fun _ _ st=>let ⟨o,ho,_⟩:=st.2.1; ⟨o,ho⟩
 frame:=fun _ _ _ st hk=>⟨st.1,st.2.1.at (hk jt (by simp)),st.2.2.at (hk t (by simp))⟩
 item:=fun j s Q E hj st hQ=>absurd st.1 (Nat.ne_of_lt hj)
 done:=fun s Q E st hE=>wpAny_nextOf_list_end hh st.2.1 st.2.2 hv hE
theorem Xf {prog:Program} {w:World} {A:Around} (hh:A.handled=none) (c:Bool) (j t:Addr) (vs:Array Value) {i:Nat} (hv:vs[i]? = none) :
  Draws prog w A j [j,t] i (fun _ _=>True) (fun k h=>k=i /\ tJ c h j t i /\ Ui c h t vs):=by
 cases c
 ·exact Xe hh j t vs hv
 ·exact Wy hh j t vs hv
theorem ql {X:Cx} {pins:List (Addr × Obj)} {σ:L2.St} {H:Hp} {s:Shared} {c:Bool} {a:Addr} {xs:List V} (I:Inv X pins σ H s) (h:SqC c X.K H a xs):∃ its:List Value,zX xs its /\ Ui c s.heap a its.toArray:=by
 cases c
 ·obtain ⟨its,r,p,_⟩:=I.list h
  exact ⟨its,r,p.isList⟩
 ·obtain ⟨its,r,p,_⟩:=I.tuple h
  exact ⟨its,r,p⟩
theorem jH {X:Cx} {pins:List (Addr × Obj)} {σ:L2.St} {H:Hp} {s:Shared} {c:Bool} {a:Addr} {xs ys:List V} (I:Inv X pins σ H s) (h:SqC c X.K H a xs) (h':SqC c X.K H a ys):xs=ys:=by
 cases c
 ·exact I.list_inj h h'
 ·exact I.tuple_inj h h'
section
variable {prog:Program} {w:World} {A:Around} {E:JO} {s:Shared}
open PySem.AutoSeq1 (wpAny_loadPart')
theorem WE (t:Addr) (c:Bool) (vs:Array Value) :
  Meets (Builtin.«enumerate.__new__» ⟨[.type "enumerate",.ref t],[]⟩) (fun _ R s=>Ui c s.heap t vs ∧
   R (.ok (.ret (.ref (s.heap.push (zpO (cnC c) t)).objs.size)))
    { s with heap:=(s.heap.push (zpO (cnC c) t)).push { cls:=.type "enumerate",data:=.fields #[.none,.bool false,.ref s.heap.objs.size,rawInt 0,.none,.none] } }) :=
 .of_wp fun prog w A R s h=>by
  obtain ⟨hp,g,d,tk,os⟩:=s; obtain ⟨hT,h⟩:=h
  have hT':Xd (Shared.heap ⟨hp,g,d,tk,os⟩) t (cnC c) vs:=hT.src
  obtain ⟨ot,hot⟩:∃ o,hp.get? t=some o:=by
   cases c
   ·obtain ⟨o,e,_⟩:=(show hp.IsList t vs from hT); exact ⟨o,e⟩
   ·obtain ⟨o,e,_⟩:=(show hp.IsTuple t vs from hT); exact ⟨o,e⟩
  have hsub:=sub_enumerate
  wp_walk using wpAny_loadPart' hot
  refine wpAny_stack_any fun st=>wpAny_pure ?_
  split
  ·rename_i c' _ _ _ _ _
   cases (c' == Value.type "enumerate") <;> (wp_walk using wpAny_loadPart' hot,Xd.iter hT') <;> exact ⟨_,rfl,h⟩
  ·wp_walk using wpAny_loadPart' hot,Xd.iter hT'
   exact ⟨_,rfl,h⟩
theorem Xg {t:Addr} {c:Bool} {vs:Array Value} {Q:JO} (ht:Ui c s.heap t vs)
  (h:∀ h',IsEnum h' (s.heap.objs.size+1) s.heap.objs.size 0 .none->tJ c h' s.heap.objs.size t 0->h'.objs.size=s.heap.objs.size+2->(∀ b o,s.heap.get? b=some o->h'.get? b=some o)->Q (.ref (s.heap.objs.size+1)) { s with heap:=h' }) :
  wpAny (model prog w) A (call (.type "enumerate") [.ref t]) Q E s:=by
 refine callType_new F.called_enumerate (by decide) (F.typeCall_enumerate_1 _) (F.newCall_enumerate_1 _) (fun obj=>F.args_object_init_2 obj _) F.entry_enumerate_new (WE t c vs) ⟨ht,?_⟩
 have hz:(s.heap.push (zpO (cnC c) t)).objs.size=s.heap.objs.size+1:=Heap.size_push ..
 show _ /\ _
 rw [hz]
 have he:IsEnum ((s.heap.push (zpO (cnC c) t)).push { cls:=.type "enumerate",data:=.fields #[.none,.bool false,.ref s.heap.objs.size,rawInt 0,.none,.none] }) (s.heap.objs.size+1) s.heap.objs.size 0 .none:=by
  have:=Heap.get?_push_size (s.heap.push (zpO (cnC c) t)) (o:={ cls:=.type "enumerate",data:=.fields #[.none,.bool false,.ref s.heap.objs.size,rawInt 0,.none,.none] }) rfl
  rw [hz] at this; exact this
 exact ⟨⟨_,he,rfl⟩,h _ he (.mk (Heap.get?_push_of_some _ (Heap.get?_push_size _ rfl))) (by rw [Heap.size_push,Heap.size_push]) fun b o x=>Heap.get?_push_of_some _ (Heap.get?_push_of_some _ x)⟩
end
def QD (c:Bool) (K:JN) (a:Addr):It :=
 ⟨fun i H=>∃ xs x,SqC c K H a xs /\ xs[i]? = some x,fun i H x H'=>∃ T v,H T=none /\ x = .ref T /\ H' = JQ H T (.tup [.int i,v]) /\ ∀ xs,SqC c K H a xs->xs[i]? = some v,fun i H=>∃ xs,SqC c K H a xs /\ xs.length<=i⟩
theorem Xh {P:Program} {w:World} {K:JN} {elts:List Expr} {kt:Nat} {pt:Pos} (c:Bool) (a e jt:Addr) (hej:e ≠ jt) (hae:a ≠ e) (haj:a ≠ jt) :
  Turn P w K (.Tuple elts kt pt) (QD c K a) [e,jt] e (fun i h=>(∃ old,IsEnum h e jt i old) /\ tJ c h jt a i) where
 mem:=by simp
 obj:=fun i h st b hb=>by
  obtain ⟨⟨old,he⟩,st⟩:=st
  simp only [List.mem_cons,List.mem_nil_iff,or_false] at hb
  rcases hb with rfl | rfl
  ·exact ⟨_,he,fun v z=>by cases z⟩
  ·exact st.obj
 keep:=fun i h h' st k=>by
  obtain ⟨⟨old,he⟩,st⟩:=st
  exact ⟨⟨old,k e (by simp) _ he⟩,st.at fun o q=>k jt (by simp) o q⟩
 item:=by
  intro X hP hw hK hc i pins s σ H E I hf st hg
  subst hP hw hK
  obtain ⟨⟨old,he⟩,hit⟩:=st
  obtain ⟨xs,x,hq,hx⟩:=hg
  obtain ⟨its,rv,p⟩:=ql I hq
  obtain ⟨u,hu,ru⟩:=rv.get hx
  have hlt:i < its.toArray.size:=by have:=(List.getElem?_eq_some_iff.mp hu).1; simpa using this
  refine wpAny_pyNext_enum_itemD (Rv (A:=X.A.in1) (I.ok.hd hc) c jt a haj its.toArray) he ⟨hit,p⟩ hlt hej (by simp [hej,Ne.symm hae]) fun v h1 tk hv hout hst1 hT hsz hk=>?_
  have hvu:v=u:=by
   have e1:its.toArray[i]? = some v:=hv
   have e2:its.toArray[i]? = some u:=by simpa using hu
   rw [e1] at e2; exact Option.some.inj e2
  subst hvu
  refine ⟨_,rfl,wpAny_letOwnedTupleGo_enum (s:={ s with heap:=h1,toks:=tk+1 }) hout fun h2 he2 hs2=>?_⟩
  have hk2:∀ b o,b ∉ [e,jt]->s.heap.get? b=some o->h2.get? b=some o:=fun b o hb q=>by
   have n1:b ≠ e:=fun z=>hb (by simp [z])
   have n2:b ≠ jt:=fun z=>hb (by simp [z])
   exact (hs2.2 b n1).trans (hk b o n1 n2 q)
  have eT:s.heap.objs.size ≠ e:=Nat.ne_of_gt (Heap.lt_size he)
  have hT2:h2.get? s.heap.objs.size=some { cls:=.type "tuple",data:=.seq #[.int i tk,v] }:=(hs2.2 _ eT).trans hT
  have hn:H s.heap.objs.size=none:=I.hok.fresh (Nat.le_refl _)
  have I2:Inv X pins σ (JQ H s.heap.objs.size (.tup [.int i,x])) { s with heap:=h2,toks:=tk+1 }:=Uh (s:=s) I hk2 hf (Nat.le_refl _) ⟨by show 2<=sizeLine; decide,[.int i tk,v],.cons ⟨_,rfl⟩ (.cons ru .nil),_,hT2,rfl,0,rfl⟩
  refine ⟨.ref s.heap.objs.size,JQ H s.heap.objs.size (.tup [.int i,x]),I2,rfl,⟨_,x,hn,rfl,rfl,fun ys hy=>by rw [jH I hy hq]; exact hx⟩,⟨⟨v,by simpa using he2⟩,?_⟩,fun b hb=>?_⟩
  ·exact hst1.1.at fun o q=>(hs2.2 jt (Ne.symm hej)).trans q
  ·have nb:b ≠ s.heap.objs.size:=by
    obtain ⟨oj,hoj,_⟩:=hit.obj
    simp only [List.mem_cons,List.mem_nil_iff,or_false] at hb
    rcases hb with rfl | rfl
    ·exact Ne.symm eT
    ·exact Nat.ne_of_lt (Heap.lt_size hoj)
   rw [zu nb]; exact (hf b hb).1
 done:=by
  intro X hP hw hK hc i pins s σ H E I hf st hg
  subst hP hw hK
  obtain ⟨⟨old,he⟩,hit⟩:=st
  obtain ⟨xs,hq,hx⟩:=hg
  obtain ⟨its,rv,p⟩:=ql I hq
  have hl:=rv.length
  refine wpAny_pyNext_enum_endD (Xf (A:=X.A.in1) (I.ok.hd hc) c jt a its.toArray (i:=i) (by simp; omega)) he ⟨rfl,hit,p⟩ fun h' eb=>⟨rfl,?_⟩
  exact Wz (fp:=[e,jt]) (t':=s.toks) I (fun b o hb q=>eb b o (fun z=>hb (by simp [z])) q) hf
 self:=fun _ _ _ _ _ st h=>by
  obtain ⟨⟨old,he⟩,_⟩:=st
  exact wpAny_pyIter_enum he h
section
variable {X:Cx} {elts:List Expr} {kt:Nat} {pt:Pos} {K:JN}
def Rw (c:Bool) (K:JN) (ta:TA):TI:=fun σ H R=>ta σ H fun vs H1=>∃ a xs,vs=[.ref a] /\ SqC c K H1 a xs /\ R (QD c K a) H1
theorem Uj {a:Expr} {ta:TA} {p pos:Pos} (c:Bool) (hK:X.K=K) (hg:Gl X "enumerate") (hm:X.mg "enumerate" = none) (ha:PA X [a] ta) (hs:starEach [a] X.env=[(false,eval a X.env)]:=by rfl) :
  PI X (.Tuple elts kt pt) (.Call (.Name "enumerate" p) [a] [] pos) (Rw c K ta):=by
 subst hK
 intro pins s σ H R I h
 refine Call_ (uV I hg hm Rt (PyProof.Rows.callWith_type1 (JY (ha pos pins s σ H _ I h) fun us s1 ⟨vs,H1,I1,r1,q1⟩=>?_) hs rfl))
 obtain ⟨t,xs,e,hq,q⟩:=q1
 subst e
 obtain ⟨u,rfl,e1⟩:=vX r1
 cases (show u=Value.ref t from e1)
 obtain ⟨its,rv,p⟩:=ql I1 hq
 refine Xg p fun h' he hit _ hk=>?_
 refine wpAny_pyIter_enum he ?_
 have lt:t < s1.heap.objs.size:=p.lt
 have I2:Inv X pins σ H1 { s1 with heap:=h' }:=I1.kept (t':=s1.toks) hk
 refine ⟨s1.heap.objs.size+1,[s1.heap.objs.size+1,s1.heap.objs.size],_,_,H1,rfl,I2,Xh c t (s1.heap.objs.size+1) s1.heap.objs.size (Nat.succ_ne_self _) (Nat.ne_of_lt (Nat.lt_succ_of_lt lt)) (Nat.ne_of_lt lt),⟨⟨_,he⟩,hit⟩,fun b hb=>?_,q⟩
 simp only [List.mem_cons,List.mem_nil_iff,or_false] at hb
 rcases hb with rfl | rfl
 ·exact I1.fpOk (Nat.le_succ _) (I1.hok.fresh (Nat.le_succ _))
 ·exact I1.fpOk (Nat.le_refl _) (I1.hok.fresh (Nat.le_refl _))
end
section
variable {K:JN} {a:Addr} {c:Bool} {xs:List V} {g:TG} {tt:TT} {te:TE} {tb:TS} {D:Ends} {Q:VK} {σ:L2.St} {H:Hp}
theorem Xi (Pv:Nat->List V->L2.St->Hp->Prop) (h0:Pv 0 [] σ H) (hl:∀ i zs σ H,Pv i zs σ H->SqC c K H a xs)
  (hs:∀ i x zs σ H T,xs[i]? = some x->Pv i zs σ H->H T=none->g (.ref T) σ (JQ H T (.tup [.int i,x])) fun σ2 H3=>tt σ2 H3 fun b H4=>if b=true then te σ2 H4 fun y H5=>zs.length < sizeLine /\ Pv (i+1) (zs ++ [y]) σ2 H5 else Pv (i+1) zs σ2 H4)
  (hd:∀ zs σ H,Pv xs.length zs σ H -> ∀ l,H l=none->Q (.ref l) (JQ H l (.lst zs))) :
  qi (QD c K a) σ H g tt te Q:=by
 refine ⟨fun i m zs σ H=>m=xs.length - i /\ i<=xs.length /\ Pv i zs σ H,⟨xs.length,by simp,Nat.zero_le _,h0⟩,?_⟩
 rintro i m zs σ H ⟨rfl,hi,p⟩
 have q:=hl i zs σ H p
 by_cases hlt:i < xs.length
 ·refine .inr ⟨⟨xs,xs[i],q,by simp [hlt]⟩,Pv (i+1),fun ws σ' H' p'=>⟨xs.length - (i+1),by omega,rfl,hlt,p'⟩,fun x H' y=>?_⟩
  obtain ⟨T,v,hT,rfl,rfl,y1⟩:=y
  exact hs i v zs σ H T (y1 xs q) p hT
 ·have e:i=xs.length:=by omega
  subst e
  exact .inl ⟨⟨xs,q,Nat.le_refl _⟩,hd zs σ H p⟩
end
section
variable {X:Cx}
variable {K:JN}
theorem tK {es:List Expr} {k:Nat} {pos:Pos} {t:J4} (n:Nat) (h0:X.K=K) (hc:X.calm=true) (h:J5 X es t)
  (hn:(assignEach es X.env).length=n) (hst:(assignEach es X.env).findIdx? (·.1)=none):PG X (.Tuple es k pos) (Q2 K n t):=by subst h0; exact xP hc h hn hst
theorem Xj {k:Nat} (h:X.K=K) (hr:Room k X.A):wp X (.builtin "repr") (TV K):=by subst h; exact ym hr
end
theorem TY {K:JN} {H:Hp} {x:V} {d:PyData} {w n:Nat} {Q:VK} (hd:Dat K H x d) (h:Sh d w n) (hw:w<=16777216) (hn:n<=60) (q:Q (.str d.shown) H):TV K [x] H Q :=
 ⟨x,d,rfl,hd,h.1,h.2.1,Nat.le_trans h.2.2.2 hn,h.fits hw,q⟩
def InC (C:Int) (xs:List Int):Prop:=∀ v ∈ xs,-C<=v /\ v<=C
theorem InC.mono {B C:Int} {xs:List Int} (h:InC B xs) (hC:B<=C):InC C xs:=fun v hv=>by have:=h v hv; omega
theorem InC.inB {C:Int} {xs:List Int} (h:InC C xs) (hC:C < 2 ^ 300):InB (2 ^ 300) xs:=fun v hv=>by have:=h v hv; omega
theorem Deed.Bd.sh {d:Deed} {B:Int} {n:Nat} (h:d.Bd B) (hB:B<=10 ^ 90):Sh (Ue d) 5772 (n+1):=Ug (h.mono (Int.le_trans hB (by decide)))
theorem vm:∀ {ns:List Int} {us:List Value},IntsAre us ns->zX (ns.map V.int) us:=by
 intro ns us h
 induction h with
 | nil=>exact .nil
 | cons n t _ ih=>exact .cons ⟨t,rfl⟩ ih
section
variable {X:Cx} {K:JN}
theorem jI (hK:X.K=K):wp X (.builtin "sorted") (fun xs H Q=>∃ (l:Addr) (ns:List Int),xs=[.ref l] /\ J1 K H l (ns.map V.int) /\ ns.length < 64 /\ ∀ (p:Addr) (ms:List Int),H p=none->ms.Perm ns->ms.Pairwise (· <= ·)->Q (.ref p) (JQ H p (.lst (ms.map V.int)))):=by
 subst hK
 intro pins s σ H xs us Q I r h
 obtain ⟨l,ns,rfl,hl,h64,q⟩:=h
 obtain ⟨u,rfl,rx⟩:=vX r
 cases (show u=Value.ref l from rx)
 obtain ⟨vs,rv,pl,hz⟩:=I.list hl
 have hlen:=rv.length
 rw [List.length_map] at hlen hz
 refine sorted_ints pl.isList (Y4 rv) (by omega) fun out ms i1 i2 i3=>?_
 obtain ⟨e,he⟩:=sortedAll_at s.heap vs out
 have hn:H (s.heap.objs.size+1)=none:=I.hok.fresh (Nat.le_succ _)
 have rl:=vm i1
 refine ⟨.ref (s.heap.objs.size+1),_,?_,rfl,q _ ms hn i2 i3⟩
 refine I.laid (t':=s.toks) (fun b o q=>sortedAll_old q) (Nat.le_succ _) (show yw X.prog X.w _ _ _ (.lst (ms.map V.int)) from ⟨by rw [List.length_map,i2.length_eq]; exact hz,out.toList,e,rl,he⟩)
end
def xN (k st a:Nat):Nat:=a ^^^ 2 ^ (k - st)
def nN (k st a:Nat):Nat:=(WA k a st).toNat
theorem WF:∀ k:Fin 5,∀ st:Fin 5,1<=st.val->st.val<=k.val -> ∀ a:Fin 16,a.val < 2 ^ k.val →
  (swI k.val st.val a.val=WA k.val a.val st.val /\ WA k.val a.val st.val=(nN k.val st.val a.val:Int) /\ nN k.val st.val a.val < 2 ^ (k.val - 1) /\ nN k.val st.val (xN k.val st.val a.val)=nN k.val st.val a.val) ∧
  (xN k.val st.val (xN k.val st.val a.val)=a.val /\ xN k.val st.val a.val ≠ a.val /\ xN k.val st.val a.val < 2 ^ k.val) ∧
  (wfI k.val st.val a.val (Builtin.bitXor (xF k.val st.val a.val) 0)=(a.val:Int) /\ wfI k.val st.val a.val (Builtin.bitXor (xF k.val st.val a.val) 1)=(xN k.val st.val a.val:Int)) ∧
  (Builtin.bitXor (xF k.val st.val a.val) (xF k.val st.val (xN k.val st.val a.val))=1 /\ Builtin.bitXor (xF k.val st.val a.val) (xF k.val st.val a.val)=0) ∧
  ((Builtin.bitXor (xF k.val st.val a.val) 0=0 \/ Builtin.bitXor (xF k.val st.val a.val) 0=1) /\ (Builtin.bitXor (xF k.val st.val a.val) 1=0 \/ Builtin.bitXor (xF k.val st.val a.val) 1=1)):=by
 decide +kernel
structure OneF (k st a:Nat):Prop where
 sw:swI k st a=WA k a st
 num:WA k a st=(nN k st a:Int)
 lt:nN k st a < 2 ^ (k - 1)
 nx:nN k st (xN k st a)=nN k st a
 xx:xN k st (xN k st a)=a
 xne:xN k st a ≠ a
 xlt:xN k st a < 2 ^ k
 w0:wfI k st a (Builtin.bitXor (xF k st a) 0)=(a:Int)
 w1:wfI k st a (Builtin.bitXor (xF k st a) 1)=(xN k st a:Int)
 c1:Builtin.bitXor (xF k st a) (xF k st (xN k st a))=1
 c0:Builtin.bitXor (xF k st a) (xF k st a)=0
 b0:Builtin.bitXor (xF k st a) 0=0 \/ Builtin.bitXor (xF k st a) 0=1
 b1:Builtin.bitXor (xF k st a) 1=0 \/ Builtin.bitXor (xF k st a) 1=1
theorem Q9 {k st a:Nat} (k4:k<=4) (s1:1<=st) (s2:st<=k) (ha:a < 2 ^ k):OneF k st a:=by
 have p:=ue k4
 obtain ⟨⟨a1,a2,a3,a4⟩,⟨b1,b2,b3⟩,⟨c1,c2⟩,⟨d1,d2⟩,e1,e2⟩:=WF ⟨k,by omega⟩ ⟨st,by omega⟩ s1 s2 ⟨a,by omega⟩ ha
 exact ⟨a1,a2,a3,a4,b1,b2,b3,c1,c2,d1,d2,e1,e2⟩
def yG (gs:List Nat):List V:=gs.map fun g:Nat=>V.int g
section
variable {X:Cx} {K:JN}
def Rx (lo:Int) (n:Nat):It:=⟨fun i _=>i < n,fun i H x H'=>H' = H /\ x = .int (lo - i),fun i _=>n<=i⟩
theorem ZI {P:Program} {w:World} {K:JN} {tg:Expr} (it:Addr) (lo:Int) (n:Nat):Turn P w K tg (Rx lo n) [it] it (fun i h=>IsRangeIter h it (lo+(i:Nat) * (-1)) ((n:Int) - (i:Nat)) (-1)) where
 mem:=by simp
 obj:=fun i h st b hb=>by
  obtain rfl:b=it:=by simpa using hb
  refine ⟨_,st,fun v z=>?_⟩
  have z':Data.fields _=Data.cell v:=z
  cases z'
 keep:=fun i h h' st k=>k it (by simp) _ st
 item:=by
  intro X hP hw hK hc i pins s σ H E I hf st hg
  subst hP hw hK
  obtain ⟨f0,f1,f2,f3,f4,f5⟩:=hf it (by simp)
  have W:=Walks.range (prog:=X.prog) (w:=X.w) (I.ok.hd hc) it lo (-1) n
  refine W.item i s _ _ hg st fun v h' tk hv st' kk=>?_
  obtain ⟨t,rfl⟩:=hv
  have J:Inv X pins σ H { s with heap:=h',toks:=tk }:=I.turned (fun b o hb e=>kk b o (by simpa using hb) e) f0 f1 f3 f4 f5
  refine ⟨_,rfl,VT (s:={ s with heap:=h',toks:=tk }) (n:="range_iterator") st' rfl rfl (by decide) ⟨.int (lo - i),H,J,⟨t,?_⟩,⟨rfl,rfl⟩,st',fun b hb=>(hf b hb).1⟩⟩
  rw [show lo+(i:Int) * (-1)=lo - i by omega]
 done:=by
  intro X hP hw hK hc i pins s σ H E I hf st hg
  subst hP hw hK
  obtain ⟨f0,f1,f2,f3,f4,f5⟩:=hf it (by simp)
  exact wpAny_pyNext_range_end (I.ok.hd hc) st (by have:n<=i:=hg; omega) fun h' eb=>⟨rfl,I.turned (t':=s.toks) (fun b o hb e=>eb b o hb e) f0 f1 f3 f4 f5⟩
 self:=fun _ _ _ _ _ st h=>wpAny_pyIter_rangeiter st h
theorem Ry (a b:Int):Builtin.Range.rangeSize a b (-1)=((a - b).toNat:Int):=by
 unfold Builtin.Range.rangeSize
 simp only [show ¬ ((-1:Int) > 0) by decide,if_false,show (- -1:Int)=1 from rfl,Int.ediv_one]
 split <;> omega
theorem Rz {a b:Int} (h1:-1000<=a) (h2:a<=1000) (h3:-1000<=b) (h4:b<=1000):Builtin.Range.small a b (-1)=true:=by
 unfold Builtin.Range.small
 rw [Ry]
 simp only [Builtin.Range.rangeFitsLong,Bool.and_eq_true,Bool.or_eq_true,decide_eq_true_eq,beq_iff_eq,show ¬ ((-1:Int) > 0) by decide,if_false]
 omega
def QE (ta:TA):TI:=fun σ H R=>ta σ H fun vs H1=>∃ i j:Int,vs=[.int i,.int j,.int (-1)] /\ -1000<=i /\ i<=1000 /\ -1000<=j /\ j<=1000 /\ R (Rx i (i - j).toNat) H1
theorem WG {tg a b c:Expr} {ta:TA} {p pos:Pos} (hg:Gl X "range") (hm:X.mg "range" = none) (ha:PA X [a,b,c] ta)
  (hs:starEach [a,b,c] X.env=[(false,eval a X.env),(false,eval b X.env),(false,eval c X.env)]:=by rfl) (hs2:starEach [b,c] X.env=[(false,eval b X.env),(false,eval c X.env)]:=by rfl) :
  PI X tg (.Call (.Name "range" p) [a,b,c] [] pos) (QE ta):=by
 intro pins s σ H R I h
 refine Call_ (uV I hg hm boot_range (PyProof.Rows.callWith_type1 (JY (ha pos pins s σ H _ I h) fun us s1 ⟨vs,H1,I1,r1,q1⟩=>?_) (by rw [hs,hs2]) (by rw [hs2]; rfl)))
 obtain ⟨i,j,e,b1,b2,b3,b4,q⟩:=q1
 subst e
 cases r1 with
 | cons r rr =>
  cases rr with
  | cons r' rr =>
   cases rr with
   | cons r'' rr =>
    cases rr
    obtain ⟨t,rfl⟩:=r
    obtain ⟨t',rfl⟩:=r'
    obtain ⟨t'',rfl⟩:=r''
    refine call_range_3 (by decide) ?_ (Or.inl (PyProof.noPylong_small (by omega)))
    refine wpAny_pyIter_range (IsRange.new ..) (Rz b1 b2 b3 b4) ?_
    have I2:Inv X pins σ H1 { s1 with heap:=s1.heap.push { cls:=.type "range",data:=.fields #[.int i t,.int j t',.int (-1) t''] },toks:=s1.toks }:=I1.kept fun b o e=>Heap.get?_push_of_some _ e
    refine ⟨(s1.heap.push { cls:=.type "range",data:=.fields #[.int i t,.int j t',.int (-1) t''] }).objs.size,[(s1.heap.push { cls:=.type "range",data:=.fields #[.int i t,.int j t',.int (-1) t''] }).objs.size],_,_,H1,rfl,
     I2.kept (t':=s1.toks) fun b o e=>Heap.get?_push_of_some _ e,ZI _ i (i - j).toNat,?_,fun b hb=>?_,q⟩
    ·show IsRangeIter _ _ (i+((0:Nat):Int) * (-1)) ((((i - j).toNat:Nat):Int) - ((0:Nat):Int)) (-1)
     rw [show i+((0:Nat):Int) * (-1)=i by simp,show (((i - j).toNat:Nat):Int) - ((0:Nat):Int)=Builtin.Range.rangeSize i j (-1) by rw [Ry]; simp]
     exact Heap.get?_push_size _ rfl
    ·obtain rfl:b=(s1.heap.push { cls:=.type "range",data:=.fields #[.int i t,.int j t',.int (-1) t''] }).objs.size:=by simpa using hb
     exact I2.fpOk (Nat.le_refl _) (I2.hok.fresh (Nat.le_refl _))
theorem Xk {lo:Int} {n:Nat} {g:TG} {tb:TS} {D:Ends} {σ:L2.St} {H:Hp} (Pv:Nat->L2.St->Hp->Prop) (h0:Pv 0 σ H)
  (hs:∀ i σ H,i < n->Pv i σ H->g (.int (lo - i)) σ H fun σ2 H2=>tb { D with nx:=Pv (i+1),ct:=Pv (i+1),bk:=D.nx } σ2 H2) (hd:∀ σ H,Pv n σ H->D.nx σ H) :
  ∃ W:Nat->Nat->L2.St->Hp->Prop,(∃ m,W 0 m σ H) /\ ∀ i m σ H,W i m σ H →
   ((Rx lo n).stop i H /\ D.nx σ H) \/ ((Rx lo n).go i H /\ ∃ N:L2.St->Hp->Prop,(∀ σ' H',N σ' H' -> ∃ m',m' < m /\ W (i+1) m' σ' H') /\ ∀ x H',(Rx lo n).yld i H x H' -> g x σ H' fun σ2 H2=>tb { D with nx:=N,ct:=N,bk:=D.nx } σ2 H2):=by
 refine ⟨fun i m σ H=>m=n - i /\ i<=n /\ Pv i σ H,⟨n,by simp,Nat.zero_le _,h0⟩,?_⟩
 rintro i m σ H ⟨rfl,hi,p⟩
 by_cases c:i < n
 ·refine .inr ⟨c,Pv (i+1),fun σ' H' p'=>⟨n - (i+1),by omega,rfl,c,p'⟩,?_⟩
  rintro x H' ⟨rfl,rfl⟩
  exact hs i σ _ c p
 ·obtain rfl:i=n:=by omega
  exact .inl ⟨Nat.le_refl _,hd σ H p⟩
end
def wfN (k s l:Nat) (w:Int):Nat:=(wfI k s l w).toNat
theorem WH:∀ k:Fin 5,∀ s:Fin 5,1<=s.val->s.val<=k.val -> ∀ l:Fin 16,l.val < 2 ^ k.val -> ∀ w:Fin 2,
  (wfI k.val s.val l.val w.val=(wfN k.val s.val l.val w.val:Int) /\ wfN k.val s.val l.val w.val < 2 ^ k.val /\ xF k.val s.val (wfN k.val s.val l.val w.val)=w.val) /\ ∀ t:Fin 5,t.val<=k.val->t.val ≠ s.val->xF k.val t.val (wfN k.val s.val l.val w.val)=xF k.val t.val l.val:=by
 decide +kernel
theorem Xl:∀ k:Fin 5,∀ l:Fin 16,l.val < 2 ^ k.val->(∀ t:Fin 5,xF k.val t.val l.val=0 \/ xF k.val t.val l.val=1) /\ ∀ m:Fin 16,m.val < 2 ^ k.val->(∀ t:Fin 5,1<=t.val->t.val<=k.val->xF k.val t.val l.val=xF k.val t.val m.val)->l=m:=by
 decide +kernel
structure WfF (k s l:Nat) (w:Int):Prop where
 eq:wfI k s l w=(wfN k s l w:Int)
 lt:wfN k s l w < 2 ^ k
 at_:xF k s (wfN k s l w)=w
 off:∀ t:Nat,t<=k->t ≠ s->xF k t (wfN k s l w)=xF k t l
theorem wfF {k s l:Nat} {w:Int} (k4:k<=4) (s1:1<=s) (s2:s<=k) (hl:l < 2 ^ k) (hw:w=0 \/ w=1):WfF k s l w:=by
 have p:=ue k4
 have z:=WH ⟨k,by omega⟩ ⟨s,by omega⟩ s1 s2 ⟨l,by omega⟩ hl
 rcases hw with rfl | rfl
 ·exact ⟨(z 0).1.1,(z 0).1.2.1,(z 0).1.2.2,fun t ht hn=>(z 0).2 ⟨t,by omega⟩ ht hn⟩
 ·exact ⟨(z 1).1.1,(z 1).1.2.1,(z 1).1.2.2,fun t ht hn=>(z 1).2 ⟨t,by omega⟩ ht hn⟩
theorem QF {k t l:Nat} (k4:k<=4) (ht:t<=k) (hl:l < 2 ^ k):xF k t l=0 \/ xF k t l=1:=by
 have p:=ue k4
 exact (Xl ⟨k,by omega⟩ ⟨l,by omega⟩ hl).1 ⟨t,by omega⟩
theorem TZ {a b:Nat}:Builtin.bitAnd (a:Int) (b:Int)=((a &&& b:Nat):Int):=by
 unfold Builtin.bitAnd
 rw [decide_eq_true (Int.natCast_nonneg a),decide_eq_true (Int.natCast_nonneg b)]; rfl
theorem Uk {α:Type} {n:Nat} {x:α}:(List.replicate n [x]).flatten=List.replicate n x:=by
 induction n with
 | zero=>rfl
 | succ n ih=>rw [List.replicate_succ,List.flatten_cons,ih,List.replicate_succ]; rfl
section
variable {X:Cx} {K:JN}
theorem WI:MtM X "list.insert" (fun x vs H Q=>∃ (l:Addr) (xs:List V) (i:Nat) (y:V),x = .ref l /\ vs=[.int i,y] /\ H l=some (.lst xs) /\ i<=xs.length /\ xs.length < sizeLine /\ Q .non (JQ H l (.lst (xs.take i ++ [y] ++ xs.drop i)))):=by
 intro pins s σ H x vs v us Q I rx rv h
 obtain ⟨l,xs,i,y,rfl,rfl,hH,hi,hz,q⟩:=h
 cases rx
 obtain ⟨u,u2,rfl,⟨t,rfl⟩,ru⟩:=YZ rv
 obtain ⟨z,its,n,r,hl,e⟩:=I.lstM hH
 have hn:=sV
 have sz:its.toArray.size<=sizeLine:=by rw [List.size_toArray]; omega
 have key:∀ (x:Int),x=(i:Int)->wpAny (model X.prog X.w) X.A (call (.builtin "list.insert") (.ref l :: [.int x t,u2])) (EP X pins σ Q) X.xe s:=by
  intro x hx
  have hfit:¬ (!Builtin.List.listFitsIndex x)=true:=by
   unfold Builtin.List.listFitsIndex
   simp only [Bool.not_eq_true',Bool.not_eq_false,Bool.and_eq_true,decide_eq_true_eq]
   omega
  refine call_meets F.slot_list_insert ⟨_,e,rfl⟩ F.entry_list_insert (F.args_list_insert_3 _ _ _) (PySem.AutoListH.list_insert_list_int_val_1 l its.toArray n x t u2 hfit sz) ⟨e,?_⟩
  refine ⟨.non,_,I.lset (its':=its.take i ++ [u2] ++ its.drop i) hH e ?_ ?_ ?_,rfl,q⟩
  ·rw [if_neg (by omega),hx,Int.toNat_natCast,List.size_toArray,Nat.min_eq_left (by omega)]
   apply Array.ext'
   simp [List.take_of_length_le]
  ·exact ((r.take i).append (.cons ru .nil)).append (r.drop i)
  ·rw [List.length_append,List.length_append,List.length_take,List.length_drop,List.length_singleton]
   omega
 exact key _ rfl
end
open PySem PySem.Spec PyProof.Rows L2 HT
section
variable {prog:Program} {w:World} {A:Around} {E:JO} {s:Shared}
theorem Ul (l b:Addr) (us ws:Array Value) (n m:Nat) (d1 d2:Option Addr) (e1 e2:Array (Option Value)) (h0:us.isEmpty=true) :
  Meets (Builtin.«tuple.__add__» ⟨[.ref l,.ref b],[]⟩) (fun _ R s=>s.heap.get? l=some ⟨.type "tuple",d1,.seq us n,e1⟩ /\ s.heap.get? b=some ⟨.type "tuple",d2,.seq ws m,e2⟩ /\ R (.ok (.ret (.ref b))) s) :=
 .of_wp fun P w A R s h=>by
  obtain ⟨hh,gg,dd,tk,os⟩:=s
  obtain ⟨eL,eT,q⟩:=h
  have k1:=PySem.AutoSeq1.sub_tuple_tuple
  wp_walk using PySem.AutoSeq1.wpAny_loadPart' eL,PySem.AutoSeq1.wpAny_loadPart' eT
  exact ⟨_,rfl,q⟩
theorem Um {t b:Addr} {vs ws:List Value} {Q:JO} (ht:IsTup s.heap t vs.toArray) (hb:IsTup s.heap b ws.toArray) (hv:vs=[]) (h1:Q (.ref b) s):wpAny (model prog w) A (binaryOp .Add (.ref t) (.ref b)) Q E s:=by
 obtain ⟨⟨c1,d1,x1,l1⟩,ho,hc,n,hd⟩:=id ht
 obtain ⟨⟨c2,d2,x2,l2⟩,ho2,hc2,m,hd2⟩:=id hb
 cases hc
 cases hd
 cases hc2
 cases hd2
 exact concat_meets ⟨_,ho,rfl⟩ ⟨_,ho2,rfl⟩ noFill_tuple_add seq_tuple_add PySem.F.slot_tuple_add PySem.F.entry_tuple_add (PySem.F.args_tuple_add_2 _ _) (Ul t b vs.toArray ws.toArray n m d1 d2 l1 l2 (by simp [hv])) ⟨ho,ho2,h1⟩
theorem qm {t sl:Addr} {us:Array Value} {vl vu:Value} {lo hi:Option Int} {Q:JO} (ht:IsTup s.heap t us) (hs:s.heap.IsSliceOf sl vl vu .none) (pl:IsPart vl lo) (pu:IsPart vu hi)
  (hw:sIx us.size 0 lo=0 /\ sIx us.size us.size hi=us.size) (h:Q (.ref t) s):wpAny (model prog w) A (getItem (.ref t) (.ref sl)) Q E s:=by
 obtain ⟨os,hos,hcs,hds⟩:=id hs
 have hTs:s.TypeIs (.ref sl) "slice":=⟨os,hos,hcs⟩
 unfold getItem
 try with_reducible refine wpAny_holding ?_
 first | refine wpAny_bind (wpAny_pure ?_) | skip
 refine wpAny_bind (wpAny_sequenceKey ht.typeIs (by decide) ?_)
 refine wpAny_bind (wpAny_callSpecial?_slot (name:=Str.ofString "__getitem__") ht.typeIs PyProof.Rows.slot_tuple_getitem
  (wpAny_call_entry PyProof.Rows.slot_tuple_getitem ht.typeIs entry_tuple_getitem ?_ (args_tuple_getitem _ _)))
 show wpAny _ _ (Builtin.Tuple.tupleItemsOf (.ref t) >>= _) _ _ s
 refine wpAny_bind (tupleItemsOf_ ht ?_)
 refine wpAny_bind (wpAny_typeOf hTs ?_)
 rw [if_pos (by decide)]
 refine wpAny_bind (wg hs pl pu ?_)
 have yes:(((sIx us.size 0 lo:Nat):Int) == 0 && (1:Int) == 1 && (sIx us.size us.size hi - sIx us.size 0 lo) == us.size)=true:=by
  rw [hw.1,hw.2]; simp
 show wpAny _ _ (if (((sIx us.size 0 lo:Nat):Int) == 0 && (1:Int) == 1 && (sIx us.size us.size hi - sIx us.size 0 lo) == us.size)=true then _ else _) _ _ s
 rw [if_pos yes]
 refine wpAny_bind ?_
 unfold Builtin.Tuple.tupleIsExact
 refine wpAny_bind (wpAny_typeOf ht.typeIs (wpAny_pure ?_))
 show wpAny _ _ (rule _ >>= _) _ _ s
 exact wpAny_bind (wpAny_rule (wpAny_bind (wpAny_pure (wpAny_pure ⟨_,rfl,wpAny_pure h⟩))))
end
section
variable {X:Cx} {K:JN}
def JI (K:JN):V->Option Int->Option Int->Hp->VK->Prop:=fun x lo hi H Q=>∃ a xs,x = .ref a /\ J3 K H a xs /\ ∀ p H',Grow [] H H' -> J3 K H' p (qe xs lo hi)->Q (.ref p) H'
theorem WJ {xs:List V} {lo hi:Option Int} (h:HT.sIx xs.length 0 lo=0 /\ HT.sIx xs.length xs.length hi=xs.length):qe xs lo hi=xs:=by
 unfold qe
 rw [h.1,h.2,List.drop_zero,Nat.sub_zero,List.take_length]
theorem T1 (hK:X.K=K):SlR X (JI K):=by
 subst hK
 intro pins s σ H x v vl vu lo hi sl Q I rx hs pl pu h
 obtain ⟨a,xs,rfl,hx,q⟩:=h
 by_cases hw:HT.sIx xs.length 0 lo=0 /\ HT.sIx xs.length xs.length hi=xs.length
 ·cases rx
  obtain ⟨its,r,ht,hz⟩:=I.tuple hx
  have hlen:its.toArray.size=xs.length:=by rw [List.size_toArray]; exact r.length.symm
  refine ⟨"tuple",_,PyProof.Rows.slot_tuple_getitem.lookup,ht.typeIs,?_⟩
  exact qm ht hs pl pu (by rw [hlen]; exact hw) ⟨.ref a,H,I,rfl,q a H (Grow.refl _ _) (by rw [WJ hw]; exact hx)⟩
 ·exact S8 pins s σ H _ v vl vu lo hi sl Q I rx hs pl pu ⟨a,xs,rfl,hx,hw,fun p hp=>q p _ (Grow.new hp _) (J3.of zc)⟩
def QG (K:JN):R2:=fun x y H Q=>∃ a b xs ys,x = .ref a /\ y = .ref b /\ J3 K H a xs /\ J3 K H b ys /\ xs.length+ys.length<=sizeLine /\ ∀ p H',Grow [] H H' -> J3 K H' p (xs ++ ys)->Q (.ref p) H'
theorem qo (hK:X.K=K):OpR X (binaryOp .Add) (QG K):=by
 subst hK
 intro pins s σ H x y v u Q I rx ry h
 obtain ⟨a,b,xs,ys,rfl,rfl,ha,hb,hz,q⟩:=h
 by_cases hx:xs=[]
 ·cases rx
  cases ry
  obtain ⟨its,r1,p1,_⟩:=I.tuple ha
  obtain ⟨its2,r2,p2,_⟩:=I.tuple hb
  exact Um p1 p2 (r1.nil_iff.mpr hx) ⟨.ref b,H,I,rfl,q b H (Grow.refl _ _) (by rw [hx]; exact hb)⟩
 ·exact Tz pins s σ H _ _ v u Q I rx ry ⟨a,b,xs,ys,rfl,rfl,ha,hb,hx,hz,fun e=>q a H (Grow.refl _ _) (by rw [e,List.append_nil]; exact ha),fun _ p hp=>q p _ (Grow.new hp _) (J3.of zc)⟩
end
def zt (P:Program) (w:World) (K:JN) (mg:Str->Option Value) (base:Heap) (C:Addr) (k:Nat) (m:Str) (ps:List Str) (sp:Sp):Prop :=
 ∃ (f:Addr) (fd:FuncData),FnOk P w K mg base CX0 k f fd ps sp /\ wt K fd ps [] /\ Meth K C m f
def x6 (P:Program) (w:World) (K:JN) (mg:Str->Option Value) (base:Heap) (C:Addr) (k:Nat) (ps:List Str) (sp:Sp):Prop :=
 ∃ (j:Nat) (f:Addr) (fd:FuncData),j+1=k /\ FnOk P w K mg base CX0 j f fd ps sp /\ wt K fd ps [] /\ Mk K C f
section
variable {P:Program} {w:World} {K:JN} {mg:Str->Option Value} {base:Heap} {C:Addr} {j k:Nat} {m:Str} {ps:List Str} {sp:Sp}
theorem zt.mono (c:zt P w K mg base C j m ps sp) (h:j<=k):zt P w K mg base C k m ps sp:=by
 obtain ⟨f,fd,F,b,mt⟩:=c
 exact ⟨f,fd,F.mono h,b,mt⟩
theorem x6.mono (c:x6 P w K mg base C j ps sp) (h:j<=k):x6 P w K mg base C k ps sp:=by
 obtain ⟨i,f,fd,e,F,b,mt⟩:=c
 exact ⟨k - 1,f,fd,by omega,F.mono (by omega),b,mt⟩
theorem zt.make {f0:Addr} (c:zt P w K mg base C k "__init__" ps sp) (mt:Mk K C f0):x6 P w K mg base C (k+1) ps sp:=by
 obtain ⟨f,fd,F,b,m⟩:=c
 have e:=m.at_
 rw [mt.init] at e
 cases e
 exact ⟨k,f0,fd,rfl,F,b,mt⟩
end
section
variable {X:Cx} {K:JN} {C:Addr} {k:Nat} {m x:Str} {ps:List Str} {sp:Sp} {o e:Expr} {es:List Expr} {ta:TE} {t:TA} {apos pos p:Pos} {f:Str}
theorem zU {pl:Sem Bool} (c:zt X.prog X.w X.K X.mg X.base C k m ps sp) (cl:Cls X.K C) (hr:Room k X.A) (he:PE X o ta) (ha:PA X (e :: es) t)
  (hst:starEach (e :: es) X.env=(false,eval e X.env) :: starEach es X.env:=by rfl) (hpl:(backTo pos (starEach es X.env)).any (·.1)=false:=by rfl)
  (ht:eval (.Call (.Attribute o m apos) (e :: es) [] pos) X.env=(do
   let ov ← eval o X.env
   standAt apos.atName
   let (f,first) ← holding [ov] (getMethod ov m pl)
   callWith pos f first (backTo pos (starEach (e :: es) X.env)) (backToKw pos (keywordEach [] X.env))):=by rfl) :
  PE X (.Call (.Attribute o m apos) (e :: es) [] pos) (Wc C m sp [] E0 ta t):=by
 obtain ⟨f,fd,F,b,mt⟩:=c
 exact Tv he cl mt F hr b .nil Wl ha hst hpl ht
theorem yQ {pl:Sem Bool} (c:zt X.prog X.w X.K X.mg X.base C k m ps sp) (cl:Cls X.K C) (hr:Room k X.A) (he:PE X o ta)
  (ht:eval (.Call (.Attribute o m apos) [] [] pos) X.env=(do
   let ov ← eval o X.env
   standAt apos.atName
   let (f,first) ← holding [ov] (getMethod ov m pl)
   callWith pos f first (backTo pos (starEach [] X.env)) (backToKw pos (keywordEach [] X.env))):=by rfl) :
  PE X (.Call (.Attribute o m apos) [] [] pos) (Wc C m sp [] E0 ta R6):=by
 obtain ⟨f,fd,F,b,mt⟩:=c
 exact Yj he cl mt F hr b .nil Wl ht
theorem uQ (c:x6 X.prog X.w X.K X.mg X.base C k ps sp) (hr:Room k X.A) (hg:Gl X x) (hm:X.mg x=some (.ref C))
  (ha:PA X (e :: es) t) (hdb:(x == ("__debug__":Str))=false:=by decide) (he:starEach (e :: es) X.env=(false,eval e X.env) :: starEach es X.env:=by rfl) (hpl:(backTo pos (starEach es X.env)).any (·.1)=false:=by rfl) :
  PE X (.Call (.Name x p) (e :: es) [] pos) (SY C sp [] E0 t):=by
 obtain ⟨j,f,fd,rfl,F,b,mt⟩:=c
 exact Tw mt F hr hg hm b .nil Wl ha hdb he hpl
theorem T3 (hK:X.K=K) (he:PE X e ta) (hb:attributeBase e f X.env (eval e X.env)=eval e X.env):PE X (.Attribute e f pos) (Q5 K ta f):=by
 subst hK
 exact zz he hb
end
theorem Grow.setI {m:List Addr} {H:Hp} {p C dx:Addr} {fs:List (Str × V)} (h:H p=some (.ins C dx fs)) (hm:p ∈ m) (o:HO):Grow m H (JQ H p o) :=
 ⟨fun b u hb q=>by rw [zu (show b ≠ p from fun z=>hb (by rw [z]; exact hm))]; exact q,fun b zs q=>by rw [zu (fun z=>by subst z; rw [h] at q; cases q)]; exact q,fun b u v q=>by rw [zu (fun z=>by subst z; rw [h] at q; cases q)]; exact q⟩
section
variable {P:Program} {w:World} {K:JN} {mg:Str->Option Value} {base:Heap} {N:List Str} {qual:Str} {scope:Scope} {f:Addr} {cd:Value} {A:Around} {outer:List Env} {s0:Shared} {H0:Hp} {E:XK}
 {pins:List (Addr × Obj)} {σ:L2.St} {H:Hp} {s:Shared}
end
abbrev veM:List Value:=[.type "ValueError",.type "Exception",.type "BaseException",.type "object"]
structure ApX (X:Cx) (pins:List (Addr × Obj)) (H:Hp) (a T:Addr):Prop where
 s0:∀ b o,X.s₀.heap.get? b=some o->b ≠ a /\ b ≠ T
 loc:X.env.locals ≠ a /\ X.env.locals ≠ T
 cel:∀ x c,X.env.cells.lookup x=some c->c ≠ a /\ c ≠ T
 pin:∀ p ∈ X.pn ++ pins,p.1 ≠ a /\ p.1 ≠ T
 ha:H a=none
 hT:H T=none
theorem Inv.leftK {X:Cx} {pins:List (Addr × Obj)} {σ:L2.St} {H:Hp} {s:Shared} {a T0:Addr} {h2:Heap} (I:Inv X pins σ H s) (hx:X.ex=[]) (ap:ApX X pins H a T0)
  (lk:∀ b o,b ∉ JU X.stack->b ≠ a->b ≠ T0->s.heap.get? b=some o->h2.get? b=some o) (ls:∀ b o,b ∈ JU X.stack->b ≠ a->b ≠ T0->s.heap.get? b=some o -> ∃ sl,h2.get? b=some { o with slots:=sl }):Inv X pins σ H { s with heap:=h2 }:=by
 have stk:∀ b,b ∈ JU X.stack->b=X.env.locals \/ b ∈ X.fs:=fun b hb=>List.mem_cons.mp (I.stkSub b hb)
 have any:∀ b o,b ≠ a->b ≠ T0->s.heap.get? b=some o -> ∃ sl,h2.get? b=some { o with slots:=sl }:=fun b o n1 n2 ho=>by
  by_cases z:b ∈ JU X.stack
  ·exact ls b o z n1 n2 ho
  ·exact ⟨o.slots,lk b o z n1 n2 ho⟩
 have cellK:∀ x c,X.env.cells.lookup x=some c -> ∀ v,s.heap.IsCell c v->h2.IsCell c v:=fun x c e v ⟨o,ho,hd⟩=>by
  obtain ⟨n1,n2⟩:=ap.cel x c e
  obtain ⟨sl,h1⟩:=any c o n1 n2 ho
  exact ⟨_,h1,hd⟩
 refine ⟨I.ok,I.os,I.bare,⟨fun b o hb hn hf hx'=>?_,fun b o hb hn hf hx'=>?_,I.base.free,fun b o hb hx'=>?_,I.base.tups,I.base.frzs,I.base.tbls⟩,?_,fun x c hc=>?_,I.free,I.freeC,fun p hp=>?_,fun b u q=>?_,I.len⟩
 ·obtain ⟨n1,n2⟩:=ap.s0 b o hb
  refine lk b o (fun z=>?_) n1 n2 (I.base.keep b o hb hn hf hx')
  rcases stk b z with z | z
  ·exact absurd (Nat.lt_of_lt_of_le (Heap.lt_size hb) I.ok.above) (by rw [z]; exact Nat.lt_irrefl _)
  ·exact hf z
 ·obtain ⟨n1,n2⟩:=ap.s0 b o hb
  obtain ⟨sl,h1⟩:=I.base.slot b o hb hn hf hx'
  obtain ⟨sl',h3⟩:=any b _ n1 n2 h1
  exact ⟨sl',h3⟩
 ·obtain ⟨n1,n2⟩:=ap.s0 b o hb
  obtain ⟨o',h1⟩:=I.base.there b o hb hx'
  obtain ⟨sl,h3⟩:=any b o' n1 n2 h1
  exact ⟨_,h3⟩
 ·obtain ⟨m,⟨o,es,ep,ho,r⟩,hl⟩:=I.loc
  obtain ⟨sl,h1⟩:=any _ o ap.loc.1 ap.loc.2 ho
  refine ⟨m,⟨_,es,ep,h1,r⟩,fun i x v e1 e2 e3=>?_⟩
  obtain ⟨u,ru,lk⟩:=hl i x v e1 e2 e3
  refine ⟨u,ru,?_⟩
  rcases lk with lk | ⟨k1,c,k2,k3⟩
  ·exact .inl lk
  ·exact .inr ⟨k1,c,k2,cellK x c k2 _ k3⟩
 ·obtain ⟨v,hv⟩:=I.cell x c hc
  exact ⟨v,cellK x c hc v hv⟩
 ·obtain ⟨p1,p2,p3,p4,p5⟩:=I.pin p hp
  obtain ⟨n1,n2⟩:=ap.pin p hp
  refine ⟨lk _ _ (fun z=>?_) n1 n2 p1,p2,p3,p4,p5⟩
  rcases stk _ z with z | z
  ·exact p3 z
  ·exact p4 z
 ·refine (I.hok b u q).stay (fun c v hc r=>?_) (fun _ r=>r) fun _ _ r=>r
  have hn:H c ≠ none:=by
   rcases hc with rfl | hc
   ·rw [q]; exact fun z=>nomatch z
   ·rw [hc]; exact fun z=>nomatch z
  exact lk c v (fun z=>hn (I.stkFree c z)) (fun z=>hn (by rw [z]; exact ap.ha)) (fun z=>hn (by rw [z]; exact ap.hT)) r
open PySem PySem.Spec PyProof.Rows L2 PySem.W
end L3
namespace L2
open PySem PySem.Spec PyProof.Rows
end L2
namespace L2
open PySem PySem.Spec PyProof.Rows
end L2
namespace L2
open PySem PySem.Spec PyProof.Rows
end L2
namespace L2
open PySem PySem.Spec PyProof.Rows
end L2
namespace L2
open PySem PySem.Spec PyProof.Rows
end L2
namespace L2
open PySem PySem.Spec PyProof.Rows
end L2
namespace L2
open PySem PySem.Spec PyProof.Rows
section
variable {κ:Type} [DecidableEq κ]
def wS (kvs:List (κ × V)) (k:κ):Option V:=(kvs.find? fun kv=>decide (kv.1=k)).map (·.2)
def xz (kvs:List (κ × V)) (k:κ) (v:V):List (κ × V) :=
 if (kvs.any fun kv=>decide (kv.1=k))=true then kvs.map (fun kv=>if kv.1=k then (kv.1,v) else kv) else kvs ++ [(k,v)]
theorem yD {p:κ × V} {r:List (κ × V)} {k:κ} (e:p.1=k):wS (p :: r) k=some p.2:=by simp [wS,List.find?_cons,e]
theorem yv {p:κ × V} {r:List (κ × V)} {k:κ} (e:¬ p.1=k):wS (p :: r) k=wS r k:=by simp [wS,List.find?_cons,e]
theorem wC (k:κ):∀ kvs:List (κ × V),(kvs.any fun kv=>decide (kv.1=k))=(wS kvs k).isSome
 | []=>rfl
 | p :: r=>by
  rw [List.any_cons]
  by_cases e:p.1=k
  ·simp only [yD e,decide_eq_true e,Bool.true_or,Option.isSome_some]
  ·rw [yv e,decide_eq_false e,Bool.false_or]; exact wC k r
theorem Yx (k j:κ) (y:V):∀ kvs:List (κ × V),wS (kvs.map fun kv=>if kv.1=k then (kv.1,y) else kv) j=(wS kvs j).map fun x=>if j=k then y else x
 | []=>rfl
 | p :: r=>by
  have ih:=Yx k j y r
  rw [List.map_cons]
  by_cases h:p.1=k
  ·rw [if_pos h]
   by_cases e:p.1=j
   ·rw [yD (p:=(p.1,y)) e,yD e,Option.map_some,if_pos (e.symm.trans h)]
   ·rw [yv (p:=(p.1,y)) e,yv e,ih]
  ·rw [if_neg h]
   by_cases e:p.1=j
   ·rw [yD (p:=p) e,yD e,Option.map_some,if_neg (fun z=>h (e.trans z))]
   ·rw [yv (p:=p) e,yv e,ih]
theorem jJ (k j:κ) (y:V):∀ kvs:List (κ × V),wS kvs k=none->wS (kvs ++ [(k,y)]) j=if j=k then some y else wS kvs j
 | [],_=>by
  by_cases e:k=j
  ·rw [if_pos e.symm]; exact yD (p:=(k,y)) e
  ·rw [if_neg (fun z=>e z.symm)]; exact yv (p:=(k,y)) e
 | p :: r,hn=>by
  rw [List.cons_append]
  have hk:¬ p.1=k:=fun z=>by rw [yD z] at hn; cases hn
  rw [yv hk] at hn
  have ih:=jJ k j y r hn
  by_cases e:p.1=j
  ·rw [yD e,yD e,if_neg (fun z=>hk (e.trans z))]
  ·rw [yv e,yv e,ih]
theorem Uo (kvs:List (κ × V)) (k j:κ) (y:V):wS (xz kvs k y) j=if j=k then some y else wS kvs j:=by
 unfold xz
 by_cases a:(kvs.any fun kv=>decide (kv.1=k))=true
 ·rw [if_pos a,Yx]
  rw [wC] at a
  by_cases e:j=k
  ·obtain ⟨x,hx⟩:=Option.isSome_iff_exists.mp a
   rw [if_pos e,e,hx,Option.map_some,if_pos rfl]
  ·rw [if_neg e]
   cases wS kvs j with
   | none=>rfl
   | some x=>rw [Option.map_some,if_neg e]
 ·rw [if_neg a]
  refine jJ k j y kvs ?_
  rw [wC] at a
  cases q:wS kvs k with
  | none=>rfl
  | some x=>rw [q] at a; exact (a rfl).elim
theorem xA (kvs:List (κ × V)) (k:κ) (v:V):(xz kvs k v).length<=kvs.length+1:=by
 unfold xz
 split
 ·rw [List.length_map]; omega
 ·rw [List.length_append,List.length_cons,List.length_nil]; omega
theorem Yy {kvs:List (κ × V)} {k:κ} (v:V) (h:wS kvs k=none):xz kvs k v=kvs ++ [(k,v)]:=by
 unfold xz
 rw [wC,h]
 exact if_neg (by decide)
theorem je.isSome_eq {o:Option V} {u:Option Value} (r:je o u):o.isSome=u.isSome:=by
 cases o with
 | none=>cases u with
  | none=>rfl
  | some _=>exact (show False from r).elim
 | some _=>cases u with
  | none=>exact (show False from r).elim
  | some _=>rfl
theorem je.getD {o:Option V} {u:Option Value} {d:V} {d':Value} (r:je o u) (rd:zY d d'):zY (o.getD d) (u.getD d'):=by
 cases o with
 | none=>cases u with
  | none=>exact rd
  | some _=>exact (show False from r).elim
 | some _=>cases u with
  | none=>exact (show False from r).elim
  | some _=>exact r
theorem KV.val {kvs:List (κ × V)} {vs:List (κ × Value)} (r:KV kvs vs) (k:κ):je (wS kvs k) (valueAt vs k):=by
 unfold KV at r
 induction r with
 | nil=>exact True.intro
 | @cons p q ps qs h t ih =>
  obtain ⟨h1,h2⟩:=h
  by_cases e:p.1=k
  ·have e':q.1=k:=h1.symm.trans e
   have b:valueAt (q :: qs) k=some q.2:=by simp [valueAt,List.find?_cons,e']
   rw [yD e,b]; exact h2
  ·have e':¬ q.1=k:=fun z=>e (h1.trans z)
   have b:valueAt (q :: qs) k=valueAt qs k:=by simp [valueAt,List.find?_cons,e']
   rw [yv e,b]; exact ih
theorem KV.any {kvs:List (κ × V)} {vs:List (κ × Value)} (r:KV kvs vs) (k:κ):(kvs.any fun kv=>decide (kv.1=k))=vs.any fun kv=>decide (kv.1=k):=by
 unfold KV at r
 induction r with
 | nil=>rfl
 | cons h t ih=>rw [List.any_cons,List.any_cons,ih,h.1]
theorem KV.repl {kvs:List (κ × V)} {vs:List (κ × Value)} (r:KV kvs vs) (k:κ) {y:V} {u:Value} (ry:zY y u) :
  KV (kvs.map fun kv=>if kv.1=k then (kv.1,y) else kv) (vs.map fun kv=>if kv.1=k then (kv.1,u) else kv):=by
 unfold KV at r ⊢
 induction r with
 | nil=>exact .nil
 | @cons p q ps qs h t ih =>
  rw [List.map_cons,List.map_cons]
  refine .cons ?_ ih
  obtain ⟨h1,h2⟩:=h
  by_cases e:p.1=k
  ·rw [if_pos e,if_pos (h1.symm.trans e)]; exact ⟨h1,ry⟩
  ·rw [if_neg e,if_neg (fun z=>e (h1.trans z))]; exact ⟨h1,h2⟩
theorem KV.put {kvs:List (κ × V)} {vs:List (κ × Value)} (r:KV kvs vs) (k:κ) {y:V} {u:Value} (ry:zY y u):KV (xz kvs k y) (stored vs k u):=by
 unfold xz stored
 rw [r.any k]
 by_cases e:(vs.any fun kv=>decide (kv.1=k))=true
 ·rw [if_pos e,if_pos e]; exact r.repl k ry
 ·rw [if_neg e,if_neg e]; exact Paired.snoc r ⟨rfl,ry⟩
theorem KV.length {kvs:List (κ × V)} {vs:List (κ × Value)} (r:KV kvs vs):kvs.length=vs.length:=Paired.length r
end
theorem Xm {P:Program} {w:World} {k:JP} {u:Value} (r:zY (kV k) u):(zM P w).is k u=true:=by
 cases k with
 | inl i=>obtain ⟨t,e⟩:=(show ∃ t,u=Value.int i t from r); subst e; exact Zx P w i t
 | inr x=>obtain ⟨t,e⟩:=(show ∃ t,u=Value.str x t from r); subst e; exact Zy P w x t
theorem jK {P:Program} {w:World}:∀ {ks:List JP} {us:List Value},zX (ks.map kV) us->ItemsAre (zM P w) ks us
 | [],_,r=>by rw [List.map_nil] at r; cases r; exact .nil
 | k :: ks,_,r=>by
  rw [List.map_cons] at r
  cases r with
  | cons h t=>exact .cons (Xm h) (jK t)
abbrev KT (H:Hp):List (List JP × V)->List (List JP × Addr × Value)->Prop:=Paired fun p q=>p.1=q.1 /\ H q.2.1=some (.tup (p.1.map kV)) /\ zY p.2 q.2.2
theorem KT.val {H:Hp} {kvs:List (List JP × V)} {xs:List (List JP × Addr × Value)} (r:KT H kvs xs) (k:List JP):je (wS kvs k) ((atKey xs k).map (·.2)):=by
 induction r with
 | nil=>exact True.intro
 | @cons p q ps qs h t ih =>
  obtain ⟨h1,_,h2⟩:=h
  by_cases e:p.1=k
  ·have e':q.1=k:=h1.symm.trans e
   have b:atKey (q :: qs) k=some q.2:=by simp [atKey,List.find?_cons,e']
   rw [yD e,b]; exact h2
  ·have e':¬ q.1=k:=fun z=>e (h1.trans z)
   have b:atKey (q :: qs) k=atKey qs k:=by simp [atKey,List.find?_cons,e']
   rw [yv e,b]; exact ih
theorem KT.repl {H:Hp} {kvs:List (List JP × V)} {xs:List (List JP × Addr × Value)} (r:KT H kvs xs) (k:List JP) {y:V} {u:Value} (ry:zY y u) :
  KT H (kvs.map fun kv=>if kv.1=k then (kv.1,y) else kv) (xs.map (putAt k u)):=by
 induction r with
 | nil=>exact .nil
 | @cons p q ps qs h t ih =>
  rw [List.map_cons,List.map_cons]
  refine .cons ?_ ih
  obtain ⟨h1,h2,h3⟩:=h
  unfold putAt
  by_cases e:p.1=k
  ·rw [if_pos e,if_pos (h1.symm.trans e)]; exact ⟨h1,h2,ry⟩
  ·rw [if_neg e,if_neg (fun z=>e (h1.trans z))]; exact ⟨h1,h2,h3⟩
theorem KT.put {H:Hp} {kvs:List (List JP × V)} {xs:List (List JP × Addr × Value)} (r:KT H kvs xs) (k:List JP) {b:Addr} {y:V} {u:Value} (hb:H b=some (.tup (k.map kV))) (ry:zY y u) :
  KT H (xz kvs k y) (storedH xs k b u):=by
 have e:(kvs.any fun kv=>decide (kv.1=k))=(atKey xs k).isSome:=by
  rw [wC,(r.val k).isSome_eq,Option.isSome_map]
 unfold xz storedH
 rw [e]
 by_cases q:(atKey xs k).isSome=true
 ·rw [if_pos q,if_pos q]; exact r.repl k ry
 ·rw [if_neg q,if_neg q]; exact Paired.snoc r ⟨rfl,hb,ry⟩
theorem KT.keeps {H H':Hp} {kvs:List (List JP × V)} {xs:List (List JP × Addr × Value)} (r:KT H kvs xs) (ht:∀ b ys,H b=some (.tup ys)->H' b=some (.tup ys)):KT H' kvs xs :=
 Paired.mapP r fun _ _ z=>⟨z.1,ht _ _ z.2.1,z.2.2⟩
section
variable {P:Program} {w:World} {H:Hp} {h:Heap} {a:Addr}
theorem RA {u:HO} (ok:JR P w H h) (e:Rd H a u):yw P w H h a u:=e.ok ok
theorem ZJ {kvs:List (JP × V)} (ok:JR P w H h) (e:Rd H a (.dK kvs)):kvs.length<=sizeLine /\ (a == sysModules)=false /\ ∃ vs,KV kvs vs /\ h.DictOf (zM P w) a vs :=
 show yw P w H h a (.dK kvs) from RA ok e
theorem T4 {kvs:List (JP × V)} (ok:JR P w H h) (e:H a=some (.dK kvs)):kvs.length<=sizeLine /\ (a == sysModules)=false /\ ∃ vs,KV kvs vs /\ h.DictOf (zM P w) a vs:=ZJ ok (.inl e)
theorem tL {ks:List JP} (ok:JR P w H h) (e:H a=some (.tup (ks.map kV))):(tupleKind (zM P w)).is h ks a:=by
 obtain ⟨_,its,r,o,h1,h2,n,h3⟩:=(show yw P w H h a (.tup (ks.map kV)) from ok a _ e)
 exact ⟨o,its.toArray,n,h1,h2,h3,by simpa using jK r⟩
theorem Xn {kvs:List (List JP × V)} (ok:JR P w H h) (e:Rd H a (.dT kvs)):kvs.length<=sizeLine /\ (a == sysModules)=false ∧
  ∃ xs,KT H kvs xs /\ h.DictOfH (tupleKind (zM P w)) a xs:=by
 obtain ⟨z,y,xs,r,o,es,ep,h1,h2,h3,h4,h5⟩:=(show yw P w H h a (.dT kvs) from RA ok e)
 refine ⟨z,y,xs,r,o,es,ep,h1,h2,h3,h4,fun x hx=>?_,h5⟩
 have all:∀ {l:List (List JP × V)} {m:List (List JP × Addr × Value)},KT H l m -> ∀ x ∈ m,(tupleKind (zM P w)).is h x.1 x.2.1:=by
  intro l m q
  induction q with
  | nil=>intro x hx; exact nomatch hx
  | @cons p q ps qs hq t ih =>
   intro x hx
   rcases List.mem_cons.mp hx with e | hx
   ·subst e
    exact tL ok (by rw [← hq.1]; exact hq.2.1)
   ·exact ih x hx
 exact all r x hx
theorem QH {kvs:List (List JP × V)} (ok:JR P w H h) (e:H a=some (.dT kvs)):kvs.length<=sizeLine /\ (a == sysModules)=false ∧
  ∃ xs,KT H kvs xs /\ h.DictOfH (tupleKind (zM P w)) a xs:=Xn ok (.inl e)
end
def qp (H:Hp) (a:Addr) (y:V) (r:Option V):Prop :=
 (∃ kvs k,Rd H a (.dK kvs) /\ y=kV k /\ r=wS kvs k) \/ ∃ kvs k b,Rd H a (.dT kvs) /\ y = .ref b /\ H b=some (.tup (k.map kV)) /\ r=wS kvs k
def T6 (H:Hp) (a:Addr) (y v:V) (H':Hp):Prop :=
 (∃ kvs k,H a=some (.dK kvs) /\ y=kV k /\ kvs.length < sizeLine /\ H' = JQ H a (.dK (xz kvs k v))) ∨
 ∃ kvs k b,H a=some (.dT kvs) /\ y = .ref b /\ H b=some (.tup (k.map kV)) /\ kvs.length < sizeLine /\ H' = JQ H a (.dT (xz kvs k v))
theorem qp.t {H:Hp} {a b:Addr} {kvs:List (List JP × V)} {k:List JP} (e:H a=some (.dT kvs)) (eb:H b=some (.tup (k.map kV))):qp H a (.ref b) (wS kvs k):=.inr ⟨kvs,k,b,.inl e,rfl,eb,rfl⟩
theorem T6.t {H:Hp} {a b:Addr} {kvs:List (List JP × V)} {k:List JP} {v:V} (e:H a=some (.dT kvs)) (eb:H b=some (.tup (k.map kV))) (hl:kvs.length < sizeLine) :
  T6 H a (.ref b) v (JQ H a (.dT (xz kvs k v))):=.inr ⟨kvs,k,b,e,rfl,eb,hl,rfl⟩
section
variable {X:Cx} {pins:List (Addr × Obj)} {σ:St} {H:Hp} {s:Shared} {a:Addr} {y v:V} {u r:Value} {o:Option V} {A:Around} {E:JO}
theorem Inv.big (I:Inv X pins σ H s):sysModules < s.heap.objs.size:=by
 have h:mainGlobals < s.heap.objs.size:=(I.mod.glob.keeps I.bk).lt
 exact Nat.lt_trans (by decide) h
theorem jL {Q:JO} (hu:A.units+1 < cLine) (I:Inv X pins σ H s) (g:qp H a y (some v)) (ry:zY y u) (h:∀ w' s',Inv X pins σ H s' -> zY v w' -> Q w' s') :
  wpAny (model X.prog X.w) A (getItem (.ref a) u) Q E s:=by
 rcases g with ⟨kvs,k,e,ey,l⟩ | ⟨kvs,k,b,e,ey,eb,l⟩
 ·subst ey
  obtain ⟨z,hd,vs,rel,dd⟩:=ZJ I.hok e
  obtain ⟨w',hw,rw'⟩:=je.some_of (v:=v) (o:=valueAt vs k) (by rw [l]; exact rel.val k)
  exact wpAny_getItem_of (Xm ry) dd.mapOf hw (h w' _ (I.tok _) rw')
 ·subst ey
  cases (show u=Value.ref b from ry)
  obtain ⟨z,hd,xs,rel,dd⟩:=Xn I.hok e
  obtain ⟨w',hw,rw'⟩:=je.some_of (v:=v) (o:=(atKey xs k).map (·.2)) (by rw [l]; exact rel.val k)
  obtain ⟨p,hp,hp2⟩:=Option.map_eq_some_iff.mp hw
  refine wpAny_getItem_heap (tupleKind_room_in1 hu) (tL I.hok eb) dd hp ?_
  rw [hp2]
  exact h w' _ (I.tok _) rw'
theorem qr {h':Heap} {t':Nat} {ob:HO} (I:Inv X pins σ H s) (mu:JS (H a)) (hs:Heap.SameBut a s.heap h') (he:∃ q,h'.get? a=some q) (new:yw X.prog X.w (JQ H a ob) h' a ob) :
  Inv X pins σ (JQ H a ob) { s with heap:=h',toks:=t' } :=
 I.write (x:=a) (e:=a) mu (.inl rfl) (fun b q hb z=>(hs.2 b hb).trans z) he new
theorem U0 {P:Program} {w:World} {H':Hp} {h':Heap} {kvs:List (JP × V)} {vs:List (JP × Value)} (z:kvs.length<=sizeLine) (hd:(a == sysModules)=false) (rel:KV kvs vs) (dd:h'.DictOf (zM P w) a vs) :
  yw P w H' h' a (.dK kvs):=⟨z,hd,vs,rel,dd⟩
theorem jM {H':Hp} {Q:Unit->Shared->Prop} (hu:A.units+1 < cLine) (I:Inv X pins σ H s) (g:T6 H a y v H') (ry:zY y u) (rv:zY v r) (h:∀ s',Inv X pins σ H' s' -> Q () s') :
  wpAny (model X.prog X.w) A (setItem (.ref a) u r) Q E s:=by
 rcases g with ⟨kvs,k,e,ey,l,eH⟩ | ⟨kvs,k,b,e,ey,eb,l,eH⟩
 ·subst ey eH
  obtain ⟨z,hd,vs,rel,dd⟩:=T4 I.hok e
  have hz:vs.length<=sizeLine:=by rw [← rel.length]; exact z
  have hl:(xz kvs k v).length<=sizeLine:=by have:=xA kvs k v; omega
  refine wpAny_setItem_pairs (hsz:=hz) (Xm ry) dd fun h' dd' hs=>h _ ?_
  have he:∃ q,h'.get? a=some q:=let ⟨q,_,_,hq,_⟩:=dd'; ⟨q,hq⟩
  exact qr I (by rw [e]; exact True.intro) hs he (U0 hl hd (rel.put k rv) dd')
 ·subst ey eH
  cases (show u=Value.ref b from ry)
  obtain ⟨z,hd,xs,rel,dd⟩:=QH I.hok e
  have hz:xs.length<=sizeLine:=by rw [← Paired.length rel]; exact z
  have hl:(xz kvs k v).length<=sizeLine:=by have:=xA kvs k v; omega
  refine wpAny_setItem_heap (hsz:=hz) (tupleKind_room_in1 hu) (tL I.hok eb) dd fun h' dd' hs=>h _ ?_
  obtain ⟨q,es,ep,hq,h2,h3,h4,_,h5⟩:=dd'
  refine qr I (by rw [e]; exact True.intro) hs ⟨q,hq⟩ ⟨hl,hd,_,(rel.put k eb rv).keeps fun c ys ec=>?_,q,es,ep,hq,h2,h3,h4,h5⟩
  rw [zu (Qd ec e (fun z=>nomatch z))]
  exact ec
end
section
variable {X:Cx} {pins:List (Addr × Obj)} {σ:St} {H:Hp} {s:Shared} {a:Addr} {kvs:List (JP × V)} {k:JP} {u:Value} {A:Around} {E:JO}
theorem QI {Q:JO} (I:Inv X pins σ H s) (e:Rd H a (.dK kvs)) (h:∀ t s',Inv X pins σ H s' -> Q (.int kvs.length t) s'):wpAny (model X.prog X.w) A (call (.builtin "len") [.ref a]) Q E s:=by
 obtain ⟨z,hd,vs,rel,dd⟩:=ZJ I.hok e
 refine call_len_dict hd dd (by rw [← rel.length]; rw [sizeLine_eq] at z; omega) ?_
 rw [← rel.length]
 exact h _ _ (I.tok _)
end
def Ja (i:Expr):Prop:=∀ ov iv,subscripted i false ov iv=operate [ov,iv] (getItem ov iv)
theorem T7 {prog:Program} {w:World} {A:Around} {E:JO} {s:Shared} {env:Env} {value slice:Expr} {pos:Pos} {T id:String} {Q:JO}
  (hl:typeLookup (.type T) "__getitem__" = pure (some (.builtin id))) (hs:Ja slice)
  (h:wpAny (model prog w) A (eval value env) (fun o s₁=>wpAny (model prog w) A (eval slice env) (fun i s₂=>s₂.TypeIs o T /\ wpAny (model prog w) A (getItem o i) Q E s₂) E s₁) E s) :
  wpAny (model prog w) A (eval (.Subscript value slice pos) env) Q E s:=by
 refine Subscript_ (wpAny_mono h (fun o s₁ h₁=>wpAny_mono h₁ (fun i s₂ h₂=>?_) fun _ _ x=>x) fun _ _ x=>x)
 obtain ⟨hT,h₂⟩:=h₂
 unfold subscriptTail
 refine wpAny_bind ?_
 rw [getitemInPython_of_ne hT.not_modules]
 refine wpAny_bind (wpAny_specialOf hT hl ?_)
 have fin:wpAny (model prog w) A (subscripted slice false o i) (fun r s₃=>wpAny (model prog w) A (letTemporaryGo value o r >>= fun _=>pure r) Q E s₃) E s₂:=by
  rw [hs o i]
  exact wpAny_operating (wpAny_mono h₂ (fun r s₃ h₃=>wpAny_bind (wpAny_letTemporaryGo (wpAny_pure h₃))) fun _ _ x=>x)
 first
  | exact wpAny_pure (wpAny_bind fin)
  | exact wpAny_bind (wpAny_pure (wpAny_bind fin))
  | exact wpAny_bind fin
theorem ZK {X:Cx} {pins:List (Addr × Obj)} {σ:St} {H:Hp} {s:Shared} {a:Addr} {y:V} {o:Option V} (I:Inv X pins σ H s) (g:qp H a y o):s.TypeIs (.ref a) "dict":=by
 rcases g with ⟨kvs,k,e,_,_⟩ | ⟨kvs,k,b,e,_,_,_⟩
 ·obtain ⟨_,_,vs,_,dd⟩:=ZJ I.hok e
  exact dd.typeIs
 ·obtain ⟨_,_,xs,_,dd⟩:=Xn I.hok e
  exact dd.typeIs
def QJ (td ty:TE):TE:=fun σ H Q=>td σ H fun x H1=>ty σ H1 fun y H2=>∃ a v,x = .ref a /\ qp H2 a y (some v) /\ Q v H2
def QK (td ty tv:TE):TS:=fun D σ H=>tv σ H fun v H1=>td σ H1 fun x H2=>ty σ H2 fun y H3=>∃ a H4,x = .ref a /\ T6 H3 a y v H4 /\ D.nx σ H4
def QL (td ty tv:TE) (rd:V->V->Hp->VK->Prop):TS:=fun D σ H=>td σ H fun x H1=>ty σ H1 fun y H2=>∃ a v,x = .ref a /\ qp H2 a y (some v) ∧
 tv σ H2 fun y2 H3=>rd v y2 H3 fun z H4=>∃ H5,T6 H4 a y z H5 /\ D.nx σ H5
section
variable {X:Cx} {o i e value:Expr} {pos pos' tpos:Pos} {td ty tv:TE}
theorem ww (hu:X.A.units+1 < cLine) (ho:PE X o td) (hi:PE X i ty) (hs:Ja i):PE X (.Subscript o i pos) (QJ td ty):=by
 intro pins s σ H Q I h
 refine T7 PySem.F.slot_dict_getitem.lookup hs (JY (ho pins s σ H _ I h) fun u s1 ⟨x,H1,I1,rx,q1⟩=>JY (hi pins s1 σ H1 _ I1 q1) fun iv s2 ⟨y,H2,I2,ry,a,v,ex,g,q2⟩=>?_)
 subst ex
 obtain rfl:u=Value.ref a:=rx
 exact ⟨ZK I2 g,jL hu I2 g ry fun w' s3 I3 rw'=>⟨v,H2,I3,rw',q2⟩⟩
theorem WK (hu:X.A.units+1 < cLine) (ho:PE X o td) (hi:PE X i ty) (hv:PE X value tv) (hs:swapsWith value (some (.Subscript o i pos')) pos.line X.env=pure false) :
  PS X (.Assign [.Subscript o i pos'] value pos) (QK td ty tv):=by
 intro pins s σ H D I h
 refine wpAny_Assign_Subscript (JY (hv pins s σ H _ I h) fun r s1 ⟨v,H1,I1,rv,q1⟩=>JY (ho pins s1 σ H1 _ I1 q1) fun u s2 ⟨x,H2,I2,rx,q2⟩=>JY (hi pins s2 σ H2 _ I2 q2) fun iv s3 ⟨y,H3,I3,ry,a,H4,ex,g,q3⟩=>?_) hs
 subst ex
 obtain rfl:u=Value.ref a:=rx
 exact jM hu I3 g ry rv fun s4 I4=>⟨σ,H4,I4,q3⟩
theorem WL {op:Operator} {rd:V->V->Hp->VK->Prop} (hu:X.A.units+1 < cLine) (ho:PE X o td) (hi:PE X i ty) (hv:PE X value tv) (hop:Q6 X op rd)
  (ha:∀ ov iv new,augStore i ov iv new=(do holding [new,ov,iv] (setItem ov iv new); release [new,ov,iv] []; pure .next)):PS X (.AugAssign (.Subscript o i tpos) op value pos) (QL td ty tv rd):=by
 intro pins s σ H D I h
 refine wpAny_AugAssign_SubscriptAny (JY (ho pins s σ H _ I h) fun u s1 ⟨x,H1,I1,rx,q1⟩=>JY (hi pins s1 σ H1 _ I1 q1) fun iv s2 ⟨y,H2,I2,ry,a,v,ex,g,q2⟩=>?_) ha
 subst ex
 obtain rfl:u=Value.ref a:=rx
 refine jL hu I2 g ry fun w' s3 I3 rw'=>JY (hv pins s3 σ H2 _ I3 q2) fun w2 s4 ⟨y2,H3,I4,ry2,q3⟩=>JY (hop pins s4 σ H3 v y2 w' w2 _ I4 rw' ry2 q3) fun w3 s5 ⟨z,H4,I5,rz,H5,g5,q4⟩=>?_
 exact jM hu I5 g5 ry rz fun s6 I6=>⟨σ,H5,I6,q4⟩
end
theorem Up {P:Program} {w:World} {H:Hp} (h:Heap) (hb:sysModules < h.objs.size):yw P w H (h.push { cls:=.type "dict",data:=.dict #[] }) h.objs.size (.dK []) :=
 ⟨Nat.zero_le _,beq_eq_false_iff_ne.mpr (Ne.symm (Nat.ne_of_lt hb)),[],.nil,Heap.DictOf.new h⟩
theorem Uq {P:Program} {w:World} {H:Hp} (h:Heap) (hb:sysModules < h.objs.size):yw P w H (h.push { cls:=.type "dict",data:=.dict #[] }) h.objs.size (.dT []) :=
 ⟨Nat.zero_le _,beq_eq_false_iff_ne.mpr (Ne.symm (Nat.ne_of_lt hb)),[],.nil,_,#[],0,Heap.get?_push_size _ rfl,⟨rfl,rfl,rfl⟩,rfl,rfl,List.nodup_nil⟩
def RB:TE:=fun _ H Q=>∀ p,H p=none->Q (.ref p) (JQ H p (.dK []))
section
variable {X:Cx} {pos:Pos}
theorem qt:PE X (.Dict [] [] pos) RB:=fun pins s σ H Q I h =>
 wpAny_Dict_empty ⟨.ref s.heap.objs.size,_,I.laid (a:=s.heap.objs.size) (o:=.dK []) (t':=s.toks) (fun _ _ q=>Heap.get?_push_of_some _ q) (Nat.le_refl _) (Up s.heap I.big),rfl,h _ (I.hok.fresh (Nat.le_refl _))⟩
end
structure M1 (X:Cx) (o:Expr) (m:Str) (apos:Pos) (e:Expr) (cpos:Pos):Prop where
 base:attributeBase o m X.env (eval o X.env)=eval o X.env
 few:((backTo cpos (starEach [e] X.env)).all (fun x=>!x.1) && (backToKw cpos (keywordEach [] X.env)).all (fun x=>x.1.isSome)
  && decide (([e]:List Expr).length+([]:List Keyword).length+(if ([]:List Keyword).isEmpty then 0 else 1) < 30))=true
 line:(apos.endLine == cpos.line)=true
 trees:backTo cpos (starEach [e] X.env)=[(false,eval e X.env)]
structure M2 (X:Cx) (o:Expr) (m:Str) (apos:Pos) (e f:Expr) (cpos:Pos):Prop where
 base:attributeBase o m X.env (eval o X.env)=eval o X.env
 few:((backTo cpos (starEach [e,f] X.env)).all (fun x=>!x.1) && (backToKw cpos (keywordEach [] X.env)).all (fun x=>x.1.isSome)
  && decide (([e,f]:List Expr).length+([]:List Keyword).length+(if ([]:List Keyword).isEmpty then 0 else 1) < 30))=true
 line:(apos.endLine == cpos.line)=true
 trees:backTo cpos (starEach [e,f] X.env)=[(false,eval e X.env),(false,eval f X.env)]
def IsD (H:Hp) (a:Addr):Prop:=(∃ kvs,Rd H a (.dK kvs)) \/ ∃ kvs,Rd H a (.dT kvs)
theorem U1 {X:Cx} {pins:List (Addr × Obj)} {σ:St} {H:Hp} {s:Shared} {a:Addr} (I:Inv X pins σ H s) (d:IsD H a) :
  s.TypeIs (.ref a) "dict" /\ (∀ b,Value.ref a = .ref b -> ∃ ob,s.heap.get? b=some ob /\ ob.dict=none) /\ (a == sysModules)=false:=by
 rcases d with ⟨kvs,e⟩ | ⟨kvs,e⟩
 ·obtain ⟨_,hd,vs,_,dd⟩:=ZJ I.hok e
  refine ⟨dd.typeIs,fun b q=>?_,hd⟩
  cases q
  obtain ⟨ob,_,_,h1,h2,_⟩:=dd
  exact ⟨ob,h1,h2.2.1⟩
 ·obtain ⟨_,hd,xs,_,dd⟩:=Xn I.hok e
  refine ⟨dd.typeIs,fun b q=>?_,hd⟩
  cases q
  obtain ⟨ob,_,_,h1,h2,_⟩:=dd
  exact ⟨ob,h1,h2.2.1⟩
section
variable {X:Cx} {pins:List (Addr × Obj)} {σ:St} {H:Hp} {s:Shared} {a:Addr} {y d:V} {u r:Value} {o:Option V} {A:Around} {E:JO}
theorem RC {Q:JO} (hu:A.units+1 < cLine) (I:Inv X pins σ H s) (g:qp H a y o) (ry:zY y u) (h:∀ w' s',Inv X pins σ H s' -> zY (o.getD .non) w' -> Q w' s') :
  wpAny (model X.prog X.w) A (call (.builtin "dict.get") [.ref a,u]) Q E s:=by
 rcases g with ⟨kvs,k,e,ey,l⟩ | ⟨kvs,k,b,e,ey,eb,l⟩
 ·subst ey
  obtain ⟨z,hd,vs,rel,dd⟩:=ZJ I.hok e
  refine call_meetsIn PySem.F.slot_dict_get dd.typeIs PySem.F.entry_dict_get (PySem.F.args_dict_get_2 _ _) (meets_dict_get (zM X.prog X.w) a (Xm ry) hd) ⟨_,dd.mapOf,h _ _ (I.tok _) ?_⟩
  rw [l]
  exact (rel.val k).getD rfl
 ·subst ey
  cases (show u=Value.ref b from ry)
  obtain ⟨z,hd,xs,rel,dd⟩:=Xn I.hok e
  refine call_meetsIn PySem.F.slot_dict_get dd.typeIs PySem.F.entry_dict_get (PySem.F.args_dict_get_2 _ _) (meetsH_dict_get (tupleKind (zM X.prog X.w)) a b hd) ⟨tupleKind_room_in1 hu,k,xs,tL I.hok eb,dd,h _ _ (I.tok _) ?_⟩
  rw [l]
  exact (rel.val k).getD rfl
theorem RD {Q:JO} (hu:A.units+1 < cLine) (I:Inv X pins σ H s) (g:qp H a y o) (ry:zY y u) (rd:zY d r) (h:∀ w' s',Inv X pins σ H s' -> zY (o.getD d) w' -> Q w' s') :
  wpAny (model X.prog X.w) A (call (.builtin "dict.get") [.ref a,u,r]) Q E s:=by
 rcases g with ⟨kvs,k,e,ey,l⟩ | ⟨kvs,k,b,e,ey,eb,l⟩
 ·subst ey
  obtain ⟨z,hd,vs,rel,dd⟩:=ZJ I.hok e
  refine call_meetsIn PySem.F.slot_dict_get dd.typeIs PySem.F.entry_dict_get (PySem.F.args_dict_get_3 _ _ _) (meets_dict_get_default (zM X.prog X.w) a (Xm ry) hd r) ⟨_,dd.mapOf,h _ _ (I.tok _) ?_⟩
  rw [l]
  exact (rel.val k).getD rd
 ·subst ey
  cases (show u=Value.ref b from ry)
  obtain ⟨z,hd,xs,rel,dd⟩:=Xn I.hok e
  refine call_meetsIn PySem.F.slot_dict_get dd.typeIs PySem.F.entry_dict_get (PySem.F.args_dict_get_3 _ _ _) (meetsH_dict_get_default (tupleKind (zM X.prog X.w)) a b hd r) ⟨tupleKind_room_in1 hu,k,xs,tL I.hok eb,dd,h _ _ (I.tok _) ?_⟩
  rw [l]
  exact (rel.val k).getD rd
end
def RE (td ty:TE):TE:=fun σ H Q=>td σ H fun x H1=>∃ a,x = .ref a /\ IsD H1 a /\ ty σ H1 fun y H2=>∃ o,qp H2 a y o /\ Q (o.getD .non) H2
def RF (td ty tx:TE):TE:=fun σ H Q=>td σ H fun x H1=>∃ a,x = .ref a /\ IsD H1 a /\ ty σ H1 fun y H2=>tx σ H2 fun z H3=>∃ o,qp H3 a y o /\ Q (o.getD z) H3
section
variable {X:Cx} {o e f:Expr} {apos cpos:Pos} {td ty tx:TE}
theorem Ur (hu:X.A.units+1 < cLine) (ho:PE X o td) (he:PE X e ty) (m:M1 X o "get" apos e cpos):PE X (.Call (.Attribute o "get" apos) [e] [] cpos) (RE td ty):=by
 intro pins s σ H Q I h
 refine wpAny_Call_method m.base m.few m.line PySem.F.plainAttrs_dict PySem.F.slot_dict_get PySem.F.type_dict_get (JY (ho pins s σ H _ I h) fun u s1 ⟨x,H1,I1,rx,a,ex,d,q1⟩=>?_)
 subst ex
 obtain rfl:u=Value.ref a:=rx
 obtain ⟨t1,t2,_⟩:=U1 I1 d
 refine ⟨t1,t2,?_⟩
 rw [m.trees]
 refine Calls.callWith_builtin rfl (Calls.evalArgs_plain (Calls.spliced_cons (JY (he pins s1 σ H1 _ I1 q1) fun iv s2 ⟨y,H2,I2,ry,ov,g,q2⟩=>Calls.spliced_nil ?_)))
 exact RC hu I2 g ry fun w' s3 I3 rw'=>⟨_,H2,I3,rw',q2⟩
theorem Us (hu:X.A.units+1 < cLine) (ho:PE X o td) (he:PE X e ty) (hf:PE X f tx) (m:M2 X o "get" apos e f cpos):PE X (.Call (.Attribute o "get" apos) [e,f] [] cpos) (RF td ty tx):=by
 intro pins s σ H Q I h
 refine wpAny_Call_method m.base m.few m.line PySem.F.plainAttrs_dict PySem.F.slot_dict_get PySem.F.type_dict_get (JY (ho pins s σ H _ I h) fun u s1 ⟨x,H1,I1,rx,a,ex,d,q1⟩=>?_)
 subst ex
 obtain rfl:u=Value.ref a:=rx
 obtain ⟨t1,t2,_⟩:=U1 I1 d
 refine ⟨t1,t2,?_⟩
 rw [m.trees]
 refine Calls.callWith_builtin rfl (Calls.evalArgs_plain (Calls.spliced_cons (JY (he pins s1 σ H1 _ I1 q1) fun iv s2 ⟨y,H2,I2,ry,q2⟩ =>
  Calls.spliced_cons (JY (hf pins s2 σ H2 _ I2 q2) fun fv s3 ⟨z,H3,I3,rz,ov,g,q3⟩=>Calls.spliced_nil ?_))))
 exact RD hu I3 g ry rz fun w' s4 I4 rw'=>⟨_,H3,I4,rw',q3⟩
end
end L2
namespace Att
open PySem PySem.W PySem.Calls PyProof.Rows
end Att
namespace L2
open PySem PySem.Spec PyProof.Rows
section
variable {X:Cx}
theorem WM:wp X (.builtin "len") (fun xs H Q=>∃ a kvs,xs=[V.ref a] /\ H a=some (.dK kvs) /\ Q (.int kvs.length) H):=by
 intro pins s σ H xs us Q I r h
 obtain ⟨a,kvs,rfl,ha,q⟩:=h
 obtain ⟨u,rfl,ru⟩:=vX r
 cases ru
 exact QI I (.inl ha) fun t s' I'=>⟨.int kvs.length,H,I',⟨t,rfl⟩,q⟩
end
end L2
namespace L3
open PySem PySem.Spec PyProof.Rows L2
open PySem PySem.Spec PyProof.Rows L2 PySem.W
open PySem PySem.Spec PyProof.Rows L2 HT
theorem WN:∀ d:List Int,(d.map (Sum.inl:Int->JP)).map kV=d.map V.int
 | []=>rfl
 | x :: d=>by rw [List.map_cons,List.map_cons,List.map_cons,WN d]; rfl
abbrev FW:=List (List Int × List Int)
def kI (d:List Int):List JP:=d.map Sum.inl
theorem QM (d:List Int):(kI d).map kV=d.map V.int:=WN d
theorem Grow.setDT {m:List Addr} {H:Hp} {p:Addr} {xs:List (List JP × V)} (h:H p=some (.dT xs)) (hm:p ∈ m) (ys:List (List JP × V)):Grow m H (JQ H p (.dT ys)) :=
 ⟨fun b u hb q=>by rw [zu (show b ≠ p from fun z=>hb (by rw [z]; exact hm))]; exact q,fun b zs q=>by rw [zu (fun z=>by subst z; rw [h] at q; cases q)]; exact q,fun b u v q=>by rw [zu (fun z=>by subst z; rw [h] at q; cases q)]; exact q⟩
theorem Room.u1F {k:Nat} {A:Around} (r:Room k A):A.units+1 < cLine:=by have:=r.un; omega
def Yz (prog:Program) (w:World) (Hb:Hp) (h:Heap) (D:Addr) (o:Obj) (kvs:List (List JP × V)):Prop :=
 kvs.length<=sizeLine /\ (D == sysModules)=false /\ ∃ xs:List (List JP × Addr × Value),KT Hb kvs xs /\ ∃ es ep,h.get? D=some o /\ o.ExactDict /\ o.data = .dict es ep /\ es.toList=xs.map (entryOfKey (tupleKind (zM prog w))) /\ (xs.map (·.1)).Nodup
theorem Yz.at {prog:Program} {w:World} {Hb:Hp} {h h':Heap} {D:Addr} {o:Obj} {kvs:List (List JP × V)} (r:Yz prog w Hb h D o kvs) (e:h'.get? D=some o):Yz prog w Hb h' D o kvs :=
 let ⟨z,y,xs,k,es,ep,_,h2,h3,h4,h5⟩:=r; ⟨z,y,xs,k,es,ep,e,h2,h3,h4,h5⟩
theorem Yz.obj {prog:Program} {w:World} {Hb H':Hp} {h:Heap} {D:Addr} {o:Obj} {kvs:List (List JP × V)} (r:Yz prog w Hb h D o kvs) (hk:∀ b xs,Hb b=some (.tup xs)->H' b=some (.tup xs)):yw prog w H' h D (.dT kvs) :=
 let ⟨z,y,xs,k,es,ep,h1,h2,h3,h4,h5⟩:=r; ⟨z,y,xs,k.keeps hk,o,es,ep,h1,h2,h3,h4,h5⟩
theorem Yz.nocell {prog:Program} {w:World} {Hb:Hp} {h:Heap} {D:Addr} {o:Obj} {kvs:List (List JP × V)} (r:Yz prog w Hb h D o kvs) (v:Option Value):o.data ≠ .cell v:=by
 obtain ⟨_,_,_,_,es,ep,_,_,h3,_⟩:=r
 rw [h3]; intro z; cases z
section
variable {X:Cx} {pins:List (Addr × Obj)} {σ:L2.St} {H2:Hp} {s₂:Shared} {it:Addr} {fp:List Addr} {tn:Nat->Heap->Prop} {J:It} {scope:Scope} {cl:List (Str × Addr)} {N':List Str} {sub:List (Option Nat)}
theorem WO {C D:Addr} {s₀:Shared} {s':Shared} {σ':L2.St} {H' Hb:Hp} {kvs:List (List JP × V)} {o oC:Obj} (I:Inv X pins σ H2 s₂)
    (hs₀:∀ b o,s₂.heap.get? b=some o->s₀.heap.get? b=some o) (hos:s₀.os=s₂.os) (hD:s₂.heap.objs.size<=D) (hC:s₂.heap.objs.size<=C) (hDC:D ≠ C) (f2:∀ b ∈ fp,vg X pins H2 b)
    (I':Inv (cxC X N' scope cl C D fp s₀ H2) pins σ' H' s') (hn:H' D=none) (hb:∀ b xs,Hb b=some (.tup xs)->H' b=some (.tup xs)) (rv:Yz X.prog X.w Hb s'.heap D o kvs)
    (ho:s'.heap.get? C=some oC) (hd:∀ v,oC.data ≠ .cell v):Inv X (pins ++ [(C,oC)]) σ (JQ H' D (.dT kvs)) s' /\ vg X pins (JQ H' D (.dT kvs)) C:=by
  have neD:∀ b o,s₂.heap.get? b=some o->b ≠ D:=fun b o e=>Nat.ne_of_lt (Nat.lt_of_lt_of_le (Heap.lt_size e) hD)
  have nm:∀ b o,s₂.heap.get? b=some o->b ∉ fp->b ∉ D :: fp:=fun b o e h z=>(List.mem_cons.mp z).elim (neD b o e) h
  have U:=I'.base
  have HC:JQ H' D (.dT kvs) C=none:=by rw [zu (Ne.symm hDC)]; exact I'.free
  have fpc:vg X pins (JQ H' D (.dT kvs)) C:=I.fpOk hC HC
  have tp:∀ b xs,H2 b=some (.tup xs)->JQ H' D (.dT kvs) b=some (.tup xs):=fun b xs e=>by have z:=U.tups b xs e; rw [zu (zA z hn)]; exact z
  have un:Un (JU X.stack) fp H2 (JQ H' D (.dT kvs)) s₂.heap s'.heap :=
    { keep:=fun b o e n h1 h2=>U.keep b o (hs₀ b o e) n h1 (nm b o e h2)
      slot:=fun b o e n h1 h2=>U.slot b o (hs₀ b o e) n h1 (nm b o e h2)
      free:=fun b o e n h2=>by rw [zu (neD b o e)]; exact U.free b o (hs₀ b o e) n (nm b o e h2)
      there:=fun b o e h2=>U.there b o (hs₀ b o e) (nm b o e h2)
      tups:=tp
      frzs:=fun b o u e=>by have z:=U.frzs b o u e; rw [zu (zA z hn)]; exact z
      tbls:=fun b ps e=>by obtain ⟨more,z⟩:=U.tbls b ps e; exact ⟨more,by rw [zu (zA z hn)]; exact z⟩ }
  have hok:JR X.prog X.w (JQ H' D (.dT kvs)) s'.heap:=JR.track I'.hok hn (rv.obj fun b xs e=>by have z:=hb b xs e; rw [zu (zA z hn)]; exact z)
  have IX:Inv X pins σ (JQ H' D (.dT kvs)) s':=I.call' (I'.os.trans hos) un hok I'.bare fun b hb=>⟨(f2 b hb).2.2.2.1,(f2 b hb).2.1,(f2 b hb).2.2.2.2.1,(f2 b hb).2.2.2.2.2⟩
  refine ⟨IX.pins_of fun p hp=>?_,fpc⟩
  rcases List.mem_append.mp hp with hp | hp
  · exact IX.pin p (List.mem_append_right _ hp)
  · rw [List.mem_singleton.mp hp]
    exact ⟨ho,HC,fpc.2.1,fpc.2.2.1,hd⟩
end
def zW (k s l b:Nat):Nat:=wfN k s l (xF k s ((b % 2 ^ k:Nat):Int))
section
variable {k:Nat} {rows:List (List Int)}
theorem T8 {b:Nat}:b % 2 ^ k < 2 ^ k:=Nat.mod_lt _ (Nat.two_pow_pos k)
theorem Jb {s l b:Nat} (k4:k<=4) (s1:1<=s) (sk:s<=k) (hl:l < 2 ^ k):WfF k s l (xF k s ((b % 2 ^ k:Nat):Int)):=wfF k4 s1 sk hl (QF k4 sk T8)
end
section
variable {c:TT} {e:TE} {i:Nat} {v v':V} {t u r:TS} {D:Ends} {σ:L2.St} {H:Hp} {rt:VK} {bk ct:L2.St->Hp->Prop}
theorem xr (h:t D (σ.set i (some v)) H):vW i v σ H ({ nx:=t D,rt:=rt,bk:=bk,ct:=ct }:Ends).nx:=h
theorem WP (e:v=v') (h:t D (σ.set i (some v')) H):vW i v σ H ({ nx:=t D,rt:=rt,bk:=bk,ct:=ct }:Ends).nx:=by subst e; exact h
theorem R9 (Good:L2.St->Hp->Prop) (hr:∀ σ' H',Good σ' H' -> r D σ' H') (hc:(∀ σ' H',Good σ' H' -> r D σ' H')->SR c t u { D with nx:=r D } σ H):Tn (SR c t u) r D σ H:=hc hr
theorem uM (Good:V->Hp->Prop) (hc:∀ K:VK,(∀ v H',Good v H' -> K v H')->e σ H K) (hr:∀ v H',Good v H' -> t D (σ.set i (some v)) H'):Tn (R5 e (vW i)) t D σ H:=hc _ fun v H' g=>hr v H' g
theorem wT (h:t D σ H):SQ ({ nx:=t D,rt:=rt,bk:=bk,ct:=ct }:Ends) σ H:=h
theorem QN (h:t D σ H):({ nx:=t D,rt:=rt,bk:=bk,ct:=ct }:Ends).nx σ H:=h
theorem rj (Good:Bool->Hp->Prop) (hc:∀ K:Bool->Hp->Prop,(∀ b H',Good b H' -> K b H')->c σ H K) (hr:∀ b H',Good b H' -> if b=true then t { D with nx:=r D } σ H' else u { D with nx:=r D } σ H'):Tn (SR c t u) r D σ H:=hc _ hr
end
theorem Xo:∀ k:Fin 5,∀ b:Fin 16,Builtin.bitAnd (b.val:Int) (1 * 2 ^ ((k.val:Int)).toNat - 1)=((b.val % 2 ^ k.val:Nat):Int):=by decide +kernel
theorem Ut {k b:Nat} (k4:k<=4) (hb:b < 16):Builtin.bitAnd (b:Int) (1 * 2 ^ ((k:Int)).toNat - 1)=((b % 2 ^ k:Nat):Int):=Xo ⟨k,by omega⟩ ⟨b,hb⟩
def jN (_:JN):Sp:=sp2 fun x y H Q=>∃ (k b:Nat),x = .int k /\ y = .int b /\ k<=4 /\ b < 16 /\ Q (.int ((b % 2 ^ k:Nat):Int)) H
theorem jO:typeLookup (.type "list") "keys" = pure none:=by rw [typeLookup_type,builtinLookup_eq_fast]; kernel_rfl
theorem wL:typeLookup (.type "list") "__getattr__" = pure none:=by rw [typeLookup_type,builtinLookup_eq_fast]; kernel_rfl
section
variable {prog:Program} {w:World} {A:Around} {E:JO}
theorem Xp (a:Addr) (u:Tok):MeetsIn prog w (Builtin.«object.__getattribute__» ⟨[.ref a,.str "keys" u],[]⟩)
  (fun A R s=>A.handled=none /\ (∃ its n,s.heap.get? a=some { cls:=.type "list",data:=.seq its n }) /\ ∀ h' tk e,Heap.NewAttrErr s.heap h' e (.ref a) "keys" -> R (.error (.ref e)) { s with heap:=h',toks:=tk }) :=
 .of_wp fun A R s ⟨hh,⟨its,n,hx⟩,hR⟩=>by
  obtain ⟨h,g,d,t,os⟩:=s
  have hT:(⟨h,g,d,t,os⟩:Shared).TypeIs (.ref a) "list":=⟨_,hx,rfl⟩
  have f4:=jO
  unfold Builtin.«object.__getattribute__»
  repeat (any_goals (first | assumption | wp_step))
  exact wpAny_raiseAttrError hh hR (attrMsg_fits (by decide +kernel) (by size_fits))
theorem sD {s:Shared} {a:Addr} {its:Array Value} {n:Nat} {Q:Option Value->Shared->Prop} (hx:s.heap.get? a=some { cls:=.type "list",data:=.seq its n }) (hA:A.handled=none)
  (hq:∀ h' tk,(∀ b o,s.heap.get? b=some o->h'.get? b=some o)->Q none { s with heap:=h',toks:=tk }) :
  wpAny (model prog w) A (getAttr? (.ref a) "keys") Q E s:=by
 obtain ⟨h,g,d,t,os⟩:=s
 have hT:∀ t',(⟨h,g,d,t',os⟩:Shared).TypeIs (.ref a) "list":=fun _=>⟨_,hx,rfl⟩
 have f1:=sub_AttributeError
 have f3:=F.slot_list_getattribute.lookup
 have f4:=F.slot_list_getattribute.bind (.ref a)
 have f5:=wL
 unfold getAttr? getAttrBy? getAttrBy
 repeat (any_goals (first | assumption | exact hT _ | ((with_reducible show wpAny _ _ (call (Value.builtin "list.__getattribute__") _ _) _ _ _); refine call_meetsIn F.slot_list_getattribute (hT _) F.entry_list_ga (F.args_list_getattribute_2 _ _) (Xp a _) ⟨hA,⟨_,_,hx⟩,fun h' tk' e hxx=>?_⟩) | wp_step))
 obtain ⟨t',u',he⟩:=hxx.there
 show wpAny _ _ (getattributeRaised _ _ _ _ _ _ _) _ _ _
 unfold getattributeRaised
 have hE:∀ t2,(⟨h',g,d,t2,os⟩:Shared).TypeIs (.ref e) "AttributeError":=fun _=>⟨_,he,rfl⟩
 repeat (any_goals (first | assumption | exact hE _ | wp_step))
 exact hq _ _ hxx.keeps
end
def sE (ps:List (JP × V)):List (JP × V):=ps.foldl (fun d p=>xz d p.1 p.2) []
theorem jP (ps:List (JP × V)):(sE ps).length<=ps.length:=by
 have go:∀ (ps d:List (JP × V)),(ps.foldl (fun d p=>xz d p.1 p.2) d).length<=d.length+ps.length:=by
  intro ps
  induction ps with
  | nil=>intro d; exact Nat.le_refl _
  | cons p ps ih =>
   intro d
   have h1:=ih (xz d p.1 p.2)
   have h2:=xA d p.1 p.2
   rw [List.foldl_cons,List.length_cons]
   omega
 have:=go ps []
 rw [List.length_nil,Nat.zero_add] at this
 exact this
theorem Xq {ps:List (JP × V)} {i:Nat} {p:JP × V} (h:ps[i]? = some p):sE (ps.take (i+1))=xz (sE (ps.take i)) p.1 p.2:=by
 unfold sE
 rw [List.take_succ,h,Option.toList_some,List.foldl_append]
 rfl
theorem rk:entryFor table "dict.update.loop" = some Builtin.«dict.update.loop»:=entryFor_of_tree (by kernel_rfl)
theorem wD:plainId "dict.update.loop" = true:=by decide +kernel
theorem jQ:∀ {zs:List V} {us:List Value} {i:Nat} {u:Value},zX zs us->us[i]? = some u -> ∃ z,zs[i]? = some z /\ zY z u
 | _,_,_,_,.nil,h=>by cases h
 | _,_,0,_,.cons r _,h=>by cases h; exact ⟨_,rfl,r⟩
 | _,_,i+1,_,.cons _ t,h=>jQ (i:=i) t h
def ZL (H:Hp) (ys:List V) (ps:List (JP × V)):Prop:=ys.length=ps.length /\ ∀ (i:Nat) (p:JP × V),ps[i]? = some p -> ∃ t,ys[i]? = some (V.ref t) /\ H t=some (.tup [kV p.1,p.2])
section
variable {prog:Program} {w:World} {A:Around} {E:JO} {R:Result->Shared->Prop} {I D:Addr} {fp wr:List Addr} {n:Nat} {P:Nat->Value->Prop} {St:Nat->Heap->Prop} {H:Hp} {s₀:Shared}
theorem Xr {zs:List V} {ps:List (JP × V)} (ok:JR prog w H s₀.heap) (W:Walks prog w A.in1 I fp wr n P St) (hDf:D ∉ fp) (hD:s₀.heap.objs.size<=D) (hwr:∀ b ∈ wr,s₀.heap.objs.size<=b)
  (hn:n<=sizeLine) (hpl:ps.length=n) (ha:ZL H zs ps) (hP:∀ i v,P i v -> ∃ z,zs[i]? = some z /\ zY z v) :
  ∀ (k i:Nat) (s:Shared),n - i=k->i<=n->St i s.heap->(∀ b o,b ≠ D->b ∉ wr->s₀.heap.get? b=some o->s.heap.get? b=some o)->(∃ us,KV (sE (ps.take i)) us /\ s.heap.DictOf (zM prog w) D us) →
   (∀ h' tk,(∀ b o,b ≠ D->b ∉ wr->s₀.heap.get? b=some o->h'.get? b=some o)->(∃ us,KV (sE ps) us /\ h'.DictOf (zM prog w) D us)->R (.ok (.ret .none)) { s with heap:=h',toks:=tk }) →
   codeAny (model prog w) A (.builtin "dict.update.loop" ⟨[.ref D,.ref I,rawInt i,.none],[]⟩) R s:=by
 have hDw:D ∉ wr:=fun h=>hDf (W.sub _ h)
 have old:∀ b o,s₀.heap.get? b=some o->b ≠ D /\ b ∉ wr:=fun b o e=>⟨Nat.ne_of_lt (Nat.lt_of_lt_of_le (Heap.lt_size e) hD),fun z=>absurd (Heap.lt_size e) (Nat.not_lt.mpr (hwr b z))⟩
 intro k
 induction k with
 | zero =>
  intro i s hk hi hst kp hS hR
  have hin:i=n:=by omega
  subst hin
  refine codeAny_builtin rk ?_
  rw [Around.under_plainId wD _]
  show wpAny _ A.in1 (pyNext (.ref I) >>= _) _ _ s
  refine wpAny_bind (W.done s _ _ hst fun h' tk hm=>?_)
  show wpAny _ A.in1 (Builtin.Dict.addKeywords D [] >>= fun _=>ret Value.none) _ _ _
  unfold Builtin.Dict.addKeywords
  refine wpAny_bind (wpAny_pure (wpAny_pure (hR h' tk (fun b o h1 h2 e=>hm b o h2 (kp b o h1 h2 e)) ?_)))
  obtain ⟨us,v1,o,es,ep,ho,r⟩:=hS
  rw [← hpl,List.take_length] at v1
  exact ⟨us,v1,o,es,ep,hm D o hDw ho,r⟩
 | succ k ih =>
  intro i s hk hi hst kp hS hR
  have hlt:i < n:=by omega
  refine codeAny_builtin rk ?_
  rw [Around.under_plainId wD _]
  show wpAny _ A.in1 (pyNext (.ref I) >>= _) _ _ s
  refine wpAny_bind (W.item i s _ _ hlt hst fun v h1 tk1 hPv hst1 hk1=>?_)
  obtain ⟨z,hz,rz⟩:=hP i v hPv
  obtain ⟨x,hx⟩:∃ x,ps[i]? = some x:=⟨_,List.getElem?_eq_getElem (by omega)⟩
  obtain ⟨t,hzt,ht⟩:=ha.2 i x hx
  rw [hz] at hzt
  obtain rfl:=Option.some.inj hzt
  cases (show v=Value.ref t from rz)
  have kp1:∀ b o,b ≠ D->b ∉ wr->s₀.heap.get? b=some o->h1.get? b=some o:=fun b o h1 h2 e=>hk1 b o h2 (kp b o h1 h2 e)
  have kps:∀ b o,s₀.heap.get? b=some o->h1.get? b=some o:=fun b o e=>kp1 b o (old b o e).1 (old b o e).2 e
  obtain ⟨_,its,rits,hit⟩:=(show yw prog w H s₀.heap t (.tup [kV x.1,x.2]) from ok t _ ht)
  obtain ⟨u1,uv,rfl,r1,rv⟩:∃ u1 uv,its=[u1,uv] /\ zY (kV x.1) u1 /\ zY x.2 uv:=by
   cases rits with
   | cons a c=>cases c with | cons b d=>cases d; exact ⟨_,_,rfl,a,b⟩
  obtain ⟨ot,hot,hct,m,hdt⟩:=hit
  have hot1:=kps t ot hot
  obtain ⟨us,v1,o,es,ep,ho,r⟩:=hS
  have ul:us.length<=i:=by have:=v1.length; have h2:=jP (ps.take i); rw [List.length_take] at h2; omega
  have dd:h1.DictOf (zM prog w) D us:=⟨o,es,ep,hk1 D o hDw ho,r⟩
  refine wpAny_bind (wpAny_holding ?_)
  show wpAny _ A.in1 ((Builtin.Dict.pairItems (.ref t)).tryCatch _ >>= _) _ _ _
  refine wpAny_bind (wpAny_tryCatch ?_)
  unfold Builtin.Dict.pairItems
  refine wpAny_bind (wpAny_typeOf (T:="tuple") ⟨ot,hot1,hct⟩ ?_)
  show wpAny _ _ (if (Value.type "tuple" == Value.type "list" || Value.type "tuple" == Value.type "tuple")=true then _ else _) _ _ _
  rw [if_pos (by decide)]
  refine wpAny_bind (wpAny_seqItems hot1 hdt (wpAny_pure ?_))
  show wpAny _ _ (holding [u1,uv] (dictSet D u1 uv)) _ _ _
  refine wpAny_holding ?_
  refine wpAny_dictSet_pairs (knd:=zM prog w) (k:=x.1) (hsz:=by omega) (Xm r1) dd fun h2 dd2 sb=>?_
  refine wpAny_pure ⟨plainId_quiet wD _,?_⟩
  have e1:((i:Int)+1)=((i+1:Nat):Int):=by omega
  have kp2:∀ b o,b ≠ D->b ∉ wr->s₀.heap.get? b=some o->h2.get? b=some o:=fun b o hb hw e=>sb.extBut b o hb (kp1 b o hb hw e)
  show codeAny (model prog w) A (.builtin "dict.update.loop" ⟨[.ref D,.ref I,rawInt ((i:Int)+1),.none],[]⟩) R _
  rw [e1]
  refine ih (i+1) _ (by omega) hlt (W.frame _ _ _ hst1 fun b hb o e=>sb.extBut b o (fun h=>hDf (h ▸ hb)) e) kp2 ⟨_,?_,dd2⟩ fun h' tk k' d'=>hR h' tk k' d'
  rw [Xq hx]
  exact v1.put _ rv
end
section
variable {X:Cx}
theorem Xs {k:Nat} (hr:Room k X.A):wp X (.type "dict") (fun xs H Q=>∃ a zs ps,xs=[V.ref a] /\ H a=some (.lst zs) /\ ZL H zs ps /\ ∀ l,H l=none->Q (.ref l) (JQ H l (.dK (sE ps)))):=by
 intro pins s σ H xs us Q I r h
 obtain ⟨a,zs,ps,rfl,ha,hall,q⟩:=h
 obtain ⟨u,rfl,ru⟩:=vX r
 cases ru
 obtain ⟨z,its,m,rits,ea⟩:=(show yw X.prog X.w H s.heap a (.lst zs) from I.hok a _ ha)
 have zl:=hall.1
 have il:=rits.length
 refine callType_codes (Q₁:=fun obj s₁=>obj = .ref s.heap.objs.size /\ s₁ = { s with heap:=s.heap.push { cls:=.type "dict",data:=.dict #[] } }) F.kt_called_dict (F.kt_typeCall_dict_1 _) F.entry_dict_init (kt_code_dict_new _ ⟨rfl,rfl⟩) ?_
 rintro obj s₁ ⟨rfl,rfl⟩
 have hT:(s.heap.push { cls:=.type "dict",data:=.dict #[] }).get? s.heap.objs.size=some { cls:=.type "dict",data:=.dict #[] }:=Heap.get?_push_size _ rfl
 refine ⟨⟨_,hT,rfl⟩,F.args_dict_init_2 _ _,?_⟩
 unfold Builtin.«dict.__init__»
 refine wpAny_bind ?_
 unfold Builtin.Dict.selfAndRest
 refine wpAny_bind (wpAny_notOrdered_dict ⟨_,hT,rfl⟩ (show wpAny _ _ (pure (s.heap.objs.size,[Value.ref a])) _ _ _ from wpAny_pure ?_))
 show wpAny _ _ (Builtin.Dict.updateFrom "dict.__init__" s.heap.objs.size (.ref a) [] .none) _ _ _
 unfold Builtin.Dict.updateFrom
 have ea1:(s.heap.push { cls:=.type "dict",data:=.dict #[] }).get? a=some { cls:=.type "list",data:=.seq its.toArray m }:=Heap.get?_push_of_some _ ea
 refine wpAny_bind (wpAny_typeOf (T:="list") ⟨_,ea1,rfl⟩ ?_)
 rw [if_pos (by decide)]
 refine wpAny_bind (sD ea1 hr.hd fun h1 tk1 k1=>?_)
 rw [if_pos (by rfl)]
 refine wpAny_bind (wpAny_rule ?_)
 have eah:h1.get? a=some { cls:=.type "list",data:=.seq its.toArray m }:=k1 _ _ ea1
 have hla:h1.IsList a its.toArray:=⟨_,eah,rfl,_,rfl⟩
 have hsz:s.heap.objs.size < h1.objs.size:=Heap.lt_size (k1 _ _ hT)
 have ks:∀ b o,s.heap.get? b=some o->h1.get? b=some o:=fun b o e=>k1 b o (Heap.get?_push_of_some _ e)
 have alt:a < h1.objs.size:=Heap.lt_size eah
 refine wpAny_bind (wpAny_pyIter_list (l:=a) (items:=its.toArray) hla ?_)
 refine wpAny_pure ⟨plainId_quiet wD _,?_⟩
 refine Xr (A:=X.A.in1) (H:=H) (s₀:=s) (D:=s.heap.objs.size) (I:=h1.objs.size) I.hok (Walks.list (A:=X.A.in1.in1) hr.hd h1.objs.size a (Nat.ne_of_lt alt) its.toArray) ?_ (Nat.le_refl _) ?_ (by rw [List.size_toArray,← il]; exact z) (by rw [List.size_toArray,← il,zl]) hall ?_ _ 0 _ rfl (Nat.zero_le _) ⟨⟨_,Heap.get?_push_size _ rfl,rfl,rfl⟩,hla.push _⟩ (fun b o _ _ e=>Heap.get?_push_of_some _ (ks b o e)) ⟨[],.nil,_,#[],0,Heap.get?_push_of_some _ (k1 _ _ hT),⟨rfl,rfl,rfl⟩,rfl,fun e he=>by simp at he,.nil,List.nodup_nil⟩ ?_
 ·intro hm
  simp only [List.mem_cons,List.mem_nil_iff,or_false] at hm
  rcases hm with e | e
  ·exact absurd e (Nat.ne_of_lt hsz)
  ·rw [← e] at ea; exact absurd (Heap.lt_size ea) (Nat.lt_irrefl _)
 ·intro b hb
  rw [List.mem_singleton.mp hb]; exact Nat.le_of_lt hsz
 ·intro i v hv
  exact jQ rits (show its[i]? = some v by simpa using hv)
 ·rintro h' tk kp' ⟨us,rel,dd⟩
  have hf:H s.heap.objs.size=none:=I.hok.fresh (Nat.le_refl _)
  have hsM:(s.heap.objs.size == sysModules)=false:=beq_false_of_ne (Nat.ne_of_gt I.big)
  have hzz:(sE ps).length<=sizeLine:=Nat.le_trans (jP ps) (by rw [← zl]; exact z)
  refine ⟨rfl,.ref s.heap.objs.size,_,I.laid (t':=tk) (o:=.dK (sE ps)) (fun b ob e=>kp' b ob (Nat.ne_of_lt (Heap.lt_size e)) (fun w=>?_) e) (Nat.le_refl _) ⟨hzz,hsM,us,rel,dd⟩,rfl,q _ hf⟩
  have:=Heap.lt_size e
  rw [List.mem_singleton.mp w] at this; exact absurd hsz (Nat.not_lt.mpr (Nat.le_of_lt this))
end
structure OrdB (n:Nat) (lt:Nat->Nat->Bool):Prop where
 tr:∀ {i j k:Nat},lt i j=true->lt j k=true->lt i k=true
 as:∀ {i j:Nat},lt i j=true->lt j i=false
 to:∀ {i j:Nat},i < n->j < n->i ≠ j->lt i j=false->lt j i=true
structure PmA (n:Nat) (p:Array Nat):Prop where
 sz:p.size=n
 pm:p.toList.Perm (List.range n)
theorem PmA.lt {n:Nat} {p:Array Nat} (h:PmA n p) {i:Nat} (hi:i < n):p.getD i 0 < n:=by
 have hi':i < p.toList.length:=by rw [Array.length_toList,h.sz]; exact hi
 have e:p.getD i 0=p.toList[i]:=by simp [Array.getD,h.sz,hi]
 rw [e]
 exact List.mem_range.mp (h.pm.mem_iff.mp (List.getElem_mem hi'))
theorem PmA.inj {n:Nat} {p:Array Nat} (h:PmA n p) {i j:Nat} (hi:i < n) (hj:j < n) (hne:i ≠ j):p.getD i 0 ≠ p.getD j 0:=by
 have hi':i < p.toList.length:=by rw [Array.length_toList,h.sz]; exact hi
 have hj':j < p.toList.length:=by rw [Array.length_toList,h.sz]; exact hj
 have e:p.getD i 0=p.toList[i]:=by simp [Array.getD,h.sz,hi]
 have e':p.getD j 0=p.toList[j]:=by simp [Array.getD,h.sz,hj]
 rw [e,e']
 intro z
 exact hne ((List.getElem_inj (h.pm.nodup_iff.mpr List.nodup_range)).mp z)
theorem PmA.of_perm {n:Nat} {p q:Array Nat} (h:PmA n p) (hq:q.Perm p):PmA n q :=
 ⟨hq.size_eq.trans h.sz,(Array.perm_iff_toList_perm.mp hq).trans h.pm⟩
def Ups (lt:Nat->Nat->Bool) (p:Array Nat) (k:Nat):Prop:=∀ i j,i < j->j < k->lt (p.getD i 0) (p.getD j 0)=true
def ZM (lt:Nat->Nat->Bool) (p:Array Nat) (k:Nat):Prop:=∀ i j,i < j->j < k->lt (p.getD j 0) (p.getD i 0)=true
theorem YA {p q:Array Nat} {i j:Nat} (h:p[i]? = q[j]?):p.getD i 0=q.getD j 0:=by
 rw [Array.getD_eq_getD_getElem?,Array.getD_eq_getD_getElem?,h]
section
variable {n:Nat} {lt:Nat->Nat->Bool} {cmp:Nat->Nat->(Bool->Shared->Prop)->Shared->Prop} {s:Shared}
def Uu (n:Nat) (lt:Nat->Nat->Bool) (cmp:Nat->Nat->(Bool->Shared->Prop)->Shared->Prop) (s:Shared):Prop:=∀ i j (C:Bool->Shared->Prop),i < n->j < n->C (lt i j) s->cmp i j C s
theorem Ups.snoc {p:Array Nat} {m:Nat} (o:OrdB n lt) (h1:1<=m) (u:Ups lt p m) (e:lt (p.getD (m - 1) 0) (p.getD m 0)=true):Ups lt p (m+1):=by
 intro i j hij hj
 by_cases hjm:j < m
 ·exact u i j hij hjm
 ·obtain rfl:j=m:=by omega
  by_cases hi:i=j - 1
  ·subst hi; exact e
  ·exact o.tr (u i (j - 1) (by omega) (by omega)) e
theorem qu (o:OrdB n lt) (hc:Uu n lt cmp s) {p:Array Nat} (hp:PmA n p):∀ (f m:Nat) {Q:Nat->Shared->Prop},1<=m->m+f=n->Ups lt p m →
  (∀ k,m<=k->k<=n->Ups lt p k->(k=n \/ lt (p.getD k 0) (p.getD (k - 1) 0)=true)->Q k s)->(kas_asc p f m).kasWp cmp Q s
 | 0,m,Q,h1,e,u,q=>q m (Nat.le_refl _) (by omega) u (.inl (by omega))
 | f+1,m,Q,h1,e,u,q=>by
  refine hc _ _ _ (hp.lt (by omega)) (hp.lt (by omega)) ?_
  cases c:lt (p.getD m 0) (p.getD (m - 1) 0) with
  | true =>
   dsimp only
   rw [if_pos rfl]
   exact q m (Nat.le_refl _) (by omega) u (.inr c)
  | false =>
   dsimp only
   rw [if_neg (by decide)]
   exact qu o hc hp f (m+1) (by omega) (by omega) (u.snoc o h1 (o.to (hp.lt (by omega)) (hp.lt (by omega)) (hp.inj (by omega) (by omega) (by omega)) c)) fun k hk=>q k (by omega)
theorem ZM.snoc {p:Array Nat} {m:Nat} (o:OrdB n lt) (h1:1<=m) (u:ZM lt p m) (e:lt (p.getD m 0) (p.getD (m - 1) 0)=true):ZM lt p (m+1):=by
 intro i j hij hj
 by_cases hjm:j < m
 ·exact u i j hij hjm
 ·obtain rfl:j=m:=by omega
  by_cases hi:i=j - 1
  ·subst hi; exact e
  ·exact o.tr e (u i (j - 1) (by omega) (by omega))
theorem jR (o:OrdB n lt) (hc:Uu n lt cmp s) {p:Array Nat} (hp:PmA n p):∀ (f m:Nat) {Q:Array Nat × Nat × Nat->Shared->Prop},1<=m->m+f=n->ZM lt p m →
  (∀ k,m<=k->k<=n->ZM lt p k->Q (p,k,0) s)->(kas_desc f p m 0).kasWp cmp Q s
 | 0,m,Q,h1,e,u,q=>q m (Nat.le_refl _) (by omega) u
 | f+1,m,Q,h1,e,u,q=>by
  refine hc _ _ _ (hp.lt (by omega)) (hp.lt (by omega)) ?_
  cases c:lt (p.getD m 0) (p.getD (m - 1) 0) with
  | true =>
   dsimp only
   rw [if_pos rfl,if_neg (by decide)]
   exact jR o hc hp f (m+1) (by omega) (by omega) (u.snoc o h1 c) fun k hk=>q k (by omega)
  | false =>
   dsimp only
   rw [if_neg (by decide)]
   refine hc _ _ _ (hp.lt (by omega)) (hp.lt (by omega)) ?_
   rw [o.to (hp.lt (by omega)) (hp.lt (by omega)) (hp.inj (by omega) (by omega) (by omega)) c]
   dsimp only
   rw [if_pos rfl]
   exact q m (Nat.le_refl _) (by omega) u
theorem T9 {p:Array Nat} {k:Nat} (hp:PmA n p) (hk:k<=n) (d:ZM lt p k):Ups lt (kas_rev p 0 k) k:=by
 intro i j hij hj
 have g:∀ x,x < k->(kas_rev p 0 k).getD x 0=p.getD (k - 1 - x) 0:=fun x hx=>by
  refine YA ?_
  unfold kas_rev
  rw [getElem?_mirror_all (by rw [hp.sz]; exact hk),if_pos (by omega)]
  congr 1; omega
 rw [g i (by omega),g j hj]
 exact d _ _ (by omega) (by omega)
theorem WQ (o:OrdB n lt) (hc:Uu n lt cmp s) {p:Array Nat} (hp:PmA n p) {k:Nat} (h1:1<=k) (hk:k<=n) (d:ZM lt p k) {Q:Nat × Array Nat->Shared->Prop}
  (q:∀ m p',PmA n p' -> 1<=m->m<=n->Ups lt p' m->Q (m,p') s):(kas_tail3 k n p).kasWp cmp Q s:=by
 unfold kas_tail3
 rw [KasT.kasWp_bind]
 have hp':PmA n (kas_rev p 0 k):=hp.of_perm (mirror_perm _ _ _ _)
 exact qu o hc hp' (n - k) k h1 (by omega) (T9 hp hk d) fun m hm hm' u _=>q m _ hp' (by omega) hm' u
theorem WR (o:OrdB n lt) (hc:Uu n lt cmp s) {p:Array Nat} (hp:PmA n p) (h2:2<=n) (c:lt (p.getD 1 0) (p.getD 0 0)=true) {Q:Nat × Array Nat->Shared->Prop}
  (q:∀ m p',PmA n p' -> 1<=m->m<=n->Ups lt p' m->Q (m,p') s):(kas_descPart 1 n p).kasWp cmp Q s:=by
 unfold kas_descPart
 rw [KasT.kasWp_bind]
 refine jR o hc hp (n - 2) 2 (by decide) (by omega) (fun i j hij hj=>?_) fun k hk hk' d=>?_
 ·obtain rfl:i=0:=by omega
  obtain rfl:j=1:=by omega
  exact c
 ·dsimp only
  rw [if_neg (by omega)]
  exact WQ o hc hp (by omega) hk' d q
theorem Xt (o:OrdB n lt) (hc:Uu n lt cmp s) {p:Array Nat} (hp:PmA n p) (h2:2<=n) {Q:Nat × Array Nat->Shared->Prop}
  (q:∀ m p',PmA n p' -> 1<=m->m<=n->Ups lt p' m->Q (m,p') s):(kas_count n p).kasWp cmp Q s:=by
 unfold kas_count
 rw [KasT.kasWp_bind]
 refine qu o hc hp (n - 1) 1 (Nat.le_refl _) (by omega) (fun i j hij hj=>by omega) fun k h1 hk u e=>?_
 by_cases hkn:k=n
 ·rw [if_pos (by simpa using hkn)]
  exact q k p hp h1 hk u
 rw [if_neg (by simpa using hkn)]
 have e:=e.resolve_left hkn
 by_cases hg:k > 1
 ·rw [if_pos hg]
  refine hc _ _ _ (hp.lt (by omega)) (hp.lt (by omega)) ?_
  rw [u 0 (k - 1) (by omega) (by omega)]
  dsimp only
  rw [if_pos rfl]
  exact q k p hp h1 hk u
 ·rw [if_neg hg]
  obtain rfl:k=1:=by omega
  exact WR o hc hp h2 e q
theorem uf (o:OrdB n lt) (hc:Uu n lt cmp s) {p:Array Nat} (hp:PmA n p) {k:Nat} (hk:k < n) (u:Ups lt p k):∀ (f l r:Nat) {Q:Nat->Shared->Prop},l<=r->r<=k->r - l<=f →
  (∀ i,i < l->lt (p.getD i 0) (p.getD k 0)=true)->(∀ i,r<=i->i < k->lt (p.getD k 0) (p.getD i 0)=true) →
  (∀ x,x<=k->(∀ i,i < x->lt (p.getD i 0) (p.getD k 0)=true)->(∀ i,x<=i->i < k->lt (p.getD k 0) (p.getD i 0)=true)->Q x s)->(kas_place p k f l r).kasWp cmp Q s
 | 0,l,r,Q,h1,h2,h3,a,b,q=>q l (by omega) a fun i hi=>b i (by omega)
 | f+1,l,r,Q,h1,h2,h3,a,b,q=>by
  unfold kas_place
  by_cases hlr:l >= r
  ·rw [if_pos hlr]
   exact q l (by omega) a fun i hi=>b i (by omega)
  rw [if_neg hlr]
  refine hc _ _ _ (hp.lt hk) (hp.lt (by omega)) ?_
  cases c:lt (p.getD k 0) (p.getD ((l+r) / 2) 0) with
  | true =>
   dsimp only
   rw [if_pos rfl]
   refine uf o hc hp hk u f l ((l+r) / 2) (by omega) (by omega) (by omega) a (fun i hi hik=>?_) q
   by_cases e:i=(l+r) / 2
   ·rw [e]; exact c
   ·exact o.tr c (u _ i (by omega) hik)
  | false =>
   dsimp only
   rw [if_neg (by decide)]
   have c':=o.to (hp.lt hk) (hp.lt (by omega)) (hp.inj hk (by omega) (by omega)) c
   refine uf o hc hp hk u f ((l+r) / 2+1) r (by omega) h2 (by omega) (fun i hi=>?_) b q
   by_cases e:i=(l+r) / 2
   ·rw [e]; exact c'
   ·exact o.tr (u i _ (by omega) (by omega)) c'
theorem Sa {p:Array Nat} {k x:Nat} (o:OrdB n lt) (hp:PmA n p) (hk:k < n) (u:Ups lt p k) (hx:x<=k) (a:∀ i,i < x->lt (p.getD i 0) (p.getD k 0)=true) (b:∀ i,x<=i->i < k->lt (p.getD k 0) (p.getD i 0)=true):Ups lt (bubble p k (k - x)) (k+1):=by
 have g:=fun i=>getElem?_bubble (xs:=p) (src:=k) (by rw [hp.sz]; exact hk) (k - x) (by omega) i
 have e:k - (k - x)=x:=by omega
 rw [e] at g
 have g1:∀ i,i < x->(bubble p k (k - x)).getD i 0=p.getD i 0:=fun i hi=>YA (by rw [g,if_neg (by omega),if_neg (by omega)])
 have g2:(bubble p k (k - x)).getD x 0=p.getD k 0:=YA (by rw [g,if_pos rfl])
 have g3:∀ i,x < i->i<=k->(bubble p k (k - x)).getD i 0=p.getD (i - 1) 0:=fun i hi hik=>YA (by rw [g,if_neg (by omega),if_pos ⟨hi,hik⟩])
 intro i j hij hj
 rcases Nat.lt_trichotomy j x with h | h | h
 ·rw [g1 i (by omega),g1 j h]; exact u i j hij (by omega)
 ·subst h; rw [g1 i hij,g2]; exact a i hij
 ·rw [g3 j h (by omega)]
  rcases Nat.lt_trichotomy i x with h' | h' | h'
  ·rw [g1 i h']; exact u i _ (by omega) (by omega)
  ·subst h'; rw [g2]; exact b _ (by omega) (by omega)
  ·rw [g3 i h' (by omega)]; exact u _ _ (by omega) (by omega)
theorem YB (o:OrdB n lt) (hc:Uu n lt cmp s):∀ (f:Nat) (p:Array Nat) (k:Nat) {Q:Array Nat->Shared->Prop},PmA n p->k+f=n->Ups lt p k->(∀ p',PmA n p' -> Ups lt p' n->Q p' s)->(kas_bin f p k).kasWp cmp Q s
 | 0,p,k,Q,hp,e,u,q=>q p hp (by rw [← show k=n by omega]; exact u)
 | f+1,p,k,Q,hp,e,u,q=>by
  unfold kas_bin
  rw [KasT.kasWp_bind]
  refine uf o hc hp (by omega) u k 0 k (Nat.zero_le _) (Nat.le_refl _) (by omega) (fun i hi=>by omega) (fun i h1 h2=>by omega) fun x hx a b=>?_
  exact YB o hc f _ (k+1) (hp.of_perm (bubble_perm _ _ _)) (by omega) (Sa o hp (by omega) u hx a b) q
theorem WS (o:OrdB n lt) (hc:Uu n lt cmp s) (h2:2<=n) {Q:Array Nat->Shared->Prop} (q:∀ p,PmA n p->Ups lt p n->Q p s):(kas_sort n).kasWp cmp Q s:=by
 unfold kas_sort
 rw [KasT.kasWp_bind]
 have h0:PmA n (List.toArray (List.range n)):=⟨by simp,by simp⟩
 refine Xt o hc h0 h2 fun m p hp h1 hm u=>?_
 by_cases hmn:m < n
 ·rw [if_pos hmn]
  have e:max m 1=m:=by omega
  show (kas_bin (n - max m 1) p (max m 1)).kasWp cmp Q s
  rw [e]
  exact YB o hc (n - m) p m hp (by omega) u q
 ·rw [if_neg hmn]
  obtain rfl:m=n:=by omega
  exact q p hp u
end
section
variable {prog:Program} {w:World} {A:Around} {E:JO} {s:Shared}
def QO (prog:Program) (w:World) (A:Around) (s:Shared) (a:Addr) (vs:List Value) (lt:Nat->Nat->Bool):Prop:=∃ κ,∀ h':Heap,(∀ b ob,b ≠ a->s.heap.get? b=some ob->h'.get? b=some ob) →
 (∀ (Q:SortKind->Shared->Prop) (E':JO),Q κ { s with heap:=h' } -> wpAny (model prog w) A (keyKind' vs.toArray) Q E' { s with heap:=h' }) /\ Uu vs.length lt (kas_ask prog w A κ vs) { s with heap:=h' }
theorem WT (vs:List Value):((List.range vs.length).map fun i=>vs.getD i Value.none)=vs:=by
 refine List.ext_getElem? fun i=>?_
 rw [List.getElem?_map]
 by_cases h:i < vs.length
 ·rw [List.getElem?_range h]
  show some (vs.getD i Value.none)=_
  rw [List.getD_eq_getElem?_getD,List.getElem?_eq_getElem h]; rfl
 ·rw [List.getElem?_eq_none (by rw [List.length_range]; omega),List.getElem?_eq_none (by omega)]; rfl
theorem WU {a:Addr} {vs:List Value} {n:Nat} {P:PySem.Fin->Shared->Prop} {lt:Nat->Nat->Bool} (here:s.heap.get? a=some (seqObj "list" vs.toArray n)) (few:vs.length < 64) (o:OrdB vs.length lt) (asks:2<=vs.length->QO prog w A s a vs lt)
  (fin:∀ p,PmA vs.length p->Ups lt p vs.length->P (.done (.ret .none)) { s with heap:=sortedHeap s.heap a vs (List.toArray (p.toList.map fun i=>vs.getD i Value.none)) }) :
  wpAny (model prog w) A (Builtin.«list.sort» ⟨[.ref a],[]⟩) P E s:=by
 have low:a < s.heap.objs.size:=Heap.lt_size here
 obtain ⟨ep,emp⟩:∃ ep,(s.heap.update a (Obj.mapSeq fun _=>(#[]:Array Value))).get? a=some (seqObj "list" #[] ep):=⟨_,get?_update_seq here fun _=>#[]⟩
 have big:sizeLine=sizeLine:=rfl
 have fits:vs.length<=sizeLine:=by have:=sizeLine_eq; omega
 have empty:(((s.heap.update a (Obj.mapSeq fun _=>(#[]:Array Value))).push (seqObj "tuple" vs.toArray 0)).push (seqObj "list" #[] 0)).get? a=some (seqObj "list" #[] ep):=Heap.get?_push_of_some _ (Heap.get?_push_of_some _ emp)
 have old:∀ b ob,b ≠ a->s.heap.get? b=some ob->(((s.heap.update a (Obj.mapSeq fun _=>(#[]:Array Value))).push (seqObj "tuple" vs.toArray 0)).push (seqObj "list" #[] 0)).get? b=some ob:=fun b ob ne e =>
  Heap.get?_push_of_some _ (Heap.get?_push_of_some _ (by rw [Heap.get?_update_ne _ _ _ _ ne]; exact e))
 rw [list_sort_plain]
 refine wpAny_bind (listItems_at here rfl (wpAny_bind (listUpdate_at here rfl ?_ (by rw [List.size_toArray]; exact fits) (Nat.zero_le _))))
 refine wpAny_bind (seqEpoch_at emp rfl (wpAny_bind (wpAny_newTuple ?_ (by show vs.length<=_; exact fits))))
 refine wpAny_bind (wpAny_newList (wpAny_holding ?_) (Nat.zero_le _))
 show wpAny (model prog w) A _ P E { s with heap:=((s.heap.update a (Obj.mapSeq fun _=>(#[]:Array Value))).push (seqObj "tuple" vs.toArray 0)).push (seqObj "list" #[] 0),toks:=s.toks }
 have sz:vs.toArray.size=vs.length:=by simp
 by_cases h2:vs.toArray.size < 2
 ·rw [if_pos h2,if_pos h2]
  refine wpAny_bind (wpAny_pure ?_)
  dsimp only
  rw [StateT.run_pure]
  refine wpAny_bind (wpAny_pure (wpAny_bind (seqEpoch_at empty rfl (wpAny_bind (listUpdate_at empty rfl ?_ (Nat.zero_le _) ?_)))))
  ·have f:=fin (List.toArray (List.range vs.length)) ⟨by simp,by simp⟩ (fun i j hij hj=>by omega)
   have e:(List.toArray ((List.toArray (List.range vs.length)).toList.map fun i=>vs.getD i Value.none))=(vs.toArray.zip vs.toArray).map (·.2):=by
    apply Array.toList_inj.mp
    rw [Array.toList_map]
    show (List.range vs.length).map (fun i=>vs.getD i Value.none)=_
    rw [WT,Array.toList_zip]
    show vs=(vs.zip vs).map Prod.snd
    rw [List.map_snd_zip (Nat.le_refl _)]
   rw [e] at f
   have ne:(ep != ep)=false:=by simp
   show wpAny _ _ _ P E _
   simp only [ne,Bool.false_eq_true,if_false]
   exact wpAny_pure f
  ·show ((vs.toArray.zip vs.toArray).map (·.2)).size<=_
   rw [Array.size_map,Array.size_zip,sz]; omega
 have h2':2<=vs.length:=by omega
 obtain ⟨κ,ok⟩:=asks h2'
 obtain ⟨kd,says⟩:=ok _ old
 rw [if_neg h2,if_neg h2]
 refine wpAny_bind (kd _ _ ?_)
 refine wpAny_bind (wpAny_mono (kat_run (ks:=vs) (Q:=fun st' s'=>s' = { s with heap:=((s.heap.update a (Obj.mapSeq fun _=>(#[]:Array Value))).push (seqObj "tuple" vs.toArray 0)).push (seqObj "list" #[] 0) } /\ failedOf st' = none /\ ∃ p,PmA vs.length p /\ Ups lt p vs.length /\ (arrOf st').map (·.2)=List.toArray (p.toList.map fun i=>vs.getD i Value.none)) (G:=fun p s'=>s' = { s with heap:=((s.heap.update a (Obj.mapSeq fun _=>(#[]:Array Value))).push (seqObj "tuple" vs.toArray 0)).push (seqObj "list" #[] 0) } /\ PmA vs.length p /\ Ups lt p vs.length) rfl h2' few
  (fun p st' s' _ har hf g=>⟨g.1,hf,p,g.2.1,g.2.2,kat_snds rfl har⟩) (WS o says h2' fun p hp u=>⟨rfl,hp,u⟩)) ?_ fun _ _ e=>e)
 rintro ⟨⟨⟩,st'⟩ s' ⟨rfl,hf,p,hp,u,out⟩
 refine wpAny_bind (seqEpoch_at empty rfl (wpAny_bind (listUpdate_at empty rfl ?_ (Nat.zero_le _) ?_)))
 ·have f:=fin p hp u
  rw [← out] at f
  show wpAny _ _ _ P E _
  have ne:(ep != ep)=false:=by simp
  have hf':failedOf st' = none:=hf
  dsimp only
  rw [hf']
  simp only [ne,Bool.false_eq_true,if_false]
  exact wpAny_pure f
 ·show ((arrOf st').map (·.2)).size<=_
  rw [out,List.size_toArray,List.length_map,Array.length_toList,hp.sz]; omega
end
def ltL:List Int->List Int->Bool
 | [],[]=>false
 | [],_ :: _=>true
 | _ :: _,[]=>false
 | a :: as,b :: bs=>if a=b then ltL as bs else decide (a < b)
theorem U2:∀ {a b c:List Int},ltL a b=true->ltL b c=true->ltL a c=true
 | [],[],_,h,_=>nomatch h
 | [],_ :: _,[],_,h=>nomatch h
 | [],_ :: _,_ :: _,_,_=>rfl
 | _ :: _,[],_,h,_=>nomatch h
 | _ :: _,_ :: _,[],_,h=>nomatch h
 | a :: as,b :: bs,c :: cs,h,k=>by
  unfold ltL at h k ⊢
  by_cases e:a=b
  ·subst e
   rw [if_pos rfl] at h
   by_cases e':a=c
   ·rw [if_pos e'] at k ⊢; exact U2 h k
   ·rw [if_neg e'] at k ⊢; exact k
  ·rw [if_neg e] at h
   have h:=of_decide_eq_true h
   by_cases e':b=c
   ·subst e'; rw [if_neg e]; exact decide_eq_true h
   ·rw [if_neg e'] at k
    have k:=of_decide_eq_true k
    rw [if_neg (by omega)]; exact decide_eq_true (by omega)
theorem WV:∀ {a b:List Int},ltL a b=true->ltL b a=false
 | [],[],h=>nomatch h
 | [],_ :: _,_=>rfl
 | _ :: _,[],h=>nomatch h
 | a :: as,b :: bs,h=>by
  unfold ltL at h ⊢
  by_cases e:a=b
  ·subst e; rw [if_pos rfl] at h ⊢; exact WV h
  ·rw [if_neg e] at h; rw [if_neg (Ne.symm e)]
   have h:=of_decide_eq_true h
   exact decide_eq_false (by omega)
theorem U3:∀ {a b:List Int},a ≠ b->ltL a b=false->ltL b a=true
 | [],[],h,_=>absurd rfl h
 | [],_ :: _,_,h=>nomatch h
 | _ :: _,[],_,_=>rfl
 | a :: as,b :: bs,n,h=>by
  unfold ltL at h ⊢
  by_cases e:a=b
  ·subst e; rw [if_pos rfl] at h ⊢; exact U3 (fun z=>n (by rw [z])) h
  ·rw [if_neg e] at h; rw [if_neg (Ne.symm e)]
   have h:=of_decide_eq_false h
   exact decide_eq_true (by omega)
theorem Sb {a:List Int}:ltL a a=false:=by
 cases h:ltL a a with
 | false=>rfl
 | true=>have:=WV h; rw [h] at this; cases this
section
variable {prog:Program} {w:World} {A:Around} {E:JO} {s:Shared} {b fin:Bool} {Q:Bool->Shared->Prop}
theorem Uv {rows:List (List Int)} (nd:rows.Nodup):OrdB rows.length (fun i j=>ltL (rows.getD i []) (rows.getD j [])) where
 tr:=U2
 as:=WV
 to:=fun {i j} hi hj hne h=>by
  refine U3 (fun z=>hne ?_) h
  have e:∀ {i:Nat} (h:i < rows.length),rows.getD i []=rows[i]:=fun h=>by rw [List.getD_eq_getElem?_getD,List.getElem?_eq_getElem h]; rfl
  rw [e hi,e hj] at z
  exact (List.getElem_inj nd).mp z
end
section
variable {X:Cx} {K:JN}
theorem WW {α:Type} {l:List α} {d:α} {is:List Nat} (h:is.Perm (List.range l.length)):(is.map fun i=>l.getD i d).Perm l:=by
 refine (h.map _).trans ?_
 have e:(List.range l.length).map (fun i=>l.getD i d)=l:=by
  refine List.ext_getElem? fun i=>?_
  rw [List.getElem?_map]
  by_cases h:i < l.length
  ·rw [List.getElem?_range h]
   show some (l.getD i d)=_
   rw [List.getD_eq_getElem?_getD,List.getElem?_eq_getElem h]; rfl
  ·rw [List.getElem?_eq_none (by rw [List.length_range]; omega),List.getElem?_eq_none (by omega)]; rfl
 rw [e]
end
section
variable {prog:Program} {w:World} {A:Around} {E:JO} {s:Shared}
theorem Xu {l:Addr} {us:List Value} {Q:List Value->Shared->Prop} (tu:s.heap.IsList l us.toArray) (hu:us.length<=sizeLine)
  (q:Q us { s with heap:=(s.heap.push (seqObj "list" #[] 0)).update s.heap.objs.size (Obj.mapSeq (· ++ us.toArray)) }):wpAny (model prog w) A (collect (.ref l)) Q E s:=by
 obtain ⟨ob,eo,ec,m,ed⟩:=id tu
 have eo2:(s.heap.push (seqObj "list" #[] 0)).get? l=some ob:=Heap.get?_push_of_some _ eo
 unfold collect
 refine wpAny_bind (wpAny_runValue (codeAny_builtin entry_proto_collect' (show wpAny _ _ (do again (.builtin "list.__iadd__" ⟨[← newList [],.ref l],[]⟩)) _ _ s from ?_)))
 refine wpAny_bind (wpAny_newList (wpAny_pure ⟨Code.quiet_builtin _ (by decide +kernel),codeAny_builtin entry_list_iadd' (show wpAny _ _ (Builtin.List.listExtendWith (.ref s.heap.objs.size) (.ref l) (.ref s.heap.objs.size)) _ _ { s with heap:=s.heap.push (seqObj "list" #[] 0) } from ?_)⟩))
 unfold Builtin.List.listExtendWith
 refine wpAny_bind (wpAny_typeOf (T:="list") ⟨ob,eo2,ec⟩ ?_)
 have k1:(Value.type "list" == Value.type "list")=true:=rfl
 rw [if_pos (by simp [k1])]
 refine wpAny_bind (listItems_at eo2 ed (wpAny_bind (listItems_at (xs:=#[]) (n:=0) (Heap.get?_push_size _ rfl) rfl ?_)))
 rw [if_neg (by simp)]
 refine wpAny_bind (listUpdate_at (xs:=#[]) (n:=0) (Heap.get?_push_size _ rfl) rfl (wpAny_pure ?_) (Nat.zero_le _) (by show (#[] ++ us.toArray).size<=sizeLine+1; simp only [Array.size_append,List.size_toArray,List.length_nil]; omega))
 refine wpAny_bind (wpAny_load (get?_update_seq (Heap.get?_push_size _ rfl) _) ?_)
 show wpAny _ _ (pure ((#[]:Array Value) ++ us.toArray).toList) Q E _
 rw [show ((#[]:Array Value) ++ us.toArray).toList=us by simp]
 exact wpAny_pure q
theorem qv {l:Addr} {vs:List Value} {Q:JO} {lt:Nat->Nat->Bool} (tu:s.heap.IsList l vs.toArray) (few:vs.length < 64) (o:OrdB vs.length lt)
  (asks:2<=vs.length -> ∀ s':Shared,(∀ b ob,s.heap.get? b=some ob->s'.heap.get? b=some ob /\ b ≠ s.heap.objs.size+1)->QO prog w A.in1.in1 s' (s.heap.objs.size+1) vs lt)
  (fin:∀ p,PmA vs.length p->Ups lt p vs.length->Q (.ref (s.heap.objs.size+1)) { s with heap:=sortedAll s.heap vs (List.toArray (p.toList.map fun i=>vs.getD i Value.none)) }) :
  wpAny (model prog w) A (call (.builtin "sorted") [.ref l]) Q E s:=by
 refine Calls.call_function_entry kind_sorted plain_sorted entry_sorted (args_sorted1 _) ?_
 unfold Builtin.«sorted»
 refine wpAny_bind (m:=checkCount "sorted" 1 1 _) (wpAny_pure (wpAny_bind (Xu tu (by rw [sizeLine_eq]; omega) (wpAny_bind (wpAny_newList ?_ (by rw [sizeLine_eq]; omega))))))
 have e1:((s.heap.push (seqObj "list" #[] 0)).update s.heap.objs.size (Obj.mapSeq (· ++ vs.toArray))).objs.size=s.heap.objs.size+1:=by rw [Heap.size_update,size_push']
 have e2:(((s.heap.push (seqObj "list" #[] 0)).update s.heap.objs.size (Obj.mapSeq (· ++ vs.toArray))).push (seqObj "list" vs.toArray 0)).get? (s.heap.objs.size+1)=some (seqObj "list" vs.toArray 0):=by
  rw [← e1]; exact Heap.get?_push_size _ rfl
 show wpAny _ _ _ _ _ { s with heap:=((s.heap.push (seqObj "list" #[] 0)).update s.heap.objs.size (Obj.mapSeq (· ++ vs.toArray))).push (seqObj "list" vs.toArray 0) }
 rw [e1]
 refine wpAny_bind (wpAny_holding (wpAny_call_entry slot_list_sort ⟨_,e2,rfl⟩ entry_list_sort (WU (s:={ s with heap:=((s.heap.push (seqObj "list" #[] 0)).update s.heap.objs.size (Obj.mapSeq (· ++ vs.toArray))).push (seqObj "list" vs.toArray 0) }) e2 few o (fun h2=>asks h2 _ fun b ob e=>⟨?_,?_⟩) fun p hp u=>⟨_,rfl,wpAny_pure ⟨_,rfl,fin p hp u⟩⟩) (args_list_sort _)))
 ·have lo:b < s.heap.objs.size:=Heap.lt_size e
  refine Heap.get?_push_of_some _ ?_
  rw [Heap.get?_update_ne _ _ _ _ (Nat.ne_of_lt lo)]
  exact Heap.get?_push_of_some _ e
 ·exact Nat.ne_of_lt (Nat.lt_succ_of_lt (Heap.lt_size e))
end
section
variable {prog:Program} {w:World} {A:Around} {E:JO} {s:Shared} {b fin:Bool} {Q:Bool->Shared->Prop}
theorem WX {v:Value} {Q:Bool->Shared->Prop} (h:Q true s):wpAny (model prog w) A (eqBool v v) Q E s:=by
 unfold eqBool
 refine wpAny_holding ?_
 rw [if_pos (beq_self_eq_true v)]
 exact wpAny_bind (wpAny_rule (wpAny_pure h))
theorem rp:∀ {us:List Value} (i:Nat),Q fin s->KatLex prog w A b fin Q (us.zip us) i s
 | [],_,q=>kat_nil q
 | u :: us,i,q=>by
  rw [List.zip_cons_cons]
  exact kat_cons (WX (kat_yes (rp (i+1) q)))
theorem jS:∀ {us vs rs ts:List Value} {as bs:List Int} (i:Nat),IntsAre us as->IntsAre vs bs->as.length=bs.length->as ≠ bs->Q (ltL as bs) s->KatLex prog w A b fin Q ((us ++ rs).zip (vs ++ ts)) i s
 | _,_,_,_,_,_,i,.nil,.nil,_,ne,_=>absurd rfl ne
 | _,_,_,_,_,_,i,.nil,.cons _ _ _,l,_,_=>absurd l (by simp)
 | _,_,_,_,_,_,i,.cons _ _ _,.nil,l,_,_=>absurd l (by simp)
 | _,_,rs,ts,_,_,i,.cons x t hx,.cons y u hy,l,ne,q=>by
  rename_i us as vs bs
  rw [List.cons_append,List.cons_append,List.zip_cons_cons]
  refine kat_cons (wpAny_eqBool_int (kat_go (fun h=>?_) fun h=>?_))
  ·have h:=eq_of_beq h
   subst h
   refine kat_yes (jS (i+1) hx hy (by simpa using l) (fun z=>ne (by rw [z])) ?_)
   unfold ltL at q
   rw [if_pos rfl] at q
   exact q
  ·have h:=ne_of_beq_false h
   unfold ltL at q
   rw [if_neg h] at q
   refine kat_no ?_
   cases (b && i == 0) with
   | true=>exact oneLt_int q
   | false=>exact kat_one _ _ (PyProof.Rows.lt_int (show PySem.W.BoolBack Q (.bool (decide (x < y))) s from q))
structure RowAtP (h:Heap) (v:Value) (row:List Int) (x:Addr) (ob:Obj) (its:Array Value) (n:Nat) (us rest:List Value):Prop where
 e:v = .ref x
 g:h.get? x=some ob
 c:ob.cls = .type "tuple"
 d:ob.data = .seq its n
 t:its.toList=us ++ rest
 i:IntsAre us row
def RG (h:Heap) (v:Value) (row:List Int):Prop:=∃ x ob its n us rest,RowAtP h v row x ob its n us rest
inductive RowsP (h:Heap):List Value->List (List Int)->Prop
 | nil:RowsP h [] []
 | cons {v vs row rows}:RG h v row->RowsP h vs rows->RowsP h (v :: vs) (row :: rows)
theorem RowsP.len {h:Heap}:∀ {vs rows},RowsP h vs rows->vs.length=rows.length
 | _,_,.nil=>rfl
 | _,_,.cons _ t=>congrArg (· + 1) t.len
theorem RowsP.get {h:Heap}:∀ {vs rows} {i:Nat},RowsP h vs rows->i < vs.length->RG h (vs.getD i Value.none) (rows.getD i [])
 | _,_,_,.nil,hi=>absurd hi (by simp)
 | _,_,0,.cons r _,_=>r
 | _,_,i+1,.cons _ t,hi=>by
  have:=t.get (i:=i) (by simpa using hi)
  exact this
theorem RowsP.old {h h':Heap} (k:∀ x ob,h.get? x=some ob->h'.get? x=some ob):∀ {vs rows},RowsP h vs rows->RowsP h' vs rows
 | _,_,.nil=>.nil
 | _,_,.cons ⟨x,ob,its,n,us,rest,r⟩ t=>.cons ⟨x,ob,its,n,us,rest,r.e,k _ _ r.g,r.c,r.d,r.t,r.i⟩ (t.old k)
theorem RowsP.tups {h:Heap}:∀ {vs rows},RowsP h vs rows->(∀ r ∈ rows,r ≠ []) -> ∃ fs,KatTups h vs fs /\ fs.length=vs.length /\ ∀ f ∈ fs,∃ n t,f=Value.int n t
 | _,_,.nil,_=>⟨[],.nil,rfl,fun f hf=>absurd hf (by simp)⟩
 | _,_,.cons ⟨x,ob,its,n,us,rest,r⟩ t,ne=>by
  rename_i v vs row rows
  obtain ⟨fs,k,l,a⟩:=t.tups fun r hr=>ne r (List.mem_cons_of_mem _ hr)
  have hne:=ne row List.mem_cons_self
  obtain ⟨f,hf,n',t',rfl⟩:∃ f,its[0]? = some f /\ ∃ n t,f=Value.int n t:=by
   have hi:=r.i
   rw [← Array.getElem?_toList,r.t]
   revert hi
   generalize us=us'
   intro hi
   cases hi with
   | nil=>exact absurd rfl hne
   | cons n t _=>exact ⟨_,rfl,n,t,rfl⟩
  obtain rfl:=r.e
  exact ⟨Value.int n' t' :: fs,.cons r.g r.c r.d hf k,congrArg (· + 1) l,fun f hf=>by
   rcases List.mem_cons.mp hf with rfl | hf
   ·exact ⟨n',t',rfl⟩
   ·exact a f hf⟩
theorem Xv {vs:List Value} {rows:List (List Int)} {a:Addr} {m:Nat} (r:RowsP s.heap vs rows) (nd:rows.Nodup) (m1:1<=m) (hm:∀ r ∈ rows,r.length=m) (ha:∀ x ob,s.heap.get? x=some ob->(∃ v ∈ vs,v = .ref x)->x ≠ a) (h2:2<=vs.length):QO prog w A s a vs (fun i j=>ltL (rows.getD i []) (rows.getD j [])):=by
 refine ⟨tuples' (Value.type "int" != Value.type "tuple"),fun h' k=>?_⟩
 have ne:∀ r ∈ rows,r ≠ []:=fun r hr z=>by have:=hm r hr; rw [z] at this; have:0=m:=this; omega
 have r':RowsP h' vs rows:=by
  have go:∀ {vs' rows'},RowsP s.heap vs' rows' -> (∀ v ∈ vs',v ∈ vs)->RowsP h' vs' rows':=by
   intro vs' rows' q
   induction q with
   | nil=>intro _; exact .nil
   | cons q t ih =>
    intro sub
    obtain ⟨x,ob,its,n,us,rest,q⟩:=q
    exact .cons ⟨x,ob,its,n,us,rest,q.e,k x ob (ha x ob q.g ⟨_,sub _ List.mem_cons_self,q.e⟩) q.g,q.c,q.d,q.t,q.i⟩ (ih fun v hv=>sub v (List.mem_cons_of_mem _ hv))
  exact go r fun v hv=>hv
 have rl:=r'.len
 have get:∀ {i:Nat} (h:i < rows.length),rows.getD i []=rows[i]:=fun h=>by rw [List.getD_eq_getElem?_getD,List.getElem?_eq_getElem h]; rfl
 obtain ⟨fs,kt,fl,fi⟩:=r'.tups ne
 refine ⟨fun Q E' q=>kat_kind (s:={ s with heap:=h' }) (T:=.type "int") kt (by omega) (fun v hv=>?_) (by simp) q,fun i j C hi hj c=>?_⟩
 ·obtain ⟨n,t,rfl⟩:=fi v hv
  exact Looks.of_pure rfl
 ·obtain ⟨x,ox,xs,n,us,rest,p⟩:=r'.get hi
  obtain ⟨y,oy,ys,m',us',rest',q⟩:=r'.get hj
  unfold kas_ask
  by_cases hij:i=j
  ·subst hij
   rw [p.e]
   refine kat_lt (s:={ s with heap:=h' }) p.g p.d p.g p.d (rp 0 ?_)
   dsimp only at c
   rw [Sb] at c
   rw [decide_eq_false (Nat.lt_irrefl _)]; exact c
  ·rw [p.e,q.e]
   refine kat_lt (s:={ s with heap:=h' }) p.g p.d q.g q.d ?_
   rw [p.t,q.t]
   have hi':i < rows.length:=by omega
   have hj':j < rows.length:=by omega
   refine jS 0 p.i q.i ?_ (fun z=>hij ?_) c
   ·rw [get hi',get hj',hm _ (List.getElem_mem hi'),hm _ (List.getElem_mem hj')]
   ·rw [get hi',get hj'] at z
    exact (List.getElem_inj nd).mp z
end
section
variable {X:Cx} {K:JN}
def Xw (K:JN) (H:Hp) (z:V) (p:List Int × List V):Prop:=∃ r,z = .ref r /\ J3 K H r (p.1.map V.int ++ p.2)
def RH (K:JN):List V->Hp->VK->Prop:=fun xs H Q=>∃ (l:Addr) (zs:List V) (items:List (List Int × List V)) (m:Nat),xs=[.ref l] /\ J1 K H l zs /\ zT (Xw K H) zs items /\ (items.map (·.1)).Nodup /\ 1<=m /\ (∀ p ∈ items,p.1.length=m) /\ items.length < 64 ∧
 ∀ (p:Addr) (zs':List V) (items':List (List Int × List V)),H p=none->items'.Perm items->items'.Pairwise (fun x y=>ltL x.1 y.1=true)->zT (Xw K H) zs' items' -> Q (.ref p) (JQ H p (.lst zs'))
theorem rq:∀ {ns:List Int} {rest:List V} {us:List Value},zX (ns.map V.int ++ rest) us -> ∃ a b,us=a ++ b /\ IntsAre a ns
 | [],_,us,_=>⟨[],us,rfl,.nil⟩
 | n :: ns,rest,_,.cons r t=>by
  obtain ⟨a,b,rfl,h⟩:=rq (ns:=ns) (rest:=rest) t
  obtain ⟨tk,rfl⟩:=r
  exact ⟨_ :: a,b,rfl,.cons n tk h⟩
theorem YC {pins:List (Addr × Obj)} {σ:L2.St} {H:Hp} {s:Shared} (I:Inv X pins σ H s):∀ {zs:List V} {items:List (List Int × List V)} {vs:List Value},zT (Xw X.K H) zs items->zX zs vs->RowsP s.heap vs (items.map (·.1))
 | [],[],_,_,.nil=>.nil
 | z :: zs,it :: items,_,⟨h,t⟩,.cons r rs=>by
  obtain ⟨b,rfl,hb⟩:=h
  obtain ⟨its,rv,⟨ob,eo,ec,m,ed⟩,_⟩:=I.tuple hb
  obtain ⟨a,c,e,hi⟩:=rq rv
  exact .cons ⟨b,ob,its.toArray,m,a,c,r,eo,ec,ed,e,hi⟩ (YC I t rs)
 | [],_ :: _,_,h,_=>h.elim
 | _ :: _,[],_,h,_=>h.elim
theorem Xx (hK:X.K=K):wp X (.builtin "sorted") (RH K):=by
 subst hK
 intro pins s σ H xs us Q I r h
 obtain ⟨l,zs,items,m,rfl,hl,hr,nd,m1,hm,few,q⟩:=h
 obtain ⟨rows,hrows⟩:∃ rows,rows=items.map (·.1):=⟨_,rfl⟩
 have rlen:rows.length=items.length:=by rw [hrows,List.length_map]
 rw [← hrows] at nd
 have hm':∀ r ∈ rows,r.length=m:=fun r hr=>by rw [hrows] at hr; obtain ⟨p,hp,rfl⟩:=List.mem_map.mp hr; exact hm p hp
 obtain ⟨u,rfl,rx⟩:=vX r
 cases (show u=Value.ref l from rx)
 obtain ⟨vs,rv,pl,hz⟩:=I.list hl
 have e1:=rv.length
 have e2:=hr.len
 have R:=YC I hr rv
 rw [← hrows] at R
 have e3:=R.len
 have o:=Uv nd
 rw [← e3] at o
 refine qv pl.isList (by omega) o (fun h2 s' k=>Xv (R.old fun x ob e=>(k x ob e).1) nd m1 hm' (fun x ob e ⟨v,hv,ev⟩=>?_) h2) fun p hp u=>?_
 ·subst ev
  obtain ⟨i,hi,ei⟩:=List.getElem_of_mem hv
  obtain ⟨x',ob',its,n,us,rest,p⟩:=R.get hi
  have ex:vs.getD i Value.none = .ref x:=by rw [List.getD_eq_getElem?_getD,List.getElem?_eq_getElem hi,ei]; rfl
  rw [ex] at p
  cases p.e
  exact (k _ _ p.g).2
 ·obtain ⟨e,he⟩:=sortedAll_at s.heap vs (List.toArray (p.toList.map fun i=>vs.getD i Value.none))
  have hn:H (s.heap.objs.size+1)=none:=I.hok.fresh (Nat.le_succ _)
  have mem:∀ i ∈ p.toList,i < vs.length:=fun i hi=>List.mem_range.mp (hp.pm.mem_iff.mp hi)
  have rl:∀ is:List Nat,(∀ i ∈ is,i < vs.length)->zX (is.map fun i=>zs.getD i .non) (is.map fun i=>vs.getD i Value.none):=by
   intro is
   induction is with
   | nil=>intro _; exact .nil
   | cons i is ih =>
    intro hm
    have hi:=hm i List.mem_cons_self
    refine .cons ?_ (ih fun j hj=>hm j (List.mem_cons_of_mem _ hj))
    obtain ⟨u,hu,ru⟩:=rv.get (List.getElem?_eq_getElem (show i < zs.length by omega))
    dsimp only
    rw [List.getD_eq_getElem?_getD,List.getD_eq_getElem?_getD,hu,List.getElem?_eq_getElem (show i < zs.length by omega)]
    exact ru
  have al:∀ is:List Nat,(∀ i ∈ is,i < vs.length)->zT (Xw X.K H) (is.map fun i=>zs.getD i .non) (is.map fun i=>items.getD i ([],[])):=by
   intro is
   induction is with
   | nil=>intro _; trivial
   | cons i is ih =>
    intro hm
    have hi:=hm i List.mem_cons_self
    refine ⟨?_,ih fun j hj=>hm j (List.mem_cons_of_mem _ hj)⟩
    obtain ⟨row,hrow,br⟩:=hr.get (List.getElem?_eq_getElem (show i < zs.length by omega))
    dsimp only
    rw [List.getD_eq_getElem?_getD,List.getD_eq_getElem?_getD,hrow,List.getElem?_eq_getElem (show i < zs.length by omega)]
    exact br
  have hpm:p.toList.Perm (List.range items.length):=by rw [← rlen,← e3]; exact hp.pm
  have pw:(p.toList.map fun i=>items.getD i ([],[])).Pairwise (fun x y=>ltL x.1 y.1=true):=by
   rw [List.pairwise_map,List.pairwise_iff_getElem]
   intro i j hi hj hij
   have g:∀ {i:Nat} (h:i < p.toList.length),p.getD i 0=p.toList[i]:=fun {i} h=>by
    have h':i < p.size:=by simpa using h
    simp [Array.getD,h']
   have:=u i j hij (by rw [← hp.sz,← Array.length_toList]; exact hj)
   rw [g hi,g hj] at this
   have gg:∀ n:Nat,rows.getD n []=(items.getD n ([],[])).1:=fun n=>by
    rw [hrows,List.getD_eq_getElem?_getD,List.getD_eq_getElem?_getD,List.getElem?_map]
    cases items[n]? <;> rfl
   dsimp only at this
   rw [gg,gg] at this
   exact this
  refine ⟨.ref (s.heap.objs.size+1),_,?_,rfl,q _ (p.toList.map fun i=>zs.getD i .non) _ hn (WW hpm) pw (al _ mem)⟩
  refine I.laid (t':=s.toks) (fun b o q=>sortedAll_old q) (Nat.le_succ _) (show yw X.prog X.w _ _ _ (.lst (p.toList.map fun i=>zs.getD i .non)) from ⟨by rw [List.length_map,Array.length_toList,hp.sz]; have:=sizeLine_eq; omega,_,e,rl _ mem,he⟩)
end
structure Wt where
 box:Nat
 deed:Deed
 nums:List Nat
 met:List (Nat × Nat)
instance:Inhabited Wt:=⟨⟨0,⟨0,none,none⟩,[],[]⟩⟩
instance:Inhabited Ask:=⟨⟨0,0,⟨0,none,none⟩⟩⟩
structure NS where
 k:Nat
 room:Nat
 kept:Nat
 boxes:List Int
 asks:List Ask
 now:Nat
 lines:Nat->Nat->List Wt
 keep:Nat->Nat->Int
 /-- how many beats are in the table of what was done -/
 nd:Nat
 done:Nat->List Wt
 log:List Nat
 fnd:List (Nat × Int)
 ans:List (Nat × Int)
def yh {α:Type} (f:Nat->Nat -> α) (l j:Nat) (v:α):Nat->Nat -> α:=fun a b=>if a=l /\ b=j then v else f a b
theorem zw {α:Type} {f:Nat->Nat -> α} {l j:Nat} {v:α}:yh f l j v l j=v:=if_pos ⟨rfl,rfl⟩
theorem zB {α:Type} {f:Nat->Nat -> α} {l j a b:Nat} {v:α} (h:¬ (a=l /\ b=j)):yh f l j v a b=f a b:=if_neg h
def vz (f:List (Nat × Int)) (n:Nat) (v:Int):List (Nat × Int):=if (f.any fun p=>decide (p.1=n))=true then f.map fun p=>if p.1=n then (n,v) else p else f ++ [(n,v)]
def wo (f:List (Nat × Int)) (n:Nat):Option Int:=(f.find? fun p=>decide (p.1=n)).map (·.2)
def jT (out:List Wt) (b:Nat):Option Nat:=((List.range out.length).filter fun i=>decide ((out.getD i default).box=b)).getLast?
def x8 (sw:Nat × Nat) (w c:Wt):Wt:=⟨w.box,uL w.deed c.deed,w.nums ++ c.nums,w.met ++ c.met ++ [sw]⟩
def Sc (ns:NS) (s l:Nat) (c:Wt) (r:List Wt):NS :=
 if (ns.lines s (zW ns.k s l c.box)).length < ns.room then { ns with lines:=yh (yh ns.lines (s - 1) l r) s (zW ns.k s l c.box) (ns.lines s (zW ns.k s l c.box) ++ [c]) } else ns
def wM (ns:NS) (s l:Nat):NS :=
  match ns.lines (s - 1) l with
  | []=>ns
  | c :: r =>
    match jT (ns.lines s (zW ns.k s l c.box)) c.box with
    | none=>Sc ns s l c r
    | some i =>
      if ns.keep s (nN ns.k s l) < ns.kept then
        { ns with
          lines:=yh (yh ns.lines (s - 1) l r) s (zW ns.k s l c.box) ((ns.lines s (zW ns.k s l c.box)).set i (x8 (s,nN ns.k s l) ((ns.lines s (zW ns.k s l c.box)).getD i default) c))
          keep:=yh ns.keep s (nN ns.k s l) (ns.keep s (nN ns.k s l)+1) }
      else Sc ns s l c r
def YD (k s n m:Nat):Nat:=(n / 2 ^ (k - s) * 2+m) * 2 ^ (k - s)+n % 2 ^ (k - s)
def xI (gone:List (Nat × Nat)) (s:Nat) (ns:NS) (n:Nat):NS :=
 if (s,n) ∈ gone then ns else wM (wM ns s (YD ns.k s n (ns.now % 2))) s (YD ns.k s n (1 - ns.now % 2))
def passS (gone:List (Nat × Nat)) (ns:NS) (s:Nat) (i:Nat):NS:=(List.range i).foldl (xI gone s) ns
def passA (gone:List (Nat × Nat)) (ns:NS) (i:Nat):NS:=(List.range i).foldl (fun ns i=>passS gone ns (ns.k - i) (2 ^ (ns.k - 1))) ns
def tM (gone:List (Nat × Nat)) (k:Nat) (st:List Wt × (Nat->Nat->List Wt)) (side:Nat):List Wt × (Nat->Nat->List Wt) :=
 match st.2 k side with
 | []=>st
 | w :: r=>if (0,side) ∈ gone then st else (st.1 ++ [w],yh st.2 k side r)
def zO (gone:List (Nat × Nat)) (ns:NS) (i:Nat):List Wt × (Nat->Nat->List Wt):=(List.range i).foldl (tM gone ns.k) ([],ns.lines)
def doN (b:Nat) (ns:NS) (n:Nat):NS :=
 { ns with boxes:=ns.boxes.set b ((ns.asks.getD n default).deed.mk' (ns.boxes.getD b 0)),fnd:=vz ns.fnd n (ns.boxes.getD b 0),log:=ns.log ++ [n] }
def doW (ns:NS) (w:Wt):NS:=w.nums.foldl (doN w.box) ns
def rA (f:Nat->List Wt) (t:Nat) (v:List Wt):Nat->List Wt:=fun a=>if a=t then v else f a
def Xy (gone:List (Nat × Nat)) (ns:NS):NS :=
 { ns with lines:=(zO gone ns (2 ^ ns.k)).2,nd:=ns.nd+1,done:=rA ns.done ns.now (zO gone ns (2 ^ ns.k)).1 }
def yf (gone:List (Nat × Nat)) (ns:NS):NS:=(zO gone ns (2 ^ ns.k)).1.foldl doW (Xy gone ns)
def sB (ns:NS) (many:Nat):List Wt:=if many < ns.now /\ ns.now - many<=ns.nd then ns.done (ns.now - many) else []
def fgM (s:Nat) (kp:Nat->Nat->Int) (sw:Nat × Nat):Nat->Nat->Int:=if sw.1=s then yh kp sw.1 sw.2 (kp sw.1 sw.2 - 1) else kp
def fgW (s:Nat) (kp:Nat->Nat->Int) (w:Wt):Nat->Nat->Int:=w.met.foldl (fgM s) kp
def fgS (ns:NS) (kp:Nat->Nat->Int) (s:Nat):Nat->Nat->Int:=(sB ns (ns.k - s+1)).foldl (fgW s) kp
def zn (ns:NS):NS:={ ns with keep:=(List.range ns.k).foldl (fun kp i=>fgS ns kp (i+1)) ns.keep }
def uN (ns:NS) (w:Wt):List (Nat × Int):=w.nums.map fun n=>(n,(wo ns.fnd n).getD 0)
def yV (ns:NS):List (Nat × Int):=(sB ns ns.k).flatMap (uN ns)
def sF (l:List (Nat × Int)):List (Nat × Int):=l.foldl (fun f p=>vz f p.1 p.2) []
def WY (ns:NS):NS:={ ns with ans:=(sF (yV ns)).foldl (fun f p=>vz f p.1 p.2) ns.ans }
def zy (ns:NS):NS:={ ns with now:=ns.now+1 }
def zK (gone:List (Nat × Nat)) (ns:NS):NS:=passA gone (yf gone (zn (zy ns))) ns.k
def beatS (gone:List (Nat × Nat)) (ns:NS):NS:=WY (zK gone ns)
def putS (ns:NS) (a:Ask):NS :=
 { ns with asks:=ns.asks ++ [a],lines:=yh ns.lines 0 a.hand.toNat (ns.lines 0 a.hand.toNat ++ [⟨a.box.toNat,a.deed,[ns.asks.length],[]⟩]) }
def sG (k:Nat) (b:List Int) (room kept:Nat):NS:=⟨k,room,kept,b,[],0,fun _ _=>[],fun _ _=>0,0,fun _=>[],[],[],[]⟩
def ug (n:Nat) (F:Nat->Nat):Nat:=((List.range n).map F).sum
theorem yb {n:Nat} {F:Nat->Nat}:ug (n+1) F=ug n F+F n:=by
 unfold ug
 rw [List.range_succ,List.map_append,List.sum_append]
 show _+(F n+0)=_
 omega
theorem wE:∀ {n:Nat} {F G:Nat->Nat},(∀ i < n,F i=G i)->ug n F=ug n G
 | 0,_,_,_=>rfl
 | n+1,F,G,h=>by rw [yb,yb,wE fun i hi=>h i (by omega),h n (by omega)]
theorem qw:∀ {n:Nat} {F G:Nat->Nat} {i:Nat},i < n->(∀ j < n,j ≠ i->G j=F j)->ug n G+F i=ug n F+G i
 | 0,_,_,_,h,_=>absurd h (Nat.not_lt_zero _)
 | n+1,F,G,i,h,e=>by
  rw [yb,yb]
  by_cases c:i=n
  ·subst c
   rw [wE (F:=G) (G:=F) fun j hj=>e j (by omega) (by omega)]
   omega
  ·have:=qw (n:=n) (F:=F) (G:=G) (i:=i) (by omega) fun j hj=>e j (by omega)
   rw [e n (by omega) (fun z=>c z.symm)]
   omega
theorem ZN:∀ {n:Nat} {F:Nat->Nat} {i:Nat},i < n->F i<=ug n F
 | 0,_,_,h=>absurd h (Nat.not_lt_zero _)
 | n+1,F,i,h=>by
  rw [yb]
  by_cases c:i=n
  ·subst c; omega
  ·have:=ZN (n:=n) (F:=F) (i:=i) (by omega)
   omega
theorem vA:∀ {n:Nat} {F:Nat->Nat},(∀ i < n,F i=0)->ug n F=0
 | 0,_,_=>rfl
 | n+1,F,h=>by rw [yb,vA fun i hi=>h i (by omega),h n (by omega)]
def zR (g:Wt->Nat) (ws:List Wt):Nat:=(ws.map g).sum
theorem wF {g:Wt->Nat}:zR g []=0:=rfl
theorem zL {g:Wt->Nat} {w:Wt} {ws:List Wt}:zR g (w :: ws)=g w+zR g ws:=rfl
theorem wG {g:Wt->Nat} {a b:List Wt}:zR g (a ++ b)=zR g a+zR g b:=by unfold zR; rw [List.map_append,List.sum_append]
theorem qz {g:Wt->Nat}:∀ {ws:List Wt} {i:Nat} {v:Wt},i < ws.length->zR g (ws.set i v)+g (ws.getD i default)=zR g ws+g v
 | [],_,_,h=>absurd h (Nat.not_lt_zero _)
 | w :: ws,0,v,_=>by
  show g v+zR g ws+g w=g w+zR g ws+g v
  omega
 | w :: ws,i+1,v,h=>by
  have:=qz (g:=g) (ws:=ws) (i:=i) (v:=v) (by simpa using h)
  show g w+zR g (ws.set i v)+g (ws.getD i default)=g w+zR g ws+g v
  omega
theorem uR {g:Wt->Nat}:∀ {ws:List Wt} {w:Wt},w ∈ ws->g w<=zR g ws
 | a :: ws,w,h=>by
  rw [zL]
  rcases List.mem_cons.mp h with rfl | h
  ·omega
  ·have:=uR (g:=g) h; omega
theorem qA {g:Wt->Nat}:∀ {ws:List Wt},(∀ w ∈ ws,1<=g w)->ws.length<=zR g ws
 | [],_=>Nat.zero_le _
 | a :: ws,h=>by
  rw [zL]
  have h1:=h a (List.mem_cons_self ..)
  have:=qA (g:=g) (ws:=ws) fun w hw=>h w (List.mem_cons_of_mem _ hw)
  show ws.length+1<=_
  omega
def wsN (k:Nat) (f:Nat->Nat->List Wt) (g:Wt->Nat):Nat:=ug (k+1) fun l=>ug (2 ^ k) fun j=>zR g (f l j)
theorem xB {k l j:Nat} {f:Nat->Nat->List Wt} {v:List Wt} {g:Wt->Nat} (hl:l<=k) (hj:j < 2 ^ k):wsN k (yh f l j v) g+zR g (f l j)=wsN k f g+zR g v:=by
 have h1:=qw (n:=k+1) (i:=l) (F:=fun l=>ug (2 ^ k) fun j=>zR g (f l j)) (G:=fun a=>ug (2 ^ k) fun b=>zR g (yh f l j v a b)) (by omega) fun a _ ha=>wE fun b _=>by rw [zB fun z=>ha z.1]
 have h2:=qw (n:=2 ^ k) (i:=j) (F:=fun j=>zR g (f l j)) (G:=fun b=>zR g (yh f l j v l b)) hj fun b _ hb=>by
  show zR g (yh f l j v l b)=zR g (f l b)
  rw [zB fun z=>hb z.2]
 have e:zR g (yh f l j v l j)=zR g v:=by rw [zw]
 have h1':wsN k (yh f l j v) g+ug (2 ^ k) (fun j=>zR g (f l j))=wsN k f g+ug (2 ^ k) (fun b=>zR g (yh f l j v l b)):=h1
 have h2':ug (2 ^ k) (fun b=>zR g (yh f l j v l b))+zR g (f l j)=ug (2 ^ k) (fun j=>zR g (f l j))+zR g v:=by rw [← e]; exact h2
 omega
theorem U4 {k l j:Nat} {f:Nat->Nat->List Wt} {g:Wt->Nat} (hl:l<=k) (hj:j < 2 ^ k):zR g (f l j)<=wsN k f g :=
 Nat.le_trans (ZN (n:=2 ^ k) (F:=fun j=>zR g (f l j)) hj) (ZN (n:=k+1) (F:=fun l=>ug (2 ^ k) fun j=>zR g (f l j)) (by omega))
theorem Sd {k l j l' j':Nat} {f:Nat->Nat->List Wt} {g:Wt->Nat} (hl:l<=k) (hj:j < 2 ^ k) (hl':l' <= k) (hj':j' < 2 ^ k) (ne:¬ (l' = l /\ j' = j)):zR g (f l j)+zR g (f l' j')<=wsN k f g:=by
 have h1:=xB (f:=f) (v:=[]) (g:=g) hl hj
 have h2:=U4 (f:=yh f l j []) (g:=g) hl' hj'
 rw [zB ne] at h2
 rw [wF] at h1
 omega
inductive Ad where
 | p | lb | la | dl | dk | dd | lg | df | da
 | ln (l j:Nat)
 | dn (t:Nat)
deriving DecidableEq
def okA (ns:NS):Ad->Prop
 | .ln l j=>l<=ns.k /\ j < 2 ^ ns.k
 | .dn t=>1<=t /\ t<=ns.nd
 | _=>True
def RI (H:Hp) (x:V) (q:Nat × Nat):Prop:=∃ r,x = .ref r /\ H r=some (.tup [.int q.1,.int q.2])
def jU (K:JN) (H:Hp) (x:V) (w:Wt):Prop:=∃ r rd rn rm ms,x = .ref r /\ J3 K H r [.int w.box,.ref rd,.ref rn,.ref rm] /\ J3 K H rd w.deed.vs /\ J3 K H rn (yG w.nums) /\ J3 K H rm ms /\ zT (RI H) ms w.met
theorem RI.grow {m:List Addr} {H H':Hp} {x:V} {q:Nat × Nat} (h:RI H x q) (g:Grow m H H'):RI H' x q:=by
 obtain ⟨r,e,h⟩:=h
 exact ⟨r,e,g.tup _ _ h⟩
theorem jU.grow {K:JN} {m:List Addr} {H H':Hp} {x:V} {w:Wt} (h:jU K H x w) (g:Grow m H H'):jU K H' x w:=by
 obtain ⟨r,rd,rn,rm,ms,e,h1,h2,h3,h4,h5⟩:=h
 exact ⟨r,rd,rn,rm,ms,e,g.sqT h1,g.sqT h2,g.sqT h3,g.sqT h4,h5.imp fun _ _ z=>z.grow g⟩
def zC (A:Ad->Addr) (ns:NS):List (Str × V) :=
 [("depth",.int ns.k),("room",.int ns.room),("most_kept",.int ns.kept),("boxes",.ref (A .lb)),("asks",.ref (A .la)),("now",.int ns.now),("lines",.ref (A .dl)),("keeping",.ref (A .dk)),("done_in",.ref (A .dd)),("logged",.ref (A .lg)),("found",.ref (A .df)),("answers",.ref (A .da))]
def xQ (A:Ad->Addr) (k:Nat):List (List JP × V):=(List.range (k+1)).flatMap fun (l:Nat)=>(List.range (2 ^ k)).map fun (j:Nat)=>(kI [(l:Int),(j:Int)],.ref (A (.ln l j)))
def yg (k:Nat) (kp:Nat->Nat->Int):List (List JP × V):=(List.range k).flatMap fun (s:Nat)=>(List.range (2 ^ (k - 1))).map fun (n:Nat)=>(kI [((s+1:Nat):Int),(n:Int)],.int (kp (s+1) n))
def xC (A:Ad->Addr) (nd:Nat):List (JP × V):=(List.range nd).map fun t=>(.inl ((t+1:Nat):Int),.ref (A (.dn (t+1))))
def nKv (f:List (Nat × Int)):List (JP × V):=f.map fun p=>(.inl (p.1:Int),.int p.2)
def WZ (K:JN) (C:Addr) (H:Hp) (A:Ad->Addr) (ns:NS):Ad->HO->Prop
 | .p,o=>∃ dx,o = .ins C dx (zC A ns)
 | .lb,o=>o = .lst (ns.boxes.map V.int)
 | .la,o=>∃ xs,o = .lst xs /\ zT (vq K H) xs ns.asks
 | .dl,o=>o = .dT (xQ A ns.k)
 | .dk,o=>o = .dT (yg ns.k ns.keep)
 | .dd,o=>o = .dK (xC A ns.nd)
 | .lg,o=>o = .lst (yG ns.log)
 | .df,o=>o = .dK (nKv ns.fnd)
 | .da,o=>o = .dK (nKv ns.ans)
 | .ln l j,o=>∃ ys,o = .lst ys /\ zT (jU K H) ys (ns.lines l j)
 | .dn t,o=>∃ ys,o = .lst ys /\ zT (jU K H) ys (ns.done t)
structure NetAt (K:JN) (C:Addr) (H:Hp) (A:Ad->Addr) (ns:NS):Prop where
 at_:∀ a,okA ns a -> ∃ o,H (A a)=some o /\ WZ K C H A ns a o
 inj:∀ a b,okA ns a->okA ns b->A a=A b->a=b
theorem WZ.grow {K:JN} {C:Addr} {m:List Addr} {H H':Hp} {A:Ad->Addr} {ns:NS} (g:Grow m H H'):∀ {a:Ad} {o:HO},WZ K C H A ns a o->WZ K C H' A ns a o
 | .p,_,h=>h
 | .lb,_,h=>h
 | .la,_,⟨xs,e,h⟩=>⟨xs,e,h.imp fun _ _ z=>g.ask z⟩
 | .dl,_,h=>h
 | .dk,_,h=>h
 | .dd,_,h=>h
 | .lg,_,h=>h
 | .df,_,h=>h
 | .da,_,h=>h
 | .ln _ _,_,⟨xs,e,h⟩=>⟨xs,e,h.imp fun _ _ z=>z.grow g⟩
 | .dn _,_,⟨xs,e,h⟩=>⟨xs,e,h.imp fun _ _ z=>z.grow g⟩
section
variable {K:JN} {C:Addr} {m:List Addr} {H H':Hp} {A:Ad->Addr} {ns ns':NS}
theorem NetAt.grow (h:NetAt K C H A ns) (g:Grow m H H') (hm:∀ a,okA ns a->A a ∉ m):NetAt K C H' A ns :=
 ⟨fun a ha=>by
  obtain ⟨o,h1,h2⟩:=h.at_ a ha
  exact ⟨o,g.keep _ _ (hm a ha) h1,h2.grow g⟩,h.inj⟩
theorem NetAt.grow0 (h:NetAt K C H A ns) (g:Grow [] H H'):NetAt K C H' A ns:=h.grow g fun _ _=>by simp
theorem NetAt.put {c:Ad} {o:HO} (h:NetAt K C H A ns) (hc:okA ns c) (g:Grow [A c] H (JQ H (A c) o)) (ho:WZ K C (JQ H (A c) o) A ns' c o) (hk:∀ a,okA ns' a->okA ns a)
  (hs:∀ a,a ≠ c->okA ns a -> ∀ o H,WZ K C H A ns a o->WZ K C H A ns' a o):NetAt K C (JQ H (A c) o) A ns' :=
 ⟨fun a ha=>by
  by_cases e:a=c
  ·subst e; exact ⟨o,zc,ho⟩
  ·obtain ⟨o',h1,h2⟩:=h.at_ a (hk a ha)
   exact ⟨o',by rw [zu fun z=>e (h.inj _ _ (hk a ha) hc z)]; exact h1,hs a e (hk a ha) _ _ (h2.grow g)⟩,fun a b ha hb=>h.inj a b (hk a ha) (hk b hb)⟩
theorem NetAt.ob (h:NetAt K C H A ns):∃ dx,H (A .p)=some (.ins C dx (zC A ns)):=by
 obtain ⟨o,h1,dx,rfl⟩:=h.at_ .p trivial
 exact ⟨dx,h1⟩
theorem NetAt.lb (h:NetAt K C H A ns):H (A .lb)=some (.lst (ns.boxes.map V.int)):=by
 obtain ⟨o,h1,h2⟩:=h.at_ .lb trivial
 rw [h1]; exact congrArg some h2
theorem NetAt.la (h:NetAt K C H A ns):∃ xs,H (A .la)=some (.lst xs) /\ zT (vq K H) xs ns.asks:=by
 obtain ⟨o,h1,xs,rfl,h2⟩:=h.at_ .la trivial
 exact ⟨xs,h1,h2⟩
theorem NetAt.dl (h:NetAt K C H A ns):H (A .dl)=some (.dT (xQ A ns.k)):=by
 obtain ⟨o,h1,h2⟩:=h.at_ .dl trivial
 rw [h1]; exact congrArg some h2
theorem NetAt.dk (h:NetAt K C H A ns):H (A .dk)=some (.dT (yg ns.k ns.keep)):=by
 obtain ⟨o,h1,h2⟩:=h.at_ .dk trivial
 rw [h1]; exact congrArg some h2
theorem NetAt.dd (h:NetAt K C H A ns):H (A .dd)=some (.dK (xC A ns.nd)):=by
 obtain ⟨o,h1,h2⟩:=h.at_ .dd trivial
 rw [h1]; exact congrArg some h2
theorem NetAt.lg (h:NetAt K C H A ns):H (A .lg)=some (.lst (yG ns.log)):=by
 obtain ⟨o,h1,h2⟩:=h.at_ .lg trivial
 rw [h1]; exact congrArg some h2
theorem NetAt.df (h:NetAt K C H A ns):H (A .df)=some (.dK (nKv ns.fnd)):=by
 obtain ⟨o,h1,h2⟩:=h.at_ .df trivial
 rw [h1]; exact congrArg some h2
theorem NetAt.da (h:NetAt K C H A ns):H (A .da)=some (.dK (nKv ns.ans)):=by
 obtain ⟨o,h1,h2⟩:=h.at_ .da trivial
 rw [h1]; exact congrArg some h2
theorem NetAt.ln (h:NetAt K C H A ns) {l j:Nat} (hl:l<=ns.k) (hj:j < 2 ^ ns.k):∃ ys,H (A (.ln l j))=some (.lst ys) /\ zT (jU K H) ys (ns.lines l j):=by
 obtain ⟨o,h1,xs,rfl,h2⟩:=h.at_ (.ln l j) ⟨hl,hj⟩
 exact ⟨xs,h1,h2⟩
theorem NetAt.dn (h:NetAt K C H A ns) {t:Nat} (h1:1<=t) (h2:t<=ns.nd):∃ ys,H (A (.dn t))=some (.lst ys) /\ zT (jU K H) ys (ns.done t):=by
 obtain ⟨o,h1,xs,rfl,h2⟩:=h.at_ (.dn t) ⟨h1,h2⟩
 exact ⟨xs,h1,h2⟩
theorem Grow.setK5 {m:List Addr} {H:Hp} {p:Addr} {xs:List (JP × V)} (h:H p=some (.dK xs)) (hm:p ∈ m) (ys:List (JP × V)):Grow m H (JQ H p (.dK ys)) :=
 ⟨fun b u hb q=>by rw [zu (show b ≠ p from fun z=>hb (by rw [z]; exact hm))]; exact q,fun b zs q=>by rw [zu (fun z=>by subst z; rw [h] at q; cases q)]; exact q,fun b u v q=>by rw [zu (fun z=>by subst z; rw [h] at q; cases q)]; exact q⟩
theorem NetAt.setB (h:NetAt K C H A ns) (bs:List Int):NetAt K C (JQ H (A .lb) (.lst (bs.map V.int))) A { ns with boxes:=bs } /\ Grow [A .lb] H (JQ H (A .lb) (.lst (bs.map V.int))) :=
 have g:=Grow.set (m:=[A .lb]) h.lb (by simp) (bs.map V.int)
 ⟨h.put (c:=.lb) trivial g rfl (fun a h=>by cases a <;> exact h) fun a n _ o H z=>by cases a <;> first | exact z | exact absurd rfl n,g⟩
theorem NetAt.setG (h:NetAt K C H A ns) (l:List Nat):NetAt K C (JQ H (A .lg) (.lst (yG l))) A { ns with log:=l } /\ Grow [A .lg] H (JQ H (A .lg) (.lst (yG l))) :=
 have g:=Grow.set (m:=[A .lg]) h.lg (by simp) (yG l)
 ⟨h.put (c:=.lg) trivial g rfl (fun a h=>by cases a <;> exact h) fun a n _ o H z=>by cases a <;> first | exact z | exact absurd rfl n,g⟩
theorem NetAt.setF (h:NetAt K C H A ns) (f:List (Nat × Int)):NetAt K C (JQ H (A .df) (.dK (nKv f))) A { ns with fnd:=f } /\ Grow [A .df] H (JQ H (A .df) (.dK (nKv f))) :=
 have g:=Grow.setK5 (m:=[A .df]) h.df (by simp) (nKv f)
 ⟨h.put (c:=.df) trivial g rfl (fun a h=>by cases a <;> exact h) fun a n _ o H z=>by cases a <;> first | exact z | exact absurd rfl n,g⟩
theorem NetAt.setS (h:NetAt K C H A ns) (f:List (Nat × Int)):NetAt K C (JQ H (A .da) (.dK (nKv f))) A { ns with ans:=f } /\ Grow [A .da] H (JQ H (A .da) (.dK (nKv f))) :=
 have g:=Grow.setK5 (m:=[A .da]) h.da (by simp) (nKv f)
 ⟨h.put (c:=.da) trivial g rfl (fun a h=>by cases a <;> exact h) fun a n _ o H z=>by cases a <;> first | exact z | exact absurd rfl n,g⟩
theorem NetAt.setK (h:NetAt K C H A ns) (kp:Nat->Nat->Int):NetAt K C (JQ H (A .dk) (.dT (yg ns.k kp))) A { ns with keep:=kp } /\ Grow [A .dk] H (JQ H (A .dk) (.dT (yg ns.k kp))) :=
 have g:=Grow.setDT (m:=[A .dk]) h.dk (by simp) (yg ns.k kp)
 ⟨h.put (c:=.dk) trivial g rfl (fun a h=>by cases a <;> exact h) fun a n _ o H z=>by cases a <;> first | exact z | exact absurd rfl n,g⟩
theorem NetAt.setA (h:NetAt K C H A ns) {xs:List V} {as:List Ask} (hx:zT (vq K H) xs as):NetAt K C (JQ H (A .la) (.lst xs)) A { ns with asks:=as } /\ Grow [A .la] H (JQ H (A .la) (.lst xs)) :=
 have ⟨_,e,_⟩:=h.la
 have g:=Grow.set (m:=[A .la]) e (by simp) xs
 ⟨h.put (c:=.la) trivial g ⟨xs,rfl,hx.imp fun _ _ z=>g.ask z⟩ (fun a h=>by cases a <;> exact h) fun a n _ o H z=>by cases a <;> first | exact z | exact absurd rfl n,g⟩
theorem NetAt.setLn (h:NetAt K C H A ns) {l j:Nat} (hl:l<=ns.k) (hj:j < 2 ^ ns.k) {xs:List V} {ws:List Wt} (hx:zT (jU K H) xs ws) :
  NetAt K C (JQ H (A (.ln l j)) (.lst xs)) A { ns with lines:=yh ns.lines l j ws } /\ Grow [A (.ln l j)] H (JQ H (A (.ln l j)) (.lst xs)) :=
 have ⟨_,e,_⟩:=h.ln hl hj
 have g:=Grow.set (m:=[A (.ln l j)]) e (by simp) xs
 ⟨h.put (c:=.ln l j) ⟨hl,hj⟩ g ⟨xs,rfl,by
  show zT _ xs (yh ns.lines l j ws l j)
  rw [zw]; exact hx.imp fun _ _ z=>z.grow g⟩ (fun a h=>by cases a <;> exact h) fun a n _ o H z=>by
   cases a with
   | ln l' j' =>
    obtain ⟨ys,e,z⟩:=z
    refine ⟨ys,e,?_⟩
    show zT _ ys (yh ns.lines l j ws l' j')
    rw [zB fun w=>n (by rw [w.1,w.2])]; exact z
   | _=>exact z,g⟩
theorem RJ {n:Nat}:xE "now" (.int (n:Int)) (zC A ns)=zC A { ns with now:=n }:=by
 unfold zC
 simp only [xE]
 rw [if_neg (by decide +kernel),if_neg (by decide +kernel),if_neg (by decide +kernel),if_neg (by decide +kernel),if_neg (by decide +kernel),if_pos trivial]
theorem NetAt.setNow (h:NetAt K C H A ns) {dx:Addr} (hp:H (A .p)=some (.ins C dx (zC A ns))) (n:Nat):NetAt K C (JQ H (A .p) (.ins C dx (xE "now" (.int (n:Int)) (zC A ns)))) A { ns with now:=n } /\ Grow [A .p] H (JQ H (A .p) (.ins C dx (xE "now" (.int (n:Int)) (zC A ns)))) :=
 have g:=Grow.setI (m:=[A .p]) hp (by simp) (.ins C dx (xE "now" (.int (n:Int)) (zC A ns)))
 ⟨h.put (c:=.p) trivial g ⟨dx,by rw [RJ]⟩ (fun a h=>by cases a <;> exact h) fun a n _ o H z=>by cases a <;> first | exact z | exact absurd rfl n,g⟩
end
section
variable {κ:Type} [DecidableEq κ]
theorem vB {k:κ} {v:V}:∀ {kvs:List (κ × V)},(k,v) ∈ kvs->(∀ v',(k,v') ∈ kvs->v' = v)->wS kvs k=some v
 | [],h,_=>by cases h
 | p :: r,h,u=>by
  by_cases e:p.1=k
  ·rw [yD e,u p.2 (by rw [← e]; exact List.mem_cons_self ..)]
  ·rw [yv e]
   rcases List.mem_cons.mp h with z | z
   ·exact absurd (by rw [← z]) e
   ·exact vB z fun v' h'=>u v' (List.mem_cons_of_mem _ h')
theorem tN {k:κ}:∀ {kvs:List (κ × V)},(∀ v,(k,v) ∉ kvs)->wS kvs k=none
 | [],_=>rfl
 | p :: r,u=>by
  by_cases e:p.1=k
  ·exact absurd (by rw [← e]; exact List.mem_cons_self ..) (u p.2)
  ·rw [yv e]; exact tN fun v h=>u v (List.mem_cons_of_mem _ h)
theorem W1 {kvs:List (κ × V)} {k:κ} {v w:V} (h:wS kvs k=some w):xz kvs k v=kvs.map fun kv=>if kv.1=k then (kv.1,v) else kv:=by
 unfold xz
 rw [wC,h]; exact if_pos rfl
end
theorem uh {a b c d:Int}:kI [a,b]=kI [c,d] ↔ a=c /\ b=d:=by
 constructor
 ·intro h
  have h:([Sum.inl a,Sum.inl b]:List JP)=[Sum.inl c,Sum.inl d]:=h
  injection h with h1 h
  injection h with h2 _
  exact ⟨Sum.inl.inj h1,Sum.inl.inj h2⟩
 ·rintro ⟨rfl,rfl⟩; rfl
theorem rB {A:Ad->Addr} {k:Nat} {q:List JP} {v:V}:(q,v) ∈ xQ A k ↔ ∃ l j:Nat,l<=k /\ j < 2 ^ k /\ q=kI [(l:Int),(j:Int)] /\ v = .ref (A (.ln l j)):=by
 unfold xQ
 rw [List.mem_flatMap]
 constructor
 ·rintro ⟨l,hl,h⟩
  obtain ⟨j,hj,e⟩:=List.mem_map.mp h
  cases e
  exact ⟨l,j,by have:=List.mem_range.mp hl; omega,List.mem_range.mp hj,rfl,rfl⟩
 ·rintro ⟨l,j,hl,hj,rfl,rfl⟩
  exact ⟨l,List.mem_range.mpr (by omega),List.mem_map.mpr ⟨j,List.mem_range.mpr hj,rfl⟩⟩
theorem vC {A:Ad->Addr} {k l j:Nat} (hl:l<=k) (hj:j < 2 ^ k):wS (xQ A k) (kI [(l:Int),(j:Int)])=some (.ref (A (.ln l j))):=by
 refine vB (rB.mpr ⟨l,j,hl,hj,rfl,rfl⟩) fun v h=>?_
 obtain ⟨l',j',_,_,e,rfl⟩:=rB.mp h
 obtain ⟨e1,e2⟩:=uh.mp e
 rw [show l=l' by omega,show j=j' by omega]
theorem rC {k:Nat} {kp:Nat->Nat->Int} {q:List JP} {v:V}:(q,v) ∈ yg k kp ↔ ∃ s n:Nat,1<=s /\ s<=k /\ n < 2 ^ (k - 1) /\ q=kI [(s:Int),(n:Int)] /\ v = .int (kp s n):=by
 unfold yg
 rw [List.mem_flatMap]
 constructor
 ·rintro ⟨l,hl,h⟩
  obtain ⟨j,hj,e⟩:=List.mem_map.mp h
  cases e
  exact ⟨l+1,j,by omega,by have:=List.mem_range.mp hl; omega,List.mem_range.mp hj,rfl,rfl⟩
 ·rintro ⟨s,n,h1,h2,h3,rfl,rfl⟩
  refine ⟨s - 1,List.mem_range.mpr (by omega),List.mem_map.mpr ⟨n,List.mem_range.mpr h3,?_⟩⟩
  show (kI [((s - 1+1:Nat):Int),(n:Int)],V.int (kp (s - 1+1) n))=_
  rw [show s - 1+1=s by omega]
theorem vD {k s n:Nat} {kp:Nat->Nat->Int} (h1:1<=s) (h2:s<=k) (h3:n < 2 ^ (k - 1)):wS (yg k kp) (kI [(s:Int),(n:Int)])=some (.int (kp s n)):=by
 refine vB (rC.mpr ⟨s,n,h1,h2,h3,rfl,rfl⟩) fun v h=>?_
 obtain ⟨s',n',_,_,_,e,rfl⟩:=rC.mp h
 obtain ⟨e1,e2⟩:=uh.mp e
 rw [show s=s' by omega,show n=n' by omega]
theorem YE {k s n:Nat} {kp:Nat->Nat->Int} {v:Int} (h1:1<=s) (h2:s<=k) (h3:n < 2 ^ (k - 1)):xz (yg k kp) (kI [(s:Int),(n:Int)]) (.int v)=yg k (yh kp s n v):=by
 rw [W1 (vD h1 h2 h3)]
 unfold yg
 rw [List.map_flatMap]
 refine congrArg (fun f=>(List.range k).flatMap f) (funext fun a=>?_)
 rw [List.map_map]
 refine List.map_congr_left fun b _=>?_
 show (if kI [((a+1:Nat):Int),(b:Int)]=kI [(s:Int),(n:Int)] then (kI [((a+1:Nat):Int),(b:Int)],V.int v) else (kI [((a+1:Nat):Int),(b:Int)],V.int (kp (a+1) b)))=(kI [((a+1:Nat):Int),(b:Int)],V.int (yh kp s n v (a+1) b))
 by_cases c:a+1=s /\ b=n
 ·rw [if_pos (uh.mpr ⟨by omega,by omega⟩),c.1,c.2,zw]
 ·rw [if_neg fun z=>c ⟨by have:=(uh.mp z).1; omega,by have:=(uh.mp z).2; omega⟩,zB c]
theorem YF {k:Nat} {kp:Nat->Nat->Int} (k4:k<=4):(yg k kp).length < 1000:=by
 have e:(yg k kp).length=(yg k fun _ _=>0).length:=by
  unfold yg
  rw [List.length_flatMap,List.length_flatMap]
  congr 1
  refine List.map_congr_left fun a _=>?_
  rw [List.length_map,List.length_map]
 rw [e]
 rcases (by omega:k=0 \/ k=1 \/ k=2 \/ k=3 \/ k=4) with rfl | rfl | rfl | rfl | rfl <;> decide +kernel
theorem ui {A:Ad->Addr} {nd:Nat} {q:JP} {v:V}:(q,v) ∈ xC A nd ↔ ∃ t:Nat,1<=t /\ t<=nd /\ q = .inl (t:Int) /\ v = .ref (A (.dn t)):=by
 unfold xC
 rw [List.mem_map]
 constructor
 ·rintro ⟨t,ht,e⟩
  cases e
  exact ⟨t+1,by omega,by have:=List.mem_range.mp ht; omega,rfl,rfl⟩
 ·rintro ⟨t,h1,h2,rfl,rfl⟩
  refine ⟨t - 1,List.mem_range.mpr (by omega),?_⟩
  show (Sum.inl ((t - 1+1:Nat):Int),V.ref (A (.dn (t - 1+1))))=_
  rw [show t - 1+1=t by omega]
theorem Uw {A:Ad->Addr} {nd t:Nat} (h1:1<=t) (h2:t<=nd):wS (xC A nd) (.inl (t:Int))=some (.ref (A (.dn t))):=by
 refine vB (ui.mpr ⟨t,h1,h2,rfl,rfl⟩) fun v h=>?_
 obtain ⟨t',_,_,e,rfl⟩:=ui.mp h
 rw [show t=t' by have:=Sum.inl.inj e; omega]
theorem jV {A:Ad->Addr} {nd:Nat} {t:Int} (h:¬ (1<=t /\ t<=nd)):wS (xC A nd) (.inl t)=none:=by
 refine tN fun v hv=>?_
 obtain ⟨t',h1,h2,e,_⟩:=ui.mp hv
 have:=Sum.inl.inj e
 exact h ⟨by omega,by omega⟩
theorem Ux {A A':Ad->Addr} {nd:Nat} {q:Addr} (hA:∀ t,1<=t->t<=nd->A' (.dn t)=A (.dn t)) (hq:A' (.dn (nd+1))=q):xz (xC A nd) (.inl ((nd+1:Nat):Int)) (.ref q)=xC A' (nd+1):=by
 rw [Yy _ (jV (by omega))]
 unfold xC
 rw [List.range_succ,List.map_append]
 congr 1
 ·refine List.map_congr_left fun t ht=>?_
  rw [hA (t+1) (by omega) (by have:=List.mem_range.mp ht; omega)]
 ·show [(Sum.inl ((nd+1:Nat):Int),V.ref q)]=[(Sum.inl ((nd+1:Nat):Int),V.ref (A' (.dn (nd+1))))]
  rw [hq]
theorem tO {n:Nat}:∀ {f:List (Nat × Int)},wS (nKv f) (.inl (n:Int))=(wo f n).map V.int
 | []=>rfl
 | p :: r=>by
  show wS ((Sum.inl (p.1:Int),V.int p.2) :: nKv r) _=_
  unfold wo
  rw [List.find?_cons]
  by_cases e:p.1=n
  ·rw [yD (by show Sum.inl (p.1:Int)=_; rw [e]),decide_eq_true e]; rfl
  ·rw [yv (fun z=>e (by have:=Sum.inl.inj z; omega)),decide_eq_false e,tO]; rfl
theorem ZO {f:List (Nat × Int)} {n:Nat} {v:Int}:xz (nKv f) (.inl (n:Int)) (.int v)=nKv (vz f n v):=by
 unfold xz vz
 have e:((nKv f).any fun kv=>decide (kv.1=Sum.inl (n:Int)))=(f.any fun p=>decide (p.1=n)):=by
  unfold nKv
  rw [List.any_map]
  refine congrArg (fun g=>f.any g) (funext fun p=>?_)
  show decide (Sum.inl (p.1:Int)=(Sum.inl (n:Int):JP))=decide (p.1=n)
  by_cases c:p.1=n
  ·rw [decide_eq_true c,decide_eq_true (by rw [c])]
  ·rw [decide_eq_false c,decide_eq_false fun z=>c (by have:=Sum.inl.inj z; omega)]
 rw [e]
 split
 ·unfold nKv
  rw [List.map_map,List.map_map]
  refine List.map_congr_left fun p _=>?_
  show (if Sum.inl (p.1:Int)=(Sum.inl (n:Int):JP) then (Sum.inl (p.1:Int),V.int v) else (Sum.inl (p.1:Int),V.int p.2))=(Sum.inl ((if p.1=n then (n,v) else p).1:Int),V.int (if p.1=n then (n,v) else p).2)
  by_cases c:p.1=n
  ·rw [if_pos (by rw [c]),if_pos c,c]
  ·rw [if_neg fun z=>c (by have:=Sum.inl.inj z; omega),if_neg c]
 ·unfold nKv; rw [List.map_append]; rfl
theorem YG {f:List (Nat × Int)} {n:Nat} {v:Int}:(vz f n v).length<=f.length+1:=by
 unfold vz
 split
 ·rw [List.length_map]; omega
 ·rw [List.length_append]; exact Nat.le_refl _
theorem Uy {n m:Nat} {v:Int} {f:List (Nat × Int)}:wo (vz f n v) m=if m=n then some v else wo f m:=by
 have h:=Uo (nKv f) (.inl (n:Int)) (.inl (m:Int)) (.int v)
 rw [ZO,tO,tO] at h
 by_cases c:m=n
 ·rw [if_pos c]
  rw [if_pos (by rw [c])] at h
  cases e:wo (vz f n v) m with
  | none=>rw [e] at h; cases h
  | some x=>rw [e] at h; cases h; rfl
 ·rw [if_neg c]
  rw [if_neg fun z=>c (by have:=Sum.inl.inj z; omega)] at h
  cases e:wo (vz f n v) m with
  | none=>rw [e] at h; cases e2:wo f m with
   | none=>rfl
   | some y=>rw [e2] at h; cases h
  | some x=>rw [e] at h; cases e2:wo f m with
   | none=>rw [e2] at h; cases h
   | some y=>rw [e2] at h; cases h; rfl
section
variable {A:Ad->Addr} {ns:NS}
theorem vU {f:Str} {v:V} {r:List (Str × V)}:List.lookup f ((f,v) :: r)=some v:=by rw [List.lookup_cons,beq_self_eq_true]
theorem yc:(zC A ns).lookup ("depth":Str)=some (.int ns.k):=by unfold zC; repeat first | exact vU | exact rfl | rw [lkF5 (by decide +kernel)]
theorem Se:(zC A ns).lookup ("room":Str)=some (.int ns.room):=by unfold zC; repeat first | exact vU | exact rfl | rw [lkF5 (by decide +kernel)]
theorem jW:(zC A ns).lookup ("most_kept":Str)=some (.int ns.kept):=by unfold zC; repeat first | exact vU | exact rfl | rw [lkF5 (by decide +kernel)]
theorem vE:(zC A ns).lookup ("boxes":Str)=some (.ref (A .lb)):=by unfold zC; repeat first | exact vU | exact rfl | rw [lkF5 (by decide +kernel)]
theorem tP:(zC A ns).lookup ("asks":Str)=some (.ref (A .la)):=by unfold zC; repeat first | exact vU | exact rfl | rw [lkF5 (by decide +kernel)]
theorem jX:(zC A ns).lookup ("now":Str)=some (.int ns.now):=by unfold zC; repeat first | exact vU | exact rfl | rw [lkF5 (by decide +kernel)]
theorem vF:(zC A ns).lookup ("lines":Str)=some (.ref (A .dl)):=by unfold zC; repeat first | exact vU | exact rfl | rw [lkF5 (by decide +kernel)]
theorem wH:(zC A ns).lookup ("keeping":Str)=some (.ref (A .dk)):=by unfold zC; repeat first | exact vU | exact rfl | rw [lkF5 (by decide +kernel)]
theorem rD:(zC A ns).lookup ("done_in":Str)=some (.ref (A .dd)):=by unfold zC; repeat first | exact vU | exact rfl | rw [lkF5 (by decide +kernel)]
theorem jY:(zC A ns).lookup ("logged":Str)=some (.ref (A .lg)):=by unfold zC; repeat first | exact vU | exact rfl | rw [lkF5 (by decide +kernel)]
theorem YH:(zC A ns).lookup ("found":Str)=some (.ref (A .df)):=by unfold zC; repeat first | exact vU | exact rfl | rw [lkF5 (by decide +kernel)]
theorem uj:(zC A ns).lookup ("answers":Str)=some (.ref (A .da)):=by unfold zC; repeat first | exact vU | exact rfl | rw [lkF5 (by decide +kernel)]
theorem YI:(zC A ns).lookup ("put":Str)=none:=by unfold zC; repeat first | exact vU | exact rfl | rw [lkF5 (by decide +kernel)]
theorem tQ:(zC A ns).lookup ("beat":Str)=none:=by unfold zC; repeat first | exact vU | exact rfl | rw [lkF5 (by decide +kernel)]
theorem tR:(zC A ns).lookup ("done_ago":Str)=none:=by unfold zC; repeat first | exact vU | exact rfl | rw [lkF5 (by decide +kernel)]
theorem W3:(zC A ns).lookup ("forget":Str)=none:=by unfold zC; repeat first | exact vU | exact rfl | rw [lkF5 (by decide +kernel)]
theorem Sf:(zC A ns).lookup ("take":Str)=none:=by unfold zC; repeat first | exact vU | exact rfl | rw [lkF5 (by decide +kernel)]
theorem Xz:(zC A ns).lookup ("do_asks":Str)=none:=by unfold zC; repeat first | exact vU | exact rfl | rw [lkF5 (by decide +kernel)]
theorem XA:(zC A ns).lookup ("pass_on":Str)=none:=by unfold zC; repeat first | exact vU | exact rfl | rw [lkF5 (by decide +kernel)]
theorem rE:(zC A ns).lookup ("hand_on":Str)=none:=by unfold zC; repeat first | exact vU | exact rfl | rw [lkF5 (by decide +kernel)]
theorem Sg:(zC A ns).lookup ("tell":Str)=none:=by unfold zC; repeat first | exact vU | exact rfl | rw [lkF5 (by decide +kernel)]
theorem YJ:(zC A ns).lookup ("beats":Str)=none:=by unfold zC; repeat first | exact vU | exact rfl | rw [lkF5 (by decide +kernel)]
theorem Uz:(zC A ns).lookup ("board":Str)=none:=by unfold zC; repeat first | exact vU | exact rfl | rw [lkF5 (by decide +kernel)]
theorem U5:(zC A ns).lookup ("log":Str)=none:=by unfold zC; repeat first | exact vU | exact rfl | rw [lkF5 (by decide +kernel)]
theorem W4:(zC A ns).lookup ("todo":Str)=none:=by unfold zC; repeat first | exact vU | exact rfl | rw [lkF5 (by decide +kernel)]
theorem W5:(zC A ns).lookup ("answer":Str)=none:=by unfold zC; repeat first | exact vU | exact rfl | rw [lkF5 (by decide +kernel)]
theorem XB:(zC A ns).lookup ("waiting":Str)=none:=by unfold zC; repeat first | exact vU | exact rfl | rw [lkF5 (by decide +kernel)]
theorem ZP:(zC A ns).lookup ("joinings":Str)=none:=by unfold zC; repeat first | exact vU | exact rfl | rw [lkF5 (by decide +kernel)]
end
structure NTxt (K:JN) (mg:Str->Option Value) (C:Addr):Prop where
 cl:Cls K C
 n_depth:yO K C "depth"
 n_room:yO K C "room"
 n_most_kept:yO K C "most_kept"
 n_boxes:yO K C "boxes"
 n_asks:yO K C "asks"
 n_now:yO K C "now"
 n_lines:yO K C "lines"
 n_keeping:yO K C "keeping"
 n_done_in:yO K C "done_in"
 n_logged:yO K C "logged"
 n_found:yO K C "found"
 n_answers:yO K C "answers"
 mgC:mg "Net" = some (.ref C)
structure WtOk (k b a:Nat) (w:Wt):Prop where
 bx:w.box < b
 ne:w.nums ≠ []
 nm:∀ n ∈ w.nums,n < a
 mt:∀ q ∈ w.met,1<=q.1 /\ q.1<=k /\ q.2 < 2 ^ (k - 1)
 ln:w.met.length+1=w.nums.length
def xG (w:Wt):Nat:=w.nums.length
structure NR (ns:NS):Prop where
 k4:ns.k<=4
 b16:ns.boxes.length<=16
 a40:ns.asks.length<=40
 lw:∀ l j,l<=ns.k->j < 2 ^ ns.k -> ∀ w ∈ ns.lines l j,WtOk ns.k ns.boxes.length ns.asks.length w
 dw:∀ t,1<=t->t<=ns.nd -> ∀ w ∈ ns.done t,WtOk ns.k ns.boxes.length ns.asks.length w
 tot:wsN ns.k ns.lines xG+ns.log.length=ns.asks.length
 nw:ns.now<=10000
 nd:ns.nd<=ns.now
 fl:ns.fnd.length<=ns.log.length
def uO (K:JN) (H:Hp) (x:V) (q:Nat × Nat):Prop:=∃ r,x = .ref r /\ J3 K H r [.int q.1,.int q.2]
def yY (K:JN) (H:Hp) (y:V) (gone:List (Nat × Nat)):Prop:=∃ r ys,y = .ref r /\ J3 K H r ys /\ zT (uO K H) ys gone /\ ys.length<=1000
theorem yY.grow {K:JN} {m:List Addr} {H H':Hp} {y:V} {gone:List (Nat × Nat)} (h:yY K H y gone) (g:Grow m H H'):yY K H' y gone:=by
 obtain ⟨r,ys,e,h1,h2,h3⟩:=h
 exact ⟨r,ys,e,g.sqT h1,h2.imp fun _ _ ⟨r,e,z⟩=>⟨r,e,g.sqT z⟩,h3⟩
def wU (k:Nat) (q:Nat × Nat):Prop:=(1<=q.1 /\ q.1<=k /\ q.2 < 2 ^ (k - 1)) \/ (q.1=0 /\ q.2 < 2 ^ k)
def QP (K:JN) (H:Hp) (A:Ad->Addr) (ns:NS) (z:V) (ws:List Wt):Prop:=(∃ t,1<=t /\ t<=ns.nd /\ z = .ref (A (.dn t)) /\ ws=ns.done t) \/ ∃ a,z = .ref a /\ J3 K H a [] /\ ws=[]
def qB (C:Addr) (K:JN):Sp:=sp2 fun x y H Q=>∃ (A:Ad->Addr) (ns:NS) (many:Nat),x = .ref (A .p) /\ y = .int many /\ NetAt K C H A ns /\ ∀ z H',Grow [] H H' -> QP K H' A ns z (sB ns many)->Q z H'
def uk (C:Addr) (K:JN):Sp:=sp1 fun x H Q=>∃ (A:Ad->Addr) (ns:NS),x = .ref (A .p) /\ NetAt K C H A ns /\ NR ns /\ ∀ H',Grow [A .dk] H H' -> NetAt K C H' A (zn ns)->Q .non H'
def um (C:Addr) (K:JN):Sp:=sp3 fun x y z H Q=>∃ (A:Ad->Addr) (ns:NS) (b:Nat) (nums:List Nat) (r:Addr),x = .ref (A .p) /\ y = .int b /\ z = .ref r /\ J3 K H r (yG nums) /\ NetAt K C H A ns /\ b < ns.boxes.length /\ (∀ n ∈ nums,n < ns.asks.length) /\ ns.log.length+nums.length<=40 /\ ns.fnd.length+nums.length<=40 ∧
 ∀ H',Grow [A .lb,A .df,A .lg] H H' -> NetAt K C H' A (nums.foldl (doN b) ns)->Q .non H'
def SH (H:Hp) (A A':Ad->Addr) (ns:NS):Prop:=(∀ a,okA ns a->A' a=A a) /\ H (A' (.dn (ns.nd+1)))=none
def qC (C:Addr) (K:JN):Sp:=sp2 fun x y H Q=>∃ (A:Ad->Addr) (ns:NS) (gone:List (Nat × Nat)) (ms:List Addr),x = .ref (A .p) /\ yY K H y gone /\ NetAt K C H A ns /\ NR ns /\ ns.nd+1=ns.now /\ (∀ a,okA ns a->A a ∈ ms) ∧
 ∀ A' H',Grow ms H H' -> SH H A A' ns->NetAt K C H' A' (yf gone ns)->Q .non H'
def qD (C:Addr) (K:JN):Sp:=sp3 fun x y z H Q=>∃ (A:Ad->Addr) (ns:NS) (s l:Nat) (ms:List Addr),x = .ref (A .p) /\ y = .int s /\ z = .int l /\ 1<=s /\ s<=ns.k /\ l < 2 ^ ns.k /\ NetAt K C H A ns /\ NR ns /\ (∀ a,okA ns a->A a ∈ ms) ∧
 ∀ H',Grow ms H H' -> NetAt K C H' A (wM ns s l)->Q .non H'
def qE (C:Addr) (K:JN):Sp:=sp3 fun x y z H Q=>∃ (A:Ad->Addr) (ns:NS) (s:Nat) (gone:List (Nat × Nat)) (ms:List Addr),x = .ref (A .p) /\ y = .int s /\ yY K H z gone /\ 1<=s /\ s<=ns.k /\ NetAt K C H A ns /\ NR ns /\ (∀ a,okA ns a->A a ∈ ms) ∧
 ∀ H',Grow ms H H' -> NetAt K C H' A (passS gone ns s (2 ^ (ns.k - 1)))->Q .non H'
structure NT (ns:NS):Prop where
 nd:((yV ns).map (·.1)).Nodup
 fk:∀ w ∈ sB ns ns.k,∀ n ∈ w.nums,(wo ns.fnd n).isSome=true
 l40:(yV ns).length<=40
 al:ns.ans.length<=400000
def Si (K:JN) (H:Hp) (z:V) (l:List (Nat × Int)):Prop:=∃ r ys,z = .ref r /\ J3 K H r ys /\ zT (fun x (p:Nat × Int)=>xL K H x [(p.1:Int),p.2]) ys l
def qF (C:Addr) (K:JN):Sp:=sp1 fun x H Q=>∃ (A:Ad->Addr) (ns:NS) (ms:List Addr),x = .ref (A .p) /\ NetAt K C H A ns /\ NR ns /\ NT ns /\ (∀ a,okA ns a->A a ∈ ms) ∧
 ∀ z l H',Grow ms H H' -> NetAt K C H' A (WY ns)->Si K H' z l->l.Perm (yV ns)->l.Pairwise (fun a b=>a.1 < b.1)->Q z H'
section
variable {X:Cx} {K:JN} {tg:Expr}
def QQ (K:JN) (tl:TE):TI:=fun σ H R=>tl σ H fun x H1=>∃ a,x = .ref a /\ (((∃ xs,J1 K H1 a xs) /\ R (Itl K a) H1) \/ ((∃ xs,J3 K H1 a xs) /\ R (Itt K a) H1))
theorem W6 (hK:X.K=K) {l:Expr} {tl:TE} (hl:PE X l tl):PI X tg l (QQ K tl):=by
 subst hK
 intro pins s σ H R I h
 refine JY (hl pins s σ H _ I h) fun v s1 ⟨x,H1,I1,r1,q1⟩=>?_
 obtain ⟨a,e,q⟩:=q1
 subst e
 cases r1
 rcases q with ⟨⟨xs,hq⟩,q⟩ | ⟨⟨xs,hq⟩,q⟩
 ·obtain ⟨its,rv,p,hz⟩:=I1.list hq
  refine wpAny_pyIter_list p.isList ?_
  refine ⟨s1.heap.objs.size,[s1.heap.objs.size],_,_,H1,rfl,I1.kept (t':=s1.toks) fun b o e=>Heap.get?_push_of_some _ e,jg a _,⟨_,Heap.get?_push_size _ rfl,rfl,rfl⟩,fun b hb=>?_,q⟩
  have e:b=s1.heap.objs.size:=by simpa using hb
  subst e
  exact I1.fpOk (Nat.le_refl _) (I1.hok.fresh (Nat.le_refl _))
 ·obtain ⟨its,rv,p,hz⟩:=I1.tuple hq
  refine wpAny_pyIter_tuple (show s1.heap.IsTuple a its.toArray from p) ?_
  refine ⟨s1.heap.objs.size,[s1.heap.objs.size],_,_,H1,rfl,I1.kept (t':=s1.toks) fun b o e=>Heap.get?_push_of_some _ e,sS a _,⟨_,Heap.get?_push_size _ rfl,rfl,rfl⟩,fun b hb=>?_,q⟩
  have e:b=s1.heap.objs.size:=by simpa using hb
  subst e
  exact I1.fpOk (Nat.le_refl _) (I1.hok.fresh (Nat.le_refl _))
def U6 (q:Nat × Nat) (h:Heap):Value->Bool
 | .ref a=>match h.get? a with
  | some o=>match o.data with
   | .seq its _=>match its.toList with
    | [.int i _,.int j _]=>decide (i=q.1) && decide (j=q.2)
    | _=>false
   | _=>false
  | none=>false
 | _=>false
theorem U7 {p q:Nat × Nat}:(decide ((p.1:Int)=q.1) && decide ((p.2:Int)=q.2))=decide (p=q):=by
 rw [Bool.eq_iff_iff,Bool.and_eq_true,decide_eq_true_eq,decide_eq_true_eq,decide_eq_true_eq]
 constructor
 ·rintro ⟨a,b⟩; exact Prod.ext (by omega) (by omega)
 ·rintro rfl; exact ⟨rfl,rfl⟩
theorem W7 {q p:Nat × Nat} {h:Heap} {a:Addr} {us:List Value} (t:IsTup h a us.toArray) (r:zX [.int p.1,.int p.2] us):U6 q h (.ref a)=decide (p=q):=by
 obtain ⟨o,e1,_,n,e2⟩:=t
 obtain ⟨u1,u2,rfl,⟨t1,rfl⟩,⟨t2,rfl⟩⟩:=YZ r
 show (match h.get? a with | some o=>_ | none=>_)=_
 rw [e1]
 show (match o.data with | .seq its _=>_ | _=>_)=_
 rw [e2]
 exact U7
theorem UA {a b c d:Int}:XU [.int a,.int b] [.int c,.int d]=(decide (a=c) && decide (b=d)):=by
 rw [show [V.int a,V.int b]=[a,b].map V.int from rfl,show [V.int c,V.int d]=[c,d].map V.int from rfl,jB]
 by_cases h1:a=c
 ·by_cases h2:b=d
  ·rw [decide_eq_true h1,decide_eq_true h2,decide_eq_true (by rw [h1,h2])]; rfl
  ·rw [decide_eq_false h2,Bool.and_false,decide_eq_false fun z=>h2 (by injection z with _ z; injection z)]
 ·rw [decide_eq_false h1,Bool.false_and,decide_eq_false fun z=>h1 (by injection z)]
theorem U8 {pins:List (Addr × Obj)} {σ:L2.St} {H:Hp} {s:Shared} (I:Inv X pins σ H s) {r:Addr} {q:Nat × Nat} (hr:A.units < cLine) (hx:J3 X.K H r [.int q.1,.int q.2]):∀ {ys:List V} {us:List Value} {l:List (Nat × Nat)},zX ys us->zT (uO X.K H) ys l →
  (∀ w ∈ us,SeqAt.EqAt A s w (.ref r) (U6 q s.heap w)) /\ us.any (U6 q s.heap)=decide (q ∈ l)
 | [],_,[],.nil,_=>⟨(fun w h=>by cases h),rfl⟩
 | y :: ys,_,p :: l,.cons ry rr,⟨⟨a,e,hs⟩,t⟩=>by
  obtain ⟨h1,h2⟩:=U8 I hr hx rr t
  subst e
  cases ry
  obtain ⟨ws,r1,t1,_⟩:=I.tuple hs
  obtain ⟨vs,r2,t2,_⟩:=I.tuple hx
  have key:U6 q s.heap (.ref a)=decide (p=q):=W7 t1 r1
  refine ⟨fun w hw=>?_,?_⟩
  ·rcases List.mem_cons.mp hw with rfl | hw
   ·rw [key]
    by_cases c:a=r
    ·subst c
     have k2:U6 q s.heap (.ref a)=decide (q=q):=W7 t2 r2
     rw [← key,k2,decide_eq_true rfl]
     exact SeqAt.EqAt.same _
    ·refine SeqAt.EqAt.of_refs c ?_
     have z:=SeqAt.RcAt.tuples (A:=A) (wA t1) (wA t2) hr (Rk r1 r2 rfl rfl)
     rw [List.size_toArray,List.size_toArray,← r1.length,← r2.length,Xa,UA] at z
     rw [U7] at z
     exact z
   ·exact h1 w hw
  ·rw [List.any_cons,h2,key]
   by_cases c:p=q
   ·subst c; rw [decide_eq_true rfl,decide_eq_true (List.mem_cons_self ..)]; rfl
   ·rw [decide_eq_false c,Bool.false_or]
    by_cases d:q ∈ l
    ·rw [decide_eq_true d,decide_eq_true (List.mem_cons_of_mem _ d)]
    ·rw [decide_eq_false d,decide_eq_false fun z=>(List.mem_cons.mp z).elim (fun w=>c w.symm) d]
def QR (K:JN) (neg:Bool):R2:=fun x y H Q=>∃ (r p:Addr) (ys:List V) (q:Nat × Nat) (l:List (Nat × Nat)),x = .ref r /\ y = .ref p /\ J3 K H r [.int q.1,.int q.2] /\ J3 K H p ys /\ zT (uO K H) ys l /\ Q (.bl (if neg then !decide (q ∈ l) else decide (q ∈ l))) H
theorem rF {k:Nat} (hK:X.K=K) (hr:Room k X.A):OpR X (compareOp .NotIn) (QR K true):=by
 subst hK
 intro pins s σ H x y v u Q I rx ry h
 obtain ⟨r,p,ys,q,l,rfl,rfl,hx,hq,ha,qq⟩:=h
 cases rx; cases ry
 obtain ⟨its,rv,pl,hz⟩:=I.tuple hq
 have key:=fun (A:Around) (h:A.units < cLine)=>U8 (A:=A) I h hx rv ha
 refine SeqAt.notIn_tupleAt (U6 q s.heap) pl (fun w hw=>(key _ ?_).1 w (by simpa using hw)) ⟨.bl _,H,I,rfl,?_⟩
 ·have:=hr.un; show _ < _; simp; omega
 ·rw [show its.toArray.any (U6 q s.heap)=its.any (U6 q s.heap) by simp,(key X.A (by have:=hr.un; omega)).2]
  exact qq
end
theorem KV.merge5:∀ {kws:List (JP × V)} {ws:List (JP × Value)},KV kws ws -> ∀ {kvs:List (JP × V)} {vs:List (JP × Value)},KV kvs vs->KV (kws.foldl (fun f p=>xz f p.1 p.2) kvs) (merged vs ws)
 | [],_,r,_,_,r0=>by
  cases r
  exact r0
 | p :: kws,_,r,kvs,vs,r0=>by
  cases r with
  | cons h t =>
   rename_i q ws
   obtain ⟨e,rv⟩:=h
   show KV (kws.foldl _ (xz kvs p.1 p.2)) (merged (stored vs q.1 q.2) ws)
   rw [← e]
   exact KV.merge5 t (r0.put p.1 rv)
theorem rG:∀ {kws kvs:List (JP × V)},(kws.foldl (fun f p=>xz f p.1 p.2) kvs).length<=kvs.length+kws.length
 | [],_=>Nat.le_refl _
 | p :: kws,kvs=>by
  have h1:=rG (kws:=kws) (kvs:=xz kvs p.1 p.2)
  have h2:=xA kvs p.1 p.2
  show (kws.foldl _ (xz kvs p.1 p.2)).length<=kvs.length+(kws.length+1)
  omega
theorem XC {X:Cx} {K:JN} (hK:X.K=K):MtR X "dict.update" (fun x vs H Q=>∃ (d o:Addr) (kvs kws:List (JP × V)),x = .ref d /\ vs=[.ref o] /\ H d=some (.dK kvs) /\ H o=some (.dK kws) /\ d ≠ o /\ kvs.length+kws.length<=sizeLine /\ Q .non (JQ H d (.dK (kws.foldl (fun f p=>xz f p.1 p.2) kvs)))):=by
 subst hK
 intro pins s σ H x vs v us Q I rx rv h
 obtain ⟨d,o,kvs,kws,rfl,rfl,hd,ho,ne,hl,q⟩:=h
 cases rx
 obtain ⟨u,rfl,ru⟩:=vX rv
 cases ru
 obtain ⟨z1,hd1,vs1,r1,dd1⟩:=T4 I.hok hd
 obtain ⟨z2,hd2,vs2,r2,dd2⟩:=T4 I.hok ho
 refine call_meetsIn PySem.F.slot_dict_update dd1.typeIs PySem.F.entry_dict_update (PySem.F.args_dict_update_2 _ _) (meets_dict_update (zM X.prog X.w) d o ne hd2) ⟨vs1,vs2,dd1,dd2,by rw [← r1.length,← r2.length]; exact hl,fun h' dd' _ hs=>?_⟩
 have he:∃ q,h'.get? d=some q:=let ⟨q,_,_,hq,_⟩:=dd'; ⟨q,hq⟩
 exact ⟨.non,_,qr I (by rw [hd]; exact True.intro) hs he (U0 (Nat.le_trans rG hl) hd1 (KV.merge5 r2 r1) dd'),rfl,q⟩
theorem uo:∀ {g f:List (Nat × Int)},(nKv g).foldl (fun f p=>xz f p.1 p.2) (nKv f)=nKv (g.foldl (fun f p=>vz f p.1 p.2) f)
 | [],_=>rfl
 | p :: g,f=>by
  show (nKv g).foldl _ (xz (nKv f) (.inl (p.1:Int)) (.int p.2))=_
  rw [ZO]
  exact uo
def W8 (_:JN):Sp:=sp4 fun x y z u H Q=>∃ (k s n m:Nat),x = .int k /\ y = .int s /\ z = .int n /\ u = .int m /\ k<=4 /\ 1<=s /\ s<=k /\ n < 2 ^ (k - 1) /\ m < 2 /\ Q (.int (YD k s n m:Nat)) H
def W9 (K:JN):Sp:=sp3 fun x y z H Q=>∃ (sw:Nat × Nat) (w c:Wt),RI H x sw /\ jU K H y w /\ jU K H z c /\ w.nums.length+c.nums.length<=40 /\ w.met.length+c.met.length<=40 /\ ∀ r H',Grow [] H H' -> jU K H' r (x8 sw w c)->Q r H'
theorem uq {k s n m:Nat} (k4:k<=4) (s1:1<=s) (sk:s<=k) (hn:n < 2 ^ (k - 1)) (hm:m < 2):YD k s n m < 2 ^ k:=by
 have key:∀ k:Fin 5,∀ s:Fin 5,1<=s.val->s.val<=k.val -> ∀ n:Fin 8,n.val < 2 ^ (k.val - 1) -> ∀ m:Fin 2,YD k.val s.val n.val m.val < 2 ^ k.val:=by decide +kernel
 have n8:n < 8:=Nat.lt_of_lt_of_le hn (Nat.le_trans (Nat.pow_le_pow_right (by decide) (show k - 1<=3 by omega)) (by decide))
 exact key ⟨k,by omega⟩ ⟨s,by omega⟩ s1 sk ⟨n,n8⟩ hn ⟨m,hm⟩
theorem x9 {α β:Type} {f:β -> α -> β} {a:β} {l:List α} {j:Nat} {w:α} (h:l[j]? = some w):(l.take (j+1)).foldl f a=f ((l.take j).foldl f a) w:=by
 obtain ⟨hj,e⟩:=List.getElem?_eq_some_iff.mp h
 rw [List.take_succ_eq_append_getElem hj,e,List.foldl_append]; rfl
theorem zQ {β:Type} {f:β -> Nat -> β} {a:β} {j:Nat}:(List.range (j+1)).foldl f a=f ((List.range j).foldl f a) j:=by
 rw [List.range_succ,List.foldl_append]; rfl
theorem RK {K:JN} {H:Hp} {r:Addr} {q:Nat × Nat} (h:H r=some (.tup [.int q.1,.int q.2])):J3 K H r [.int q.1,.int q.2]:=J3.of h
theorem xp {H:Hp} {r:Addr} {a b:Int} (h:H r=some (.tup [.int a,.int b])):H r=some (.tup ((kI [a,b]).map kV)):=by rw [QM]; exact h
theorem nd5 {a b:Ad} {K:JN} {C:Addr} {H:Hp} {A:Ad->Addr} {ns:NS} (h:NetAt K C H A ns) (ha:okA ns a) (hb:okA ns b) (n:a ≠ b):A a ≠ A b:=fun z=>n (h.inj _ _ ha hb z)
theorem xR {b:Nat}:∀ {l:List Nat} {ns:NS},(l.foldl (doN b) ns).boxes.length=ns.boxes.length /\ (l.foldl (doN b) ns).asks=ns.asks /\ (l.foldl (doN b) ns).log=ns.log ++ l /\ (l.foldl (doN b) ns).fnd.length<=ns.fnd.length+l.length
 | [],ns=>⟨rfl,rfl,(List.append_nil _).symm,Nat.le_refl _⟩
 | n :: l,ns=>by
  obtain ⟨h1,h2,h3,h4⟩:=xR (b:=b) (l:=l) (ns:=doN b ns n)
  refine ⟨h1.trans (List.length_set ..),h2,?_,Nat.le_trans h4 ?_⟩
  ·show (l.foldl (doN b) (doN b ns n)).log=_
   rw [h3]
   show (ns.log ++ [n]) ++ l=_
   rw [List.append_assoc]; rfl
  ·have:=YG (f:=ns.fnd) (n:=n) (v:=ns.boxes.getD b 0)
   show (vz ns.fnd n (ns.boxes.getD b 0)).length+l.length<=ns.fnd.length+(l.length+1)
   omega
theorem qG {n i:Nat} (h:i < n):ixN n (i:Int)=some i:=by
 have:=TW (n:=n) (i:=(i:Int)) (by omega) (by omega)
 rw [this,Int.toNat_natCast]
theorem XD {k s n m:Nat} (k4:k<=4) (s1:1<=s) (sk:s<=k) (hn:n < 2 ^ (k - 1)) (hm:m < 2):n < 8 /\ SG ((n:Int) / 2 ^ ((k:Int) - s).toNat) ((k:Int) - s+1) /\ SG (m:Int) ((k:Int) - s) /\ SG 1 ((k:Int) - s) /\ True ∧
  Builtin.bitOr (Builtin.bitOr ((n:Int) / 2 ^ ((k:Int) - s).toNat * 2 ^ ((k:Int) - s+1).toNat) ((m:Int) * 2 ^ ((k:Int) - s).toNat)) (Builtin.bitAnd (n:Int) (1 * 2 ^ ((k:Int) - s).toNat - 1))=(YD k s n m:Nat):=by
 have n8:n < 8:=Nat.lt_of_lt_of_le hn (Nat.le_trans (Nat.pow_le_pow_right (by decide) (show k - 1<=3 by omega)) (by decide))
 have e2:(n:Int) / 2 ^ ((k:Int) - s).toNat<=n:=Int.ediv_le_self _ (by omega)
 have e1:(0:Int)<=(n:Int) / 2 ^ ((k:Int) - s).toNat:=Int.ediv_nonneg (by omega) (Int.le_of_lt (Int.pow_pos (by decide)))
 refine ⟨n8,⟨by omega,by omega,by omega⟩,⟨by omega,by omega,by omega⟩,⟨by omega,by omega,by decide⟩,trivial,?_⟩
 have key:∀ k:Fin 5,∀ s:Fin 5,1<=s.val->s.val<=k.val -> ∀ n:Fin 8,n.val < 2 ^ (k.val - 1) -> ∀ m:Fin 2,Builtin.bitOr (Builtin.bitOr ((n.val:Int) / 2 ^ ((k.val:Int) - s.val).toNat * 2 ^ ((k.val:Int) - s.val+1).toNat) ((m.val:Int) * 2 ^ ((k.val:Int) - s.val).toNat)) (Builtin.bitAnd (n.val:Int) (1 * 2 ^ ((k.val:Int) - s.val).toNat - 1))=(YD k.val s.val n.val m.val:Nat):=by decide +kernel
 exact key ⟨k,by omega⟩ ⟨s,by omega⟩ s1 sk ⟨n,n8⟩ hn ⟨m,hm⟩
theorem Sj {c:TT} {t u:TS} {D:Ends} {σ:L2.St} {H:Hp} (Good:Bool->Hp->Prop) (hc:∀ K:Bool->Hp->Prop,(∀ b H',Good b H' -> K b H')->c σ H K) (hr:∀ b H',Good b H' -> if b=true then t D σ H' else u D σ H'):SR c t u D σ H:=hc _ hr
theorem RL {is:List Nat} {i:Nat}:atI (yG (is ++ [i])) (-1)=some (V.int i):=by
 have:=QC (ys:=is.map fun n:Nat=>(n:Int)) (v:=(i:Int))
 unfold yG
 rw [List.map_append,List.map_map] at this
 rw [List.map_append]
 exact this
theorem ZQ {out:List Wt} {b i:Nat} (h:jT out b=some i):i < out.length /\ (out.getD i default).box=b:=by
 have hm:=List.mem_of_getLast? h
 rw [List.mem_filter] at hm
 exact ⟨List.mem_range.mp hm.1,of_decide_eq_true hm.2⟩
theorem vG {ns:NS} (nr:NR ns) {l j:Nat} (hl:l<=ns.k) (hj:j < 2 ^ ns.k):(ns.lines l j).length<=40 /\ zR xG (ns.lines l j)<=40:=by
 have h1:=U4 (f:=ns.lines) (g:=xG) hl hj
 have h2:=nr.tot
 have h3:=nr.a40
 have h4:=qA (g:=xG) (ws:=ns.lines l j) fun w hw=>by
  have:=(nr.lw l j hl hj w hw).ne
  cases e:w.nums with
  | nil=>exact absurd e this
  | cons a r=>show 1<=w.nums.length; rw [e]; exact Nat.succ_le_succ (Nat.zero_le _)
 omega
theorem Sk {v:V} {r:List V}:seqIndex? 0 (v :: r).length=some 0:=(ZC (qG (n:=(v :: r).length) (i:=0) (Nat.succ_pos _))).1
inductive HandC (ns:NS) (s l:Nat):NS->Prop
 | stay:HandC ns s l ns
 | add (c:Wt) (r:List Wt):ns.lines (s - 1) l=c :: r->(ns.lines s (zW ns.k s l c.box)).length < ns.room →
   HandC ns s l { ns with lines:=yh (yh ns.lines (s - 1) l r) s (zW ns.k s l c.box) (ns.lines s (zW ns.k s l c.box) ++ [c]) }
 | join (c:Wt) (r:List Wt) (i:Nat):ns.lines (s - 1) l=c :: r->i < (ns.lines s (zW ns.k s l c.box)).length->((ns.lines s (zW ns.k s l c.box)).getD i default).box=c.box->ns.keep s (nN ns.k s l) < ns.kept →
   HandC ns s l { ns with lines:=yh (yh ns.lines (s - 1) l r) s (zW ns.k s l c.box) ((ns.lines s (zW ns.k s l c.box)).set i (x8 (s,nN ns.k s l) ((ns.lines s (zW ns.k s l c.box)).getD i default) c)),keep:=yh ns.keep s (nN ns.k s l) (ns.keep s (nN ns.k s l)+1) }
theorem Jc {ns:NS} {s l:Nat} {c:Wt} {r:List Wt} (h:ns.lines (s - 1) l=c :: r):HandC ns s l (Sc ns s l c r):=by
 unfold Sc
 split
 ·exact .add c r h (by assumption)
 ·exact .stay
theorem Va (ns:NS) (s l:Nat):HandC ns s l (wM ns s l):=by
 unfold wM
 split
 ·exact .stay
 ·rename_i c r h
  split
  ·exact Jc h
  ·rename_i i hi
   split
   ·rename_i hk
    exact .join c r i h (ZQ hi).1 (ZQ hi).2 hk
   ·exact Jc h
structure Same5 (a b:NS):Prop where
 k:a.k=b.k
 room:a.room=b.room
 kept:a.kept=b.kept
 boxes:a.boxes=b.boxes
 asks:a.asks=b.asks
 now:a.now=b.now
 nd:a.nd=b.nd
 done:a.done=b.done
 log:a.log=b.log
 fnd:a.fnd=b.fnd
 ans:a.ans=b.ans
theorem Same5.refl (a:NS):Same5 a a:=⟨rfl,rfl,rfl,rfl,rfl,rfl,rfl,rfl,rfl,rfl,rfl⟩
theorem Same5.trans {a b c:NS} (h:Same5 a b) (g:Same5 b c):Same5 a c :=
 ⟨h.k.trans g.k,h.room.trans g.room,h.kept.trans g.kept,h.boxes.trans g.boxes,h.asks.trans g.asks,h.now.trans g.now,h.nd.trans g.nd,h.done.trans g.done,h.log.trans g.log,h.fnd.trans g.fnd,h.ans.trans g.ans⟩
theorem HandC.same {ns n':NS} {s l:Nat} (h:HandC ns s l n'):Same5 n' ns:=by
 cases h <;> exact ⟨rfl,rfl,rfl,rfl,rfl,rfl,rfl,rfl,rfl,rfl,rfl⟩
theorem wx (ns:NS) (s l:Nat):Same5 (wM ns s l) ns:=(Va ns s l).same
def RM (g:Wt->Nat):Prop:=∀ sw w c,g (x8 sw w c)=g w+g c
theorem wy {k s l b:Nat} (k4:k<=4) (s1:1<=s) (sk:s<=k) (hl:l < 2 ^ k):zW k s l b < 2 ^ k:=(Jb (b:=b) k4 s1 sk hl).lt
section
variable {ns n':NS} {s l:Nat}
theorem HandC.ws (h:HandC ns s l n') {g:Wt->Nat} (hg:RM g) (k4:ns.k<=4) (s1:1<=s) (sk:s<=ns.k) (hl:l < 2 ^ ns.k):wsN ns.k n'.lines g=wsN ns.k ns.lines g:=by
 cases h with
 | stay=>rfl
 | add c r hc hr =>
  have o:=wy (b:=c.box) k4 s1 sk hl
  have h1:=xB (f:=ns.lines) (v:=r) (g:=g) (show s - 1<=ns.k by omega) hl
  have h2:=xB (f:=yh ns.lines (s - 1) l r) (v:=ns.lines s (zW ns.k s l c.box) ++ [c]) (g:=g) sk o
  rw [zB (fun z=>by have:=z.1; omega)] at h2
  rw [hc,zL] at h1
  rw [wG,zL,wF] at h2
  show wsN ns.k (yh (yh ns.lines (s - 1) l r) s (zW ns.k s l c.box) (ns.lines s (zW ns.k s l c.box) ++ [c])) g=_
  omega
 | join c r i hc hi hb hk =>
  have o:=wy (b:=c.box) k4 s1 sk hl
  have h1:=xB (f:=ns.lines) (v:=r) (g:=g) (show s - 1<=ns.k by omega) hl
  have h2:=xB (f:=yh ns.lines (s - 1) l r) (v:=(ns.lines s (zW ns.k s l c.box)).set i (x8 (s,nN ns.k s l) ((ns.lines s (zW ns.k s l c.box)).getD i default) c)) (g:=g) sk o
  rw [zB (fun z=>by have:=z.1; omega)] at h2
  have h3:=qz (g:=g) (v:=x8 (s,nN ns.k s l) ((ns.lines s (zW ns.k s l c.box)).getD i default) c) hi
  rw [hg] at h3
  rw [hc,zL] at h1
  show wsN ns.k (yh (yh ns.lines (s - 1) l r) s (zW ns.k s l c.box) ((ns.lines s (zW ns.k s l c.box)).set i (x8 (s,nN ns.k s l) ((ns.lines s (zW ns.k s l c.box)).getD i default) c))) g=_
  omega
theorem HandC.all (h:HandC ns s l n') {P:Wt->Prop} (k4:ns.k<=4) (s1:1<=s) (sk:s<=ns.k) (hl:l < 2 ^ ns.k) (hp:∀ a b,a<=ns.k->b < 2 ^ ns.k -> ∀ w ∈ ns.lines a b,P w)
  (hj:∀ w c,P w->P c->w.box=c.box->P (x8 (s,nN ns.k s l) w c)):∀ a b,a<=ns.k->b < 2 ^ ns.k -> ∀ w ∈ n'.lines a b,P w:=by
 have h1:s - 1<=ns.k:=by omega
 cases h with
 | stay=>exact hp
 | add c r hc hr =>
  intro a b ha hb w hw
  have hw:w ∈ yh (yh ns.lines (s - 1) l r) s (zW ns.k s l c.box) (ns.lines s (zW ns.k s l c.box) ++ [c]) a b:=hw
  by_cases e:a=s /\ b=zW ns.k s l c.box
  ·rw [e.1,e.2,zw] at hw
   rcases List.mem_append.mp hw with z | z
   ·exact hp s _ sk (wy k4 s1 sk hl) w z
   ·rw [List.mem_singleton.mp z]; exact hp (s - 1) l h1 hl c (by rw [hc]; exact List.mem_cons_self ..)
  ·rw [zB e] at hw
   by_cases e2:a=s - 1 /\ b=l
   ·rw [e2.1,e2.2,zw] at hw
    exact hp (s - 1) l h1 hl w (by rw [hc]; exact List.mem_cons_of_mem _ hw)
   ·rw [zB e2] at hw; exact hp a b ha hb w hw
 | join c r i hc hi hb' hk =>
  intro a b ha hb w hw
  have hw:w ∈ yh (yh ns.lines (s - 1) l r) s (zW ns.k s l c.box) ((ns.lines s (zW ns.k s l c.box)).set i (x8 (s,nN ns.k s l) ((ns.lines s (zW ns.k s l c.box)).getD i default) c)) a b:=hw
  have o:=wy (b:=c.box) k4 s1 sk hl
  have pc:P c:=hp (s - 1) l h1 hl c (by rw [hc]; exact List.mem_cons_self ..)
  by_cases e:a=s /\ b=zW ns.k s l c.box
  ·rw [e.1,e.2,zw] at hw
   rcases List.mem_or_eq_of_mem_set hw with z | z
   ·exact hp s _ sk o w z
   ·rw [z]
    refine hj _ _ (hp s _ sk o _ ?_) pc hb'
    rw [List.getD_eq_getElem?_getD,List.getElem?_eq_getElem hi]; exact List.getElem_mem hi
  ·rw [zB e] at hw
   by_cases e2:a=s - 1 /\ b=l
   ·rw [e2.1,e2.2,zw] at hw
    exact hp (s - 1) l h1 hl w (by rw [hc]; exact List.mem_cons_of_mem _ hw)
   ·rw [zB e2] at hw; exact hp a b ha hb w hw
theorem UB:RM xG:=fun _ w c=>List.length_append ..
theorem RN {k b a:Nat} {w c:Wt} {sw:Nat × Nat} (hw:WtOk k b a w) (hc:WtOk k b a c) (hs:1<=sw.1 /\ sw.1<=k /\ sw.2 < 2 ^ (k - 1)):WtOk k b a (x8 sw w c) where
 bx:=hw.bx
 ne:=fun z=>hw.ne (List.append_eq_nil_iff.mp z).1
 nm:=fun n hn=>(List.mem_append.mp hn).elim (hw.nm n) (hc.nm n)
 mt:=fun q hq=>by
  rcases List.mem_append.mp hq with z | z
  ·exact (List.mem_append.mp z).elim (hw.mt q) (hc.mt q)
  ·rw [List.mem_singleton.mp z]; exact hs
 ln:=by
  have h1:=hw.ln
  have h2:=hc.ln
  show (w.met ++ c.met ++ [sw]).length+1=(w.nums ++ c.nums).length
  rw [List.length_append,List.length_append,List.length_append]
  show w.met.length+c.met.length+1+1=_
  omega
theorem NR.hand (nr:NR ns) (s1:1<=s) (sk:s<=ns.k) (hl:l < 2 ^ ns.k):NR (wM ns s l):=by
 have hc:=Va ns s l
 have sm:=hc.same
 have F1:=Q9 nr.k4 s1 sk hl
 have ws:=hc.ws UB nr.k4 s1 sk hl
 have al:=hc.all (P:=WtOk ns.k ns.boxes.length ns.asks.length) nr.k4 s1 sk hl nr.lw fun w c hw hc _=>RN hw hc ⟨s1,sk,F1.lt⟩
 refine ⟨by rw [sm.k]; exact nr.k4,by rw [sm.boxes]; exact nr.b16,by rw [sm.asks]; exact nr.a40,?_,?_,?_,by rw [sm.now]; exact nr.nw,by rw [sm.nd,sm.now]; exact nr.nd,by rw [sm.fnd,sm.log]; exact nr.fl⟩
 ·rw [sm.k,sm.boxes,sm.asks]; exact al
 ·rw [sm.k,sm.boxes,sm.asks,sm.nd,sm.done]; exact nr.dw
 ·rw [sm.k,sm.log,sm.asks,ws]; exact nr.tot
end
theorem XE (gone:List (Nat × Nat)) (s:Nat) (ns:NS) (n:Nat):Same5 (xI gone s ns n) ns:=by
 unfold xI
 split
 ·exact Same5.refl _
 ·exact (wx _ _ _).trans (wx _ _ _)
theorem NR.pass1 {ns:NS} (nr:NR ns) {gone:List (Nat × Nat)} {s n:Nat} (s1:1<=s) (sk:s<=ns.k) (hn:n < 2 ^ (ns.k - 1)):NR (xI gone s ns n):=by
 unfold xI
 split
 ·exact nr
 ·have h1:=nr.hand s1 sk (l:=YD ns.k s n (ns.now % 2)) (uq nr.k4 s1 sk hn (Nat.mod_lt _ (by decide)))
  have sm:=wx ns s (YD ns.k s n (ns.now % 2))
  exact h1.hand s1 (by rw [sm.k]; exact sk) (by rw [sm.k]; exact uq nr.k4 s1 sk hn (by omega))
theorem xS (gone:List (Nat × Nat)) (ns:NS) (s:Nat):∀ i,Same5 (passS gone ns s i) ns
 | 0=>Same5.refl _
 | i+1=>by
  unfold passS
  rw [zQ]
  exact (XE _ _ _ _).trans (xS gone ns s i)
theorem NR.passS {ns:NS} (nr:NR ns) {gone:List (Nat × Nat)} {s:Nat} (s1:1<=s) (sk:s<=ns.k):∀ {i},i<=2 ^ (ns.k - 1)->NR (passS gone ns s i)
 | 0,_=>nr
 | i+1,h=>by
  unfold L3.passS
  rw [zQ]
  have sm:=xS gone ns s i
  exact (NR.passS nr s1 sk (gone:=gone) (i:=i) (by omega)).pass1 s1 (by rw [sm.k]; exact sk) (by rw [sm.k]; omega)
theorem xv (gone:List (Nat × Nat)) (ns:NS):∀ i,Same5 (passA gone ns i) ns
 | 0=>Same5.refl _
 | i+1=>by
  unfold passA
  rw [zQ]
  exact (xS _ _ _ _).trans (xv gone ns i)
theorem NR.passA {ns:NS} (nr:NR ns) {gone:List (Nat × Nat)}:∀ {i},i<=ns.k->NR (passA gone ns i)
 | 0,_=>nr
 | i+1,h=>by
  unfold L3.passA
  rw [zQ]
  have sm:=xv gone ns i
  refine NR.passS (NR.passA nr (gone:=gone) (i:=i) (by omega)) ?_ ?_ ?_
  ·show 1<=(L3.passA gone ns i).k - i; rw [sm.k]; omega
  ·show (L3.passA gone ns i).k - i<=(L3.passA gone ns i).k; omega
  ·exact Nat.le_refl _
theorem ur {gone:List (Nat × Nat)} {ns:NS} {i:Nat}:zO gone ns (i+1)=tM gone ns.k (zO gone ns i) i:=by unfold zO; rw [zQ]
theorem tS {gone:List (Nat × Nat)} {k i:Nat} {st:List Wt × (Nat->Nat->List Wt)} (h:st.2 k i=[]):tM gone k st i=st:=by unfold tM; rw [h]
theorem ut {gone:List (Nat × Nat)} {k i:Nat} {st:List Wt × (Nat->Nat->List Wt)} (hg:(0,i) ∈ gone):tM gone k st i=st:=by
 unfold tM
 split
 ·rfl
 ·rw [if_pos hg]
theorem qH {gone:List (Nat × Nat)} {k i:Nat} {st:List Wt × (Nat->Nat->List Wt)} {w:Wt} {r:List Wt} (h:st.2 k i=w :: r) (hg:(0,i) ∉ gone):tM gone k st i=(st.1 ++ [w],yh st.2 k i r):=by
 unfold tM; rw [h]; exact if_neg hg
structure TakeF (ns:NS) (st:List Wt × (Nat->Nat->List Wt)):Prop where
 tk:∀ w ∈ st.1,∃ j,j < 2 ^ ns.k /\ w ∈ ns.lines ns.k j
 ln:∀ l j,∀ w ∈ st.2 l j,w ∈ ns.lines l j
 lo:∀ l j,l ≠ ns.k->st.2 l j=ns.lines l j
 ws:∀ g:Wt->Nat,zR g st.1+wsN ns.k st.2 g=wsN ns.k ns.lines g
theorem Vb {gone:List (Nat × Nat)} {ns:NS}:∀ {i},i<=2 ^ ns.k->TakeF ns (zO gone ns i)
 | 0,_=>⟨(fun _ h=>by cases h),fun _ _ _ h=>h,fun _ _ _=>rfl,fun g=>by show 0+wsN ns.k ns.lines g=_; omega⟩
 | i+1,h=>by
  have ih:=Vb (gone:=gone) (ns:=ns) (i:=i) (by omega)
  rw [ur]
  cases hc:(zO gone ns i).2 ns.k i with
  | nil=>rw [tS hc]; exact ih
  | cons w r =>
   by_cases hg:(0,i) ∈ gone
   ·rw [ut hg]; exact ih
   ·rw [qH hc hg]
    refine ⟨fun x hx=>?_,fun l j x hx=>?_,fun l j hl=>?_,fun g=>?_⟩
    ·rcases List.mem_append.mp hx with z | z
     ·exact ih.tk x z
     ·rw [List.mem_singleton.mp z]
      exact ⟨i,by omega,ih.ln _ _ w (by rw [hc]; exact List.mem_cons_self ..)⟩
    ·have hx:x ∈ yh (zO gone ns i).2 ns.k i r l j:=hx
     by_cases e:l=ns.k /\ j=i
     ·rw [e.1,e.2,zw] at hx
      rw [e.1,e.2]
      exact ih.ln _ _ x (by rw [hc]; exact List.mem_cons_of_mem _ hx)
     ·rw [zB e] at hx; exact ih.ln l j x hx
    ·show yh (zO gone ns i).2 ns.k i r l j=_
     rw [zB fun z=>hl z.1]; exact ih.lo l j hl
    ·have h1:=ih.ws g
     have h2:=xB (f:=(zO gone ns i).2) (v:=r) (g:=g) (Nat.le_refl ns.k) (show i < 2 ^ ns.k by omega)
     rw [hc,zL] at h2
     show zR g ((zO gone ns i).1 ++ [w])+wsN ns.k (yh (zO gone ns i).2 ns.k i r) g=_
     rw [wG,zL,wF]
     omega
def xj (l:List Wt):List Nat:=l.flatMap (·.nums)
theorem vH:∀ {l:List Wt},(xj l).length=zR xG l
 | []=>rfl
 | w :: l=>by
  show (w.nums ++ xj l).length=w.nums.length+zR xG l
  rw [List.length_append,vH]
theorem tT {n:Nat}:∀ {l:List Wt},(xj l).count n=zR (fun w=>w.nums.count n) l
 | []=>rfl
 | w :: l=>by
  show (w.nums ++ xj l).count n=w.nums.count n+zR (fun w=>w.nums.count n) l
  rw [List.count_append,tT]
structure DoF (ns n':NS) (l:List Wt):Prop where
 k:n'.k=ns.k
 room:n'.room=ns.room
 kept:n'.kept=ns.kept
 bl:n'.boxes.length=ns.boxes.length
 asks:n'.asks=ns.asks
 now:n'.now=ns.now
 lines:n'.lines=ns.lines
 keep:n'.keep=ns.keep
 nd:n'.nd=ns.nd
 done:n'.done=ns.done
 log:n'.log=ns.log ++ xj l
 fl:n'.fnd.length<=ns.fnd.length+(xj l).length
 ans:n'.ans=ns.ans
theorem Jd {b:Nat}:∀ {l:List Nat} {ns:NS},(l.foldl (doN b) ns).k=ns.k /\ (l.foldl (doN b) ns).room=ns.room /\ (l.foldl (doN b) ns).kept=ns.kept /\ (l.foldl (doN b) ns).now=ns.now /\ (l.foldl (doN b) ns).lines=ns.lines /\ (l.foldl (doN b) ns).keep=ns.keep /\ (l.foldl (doN b) ns).nd=ns.nd /\ (l.foldl (doN b) ns).done=ns.done /\ (l.foldl (doN b) ns).ans=ns.ans
 | [],ns=>⟨rfl,rfl,rfl,rfl,rfl,rfl,rfl,rfl,rfl⟩
 | n :: l,ns=>Jd (b:=b) (l:=l) (ns:=doN b ns n)
theorem doF:∀ {l:List Wt} {ns:NS},DoF ns (l.foldl doW ns) l
 | [],ns=>⟨rfl,rfl,rfl,rfl,rfl,rfl,rfl,rfl,rfl,rfl,(List.append_nil _).symm,Nat.le_refl _,rfl⟩
 | w :: l,ns=>by
  have ih:=doF (l:=l) (ns:=doW ns w)
  obtain ⟨a1,a2,a3,a4,a5,a6,a7,a8,a9⟩:=Jd (b:=w.box) (l:=w.nums) (ns:=ns)
  obtain ⟨b1,b2,b3,b4⟩:=xR (b:=w.box) (l:=w.nums) (ns:=ns)
  refine ⟨ih.k.trans a1,ih.room.trans a2,ih.kept.trans a3,ih.bl.trans b1,ih.asks.trans b2,ih.now.trans a4,ih.lines.trans a5,ih.keep.trans a6,ih.nd.trans a7,ih.done.trans a8,?_,?_,ih.ans.trans a9⟩
  ·show (l.foldl doW (doW ns w)).log=ns.log ++ (w.nums ++ xj l)
   rw [ih.log,show (doW ns w).log=ns.log ++ w.nums from b3,List.append_assoc]
  ·have h1:=ih.fl
   have b4:(doW ns w).fnd.length<=ns.fnd.length+w.nums.length:=b4
   show (l.foldl doW (doW ns w)).fnd.length<=ns.fnd.length+(w.nums ++ xj l).length
   rw [List.length_append]
   omega
theorem Je {n:Nat} (h:n<=1000000):n < sizeLine:=Nat.lt_of_le_of_lt h (by decide)
def Vc (A:Ad->Addr) (nd:Nat) (q:Addr):Ad->Addr:=fun a=>if a = .dn (nd+1) then q else A a
theorem vI {A:Ad->Addr} {nd:Nat} {q:Addr}:Vc A nd q (.dn (nd+1))=q:=if_pos rfl
theorem wa {A:Ad->Addr} {ns:NS} {q:Addr} {a:Ad} (h:okA ns a):Vc A ns.nd q a=A a:=if_neg fun z=>by
 subst z
 have h:1<=ns.nd+1 /\ ns.nd+1<=ns.nd:=h
 omega
section
variable {K:JN} {C:Addr} {H:Hp} {A:Ad->Addr} {ns:NS}
theorem NetAt.setDone (h:NetAt K C H A ns) {q:Addr} {tv:List V} {ws:List Wt} (hq:H q=some (.lst tv)) (hw:zT (jU K H) tv ws) (nq:∀ a,okA ns a->A a ≠ q) :
  NetAt K C (JQ H (A .dd) (.dK (xz (xC A ns.nd) (.inl ((ns.nd+1:Nat):Int)) (.ref q)))) (Vc A ns.nd q) { ns with nd:=ns.nd+1,done:=rA ns.done (ns.nd+1) ws } /\ Grow [A .dd] H (JQ H (A .dd) (.dK (xz (xC A ns.nd) (.inl ((ns.nd+1:Nat):Int)) (.ref q)))):=by
 have g:=Grow.setK5 (m:=[A .dd]) h.dd (by simp) (xz (xC A ns.nd) (.inl ((ns.nd+1:Nat):Int)) (.ref q))
 refine ⟨⟨fun a ha=>?_,fun a b ha hb e=>?_⟩,g⟩
 ·by_cases e:a = .dn (ns.nd+1)
  ·subst e
   rw [vI]
   refine ⟨_,by rw [zu (fun z=>nq .dd trivial z.symm)]; exact hq,tv,rfl,?_⟩
   show zT _ tv (rA ns.done (ns.nd+1) ws (ns.nd+1))
   rw [show rA ns.done (ns.nd+1) ws (ns.nd+1)=ws from if_pos rfl]
   exact hw.imp fun _ _ z=>z.grow g
  ·have ok:okA ns a:=by
    cases a with
    | dn t =>
     have ha:1<=t /\ t<=ns.nd+1:=ha
     have:t ≠ ns.nd+1:=fun z=>e (by rw [z])
     exact ⟨ha.1,by omega⟩
    | _=>exact ha
   rw [wa ok]
   by_cases ed:a = .dd
   ·subst ed
    refine ⟨_,zc,?_⟩
    show HO.dK _ = .dK (xC (Vc A ns.nd q) (ns.nd+1))
    rw [Ux (A':=Vc A ns.nd q) (fun t h1 h2=>wa (ns:=ns) (a:=.dn t) ⟨h1,h2⟩) vI]
   ·obtain ⟨o,h1,h2⟩:=h.at_ a ok
    refine ⟨o,by rw [zu fun z=>ed (h.inj _ _ ok trivial z)]; exact h1,?_⟩
    have h3:=h2.grow g
    have ef:zC (Vc A ns.nd q) { ns with nd:=ns.nd+1,done:=rA ns.done (ns.nd+1) ws } = zC A ns:=rfl
    have el:xQ (Vc A ns.nd q) ns.k=xQ A ns.k:=by
     unfold xQ
     refine congrArg (fun f=>(List.range (ns.k+1)).flatMap f) (funext fun l=>List.map_congr_left fun j _=>?_)
     rfl
    cases a with
    | p=>obtain ⟨dx,e⟩:=h3; exact ⟨dx,e⟩
    | dl=>exact h3
    | dd=>exact absurd rfl ed
    | dn t =>
     obtain ⟨ys,e1,e2⟩:=h3
     refine ⟨ys,e1,?_⟩
     show zT _ ys (rA ns.done (ns.nd+1) ws t)
     rw [show rA ns.done (ns.nd+1) ws t=ns.done t from if_neg fun z=>e (by rw [z])]
     exact e2
    | _=>exact h3
 ·have key:∀ a,okA ({ ns with nd:=ns.nd+1,done:=rA ns.done (ns.nd+1) ws }:NS) a->a = .dn (ns.nd+1) \/ okA ns a:=fun a ha=>by
   cases a with
   | dn t =>
    have ha:1<=t /\ t<=ns.nd+1:=ha
    by_cases z:t=ns.nd+1
    ·exact .inl (by rw [z])
    ·exact .inr ⟨ha.1,by omega⟩
   | _=>exact .inr ha
  rcases key a ha with ea | oa
  ·rcases key b hb with eb | ob
   ·rw [ea,eb]
   ·rw [ea,vI,wa ob] at e
    exact absurd e.symm (nq b ob)
  ·rcases key b hb with eb | ob
   ·rw [eb,vI,wa oa] at e
    exact absurd e (nq a oa)
   ·rw [wa oa,wa ob] at e
    exact h.inj a b oa ob e
end
def U9 (H:Hp) (x:V) (p:Nat × Int):Prop:=∃ r,x = .ref r /\ H r=some (.tup [.int p.1,.int p.2])
theorem U9.grow {m:List Addr} {H H':Hp} {x:V} {p:Nat × Int} (h:U9 H x p) (g:Grow m H H'):U9 H' x p:=by
 obtain ⟨r,e,h⟩:=h
 exact ⟨r,e,g.tup _ _ h⟩
theorem UC {H:Hp} {zs:List V} {tl:List (Nat × Int)} (h:zT (U9 H) zs tl):ZL H zs (nKv tl):=by
 refine ⟨by unfold nKv; rw [List.length_map]; exact h.len,fun i p hp=>?_⟩
 unfold nKv at hp
 rw [List.getElem?_map] at hp
 obtain ⟨q,hq,rfl⟩:=Option.map_eq_some_iff.mp hp
 obtain ⟨x,hx,r,rfl,hr⟩:=h.getR hq
 exact ⟨r,hx,hr⟩
theorem UD {tl:List (Nat × Int)}:sE (nKv tl)=nKv (sF tl):=uo (g:=tl) (f:=[])
def itF (p:Nat × Int):List Int × List V:=([(p.1:Int)],[.int p.2])
def itB (p:List Int × List V):Nat × Int:=((p.1.getD 0 0).toNat,match p.2 with | [.int v]=>v | _=>0)
theorem QS (p:Nat × Int):itB (itF p)=p:=rfl
theorem Ta {K:JN} {H:Hp}:∀ {zs:List V} {tl:List (Nat × Int)},zT (U9 H) zs tl->zT (Xw K H) zs (tl.map itF)
 | [],[],_=>trivial
 | _ :: _,p :: _,⟨⟨r,e,h⟩,t⟩=>⟨⟨r,e,J3.of h⟩,Ta t⟩
 | [],_ :: _,h=>h.elim
 | _ :: _,[],h=>h.elim
theorem Vd {K:JN} {H:Hp}:∀ {zs:List V} {its:List (List Int × List V)},(∀ q ∈ its,∃ p,q=itF p)->zT (Xw K H) zs its->zT (fun x (p:Nat × Int)=>xL K H x [(p.1:Int),p.2]) zs (its.map itB)
 | [],[],_,_=>trivial
 | _ :: _,q :: its,hq,⟨⟨r,e,h⟩,t⟩=>by
  obtain ⟨p,rfl⟩:=hq q (List.mem_cons_self ..)
  exact ⟨⟨r,e,h⟩,Vd (fun q' h'=>hq q' (List.mem_cons_of_mem _ h')) t⟩
 | [],_ :: _,_,h=>h.elim
 | _ :: _,[],_,h=>h.elim
theorem Sl {its:List (List Int × List V)} {tl:List (Nat × Int)} (h:its.Perm (tl.map itF)):(its.map itB).Perm tl /\ ∀ q ∈ its,∃ p,q=itF p:=by
 refine ⟨?_,fun q hq=>?_⟩
 ·have:=h.map itB
  rw [List.map_map,show itB ∘ itF=id from funext QS,List.map_id] at this
  exact this
 ·obtain ⟨p,_,e⟩:=List.mem_map.mp (h.mem_iff.mp hq)
  exact ⟨p,e.symm⟩
theorem QT {its:List (List Int × List V)} (hq:∀ q ∈ its,∃ p,q=itF p) (h:its.Pairwise fun x y=>ltL x.1 y.1=true):(its.map itB).Pairwise fun a b=>a.1 < b.1:=by
 rw [List.pairwise_map]
 refine h.imp_of_mem fun {x y} hx hy hlt=>?_
 obtain ⟨p,rfl⟩:=hq x hx
 obtain ⟨r,rfl⟩:=hq y hy
 rw [QS,QS]
 have e:ltL [(p.1:Int)] [(r.1:Int)]=true:=hlt
 unfold ltL at e
 split at e
 ·rename_i c; simp [ltL] at e
 ·have:=of_decide_eq_true e; omega
theorem YK {ns:NS} {l:List Wt}:(l.flatMap (uN ns)).length=zR xG l:=by
 induction l with
 | nil=>rfl
 | cons w l ih =>
  show (uN ns w ++ l.flatMap (uN ns)).length=w.nums.length+zR xG l
  rw [List.length_append,ih]
  show (w.nums.map _).length+_=_
  rw [List.length_map]
theorem Sm {tl:List (Nat × Int)} (h:(tl.map (·.1)).Nodup):((tl.map itF).map (·.1)).Nodup:=by
 rw [List.map_map]
 have e:((fun x:List Int × List V=>x.1) ∘ itF)=(fun n:Nat=>[(n:Int)]) ∘ (fun p:Nat × Int=>p.1):=rfl
 rw [e,← List.map_map]
 exact List.Nodup.map_on5 h
where
 List.Nodup.map_on5:∀ {l:List Nat},l.Nodup->(l.map fun n:Nat=>[(n:Int)]).Nodup
 | [],_=>List.nodup_nil
 | n :: l,h=>by
  obtain ⟨h1,h2⟩:=List.nodup_cons.mp h
  refine List.nodup_cons.mpr ⟨fun z=>?_,List.Nodup.map_on5 h2⟩
  obtain ⟨m,hm,e⟩:=List.mem_map.mp z
  have:(m:Int)=n:=by injection e
  exact h1 (by rw [← Int.ofNat_inj.mp this]; exact hm)
theorem rH:∀ {g f:List (Nat × Int)},(g.foldl (fun f p=>vz f p.1 p.2) f).length<=f.length+g.length
 | [],_=>Nat.le_refl _
 | p :: g,f=>by
  have h1:=rH (g:=g) (f:=vz f p.1 p.2)
  have h2:=YG (f:=f) (n:=p.1) (v:=p.2)
  show (g.foldl _ (vz f p.1 p.2)).length<=f.length+(g.length+1)
  omega
theorem Ve {tl:List (Nat × Int)}:(sF tl).length<=tl.length:=by
 have:=rH (g:=tl) (f:=[])
 show (tl.foldl _ []).length<=_
 simpa using this
theorem Vf {it:TI} {g:TG} {tb r:TS} {D:Ends} {σ:L2.St} {H:Hp} (Good:L2.St->Hp->Prop) (hc:∀ D':Ends,(∀ σ' H',Good σ' H' -> D'.nx σ' H')->Qo it g tb D' σ H) (hr:∀ σ' H',Good σ' H' -> r D σ' H'):Tn (Qo it g tb) r D σ H:=hc _ hr
abbrev dc2 (kx vx t0 i0 t1 i1:Expr) (ifs:List Expr) (scope:Scope) (pos:Pos):Expr:=.DictComp kx vx [⟨t0,i0,[],0⟩,⟨t1,i1,ifs,0⟩] scope pos
section
variable {prog:Program} {w:World} {A:Around} {R:Result->Shared->Prop} {s:Shared}
variable {kx vx t0 i0 t1 i1:Expr} {ifs:List Expr} {scope:Scope} {pos:Pos} {it acc:Value} {env:Env} {D:Addr}
theorem Sn:compTurn (dc2 kx vx t0 i0 t1 i1 ifs scope pos) 0 it acc env=(do
      standAt i0.pos
      match ← pyNext it with
      | none=>pure (.done .next)
      | some u =>
        letOwnedTupleGo t0 it u
        assign t0 env u
        let mut ko:=true
        for d in ([]:List Expr) do
          if ko then ko ← isTrue d env (eval d env)
        if ko then
          let y ← eval i1 env
          standAt i1.pos
          let y ← foldedSetIterable i1 env y
          let _ ← runOwn (.compStart (dc2 kx vx t0 i0 t1 i1 ifs scope pos) 1 (← holding [y] (pyIter y)) acc env) env
        again (.compLoop (dc2 kx vx t0 i0 t1 i1 ifs scope pos) 0 it acc env)):=by rfl
theorem So:compTurn (dc2 kx vx t0 i0 t1 i1 ifs scope pos) 1 it (.ref D) env=(do
      standAt i1.pos
      match ← pyNext it with
      | none=>pure (.done .next)
      | some u =>
        letOwnedTupleGo t1 it u
        assign t1 env u
        let mut ko:=true
        for d in ifs do
          if ko then ko ← isTrue d env (eval d env)
        if ko then
          (do
            let kv ← eval kx env
            let vv ← holding [kv] (eval vx env)
            standAt { kx.pos with endLine:=vx.pos.endLine,endCol:=vx.pos.endCol }
            holding [kv,vv] (dictSet D kv vv))
        again (.compLoop (dc2 kx vx t0 i0 t1 i1 ifs scope pos) 1 it (.ref D) env)):=by rfl
theorem Sq (I:Nat->Shared->Prop)
  (turn:∀ n s,I n s->wpAny (model prog w) A (pyNext it) (fun r s₁=>match r with
   | none=>R (.ok .next) s₁
   | some v=>wpAny (model prog w) A (letOwnedTupleGo t1 it v) (fun _ s₂=>wpAny (model prog w) A (assign t1 env v) (fun _ s₃ =>
     wpAny (model prog w) A (forIn ifs true fun c r=>if r=true then do let ok ← isTrue c env (eval c env); pure (ForInStep.yield ok) else pure (ForInStep.yield r)) (fun ok s₄ =>
      if ok=true then wpAny (model prog w) A (eval kx env) (fun kv s₅=>wpAny (model prog w) A (eval vx env) (fun vv s₆ =>
       wpAny (model prog w) A (dictSet D kv vv) (fun _ s₇=>∃ m,m < n /\ I m s₇) noX s₆) noX s₅) noX s₄
      else ∃ m,m < n /\ I m s₄) noX s₃) noX s₂) noX s₁) noX s)
  (n:Nat) (h:I n s):codeAny (model prog w) A (.compLoop (dc2 kx vx t0 i0 t1 i1 ifs scope pos) 1 it (.ref D) env) R s:=by
 refine codeAny_loop rfl I (fun n s hI=>?_) n h
 show wpAny _ A ((compTurn (dc2 kx vx t0 i0 t1 i1 ifs scope pos) 1 it (.ref D) env).onRaise (fun x=>do noteFrame x env; theTreesLotGoes x)) _ _ s
 refine wpAny_noted ?_
 rw [So]
 have no:∀ (E:JO) (e:Value) (s:Shared),noX e s->E e s:=fun _ _ _ f=>f.elim
 refine wpAny_bind (wpAny_standAt (wpAny_bind (wpAny_mono (turn n s hI) (fun r s₁ h₁=>?_) (no _))))
 cases r with
 | none=>exact wpAny_pure h₁
 | some v =>
  refine wpAny_bind (wpAny_mono h₁ (fun _ s₂ h₂=>?_) (no _))
  refine wpAny_bind (wpAny_mono h₂ (fun _ s₃ h₃=>wpAny_bind (wpAny_mono h₃ (fun ok s₄ h₄=>?_) (no _))) (no _))
  cases ok with
  | false=>exact wpAny_pure ⟨rfl,h₄⟩
  | true =>
   exact wpAny_bind (wpAny_bind (wpAny_mono h₄ (fun kv s₅ h₅=>wpAny_bind (wpAny_holding (wpAny_mono h₅ (fun vv s₆ h₆=>wpAny_bind (wpAny_standAt (wpAny_holding (wpAny_mono h₆ (fun _ s₇ h₇=>wpAny_pure ⟨rfl,h₇⟩) (no _))))) (no _)))) (no _)))
theorem Sr (I:Nat->Shared->Prop) (hs:∀ x,foldedSetIterable i1 env x=pure x)
  (turn:∀ n s,I n s->wpAny (model prog w) A (pyNext it) (fun r s₁=>match r with
   | none=>R (.ok .next) s₁
   | some v=>wpAny (model prog w) A (letOwnedTupleGo t0 it v) (fun _ s₂=>wpAny (model prog w) A (assign t0 env v) (fun _ s₃ =>
     wpAny (model prog w) A (eval i1 env) (fun y s₄=>wpAny (model prog w) A (pyIter y) (fun j s₅ =>
      codeAny (model prog w) A (.compStart (dc2 kx vx t0 i0 t1 i1 ifs scope pos) 1 j acc env) (fun r s'=>match r with | .ok _=>∃ m,m < n /\ I m s' | .error _=>False) s₅) noX s₄) noX s₃) noX s₂) noX s₁) noX s)
  (n:Nat) (h:I n s):codeAny (model prog w) A (.compLoop (dc2 kx vx t0 i0 t1 i1 ifs scope pos) 0 it acc env) R s:=by
 refine codeAny_loop rfl I (fun n s hI=>?_) n h
 show wpAny _ A ((compTurn (dc2 kx vx t0 i0 t1 i1 ifs scope pos) 0 it acc env).onRaise (fun x=>do noteFrame x env; theTreesLotGoes x)) _ _ s
 refine wpAny_noted ?_
 rw [Sn]
 have no:∀ (E:JO) (e:Value) (s:Shared),noX e s->E e s:=fun _ _ _ f=>f.elim
 refine wpAny_bind (wpAny_standAt (wpAny_bind (wpAny_mono (turn n s hI) (fun r s₁ h₁=>?_) (no _))))
 cases r with
 | none=>exact wpAny_pure h₁
 | some v =>
  refine wpAny_bind (wpAny_mono h₁ (fun _ s₂ h₂=>?_) (no _))
  refine wpAny_bind (wpAny_mono h₂ (fun _ s₃ h₃=>wpAny_bind (wpAny_pure ?_)) (no _))
  simp only [if_true]
  refine wpAny_bind (wpAny_mono h₃ (fun y s₄ h₄=>wpAny_bind (wpAny_standAt (wpAny_bind (wpAny_of_eq (hs y) (wpAny_bind (wpAny_holding (wpAny_mono h₄ (fun j s₅ h₅=>?_) (no _)))))))) (no _))
  refine wpAny_bind (wpAny_runOwn (codeAny_mono h₅ fun r s' hr=>?_))
  cases r with
  | ok f=>first
    | exact wpAny_pure ⟨rfl,hr⟩
    | exact wpAny_pure (wpAny_pure ⟨rfl,hr⟩)
  | error e=>exact hr.elim
theorem UE (h0:codeAny (model prog w) A (.compLoop (dc2 kx vx t0 i0 t1 i1 ifs scope pos) 1 it acc env) R s)
  (h:wpAny (model prog w) A (pyIter it) (fun it' s'=>codeAny (model prog w) A (.compLoop (dc2 kx vx t0 i0 t1 i1 ifs scope pos) 1 it' acc env) R s') noX s) :
  codeAny (model prog w) A (.compStart (dc2 kx vx t0 i0 t1 i1 ifs scope pos) 1 it acc env) R s:=by
 refine codeAny_of_tree ?_
 show wpAny _ _ ((compStart (dc2 kx vx t0 i0 t1 i1 ifs scope pos) 1 it acc env).onRaise (fun x=>do noteFrame x env; standAt theWindowsPlace)) _ _ s
 refine wpAny_notedAt ?_
 unfold compStart
 show wpAny _ _ (ask >>= _) _ _ s
 have no:∀ (E:JO) (e:Value) (s:Shared),noX e s->E e s:=fun _ _ _ f=>f.elim
 refine wpAny_bind (wpAny_askSetting (wpAny_ite ?_))
 split
 ·first
   | exact wpAny_bind (wpAny_pure (wpAny_pure ⟨rfl,h0⟩))
   | exact wpAny_pure ⟨rfl,h0⟩
 ·first
   | exact wpAny_bind (wpAny_rule (wpAny_bind (wpAny_standAt (wpAny_bind (wpAny_mono h (fun jt s' q=>wpAny_pure ⟨rfl,q⟩) (no _))))))
   | (refine wpAny_bind (wpAny_rule ?_); show wpAny _ _ (standAt i1.pos >>= _) _ _ s; exact wpAny_bind (wpAny_standAt (wpAny_bind (wpAny_mono h (fun jt s' q=>wpAny_pure ⟨rfl,q⟩) (no _)))))
end
def Jf (J:It) (kvs0:List (List JP × V)) (Hb0:Hp) (σ0:L2.St) (H1:Hp) (g:TG) (tt:TT) (tk tv:TE) (Out:List (List JP × V)->Hp->L2.St->Hp->Prop):Prop :=
 ∃ W:Nat->Nat->List (List JP × V)->Hp->L2.St->Hp->Prop,(∃ m,W 0 m kvs0 Hb0 σ0 H1) /\ ∀ i m kvs Hb σ' H',W i m kvs Hb σ' H' →
  (J.stop i H' /\ Out kvs Hb σ' H') ∨
  (J.go i H' /\ ∃ Nn:List (List JP × V)->Hp->L2.St->Hp->Prop,(∀ zs Hc σ2 H2,Nn zs Hc σ2 H2 -> ∃ m',m' < m /\ W (i+1) m' zs Hc σ2 H2) ∧
   ∀ x H2,J.yld i H' x H2->g x σ' H2 fun σ2 H3=>tt σ2 H3 fun b H4=>if b=true then tk σ2 H4 fun y H5=>tv σ2 H5 fun v H6=>kvs.length < sizeLine /\ ∃ b ks,y = .ref b /\ H6 b=some (.tup (ks.map kV)) /\ (∀ c xs,Hb c=some (.tup xs)->H6 c=some (.tup xs)) /\ Nn (xz kvs ks v) H6 σ2 H6 else Nn kvs Hb σ2 H4)
def Vg (J:It) (σ0:L2.St) (H1:Hp) (g0:TG) (wi1:TI) (g1:TG) (tt:TT) (tk tv:TE) (Q:VK):Prop :=
 ∃ W:Nat->Nat->List (List JP × V)->Hp->L2.St->Hp->Prop,(∃ m,W 0 m [] H1 σ0 H1) /\ ∀ i m kvs Hb σ' H',W i m kvs Hb σ' H' →
  (J.stop i H' /\ (∀ b xs,Hb b=some (.tup xs)->H' b=some (.tup xs)) /\ ∀ l,H' l=none->Q (.ref l) (JQ H' l (.dT kvs))) ∨
  (J.go i H' /\ ∃ Nn:List (List JP × V)->Hp->L2.St->Hp->Prop,(∀ zs Hc σ2 H2,Nn zs Hc σ2 H2 -> ∃ m',m' < m /\ W (i+1) m' zs Hc σ2 H2) ∧
   ∀ x H2,J.yld i H' x H2->g0 x σ' H2 fun σ2 H3=>wi1 σ2 H3 fun J2 H4=>Jf J2 kvs Hb σ2 H4 g1 tt tk tv Nn)
def RO (wi:TI) (sub:List (Option Nat)) (g0:TG) (wi1:TI) (g1:TG) (tt:TT) (tk tv:TE):TE:=fun σ H Q=>wi σ H fun J H1=>Vg J (VP sub σ) H1 g0 wi1 g1 tt tk tv Q
section
variable {Y:Cx} {pins:List (Addr × Obj)} {D it2:Addr} {fp2:List Addr} {tn2:Nat->Heap->Prop} {J2:It} {y:Str} {py pos:Pos} {kx vx t0 i0 i1:Expr} {ifs:List Expr} {scope:Scope} {g1:TG} {tt:TT} {tk tv:TE} {Out:List (List JP × V)->Hp->L2.St->Hp->Prop} {W:Nat->Nat->List (List JP × V)->Hp->L2.St->Hp->Prop} {R:Result->Shared->Prop}
theorem RP (hu:Y.A.units+1 < cLine) (hxe:Y.xe=noX) (hcalm:Y.calm=true) (T:Turn Y.prog Y.w Y.K (.Name y py) J2 fp2 it2 tn2) (hD:∀ H':Hp,H' D=none->vg Y pins H' D) (f2:∀ b ∈ fp2,∀ H':Hp,H' b=none->vg Y pins H' b) (hDf:D ∉ fp2)
  (hg:PG Y (.Name y py) g1) (ht:VO Y ifs tt) (hk:PE Y kx tk) (he:PE Y vx tv)
  (turn:∀ i m kvs Hb σ' H',W i m kvs Hb σ' H' -> (J2.stop i H' /\ Out kvs Hb σ' H') ∨
   (J2.go i H' /\ ∃ Nn:List (List JP × V)->Hp->L2.St->Hp->Prop,(∀ zs Hc σ2 H2,Nn zs Hc σ2 H2 -> ∃ m',m' < m /\ W (i+1) m' zs Hc σ2 H2) ∧
    ∀ x H2,J2.yld i H' x H2->g1 x σ' H2 fun σ2 H3=>tt σ2 H3 fun b H4=>if b=true then tk σ2 H4 fun y H5=>tv σ2 H5 fun v H6=>kvs.length < sizeLine /\ ∃ b ks,y = .ref b /\ H6 b=some (.tup (ks.map kV)) /\ (∀ c xs,Hb c=some (.tup xs)->H6 c=some (.tup xs)) /\ Nn (xz kvs ks v) H6 σ2 H6 else Nn kvs Hb σ2 H4))
  (hR:∀ (kvs:List (List JP × V)) (Hb:Hp) (o:Obj) (σ':L2.St) (H':Hp) (s':Shared),Inv Y pins σ' H' s' -> H' D=none->Yz Y.prog Y.w Hb s'.heap D o kvs->Out kvs Hb σ' H' -> R (.ok .next) s')
  (n:Nat) (s:Shared) (h:∃ i kvs Hb o σ' H',Inv Y pins σ' H' s /\ tn2 i s.heap /\ (∀ b ∈ fp2,H' b=none) /\ H' D=none /\ Yz Y.prog Y.w Hb s.heap D o kvs /\ W i n kvs Hb σ' H') :
  codeAny (model Y.prog Y.w) Y.A (.compLoop (dc2 kx vx t0 i0 (.Name y py) i1 ifs scope pos) 1 (.ref it2) (.ref D) Y.env) R s:=by
 refine Sq (fun n s=>∃ i kvs Hb o σ' H',Inv Y pins σ' H' s /\ tn2 i s.heap /\ (∀ b ∈ fp2,H' b=none) /\ H' D=none /\ Yz Y.prog Y.w Hb s.heap D o kvs /\ W i n kvs Hb σ' H') ?_ n h
 rintro n s ⟨i,kvs,Hb,o,σ',H',I',st',fr,hn,rv,w'⟩
 have hy:s.heap.get? D=some o:=let ⟨_,_,_,_,_,_,e,_⟩:=rv; e
 obtain ⟨_,dL,dF,dE,dC,dP⟩:=hD H' hn
 have pD:Inv Y (pins ++ [(D,o)]) σ' H' s:=I'.pins_of fun p hp=>by
  rcases List.mem_append.mp hp with hp | hp
  ·exact I'.pin p (List.mem_append_right _ hp)
  ·rw [List.mem_singleton.mp hp]
   exact ⟨hy,hn,dL,dF,rv.nocell⟩
 have fpok:∀ {H'':Hp},(∀ b ∈ fp2,H'' b=none) -> ∀ b ∈ fp2,vg Y (pins ++ [(D,o)]) H'' b:=fun hz b hb=>by
  obtain ⟨q0,q1,q2,q3,q4,q5⟩:=f2 b hb _ (hz b hb)
  refine ⟨q0,q1,q2,q3,q4,fun p hp=>?_⟩
  rcases List.mem_append.mp hp with hp | hp
  ·exact q5 p (List.mem_append_left _ hp)
  ·rcases List.mem_append.mp hp with hp | hp
   ·exact q5 p (List.mem_append_right _ hp)
   ·rw [List.mem_singleton.mp hp]; exact fun z=>hDf (by rw [show D=b from z]; exact hb)
 rcases turn i n kvs Hb σ' H' w' with ⟨stop,q⟩ | ⟨go,Nn,hN,step⟩
 ·refine JY (T.done Y rfl rfl rfl hcalm i _ s σ' H' noX pD (fpok fr) st' stop) fun r s1 ⟨hr,I1⟩=>?_
  subst hr
  exact hR kvs Hb o σ' H' s1 I1.unpinned hn (rv.at (I1.pin (D,o) (by simp)).1) q
 ·refine JY (T.item Y rfl rfl rfl hcalm i _ s σ' H' noX pD (fpok fr) st' go) fun r s1 ⟨u,hr,h4⟩=>?_
  subst hr
  refine JY h4 fun _ s2 ⟨x5,H5,I5,r5,y5,st5,fr5⟩=>?_
  have I5':=I5.pinned (fpok fr5) (T.obj _ _ st5)
  have hg5:=hg _ s2 σ' H5 x5 u _ I5' r5 (step x5 H5 y5)
  rw [hxe] at hg5
  refine JY hg5 fun _ s3 ⟨σ6,H6,I6,q6⟩=>?_
  have ht6:=ht _ s3 σ6 H6 _ I6 q6
  rw [hxe] at ht6
  refine JY ht6 fun ok s4 ⟨H7,I7,q7⟩=>?_
  have stay:∀ {σ7:L2.St} {H7:Hp} {s7:Shared},Inv Y (pins ++ [(D,o)] ++ vi fp2 s2.heap) σ7 H7 s7 →
    (∀ b ∈ fp2,∀ o,s2.heap.get? b=some o->s7.heap.get? b=some o) /\ (∀ b ∈ fp2,H7 b=none) /\ H7 D=none /\ s7.heap.get? D=some o:=fun {σ7 H7 s7} I7=>by
   have d:=I7.pin (D,o) (by simp)
   refine ⟨fun b hb o e=>(I7.pin (b,o) (List.mem_append_right _ (List.mem_append_right _ (yM hb e)))).1,fun b hb=>?_,d.2.1,d.1⟩
   obtain ⟨o,e,_⟩:=T.obj _ _ st5 b hb
   exact (I7.pin (b,o) (List.mem_append_right _ (List.mem_append_right _ (yM hb e)))).2.1
  cases ok with
  | false =>
   rw [if_neg (by decide)] at q7 ⊢
   obtain ⟨k1,k2,k3,k4⟩:=stay I7
   obtain ⟨m',hm,w7⟩:=hN kvs Hb σ6 H7 q7
   exact ⟨m',hm,i+1,kvs,Hb,o,σ6,H7,I7.unpinned.unpinned,T.keep _ _ _ st5 k1,k2,k3,rv.at k4,w7⟩
  | true =>
   rw [if_pos rfl] at q7 ⊢
   have hk7:=hk _ s4 σ6 H7 _ I7 q7
   rw [hxe] at hk7
   refine JY hk7 fun kv s5 ⟨y,H8,I8,ry,q8⟩=>?_
   have he8:=he _ s5 σ6 H8 _ I8 q8
   rw [hxe] at he8
   refine JY he8 fun vv s6 ⟨v,H9,I9,r9,hl9,b,ks,ey,eb,tp,n9⟩=>?_
   subst ey
   cases (show kv=Value.ref b from ry)
   obtain ⟨k1,k2,k3,k4⟩:=stay I9
   obtain ⟨z,hd,xs,rel,es,ep,h1,h2,h3,h4',h5⟩:=rv.at k4
   have dd:s6.heap.DictOfH (tupleKind (zM Y.prog Y.w)) D xs:=by
    refine ⟨o,es,ep,h1,h2,h3,h4',fun x hx=>?_,h5⟩
    have all:∀ {l:List (List JP × V)} {m:List (List JP × Addr × Value)},KT Hb l m -> ∀ x ∈ m,(tupleKind (zM Y.prog Y.w)).is s6.heap x.1 x.2.1:=by
     intro l m q
     induction q with
     | nil=>intro x hx; exact nomatch hx
     | @cons p q ps qs hq t ih =>
      intro x hx
      rcases List.mem_cons.mp hx with e | hx
      ·subst e
       exact tL I9.hok (by rw [← hq.1]; exact tp _ _ hq.2.1)
      ·exact ih x hx
    exact all rel x hx
   have xl:xs.length<=sizeLine:=by rw [← Paired.length rel]; exact z
   refine wpAny_dictSet_heap (hsz:=xl) (show (tupleKind (zM Y.prog Y.w)).room Y.A from Nat.lt_of_succ_lt hu) (tL I9.hok eb) dd fun h' dd' sb=>?_
   obtain ⟨o',es',ep',hq1,hq2,hq3,hq4,_,hq5⟩:=dd'
   obtain ⟨m',hm,w9⟩:=hN _ _ σ6 H9 n9
   have pl:=xA kvs ks v
   refine ⟨m',hm,i+1,xz kvs ks v,H9,o',σ6,H9,?_,T.keep _ _ _ (T.keep _ _ _ st5 k1) fun b hb o e=>sb.extBut b o (fun z=>hDf (by rw [← z]; exact hb)) e,k2,k3,⟨by omega,hd,_,(KT.keeps rel tp).put ks eb r9,es',ep',hq1,hq2,hq3,hq4,hq5⟩,w9⟩
   exact (I9.unpinned.unpinned).turned (it:=D) (t':=_) (h':=h') (fun b o hb e=>sb.extBut b o hb e) k3 dL dE dC dP
end
section
variable {X:Cx} {pins:List (Addr × Obj)} {σ:L2.St} {H2:Hp} {s₂:Shared} {it:Addr} {fp:List Addr} {tn:Nat->Heap->Prop} {J:It} {scope:Scope} {cl:List (Str × Addr)} {N':List Str} {sub:List (Option Nat)}
theorem JJ {C D:Addr} {s₀:Shared} {x y:Str} {px py pos:Pos} {kx vx i0 i1:Expr} {ifs:List Expr} {g0 g1:TG} {wi1:TI} {tt:TT} {tk tv:TE} {Q:VK} {RR:Value->Addr->Result->Shared->Prop} {W:Nat->Nat->List (List JP × V)->Hp->L2.St->Hp->Prop}
  (hu:X.A.units+1 < cLine) (I:Inv X pins σ H2 s₂) (hcalm:X.calm=true) (T:Turn X.prog X.w X.K (.Name x px) J fp it tn) (f2:∀ b ∈ fp,vg X pins H2 b) (hfp:∀ b ∈ fp,b < s₂.heap.objs.size)
  (hs₀:∀ b o,s₂.heap.get? b=some o->s₀.heap.get? b=some o) (hos:s₀.os=s₂.os) (hD:s₂.heap.objs.size<=D) (hC:s₂.heap.objs.size<=C) (hDC:D ≠ C)
  (hcl1:∀ x c,cl.lookup x=some c->X.env.cells.lookup x=some c)
  (hg0:PG (cxC X N' scope cl C D fp s₀ H2) (.Name x px) g0) (hi1:PI (cxC X N' scope cl C D fp s₀ H2) (.Name y py) i1 wi1) (hg1:PG (cxC X N' scope cl C D fp s₀ H2) (.Name y py) g1) (ht:VO (cxC X N' scope cl C D fp s₀ H2) ifs tt) (hk:PE (cxC X N' scope cl C D fp s₀ H2) kx tk) (he:PE (cxC X N' scope cl C D fp s₀ H2) vx tv)
  (hss:∀ v,foldedSetIterable i1 (compEnvC scope cl C X.env) v=pure v)
  (turn:∀ i m kvs Hb σ' H',W i m kvs Hb σ' H' →
   (J.stop i H' /\ (∀ b xs,Hb b=some (.tup xs)->H' b=some (.tup xs)) /\ ∀ l,H' l=none->Q (.ref l) (JQ H' l (.dT kvs))) ∨
   (J.go i H' /\ ∃ Nn:List (List JP × V)->Hp->L2.St->Hp->Prop,(∀ zs Hc σ2 H2,Nn zs Hc σ2 H2 -> ∃ m',m' < m /\ W (i+1) m' zs Hc σ2 H2) ∧
    ∀ x H2,J.yld i H' x H2->g0 x σ' H2 fun σ2 H3=>wi1 σ2 H3 fun J2 H4=>Jf J2 kvs Hb σ2 H4 g1 tt tk tv Nn))
  (hRR:∀ (D C:Addr) (oC:Obj) (m:Str->Option Value) (s':Shared) (Hf:Hp),Inv X (pins ++ [(C,oC)]) σ Hf s' -> s'.heap.Ns C m->vg X pins Hf C->Q (.ref D) Hf->RR (.ref D) C (.ok .next) s')
  (n:Nat) (s:Shared) (h:∃ i kvs Hb o σ' H',Inv (cxC X N' scope cl C D fp s₀ H2) pins σ' H' s /\ tn i s.heap /\ (∀ b ∈ fp,H' b=none) /\ H' D=none ∧
   Yz X.prog X.w Hb s.heap D o kvs /\ W i n kvs Hb σ' H') :
  codeAny (model X.prog X.w) X.A (.compLoop (dc2 kx vx (.Name x px) i0 (.Name y py) i1 ifs scope pos) 0 (.ref it) (.ref D) (compEnvC scope cl C X.env)) (RR (.ref D) C) s:=by
 have frsz:∀ b ∈ JU X.stack,b < s₂.heap.objs.size:=fun b hb=>by
  rcases List.mem_cons.mp (I.stkSub b hb) with z | z
  ·rw [z]; exact I.lt
  ·exact Nat.lt_of_not_le fun q=>I.nofs q z
 have cells:∀ x c,cl.lookup x=some c->c < s₂.heap.objs.size:=fun x c e=>let ⟨v,q⟩:=I.cell x c (hcl1 x c e); q.lt
 have pinsz:∀ p ∈ X.pn ++ pins,p.1 < s₂.heap.objs.size:=fun p hp=>Heap.lt_size (I.pin p hp).1
 refine Sr (fun n s=>∃ i kvs Hb o σ' H',Inv (cxC X N' scope cl C D fp s₀ H2) pins σ' H' s /\ tn i s.heap /\ (∀ b ∈ fp,H' b=none) /\ H' D=none ∧
   Yz X.prog X.w Hb s.heap D o kvs /\ W i n kvs Hb σ' H') hss ?_ n h
 rintro n s ⟨i,kvs,Hb,o,σ',H',I',st',fr,hn,rv,w'⟩
 have hy:s.heap.get? D=some o:=let ⟨_,_,_,_,_,_,e,_⟩:=rv; e
 have pD:Inv (cxC X N' scope cl C D fp s₀ H2) (pins ++ [(D,o)]) σ' H' s:=I'.pins_of fun p hp=>by
  rcases List.mem_append.mp hp with hp | hp
  ·exact I'.pin p (List.mem_append_right _ hp)
  ·rw [List.mem_singleton.mp hp]
   exact ⟨hy,hn,hDC,fun z=>absurd (Nat.lt_of_lt_of_le (frsz _ z) hD) (Nat.lt_irrefl _),rv.nocell⟩
 have fpok:∀ {H'':Hp},(∀ b ∈ fp,H'' b=none) -> ∀ b ∈ fp,vg (cxC X N' scope cl C D fp s₀ H2) (pins ++ [(D,o)]) H'' b:=fun hz b hb=>by
  refine ⟨hz b hb,Nat.ne_of_lt (Nat.lt_of_lt_of_le (hfp b hb) hC),fun z=>?_,.inl (List.mem_cons_of_mem _ hb),fun x c e=>(f2 b hb).2.2.2.2.1 x c (hcl1 x c e),fun p hp=>?_⟩
  ·rcases List.mem_cons.mp (I.stkSub b z) with z | z
   ·exact (f2 b hb).2.1 z
   ·exact (f2 b hb).2.2.1 z
  ·rcases List.mem_append.mp hp with hp | hp
   ·exact (f2 b hb).2.2.2.2.2 p (List.mem_append_left _ hp)
   ·rcases List.mem_append.mp hp with hp | hp
    ·exact (f2 b hb).2.2.2.2.2 p (List.mem_append_right _ hp)
    ·rw [List.mem_singleton.mp hp]
     exact Nat.ne_of_gt (Nat.lt_of_lt_of_le (hfp b hb) hD)
 rcases turn i n kvs Hb σ' H' w' with ⟨stop,hbt,q⟩ | ⟨go,Nn,hN,step⟩
 ·refine JY (T.done (cxC X N' scope cl C D fp s₀ H2) rfl rfl rfl hcalm i _ s σ' H' noX pD (fpok fr) st' stop) fun r s1 ⟨hr,I1⟩=>?_
  subst hr
  have hy1:=(I1.pin (D,o) (by simp)).1
  obtain ⟨m,hm,_⟩:=I1.loc
  obtain ⟨oC,es,ep,hoC,hdC,_⟩:=id hm
  obtain ⟨IX,fpc⟩:=WO I hs₀ hos hD hC hDC f2 I1.unpinned hn hbt (rv.at hy1) hoC (by intro v z; rw [hdC] at z; cases z)
  exact hRR D C oC m s1 _ IX hm fpc (q D hn)
 ·refine JY (T.item (cxC X N' scope cl C D fp s₀ H2) rfl rfl rfl hcalm i _ s σ' H' noX pD (fpok fr) st' go) fun r s1 ⟨u,hr,h4⟩=>?_
  subst hr
  refine JY h4 fun _ s2 ⟨x5,H5,I5,r5,y5,st5,fr5⟩=>?_
  have I5':=I5.pinned (fpok fr5) (T.obj _ _ st5)
  refine JY (hg0 _ s2 σ' H5 x5 u _ I5' r5 (step x5 H5 y5)) fun _ s3 ⟨σ6,H6,I6,q6⟩=>?_
  refine JY (hi1 _ s3 σ6 H6 _ I6 q6) fun v s4 h4'=>?_
  refine JY h4' fun itv s5 ⟨it2,fp2,tn2,J2,H7,e2,I7,T2,st7,f7,W2,⟨m2,w2⟩,turn2⟩=>?_
  subst e2
  have dpin:=I7.pin (D,o) (by simp)
  have I8:Inv (cxC X N' scope cl C D fp s₀ H2) (pins ++ vi fp s2.heap) σ6 H7 s5:=I7.pins_of fun p hp=>I7.pin p (by
   rcases List.mem_append.mp hp with hp | hp
   ·exact List.mem_append_right _ (List.mem_append_left _ (List.mem_append_left _ hp))
   ·exact List.mem_append_right _ (List.mem_append_right _ hp))
  have hDfp2:D ∉ fp2:=fun z=>(f7 D z).2.2.2.2.2 (D,o) (by simp) rfl
  have hDok:∀ H':Hp,H' D=none->vg (cxC X N' scope cl C D fp s₀ H2) (pins ++ vi fp s2.heap) H' D:=fun H' hn'=>by
   refine ⟨hn',hDC,fun z=>absurd (Nat.lt_of_lt_of_le (frsz _ z) hD) (Nat.lt_irrefl _),.inl (by simp),fun x c e=>Nat.ne_of_lt (Nat.lt_of_lt_of_le (cells x c e) hD),fun p hp=>?_⟩
   rcases List.mem_append.mp hp with hp | hp
   ·exact Nat.ne_of_lt (Nat.lt_of_lt_of_le (pinsz p (List.mem_append_left _ hp)) hD)
   ·rcases List.mem_append.mp hp with hp | hp
    ·exact Nat.ne_of_lt (Nat.lt_of_lt_of_le (pinsz p (List.mem_append_right _ hp)) hD)
    ·obtain ⟨b,hb,e⟩:=List.mem_filterMap.mp hp
     have:p.1=b:=by
      cases q:s2.heap.get? b with
      | none=>rw [q] at e; cases e
      | some o=>rw [q] at e; cases e; rfl
     rw [this]; exact Nat.ne_of_lt (Nat.lt_of_lt_of_le (hfp b hb) hD)
  have f8:∀ b ∈ fp2,∀ H':Hp,H' b=none->vg (cxC X N' scope cl C D fp s₀ H2) (pins ++ vi fp s2.heap) H' b:=fun b hb H' hn'=>by
   obtain ⟨_,q1,q2,q3,q4,q5⟩:=f7 b hb
   refine ⟨hn',q1,q2,q3,q4,fun p hp=>q5 p ?_⟩
   rcases List.mem_append.mp hp with hp | hp
   ·exact List.mem_append_left _ hp
   ·rcases List.mem_append.mp hp with hp | hp
    ·exact List.mem_append_right _ (List.mem_append_left _ (List.mem_append_left _ hp))
    ·exact List.mem_append_right _ (List.mem_append_right _ hp)
  have loop:codeAny (model X.prog X.w) X.A (.compLoop (dc2 kx vx (.Name x px) i0 (.Name y py) i1 ifs scope pos) 1 (.ref it2) (.ref D) (compEnvC scope cl C X.env)) (fun r s'=>match r with
    | .ok _=>∃ m,m < n /\ ∃ i kvs Hb o σ' H',Inv (cxC X N' scope cl C D fp s₀ H2) pins σ' H' s' /\ tn i s'.heap /\ (∀ b ∈ fp,H' b=none) /\ H' D=none ∧
      Yz X.prog X.w Hb s'.heap D o kvs /\ W i m kvs Hb σ' H'
    | .error _=>False) s5:=by
   refine RP (Y:=cxC X N' scope cl C D fp s₀ H2) hu rfl hcalm T2 hDok f8 hDfp2 hg1 ht hk he turn2 ?_ m2 s5 ⟨0,kvs,Hb,o,σ6,H7,I8,st7,fun b hb=>(f7 b hb).1,dpin.2.1,rv.at dpin.1,w2⟩
   intro kvs9 Hb9 o9 σ9 H9 s9 I9 hn9 rv9 q9
   obtain ⟨m',hm,w9⟩:=hN kvs9 Hb9 σ9 H9 q9
   refine ⟨m',hm,i+1,kvs9,Hb9,o9,σ9,H9,I9.unpinned,T.keep _ _ _ st5 fun b hb o e=>(I9.pin (b,o) (List.mem_append_right _ (List.mem_append_right _ (yM hb e)))).1,fun b hb=>?_,hn9,rv9,w9⟩
   obtain ⟨o,e,_⟩:=T.obj _ _ st5 b hb
   exact (I9.pin (b,o) (List.mem_append_right _ (List.mem_append_right _ (yM hb e)))).2.1
  exact UE loop (T2.self _ _ _ _ _ st7 loop)
theorem ZR {x y:Str} {px py pos:Pos} {kx vx i0 i1:Expr} {ifs:List Expr} {g0 g1:TG} {wi1:TI} {tt:TT} {tk tv:TE} {E:JO} {Q:VK} {RR:Value->Addr->Result->Shared->Prop}
  (hu:X.A.units+1 < cLine) (I:Inv X pins σ H2 s₂) (hcalm:X.calm=true) (T:Turn X.prog X.w X.K (.Name x px) J fp it tn) (st:tn 0 s₂.heap) (f2:∀ b ∈ fp,vg X pins H2 b)
  (S:CSc X scope N' sub) (hcl1:∀ x c,cl.lookup x=some c->X.env.cells.lookup x=some c) (hcl2:∀ y ∈ scope.names,y.2 = .free -> ∃ c,cl.lookup y.1=some c)
  (hg0:∀ C D fp s H,PG (cxC X N' scope cl C D fp s H) (.Name x px) g0) (hi1:∀ C D fp s H,PI (cxC X N' scope cl C D fp s H) (.Name y py) i1 wi1) (hg1:∀ C D fp s H,PG (cxC X N' scope cl C D fp s H) (.Name y py) g1) (ht:∀ C D fp s H,VO (cxC X N' scope cl C D fp s H) ifs tt) (hk:∀ C D fp s H,PE (cxC X N' scope cl C D fp s H) kx tk) (he:∀ C D fp s H,PE (cxC X N' scope cl C D fp s H) vx tv)
  (hss:∀ C v,foldedSetIterable i1 (compEnvC scope cl C X.env) v=pure v)
  (hW:Vg J (VP sub σ) H2 g0 wi1 g1 tt tk tv Q)
  (hRR:∀ (D C:Addr) (oC:Obj) (m:Str->Option Value) (s':Shared) (Hf:Hp),Inv X (pins ++ [(C,oC)]) σ Hf s' -> s'.heap.Ns C m->vg X pins Hf C->Q (.ref D) Hf->RR (.ref D) C (.ok .next) s') :
  wpAny (model X.prog X.w) X.A newDict (fun acc s₃=>wpAny (model X.prog X.w) X.A (newFunctionEnv scope X.env.globals cl [] X.env.qual none .none (some X.env)) (fun cenv s₄ =>
   codeAny (model X.prog X.w) X.A (.compStart (dc2 kx vx (.Name x px) i0 (.Name y py) i1 ifs scope pos) 0 (.ref it) acc { cenv with scope:=relabel scope X.env }) (RR acc cenv.locals) s₄) E s₃) E s₂:=by
 obtain ⟨W,⟨m0,w0⟩,turn⟩:=hW
 refine wpAny_newObj_type (wpAny_newFunctionEnv S.nocell (by intro y hy; simp at hy) (fun h₁ hns₁ hsb₁=>?_) S.kind)
 dsimp only at hns₁ hsb₁ ⊢
 have hC:(s₂.heap.push { cls:=.type "dict",dict:=none,data:=.dict #[] }).objs.size=s₂.heap.objs.size+1:=Heap.size_push ..
 rw [hC] at hns₁ hsb₁ ⊢
 have hk1:∀ b o,(s₂.heap.push { cls:=.type "dict",dict:=none,data:=.dict #[] }).get? b=some o->h₁.get? b=some o:=fun b o e =>
  hsb₁.extBut b o (by have:=Heap.lt_size e; rw [hC] at this; exact Nat.ne_of_lt this) (Heap.get?_push_of_some _ e)
 have hfp:∀ b ∈ fp,b < s₂.heap.objs.size:=fun b hb=>by
  obtain ⟨o,e,_⟩:=T.obj _ _ st b hb
  exact Heap.lt_size e
 have I0:=rf (tk:=s₂.toks+([]:List (Str × Value)).length) I S hcl1 hcl2 f2 hfp hns₁ hk1
 have hD0:h₁.get? s₂.heap.objs.size=some { cls:=.type "dict",data:=.dict #[] }:=hk1 _ _ (Heap.get?_push_size _ rfl)
 obtain ⟨_,hd0,xs0,rel0,o0,es0,ep0,q1,q2,q3,q4,q5⟩:=(Uq (P:=X.prog) (w:=X.w) (H:=H2) s₂.heap I.big)
 rw [Heap.get?_push_size _ rfl] at q1
 cases q1
 have loop:codeAny (model X.prog X.w) X.A (.compLoop (dc2 kx vx (.Name x px) i0 (.Name y py) i1 ifs scope pos) 0 (.ref it) (.ref s₂.heap.objs.size) (compEnvC scope cl (s₂.heap.objs.size+1) X.env)) (RR (.ref s₂.heap.objs.size) (s₂.heap.objs.size+1)) { s₂ with heap:=h₁,toks:=s₂.toks+([]:List (Str × Value)).length } :=
  JJ (s₀:={ s₂ with heap:=s₂.heap.push { cls:=.type "dict",dict:=none,data:=.dict #[] } }) (C:=s₂.heap.objs.size+1) (D:=s₂.heap.objs.size) hu I hcalm T f2 hfp (fun b o e=>Heap.get?_push_of_some _ e) rfl (Nat.le_refl _) (Nat.le_succ _) (Nat.ne_of_lt (Nat.lt_succ_self _)) hcl1 (hg0 _ _ _ _ _) (hi1 _ _ _ _ _) (hg1 _ _ _ _ _) (ht _ _ _ _ _) (hk _ _ _ _ _) (he _ _ _ _ _) (hss _) turn hRR m0 _
   ⟨0,[],H2,_,VP sub σ,H2,I0,T.keep _ _ _ st fun b hb o e=>hk1 b o (Heap.get?_push_of_some _ e),fun b hb=>(f2 b hb).1,I.hok.fresh (Nat.le_refl _),⟨Nat.zero_le _,hd0,[],.nil,es0,ep0,hD0,q2,q3,by cases rel0; exact q4,List.nodup_nil⟩,w0⟩
 exact codeAny_compStart_dict loop (T.self _ _ _ _ _ (T.keep _ _ _ st fun b hb o e=>hk1 b o (Heap.get?_push_of_some _ e)) loop)
end
section
variable {X:Cx} {scope:Scope} {N':List Str} {sub:List (Option Nat)} {x y:Str} {px py pos:Pos} {kx vx i0 i1:Expr} {ifs:List Expr} {wi wi1:TI} {g0 g1:TG} {tt:TT} {tk tv:TE}
theorem YL (hu:X.A.units+1 < cLine) (S:CSc X scope N' sub) (hcalm:X.calm=true) (hi:PI X (.Name x px) i0 wi)
  (hg0:∀ cl C D fp s H,PG (cxC X N' scope cl C D fp s H) (.Name x px) g0) (hi1:∀ cl C D fp s H,PI (cxC X N' scope cl C D fp s H) (.Name y py) i1 wi1) (hg1:∀ cl C D fp s H,PG (cxC X N' scope cl C D fp s H) (.Name y py) g1) (ht:∀ cl C D fp s H,VO (cxC X N' scope cl C D fp s H) ifs tt) (hk:∀ cl C D fp s H,PE (cxC X N' scope cl C D fp s H) kx tk) (he:∀ cl C D fp s H,PE (cxC X N' scope cl C D fp s H) vx tv)
  (hs:∀ x,foldedSetIterable i0 X.env x=pure x:=by intro _; rfl) (hss:∀ cl C v,foldedSetIterable i1 (compEnvC scope cl C X.env) v=pure v:=by intro _ _ _; rfl):PE X (dc2 kx vx (.Name x px) i0 (.Name y py) i1 ifs scope pos) (RO wi sub g0 wi1 g1 tt tk tv):=by
 intro pins s σ H Q I h
 obtain ⟨cl,hclos,hcl1,hcl2⟩:=S.clos I
 rw [arm_eval_DictComp]
 refine wpAny_comprehension_free (use:=none) rfl hs hclos S.kind S.names (JY (hi pins s σ H _ I h) fun v s1 h1=>JY h1 fun itv s2 h2=>?_)
 obtain ⟨it,fp,tn,J,H2,e,I2,T,st2,f2,hW⟩:=h2
 subst e
 refine ZR (RR:=fun acc C=>compPost (model X.prog X.w) X.A X.xe none (EP X pins σ Q) acc C) hu I2 hcalm T st2 f2 S hcl1 hcl2 (hg0 cl) (hi1 cl) (hg1 cl) (ht cl) (hk cl) (he cl) (hss cl) hW ?_
 intro D C oC m s' Hf IX hm fpc q
 refine ⟨m,hm,fun h' sb=>⟨.ref D,Hf,?_,rfl,q⟩⟩
 exact (IX.unpinned).turned (it:=C) (t':=s'.toks) (h':=h') (fun b o hb e=>sb.extBut b o hb e) fpc.1 fpc.2.1 fpc.2.2.2.1 fpc.2.2.2.2.1 fpc.2.2.2.2.2
end
section
variable {v0 v1 v2 v3 v4 v5 v6 v7 v8 v9 v10 v11:V}
theorem Vh:xE "depth" v0 ([]:List (Str × V))=([("depth",v0)]:List (Str × V)):=by
 simp only [xE]
theorem UF:xE "room" v1 ([("depth",v0)]:List (Str × V))=([("depth",v0),("room",v1)]:List (Str × V)):=by
 simp only [xE]
 repeat rw [if_neg (by decide +kernel)]
theorem qI:xE "most_kept" v2 ([("depth",v0),("room",v1)]:List (Str × V))=([("depth",v0),("room",v1),("most_kept",v2)]:List (Str × V)):=by
 simp only [xE]
 repeat rw [if_neg (by decide +kernel)]
theorem Vi:xE "boxes" v3 ([("depth",v0),("room",v1),("most_kept",v2)]:List (Str × V))=([("depth",v0),("room",v1),("most_kept",v2),("boxes",v3)]:List (Str × V)):=by
 simp only [xE]
 repeat rw [if_neg (by decide +kernel)]
theorem UG:xE "asks" v4 ([("depth",v0),("room",v1),("most_kept",v2),("boxes",v3)]:List (Str × V))=([("depth",v0),("room",v1),("most_kept",v2),("boxes",v3),("asks",v4)]:List (Str × V)):=by
 simp only [xE]
 repeat rw [if_neg (by decide +kernel)]
theorem Ss:xE "now" v5 ([("depth",v0),("room",v1),("most_kept",v2),("boxes",v3),("asks",v4)]:List (Str × V))=([("depth",v0),("room",v1),("most_kept",v2),("boxes",v3),("asks",v4),("now",v5)]:List (Str × V)):=by
 simp only [xE]
 repeat rw [if_neg (by decide +kernel)]
theorem Vj:xE "lines" v6 ([("depth",v0),("room",v1),("most_kept",v2),("boxes",v3),("asks",v4),("now",v5)]:List (Str × V))=([("depth",v0),("room",v1),("most_kept",v2),("boxes",v3),("asks",v4),("now",v5),("lines",v6)]:List (Str × V)):=by
 simp only [xE]
 repeat rw [if_neg (by decide +kernel)]
theorem ZS:xE "keeping" v7 ([("depth",v0),("room",v1),("most_kept",v2),("boxes",v3),("asks",v4),("now",v5),("lines",v6)]:List (Str × V))=([("depth",v0),("room",v1),("most_kept",v2),("boxes",v3),("asks",v4),("now",v5),("lines",v6),("keeping",v7)]:List (Str × V)):=by
 simp only [xE]
 repeat rw [if_neg (by decide +kernel)]
theorem ZT:xE "done_in" v8 ([("depth",v0),("room",v1),("most_kept",v2),("boxes",v3),("asks",v4),("now",v5),("lines",v6),("keeping",v7)]:List (Str × V))=([("depth",v0),("room",v1),("most_kept",v2),("boxes",v3),("asks",v4),("now",v5),("lines",v6),("keeping",v7),("done_in",v8)]:List (Str × V)):=by
 simp only [xE]
 repeat rw [if_neg (by decide +kernel)]
theorem XF:xE "logged" v9 ([("depth",v0),("room",v1),("most_kept",v2),("boxes",v3),("asks",v4),("now",v5),("lines",v6),("keeping",v7),("done_in",v8)]:List (Str × V))=([("depth",v0),("room",v1),("most_kept",v2),("boxes",v3),("asks",v4),("now",v5),("lines",v6),("keeping",v7),("done_in",v8),("logged",v9)]:List (Str × V)):=by
 simp only [xE]
 repeat rw [if_neg (by decide +kernel)]
theorem Vk:xE "found" v10 ([("depth",v0),("room",v1),("most_kept",v2),("boxes",v3),("asks",v4),("now",v5),("lines",v6),("keeping",v7),("done_in",v8),("logged",v9)]:List (Str × V))=([("depth",v0),("room",v1),("most_kept",v2),("boxes",v3),("asks",v4),("now",v5),("lines",v6),("keeping",v7),("done_in",v8),("logged",v9),("found",v10)]:List (Str × V)):=by
 simp only [xE]
 repeat rw [if_neg (by decide +kernel)]
theorem ZU:xE "answers" v11 ([("depth",v0),("room",v1),("most_kept",v2),("boxes",v3),("asks",v4),("now",v5),("lines",v6),("keeping",v7),("done_in",v8),("logged",v9),("found",v10)]:List (Str × V))=([("depth",v0),("room",v1),("most_kept",v2),("boxes",v3),("asks",v4),("now",v5),("lines",v6),("keeping",v7),("done_in",v8),("logged",v9),("found",v10),("answers",v11)]:List (Str × V)):=by
 simp only [xE]
 repeat rw [if_neg (by decide +kernel)]
end
def y8 (a m i j:Nat):List (Nat × Nat):=((List.range i).flatMap fun l=>(List.range m).map fun y=>(a+l,y)) ++ (List.range j).map fun y=>(a+i,y)
theorem xt {a m i j:Nat} {q:Nat × Nat}:q ∈ y8 a m i j ↔ (a<=q.1 /\ q.1 < a+i /\ q.2 < m) \/ (q.1=a+i /\ q.2 < j):=by
 unfold y8
 rw [List.mem_append,List.mem_flatMap,List.mem_map]
 constructor
 ·rintro (⟨l,hl,h⟩ | ⟨y,hy,rfl⟩)
  ·obtain ⟨y,hy,rfl⟩:=List.mem_map.mp h
   have:=List.mem_range.mp hl
   exact .inl ⟨Nat.le_add_right _ _,by show a+l < a+i; omega,List.mem_range.mp hy⟩
  ·exact .inr ⟨rfl,List.mem_range.mp hy⟩
 ·rintro (⟨h1,h2,h3⟩ | ⟨h1,h2⟩)
  ·refine .inl ⟨q.1 - a,List.mem_range.mpr (by omega),List.mem_map.mpr ⟨q.2,List.mem_range.mpr h3,Prod.ext (by show a+(q.1 - a)=q.1; omega) rfl⟩⟩
  ·exact .inr ⟨q.2,List.mem_range.mpr h2,Prod.ext h1.symm rfl⟩
theorem YM {a m i j:Nat}:y8 a m i (j+1)=y8 a m i j ++ [(a+i,j)]:=by
 unfold y8
 rw [List.range_succ,List.map_append,List.append_assoc]; rfl
theorem rJ {a m i:Nat}:y8 a m i m=y8 a m (i+1) 0:=by
 unfold y8
 rw [List.range_succ,List.flatMap_append]
 simp
def sH (F:Nat->Nat->V) (P:List (Nat × Nat)):List (List JP × V):=P.map fun q=>(kI [(q.1:Int),(q.2:Int)],F q.1 q.2)
theorem UH {F:Nat->Nat->V} {P:List (Nat × Nat)} {a b:Nat} {v:V} (h:(a,b) ∉ P):xz (sH F P) (kI [(a:Int),(b:Int)]) v=sH (yh F a b v) (P ++ [(a,b)]):=by
 rw [Yy _ (tN fun w hw=>?_)]
 ·unfold sH
  rw [List.map_append]
  congr 1
  ·refine List.map_congr_left fun q hq=>?_
   rw [zB fun z=>h (by rw [← z.1,← z.2]; exact hq)]
  ·show _=[(kI [(a:Int),(b:Int)],yh F a b v a b)]
   rw [zw]
 ·unfold sH at hw
  obtain ⟨q,hq,e⟩:=List.mem_map.mp hw
  have e1:=congrArg Prod.fst e
  obtain ⟨h1,h2⟩:=uh.mp e1
  exact h (by rw [show (a,b)=q from Prod.ext (by show a=q.1; omega) (by show b=q.2; omega)]; exact hq)
theorem UI {F:Nat->Nat->V} {P:List (Nat × Nat)}:(sH F P).length=P.length:=List.length_map ..
theorem vJ {a m i j:Nat} (hm:m<=16) (hi:i<=5) (hj:j<=16):(y8 a m i j).length < 1000:=by
 have h1:∀ i:Nat,((List.range i).flatMap fun l=>(List.range m).map fun y=>(a+l,y)).length=i * m:=by
  intro i
  induction i with
  | zero=>rw [Nat.zero_mul]; rfl
  | succ i ih=>rw [List.range_succ,List.flatMap_append,List.length_append,ih,Nat.succ_mul]; simp
 unfold y8
 rw [List.length_append,h1,List.length_map,List.length_range]
 have:=Nat.mul_le_mul hi hm
 omega
theorem XG {A:Ad->Addr} {k:Nat}:xQ A k=sH (fun l j=>.ref (A (.ln l j))) (y8 0 (2 ^ k) (k+1) 0):=by
 unfold xQ sH y8
 rw [List.range_zero,List.map_nil,List.append_nil,List.map_flatMap]
 refine congrArg (fun f=>(List.range (k+1)).flatMap f) (funext fun l=>?_)
 rw [List.map_map]
 refine List.map_congr_left fun j _=>?_
 show _=(kI [((0+l:Nat):Int),(j:Int)],V.ref (A (.ln (0+l) j)))
 rw [Nat.zero_add]
theorem XH {k:Nat} {kp:Nat->Nat->Int}:yg k kp=sH (fun s n=>.int (kp s n)) (y8 1 (2 ^ (k - 1)) k 0):=by
 unfold yg sH y8
 rw [List.range_zero,List.map_nil,List.append_nil,List.map_flatMap]
 refine congrArg (fun f=>(List.range k).flatMap f) (funext fun l=>?_)
 rw [List.map_map]
 refine List.map_congr_left fun j _=>?_
 show _=(kI [((1+l:Nat):Int),(j:Int)],V.int (kp (1+l) j))
 rw [Nat.add_comm 1 l]
theorem tU {lo:Int} {n a m:Nat} {σ:L2.St} {H1:Hp} {wi1:TI} {tk tv:TE} {Q:VK} {e2:List (Option V)} (Pv:Nat->Nat->(Nat->Nat->V)->Hp->Prop) (hlo:lo=(a:Int)) (hn5:n<=5) (hm16:m<=16)
  (hσ:∃ e0 e1,σ = e0 :: e1 :: e2) (F0:Nat->Nat->V) (h0:Pv 0 0 F0 H1)
  (hr:∀ i e1 F H' (R:It->Hp->Prop),i < n->Pv i 0 F H' -> R (Itr 0 m) H' -> wi1 (some (.int ((a+i:Nat):Int)) :: e1 :: e2) H' R)
  (hs:∀ i j F H' (KK:V->V->Hp->Prop),i < n->j < m->Pv i j F H' -> (∀ b v H6,H6 b=some (.tup [.int ((a+i:Nat):Int),.int (j:Int)])->(∀ c xs,H' c=some (.tup xs)->H6 c=some (.tup xs))->Pv i (j+1) (yh F (a+i) j v) H6->KK (.ref b) v H6) →
   tk (some (.int ((a+i:Nat):Int)) :: some (.int (j:Int)) :: e2) H' fun y H5=>tv (some (.int ((a+i:Nat):Int)) :: some (.int (j:Int)) :: e2) H5 fun v H6=>KK y v H6)
  (hi:∀ i F H',i < n->Pv i m F H' -> Pv (i+1) 0 F H')
  (hd:∀ F H',Pv n 0 F H' -> ∀ l,H' l=none->Q (.ref l) (JQ H' l (.dT (sH F (y8 a m n 0))))) :
  Vg (Itr lo n) σ H1 (vW 0) wi1 (vW 1) Wp tk tv Q:=by
 obtain ⟨e0,e1,rfl⟩:=hσ
 refine ⟨fun i x kvs Hb σ' H'=>x=n - i /\ i<=n /\ (∃ e0 e1,σ' = e0 :: e1 :: e2) /\ (∀ c xs,Hb c=some (.tup xs)->H' c=some (.tup xs)) /\ ∃ F,kvs=sH F (y8 a m i 0) /\ Pv i 0 F H',⟨n,by simp,Nat.zero_le _,⟨_,_,rfl⟩,fun _ _ h=>h,F0,rfl,h0⟩,?_⟩
 rintro i x kvs Hb σ' H' ⟨rfl,hin,⟨e0,e1,rfl⟩,hb,F,rfl,pv⟩
 by_cases hlt:i < n
 rotate_left
 ·have:i=n:=by omega
  subst this
  exact .inl ⟨by show i<=i; exact Nat.le_refl _,hb,hd F H' pv⟩
 refine .inr ⟨hlt,fun kvs Hc σ2 H2=>(∃ e0 e1,σ2=e0 :: e1 :: e2) /\ (∀ c xs,Hc c=some (.tup xs)->H2 c=some (.tup xs)) /\ ∃ F,kvs=sH F (y8 a m (i+1) 0) /\ Pv (i+1) 0 F H2,fun zs Hc σ2 H2 ⟨p1,p2,p3⟩=>⟨n - (i+1),by omega,rfl,by omega,p1,p2,p3⟩,fun x H2 hx=>?_⟩
 obtain ⟨rfl,rfl⟩:=hx
 have ev:lo+(i:Int)=((a+i:Nat):Int):=by omega
 show wi1 (some (.int (lo+(i:Int))) :: e1 :: e2) H2 _
 rw [ev]
 refine hr i e1 F H2 _ hlt pv ?_
 refine ⟨fun j x kvs Hb σ' H'=>x=m - j /\ j<=m /\ (∃ e1,σ' = some (.int ((a+i:Nat):Int)) :: e1 :: e2) /\ (∀ c xs,Hb c=some (.tup xs)->H' c=some (.tup xs)) /\ ∃ F,kvs=sH F (y8 a m i j) /\ Pv i j F H',⟨m,by simp,Nat.zero_le _,⟨_,rfl⟩,hb,F,rfl,pv⟩,?_⟩
 rintro j x kvs Hb σ' H' ⟨rfl,hjm,⟨e1,rfl⟩,hb,F,rfl,pv⟩
 by_cases hjl:j < m
 rotate_left
 ·have:j=m:=by omega
  subst this
  refine .inl ⟨by show j<=j; exact Nat.le_refl _,⟨_,_,rfl⟩,hb,F,by rw [rJ],hi i F H' hlt pv⟩
 refine .inr ⟨hjl,fun kvs Hc σ2 H2=>(∃ e1,σ2=some (.int ((a+i:Nat):Int)) :: e1 :: e2) /\ (∀ c xs,Hc c=some (.tup xs)->H2 c=some (.tup xs)) /\ ∃ F,kvs=sH F (y8 a m i (j+1)) /\ Pv i (j+1) F H2,fun zs Hc σ2 H2 ⟨p1,p2,p3⟩=>⟨m - (j+1),by omega,rfl,by omega,p1,p2,p3⟩,fun x H2 hx=>?_⟩
 obtain ⟨rfl,rfl⟩:=hx
 have ej:(0:Int)+(j:Int)=(j:Int):=Int.zero_add _
 rw [ej]
 refine hs i j F H2 (fun y v H6=>(sH F (y8 a m i j)).length < sizeLine /\ ∃ b ks,y=V.ref b /\ H6 b=some (HO.tup (List.map kV ks)) /\ (∀ c xs,Hb c=some (HO.tup xs)->H6 c=some (HO.tup xs)) /\ (∃ e1',some (V.int ((a+i:Nat):Int)) :: some (V.int (j:Int)) :: e2=some (V.int ((a+i:Nat):Int)) :: e1' :: e2) /\ (∀ c xs,H6 c=some (HO.tup xs)->H6 c=some (HO.tup xs)) /\ ∃ F',xz (sH F (y8 a m i j)) ks v=sH F' (y8 a m i (j+1)) /\ Pv i (j+1) F' H6) hlt hjl pv fun b v H6 h1 h2 p6=>?_
 refine ⟨?_,b,kI [((a+i:Nat):Int),(j:Int)],rfl,xp h1,fun c xs hc=>h2 c xs (hb c xs hc),⟨_,rfl⟩,fun c xs h=>h,yh F (a+i) j v,?_,p6⟩
 ·rw [UI]; exact zr (Nat.le_of_lt (vJ hm16 (by omega) (by omega)))
 ·rw [UH (fun z=>by rcases xt.mp z with ⟨_,h,_⟩ | ⟨_,h⟩; exact absurd h (by show ¬ (a+i < a+i); omega); exact absurd h (by show ¬ (j < j); omega)),YM]
def jZ (K:JN):Sp:=sp2 fun x y H Q=>∃ (room kept:Nat),x = .int room /\ y = .int kept /\ 1<=room /\ room<=6 /\ kept<=6 /\ Q .non H
def Vl (K:JN):Sp:=sp3 fun x y z H Q=>∃ (k s n:Nat),x = .int k /\ y = .int s /\ z = .int n /\ k<=4 /\ Q (.bl (decide (1<=s /\ s<=k /\ n < 2 ^ (k - 1)))) H
def YN (K:JN):Sp:=sp2 fun x y H Q=>∃ (k:Nat) (q:Nat × Nat),x = .int k /\ uO K H y q /\ k<=4 /\ wU k q /\ Q (.bl true) H
def j0 (K:JN):Sp:=sp2 fun x y H Q=>∃ (k:Nat) (gone:List (Nat × Nat)),x = .int k /\ yY K H y gone /\ k<=4 /\ (∀ q ∈ gone,wU k q) /\ ∀ H',Grow [] H H' -> Q .non H'
def j1 (K:JN):Sp:=sp2 fun x y H Q=>∃ (l:Addr) (xs:List V) (k:Ask),x = .ref l /\ J1 K H l xs /\ vq K H y k /\ qj xs.length k /\ Q (.bl true) H
def qJ (C:Addr) (K:JN):Sp:=sp5 fun x y z u w H Q=>∃ (p dx:Addr) (k room kept:Nat) (b:List Int),x = .ref p /\ y = .int k /\ xL K H z b /\ u = .int room /\ w = .int kept /\ k<=4 /\ 1<=b.length /\ b.length<=16 /\ 1<=room /\ room<=6 /\ kept<=6 /\ H p=some (.ins C dx []) ∧
 ∀ A H',Grow [p] H H' -> A .p=p->(∀ a,okA (sG k b room kept) a->a ≠ .p->H (A a)=none)->NetAt K C H' A (sG k b room kept)->Q .non H'
def Tb (K:JN) (H:Hp) (y:V) (gone:List (Nat × Nat)):Prop:=(y = .non /\ gone=[]) \/ yY K H y gone
def tV (C:Addr) (K:JN):Sp:=sp2 fun x y H Q=>∃ (A:Ad->Addr) (ns:NS) (a:Ask) (ms:List Addr),x = .ref (A .p) /\ vq K H y a /\ NetAt K C H A ns /\ NR ns /\ qj ns.boxes.length a /\ a.hand < (2 ^ ns.k:Nat) /\ ns.asks.length < 40 /\ (∀ a,okA ns a->A a ∈ ms) ∧
 ∀ H',Grow ms H H' -> NetAt K C H' A (putS ns a)->Q (.int ns.asks.length) H'
def xJ (C:Addr) (K:JN):Sp:=sp2 fun x y H Q=>∃ (A:Ad->Addr) (ns:NS) (gone:List (Nat × Nat)) (ms:List Addr),x = .ref (A .p) /\ Tb K H y gone /\ (∀ q ∈ gone,wU ns.k q) /\ NetAt K C H A ns /\ NR ns /\ ns.nd=ns.now /\ ns.now < 10000 /\ NT (zK gone ns) /\ (∀ a,okA ns a->A a ∈ ms) ∧
 ∀ A' z l H',Grow ms H H' -> SH H A A' ns->NetAt K C H' A' (beatS gone ns)->Si K H' z l->l.Perm (yV (zK gone ns))->l.Pairwise (fun a b=>a.1 < b.1)->Q z H'
def vK (C:Addr) (K:JN):Sp:=sp1 fun x H Q=>∃ (A:Ad->Addr) (ns:NS),x = .ref (A .p) /\ NetAt K C H A ns /\ Q (.int ns.now) H
def tW (C:Addr) (K:JN):Sp:=sp1 fun x H Q=>∃ (A:Ad->Addr) (ns:NS),x = .ref (A .p) /\ NetAt K C H A ns /\ ns.boxes.length<=16 /\ ∀ z H',Grow [] H H' -> xL K H' z ns.boxes->Q z H'
def qK (C:Addr) (K:JN):Sp:=sp1 fun x H Q=>∃ (A:Ad->Addr) (ns:NS),x = .ref (A .p) /\ NetAt K C H A ns /\ ns.log.length<=1000 /\ ∀ z H',Grow [] H H' -> xL K H' z (ns.log.map Int.ofNat)->Q z H'
def uS (C:Addr) (K:JN):Sp:=sp1 fun x H Q=>∃ (A:Ad->Addr) (ns:NS),x = .ref (A .p) /\ NetAt K C H A ns /\ Q (.int ((ns.asks.length:Int) - ns.ans.length)) H
def oN5:Option Int->V
 | none=>.non
 | some i=>.int i
def uu (C:Addr) (K:JN):Sp:=sp2 fun x y H Q=>∃ (A:Ad->Addr) (ns:NS) (n:Nat),x = .ref (A .p) /\ y = .int n /\ n < ns.asks.length /\ NetAt K C H A ns /\ Q (oN5 (wo ns.ans n)) H
def Qa (K:JN) (H:Hp) (x:V) (w:Wt):Prop:=∃ r rd rn,x = .ref r /\ J3 K H r [.int w.box,.ref rd,.ref rn] /\ J3 K H rd w.deed.vs /\ J3 K H rn (yG w.nums)
def wZ (C:Addr) (K:JN):Sp:=sp3 fun x y z H Q=>∃ (A:Ad->Addr) (ns:NS) (l j:Nat),x = .ref (A .p) /\ y = .int l /\ z = .int j /\ l<=ns.k /\ j < 2 ^ ns.k /\ ns.k<=4 /\ (ns.lines l j).length<=1000 /\ NetAt K C H A ns /\ ∀ u H',Grow [] H H' -> (∃ r ys,u = .ref r /\ J3 K H' r ys /\ zT (Qa K H') ys (ns.lines l j))->Q u H'
def wz (C:Addr) (K:JN):Sp:=sp3 fun x y z H Q=>∃ (A:Ad->Addr) (ns:NS) (s n:Nat),x = .ref (A .p) /\ y = .int s /\ z = .int n /\ 1<=s /\ s<=ns.k /\ n < 2 ^ (ns.k - 1) /\ ns.k<=4 /\ NetAt K C H A ns /\ ∀ H',Grow [] H H' -> Q (.int (ns.keep s n)) H'
structure Part (K:JN) (C p:Addr) (H0 H:Hp) (A:Ad->Addr) (ns:NS) (D:Ad->Prop):Prop where
 at_:∀ a,D a -> ∃ o,H (A a)=some o /\ WZ K C H A ns a o
 inj:∀ a b,D a->D b->A a=A b->a=b
 fr:∀ a,D a->H0 (A a)=none
 hp0:∃ o,H0 p=some o
 hp:∃ o,H p=some o
 g:Grow [p] H0 H
section
variable {K:JN} {C p l:Addr} {H0 H H':Hp} {A:Ad->Addr} {ns:NS} {D:Ad->Prop} {c:Ad} {o:HO}
def Vm (A:Ad->Addr) (c:Ad) (l:Addr):Ad->Addr:=fun a=>if a=c then l else A a
theorem yR:Vm A c l c=l:=if_pos rfl
theorem yS {a:Ad} (h:a ≠ c):Vm A c l a=A a:=if_neg h
theorem Part.nil {ns:NS} (h:H0 p=some o):Part K C p H0 H0 A ns fun _=>False:=⟨fun _ h=>h.elim,fun _ _ h=>h.elim,fun _ h=>h.elim,⟨_,h⟩,⟨_,h⟩,Grow.refl _ _⟩
theorem Part.np (h:Part K C p H0 H A ns D) {a:Ad} (ha:D a):A a ≠ p:=fun e=>by
 have h1:=h.fr a ha
 obtain ⟨o,h2⟩:=h.hp0
 rw [e,h2] at h1; cases h1
theorem Part.grow (h:Part K C p H0 H A ns D) (g:Grow [p] H H') (hp:∃ o,H' p=some o):Part K C p H0 H' A ns D :=
 ⟨fun a ha=>by
  obtain ⟨o,h1,h2⟩:=h.at_ a ha
  exact ⟨o,g.keep _ _ (by simpa using h.np ha) h1,h2.grow g⟩,h.inj,h.fr,h.hp0,hp,h.g.trans g⟩
theorem Part.grow0 (h:Part K C p H0 H A ns D) (g:Grow [] H H'):Part K C p H0 H' A ns D :=
 h.grow g.wk (by obtain ⟨o,e⟩:=h.hp; exact ⟨o,g.keep _ _ (by simp) e⟩)
theorem Part.setP {dx:Addr} {fs fs':List (Str × V)} (h:Part K C p H0 H A ns D) (e:H p=some (.ins C dx fs)):Part K C p H0 (JQ H p (.ins C dx fs')) A ns D :=
 h.grow (Grow.setI e (by simp) _) ⟨_,zc⟩
theorem Part.add (h:Part K C p H0 H A ns D) (hl:H l=none) (hc:¬ D c) (ho:WZ K C (JQ H l o) (Vm A c l) ns c o) (hi:∀ a,D a -> ∀ o H,WZ K C H A ns a o->WZ K C H (Vm A c l) ns a o) :
  Part K C p H0 (JQ H l o) (Vm A c l) ns fun a=>D a \/ a=c:=by
 have g:=Grow.new (m:=[]) hl o
 have nl:∀ a,D a->A a ≠ l:=fun a ha e=>by
  obtain ⟨o,h1,_⟩:=h.at_ a ha
  rw [e,hl] at h1; cases h1
 have lp:l ≠ p:=fun e=>by
  obtain ⟨o,h1⟩:=h.hp
  rw [← e,hl] at h1; cases h1
 have ne:∀ a,D a->a ≠ c:=fun a ha e=>hc (e ▸ ha)
 refine ⟨fun a ha=>?_,fun a b ha hb e=>?_,fun a ha=>?_,h.hp0,?_,h.g.trans g.wk⟩
 ·rcases ha with ha | rfl
  ·rw [yS (ne a ha)]
   obtain ⟨o',h1,h2⟩:=h.at_ a ha
   exact ⟨o',g.keep _ _ (by simp) h1,hi a ha _ _ (h2.grow g)⟩
  ·rw [yR]; exact ⟨o,zc,ho⟩
 ·rcases ha with ha | rfl <;> rcases hb with hb | rfl
  ·rw [yS (ne a ha),yS (ne b hb)] at e; exact h.inj a b ha hb e
  ·rw [yS (ne a ha),yR] at e; exact absurd e (nl a ha)
  ·rw [yS (ne b hb),yR] at e; exact absurd e.symm (nl b hb)
  ·rfl
 ·rcases ha with ha | rfl
  ·rw [yS (ne a ha)]; exact h.fr a ha
  ·rw [yR]; exact h.g.free (by simpa using lp) hl
 ·obtain ⟨o,e⟩:=h.hp; exact ⟨o,g.keep _ _ (by simp) e⟩
theorem Part.sub {D':Ad->Prop} (h:Part K C p H0 H A ns D) (hd:∀ a,D' a->D a):Part K C p H0 H A ns D':=⟨fun a ha=>h.at_ a (hd a ha),fun a b ha hb=>h.inj a b (hd a ha) (hd b hb),fun a ha=>h.fr a (hd a ha),h.hp0,h.hp,h.g⟩
theorem Part.net {dx:Addr} (h:Part K C p H0 H A ns D) (hd:∀ a,okA ns a->a ≠ .p->D a) (hpd:¬ D .p) (e:H p=some (.ins C dx (zC A ns))):NetAt K C H (Vm A .p p) ns:=by
 refine ⟨fun a ha=>?_,fun a b ha hb e=>?_⟩
 ·by_cases c:a = .p
  ·subst c; rw [yR]; exact ⟨_,e,dx,rfl⟩
  ·rw [yS c]
   obtain ⟨o,h1,h2⟩:=h.at_ a (hd a ha c)
   refine ⟨o,h1,?_⟩
   cases a <;> first | exact absurd rfl c | exact h2
 ·by_cases c1:a = .p <;> by_cases c2:b = .p
  ·rw [c1,c2]
  ·subst c1; rw [yR,yS c2] at e; exact absurd e.symm (h.np (hd b hb c2))
  ·subst c2; rw [yR,yS c1] at e; exact absurd e (h.np (hd a ha c1))
  ·rw [yS c1,yS c2] at e; exact h.inj a b (hd a ha c1) (hd b hb c2) e
end
def DL (m i j:Nat) (D:Ad->Prop):Ad->Prop
 | .ln l y=>(l,y) ∈ y8 0 m i j
 | a=>D a
structure LnP (K:JN) (C p dx:Addr) (fs:List (Str × V)) (H0:Hp) (ns:NS) (D:Ad->Prop) (A0:Ad->Addr) (m i j:Nat) (F:Nat->Nat->V) (H':Hp):Prop where
 ex:∃ A,Part K C p H0 H' A ns (DL m i j D) /\ (∀ q ∈ y8 0 m i j,F q.1 q.2 = .ref (A (.ln q.1 q.2))) /\ (∀ a,D a->(∀ l y,a ≠ .ln l y)->A a=A0 a)
 e:H' p=some (.ins C dx fs)
section
variable {K:JN} {C p dx l:Addr} {fs:List (Str × V)} {H0 H H':Hp} {A0:Ad->Addr} {ns:NS} {D:Ad->Prop} {m i j:Nat} {F:Nat->Nat->V}
theorem LnP.grow (h:LnP K C p dx fs H0 ns D A0 m i j F H) (g:Grow [] H H'):LnP K C p dx fs H0 ns D A0 m i j F H':=by
 obtain ⟨A,h1,h2⟩:=h.ex
 exact ⟨⟨A,h1.grow0 g,h2⟩,g.keep _ _ (by simp) h.e⟩
theorem LnP.row (h:LnP K C p dx fs H0 ns D A0 m i m F H):LnP K C p dx fs H0 ns D A0 m (i+1) 0 F H:=by
 obtain ⟨A,h1,h2,h3⟩:=h.ex
 exact ⟨⟨A,h1.sub fun a ha=>by
  cases a <;> first | exact ha | (show _ ∈ _; rw [rJ]; exact ha),by rw [← rJ]; exact h2,h3⟩,h.e⟩
theorem LnP.step (hD:∀ l y,¬ D (.ln l y)) (hdp:¬ D .p /\ ¬ D .dl) (hns:∀ l j,ns.lines l j=[]) (h:LnP K C p dx fs H0 ns D A0 m i j F H) (hl:H l=none):LnP K C p dx fs H0 ns D A0 m i (j+1) (yh F (0+i) j (.ref l)) (JQ H l (.lst [])):=by
 obtain ⟨A,h1,h2,h3⟩:=h.ex
 have nm:(0+i,j) ∉ y8 0 m i j:=fun z=>by
  rcases xt.mp z with ⟨_,h,_⟩ | ⟨_,h⟩
  ·exact absurd h (by show ¬ (0+i < 0+i); omega)
  ·exact absurd h (by show ¬ (j < j); omega)
 have z:=h1.add (c:=.ln (0+i) j) (o:=.lst []) hl nm ⟨[],rfl,by rw [hns]; trivial⟩ fun a ha o H h=>by
  cases a <;> first | exact h | exact absurd ha hdp.1 | exact absurd ha hdp.2
 ·refine ⟨⟨Vm A (.ln (0+i) j) l,z.sub fun a ha=>?_,fun q hq=>?_,fun a ha hn=>?_⟩,?_⟩
  ·cases a with
   | ln x y =>
    have ha:(x,y) ∈ y8 0 m i (j+1):=ha
    rw [YM,List.mem_append] at ha
    rcases ha with ha | ha
    ·exact .inl ha
    ·have:=List.mem_singleton.mp ha
     right
     rw [show x=0+i from congrArg Prod.fst this,show y=j from congrArg Prod.snd this]
   | _=>exact .inl ha
  ·rw [YM,List.mem_append] at hq
   rcases hq with hq | hq
   ·have ne:¬ (q.1=0+i /\ q.2=j):=fun e=>nm (by rw [show ((0+i,j):Nat × Nat)=q from Prod.ext e.1.symm e.2.symm]; exact hq)
    rw [zB ne,yS (fun e=>ne (by injection e with a b; exact ⟨a,b⟩))]
    exact h2 q hq
   ·rw [List.mem_singleton.mp hq]
    show yh F (0+i) j (.ref l) (0+i) j=_
    rw [zw,yR]
  ·rw [yS (hn _ _)]; exact h3 a ha hn
  ·exact (Grow.new (m:=[]) hl _).keep _ _ (by simp) h.e
end
theorem rK {F G:Nat->Nat->V} {P:List (Nat × Nat)} (h:∀ q ∈ P,F q.1 q.2=G q.1 q.2):sH F P=sH G P:=List.map_congr_left fun q hq=>by rw [h q hq]
theorem Zw {k:Nat}:(1:Int) * 2 ^ ((k:Int)).toNat=((2 ^ k:Nat):Int):=qk
theorem NR.tick {ns:NS} (nr:NR ns) (h:ns.now < 10000):NR (zy ns):=⟨nr.k4,nr.b16,nr.a40,nr.lw,nr.dw,nr.tot,h,Nat.le_succ_of_le nr.nd,nr.fl⟩
theorem NR.forget {ns:NS} (nr:NR ns):NR (zn ns):=⟨nr.k4,nr.b16,nr.a40,nr.lw,nr.dw,nr.tot,nr.nw,nr.nd,nr.fl⟩
structure TakeD (gone:List (Nat × Nat)) (ns n':NS):Prop where
 k:n'.k=ns.k
 room:n'.room=ns.room
 kept:n'.kept=ns.kept
 bl:n'.boxes.length=ns.boxes.length
 asks:n'.asks=ns.asks
 now:n'.now=ns.now
 lines:n'.lines=(zO gone ns (2 ^ ns.k)).2
 keep:n'.keep=ns.keep
 nd:n'.nd=ns.nd+1
 done:n'.done=rA ns.done ns.now (zO gone ns (2 ^ ns.k)).1
 log:n'.log=ns.log ++ xj (zO gone ns (2 ^ ns.k)).1
 fl:n'.fnd.length<=ns.fnd.length+(xj (zO gone ns (2 ^ ns.k)).1).length
 ans:n'.ans=ns.ans
theorem XI (gone:List (Nat × Nat)) (ns:NS):TakeD gone ns (yf gone ns) :=
 have D:=doF (l:=(zO gone ns (2 ^ ns.k)).1) (ns:=Xy gone ns)
 ⟨D.k,D.room,D.kept,D.bl,D.asks,D.now,D.lines,D.keep,D.nd,D.done,D.log,D.fl,D.ans⟩
theorem NR.take {ns:NS} (nr:NR ns) {gone:List (Nat × Nat)} (hnd:ns.nd+1=ns.now):NR (yf gone ns):=by
 have D:=XI gone ns
 have F:=Vb (gone:=gone) (ns:=ns) (Nat.le_refl _)
 generalize yf gone ns=n' at D ⊢
 refine ⟨by rw [D.k]; exact nr.k4,by rw [D.bl]; exact nr.b16,by rw [D.asks]; exact nr.a40,?_,?_,?_,by rw [D.now]; exact nr.nw,by rw [D.nd,D.now]; omega,?_⟩
 ·intro l j hl hj w hw
  rw [D.k] at hl hj
  rw [D.lines] at hw
  rw [D.k,D.bl,D.asks]
  exact nr.lw l j hl hj w (F.ln l j w hw)
 ·intro t t1 t2 w hw
  rw [D.nd] at t2
  rw [D.done] at hw
  rw [D.k,D.bl,D.asks]
  unfold rA at hw
  by_cases c:t=ns.now
  ·rw [if_pos c] at hw
   obtain ⟨j,hj,hw⟩:=F.tk w hw
   exact nr.lw ns.k j (Nat.le_refl _) hj w hw
  ·rw [if_neg c] at hw
   exact nr.dw t t1 (by omega) w hw
 ·rw [D.k,D.lines,D.log,D.asks,List.length_append,vH]
  have h1:=F.ws xG
  have h2:=nr.tot
  omega
 ·have h1:=D.fl
  have h2:=nr.fl
  rw [D.log,List.length_append]
  omega
theorem rL {gone:List (Nat × Nat)} {ns:NS} {i:Nat}:passA gone ns (i+1)=passS gone (passA gone ns i) ((passA gone ns i).k - i) (2 ^ ((passA gone ns i).k - 1)):=by unfold passA; rw [zQ]
theorem YO {a b:NS} (h:Same5 a b) {c:Ad} (hc:okA a c):okA b c:=by
 cases c <;> first | exact trivial | exact ⟨by rw [← h.k]; exact hc.1,by rw [← h.k]; exact hc.2⟩ | exact ⟨hc.1,by rw [← h.nd]; exact hc.2⟩
theorem ZV {ns:NS} {a:Ask} {g:Wt->Nat} (hh:a.hand.toNat < 2 ^ ns.k):wsN ns.k (putS ns a).lines g=wsN ns.k ns.lines g+g ⟨a.box.toNat,a.deed,[ns.asks.length],[]⟩:=by
 have h:=xB (k:=ns.k) (l:=0) (j:=a.hand.toNat) (f:=ns.lines) (g:=g) (v:=ns.lines 0 a.hand.toNat ++ [⟨a.box.toNat,a.deed,[ns.asks.length],[]⟩]) (Nat.zero_le _) hh
 rw [wG] at h
 have e:zR g [⟨a.box.toNat,a.deed,[ns.asks.length],[]⟩]=g ⟨a.box.toNat,a.deed,[ns.asks.length],[]⟩:=by rw [zL,wF]; rfl
 rw [e] at h
 show wsN ns.k (yh ns.lines 0 a.hand.toNat _) g=_
 omega
theorem WtOk.more {k b a:Nat} {w:Wt} (h:WtOk k b a w):WtOk k b (a+1) w:=⟨h.bx,h.ne,fun n hn=>Nat.lt_succ_of_lt (h.nm n hn),h.mt,h.ln⟩
theorem NR.put {ns:NS} (nr:NR ns) {a:Ask} (hh:a.hand.toNat < 2 ^ ns.k) (hb:a.box.toNat < ns.boxes.length) (h40:ns.asks.length < 40):NR (putS ns a):=by
 have el:(putS ns a).asks.length=ns.asks.length+1:=by show (ns.asks ++ [a]).length=_; rw [List.length_append]; rfl
 refine ⟨nr.k4,nr.b16,by rw [el]; exact h40,?_,?_,?_,nr.nw,nr.nd,nr.fl⟩
 ·intro l j hl hj w hw
  rw [el]
  have hw:w ∈ yh ns.lines 0 a.hand.toNat (ns.lines 0 a.hand.toNat ++ [⟨a.box.toNat,a.deed,[ns.asks.length],[]⟩]) l j:=hw
  by_cases c:l=0 /\ j=a.hand.toNat
  ·rw [c.1,c.2,zw,List.mem_append] at hw
   rcases hw with hw | hw
   ·exact (nr.lw 0 _ (Nat.zero_le _) hh w hw).more
   ·rw [List.mem_singleton.mp hw]
    exact ⟨hb,by simp,fun n hn=>by rw [List.mem_singleton.mp hn]; exact Nat.lt_succ_self _,fun q hq=>by simp at hq,rfl⟩
  ·rw [zB c] at hw
   exact (nr.lw l j hl hj w hw).more
 ·intro t t1 t2 w hw
  rw [el]
  exact (nr.dw t t1 t2 w hw).more
 ·rw [el]
  have h:=ZV (ns:=ns) (a:=a) (g:=xG) hh
  have h2:=nr.tot
  have e:xG ⟨a.box.toNat,a.deed,[ns.asks.length],[]⟩=1:=rfl
  show wsN ns.k (putS ns a).lines xG+ns.log.length=_
  omega
section
variable {P:NS->Prop} {gone:List (Nat × Nat)} (k4:∀ n,P n->n.k<=4) (hP:∀ n s l,P n->1<=s->s<=n.k->l < 2 ^ n.k->P (wM n s l))
include k4 hP
theorem Vn {n:NS} {s i:Nat} (h:P n) (s1:1<=s) (sk:s<=n.k) (hi:i < 2 ^ (n.k - 1)):P (xI gone s n i):=by
 unfold xI
 split
 ·exact h
 ·have m2:n.now % 2 < 2:=Nat.mod_lt _ (by decide)
  have l1:=uq (k4 n h) s1 sk hi m2
  have l2:=uq (k4 n h) s1 sk hi (show 1 - n.now % 2 < 2 by omega)
  have e:=(wx n s (YD n.k s i (n.now % 2))).k
  exact hP _ _ _ (hP _ _ _ h s1 sk l1) s1 (by rw [e]; exact sk) (by rw [e]; exact l2)
theorem j2 {n:NS} {s:Nat} (h:P n) (s1:1<=s) (sk:s<=n.k):∀ {i},i<=2 ^ (n.k - 1)->P (passS gone n s i)
 | 0,_=>h
 | i+1,hi=>by
  have ih:=j2 h s1 sk (i:=i) (by omega)
  have e:=(xS gone n s i).k
  have es:passS gone n s (i+1)=xI gone s (passS gone n s i) i:=by unfold passS; rw [zQ]
  rw [es]
  exact Vn k4 hP ih s1 (by rw [e]; exact sk) (by rw [e]; omega)
theorem vL {n:NS} (h:P n):∀ {i},i<=n.k->P (passA gone n i)
 | 0,_=>h
 | i+1,hi=>by
  have ih:=vL h (i:=i) (by omega)
  have e:=(xv gone n i).k
  rw [rL]
  exact j2 k4 hP ih (by rw [e]; omega) (by omega) (Nat.le_refl _)
end
def gq (q:Nat × Nat) (w:Wt):Nat:=w.met.count q
theorem Su {q sw:Nat × Nat} {w c:Wt}:gq q (x8 sw w c)=gq q w+gq q c+if sw=q then 1 else 0:=by
 show (w.met ++ c.met ++ [sw]).count q=_
 rw [List.count_append,List.count_append,List.count_singleton]
 by_cases h:sw=q
 ·rw [if_pos h,if_pos (by rw [h]; exact beq_self_eq_true _)]; rfl
 ·rw [if_neg h,if_neg (fun z=>h (beq_iff_eq.mp z))]; rfl
theorem Sv {n:Nat}:RM (fun w=>w.nums.count n):=fun _ w c=>List.count_append ..
theorem HandC.kp {ns n':NS} {s l:Nat} (h:HandC ns s l n') {q:Nat × Nat} (k4:ns.k<=4) (s1:1<=s) (sk:s<=ns.k) (hl:l < 2 ^ ns.k) :
  (wsN ns.k n'.lines (gq q):Int) - n'.keep q.1 q.2=wsN ns.k ns.lines (gq q) - ns.keep q.1 q.2:=by
 cases h with
 | stay=>rfl
 | add c r hc hr =>
  have o:=wy (b:=c.box) k4 s1 sk hl
  have h1:=xB (f:=ns.lines) (v:=r) (g:=gq q) (show s - 1<=ns.k by omega) hl
  have h2:=xB (f:=yh ns.lines (s - 1) l r) (v:=ns.lines s (zW ns.k s l c.box) ++ [c]) (g:=gq q) sk o
  rw [zB (fun z=>by have:=z.1; omega)] at h2
  rw [hc,zL] at h1
  rw [wG,zL,wF] at h2
  show (wsN ns.k (yh (yh ns.lines (s - 1) l r) s (zW ns.k s l c.box) (ns.lines s (zW ns.k s l c.box) ++ [c])) (gq q):Int) - ns.keep q.1 q.2=_
  omega
 | join c r i hc hi hb hk =>
  have o:=wy (b:=c.box) k4 s1 sk hl
  have h1:=xB (f:=ns.lines) (v:=r) (g:=gq q) (show s - 1<=ns.k by omega) hl
  have h2:=xB (f:=yh ns.lines (s - 1) l r) (v:=(ns.lines s (zW ns.k s l c.box)).set i (x8 (s,nN ns.k s l) ((ns.lines s (zW ns.k s l c.box)).getD i default) c)) (g:=gq q) sk o
  rw [zB (fun z=>by have:=z.1; omega)] at h2
  have h3:=qz (g:=gq q) (v:=x8 (s,nN ns.k s l) ((ns.lines s (zW ns.k s l c.box)).getD i default) c) hi
  rw [Su] at h3
  rw [hc,zL] at h1
  show (wsN ns.k (yh (yh ns.lines (s - 1) l r) s (zW ns.k s l c.box) ((ns.lines s (zW ns.k s l c.box)).set i (x8 (s,nN ns.k s l) ((ns.lines s (zW ns.k s l c.box)).getD i default) c))) (gq q):Int) - yh ns.keep s (nN ns.k s l) (ns.keep s (nN ns.k s l)+1) q.1 q.2=_
  by_cases e:(s,nN ns.k s l)=q
  ·rw [if_pos e] at h3
   subst e
   have z:yh ns.keep s (nN ns.k s l) (ns.keep s (nN ns.k s l)+1) (s,nN ns.k s l).1 (s,nN ns.k s l).2=ns.keep s (nN ns.k s l)+1:=zw
   rw [z]
   show _=_ - ns.keep s (nN ns.k s l)
   omega
  ·rw [if_neg e] at h3
   rw [zB fun z=>e (Prod.ext z.1.symm z.2.symm)]
   omega
structure PassI (n0 n:NS):Prop where
 same:Same5 n n0
 k4:n0.k<=4
 cnt:∀ g,RM g->wsN n0.k n.lines g=wsN n0.k n0.lines g
 kp:∀ q:Nat × Nat,(wsN n0.k n.lines (gq q):Int) - n.keep q.1 q.2=wsN n0.k n0.lines (gq q) - n0.keep q.1 q.2
theorem QU {n0:NS} {gone:List (Nat × Nat)} (k4:n0.k<=4) {i:Nat} (hi:i<=n0.k):PassI n0 (passA gone n0 i):=by
 refine vL (P:=fun n=>PassI n0 n) (fun n h=>by rw [h.same.k]; exact k4) (fun n s l h s1 sk hl=>?_) ⟨Same5.refl _,k4,fun _ _=>rfl,fun _=>rfl⟩ hi
 have C:=Va n s l
 have k4':n.k<=4:=by rw [h.same.k]; exact k4
 refine ⟨C.same.trans h.same,k4,fun g hg=>?_,fun q=>?_⟩
 ·rw [← h.cnt g hg,← h.same.k]; exact C.ws hg k4' s1 sk hl
 ·rw [← h.kp q,← h.same.k]; exact C.kp k4' s1 sk hl
def qL (d:Nat->List Wt) (m:Nat):List Nat:=(List.range m).flatMap fun t=>xj (d (t+1))
theorem xT {d:Nat->List Wt} {m:Nat}:qL d (m+1)=qL d m ++ xj (d (m+1)):=by
 unfold qL
 rw [List.range_succ,List.flatMap_append]; simp
theorem uw {d d':Nat->List Wt}:∀ {m:Nat},(∀ t,1<=t->t<=m->d t=d' t)->qL d m=qL d' m
 | 0,_=>rfl
 | m+1,h=>by rw [xT,xT,uw fun t h1 h2=>h t h1 (by omega),h (m+1) (by omega) (Nat.le_refl _)]
theorem vM {d:Nat->List Wt} {m:Nat}:∀ {n:Nat},m<=n -> ∃ r,qL d n=qL d m ++ r
 | 0,h=>⟨[],by rw [List.append_nil,Nat.le_zero.mp h]⟩
 | n+1,h=>by
  by_cases c:m=n+1
  ·exact ⟨[],by rw [List.append_nil,c]⟩
  ·obtain ⟨r,e⟩:=vM (d:=d) (m:=m) (n:=n) (by omega)
   exact ⟨r ++ xj (d (n+1)),by rw [xT,e,List.append_assoc]⟩
theorem ZW {l:List Nat} (h:∀ n,l.count n<=1):l.Nodup:=by
 induction l with
 | nil=>exact List.nodup_nil
 | cons a l ih =>
  refine List.nodup_cons.mpr ⟨fun z=>?_,ih fun n=>Nat.le_trans (List.count_le_count_cons ..) (h n)⟩
  have h1:=h a
  rw [List.count_cons_self] at h1
  have:=List.count_pos_iff.mpr z
  omega
def XJ (now w:Nat) (F:Nat->Nat):Nat:=ug w fun i=>if i < now then F (now - i) else 0
theorem rM {F:Nat->Nat}:∀ {w:Nat},ug (w+1) F=F 0+ug w fun i=>F (i+1)
 | 0=>by rw [yb]; show 0+F 0=F 0+0; omega
 | w+1=>by rw [yb,rM,yb]; omega
structure NW (ns:NS):Prop where
 nr:NR ns
 nd:ns.nd=ns.now
 r1:1<=ns.room
 cnt:∀ n,wsN ns.k ns.lines (fun w=>w.nums.count n)+ns.log.count n=if n < ns.asks.length then 1 else 0
 lg:ns.log=qL ns.done ns.now
 fk:∀ n ∈ ns.log,(wo ns.fnd n).isSome=true
 an:ns.ans.map (·.1)=qL ns.done (ns.now - ns.k)
 kp:∀ s n,1<=s->s<=ns.k->n < 2 ^ (ns.k - 1)->ns.keep s n=((wsN ns.k ns.lines (gq (s,n))+XJ ns.now (ns.k - s+1) fun t=>zR (gq (s,n)) (ns.done t):Nat):Int)
theorem Sw {k:Nat} {f:Nat->Nat->List Wt} {g:Wt->Nat} (h:∀ l j,l<=k->j < 2 ^ k->f l j=[]):wsN k f g=0 :=
 vA fun l hl=>vA fun j hj=>by rw [h l j (by omega) hj]; rfl
theorem NW.new {k room kept:Nat} {b:List Int} (k4:k<=4) (b16:b.length<=16) (r1:1<=room):NW (sG k b room kept):=by
 have z:∀ g,wsN k (sG k b room kept).lines g=0:=fun g=>Sw fun _ _ _ _=>rfl
 refine ⟨⟨k4,b16,Nat.zero_le _,fun l j _ _ w hw=>(by cases hw),fun t h1 h2=>?_,?_,Nat.zero_le _,Nat.le_refl _,Nat.le_refl _⟩,rfl,r1,fun n=>?_,rfl,fun n hn=>(by cases hn),?_,fun s n _ _ _=>?_⟩
 ·have:t<=0:=h2
  omega
 ·show wsN k _ xG+0=0
  rw [z]
 ·show wsN k _ _+0=if n < 0 then 1 else 0
  rw [z,if_neg (Nat.not_lt_zero _)]
 ·show []=qL _ (0 - k)
  rw [Nat.zero_sub]; rfl
 ·show (0:Int)=_
  have:XJ 0 (k - s+1) (fun t=>zR (gq (s,n)) [])=0:=vA fun i _=>if_neg (Nat.not_lt_zero _)
  show (0:Int)=((wsN k _ _+XJ 0 (k - s+1) (fun t=>zR (gq (s,n)) []):Nat):Int)
  rw [z,this]; rfl
theorem NW.put {ns:NS} (h:NW ns) {a:Ask} (hh:a.hand.toNat < 2 ^ ns.k) (hb:a.box.toNat < ns.boxes.length) (h40:ns.asks.length < 40):NW (putS ns a):=by
 have el:(putS ns a).asks.length=ns.asks.length+1:=by show (ns.asks ++ [a]).length=_; rw [List.length_append]; rfl
 refine ⟨h.nr.put hh hb h40,h.nd,h.r1,fun n=>?_,h.lg,h.fk,h.an,fun s n s1 sk hn=>?_⟩
 ·rw [el]
  have h1:=ZV (ns:=ns) (a:=a) (g:=fun w=>w.nums.count n) hh
  have h2:=h.cnt n
  show wsN ns.k (putS ns a).lines _+ns.log.count n=_
  have e:([ns.asks.length]:List Nat).count n=if n=ns.asks.length then 1 else 0:=by
   rw [List.count_singleton]
   by_cases c:n=ns.asks.length
   ·rw [if_pos c,if_pos (by rw [c]; exact beq_self_eq_true _)]
   ·rw [if_neg c,if_neg (fun z=>c (beq_iff_eq.mp z).symm)]
  have h1:wsN ns.k (putS ns a).lines (fun w=>w.nums.count n)=wsN ns.k ns.lines (fun w=>w.nums.count n)+([ns.asks.length]:List Nat).count n:=h1
  rw [e] at h1
  split at h1 <;> split at h2 <;> split <;> omega
 ·have h1:=ZV (ns:=ns) (a:=a) (g:=gq (s,n)) hh
  have e:gq (s,n) ⟨a.box.toNat,a.deed,[ns.asks.length],[]⟩=0:=rfl
  rw [e] at h1
  show ns.keep s n=((wsN ns.k (putS ns a).lines _+_:Nat):Int)
  rw [h1]
  exact h.kp s n s1 sk hn
theorem RQ {s a b:Nat} {kp:Nat->Nat->Int} {sw:Nat × Nat}:fgM s kp sw a b=kp a b - if a=s /\ sw=(a,b) then 1 else 0:=by
 unfold fgM
 by_cases c:sw.1=s
 ·rw [if_pos c]
  by_cases d:a=sw.1 /\ b=sw.2
  ·rw [if_pos ⟨by rw [d.1,c],Prod.ext d.1.symm d.2.symm⟩,d.1,d.2,zw]
  ·rw [zB d,if_neg fun z=>d ⟨by rw [z.2],by rw [z.2]⟩]; simp
 ·rw [if_neg c,if_neg fun z=>c (by rw [z.2]; exact z.1)]; simp
theorem Tc {s a b:Nat}:∀ {ms:List (Nat × Nat)} {kp:Nat->Nat->Int},ms.foldl (fgM s) kp a b=kp a b - if a=s then (ms.count (a,b):Int) else 0
 | [],kp=>by show kp a b=_; split <;> simp
 | m :: ms,kp=>by
  show ms.foldl (fgM s) (fgM s kp m) a b=_
  rw [Tc,RQ,List.count_cons]
  by_cases c:a=s
  ·rw [if_pos c,if_pos c]
   by_cases d:m=(a,b)
   ·rw [if_pos ⟨c,d⟩,if_pos (by rw [d]; exact beq_self_eq_true _)]; push_cast; omega
   ·rw [if_neg fun z=>d z.2,if_neg (fun z=>d (beq_iff_eq.mp z))]; push_cast; omega
  ·rw [if_neg c,if_neg c,if_neg fun z=>c z.1]; omega
theorem Td {s a b:Nat}:∀ {ws:List Wt} {kp:Nat->Nat->Int},ws.foldl (fgW s) kp a b=kp a b - if a=s then (zR (gq (a,b)) ws:Int) else 0
 | [],kp=>by show kp a b=_; split <;> simp [wF]
 | w :: ws,kp=>by
  show ws.foldl (fgW s) (fgW s kp w) a b=_
  rw [Td,zL]
  have:fgW s kp w a b=kp a b - if a=s then (gq (a,b) w:Int) else 0:=Tc
  rw [this]
  by_cases c:a=s
  ·rw [if_pos c,if_pos c,if_pos c]; push_cast; omega
  ·rw [if_neg c,if_neg c,if_neg c]; omega
theorem Vo {ns:NS} {a b:Nat} {kp:Nat->Nat->Int}:∀ {i:Nat},(List.range i).foldl (fun kp i=>fgS ns kp (i+1)) kp a b=kp a b - if 1<=a /\ a<=i then (zR (gq (a,b)) (sB ns (ns.k - a+1)):Int) else 0
 | 0=>by rw [if_neg (by omega)]; show kp a b=_; omega
 | i+1=>by
  rw [zQ]
  have:∀ kp,fgS ns kp (i+1) a b=kp a b - if a=i+1 then (zR (gq (a,b)) (sB ns (ns.k - (i+1)+1)):Int) else 0:=fun kp=>Td
  rw [this,Vo (i:=i)]
  by_cases c:a=i+1
  ·rw [if_neg (show ¬ (1<=a /\ a<=i) by omega),if_pos c,if_pos (show 1<=a /\ a<=i+1 by omega),← c]; omega
  ·rw [if_neg c]
   by_cases d:1<=a /\ a<=i
   ·rw [if_pos d,if_pos (show 1<=a /\ a<=i+1 by omega)]; omega
   ·rw [if_neg d,if_neg (show ¬ (1<=a /\ a<=i+1) by omega)]; omega
theorem Vp {b:Nat}:∀ {l:List Nat} {ns:NS} {n:Nat},(n ∈ l \/ (wo ns.fnd n).isSome=true)->(wo (l.foldl (doN b) ns).fnd n).isSome=true
 | [],ns,n,h=>by
  rcases h with h | h
  ·cases h
  ·exact h
 | a :: l,ns,n,h=>by
  refine Vp (l:=l) (ns:=doN b ns a) ?_
  have e:(wo (doN b ns a).fnd n)=if n=a then some (ns.boxes.getD b 0) else wo ns.fnd n:=Uy
  rw [e]
  by_cases c:n=a
  ·rw [if_pos c]; exact .inr rfl
  ·rw [if_neg c]
   rcases h with h | h
   ·exact .inl ((List.mem_cons.mp h).resolve_left c)
   ·exact .inr h
theorem Te:∀ {l:List Wt} {ns:NS} {n:Nat},(n ∈ xj l \/ (wo ns.fnd n).isSome=true)->(wo (l.foldl doW ns).fnd n).isSome=true
 | [],ns,n,h=>by
  rcases h with h | h
  ·cases h
  ·exact h
 | w :: l,ns,n,h=>by
  refine Te (l:=l) (ns:=doW ns w) ?_
  rcases h with h | h
  ·have h:n ∈ w.nums ++ xj l:=h
   rcases List.mem_append.mp h with h | h
   ·exact .inr (Vp (.inl h))
   ·exact .inl h
  ·exact .inr (Vp (.inr h))
theorem tX:∀ {l f:List (Nat × Int)},(l.map (·.1)).Nodup->(∀ p ∈ l,p.1 ∉ f.map (·.1))->l.foldl (fun f p=>vz f p.1 p.2) f=f ++ l
 | [],f,_,_=>(List.append_nil _).symm
 | p :: l,f,hn,hf=>by
  have e:vz f p.1 p.2=f ++ [p]:=by
   unfold vz
   rw [if_neg]
   intro z
   obtain ⟨q,hq,e⟩:=List.any_eq_true.mp z
   exact hf p (List.mem_cons_self ..) (List.mem_map.mpr ⟨q,hq,of_decide_eq_true e⟩)
  show l.foldl _ (vz f p.1 p.2)=_
  have hn:(p.1 :: l.map (·.1)).Nodup:=hn
  obtain ⟨h1,h2⟩:=List.nodup_cons.mp hn
  rw [e,tX h2 fun q hq z=>?_,List.append_assoc]; rfl
  rw [List.map_append,List.mem_append] at z
  rcases z with z | z
  ·exact hf q (List.mem_cons_of_mem _ hq) z
  ·have z:q.1=p.1:=List.mem_singleton.mp z
   exact h1 (by rw [← z]; exact List.mem_map.mpr ⟨q,hq,rfl⟩)
theorem YQ {ns:NS}:∀ {l:List Wt},(l.flatMap (uN ns)).map (·.1)=xj l
 | []=>rfl
 | w :: l=>by
  rw [List.flatMap_cons,List.map_append,YQ]
  show _=w.nums ++ xj l
  congr 1
  unfold uN
  rw [List.map_map]
  exact List.map_id _
theorem NW.l40 {ns:NS} (h:NW ns):ns.log.length<=40:=by
 have h1:=h.nr.tot
 have h2:=h.nr.a40
 omega
structure GoneI (gone:List (Nat × Nat)) (ns n4:NS):Prop where
 nr:NR n4
 k:n4.k=ns.k
 room:n4.room=ns.room
 kept:n4.kept=ns.kept
 bl:n4.boxes.length=ns.boxes.length
 asks:n4.asks=ns.asks
 now:n4.now=ns.now+1
 nd:n4.nd=ns.now+1
 done:n4.done=rA ns.done (ns.now+1) (zO gone (zn (zy ns)) (2 ^ ns.k)).1
 log:n4.log=ns.log ++ xj (zO gone (zn (zy ns)) (2 ^ ns.k)).1
 ans:n4.ans=ns.ans
 cnt:∀ n,wsN ns.k n4.lines (fun w=>w.nums.count n)+n4.log.count n=if n < ns.asks.length then 1 else 0
 fk:∀ n ∈ n4.log,(wo n4.fnd n).isSome=true
 kp:∀ s n,1<=s->s<=ns.k->n < 2 ^ (ns.k - 1)->n4.keep s n=((wsN ns.k n4.lines (gq (s,n))+XJ (ns.now+1) (ns.k - s+1) fun t=>zR (gq (s,n)) (n4.done t):Nat):Int)
theorem Vq {ns:NS} (h:NW ns) (nw:ns.now < 10000) (gone:List (Nat × Nat)):GoneI gone ns (zK gone ns):=by
 have k4:=h.nr.k4
 have hnd:(zn (zy ns)).nd+1=(zn (zy ns)).now:=by show ns.nd+1=ns.now+1; rw [h.nd]
 have nr2:=(h.nr.tick nw).forget
 have nr3:=nr2.take (gone:=gone) hnd
 have D:=XI gone (zn (zy ns))
 have F:=Vb (gone:=gone) (ns:=zn (zy ns)) (Nat.le_refl _)
 have ek:(yf gone (zn (zy ns))).k=ns.k:=D.k
 have fk3:∀ n,(n ∈ xj (zO gone (zn (zy ns)) (2 ^ ns.k)).1 \/ (wo ns.fnd n).isSome=true)->(wo (yf gone (zn (zy ns))).fnd n).isSome=true:=fun n hn=>Te (ns:=Xy gone (zn (zy ns))) hn
 have I:=QU (n0:=yf gone (zn (zy ns))) (gone:=gone) (by rw [ek]; exact k4) (i:=ns.k) (by rw [ek]; exact Nat.le_refl _)
 have nr4:=nr3.passA (gone:=gone) (i:=ns.k) (by rw [ek]; exact Nat.le_refl _)
 have eg:zK gone ns=passA gone (yf gone (zn (zy ns))) ns.k:=rfl
 have ews:∀ g,zR g (zO gone (zn (zy ns)) (2 ^ ns.k)).1+wsN ns.k (zO gone (zn (zy ns)) (2 ^ ns.k)).2 g=wsN ns.k ns.lines g:=F.ws
 have e2:∀ a b,(zn (zy ns)).keep a b=ns.keep a b - if 1<=a /\ a<=ns.k then (zR (gq (a,b)) (sB (zy ns) (ns.k - a+1)):Int) else 0:=fun a b=>Vo (ns:=zy ns) (i:=ns.k)
 rw [eg]
 have Dl:(yf gone (zn (zy ns))).lines=(zO gone (zn (zy ns)) (2 ^ ns.k)).2:=D.lines
 have Dg:(yf gone (zn (zy ns))).log=ns.log ++ xj (zO gone (zn (zy ns)) (2 ^ ns.k)).1:=D.log
 have Dd:(yf gone (zn (zy ns))).done=rA ns.done (ns.now+1) (zO gone (zn (zy ns)) (2 ^ ns.k)).1:=D.done
 have Dk:=D.keep
 have Dnd:(yf gone (zn (zy ns))).nd=ns.now+1:=by rw [D.nd]; show ns.nd+1=_; rw [h.nd]
 have Dnow:(yf gone (zn (zy ns))).now=ns.now+1:=D.now
 have Da:(yf gone (zn (zy ns))).asks=ns.asks:=D.asks
 have Dr:(yf gone (zn (zy ns))).room=ns.room:=D.room
 have Dq:(yf gone (zn (zy ns))).kept=ns.kept:=D.kept
 have Db:(yf gone (zn (zy ns))).boxes.length=ns.boxes.length:=D.bl
 have Ds:(yf gone (zn (zy ns))).ans=ns.ans:=D.ans
 clear D F eg
 generalize (zO gone (zn (zy ns)) (2 ^ ns.k)).2=L2' at *
 generalize htk:(zO gone (zn (zy ns)) (2 ^ ns.k)).1=tk at *
 generalize yf gone (zn (zy ns))=n3 at *
 generalize passA gone n3 ns.k=n4 at *
 have sm:=I.same
 have cnt4:∀ g,RM g->wsN ns.k n4.lines g=wsN ns.k n3.lines g:=fun g hg=>by have:=I.cnt g hg; rw [ek] at this; exact this
 refine ⟨nr4,sm.k.trans ek,sm.room.trans Dr,sm.kept.trans Dq,by rw [sm.boxes]; exact Db,sm.asks.trans Da,sm.now.trans Dnow,sm.nd.trans Dnd,(by rw [htk]; exact sm.done.trans Dd),(by rw [htk]; exact sm.log.trans Dg),sm.ans.trans Ds,fun n=>?_,fun n hn=>?_,fun s n s1 sk hn=>?_⟩
 ·rw [cnt4 _ Sv,Dl,sm.log,Dg,List.count_append,tT]
  have h1:=h.cnt n
  have h2:=ews (fun w=>w.nums.count n)
  rw [← h1]
  omega
 ·rw [sm.fnd]
  rw [sm.log,Dg] at hn
  rcases List.mem_append.mp hn with hn | hn
  ·exact fk3 n (.inr (h.fk n hn))
  ·exact fk3 n (.inl hn)
 ·have h1:=h.kp s n s1 sk hn
  have h2:=I.kp (s,n)
  rw [ek,Dl,Dk,e2 s n,if_pos ⟨s1,sk⟩] at h2
  have h3:=ews (gq (s,n))
  have h4:XJ ns.now (ns.k - s+1) (fun t=>zR (gq (s,n)) (ns.done t))=XJ ns.now (ns.k - s) (fun t=>zR (gq (s,n)) (ns.done t))+zR (gq (s,n)) (sB (zy ns) (ns.k - s+1)):=by
   unfold XJ
   rw [yb]
   congr 1
   unfold sB
   show (if ns.k - s < ns.now then zR (gq (s,n)) (ns.done (ns.now - (ns.k - s))) else 0)=zR (gq (s,n)) (if ns.k - s+1 < ns.now+1 /\ ns.now+1 - (ns.k - s+1)<=ns.nd then ns.done (ns.now+1 - (ns.k - s+1)) else [])
   by_cases c:ns.k - s < ns.now
   ·rw [if_pos c,if_pos ⟨by omega,by rw [h.nd]; omega⟩,show ns.now+1 - (ns.k - s+1)=ns.now - (ns.k - s) by omega]
   ·rw [if_neg c,if_neg (by omega)]; rfl
  have h5:XJ (ns.now+1) (ns.k - s+1) (fun t=>zR (gq (s,n)) (n4.done t))=zR (gq (s,n)) tk+XJ ns.now (ns.k - s) (fun t=>zR (gq (s,n)) (ns.done t)):=by
   unfold XJ
   rw [rM,sm.done,Dd]
   congr 1
   ·rw [if_pos (Nat.succ_pos _)]
    show zR _ (rA ns.done (ns.now+1) tk (ns.now+1))=_
    unfold rA; rw [if_pos rfl]
   ·refine wE fun i _=>?_
    by_cases c:i < ns.now
    ·rw [if_pos c,if_pos (by omega)]
     show zR _ (rA ns.done (ns.now+1) tk (ns.now+1 - (i+1)))=_
     unfold rA
     rw [if_neg (by omega),show ns.now+1 - (i+1)=ns.now - i by omega]
    ·rw [if_neg c,if_neg (by omega)]
  rw [h5]
  rw [h4] at h1
  have h2:(wsN ns.k n4.lines (gq (s,n)):Int) - n4.keep s n=wsN ns.k L2' (gq (s,n)) - (ns.keep s n - zR (gq (s,n)) (sB (zy ns) (ns.k - s+1))):=h2
  push_cast at h1 ⊢
  omega
theorem NW.beat {ns:NS} (h:NW ns) (nw:ns.now < 10000) (gone:List (Nat × Nat)):NT (zK gone ns) /\ NW (beatS gone ns):=by
 have G:=Vq h nw gone
 have eb:beatS gone ns=WY (zK gone ns):=rfl
 rw [eb]
 generalize zK gone ns=n4 at G ⊢
 have hlg:n4.log=qL n4.done (ns.now+1):=by
  rw [xT,G.log,G.done]
  have e:rA ns.done (ns.now+1) (zO gone (zn (zy ns)) (2 ^ ns.k)).1 (ns.now+1)=(zO gone (zn (zy ns)) (2 ^ ns.k)).1:=if_pos rfl
  rw [e,h.lg]
  congr 1
  exact uw fun t t1 t2=>by unfold rA; rw [if_neg (by omega)]
 have hnd:n4.log.Nodup:=ZW fun n=>by
  have:=G.cnt n
  split at this <;> omega
 have l40:n4.log.length<=40:=by
  have h1:=G.nr.tot
  have h2:=G.nr.a40
  omega
 have han:n4.ans.map (·.1)=qL n4.done (ns.now - ns.k):=by
  rw [G.ans,h.an,G.done]
  exact uw fun t t1 t2=>by unfold rA; rw [if_neg (by omega)]
 have hago:qL n4.done (ns.now+1 - ns.k)=qL n4.done (ns.now - ns.k) ++ xj (sB n4 n4.k):=by
  unfold sB
  rw [G.k,G.now,G.nd]
  by_cases c:ns.k < ns.now+1
  ·rw [if_pos ⟨c,by omega⟩,show ns.now+1 - ns.k=(ns.now - ns.k)+1 by omega,xT]
  ·rw [if_neg (by omega),show ns.now+1 - ns.k=0 by omega,show ns.now - ns.k=0 by omega]; rfl
 have hkeys:(yV n4).map (·.1)=xj (sB n4 n4.k):=YQ
 obtain ⟨r,hr⟩:=vM (d:=n4.done) (m:=ns.now+1 - ns.k) (n:=ns.now+1) (by omega)
 rw [← hlg] at hr
 have hnd2:(qL n4.done (ns.now - ns.k) ++ xj (sB n4 n4.k)).Nodup:=by
  rw [← hago]
  rw [hr] at hnd
  exact (List.nodup_append.mp hnd).1
 obtain ⟨hn1,hn2,hn3⟩:=List.nodup_append.mp hnd2
 have hlen:(qL n4.done (ns.now - ns.k)).length+(xj (sB n4 n4.k)).length<=40:=by
  have:=congrArg List.length hr
  rw [hago,List.length_append,List.length_append] at this
  omega
 have hmem:∀ n ∈ xj (sB n4 n4.k),n ∈ n4.log:=fun n hn=>by
  rw [hr,hago]; exact List.mem_append_left _ (List.mem_append_right _ hn)
 have nt:NT n4:=by
  refine ⟨by rw [hkeys]; exact hn2,fun w hw n hn=>G.fk n (hmem n (List.mem_flatMap.mpr ⟨w,hw,hn⟩)),?_,?_⟩
  ·have:=congrArg List.length hkeys
   rw [List.length_map] at this
   omega
  ·have:=congrArg List.length han
   rw [List.length_map] at this
   omega
 have etell:(WY n4).ans=n4.ans ++ yV n4:=by
  show (sF (yV n4)).foldl (fun f p=>vz f p.1 p.2) n4.ans=_
  have e1:sF (yV n4)=yV n4:=by
   have:=tX (l:=yV n4) (f:=[]) (by rw [hkeys]; exact hn2) (fun p _ z=>by cases z)
   exact this
  rw [e1]
  refine tX (by rw [hkeys]; exact hn2) fun p hp z=>?_
  rw [han] at z
  exact hn3 _ z _ (by rw [← hkeys]; exact List.mem_map.mpr ⟨p,hp,rfl⟩) rfl
 refine ⟨nt,⟨⟨G.nr.k4,G.nr.b16,G.nr.a40,G.nr.lw,G.nr.dw,G.nr.tot,G.nr.nw,G.nr.nd,G.nr.fl⟩,?_,?_,fun n=>?_,?_,G.fk,?_,fun s n s1 sk hn=>?_⟩⟩
 ·show n4.nd=n4.now
  rw [G.nd,G.now]
 ·show 1<=n4.room
  rw [G.room]; exact h.r1
 ·show wsN n4.k n4.lines _+n4.log.count n=if n < n4.asks.length then 1 else 0
  rw [G.k,G.asks]; exact G.cnt n
 ·show n4.log=qL n4.done n4.now
  rw [G.now]; exact hlg
 ·rw [etell,List.map_append,han,hkeys,← hago]
  show qL n4.done (ns.now+1 - ns.k)=qL n4.done (n4.now - n4.k)
  rw [G.now,G.k]
 ·have sk':s<=ns.k:=by rw [← G.k]; exact sk
  have hn':n < 2 ^ (ns.k - 1):=by rw [← G.k]; exact hn
  show n4.keep s n=((wsN n4.k n4.lines _+XJ n4.now (n4.k - s+1) fun t=>zR _ (n4.done t):Nat):Int)
  rw [G.k,G.now]
  exact G.kp s n s1 sk' hn'
section
variable {prog:Program} {w:World} {A:Around} {E:JO} {s:Shared}
theorem tY {it t:Addr} {items:Array Value} (hne:t ≠ it):∀ (n i:Nat) (s:Shared) (Q:List Value->Shared->Prop),s.heap.IsListIter it t i->s.heap.IsList t items->i+n<=items.size →
  (∀ h',h'.IsListIter it t (i+n)->Heap.SameBut it s.heap h' -> Q ((items.toList.drop i).take n) { s with heap:=h' })->wpAny (model prog w) A (draw (.ref it) n) Q E s
 | 0,i,s,Q,hit,_,_,hQ=>by
  show wpAny _ _ (pure []) Q E s
  exact wpAny_pure (by simpa using hQ s.heap hit (Heap.SameBut.refl ..))
 | n+1,i,s,Q,hit,ht,hle,hQ=>by
  have hlt:i < items.size:=by omega
  show wpAny _ _ (pyNext (.ref it) >>= _) Q E s
  refine wpAny_bind (wpAny_pyNext_list_item hit ht (x:=items[i]) (by simp [hlt]) fun h₁ hit₁ hs₁=>?_)
  refine wpAny_bind (wpAny_holding (tY hne n (i+1) _ _ hit₁ (ht.extBut hs₁.extBut hne) (by omega) fun h₂ hit₂ hs₂=>wpAny_pure ?_))
  have hd:items.toList.drop i=items[i] :: items.toList.drop (i+1):=by simp [List.drop_eq_getElem_cons,hlt]
  have:=hQ h₂ (by rw [show i+(n+1)=i+1+n by omega]; exact hit₂) (hs₁.trans hs₂)
  rw [hd,List.take_succ_cons] at this
  exact this
theorem vN {t:Addr} {items:Array Value} {Q:List Value->Shared->Prop} (hh:A.handled=none) (ht:s.heap.IsList t items)
  (hQ:∀ h',Heap.ExtBut s.heap.objs.size s.heap h' -> Q items.toList { s with heap:=h' }):wpAny (model prog w) A (unpackItems (.ref t) items.size none) Q E s:=by
 have hlt:t ≠ s.heap.objs.size:=by obtain ⟨o,ho,_⟩:=ht; exact Nat.ne_of_lt (Heap.lt_size ho)
 unfold unpackItems
 refine wpAny_bind ?_
 ·unfold notIterableAtAll
  refine wpAny_bind (wpAny_specialOf ht.typeIs F.slot_list_iter.lookup ?_)
  refine wpAny_pure ?_
  simp only [Bool.false_eq_true,if_false]
  refine wpAny_bind (wpAny_holding (wpAny_pyIter_list ht ?_))
  refine wpAny_bind (wpAny_holding (tY hlt items.size 0 _ _ ⟨_,Heap.get?_push_size _ rfl,rfl,rfl⟩ (ht.push _) (by omega) fun h₁ hit₁ hs₁=>?_))
  have hall:List.take items.size (List.drop 0 items.toList)=items.toList:=by
   rw [List.drop_zero]; exact List.take_of_length_le (by simp)
  rw [hall]
  rw [if_neg (by simp)]
  have ht₁:h₁.IsList t items:=(ht.push _).extBut hs₁.extBut hlt
  refine wpAny_bind (wpAny_holding (wpAny_pyNext_list_end hh hit₁ ht₁ (by simp) fun h₂ he₂=>?_))
  simp only [Option.isSome_none,Bool.false_eq_true,if_false]
  refine wpAny_pure (hQ h₂ fun b o hb e=>he₂ b o hb (hs₁.extBut b o hb (Heap.get?_push_of_some _ e)))
theorem vc {env:Env} {elts:List Expr} {x1} {pos:Pos} {t:Addr} {items:Array Value} {Q:Unit->Shared->Prop} (hh:A.handled=none) (ht:s.heap.IsList t items)
  (hn:(assignEach elts env).length=items.size) (hstar:(assignEach elts env).findIdx? (·.1)=none)
  (h:∀ h',Heap.ExtBut s.heap.objs.size s.heap h' -> wpAny (model prog w) A (assignInOrder ((assignEach elts env).map (·.2)) items.toList) Q E { s with heap:=h' }) :
  wpAny (model prog w) A (assign (.Tuple elts x1 pos) env (.ref t)) Q E s:=by
 rw [assign_Tuple]
 refine wpAny_bind (wpAny_standAt ?_)
 unfold unpack
 rw [hn,hstar]
 exact wpAny_bind (wpAny_holding (vN hh ht h))
end
section
variable {X:Cx} {pos:Pos}
def RS (K:JN) (n:Nat) (t:J4):TG:=fun v σ H Q=>∃ a xs,v = .ref a /\ J1 K H a xs /\ xs.length=n /\ t xs σ H Q
theorem UJ {es:List Expr} {k:Nat} {t:J4} {n:Nat} (hc:X.calm=true) (h:J5 X es t)
  (hn:(assignEach es X.env).length=n:=by rfl) (hst:(assignEach es X.env).findIdx? (·.1)=none:=by rfl):PG X (.Tuple es k pos) (RS X.K n t):=by
 intro pins s σ H v u Q I r hw
 obtain ⟨a,xs,e1,hq,hl,hw⟩:=hw
 subst e1
 cases r
 obtain ⟨its,rv,ht,hz⟩:=I.list hq
 refine vc (I.ok.hd hc) ht.isList (by simp [hn,← hl,rv.length]) hst fun h' hx=>?_
 have I1:Inv X pins σ H { s with heap:=h' }:=I.kept (t':=s.toks) fun b o e=>hx b o (Nat.ne_of_lt (Heap.lt_size e)) e
 exact h pins _ σ H xs _ Q I1 (by simpa using rv) hw
end
def ZX (_:JN):Sp:=sp1 fun x H Q=>∃ a,x = .ref a /\ Pot H a /\ ∀ n H',-(10 ^ 29)<=n->n<=10 ^ 29->Grow [a] H H' -> Pot H' a->Q (.int n) H'
def QV (K:JN) (H:Hp) (x:V) (qs:List (Nat × Nat)):Prop:=∃ r ys,x = .ref r /\ H r=some (.lst ys) /\ zT (uO K H) ys qs
theorem rN {X:Cx} {K:JN} {k:Nat} (hK:X.K=K) (hr:Room k X.A):OpR X (compareOp .Eq) (fun x y H Q=>∃ a b xs,x = .ref a /\ y = .ref b /\ J3 K H a xs /\ J3 K H b [] /\ Q (.bl xs.isEmpty) H):=by
 subst hK
 intro pins s σ H x y v u Q I rx ry h
 obtain ⟨a,b,xs,rfl,rfl,ha,hb,q⟩:=h
 cases rx; cases ry
 obtain ⟨us,r1,t1,_⟩:=I.tuple ha
 obtain ⟨ws,r2,t2,_⟩:=I.tuple hb
 have hw:ws.length=0:=r2.length.symm
 refine SeqAt.eq_tupleAt (e:=fun _=>true) (wA t1) (wA t2) hr.units0 (fun j h1 h2=>absurd h2 (by simp; omega)) ?_
 have e:((List.range (min us.toArray.size ws.toArray.size)).all (fun _=>true) && us.toArray.size == ws.toArray.size)=xs.isEmpty:=by
  rw [List.size_toArray,List.size_toArray,hw,← r1.length]
  cases xs with
  | nil=>rfl
  | cons a r=>simp
 rw [e]
 exact ⟨.bl _,H,I,rfl,q⟩
structure FunD (K:JN) (x qual:Str) (st:Stmt) (f:Addr) (fd:FuncData):Prop where
 ex:∃ (oc:Value) (od:Option Addr) (dV kV doc pm:Value) (an:Option Addr) (cdv ct:Value) (osl:Array (Option Value)),
  fd=PySem.W.fnOf x qual (zN st) (zI st) (zf st) dV kV doc pm an cdv ct /\ K.lookup f=some ⟨oc,od,.func fd,osl⟩ /\ PySem.W.codeIn K cdv qual=true
 kp:PySem.W.keepIn K (.ref f)=true
def wI (P:Program) (w:World) (K:JN) (mg:Str->Option Value) (base:Heap) (C:Addr) (k:Nat) (m:Str) (ps:List Str) (ds:List Value) (sp:Sp):Prop :=
 ∃ (f:Addr) (fd:FuncData),FnOk P w K mg base CX0 k f fd ps sp /\ wt K fd ps ds /\ Meth K C m f
section
variable {P:Program} {w:World} {K:JN} {mg:Str->Option Value} {base:Heap}
theorem FunD.ok {x qual:Str} {st:Stmt} {f:Addr} {fd:FuncData} {N ps:List Str} {k:Nat} {sp:Sp} (F:FunD K x qual st f fd) (S:FnScope N ps (zf st)) (len:∀ vs H Q E,sp vs H Q E->vs.length=ps.length)
  (hbody:∀ (cdv:Value) (A:Around) (outer:List Env) (s:Shared) (H:Hp) (vs:List V) (Q:VK) (E:XK),Room k (A.deeper (envOfC qual (zf st) s.heap.objs.size f cdv))->sp vs H Q E →
   ∃ t,JX (Tx CX0 P w K mg base N qual (zf st) f cdv A outer s H E).nox (zI st) t /\ t { nx:=fun _ H'=>Q .non H',rt:=Q } (qd N vs) H):FnOk P w K mg base CX0 (k+1) f fd ps sp:=by
 obtain ⟨oc,od,dV,kV,doc,pm,an,cdv,ct,osl,rfl,lk,hcd⟩:=F.ex
 refine SZ lk hcd S len fun A outer s H vs Q E hr hsp=>?_
 obtain ⟨t,h,q⟩:=hbody cdv A outer s H vs Q E hr hsp
 exact ⟨t,h.nox,q⟩
theorem Sx {x qual:Str} {st:Stmt} {f:Addr} {oc:Value} {od an:Option Addr} {osl:Array (Option Value)} {dV kV doc pm cdv ct:Value} (l:K.lookup f=some ⟨oc,od,.func (PySem.W.fnOf x qual (zN st) (zI st) (zf st) dV kV doc pm an cdv ct),osl⟩)
  (c:PySem.W.codeIn K cdv qual=true) (k:PySem.W.keepIn K (.ref f)=true):FunD K x qual st f (PySem.W.fnOf x qual (zN st) (zI st) (zf st) dV kV doc pm an cdv ct):=⟨⟨oc,od,dV,kV,doc,pm,an,cdv,ct,osl,rfl,l,c⟩,k⟩
theorem rO {fd:FuncData} {ps:List Str} {T:Addr} {o:Obj} {items:Array Value} {n:Nat} {ds:List Value} (hd:fd.defaults = .ref T) (hT:K.lookup T=some o) (hs:o.data = .seq items n)
  (h:∀ us:List Value,(us ++ ds).length=ps.length -> ∃ k,bindArgs fd ⟨us,[]⟩=seqItems? fd.defaults >>= k /\ k (some items)=pure (ps.zip (us ++ ds))):wt K fd ps ds:=fun s us X hl=>by
 obtain ⟨k,h1,h2⟩:=h us hl
 exact BindsTo.of_defaults hd (X _ _ hT) hs h1 h2
theorem wI.mono {C:Addr} {j k:Nat} {m:Str} {ps:List Str} {ds:List Value} {sp:Sp} (c:wI P w K mg base C j m ps ds sp) (h:j<=k):wI P w K mg base C k m ps ds sp:=by
 obtain ⟨f,fd,F,b,mt⟩:=c
 exact ⟨f,fd,F.mono h,b,mt⟩
end
section
variable {X:Cx} {C:Addr} {k:Nat} {m:Str} {ps:List Str} {sp:Sp} {o:Expr} {ta:TE} {apos pos:Pos}
theorem Vr {pl:Sem Bool} (c:wI X.prog X.w X.K X.mg X.base C k m ps [.none] sp) (cl:Cls X.K C) (hr:Room k X.A) (he:PE X o ta)
  (ht:eval (.Call (.Attribute o m apos) [] [] pos) X.env=(do
   let ov ← eval o X.env
   standAt apos.atName
   let (f,first) ← holding [ov] (getMethod ov m pl)
   callWith pos f first (backTo pos (starEach [] X.env)) (backToKw pos (keywordEach [] X.env))):=by rfl) :
  PE X (.Call (.Attribute o m apos) [] [] pos) (Wc C m sp [.non] E0 ta R6):=by
 obtain ⟨f,fd,F,b,mt⟩:=c
 exact Yj he cl mt F hr b (.cons rfl .nil) Wl ht
end
theorem Vs {xs:List V} {lo hi:Option Int} {v:V} (h:v ∈ qe xs lo hi):v ∈ xs:=by
 unfold qe at h
 first
 | exact List.mem_of_mem_take (List.mem_of_mem_drop h)
 | exact List.mem_of_mem_drop (List.mem_of_mem_take h)
theorem j3 {β:Type} {R:V -> β -> Prop} {x:V} {y:β} (h:R x y):∀ {n:Nat},zT R (List.replicate n x) (List.replicate n y)
 | 0=>trivial
 | _+1=>⟨h,j3 h⟩
def adL (ns:NS):List Ad:=[.p,.lb,.la,.dl,.dk,.dd,.lg,.df,.da] ++ ((List.range (ns.k+1)).flatMap fun l=>(List.range (2 ^ ns.k)).map fun j=>Ad.ln l j) ++ (List.range ns.nd).map fun t=>Ad.dn (t+1)
theorem qM {ns:NS} {a:Ad}:a ∈ adL ns ↔ okA ns a:=by
 unfold adL
 rw [List.mem_append,List.mem_append,List.mem_flatMap,List.mem_map]
 constructor
 ·rintro ((h | ⟨l,hl,h⟩) | ⟨t,ht,rfl⟩)
  ·simp only [List.mem_cons,List.not_mem_nil,or_false] at h
   rcases h with rfl | rfl | rfl | rfl | rfl | rfl | rfl | rfl | rfl <;> trivial
  ·obtain ⟨j,hj,rfl⟩:=List.mem_map.mp h
   exact ⟨Nat.le_of_lt_succ (List.mem_range.mp hl),List.mem_range.mp hj⟩
  ·exact ⟨Nat.succ_le_succ (Nat.zero_le _),List.mem_range.mp ht⟩
 ·intro h
  cases a with
  | ln l j=>exact .inl (.inr ⟨l,List.mem_range.mpr (Nat.lt_succ_of_le h.1),List.mem_map.mpr ⟨j,List.mem_range.mpr h.2,rfl⟩⟩)
  | dn t=>exact .inr ⟨t - 1,List.mem_range.mpr (by have h1:1<=t:=h.1; have h2:t<=ns.nd:=h.2; omega),by have h1:1<=t:=h.1; rw [Nat.sub_add_cancel h1]⟩
  | _=>exact .inl (.inl (by simp))
section
variable {K:JN} {C p l:Addr} {H H':Hp} {A A':Ad->Addr} {ns:NS} {k many:Nat} {sm:List Int}
def msA (A:Ad->Addr) (ns:NS):List Addr:=(adL ns).map A
theorem yI {a:Ad} (h:okA ns a):A a ∈ msA A ns:=List.mem_map.mpr ⟨a,qM.mpr h,rfl⟩
theorem tZ {gone:List (Nat × Nat)} (h:NW ns) (nw:ns.now < 10000):(beatS gone ns).k=ns.k /\ (beatS gone ns).boxes.length=ns.boxes.length /\ (beatS gone ns).asks=ns.asks /\ (beatS gone ns).now=ns.now+1 /\ (beatS gone ns).nd=ns.nd+1:=by
 have G:=Vq h nw gone
 exact ⟨G.k,G.bl,G.asks,G.now,by show (zK gone ns).nd=_; rw [G.nd,h.nd]⟩
end
section
variable {ns n':NS} {s l:Nat}
theorem HandC.allP (h:HandC ns s l n') {P:Nat->Nat->Wt->Prop} (k4:ns.k<=4) (s1:1<=s) (sk:s<=ns.k) (hl:l < 2 ^ ns.k) (hp:∀ a b,a<=ns.k->b < 2 ^ ns.k -> ∀ w ∈ ns.lines a b,P a b w)
  (hm:∀ c,P (s - 1) l c->P s (zW ns.k s l c.box) c) (hj:∀ o w c,P s o w->P s o c->w.box=c.box->P s o (x8 (s,nN ns.k s l) w c)):∀ a b,a<=ns.k->b < 2 ^ ns.k -> ∀ w ∈ n'.lines a b,P a b w:=by
 have h1:s - 1<=ns.k:=by omega
 cases h with
 | stay=>exact hp
 | add c r hc hr =>
  intro a b ha hb w hw
  have hw:w ∈ yh (yh ns.lines (s - 1) l r) s (zW ns.k s l c.box) (ns.lines s (zW ns.k s l c.box) ++ [c]) a b:=hw
  by_cases e:a=s /\ b=zW ns.k s l c.box
  ·rw [e.1,e.2,zw] at hw
   rw [e.1,e.2]
   rcases List.mem_append.mp hw with z | z
   ·exact hp s _ sk (wy k4 s1 sk hl) w z
   ·rw [List.mem_singleton.mp z]; exact hm c (hp (s - 1) l h1 hl c (by rw [hc]; exact List.mem_cons_self ..))
  ·rw [zB e] at hw
   by_cases e2:a=s - 1 /\ b=l
   ·rw [e2.1,e2.2,zw] at hw
    rw [e2.1,e2.2]
    exact hp (s - 1) l h1 hl w (by rw [hc]; exact List.mem_cons_of_mem _ hw)
   ·rw [zB e2] at hw; exact hp a b ha hb w hw
 | join c r i hc hi hb' hk =>
  intro a b ha hb w hw
  have hw:w ∈ yh (yh ns.lines (s - 1) l r) s (zW ns.k s l c.box) ((ns.lines s (zW ns.k s l c.box)).set i (x8 (s,nN ns.k s l) ((ns.lines s (zW ns.k s l c.box)).getD i default) c)) a b:=hw
  have o:=wy (b:=c.box) k4 s1 sk hl
  have pc:P s (zW ns.k s l c.box) c:=hm c (hp (s - 1) l h1 hl c (by rw [hc]; exact List.mem_cons_self ..))
  by_cases e:a=s /\ b=zW ns.k s l c.box
  ·rw [e.1,e.2,zw] at hw
   rw [e.1,e.2]
   rcases List.mem_or_eq_of_mem_set hw with z | z
   ·exact hp s _ sk o w z
   ·rw [z]
    refine hj _ _ _ (hp s _ sk o _ ?_) pc hb'
    rw [List.getD_eq_getElem?_getD,List.getElem?_eq_getElem hi]; exact List.getElem_mem hi
  ·rw [zB e] at hw
   by_cases e2:a=s - 1 /\ b=l
   ·rw [e2.1,e2.2,zw] at hw
    rw [e2.1,e2.2]
    exact hp (s - 1) l h1 hl w (by rw [hc]; exact List.mem_cons_of_mem _ hw)
   ·rw [zB e2] at hw; exact hp a b ha hb w hw
theorem HandC.len (h:HandC ns s l n') (s1:1<=s) (hr:∀ a b,1<=a->(ns.lines a b).length<=ns.room):∀ a b,1<=a->(n'.lines a b).length<=ns.room:=by
 cases h with
 | stay=>exact hr
 | add c r hc hl =>
  intro a b ha
  show (yh _ s _ _ a b:List Wt).length<=_
  by_cases e:a=s /\ b=zW ns.k s l c.box
  ·rw [e.1,e.2,zw,List.length_append]; exact hl
  ·rw [zB e]
   by_cases e2:a=s - 1 /\ b=l
   ·rw [e2.1,e2.2,zw]
    have:=hr (s - 1) l (by omega)
    rw [hc] at this
    exact Nat.le_of_succ_le this
   ·rw [zB e2]; exact hr a b ha
 | join c r i hc hi hb hk =>
  intro a b ha
  show (yh _ s _ _ a b:List Wt).length<=_
  by_cases e:a=s /\ b=zW ns.k s l c.box
  ·rw [e.1,e.2,zw,List.length_set]; exact hr s _ s1
  ·rw [zB e]
   by_cases e2:a=s - 1 /\ b=l
   ·rw [e2.1,e2.2,zw]
    have:=hr (s - 1) l (by omega)
    rw [hc] at this
    exact Nat.le_of_succ_le this
   ·rw [zB e2]; exact hr a b ha
theorem HandC.kl (h:HandC ns s l n') (hk:∀ a b,ns.keep a b<=ns.kept):∀ a b,n'.keep a b<=ns.kept:=by
 cases h with
 | stay=>exact hk
 | add c r hc hl=>exact hk
 | join c r i hc hi hb hlt =>
  intro a b
  show yh ns.keep s (nN ns.k s l) (ns.keep s (nN ns.k s l)+1) a b<=_
  by_cases e:a=s /\ b=nN ns.k s l
  ·rw [e.1,e.2,zw]; omega
  ·rw [zB e]; exact hk a b
def RU (f:Nat->Nat->List Wt):Prop:=∀ j,(∀ w ∈ f 0 j,w.nums.length=1) /\ (f 0 j).Pairwise fun v w=>v.nums.headD 0 < w.nums.headD 0
theorem HandC.low (h:HandC ns s l n') (s1:1<=s) (hl:RU ns.lines):RU n'.lines:=by
 have key:∀ c r (v:List Wt) o,ns.lines (s - 1) l=c :: r->RU (yh (yh ns.lines (s - 1) l r) s o v):=fun c r v o hc j=>by
  rw [zB (fun z=>by have:=z.1; omega)]
  by_cases e:0=s - 1 /\ j=l
  ·obtain ⟨h1,h2⟩:=hl l
   rw [e.1] at h1 h2
   rw [hc] at h1 h2
   rw [e.1,e.2,zw]
   exact ⟨fun w hw=>h1 w (List.mem_cons_of_mem _ hw),(List.pairwise_cons.mp h2).2⟩
  ·rw [zB e]; exact hl j
 cases h with
 | stay=>exact hl
 | add c r hc hr=>exact key c r _ _ hc
 | join c r i hc hi hb hk=>exact key c r _ _ hc
end
structure Ent (k:Nat) (asks:List Ask) (l j:Nat) (w:Wt):Prop where
 ok:w.deed.Ok
 dd:∀ v,w.deed.mk' v=w.nums.foldl (fun v n=>(asks.getD n default).deed.mk' v) v
 bx:∀ n ∈ w.nums,(asks.getD n default).box=w.box
 hd:∀ n ∈ w.nums,(asks.getD n default).hand.toNat % 2 ^ (k - l)=j % 2 ^ (k - l)
 sd:j / 2 ^ (k - l)=w.box % 2 ^ k / 2 ^ (k - l)
theorem Sy {k s l b:Nat} (k4:k<=4) (s1:1<=s) (sk:s<=k) (hl:l < 2 ^ k):zW k s l b % 2 ^ (k - s)=l % 2 ^ (k - s) /\ (l / 2 ^ (k - (s - 1))=b % 2 ^ k / 2 ^ (k - (s - 1))->zW k s l b / 2 ^ (k - s)=b % 2 ^ k / 2 ^ (k - s)):=by
 have key:∀ k:Fin 5,∀ s:Fin 5,1<=s.val->s.val<=k.val -> ∀ l:Fin 16,l.val < 2 ^ k.val -> ∀ b:Fin 16,b.val < 2 ^ k.val->zW k.val s.val l.val b.val % 2 ^ (k.val - s.val)=l.val % 2 ^ (k.val - s.val) /\ (l.val / 2 ^ (k.val - (s.val - 1))=b.val / 2 ^ (k.val - (s.val - 1))->zW k.val s.val l.val b.val / 2 ^ (k.val - s.val)=b.val / 2 ^ (k.val - s.val)):=by decide +kernel
 have p16:=ue k4
 have hb:b % 2 ^ k < 2 ^ k:=Nat.mod_lt _ (Nat.two_pow_pos k)
 have e:zW k s l (b % 2 ^ k)=zW k s l b:=by unfold zW; rw [Nat.mod_mod]
 have:=key ⟨k,by omega⟩ ⟨s,by omega⟩ s1 sk ⟨l,by omega⟩ hl ⟨b % 2 ^ k,by omega⟩ hb
 rw [e] at this
 exact this
theorem UK {a b x y:Nat} (h:x % 2 ^ (a+b)=y % 2 ^ (a+b)):x % 2 ^ a=y % 2 ^ a:=by
 have e:∀ z,z % 2 ^ (a+b) % 2 ^ a=z % 2 ^ a:=fun z=>Nat.mod_mod_of_dvd _ ⟨2 ^ b,by rw [Nat.pow_add]⟩
 rw [← e x,← e y,h]
theorem Ent.up {k:Nat} {asks:List Ask} {s l:Nat} {w:Wt} (k4:k<=4) (s1:1<=s) (sk:s<=k) (hl:l < 2 ^ k) (h:Ent k asks (s - 1) l w):Ent k asks s (zW k s l w.box) w:=by
 obtain ⟨m1,m2⟩:=Sy (b:=w.box) k4 s1 sk hl
 refine ⟨h.ok,h.dd,h.bx,fun n hn=>?_,m2 h.sd⟩
 rw [m1]
 have:=h.hd n hn
 rw [show k - (s - 1)=(k - s)+1 by omega] at this
 exact UK this
theorem Ent.join {k:Nat} {asks:List Ask} {l j:Nat} {w c:Wt} {sw:Nat × Nat} (hw:Ent k asks l j w) (hc:Ent k asks l j c) (e:w.box=c.box):Ent k asks l j (x8 sw w c):=by
 refine ⟨V7 hw.ok hc.ok,fun v=>?_,fun n hn=>?_,fun n hn=>?_,hw.sd⟩
 ·show (uL w.deed c.deed).mk' v=(w.nums ++ c.nums).foldl _ v
  rw [V8 hw.ok hc.ok,List.foldl_append,← hw.dd,← hc.dd]
 ·rcases List.mem_append.mp hn with hn | hn
  ·exact hw.bx n hn
  ·rw [hc.bx n hn]; show (c.box:Int)=w.box; rw [e]
 ·rcases List.mem_append.mp hn with hn | hn
  ·exact hw.hd n hn
  ·exact hc.hd n hn
structure NX (ns:NS):Prop where
 nw:NW ns
 en:∀ l j,l<=ns.k->j < 2 ^ ns.k -> ∀ w ∈ ns.lines l j,Ent ns.k ns.asks l j w
 rm:∀ a b,1<=a->(ns.lines a b).length<=ns.room
 kl:∀ a b,ns.keep a b<=ns.kept
 lo:RU ns.lines
theorem NX.new {k room kept:Nat} {b:List Int} (k4:k<=4) (b16:b.length<=16) (r1:1<=room):NX (sG k b room kept) :=
 ⟨NW.new k4 b16 r1,fun _ _ _ _ w hw=>(by cases hw),fun _ _ _=>Nat.zero_le _,fun _ _=>Int.natCast_nonneg _,fun _=>⟨fun w hw=>(by cases hw),.nil⟩⟩
theorem qN {as:List Ask} {a:Ask} {n:Nat} (h:n < as.length):(as ++ [a]).getD n default=as.getD n default:=by
 rw [List.getD_eq_getElem?_getD,List.getD_eq_getElem?_getD,List.getElem?_append_left h]
theorem qO {as:List Ask} {a:Ask}:(as ++ [a]).getD as.length default=a:=by
 rw [List.getD_eq_getElem?_getD,List.getElem?_append_right (Nat.le_refl _),Nat.sub_self]; rfl
theorem t6 {α β:Type} {f g:β -> α -> β}:∀ {l:List α} {b:β},(∀ a ∈ l,∀ b,f b a=g b a)->l.foldl f b=l.foldl g b
 | [],_,_=>rfl
 | a :: l,b,h=>by
  show l.foldl f (f b a)=l.foldl g (g b a)
  rw [h a (List.mem_cons_self ..)]
  exact t6 fun x hx=>h x (List.mem_cons_of_mem _ hx)
theorem Ent.more {k l j:Nat} {asks:List Ask} {a:Ask} {w:Wt} (h:Ent k asks l j w) (hn:∀ n ∈ w.nums,n < asks.length):Ent k (asks ++ [a]) l j w :=
 ⟨h.ok,fun v=>by rw [h.dd]; exact t6 fun n hm b=>by rw [qN (hn n hm)],fun n hm=>by rw [qN (hn n hm)]; exact h.bx n hm,fun n hm=>by rw [qN (hn n hm)]; exact h.hd n hm,h.sd⟩
theorem NX.put {ns:NS} (h:NX ns) {a:Ask} (ok:a.deed.Ok) (hb0:0<=a.box) (hh:a.hand.toNat < 2 ^ ns.k) (hb:a.box.toNat < ns.boxes.length) (h40:ns.asks.length < 40):NX (putS ns a):=by
 have nr:=h.nw.nr
 refine ⟨h.nw.put hh hb h40,fun l j hl hj w hw=>?_,fun x y hx=>?_,h.kl,fun j=>?_⟩
 ·have hw:w ∈ yh ns.lines 0 a.hand.toNat (ns.lines 0 a.hand.toNat ++ [⟨a.box.toNat,a.deed,[ns.asks.length],[]⟩]) l j:=hw
  show Ent ns.k (ns.asks ++ [a]) l j w
  by_cases c:l=0 /\ j=a.hand.toNat
  ·rw [c.1,c.2,zw,List.mem_append] at hw
   rw [c.1,c.2]
   rcases hw with hw | hw
   ·exact (h.en 0 _ (Nat.zero_le _) hh w hw).more (nr.lw 0 _ (Nat.zero_le _) hh w hw).nm
   ·rw [List.mem_singleton.mp hw]
    refine ⟨ok,fun v=>?_,fun n hn=>?_,fun n hn=>?_,?_⟩
    ·show a.deed.mk' v=((ns.asks ++ [a]).getD ns.asks.length default).deed.mk' v
     rw [qO]
    ·rw [List.mem_singleton.mp hn,qO]; show a.box=((a.box.toNat:Nat):Int); omega
    ·rw [List.mem_singleton.mp hn,qO]
    ·show a.hand.toNat / 2 ^ ns.k=a.box.toNat % 2 ^ ns.k / 2 ^ ns.k
     rw [Nat.div_eq_of_lt hh,Nat.div_eq_of_lt (Nat.mod_lt _ (Nat.two_pow_pos _))]
  ·rw [zB c] at hw
   exact (h.en l j hl hj w hw).more (nr.lw l j hl hj w hw).nm
 ·show (yh ns.lines 0 _ _ x y:List Wt).length<=_
  rw [zB (fun z=>by have:=z.1; omega)]; exact h.rm x y hx
 ·show (∀ w ∈ yh ns.lines 0 a.hand.toNat (ns.lines 0 a.hand.toNat ++ [⟨a.box.toNat,a.deed,[ns.asks.length],[]⟩]) 0 j,_) /\ (yh ns.lines 0 a.hand.toNat (ns.lines 0 a.hand.toNat ++ [⟨a.box.toNat,a.deed,[ns.asks.length],[]⟩]) 0 j).Pairwise _
  by_cases c:0=0 /\ j=a.hand.toNat
  ·rw [c.2,zw]
   obtain ⟨h1,h2⟩:=h.lo a.hand.toNat
   refine ⟨fun w hw=>?_,List.pairwise_append.mpr ⟨h2,List.pairwise_singleton _ _,fun v hv w hw=>?_⟩⟩
   ·rcases List.mem_append.mp hw with hw | hw
    ·exact h1 w hw
    ·rw [List.mem_singleton.mp hw]; rfl
   ·rw [List.mem_singleton.mp hw]
    show v.nums.headD 0 < ns.asks.length
    have W:=nr.lw 0 _ (Nat.zero_le _) hh v hv
    cases e:v.nums with
    | nil=>exact absurd e W.ne
    | cons x r=>exact W.nm x (by rw [e]; exact List.mem_cons_self ..)
  ·rw [zB c]; exact h.lo j
theorem qP {gone:List (Nat × Nat)} {ns:NS} {l j:Nat}:∀ {i},((zO gone ns i).2 l j).Sublist (ns.lines l j)
 | 0=>List.Sublist.refl _
 | i+1=>by
  have ih:=qP (gone:=gone) (ns:=ns) (l:=l) (j:=j) (i:=i)
  rw [ur]
  cases hc:(zO gone ns i).2 ns.k i with
  | nil=>rw [tS hc]; exact ih
  | cons w r =>
   by_cases hg:(0,i) ∈ gone
   ·rw [ut hg]; exact ih
   ·rw [qH hc hg]
    show (yh (zO gone ns i).2 ns.k i r l j).Sublist _
    by_cases e:l=ns.k /\ j=i
    ·rw [e.1,e.2,zw]
     rw [e.1,e.2,hc] at ih
     exact (List.sublist_cons_self w r).trans ih
    ·rw [zB e]; exact ih
structure PassX (n0 n:NS):Prop where
 same:Same5 n n0
 en:∀ l j,l<=n0.k->j < 2 ^ n0.k -> ∀ w ∈ n.lines l j,Ent n0.k n0.asks l j w
 rm:∀ a b,1<=a->(n.lines a b).length<=n0.room
 kl:∀ a b,n.keep a b<=n0.kept
 lo:RU n.lines
theorem QW {n0:NS} {gone:List (Nat × Nat)} (k4:n0.k<=4) (h:PassX n0 n0) {i:Nat} (hi:i<=n0.k):PassX n0 (passA gone n0 i):=by
 refine vL (P:=fun n=>PassX n0 n) (fun n h=>by rw [h.same.k]; exact k4) (fun n s l h s1 sk hl=>?_) h hi
 have C:=Va n s l
 have ek:=h.same.k
 have k4':n.k<=4:=by rw [ek]; exact k4
 refine ⟨C.same.trans h.same,?_,?_,?_,C.low s1 h.lo⟩
 ·have:=C.allP (P:=fun a b w=>Ent n0.k n0.asks a b w) k4' s1 sk hl (by rw [ek]; exact h.en) (fun c hc=>by rw [ek] at sk hl ⊢; exact hc.up k4 s1 sk hl) fun o w c hw hc e=>hw.join hc e
  rw [ek] at this; exact this
 ·have:=C.len s1 (by rw [h.same.room]; exact h.rm)
  rw [h.same.room] at this; exact this
 ·have:=C.kl (by rw [h.same.kept]; exact h.kl)
  rw [h.same.kept] at this; exact this
theorem NX.beat {ns:NS} (h:NX ns) (nw:ns.now < 10000) (gone:List (Nat × Nat)):NX (beatS gone ns):=by
 have B:=(h.nw.beat nw gone).2
 have G:=Vq h.nw nw gone
 have D:=XI gone (zn (zy ns))
 have ek:(yf gone (zn (zy ns))).k=ns.k:=D.k
 have ea:(yf gone (zn (zy ns))).asks=ns.asks:=D.asks
 have er:(yf gone (zn (zy ns))).room=ns.room:=D.room
 have eq:(yf gone (zn (zy ns))).kept=ns.kept:=D.kept
 have sub:∀ l j,((yf gone (zn (zy ns))).lines l j).Sublist (ns.lines l j):=fun l j=>by rw [D.lines]; exact qP (ns:=zn (zy ns))
 have X:=QW (n0:=yf gone (zn (zy ns))) (gone:=gone) (by rw [ek]; exact h.nw.nr.k4) (i:=ns.k) ⟨Same5.refl _,fun l j hl hj w hw=>by
  rw [ek] at hl hj ⊢
  rw [ea]
  exact h.en l j hl hj w ((sub l j).mem hw),fun a b ha=>by
  rw [er]; exact Nat.le_trans (sub a b).length_le (h.rm a b ha),fun a b=>by
  rw [eq,D.keep]
  have e:(zn (zy ns)).keep a b=ns.keep a b - if 1<=a /\ a<=ns.k then (zR (gq (a,b)) (sB (zy ns) (ns.k - a+1)):Int) else 0:=Vo (ns:=zy ns) (i:=ns.k)
  have:=h.kl a b
  rw [e]
  split <;> omega,fun j=>by
  obtain ⟨h1,h2⟩:=h.lo j
  exact ⟨fun w hw=>h1 w ((sub 0 j).mem hw),h2.sublist (sub 0 j)⟩⟩ (by rw [ek]; exact Nat.le_refl _)
 have eg:zK gone ns=passA gone (yf gone (zn (zy ns))) ns.k:=rfl
 rw [← eg] at X
 refine ⟨B,?_,?_,?_,X.lo⟩
 ·show ∀ l j,l<=(zK gone ns).k->j < 2 ^ (zK gone ns).k -> ∀ w ∈ (zK gone ns).lines l j,Ent (zK gone ns).k (zK gone ns).asks l j w
  have:=X.en
  rw [ek,ea] at this
  rw [G.k,G.asks]; exact this
 ·show ∀ a b,1<=a->((zK gone ns).lines a b).length<=(zK gone ns).room
  rw [G.room,← er]; exact X.rm
 ·show ∀ a b,(zK gone ns).keep a b<=(zK gone ns).kept
  rw [G.kept,← eq]; exact X.kl
theorem ZY {g h:Wt->Nat}:∀ {ws:List Wt},(∀ w ∈ ws,g w<=h w)->zR g ws<=zR h ws
 | [],_=>Nat.le_refl _
 | w :: ws,e=>by
  rw [zL,zL]
  exact Nat.add_le_add (e w (List.mem_cons_self ..)) (ZY fun v hv=>e v (List.mem_cons_of_mem _ hv))
theorem t7:∀ {n:Nat} {F G:Nat->Nat},(∀ i < n,F i<=G i)->ug n F<=ug n G
 | 0,_,_,_=>Nat.le_refl _
 | n+1,F,G,h=>by rw [yb,yb]; exact Nat.add_le_add (t7 fun i hi=>h i (by omega)) (h n (by omega))
theorem RV {k:Nat} {f:Nat->Nat->List Wt} {g h:Wt->Nat} (e:∀ l j,l<=k->j < 2 ^ k -> ∀ w ∈ f l j,g w<=h w):wsN k f g<=wsN k f h :=
 t7 fun l hl=>t7 fun j hj=>ZY (e l j (by omega) hj)
def UL (P:List (Nat × Nat)) (F:Nat × Nat->Nat):Nat:=(P.map F).sum
theorem Vt {a m i:Nat}:y8 a m (i+1) 0=y8 a m i 0 ++ (List.range m).map fun y=>(a+i,y):=by
 rw [← rJ]; unfold y8; simp
theorem Vu {k:Nat} {f:Nat->Nat->List Wt} {g:Wt->Nat}:wsN k f g=UL (y8 0 (2 ^ k) (k+1) 0) fun q=>zR g (f q.1 q.2):=by
 have app:∀ (A B:List (Nat × Nat)) (F:Nat × Nat->Nat),UL (A ++ B) F=UL A F+UL B F:=fun A B F=>by unfold UL; rw [List.map_append,List.sum_append]
 have key:∀ i,ug i (fun l=>ug (2 ^ k) fun j=>zR g (f l j))=UL (y8 0 (2 ^ k) i 0) fun q=>zR g (f q.1 q.2):=fun i=>by
  induction i with
  | zero=>rfl
  | succ i ih =>
   rw [yb,ih,Vt,app]
   congr 1
   unfold UL ug
   rw [List.map_map]
   refine congrArg List.sum (List.map_congr_left fun j _=>?_)
   show _=zR g (f (0+i) j)
   rw [Nat.zero_add]
 exact key (k+1)
def rP (K:JN):Sp:=sp3 fun x y z H Q=>∃ (a k m:Nat),x = .int a /\ y = .int k /\ z = .int m /\ a<=1 /\ k<=4 /\ m<=16 /\ ∀ r H',Grow [] H H' -> H r=none->QV K H' (.ref r) (y8 a m (k+1 - a) 0)->Q (.ref r) H'
theorem RW {xs:List V} {y:V}:atI (xs ++ [y]) (-1)=some y:=by
 refine Rs (j:=xs.length) ?_ ?_
 ·unfold ixN
  rw [List.length_append,if_neg (by decide),if_pos (by show -((xs.length+1:Nat):Int) <= -1; omega)]
  exact congrArg some (by show (-1+((xs.length+1:Nat):Int)).toNat=xs.length; omega)
 ·rw [List.getElem?_append_right (Nat.le_refl _),Nat.sub_self]; rfl
theorem ZZ {g g':List (Nat × Nat)} (h:∀ q,q ∈ g ↔ q ∈ g'):tM g=tM g':=by
 funext k st side
 unfold tM
 cases st.2 k side with
 | nil=>rfl
 | cons w r =>
  show (if (0,side) ∈ g then _ else _)=if (0,side) ∈ g' then _ else _
  by_cases c:(0,side) ∈ g
  ·rw [if_pos c,if_pos ((h _).mp c)]
  ·rw [if_neg c,if_neg fun z=>c ((h _).mpr z)]
theorem j4 {g g':List (Nat × Nat)} (h:∀ q,q ∈ g ↔ q ∈ g'):xI g=xI g':=by
 funext s ns n
 unfold xI
 by_cases c:(s,n) ∈ g
 ·rw [if_pos c,if_pos ((h _).mp c)]
 ·rw [if_neg c,if_neg fun z=>c ((h _).mpr z)]
theorem rQ {g g':List (Nat × Nat)} (h:∀ q,q ∈ g ↔ q ∈ g') (ns:NS):zK g ns=zK g' ns:=by
 have e1:=ZZ h
 have e2:=j4 h
 simp only [zK,passA,passS,yf,Xy,zO,e1,e2]
theorem rR {g g':List (Nat × Nat)} (h:∀ q,q ∈ g ↔ q ∈ g') (ns:NS):beatS g ns=beatS g' ns:=by
 unfold beatS; rw [rQ h]
theorem Vv {l l' m:List (Nat × Int)} (p:l.Perm m) (w:l.Pairwise fun a b=>a.1 < b.1) (p':l'.Perm m) (w':l'.Pairwise fun a b=>a.1 < b.1):l=l':=by
 refine List.Perm.eq_of_pairwise (le:=fun a b=>a.1 < b.1) (fun a b _ _ h1 h2=>?_) w w' (p.trans p'.symm)
 omega
structure NB (B:Int) (ns:NS):Prop where
 b0:0<=B
 ab:∀ a ∈ ns.asks,a.deed.Bd B
 lb:∀ l j,l<=ns.k->j < 2 ^ ns.k -> ∀ w ∈ ns.lines l j,w.deed.Bd ((w.nums.length:Int) * B)
 bb:InC (((ns.log.length+1:Nat):Int) * B) ns.boxes
 fb:∀ p ∈ ns.fnd,-(((ns.log.length+1:Nat):Int) * B)<=p.2 /\ p.2<=((ns.log.length+1:Nat):Int) * B
 sb:∀ p ∈ ns.ans,-(((ns.log.length+1:Nat):Int) * B)<=p.2 /\ p.2<=((ns.log.length+1:Nat):Int) * B
theorem YR {B:Int} (h:0<=B) {m n:Nat} (e:m<=n):(m:Int) * B<=(n:Int) * B:=Int.mul_le_mul_of_nonneg_right (Int.ofNat_le.mpr e) h
theorem NB.new {B:Int} (h:0<=B) {k room kept:Nat} {b:List Int} (hb:InC B b):NB B (sG k b room kept) :=
 ⟨h,fun a ha=>(by cases ha),fun _ _ _ _ w hw=>(by cases hw),fun v hv=>(by show -(((0+1:Nat):Int) * B)<=v /\ v<=((0+1:Nat):Int) * B; have:=hb v hv; omega),fun p hp=>(by cases hp),fun p hp=>(by cases hp)⟩
theorem NB.put {B:Int} {ns:NS} (h:NB B ns) {a:Ask} (ha:a.deed.Bd B):NB B (putS ns a):=by
 refine ⟨h.b0,fun x hx=>?_,fun l j hl hj w hw=>?_,h.bb,h.fb,h.sb⟩
 ·rcases List.mem_append.mp hx with z | z
  ·exact h.ab x z
  ·rw [List.mem_singleton.mp z]; exact ha
 ·have hw:w ∈ yh ns.lines 0 a.hand.toNat (ns.lines 0 a.hand.toNat ++ [⟨a.box.toNat,a.deed,[ns.asks.length],[]⟩]) l j:=hw
  by_cases c:l=0 /\ j=a.hand.toNat
  ·have hl':l<=ns.k:=hl
   have hj':j < 2 ^ ns.k:=hj
   rw [c.1,c.2,zw,List.mem_append] at hw
   rcases hw with hw | hw
   ·exact h.lb 0 _ (Nat.zero_le _) (by rw [← c.2]; exact hj') w hw
   ·rw [List.mem_singleton.mp hw]
    show a.deed.Bd (((1:Nat):Int) * B)
    rw [show ((1:Nat):Int) * B=B by omega]; exact ha
  ·rw [zB c] at hw
   exact h.lb l j hl hj w hw
theorem YS {f:List (Nat × Int)} {n:Nat} {v:Int} {p:Nat × Int} (h:p ∈ vz f n v):p ∈ f \/ p=(n,v):=by
 unfold vz at h
 split at h
 ·obtain ⟨q,hq,e⟩:=List.mem_map.mp h
  split at e
  ·exact .inr e.symm
  ·exact .inl (e ▸ hq)
 ·rcases List.mem_append.mp h with h | h
  ·exact .inl h
  ·exact .inr (List.mem_singleton.mp h)
structure DB (B:Int) (ns:NS):Prop where
 b0:0<=B
 ab:∀ a ∈ ns.asks,a.deed.Bd B
 bb:InC (((ns.log.length+1:Nat):Int) * B) ns.boxes
 fb:∀ p ∈ ns.fnd,-(((ns.log.length+1:Nat):Int) * B)<=p.2 /\ p.2<=((ns.log.length+1:Nat):Int) * B
theorem JK {B:Int} (h:0<=B):(default:Ask).deed.Bd B:=⟨⟨by show -B<=0; omega,h⟩,fun _ z=>(by cases z),fun _ z=>(by cases z)⟩
theorem DB.one {B:Int} {ns:NS} (h:DB B ns) (b n:Nat):DB B (doN b ns n):=by
 have el:(doN b ns n).log.length=ns.log.length+1:=by show (ns.log ++ [n]).length=_; rw [List.length_append]; rfl
 have up:=YR h.b0 (show ns.log.length+1<=ns.log.length+1+1 by omega)
 have e2:((ns.log.length+1+1:Nat):Int) * B=B+((ns.log.length+1:Nat):Int) * B:=by rw [show ((ns.log.length+1+1:Nat):Int)=1+((ns.log.length+1:Nat):Int) by omega,Int.add_mul,Int.one_mul]
 have hz:0<=((ns.log.length+1:Nat):Int) * B:=Int.mul_nonneg (Int.natCast_nonneg _) h.b0
 have hv:-(((ns.log.length+1:Nat):Int) * B)<=ns.boxes.getD b 0 /\ ns.boxes.getD b 0<=((ns.log.length+1:Nat):Int) * B:=by
  rw [List.getD_eq_getElem?_getD]
  cases e:ns.boxes[b]? with
  | none=>exact ⟨by show _<=(0:Int); omega,hz⟩
  | some v=>exact h.bb v (List.mem_of_getElem? e)
 have hd:(ns.asks.getD n default).deed.Bd B:=by
  rw [List.getD_eq_getElem?_getD]
  cases e:ns.asks[n]? with
  | none=>exact JK h.b0
  | some a=>exact h.ab a (List.mem_of_getElem? e)
 refine ⟨h.b0,h.ab,fun v hv'=>?_,fun p hp=>?_⟩
 ·rw [el,e2]
  rcases List.mem_or_eq_of_mem_set hv' with z | z
  ·have:=h.bb v z; have:=h.b0; omega
  ·rw [z]
   exact TQ hd h.b0 hv.1 hv.2 hz
 ·rw [el]
  have hp:p ∈ vz ns.fnd n (ns.boxes.getD b 0):=hp
  rcases YS hp with z | z
  ·have:=h.fb p z; omega
  ·rw [z]; show _<=ns.boxes.getD b 0 /\ ns.boxes.getD b 0<=_; omega
theorem DB.nums {B:Int} {b:Nat}:∀ {l:List Nat} {ns:NS},DB B ns->DB B (l.foldl (doN b) ns)
 | [],_,h=>h
 | n :: l,ns,h=>DB.nums (l:=l) (ns:=doN b ns n) (h.one b n)
theorem DB.all {B:Int}:∀ {l:List Wt} {ns:NS},DB B ns->DB B (l.foldl doW ns)
 | [],_,h=>h
 | w :: l,ns,h=>DB.all (l:=l) (ns:=doW ns w) h.nums
theorem qQ {f:List (Nat × Int)} {n:Nat} {v:Int} (h:wo f n=some v):(n,v) ∈ f:=by
 unfold wo at h
 cases e:f.find? (fun p=>decide (p.1=n)) with
 | none=>rw [e] at h; cases h
 | some p =>
  rw [e] at h
  have h1:=List.mem_of_find?_eq_some e
  have h2:p.1=n:=of_decide_eq_true (p:=p.1=n) (List.find?_some (p:=fun p:Nat × Int=>decide (p.1=n)) e)
  have h3:p.2=v:=Option.some.inj h
  rw [← h2,← h3]; exact h1
theorem qR:∀ {l f:List (Nat × Int)} {p:Nat × Int},p ∈ l.foldl (fun f p=>vz f p.1 p.2) f->p ∈ f \/ p ∈ l
 | [],f,p,h=>.inl h
 | q :: l,f,p,h=>by
  rcases qR (l:=l) (f:=vz f q.1 q.2) h with z | z
  ·rcases YS z with z | z
   ·exact .inl z
   ·exact .inr (by rw [z]; exact List.mem_cons_self ..)
  ·exact .inr (List.mem_cons_of_mem _ z)
theorem NB.beat {B:Int} {ns:NS} (h:NB B ns) (nw:NW ns) (now:ns.now < 10000) (gone:List (Nat × Nat)):NB B (beatS gone ns):=by
 have G:=Vq nw now gone
 have D:=XI gone (zn (zy ns))
 have ek:(yf gone (zn (zy ns))).k=ns.k:=D.k
 have k4:=nw.nr.k4
 have sub:∀ l j,((yf gone (zn (zy ns))).lines l j).Sublist (ns.lines l j):=fun l j=>by rw [D.lines]; exact qP (ns:=zn (zy ns))
 have T:DB B (yf gone (zn (zy ns))):=DB.all (l:=(zO gone (zn (zy ns)) (2 ^ (zn (zy ns)).k)).1) (ns:=Xy gone (zn (zy ns))) ⟨h.b0,h.ab,h.bb,h.fb⟩
 have X:=vL (P:=fun n=>Same5 n (yf gone (zn (zy ns))) /\ ∀ l j,l<=ns.k->j < 2 ^ ns.k -> ∀ w ∈ n.lines l j,w.deed.Bd ((w.nums.length:Int) * B)) (gone:=gone) (n:=yf gone (zn (zy ns))) (fun n h=>by rw [h.1.k,ek]; exact k4) (fun n s l hh s1 sk hl=>by
  have C:=Va n s l
  have en:n.k=ns.k:=hh.1.k.trans ek
  refine ⟨C.same.trans hh.1,?_⟩
  have:=C.allP (P:=fun a b w=>w.deed.Bd ((w.nums.length:Int) * B)) (by rw [en]; exact k4) s1 sk hl (by rw [en]; exact hh.2) (fun c hc=>hc) fun o w c hw hc e=>by
   show (uL w.deed c.deed).Bd (((w.nums ++ c.nums).length:Int) * B)
   rw [List.length_append,show (((w.nums.length+c.nums.length:Nat)):Int)=(w.nums.length:Int)+c.nums.length by omega,Int.add_mul]
   exact V9 hw hc (Int.mul_nonneg (Int.natCast_nonneg _) h.b0) (Int.mul_nonneg (Int.natCast_nonneg _) h.b0)
  rw [en] at this; exact this) (i:=ns.k) ⟨Same5.refl _,fun l j hl hj w hw=>h.lb l j hl hj w ((sub l j).mem hw)⟩ (by rw [ek]; exact Nat.le_refl _)
 have eg:zK gone ns=passA gone (yf gone (zn (zy ns))) ns.k:=rfl
 rw [← eg] at X
 have S:=X.1
 have lle:ns.log.length<=(zK gone ns).log.length:=by rw [G.log,List.length_append]; omega
 have up:=YR h.b0 (show ns.log.length+1<=(zK gone ns).log.length+1 by omega)
 have fb:∀ p ∈ (zK gone ns).fnd,-((((zK gone ns).log.length+1:Nat):Int) * B)<=p.2 /\ p.2<=(((zK gone ns).log.length+1:Nat):Int) * B:=by rw [S.fnd,S.log]; exact T.fb
 refine ⟨h.b0,by show ∀ a ∈ (zK gone ns).asks,_; rw [G.asks]; exact h.ab,?_,?_,fb,fun p hp=>?_⟩
 ·show ∀ l j,l<=(zK gone ns).k->j < 2 ^ (zK gone ns).k -> ∀ w ∈ (zK gone ns).lines l j,_
  rw [G.k]; exact X.2
 ·show InC ((((zK gone ns).log.length+1:Nat):Int) * B) (zK gone ns).boxes
  rw [S.boxes,S.log]; exact T.bb
 ·show -((((zK gone ns).log.length+1:Nat):Int) * B)<=p.2 /\ p.2<=(((zK gone ns).log.length+1:Nat):Int) * B
  have hp:p ∈ (sF (yV (zK gone ns))).foldl (fun f p=>vz f p.1 p.2) (zK gone ns).ans:=hp
  rcases qR hp with z | z
  ·rw [G.ans] at z
   have:=h.sb p z
   omega
  ·unfold sF at z
   rcases qR z with z | z
   ·cases z
   ·unfold yV at z
    obtain ⟨w,hw,z⟩:=List.mem_flatMap.mp z
    unfold uN at z
    obtain ⟨n,hn,rfl⟩:=List.mem_map.mp z
    show _<=(wo (zK gone ns).fnd n).getD 0 /\ (wo (zK gone ns).fnd n).getD 0<=_
    cases e:wo (zK gone ns).fnd n with
    | none =>
     have hz:0<=(((zK gone ns).log.length+1:Nat):Int) * B:=Int.mul_nonneg (Int.natCast_nonneg _) h.b0
     exact ⟨by show _<=(0:Int); omega,hz⟩
    | some v=>exact fb (n,v) (qQ e)
theorem Sz {B:Int} {ns:NS} (h:NB B ns) (nw:NW ns) (now:ns.now < 10000) (gone:List (Nat × Nat)):∀ p ∈ yV (zK gone ns),p.1 < 40 /\ -(41 * B)<=p.2 /\ p.2<=41 * B:=by
 intro p hp
 have G:=Vq nw now gone
 have D:=XI gone (zn (zy ns))
 have T:DB B (yf gone (zn (zy ns))):=DB.all (l:=(zO gone (zn (zy ns)) (2 ^ (zn (zy ns)).k)).1) (ns:=Xy gone (zn (zy ns))) ⟨h.b0,h.ab,h.bb,h.fb⟩
 have S:Same5 (zK gone ns) (yf gone (zn (zy ns))):=xv gone (yf gone (zn (zy ns))) ns.k
 have l40:(zK gone ns).log.length<=40:=by
  have h1:=G.nr.tot
  have h2:=G.nr.a40
  omega
 have up:=YR h.b0 (show (zK gone ns).log.length+1<=41 by omega)
 unfold yV at hp
 obtain ⟨w,hw,z⟩:=List.mem_flatMap.mp hp
 unfold uN at z
 obtain ⟨n,hn,rfl⟩:=List.mem_map.mp z
 refine ⟨?_,?_⟩
 ·unfold sB at hw
  split at hw
  ·rename_i c
   have:=(G.nr.dw _ (by omega) c.2 w hw).nm n hn
   have:=G.nr.a40
   show n < 40
   omega
  ·cases hw
 ·show _<=(wo (zK gone ns).fnd n).getD 0 /\ (wo (zK gone ns).fnd n).getD 0<=_
  have b0:=h.b0
  cases e:wo (zK gone ns).fnd n with
  | none=>exact ⟨by show _<=(0:Int); omega,by show (0:Int)<=_; omega⟩
  | some v =>
   have:=T.fb (n,v) (by rw [← S.fnd]; exact qQ e)
   rw [← S.log] at this
   have e2:((41:Nat):Int) * B=41 * B:=rfl
   show _<=v /\ v<=_
   have t1:-((((zK gone ns).log.length+1:Nat):Int) * B)<=v:=this.1
   have t2:v<=(((zK gone ns).log.length+1:Nat):Int) * B:=this.2
   omega
theorem Z0 {α:Type} {f:α -> PyData} {w:α -> Nat} {n:Nat}:∀ {xs:List α},(∀ x ∈ xs,Sh (f x) (w x) n)->ShA (xs.map f) ((xs.map fun x=>w x+2).sum) n
 | [],_=>ub
 | x :: xs,h=>z9 (h x (by simp)) (Z0 (xs:=xs) fun y hy=>h y (List.mem_cons_of_mem _ hy))
def RX (l:List Nat):PyData:=.tuple (l.map fun n:Nat=>.int n)
def w3D (w:Wt):PyData:=.tuple [.int w.box,Ue w.deed,RX w.nums]
def UM (ns:NS) (q:Nat × Nat):PyData:=.tuple ((ns.lines q.1 q.2).map w3D)
def Tf (ns:NS):PyData:=.list ((y8 0 (2 ^ ns.k) (ns.k+1) 0).map (UM ns))
def Tg (ns:NS):PyData:=.list ((y8 1 (2 ^ (ns.k - 1)) ns.k 0).map fun q=>.int (ns.keep q.1 q.2))
def Jg (ns:NS):PyData:=.list ((List.range ns.asks.length).map fun n=>oD (wo ns.ans n))
def vO (ns:NS):PyData:=.list [Tf ns,Tg ns,jF ns.boxes,jF (ns.log.map Int.ofNat),.int ns.now,.int ((ns.asks.length:Int) - ns.ans.length),Jg ns]
def se (l:List (Nat × Int)):PyData:=.tuple (l.map fun p=>jF [(p.1:Int),p.2])
theorem uT {n:Nat} (h:n < 2 ^ 100):Rr (n:Int):=⟨by omega,by omega⟩
theorem SA {l:List Nat} {n:Nat} (h:∀ x ∈ l,x < 2 ^ 100):Sh (RX l) (l.length * 1923+3) (n+1):=tE (uc fun x hx=>uE (uT (h x hx)))
theorem qS {B:Int} {ns:NS} (hB:B<=10 ^ 30) (nx:NX ns) (nb:NB B ns):Sh (vO ns) 1000000 6:=by
 have nr:=nx.nw.nr
 have l40:=nx.nw.l40
 have a40:=nr.a40
 have b0:=nb.b0
 have B41:∀ m:Nat,m<=41->(m:Int) * B<=41 * 10 ^ 30:=fun m hm=>Int.le_trans (YR b0 hm) (by have:((41:Nat):Int) * B<=((41:Nat):Int) * 10 ^ 30:=Int.mul_le_mul_of_nonneg_left hB (by decide); exact this)
 have p16:=ue nr.k4
 have W:∀ q ∈ y8 0 (2 ^ ns.k) (ns.k+1) 0,Sh (UM ns q) ((zR (fun w=>12000 * xG w) (ns.lines q.1 q.2))+3) 4:=fun q hq=>by
  have hq':q.1<=ns.k /\ q.2 < 2 ^ ns.k:=by
   rcases xt.mp hq with ⟨h0,h1,h2⟩ | ⟨_,h2⟩
   ·exact ⟨by omega,h2⟩
   ·exact absurd h2 (Nat.not_lt_zero _)
  have:=Z0 (f:=w3D) (w:=fun w=>12000 * xG w - 2) (n:=3) (xs:=ns.lines q.1 q.2) fun w hw=>by
   have O:=nr.lw q.1 q.2 hq'.1 hq'.2 w hw
   have wl:w.nums.length<=40:=Nat.le_trans (uR (g:=xG) hw) (vG nr hq'.1 hq'.2).2
   have n1:1<=w.nums.length:=by
    cases e:w.nums with
    | nil=>exact absurd e O.ne
    | cons a b=>exact Nat.succ_le_succ (Nat.zero_le _)
   have hb:w.box < 2 ^ 100:=Nat.lt_of_lt_of_le O.bx (Nat.le_trans nr.b16 (by decide))
   refine (tE (z9 (uE (uT hb)) (z9 ((nb.lb q.1 q.2 hq'.1 hq'.2 w hw).sh (n:=1) (Int.le_trans (B41 _ (by omega)) (by decide))) (z9 (SA (n:=1) fun x hx=>Nat.lt_of_lt_of_le (O.nm x hx) (Nat.le_trans a40 (by decide))) ub)))).mono ?_ (by decide)
   show _<=12000 * w.nums.length - 2
   omega
  have e:((ns.lines q.1 q.2).map fun w=>12000 * xG w - 2+2).sum<=zR (fun w=>12000 * xG w) (ns.lines q.1 q.2):=by
   refine Nat.le_of_eq (congrArg List.sum (List.map_congr_left fun w hw=>?_))
   have O:=nr.lw q.1 q.2 hq'.1 hq'.2 w hw
   have n1:1<=w.nums.length:=by
    cases e:w.nums with
    | nil=>exact absurd e O.ne
    | cons a b=>exact Nat.succ_le_succ (Nat.zero_le _)
   show 12000 * w.nums.length - 2+2=12000 * w.nums.length
   omega
  exact (tE this).mono (by omega) (Nat.le_refl _)
 have hl:(y8 0 (2 ^ ns.k) (ns.k+1) 0).length<=1000:=Nat.le_of_lt (vJ p16 (by have:=nr.k4; omega) (by omega))
 have hs:∀ P:List (Nat × Nat),(P.map fun q=>zR (fun w=>12000 * xG w) (ns.lines q.1 q.2)+3+2).sum=12000 * (UL P fun q=>zR xG (ns.lines q.1 q.2))+5 * P.length:=fun P=>by
  have lm:∀ ws:List Wt,zR (fun w=>12000 * xG w) ws=12000 * zR xG ws:=fun ws=>by
   induction ws with
   | nil=>rfl
   | cons w ws ih=>rw [zL,zL,ih,Nat.mul_add]
  induction P with
  | nil=>rfl
  | cons q P ih =>
   show zR _ (ns.lines q.1 q.2)+3+2+(P.map _).sum=12000 * (zR xG (ns.lines q.1 q.2)+UL P fun q=>zR xG (ns.lines q.1 q.2))+5 * (P.length+1)
   rw [ih,lm]; omega
 have tot:=nr.tot
 rw [Vu] at tot
 have S1:Sh (Tf ns) 500000 5:=(Yw (Z0 W)).mono (by rw [hs]; omega) (Nat.le_refl _)
 have S2:Sh (Tg ns) 160000 5:=by
  have hl2:(y8 1 (2 ^ (ns.k - 1)) ns.k 0).length<=64:=by
   have:∀ k:Fin 5,(y8 1 (2 ^ (k.val - 1)) k.val 0).length<=64:=by decide
   exact this ⟨ns.k,by have:=nr.k4; omega⟩
  refine (Yw (n:=4) (uc (w:=1921) fun q hq=>uE ?_)).mono (by have:=Nat.mul_le_mul_right (1921+2) hl2; omega) (by decide)
  have q1:1<=q.1 /\ q.1<=ns.k /\ q.2 < 2 ^ (ns.k - 1):=by
   rcases xt.mp hq with ⟨h0,h1,h2⟩ | ⟨_,h2⟩
   ·exact ⟨h0,by omega,h2⟩
   ·exact absurd h2 (Nat.not_lt_zero _)
  have k1:=nx.nw.kp q.1 q.2 q1.1 q1.2.1 q1.2.2
  have k3:(wsN ns.k ns.lines (gq (q.1,q.2))+XJ ns.now (ns.k - q.1+1) (fun t=>zR (gq (q.1,q.2)) (ns.done t)):Nat) < 2 ^ 100:=by
   refine Nat.lt_of_le_of_lt (Nat.add_le_add (b:=40 * 40) (d:=5 * (40 * 40)) ?_ ?_) (by decide)
   ·refine Nat.le_trans (RV (h:=xG) fun l j hl hj w hw=>?_) (by rw [← Vu] at tot; omega)
    have O:=nr.lw l j hl hj w hw
    have:=O.ln
    exact Nat.le_trans (List.count_le_length ..) (by show w.met.length<=w.nums.length; omega)
   ·have key:∀ t,1<=t->t<=ns.now->zR (gq (q.1,q.2)) (ns.done t)<=40 * 40:=fun t t1 t2=>by
     have h1:zR (gq (q.1,q.2)) (ns.done t)<=zR xG (ns.done t):=ZY fun w hw=>by
      have O:=nr.dw t t1 (by rw [nx.nw.nd]; exact t2) w hw
      have:=O.ln
      exact Nat.le_trans (List.count_le_length ..) (by show w.met.length<=w.nums.length; omega)
     have h2:zR xG (ns.done t)=(xj (ns.done t)).length:=(vH).symm
     obtain ⟨r,hr⟩:=vM (d:=ns.done) (m:=t) (n:=ns.now) t2
     have h3:=congrArg List.length (nx.nw.lg.trans hr)
     obtain ⟨t',rfl⟩:∃ t',t=t' + 1:=⟨t - 1,by omega⟩
     rw [xT,List.length_append,List.length_append] at h3
     omega
    unfold XJ
    have:∀ n:Nat,ug n (fun i=>if i < ns.now then zR (gq (q.1,q.2)) (ns.done (ns.now - i)) else 0)<=n * (40 * 40):=fun n=>by
     induction n with
     | zero=>exact Nat.zero_le _
     | succ n ih =>
      rw [yb,Nat.succ_mul]
      refine Nat.add_le_add ih ?_
      split
      ·exact key _ (by omega) (by omega)
      ·exact Nat.zero_le _
    exact Nat.le_trans (this _) (Nat.mul_le_mul_right _ (by have:=nr.k4; omega))
  rw [k1]; exact uT k3
 have S3:Sh (jF ns.boxes) 40000 5:=(ZG (n:=0) ((nb.bb.mono (B41 _ (by omega))).inB (by decide))).mono (by have:=Nat.mul_le_mul_right 1923 nr.b16; omega) (by decide)
 have S4:Sh (jF (ns.log.map Int.ofNat)) 80000 5:=(ZG (n:=0) fun v hv=>by
  obtain ⟨n,hn,rfl⟩:=List.mem_map.mp hv
  have:n < 40:=by
   have h1:=nx.nw.cnt n
   have h2:=List.count_pos_iff.mpr hn
   split at h1 <;> omega
  show -(2 ^ 300) < (n:Int) /\ (n:Int) < 2 ^ 300
  omega).mono (by rw [List.length_map]; have:=Nat.mul_le_mul_right 1923 l40; omega) (by decide)
 have S5:Sh (.int (ns.now:Int)) 1921 5:=uE (uT (Nat.lt_of_le_of_lt nr.nw (by decide)))
 have al:ns.ans.length<=40:=by
  have h1:=congrArg List.length nx.nw.an
  rw [List.length_map] at h1
  obtain ⟨r,hr⟩:=vM (d:=ns.done) (m:=ns.now - ns.k) (n:=ns.now) (by omega)
  have h2:=congrArg List.length (nx.nw.lg.trans hr)
  rw [List.length_append] at h2
  omega
 have S6:Sh (.int ((ns.asks.length:Int) - ns.ans.length)) 1921 5:=uE ⟨by omega,by omega⟩
 have S7:Sh (Jg ns) 80000 5:=(Yw (n:=4) (uc (w:=1921) fun n hn=>TX fun i e=>by
  have:=nb.sb _ (qQ e)
  have h2:=B41 (ns.log.length+1) (by omega)
  have h3:(41 * 10 ^ 30:Int) < 2 ^ 199:=by decide
  exact ⟨by omega,by omega⟩)).mono (by rw [List.length_range]; have:=Nat.mul_le_mul_right (1921+2) a40; omega) (by decide)
 exact (Yw (z9 S1 (z9 S2 (z9 S3 (z9 S4 (z9 S5 (z9 S6 (z9 S7 ub)))))))).mono (by decide) (by decide)
theorem SB {B:Int} {ns:NS} (hB:B<=10 ^ 30) (h:NB B ns) (nw:NW ns) (now:ns.now < 10000) {gone:List (Nat × Nat)} {l:List (Nat × Int)} (p:l.Perm (yV (zK gone ns))):Sh (se l) 160000 3:=by
 have l40:l.length<=40:=by rw [p.length_eq]; exact (nw.beat now gone).1.l40
 have T:=Sz h nw now gone
 have h2:(41:Int) * B<=41 * 10 ^ 30:=Int.mul_le_mul_of_nonneg_left hB (by decide)
 refine (tE (uc (w:=2 * 1923+3) fun x hx=>ZG (n:=1) (InC.inB (C:=42 * 10 ^ 30) (fun v hv=>?_) (by decide)))).mono (by have:=Nat.mul_le_mul_right (2 * 1923+3+2) l40; omega) (by decide)
 obtain ⟨h1,h3,h4⟩:=T x (p.mem_iff.mp hx)
 clear T hx p
 simp only [List.mem_cons,List.not_mem_nil,or_false] at hv
 rcases hv with rfl | rfl <;> omega
def JL (t:TE):TE:=fun σ H Q=>t σ H fun x H1=>∃ a xs,x = .ref a /\ H1 a=some (.lst xs) /\ ∀ o,Q (.ref a) (JQ H1 a (.frz o (.lst xs)))
theorem YT {X:Cx} {e:Expr} {t:TE} (h:PE X e t):PE X e (JL t):=by
 intro pins s σ H Q I ht
 refine wpAny_mono (h pins s σ H _ I ht) (fun u s1 hq=>?_) (fun _ _ z=>z)
 obtain ⟨x,H1,I1,r1,a,xs,rfl,ha,q⟩:=hq
 obtain ⟨z,its,n,vr,g⟩:=(show yw X.prog X.w H1 s1.heap a (.lst xs) from I1.hok a _ ha)
 have I2:Inv X pins σ (JQ H1 a (.frz _ (.lst xs))) { s1 with heap:=s1.heap,toks:=s1.toks }:=qr I1 (by rw [ha]; trivial) (Heap.SameBut.refl ..) ⟨_,g⟩ ⟨g,z,its,n,vr,g⟩
 exact ⟨_,_,I2,r1,q _⟩
theorem Grow.frzL {m:List Addr} {H:Hp} {d:Addr} {xs:List V} {o:Obj} (h:H d=some (.lst xs)) (hm:d ∈ m):Grow m H (JQ H d (.frz o (.lst xs))) :=
 ⟨fun b u hb q=>by rw [zu (show b ≠ d from fun z=>hb (by rw [z]; exact hm))]; exact q,fun b zs q=>by rw [zu (fun z=>by subst z; rw [h] at q; cases q)]; exact q,fun b u v q=>by rw [zu (fun z=>by subst z; rw [h] at q; cases q)]; exact q⟩
theorem Grow.newF {m:List Addr} {H:Hp} {d:Addr} {xs:List V} {o:Obj} (h:H d=none):Grow m H (JQ (JQ H d (.lst xs)) d (.frz o (.lst xs))) :=
 ((Grow.new (m:=[d]) h (.lst xs)).trans (Grow.frzL zc (by simp))).less fun b hb=>.inr (by rw [List.mem_singleton.mp hb]; exact h)
def wj (K:JN) (H:Hp) (x:V) (d:PyData):Prop:=∀ m H',Grow m H H' -> Dat K H' x d
section
variable {K:JN} {H H':Hp} {m:List Addr}
theorem wj.dat {x:V} {d:PyData} (h:wj K H x d):Dat K H x d:=h [] H (Grow.refl _ _)
theorem wj.grow {x:V} {d:PyData} (h:wj K H x d) (g:Grow m H H'):wj K H' x d:=fun m' H2 g2=>h (m ++ m') H2 ((g.mono fun b hb=>List.mem_append_left _ hb).trans (g2.mono fun b hb=>List.mem_append_right _ hb))
theorem vP:∀ {xs:List V} {ds:List PyData},zT (Dat K H) xs ds->DatAll K H xs ds
 | [],[],_=>.nil
 | _ :: _,_ :: _,h=>.cons h.1 (vP h.2)
 | [],_ :: _,h=>h.elim
 | _ :: _,[],h=>h.elim
theorem sf {β γ:Type} {R:V -> γ -> Prop} {f:β -> γ}:∀ {xs:List V} {bs:List β},zT (fun x b=>R x (f b)) xs bs->zT R xs (bs.map f)
 | [],[],_=>trivial
 | _ :: _,_ :: _,h=>⟨h.1,sf h.2⟩
 | [],_ :: _,h=>h.elim
 | _ :: _,[],h=>h.elim
theorem wj.tup {a:Addr} {xs:List V} {ds:List PyData} (h:J3 K H a xs) (hs:zT (wj K H) xs ds):wj K H (.ref a) (.tuple ds):=fun m H' g=>.tup (g.sqT h) (vP (hs.imp fun _ _ z=>z m H' g))
theorem wj.lst {a:Addr} {o:Obj} {xs:List V} {ds:List PyData} (h:H a=some (.frz o (.lst xs))) (hs:zT (wj K H) xs ds):wj K H (.ref a) (.list ds):=fun m H' g=>.lst (.inl (.inr ⟨o,g.frz _ _ _ h⟩)) (vP (hs.imp fun _ _ z=>z m H' g))
theorem wj.int (i:Int):wj K H (.int i) (.int i):=fun _ _ _=>.int i
theorem wj.oN (o:Option Int):wj K H (oN5 o) (oD o):=fun _ _ _=>by
 cases o with
 | none=>exact .non
 | some i=>exact .int i
theorem Vw {a:Addr} {b:List Int} (h:J3 K H a (b.map V.int)):wj K H (.ref a) (jF b):=fun m H' g=>.tup (g.sqT h) (Yv _)
theorem ux {x:V} {b:List Int} (h:xL K H x b):wj K H x (jF b):=by
 obtain ⟨r,rfl,h⟩:=h
 exact Vw h
theorem SC {x:V} {w:Wt} (h:Qa K H x w):wj K H x (w3D w):=by
 obtain ⟨r,rd,rn,rfl,h1,h2,h3⟩:=h
 refine .tup h1 ⟨.int _,fun m H' g=>Uf (g.sqT h2),fun m H' g=>.tup (g.sqT h3) (vP ?_),trivial⟩
 generalize w.nums=l
 induction l with
 | nil=>trivial
 | cons n l ih=>exact ⟨.int _,ih⟩
theorem Vx {x:V} {ws:List Wt} (h:∃ r ys,x = .ref r /\ J3 K H r ys /\ zT (Qa K H) ys ws):wj K H x (.tuple (ws.map w3D)):=by
 obtain ⟨r,ys,rfl,h1,h2⟩:=h
 exact .tup h1 (sf (h2.imp fun _ _ z=>SC z))
theorem Vy {x:V} {l:List (Nat × Int)} (h:Si K H x l):wj K H x (se l):=by
 obtain ⟨r,ys,rfl,h1,h2⟩:=h
 exact .tup h1 (sf (h2.imp fun _ _ z=>ux z))
end
structure Reg (H:Hp) (r:Nat->List Addr):Prop where
 dj:∀ i j x,i ≠ j->x ∈ r i->x ∉ r j
 al:∀ i x,x ∈ r i->H x ≠ none
def VQ (r:Nat->List Addr) (i:Nat) (R:List Addr):Nat->List Addr:=fun j=>if j=i then R else r j
theorem xD {r:Nat->List Addr} {i:Nat} {R:List Addr}:VQ r i R i=R:=if_pos rfl
theorem wb {r:Nat->List Addr} {i j:Nat} {R:List Addr} (h:j ≠ i):VQ r i R j=r j:=if_neg h
section
variable {K:JN} {C:Addr} {H H':Hp} {m:List Addr} {r:Nat->List Addr}
theorem Grow.some5 (g:Grow m H H') {x:Addr} (hm:x ∉ m) (h:H x ≠ none):H' x ≠ none:=by
 cases e:H x with
 | none=>exact absurd e h
 | some o=>rw [g.keep x o hm e]; exact fun z=>nomatch z
theorem Reg.grow (h:Reg H r) (i:Nat) {R:List Addr} (g:Grow m H H') (hm:∀ x ∈ m,x ∈ r i) (hR:∀ x ∈ R,(x ∈ r i \/ H x=none) /\ H' x ≠ none):Reg H' (VQ r i R):=by
 refine ⟨fun a b x ab ha hb=>?_,fun a x ha=>?_⟩
 ·by_cases c:a=i
  ·rw [c,xD] at ha
   by_cases d:b=i
   ·exact ab (c.trans d.symm)
   ·rw [wb d] at hb
    rcases (hR x ha).1 with z | z
    ·exact h.dj i b x (fun e=>d e.symm) z hb
    ·exact h.al b x hb z
  ·rw [wb c] at ha
   by_cases d:b=i
   ·rw [d,xD] at hb
    rcases (hR x hb).1 with z | z
    ·exact h.dj a i x c ha z
    ·exact h.al a x ha z
   ·rw [wb d] at hb
    exact h.dj a b x ab ha hb
 ·by_cases c:a=i
  ·rw [c,xD] at ha; exact (hR x ha).2
  ·rw [wb c] at ha
   exact g.some5 (fun z=>h.dj a i x c ha (hm x z)) (h.al a x ha)
theorem Reg.grow0 (h:Reg H r) (g:Grow [] H H'):Reg H' r:=⟨h.dj,fun i x hx=>g.some5 (by simp) (h.al i x hx)⟩
theorem Reg.same (h:Reg H r) (i:Nat) (g:Grow m H H') (hm:∀ x ∈ m,x ∈ r i) (hR:∀ x ∈ r i,H' x ≠ none):Reg H' r:=by
 have:=h.grow i (R:=r i) g hm fun x hx=>⟨.inl hx,hR x hx⟩
 have e:VQ r i (r i)=r:=by
  funext j
  by_cases c:j=i
  ·rw [c,xD]
  ·rw [wb c]
 rw [e] at this; exact this
theorem Reg.keep (h:Reg H r) {i j:Nat} (g:Grow m H H') (hm:∀ x ∈ m,x ∈ r i) (ij:i ≠ j) {x:Addr} {o:HO} (hx:x ∈ r j) (e:H x=some o):H' x=some o:=g.keep x o (fun z=>h.dj i j x ij (hm x z) hx) e
theorem Reg.net (h:Reg H r) {i j:Nat} (g:Grow m H H') (hm:∀ x ∈ m,x ∈ r i) (ij:i ≠ j) {A:Ad->Addr} {ns:NS} (hx:msA A ns=r j) (hn:NetAt K C H A ns):NetAt K C H' A ns :=
 hn.grow g fun a ha z=>h.dj i j _ ij (hm _ z) (by rw [← hx]; exact yI ha)
theorem Reg.pot (h:Reg H r) {i j:Nat} (g:Grow m H H') (hm:∀ x ∈ m,x ∈ r i) (ij:i ≠ j) {p:Addr} (hx:[p]=r j) (hp:Pot H p):Pot H' p:=by
 obtain ⟨p0,p1,z,z0⟩:=hp
 exact ⟨p0,p1,h.keep g hm ij (by rw [← hx]; exact List.mem_singleton.mpr rfl) z,z0⟩
theorem NetAt.al {A:Ad->Addr} {ns:NS} (hn:NetAt K C H A ns):∀ x ∈ msA A ns,H x ≠ none:=fun x hx=>by
 obtain ⟨a,ha,rfl⟩:=List.mem_map.mp hx
 obtain ⟨o,h1,_⟩:=hn.at_ a (qM.mp ha)
 rw [h1]; exact fun z=>nomatch z
theorem uU {A A':Ad->Addr} {ns:NS} {gone:List (Nat × Nat)} (nw:NW ns) (now:ns.now < 10000) (ex:SH H A A' ns):∀ x ∈ msA A' (beatS gone ns),x ∈ msA A ns \/ H x=none:=fun x hx=>by
 obtain ⟨s1,s2,s3,s4,s5⟩:=tZ (gone:=gone) nw now
 obtain ⟨a,ha,rfl⟩:=List.mem_map.mp hx
 have ha:=qM.mp ha
 by_cases c:a = .dn (ns.nd+1)
 ·rw [c]; exact .inr ex.2
 ·have ho:okA ns a:=by
   cases a with
   | ln x y=>exact ⟨by rw [← s1]; exact ha.1,by rw [← s1]; exact ha.2⟩
   | dn t =>
    have h2:t<=(L3.beatS gone ns).nd:=ha.2
    rw [s5] at h2
    have:t ≠ ns.nd+1:=fun e=>c (by rw [e])
    exact ⟨ha.1,by omega⟩
   | _=>trivial
  rw [ex.1 a ho]; exact .inl (yI ho)
end
def sg (K:JN):Sp:=sp1 fun x H Q=>∃ a,x = .ref a /\ Pot H a /\ ∀ d y H',d.Ok->d.Bd (10 ^ 29)->Grow [a] H H' -> Pot H' a->Yo K H' y d->Q y H'
def YU (K:JN):Sp:=sp4 fun x y z u H Q=>∃ (p l:Addr) (k many:Nat) (sm:List Int),x = .ref p /\ y = .int k /\ z = .int many /\ u = .ref l /\ Pot H p /\ k<=4 /\ 1<=many /\ many<=16 /\ H l=some (.lst (sm.map V.int)) /\ p ≠ l /\ 1<=sm.length /\ sm.length<=1000 /\ (∀ b ∈ sm,0<=b /\ b < many) ∧
 ∀ a y H',qj many a->a.hand < (2 ^ k:Nat)->a.deed.Bd (10 ^ 29)->Grow [p] H H' -> Pot H' p->vq K H' y a->Q y H'
def si (K:JN):Sp:=sp2 fun x y H Q=>∃ (p:Addr) (k:Nat),x = .ref p /\ y = .int k /\ Pot H p /\ k<=4 /\ ∀ gone z H',(∀ q ∈ gone,wU k q)->gone.length<=20->Grow [p] H H' -> Pot H' p->yY K H' z gone->Q z H'
def uy (C:Addr) (K:JN):Sp:=sp3 fun x y z H Q=>∃ (A:Ad->Addr) (ns:NS),x = .ref (A .p) /\ y = .int ns.k /\ z = .int ns.asks.length /\ NetAt K C H A ns /\ NX ns /\ ∀ u H',Grow [] H H' -> wj K H' u (vO ns)->Q u H'
def rS (K:JN):Sp:=sp2 fun x y H Q=>∃ (p:Addr) (gone:List (Nat × Nat)),x = .ref p /\ Pot H p /\ yY K H y gone /\ gone.length<=100 /\ ∀ gone' z H',(∀ q,q ∈ gone' ↔ q ∈ gone)->Grow [p] H H' -> Pot H' p->yY K H' z gone' -> Q z H'
def j6 (C:Addr) (K:JN):Sp:=sp3 fun x y z H Q=>∃ (A:Ad->Addr) (ns:NS) (gone:List (Nat × Nat)) (pl:Int) (ms:List Addr),x = .ref (A .p) /\ yY K H y gone /\ z = .int pl /\ (∀ q ∈ gone,wU ns.k q) /\ NetAt K C H A ns /\ NW ns /\ ns.now < 9999 /\ (∀ a,okA ns a->A a ∈ ms) ∧
 ∀ A' v l H',Grow ms H H' -> SH H A A' ns->NetAt K C H' A' (beatS gone ns)->wj K H' v (se l)->l.Perm (yV (zK gone ns))->l.Pairwise (fun a b=>a.1 < b.1)->Q v H'
def rT (C:Addr) (K:JN):Sp:=sp4 fun x y z u H Q=>∃ (p:Addr) (A:Ad->Addr) (ns:NS),x = .ref p /\ y = .ref (A .p) /\ z = .int ns.k /\ u = .int ns.boxes.length /\ Pot H p /\ NetAt K C H A ns /\ NX ns /\ 1<=ns.boxes.length /\ ns.now < 9000 /\ p ∉ msA A ns ∧
 ∀ A' ns' v H',Grow (p :: msA A ns) H H' -> Pot H' p->NetAt K C H' A' ns' -> NX ns' -> ns'.k=ns.k->ns'.boxes.length=ns.boxes.length->ns'.now<=ns.now+2->A' .p=A .p->(∀ x ∈ msA A' ns',x ∈ msA A ns \/ H x=none)->Q v H'
def j7 (C:Addr) (K:JN):Sp:=sp5 fun x y z u w H Q=>∃ (A1 A2:Ad->Addr) (ns:NS) (a:Ask),y = .ref (A1 .p) /\ z = .ref (A2 .p) /\ u = .int ns.asks.length /\ vq K H w a /\ NetAt K C H A1 ns /\ NetAt K C H A2 ns /\ NR ns /\ qj ns.boxes.length a /\ a.hand < (2 ^ ns.k:Nat) /\ ns.asks.length < 40 /\ (∀ x ∈ msA A1 ns,x ∉ msA A2 ns) ∧
 ∀ H1 H2,Grow (msA A1 ns) H H1->NetAt K C H1 A1 (putS ns a)->NetAt K C H1 A2 ns->Grow (msA A2 ns) H1 H2->NetAt K C H2 A1 (putS ns a)->NetAt K C H2 A2 (putS ns a)->Q (.bl true) H2
inductive Op7 where
 | put (a:Ask)
 | beat (g:List (Nat × Nat))
def op7 (ns:NS):Op7->NS
 | .put a=>putS ns a
 | .beat g=>beatS g ns
def uz (ns:NS) (h:List Op7):NS:=h.foldl op7 ns
def Qb:Op7->Nat
 | .put _=>1
 | .beat _=>0
def yJ (h:List Op7):Nat:=(h.map Qb).sum
def Vz (k many:Nat):Op7->Prop
 | .put a=>qj many a /\ a.hand < (2 ^ k:Nat) /\ a.deed.Bd (10 ^ 29)
 | .beat g=>∀ q ∈ g,wU k q
def j8 (K:JN) (H:Hp) (x:V) (o:Op7):Prop :=
 match o with
 | .put a=>∃ r y,x = .ref r /\ J3 K H r [.str "put",y] /\ vq K H y a
 | .beat g=>∃ r y,x = .ref r /\ J3 K H r [.str "beat",y] /\ yY K H y g
theorem j8.grow {K:JN} {H H':Hp} {m:List Addr} {x:V} {o:Op7} (h:j8 K H x o) (g:Grow m H H'):j8 K H' x o:=by
 cases o with
 | put a =>
  obtain ⟨r,y,e,h1,h2⟩:=h
  exact ⟨r,y,e,g.sqT h1,g.ask h2⟩
 | beat l =>
  obtain ⟨r,y,e,h1,h2⟩:=h
  exact ⟨r,y,e,g.sqT h1,h2.grow g⟩
theorem vQ {ns:NS} {h:List Op7} {o:Op7}:uz ns (h ++ [o])=op7 (uz ns h) o:=by unfold uz; rw [List.foldl_append]; rfl
theorem xU {h:List Op7} {o:Op7}:yJ (h ++ [o])=yJ h+Qb o:=by unfold yJ; rw [List.map_append,List.sum_append]; simp
structure N7 (k many t c:Nat) (ns:NS):Prop where
 nx:NX ns
 nb:NB (10 ^ 29) ns
 ek:ns.k=k
 bl:ns.boxes.length=many
 now:ns.now<=t
 al:ns.asks.length=c
theorem N7.put {k many t c:Nat} {ns:NS} (h:N7 k many t c ns) {a:Ask} (ok:qj many a) (hh:a.hand < (2 ^ k:Nat)) (bd:a.deed.Bd (10 ^ 29)) (c40:c < 40):N7 k many t (c+1) (putS ns a):=by
 obtain ⟨k1,k2,k3,k5,k6⟩:=ok
 refine ⟨h.nx.put k6 k3 (by rw [h.ek]; omega) (by rw [h.bl]; omega) (by rw [h.al]; exact c40),h.nb.put bd,h.ek,h.bl,h.now,?_⟩
 show (ns.asks ++ [a]).length=_
 rw [List.length_append,h.al]; rfl
theorem N7.beat {k many t c:Nat} {ns:NS} (h:N7 k many t c ns) (gone:List (Nat × Nat)) (t5:t < 9999):N7 k many (t+1) c (beatS gone ns):=by
 have nw:=h.now
 obtain ⟨s1,s2,s3,s4,s5⟩:=tZ (gone:=gone) h.nx.nw (by omega)
 exact ⟨h.nx.beat (by omega) gone,h.nb.beat h.nx.nw (by omega) gone,s1.trans h.ek,s2.trans h.bl,by rw [s4]; omega,by rw [s3]; exact h.al⟩
theorem N7.mono {k many t t' c:Nat} {ns:NS} (h:N7 k many t c ns) (e:t<=t'):N7 k many t' c ns:=⟨h.nx,h.nb,h.ek,h.bl,Nat.le_trans h.now e,h.al⟩
theorem N7.new {k room kept:Nat} {b:List Int} (k4:k<=4) (b16:b.length<=16) (r1:1<=room) (hb:InC (10 ^ 29) b):N7 k b.length 0 0 (sG k b room kept) :=
 ⟨NX.new k4 b16 r1,NB.new (by decide) hb,rfl,rfl,Nat.le_refl _,rfl⟩
theorem sj {k many:Nat} {ns:NS} {h:List Op7} (n0:N7 k many 0 0 ns) (ok:∀ o ∈ h,Vz k many o) (p40:yJ h<=40) (l9:h.length<=9000):N7 k many h.length (yJ h) (uz ns h):=by
 have key:∀ i,i<=h.length->N7 k many i (yJ (h.take i)) (uz ns (h.take i)):=fun i=>by
  induction i with
  | zero=>intro _; exact n0
  | succ i ih =>
   intro hi
   have ih:=ih (by omega)
   rw [List.take_succ_eq_append_getElem (by omega),vQ,xU]
   have o1:=ok h[i] (List.getElem_mem (by omega))
   have p1:yJ (h.take (i+1))<=yJ h:=by
    have e:=congrArg yJ (List.take_append_drop (i+1) h)
    unfold yJ at e ⊢
    rw [List.map_append,List.sum_append] at e
    omega
   rw [List.take_succ_eq_append_getElem (by omega),xU] at p1
   cases e:h[i] with
   | put a =>
    rw [e] at o1 p1
    have p1:yJ (h.take i)+1<=yJ h:=p1
    exact (ih.put o1.1 o1.2.1 o1.2.2 (by omega)).mono (by omega)
   | beat g=>exact ih.beat g (by omega)
 have:=key h.length (Nat.le_refl _)
 rw [List.take_length] at this
 exact this
theorem rV {h:List Op7} {i:Nat}:yJ (h.take i)<=yJ h:=by
 have e:=congrArg yJ (List.take_append_drop i h)
 unfold yJ at e ⊢
 rw [List.map_append,List.sum_append] at e
 omega
theorem VA {k many:Nat} {ns:NS} {h:List Op7} (n0:N7 k many 0 0 ns) (ok:∀ o ∈ h,Vz k many o) (p40:yJ h<=40) (l9:h.length<=9000) (i:Nat):N7 k many h.length (yJ (h.take i)) (uz ns (h.take i)):=by
 have hl:(h.take i).length<=h.length:=by rw [List.length_take]; omega
 exact (sj n0 (fun o ho=>ok o (List.mem_of_mem_take ho)) (Nat.le_trans rV p40) (by omega)).mono hl
def j9 (C:Addr) (K:JN):Sp:=sp4 fun x y z u H Q=>∃ (A:Ad->Addr) (k many:Nat) (n0:NS) (ld:Addr) (xs:List V) (h:List Op7),x = .ref (A .p) /\ y = .int k /\ z = .ref ld /\ u = .int (yJ h:Nat) /\ H ld=some (.lst xs) /\ zT (j8 K H) xs h /\ NetAt K C H A n0 /\ N7 k many 0 0 n0 /\ (∀ o ∈ h,Vz k many o) /\ yJ h<=40 /\ h.length<=1000 /\ ld ∉ msA A n0 ∧
 ∀ H',Grow (msA A n0) H H' -> Q (.str (vO (uz n0 h)).shown) H'
def rW (K:JN) (H:Hp) (x:V):Prop:=∃ r a b d1 d2,x = .ref r /\ J3 K H r [a,b,.str (PyData.tuple [d1,d2]).shown] /\ wj K H a d1 /\ wj K H b d2 /\ Sh (.tuple [d1,d2]) 2000000 8
theorem rW.grow {K:JN} {H H':Hp} {m:List Addr} {x:V} (h:rW K H x) (g:Grow m H H'):rW K H' x:=by
 obtain ⟨r,a,b,d1,d2,e,h1,h2,h3,h4⟩:=h
 exact ⟨r,a,b,d1,d2,e,g.sqT h1,h2.grow g,h3.grow g,h4⟩
theorem XL {M m:List Addr} {H H1 H2:Hp} (G:Grow M H H1) (g:Grow m H1 H2) (h:∀ x ∈ m,x ∈ M \/ H x=none):Grow M H H2 :=
 ((G.mono fun b hb=>List.mem_append_left m hb).trans (g.mono fun b hb=>List.mem_append_right M hb)).less fun b hb=>by
  rcases List.mem_append.mp hb with z | z
  ·exact .inl z
  ·exact h b z
structure OI7 (K:JN) (C p:Addr) (H0:Hp) (A0:Ad->Addr) (n0:NS) (H:Hp) (A:Ad->Addr) (ns:NS) (t:Nat):Prop where
 g:Grow (p :: msA A0 n0) H0 H
 pot:Pot H p
 net:NetAt K C H A ns
 nx:NX ns
 ek:ns.k=n0.k
 bl:ns.boxes.length=n0.boxes.length
 now:ns.now<=t
 ap:A .p=A0 .p
 ms:∀ x ∈ msA A ns,x ∈ msA A0 n0 \/ H0 x=none
 np:p ∉ msA A ns
section
variable {K:JN} {C p:Addr} {H0 H H':Hp} {A0 A A':Ad->Addr} {n0 ns:NS} {t:Nat}
theorem OI7.potS (h:OI7 K C p H0 A0 n0 H A ns t) (g:Grow [p] H H') (pp:Pot H' p):OI7 K C p H0 A0 n0 H' A ns t :=
 ⟨XL h.g g fun x hx=>.inl (by rw [List.mem_singleton.mp hx]; exact List.mem_cons_self ..),pp,h.net.grow g fun a ha z=>h.np (by rw [← List.mem_singleton.mp z]; exact yI ha),h.nx,h.ek,h.bl,h.now,h.ap,h.ms,h.np⟩
theorem OI7.grow0 (h:OI7 K C p H0 A0 n0 H A ns t) (g:Grow [] H H'):OI7 K C p H0 A0 n0 H' A ns t :=
 ⟨XL h.g g fun x hx=>(by cases hx),h.pot.grow g,h.net.grow0 g,h.nx,h.ek,h.bl,h.now,h.ap,h.ms,h.np⟩
theorem Jh (hp:Pot H p) {m:List Addr} (g:Grow m H H') (hm:p ∉ m):Pot H' p:=by
 obtain ⟨p0,p1,z,z0⟩:=hp
 exact ⟨p0,p1,g.keep _ _ hm z,z0⟩
theorem OI7.putS (h:OI7 K C p H0 A0 n0 H A ns t) {a:Ask} (ok:qj n0.boxes.length a) (hh:a.hand < (2 ^ n0.k:Nat)) (a40:ns.asks.length < 40) (g:Grow (msA A ns) H H') (hn:NetAt K C H' A (L3.putS ns a)):OI7 K C p H0 A0 n0 H' A (L3.putS ns a) t:=by
 obtain ⟨k1,k2,k3,k5,k6⟩:=ok
 exact ⟨XL h.g g fun x hx=>(h.ms x hx).imp (fun z=>List.mem_cons_of_mem _ z) id,Jh h.pot g h.np,hn,h.nx.put k6 k3 (by rw [h.ek]; omega) (by rw [h.bl]; omega) a40,h.ek,h.bl,h.now,h.ap,h.ms,h.np⟩
theorem OI7.beatS (h:OI7 K C p H0 A0 n0 H A ns t) (t9:t < 9999) {gone:List (Nat × Nat)} (g:Grow (msA A ns) H H') (ex:SH H A A' ns) (hn:NetAt K C H' A' (L3.beatS gone ns)):OI7 K C p H0 A0 n0 H' A' (L3.beatS gone ns) (t+1):=by
 have nw:=h.now
 obtain ⟨s1,s2,s3,s4,s5⟩:=tZ (gone:=gone) h.nx.nw (by omega)
 have mb:=uU (gone:=gone) h.nx.nw (by omega) ex
 refine ⟨XL h.g g fun x hx=>(h.ms x hx).imp (fun z=>List.mem_cons_of_mem _ z) id,Jh h.pot g h.np,hn,h.nx.beat (by omega) gone,s1.trans h.ek,s2.trans h.bl,by rw [s4]; omega,(ex.1 .p trivial).trans h.ap,fun x hx=>?_,fun z=>?_⟩
 ·rcases mb x hx with z | z
  ·exact h.ms x z
  ·by_cases c:x ∈ p :: msA A0 n0
   ·rcases List.mem_cons.mp c with c | c
    ·obtain ⟨p0,p1,y,_⟩:=h.pot
     rw [c,y] at z; cases z
    ·exact .inl c
   ·exact .inr (h.g.free c z)
 ·rcases mb p z with z | z
  ·exact h.np z
  ·obtain ⟨p0,p1,y,_⟩:=h.pot
   rw [y] at z; cases z
end
theorem RY {ns:NS} (h:NW ns):ns.ans.length<=ns.log.length:=by
 have h1:=congrArg List.length h.an
 rw [List.length_map] at h1
 obtain ⟨r,hr⟩:=vM (d:=ns.done) (m:=ns.now - ns.k) (n:=ns.now) (by omega)
 have h2:=congrArg List.length (h.lg.trans hr)
 rw [List.length_append] at h2
 omega
def uH (P R1 R2 R3 L D R:List Addr):Nat->List Addr
 | 0=>P
 | 1=>R1
 | 2=>R2
 | 3=>R3
 | 4=>L
 | 5=>D
 | 6=>R
 | _=>[]
section
variable {P R1 R2 R3 L D R S:List Addr}
theorem Th:VQ (uH P R1 R2 R3 L D R) 1 S=uH P S R2 R3 L D R:=by funext i; match i with | 0=>rfl | 1=>rfl | 2=>rfl | 3=>rfl | 4=>rfl | 5=>rfl | 6=>rfl | n+7=>rfl
theorem Ti:VQ (uH P R1 R2 R3 L D R) 2 S=uH P R1 S R3 L D R:=by funext i; match i with | 0=>rfl | 1=>rfl | 2=>rfl | 3=>rfl | 4=>rfl | 5=>rfl | 6=>rfl | n+7=>rfl
theorem Tj:VQ (uH P R1 R2 R3 L D R) 3 S=uH P R1 R2 S L D R:=by funext i; match i with | 0=>rfl | 1=>rfl | 2=>rfl | 3=>rfl | 4=>rfl | 5=>rfl | 6=>rfl | n+7=>rfl
theorem RZ:VQ (uH P R1 R2 R3 L D R) 5 S=uH P R1 R2 R3 L S R:=by funext i; match i with | 0=>rfl | 1=>rfl | 2=>rfl | 3=>rfl | 4=>rfl | 5=>rfl | 6=>rfl | n+7=>rfl
theorem R0:VQ (uH P R1 R2 R3 L D R) 6 S=uH P R1 R2 R3 L D S:=by funext i; match i with | 0=>rfl | 1=>rfl | 2=>rfl | 3=>rfl | 4=>rfl | 5=>rfl | 6=>rfl | n+7=>rfl
end
structure L7 (K:JN) (C p l ld lk:Addr) (H:Hp) (A1 A2 A3:Ad->Addr) (n1 n2 n3:NS) (sm:List Int) (xs:List V) (hs:List Op7) (rows:List V):Prop where
 rg:Reg H (uH [p] (msA A1 n1) (msA A2 n2) (msA A3 n3) [l] [ld] [lk])
 pot:Pot H p
 net1:NetAt K C H A1 n1
 net2:NetAt K C H A2 n2
 net3:NetAt K C H A3 n3
 ls:H l=some (.lst (sm.map V.int))
 hd:H ld=some (.lst xs)
 ops:zT (j8 K H) xs hs
 hk:H lk=some (.lst rows)
 rw:∀ x ∈ rows,rW K H x
theorem Za {H:Hp} {p:Addr} (h:Pot H p):∀ x ∈ [p],H x ≠ none:=fun x hx=>by
 obtain ⟨_,_,z,_⟩:=h
 rw [List.mem_singleton.mp hx,z]; exact fun z=>nomatch z
theorem VB {H:Hp} {l:Addr} {o:HO} (h:H l=some o):∀ x ∈ [l],H x ≠ none:=fun x hx=>by
 rw [List.mem_singleton.mp hx,h]; exact fun z=>nomatch z
section
variable {K:JN} {C p l ld lk:Addr} {H H':Hp} {A1 A2 A3 A':Ad->Addr} {n1 n2 n3 n':NS} {sm:List Int} {xs:List V} {hs:List Op7} {rows:List V}
theorem L7.grow0 (h:L7 K C p l ld lk H A1 A2 A3 n1 n2 n3 sm xs hs rows) (g:Grow [] H H'):L7 K C p l ld lk H' A1 A2 A3 n1 n2 n3 sm xs hs rows :=
 ⟨h.rg.grow0 g,h.pot.grow g,h.net1.grow0 g,h.net2.grow0 g,h.net3.grow0 g,g.keep _ _ (by simp) h.ls,g.keep _ _ (by simp) h.hd,h.ops.imp fun _ _ z=>z.grow g,g.keep _ _ (by simp) h.hk,fun x hx=>(h.rw x hx).grow g⟩
theorem L7.potS (h:L7 K C p l ld lk H A1 A2 A3 n1 n2 n3 sm xs hs rows) (g:Grow [p] H H') (pp:Pot H' p):L7 K C p l ld lk H' A1 A2 A3 n1 n2 n3 sm xs hs rows :=
 have hm:∀ x ∈ [p],x ∈ uH [p] (msA A1 n1) (msA A2 n2) (msA A3 n3) [l] [ld] [lk] 0:=fun x hx=>hx
 ⟨h.rg.same 0 g hm (Za pp),pp,h.rg.net g hm (j:=1) (by decide) rfl h.net1,h.rg.net g hm (j:=2) (by decide) rfl h.net2,h.rg.net g hm (j:=3) (by decide) rfl h.net3,h.rg.keep g hm (j:=4) (by decide) (List.mem_singleton.mpr rfl) h.ls,h.rg.keep g hm (j:=5) (by decide) (List.mem_singleton.mpr rfl) h.hd,h.ops.imp fun _ _ z=>z.grow g,h.rg.keep g hm (j:=6) (by decide) (List.mem_singleton.mpr rfl) h.hk,fun x hx=>(h.rw x hx).grow g⟩
theorem L7.s1 (h:L7 K C p l ld lk H A1 A2 A3 n1 n2 n3 sm xs hs rows) (g:Grow (msA A1 n1) H H') (hn:NetAt K C H' A' n') (hx:∀ x ∈ msA A' n',x ∈ msA A1 n1 \/ H x=none):L7 K C p l ld lk H' A' A2 A3 n' n2 n3 sm xs hs rows :=
 have hm:∀ x ∈ msA A1 n1,x ∈ uH [p] (msA A1 n1) (msA A2 n2) (msA A3 n3) [l] [ld] [lk] 1:=fun x hx=>hx
 have rg:=h.rg.grow 1 (R:=msA A' n') g hm fun x hx'=>⟨hx x hx',hn.al x hx'⟩
 ⟨Th ▸ rg,h.rg.pot g hm (j:=0) (by decide) rfl h.pot,hn,h.rg.net g hm (j:=2) (by decide) rfl h.net2,h.rg.net g hm (j:=3) (by decide) rfl h.net3,h.rg.keep g hm (j:=4) (by decide) (List.mem_singleton.mpr rfl) h.ls,h.rg.keep g hm (j:=5) (by decide) (List.mem_singleton.mpr rfl) h.hd,h.ops.imp fun _ _ z=>z.grow g,h.rg.keep g hm (j:=6) (by decide) (List.mem_singleton.mpr rfl) h.hk,fun x hx=>(h.rw x hx).grow g⟩
theorem L7.s2 (h:L7 K C p l ld lk H A1 A2 A3 n1 n2 n3 sm xs hs rows) (g:Grow (msA A2 n2) H H') (hn:NetAt K C H' A' n') (hx:∀ x ∈ msA A' n',x ∈ msA A2 n2 \/ H x=none):L7 K C p l ld lk H' A1 A' A3 n1 n' n3 sm xs hs rows :=
 have hm:∀ x ∈ msA A2 n2,x ∈ uH [p] (msA A1 n1) (msA A2 n2) (msA A3 n3) [l] [ld] [lk] 2:=fun x hx=>hx
 have rg:=h.rg.grow 2 (R:=msA A' n') g hm fun x hx'=>⟨hx x hx',hn.al x hx'⟩
 ⟨Ti ▸ rg,h.rg.pot g hm (j:=0) (by decide) rfl h.pot,h.rg.net g hm (j:=1) (by decide) rfl h.net1,hn,h.rg.net g hm (j:=3) (by decide) rfl h.net3,h.rg.keep g hm (j:=4) (by decide) (List.mem_singleton.mpr rfl) h.ls,h.rg.keep g hm (j:=5) (by decide) (List.mem_singleton.mpr rfl) h.hd,h.ops.imp fun _ _ z=>z.grow g,h.rg.keep g hm (j:=6) (by decide) (List.mem_singleton.mpr rfl) h.hk,fun x hx=>(h.rw x hx).grow g⟩
theorem L7.s5 (h:L7 K C p l ld lk H A1 A2 A3 n1 n2 n3 sm xs hs rows) {y:V} {o:Op7} (hy:j8 K H y o):L7 K C p l ld lk (JQ H ld (.lst (xs ++ [y]))) A1 A2 A3 n1 n2 n3 sm (xs ++ [y]) (hs ++ [o]) rows /\ Grow [ld] H (JQ H ld (.lst (xs ++ [y]))) :=
 have g:=Grow.set (m:=[ld]) h.hd (by simp) (xs ++ [y])
 have hm:∀ x ∈ [ld],x ∈ uH [p] (msA A1 n1) (msA A2 n2) (msA A3 n3) [l] [ld] [lk] 5:=fun x hx=>hx
 ⟨⟨h.rg.same 5 g hm (VB zc),h.rg.pot g hm (j:=0) (by decide) rfl h.pot,h.rg.net g hm (j:=1) (by decide) rfl h.net1,h.rg.net g hm (j:=2) (by decide) rfl h.net2,h.rg.net g hm (j:=3) (by decide) rfl h.net3,h.rg.keep g hm (j:=4) (by decide) (List.mem_singleton.mpr rfl) h.ls,zc,(h.ops.imp fun _ _ z=>z.grow g).app (.one (hy.grow g)),h.rg.keep g hm (j:=6) (by decide) (List.mem_singleton.mpr rfl) h.hk,fun x hx=>(h.rw x hx).grow g⟩,g⟩
theorem L7.s6 (h:L7 K C p l ld lk H A1 A2 A3 n1 n2 n3 sm xs hs rows) {y:V} (hy:rW K H y):L7 K C p l ld lk (JQ H lk (.lst (rows ++ [y]))) A1 A2 A3 n1 n2 n3 sm xs hs (rows ++ [y]) /\ Grow [lk] H (JQ H lk (.lst (rows ++ [y]))) :=
 have g:=Grow.set (m:=[lk]) h.hk (by simp) (rows ++ [y])
 have hm:∀ x ∈ [lk],x ∈ uH [p] (msA A1 n1) (msA A2 n2) (msA A3 n3) [l] [ld] [lk] 6:=fun x hx=>hx
 ⟨⟨h.rg.same 6 g hm (VB zc),h.rg.pot g hm (j:=0) (by decide) rfl h.pot,h.rg.net g hm (j:=1) (by decide) rfl h.net1,h.rg.net g hm (j:=2) (by decide) rfl h.net2,h.rg.net g hm (j:=3) (by decide) rfl h.net3,h.rg.keep g hm (j:=4) (by decide) (List.mem_singleton.mpr rfl) h.ls,h.rg.keep g hm (j:=5) (by decide) (List.mem_singleton.mpr rfl) h.hd,h.ops.imp fun _ _ z=>z.grow g,zc,fun x hx=>by
  rcases List.mem_append.mp hx with z | z
  ·exact (h.rw x z).grow g
  ·rw [List.mem_singleton.mp z]; exact hy.grow g⟩,g⟩
theorem L7.s3 (h:L7 K C p l ld lk H A1 A2 A3 n1 n2 n3 sm xs hs rows) (g:Grow (p :: msA A3 n3) H H') (pp:Pot H' p) (hn:NetAt K C H' A' n') (hx:∀ x ∈ msA A' n',x ∈ msA A3 n3 \/ H x=none):L7 K C p l ld lk H' A1 A2 A' n1 n2 n' sm xs hs rows:=by
 have D:=h.rg.dj
 have off:∀ i x,i ≠ 0->i ≠ 3->x ∈ uH [p] (msA A1 n1) (msA A2 n2) (msA A3 n3) [l] [ld] [lk] i->x ∉ p :: msA A3 n3:=fun i x i0 i3 hi z=>by
  rcases List.mem_cons.mp z with z | z
  ·exact D i 0 x i0 hi (by rw [z]; exact List.mem_singleton.mpr rfl)
  ·exact D i 3 x i3 hi z
 have key:Reg H' (uH [p] (msA A1 n1) (msA A2 n2) (msA A' n') [l] [ld] [lk]):=by
  have e:uH [p] (msA A1 n1) (msA A2 n2) (msA A' n') [l] [ld] [lk]=VQ (uH [p] (msA A1 n1) (msA A2 n2) (msA A3 n3) [l] [ld] [lk]) 3 (msA A' n'):=Tj.symm
  rw [e]
  refine ⟨fun a b x ab ha hb=>?_,fun a x ha=>?_⟩
  ·by_cases c:a=3
   ·rw [c,xD] at ha
    by_cases d:b=3
    ·exact ab (c.trans d.symm)
    ·rw [wb d] at hb
     rcases hx x ha with z | z
     ·exact D 3 b x (fun e=>d e.symm) z hb
     ·exact h.rg.al b x hb z
   ·rw [wb c] at ha
    by_cases d:b=3
    ·rw [d,xD] at hb
     rcases hx x hb with z | z
     ·exact D a 3 x c ha z
     ·exact h.rg.al a x ha z
    ·rw [wb d] at hb
     exact D a b x ab ha hb
  ·by_cases c:a=3
   ·rw [c,xD] at ha; exact hn.al x ha
   ·rw [wb c] at ha
    by_cases d:a=0
    ·rw [d] at ha; exact Za pp x ha
    ·exact g.some5 (off a x d c ha) (h.rg.al a x ha)
 exact ⟨key,pp,h.net1.grow g fun a ha=>off 1 _ (by decide) (by decide) (yI ha),h.net2.grow g fun a ha=>off 2 _ (by decide) (by decide) (yI ha),hn,g.keep _ _ (off 4 _ (by decide) (by decide) (List.mem_singleton.mpr rfl)) h.ls,g.keep _ _ (off 5 _ (by decide) (by decide) (List.mem_singleton.mpr rfl)) h.hd,h.ops.imp fun _ _ z=>z.grow g,g.keep _ _ (off 6 _ (by decide) (by decide) (List.mem_singleton.mpr rfl)) h.hk,fun x hx=>(h.rw x hx).grow g⟩
theorem UN {xo dx:Addr} {A:Ad->Addr} {ns:NS} (hx:H xo=none) (hdx:H dx=none) (ndx:dx ≠ xo) (g:Grow [xo] (JQ (JQ H dx (.own xo)) xo (.ins C dx [])) H') (eA:A .p=xo) (fr:∀ a,okA ns a->a ≠ .p->JQ (JQ H dx (.own xo)) xo (.ins C dx []) (A a)=none):Grow [] H H' /\ ∀ x ∈ msA A ns,H x=none:=by
 have go1:=Grow.new (m:=[]) hdx (.own xo)
 have hx2:JQ H dx (.own xo) xo=none:=by rw [zu ndx.symm]; exact hx
 have go:=go1.trans (Grow.new (m:=[]) hx2 (.ins C dx []))
 refine ⟨((go.wk (m:=[xo])).trans g).less fun b hb=>.inr (by rw [List.mem_singleton.mp hb]; exact hx),fun x hx'=>?_⟩
 obtain ⟨a,ha,rfl⟩:=List.mem_map.mp hx'
 by_cases c:a = .p
 ·rw [c,eA]; exact hx
 ·exact go.free (by simp) (fr a (qM.mp ha) c)
end
theorem VC {d:PyData} {w n:Nat} (h:Sh d w n) (hw:w<=16777216) (hn:n<=60):d.showable=true /\ d.hasDict=false /\ d.depth<=60 /\ d.shown.length<=sizeLine:=⟨h.1,h.2.1,Nat.le_trans h.2.2.2 hn,h.fits hw⟩
structure S7 where
 A1:Ad->Addr
 A2:Ad->Addr
 A3:Ad->Addr
 n3:NS
 c:Int
 xs:List V
 ho:List Op7
 rows:List V
structure J7 (K:JN) (C p l ld lk a tb:Addr) (sc:List Int) (k mn dk dm:Nat) (n0:NS) (b sm:List Int) (q1 q2 q3:Addr) (H:Hp) (d:S7):Prop where
 W:L7 K C p l ld lk H d.A1 d.A2 d.A3 (uz n0 d.ho) (uz n0 d.ho) d.n3 sm d.xs d.ho d.rows
 e1:d.A1 .p=q1
 e2:d.A2 .p=q2
 e3:d.A3 .p=q3
 ec:d.c=(yJ d.ho:Nat)
 ook:∀ o ∈ d.ho,Vz k mn o
 nx:NX d.n3
 ek:d.n3.k=dk
 bl:d.n3.boxes.length=dm
 hs:Scr K H a sc
 tb:J3 K H tb (b.map V.int)
structure B7 (t u v w x y:Nat) (d:S7):Prop where
 z1:d.n3.now<=t
 z2:yJ d.ho<=u
 z3:yJ d.ho+v<=30
 z4:d.ho.length<=w
 z5:d.rows.length<=x
theorem vR {st r:TS} {D:Ends} {σ:L2.St} {H:Hp} (Good:L2.St->Hp->Prop) (hc:∀ D':Ends,(∀ σ' H',Good σ' H' -> D'.nx σ' H')->st D' σ H) (hr:∀ σ' H',Good σ' H' -> r D σ' H'):Tn st r D σ H:=hc _ hr
theorem QX {p l x:Addr}:∀ {i:Nat},x ∈ uH [p] [] [] [] [l] [] [] i->(i=0 /\ x=p) \/ (i=4 /\ x=l)
 | 0,h=>.inl ⟨rfl,List.mem_singleton.mp h⟩
 | 1,h=>by cases h
 | 2,h=>by cases h
 | 3,h=>by cases h
 | 4,h=>.inr ⟨rfl,List.mem_singleton.mp h⟩
 | 5,h=>by cases h
 | 6,h=>by cases h
 | _+7,h=>by cases h
theorem SD {H:Hp} {p l:Addr} {o:HO} (npl:p ≠ l) (pp:Pot H p) (hl:H l=some o):Reg H (uH [p] [] [] [] [l] [] []):=by
 refine ⟨fun i j x ij h1 h2=>?_,fun i x h1=>?_⟩
 ·rcases QX h1 with ⟨a,e⟩ | ⟨a,e⟩ <;> rcases QX h2 with ⟨c,d⟩ | ⟨c,d⟩
  ·exact ij (a.trans c.symm)
  ·exact npl (e.symm.trans d)
  ·exact npl (d.symm.trans e)
  ·exact ij (a.trans c.symm)
 ·rcases QX h1 with ⟨a,e⟩ | ⟨a,e⟩
  ·exact Za pp x (List.mem_singleton.mpr e)
  ·exact VB hl x (List.mem_singleton.mpr e)
def sg7 (a p l tb q1 q2 q3 ld lk:Addr) (i k tn mn rm kp dk dm:Nat) (c:Int) (x y z u v:Option V):L2.St:=[some (.ref a),some (.int (0+(i:Int))),some (.ref p),some (.int k),some (.int tn),some (.int mn),some (.int rm),some (.int kp),some (.ref l),some (.ref tb),some (.ref q1),some (.ref q2),some (.int dk),some (.int dm),some (.ref q3),some (.ref ld),some (.ref lk),some (.int c),x,y,z,u,v]
abbrev fd5 (k room kept:Nat) (lb la:Addr):List (Str × V):=[("depth",V.int k),("room",V.int room),("most_kept",V.int kept),("boxes",V.ref lb),("asks",V.ref la)]
abbrev fd6 (k room kept:Nat) (lb la:Addr):List (Str × V):=[("depth",V.int k),("room",V.int room),("most_kept",V.int kept),("boxes",V.ref lb),("asks",V.ref la),("now",V.int 0)]
abbrev fd7 (k room kept:Nat) (lb la dl:Addr):List (Str × V):=[("depth",V.int k),("room",V.int room),("most_kept",V.int kept),("boxes",V.ref lb),("asks",V.ref la),("now",V.int 0),("lines",V.ref dl)]
abbrev fd8 (k room kept:Nat) (lb la dl dk:Addr):List (Str × V):=[("depth",V.int k),("room",V.int room),("most_kept",V.int kept),("boxes",V.ref lb),("asks",V.ref la),("now",V.int 0),("lines",V.ref dl),("keeping",V.ref dk)]
abbrev fd9 (k room kept:Nat) (lb la dl dk dd:Addr):List (Str × V):=[("depth",V.int k),("room",V.int room),("most_kept",V.int kept),("boxes",V.ref lb),("asks",V.ref la),("now",V.int 0),("lines",V.ref dl),("keeping",V.ref dk),("done_in",V.ref dd)]
abbrev QY (k room kept:Nat) (lb la dl dk dd lg:Addr):List (Str × V):=[("depth",V.int k),("room",V.int room),("most_kept",V.int kept),("boxes",V.ref lb),("asks",V.ref la),("now",V.int 0),("lines",V.ref dl),("keeping",V.ref dk),("done_in",V.ref dd),("logged",V.ref lg)]
abbrev QZ (k room kept:Nat) (lb la dl dk dd lg df:Addr):List (Str × V):=[("depth",V.int k),("room",V.int room),("most_kept",V.int kept),("boxes",V.ref lb),("asks",V.ref la),("now",V.int 0),("lines",V.ref dl),("keeping",V.ref dk),("done_in",V.ref dd),("logged",V.ref lg),("found",V.ref df)]
abbrev Qc (k room kept:Nat) (lb la dl dk dd lg df da:Addr):List (Str × V):=[("depth",V.int k),("room",V.int room),("most_kept",V.int kept),("boxes",V.ref lb),("asks",V.ref la),("now",V.int 0),("lines",V.ref dl),("keeping",V.ref dk),("done_in",V.ref dd),("logged",V.ref lg),("found",V.ref df),("answers",V.ref da)]
end L3
namespace My
open PySem PySem.Spec PyProof.Rows L2 L3
def top (i:Nat):Stmt:=PySem.Challenge.pw_joinedasks_k57_nets_again_and_apart.main.body.getD i (.Pass ⟨0,0,0,0⟩)
section
variable {P:Program} {w:World} {K:JN} {mg:Str->Option Value} {base:Heap} {n:Nat} {f:Addr} {fd:FuncData}
theorem wc:FnScope ["_law_first","_law_k","_law_many","_law_found","_law_level"] ["_law_first","_law_k","_law_many"] (zf (top 53)):=⟨rfl,rfl,rfl,by decide +kernel,rfl,by decide +kernel,by decide +kernel⟩
theorem qT (F:Fun K "_law_spots" "_law_spots" (top 53) f fd) (B:Blt mg)      :
  FnOk P w K mg base CX0 (n+1) f fd ["_law_first","_law_k","_law_many"] (rP K):=by
 refine F.ok wc yP (fun cdv A outer s H vs Q E hr h=>?_)
 obtain ⟨x,y,z,rfl,a,k,m,rfl,rfl,rfl,a1,k4,m16,q⟩:=h
 refine ⟨_,(zd (zJ (i:=3) wc.nd rfl (Or.inl rfl) (xg zb)) (zd (yW PassesOwn.never rfl (uW rfl B.range (za (pv 0) (za (zp yd (pv 1) ze) zb))) (zk (i:=4) wc.nd rfl (Or.inr rfl)) (zi (zG (wK PySem.F.plainAttrs_list PySem.F.slot_list_extend PySem.F.type_list_extend tm (pv 3) (za (xH (CSc.of (N':=["_law_line","_law_level"]) (sub:=[none,some 4]) (zf (top 53)) ["_law_first","_law_k","_law_many","_law_found","_law_level"] rfl rfl (by decide +kernel) rfl) rfl (zS rfl B.range (za (pv 2) zb)) (fun _ _ _ _ _ _=>zk (i:=0) (show (["_law_line","_law_level"]:List Str).Nodup by decide +kernel) rfl (Or.inl rfl)) (fun _ _ _ _ _ _=>yu) (fun _ _ _ _ _ _=>(zH (za (pv 1) (za (pv 0) zb))))) zb))))) (zi (zv (pv 3))))),?_⟩
 refine ⟨szl rfl,fun lt hlt=>xr ?_⟩
 have g0:=Grow.new (m:=[]) hlt (.lst [])
 have hlt0:=zc (H:=H) (a:=lt) (o:=.lst [])
 generalize JQ H lt (.lst [])=H0 at g0 hlt0 ⊢
 have en:((k:Int)+1 - a).toNat=k+1 - a:=by omega
 refine ⟨_,rfl,_,rfl,_,_,rfl,rfl,_,_,rfl,⟨by omega,by omega,by omega,by omega⟩,yN (fun i σ H'=>∃ e4 ys,σ = [some (.int a),some (.int k),some (.int m),some (.ref lt),e4] /\ Grow [lt] H0 H' /\ H' lt=some (.lst ys) /\ zT (uO K H') ys (y8 a m i 0)) ⟨_,[],rfl,Grow.refl _ _,hlt0,by unfold y8; exact trivial⟩ ?_ ?_⟩
 rotate_left
 ·rintro σ H' ⟨e4,ys,rfl,g,hy,hr⟩
  rw [en] at hr
  refine ⟨_,rfl,q _ _ ?_ hlt ⟨lt,ys,rfl,hy,hr⟩⟩
  exact ((g0.wk (m:=[lt])).trans g).less fun b hb=>.inr (by rw [List.mem_singleton.mp hb]; exact hlt)
 rintro i σ H1 hi ⟨e4,ys,rfl,g1,hy,hr⟩
 rw [en] at hi
 have ea:(a:Int)+(i:Int)=((a+i:Nat):Int):=by omega
 have yl:ys.length<=100:=by
  have:=hr.len
  have h2:=vJ (a:=a) (m:=m) (i:=i) (j:=0) m16 (by omega) (by omega)
  unfold y8 at this
  have e:∀ i:Nat,((List.range i).flatMap fun l=>(List.range m).map fun y=>(a+l,y)).length=i * m:=by
   intro i
   induction i with
   | zero=>rw [Nat.zero_mul]; rfl
   | succ i ih=>rw [List.range_succ,List.flatMap_append,List.length_append,ih,Nat.succ_mul]; simp
  rw [List.length_append,e] at this
  have:=Nat.mul_le_mul (show i<=5 by omega) m16
  simp at *
  omega
 refine ⟨_,rfl,.inl ⟨rfl,_,J1.of hy⟩,_,rfl,_,rfl,by omega,by omega,vp (fun j vs H'=>Grow [] H1 H' /\ vs.length=j /\ zT (uO K H') vs ((List.range j).map fun y=>(a+i,y))) ⟨Grow.refl _ _,rfl,trivial⟩ ?_ ?_⟩
 ·rintro j vs H2 hj ⟨g2,vl,hv⟩
  rw [Int.toNat_natCast] at hj
  refine ⟨_,rfl,_,rfl,szl rfl,fun t ht=>?_⟩
  have gt:=Grow.new (m:=[]) ht (.tup [.int ((a:Int)+i),.int (0+(j:Int))])
  refine ⟨zr (by omega),g2.trans gt,by rw [List.length_append,vl]; rfl,?_⟩
  rw [List.range_succ,List.map_append]
  exact (hv.imp fun _ _ ⟨r,e,z⟩=>⟨r,e,gt.sqT z⟩).app (.one ⟨t,rfl,J3.of (by rw [zc,ea,Int.zero_add])⟩)
 rintro vs H2 ⟨g2,vl,hv⟩ l3 hl3
 rw [Int.toNat_natCast] at hv vl
 have g4:=Grow.new (m:=[]) hl3 (.lst vs)
 have g34:=g2.trans g4
 have hy4:=g34.keep _ _ (by simp) hy
 have g5:=Grow.set (m:=[lt]) hy4 (by simp) (ys ++ vs)
 refine ⟨lt,l3,ys,vs,rfl,rfl,hy4,zc,Nat.le_of_lt (zr (by omega)),?_⟩
 refine ⟨_,ys ++ vs,rfl,g1.trans ((g34.wk (m:=[lt])).trans g5),zc,?_⟩
 have ep:y8 a m (i+1) 0=y8 a m i 0 ++ (List.range m).map fun y=>(a+i,y):=by
  rw [← rJ]; unfold y8; simp
 rw [ep]
 exact (hr.imp fun _ _ ⟨r,e,z⟩=>⟨r,e,g5.sqT (g34.sqT z)⟩).app (hv.imp fun _ _ ⟨r,e,z⟩=>⟨r,e,g5.sqT (g4.sqT z)⟩)
theorem Z1:FnScope ["self"] ["self"] (zf (zj (top 45) 13)):=⟨rfl,rfl,rfl,by decide +kernel,rfl,by decide +kernel,by decide +kernel⟩
theorem Z2 (F:Fun K "todo" "Net.todo" (zj (top 45) 13) f fd) (B:Blt mg) {C:Addr} (T:NTxt K mg C)      :
  FnOk P w K mg base CX0 (n+1) f fd ["self"] (uS C K):=by
 refine F.ok Z1 yH (fun cdv A outer s H vs Q E hr h=>?_)
 obtain ⟨x,rfl,A5,ns,rfl,hn,q⟩:=h
 refine ⟨_,(zi (zv (zp yx (zq zD rfl B.len wY (za (zz (pv 0) rfl) zb)) (zq WM rfl B.len wY (za (zz (pv 0) rfl) zb))))),?_⟩
 obtain ⟨xs,hla,hxa⟩:=hn.la
 have e1:=hxa.len
 have e2:(nKv ns.ans).length=ns.ans.length:=List.length_map ..
 refine ⟨_,rfl,_,C,_,_,_,rfl,hn.ob.choose_spec,T.cl,T.n_asks,tP,_,_,rfl,.inl (J1.of hla),_,rfl,_,C,_,_,_,rfl,hn.ob.choose_spec,T.cl,T.n_answers,uj,_,_,rfl,hn.da,_,_,rfl,rfl,?_⟩
 rw [e1,e2]; exact q
theorem Zb:FnScope ["self"] ["self"] (zf (zj (top 45) 10)):=⟨rfl,rfl,rfl,by decide +kernel,rfl,by decide +kernel,by decide +kernel⟩
theorem Zc (F:Fun K "beats" "Net.beats" (zj (top 45) 10) f fd) (B:Blt mg) {C:Addr} (T:NTxt K mg C)      :
  FnOk P w K mg base CX0 (n+1) f fd ["self"] (vK C K):=by
 refine F.ok Zb yH (fun cdv A outer s H vs Q E hr h=>?_)
 obtain ⟨x,rfl,A5,ns,rfl,hn,q⟩:=h
 refine ⟨_,(zi (zv (zz (pv 0) rfl))),?_⟩
 exact ⟨_,rfl,_,C,_,_,_,rfl,hn.ob.choose_spec,T.cl,T.n_now,jX,q⟩
theorem XM:FnScope ["self"] ["self"] (zf (zj (top 45) 12)):=⟨rfl,rfl,rfl,by decide +kernel,rfl,by decide +kernel,by decide +kernel⟩
theorem XN (F:Fun K "log" "Net.log" (zj (top 45) 12) f fd) (B:Blt mg) {C:Addr} (T:NTxt K mg C)      :
  FnOk P w K mg base CX0 (n+1) f fd ["self"] (qK C K):=by
 refine F.ok XM yH (fun cdv A outer s H vs Q E hr h=>?_)
 obtain ⟨x,rfl,A5,ns,rfl,hn,hl,q⟩:=h
 refine ⟨_,(zi (zv (zZ z8 rfl B.tuple yZ (za (zz (pv 0) rfl) zb)))),?_⟩
 have e:yG ns.log=(ns.log.map Int.ofNat).map V.int:=by rw [List.map_map]; rfl
 exact ⟨_,rfl,_,C,_,_,_,rfl,hn.ob.choose_spec,T.cl,T.n_logged,jY,_,_,rfl,.inl ⟨J1.of hn.lg,fun l hl=>q _ _ (Grow.new hl _) ⟨l,rfl,by rw [← e]; exact J3.of zc⟩⟩⟩
theorem Zd:FnScope ["self"] ["self"] (zf (zj (top 45) 11)):=⟨rfl,rfl,rfl,by decide +kernel,rfl,by decide +kernel,by decide +kernel⟩
theorem Ze (F:Fun K "board" "Net.board" (zj (top 45) 11) f fd) (B:Blt mg) {C:Addr} (T:NTxt K mg C)      :
  FnOk P w K mg base CX0 (n+1) f fd ["self"] (tW C K):=by
 refine F.ok Zd yH (fun cdv A outer s H vs Q E hr h=>?_)
 obtain ⟨x,rfl,A5,ns,rfl,hn,hl,q⟩:=h
 refine ⟨_,(zi (zv (zZ z8 rfl B.tuple yZ (za (zz (pv 0) rfl) zb)))),?_⟩
 exact ⟨_,rfl,_,C,_,_,_,rfl,hn.ob.choose_spec,T.cl,T.n_boxes,vE,_,_,rfl,.inl ⟨J1.of hn.lb,fun l hl=>q _ _ (Grow.new hl _) ⟨l,rfl,J3.of zc⟩⟩⟩
theorem Z3:FnScope ["thing"] ["thing"] (zf (top 10)):=⟨rfl,rfl,rfl,by decide +kernel,rfl,by decide +kernel,by decide +kernel⟩
theorem Z4 (F:Fun K "is_whole" "is_whole" (top 10) f fd) (B:Blt mg)      :
  FnOk P w K mg base CX0 (n+1) f fd ["thing"] (xy K):=by
 refine F.ok Z3 yH (fun cdv A outer s H vs Q E hr h=>?_)
 obtain ⟨x,rfl,⟨T,ty⟩,q⟩:=h
 refine ⟨_,(zi (zv (uD (zq xY rfl B.isinstance yy (za (pv 0) (za (tw rfl B.int Wm) zb))) (wO (SO (zq xY rfl B.isinstance yy (za (pv 0) (za (tw rfl B.bool Re) zb)))))))),?_⟩
 cases x with
 | non=>cases (show T = "NoneType" from ty); exact ⟨_,rfl,_,_,_,false,rfl,rfl,rfl,_,rfl,xw q⟩
 | bl y=>cases (show T = "bool" from ty); exact ⟨_,rfl,_,_,_,true,rfl,rfl,rfl,_,rfl,vn ⟨_,rfl,_,_,_,true,rfl,rfl,rfl,_,rfl,q⟩⟩
 | int i=>cases (show T = "int" from ty); exact ⟨_,rfl,_,_,_,true,rfl,rfl,rfl,_,rfl,vn ⟨_,rfl,_,_,_,false,rfl,rfl,rfl,_,rfl,q⟩⟩
 | str y=>cases (show T = "str" from ty); exact ⟨_,rfl,_,_,_,false,rfl,rfl,rfl,_,rfl,xw q⟩
 | byt y=>exact ty.elim
 | flt y=>exact ty.elim
 | ty y=>exact ty.elim
 | ref a =>
  rcases ty with ⟨rfl,xs,hq⟩ | ⟨rfl,xs,hq⟩ | ⟨rfl,kvs,hq⟩
  ·exact ⟨_,rfl,_,_,_,false,rfl,.inl ⟨rfl,xs,hq⟩,rfl,_,rfl,xw q⟩
  ·exact ⟨_,rfl,_,_,_,false,rfl,.inr (.inl ⟨rfl,xs,hq⟩),rfl,_,rfl,xw q⟩
  ·exact ⟨_,rfl,_,_,_,false,rfl,.inr (.inr ⟨rfl,kvs,hq⟩),rfl,_,rfl,xw q⟩
theorem Zf:FnScope ["thing","least","greatest"] ["thing","least","greatest"] (zf (top 11)):=⟨rfl,rfl,rfl,by decide +kernel,rfl,by decide +kernel,by decide +kernel⟩
theorem Zg (F:Fun K "is_within" "is_within" (top 11) f fd) (B:Blt mg) (qc0:zm P w K mg base n "is_whole" ["thing"] (xy K))     :
  FnOk P w K mg base CX0 (n+1) f fd ["thing","least","greatest"] (ya K):=by
 refine F.ok Zf yP (fun cdv A outer s H vs Q E hr h=>?_)
 obtain ⟨x,y,z,rfl,i,l,u,rfl,rfl,rfl,q⟩:=h
 refine ⟨_,(zi (zv (uD (zh qc0 hr rfl (za (pv 0) zb)) (wO (VW VU VU (pv 1) (pv 0) (pv 2)))))),?_⟩
 refine ⟨_,rfl,_,rfl,Yp,_,rfl,vn ⟨_,rfl,_,rfl,_,_,rfl,rfl,_,rfl,?_⟩⟩
 by_cases c:l<=i
 ·refine y7 (decide_eq_true c) ⟨_,rfl,_,_,rfl,rfl,?_⟩
  rw [decide_eq_true c] at q; exact q
 ·refine yF (decide_eq_false c) ?_
  rw [decide_eq_false c] at q; exact q
theorem qU:FnScope ["self","number"] ["self","number"] (zf (zj (top 45) 14)):=⟨rfl,rfl,rfl,by decide +kernel,rfl,by decide +kernel,by decide +kernel⟩
theorem qV (F:Fun K "answer" "Net.answer" (zj (top 45) 14) f fd) (B:Blt mg) {C:Addr} (T:NTxt K mg C) (qc0:zm P w K mg base n "is_within" ["thing","least","greatest"] (ya K))     :
  FnOk P w K mg base CX0 (n+1) f fd ["self","number"] (uu C K):=by
 refine F.ok qU yq (fun cdv A outer s H vs Q E hr h=>?_)
 obtain ⟨x,y,rfl,A5,ns,n5,rfl,rfl,hlt,hn,q⟩:=h
 refine ⟨_,(zd (ye (yL (yE (zh qc0 hr rfl (za (pv 1) (za ze (za (zp yx (zq zD rfl B.len wY (za (zz (pv 0) rfl) zb)) ze) zb)))))) (zi xf) zx) (zi (zv (Ur (Room.u1F hr) (zz (pv 0) rfl) (pv 1) ⟨rfl,rfl,rfl,rfl⟩)))),?_⟩
 obtain ⟨xs,hla,hxa⟩:=hn.la
 have e1:=hxa.len
 refine ⟨_,rfl,_,rfl,_,C,_,_,_,rfl,hn.ob.choose_spec,T.cl,T.n_asks,tP,_,_,rfl,.inl (J1.of hla),_,_,rfl,rfl,_,_,_,rfl,_,_,_,rfl,rfl,rfl,_,rfl,yF (by rw [decide_eq_true (show (0:Int)<=n5 by omega),decide_eq_true (show (n5:Int)<=(xs.length:Int) - 1 by omega)]; rfl) ?_⟩
 have ev:wS (nKv ns.ans) (.inl (n5:Int))=(wo ns.ans n5).map V.int:=tO
 refine ⟨_,rfl,_,C,_,_,_,rfl,hn.ob.choose_spec,T.cl,T.n_answers,uj,_,rfl,(.inl ⟨_,.inl hn.da⟩),_,rfl,_,.inl ⟨_,.inl (n5:Int),.inl hn.da,rfl,rfl⟩,?_⟩
 rw [ev]
 cases e:wo ns.ans n5 with
 | none=>rw [e] at q; exact q
 | some v=>rw [e] at q; exact q
theorem Zh:FnScope ["k","stage","number"] ["k","stage","number"] (zf (top 28)):=⟨rfl,rfl,rfl,by decide +kernel,rfl,by decide +kernel,by decide +kernel⟩
theorem Zi (F:Fun K "is_switch" "is_switch" (top 28) f fd) (B:Blt mg) (qc0:zm P w K mg base n "is_within" ["thing","least","greatest"] (ya K))     :
  FnOk P w K mg base CX0 (n+1) f fd ["k","stage","number"] (Vl K):=by
 refine F.ok Zh yP (fun cdv A outer s H vs Q E hr h=>?_)
 obtain ⟨x,y,z,rfl,k,s5,n5,rfl,rfl,rfl,k4,q⟩:=h
 refine ⟨_,(zi (zv (uD (zh qc0 hr rfl (za (pv 1) (za ze (za (pv 0) zb)))) (wO (zh qc0 hr rfl (za (pv 2) (za ze (za (zp yx (zp yX ze (zp yx (pv 0) ze)) ze) zb)))))))),?_⟩
 refine ⟨_,rfl,_,rfl,_,_,_,rfl,_,_,_,rfl,rfl,rfl,_,rfl,?_⟩
 by_cases c:1<=s5 /\ s5<=k
 ·obtain ⟨c1,c2⟩:=c
  have ek:(k:Int) - 1=((k - 1:Nat):Int):=by omega
  refine y7 (by rw [decide_eq_true (show (1:Int)<=s5 by omega),decide_eq_true (show (s5:Int)<=k by omega)]; rfl) ?_
  refine ⟨_,rfl,_,rfl,_,_,rfl,rfl,1,((k - 1:Nat):Int),rfl,congrArg V.int ek,wv (by omega),_,_,rfl,rfl,_,_,_,rfl,_,_,_,rfl,rfl,rfl,?_⟩
  rw [Zw]
  have e:(decide ((0:Int)<=n5) && decide ((n5:Int)<=((2 ^ (k - 1):Nat):Int) - 1))=decide (1<=s5 /\ s5<=k /\ n5 < 2 ^ (k - 1)):=by
   rw [decide_eq_true (show (0:Int)<=n5 by omega),Bool.true_and]
   exact decide_eq_decide.mpr ⟨fun h=>⟨c1,c2,by omega⟩,fun h=>by omega⟩
  rw [e]; exact q
 ·refine yF (by
   by_cases c1:1<=s5
   ·rw [decide_eq_false (show ¬ (s5:Int)<=k by omega),Bool.and_false]
   ·rw [decide_eq_false (show ¬ (1:Int)<=s5 by omega),Bool.false_and]) ?_
  rw [decide_eq_false (fun h=>c ⟨h.1,h.2.1⟩)] at q
  exact q
theorem sn:FnScope ["self","stage","number"] ["self","stage","number"] (zf (zj (top 45) 16)):=⟨rfl,rfl,rfl,by decide +kernel,rfl,by decide +kernel,by decide +kernel⟩
theorem sr (F:Fun K "joinings" "Net.joinings" (zj (top 45) 16) f fd) (B:Blt mg) {C:Addr} (T:NTxt K mg C) (qc0:zm P w K mg base n "is_switch" ["k","stage","number"] (Vl K))     :
  FnOk P w K mg base CX0 (n+1) f fd ["self","stage","number"] (wz C K):=by
 refine F.ok sn yP (fun cdv A outer s H vs Q E hr h=>?_)
 obtain ⟨x,y,z,rfl,A5,ns,s5,n5,rfl,rfl,rfl,s1,sk,hn5,k4,hn,q⟩:=h
 refine ⟨_,(zd (ye (yL (yE (zh qc0 hr rfl (za (zz (pv 0) rfl) (za (pv 1) (za (pv 2) zb)))))) (zi xf) zx) (zi (zv (ww (Room.u1F hr) (zz (pv 0) rfl) (zH (za (pv 1) (za (pv 2) zb))) (fun _ _=>rfl))))),?_⟩
 refine ⟨_,rfl,_,C,_,_,_,rfl,hn.ob.choose_spec,T.cl,T.n_depth,yc,_,rfl,_,rfl,_,_,_,rfl,ns.k,s5,n5,rfl,rfl,rfl,k4,_,rfl,yF (by rw [decide_eq_true ⟨s1,sk,hn5⟩]; rfl) ?_⟩
 refine ⟨_,rfl,_,C,_,_,_,rfl,hn.ob.choose_spec,T.cl,T.n_keeping,wH,_,rfl,_,rfl,szl rfl,fun t ht=>?_⟩
 have gt:=Grow.new (m:=[]) ht (.tup [.int s5,.int n5])
 have kt:JQ H t (.tup [.int s5,.int n5]) t=some (.tup [.int s5,.int n5]):=zc
 have hn2:=hn.grow0 gt
 exact ⟨_,_,rfl,(vD (kp:=ns.keep) s1 sk hn5) ▸ qp.t hn2.dk (xp kt),q _ gt⟩
theorem XO:FnScope ["k","thing"] ["k","thing"] (zf (top 27)):=⟨rfl,rfl,rfl,by decide +kernel,rfl,by decide +kernel,by decide +kernel⟩
theorem XQ (F:Fun K "is_line" "is_line" (top 27) f fd) (B:Blt mg) (qc0:zm P w K mg base n "is_within" ["thing","least","greatest"] (ya K))     :
  FnOk P w K mg base CX0 (n+1) f fd ["k","thing"] (wB K):=by
 refine F.ok XO yq (fun cdv A outer s H vs Q E hr h=>?_)
 obtain ⟨x,y,rfl,k,l,rfl,rfl,k4,hl,q⟩:=h
 refine ⟨_,(zi (zv (zh qc0 hr rfl (za (pv 1) (za ze (za (zp yx (zp yX ze (pv 0)) ze) zb)))))),?_⟩
 refine ⟨_,rfl,_,rfl,_,_,rfl,rfl,wv k4,_,_,rfl,rfl,_,_,_,rfl,_,_,_,rfl,rfl,rfl,?_⟩
 rw [decide_eq_true (show (0:Int)<=l by omega),decide_eq_true (show (l:Int)<=1 * 2 ^ ((k:Int)).toNat - 1 by rw [qk]; omega)]
 exact q
theorem sI:FnScope ["self","level","line"] ["self","level","line"] (zf (zj (top 45) 15)):=⟨rfl,rfl,rfl,by decide +kernel,rfl,by decide +kernel,by decide +kernel⟩
theorem sJ (F:Fun K "waiting" "Net.waiting" (zj (top 45) 15) f fd) (B:Blt mg) {C:Addr} (T:NTxt K mg C) (qc0:zm P w K mg base n "is_line" ["k","thing"] (wB K)) (qc1:zm P w K mg base n "is_within" ["thing","least","greatest"] (ya K))     :
  FnOk P w K mg base CX0 (n+1) f fd ["self","level","line"] (wZ C K):=by
 refine F.ok sI yP (fun cdv A outer s H vs Q E hr h=>?_)
 obtain ⟨x,y,z,rfl,A5,ns,l,j,rfl,rfl,rfl,hl,hj,k4,hlen,hn,q⟩:=h
 refine ⟨_,(zd (ye (yL (PW.pt (wN (yE (zh qc1 hr rfl (za (pv 1) (za ze (za (zz (pv 0) rfl) zb))))) (xX (yE (zh qc0 hr rfl (za (zz (pv 0) rfl) (za (pv 2) zb)))))))) (zi xf) zx) (zi (zv (zZ z8 rfl B.tuple yZ (za (xH (CSc.of (N':=["box","deed","numbers","met"]) (sub:=[none,none,none,none]) (zf (zj (top 45) 15)) ["self","level","line"] rfl rfl (by decide +kernel) rfl) rfl (wX (ww (Room.u1F hr) (zz (pv 0) rfl) (zH (za (pv 1) (za (pv 2) zb))) (fun _ _=>rfl))) (fun _ _ _ _ _ _=>tK (K:=K) 4 rfl rfl (zo (zk (i:=0) (show (["box","deed","numbers","met"]:List Str).Nodup by decide +kernel) rfl (Or.inl rfl) (Or.inr rfl)) (zo (zk (i:=1) (show (["box","deed","numbers","met"]:List Str).Nodup by decide +kernel) rfl (Or.inl rfl) (Or.inr rfl)) (zo (zk (i:=2) (show (["box","deed","numbers","met"]:List Str).Nodup by decide +kernel) rfl (Or.inl rfl) (Or.inr rfl)) (zo (zk (i:=3) (show (["box","deed","numbers","met"]:List Str).Nodup by decide +kernel) rfl (Or.inl rfl) (Or.inr rfl)) yo)))) rfl rfl) (fun _ _ _ _ _ _=>yu) (fun _ _ _ _ _ _=>(zH (za (pv 0) (za (pv 1) (za (pv 2) zb)))))) zb))))),?_⟩
 refine ⟨_,rfl,_,rfl,_,C,_,_,_,rfl,hn.ob.choose_spec,T.cl,T.n_depth,yc,_,_,_,rfl,_,_,_,rfl,rfl,rfl,_,rfl,y7 (by rw [decide_eq_true (show (0:Int)<=l by omega),decide_eq_true (show (l:Int)<=ns.k by omega)]; rfl) ?_⟩
 refine ⟨_,rfl,_,C,_,_,_,rfl,hn.ob.choose_spec,T.cl,T.n_depth,yc,_,rfl,_,_,rfl,ns.k,j,rfl,rfl,k4,hj,_,rfl,xw ?_⟩
 refine ⟨_,rfl,_,C,_,_,_,rfl,hn.ob.choose_spec,T.cl,T.n_lines,vF,_,rfl,_,rfl,szl rfl,fun t ht=>?_⟩
 have gt:=Grow.new (m:=[]) ht (.tup [.int l,.int j])
 have kt:JQ H t (.tup [.int l,.int j]) t=some (.tup [.int l,.int j]):=zc
 have hn2:=hn.grow0 gt
 refine ⟨_,_,rfl,(vC (A:=A5) hl hj) ▸ qp.t hn2.dl (xp kt),?_⟩
 obtain ⟨ys,hys,hw⟩:=hn2.ln hl hj
 have el:=hw.len
 generalize JQ H t _=H2 at gt kt hn2 hys hw ⊢
 refine ⟨_,rfl,⟨_,J1.of hys⟩,vo (xs:=ys) (fun i vs σ' H'=>(∃ e0 e1 e2 e3,σ' = [e0,e1,e2,e3]) /\ Grow [] H2 H' /\ vs.length=i /\ zT (Qa K H') vs ((ns.lines l j).take i)) ⟨⟨_,_,_,_,rfl⟩,Grow.refl _ _,rfl,trivial⟩ (fun i vs σ' H' _ ⟨_,g,_⟩=>J1.of (g.keep _ _ (by simp) hys)) ?_ ?_⟩
 ·rintro i x vs σ' H3 hx ⟨⟨e0,e1,e2,e3,rfl⟩,g3,hvl,hvs⟩
  obtain ⟨w5,hw5,r,rd,rn,rm,mv,rfl,w1,w2,w3,w4,w6⟩:=hw.get hx
  have il:=(List.getElem?_eq_some_iff.mp hw5).1
  have etk:(ns.lines l j).take (i+1)=(ns.lines l j).take i ++ [w5]:=by
   obtain ⟨hi,e⟩:=List.getElem?_eq_some_iff.mp hw5
   rw [List.take_succ_eq_append_getElem hi,e]
  refine ⟨r,_,rfl,g3.sqT w1,rfl,_,_,rfl,_,_,rfl,_,_,rfl,_,_,rfl,rfl,?_⟩
  refine ⟨_,rfl,_,rfl,_,rfl,szl rfl,fun t3 ht3=>?_⟩
  have g4:=Grow.new (m:=[]) ht3 (.tup [.int w5.box,.ref rd,.ref rn])
  have G4:=g3.trans g4
  refine ⟨zr (by omega),⟨_,_,_,_,rfl⟩,G4,by simp [hvl],?_⟩
  rw [etk]
  exact (hvs.imp fun _ _ ⟨a,b,c,e,z1,z2,z3⟩=>⟨a,b,c,e,g4.sqT z1,g4.sqT z2,g4.sqT z3⟩).app (.one ⟨t3,rd,rn,rfl,J3.of zc,G4.sqT w2,G4.sqT w3⟩)
 rintro vs σ' H3 ⟨_,g3,hvl,hvs⟩ p hp
 rw [el,List.take_length] at hvs
 have g4:=Grow.new (m:=[]) hp (.lst vs)
 refine ⟨_,_,rfl,.inl ⟨J1.of zc,fun t4 ht4=>?_⟩⟩
 have g5:=Grow.new (m:=[]) ht4 (.tup vs)
 have g45:=g4.trans g5
 exact q _ _ (gt.trans (g3.trans g45)) ⟨t4,vs,rfl,J3.of zc,hvs.imp fun _ _ ⟨a,b,c,e,z1,z2,z3⟩=>⟨a,b,c,e,g45.sqT z1,g45.sqT z2,g45.sqT z3⟩⟩
theorem xu:FnScope ["_law_net","_law_k","_law_asks","_law_lines","_law_pairs","_law_answers"] ["_law_net","_law_k","_law_asks"] (zf (top 54)):=⟨rfl,rfl,rfl,by decide +kernel,rfl,by decide +kernel,by decide +kernel⟩
theorem qW (F:Fun K "_law_shown" "_law_shown" (top 54) f fd) (B:Blt mg) {C:Addr} (T:NTxt K mg C) (mc_todo:zt P w K mg base C n "todo" ["self"] (uS C K)) (mc_beats:zt P w K mg base C n "beats" ["self"] (vK C K)) (mc_log:zt P w K mg base C n "log" ["self"] (qK C K)) (mc_board:zt P w K mg base C n "board" ["self"] (tW C K)) (mc_answer:zt P w K mg base C n "answer" ["self","number"] (uu C K)) (mc_joinings:zt P w K mg base C n "joinings" ["self","stage","number"] (wz C K)) (mc_waiting:zt P w K mg base C n "waiting" ["self","level","line"] (wZ C K)) (qc0:zm P w K mg base n "_law_spots" ["_law_first","_law_k","_law_many"] (rP K))     :
  FnOk P w K mg base CX0 (n+1) f fd ["_law_net","_law_k","_law_asks"] (uy C K):=by
 refine F.ok xu yP (fun cdv A outer s H vs Q E hr h=>?_)
 obtain ⟨x,y,z,rfl,A5,ns,rfl,rfl,rfl,hn,nx,q⟩:=h
 refine ⟨_,(zd (vy (i:=3) xu.nd rfl rfl (CSc.of (N':=["_law_level","_law_line","_law_net"]) (sub:=[none,none,some 0]) (zf (top 54)) ["_law_net","_law_k","_law_asks","_law_lines","_law_pairs","_law_answers"] rfl rfl (by decide +kernel) rfl) rfl (wX (zh qc0 hr rfl (za ze (za (pv 1) (za (zp yX ze (pv 1)) zb))))) (fun _ _ _ _ _ _=>tK (K:=K) 2 rfl rfl (zo (zk (i:=0) (show (["_law_level","_law_line","_law_net"]:List Str).Nodup by decide +kernel) rfl (Or.inl rfl) (Or.inr rfl)) (zo (zk (i:=1) (show (["_law_level","_law_line","_law_net"]:List Str).Nodup by decide +kernel) rfl (Or.inl rfl) (Or.inr rfl)) yo)) rfl rfl) (fun _ _ _ _ _ _=>yu) (fun _ _ _ _ _ _=>(zU mc_waiting T.cl hr (pv 2) (za (pv 0) (za (pv 1) zb))))) (zd (vy (i:=4) xu.nd rfl rfl (CSc.of (N':=["_law_stage","_law_number_here","_law_net"]) (sub:=[none,none,some 0]) (zf (top 54)) ["_law_net","_law_k","_law_asks","_law_lines","_law_pairs","_law_answers"] rfl rfl (by decide +kernel) rfl) rfl (wX (zh qc0 hr rfl (za ze (za (pv 1) (za (zp qh (zp yX ze (pv 1)) ze) zb))))) (fun _ _ _ _ _ _=>tK (K:=K) 2 rfl rfl (zo (zk (i:=0) (show (["_law_stage","_law_number_here","_law_net"]:List Str).Nodup by decide +kernel) rfl (Or.inl rfl) (Or.inr rfl)) (zo (zk (i:=1) (show (["_law_stage","_law_number_here","_law_net"]:List Str).Nodup by decide +kernel) rfl (Or.inl rfl) (Or.inr rfl)) yo)) rfl rfl) (fun _ _ _ _ _ _=>yu) (fun _ _ _ _ _ _=>(zU mc_joinings T.cl hr (pv 2) (za (pv 0) (za (pv 1) zb))))) (zd (vy (i:=5) xu.nd rfl rfl (CSc.of (N':=["_law_number_here","_law_net"]) (sub:=[none,some 0]) (zf (top 54)) ["_law_net","_law_k","_law_asks","_law_lines","_law_pairs","_law_answers"] rfl rfl (by decide +kernel) rfl) rfl (zS rfl B.range (za (pv 2) zb)) (fun _ _ _ _ _ _=>zk (i:=0) (show (["_law_number_here","_law_net"]:List Str).Nodup by decide +kernel) rfl (Or.inl rfl)) (fun _ _ _ _ _ _=>yu) (fun _ _ _ _ _ _=>(zU mc_answer T.cl hr (pv 1) (za (pv 0) zb)))) (zi (zv (YT (xg (za (YT (pv 3)) (za (YT (pv 4)) (za (yQ mc_board T.cl hr (pv 0)) (za (yQ mc_log T.cl hr (pv 0)) (za (yQ mc_beats T.cl hr (pv 0)) (za (yQ mc_todo T.cl hr (pv 0)) (za (YT (pv 5)) zb)))))))))))))),?_⟩
 have nr:=nx.nw.nr
 have k4:=nr.k4
 have p16:=ue k4
 have a40:=nr.a40
 have eP:y8 1 (2 ^ ns.k / 2) (ns.k+1 - 1) 0=y8 1 (2 ^ (ns.k - 1)) ns.k 0:=by
  rw [Nat.add_sub_cancel]
  cases hk0:ns.k with
  | zero=>rfl
  | succ m=>rw [show 2 ^ (m+1) / 2=2 ^ (m+1 - 1) by rw [Nat.pow_succ,Nat.mul_div_cancel _ (by decide)]; rfl]
 refine uM (fun v H'=>∃ lp vs,v = .ref lp /\ H lp=none /\ H' lp=some (.lst vs) /\ zT (wj K H') vs ((y8 0 (2 ^ ns.k) (ns.k+1) 0).map (UM ns)) /\ Grow [] H H') (fun Kk hk=>⟨_,rfl,_,rfl,_,_,rfl,rfl,wv k4,_,_,_,rfl,0,ns.k,2 ^ ns.k,rfl,rfl,congrArg V.int (by rw [Zw]),by decide,k4,p16,fun r5 H4 g4 fr5 hsp=>?_⟩) ?_
 ·obtain ⟨r5',ys,e5,hr5,hp⟩:=hsp
  cases e5
  have hPm:∀ q ∈ y8 0 (2 ^ ns.k) (ns.k+1) 0,q.1<=ns.k /\ q.2 < 2 ^ ns.k:=fun q hq=>by
   rcases xt.mp hq with ⟨h0,h1,h2⟩ | ⟨_,h2⟩
   ·exact ⟨by omega,h2⟩
   ·exact absurd h2 (Nat.not_lt_zero _)
  have yl:ys.length<=1000:=by rw [hp.len]; exact Nat.le_of_lt (vJ p16 (by omega) (by omega))
  rw [show ns.k+1 - 0=ns.k+1 from rfl] at hp
  generalize y8 0 (2 ^ ns.k) (ns.k+1) 0=P1 at hp hPm hk
  have pl:=hp.len
  refine ⟨r5,rfl,⟨_,J1.of hr5⟩,vo (xs:=ys) (fun i vs σ' H'=>(∃ e0 e1,σ' = [e0,e1,some (.ref (A5 .p))]) /\ Grow [] H4 H' /\ vs.length=i /\ zT (wj K H') vs ((P1.take i).map (UM ns))) ⟨⟨_,_,rfl⟩,Grow.refl _ _,rfl,trivial⟩ (fun i vs σ' H' _ ⟨_,g,_⟩=>J1.of (g.keep _ _ (by simp) hr5)) ?_ ?_⟩
  ·rintro i x vs σ' H5 hx ⟨⟨e0,e1,rfl⟩,g5,vl,hvs⟩
   obtain ⟨q5,hq5,r2,rfl,hr2⟩:=hp.get hx
   have il:=(List.getElem?_eq_some_iff.mp hx).1
   obtain ⟨q1,q2⟩:=hPm q5 (List.mem_of_getElem? hq5)
   have hn5:=hn.grow0 (g4.trans g5)
   refine ⟨r2,_,rfl,g5.sqT hr2,rfl,_,_,rfl,_,_,rfl,rfl,?_⟩
   refine ⟨_,rfl,_,_,_,rfl,hn5.ob.choose_spec,XB,_,rfl,_,rfl,_,_,_,rfl,A5,ns,q5.1,q5.2,rfl,rfl,rfl,q1,q2,k4,by have:=(vG nr q1 q2).1; omega,hn5,fun u H6 g6 hu=>?_⟩
   refine ⟨zr (by omega),⟨_,_,rfl⟩,g5.trans g6,by rw [List.length_append,vl]; rfl,?_⟩
   obtain ⟨hi,e⟩:=List.getElem?_eq_some_iff.mp hq5
   rw [List.take_succ_eq_append_getElem hi,e,List.map_append]
   exact (hvs.imp fun _ _ z=>z.grow g6).app (.one (Vx hu))
  ·rintro vs σ' H5 ⟨_,g5,vl,hvs⟩ l hl
   rw [pl,List.take_length] at hvs
   have gl:=Grow.new (m:=[]) hl (.lst vs)
   exact hk _ _ ⟨l,vs,rfl,(g4.trans g5).free (by simp) hl,zc,hvs.imp fun _ _ z=>z.grow gl,g4.trans (g5.trans gl)⟩
 rintro _ H1 ⟨l1,v1,rfl,f1,hl1,d1,g1⟩
 have hn1:=hn.grow0 g1
 refine uM (fun v H'=>∃ lp vs,v = .ref lp /\ H1 lp=none /\ H' lp=some (.lst vs) /\ zT (wj K H') vs ((y8 1 (2 ^ (ns.k - 1)) ns.k 0).map fun q=>.int (ns.keep q.1 q.2)) /\ Grow [] H1 H') (fun Kk hk=>⟨_,rfl,_,rfl,_,_,rfl,rfl,wv k4,_,_,rfl,rfl,⟨by decide,by decide⟩,_,_,_,rfl,1,ns.k,2 ^ ns.k / 2,rfl,rfl,congrArg V.int (by rw [Zw]; rfl),by decide,k4,by omega,fun r5 H4 g4 fr5 hsp=>?_⟩) ?_
 ·obtain ⟨r5',ys,e5,hr5,hp⟩:=hsp
  cases e5
  rw [eP] at hp
  have hPm:∀ q ∈ y8 1 (2 ^ (ns.k - 1)) ns.k 0,1<=q.1 /\ q.1<=ns.k /\ q.2 < 2 ^ (ns.k - 1):=fun q hq=>by
   rcases xt.mp hq with ⟨h0,h1,h2⟩ | ⟨_,h2⟩
   ·exact ⟨h0,by omega,h2⟩
   ·exact absurd h2 (Nat.not_lt_zero _)
  have p8:2 ^ (ns.k - 1)<=16:=Nat.le_trans (Nat.pow_le_pow_right (by decide) (by omega)) p16
  have yl:ys.length<=1000:=by rw [hp.len]; exact Nat.le_of_lt (vJ p8 (by omega) (by omega))
  generalize y8 1 (2 ^ (ns.k - 1)) ns.k 0=P1 at hp hPm hk
  have pl:=hp.len
  refine ⟨r5,rfl,⟨_,J1.of hr5⟩,vo (xs:=ys) (fun i vs σ' H'=>(∃ e0 e1,σ' = [e0,e1,some (.ref (A5 .p))]) /\ Grow [] H4 H' /\ vs.length=i /\ zT (wj K H') vs ((P1.take i).map fun q=>.int (ns.keep q.1 q.2))) ⟨⟨_,_,rfl⟩,Grow.refl _ _,rfl,trivial⟩ (fun i vs σ' H' _ ⟨_,g,_⟩=>J1.of (g.keep _ _ (by simp) hr5)) ?_ ?_⟩
  ·rintro i x vs σ' H5 hx ⟨⟨e0,e1,rfl⟩,g5,vl,hvs⟩
   obtain ⟨q5,hq5,r2,rfl,hr2⟩:=hp.get hx
   have il:=(List.getElem?_eq_some_iff.mp hx).1
   obtain ⟨q0,q1,q2⟩:=hPm q5 (List.mem_of_getElem? hq5)
   have hn5:=hn1.grow0 (g4.trans g5)
   refine ⟨r2,_,rfl,g5.sqT hr2,rfl,_,_,rfl,_,_,rfl,rfl,?_⟩
   refine ⟨_,rfl,_,_,_,rfl,hn5.ob.choose_spec,ZP,_,rfl,_,rfl,_,_,_,rfl,A5,ns,q5.1,q5.2,rfl,rfl,rfl,q0,q1,q2,k4,hn5,fun H6 g6=>?_⟩
   refine ⟨zr (by omega),⟨_,_,rfl⟩,g5.trans g6,by rw [List.length_append,vl]; rfl,?_⟩
   obtain ⟨hi,e⟩:=List.getElem?_eq_some_iff.mp hq5
   rw [List.take_succ_eq_append_getElem hi,e,List.map_append]
   exact (hvs.imp fun _ _ z=>z.grow g6).app (.one (.int _))
  ·rintro vs σ' H5 ⟨_,g5,vl,hvs⟩ l hl
   rw [pl,List.take_length] at hvs
   have gl:=Grow.new (m:=[]) hl (.lst vs)
   exact hk _ _ ⟨l,vs,rfl,(g4.trans g5).free (by simp) hl,zc,hvs.imp fun _ _ z=>z.grow gl,g4.trans (g5.trans gl)⟩
 rintro _ H2 ⟨l2,v2,rfl,f2,hl2,d2,g2⟩
 have hn2:=hn1.grow0 g2
 refine uM (fun v H'=>∃ lp vs,v = .ref lp /\ H2 lp=none /\ H' lp=some (.lst vs) /\ zT (wj K H') vs ((List.range ns.asks.length).map fun n=>oD (wo ns.ans n)) /\ Grow [] H2 H') (fun Kk hk=>⟨_,rfl,_,rfl,by omega,by omega,vp (fun i vs H'=>Grow [] H2 H' /\ vs.length=i /\ zT (wj K H') vs ((List.range i).map fun n=>oD (wo ns.ans n))) ⟨Grow.refl _ _,rfl,trivial⟩ ?_ ?_⟩) ?_
 ·rintro i vs H5 hi ⟨g5,vl,hvs⟩
  rw [Int.toNat_natCast] at hi
  have hn5:=hn2.grow0 g5
  refine ⟨_,rfl,_,_,_,rfl,hn5.ob.choose_spec,W5,_,rfl,_,_,rfl,A5,ns,i,rfl,congrArg V.int (Int.zero_add _),hi,hn5,?_⟩
  refine ⟨zr (by omega),g5,by rw [List.length_append,vl]; rfl,?_⟩
  rw [List.range_succ,List.map_append]
  exact hvs.app (.one (.oN _))
 ·rintro vs H5 ⟨g5,vl,hvs⟩ l hl
  rw [Int.toNat_natCast] at hvs
  have gl:=Grow.new (m:=[]) hl (.lst vs)
  exact hk _ _ ⟨l,vs,rfl,g5.free (by simp) hl,zc,hvs.imp fun _ _ z=>z.grow gl,g5.trans gl⟩
 rintro _ H3 ⟨l3,v3,rfl,f3,hl3,d3,g3⟩
 have hn3:=hn2.grow0 g3
 have hl23:=g3.keep _ _ (by simp) hl2
 have hl13:=(g2.trans g3).keep _ _ (by simp) hl1
 have n12:l1 ≠ l2:=fun e=>by rw [← e,hl1] at f2; cases f2
 have n23:l2 ≠ l3:=fun e=>by rw [← e,hl2] at f3; cases f3
 have n13:l1 ≠ l3:=fun e=>by rw [← e,g2.keep _ _ (by simp) hl1] at f3; cases f3
 refine ⟨_,rfl,l1,v1,rfl,hl13,fun o1=>?_⟩
 have q1:=Grow.frzL (m:=[l1]) (o:=o1) hl13 (by simp)
 have s1:JQ H3 l1 (.frz o1 (.lst v1)) l1=some (.frz o1 (.lst v1)):=zc
 have hl24:=q1.keep _ _ (by simpa using n12.symm) hl23
 have hl34:=q1.keep _ _ (by simpa using n13.symm) hl3
 have hn4:NetAt K C (JQ H3 l1 (.frz o1 (.lst v1))) A5 ns:=hn3.grow q1 fun c hc z=>by
  have e:A5 c=l1:=by simpa using z
  obtain ⟨o,h1,_⟩:=hn.at_ c hc
  rw [e,f1] at h1; cases h1
 generalize JQ H3 l1 _=H4 at q1 s1 hl24 hl34 hn4 ⊢
 refine ⟨_,rfl,l2,v2,rfl,hl24,fun o2=>?_⟩
 have q2:=Grow.frzL (m:=[l2]) (o:=o2) hl24 (by simp)
 have s2:JQ H4 l2 (.frz o2 (.lst v2)) l2=some (.frz o2 (.lst v2)):=zc
 have hl35:=q2.keep _ _ (by simpa using n23.symm) hl34
 have hn5:NetAt K C (JQ H4 l2 (.frz o2 (.lst v2))) A5 ns:=hn4.grow q2 fun c hc z=>by
  have e:A5 c=l2:=by simpa using z
  obtain ⟨o,h1,_⟩:=hn1.at_ c hc
  rw [e,f2] at h1; cases h1
 generalize JQ H4 l2 _=H5 at q2 s2 hl35 hn5 ⊢
 refine ⟨_,rfl,_,_,_,rfl,hn5.ob.choose_spec,Uz,_,rfl,A5,ns,rfl,hn5,nr.b16,fun z6 H6 g6 hz6=>?_⟩
 have hn6:=hn5.grow0 g6
 refine ⟨_,rfl,_,_,_,rfl,hn6.ob.choose_spec,U5,_,rfl,A5,ns,rfl,hn6,by have:=nx.nw.l40; omega,fun z7 H7 g7 hz7=>?_⟩
 have hn7:=hn6.grow0 g7
 refine ⟨_,rfl,_,_,_,rfl,hn7.ob.choose_spec,YJ,_,rfl,A5,ns,rfl,hn7,?_⟩
 refine ⟨_,rfl,_,_,_,rfl,hn7.ob.choose_spec,W4,_,rfl,A5,ns,rfl,hn7,?_⟩
 have hl37:=(g6.trans g7).keep _ _ (by simp) hl35
 refine ⟨_,rfl,l3,v3,rfl,hl37,fun o3=>⟨szl rfl,fun lz hlz=>⟨lz,_,rfl,zc,fun o4=>?_⟩⟩⟩
 have q3:=Grow.frzL (m:=[l3]) (o:=o3) hl37 (by simp)
 have s3:JQ H7 l3 (.frz o3 (.lst v3)) l3=some (.frz o3 (.lst v3)):=zc
 have q4:=Grow.newF (m:=[]) (o:=o4) (xs:=[.ref l1,.ref l2,z6,z7,.int ns.now,.int ((ns.asks.length:Int) - ns.ans.length),.ref l3]) hlz
 have GA:Grow [l1,l2,l3] H3 _:=(q1.mono (m':=[l1,l2,l3]) (by simp)).trans ((q2.mono (m':=[l1,l2,l3]) (by simp)).trans ((g6.trans g7).wk.trans ((q3.mono (m':=[l1,l2,l3]) (by simp)).trans q4.wk)))
 have G0:=g1.trans (g2.trans g3)
 have G:Grow [] H _:=((G0.wk (m:=[l1,l2,l3])).trans GA).less fun b hb=>.inr (by
  simp only [List.mem_cons,List.not_mem_nil,or_false] at hb
  rcases hb with rfl | rfl | rfl
  ·exact f1
  ·exact g1.free (by simp) f2
  ·exact (g1.trans g2).free (by simp) f3)
 refine q _ _ G (.lst zc ?_)
 have e1:=(d1.imp fun _ _ z=>z.grow (g2.trans g3)).imp fun _ _ z=>z.grow GA
 have e2:=(d2.imp fun _ _ z=>z.grow g3).imp fun _ _ z=>z.grow GA
 have e3:=d3.imp fun _ _ z=>z.grow GA
 have t1:=q4.frz _ _ _ (q3.frz _ _ _ ((g6.trans g7).frz _ _ _ (q2.frz _ _ _ s1)))
 have t2:=q4.frz _ _ _ (q3.frz _ _ _ ((g6.trans g7).frz _ _ _ s2))
 have t3:=q4.frz _ _ _ s3
 exact ⟨.lst t1 e1,.lst t2 e2,((ux hz6).grow g7).grow (q3.trans (q4.wk (m:=[l3]))),(ux hz7).grow (q3.trans (q4.wk (m:=[l3]))),.int _,.int _,.lst t3 e3,trivial⟩
theorem Zj:FnScope ["k","thing"] ["k","thing"] (zf (top 29)):=⟨rfl,rfl,rfl,by decide +kernel,rfl,by decide +kernel,by decide +kernel⟩
theorem Zk (F:Fun K "need_hand" "need_hand" (top 29) f fd) (B:Blt mg) (qc0:zm P w K mg base n "is_line" ["k","thing"] (wB K))     :
  FnOk P w K mg base CX0 (n+1) f fd ["k","thing"] (uF K):=by
 refine F.ok Zj yq (fun cdv A outer s H vs Q E hr h=>?_)
 obtain ⟨x,y,rfl,k,l,rfl,rfl,k4,hl,q⟩:=h
 refine ⟨_,(zi (ye (yL (yE (zh qc0 hr rfl (za (pv 0) (za (pv 1) zb))))) (zi xf) zx)),?_⟩
 exact ⟨_,rfl,_,rfl,_,_,rfl,k,l,rfl,rfl,k4,hl,_,rfl,xw q⟩
theorem VD:FnScope ["thing"] ["thing"] (zf (top 13)):=⟨rfl,rfl,rfl,by decide +kernel,rfl,by decide +kernel,by decide +kernel⟩
theorem VE (F:Fun K "is_end" "is_end" (top 13) f fd) (B:Blt mg) (qc0:zm P w K mg base n "is_whole" ["thing"] (xy K))     :
  FnOk P w K mg base CX0 (n+1) f fd ["thing"] (jx K):=by
 refine F.ok VD yH (fun cdv A outer s H vs Q E hr h=>?_)
 obtain ⟨x,rfl,kn,q⟩:=h
 refine ⟨_,(zi (zv (Tm (SN (sR (pv 0))) (wO (zh qc0 hr rfl (za (pv 0) zb)))))),?_⟩
 refine ⟨x,rfl,_,rfl,?_⟩
 cases x with
 | non=>exact vn q
 | _=>exact xw ⟨_,rfl,_,rfl,kn,q⟩
theorem wJ:FnScope ["thing","add","low","high"] ["thing"] (zf (top 14)):=⟨rfl,rfl,rfl,by decide +kernel,rfl,by decide +kernel,by decide +kernel⟩
theorem XR (F:Fun K "is_deed" "is_deed" (top 14) f fd) (B:Blt mg) (qc0:zm P w K mg base n "is_end" ["thing"] (jx K)) (qc1:zm P w K mg base n "is_whole" ["thing"] (xy K))     :
  FnOk P w K mg base CX0 (n+1) f fd ["thing"] (s8 K):=by
 refine F.ok wJ yH (fun cdv A outer s H vs Q E hr h=>?_)
 obtain ⟨x,rfl,h⟩:=h
 refine ⟨_,(zd (ye (PW.pt (rY (yL (yE (zq xY rfl B.isinstance yy (za (pv 0) (za (tw rfl B.tuple yZ) zb))))) (vh (zE ZB (zq zD rfl B.len wY (za (pv 0) zb)) ze (zF _))))) (zi (zv uK)) zx) (zd (we (pv 0) (xP rfl (zo (zk (i:=1) wJ.nd rfl (Or.inl rfl)) (zo (zk (i:=2) wJ.nd rfl (Or.inl rfl)) (zo (zk (i:=3) wJ.nd rfl (Or.inl rfl)) yo))))) (zd (ye (yL (PW.pt (wN (yE (zh qc1 hr rfl (za (pv 1) zb))) (wN (yE (zh qc0 hr rfl (za (pv 2) zb))) (xX (yE (zh qc0 hr rfl (za (pv 3) zb)))))))) (zi (zv uK)) zx) (zd (ye (PW.pt (rY (uC (sR (pv 2))) (vh (uC (sR (pv 3)))))) (zi (zv uK)) zx) (zi (zv (Tm (xK qa (pv 2) (pv 3) (zF _)) (wO (uD (xK wn (pv 2) (pv 3) (zF _)) (wO (xK wn (pv 1) ze (zF _)))))))))))),?_⟩
 rcases h with ⟨T,hT,ty,q⟩ | ⟨a,xs,rfl,hs,hk,q⟩
 ·have kt:PySem.W.kitOne K (.type T) (.type "tuple")=some false:=by
   cases x with
   | non=>cases (show T = "NoneType" from ty); rfl
   | bl y=>cases (show T = "bool" from ty); rfl
   | int i=>cases (show T = "int" from ty); rfl
   | str y=>cases (show T = "str" from ty); rfl
   | byt y=>exact ty.elim
   | flt y=>exact ty.elim
   | ty y=>exact ty.elim
   | ref a =>
    rcases ty with ⟨rfl,xs,hq⟩ | ⟨rfl,xs,hq⟩ | ⟨rfl,kvs,hq⟩
    ·exact absurd rfl hT
    ·rfl
    ·rfl
  exact ⟨_,rfl,_,_,_,false,rfl,ty,kt,_,rfl,vn (vn q)⟩
 ·refine ⟨_,rfl,_,_,_,true,rfl,.inl ⟨rfl,xs,hs⟩,rfl,_,rfl,xw ⟨_,rfl,a,xs,rfl,.inr hs,rfl,_,rfl,?_⟩⟩
  by_cases hl:xs.length=3
  ·obtain ⟨y1,y2,y3,rfl⟩:=JF hl
   refine xw ⟨_,rfl,a,_,rfl,hs,rfl,_,_,rfl,_,_,rfl,_,_,rfl,rfl,?_⟩
   refine ⟨_,rfl,_,rfl,hk y1 (by simp),_,rfl,?_⟩
   refine VN (fun c1=>?_) (fun c1=>?_)
   ·obtain ⟨i1,rfl⟩:=Wn c1
    refine ⟨_,rfl,_,rfl,hk y2 (by simp),_,rfl,?_⟩
    refine VN (fun c2=>?_) (fun c2=>?_)
    ·obtain ⟨o2,rfl⟩:=US c2
     refine ⟨_,rfl,_,rfl,hk y3 (by simp),_,rfl,?_⟩
     by_cases c3:Y7 y3=true
     ·obtain ⟨o3,rfl⟩:=US c3
      rw [c3]
      refine xw ?_
      cases o2 with
      | none=>exact ⟨_,rfl,_,rfl,vn (vn (by cases o3 <;> exact q))⟩
      | some l =>
       cases o3 with
       | none=>exact ⟨_,rfl,_,rfl,xw ⟨_,rfl,_,rfl,vn q⟩⟩
       | some u =>
        refine ⟨_,rfl,_,rfl,xw ⟨_,rfl,_,rfl,xw ?_⟩⟩
        refine ⟨_,rfl,_,rfl,_,_,rfl,rfl,_,rfl,?_⟩
        have q':Q (.bl (decide (l < u) || (decide (l=u) && decide (i1=0)))) H:=q
        refine VN (fun c=>?_) (fun c=>?_)
        ·rw [c] at q'; exact q'
        ·rw [Bool.eq_false_iff.mpr c] at q'
         refine ⟨_,rfl,_,rfl,rfl,_,rfl,?_⟩
         refine VN (fun d=>?_) (fun d=>?_)
         ·have d':l=u:=V.int.inj (of_decide_eq_true d)
          refine ⟨_,rfl,rfl,?_⟩
          rw [decide_eq_true d'] at q'
          have e:decide (V.int i1=V.int 0)=decide (i1=0):=by simp
          rw [e]; exact q'
         ·have d':¬ l=u:=fun z=>d (by rw [z]; simp)
          rw [decide_eq_false d'] at q'
          exact q'
     ·have e:Y7 y3=false:=Bool.eq_false_iff.mpr c3
      rw [e]
      refine vn ?_
      have z:vY [V.int i1,ov o2,y3]=false:=by show (true && (Y7 (ov o2) && (Y7 y3 && _)))=false; rw [e]; simp
      rw [z] at q; exact q
    ·have e:Y7 y2=false:=Bool.eq_false_iff.mpr c2
     refine vn ?_
     have z:vY [V.int i1,y2,y3]=false:=by show (true && (Y7 y2 && (Y7 y3 && _)))=false; rw [e]; simp
     rw [z] at q; exact q
   ·have e:jw y1=false:=Bool.eq_false_iff.mpr c1
    refine vn ?_
    have z:vY [y1,y2,y3]=false:=by show (jw y1 && (Y7 y2 && (Y7 y3 && _)))=false; rw [e]; simp
    rw [z] at q; exact q
  ·have e:decide (V.int (xs.length:Int)=V.int 3)=false:=decide_eq_false fun z=>hl (by have:=V.int.inj z; omega)
   rw [e]
   refine vn ?_
   rw [ZD hl] at q; exact q
theorem vS:FnScope ["board","thing","hand","box","deed"] ["board","thing"] (zf (top 23)):=⟨rfl,rfl,rfl,by decide +kernel,rfl,by decide +kernel,by decide +kernel⟩
theorem VF (F:Fun K "is_ask" "is_ask" (top 23) f fd) (B:Blt mg) (qc0:zm P w K mg base n "is_deed" ["thing"] (s8 K)) (qc1:zm P w K mg base n "is_within" ["thing","least","greatest"] (ya K))   {t_LAST_HAND:Tok} (g_LAST_HAND:mg "LAST_HAND" = some (.int 15 t_LAST_HAND))  :
  FnOk P w K mg base CX0 (n+1) f fd ["board","thing"] (j1 K):=by
 refine F.ok vS yq (fun cdv A outer s H vs Q E hr h=>?_)
 obtain ⟨x,y,rfl,l,xs,k,rfl,hb,⟨r,rd,rfl,h1,h2⟩,⟨k1,k2,k3,k4,k5⟩,q⟩:=h
 refine ⟨_,(zd (ye (PW.pt (rY (yL (yE (zq xY rfl B.isinstance yy (za (pv 1) (za (tw rfl B.tuple yZ) zb))))) (vh (zE ZB (zq zD rfl B.len wY (za (pv 1) zb)) ze (zF _))))) (zi (zv uK)) zx) (zd (we (pv 1) (xP rfl (zo (zk (i:=2) vS.nd rfl (Or.inl rfl)) (zo (zk (i:=3) vS.nd rfl (Or.inl rfl)) (zo (zk (i:=4) vS.nd rfl (Or.inl rfl)) yo))))) (zi (zv (uD (zh qc1 hr rfl (za (pv 2) (za ze (za (vV rfl g_LAST_HAND (show zY (.int 15) (.int 15 t_LAST_HAND) from ⟨_,rfl⟩)) zb)))) (uD (zh qc1 hr rfl (za (pv 3) (za ze (za (zp yx (zq zD rfl B.len wY (za (pv 0) zb)) ze) zb)))) (wO (zh qc0 hr rfl (za (pv 4) zb))))))))),?_⟩
 refine ⟨_,rfl,_,_,_,true,rfl,.inl ⟨rfl,_,h1⟩,rfl,_,rfl,xw ⟨_,rfl,r,_,rfl,.inr h1,rfl,_,rfl,xw ?_⟩⟩
 refine ⟨_,rfl,r,_,rfl,h1,rfl,_,_,rfl,_,_,rfl,_,_,rfl,rfl,?_⟩
 refine ⟨_,rfl,_,_,_,rfl,_,_,_,rfl,rfl,rfl,_,rfl,y7 (by rw [decide_eq_true k1,decide_eq_true k2]; rfl) ?_⟩
 refine ⟨_,rfl,_,rfl,l,_,rfl,.inl hb,_,_,rfl,rfl,_,_,_,rfl,_,_,_,rfl,rfl,rfl,_,rfl,y7 (by rw [decide_eq_true k3,decide_eq_true (show k.box<=(xs.length:Int) - 1 by omega)]; rfl) ?_⟩
 refine ⟨_,rfl,_,rfl,.inr ⟨rd,_,rfl,h2,?_,?_⟩⟩
 ·intro v hv
  simp only [Deed.vs,List.mem_cons,List.mem_nil_iff,or_false] at hv
  rcases hv with rfl | rfl | rfl
  ·exact Yp
  ·exact Ri _
  ·exact Ri _
 ·rw [Y8 k5]; exact q
theorem xV:FnScope ["self","ask","hand","box","deed","number"] ["self","ask"] (zf (zj (top 45) 1)):=⟨rfl,rfl,rfl,by decide +kernel,rfl,by decide +kernel,by decide +kernel⟩
theorem XS (F:Fun K "put" "Net.put" (zj (top 45) 1) f fd) (B:Blt mg) {C:Addr} (T:NTxt K mg C) (qc0:zm P w K mg base n "need_hand" ["k","thing"] (uF K)) (qc1:zm P w K mg base n "is_ask" ["board","thing"] (j1 K))   {t_MOST_ASKS:Tok} (g_MOST_ASKS:mg "MOST_ASKS" = some (.int 40 t_MOST_ASKS))  :
  FnOk P w K mg base CX0 (n+1) f fd ["self","ask"] (tV C K):=by
 refine F.ok xV yq (fun cdv A outer s H vs Q E hr h=>?_)
 obtain ⟨x,y,rfl,A5,ns,a,ms,rfl,ha,hn,nr,ok,hh,a40,hm,q⟩:=h
 refine ⟨_,(zd (ye (yL (yE (zh qc1 hr rfl (za (zz (pv 0) rfl) (za (pv 1) zb))))) (zi xf) zx) (zd (we (pv 1) (xP rfl (zo (zk (i:=2) xV.nd rfl (Or.inl rfl)) (zo (zk (i:=3) xV.nd rfl (Or.inl rfl)) (zo (zk (i:=4) xV.nd rfl (Or.inl rfl)) yo))))) (zd (zG (zh qc0 hr rfl (za (zz (pv 0) rfl) (za (pv 2) zb)))) (zd (zJ (i:=5) xV.nd rfl (Or.inl rfl) (zq zD rfl B.len wY (za (zz (pv 0) rfl) zb))) (zd (ye (zE wn (pv 5) (vV rfl g_MOST_ASKS (show zY (.int 40) (.int 40 t_MOST_ASKS) from ⟨_,rfl⟩)) (zF _)) (zi xf) zx) (zd (zG (wK PySem.F.plainAttrs_list PySem.F.slot_list_append PySem.F.type_list_append xh (zz (pv 0) rfl) (za (pv 1) zb))) (zd (zG (wK PySem.F.plainAttrs_list PySem.F.slot_list_append PySem.F.type_list_append xh (ww (Room.u1F hr) (zz (pv 0) rfl) (zH (za ze (za (pv 2) zb))) (fun _ _=>rfl)) (za (zH (za (pv 3) (za (pv 4) (za (zH (za (pv 5) zb)) (za (zH zb) zb))))) zb))) (zi (zv (pv 5)))))))))),?_⟩
 have k4:=nr.k4
 obtain ⟨xs,hla,hxa⟩:=hn.la
 have e1:=hxa.len
 have bl:(ns.boxes.map V.int).length=ns.boxes.length:=List.length_map ..
 refine ⟨_,rfl,_,C,_,_,_,rfl,hn.ob.choose_spec,T.cl,T.n_boxes,vE,_,rfl,_,_,rfl,A5 .lb,_,a,rfl,J1.of hn.lb,ha,by rw [bl]; exact ok,_,rfl,xw ?_⟩
 obtain ⟨r,rd,rfl,h1,h2⟩:=ha
 obtain ⟨k1,k2,k3,k5,k6⟩:=ok
 have eh:a.hand=((a.hand.toNat:Nat):Int):=(Int.toNat_of_nonneg k1).symm
 have eb:a.box=((a.box.toNat:Nat):Int):=(Int.toNat_of_nonneg k3).symm
 have hh':a.hand.toNat < 2 ^ ns.k:=by omega
 refine ⟨_,rfl,r,_,rfl,h1,rfl,_,_,rfl,_,_,rfl,_,_,rfl,rfl,?_⟩
 refine ⟨_,rfl,_,C,_,_,_,rfl,hn.ob.choose_spec,T.cl,T.n_depth,yc,_,rfl,_,_,rfl,ns.k,a.hand.toNat,rfl,congrArg V.int eh,k4,hh',?_⟩
 have n40:¬ (V.int (ns.asks.length:Int)=V.int 40):=fun h=>by
  have h:(ns.asks.length:Int)=40:=by injection h
  omega
 refine ⟨_,rfl,_,C,_,_,_,rfl,hn.ob.choose_spec,T.cl,T.n_asks,tP,_,_,rfl,.inl (J1.of hla),WP (congrArg V.int (congrArg Int.ofNat e1)) ?_⟩
 refine ⟨_,rfl,rfl,_,rfl,yF (decide_eq_false n40) ?_⟩
 have hx2:=hxa.app (.one (show vq K H (.ref r) a from ⟨r,rd,rfl,h1,h2⟩))
 obtain ⟨hn1,g1⟩:=hn.setA hx2
 refine ⟨_,rfl,_,C,_,_,_,rfl,hn.ob.choose_spec,T.cl,T.n_asks,tP,.inl ⟨rfl,_,J1.of hla⟩,_,rfl,A5 .la,xs,.ref r,rfl,rfl,hla,zr (by omega),?_⟩
 have G1:=g1.mono (m':=ms) fun b hb=>by rw [List.mem_singleton.mp hb]; exact hm .la trivial
 have h21:=g1.sqT h2
 generalize JQ H (A5 .la) (.lst (xs ++ [.ref r]))=H1 at hn1 g1 G1 h21 ⊢
 refine ⟨_,rfl,_,C,_,_,_,rfl,hn1.ob.choose_spec,T.cl,T.n_lines,vF,_,rfl,szl rfl,fun t ht=>?_⟩
 have gt:=Grow.new (m:=[]) ht (.tup [.int 0,.int a.hand])
 have kt:JQ H1 t (.tup [.int 0,.int a.hand]) t=some (.tup [.int ((0:Nat):Int),.int ((a.hand.toNat:Nat):Int)]):=by rw [zc,← eh]; rfl
 have hn2:=hn1.grow0 gt
 have G2:=G1.trans (gt.wk (m:=ms))
 have h22:=gt.sqT h21
 refine ⟨_,_,rfl,(vC (A:=A5) (Nat.zero_le ns.k) hh') ▸ qp.t hn2.dl (xp kt),?_⟩
 generalize JQ H1 t _=H2 at gt kt hn2 G2 h22 ⊢
 obtain ⟨ys,hys,hw⟩:=hn2.ln (l:=0) (j:=a.hand.toNat) (Nat.zero_le _) hh'
 have hwl:zT (jU K H2) ys (ns.lines 0 a.hand.toNat):=hw
 have ll:=(vG nr (l:=0) (Nat.zero_le _) hh').1
 have yl:=hwl.len
 refine ⟨.inl ⟨rfl,_,J1.of hys⟩,_,rfl,_,rfl,_,rfl,szl rfl,fun t1 ht1=>⟨szl rfl,fun t2 ht2=>⟨szl rfl,fun t3 ht3=>?_⟩⟩⟩
 have f1:=Grow.new (m:=[]) ht1 (.tup [.int (ns.asks.length:Int)])
 have f2:=Grow.new (m:=[]) ht2 (.tup [])
 have s1:JQ H2 t1 (.tup [.int (ns.asks.length:Int)]) t1=some (.tup [.int (ns.asks.length:Int)]):=zc
 have s2:JQ (JQ H2 t1 (.tup [.int (ns.asks.length:Int)])) t2 (.tup []) t2=some (.tup []):=zc
 have f3:=Grow.new (m:=[]) ht3 (.tup [.int a.box,.ref rd,.ref t1,.ref t2])
 have F3:=f1.trans (f2.trans f3)
 have w0:jU K (JQ (JQ (JQ H2 t1 (.tup [.int (ns.asks.length:Int)])) t2 (.tup [])) t3 (.tup [.int a.box,.ref rd,.ref t1,.ref t2])) (.ref t3) ⟨a.box.toNat,a.deed,[ns.asks.length],[]⟩:=by
  refine ⟨t3,rd,t1,t2,[],rfl,?_,F3.sqT h22,J3.of ((f2.trans f3).tup _ _ s1),J3.of (f3.tup _ _ s2),trivial⟩
  show J3 K _ t3 [.int ((a.box.toNat:Nat):Int),.ref rd,.ref t1,.ref t2]
  rw [← eb]; exact J3.of zc
 have hn3:=hn2.grow0 F3
 have G3:=G2.trans (F3.wk (m:=ms))
 have hys3:=F3.keep _ _ (by simp) hys
 have hw3:=hwl.imp fun _ _ z=>z.grow F3
 generalize JQ (JQ (JQ H2 t1 _) t2 _) t3 _=H3 at w0 hn3 G3 hys3 hw3 ⊢
 obtain ⟨hn4,g4⟩:=hn3.setLn (l:=0) (j:=a.hand.toNat) (Nat.zero_le _) hh' (hw3.app (.one w0))
 refine ⟨_,ys,_,rfl,rfl,hys3,zr (by omega),?_⟩
 exact ⟨_,rfl,q _ (G3.trans (g4.mono fun b hb=>by rw [List.mem_singleton.mp hb]; exact hm (.ln 0 a.hand.toNat) ⟨Nat.zero_le _,hh'⟩)) hn4⟩
theorem xM:FnScope ["k","thing","stage","number"] ["k","thing"] (zf (top 42)):=⟨rfl,rfl,rfl,by decide +kernel,rfl,by decide +kernel,by decide +kernel⟩
theorem sK (F:Fun K "may_be_lost" "may_be_lost" (top 42) f fd) (B:Blt mg) (qc0:zm P w K mg base n "is_line" ["k","thing"] (wB K)) (qc1:zm P w K mg base n "is_within" ["thing","least","greatest"] (ya K)) (qc2:zm P w K mg base n "is_switch" ["k","stage","number"] (Vl K))     :
  FnOk P w K mg base CX0 (n+1) f fd ["k","thing"] (YN K):=by
 refine F.ok xM yq (fun cdv A outer s H vs Q E hr h=>?_)
 obtain ⟨x,y,rfl,k,q5,rfl,⟨r,rfl,hr5⟩,k4,ok,q⟩:=h
 refine ⟨_,(zd (ye (PW.pt (rY (yL (yE (zq xY rfl B.isinstance yy (za (pv 1) (za (tw rfl B.tuple yZ) zb))))) (vh (zE ZB (zq zD rfl B.len wY (za (pv 1) zb)) ze (zF _))))) (zi (zv uK)) zx) (zd (we (pv 1) (xP rfl (zo (zk (i:=2) xM.nd rfl (Or.inl rfl)) (zo (zk (i:=3) xM.nd rfl (Or.inl rfl)) yo)))) (zi (zv (Tm (zh qc2 hr rfl (za (pv 0) (za (pv 2) (za (pv 3) zb)))) (wO (uD (zh qc1 hr rfl (za (pv 2) (za ze (za ze zb)))) (wO (zh qc0 hr rfl (za (pv 0) (za (pv 3) zb))))))))))),?_⟩
 refine ⟨_,rfl,_,_,_,true,rfl,.inl ⟨rfl,_,hr5⟩,rfl,_,rfl,xw ⟨_,rfl,r,_,rfl,.inr hr5,rfl,_,rfl,xw ?_⟩⟩
 refine ⟨_,rfl,r,_,rfl,hr5,rfl,_,_,rfl,_,_,rfl,rfl,?_⟩
 refine ⟨_,rfl,_,rfl,_,rfl,_,_,_,rfl,k,q5.1,q5.2,rfl,rfl,rfl,k4,_,rfl,?_⟩
 rcases ok with ok | ⟨o1,o2⟩
 ·rw [decide_eq_true ok]; exact vn q
 ·rw [decide_eq_false (fun h=>by omega)]
  refine xw ⟨_,rfl,_,_,_,rfl,_,_,_,rfl,rfl,rfl,_,rfl,y7 (by rw [o1]; rfl) ?_⟩
  exact ⟨_,rfl,_,rfl,_,_,rfl,k,q5.2,rfl,rfl,k4,o2,q⟩
theorem Zl:FnScope ["k","thing"] ["k","thing"] (zf (top 43)):=⟨rfl,rfl,rfl,by decide +kernel,rfl,by decide +kernel,by decide +kernel⟩
theorem Zm (F:Fun K "need_lost" "need_lost" (top 43) f fd) (B:Blt mg) (qc0:zm P w K mg base n "may_be_lost" ["k","thing"] (YN K))     :
  FnOk P w K mg base CX0 (n+1) f fd ["k","thing"] (j0 K):=by
 refine F.ok Zl yq (fun cdv A outer s H vs Q E hr h=>?_)
 obtain ⟨x,y,rfl,k,gone,rfl,⟨r,ys,rfl,hr5,ha,hl⟩,k4,ok,q⟩:=h
 refine ⟨_,(zi (ye (PW.pt (rY (yL (yE (zq xY rfl B.isinstance yy (za (pv 1) (za (tw rfl B.tuple yZ) zb))))) (vh (yL (yE (zq (tz rfl) rfl B.all TL (za (xH (CSc.of (N':=["part","k"]) (sub:=[none,some 0]) (zf (top 43)) ["k","thing"] rfl rfl (by decide +kernel) rfl) rfl (sT (pv 1)) (fun _ _ _ _ _ _=>zk (i:=0) (show (["part","k"]:List Str).Nodup by decide +kernel) rfl (Or.inl rfl)) (fun _ _ _ _ _ _=>yu) (fun _ _ _ _ _ _=>(zh qc0 hr rfl (za (pv 1) (za (pv 0) zb))))) zb))))))) (zi xf) zx)),?_⟩
 refine ⟨_,rfl,_,_,_,true,rfl,.inl ⟨rfl,_,hr5⟩,rfl,_,rfl,xw ?_⟩
 refine ⟨_,rfl,r,rfl,⟨_,hr5⟩,jD (fun _=>V.bl true) hr5 hl ?_ ?_⟩
 ·intro x H1 R hx g k'
  obtain ⟨i,hi⟩:=List.mem_iff_getElem?.mp hx
  obtain ⟨p5,hp5,hpr⟩:=ha.get hi
  obtain ⟨r2,rfl,hr2⟩:=hpr
  exact ⟨_,rfl,_,rfl,_,_,rfl,k,p5,rfl,⟨r2,rfl,g.sqT hr2⟩,k4,ok p5 (List.mem_of_getElem? hp5),k' _ (Grow.refl _ _)⟩
 ·intro H1 p g hp
  refine ⟨p,ys.map (fun _=>true),rfl,J1.of (by rw [zc,List.map_map]; rfl),?_⟩
  rw [jE]
  exact ⟨_,rfl,xw (q _ (g.trans (Grow.new hp _)))⟩
theorem ss:FnScope ["self","many"] ["self","many"] (zf (zj (top 45) 3)):=⟨rfl,rfl,rfl,by decide +kernel,rfl,by decide +kernel,by decide +kernel⟩
theorem su (F:Fun K "done_ago" "Net.done_ago" (zj (top 45) 3) f fd) (B:Blt mg) {C:Addr} (T:NTxt K mg C)      :
  FnOk P w K mg base CX0 (n+1) f fd ["self","many"] (qB C K):=by
 refine F.ok ss yq (fun cdv A outer s H vs Q E hr h=>?_)
 obtain ⟨x,y,rfl,A5,ns,many,rfl,rfl,hn,q⟩:=h
 refine ⟨_,(zi (zv (Us (Room.u1F hr) (zz (pv 0) rfl) (zp yx (zz (pv 0) rfl) (pv 1)) (zH zb) ⟨rfl,rfl,rfl,rfl⟩))),?_⟩
 refine ⟨_,rfl,_,C,_,_,_,rfl,hn.ob.choose_spec,T.cl,T.n_done_in,rD,_,rfl,.inl ⟨_,.inl hn.dd⟩,⟨_,rfl,_,C,_,_,_,rfl,hn.ob.choose_spec,T.cl,T.n_now,jX,_,rfl,_,_,rfl,rfl,szl rfl,fun t ht=>?_⟩⟩
 have g:=Grow.new (m:=[]) ht (.tup [])
 have dd:=g.keep _ _ (by simp) hn.dd
 by_cases c:many < ns.now /\ ns.now - many<=ns.nd
 ·refine ⟨some (.ref (A5 (.dn (ns.now - many)))),.inl ⟨_,.inl ((ns.now:Int) - many),.inl dd,rfl,?_⟩,q _ _ g (.inl ⟨ns.now - many,by omega,c.2,rfl,if_pos c⟩)⟩
  rw [show ((ns.now:Int) - many)=((ns.now - many:Nat):Int) by omega,Uw (by omega) c.2]
 ·exact ⟨none,.inl ⟨_,.inl ((ns.now:Int) - many),.inl dd,rfl,(jV (by omega)).symm⟩,q _ _ g (.inr ⟨t,rfl,J3.of zc,if_neg c⟩)⟩
theorem y9:FnScope ["self","told","box","deed","numbers","met"] ["self"] (zf (zj (top 45) 9)):=⟨rfl,rfl,rfl,by decide +kernel,rfl,by decide +kernel,by decide +kernel⟩
theorem Z5 (F:Fun K "tell" "Net.tell" (zj (top 45) 9) f fd) (B:Blt mg) {C:Addr} (T:NTxt K mg C) (mc_done_ago:zt P w K mg base C n "done_ago" ["self","many"] (qB C K))   (g_sorted:mg "sorted" = none)   :
  FnOk P w K mg base CX0 (n+1) f fd ["self"] (qF C K):=by
 refine F.ok y9 yH (fun cdv A outer s H vs Q E hr h=>?_)
 obtain ⟨x,rfl,A5,ns,ms,rfl,hn,nr,nt,hm,q⟩:=h
 refine ⟨_,(zd (zJ (i:=1) y9.nd rfl (Or.inl rfl) (xg zb)) (zd (yW PassesOwn.never rfl (W6 (K:=K) rfl (zU mc_done_ago T.cl hr (pv 0) (za (zz (pv 0) rfl) zb))) (xP rfl (zo (zk (i:=2) y9.nd rfl (Or.inl rfl)) (zo (zk (i:=3) y9.nd rfl (Or.inl rfl)) (zo (zk (i:=4) y9.nd rfl (Or.inl rfl)) (zo (zk (i:=5) y9.nd rfl (Or.inl rfl)) yo))))) (zi (zG (wK PySem.F.plainAttrs_list PySem.F.slot_list_extend PySem.F.type_list_extend tm (pv 1) (za (xH (CSc.of (N':=["number","self"]) (sub:=[none,some 0]) (zf (zj (top 45) 9)) ["self","told","box","deed","numbers","met"] rfl rfl (by decide +kernel) rfl) rfl (sT (pv 4)) (fun _ _ _ _ _ _=>zk (i:=0) (show (["number","self"]:List Str).Nodup by decide +kernel) rfl (Or.inl rfl)) (fun _ _ _ _ _ _=>yu) (fun _ _ _ _ _ _=>(zH (za (pv 0) (za (ww (Room.u1F hr) (T3 (K:=K) rfl (pv 1) rfl) (pv 0) (fun _ _=>rfl)) zb))))) zb))))) (zd (zG (wK PySem.F.plainAttrs_dict PySem.F.slot_dict_update PySem.F.type_dict_update (XC (K:=K) rfl) (zz (pv 0) rfl) (za (zZ (Xs hr) rfl B.dict Rg (za (pv 1) zb)) zb))) (zi (zv (zZ z8 rfl B.tuple yZ (za (zq (Xx (K:=K) rfl) rfl g_sorted Yn (za (pv 1) zb)) zb))))))),?_⟩
 refine ⟨szl rfl,fun lt hlt=>?_⟩
 have g0:=Grow.new (m:=[]) hlt (.lst [])
 have hlt0:=zc (H:=H) (a:=lt) (o:=.lst [])
 have hn0:=hn.grow0 g0
 have nq0:∀ a,okA ns a->A5 a ≠ lt:=fun a ha z=>by
  obtain ⟨o,h1,_⟩:=hn.at_ a ha
  rw [z,hlt] at h1; cases h1
 have nql:∀ a,okA ns a->A5 a ∉ [lt]:=fun a ha z=>nq0 a ha (List.mem_singleton.mp z)
 generalize JQ H lt (.lst [])=H0 at g0 hlt0 hn0 ⊢
 have l40:zR xG (sB ns ns.k)<=40:=by have:=nt.l40; unfold yV at this; rw [YK] at this; exact this
 refine xr (Vf (fun σ H'=>∃ e2 e3 e4 e5 tv,σ = [some (.ref (A5 .p)),some (.ref lt),e2,e3,e4,e5] /\ Grow [lt] H0 H' /\ H' lt=some (.lst tv) /\ zT (U9 H') tv (yV ns) /\ NetAt K C H' A5 ns) ?_ ?_)
 ·intro D hD
  refine ⟨_,rfl,_,_,_,rfl,hn0.ob.choose_spec,tR,_,rfl,_,C,_,_,_,rfl,hn0.ob.choose_spec,T.cl,T.n_depth,yc,_,_,rfl,A5,ns,ns.k,rfl,rfl,hn0,fun z H1 g1 hz=>?_⟩
  have hn1:=hn0.grow0 g1
  have hlt1:=g1.keep _ _ (by simp) hlt0
  rcases hz with ⟨t,t1,t2,rfl,ews⟩ | ⟨a,rfl,sa,ews⟩
  rotate_left
  ·have et:yV ns=[]:=by unfold yV; rw [ews]; rfl
   exact ⟨a,rfl,.inr ⟨⟨_,sa⟩,uX (xs:=[]) (fun j σ H'=>∃ e2 e3 e4 e5,σ = [some (.ref (A5 .p)),some (.ref lt),e2,e3,e4,e5] /\ H' = H1) ⟨_,_,_,_,rfl,rfl⟩ (fun j σ H' _ ⟨_,_,_,_,_,e⟩=>e ▸ sa) (fun j x σ H' hx=>by simp at hx) (fun σ H' ⟨e2,e3,e4,e5,e,eH⟩=>hD _ _ ⟨e2,e3,e4,e5,[],e,eH ▸ g1.wk,eH ▸ hlt1,by rw [et]; trivial,eH ▸ hn1⟩)⟩⟩
  obtain ⟨ys,hys,hw⟩:=hn1.dn (t:=t) t1 t2
  have kmem:A5 (.dn t) ∉ [lt]:=nql (.dn t) ⟨t1,t2⟩
  refine ⟨_,rfl,.inl ⟨⟨_,J1.of hys⟩,vj (xs:=ys) (fun j σ H'=>∃ e2 e3 e4 e5 tv,σ = [some (.ref (A5 .p)),some (.ref lt),e2,e3,e4,e5] /\ Grow [lt] H1 H' /\ H' lt=some (.lst tv) /\ zT (U9 H') tv (((ns.done t).take j).flatMap (uN ns)) /\ NetAt K C H' A5 ns) ⟨_,_,_,_,[],rfl,Grow.refl _ _,hlt1,trivial,hn1⟩ (fun j σ H' _ ⟨_,_,_,_,_,_,g,_⟩=>J1.of (g.keep _ _ kmem hys)) ?_ ?_⟩⟩
  rotate_left
  ·rintro σ H' ⟨e2,e3,e4,e5,tv,rfl,g,htv,hta,hn'⟩
   rw [hw.len,List.take_length] at hta
   exact hD _ _ ⟨_,_,_,_,tv,rfl,(g1.wk (m:=[lt])).trans g,htv,by unfold yV; rw [ews]; exact hta,hn'⟩
  rintro j x σ H2 hx ⟨e2,e3,e4,e5,tv,rfl,g2,htv,hta,hn2⟩
  obtain ⟨w5,hw5,r,rd,rn,rm,mv,rfl,w1,w2,w3,w4,w6⟩:=hw.get hx
  have wm:=List.mem_of_getElem? hw5
  have fk:∀ n ∈ w5.nums,(wo ns.fnd n).isSome=true:=nt.fk w5 (by rw [ews]; exact wm)
  have esnoc:((ns.done t).take (j+1)).flatMap (uN ns)=((ns.done t).take j).flatMap (uN ns) ++ uN ns w5:=by
   obtain ⟨hj,e⟩:=List.getElem?_eq_some_iff.mp hw5
   rw [List.take_succ_eq_append_getElem hj,e,List.flatMap_append]
   simp
  have tvl:tv.length+w5.nums.length<=40:=by
   have h1:=hta.len
   rw [YK] at h1
   rw [ews] at l40
   have e:ns.done t=(ns.done t).take j ++ w5 :: (ns.done t).drop (j+1):=by
    obtain ⟨hj,e⟩:=List.getElem?_eq_some_iff.mp hw5
    rw [← e,← List.drop_eq_getElem_cons hj,List.take_append_drop]
   have:=congrArg (zR xG) e
   rw [wG,zL] at this
   have e2:xG w5=w5.nums.length:=rfl
   omega
  rw [esnoc]
  have nl:(yG w5.nums).length=w5.nums.length:=List.length_map ..
  refine ⟨r,_,rfl,g2.sqT w1,rfl,_,_,rfl,_,_,rfl,_,_,rfl,_,_,rfl,rfl,?_⟩
  refine ⟨_,rfl,.inl ⟨rfl,_,J1.of htv⟩,_,rfl,rn,rfl,⟨_,g2.sqT w3⟩,Wu (xs:=yG w5.nums) (fun i vs σ' H'=>(∃ e0,σ' = [e0,some (.ref (A5 .p))]) /\ Grow [] H2 H' /\ zT (U9 H') vs ((w5.nums.take i).map fun n=>(n,(wo ns.fnd n).getD 0))) ⟨⟨_,rfl⟩,Grow.refl _ _,trivial⟩ (fun i vs σ' H' _ ⟨_,g,_⟩=>(g2.trans (g.wk (m:=[lt]))).sqT w3) ?_ ?_⟩
  ·rintro i x vs σ' H3 hx ⟨⟨e0,rfl⟩,g3,hvs⟩
   rw [show (yG w5.nums)[i]? = (w5.nums[i]?).map fun n:Nat=>V.int n from List.getElem?_map ..] at hx
   obtain ⟨n5,hi,rfl⟩:=Option.map_eq_some_iff.mp hx
   have il:=(List.getElem?_eq_some_iff.mp hi).1
   obtain ⟨v5,hv5⟩:=Option.isSome_iff_exists.mp (fk n5 (List.mem_of_getElem? hi))
   have hn3:=hn2.grow0 g3
   have ev:wS (nKv ns.fnd) (.inl (n5:Int))=some (.int v5):=by rw [tO,hv5]; rfl
   refine ⟨_,rfl,_,rfl,_,C,_,_,_,rfl,hn3.ob.choose_spec,T.cl,T.n_found,YH,_,rfl,_,_,rfl,.inl ⟨_,.inl (n5:Int),.inl hn3.df,rfl,ev.symm⟩,szl rfl,fun t3 ht3=>?_⟩
   have g4:=Grow.new (m:=[]) ht3 (.tup [.int n5,.int v5])
   refine ⟨?_,⟨_,rfl⟩,g3.trans g4,?_⟩
   ·rw [hvs.len,List.length_map,List.length_take]; exact zr (by omega)
   ·obtain ⟨hj,e⟩:=List.getElem?_eq_some_iff.mp hi
    rw [List.take_succ_eq_append_getElem hj,e,List.map_append]
    exact (hvs.imp fun _ _ z=>z.grow g4).app (.one ⟨t3,rfl,by rw [zc]; show _=some (HO.tup [.int n5,.int ((wo ns.fnd n5).getD 0)]); rw [hv5]; rfl⟩)
  rintro vs σ' H3 ⟨_,g3,hvs⟩ l3 hl3
  rw [nl,List.take_length] at hvs
  have g4:=Grow.new (m:=[]) hl3 (.lst vs)
  have htv4:=(g3.trans g4).keep _ _ (by simp) htv
  have vl:=hvs.len
  rw [List.length_map] at vl
  refine ⟨lt,l3,tv,vs,rfl,rfl,htv4,zc,Nat.le_of_lt (zr (by omega)),?_⟩
  have g34:=g3.trans g4
  have g5:=Grow.set (m:=[lt]) htv4 (by simp) (tv ++ vs)
  refine ⟨_,_,_,_,tv ++ vs,rfl,g2.trans ((g34.wk (m:=[lt])).trans g5),zc,?_,?_⟩
  ·exact (hta.imp fun _ _ z=>(z.grow g34).grow g5).app (hvs.imp fun _ _ z=>(z.grow g4).grow g5)
  ·exact (hn2.grow0 g34).grow g5 nql
 rintro σ H1 ⟨e2,e3,e4,e5,tv,rfl,g1,htv,hta,hn1⟩
 refine ⟨_,rfl,_,C,_,_,_,rfl,hn1.ob.choose_spec,T.cl,T.n_answers,uj,.inr (.inr (.inl ⟨rfl,.inl ⟨_,hn1.da⟩⟩)),_,rfl,lt,tv,_,rfl,htv,UC hta,fun ld hld=>?_⟩
 rw [UD]
 have g2:=Grow.new (m:=[]) hld (.dK (nKv (sF (yV ns))))
 have hn2:=hn1.grow0 g2
 have htv2:=g2.keep _ _ (by simp) htv
 have hta2:=hta.imp fun _ _ z=>z.grow g2
 have hld2:=zc (H:=H1) (a:=ld) (o:=.dK (nKv (sF (yV ns))))
 have nld:A5 .da ≠ ld:=fun z=>by
  have:=hn1.da
  rw [z,hld] at this; cases this
 generalize JQ H1 ld _=H2 at g2 hn2 htv2 hta2 hld2 ⊢
 refine ⟨A5 .da,ld,_,_,rfl,rfl,hn2.da,hld2,nld,?_,?_⟩
 ·have h1:=nt.al
  have h2:=nt.l40
  have h3:=Ve (tl:=yV ns)
  unfold nKv
  rw [List.length_map,List.length_map]
  exact Nat.le_of_lt (Je (by omega))
 rw [uo]
 obtain ⟨hn3,g3⟩:=hn2.setS ((sF (yV ns)).foldl (fun f p=>vz f p.1 p.2) ns.ans)
 have htv3:=g3.keep _ _ (show lt ∉ [A5 .da] from fun z=>nq0 .da trivial (List.mem_singleton.mp z).symm) htv2
 have hta3:=hta2.imp fun _ _ z=>z.grow g3
 generalize JQ H2 (A5 .da) _=H3 at hn3 g3 htv3 hta3 ⊢
 refine ⟨_,rfl,lt,tv,(yV ns).map itF,1,rfl,J1.of htv3,Ta hta3,Sm nt.nd,Nat.le_refl 1,?_,?_,fun p4 zs4 its hp4 pm pw hp=>?_⟩
 ·intro p hp
  obtain ⟨q,_,rfl⟩:=List.mem_map.mp hp
  rfl
 ·rw [List.length_map]; have:=nt.l40; omega
 have g4:=Grow.new (m:=[]) hp4 (.lst zs4)
 obtain ⟨pm',hF⟩:=Sl pm
 refine ⟨p4,zs4,rfl,.inl ⟨J1.of zc,fun r5 hr5=>?_⟩⟩
 have g5:=Grow.new (m:=[]) hr5 (.tup zs4)
 have g45:=g4.trans g5
 refine q _ (its.map itB) _ ?_ (hn3.grow0 g45) ⟨r5,zs4,rfl,J3.of zc,(Vd hF hp).imp fun _ _ z=>g45.board z⟩ pm' (QT hF pw)
 have G:Grow (lt :: ms) H _:=(g0.wk (m:=lt :: ms)).trans ((g1.mono (m':=lt :: ms) (by simp)).trans ((g2.wk (m:=lt :: ms)).trans ((g3.mono (m':=lt :: ms) fun b hb=>by rw [List.mem_singleton.mp hb]; exact List.mem_cons_of_mem _ (hm .da trivial)).trans (g45.wk (m:=lt :: ms)))))
 exact G.less fun b hb=>by
  rcases List.mem_cons.mp hb with rfl | hb
  ·exact .inr hlt
  ·exact .inl hb
theorem rX:FnScope ["k","stage","number","mark","behind"] ["k","stage","number","mark"] (zf (top 34)):=⟨rfl,rfl,rfl,by decide +kernel,rfl,by decide +kernel,by decide +kernel⟩
theorem XT (F:Fun K "in_line" "in_line" (top 34) f fd) (B:Blt mg)      :
  FnOk P w K mg base CX0 (n+1) f fd ["k","stage","number","mark"] (W8 K):=by
 refine F.ok rX ud (fun cdv A outer s H vs Q E hr h=>?_)
 obtain ⟨x,y,z,u,rfl,k,s5,n5,m5,rfl,rfl,rfl,rfl,k4,s1,sk,hn5,hm5,q⟩:=h
 refine ⟨_,(zd (zJ (i:=4) rX.nd rfl (Or.inl rfl) (zp yx (pv 0) (pv 1))) (zi (zv (zp Tp (zp Tp (zp yX (zp X4 (pv 2) (pv 4)) (zp yd (pv 4) ze)) (zp yX (pv 3) (pv 4))) (zp ji (pv 2) (zp yx (zp yX ze (pv 4)) ze)))))),?_⟩
 obtain ⟨n8,c1,c2,c3,c4,e⟩:=XD k4 s1 sk hn5 hm5
 have b0:(0:Int)<=(k:Int) - s5:=by omega
 refine ⟨_,rfl,_,rfl,_,_,rfl,rfl,_,rfl,_,rfl,_,_,rfl,rfl,b0,_,rfl,_,_,rfl,rfl,_,_,rfl,rfl,c1,_,rfl,_,rfl,_,_,rfl,rfl,c2,_,_,rfl,rfl,_,rfl,_,rfl,_,_,rfl,rfl,c3,_,_,rfl,rfl,_,_,rfl,rfl,_,_,rfl,rfl,?_⟩
 show Q (.int (Builtin.bitOr (Builtin.bitOr ((n5:Int) / 2 ^ ((k:Int) - s5).toNat * 2 ^ ((k:Int) - s5+1).toNat) ((m5:Int) * 2 ^ ((k:Int) - s5).toNat)) (Builtin.bitAnd (n5:Int) (1 * 2 ^ ((k:Int) - s5).toNat - 1)))) H
 rw [e]
 exact q
theorem SE:FnScope ["add","low","high"] ["add","low","high"] (zf (top 16)):=⟨rfl,rfl,rfl,by decide +kernel,rfl,by decide +kernel,by decide +kernel⟩
theorem ZF (F:Fun K "tidy" "tidy" (top 16) f fd) (B:Blt mg)      :
  FnOk P w K mg base CX0 (n+1) f fd ["add","low","high"] (Wv K):=by
 refine F.ok SE yP (fun cdv A outer s H vs Q E hr h=>?_)
 obtain ⟨x,y,z,rfl,a,lo,hi,rfl,rfl,rfl,q⟩:=h
 refine ⟨_,(zd (ye (PW.pt (wN (uC (ZA (pv 1))) (xX (zE wn (pv 1) (pv 2) (zF _))))) (zi (zv (zH (za ze (za (pv 1) (za (pv 2) zb)))))) zx) (zi (zv (zH (za (pv 0) (za (pv 1) (za (pv 2) zb))))))),?_⟩
 cases lo with
 | none =>
  refine ⟨_,rfl,_,rfl,xw (xw ⟨_,rfl,_,rfl,_,rfl,szl rfl,fun t ht=>?_⟩)⟩
  have:=q t ht
  rw [Ro] at this; exact this
 | some l =>
  cases hi with
  | none =>
   refine ⟨_,rfl,_,rfl,vn ⟨_,rfl,_,rfl,rfl,_,rfl,xw ⟨_,rfl,_,rfl,_,rfl,szl rfl,fun t ht=>?_⟩⟩⟩
   have:=q t ht
   rw [UY (by simp)] at this; exact this
  | some u =>
   refine ⟨_,rfl,_,rfl,vn ⟨_,rfl,_,rfl,rfl,_,rfl,?_⟩⟩
   refine VN (fun c=>?_) (fun c=>?_)
   ·have c':l=u:=V.int.inj (of_decide_eq_true c)
    subst c'
    refine ⟨_,rfl,_,rfl,szl rfl,fun t ht=>?_⟩
    have:=q t ht
    rw [Rq] at this; exact this
   ·have c':l ≠ u:=fun z=>c (by rw [z]; simp)
    refine ⟨_,rfl,_,rfl,_,rfl,szl rfl,fun t ht=>?_⟩
    have:=q t ht
    rw [UY (fun z=>c' (Option.some.inj z))] at this; exact this
theorem vd:FnScope ["deed","value","add","low","high","result"] ["deed","value"] (zf (top 15)):=⟨rfl,rfl,rfl,by decide +kernel,rfl,by decide +kernel,by decide +kernel⟩
theorem SF (F:Fun K "made" "made" (top 15) f fd) (B:Blt mg)      :
  FnOk P w K mg base CX0 (n+1) f fd ["deed","value"] (ZE K):=by
 refine F.ok vd yq (fun cdv A outer s H vs Q E hr h=>?_)
 obtain ⟨x,y,rfl,d,v,⟨a,rfl,hs⟩,rfl,q⟩:=h
 refine ⟨_,(zd (we (pv 0) (xP rfl (zo (zk (i:=2) vd.nd rfl (Or.inl rfl)) (zo (zk (i:=3) vd.nd rfl (Or.inl rfl)) (zo (zk (i:=4) vd.nd rfl (Or.inl rfl)) yo))))) (zd (zJ (i:=5) vd.nd rfl (Or.inl rfl) (zp yd (pv 1) (pv 2))) (zd (ye (PW.pt (wN (uC (ZA (pv 3))) (xX (zE VV (pv 3) (pv 5) (zF _))))) (zi (zJ (i:=5) vd.nd rfl (Or.inl rfl) (pv 3))) zx) (zd (ye (PW.pt (wN (uC (ZA (pv 4))) (xX (zE qa (pv 4) (pv 5) (zF _))))) (zi (zJ (i:=5) vd.nd rfl (Or.inl rfl) (pv 4))) zx) (zi (zv (pv 5))))))),?_⟩
 obtain ⟨ad,lo,hi⟩:=d
 refine ⟨_,rfl,a,_,rfl,hs,rfl,_,_,rfl,_,_,rfl,_,_,rfl,rfl,?_⟩
 refine ⟨_,rfl,_,rfl,_,_,rfl,rfl,?_⟩
 cases lo with
 | none =>
  refine ⟨_,rfl,_,rfl,xw (xw ?_)⟩
  cases hi with
  | none=>exact ⟨_,rfl,_,rfl,xw (xw ⟨_,rfl,q⟩)⟩
  | some u =>
   refine ⟨_,rfl,_,rfl,vn ⟨_,rfl,_,rfl,_,_,rfl,rfl,_,rfl,?_⟩⟩
   have q':Q (.int (if u < v+ad then u else v+ad)) H:=q
   refine VN (fun c=>?_) (fun c=>?_)
   ·have c':u < v+ad:=of_decide_eq_true c
    rw [if_pos c'] at q'
    exact ⟨_,rfl,_,rfl,q'⟩
   ·have c':¬ u < v+ad:=fun z=>c (decide_eq_true z)
    rw [if_neg c'] at q'
    exact ⟨_,rfl,q'⟩
 | some l =>
  refine ⟨_,rfl,_,rfl,vn ⟨_,rfl,_,rfl,_,_,rfl,rfl,_,rfl,?_⟩⟩
  have q0:Q (.int (yA hi (if l > v+ad then l else v+ad))) H:=q
  clear q
  refine VN (fun c=>?_) (fun c=>?_)
  ·have c':l > v+ad:=of_decide_eq_true c
   rw [if_pos c'] at q0
   have q:=q0
   refine ⟨_,rfl,?_⟩
   cases hi with
   | none=>exact ⟨_,rfl,_,rfl,xw (xw ⟨_,rfl,q⟩)⟩
   | some u =>
    refine ⟨_,rfl,_,rfl,vn ⟨_,rfl,_,rfl,_,_,rfl,rfl,_,rfl,?_⟩⟩
    have q':Q (.int (if u < l then u else l)) H:=q
    refine VN (fun c=>?_) (fun c=>?_)
    ·have c':u < l:=of_decide_eq_true c
     rw [if_pos c'] at q'
     exact ⟨_,rfl,_,rfl,q'⟩
    ·have c':¬ u < l:=fun z=>c (decide_eq_true z)
     rw [if_neg c'] at q'
     exact ⟨_,rfl,q'⟩
  ·have c':¬ l > v+ad:=fun z=>c (decide_eq_true z)
   rw [if_neg c'] at q0
   have q:=q0
   cases hi with
   | none=>exact ⟨_,rfl,_,rfl,xw (xw ⟨_,rfl,q⟩)⟩
   | some u =>
    refine ⟨_,rfl,_,rfl,vn ⟨_,rfl,_,rfl,_,_,rfl,rfl,_,rfl,?_⟩⟩
    have q':Q (.int (if u < v+ad then u else v+ad)) H:=q
    refine VN (fun c=>?_) (fun c=>?_)
    ·have c':u < v+ad:=of_decide_eq_true c
     rw [if_pos c'] at q'
     exact ⟨_,rfl,_,rfl,q'⟩
    ·have c':¬ u < v+ad:=fun z=>c (decide_eq_true z)
     rw [if_neg c'] at q'
     exact ⟨_,rfl,q'⟩
theorem sv:FnScope ["one","other","low","high"] ["one","other"] (zf (top 17)):=⟨rfl,rfl,rfl,by decide +kernel,rfl,by decide +kernel,by decide +kernel⟩
theorem VG (F:Fun K "joined" "joined" (top 17) f fd) (B:Blt mg) (qc0:zm P w K mg base n "tidy" ["add","low","high"] (Wv K)) (qc1:zm P w K mg base n "made" ["deed","value"] (ZE K))     :
  FnOk P w K mg base CX0 (n+1) f fd ["one","other"] (jA K):=by
 refine F.ok sv yq (fun cdv A outer s H vs Q E hr h=>?_)
 obtain ⟨x,y,rfl,d,e,⟨a,rfl,hsa⟩,⟨b,rfl,hsb⟩,q⟩:=h
 refine ⟨_,(zd (zJ (i:=2) sv.nd rfl (Or.inl rfl) (rZ (uC (sR (yC xq (pv 0) ze (fun _ _=>rfl)))) (yC xq (pv 1) ze (fun _ _=>rfl)) (zh qc1 hr rfl (za (pv 1) (za (yC xq (pv 0) ze (fun _ _=>rfl)) zb))))) (zd (zJ (i:=3) sv.nd rfl (Or.inl rfl) (rZ (uC (sR (yC xq (pv 0) ze (fun _ _=>rfl)))) (yC xq (pv 1) ze (fun _ _=>rfl)) (zh qc1 hr rfl (za (pv 1) (za (yC xq (pv 0) ze (fun _ _=>rfl)) zb))))) (zi (zv (zh qc0 hr rfl (za (zp yd (yC xq (pv 0) ze (fun _ _=>rfl)) (yC xq (pv 1) ze (fun _ _=>rfl))) (za (pv 2) (za (pv 3) zb)))))))),?_⟩
 obtain ⟨da,lo,hi⟩:=d
 obtain ⟨ea,elo,ehi⟩:=e
 refine ⟨_,rfl,a,_,_,_,rfl,rfl,hsa,rfl,_,rfl,?_⟩
 cases lo with
 | none =>
  refine vn ⟨_,rfl,b,_,_,_,rfl,rfl,hsb,rfl,?_⟩
  refine ⟨_,rfl,a,_,_,_,rfl,rfl,hsa,rfl,_,rfl,?_⟩
  cases hi with
  | none =>
   refine vn ⟨_,rfl,b,_,_,_,rfl,rfl,hsb,rfl,?_⟩
   exact ⟨_,rfl,a,_,_,_,rfl,rfl,hsa,rfl,_,rfl,b,_,_,_,rfl,rfl,hsb,rfl,_,_,rfl,rfl,_,rfl,_,rfl,_,_,_,rfl,_,elo,ehi,rfl,rfl,rfl,q⟩
  | some u =>
   refine xw ⟨_,rfl,_,rfl,a,_,_,_,rfl,rfl,hsa,rfl,_,_,rfl,⟨ea,elo,ehi⟩,u,⟨b,rfl,hsb⟩,rfl,?_⟩
   exact ⟨_,rfl,a,_,_,_,rfl,rfl,hsa,rfl,_,rfl,b,_,_,_,rfl,rfl,hsb,rfl,_,_,rfl,rfl,_,rfl,_,rfl,_,_,_,rfl,_,elo,some ((Deed.mk ea elo ehi).mk' u),rfl,rfl,rfl,q⟩
 | some l =>
  refine xw ⟨_,rfl,_,rfl,a,_,_,_,rfl,rfl,hsa,rfl,_,_,rfl,⟨ea,elo,ehi⟩,l,⟨b,rfl,hsb⟩,rfl,?_⟩
  refine ⟨_,rfl,a,_,_,_,rfl,rfl,hsa,rfl,_,rfl,?_⟩
  cases hi with
  | none =>
   refine vn ⟨_,rfl,b,_,_,_,rfl,rfl,hsb,rfl,?_⟩
   exact ⟨_,rfl,a,_,_,_,rfl,rfl,hsa,rfl,_,rfl,b,_,_,_,rfl,rfl,hsb,rfl,_,_,rfl,rfl,_,rfl,_,rfl,_,_,_,rfl,_,(some ((Deed.mk ea elo ehi).mk' l)),ehi,rfl,rfl,rfl,q⟩
  | some u =>
   refine xw ⟨_,rfl,_,rfl,a,_,_,_,rfl,rfl,hsa,rfl,_,_,rfl,⟨ea,elo,ehi⟩,u,⟨b,rfl,hsb⟩,rfl,?_⟩
   exact ⟨_,rfl,a,_,_,_,rfl,rfl,hsa,rfl,_,rfl,b,_,_,_,rfl,rfl,hsb,rfl,_,_,rfl,rfl,_,rfl,_,rfl,_,_,_,rfl,_,(some ((Deed.mk ea elo ehi).mk' l)),some ((Deed.mk ea elo ehi).mk' u),rfl,rfl,rfl,q⟩
theorem xk:FnScope ["switch","waiter","comer","box","deed","numbers","met"] ["switch","waiter","comer"] (zf (top 44)):=⟨rfl,rfl,rfl,by decide +kernel,rfl,by decide +kernel,by decide +kernel⟩
theorem Zn (F:Fun K "joined_at" "joined_at" (top 44) f fd) (B:Blt mg) (qc0:zm P w K mg base n "joined" ["one","other"] (jA K))     :
  FnOk P w K mg base CX0 (n+1) f fd ["switch","waiter","comer"] (W9 K):=by
 refine F.ok xk yP (fun cdv A outer s H vs Q E hr h=>?_)
 obtain ⟨x,y,z,rfl,sw,w5,c5,hx,hy,hz,l1,l2,q⟩:=h
 refine ⟨_,(zd (we (pv 1) (xP rfl (zo (zk (i:=3) xk.nd rfl (Or.inl rfl)) (zo (zk (i:=4) xk.nd rfl (Or.inl rfl)) (zo (zk (i:=5) xk.nd rfl (Or.inl rfl)) (zo (zk (i:=6) xk.nd rfl (Or.inl rfl)) yo)))))) (zi (zv (zH (za (pv 3) (za (zh qc0 hr rfl (za (pv 4) (za (yC xq (pv 2) ze (fun _ _=>rfl)) zb))) (za (zp (qo (K:=K) rfl) (pv 5) (yC xq (pv 2) ze (fun _ _=>rfl))) (za (zp (qo (K:=K) rfl) (zp (qo (K:=K) rfl) (pv 6) (yC xq (pv 2) ze (fun _ _=>rfl))) (zH (za (pv 0) zb))) zb)))))))),?_⟩
 obtain ⟨r,rd,rn,rm,ms,rfl,h1,h2,h3,h4,h5⟩:=hy
 obtain ⟨r',rd',rn',rm',ms',rfl,h1',h2',h3',h4',h5'⟩:=hz
 obtain ⟨rs,rfl,hs⟩:=hx
 refine ⟨_,rfl,r,_,rfl,h1,rfl,_,_,rfl,_,_,rfl,_,_,rfl,_,_,rfl,rfl,?_⟩
 refine ⟨_,rfl,_,rfl,_,rfl,r',_,1,_,rfl,rfl,h1',zP (j:=1) rfl,_,_,rfl,w5.deed,c5.deed,⟨rd,rfl,h2⟩,⟨rd',rfl,h2'⟩,fun t ht=>?_⟩
 have g1:=Grow.new (m:=[]) ht (.tup (uL w5.deed c5.deed).vs)
 have s1:J3 K (JQ H t (.tup (uL w5.deed c5.deed).vs)) t (uL w5.deed c5.deed).vs:=J3.of zc
 generalize JQ H t _=H1 at g1 s1 ⊢
 have ml:=h5.len
 have ml':=h5'.len
 have nl:(yG w5.nums).length=w5.nums.length:=List.length_map ..
 have nl':(yG c5.nums).length=c5.nums.length:=List.length_map ..
 refine ⟨_,rfl,_,rfl,r',_,2,_,rfl,rfl,g1.sqT h1',zP (j:=2) rfl,rn,rn',_,_,rfl,rfl,g1.sqT h3,g1.sqT h3',Nat.le_of_lt (zr (by omega)),fun p2 H2 g2 s2=>?_⟩
 refine ⟨_,rfl,_,rfl,r',_,3,_,rfl,rfl,(g1.trans g2).sqT h1',zP (j:=3) rfl,rm,rm',_,_,rfl,rfl,(g1.trans g2).sqT h4,(g1.trans g2).sqT h4',Nat.le_of_lt (zr (by omega)),fun p3 H3 g3 s3=>?_⟩
 refine ⟨_,rfl,szl rfl,fun p4 hp4=>?_⟩
 have g4:=Grow.new (m:=[]) hp4 (.tup [.ref rs])
 refine ⟨p3,p4,_,_,rfl,rfl,g4.sqT s3,J3.of zc,Nat.le_of_lt (zr (by rw [List.length_append]; show _+1<=1000; omega)),fun p5 H5 g5 s5=>⟨szl rfl,fun p6 hp6=>?_⟩⟩
 have g6:=Grow.new (m:=[]) hp6 (.tup [.int w5.box,.ref t,.ref p2,.ref p5])
 have G26:=g3.trans (g4.trans (g5.trans g6))
 have G:=g1.trans (g2.trans G26)
 refine q _ _ G ⟨p6,t,p2,p5,_,rfl,J3.of zc,(g2.trans G26).sqT s1,G26.sqT (by unfold yG; rw [show (x8 sw w5 c5).nums=w5.nums ++ c5.nums from rfl,List.map_append]; exact s2),g6.sqT s5,?_⟩
 exact (((h5.imp fun _ _ z=>z.grow G).app (h5'.imp fun _ _ z=>z.grow G)).app (.one ⟨rs,rfl,G.tup _ _ hs⟩))
theorem uI:FnScope ["k","stage","line","behind"] ["k","stage","line"] (zf (top 33)):=⟨rfl,rfl,rfl,by decide +kernel,rfl,by decide +kernel,by decide +kernel⟩
theorem Zo (F:Fun K "switch_at" "switch_at" (top 33) f fd) (B:Blt mg)      :
  FnOk P w K mg base CX0 (n+1) f fd ["k","stage","line"] (uG K):=by
 refine F.ok uI yP (fun cdv A outer s H vs Q E hr h=>?_)
 obtain ⟨x,y,z,rfl,k,st,l,rfl,rfl,rfl,k4,hs,l0,l1,q⟩:=h
 refine ⟨_,(zd (zJ (i:=3) uI.nd rfl (Or.inl rfl) (zp yx (pv 0) (pv 1))) (zi (zv (zp Tp (zp yX (zp X4 (pv 2) (zp yd (pv 3) ze)) (pv 3)) (zp ji (pv 2) (zp yx (zp yX ze (pv 3)) ze)))))),?_⟩
 have e1:(0:Int)<=l / 2 ^ ((k:Int) - st+1).toNat:=Int.ediv_nonneg l0 (Int.le_of_lt (Int.pow_pos (by decide)))
 have e2:l / 2 ^ ((k:Int) - st+1).toNat<=l:=Int.ediv_le_self _ l0
 refine ⟨_,rfl,_,rfl,_,_,rfl,rfl,_,rfl,_,rfl,_,_,rfl,rfl,_,_,rfl,rfl,(by show (0:Int)<=(k:Int) - st+1; omega),_,rfl,_,_,rfl,rfl,⟨by show (0:Int)<=(k:Int) - st; omega,by show (k:Int) - st<=1000000; omega,by show (l / 2 ^ ((k:Int) - st+1).toNat).natAbs < 2 ^ 64; omega⟩,?_⟩
 exact ⟨_,rfl,_,rfl,_,_,rfl,rfl,⟨by show (0:Int)<=(k:Int) - st; omega,by show (k:Int) - st<=1000000; omega,by decide⟩,_,_,rfl,rfl,_,_,rfl,rfl,_,_,rfl,rfl,q⟩
theorem VH:FnScope ["k","stage","line"] ["k","stage","line"] (zf (top 30)):=⟨rfl,rfl,rfl,by decide +kernel,rfl,by decide +kernel,by decide +kernel⟩
theorem VI (F:Fun K "figure" "figure" (top 30) f fd) (B:Blt mg)      :
  FnOk P w K mg base CX0 (n+1) f fd ["k","stage","line"] (tH K):=by
 refine F.ok VH yP (fun cdv A outer s H vs Q E hr h=>?_)
 obtain ⟨x,y,z,rfl,k,st,l,rfl,rfl,rfl,hs,q⟩:=h
 refine ⟨_,(zi (zv (zp ji (zp X4 (pv 2) (zp yx (pv 0) (pv 1))) ze))),?_⟩
 exact ⟨_,rfl,_,rfl,_,rfl,_,_,rfl,rfl,_,_,rfl,rfl,(by show (0:Int)<=(k:Int) - st; omega),_,_,rfl,rfl,q⟩
theorem sL:FnScope ["k","stage","line","wanted"] ["k","stage","line","wanted"] (zf (top 31)):=⟨rfl,rfl,rfl,by decide +kernel,rfl,by decide +kernel,by decide +kernel⟩
theorem sM (F:Fun K "with_figure" "with_figure" (top 31) f fd) (B:Blt mg) (qc0:zm P w K mg base n "figure" ["k","stage","line"] (tH K))     :
  FnOk P w K mg base CX0 (n+1) f fd ["k","stage","line","wanted"] (wR K):=by
 refine F.ok sL ud (fun cdv A outer s H vs Q E hr h=>?_)
 obtain ⟨x,y,z,u,rfl,k,st,l,w,rfl,rfl,rfl,rfl,k4,hs,l0,l1,hw,q⟩:=h
 refine ⟨_,(zi (zv (zp UP (pv 2) (zp yX (zp UP (zh qc0 hr rfl (za (pv 0) (za (pv 1) (za (pv 2) zb)))) (pv 3)) (zp yx (pv 0) (pv 1)))))),?_⟩
 have F:=Q8 k4 hs l0 l1
 refine ⟨_,rfl,_,rfl,_,rfl,_,rfl,_,_,_,rfl,k,st,l,rfl,rfl,rfl,hs,_,rfl,_,_,rfl,rfl,_,rfl,_,rfl,_,_,rfl,rfl,_,_,rfl,rfl,⟨by show (0:Int)<=(k:Int) - st; omega,by show (k:Int) - st<=1000000; omega,F.2 w hw⟩,_,_,rfl,rfl,q⟩
theorem VJ:FnScope ["k","stage","line","side"] ["k","stage","line","side"] (zf (top 32)):=⟨rfl,rfl,rfl,by decide +kernel,rfl,by decide +kernel,by decide +kernel⟩
theorem VL (F:Fun K "onward" "onward" (top 32) f fd) (B:Blt mg) (qc0:zm P w K mg base n "with_figure" ["k","stage","line","wanted"] (wR K)) (qc1:zm P w K mg base n "figure" ["k","stage","line"] (tH K))     :
  FnOk P w K mg base CX0 (n+1) f fd ["k","stage","line","side"] (jG K):=by
 refine F.ok VJ ud (fun cdv A outer s H vs Q E hr h=>?_)
 obtain ⟨x,y,z,u,rfl,k,st,l,s,rfl,rfl,rfl,rfl,k4,hs,l0,l1,s0,s1,q⟩:=h
 refine ⟨_,(zi (zv (zh qc0 hr rfl (za (pv 0) (za (pv 1) (za (pv 2) (za (zh qc1 hr rfl (za (pv 0) (za (pv 1) (za (pv 3) zb)))) zb))))))),?_⟩
 have F:=Q8 k4 hs s0 s1
 exact ⟨_,rfl,_,rfl,_,rfl,_,rfl,_,rfl,_,rfl,_,_,_,rfl,k,st,s,rfl,rfl,rfl,hs,_,_,_,_,rfl,k,st,l,_,rfl,rfl,rfl,rfl,k4,hs,l0,l1,F.1,q⟩
theorem Z6:FnScope ["k","box"] ["k","box"] (zf (top 36)):=⟨rfl,rfl,rfl,by decide +kernel,rfl,by decide +kernel,by decide +kernel⟩
theorem Z7 (F:Fun K "side_for" "side_for" (top 36) f fd) (B:Blt mg)      :
  FnOk P w K mg base CX0 (n+1) f fd ["k","box"] (jN K):=by
 refine F.ok Z6 yq (fun cdv A outer s H vs Q E hr h=>?_)
 obtain ⟨x,y,rfl,k,b,rfl,rfl,k4,b16,q⟩:=h
 refine ⟨_,(zi (zv (zp ji (pv 1) (zp yx (zp yX ze (pv 0)) ze)))),?_⟩
 refine ⟨_,rfl,_,rfl,_,_,rfl,rfl,wv k4,_,_,rfl,rfl,_,_,rfl,rfl,?_⟩
 have e:=Ut k4 b16
 show Q (.int (Builtin.bitAnd (b:Int) (1 * 2 ^ ((k:Int)).toNat - 1))) H
 rw [e]
 exact q
theorem yn:FnScope ["self","stage","line","coming","box","out","switch","alike"] ["self","stage","line"] (zf (zj (top 45) 8)):=⟨rfl,rfl,rfl,by decide +kernel,rfl,by decide +kernel,by decide +kernel⟩
theorem sN (F:Fun K "hand_on" "Net.hand_on" (zj (top 45) 8) f fd) (B:Blt mg) {C:Addr} (T:NTxt K mg C) (qc0:zm P w K mg base n "joined_at" ["switch","waiter","comer"] (W9 K)) (qc1:zm P w K mg base n "switch_at" ["k","stage","line"] (uG K)) (qc2:zm P w K mg base n "onward" ["k","stage","line","side"] (jG K)) (qc3:zm P w K mg base n "side_for" ["k","box"] (jN K))  (g_enumerate:mg "enumerate" = none)   :
  FnOk P w K mg base CX0 (n+1) f fd ["self","stage","line"] (qD C K):=by
 refine F.ok yn yP (fun cdv A outer s H vs Q E hr h=>?_)
 obtain ⟨x,y,z,rfl,A5,ns,s5,l,ms,rfl,rfl,rfl,s1,sk,hl,hn,nr,hm,q⟩:=h
 refine ⟨_,(zd (zJ (i:=3) yn.nd rfl (Or.inl rfl) (ww (Room.u1F hr) (zz (pv 0) rfl) (zH (za (zp yx (pv 1) ze) (za (pv 2) zb))) (fun _ _=>rfl))) (zd (ye (yL (qb (pv 3) (fun _=>rfl))) (zi To) zx) (zd (zJ (i:=4) yn.nd rfl (Or.inr rfl) (yC xq (yC yp (pv 3) ze (fun _ _=>rfl)) ze (fun _ _=>rfl))) (zd (zJ (i:=5) yn.nd rfl (Or.inl rfl) (ww (Room.u1F hr) (zz (pv 0) rfl) (zH (za (pv 1) (za (zh qc2 hr rfl (za (zz (pv 0) rfl) (za (pv 1) (za (pv 2) (za (zh qc3 hr rfl (za (zz (pv 0) rfl) (za (pv 4) zb))) zb))))) zb))) (fun _ _=>rfl))) (zd (zJ (i:=6) yn.nd rfl (Or.inl rfl) (zH (za (pv 1) (za (zh qc1 hr rfl (za (zz (pv 0) rfl) (za (pv 1) (za (pv 2) zb)))) zb)))) (zd (vy (i:=7) yn.nd rfl rfl (CSc.of (N':=["place","waiter","box"]) (sub:=[none,none,some 4]) (zf (zj (top 45) 8)) ["self","stage","line","coming","box","out","switch","alike"] rfl rfl (by decide +kernel) rfl) rfl (Uj false (K:=K) rfl rfl g_enumerate (za (pv 5) zb)) (fun _ _ _ _ _ _=>tK (K:=K) 2 rfl rfl (zo (zk (i:=0) (show (["place","waiter","box"]:List Str).Nodup by decide +kernel) rfl (Or.inl rfl) (Or.inr rfl)) (zo (zk (i:=1) (show (["place","waiter","box"]:List Str).Nodup by decide +kernel) rfl (Or.inl rfl) (Or.inr rfl)) yo)) rfl rfl) (fun _ _ _ _ _ _=>(V5 (zE wn (yC (TR (K:=K) rfl) (pv 1) ze (fun _ _=>rfl)) (pv 2) (zF _)))) (fun _ _ _ _ _ _=>(pv 0))) (zi (ye (PW.pt (wN (qb (pv 7) (fun _=>rfl)) (xX (zE qa (ww (Room.u1F hr) (zz (pv 0) rfl) (pv 6) (fun _ _=>rfl)) (zz (pv 0) rfl) (zF _))))) (zd (we (zh qc0 hr rfl (za (pv 6) (za (yC yp (pv 5) (yC yp (pv 7) (X2 jj ze) (fun _ _=>rfl)) (fun _ _=>rfl)) (za (wK PySem.F.plainAttrs_list PySem.F.slot_list_pop PySem.F.type_list_pop qg (pv 3) (za ze zb)) zb)))) (Yh (pv 5) (yC yp (pv 7) (X2 jj ze) (fun _ _=>rfl)) uP)) (zi (WL (Room.u1F hr) (zz (pv 0) rfl) (pv 6) ze UO (fun _ _ _=>rfl)))) (zi (ye (zE qa (zq zD rfl B.len wY (za (pv 5) zb)) (zz (pv 0) rfl) (zF _)) (zi (zG (wK PySem.F.plainAttrs_list PySem.F.slot_list_append PySem.F.type_list_append xh (pv 5) (za (wK PySem.F.plainAttrs_list PySem.F.slot_list_pop PySem.F.type_list_pop qg (pv 3) (za ze zb)) zb)))) zx)))))))))),?_⟩
 have k4:=nr.k4
 have p16:=ue k4
 have es:(s5:Int) - 1=((s5 - 1:Nat):Int):=by omega
 have sk1:s5 - 1<=ns.k:=by omega
 refine ⟨_,rfl,_,C,_,_,_,rfl,hn.ob.choose_spec,T.cl,T.n_lines,vF,_,rfl,_,_,rfl,rfl,_,rfl,szl rfl,fun t1 ht1=>?_⟩
 have g1:=Grow.new (m:=[]) ht1 (.tup [.int ((s5:Int) - 1),.int l])
 have k1:JQ H t1 (.tup [.int ((s5:Int) - 1),.int l]) t1=some (.tup [.int ((s5 - 1:Nat):Int),.int l]):=by rw [zc,es]
 have hn1:=hn.grow0 g1
 generalize JQ H t1 _=H1 at g1 k1 hn1 ⊢
 refine ⟨_,_,rfl,(vC (A:=A5) sk1 hl) ▸ qp.t hn1.dl (xp k1),?_⟩
 obtain ⟨ys,hys,hw⟩:=hn1.ln (l:=s5 - 1) (j:=l) sk1 hl
 refine xr ⟨_,rfl,_,.inl ⟨_,J1.of hys,rfl⟩,?_⟩
 cases hlin:ns.lines (s5 - 1) l with
 | nil =>
  rw [hlin] at hw
  have e:ys=[]:=List.eq_nil_of_length_eq_zero (by rw [hw.len]; rfl)
  subst e
  exact y7 rfl (q _ (g1.mono (by simp)) (by unfold wM; rw [hlin]; exact hn1))
 | cons c r =>
 rw [hlin] at hw
 cases ys with
 | nil=>exact hw.elim
 | cons y0 yr =>
 obtain ⟨hc,hyr⟩:=hw
 have hc0:=hc
 obtain ⟨rc,rd,rn,rm,mv,rfl,c1,c2,c3,c4,c5⟩:=hc
 have wok:=nr.lw (s5 - 1) l sk1 hl c (by rw [hlin]; exact List.mem_cons_self ..)
 have cb:c.box < 16:=Nat.lt_of_lt_of_le wok.bx nr.b16
 have sd:c.box % 2 ^ ns.k < 2 ^ ns.k:=Nat.mod_lt _ (Nat.two_pow_pos _)
 refine yF rfl (wT ⟨_,rfl,_,_,0,_,rfl,rfl,J1.of hys,zP (j:=0) rfl,rc,_,0,_,rfl,rfl,c1,zP (j:=0) rfl,?_⟩)
 have OF:=Jb (b:=c.box) k4 s1 sk hl
 refine xr ⟨_,rfl,_,C,_,_,_,rfl,hn1.ob.choose_spec,T.cl,T.n_lines,vF,_,rfl,_,rfl,_,C,_,_,_,rfl,hn1.ob.choose_spec,T.cl,T.n_depth,yc,_,rfl,_,rfl,_,rfl,_,C,_,_,_,rfl,hn1.ob.choose_spec,T.cl,T.n_depth,yc,_,rfl,_,_,rfl,ns.k,c.box,rfl,rfl,k4,cb,_,_,_,_,rfl,ns.k,s5,(l:Int),((c.box % 2 ^ ns.k:Nat):Int),rfl,rfl,rfl,rfl,k4,sk,by omega,by omega,by omega,by omega,szl rfl,fun t2 ht2=>?_⟩
 have g2:=Grow.new (m:=[]) ht2 (.tup [.int s5,.int (wfI ns.k s5 l (xF ns.k s5 ((c.box % 2 ^ ns.k:Nat):Int)))])
 have k2:JQ H1 t2 (.tup [.int s5,.int (wfI ns.k s5 l (xF ns.k s5 ((c.box % 2 ^ ns.k:Nat):Int)))]) t2=some (.tup [.int s5,.int (zW ns.k s5 l c.box:Nat)]):=by rw [zc,OF.eq]; rfl
 have olt:zW ns.k s5 l c.box < 2 ^ ns.k:=OF.lt
 have hn2:=hn1.grow0 g2
 have hys2:=g2.keep _ _ (by simp) hys
 have hyr2:=hyr.imp fun _ _ z=>z.grow g2
 have hc2:=hc0.grow g2
 generalize JQ H1 t2 _=H2 at g2 k2 hn2 hys2 hyr2 hc2 ⊢
 refine ⟨_,_,rfl,(vC (A:=A5) sk olt) ▸ qp.t hn2.dl (xp k2),?_⟩
 have F1:=Q9 k4 s1 sk hl
 refine xr ⟨_,rfl,_,rfl,_,C,_,_,_,rfl,hn2.ob.choose_spec,T.cl,T.n_depth,yc,_,rfl,_,rfl,_,_,_,rfl,ns.k,s5,(l:Int),rfl,rfl,rfl,k4,sk,by omega,by omega,szl rfl,fun t3 ht3=>?_⟩
 have g3:=Grow.new (m:=[]) ht3 (.tup [.int s5,.int (swI ns.k s5 l)])
 have k3:JQ H2 t3 (.tup [.int s5,.int (swI ns.k s5 l)]) t3=some (.tup [.int s5,.int (nN ns.k s5 l:Nat)]):=by rw [zc,F1.sw,F1.num]
 have hn3:=hn2.grow0 g3
 have hys3:=g3.keep _ _ (by simp) hys2
 have hyr3:=hyr2.imp fun _ _ z=>z.grow g3
 have hc3:=hc2.grow g3
 generalize JQ H2 t3 _=H3 at g3 k3 hn3 hys3 hyr3 hc3 ⊢
 have G3:=g1.trans (g2.trans g3)
 obtain ⟨zs,hzs,hz⟩:=hn3.ln (l:=s5) (j:=zW ns.k s5 l c.box) sk olt
 have zl:=hz.len
 have l40:=vG nr sk olt
 refine xr ⟨_,rfl,_,zs,rfl,J1.of hzs,Xi (xs:=zs) (fun i vs σ H'=>(∃ e0 e1,σ = [e0,e1,some (.int c.box)]) /\ Grow [] H3 H' /\ vs=yG ((List.range i).filter fun j=>decide (((ns.lines s5 (zW ns.k s5 l c.box)).getD j default).box=c.box))) ⟨⟨_,_,rfl⟩,Grow.refl _ _,rfl⟩ (fun i vs σ H' ⟨_,g,_⟩=>J1.of (g.keep _ _ (by simp) hzs)) ?_ ?_⟩
 ·rintro i x vs σ H' T5 hx ⟨⟨e0,e1,rfl⟩,g,rfl⟩ hT5
  obtain ⟨wi,hwi,ri,rdi,rni,rmi,mvi,rfl,w1,w2,w3,w4,w6⟩:=hz.get hx
  have gT:=Grow.new (m:=[]) hT5 (.tup [.int i,.ref ri])
  have ew:(ns.lines s5 (zW ns.k s5 l c.box)).getD i default=wi:=by rw [List.getD_eq_getElem?_getD,hwi]; rfl
  have il:=(List.getElem?_eq_some_iff.mp hwi).1
  have er:(List.range (i+1)).filter (fun j=>decide (((ns.lines s5 (zW ns.k s5 l c.box)).getD j default).box=c.box))=(List.range i).filter (fun j=>decide (((ns.lines s5 (zW ns.k s5 l c.box)).getD j default).box=c.box)) ++ (if wi.box=c.box then [i] else []):=by
   rw [List.range_succ,List.filter_append]
   congr 1
   rw [List.filter_cons,ew]
   by_cases z:wi.box=c.box
   ·rw [if_pos z,if_pos (decide_eq_true z)]; rfl
   ·rw [if_neg z,if_neg (by rw [decide_eq_false z]; decide)]; rfl
  refine ⟨T5,_,rfl,J3.of zc,rfl,_,_,rfl,_,_,rfl,rfl,_,rfl,ri,_,0,_,rfl,rfl,gT.sqT (g.sqT w1),zP (j:=0) rfl,_,rfl,rfl,_,rfl,?_⟩
  by_cases z:wi.box=c.box
  ·refine y7 (decide_eq_true (congrArg V.int (by omega))) ⟨_,rfl,?_,⟨_,_,rfl⟩,g.trans gT,?_⟩
   ·unfold yG; rw [List.length_map]; exact zr (Nat.le_trans (List.length_filter_le _ _) (by rw [List.length_range]; omega))
   ·rw [er,if_pos z]; unfold yG; rw [List.map_append]; rfl
  ·refine yF (decide_eq_false fun w=>z (by have:=V.int.inj w; omega)) ⟨⟨_,_,rfl⟩,g.trans gT,?_⟩
   rw [er,if_neg z,List.append_nil]
 rintro vs σ H4 ⟨_,g4,rfl⟩ la hla
 rw [zl]
 have gl:=Grow.new (m:=[]) hla (.lst (yG ((List.range (ns.lines s5 (zW ns.k s5 l c.box)).length).filter fun j=>decide (((ns.lines s5 (zW ns.k s5 l c.box)).getD j default).box=c.box))))
 have hla5:=zc (H:=H4) (a:=la) (o:=.lst (yG ((List.range (ns.lines s5 (zW ns.k s5 l c.box)).length).filter fun j=>decide (((ns.lines s5 (zW ns.k s5 l c.box)).getD j default).box=c.box))))
 have elast:jT (ns.lines s5 (zW ns.k s5 l c.box)) c.box=((List.range (ns.lines s5 (zW ns.k s5 l c.box)).length).filter fun j=>decide (((ns.lines s5 (zW ns.k s5 l c.box)).getD j default).box=c.box)).getLast?:=rfl
 generalize ((List.range (ns.lines s5 (zW ns.k s5 l c.box)).length).filter fun j=>decide (((ns.lines s5 (zW ns.k s5 l c.box)).getD j default).box=c.box))=ids at hla gl hla5 elast ⊢
 have g45:=g4.trans gl
 have hn5:=hn3.grow0 g45
 have hys5:=g45.keep _ _ (by simp) hys3
 have hyr5:=hyr3.imp fun _ _ z=>z.grow g45
 have hc5:=hc3.grow g45
 have hzs5:=g45.keep _ _ (by simp) hzs
 have hz5:=hz.imp fun _ _ z=>z.grow g45
 have k5:=g45.tup _ _ k3
 have G5:=G3.trans g45
 generalize JQ H4 la _=H5 at gl hla5 g45 hn5 hys5 hyr5 hc5 hzs5 hz5 k5 G5 ⊢
 clear hz hzs hc3 hyr3 hys3 hn3 hc2 hyr2 hys2 hn2 hc0 hyr hys hn1 hla g4 gl
 have neL:A5 (.ln s5 (zW ns.k s5 l c.box)) ≠ A5 (.ln (s5 - 1) l):=nd5 hn5 (a:=.ln s5 (zW ns.k s5 l c.box)) (b:=.ln (s5 - 1) l) ⟨sk,olt⟩ ⟨sk1,hl⟩ (fun z=>by injection z; omega)
 have m1:A5 (.ln (s5 - 1) l) ∈ ms:=hm (.ln (s5 - 1) l) ⟨sk1,hl⟩
 have m2:A5 (.ln s5 (zW ns.k s5 l c.box)) ∈ ms:=hm (.ln s5 (zW ns.k s5 l c.box)) ⟨sk,olt⟩
 have m3:A5 .dk ∈ ms:=hm .dk trivial
 refine xr (Sj (fun b H'=>H' = H5 /\ b=(!ids.isEmpty && decide (ns.keep s5 (nN ns.k s5 l) < ns.kept))) (fun Kk hk=>?_) ?_)
 ·have ei:(!(yG ids).isEmpty) = !ids.isEmpty:=by cases ids <;> rfl
  refine ⟨_,rfl,_,.inl ⟨_,J1.of hla5,rfl⟩,?_⟩
  rw [ei]
  cases hid:ids.isEmpty with
  | true=>exact yF rfl (hk _ _ ⟨rfl,by rw [hid]; rfl⟩)
  | false=>exact y7 rfl ⟨_,rfl,_,C,_,_,_,rfl,hn5.ob.choose_spec,T.cl,T.n_keeping,wH,_,rfl,_,_,rfl,(vD (kp:=ns.keep) s1 sk F1.lt) ▸ qp.t hn5.dk (xp k5),_,rfl,_,C,_,_,_,rfl,hn5.ob.choose_spec,T.cl,T.n_most_kept,jW,_,_,rfl,rfl,_,rfl,hk _ _ ⟨rfl,by rw [hid]; rfl⟩⟩
 rintro b H' ⟨rfl,rfl⟩
 obtain ⟨hn6,g6⟩:=hn5.setLn sk1 hl hyr5
 cases hb:(!ids.isEmpty && decide (ns.keep s5 (nN ns.k s5 l) < ns.kept)) with
 | true =>
  rw [Bool.and_eq_true,decide_eq_true_eq] at hb
  obtain ⟨is,i,rfl⟩:∃ is i,ids=is ++ [i]:=by
   have hne:ids ≠ []:=fun z=>by rw [z] at hb; exact absurd hb.1 (by decide)
   exact ⟨ids.dropLast,ids.getLast hne,(List.dropLast_concat_getLast hne).symm⟩
  rw [List.getLast?_concat] at elast
  obtain ⟨ilt,ibx⟩:=ZQ elast
  obtain ⟨xi,hxi⟩:∃ x,zs[i]? = some x:=⟨_,List.getElem?_eq_getElem (by omega)⟩
  obtain ⟨wi,hwi,hWi⟩:=hz5.get hxi
  have ewi:(ns.lines s5 (zW ns.k s5 l c.box)).getD i default=wi:=by rw [List.getD_eq_getElem?_getD,hwi]; rfl
  have wiok:=nr.lw s5 _ sk olt wi (List.mem_of_getElem? hwi)
  have two:=Sd (f:=ns.lines) (g:=xG) sk1 hl sk olt (fun z=>by have:=z.1; omega)
  have t1':=uR (g:=xG) (ws:=ns.lines s5 (zW ns.k s5 l c.box)) (w:=wi) (List.mem_of_getElem? hwi)
  have t2':xG c<=zR xG (ns.lines (s5 - 1) l):=uR (by rw [hlin]; exact List.mem_cons_self ..)
  have tot:=nr.tot
  have a40:=nr.a40
  have n40:wi.nums.length+c.nums.length<=40:=by
   have e1:xG wi=wi.nums.length:=rfl
   have e2:xG c=c.nums.length:=rfl
   omega
  have ln1:=wok.ln
  have ln2:=wiok.ln
  refine vn ⟨_,rfl,_,rfl,_,rfl,_,rfl,la,_,-1,_,rfl,rfl,J1.of hla5,RL,_,_,i,_,rfl,rfl,J1.of hzs5,zP hxi,_,rfl,.inl ⟨rfl,_,J1.of hys5⟩,_,_,0,0,_,rfl,rfl,hys5,by decide,by decide,Sk,rfl,?_⟩
  have hla6:=g6.keep _ _ (show la ∉ [A5 (.ln (s5 - 1) l)] from fun z=>by have e:=List.mem_singleton.mp z; rw [e,hys5] at hla5; have:=HO.lst.inj (Option.some.inj hla5); cases is <;> cases this) hla5
  have hzs6:=g6.keep _ _ (show A5 (.ln s5 (zW ns.k s5 l c.box)) ∉ [A5 (.ln (s5 - 1) l)] by simpa using neL) hzs5
  have k6:=g6.tup _ _ k5
  have hz6:=hz5.imp fun _ _ z=>z.grow g6
  have hc6:=hc5.grow g6
  have hWi6:=hWi.grow g6
  have eer:(V.ref rc :: yr).eraseIdx 0=yr:=rfl
  rw [eer]
  generalize JQ H' (A5 (.ln (s5 - 1) l)) (.lst yr)=H6 at hn6 g6 hla6 hzs6 k6 hz6 hc6 hWi6 ⊢
  refine ⟨_,_,_,rfl,(s5,nN ns.k s5 l),wi,c,⟨t3,rfl,k6⟩,hWi6,hc6,n40,by omega,fun r7 H7 g7 hr7=>?_⟩
  have hla7:=g7.keep _ _ (by simp) hla6
  have hzs7:=g7.keep _ _ (by simp) hzs6
  refine ⟨_,rfl,_,rfl,_,rfl,la,_,-1,_,rfl,rfl,J1.of hla7,RL,_,_,_,i,rfl,rfl,hzs7,qG (by omega),?_⟩
  have hn7:=hn6.grow0 g7
  obtain ⟨hn8,g8⟩:=hn7.setLn (l:=s5) (j:=zW ns.k s5 l c.box) sk olt (zT.set (n:=i) hr7 (hz6.imp fun _ _ z=>z.grow g7))
  have k8:=(g7.trans (Grow.refl _ _)).tup _ _ k6
  have k8':=g8.tup _ _ k8
  generalize JQ H7 (A5 (.ln s5 (zW ns.k s5 l c.box))) _=H8 at hn8 g8 k8' ⊢
  refine ⟨_,rfl,_,C,_,_,_,rfl,hn8.ob.choose_spec,T.cl,T.n_keeping,wH,_,rfl,_,_,rfl,(vD (kp:=ns.keep) s1 sk F1.lt) ▸ qp.t hn8.dk (xp k8'),_,_,rfl,rfl,_,T6.t hn8.dk (xp k8') (zr (Nat.le_of_lt (YF k4))),?_⟩
  have ep:xz (yg ns.k ns.keep) (kI [(s5:Int),(nN ns.k s5 l:Int)]) (.int (ns.keep s5 (nN ns.k s5 l)+1))=yg ns.k (yh ns.keep s5 (nN ns.k s5 l) (ns.keep s5 (nN ns.k s5 l)+1)):=YE s1 sk F1.lt
  obtain ⟨hn9,g9⟩:=hn8.setK (yh ns.keep s5 (nN ns.k s5 l) (ns.keep s5 (nN ns.k s5 l)+1))
  show Q V.non (JQ H8 (A5 .dk) (.dT (xz (yg ns.k ns.keep) (kI [(s5:Int),(nN ns.k s5 l:Int)]) (.int (ns.keep s5 (nN ns.k s5 l)+1)))))
  rw [ep]
  refine q _ ((G5.mono (by simp)).trans ((g6.mono (by simpa using m1)).trans ((g7.mono (by simp)).trans ((g8.mono (by simpa using m2)).trans (g9.mono (by simpa using m3)))))) ?_
  have eh:wM ns s5 l = { ns with lines:=yh (yh ns.lines (s5 - 1) l r) s5 (zW ns.k s5 l c.box) ((ns.lines s5 (zW ns.k s5 l c.box)).set i (x8 (s5,nN ns.k s5 l) wi c)),keep:=yh ns.keep s5 (nN ns.k s5 l) (ns.keep s5 (nN ns.k s5 l)+1) }:=by
   unfold wM
   rw [hlin]
   show (match jT (ns.lines s5 (zW ns.k s5 l c.box)) c.box with | none=>_ | some i=>_)=_
   rw [elast]
   show (if _ then _ else _)=_
   rw [if_pos hb.2,ewi]
  rw [eh]; exact hn9
 | false =>
  have eh:wM ns s5 l=Sc ns s5 l c r:=by
   unfold wM
   rw [hlin]
   show (match jT (ns.lines s5 (zW ns.k s5 l c.box)) c.box with | none=>_ | some i=>_)=_
   rw [elast]
   cases ids with
   | nil=>rfl
   | cons a b =>
    have hb':decide (ns.keep s5 (nN ns.k s5 l) < ns.kept)=false:=hb
    rw [List.getLast?_cons]
    show (if _ then _ else _)=_
    rw [if_neg (of_decide_eq_false hb')]
  refine xw ⟨_,rfl,_,zs,rfl,.inl (J1.of hzs5),_,rfl,_,C,_,_,_,rfl,hn5.ob.choose_spec,T.cl,T.n_room,Se,_,_,rfl,rfl,_,rfl,?_⟩
  by_cases hroom:(ns.lines s5 (zW ns.k s5 l c.box)).length < ns.room
  rotate_left
  ·refine yF (decide_eq_false (by omega)) (q _ (G5.mono (by simp)) ?_)
   rw [eh]; unfold Sc; rw [if_neg hroom]; exact hn5
  refine y7 (decide_eq_true (by omega)) ⟨_,rfl,.inl ⟨rfl,_,J1.of hzs5⟩,_,rfl,.inl ⟨rfl,_,J1.of hys5⟩,_,_,0,0,_,rfl,rfl,hys5,by decide,by decide,Sk,rfl,?_⟩
  have hzs6:=g6.keep _ _ (show A5 (.ln s5 (zW ns.k s5 l c.box)) ∉ [A5 (.ln (s5 - 1) l)] by simpa using neL) hzs5
  have hz6:=hz5.imp fun _ _ z=>z.grow g6
  have hc6:=hc5.grow g6
  have eer:(V.ref rc :: yr).eraseIdx 0=yr:=rfl
  rw [eer]
  generalize JQ H' (A5 (.ln (s5 - 1) l)) (.lst yr)=H6 at hn6 g6 hzs6 hz6 hc6 ⊢
  obtain ⟨hn8,g8⟩:=hn6.setLn (l:=s5) (j:=zW ns.k s5 l c.box) sk olt (hz6.app (.one hc6))
  refine ⟨_,_,_,rfl,rfl,hzs6,zr (by omega),q _ ((G5.mono (by simp)).trans ((g6.mono (by simpa using m1)).trans (g8.mono (by simpa using m2)))) ?_⟩
  rw [eh]; unfold Sc; rw [if_pos hroom]; exact hn8
theorem xO:FnScope ["self","stage","gone","first","number"] ["self","stage","gone"] (zf (zj (top 45) 7)):=⟨rfl,rfl,rfl,by decide +kernel,rfl,by decide +kernel,by decide +kernel⟩
theorem sO (F:Fun K "pass_on" "Net.pass_on" (zj (top 45) 7) f fd) (B:Blt mg) {C:Addr} (T:NTxt K mg C) (mc_hand_on:zt P w K mg base C n "hand_on" ["self","stage","line"] (qD C K)) (qc0:zm P w K mg base n "in_line" ["k","stage","number","mark"] (W8 K))     :
  FnOk P w K mg base CX0 (n+1) f fd ["self","stage","gone"] (qE C K):=by
 refine F.ok xO yP (fun cdv A outer s H vs Q E hr h=>?_)
 obtain ⟨x,y,z,rfl,A5,ns,s5,gone,ms,rfl,rfl,hg,s1,sk,hn,nr,hm,q⟩:=h
 refine ⟨_,(zd (zJ (i:=3) xO.nd rfl (Or.inl rfl) (zp ji (zz (pv 0) rfl) ze)) (zi (yW PassesOwn.never rfl (zS rfl B.range (za (zp yX ze (zp yx (zz (pv 0) rfl) ze)) zb)) (zk (i:=4) xO.nd rfl (Or.inl rfl)) (zi (ye (zE (rF (K:=K) rfl hr) (zH (za (pv 1) (za (pv 4) zb))) (pv 2) (by with_unfolding_all rfl)) (zd (zG (zU mc_hand_on T.cl hr (pv 0) (za (pv 1) (za (zh qc0 hr rfl (za (zz (pv 0) rfl) (za (pv 1) (za (pv 4) (za (pv 3) zb))))) zb)))) (zi (zG (zU mc_hand_on T.cl hr (pv 0) (za (pv 1) (za (zh qc0 hr rfl (za (zz (pv 0) rfl) (za (pv 1) (za (pv 4) (za (zp yx ze (pv 3)) zb))))) zb)))))) zx))))),?_⟩
 have k4:=nr.k4
 have ea:Builtin.bitAnd (ns.now:Int) 1=((ns.now % 2:Nat):Int):=by rw [show (1:Int)=((1:Nat):Int) from rfl,TZ,Nat.and_one_is_mod]
 have ek:(ns.k:Int) - 1=((ns.k - 1:Nat):Int):=by omega
 have ej:(1:Int) * 2 ^ ((ns.k:Int) - 1).toNat=((2 ^ (ns.k - 1):Nat):Int):=by rw [ek]; exact qk
 have p8:2 ^ (ns.k - 1)<=8:=Nat.le_trans (Nat.pow_le_pow_right (by decide) (show ns.k - 1<=3 by omega)) (by decide)
 refine ⟨_,rfl,_,C,_,_,_,rfl,hn.ob.choose_spec,T.cl,T.n_now,jX,_,_,rfl,rfl,WP (congrArg V.int ea) ⟨_,rfl,_,C,_,_,_,rfl,hn.ob.choose_spec,T.cl,T.n_depth,yc,_,_,rfl,rfl,_,_,rfl,rfl,⟨by omega,by omega,by decide⟩,_,rfl,by rw [ej]; exact Int.le_trans (by decide) (Int.natCast_nonneg _),by rw [ej]; exact Int.lt_of_le_of_lt (Int.ofNat_le.mpr p8) (by decide),?_⟩⟩
 rw [ej,Int.toNat_natCast]
 refine yN (fun i σ H'=>∃ e4,σ = [some (.ref (A5 .p)),some (.int s5),some z,some (.int ((ns.now % 2:Nat):Int)),e4] /\ Grow ms H H' /\ NetAt K C H' A5 (passS gone ns s5 i)) ⟨_,rfl,Grow.refl _ _,hn⟩ ?_ ?_
 rotate_left
 ·rintro σ H' ⟨e4,rfl,g,hn'⟩
  exact q _ g hn'
 rintro i σ H1 hi ⟨e4,rfl,g1,hn1⟩
 have sm:=xS gone ns s5 i
 have nr1:=nr.passS (gone:=gone) s1 sk (i:=i) (by omega)
 have es:passS gone ns s5 (i+1)=xI gone s5 (passS gone ns s5 i) i:=by unfold passS; rw [zQ]
 rw [es]
 generalize passS gone ns s5 i=n1 at hn1 sm nr1 ⊢
 obtain ⟨rg,ys,rfl,hrg,hga,hgl⟩:=hg.grow g1
 refine ⟨_,rfl,_,rfl,szl rfl,fun t ht=>?_⟩
 have gt:=Grow.new (m:=[]) ht (.tup [.int s5,.int (0+(i:Int))])
 have kt:JQ H1 t (.tup [.int s5,.int (0+(i:Int))]) t=some (.tup [.int s5,.int i]):=by rw [zc,Int.zero_add]
 have hn2:=hn1.grow0 gt
 have G2:Grow ms H (JQ H1 t (.tup [.int s5,.int (0+(i:Int))])):=g1.trans gt.wk
 refine ⟨_,rfl,t,rg,ys,(s5,i),gone,rfl,rfl,J3.of kt,gt.sqT hrg,hga.imp fun _ _ ⟨r,e,z⟩=>⟨r,e,gt.sqT z⟩,_,rfl,?_⟩
 generalize JQ H1 t _=H2 at gt kt hn2 G2 ⊢
 by_cases c:(s5,i) ∈ gone
 ·refine yF (by rw [decide_eq_true c]; rfl) ⟨_,rfl,G2,?_⟩
  unfold xI
  rw [if_pos c]; exact hn2
 refine y7 (by rw [decide_eq_false c]; rfl) ?_
 have ep:xI gone s5 n1 i=wM (wM n1 s5 (YD n1.k s5 i (n1.now % 2))) s5 (YD n1.k s5 i (1 - n1.now % 2)):=if_neg c
 have ik:i < 2 ^ (n1.k - 1):=by rw [sm.k]; exact hi
 have sk1:s5<=n1.k:=by rw [sm.k]; exact sk
 have m2:n1.now % 2 < 2:=Nat.mod_lt _ (by decide)
 have en:ns.now % 2=n1.now % 2:=by rw [sm.now]
 have hm1:∀ a,okA n1 a->A5 a ∈ ms:=fun a ha=>hm a (by
  have ek:=sm.k
  have en:=sm.nd
  cases a <;> first | trivial | (unfold okA at ha ⊢; rw [ek] at ha; exact ha) | (unfold okA at ha ⊢; rw [en] at ha; exact ha))
 have l1:=uq nr1.k4 s1 sk1 ik m2
 have l2:=uq nr1.k4 s1 sk1 ik (show 1 - n1.now % 2 < 2 by omega)
 refine ⟨_,rfl,_,_,_,rfl,hn2.ob.choose_spec,rE,_,rfl,_,rfl,_,C,_,_,_,rfl,hn2.ob.choose_spec,T.cl,T.n_depth,yc,_,rfl,_,rfl,_,rfl,_,_,_,_,rfl,n1.k,s5,i,n1.now % 2,rfl,rfl,congrArg V.int (by omega),congrArg V.int (by omega),nr1.k4,s1,sk1,ik,m2,_,_,_,rfl,A5,n1,s5,_,ms,rfl,rfl,rfl,s1,sk1,l1,hn2,nr1,hm1,fun H3 g3 hn3=>?_⟩
 have sm3:=wx n1 s5 (YD n1.k s5 i (n1.now % 2))
 have nr3:=nr1.hand s1 sk1 l1
 have hm3:∀ a,okA (wM n1 s5 (YD n1.k s5 i (n1.now % 2))) a->A5 a ∈ ms:=fun a ha=>hm1 a (by
  have ek:=sm3.k
  have en:=sm3.nd
  cases a <;> first | trivial | (unfold okA at ha ⊢; rw [ek] at ha; exact ha) | (unfold okA at ha ⊢; rw [en] at ha; exact ha))
 refine ⟨_,rfl,_,_,_,rfl,hn3.ob.choose_spec,rE,_,rfl,_,rfl,_,C,_,_,_,rfl,hn3.ob.choose_spec,T.cl,T.n_depth,yc,_,rfl,_,rfl,_,rfl,_,_,rfl,rfl,_,_,_,_,rfl,n1.k,s5,i,1 - n1.now % 2,congrArg V.int (by rw [sm3.k]),rfl,congrArg V.int (by omega),congrArg V.int (by omega),nr1.k4,s1,sk1,ik,by omega,_,_,_,rfl,A5,_,s5,_,ms,rfl,rfl,rfl,s1,by rw [sm3.k]; exact sk1,by rw [sm3.k]; exact l2,hn3,nr3,hm3,fun H4 g4 hn4=>⟨_,rfl,G2.trans (g3.trans g4),?_⟩⟩
 rw [ep]; exact hn4
theorem wV:FnScope ["self","box","numbers","number"] ["self","box","numbers"] (zf (zj (top 45) 6)):=⟨rfl,rfl,rfl,by decide +kernel,rfl,by decide +kernel,by decide +kernel⟩
theorem sP (F:Fun K "do_asks" "Net.do_asks" (zj (top 45) 6) f fd) (B:Blt mg) {C:Addr} (T:NTxt K mg C) (qc0:zm P w K mg base n "made" ["deed","value"] (ZE K))     :
  FnOk P w K mg base CX0 (n+1) f fd ["self","box","numbers"] (um C K):=by
 refine F.ok wV yP (fun cdv A outer s H vs Q E hr h=>?_)
 obtain ⟨x,y,z,rfl,A5,ns,b,nums,r,rfl,rfl,rfl,hr5,hn,hb,hnm,hl,hf,q⟩:=h
 refine ⟨_,(zi (yW PassesOwn.never rfl (sT (pv 2)) (zk (i:=3) wV.nd rfl (Or.inl rfl)) (zd (WK (Room.u1F hr) (zz (pv 0) rfl) (pv 3) (yC yp (zz (pv 0) rfl) (pv 1) (fun _ _=>rfl)) rfl) (zd (we (zh qc0 hr rfl (za (yC xq (yC yp (zz (pv 0) rfl) (pv 3) (fun _ _=>rfl)) ze (fun _ _=>rfl)) (za (yC yp (zz (pv 0) rfl) (pv 1) (fun _ _=>rfl)) zb))) (Yh (zz (pv 0) rfl) (pv 1) uP)) (zi (zG (wK PySem.F.plainAttrs_list PySem.F.slot_list_append PySem.F.type_list_append xh (zz (pv 0) rfl) (za (pv 3) zb)))))))),?_⟩
 have nl:(yG nums).length=nums.length:=List.length_map ..
 refine ⟨_,rfl,r,rfl,⟨_,hr5⟩,uX (xs:=yG nums) (fun i σ H'=>∃ e3,σ = [some (.ref (A5 .p)),some (.int b),some (.ref r),e3] /\ Grow [A5 .lb,A5 .df,A5 .lg] H H' /\ NetAt K C H' A5 ((nums.take i).foldl (doN b) ns)) ⟨_,rfl,Grow.refl _ _,hn⟩ (fun i σ H' _ ⟨_,_,g,_⟩=>g.sqT hr5) ?_ ?_⟩
 rotate_left
 ·rintro σ H' ⟨e3,rfl,g,hn'⟩
  rw [nl,List.take_length] at hn'
  exact q _ g hn'
 rintro i x σ H1 hx ⟨e3,rfl,g,hn1⟩
 rw [show (yG nums)[i]? = (nums[i]?).map fun n:Nat=>V.int n from List.getElem?_map ..] at hx
 obtain ⟨n5,hi,rfl⟩:=Option.map_eq_some_iff.mp hx
 have il:=(List.getElem?_eq_some_iff.mp hi).1
 rw [x9 hi]
 have lb:((nums.take i).foldl (doN b) ns).boxes.length=ns.boxes.length:=xR.1
 have la:((nums.take i).foldl (doN b) ns).asks=ns.asks:=xR.2.1
 have lg:((nums.take i).foldl (doN b) ns).log.length=ns.log.length+i:=by rw [xR.2.2.1,List.length_append,List.length_take]; omega
 have lf:((nums.take i).foldl (doN b) ns).fnd.length<=ns.fnd.length+i:=Nat.le_trans xR.2.2.2 (by rw [List.length_take]; omega)
 generalize (nums.take i).foldl (doN b) ns=n1 at hn1 lb la lg lf ⊢
 have n5a:=hnm n5 (List.mem_of_getElem? hi)
 have bl:b < n1.boxes.length:=by omega
 obtain ⟨v0,hv0⟩:∃ v,n1.boxes[b]? = some v:=⟨_,List.getElem?_eq_getElem bl⟩
 have ev:n1.boxes.getD b 0=v0:=by rw [List.getD_eq_getElem?_getD,hv0]; rfl
 have hvx:(n1.boxes.map V.int)[b]? = some (.int v0):=by rw [List.getElem?_map,hv0]; rfl
 refine ⟨_,rfl,_,C,_,_,_,rfl,hn1.ob.choose_spec,T.cl,T.n_boxes,vE,_,rfl,A5 .lb,_,b,.int v0,rfl,rfl,J1.of hn1.lb,zP hvx,?_⟩
 refine ⟨_,rfl,_,C,_,_,_,rfl,hn1.ob.choose_spec,T.cl,T.n_found,YH,_,rfl,A5 .df,_,rfl,.inl ⟨_,.inl (n5:Int),hn1.df,rfl,?_,rfl⟩,?_⟩
 ·unfold nKv; rw [List.length_map]; exact zr (by omega)
 rw [ZO]
 obtain ⟨hn2,g2⟩:=hn1.setF (vz n1.fnd n5 v0)
 generalize JQ H1 (A5 .df) _=H2 at hn2 g2 ⊢
 obtain ⟨xs,hxs,has⟩:=hn2.la
 have has':zT (vq K H2) xs n1.asks:=has
 have xl:xs.length=n1.asks.length:=has'.len
 obtain ⟨xa,hxa⟩:∃ x,xs[n5]? = some x:=⟨_,List.getElem?_eq_getElem (by rw [xl,la]; exact n5a)⟩
 obtain ⟨ka,hka,ra,rd,rfl,sa,sd⟩:=has'.get hxa
 have eka:n1.asks.getD n5 default=ka:=by rw [List.getD_eq_getElem?_getD,hka]; rfl
 refine ⟨_,rfl,_,C,_,_,_,rfl,hn2.ob.choose_spec,T.cl,T.n_asks,tP,_,rfl,A5 .la,_,n5,_,rfl,rfl,J1.of hxs,zP hxa,ra,_,2,_,rfl,rfl,sa,zP (j:=2) rfl,?_⟩
 refine ⟨_,rfl,_,C,_,_,_,rfl,hn2.ob.choose_spec,T.cl,T.n_boxes,vE,_,rfl,A5 .lb,_,b,.int v0,rfl,rfl,J1.of hn2.lb,zP hvx,_,_,rfl,ka.deed,v0,⟨rd,rfl,sd⟩,rfl,?_⟩
 refine ⟨_,rfl,_,C,_,_,_,rfl,hn2.ob.choose_spec,T.cl,T.n_boxes,vE,_,rfl,A5 .lb,_,b,b,rfl,rfl,hn2.lb,?_,?_⟩
 ·exact qG (by rw [List.length_map]; exact bl)
 have ex:(n1.boxes.map V.int).set b (.int (ka.deed.mk' v0))=(n1.boxes.set b (ka.deed.mk' v0)).map V.int:=(List.map_set ..).symm
 show Tn _ _ _ _ _
 rw [ex]
 obtain ⟨hn3,g3⟩:=hn2.setB (n1.boxes.set b (ka.deed.mk' v0))
 generalize JQ H2 (A5 .lb) _=H3 at hn3 g3 ⊢
 refine ⟨_,rfl,_,C,_,_,_,rfl,hn3.ob.choose_spec,T.cl,T.n_logged,jY,.inl ⟨rfl,_,J1.of hn3.lg⟩,_,rfl,A5 .lg,_,_,rfl,rfl,hn3.lg,?_,?_⟩
 ·unfold yG; rw [List.length_map]; exact zr (by show n1.log.length<=1000; omega)
 have el:yG n1.log ++ [.int (n5:Int)]=yG (n1.log ++ [n5]):=by unfold yG; rw [List.map_append]; rfl
 refine ⟨_,rfl,?_⟩
 have key:=hn3.setG (n1.log ++ [n5])
 refine ⟨g.trans ((g2.mono (by simp)).trans ((g3.mono (by simp)).trans ?_)),?_⟩
 ·show Grow _ _ (JQ H3 (A5 .lg) (.lst (yG n1.log ++ [.int (n5:Int)])))
  rw [el]; exact key.2.mono (by simp)
 ·show NetAt K C (JQ H3 (A5 .lg) (.lst (yG n1.log ++ [.int (n5:Int)]))) A5 _
  rw [el]
  have e:doN b n1 n5 = { n1 with boxes:=n1.boxes.set b (ka.deed.mk' v0),fnd:=vz n1.fnd n5 v0,log:=n1.log ++ [n5] }:=by unfold doN; rw [eka,ev]
  rw [e]; exact key.1
theorem yB:FnScope ["self","gone","taken","side","line","box","deed","numbers","met"] ["self","gone"] (zf (zj (top 45) 5)):=⟨rfl,rfl,rfl,by decide +kernel,rfl,by decide +kernel,by decide +kernel⟩
theorem Z8 (F:Fun K "take" "Net.take" (zj (top 45) 5) f fd) (B:Blt mg) {C:Addr} (T:NTxt K mg C) (mc_do_asks:zt P w K mg base C n "do_asks" ["self","box","numbers"] (um C K))      :
  FnOk P w K mg base CX0 (n+1) f fd ["self","gone"] (qC C K):=by
 refine F.ok yB yq (fun cdv A outer s H vs Q E hr h=>?_)
 obtain ⟨x,y,rfl,A5,ns,gone,ms,rfl,hg,hn,nr,hnd,hm,q⟩:=h
 refine ⟨_,(zd (zJ (i:=2) yB.nd rfl (Or.inl rfl) (xg zb)) (zd (yW PassesOwn.never rfl (zS rfl B.range (za (zp yX ze (zz (pv 0) rfl)) zb)) (zk (i:=3) yB.nd rfl (Or.inl rfl)) (zd (zJ (i:=4) yB.nd rfl (Or.inl rfl) (ww (Room.u1F hr) (zz (pv 0) rfl) (zH (za (zz (pv 0) rfl) (za (pv 3) zb))) (fun _ _=>rfl))) (zi (ye (PW.pt (wN (qb (pv 4) (fun _=>rfl)) (xX (zE (rF (K:=K) rfl hr) (zH (za ze (za (pv 3) zb))) (pv 1) (by with_unfolding_all rfl))))) (zi (zG (wK PySem.F.plainAttrs_list PySem.F.slot_list_append PySem.F.type_list_append xh (pv 2) (za (wK PySem.F.plainAttrs_list PySem.F.slot_list_pop PySem.F.type_list_pop qg (pv 4) (za ze zb)) zb)))) zx)))) (zd (WK (Room.u1F hr) (zz (pv 0) rfl) (zz (pv 0) rfl) (pv 2) rfl) (zi (yW PassesOwn.never rfl (wX (pv 2)) (xP rfl (zo (zk (i:=5) yB.nd rfl (Or.inl rfl)) (zo (zk (i:=6) yB.nd rfl (Or.inl rfl)) (zo (zk (i:=7) yB.nd rfl (Or.inl rfl)) (zo (zk (i:=8) yB.nd rfl (Or.inl rfl)) yo))))) (zi (zG (zU mc_do_asks T.cl hr (pv 0) (za (pv 5) (za (pv 7) zb)))))))))),?_⟩
 have k4:=nr.k4
 have p16:=ue k4
 have ej:(1:Int) * 2 ^ ((ns.k:Int)).toNat=((2 ^ ns.k:Nat):Int):=qk
 refine ⟨szl rfl,fun lt hlt=>?_⟩
 have g0:=Grow.new (m:=[]) hlt (.lst [])
 have hlt0:=zc (H:=H) (a:=lt) (o:=.lst [])
 have hn0:=hn.grow0 g0
 have nq0:∀ a,okA ns a->A5 a ≠ lt:=fun a ha z=>by
  obtain ⟨o,h1,_⟩:=hn.at_ a ha
  rw [z,hlt] at h1; cases h1
 have hg0:=hg.grow g0
 generalize JQ H lt (.lst [])=H0 at g0 hlt0 hn0 hg0 ⊢
 refine xr ⟨_,rfl,_,C,_,_,_,rfl,hn0.ob.choose_spec,T.cl,T.n_depth,yc,_,_,rfl,rfl,wv k4,_,rfl,by rw [ej]; exact Int.le_trans (by decide) (Int.natCast_nonneg _),by rw [ej]; exact Int.lt_of_le_of_lt (Int.ofNat_le.mpr p16) (by decide),?_⟩
 rw [ej,Int.toNat_natCast]
 refine yN (fun i σ H'=>∃ e3 e4 tv,σ = [some (.ref (A5 .p)),some y,some (.ref lt),e3,e4,none,none,none,none] /\ Grow (lt :: ms) H0 H' /\ H' lt=some (.lst tv) /\ zT (jU K H') tv (zO gone ns i).1 /\ NetAt K C H' A5 { ns with lines:=(zO gone ns i).2 }) ⟨_,_,[],rfl,Grow.refl _ _,hlt0,trivial,hn0⟩ ?_ ?_
 ·rintro i σ H1 hi ⟨e3,e4,tv,rfl,g1,htv,hta,hn1⟩
  have F:=Vb (gone:=gone) (ns:=ns) (i:=i) (by omega)
  rw [ur]
  generalize zO gone ns i=st at hta hn1 F ⊢
  have tl:tv.length<=40:=by
   have h1:=F.ws xG
   have h2:=nr.tot
   have h3:=nr.a40
   have h4:=qA (g:=xG) (ws:=st.1) fun w hw=>by
    obtain ⟨j,hj,hw⟩:=F.tk w hw
    have:=(nr.lw ns.k j (Nat.le_refl _) hj w hw).ne
    cases e:w.nums with
    | nil=>exact absurd e this
    | cons a r=>show 1<=w.nums.length; rw [e]; exact Nat.succ_le_succ (Nat.zero_le _)
   have h5:=hta.len
   omega
  refine ⟨_,rfl,_,C,_,_,_,rfl,hn1.ob.choose_spec,T.cl,T.n_lines,vF,_,rfl,_,C,_,_,_,rfl,hn1.ob.choose_spec,T.cl,T.n_depth,yc,_,rfl,szl rfl,fun t ht=>?_⟩
  have gt:=Grow.new (m:=[]) ht (.tup [.int ns.k,.int (0+(i:Int))])
  have kt:JQ H1 t (.tup [.int ns.k,.int (0+(i:Int))]) t=some (.tup [.int ns.k,.int i]):=by rw [zc,Int.zero_add]
  have hn2:=hn1.grow0 gt
  have htv2:=gt.keep _ _ (by simp) htv
  have hta2:=hta.imp fun _ _ z=>z.grow gt
  have G2:Grow (lt :: ms) H0 (JQ H1 t (.tup [.int ns.k,.int (0+(i:Int))])):=g1.trans gt.wk
  refine ⟨_,_,rfl,(vC (A:=A5) (Nat.le_refl ns.k) hi) ▸ qp.t hn2.dl (xp kt),?_⟩
  generalize JQ H1 t _=H2 at gt kt hn2 htv2 hta2 G2 ⊢
  obtain ⟨ys,hys,hw⟩:=hn2.ln (l:=ns.k) (j:=i) (Nat.le_refl _) hi
  have hw:zT (jU K H2) ys (st.2 ns.k i):=hw
  refine xr ⟨_,rfl,_,.inl ⟨_,J1.of hys,rfl⟩,?_⟩
  cases hc:st.2 ns.k i with
  | nil =>
   rw [hc] at hw
   have e:ys=[]:=List.eq_nil_of_length_eq_zero (by rw [hw.len]; rfl)
   subst e
   refine yF rfl ?_
   rw [tS hc]
   exact yF rfl ⟨_,_,tv,rfl,G2,htv2,hta2,hn2⟩
  | cons w r =>
  rw [hc] at hw
  cases ys with
  | nil=>exact hw.elim
  | cons y0 yr =>
  obtain ⟨hw0,hyr⟩:=hw
  obtain ⟨rg,gs,rfl,hrg,hga,hgl⟩:=hg0.grow G2
  refine y7 rfl ⟨_,rfl,szl rfl,fun t2 ht2=>?_⟩
  have gt2:=Grow.new (m:=[]) ht2 (.tup [.int 0,.int (0+(i:Int))])
  have kt2:JQ H2 t2 (.tup [.int 0,.int (0+(i:Int))]) t2=some (.tup [.int ((0:Nat):Int),.int i]):=by rw [zc,Int.zero_add]; rfl
  have hn3:=hn2.grow0 gt2
  have htv3:=gt2.keep _ _ (by simp) htv2
  have hta3:=hta2.imp fun _ _ z=>z.grow gt2
  have hys3:=gt2.keep _ _ (by simp) hys
  have hw03:=hw0.grow gt2
  have hyr3:=hyr.imp fun _ _ z=>z.grow gt2
  have G3:=G2.trans (gt2.wk (m:=lt :: ms))
  refine ⟨_,rfl,t2,rg,gs,(0,i),gone,rfl,rfl,J3.of kt2,gt2.sqT hrg,hga.imp fun _ _ ⟨r,e,z⟩=>⟨r,e,gt2.sqT z⟩,_,rfl,?_⟩
  generalize JQ H2 t2 _=H3 at gt2 kt2 hn3 htv3 hta3 hys3 hw03 hyr3 G3 ⊢
  by_cases cg:(0,i) ∈ gone
  ·refine yF (by rw [decide_eq_true cg]; rfl) ?_
   rw [ut cg]
   exact ⟨_,_,tv,rfl,G3,htv3,hta3,hn3⟩
  refine y7 (by rw [decide_eq_false cg]; rfl) ⟨_,rfl,.inl ⟨rfl,_,J1.of htv3⟩,_,rfl,.inl ⟨rfl,_,J1.of hys3⟩,_,_,0,0,_,rfl,rfl,hys3,by decide,by decide,Sk,rfl,?_⟩
  have hn3':NetAt K C H3 A5 { ns with lines:=st.2 }:=hn3
  obtain ⟨hn4,g4⟩:=hn3'.setLn (l:=ns.k) (j:=i) (Nat.le_refl _) hi hyr3
  have nlt:lt ∉ [A5 (.ln ns.k i)]:=fun z=>nq0 (.ln ns.k i) ⟨Nat.le_refl _,hi⟩ (List.mem_singleton.mp z).symm
  have htv4:=g4.keep _ _ nlt htv3
  have hta4:=hta3.imp fun _ _ z=>z.grow g4
  have hw04:=hw03.grow g4
  have eer:(y0 :: yr).eraseIdx 0=yr:=rfl
  rw [eer]
  have G4:=G3.trans (g4.mono (m':=lt :: ms) fun b hb=>by rw [List.mem_singleton.mp hb]; exact List.mem_cons_of_mem _ (hm (.ln ns.k i) ⟨Nat.le_refl _,hi⟩))
  generalize JQ H3 (A5 (.ln ns.k i)) (.lst yr)=H4 at hn4 g4 htv4 hta4 hw04 G4 ⊢
  have g5:=Grow.set (m:=[lt]) htv4 (by simp) (tv ++ [y0])
  refine ⟨lt,tv,y0,rfl,rfl,htv4,zr (by omega),?_⟩
  rw [qH hc cg]
  refine ⟨_,_,tv ++ [y0],rfl,G4.trans (g5.mono (by simp)),zc,(hta4.app (.one hw04)).imp fun _ _ z=>z.grow g5,?_⟩
  exact hn4.grow g5 fun a ha=>by
   have:A5 a ≠ lt:=nq0 a (by cases a <;> exact ha)
   simpa using this
 rintro σ H1 ⟨e3,e4,tv,rfl,g1,htv,hta,hn1⟩
 have F:=Vb (gone:=gone) (ns:=ns) (i:=2 ^ ns.k) (Nat.le_refl _)
 obtain ⟨hn2,g2⟩:=hn1.setDone (ws:=(zO gone ns (2 ^ ns.k)).1) htv hta (fun a ha=>nq0 a (by cases a <;> exact ha))
 have enow:(ns.now:Int)=((ns.nd+1:Nat):Int):=by omega
 refine ⟨_,rfl,_,rfl,_,C,_,_,_,rfl,hn1.ob.choose_spec,T.cl,T.n_done_in,rD,_,rfl,_,C,_,_,_,rfl,hn1.ob.choose_spec,T.cl,T.n_now,jX,_,_,rfl,.inl ⟨_,.inl ((ns.nd+1:Nat):Int),hn1.dd,congrArg V.int enow,?_,rfl⟩,?_⟩
 ·unfold xC; rw [List.length_map,List.length_range]
  have h1:=nr.nd
  have h2:=nr.nw
  exact Je (show ns.nd<=1000000 by omega)
 have egot:({ ({ ns with lines:=(zO gone ns (2 ^ ns.k)).2 }:NS) with nd:=ns.nd+1,done:=rA ns.done (ns.nd+1) (zO gone ns (2 ^ ns.k)).1 }:NS)=Xy gone ns:=by unfold Xy; rw [hnd]
 have hn2:NetAt K C _ (Vc A5 ns.nd lt) (Xy gone ns):=egot ▸ hn2
 have htv2:=g2.keep _ _ (show lt ∉ [A5 .dd] from fun z=>nq0 .dd trivial (List.mem_singleton.mp z).symm) htv
 have hta2:=hta.imp fun _ _ z=>z.grow g2
 have G2:=g1.trans (g2.mono (m':=lt :: ms) fun b hb=>by rw [List.mem_singleton.mp hb]; exact List.mem_cons_of_mem _ (hm .dd trivial))
 refine QN ?_
 generalize JQ H1 (A5 .dd) (.dK (xz (xC A5 ns.nd) (.inl ((ns.nd+1:Nat):Int)) (.ref lt)))=H2 at hn2 g2 htv2 hta2 G2 ⊢
 have tlen:=hta2.len
 have ewp:(Vc A5 ns.nd lt) .p=A5 .p:=rfl
 have wtk:∀ w ∈ (zO gone ns (2 ^ ns.k)).1,WtOk ns.k ns.boxes.length ns.asks.length w:=fun w hw=>by
  obtain ⟨j,hj,hw⟩:=F.tk w hw
  exact nr.lw ns.k j (Nat.le_refl _) hj w hw
 have tot:ns.log.length+zR xG (zO gone ns (2 ^ ns.k)).1<=40:=by
  have h1:=F.ws xG
  have h2:=nr.tot
  have h3:=nr.a40
  omega
 refine ⟨_,rfl,lt,rfl,⟨_,J1.of htv2⟩,vj (xs:=tv) (fun j σ H'=>∃ e3 e4 e5 e6 e7 e8,σ = [some (.ref (A5 .p)),some y,some (.ref lt),e3,e4,e5,e6,e7,e8] /\ Grow [A5 .lb,A5 .df,A5 .lg] H2 H' /\ NetAt K C H' (Vc A5 ns.nd lt) (((zO gone ns (2 ^ ns.k)).1.take j).foldl doW (Xy gone ns))) ⟨_,_,_,_,_,_,rfl,Grow.refl _ _,hn2⟩ (fun j σ H' _ ⟨_,_,_,_,_,_,_,g,_⟩=>J1.of (g.keep _ _ (by
  have h1:=nq0 .lb trivial
  have h2:=nq0 .df trivial
  have h3:=nq0 .lg trivial
  simp only [List.mem_cons,List.not_mem_nil,or_false,not_or]
  exact ⟨h1.symm,h2.symm,h3.symm⟩) htv2)) ?_ ?_⟩
 rotate_left
 ·rintro σ H' ⟨e3,e4,e5,e6,e7,e8,rfl,g,hn'⟩
  rw [tlen,List.take_length] at hn'
  refine q _ _ ?_ ⟨fun a ha=>wa ha,by rw [vI]; exact hlt⟩ hn'
  have G:Grow (lt :: ms) H H':=(g0.wk (m:=lt :: ms)).trans (G2.trans (g.mono fun b hb=>by
   simp only [List.mem_cons,List.not_mem_nil,or_false] at hb
   rcases hb with rfl | rfl | rfl
   ·exact List.mem_cons_of_mem _ (hm .lb trivial)
   ·exact List.mem_cons_of_mem _ (hm .df trivial)
   ·exact List.mem_cons_of_mem _ (hm .lg trivial)))
  exact G.less fun b hb=>by
   rcases List.mem_cons.mp hb with rfl | hb
   ·exact .inr hlt
   ·exact .inl hb
 rintro j x σ H3 hx ⟨e3,e4,e5,e6,e7,e8,rfl,g3,hn3⟩
 obtain ⟨w5,hw5,r,rd,rn,rm,mv,rfl,w1,w2,w3,w4,w6⟩:=hta2.get hx
 rw [x9 hw5]
 have D:=doF (l:=(zO gone ns (2 ^ ns.k)).1.take j) (ns:=Xy gone ns)
 have wok:=wtk w5 (List.mem_of_getElem? hw5)
 have sumj:zR xG ((zO gone ns (2 ^ ns.k)).1.take j)+w5.nums.length<=zR xG (zO gone ns (2 ^ ns.k)).1:=by
  have e:(zO gone ns (2 ^ ns.k)).1=(zO gone ns (2 ^ ns.k)).1.take j ++ w5 :: (zO gone ns (2 ^ ns.k)).1.drop (j+1):=by
   obtain ⟨hj,e⟩:=List.getElem?_eq_some_iff.mp hw5
   rw [← e,← List.drop_eq_getElem_cons hj,List.take_append_drop]
  have:=congrArg (zR xG) e
  rw [wG,zL] at this
  have e2:xG w5=w5.nums.length:=rfl
  omega
 have hl:=vH (l:=(zO gone ns (2 ^ ns.k)).1.take j)
 generalize ((zO gone ns (2 ^ ns.k)).1.take j).foldl doW (Xy gone ns)=n3 at hn3 D ⊢
 have fl:=nr.fl
 refine ⟨r,_,rfl,g3.sqT w1,rfl,_,_,rfl,_,_,rfl,_,_,rfl,_,_,rfl,rfl,_,rfl,_,_,_,rfl,hn3.ob.choose_spec,Xz,_,rfl,_,rfl,_,_,_,rfl,Vc A5 ns.nd lt,n3,w5.box,w5.nums,rn,rfl,rfl,rfl,g3.sqT w3,hn3,?_,?_,?_,?_,fun H4 g4 hn4=>⟨_,_,_,_,_,_,rfl,g3.trans g4,hn4⟩⟩
 ·rw [D.bl]; exact wok.bx
 ·rw [D.asks]; exact wok.nm
 ·rw [D.log,List.length_append,hl]; show ns.log.length+_+_<=40; omega
 ·have:=D.fl
  have e:(Xy gone ns).fnd=ns.fnd:=rfl
  rw [e,hl] at this
  omega
theorem yj:FnScope ["self","stage","box","deed","numbers","met","switch"] ["self"] (zf (zj (top 45) 4)):=⟨rfl,rfl,rfl,by decide +kernel,rfl,by decide +kernel,by decide +kernel⟩
theorem qX (F:Fun K "forget" "Net.forget" (zj (top 45) 4) f fd) (B:Blt mg) {C:Addr} (T:NTxt K mg C) (mc_done_ago:zt P w K mg base C n "done_ago" ["self","many"] (qB C K))      :
  FnOk P w K mg base CX0 (n+1) f fd ["self"] (uk C K):=by
 refine F.ok yj yH (fun cdv A outer s H vs Q E hr h=>?_)
 obtain ⟨x,rfl,A5,ns,rfl,hn,nr,q⟩:=h
 refine ⟨_,(zi (yW PassesOwn.never rfl (uW rfl B.range (za ze (za (zp yd (zz (pv 0) rfl) ze) zb))) (zk (i:=1) yj.nd rfl (Or.inl rfl)) (zi (yW PassesOwn.never rfl (W6 (K:=K) rfl (zU mc_done_ago T.cl hr (pv 0) (za (zp yd (zp yx (zz (pv 0) rfl) (pv 1)) ze) zb))) (xP rfl (zo (zk (i:=2) yj.nd rfl (Or.inl rfl)) (zo (zk (i:=3) yj.nd rfl (Or.inl rfl)) (zo (zk (i:=4) yj.nd rfl (Or.inl rfl)) (zo (zk (i:=5) yj.nd rfl (Or.inl rfl)) yo))))) (zi (yW PassesOwn.never rfl (sT (pv 5)) (zk (i:=6) yj.nd rfl (Or.inl rfl)) (zi (ye (zE wn (yC xq (pv 6) ze (fun _ _=>rfl)) (pv 1) (zF _)) (zi (WL (Room.u1F hr) (zz (pv 0) rfl) (pv 6) ze ST (fun _ _ _=>rfl))) zx)))))))),?_⟩
 have k4:=nr.k4
 refine ⟨_,rfl,_,C,_,_,_,rfl,hn.ob.choose_spec,T.cl,T.n_depth,yc,_,_,rfl,rfl,_,_,rfl,⟨by decide,by decide,by omega,by omega⟩,yN (fun i σ H'=>∃ e1 e2 e3 e4 e5 e6,σ = [some (.ref (A5 .p)),e1,e2,e3,e4,e5,e6] /\ Grow [A5 .dk] H H' /\ NetAt K C H' A5 { ns with keep:=(List.range i).foldl (fun kp i=>fgS ns kp (i+1)) ns.keep }) ⟨_,_,_,_,_,_,rfl,Grow.refl _ _,hn⟩ ?_ ?_⟩
 rotate_left
 ·rintro σ H' ⟨e1,e2,e3,e4,e5,e6,rfl,g,hn'⟩
  have e:((ns.k:Int)+1 - 1).toNat=ns.k:=by omega
  rw [e] at hn'
  exact q _ g hn'
 rintro i σ H1 hi ⟨e1,e2,e3,e4,e5,e6,rfl,g1,hn1⟩
 rw [zQ]
 generalize (List.range i).foldl (fun kp i=>fgS ns kp (i+1)) ns.keep=kp at hn1 ⊢
 have ik:i < ns.k:=by omega
 refine ⟨_,rfl,_,_,_,rfl,hn1.ob.choose_spec,tR,_,rfl,_,C,_,_,_,rfl,hn1.ob.choose_spec,T.cl,T.n_depth,yc,_,rfl,_,_,rfl,rfl,_,_,rfl,rfl,_,_,rfl,A5,_,ns.k - (i+1)+1,rfl,congrArg V.int (by show (ns.k:Int) - (1+i)+1=_; omega),hn1,fun z H2 g2 hz=>?_⟩
 have hn2:=hn1.grow0 g2
 have g12:Grow [A5 .dk] H H2:=g1.trans (g2.mono (by simp))
 have eago:sB ({ ns with keep:=kp }:NS) (ns.k - (i+1)+1)=sB ns (ns.k - (i+1)+1):=rfl
 rw [eago] at hz
 have efg:fgS ns kp (i+1)=(sB ns (ns.k - (i+1)+1)).foldl (fgW (i+1)) kp:=rfl
 rw [efg]
 rcases hz with ⟨t,t1,t2,rfl,ews⟩ | ⟨a,rfl,sa,ews⟩
 rotate_left
 ·rw [ews]
  exact ⟨a,rfl,.inr ⟨⟨_,sa⟩,uX (xs:=[]) (fun j σ H'=>∃ e1 e2 e3 e4 e5 e6,σ = [some (.ref (A5 .p)),e1,e2,e3,e4,e5,e6] /\ H' = H2) ⟨_,_,_,_,_,_,rfl,rfl⟩ (fun j σ H' _ ⟨_,_,_,_,_,_,_,e⟩=>e ▸ sa) (fun j x σ H' hx=>by simp at hx) (fun σ H' ⟨e1,e2,e3,e4,e5,e6,e,eH⟩=>⟨e1,e2,e3,e4,e5,e6,e,eH ▸ g12,eH ▸ hn2⟩)⟩⟩
 rw [ews]
 have t2':t<=ns.nd:=t2
 obtain ⟨ys,hys,hw⟩:=hn2.dn (t:=t) t1 t2'
 have hw':zT (jU K H2) ys (ns.done t):=hw
 have nek:A5 (.dn t) ≠ A5 .dk:=nd5 hn2 (a:=.dn t) (b:=.dk) ⟨t1,t2'⟩ trivial (by simp)
 have kmem:A5 (.dn t) ∉ [A5 .dk]:=by simpa using nek
 refine ⟨_,rfl,.inl ⟨⟨_,J1.of hys⟩,vj (xs:=ys) (fun j σ H'=>∃ e2 e3 e4 e5 e6,σ = [some (.ref (A5 .p)),some (.int (1+(i:Int))),e2,e3,e4,e5,e6] /\ Grow [A5 .dk] H2 H' /\ NetAt K C H' A5 { ns with keep:=((ns.done t).take j).foldl (fgW (i+1)) kp }) ⟨_,_,_,_,_,rfl,Grow.refl _ _,hn2⟩ (fun j σ H' _ ⟨_,_,_,_,_,_,g,_⟩=>J1.of (g.keep _ _ kmem hys)) ?_ ?_⟩⟩
 rotate_left
 ·rintro σ H' ⟨e2,e3,e4,e5,e6,rfl,g,hn'⟩
  rw [hw'.len,List.take_length] at hn'
  exact ⟨_,_,_,_,_,_,rfl,g12.trans g,hn'⟩
 rintro j x σ H3 hx ⟨e2,e3,e4,e5,e6,rfl,g3,hn3⟩
 obtain ⟨w5,hw5,r,rd,rn,rm,mv,rfl,w1,w2,w3,w4,w6⟩:=hw'.get hx
 rw [x9 hw5]
 generalize ((ns.done t).take j).foldl (fgW (i+1)) kp=kp3 at hn3 ⊢
 have wok:=nr.dw t t1 t2' w5 (List.mem_of_getElem? hw5)
 refine ⟨r,_,rfl,g3.sqT w1,rfl,_,_,rfl,_,_,rfl,_,_,rfl,_,_,rfl,rfl,?_⟩
 have ml:=w6.len
 refine ⟨_,rfl,rm,rfl,⟨_,g3.sqT w4⟩,uX (xs:=mv) (fun p σ H'=>∃ e6,σ = [some (.ref (A5 .p)),some (.int (1+(i:Int))),some (.int w5.box),some (.ref rd),some (.ref rn),some (.ref rm),e6] /\ Grow [A5 .dk] H2 H' /\ NetAt K C H' A5 { ns with keep:=(w5.met.take p).foldl (fgM (i+1)) kp3 }) ⟨_,rfl,g3,hn3⟩ (fun p σ H' _ ⟨_,_,g,_⟩=>g.sqT w4) ?_ ?_⟩
 rotate_left
 ·rintro σ H' ⟨e6,rfl,g,hn'⟩
  rw [ml,List.take_length] at hn'
  exact ⟨_,_,_,_,_,rfl,g,hn'⟩
 rintro p x σ H4 hx ⟨e6,rfl,g4,hn4⟩
 obtain ⟨sw,hsw,rs,rfl,hs⟩:=w6.get hx
 rw [x9 hsw]
 generalize (w5.met.take p).foldl (fgM (i+1)) kp3=kp4 at hn4 ⊢
 have hs4:=g4.tup _ _ hs
 obtain ⟨m1,m2,m3⟩:=wok.mt sw (List.mem_of_getElem? hsw)
 refine ⟨_,rfl,rs,_,0,_,rfl,rfl,RK hs4,zP (j:=0) rfl,_,rfl,rfl,_,rfl,?_⟩
 by_cases c:sw.1=i+1
 rotate_left
 ·refine yF (decide_eq_false fun z=>c (by have:=V.int.inj z; omega)) ⟨_,rfl,g4,?_⟩
  rw [show fgM (i+1) kp4 sw=kp4 from if_neg c]; exact hn4
 refine y7 (decide_eq_true (congrArg V.int (by omega))) ⟨_,rfl,_,C,_,_,_,rfl,hn4.ob.choose_spec,T.cl,T.n_keeping,wH,_,rfl,_,_,rfl,(vD (kp:=kp4) m1 m2 m3) ▸ qp.t hn4.dk (xp hs4),_,_,rfl,rfl,_,T6.t hn4.dk (xp hs4) (zr (Nat.le_of_lt (YF k4))),?_⟩
 have ep:xz (yg ns.k kp4) (kI [(sw.1:Int),(sw.2:Int)]) (.int (kp4 sw.1 sw.2 - 1))=yg ns.k (yh kp4 sw.1 sw.2 (kp4 sw.1 sw.2 - 1)):=YE m1 m2 m3
 obtain ⟨hn5,g5⟩:=hn4.setK (yh kp4 sw.1 sw.2 (kp4 sw.1 sw.2 - 1))
 refine ⟨_,rfl,g4.trans ?_,?_⟩
 ·show Grow _ _ (JQ H4 (A5 .dk) (.dT (xz (yg ns.k kp4) (kI [(sw.1:Int),(sw.2:Int)]) (.int (kp4 sw.1 sw.2 - 1)))))
  rw [ep]; exact g5
 ·show NetAt K C (JQ H4 (A5 .dk) (.dT (xz (yg ns.k kp4) (kI [(sw.1:Int),(sw.2:Int)]) (.int (kp4 sw.1 sw.2 - 1))))) A5 _
  rw [ep,show fgM (i+1) kp4 sw=yh kp4 sw.1 sw.2 (kp4 sw.1 sw.2 - 1) from if_pos c]; exact hn5
theorem ve:FnScope ["self","lost","gone","stage"] ["self","lost"] (zf (zj (top 45) 2)):=⟨rfl,rfl,rfl,by decide +kernel,rfl,by decide +kernel,by decide +kernel⟩
theorem sx (F:FunD K "beat" "Net.beat" (zj (top 45) 2) f fd) (B:Blt mg) {C:Addr} (T:NTxt K mg C) (mc_tell:zt P w K mg base C n "tell" ["self"] (qF C K)) (mc_pass_on:zt P w K mg base C n "pass_on" ["self","stage","gone"] (qE C K)) (mc_take:zt P w K mg base C n "take" ["self","gone"] (qC C K)) (mc_forget:zt P w K mg base C n "forget" ["self"] (uk C K)) (qc0:zm P w K mg base n "need_lost" ["k","thing"] (j0 K))     :
  FnOk P w K mg base CX0 (n+1) f fd ["self","lost"] (xJ C K):=by
 refine F.ok ve yq (fun cdv A outer s H vs Q E hr h=>?_)
 obtain ⟨x,y,rfl,A5,ns,gone,ms,rfl,hg,hok,hn,nr,hnd,nw,nt,hm,q⟩:=h
 refine ⟨_,(zd (zJ (i:=2) ve.nd rfl (Or.inl rfl) (rZ (uC (sR (pv 1))) (zH zb) (pv 1))) (zd (zG (zh qc0 hr rfl (za (zz (pv 0) rfl) (za (pv 2) zb)))) (zd (Wb (pv 0) ze UO) (zd (zG (yQ mc_forget T.cl hr (pv 0))) (zd (zG (zU mc_take T.cl hr (pv 0) (za (pv 2) zb))) (zd (yW PassesOwn.never rfl (WG rfl B.range (za (zz (pv 0) rfl) (za ze (za (X2 jj ze) zb)))) (zk (i:=3) ve.nd rfl (Or.inl rfl)) (zi (zG (zU mc_pass_on T.cl hr (pv 0) (za (pv 3) (za (pv 2) zb)))))) (zi (zv (yQ mc_tell T.cl hr (pv 0)))))))))),?_⟩
 have k4:=nr.k4
 refine uM (fun z H1=>Grow [] H H1 /\ yY K H1 z gone) (fun R hR=>?_) fun z H1 ⟨g1,hg1⟩=>?_
 ·rcases hg with ⟨rfl,rfl⟩ | hg
  ·refine ⟨_,rfl,_,rfl,vn ⟨szl rfl,fun t ht=>hR _ _ ⟨Grow.new ht _,t,[],rfl,J3.of zc,trivial,by decide⟩⟩⟩
  ·obtain ⟨r,ys,rfl,hg'⟩:=hg
   exact ⟨_,rfl,_,rfl,xw ⟨_,rfl,hR _ _ ⟨Grow.refl _ _,r,ys,rfl,hg'⟩⟩⟩
 have hn1:=hn.grow0 g1
 refine ⟨_,rfl,_,C,_,_,_,rfl,hn1.ob.choose_spec,T.cl,T.n_depth,yc,_,rfl,_,_,rfl,ns.k,gone,rfl,hg1,k4,hok,fun H2 g2=>?_⟩
 have hn2:=hn1.grow0 g2
 have hg2:=hg1.grow g2
 obtain ⟨dx,ho⟩:=hn2.ob
 obtain ⟨hn3,g3⟩:=hn2.setNow ho (ns.now+1)
 refine ⟨_,rfl,_,C,dx,_,_,rfl,ho,T.cl,T.n_now,jX,_,_,rfl,rfl,dx,_,ho,by show (12:Nat) < 1000; decide,?_⟩
 have G3:Grow ms H _:=(g1.trans g2).wk.trans (g3.mono (m':=ms) fun b hb=>by rw [List.mem_singleton.mp hb]; exact hm .p trivial)
 have hg3:=hg2.grow g3
 have et:(fun i j:Int=>i+j) (ns.now:Int) 1=((ns.now+1:Nat):Int):=rfl
 have hn3:NetAt K C _ A5 (zy ns):=hn3
 rw [et]
 generalize JQ H2 (A5 .p) _=H3 at hn3 g3 G3 hg3 ⊢
 have nr3:=nr.tick nw
 refine ⟨_,rfl,_,_,_,rfl,hn3.ob.choose_spec,W3,_,rfl,A5,zy ns,rfl,hn3,nr3,fun H4 g4 hn4=>?_⟩
 have nr4:=nr3.forget
 have G4:Grow ms H H4:=G3.trans (g4.mono (m':=ms) fun b hb=>by rw [List.mem_singleton.mp hb]; exact hm .dk trivial)
 have hg4:=hg3.grow g4
 have hnd4:(zn (zy ns)).nd+1=(zn (zy ns)).now:=by show ns.nd+1=ns.now+1; omega
 refine ⟨_,rfl,_,_,_,rfl,hn4.ob.choose_spec,Sf,_,rfl,_,_,rfl,A5,zn (zy ns),gone,ms,rfl,hg4,hn4,nr4,hnd4,fun a ha=>hm a (by cases a <;> exact ha),fun A' H5 g5 ex hn5=>?_⟩
 have nr5:=nr4.take (gone:=gone) hnd4
 have TD:=XI gone (zn (zy ns))
 have eA:A' .p=A5 .p:=ex.1 .p trivial
 have G5:=G4.trans g5
 have hg5:=hg4.grow g5
 have ek5:(yf gone (zn (zy ns))).k=ns.k:=TD.k
 have nq5:∀ a,okA (yf gone (zn (zy ns))) a->A' a ∈ A' (.dn (ns.nd+1)) :: ms:=fun a ha=>by
  by_cases c:a = .dn (ns.nd+1)
  ·rw [c]; exact List.mem_cons_self ..
  ·have ho:okA ns a:=by
    cases a with
    | ln l j=>exact ⟨by rw [← ek5]; exact ha.1,by rw [← ek5]; exact ha.2⟩
    | dn t =>
     have h2:t<=(yf gone (zn (zy ns))).nd:=ha.2
     rw [TD.nd] at h2
     have h2:t<=ns.nd+1:=h2
     refine ⟨ha.1,?_⟩
     have:t ≠ ns.nd+1:=fun e=>c (by rw [e])
     omega
    | _=>trivial
   rw [ex.1 a (by cases a <;> exact ho)]
   exact List.mem_cons_of_mem _ (hm a ho)
 have hdn:H (A' (.dn (ns.nd+1)))=none:=by
  have z4:H4 (A' (.dn (ns.nd+1)))=none:=ex.2
  have z3:H3 (A' (.dn (ns.nd+1)))=none:=g4.free (fun z=>by rw [List.mem_singleton.mp z,hn4.dk] at z4; cases z4) z4
  have z2:H2 (A' (.dn (ns.nd+1)))=none:=g3.free (fun z=>by
   obtain ⟨dx,ho⟩:=hn3.ob
   rw [List.mem_singleton.mp z,ho] at z3; cases z3) z3
  exact (g1.trans g2).free (by simp) z2
 have exA:SH H A5 A' ns:=⟨fun a ha=>ex.1 a (by cases a <;> exact ha),hdn⟩
 rw [← eA]
 have egone:zK gone ns=passA gone (yf gone (zn (zy ns))) ns.k:=rfl
 have ebeat:beatS gone ns=WY (zK gone ns):=rfl
 rw [ebeat] at q
 rw [egone] at q nt
 clear egone ebeat TD
 generalize yf gone (zn (zy ns))=n5 at *
 have e0:((n5.k:Int) - 0).toNat=n5.k:=by omega
 refine ⟨_,rfl,_,C,_,_,_,rfl,hn5.ob.choose_spec,T.cl,T.n_depth,yc,_,rfl,_,_,rfl,by omega,by omega,by omega,by omega,Xk (fun i σ H'=>∃ e3,σ = [some (.ref (A' .p)),some y,some z,e3] /\ Grow (A' (.dn (ns.nd+1)) :: ms) H5 H' /\ NetAt K C H' A' (passA gone n5 i)) ⟨_,rfl,Grow.refl _ _,hn5⟩ ?_ ?_⟩
 ·rintro i σ H6 hi ⟨e3,rfl,g6,hn6⟩
  rw [e0] at hi
  have sm:=xv gone n5 i
  have nr6:=nr5.passA (gone:=gone) (i:=i) (by omega)
  rw [rL]
  generalize passA gone n5 i=n6 at hn6 sm nr6 ⊢
  have ek6:=sm.k
  exact ⟨_,rfl,_,_,_,rfl,hn6.ob.choose_spec,XA,_,rfl,_,rfl,_,_,_,rfl,A',n6,n6.k - i,gone,A' (.dn (ns.nd+1)) :: ms,rfl,congrArg V.int (by omega),hg5.grow g6,by omega,by omega,hn6,nr6,fun a ha=>nq5 a (YO sm ha),fun H7 g7 hn7=>⟨_,rfl,g6.trans g7,hn7⟩⟩
 rintro σ H6 ⟨e3,rfl,g6,hn6⟩
 rw [e0,ek5] at hn6
 have sm:=xv gone n5 ns.k
 have nr6:=nr5.passA (gone:=gone) (i:=ns.k) (by omega)
 refine ⟨_,rfl,_,_,_,rfl,hn6.ob.choose_spec,Sg,_,rfl,A',passA gone n5 ns.k,A' (.dn (ns.nd+1)) :: ms,rfl,hn6,nr6,nt,fun a ha=>nq5 a (YO sm ha),fun u l H7 g7 hn7 tel pm pw=>?_⟩
 have G7:Grow (A' (.dn (ns.nd+1)) :: ms) H H7:=(G5.mono (m':=A' (.dn (ns.nd+1)) :: ms) fun b hb=>List.mem_cons_of_mem _ hb).trans (g6.trans g7)
 exact q A' u l H7 (G7.less fun b hb=>by
  rcases List.mem_cons.mp hb with rfl | hb
  ·exact .inr hdn
  ·exact .inl hb) exA hn7 tel pm pw
theorem xb:FnScope ["_law_net","_law_k","_law_deeds","_law_asks","_law_word","_law_thing"] ["_law_net","_law_k","_law_deeds","_law_asks"] (zf (top 58)):=⟨rfl,rfl,rfl,by decide +kernel,rfl,by decide +kernel,by decide +kernel⟩
theorem uA (F:Fun K "_law_once_more" "_law_once_more" (top 58) f fd) (B:Blt mg) {C:Addr} (T:NTxt K mg C) (mc_put:zt P w K mg base C n "put" ["self","ask"] (tV C K)) (mc_beat:zt P w K mg base C n "beat" ["self","lost"] (xJ C K)) (qc0:zm P w K mg base n "_law_shown" ["_law_net","_law_k","_law_asks"] (uy C K))     :
  FnOk P w K mg base CX0 (n+1) f fd ["_law_net","_law_k","_law_deeds","_law_asks"] (j9 C K):=by
 refine F.ok xb ud (fun cdv A outer s H vs Q E hr h=>?_)
 obtain ⟨x,y,z,u,rfl,A5,k,many,n0,ld,xs,h5,rfl,rfl,rfl,rfl,hld,hops,hn,N0,ok,p40,l1,nld,q⟩:=h
 refine ⟨_,(zd (yW PassesOwn.never rfl (wX (pv 2)) (xP rfl (zo (zk (i:=4) xb.nd rfl (Or.inl rfl)) (zo (zk (i:=5) xb.nd rfl (Or.inl rfl)) yo))) (zi (ye (zE wn (pv 4) XZ (zF _)) (zi (zG (zU mc_put T.cl hr (pv 0) (za (pv 5) zb)))) (zi (zG (zU mc_beat T.cl hr (pv 0) (za (pv 5) zb))))))) (zi (zv (zq (ym hr) rfl B.repr wP (za (zh qc0 hr rfl (za (pv 0) (za (pv 1) (za (pv 3) zb)))) zb))))),?_⟩
 have ol:=hops.len
 have RT:=VA N0 ok p40 (by omega)
 refine ⟨_,rfl,ld,rfl,⟨_,J1.of hld⟩,vj (xs:=xs) (fun i σ' H'=>∃ e4 e5 A',σ' = [some (.ref (A5 .p)),some (.int k),some (.ref ld),some (.int (yJ h5:Nat)),e4,e5] /\ A' .p=A5 .p /\ Grow (msA A5 n0) H H' /\ NetAt K C H' A' (uz n0 (h5.take i)) /\ ∀ x ∈ msA A' (uz n0 (h5.take i)),x ∈ msA A5 n0 \/ H x=none) ⟨_,_,A5,rfl,rfl,Grow.refl _ _,hn,fun x hx=>.inl hx⟩ (fun i σ H' _ ⟨_,_,_,_,_,g,_⟩=>J1.of (g.keep _ _ nld hld)) ?_ ?_⟩
 rotate_left
 ·rintro σ H1 ⟨e4,e5,A',rfl,ep,g1,hn1,hm1⟩
  rw [ol,List.take_length] at hn1
  have R:=RT h5.length
  rw [List.take_length] at R
  refine ⟨_,rfl,_,rfl,_,rfl,_,_,_,rfl,A',_,congrArg V.ref ep.symm,congrArg V.int (by rw [R.ek]),congrArg V.int (by rw [R.al]),hn1,R.nx,fun u H2 g2 hu=>?_⟩
  exact TY hu.dat (qS (by decide) R.nx R.nb) (by decide) (by decide) (q _ (g1.trans g2.wk))
 rintro i x σ H1 hx ⟨e4,e5,A',rfl,ep,g1,hn1,hm1⟩
 obtain ⟨o5,ho5,hat⟩:=hops.get hx
 obtain ⟨hi,e⟩:=List.getElem?_eq_some_iff.mp ho5
 have R:=RT i
 have ok5:=ok o5 (List.mem_of_getElem? ho5)
 have etk:uz n0 (h5.take (i+1))=op7 (uz n0 (h5.take i)) o5:=by rw [List.take_succ_eq_append_getElem hi,e,vQ]
 have p5:yJ (h5.take i)+Qb o5<=40:=by
  have:=rV (h:=h5) (i:=i+1)
  rw [List.take_succ_eq_append_getElem hi,e,xU] at this
  omega
 have epv:=congrArg V.ref ep
 have now5:=R.now
 cases o5 with
 | put a =>
  obtain ⟨r,y,rfl,h1,h2⟩:=hat
  refine ⟨r,_,rfl,g1.sqT h1,rfl,_,_,rfl,_,_,rfl,rfl,?_⟩
  refine ⟨_,rfl,rfl,_,rfl,y7 (decide_eq_true rfl) ⟨_,rfl,_,_,_,epv.symm,hn1.ob.choose_spec,YI,_,rfl,_,_,rfl,A',_,a,msA A' (uz n0 (h5.take i)),epv.symm,g1.ask h2,hn1,R.nx.nw.nr,by rw [R.bl]; exact ok5.1,by rw [R.ek]; exact ok5.2.1,by rw [R.al]; have:Qb (.put a)=1:=rfl; omega,fun _ z=>yI z,fun H2 g2 hn2=>?_⟩⟩
  exact ⟨_,_,A',rfl,ep,XL g1 g2 hm1,by rw [etk]; exact hn2,by rw [etk]; exact hm1⟩
 | beat gg =>
  obtain ⟨r,y,rfl,h1,h2⟩:=hat
  refine ⟨r,_,rfl,g1.sqT h1,rfl,_,_,rfl,_,_,rfl,rfl,?_⟩
  refine ⟨_,rfl,rfl,_,rfl,yF (by decide) ⟨_,rfl,_,_,_,epv.symm,hn1.ob.choose_spec,tQ,_,rfl,_,_,rfl,A',_,gg,msA A' (uz n0 (h5.take i)),epv.symm,.inr (h2.grow g1),by rw [R.ek]; exact ok5,hn1,R.nx.nw.nr,R.nx.nw.nd,by omega,(R.nx.nw.beat (by omega) gg).1,fun _ z=>yI z,fun A2 u tl H2 g2 ex hn2 _ _ _=>?_⟩⟩
  refine ⟨_,_,A2,rfl,(ex.1 .p trivial).trans ep,XL g1 g2 hm1,by rw [etk]; exact hn2,?_⟩
  rw [etk]
  intro x hx2
  rcases uU (gone:=gg) R.nx.nw (by omega) ex x hx2 with z | z
  ·exact hm1 x z
  ·by_cases c:x ∈ msA A5 n0
   ·exact .inl c
   ·exact .inr (g1.free c z)
theorem Zp:FnScope ["_law_net","_law_lost_here","_law_plain"] ["_law_net","_law_lost_here","_law_plain"] (zf (top 56)):=⟨rfl,rfl,rfl,by decide +kernel,rfl,by decide +kernel,by decide +kernel⟩
theorem Zq (F:Fun K "_law_beat" "_law_beat" (top 56) f fd) (B:Blt mg) {C:Addr} (T:NTxt K mg C) (mc_beat:zt P w K mg base C n "beat" ["self","lost"] (xJ C K)) (md_beat:wI P w K mg base C n "beat" ["self","lost"] [.none] (xJ C K))      :
  FnOk P w K mg base CX0 (n+1) f fd ["_law_net","_law_lost_here","_law_plain"] (j6 C K):=by
 refine F.ok Zp yP (fun cdv A outer s H vs Q E hr h=>?_)
 obtain ⟨x,y,z,rfl,A5,ns,gone,pl,ms,rfl,hg,rfl,gok,hn,nw,now,hm,q⟩:=h
 refine ⟨_,(zd (ye (PW.pt (wN (zE (rN (K:=K) rfl hr) (pv 1) (zH zb) (zF _)) (xX (zE wn (pv 2) ze (zF _))))) (zi (zv (Vr md_beat T.cl hr (pv 0)))) zx) (zd (ye (PW.pt (wN (zE (rN (K:=K) rfl hr) (pv 1) (zH zb) (zF _)) (xX (zE wn (pv 2) ze (zF _))))) (zi (zv (zU mc_beat T.cl hr (pv 0) (za jf zb)))) zx) (zi (zv (zU mc_beat T.cl hr (pv 0) (za (pv 1) zb)))))),?_⟩
 obtain ⟨rg,ys,rfl,hrg,hga,hgl⟩:=hg
 have nt:=(nw.beat (show ns.now < 10000 by omega) gone).1
 have fin:∀ (y:V) (g':List (Nat × Nat)) H0 (EE:XK),g' = gone->Grow [] H H0->Tb K H0 y g' -> xJ C K [.ref (A5 .p),y] H0 Q EE:=fun y g' H0 EE e g0 hl=>by
  subst e
  exact ⟨_,_,rfl,A5,ns,g',ms,rfl,hl,gok,hn.grow0 g0,nw.nr,nw.nd,by omega,nt,hm,fun A' z l H' g ex hn' ht pm pw=>q A' z l H' ((g0.wk (m:=ms)).trans g) ⟨ex.1,g0.free (by simp) ex.2⟩ hn' (Vy ht) pm pw⟩
 have e0:ys=[]->[]=gone:=fun e=>by
  subst e
  cases gone with
  | nil=>rfl
  | cons a b=>exact hga.elim
 refine rj (fun b H'=>Grow [] H H' /\ (b=true->ys=[])) (fun Kk hk=>⟨_,rfl,szl rfl,fun t1 ht1=>⟨rg,t1,ys,rfl,rfl,(Grow.new (m:=[]) ht1 _).sqT hrg,J3.of zc,_,rfl,?_⟩⟩) ?_
 ·by_cases ce:ys.isEmpty=true
  ·exact y7 ce ⟨_,rfl,rfl,_,rfl,hk _ _ ⟨Grow.new ht1 _,fun _=>List.isEmpty_iff.mp ce⟩⟩
  ·exact yF (by simpa using ce) (hk _ _ ⟨Grow.new ht1 _,nofun⟩)
 rintro b H1 ⟨g1,hb⟩
 have hn1:=hn.grow0 g1
 cases b with
 | true=>exact vn ⟨_,rfl,_,_,_,rfl,hn1.ob.choose_spec,tQ,fin _ _ _ E0 (e0 (hb rfl)) g1 (.inl ⟨rfl,rfl⟩)⟩
 | false =>
 refine xw (wT ?_)
 refine rj (fun b H'=>Grow [] H H' /\ (b=true->ys=[])) (fun Kk hk=>⟨_,rfl,szl rfl,fun t1 ht1=>⟨rg,t1,ys,rfl,rfl,(Grow.new (m:=[]) ht1 _).sqT (g1.sqT hrg),J3.of zc,_,rfl,?_⟩⟩) ?_
 ·by_cases ce:ys.isEmpty=true
  ·exact y7 ce ⟨_,rfl,rfl,_,rfl,hk _ _ ⟨g1.trans (Grow.new ht1 _),fun _=>List.isEmpty_iff.mp ce⟩⟩
  ·exact yF (by simpa using ce) (hk _ _ ⟨g1.trans (Grow.new ht1 _),nofun⟩)
 rintro b H2 ⟨g2,hb2⟩
 have hn2:=hn.grow0 g2
 cases b with
 | true=>exact vn ⟨_,rfl,_,_,_,rfl,hn2.ob.choose_spec,tQ,fin _ _ _ E0 (e0 (hb2 rfl)) g2 (.inl ⟨rfl,rfl⟩)⟩
 | false =>
 refine xw (wT ?_)
 exact ⟨_,rfl,_,_,_,rfl,hn2.ob.choose_spec,tQ,_,rfl,fin _ _ _ E0 rfl g2 (.inr ⟨rg,ys,rfl,g2.sqT hrg,hga.imp fun _ _ ⟨r,e,z⟩=>⟨r,e,g2.sqT z⟩,hgl⟩)⟩
theorem uJ:FnScope ["_law_pot_here","_law_many","_law_digit"] ["_law_pot_here","_law_many"] (zf (top 48)):=⟨rfl,rfl,rfl,by decide +kernel,rfl,by decide +kernel,by decide +kernel⟩
theorem Zr (F:Fun K "_law_take" "_law_take" (top 48) f fd) (B:Blt mg)      :
  FnOk P w K mg base CX0 (n+1) f fd ["_law_pot_here","_law_many"] (wu K):=by
 refine F.ok uJ yq (fun cdv A outer s H vs Q E hr h=>?_)
 obtain ⟨x,y,rfl,a,m,rfl,rfl,⟨p0,p1,hp,h0⟩,hm,hm2,q⟩:=h
 refine ⟨_,(zd (ye (zE VV (yC yp (pv 0) ze (fun _ _=>rfl)) ze (zF _)) (zd (we (zq jv rfl B.divmod V3 (za (yC yp (pv 0) ze (fun _ _=>rfl)) (za (pv 1) zb))) (xP rfl (zo (Yh (pv 0) ze uP) (zo (zk (i:=2) uJ.nd rfl (Or.inl rfl)) yo)))) (zi (zv (pv 2)))) zx) (zd (we (zp jh (zp yd (zp xZ (yC yp (pv 0) ze (fun _ _=>rfl)) ze) ze) ze) (Yh (pv 0) ze uP)) (zi (zv (zp jh (zp qh (zp jh (zp xZ (yC yp (pv 0) ze (fun _ _=>rfl)) (yC yp (pv 0) ze (fun _ _=>rfl))) ze) ze) (pv 1)))))),?_⟩
 refine ⟨_,rfl,a,_,_,_,rfl,rfl,J1.of hp,rfl,_,_,rfl,rfl,_,rfl,?_⟩
 refine VN (fun c=>?_) (fun c=>?_)
 ·refine ⟨_,rfl,a,_,_,_,rfl,rfl,J1.of hp,rfl,_,rfl,p0,m,rfl,⟨hm,hm2⟩,fun t ht=>?_⟩
  have hp':JQ H t (.tup [.int (p0 / m),.int (p0 % m)]) a=some (.lst [.int p0,.int p1]):=by rw [zu (zA hp ht)]; exact hp
  refine ⟨t,_,rfl,J3.of zc,rfl,_,_,rfl,_,rfl,a,_,0,0,rfl,rfl,hp',rfl,_,_,rfl,rfl,?_⟩
  exact ⟨_,rfl,q _ _ (Int.emod_nonneg _ (by omega)) (Int.emod_lt_of_pos _ hm) ((Grow.new ht _).trans (Grow.set hp' (by simp) _)) ⟨p0 / m,p1,zc,Int.ediv_nonneg h0 (by omega)⟩⟩
 ·refine ⟨_,rfl,a,_,_,_,rfl,rfl,J1.of hp,rfl,p1,39373,rfl,rfl,re ⟨by decide,by decide⟩,_,_,rfl,rfl,_,_,rfl,rfl,(by show (0:Int) < 2147483629; decide),_,rfl,a,_,1,1,rfl,rfl,hp,rfl,?_⟩
  have b0:0<=(p1 * 39373+7919) % 2147483629:=Int.emod_nonneg _ (by decide)
  have b1:(p1 * 39373+7919) % 2147483629 < 2147483629:=Int.emod_lt_of_pos _ (by decide)
  refine ⟨_,rfl,a,_,_,_,rfl,rfl,J1.of zc,rfl,_,rfl,a,_,_,_,rfl,rfl,J1.of zc,rfl,(p1 * 39373+7919) % 2147483629,(p1 * 39373+7919) % 2147483629,rfl,rfl,re ⟨by omega,by omega⟩,_,_,rfl,rfl,(by show (0:Int) < 2147483563; decide),_,_,rfl,rfl,⟨by decide,by decide⟩,_,rfl,_,_,rfl,rfl,hm,?_⟩
  exact q _ _ (Int.emod_nonneg _ (by omega)) (Int.emod_lt_of_pos _ hm) (Grow.set hp (by simp) _) ⟨p0,(p1 * 39373+7919) % 2147483629,zc,h0⟩
theorem wd:FnScope ["_law_pot_here","_law_things","_law_found","_law_thing"] ["_law_pot_here","_law_things"] (zf (top 55)):=⟨rfl,rfl,rfl,by decide +kernel,rfl,by decide +kernel,by decide +kernel⟩
theorem qY (F:Fun K "_law_mixed" "_law_mixed" (top 55) f fd) (B:Blt mg) (qc0:zm P w K mg base n "_law_take" ["_law_pot_here","_law_many"] (wu K))     :
  FnOk P w K mg base CX0 (n+1) f fd ["_law_pot_here","_law_things"] (rS K):=by
 refine F.ok wd yq (fun cdv A outer s H vs Q E hr h=>?_)
 obtain ⟨x,y,rfl,p,gone,rfl,pp,hg,gl,q⟩:=h
 refine ⟨_,(zd (zJ (i:=2) wd.nd rfl (Or.inl rfl) (xg zb)) (zd (yW PassesOwn.never rfl (sT (pv 1)) (zk (i:=3) wd.nd rfl (Or.inl rfl)) (zi (zG (wK PySem.F.plainAttrs_list PySem.F.slot_list_insert PySem.F.type_list_insert WI (pv 2) (za (zh qc0 hr rfl (za (pv 0) (za (zp yd (zq zD rfl B.len wY (za (pv 2) zb)) ze) zb))) (za (pv 3) zb)))))) (zi (zv (zZ z8 rfl B.tuple yZ (za (pv 2) zb)))))),?_⟩
 obtain ⟨rg,ys,rfl,hrg,hga,hgl⟩:=hg
 have yl:=hga.len
 refine ⟨szl rfl,fun lt hlt=>xr ?_⟩
 have g0:=Grow.new (m:=[]) hlt (.lst [])
 have hlt0:=zc (H:=H) (a:=lt) (o:=.lst [])
 have pp0:=pp.grow g0
 have nlp:lt ≠ p:=fun e=>by
  obtain ⟨p0,p1,z,_⟩:=pp
  rw [← e,hlt] at z; cases z
 generalize JQ H lt (.lst [])=H0 at g0 hlt0 pp0 ⊢
 refine ⟨_,rfl,rg,rfl,⟨_,g0.sqT hrg⟩,uX (xs:=ys) (fun i σ' H'=>∃ e3 vs gs,σ' = [some (.ref p),some (.ref rg),some (.ref lt),e3] /\ Grow [lt,p] H0 H' /\ Pot H' p /\ H' lt=some (.lst vs) /\ zT (uO K H') vs gs /\ gs.Perm (gone.take i)) ⟨_,[],[],rfl,Grow.refl _ _,pp0,hlt0,trivial,by rw [List.take_zero]⟩ (fun i σ H' _ ⟨_,_,_,_,g,_⟩=>g.sqT (g0.sqT hrg)) ?_ ?_⟩
 rotate_left
 ·rintro σ H1 ⟨e3,vs,gs,rfl,g1,pp1,hv,hr5,pm⟩
  rw [yl,List.take_length] at pm
  refine ⟨_,rfl,lt,vs,rfl,.inl ⟨J1.of hv,fun t ht=>?_⟩⟩
  have gt:=Grow.new (m:=[]) ht (.tup vs)
  refine q gs _ _ (fun q=>pm.mem_iff) ?_ (pp1.grow gt) ⟨t,vs,rfl,J3.of zc,hr5.imp fun _ _ ⟨r,e,z⟩=>⟨r,e,gt.sqT z⟩,by have:=hr5.len; have:=pm.length_eq; omega⟩
  exact ((g0.wk (m:=[lt,p])).trans (g1.trans gt.wk)).less fun b hb=>by
   simp only [List.mem_cons,List.not_mem_nil,or_false] at hb
   rcases hb with rfl | rfl
   ·exact .inr hlt
   ·exact .inl (by simp)
 rintro i x σ H1 hx ⟨e3,vs,gs,rfl,g1,pp1,hv,hr5,pm⟩
 obtain ⟨q5,hq5,r2,rfl,hr2⟩:=hga.get hx
 have il:=(List.getElem?_eq_some_iff.mp hx).1
 have vl:=hr5.len
 have gl2:=pm.length_eq
 rw [List.length_take] at gl2
 refine ⟨_,rfl,.inl ⟨rfl,_,J1.of hv⟩,_,rfl,_,rfl,lt,vs,rfl,.inl (J1.of hv),_,_,rfl,rfl,_,_,rfl,p,_,rfl,rfl,pp1,by omega,by omega,fun n5 H2 n0 n1 g2 pp2=>?_⟩
 obtain ⟨j5,rfl⟩:∃ j:Nat,n5=j:=⟨n5.toNat,by omega⟩
 have hv2:=g2.keep _ _ (by simpa using nlp) hv
 refine ⟨_,rfl,lt,vs,j5,_,rfl,rfl,hv2,by omega,zr (by omega),?_⟩
 have g3:=Grow.set (m:=[lt]) hv2 (by simp) (vs.take j5 ++ [V.ref r2] ++ vs.drop j5)
 have G3:Grow [lt,p] H1 _:=(g2.mono (m':=[lt,p]) (by simp)).trans (g3.mono (m':=[lt,p]) (by simp))
 have plt:p ∉ [lt]:=by simpa using nlp.symm
 refine ⟨_,_,gs.take j5 ++ [q5] ++ gs.drop j5,rfl,g1.trans G3,?_,zc,?_,?_⟩
 ·obtain ⟨p0,p1,z,z0⟩:=pp2
  exact ⟨p0,p1,g3.keep _ _ plt z,z0⟩
 ·have h3:=hr5.imp fun _ _ (⟨r,e,z⟩:uO K H1 _ _)=>(⟨r,e,G3.sqT z⟩:uO K _ _ _)
  exact ((h3.take).app (.one ⟨r2,rfl,G3.sqT (g1.sqT (g0.sqT hr2))⟩)).app h3.drop
 ·obtain ⟨hi,e⟩:=List.getElem?_eq_some_iff.mp hq5
  rw [List.take_succ_eq_append_getElem hi,e]
  refine List.Perm.trans ?_ (pm.append_right [q5])
  have e2:gs ++ [q5]=gs.take j5 ++ (gs.drop j5 ++ [q5]):=by rw [← List.append_assoc,List.take_append_drop]
  rw [e2,List.append_assoc]
  exact (List.perm_append_comm (l₁:=[q5]) (l₂:=gs.drop j5)).append_left _
theorem xm:FnScope ["_law_pot_here","_law_k","_law_found","_law_turn","_law_stage","_law_number_here"] ["_law_pot_here","_law_k"] (zf (top 52)):=⟨rfl,rfl,rfl,by decide +kernel,rfl,by decide +kernel,by decide +kernel⟩
theorem Zs (F:Fun K "_law_lost" "_law_lost" (top 52) f fd) (B:Blt mg) (qc0:zm P w K mg base n "_law_take" ["_law_pot_here","_law_many"] (wu K))     :
  FnOk P w K mg base CX0 (n+1) f fd ["_law_pot_here","_law_k"] (si K):=by
 refine F.ok xm yq (fun cdv A outer s H vs Q E hr h=>?_)
 obtain ⟨x,y,rfl,p,k,rfl,rfl,pp,k4,q⟩:=h
 refine ⟨_,(zd (zJ (i:=2) xm.nd rfl (Or.inl rfl) (xg zb)) (zd (ye (zE wn (zh qc0 hr rfl (za (pv 0) (za ze zb))) ze (zF _)) (zi (yW PassesOwn.never rfl (zS rfl B.range (za (zp yd ze (zh qc0 hr rfl (za (pv 0) (za ze zb)))) zb)) (zk (i:=3) xm.nd rfl (Or.inl rfl)) (zd (zJ (i:=4) xm.nd rfl (Or.inl rfl) (zh qc0 hr rfl (za (pv 0) (za (zp yd (pv 1) ze) zb)))) (zd (zJ (i:=5) xm.nd rfl (Or.inl rfl) (zh qc0 hr rfl (za (pv 0) (za (zq (uY rfl) rfl B.max TK (za ze (za (zp qh (zp yX ze (pv 1)) (zp yd ze (zZ vk rfl B.int Wm (za (xK VV (pv 4) ze (zF _)) zb)))) zb))) zb)))) (zi (zG (wK PySem.F.plainAttrs_list PySem.F.slot_list_extend PySem.F.type_list_extend tm (pv 2) (za (zp Rc (xg (za (zH (za (pv 4) (za (pv 5) zb))) zb)) (zp yd ze (zZ vk rfl B.int Wm (za (xK wn (zh qc0 hr rfl (za (pv 0) (za ze zb))) ze (zF _)) zb)))) zb)))))))) zx) (zi (zv (zZ z8 rfl B.tuple yZ (za (pv 2) zb)))))),?_⟩
 have p16:=ue k4
 refine ⟨szl rfl,fun lt hlt=>xr ?_⟩
 have g0:=Grow.new (m:=[]) hlt (.lst [])
 have hlt0:=zc (H:=H) (a:=lt) (o:=.lst [])
 have pp0:=pp.grow g0
 have nlp:lt ≠ p:=fun e=>by
  obtain ⟨p0,p1,z,_⟩:=pp
  rw [← e,hlt] at z; cases z
 generalize JQ H lt (.lst [])=H0 at g0 hlt0 pp0 ⊢
 refine R9 (fun σ' H'=>∃ e3 e4 e5 ys gone,σ' = [some (.ref p),some (.int k),some (.ref lt),e3,e4,e5] /\ Grow [lt,p] H0 H' /\ Pot H' p /\ H' lt=some (.lst ys) /\ zT (uO K H') ys gone /\ (∀ q ∈ gone,wU k q) /\ ys.length<=20) ?_ ?_
 ·rintro σ' H1 ⟨e3,e4,e5,ys,gone,rfl,g1,pp1,hy,hr,ok,yl⟩
  refine ⟨_,rfl,lt,ys,rfl,.inl ⟨J1.of hy,fun t ht=>?_⟩⟩
  have gt:=Grow.new (m:=[]) ht (.tup ys)
  refine q gone _ _ ok (by rw [← hr.len]; exact yl) ?_ (pp1.grow gt) ⟨t,ys,rfl,J3.of zc,hr.imp fun _ _ ⟨r,e,z⟩=>⟨r,e,gt.sqT z⟩,by omega⟩
  exact ((g0.wk (m:=[lt,p])).trans (g1.trans gt.wk)).less fun b hb=>by
   simp only [List.mem_cons,List.not_mem_nil,or_false] at hb
   rcases hb with rfl | rfl
   ·exact .inr hlt
   ·exact .inl (by simp)
 intro hr2
 refine ⟨_,rfl,_,_,rfl,p,3,rfl,rfl,pp0,by decide,by decide,fun n1 H1 l1 u1 g1 pp1=>⟨rfl,_,rfl,?_⟩⟩
 have hlt1:=g1.keep _ _ (by simpa using nlp) hlt0
 have G1:Grow [lt,p] H0 H1:=g1.mono (by simp)
 by_cases c:n1=0
 rotate_left
 ·exact yF (decide_eq_false fun z=>c (V.int.inj z)) (hr2 _ _ ⟨_,_,_,[],[],rfl,G1,pp1,hlt1,trivial,by simp,by decide⟩)
 refine y7 (decide_eq_true (congrArg V.int c)) ?_
 refine ⟨_,rfl,_,_,rfl,p,5,rfl,rfl,pp1,by decide,by decide,fun n2 H2 l2 u2 g2 pp2=>⟨_,_,rfl,rfl,_,rfl,by omega,by omega,?_⟩⟩
 have hlt2:=g2.keep _ _ (by simpa using nlp) hlt1
 have G2:Grow [lt,p] H0 H2:=G1.trans (g2.mono (by simp))
 refine yN (fun i σ H'=>∃ e3 e4 e5 ys gone,σ = [some (.ref p),some (.int k),some (.ref lt),e3,e4,e5] /\ Grow [lt,p] H0 H' /\ Pot H' p /\ H' lt=some (.lst ys) /\ zT (uO K H') ys gone /\ (∀ q ∈ gone,wU k q) /\ ys.length<=2 * i) ⟨_,_,_,[],[],rfl,G2,pp2,hlt2,trivial,by simp,by decide⟩ ?_ ?_
 rotate_left
 ·rintro σ H' ⟨e3,e4,e5,ys,gone,rfl,g,pp',hy,hr,ok,yl⟩
  exact hr2 _ _ ⟨_,_,_,ys,gone,rfl,g,pp',hy,hr,ok,by omega⟩
 rintro i σ H3 hi ⟨e3,e4,e5,ys,gone,rfl,g3,pp3,hy,hr,ok,yl⟩
 refine ⟨_,rfl,_,rfl,_,_,rfl,rfl,_,_,rfl,p,_,rfl,rfl,pp3,by omega,by omega,fun st H4 s0 s1 g4 pp4=>xr ?_⟩
 have hy4:=g4.keep _ _ (by simpa using nlp) hy
 have hdv:∃ mx:Int,(if (1 * 2 ^ ((k:Int)).toNat) / (1+(if decide ((0:Int) < st)=true then 1 else 0)) > (1:Int) then (1 * 2 ^ ((k:Int)).toNat) / (1+(if decide ((0:Int) < st)=true then 1 else 0)) else (1:Int))=mx /\ 0 < mx /\ mx<=16 /\ ∀ n:Int,0<=n->n < mx->wU k (st.toNat,n.toNat):=by
  rw [Zw]
  refine ⟨_,rfl,?_⟩
  by_cases c0:0 < st
  ·rw [decide_eq_true c0,show ((1:Int)+if true=true then 1 else 0)=1+1 from rfl]
   have hk:1<=k:=by omega
   have e2:((2 ^ k:Nat):Int) / (1+1)=((2 ^ (k - 1):Nat):Int):=by
    have:2 ^ k=2 ^ (k - 1) * 2:=by rw [← Nat.pow_succ]; congr 1; omega
    rw [this]; omega
   rw [e2]
   have hp1:=Nat.two_pow_pos (k - 1)
   have hp2:2 ^ (k - 1)<=16:=Nat.le_trans (Nat.pow_le_pow_right (by decide) (by omega)) p16
   refine ⟨by split <;> omega,by split <;> omega,fun n n0 n1=>.inl ⟨by show 1<=st.toNat; omega,by show st.toNat<=k; omega,?_⟩⟩
   show n.toNat < 2 ^ (k - 1)
   split at n1 <;> omega
  ·rw [decide_eq_false c0,show ((1:Int)+if false=true then 1 else 0)=1 from rfl,Int.ediv_one]
   have hp1:=Nat.two_pow_pos k
   refine ⟨by split <;> omega,by split <;> omega,fun n n0 n1=>.inr ⟨by show st.toNat=0; omega,?_⟩⟩
   show n.toNat < 2 ^ k
   split at n1 <;> omega
 obtain ⟨mx,emx,m0,m16,mok⟩:=hdv
 refine ⟨_,rfl,_,rfl,_,_,rfl,rfl,wv k4,_,rfl,_,_,rfl,rfl,.inr ⟨_,rfl,_,_,rfl,rfl,_,_,rfl,rfl,⟨by split <;> decide,by split <;> decide⟩,_,_,rfl,_,_,rfl,p,mx,rfl,congrArg V.int emx,pp4,m0,by omega,fun nn H5 n0 n1' g5 pp5=>xr ?_⟩⟩
 have hy5:=g5.keep _ _ (by simpa using nlp) hy4
 refine ⟨_,rfl,.inl ⟨rfl,_,J1.of hy5⟩,_,rfl,_,rfl,szl rfl,fun t ht=>⟨szl rfl,fun l3 hl3=>?_⟩⟩
 have f1:=Grow.new (m:=[]) ht (.tup [.int st,.int nn])
 have f2:=Grow.new (m:=[]) hl3 (.lst [.ref t])
 have s1:JQ (JQ H5 t (.tup [.int st,.int nn])) l3 (.lst [.ref t]) t=some (.tup [.int st,.int nn]):=f2.tup _ _ zc
 have s2:JQ (JQ H5 t (.tup [.int st,.int nn])) l3 (.lst [.ref t]) l3=some (.lst [.ref t]):=zc
 have F:=f1.trans f2
 have pp6:=pp5.grow F
 have hy6:=F.keep _ _ (by simp) hy5
 generalize JQ (JQ H5 t _) l3 _=H6 at F s1 s2 pp6 hy6 ⊢
 have nl3:l3 ≠ p:=fun e=>by
  obtain ⟨p0,p1,z,_⟩:=pp6
  rw [← e,s2] at z; cases z
 refine ⟨_,rfl,_,_,rfl,p,6,rfl,rfl,pp6,by decide,by decide,fun n6 H7 l6 u6 g7 pp7=>⟨rfl,?_⟩⟩
 have s27:=g7.keep _ _ (by simpa using nl3) s2
 have hy7:=g7.keep _ _ (by simpa using nlp) hy6
 obtain ⟨cn,hcn,c1,c2⟩:∃ cn:Nat,((1:Int)+if decide (V.int n6=V.int 0)=true then 1 else 0)=(cn:Int) /\ 1<=cn /\ cn<=2:=by
  by_cases z:V.int n6=V.int 0
  ·rw [decide_eq_true z,if_pos rfl]; exact ⟨2,rfl,by decide,by decide⟩
  ·rw [decide_eq_false z,if_neg (by decide)]; exact ⟨1,rfl,by decide,by decide⟩
 refine .inr ⟨_,rfl,_,_,rfl,rfl,l3,(cn:Int),_,rfl,congrArg V.int hcn,s27,by omega,by omega,by rw [Int.toNat_natCast]; exact Nat.le_of_lt (zr (by show 1 * cn<=1000; omega)),fun l4 hl4=>?_⟩
 rw [Int.toNat_natCast,Uk]
 have g8:=Grow.new (m:=[]) hl4 (.lst (List.replicate cn (.ref t)))
 have hy8:=g8.keep _ _ (by simp) hy7
 have g9:=Grow.set (m:=[lt]) hy8 (by simp) (ys ++ List.replicate cn (.ref t))
 refine ⟨lt,l4,ys,_,rfl,rfl,hy8,zc,by rw [List.length_replicate]; exact Nat.le_of_lt (zr (by omega)),?_⟩
 have G5:Grow [lt,p] H3 _:=(g4.mono (m':=[lt,p]) (by simp)).trans ((g5.mono (m':=[lt,p]) (by simp)).trans (F.wk.trans ((g7.mono (m':=[lt,p]) (by simp)).trans (g8.wk.trans (g9.mono (m':=[lt,p]) (by simp))))))
 have est:((st.toNat:Nat):Int)=st:=Int.toNat_of_nonneg s0
 have enn:((nn.toNat:Nat):Int)=nn:=Int.toNat_of_nonneg n0
 have plt:p ∉ [lt]:=by simpa using nlp.symm
 have pp9:Pot (JQ (JQ H7 l4 (.lst (List.replicate cn (.ref t)))) lt (.lst (ys ++ List.replicate cn (.ref t)))) p:=by
  obtain ⟨p0,p1,z,z0⟩:=pp7.grow g8
  exact ⟨p0,p1,g9.keep _ _ plt z,z0⟩
 refine ⟨_,_,_,ys ++ List.replicate cn (.ref t),gone ++ List.replicate cn (st.toNat,nn.toNat),rfl,g3.trans G5,pp9,zc,?_,?_,by rw [List.length_append,List.length_replicate]; omega⟩
 ·refine (hr.imp fun _ _ ⟨r,e,z⟩=>⟨r,e,G5.sqT z⟩).app (j3 ⟨t,rfl,?_⟩)
  show J3 K _ t [.int ((st.toNat:Nat):Int),.int ((nn.toNat:Nat):Int)]
  rw [est,enn]
  exact J3.of (g9.tup _ _ (g8.tup _ _ (g7.tup _ _ s1)))
 ·intro q hq
  rcases List.mem_append.mp hq with hq | hq
  ·exact ok q hq
  ·rw [(List.mem_replicate.mp hq).2]; exact mok nn n0 n1'
theorem wW:FnScope ["_law_pot_here","_law_menu"] ["_law_pot_here"] (zf (top 49)):=⟨rfl,rfl,rfl,by decide +kernel,rfl,by decide +kernel,by decide +kernel⟩
theorem sQ (F:Fun K "_law_number" "_law_number" (top 49) f fd) (B:Blt mg) (qc0:zm P w K mg base n "_law_take" ["_law_pot_here","_law_many"] (wu K))     :
  FnOk P w K mg base CX0 (n+1) f fd ["_law_pot_here"] (ZX K):=by
 refine F.ok wW yH (fun cdv A outer s H vs Q E hr h=>?_)
 obtain ⟨x,rfl,a,rfl,pp,q⟩:=h
 refine ⟨_,(zd (zJ (i:=1) wW.nd rfl (Or.inl rfl) (zh qc0 hr rfl (za (pv 0) (za ze zb)))) (zd (ye (zE qa (pv 1) ze (zF _)) (zi (zv (zp yx (zh qc0 hr rfl (za (pv 0) (za ze zb))) ze))) zx) (zd (ye (zE wn (pv 1) ze (zF _)) (zi (zv (zp yx (zh qc0 hr rfl (za (pv 0) (za (zp xZ ze (zp X3 ze ze)) zb))) (zp X3 ze ze)))) zx) (zi (zv (yC yp (xg (za ze (za ze (za (X2 jj ze) (za (zp yx ze (zh qc0 hr rfl (za (pv 0) (za ze zb)))) zb))))) (zh qc0 hr rfl (za (pv 0) (za ze zb))) (fun _ _=>rfl))))))),?_⟩
 refine ⟨_,rfl,_,_,rfl,a,5,rfl,rfl,pp,by decide,by decide,fun c0 H1 l0 u0 g1 pp1=>⟨_,rfl,_,_,rfl,rfl,_,rfl,?_⟩⟩
 by_cases c:c0 < 2
 ·refine y7 (decide_eq_true c) ⟨_,rfl,_,_,rfl,a,9,rfl,rfl,pp1,by decide,by decide,fun n1 H2 l1 u1 g2 pp2=>⟨_,_,rfl,rfl,q _ _ ?_ ?_ (g1.trans g2) pp2⟩⟩
  ·show -(10 ^ 29)<=n1 - 4
   omega
  ·show n1 - 4<=10 ^ 29
   omega
 refine yF (decide_eq_false c) (wT ⟨_,rfl,rfl,_,rfl,?_⟩)
 by_cases c4:c0=4
 ·refine y7 (decide_eq_true (congrArg V.int c4)) ⟨_,rfl,_,_,rfl,rfl,⟨by decide,by decide,by decide⟩,_,_,rfl,rfl,WC ⟨by decide,by decide⟩,_,_,rfl,a,2 * 10 ^ 29,rfl,rfl,pp1,by decide,by decide,fun n1 H2 l1 u1 g2 pp2=>⟨_,_,rfl,rfl,⟨by decide,by decide,by decide⟩,_,_,rfl,rfl,q _ _ ?_ ?_ (g1.trans g2) pp2⟩⟩
  ·show -(10 ^ 29)<=n1 - 10 ^ 29
   omega
  ·show n1 - 10 ^ 29<=10 ^ 29
   omega
 refine yF (decide_eq_false fun z=>c4 (V.int.inj z)) (wT ?_)
 refine ⟨_,rfl,_,rfl,_,_,rfl,a,200,rfl,rfl,pp1,by decide,by decide,fun n1 H2 l1 u1 g2 pp2=>⟨_,_,rfl,rfl,szl rfl,fun t ht=>?_⟩⟩
 have gt:=Grow.new (m:=[]) ht (.lst [V.int 0,.int 1,.int (-1),.int (100 - n1)])
 refine ⟨_,rfl,_,_,rfl,a,4,rfl,rfl,pp2.grow gt,by decide,by decide,fun n2 H3 l2 u2 g3 pp3=>?_⟩
 have nat:t ≠ a:=fun e=>by
  obtain ⟨p0,p1,z,_⟩:=pp2
  rw [← e,ht] at z; cases z
 have ht3:H3 t=some (.lst [V.int 0,.int 1,.int (-1),.int (100 - n1)]):=g3.keep _ _ (by simpa using nat) zc
 have G:Grow [a] H H3:=g1.trans (g2.trans (gt.wk.trans g3))
 obtain h | h | h | h:n2=0 \/ n2=1 \/ n2=2 \/ n2=3:=by omega
 ·subst h; exact ⟨t,_,0,_,rfl,rfl,J1.of ht3,zP (j:=0) rfl,q _ _ (by decide) (by decide) G pp3⟩
 ·subst h; exact ⟨t,_,1,_,rfl,rfl,J1.of ht3,zP (j:=1) rfl,q _ _ (by decide) (by decide) G pp3⟩
 ·subst h; exact ⟨t,_,2,_,rfl,rfl,J1.of ht3,zP (j:=2) rfl,q _ _ (by decide) (by decide) G pp3⟩
 ·subst h; exact ⟨t,_,3,_,rfl,rfl,J1.of ht3,zP (j:=3) rfl,q _ _ (by show -(10 ^ 29)<=100 - n1; omega) (by show 100 - n1<=10 ^ 29; omega) G pp3⟩
theorem xn:FnScope ["_law_pot_here","_law_menu","_law_low","_law_high","_law_add"] ["_law_pot_here"] (zf (top 50)):=⟨rfl,rfl,rfl,by decide +kernel,rfl,by decide +kernel,by decide +kernel⟩
theorem Zt (F:Fun K "_law_deed" "_law_deed" (top 50) f fd) (B:Blt mg) (qc0:zm P w K mg base n "_law_take" ["_law_pot_here","_law_many"] (wu K)) (qc1:zm P w K mg base n "_law_number" ["_law_pot_here"] (ZX K))  (g_sorted:mg "sorted" = none)   :
  FnOk P w K mg base CX0 (n+1) f fd ["_law_pot_here"] (sg K):=by
 refine F.ok xn yH (fun cdv A outer s H vs Q E hr h=>?_)
 obtain ⟨x,rfl,a,rfl,pp,q⟩:=h
 refine ⟨_,(zd (zJ (i:=1) xn.nd rfl (Or.inl rfl) (zh qc0 hr rfl (za (pv 0) (za ze zb)))) (zd (ye (zE qa (pv 1) ze (zF _)) (zi (zv (zH (za (yC yp (xg (za ze (za (zh qc1 hr rfl (za (pv 0) zb)) (za ze zb)))) (pv 1) (fun _ _=>rfl)) (za jf (za jf zb)))))) zx) (zd (we (zq (jI (K:=K) rfl) rfl g_sorted Yn (za (xg (za (zh qc1 hr rfl (za (pv 0) zb)) (za (zh qc1 hr rfl (za (pv 0) zb)) zb))) zb)) (UJ rfl (zo (zk (i:=2) xn.nd rfl (Or.inl rfl)) (zo (zk (i:=3) xn.nd rfl (Or.inl rfl)) yo)))) (zd (ye (PW.pt (rY (zE wn (pv 1) ze (zF _)) (vh (zE wn (pv 2) (pv 3) (zF _))))) (zi (zv (zH (za ze (za (pv 2) (za (pv 2) zb)))))) zx) (zd (zJ (i:=4) xn.nd rfl (Or.inl rfl) (zp xZ (zh qc1 hr rfl (za (pv 0) zb)) (zZ vk rfl B.int Wm (za (xK VV (pv 1) ze (zF _)) zb)))) (zi (zv (yC yp (xg (za (zH (za (pv 4) (za (pv 2) (za jf zb)))) (za (zH (za (pv 4) (za jf (za (pv 3) zb)))) (za (zH (za (pv 4) (za (pv 2) (za (pv 3) zb)))) zb)))) (zh qc0 hr rfl (za (pv 0) (za ze zb))) (fun _ _=>rfl))))))))),?_⟩
 refine ⟨_,rfl,_,_,rfl,a,8,rfl,rfl,pp,by decide,by decide,fun c0 H1 l0 u0 g1 pp1=>⟨_,rfl,_,_,rfl,rfl,_,rfl,?_⟩⟩
 by_cases c:c0 < 3
 ·refine y7 (decide_eq_true c) ⟨_,rfl,_,rfl,a,rfl,pp1,fun n1 H2 b1 b2 g2 pp2=>⟨szl rfl,fun t ht=>?_⟩⟩
  have gt:=Grow.new (m:=[]) ht (.lst [V.int 1,.int n1,.int 0])
  have fin:∀ (v:Int) (t2:Addr),-(10 ^ 29)<=v /\ v<=10 ^ 29->JQ H2 t (.lst [V.int 1,.int n1,.int 0]) t2=none->Q (.ref t2) (JQ (JQ H2 t (.lst [V.int 1,.int n1,.int 0])) t2 (.tup [.int v,.non,.non])):=fun v t2 vb ht2=>q ⟨v,none,none⟩ _ _ (fun _ _ z=>nomatch z) ⟨vb,(fun _ z=>nomatch z),(fun _ z=>nomatch z)⟩ (g1.trans (g2.trans (gt.wk.trans (Grow.new ht2 _)))) ((pp2.grow gt).grow (Grow.new ht2 _)) ⟨t2,rfl,J3.of zc⟩
  obtain h | h | h:c0=0 \/ c0=1 \/ c0=2:=by omega
  ·subst h; exact ⟨_,rfl,t,_,0,_,rfl,rfl,J1.of zc,zP (j:=0) rfl,szl rfl,fun t2=>fin 1 t2 ⟨by decide,by decide⟩⟩
  ·subst h; exact ⟨_,rfl,t,_,1,_,rfl,rfl,J1.of zc,zP (j:=1) rfl,szl rfl,fun t2=>fin n1 t2 ⟨b1,b2⟩⟩
  ·subst h; exact ⟨_,rfl,t,_,2,_,rfl,rfl,J1.of zc,zP (j:=2) rfl,szl rfl,fun t2=>fin 0 t2 ⟨by decide,by decide⟩⟩
 refine yF (decide_eq_false c) (wT ?_)
 refine ⟨_,rfl,_,rfl,a,rfl,pp1,fun n1 H2 b1 b2 g2 pp2=>⟨_,rfl,_,rfl,a,rfl,pp2,fun n2 H3 b3 b4 g3 pp3=>⟨szl rfl,fun t ht=>?_⟩⟩⟩
 have gt:=Grow.new (m:=[]) ht (.lst [V.int n1,.int n2])
 refine ⟨t,[n1,n2],rfl,J1.of zc,by show (2:Nat) < 64; decide,fun p ms hp pm pw=>?_⟩
 obtain ⟨lo,hi,rfl⟩:∃ lo hi,ms=[lo,hi]:=by
  have:=pm.length_eq
  match ms,this with
  | [x,y],_=>exact ⟨x,y,rfl⟩
 have lh:lo<=hi:=by simpa using pw
 have lb:∀ v ∈ [lo,hi],-(10 ^ 29)<=v /\ v<=10 ^ 29:=fun v hv=>by
  have hv:=pm.mem_iff.mp hv
  simp only [List.mem_cons,List.not_mem_nil,or_false] at hv
  rcases hv with rfl | rfl
  ·exact ⟨b1,b2⟩
  ·exact ⟨b3,b4⟩
 have lb1:=lb lo (by simp)
 have lb2:=lb hi (by simp)
 clear lb
 have gp:=Grow.new (m:=[]) hp (.lst ([lo,hi].map V.int))
 have G4:Grow [a] H _:=g1.trans (g2.trans (g3.trans ((gt.trans gp).wk (m:=[a]))))
 have pp4:=(pp3.grow gt).grow gp
 refine ⟨p,_,rfl,J1.of zc,rfl,_,_,rfl,_,_,rfl,rfl,?_⟩
 refine QN ?_
 generalize JQ (JQ H3 t _) p _=H4 at G4 pp4 ⊢
 have eqv:∀ H5 t5,Grow [a] H H5->Pot H5 a->J3 K H5 t5 [.int 0,.int lo,.int lo]->Q (.ref t5) H5:=fun H5 t5 g5 p5 h5=>q ⟨0,some lo,some lo⟩ _ _ (fun l u h1 h2=>.inr ⟨by cases h1; cases h2; rfl,rfl⟩) ⟨⟨show -(10 ^ 29)<=(0:Int) by decide,show (0:Int)<=10 ^ 29 by decide⟩,(fun _ z=>by cases z; exact lb1),(fun _ z=>by cases z; exact lb1)⟩ g5 p5 ⟨t5,rfl,h5⟩
 refine rj (fun b H'=>H' = H4 /\ (b=false->lo < hi)) (fun Kk hk=>⟨_,rfl,rfl,_,rfl,?_⟩) ?_
 ·by_cases c3:c0=3
  ·exact y7 (decide_eq_true (congrArg V.int c3)) (hk _ _ ⟨rfl,nofun⟩)
  ·refine yF (decide_eq_false fun z=>c3 (V.int.inj z)) ⟨_,rfl,_,rfl,rfl,_,rfl,hk _ _ ⟨rfl,fun h=>?_⟩⟩
   have:¬ (V.int lo=V.int hi):=of_decide_eq_false h
   have:lo ≠ hi:=fun e=>this (congrArg V.int e)
   omega
 rintro b H5 ⟨rfl,hb⟩
 cases b with
 | true =>
  refine vn ⟨_,rfl,_,rfl,szl rfl,fun t5 ht5=>eqv _ _ (G4.trans (Grow.new ht5 _)) (pp4.grow (Grow.new ht5 _)) (J3.of zc)⟩
 | false =>
 have lt:=hb rfl
 refine xw (wT ?_)
 refine uM (fun v H'=>∃ ad:Int,v = .int ad /\ (-(10 ^ 29)<=ad /\ ad<=10 ^ 29) /\ Grow [a] H H' /\ Pot H' a) (fun Kk hk=>⟨_,rfl,_,rfl,a,rfl,pp4,fun n3 H6 l3 u3 g6 pp6=>⟨_,rfl,_,_,rfl,rfl,.inr ⟨_,rfl,_,_,rfl,rfl,re ?_,hk _ _ ⟨_,rfl,?_,G4.trans g6,pp6⟩⟩⟩⟩) ?_
 ·split <;> exact ⟨by decide,by decide⟩
 ·split <;> (first | rw [Int.mul_one] | rw [Int.mul_zero]) <;> first | exact ⟨l3,u3⟩ | exact ⟨by decide,by decide⟩
 rintro _ H6 ⟨ad,rfl,adb,G6,pp6⟩
 refine ⟨_,rfl,_,rfl,szl rfl,fun t1 ht1=>⟨_,rfl,_,rfl,szl rfl,fun t2 ht2=>⟨_,rfl,_,rfl,_,rfl,szl rfl,fun t3 ht3=>⟨szl rfl,fun tl htl=>?_⟩⟩⟩⟩
 have f1:=Grow.new (m:=[]) ht1 (.tup [.int ad,.int lo,.non])
 have f2:=Grow.new (m:=[]) ht2 (.tup [.int ad,.non,.int hi])
 have f3:=Grow.new (m:=[]) ht3 (.tup [.int ad,.int lo,.int hi])
 have f4:=Grow.new (m:=[]) htl (.lst [.ref t1,.ref t2,.ref t3])
 have F:=f1.trans (f2.trans (f3.trans f4))
 have s1:JQ H6 t1 (.tup [.int ad,.int lo,.non]) t1=some (.tup [.int ad,.int lo,.non]):=zc
 have s2:JQ (JQ H6 t1 (.tup [.int ad,.int lo,.non])) t2 (.tup [.int ad,.non,.int hi]) t2=some (.tup [.int ad,.non,.int hi]):=zc
 have s3:JQ (JQ (JQ H6 t1 (.tup [.int ad,.int lo,.non])) t2 (.tup [.int ad,.non,.int hi])) t3 (.tup [.int ad,.int lo,.int hi]) t3=some (.tup [.int ad,.int lo,.int hi]):=zc
 replace s1:=(f2.trans (f3.trans f4)).tup _ _ s1
 replace s2:=(f3.trans f4).tup _ _ s2
 replace s3:=f4.tup _ _ s3
 have s4:JQ (JQ (JQ (JQ H6 t1 (.tup [.int ad,.int lo,.non])) t2 (.tup [.int ad,.non,.int hi])) t3 (.tup [.int ad,.int lo,.int hi])) tl (.lst [.ref t1,.ref t2,.ref t3]) tl=some (.lst [.ref t1,.ref t2,.ref t3]):=zc
 have pp7:=pp6.grow F
 have G7:=G6.trans (F.wk (m:=[a]))
 generalize JQ (JQ (JQ (JQ H6 t1 _) t2 _) t3 _) tl _=H7 at s1 s2 s3 s4 pp7 G7 ⊢
 refine ⟨_,rfl,_,_,rfl,a,3,rfl,rfl,pp7,by decide,by decide,fun n8 H8 l8 u8 g8 pp8=>?_⟩
 have nta:tl ≠ a:=fun e=>by
  obtain ⟨p0,p1,z,_⟩:=pp7
  rw [← e,s4] at z; cases z
 have s48:=g8.keep _ _ (by simpa using nta) s4
 have G8:=G7.trans g8
 obtain h | h | h:n8=0 \/ n8=1 \/ n8=2:=by omega
 ·subst h; exact ⟨tl,_,0,_,rfl,rfl,J1.of s48,zP (j:=0) rfl,q ⟨ad,some lo,none⟩ _ _ (fun _ _ _ z=>nomatch z) ⟨adb,(fun _ z=>by cases z; exact lb1),(fun _ z=>nomatch z)⟩ G8 pp8 ⟨t1,rfl,J3.of (g8.tup _ _ s1)⟩⟩
 ·subst h; exact ⟨tl,_,1,_,rfl,rfl,J1.of s48,zP (j:=1) rfl,q ⟨ad,none,some hi⟩ _ _ (fun _ _ z=>nomatch z) ⟨adb,(fun _ z=>nomatch z),(fun _ z=>by cases z; exact lb2)⟩ G8 pp8 ⟨t2,rfl,J3.of (g8.tup _ _ s2)⟩⟩
 ·subst h; exact ⟨tl,_,2,_,rfl,rfl,J1.of s48,zP (j:=2) rfl,q ⟨ad,some lo,some hi⟩ _ _ (fun l u h1 h2=>.inl (by cases h1; cases h2; exact lt)) ⟨adb,(fun _ z=>by cases z; exact lb1),(fun _ z=>by cases z; exact lb2)⟩ G8 pp8 ⟨t3,rfl,J3.of (g8.tup _ _ s3)⟩⟩
theorem vT:FnScope ["_law_pot_here","_law_net","_law_k","_law_many","_law_turn"] ["_law_pot_here","_law_net","_law_k","_law_many"] (zf (top 57)):=⟨rfl,rfl,rfl,by decide +kernel,rfl,by decide +kernel,by decide +kernel⟩
theorem qZ (F:Fun K "_law_other" "_law_other" (top 57) f fd) (B:Blt mg) {C:Addr} (T:NTxt K mg C) (mc_beats:zt P w K mg base C n "beats" ["self"] (vK C K)) (mc_beat:zt P w K mg base C n "beat" ["self","lost"] (xJ C K)) (mc_log:zt P w K mg base C n "log" ["self"] (qK C K)) (mc_todo:zt P w K mg base C n "todo" ["self"] (uS C K)) (mc_put:zt P w K mg base C n "put" ["self","ask"] (tV C K)) (qc0:zm P w K mg base n "_law_take" ["_law_pot_here","_law_many"] (wu K)) (qc1:zm P w K mg base n "_law_lost" ["_law_pot_here","_law_k"] (si K)) (qc2:zm P w K mg base n "_law_deed" ["_law_pot_here"] (sg K))     :
  FnOk P w K mg base CX0 (n+1) f fd ["_law_pot_here","_law_net","_law_k","_law_many"] (rT C K):=by
 refine F.ok vT ud (fun cdv A outer s H vs Q E hr h=>?_)
 obtain ⟨x,y,z,u,rfl,p,A5,ns,rfl,rfl,rfl,rfl,pp,hn,nx,b1,now,npm,q⟩:=h
 refine ⟨_,(zd (yW PassesOwn.never rfl (zS rfl B.range (za (zh qc0 hr rfl (za (pv 0) (za ze zb))) zb)) (zk (i:=4) vT.nd rfl (Or.inl rfl)) (zd (ye (zE qa (zp yd (zq zD rfl B.len wY (za (yQ mc_log T.cl hr (pv 1)) zb)) (yQ mc_todo T.cl hr (pv 1))) ze (zF _)) (zi (zG (zU mc_put T.cl hr (pv 1) (za (zH (za (zh qc0 hr rfl (za (pv 0) (za (zp yX ze (pv 2)) zb))) (za (zh qc0 hr rfl (za (pv 0) (za (pv 3) zb))) (za (zh qc2 hr rfl (za (pv 0) zb)) zb)))) zb)))) zx) (zi (zG (zU mc_beat T.cl hr (pv 1) (za (zh qc1 hr rfl (za (pv 0) (za (pv 2) zb))) zb)))))) (zi (zv (yQ mc_beats T.cl hr (pv 1))))),?_⟩
 have nr:=nx.nw.nr
 have k4:=nr.k4
 have p16:=ue k4
 have b16:=nr.b16
 have O0:OI7 K C p H A5 ns H A5 ns (ns.now+0):=⟨Grow.refl _ _,pp,hn,nx,rfl,rfl,Nat.le_refl _,rfl,fun x hx=>.inl hx,npm⟩
 refine ⟨_,rfl,_,_,rfl,p,3,rfl,rfl,pp,by decide,by decide,fun t3 H1 t0 t1 g1 pp1=>⟨_,rfl,by omega,by omega,?_⟩⟩
 refine yN (fun i σ' H'=>∃ e4 A' ns',σ' = [some (.ref p),some (.ref (A5 .p)),some (.int ns.k),some (.int ns.boxes.length),e4] /\ OI7 K C p H A5 ns H' A' ns' (ns.now+i)) ⟨_,A5,ns,rfl,O0.potS g1 pp1⟩ ?_ ?_
 rotate_left
 ·rintro σ H2 ⟨e4,A',ns',rfl,O⟩
  have L:=O.net
  have h2:=O.now
  refine ⟨_,rfl,_,_,_,(congrArg V.ref O.ap).symm,L.ob.choose_spec,YJ,_,rfl,A',ns',congrArg V.ref O.ap.symm,L,q A' ns' _ _ O.g O.pot L O.nx O.ek O.bl (by omega) O.ap O.ms⟩
 rintro i σ H2 hi ⟨e4,A',ns',rfl,O⟩
 refine R9 (fun σ' H'=>∃ e4 A' ns',σ' = [some (.ref p),some (.ref (A5 .p)),some (.int ns.k),some (.int ns.boxes.length),e4] /\ OI7 K C p H A5 ns H' A' ns' (ns.now+i)) ?_ ?_
 rotate_left
 ·intro hr2
  have ep:=congrArg V.ref O.ap
  refine ⟨_,rfl,_,_,_,ep.symm,O.net.ob.choose_spec,U5,_,rfl,A',ns',ep.symm,O.net,by have:=O.nx.nw.l40; omega,fun z3 H3 g3 hz3=>?_⟩
  obtain ⟨r3,rfl,hr3⟩:=hz3
  have O3:=O.grow0 g3
  refine ⟨r3,_,rfl,.inr hr3,_,rfl,_,_,_,ep.symm,O3.net.ob.choose_spec,W4,_,rfl,A',ns',ep.symm,O3.net,_,_,rfl,rfl,_,_,rfl,rfl,_,rfl,?_⟩
  have al:=RY O.nx.nw
  rw [List.length_map,List.length_map]
  by_cases c:(ns'.log.length:Int)+((ns'.asks.length:Int) - ns'.ans.length) < 20
  rotate_left
  ·exact yF (decide_eq_false c) (hr2 _ _ ⟨_,A',ns',rfl,O3⟩)
  refine y7 (decide_eq_true c) ⟨_,rfl,_,_,_,ep.symm,O3.net.ob.choose_spec,YI,_,rfl,_,rfl,_,_,rfl,rfl,wv k4,_,_,rfl,p,_,rfl,rfl,O3.pot,by rw [Zw]; exact Int.ofNat_lt.mpr (Nat.two_pow_pos ns.k),by rw [Zw]; exact Int.lt_of_le_of_lt (Int.ofNat_le.mpr p16) (by decide),fun n4 H4 l4 u4 g4 pp4=>?_⟩
  rw [Zw] at u4
  refine ⟨_,rfl,_,rfl,_,_,rfl,p,_,rfl,rfl,pp4,by omega,by omega,fun n5 H5 l5 u5 g5 pp5=>⟨_,rfl,_,rfl,p,rfl,pp5,fun d y6 H6 dok dbd g6 pp6 hd=>⟨szl rfl,fun t ht=>?_⟩⟩⟩
  obtain ⟨rd,rfl,hrd⟩:=hd
  have gt:=Grow.new (m:=[]) ht (.tup [.int n4,.int n5,.ref rd])
  have hs:vq K (JQ H6 t (.tup [.int n4,.int n5,.ref rd])) (.ref t) ⟨n4,n5,d⟩:=⟨t,rd,rfl,J3.of zc,gt.sqT hrd⟩
  have O6:=((((O3.potS g4 pp4).potS g5 pp5).potS g6 pp6).grow0 gt)
  have aok:qj ns.boxes.length ⟨n4,n5,d⟩:=⟨l4,by show n4<=15; have:=Int.ofNat_le.mpr p16; omega,l5,u5,dok⟩
  refine ⟨_,_,rfl,A',ns',_,msA A' ns',ep.symm,hs,O6.net,O6.nx.nw.nr,by rw [O6.bl]; exact aok,by rw [O6.ek]; exact u4,by omega,fun _ z=>yI z,fun H7 g7 hn7=>?_⟩
  exact hr2 _ _ ⟨_,A',_,rfl,O6.putS aok u4 (by omega) g7 hn7⟩
 rintro σ' H3 ⟨e4,A',ns',rfl,O⟩
 have ep:=congrArg V.ref O.ap
 refine ⟨_,rfl,_,_,_,ep.symm,O.net.ob.choose_spec,tQ,_,rfl,_,rfl,_,_,rfl,p,ns.k,rfl,rfl,O.pot,k4,fun gone zg H4 gok glen g4 pp4 hg=>?_⟩
 have O4:=O.potS g4 pp4
 have n4:=O4.now
 refine ⟨_,_,rfl,A',ns',gone,msA A' ns',ep.symm,.inr hg,by rw [O4.ek]; exact gok,O4.net,O4.nx.nw.nr,O4.nx.nw.nd,by omega,(O4.nx.nw.beat (by omega) gone).1,fun _ z=>yI z,fun A2 u2 tl H5 g5 ex hn5 _ _ _=>?_⟩
 exact ⟨_,A2,_,rfl,O4.beatS (by omega) g5 ex hn5⟩
theorem Zu:FnScope ["_law_pot_here","_law_one","_law_second","_law_asks","_law_ask_here"] ["_law_pot_here","_law_one","_law_second","_law_asks","_law_ask_here"] (zf (top 59)):=⟨rfl,rfl,rfl,by decide +kernel,rfl,by decide +kernel,by decide +kernel⟩
theorem Zv (F:Fun K "_law_both" "_law_both" (top 59) f fd) (B:Blt mg) {C:Addr} (T:NTxt K mg C) (mc_put:zt P w K mg base C n "put" ["self","ask"] (tV C K))      :
  FnOk P w K mg base CX0 (n+1) f fd ["_law_pot_here","_law_one","_law_second","_law_asks","_law_ask_here"] (j7 C K):=by
 refine F.ok Zu Ww (fun cdv A outer s H vs Q E hr h=>?_)
 obtain ⟨x,y,z,u,w,rfl,A1,A2,ns,a,rfl,rfl,rfl,ha,hn1,hn2,nr,aok,ah,a40,dj,q⟩:=h
 refine ⟨_,(zi (zv (uD (xK wn (zU mc_put T.cl hr (pv 1) (za (pv 4) zb)) (pv 3) (zF _)) (wO (xK wn (zU mc_put T.cl hr (pv 2) (za (pv 4) zb)) (pv 3) (zF _)))))),?_⟩
 refine ⟨_,rfl,_,_,_,rfl,hn1.ob.choose_spec,YI,_,rfl,_,_,rfl,A1,ns,a,msA A1 ns,rfl,ha,hn1,nr,aok,ah,a40,fun _ z=>yI z,fun H1 g1 h1=>⟨_,rfl,rfl,_,rfl,y7 (decide_eq_true rfl) ?_⟩⟩
 have hn21:NetAt K C H1 A2 ns:=hn2.grow g1 fun c hc z=>dj _ z (yI hc)
 refine ⟨_,rfl,_,_,_,rfl,hn21.ob.choose_spec,YI,_,rfl,_,_,rfl,A2,ns,a,msA A2 ns,rfl,g1.ask ha,hn21,nr,aok,ah,a40,fun _ z=>yI z,fun H2 g2 h2=>⟨_,rfl,rfl,?_⟩⟩
 rw [decide_eq_true rfl]
 exact q H1 H2 g1 h1 hn21 g2 (h1.grow g2 fun c hc z=>dj _ (yI (ns:=ns) (by cases c <;> exact hc)) z) h2
theorem vf:FnScope ["_law_pot_here","_law_k","_law_many","_law_some","_law_box"] ["_law_pot_here","_law_k","_law_many","_law_some"] (zf (top 51)):=⟨rfl,rfl,rfl,by decide +kernel,rfl,by decide +kernel,by decide +kernel⟩
theorem Z9 (F:Fun K "_law_ask" "_law_ask" (top 51) f fd) (B:Blt mg) (qc0:zm P w K mg base n "_law_deed" ["_law_pot_here"] (sg K)) (qc1:zm P w K mg base n "_law_take" ["_law_pot_here","_law_many"] (wu K))     :
  FnOk P w K mg base CX0 (n+1) f fd ["_law_pot_here","_law_k","_law_many","_law_some"] (YU K):=by
 refine F.ok vf ud (fun cdv A outer s H vs Q E hr h=>?_)
 obtain ⟨x,y,z,u,rfl,p,l,k,many,sm,rfl,rfl,rfl,rfl,pp,k4,m1,m16,hl,npl,sm1,smL,smb,q⟩:=h
 refine ⟨_,(zd (zJ (i:=4) vf.nd rfl (Or.inl rfl) (yC yp (pv 3) (zh qc1 hr rfl (za (pv 0) (za (zq zD rfl B.len wY (za (pv 3) zb)) zb))) (fun _ _=>rfl))) (zd (ye (zE wn (zh qc1 hr rfl (za (pv 0) (za ze zb))) ze (zF _)) (zi (zJ (i:=4) vf.nd rfl (Or.inl rfl) (zh qc1 hr rfl (za (pv 0) (za (pv 2) zb))))) zx) (zi (zv (zH (za (zh qc1 hr rfl (za (pv 0) (za (zp yX ze (pv 1)) zb))) (za (pv 4) (za (zh qc0 hr rfl (za (pv 0) zb)) zb)))))))),?_⟩
 have p16:=ue k4
 have el:(sm.map V.int).length=sm.length:=List.length_map ..
 refine ⟨_,rfl,_,rfl,_,rfl,l,_,rfl,.inl (J1.of hl),_,_,rfl,p,_,rfl,rfl,pp,by omega,by omega,fun n1 H1 l1 u1 g1 pp1=>?_⟩
 have hl1:=g1.keep _ _ (by simpa using npl.symm) hl
 have hj:n1.toNat < sm.length:=by omega
 have hv:(sm.map V.int)[n1.toNat]? = some (V.int sm[n1.toNat]):=by rw [List.getElem?_map,List.getElem?_eq_getElem hj]; rfl
 have hat:=zP hv
 rw [Int.toNat_of_nonneg l1] at hat
 have hb0:=smb _ (List.getElem_mem hj)
 generalize sm[n1.toNat]=b0 at hat hb0
 refine ⟨l,_,n1,_,rfl,rfl,J1.of hl1,hat,xr ?_⟩
 refine R9 (fun σ' H'=>∃ (b:Int),σ' = [some (.ref p),some (.int k),some (.int many),some (.ref l),some (.int b)] /\ 0<=b /\ b < many /\ Grow [p] H H' /\ Pot H' p) ?_ ?_
 rotate_left
 ·intro hr2
  refine ⟨_,rfl,_,_,rfl,p,5,rfl,rfl,pp1,by decide,by decide,fun n2 H2 l2 u2 g2 pp2=>⟨rfl,_,rfl,?_⟩⟩
  by_cases c:n2=0
  ·refine y7 (decide_eq_true (congrArg V.int c)) ⟨_,rfl,_,rfl,_,_,rfl,p,many,rfl,rfl,pp2,by omega,by omega,fun n3 H3 l3 u3 g3 pp3=>hr2 _ _ ⟨n3,rfl,l3,u3,g1.trans (g2.trans g3),pp3⟩⟩
  ·exact yF (decide_eq_false fun z=>c (V.int.inj z)) (hr2 _ _ ⟨b0,rfl,hb0.1,hb0.2,g1.trans g2,pp2⟩)
 rintro σ' H2 ⟨b,rfl,bl,bu,g2,pp2⟩
 refine ⟨_,rfl,_,rfl,_,_,rfl,rfl,wv k4,_,_,rfl,p,_,rfl,rfl,pp2,by rw [Zw]; exact Int.ofNat_lt.mpr (Nat.two_pow_pos k),by rw [Zw]; exact Int.lt_of_le_of_lt (Int.ofNat_le.mpr p16) (by decide),fun n3 H3 l3 u3 g3 pp3=>?_⟩
 rw [Zw] at u3
 refine ⟨_,rfl,_,rfl,_,rfl,p,rfl,pp3,fun d y H4 dok dbd g4 pp4 hd=>⟨szl rfl,fun t ht=>?_⟩⟩
 obtain ⟨rd,rfl,hrd⟩:=hd
 have gt:=Grow.new (m:=[]) ht (.tup [.int n3,.int b,.ref rd])
 exact q ⟨n3,b,d⟩ _ _ ⟨l3,by show n3<=15; have:=Int.ofNat_le.mpr p16; omega,bl,bu,dok⟩ u3 dbd (g2.trans (g3.trans (g4.trans gt.wk))) (pp4.grow gt) ⟨t,rd,rfl,J3.of zc,gt.sqT hrd⟩
theorem xc:FnScope ["_law_script","_law_k","_law_seed","_law_cell","_law_number_here"] ["_law_script","_law_k"] (zf (top 47)):=⟨rfl,rfl,rfl,by decide +kernel,rfl,by decide +kernel,by decide +kernel⟩
theorem Ya (F:Fun K "_law_pot" "_law_pot" (top 47) f fd) (B:Blt mg)      :
  FnOk P w K mg base CX0 (n+1) f fd ["_law_script","_law_k"] (UT K):=by
 refine F.ok xc yq (fun cdv A outer s H vs Q E hr h=>?_)
 obtain ⟨x,y,rfl,a,ns,k,rfl,rfl,hs,k0,k1,q⟩:=h
 refine ⟨_,(zd (zJ (i:=2) xc.nd rfl (Or.inl rfl) (zp yd ze (zp xZ ze (pv 1)))) (zd (yW PassesOwn.never rfl (wX (Yl TC (pv 0) Wg (Wh ze))) (zk (i:=3) xc.nd rfl (Or.inl rfl)) (zi (zJ (i:=2) xc.nd rfl (Or.inl rfl) (zp jh (zp yd (zp xZ (pv 2) ze) (pv 3)) ze)))) (zd (zJ (i:=4) xc.nd rfl (Or.inl rfl) ze) (zd (ye (zE qa (pv 1) (zq zD rfl B.len wY (za (pv 0) zb)) (zF _)) (zi (zJ (i:=4) xc.nd rfl (Or.inl rfl) (yC yp (pv 0) (pv 1) (fun _ _=>rfl)))) zx) (zi (zv (xg (za (zq (uY rfl) rfl B.max TK (za ze (za (zp yx (pv 4) (zp X3 ze ze)) zb))) (za (zp yd (zp jh (zp yd (zp xZ (pv 2) (pv 2)) (zp xZ ze (pv 1))) ze) ze) zb))))))))),?_⟩
 have hl:(ns.map V.int).length=ns.length:=List.length_map ..
 refine ⟨_,rfl,_,_,rfl,rfl,WC ⟨by decide,by decide⟩,_,_,rfl,rfl,xr ?_⟩
 refine ⟨_,rfl,_,rfl,a,_,rfl,hs.sq,fun t ht=>?_⟩
 have gt:=Grow.new (m:=[]) ht (.lst (qe (ns.map V.int) none (some 40)))
 have ht1:=zc (H:=H) (a:=t) (o:=.lst (qe (ns.map V.int) none (some 40)))
 have hs1:=gt.scr hs
 have hint:∀ v ∈ qe (ns.map V.int) none (some 40),∃ i:Int,v = .int i:=fun v hv=>by
  obtain ⟨i,_,e⟩:=List.mem_map.mp (Vs hv)
  exact ⟨i,e.symm⟩
 generalize qe (ns.map V.int) none (some 40)=cs at gt ht1 hs1 hint ⊢
 generalize JQ H t (.lst cs)=H1 at gt ht1 hs1 ⊢
 refine ⟨t,rfl,⟨_,J1.of ht1⟩,vj (xs:=cs) (fun j σ H'=>∃ (e3:Option V) (sd:Int),σ = [some (.ref a),some (.int k),some (.int sd),e3,none] /\ H' = H1 /\ ((-(2 ^ 50) < sd /\ sd < 2 ^ 50))) ⟨_,_,rfl,rfl,by omega,by omega⟩ (fun j σ H' _ ⟨_,_,_,e,_⟩=>e ▸ J1.of ht1) ?_ ?_⟩
 ·rintro j x σ H2 hx ⟨e3,sd,rfl,rfl,_,_⟩
  obtain ⟨i,rfl⟩:=hint x (List.mem_of_getElem? hx)
  refine ⟨_,rfl,_,_,rfl,rfl,re ⟨by decide,by decide⟩,_,rfl,_,_,rfl,rfl,_,_,rfl,rfl,(by show (0:Int) < 2147483647; decide),?_⟩
  have b0:0<=(sd * 48271+i) % 2147483647:=Int.emod_nonneg _ (by decide)
  have b1:(sd * 48271+i) % 2147483647 < 2147483647:=Int.emod_lt_of_pos _ (by decide)
  exact ⟨_,_,rfl,rfl,by omega,by omega⟩
 rintro σ H2 ⟨e3,sd,rfl,rfl,s0,s1⟩
 refine QN (xr ?_)
 refine R9 (fun σ' H'=>∃ (n:Int),σ' = [some (.ref a),some (.int k),some (.int sd),e3,some (.int n)] /\ H' = H2) ?_ ?_
 ·rintro σ' H' ⟨n,rfl,rfl⟩
  refine ⟨_,rfl,_,_,rfl,rfl,⟨by decide,by decide,by decide⟩,_,_,rfl,rfl,_,_,rfl,_,rfl,_,rfl,_,_,rfl,rfl,re ⟨by omega,by omega⟩,_,rfl,_,_,rfl,rfl,WC ⟨by decide,by decide⟩,_,_,rfl,rfl,_,_,rfl,rfl,(by show (0:Int) < 2147483563; decide),_,_,rfl,rfl,szl rfl,fun p hp=>?_⟩
  refine q p _ (gt.free (by simp) hp) (gt.trans (Grow.new hp _)) ⟨_,_,zc,?_⟩
  split <;> omega
 intro hr2
 refine ⟨_,rfl,_,rfl,a,_,rfl,.inl hs1.sq,_,_,rfl,rfl,_,rfl,?_⟩
 by_cases c:k < ((ns.map V.int).length:Int)
 ·refine y7 (decide_eq_true c) ?_
  have hj:k.toNat < ns.length:=by omega
  refine ⟨_,rfl,_,rfl,a,_,_,V.int ns[k.toNat],rfl,rfl,hs1.sq,?_,?_⟩
  ·have hv:(ns.map V.int)[k.toNat]? = some (V.int ns[k.toNat]):=by rw [List.getElem?_map,List.getElem?_eq_getElem hj]; rfl
   have:=zP hv
   rw [Int.toNat_of_nonneg k0] at this; exact this
  ·exact hr2 _ _ ⟨_,rfl,rfl⟩
 ·exact yF (decide_eq_false c) (hr2 _ _ ⟨_,rfl,rfl⟩)
theorem Yb:FnScope ["thing"] ["thing"] (zf (top 21)):=⟨rfl,rfl,rfl,by decide +kernel,rfl,by decide +kernel,by decide +kernel⟩
theorem Yc (F:Fun K "is_board" "is_board" (top 21) f fd) (B:Blt mg) (qc0:zm P w K mg base n "is_whole" ["thing"] (xy K))   {t_MOST_BOXES:Tok} (g_MOST_BOXES:mg "MOST_BOXES" = some (.int 16 t_MOST_BOXES))  :
  FnOk P w K mg base CX0 (n+1) f fd ["thing"] (tF K):=by
 refine F.ok Yb yH (fun cdv A outer s H vs Q E hr h=>?_)
 obtain ⟨x,rfl,b,⟨r,rfl,hs⟩,b1,b2,q⟩:=h
 refine ⟨_,(zd (ye (PW.pt (rY (yL (yE (zq xY rfl B.isinstance yy (za (pv 0) (za (tw rfl B.tuple yZ) zb))))) (vh (yL (VX VU VU ze (zq zD rfl B.len wY (za (pv 0) zb)) (vV rfl g_MOST_BOXES (show zY (.int 16) (.int 16 t_MOST_BOXES) from ⟨_,rfl⟩))))))) (zi (zv uK)) zx) (zi (zv (zq (tz rfl) rfl B.all TL (za (xH (CSc.of (N':=["value"]) (sub:=[none]) (zf (top 21)) ["thing"] rfl rfl (by decide +kernel) rfl) rfl (sT (pv 0)) (fun _ _ _ _ _ _=>zk (i:=0) (show (["value"]:List Str).Nodup by decide +kernel) rfl (Or.inl rfl)) (fun _ _ _ _ _ _=>yu) (fun _ _ _ _ _ _=>(zh qc0 hr rfl (za (pv 0) zb)))) zb))))),?_⟩
 have hl:(b.map V.int).length=b.length:=List.length_map ..
 refine ⟨_,rfl,_,_,_,true,rfl,.inl ⟨rfl,_,hs⟩,rfl,_,rfl,xw ?_⟩
 refine ⟨_,rfl,r,_,rfl,.inr hs,_,_,rfl,rfl,_,rfl,y7 (decide_eq_true (by rw [hl]; omega)) ⟨_,_,rfl,rfl,_,rfl,yF (by rw [decide_eq_true (show ((b.map V.int).length:Int)<=16 by rw [hl]; omega)]; rfl) ?_⟩⟩
 refine ⟨_,rfl,r,rfl,⟨_,hs⟩,jD (fun _=>V.bl true) hs (by rw [hl]; omega) ?_ ?_⟩
 ·intro x H1 R hx g k
  obtain ⟨i,_,rfl⟩:=List.mem_map.mp hx
  exact ⟨_,rfl,_,rfl,Yp,k _ (Grow.refl _ _)⟩
 ·intro H1 p g hp
  refine ⟨p,b.map (fun _=>true),rfl,J1.of (by rw [zc,Ud]),?_⟩
  rw [jE]
  exact q _ (g.trans (Grow.new hp _))
theorem ja:FnScope ["thing"] ["thing"] (zf (top 22)):=⟨rfl,rfl,rfl,by decide +kernel,rfl,by decide +kernel,by decide +kernel⟩
theorem jb (F:Fun K "need_board" "need_board" (top 22) f fd) (B:Blt mg) (qc0:zm P w K mg base n "is_board" ["thing"] (tF K))     :
  FnOk P w K mg base CX0 (n+1) f fd ["thing"] (vw K):=by
 refine F.ok ja yH (fun cdv A outer s H vs Q E hr h=>?_)
 obtain ⟨x,rfl,b,hb,b1,b2,q⟩:=h
 refine ⟨_,(zi (ye (yL (yE (zh qc0 hr rfl (za (pv 0) zb)))) (zi xf) zx)),?_⟩
 exact ⟨_,rfl,_,rfl,b,hb,b1,b2,fun H1 g1=>⟨_,rfl,xw (q _ g1)⟩⟩
theorem jc:FnScope ["room","kept"] ["room","kept"] (zf (top 41)):=⟨rfl,rfl,rfl,by decide +kernel,rfl,by decide +kernel,by decide +kernel⟩
theorem jd (F:Fun K "need_sizes" "need_sizes" (top 41) f fd) (B:Blt mg) (qc0:zm P w K mg base n "is_within" ["thing","least","greatest"] (ya K))   {t_MOST_KEPT:Tok} (g_MOST_KEPT:mg "MOST_KEPT" = some (.int 6 t_MOST_KEPT)) {t_MOST_ROOM:Tok} (g_MOST_ROOM:mg "MOST_ROOM" = some (.int 6 t_MOST_ROOM))  :
  FnOk P w K mg base CX0 (n+1) f fd ["room","kept"] (jZ K):=by
 refine F.ok jc yq (fun cdv A outer s H vs Q E hr h=>?_)
 obtain ⟨x,y,rfl,room,kept,rfl,rfl,r1,r6,k6,q⟩:=h
 refine ⟨_,(zi (ye (PW.pt (rY (yL (yE (zh qc0 hr rfl (za (pv 0) (za ze (za (vV rfl g_MOST_ROOM (show zY (.int 6) (.int 6 t_MOST_ROOM) from ⟨_,rfl⟩)) zb)))))) (vh (yL (yE (zh qc0 hr rfl (za (pv 1) (za ze (za (vV rfl g_MOST_KEPT (show zY (.int 6) (.int 6 t_MOST_KEPT) from ⟨_,rfl⟩)) zb))))))))) (zi xf) zx)),?_⟩
 refine ⟨_,rfl,_,_,_,rfl,_,_,_,rfl,rfl,rfl,_,rfl,yF (by rw [decide_eq_true (show (1:Int)<=room by omega),decide_eq_true (show (room:Int)<=6 by omega)]; rfl) ?_⟩
 exact ⟨_,rfl,_,_,_,rfl,_,_,_,rfl,rfl,rfl,_,rfl,yF (by rw [decide_eq_true (show (0:Int)<=kept by omega),decide_eq_true (show (kept:Int)<=6 by omega)]; rfl) q⟩
theorem Yd:FnScope ["thing"] ["thing"] (zf (top 26)):=⟨rfl,rfl,rfl,by decide +kernel,rfl,by decide +kernel,by decide +kernel⟩
theorem Ye (F:Fun K "need_net" "need_net" (top 26) f fd) (B:Blt mg) (qc0:zm P w K mg base n "is_within" ["thing","least","greatest"] (ya K))   {t_DEEPEST:Tok} (g_DEEPEST:mg "DEEPEST" = some (.int 4 t_DEEPEST))  :
  FnOk P w K mg base CX0 (n+1) f fd ["thing"] (tG K):=by
 refine F.ok Yd yH (fun cdv A outer s H vs Q E hr h=>?_)
 obtain ⟨x,rfl,k,rfl,k4,q⟩:=h
 refine ⟨_,(zi (ye (yL (yE (zh qc0 hr rfl (za (pv 0) (za ze (za (vV rfl g_DEEPEST (show zY (.int 4) (.int 4 t_DEEPEST) from ⟨_,rfl⟩)) zb)))))) (zi xf) zx)),?_⟩
 exact ⟨_,rfl,_,_,_,rfl,_,_,_,rfl,rfl,rfl,_,rfl,yF (by rw [decide_eq_true (show (0:Int)<=k by omega),decide_eq_true (show (k:Int)<=4 by omega)]; rfl) q⟩
theorem sy:FnScope ["self","k","board","room","kept"] ["self","k","board","room","kept"] (zf (zj (top 45) 0)):=⟨rfl,rfl,rfl,by decide +kernel,rfl,by decide +kernel,by decide +kernel⟩
theorem sA (F:Fun K "__init__" "Net.__init__" (zj (top 45) 0) f fd) (B:Blt mg) {C:Addr} (T:NTxt K mg C) (qc0:zm P w K mg base n "need_board" ["thing"] (vw K)) (qc1:zm P w K mg base n "need_sizes" ["room","kept"] (jZ K)) (qc2:zm P w K mg base n "need_net" ["thing"] (tG K))     :
  FnOk P w K mg base CX0 (n+1) f fd ["self","k","board","room","kept"] (qJ C K):=by
 refine F.ok sy Ww (fun cdv A outer s H vs Q E hr h=>?_)
 obtain ⟨x,y,z,u,w,rfl,p,dx,k,room,kept,b,rfl,rfl,hb,rfl,rfl,k4,b1,b16,r1,r6,k6,hp,q⟩:=h
 refine ⟨_,(zd (zG (zh qc2 hr rfl (za (pv 1) zb))) (zd (zG (zh qc1 hr rfl (za (pv 3) (za (pv 4) zb)))) (zd (zG (zh qc0 hr rfl (za (pv 2) zb))) (zd (wf (pv 0) (pv 1) rfl) (zd (wf (pv 0) (pv 3) rfl) (zd (wf (pv 0) (pv 4) rfl) (zd (wf (pv 0) (zZ jq rfl B.list Rf (za (pv 2) zb)) rfl) (zd (wf (pv 0) (xg zb) rfl) (zd (wf (pv 0) ze rfl) (zd (wf (pv 0) (YL (Room.u1F hr) (CSc.of (N':=["level","line","k"]) (sub:=[none,none,some 1]) (zf (zj (top 45) 0)) ["self","k","board","room","kept"] rfl rfl (by decide +kernel) rfl) rfl (zS rfl B.range (za (zp yd (pv 1) ze) zb)) (fun _ _ _ _ _ _=>zk (i:=0) (show (["level","line","k"]:List Str).Nodup by decide +kernel) rfl (Or.inl rfl)) (fun _ _ _ _ _ _=>(zS rfl B.range (za (zp yX ze (pv 2)) zb))) (fun _ _ _ _ _ _=>zk (i:=1) (show (["level","line","k"]:List Str).Nodup by decide +kernel) rfl (Or.inl rfl)) (fun _ _ _ _ _ _=>yu) (fun _ _ _ _ _ _=>(zH (za (pv 0) (za (pv 1) zb)))) (fun _ _ _ _ _ _=>(xg zb))) rfl) (zd (wf (pv 0) (YL (Room.u1F hr) (CSc.of (N':=["stage","number","k"]) (sub:=[none,none,some 1]) (zf (zj (top 45) 0)) ["self","k","board","room","kept"] rfl rfl (by decide +kernel) rfl) rfl (uW rfl B.range (za ze (za (zp yd (pv 1) ze) zb))) (fun _ _ _ _ _ _=>zk (i:=0) (show (["stage","number","k"]:List Str).Nodup by decide +kernel) rfl (Or.inl rfl)) (fun _ _ _ _ _ _=>(zS rfl B.range (za (zp yX ze (zp yx (pv 2) ze)) zb))) (fun _ _ _ _ _ _=>zk (i:=1) (show (["stage","number","k"]:List Str).Nodup by decide +kernel) rfl (Or.inl rfl)) (fun _ _ _ _ _ _=>yu) (fun _ _ _ _ _ _=>(zH (za (pv 0) (za (pv 1) zb)))) (fun _ _ _ _ _ _=>ze)) rfl) (zd (wf (pv 0) qt rfl) (zd (wf (pv 0) (xg zb) rfl) (zd (wf (pv 0) qt rfl) (zi (wf (pv 0) qt rfl)))))))))))))))),?_⟩
 have p16:=ue k4
 refine ⟨_,rfl,_,rfl,k,rfl,k4,⟨_,rfl,_,rfl,_,_,rfl,room,kept,rfl,rfl,r1,r6,k6,⟨_,rfl,_,rfl,b,hb,b1,b16,fun H1 g1=>?_⟩⟩⟩
 have hns:∀ l j,(sG k b room kept).lines l j=[]:=fun _ _=>rfl
 have P0:Part K C p H H1 (fun _=>p) (sG k b room kept) fun _=>False:=(Part.nil hp).grow0 g1
 have e0:=g1.keep _ _ (by simp) hp
 have hb1:=g1.board hb
 have e1:=e0
 refine ⟨_,rfl,_,rfl,p,C,dx,_,rfl,e0,T.cl,T.n_depth,(by show (0:Nat) < 1000; decide),?_⟩
 rw [Vh]
 replace P0:=P0.setP (fs':=([("depth",V.int k)]:List (Str × V))) e0
 replace e0:JQ H1 p (.ins C dx ([("depth",V.int k)]:List (Str × V))) p=some (.ins C dx [("depth",V.int k)]):=zc
 replace hb1:=(Grow.setI (m:=[p]) e1 (by simp) (.ins C dx ([("depth",V.int k)]:List (Str × V)))).board hb1
 clear e1
 generalize JQ H1 p _=H2 at P0 e0 hb1 ⊢
 have e1:=e0
 refine ⟨_,rfl,_,rfl,p,C,dx,_,rfl,e0,T.cl,T.n_room,(by show (1:Nat) < 1000; decide),?_⟩
 rw [UF]
 replace P0:=P0.setP (fs':=([("depth",V.int k),("room",V.int room)]:List (Str × V))) e0
 replace e0:JQ H2 p (.ins C dx ([("depth",V.int k),("room",V.int room)]:List (Str × V))) p=some (.ins C dx [("depth",V.int k),("room",V.int room)]):=zc
 replace hb1:=(Grow.setI (m:=[p]) e1 (by simp) (.ins C dx ([("depth",V.int k),("room",V.int room)]:List (Str × V)))).board hb1
 clear e1
 generalize JQ H2 p _=H3 at P0 e0 hb1 ⊢
 have e1:=e0
 refine ⟨_,rfl,_,rfl,p,C,dx,_,rfl,e0,T.cl,T.n_most_kept,(by show (2:Nat) < 1000; decide),?_⟩
 rw [qI]
 replace P0:=P0.setP (fs':=([("depth",V.int k),("room",V.int room),("most_kept",V.int kept)]:List (Str × V))) e0
 replace e0:JQ H3 p (.ins C dx ([("depth",V.int k),("room",V.int room),("most_kept",V.int kept)]:List (Str × V))) p=some (.ins C dx [("depth",V.int k),("room",V.int room),("most_kept",V.int kept)]):=zc
 replace hb1:=(Grow.setI (m:=[p]) e1 (by simp) (.ins C dx ([("depth",V.int k),("room",V.int room),("most_kept",V.int kept)]:List (Str × V)))).board hb1
 clear e1
 generalize JQ H3 p _=H4 at P0 e0 hb1 ⊢
 obtain ⟨rb,rfl,hrb⟩:=hb1
 refine ⟨_,rfl,rb,_,rfl,.inr hrb,fun lb hlb=>?_⟩
 replace P0:=P0.add (c:=.lb) (o:=.lst (b.map V.int)) hlb (by simp) rfl (fun a ha o H z=>by cases a <;> first | exact z | exact absurd ha (by simp))
 replace e0:=(Grow.new (m:=[]) hlb (.lst (b.map V.int))).keep _ _ (by simp) e0
 generalize JQ H4 lb _=H5 at P0 e0 ⊢
 refine ⟨_,rfl,p,C,dx,_,rfl,e0,T.cl,T.n_boxes,(by show (3:Nat) < 1000; decide),?_⟩
 rw [Vi]
 replace P0:=P0.setP (fs':=([("depth",V.int k),("room",V.int room),("most_kept",V.int kept),("boxes",V.ref lb)]:List (Str × V))) e0
 replace e0:JQ H5 p (.ins C dx ([("depth",V.int k),("room",V.int room),("most_kept",V.int kept),("boxes",V.ref lb)]:List (Str × V))) p=some (.ins C dx [("depth",V.int k),("room",V.int room),("most_kept",V.int kept),("boxes",V.ref lb)]):=zc
 generalize JQ H5 p _=H6 at P0 e0 ⊢
 refine ⟨szl rfl,fun la hla=>?_⟩
 replace P0:=P0.add (c:=.la) (o:=.lst []) hla (by simp) ⟨[],rfl,trivial⟩ (fun a ha o H z=>by cases a <;> first | exact z | exact absurd ha (by simp))
 replace e0:=(Grow.new (m:=[]) hla (.lst [])).keep _ _ (by simp) e0
 generalize JQ H6 la _=H7 at P0 e0 ⊢
 refine ⟨_,rfl,p,C,dx,_,rfl,e0,T.cl,T.n_asks,(by show (4:Nat) < 1000; decide),?_⟩
 rw [UG]
 replace P0:=P0.setP (fs':=((fd5 k room kept lb la):List (Str × V))) e0
 replace e0:JQ H7 p (.ins C dx ((fd5 k room kept lb la):List (Str × V))) p=some (.ins C dx (fd5 k room kept lb la)):=zc
 generalize JQ H7 p _=H8 at P0 e0 ⊢
 refine ⟨_,rfl,p,C,dx,_,rfl,e0,T.cl,T.n_now,(by show (5:Nat) < 1000; decide),?_⟩
 rw [Ss]
 replace P0:=P0.setP (fs':=((fd6 k room kept lb la):List (Str × V))) e0
 replace e0:JQ H8 p (.ins C dx ((fd6 k room kept lb la):List (Str × V))) p=some (.ins C dx (fd6 k room kept lb la)):=zc
 generalize JQ H8 p _=H9 at P0 e0 ⊢
 have L0:LnP K C p dx (fd6 k room kept lb la) H (sG k b room kept) (fun a=>(False \/ a = .lb) \/ a = .la) (Vm (Vm (fun _=>p) .lb lb) .la la) (2 ^ k) 0 0 (fun _ _=>.non) H9:=⟨⟨_,P0.sub fun a ha=>by
  cases a with
  | ln x y=>rcases xt.mp ha with ⟨h1,h2,_⟩ | ⟨_,h2⟩ <;> exact absurd h2 (Nat.not_lt_zero _)
  | _=>exact ha,fun q hq=>by rcases xt.mp hq with ⟨h1,h2,_⟩ | ⟨_,h2⟩ <;> exact absurd h2 (Nat.not_lt_zero _),fun a _ _=>rfl⟩,e0⟩
 have e1k:((k:Int)+1).toNat=k+1:=by omega
 refine ⟨_,rfl,_,_,rfl,rfl,_,rfl,by omega,by omega,?_⟩
 rw [e1k]
 refine tU (a:=0) (m:=2 ^ k) (e2:=[some (.int k)]) (LnP K C p dx (fd6 k room kept lb la) H (sG k b room kept) (fun a=>(False \/ a = .lb) \/ a = .la) (Vm (Vm (fun _=>p) .lb lb) .la la) (2 ^ k)) rfl (by omega) p16 ⟨_,_,rfl⟩ _ L0 ?_ ?_ ?_ ?_
 ·intro i e1 F H' R hi hl r
  refine ⟨_,rfl,_,_,rfl,rfl,wv k4,_,rfl,by rw [Zw]; exact Int.le_trans (by decide) (Int.natCast_nonneg _),by rw [Zw]; exact Int.lt_of_le_of_lt (Int.ofNat_le.mpr p16) (by decide),?_⟩
  rw [Zw,Int.toNat_natCast]; exact r
 ·intro i j F H' KK hi hj hl kk
  refine ⟨_,rfl,_,rfl,szl rfl,fun t ht=>⟨szl rfl,fun l hl'=>?_⟩⟩
  have gt:=Grow.new (m:=[]) ht (.tup [.int ((0+i:Nat):Int),.int (j:Int)])
  have gl:=Grow.new (m:=[]) hl' (.lst [])
  exact kk t (.ref l) _ (gl.tup _ _ zc) (fun c xs hc=>gl.tup _ _ (gt.tup _ _ hc)) ((hl.grow gt).step (fun l y z=>by rcases z with (z | z) | z <;> cases z) ⟨fun z=>(by rcases z with (z | z) | z <;> cases z),fun z=>(by rcases z with (z | z) | z <;> cases z)⟩ hns hl')
 ·exact fun i F H' hi hl=>hl.row
 clear P0 e0 L0
 intro F H10 lp dl hdl
 obtain ⟨⟨A1,P0,hF,hA⟩,e0⟩:=lp
 have eln:sH F (y8 0 (2 ^ k) (k+1) 0)=xQ A1 k:=by
  rw [XG]; exact rK hF
 rw [eln]
 replace P0:=P0.add (c:=.dl) (o:=.dT (xQ A1 k)) hdl (fun z=>by rcases z with (z | z) | z <;> cases z) rfl (fun a ha o H z=>by cases a <;> first | exact z | exact absurd ha (by simp [DL]))
 replace e0:=(Grow.new (m:=[]) hdl (.dT (xQ A1 k))).keep _ _ (by simp) e0
 have A1b:A1 .lb=lb:=hA .lb (.inl (.inr rfl)) fun _ _=>by simp
 have A1a:A1 .la=la:=hA .la (.inr rfl) fun _ _=>by simp
 generalize JQ H10 dl _=H11 at P0 e0 ⊢
 refine ⟨_,rfl,p,C,dx,_,rfl,e0,T.cl,T.n_lines,(by show (6:Nat) < 1000; decide),?_⟩
 rw [Vj]
 replace P0:=P0.setP (fs':=((fd7 k room kept lb la dl):List (Str × V))) e0
 replace e0:JQ H11 p (.ins C dx ((fd7 k room kept lb la dl):List (Str × V))) p=some (.ins C dx (fd7 k room kept lb la dl)):=zc
 generalize JQ H11 p _=H12 at P0 e0 ⊢
 have e2k:((k:Int)+1 - 1).toNat=k:=by omega
 have ek1:((2 ^ (k - 1):Nat))<=16:=Nat.le_trans (Nat.pow_le_pow_right (by decide) (by omega)) p16
 refine ⟨_,rfl,_,_,rfl,rfl,_,_,rfl,⟨by decide,by decide,by omega,by omega⟩,?_⟩
 rw [e2k]
 refine tU (a:=1) (m:=2 ^ (k - 1)) (e2:=[some (.int k)]) (fun i j F H'=>Grow [] H12 H' /\ ∀ q ∈ y8 1 (2 ^ (k - 1)) i j,F q.1 q.2 = .int 0) rfl (by omega) ek1 ⟨_,_,rfl⟩ (fun _ _=>.int 0) ⟨Grow.refl _ _,fun _ _=>rfl⟩ ?_ ?_ ?_ ?_
 ·intro i e1 F H' R hi hl r
  have ek:(k:Int) - 1=((k - 1:Nat):Int):=by omega
  refine ⟨_,rfl,_,_,rfl,rfl,1,((k - 1:Nat):Int),rfl,congrArg V.int ek,wv (by omega),_,rfl,by rw [Zw]; exact Int.le_trans (by decide) (Int.natCast_nonneg _),by rw [Zw]; exact Int.lt_of_le_of_lt (Int.ofNat_le.mpr ek1) (by decide),?_⟩
  rw [Zw,Int.toNat_natCast]; exact r
 ·intro i j F H' KK hi hj hl kk
  refine ⟨_,rfl,_,rfl,szl rfl,fun t ht=>?_⟩
  have gt:=Grow.new (m:=[]) ht (.tup [.int ((1+i:Nat):Int),.int (j:Int)])
  refine kk t (.int 0) _ zc (fun c xs hc=>gt.tup _ _ hc) ⟨hl.1.trans gt,fun q hq=>?_⟩
  by_cases c:q.1=1+i /\ q.2=j
  ·rw [c.1,c.2,zw]
  ·rw [zB c]
   rw [YM,List.mem_append] at hq
   rcases hq with hq | hq
   ·exact hl.2 q hq
   ·have:=List.mem_singleton.mp hq
    exact absurd ⟨congrArg Prod.fst this,congrArg Prod.snd this⟩ c
 ·exact fun i F H' hi hl=>⟨hl.1,by rw [← rJ]; exact hl.2⟩
 intro F H13 lp dk hdk
 have ekp:sH F (y8 1 (2 ^ (k - 1)) k 0)=yg k (fun _ _=>0):=by
  rw [XH]; exact rK lp.2
 rw [ekp]
 replace P0:=P0.grow0 lp.1
 replace e0:=lp.1.keep _ _ (by simp) e0
 replace P0:=P0.add (c:=.dk) (o:=.dT (yg k fun _ _=>0)) hdk (by simp [DL]) rfl (fun a ha o H z=>by cases a <;> first | exact z | exact absurd ha (by simp [DL]))
 replace e0:=(Grow.new (m:=[]) hdk (.dT (yg k fun _ _=>0))).keep _ _ (by simp) e0
 generalize JQ H13 dk _=H14 at P0 e0 ⊢
 refine ⟨_,rfl,p,C,dx,_,rfl,e0,T.cl,T.n_keeping,(by show (7:Nat) < 1000; decide),?_⟩
 rw [ZS]
 replace P0:=P0.setP (fs':=((fd8 k room kept lb la dl dk):List (Str × V))) e0
 replace e0:JQ H14 p (.ins C dx ((fd8 k room kept lb la dl dk):List (Str × V))) p=some (.ins C dx (fd8 k room kept lb la dl dk)):=zc
 generalize JQ H14 p _=H15 at P0 e0 ⊢
 refine fun dd hdd=>?_
 replace P0:=P0.add (c:=.dd) (o:=.dK []) hdd (by simp [DL]) rfl (fun a ha o H z=>by cases a <;> first | exact z | exact absurd ha (by simp [DL]))
 replace e0:=(Grow.new (m:=[]) hdd (.dK [])).keep _ _ (by simp) e0
 generalize JQ H15 dd _=H16 at P0 e0 ⊢
 refine ⟨_,rfl,p,C,dx,_,rfl,e0,T.cl,T.n_done_in,(by show (8:Nat) < 1000; decide),?_⟩
 rw [ZT]
 replace P0:=P0.setP (fs':=((fd9 k room kept lb la dl dk dd):List (Str × V))) e0
 replace e0:JQ H16 p (.ins C dx ((fd9 k room kept lb la dl dk dd):List (Str × V))) p=some (.ins C dx (fd9 k room kept lb la dl dk dd)):=zc
 generalize JQ H16 p _=H17 at P0 e0 ⊢
 refine ⟨szl rfl,fun lg hlg=>?_⟩
 replace P0:=P0.add (c:=.lg) (o:=.lst []) hlg (by simp [DL]) rfl (fun a ha o H z=>by cases a <;> first | exact z | exact absurd ha (by simp [DL]))
 replace e0:=(Grow.new (m:=[]) hlg (.lst [])).keep _ _ (by simp) e0
 generalize JQ H17 lg _=H18 at P0 e0 ⊢
 refine ⟨_,rfl,p,C,dx,_,rfl,e0,T.cl,T.n_logged,(by show (9:Nat) < 1000; decide),?_⟩
 rw [XF]
 replace P0:=P0.setP (fs':=((QY k room kept lb la dl dk dd lg):List (Str × V))) e0
 replace e0:JQ H18 p (.ins C dx ((QY k room kept lb la dl dk dd lg):List (Str × V))) p=some (.ins C dx (QY k room kept lb la dl dk dd lg)):=zc
 generalize JQ H18 p _=H19 at P0 e0 ⊢
 refine fun df hdf=>?_
 replace P0:=P0.add (c:=.df) (o:=.dK []) hdf (by simp [DL]) rfl (fun a ha o H z=>by cases a <;> first | exact z | exact absurd ha (by simp [DL]))
 replace e0:=(Grow.new (m:=[]) hdf (.dK [])).keep _ _ (by simp) e0
 generalize JQ H19 df _=H20 at P0 e0 ⊢
 refine ⟨_,rfl,p,C,dx,_,rfl,e0,T.cl,T.n_found,(by show (10:Nat) < 1000; decide),?_⟩
 rw [Vk]
 replace P0:=P0.setP (fs':=((QZ k room kept lb la dl dk dd lg df):List (Str × V))) e0
 replace e0:JQ H20 p (.ins C dx ((QZ k room kept lb la dl dk dd lg df):List (Str × V))) p=some (.ins C dx (QZ k room kept lb la dl dk dd lg df)):=zc
 generalize JQ H20 p _=H21 at P0 e0 ⊢
 refine fun da hda=>?_
 replace P0:=P0.add (c:=.da) (o:=.dK []) hda (by simp [DL]) rfl (fun a ha o H z=>by cases a <;> first | exact z | exact absurd ha (by simp [DL]))
 replace e0:=(Grow.new (m:=[]) hda (.dK [])).keep _ _ (by simp) e0
 generalize JQ H21 da _=H22 at P0 e0 ⊢
 refine ⟨_,rfl,p,C,dx,_,rfl,e0,T.cl,T.n_answers,(by show (11:Nat) < 1000; decide),?_⟩
 rw [ZU]
 replace P0:=P0.setP (fs':=((Qc k room kept lb la dl dk dd lg df da):List (Str × V))) e0
 replace e0:JQ H22 p (.ins C dx ((Qc k room kept lb la dl dk dd lg df da):List (Str × V))) p=some (.ins C dx (Qc k room kept lb la dl dk dd lg df da)):=zc
 generalize JQ H22 p _=H23 at P0 e0 ⊢
 have hd:∀ a,okA (sG k b room kept) a->a ≠ .p->(((((DL (2 ^ k) (k+1) 0 (fun a=>(False \/ a = .lb) \/ a = .la) a \/ a = .dl) \/ a = .dk) \/ a = .dd) \/ a = .lg) \/ a = .df) \/ a = .da:=by
  intro a ha hn
  cases a with
  | p=>exact absurd rfl hn
  | ln l j =>
   have h1:l<=k:=ha.1
   have h2:j < 2 ^ k:=ha.2
   exact .inl (.inl (.inl (.inl (.inl (.inl (xt.mpr (.inl ⟨Nat.zero_le _,by show l < 0+(k+1); omega,h2⟩)))))))
  | dn t =>
   have h1:1<=t:=ha.1
   have h2:t<=0:=ha.2
   omega
  | _=>simp [DL]
 have N:=P0.net (dx:=dx) hd (by simp [DL]) (by
  rw [e0]
  show some (HO.ins C dx (Qc k room kept lb la dl dk dd lg df da))=some (HO.ins C dx [("depth",V.int k),("room",V.int room),("most_kept",V.int kept),("boxes",V.ref (A1 .lb)),("asks",V.ref (A1 .la)),("now",V.int 0),("lines",V.ref dl),("keeping",V.ref dk),("done_in",V.ref dd),("logged",V.ref lg),("found",V.ref df),("answers",V.ref da)])
  rw [A1b,A1a])
 exact q _ _ P0.g yR (fun a ha hn=>by rw [yS hn]; exact P0.fr a (hd a ha hn)) N
theorem yT:FnScope ["_law_script","_law_j","_law_pot_here","_law_k","_law_turns","_law_many","_law_room","_law_kept","_law_some","_law_values","_law_one","_law_second","_law_deeper","_law_more","_law_third","_law_deeds","_law_kept_rows","_law_asks","_law_turn","_law_ask_here","_law_lost_here","_law_told","_law_shown_here"] ["_law_script"] (zf (top 60)):=⟨rfl,rfl,rfl,by decide +kernel,rfl,by decide +kernel,by decide +kernel⟩
theorem R4 (F:Fun K "law" "law" (top 60) f fd) (B:Blt mg) {C:Addr} (T:NTxt K mg C) (mk_C:x6 P w K mg base C n ["self","k","board","room","kept"] (qJ C K)) (qc0:zm P w K mg base n "_law_once_more" ["_law_net","_law_k","_law_deeds","_law_asks"] (j9 C K)) (qc1:zm P w K mg base n "_law_shown" ["_law_net","_law_k","_law_asks"] (uy C K)) (qc2:zm P w K mg base n "_law_beat" ["_law_net","_law_lost_here","_law_plain"] (j6 C K)) (qc3:zm P w K mg base n "_law_mixed" ["_law_pot_here","_law_things"] (rS K)) (qc4:zm P w K mg base n "_law_other" ["_law_pot_here","_law_net","_law_k","_law_many"] (rT C K)) (qc5:zm P w K mg base n "_law_take" ["_law_pot_here","_law_many"] (wu K)) (qc6:zm P w K mg base n "_law_lost" ["_law_pot_here","_law_k"] (si K)) (qc7:zm P w K mg base n "_law_both" ["_law_pot_here","_law_one","_law_second","_law_asks","_law_ask_here"] (j7 C K)) (qc8:zm P w K mg base n "_law_ask" ["_law_pot_here","_law_k","_law_many","_law_some"] (YU K)) (qc9:zm P w K mg base n "_law_number" ["_law_pot_here"] (ZX K)) (qc10:zm P w K mg base n "_law_pot" ["_law_script","_law_k"] (UT K))     :
  FnOk P w K mg base CX0 (n+1) f fd ["_law_script"] (Yq K):=by
 refine F.ok yT yH (fun cdv A outer s H vs Q E hr h=>?_)
 obtain ⟨x,rfl,a,sc,rfl,hs,h63,q⟩:=h
 refine ⟨_,(zd (yW PassesOwn.never rfl (zS rfl B.range (za (zq (uY rfl) rfl B.max TK (za ze (za (zq (X8 rfl) rfl B.min Qv (za ze (za (zq zD rfl B.len wY (za (pv 0) zb)) zb))) zb))) zb)) (zk (i:=1) yT.nd rfl (Or.inl rfl)) (zd (zJ (i:=2) yT.nd rfl (Or.inr rfl) (zh qc10 hr rfl (za (pv 0) (za (pv 1) zb)))) (zd (we (zH (za (zh qc5 hr rfl (za (pv 2) (za ze zb))) (za (zp yd ze (zh qc5 hr rfl (za (pv 2) (za ze zb)))) (za (zp yd ze (zh qc5 hr rfl (za (pv 2) (za ze zb)))) zb)))) (xP rfl (zo (zk (i:=3) yT.nd rfl (Or.inl rfl)) (zo (zk (i:=4) yT.nd rfl (Or.inl rfl)) (zo (zk (i:=5) yT.nd rfl (Or.inr rfl)) yo))))) (zd (X0 (i:=6) (j:=7) rfl yT.nd rfl rfl (by decide) rfl rfl (za (zp yd ze (zh qc5 hr rfl (za (pv 2) (za ze zb)))) (za (zh qc5 hr rfl (za (pv 2) (za ze zb))) zb)) rfl) (zd (vy (i:=8) yT.nd rfl rfl (CSc.of (N':=["_law_turn","_law_pot_here","_law_many"]) (sub:=[none,some 2,some 5]) (zf (top 60)) ["_law_script","_law_j","_law_pot_here","_law_k","_law_turns","_law_many","_law_room","_law_kept","_law_some","_law_values","_law_one","_law_second","_law_deeper","_law_more","_law_third","_law_deeds","_law_kept_rows","_law_asks","_law_turn","_law_ask_here","_law_lost_here","_law_told","_law_shown_here"] rfl rfl (by decide +kernel) rfl) rfl (zS rfl B.range (za (zp yd ze (zh qc5 hr rfl (za (pv 2) (za ze zb)))) zb)) (fun _ _ _ _ _ _=>zk (i:=0) (show (["_law_turn","_law_pot_here","_law_many"]:List Str).Nodup by decide +kernel) rfl (Or.inl rfl)) (fun _ _ _ _ _ _=>yu) (fun _ _ _ _ _ _=>(zh qc5 hr rfl (za (pv 1) (za (pv 2) zb))))) (zd (zJ (i:=9) yT.nd rfl (Or.inl rfl) (zZ z8 rfl B.tuple yZ (za (xH (CSc.of (N':=["_law_box","_law_pot_here"]) (sub:=[none,some 2]) (zf (top 60)) ["_law_script","_law_j","_law_pot_here","_law_k","_law_turns","_law_many","_law_room","_law_kept","_law_some","_law_values","_law_one","_law_second","_law_deeper","_law_more","_law_third","_law_deeds","_law_kept_rows","_law_asks","_law_turn","_law_ask_here","_law_lost_here","_law_told","_law_shown_here"] rfl rfl (by decide +kernel) rfl) rfl (zS rfl B.range (za (pv 5) zb)) (fun _ _ _ _ _ _=>zk (i:=0) (show (["_law_box","_law_pot_here"]:List Str).Nodup by decide +kernel) rfl (Or.inl rfl)) (fun _ _ _ _ _ _=>yu) (fun _ _ _ _ _ _=>(zh qc9 hr rfl (za (pv 1) zb)))) zb))) (zd (X0 (i:=10) (j:=11) rfl yT.nd rfl rfl (by decide) rfl rfl (za (uQ mk_C hr rfl T.mgC (za (pv 3) (za (pv 9) (za (pv 6) (za (pv 7) zb))))) (za (uQ mk_C hr rfl T.mgC (za (pv 3) (za (pv 9) (za (pv 6) (za (pv 7) zb))))) zb)) rfl) (zd (X0 (i:=12) (j:=13) rfl yT.nd rfl rfl (by decide) rfl rfl (za (zh qc5 hr rfl (za (pv 2) (za ze zb))) (za (zp yd ze (zh qc5 hr rfl (za (pv 2) (za ze zb)))) zb)) rfl) (zd (zJ (i:=14) yT.nd rfl (Or.inl rfl) (uQ mk_C hr rfl T.mgC (za (pv 12) (za (zZ z8 rfl B.tuple yZ (za (xH (CSc.of (N':=["_law_box","_law_pot_here"]) (sub:=[none,some 2]) (zf (top 60)) ["_law_script","_law_j","_law_pot_here","_law_k","_law_turns","_law_many","_law_room","_law_kept","_law_some","_law_values","_law_one","_law_second","_law_deeper","_law_more","_law_third","_law_deeds","_law_kept_rows","_law_asks","_law_turn","_law_ask_here","_law_lost_here","_law_told","_law_shown_here"] rfl rfl (by decide +kernel) rfl) rfl (zS rfl B.range (za (pv 13) zb)) (fun _ _ _ _ _ _=>zk (i:=0) (show (["_law_box","_law_pot_here"]:List Str).Nodup by decide +kernel) rfl (Or.inl rfl)) (fun _ _ _ _ _ _=>yu) (fun _ _ _ _ _ _=>(zh qc9 hr rfl (za (pv 1) zb)))) zb)) (za (zp yd ze (zh qc5 hr rfl (za (pv 2) (za ze zb)))) (za (zh qc5 hr rfl (za (pv 2) (za ze zb))) zb)))))) (zd (TM (i:=15) (j:=16) (k:=17) rfl yT.nd rfl rfl rfl (by decide) (by decide) (by decide) rfl rfl rfl (za (xg zb) (za (xg zb) (za ze zb))) rfl) (zd (yW PassesOwn.never rfl (zS rfl B.range (za (zp yd (pv 4) ze) zb)) (zk (i:=18) yT.nd rfl (Or.inl rfl)) (zd (yW PassesOwn.never rfl (zS rfl B.range (za (zp xZ (zh qc5 hr rfl (za (pv 2) (za ze zb))) (zZ vk rfl B.int Wm (za (xK qa (pv 18) (pv 4) (zF _)) zb))) zb)) (zk (i:=19) yT.nd rfl (Or.inl rfl)) (zd (zG (wK PySem.F.plainAttrs_list PySem.F.slot_list_append PySem.F.type_list_append xh (pv 15) (za (zH (za XZ (za (zh qc8 hr rfl (za (pv 2) (za (pv 3) (za (pv 5) (za (pv 8) zb))))) zb))) zb))) (zd (ye (yL (yE (zh qc7 hr rfl (za (pv 2) (za (pv 10) (za (pv 11) (za (pv 17) (za (yC xq (yC yp (pv 15) (X2 jj ze) (fun _ _=>rfl)) ze (fun _ _=>rfl)) zb)))))))) (zi (zv uK)) zx) (zi (zJ (i:=17) yT.nd rfl (Or.inl rfl) (zp yd (pv 17) ze)))))) (zd (zJ (i:=20) yT.nd rfl (Or.inl rfl) (zh qc6 hr rfl (za (pv 2) (za (pv 3) zb)))) (zd (zG (wK PySem.F.plainAttrs_list PySem.F.slot_list_append PySem.F.type_list_append xh (pv 15) (za (zH (za XZ (za (pv 20) zb))) zb))) (zd (zJ (i:=21) yT.nd rfl (Or.inl rfl) (zh qc2 hr rfl (za (pv 10) (za (pv 20) (za (zh qc5 hr rfl (za (pv 2) (za ze zb))) zb))))) (zd (zG (zh qc4 hr rfl (za (pv 2) (za (pv 14) (za (pv 12) (za (pv 13) zb)))))) (zd (ye (zE ZB (zq (ym hr) rfl B.repr wP (za (zh qc2 hr rfl (za (pv 11) (za (zh qc3 hr rfl (za (pv 2) (za (zp (qo (K:=K) rfl) (pv 20) (Yl (T1 (K:=K) rfl) (pv 20) Wg (Wh ze))) zb))) (za ze zb)))) zb)) (zq (ym hr) rfl B.repr wP (za (pv 21) zb)) (zF _)) (zi (zv uK)) zx) (zd (zJ (i:=22) yT.nd rfl (Or.inl rfl) (zh qc1 hr rfl (za (pv 10) (za (pv 3) (za (pv 17) zb))))) (zd (zG (wK PySem.F.plainAttrs_list PySem.F.slot_list_append PySem.F.type_list_append xh (pv 16) (za (zH (za (pv 21) (za (pv 22) (za (zq (ym hr) rfl B.repr wP (za (zH (za (pv 21) (za (pv 22) zb))) zb)) zb)))) zb))) (zi (ye (PW.pt (rY (zE ZB (zq (ym hr) rfl B.repr wP (za (zh qc1 hr rfl (za (pv 10) (za (pv 3) (za (pv 17) zb)))) zb)) (zq (ym hr) rfl B.repr wP (za (pv 22) zb)) (zF _)) (vh (zE ZB (zq (ym hr) rfl B.repr wP (za (zh qc1 hr rfl (za (pv 11) (za (pv 3) (za (pv 17) zb)))) zb)) (zq (ym hr) rfl B.repr wP (za (pv 22) zb)) (zF _))))) (zi (zv uK)) zx))))))))))) (zd (ye (yL (yE (zq (tz rfl) rfl B.all TL (za (xH (CSc.of (N':=["_law_told","_law_shown_here","_law_text"]) (sub:=[none,none,none]) (zf (top 60)) ["_law_script","_law_j","_law_pot_here","_law_k","_law_turns","_law_many","_law_room","_law_kept","_law_some","_law_values","_law_one","_law_second","_law_deeper","_law_more","_law_third","_law_deeds","_law_kept_rows","_law_asks","_law_turn","_law_ask_here","_law_lost_here","_law_told","_law_shown_here"] rfl rfl (by decide +kernel) rfl) rfl (wX (pv 16)) (fun _ _ _ _ _ _=>tK (K:=K) 3 rfl rfl (zo (zk (i:=0) (show (["_law_told","_law_shown_here","_law_text"]:List Str).Nodup by decide +kernel) rfl (Or.inl rfl) (Or.inr rfl)) (zo (zk (i:=1) (show (["_law_told","_law_shown_here","_law_text"]:List Str).Nodup by decide +kernel) rfl (Or.inl rfl) (Or.inr rfl)) (zo (zk (i:=2) (show (["_law_told","_law_shown_here","_law_text"]:List Str).Nodup by decide +kernel) rfl (Or.inl rfl) (Or.inr rfl)) yo))) rfl rfl) (fun _ _ _ _ _ _=>yu) (fun _ _ _ _ _ _=>(xK wn (zq (Xj (K:=K) rfl hr) rfl B.repr wP (za (zH (za (pv 0) (za (pv 1) zb))) zb)) (pv 2) (zF _)))) zb)))) (zi (zv uK)) zx) (zi (ye (zE ZB (zh qc0 hr rfl (za (uQ mk_C hr rfl T.mgC (za (pv 3) (za (pv 9) (za (pv 6) (za (pv 7) zb))))) (za (pv 3) (za (pv 15) (za (pv 17) zb))))) (zq (ym hr) rfl B.repr wP (za (zh qc1 hr rfl (za (pv 10) (za (pv 3) (za (pv 17) zb)))) zb)) (zF _)) (zi (zv uK)) zx)))))))))))))) (zi (zv uK))),?_⟩
 have hl:(sc.map V.int).length=sc.length:=List.length_map ..
 refine ⟨_,rfl,a,_,rfl,.inl hs.sq,_,_,rfl,_,_,rfl,_,rfl,?_,?_,?_⟩
 ·split <;> split <;> omega
 ·rw [hl]; split <;> split <;> omega
 refine yN (fun i σ H'=>∃ (e1 e2 e3 e4 e5 e6 e7 e8 e9 e10 e11 e12 e13 e14 e15 e16 e17 e18 e19 e20 e21 e22:Option V),σ = [some (.ref a),e1,e2,e3,e4,e5,e6,e7,e8,e9,e10,e11,e12,e13,e14,e15,e16,e17,e18,e19,e20,e21,e22] /\ Scr K H' a sc) ⟨_,_,_,_,_,_,_,_,_,_,_,_,_,_,_,_,_,_,_,_,_,_,rfl,hs⟩ ?_ ?_
 rotate_left
 ·rintro σ H1 _
  exact q _
 rintro i σ H1 hi ⟨e1,e2,e3,e4,e5,e6,e7,e8,e9,e10,e11,e12,e13,e14,e15,e16,e17,e18,e19,e20,e21,e22,rfl,hs1⟩
 have i63:i < 1000:=by
  have hi':=hi
  revert hi'
  split <;> split <;> omega
 try dsimp only
 refine uM (fun v H'=>∃ p,v = .ref p /\ Scr K H' a sc /\ Pot H' p) (fun Kk hk=>⟨_,rfl,_,rfl,_,_,rfl,a,sc,_,rfl,rfl,hs1,by omega,by omega,fun p H2 hp g2 pp=>hk _ _ ⟨p,rfl,g2.scr hs1,pp⟩⟩) ?_
 rintro _ H2 ⟨p,rfl,hs2,pp2⟩
 refine vR (fun σ' H'=>∃ (k tn mn:Nat),σ' = [some (.ref a),some (.int (0+(i:Int))),some (.ref p),some (.int k),some (.int tn),some (.int mn),e6,e7,e8,e9,e10,e11,e12,e13,e14,e15,e16,e17,e18,e19,e20,e21,e22] /\ (k<=4 /\ tn<=10 /\ 1<=mn /\ mn<=16) /\ Scr K H' a sc /\ Pot H' p) (fun D' hD=>⟨_,rfl,_,_,rfl,p,5,rfl,rfl,pp2,by decide,by decide,fun t5 H3 a50 a51 g3 pp3=>⟨_,rfl,_,_,rfl,p,10,rfl,rfl,pp3,by decide,by decide,fun t8 H4 a80 a81 g4 pp4=>⟨_,_,rfl,rfl,_,rfl,_,_,rfl,p,16,rfl,rfl,pp4,by decide,by decide,fun t16 H5 a160 a161 g5 pp5=>⟨_,_,rfl,rfl,szl rfl,fun tt htt=>⟨tt,_,rfl,J3.of zc,rfl,_,_,rfl,_,_,rfl,_,_,rfl,rfl,?_⟩⟩⟩⟩⟩) ?_
 ·have gtt:=Grow.new (m:=[]) htt (.tup [.int t5,.int (1+t8),.int (1+t16)])
  obtain ⟨k,rfl⟩:∃ k:Nat,t5=k:=⟨t5.toNat,by omega⟩
  obtain ⟨tn,htn⟩:∃ tn:Nat,1+t8=tn:=⟨(1+t8).toNat,by omega⟩
  obtain ⟨mn,hmn⟩:∃ mn:Nat,1+t16=mn:=⟨(1+t16).toNat,by omega⟩
  exact hD _ _ ⟨k,tn,mn,by rw [← htn,← hmn]; rfl,⟨by omega,by omega,by omega,by omega⟩,gtt.scr (g5.scr (g4.scr (g3.scr hs2))),pp5.grow gtt⟩
 clear hs1 hs2 pp2
 rintro σ H6 ⟨k,tn,mn,rfl,⟨k4,tn10,mn1,mn16⟩,hs6,pp6⟩
 have p16:=ue k4
 refine vR (fun σ' H'=>∃ (rm kp:Nat),σ' = [some (.ref a),some (.int (0+(i:Int))),some (.ref p),some (.int k),some (.int tn),some (.int mn),some (.int rm),some (.int kp),e8,e9,e10,e11,e12,e13,e14,e15,e16,e17,e18,e19,e20,e21,e22] /\ (1<=rm /\ rm<=6 /\ kp<=6) /\ Scr K H' a sc /\ Pot H' p) (fun D' hD=>⟨_,rfl,_,_,rfl,p,6,rfl,rfl,pp6,by decide,by decide,fun r6 H7 r60 r61 g7 pp7=>⟨_,_,rfl,rfl,_,rfl,_,_,rfl,p,7,rfl,rfl,pp7,by decide,by decide,fun q7 H8 q70 q71 g8 pp8=>⟨_,_,rfl,?_⟩⟩⟩) ?_
 ·obtain ⟨rm,hrm⟩:∃ rm:Nat,1+r6=rm:=⟨(1+r6).toNat,by omega⟩
  obtain ⟨kp,rfl⟩:∃ kp:Nat,q7=kp:=⟨q7.toNat,by omega⟩
  exact hD _ _ ⟨rm,kp,by rw [← hrm]; rfl,⟨by omega,by omega,by omega⟩,g8.scr (g7.scr hs6),pp8⟩
 clear hs6 pp6
 rintro σ H8 ⟨rm,kp,rfl,⟨rm1,rm6,kp6⟩,hs8,pp8⟩
 refine uM (fun v H'=>∃ (l:Addr) (sm:List Int),v = .ref l /\ H' l=some (.lst (sm.map V.int)) /\ 1<=sm.length /\ sm.length<=1000 /\ (∀ b ∈ sm,0<=b /\ b < mn) /\ p ≠ l /\ Pot H' p /\ Scr K H' a sc) (fun Kk hk=>⟨_,rfl,_,_,rfl,p,3,rfl,rfl,pp8,by decide,by decide,fun t3 H9 t30 t31 g9 pp9=>⟨_,_,rfl,rfl,_,rfl,by omega,by omega,vp (fun j vs H'=>∃ sm:List Int,vs=sm.map V.int /\ sm.length=j /\ (∀ b ∈ sm,0<=b /\ b < mn) /\ Pot H' p /\ Scr K H' a sc) ⟨[],rfl,rfl,by simp,pp9,g9.scr hs8⟩ ?_ ?_⟩⟩) ?_
 ·rintro j vs H10 hj ⟨sm,rfl,sl,sb,pp10,hs10⟩
  refine ⟨_,rfl,_,rfl,_,_,rfl,p,mn,rfl,rfl,pp10,by omega,by omega,fun b H11 b0 b1 g11 pp11=>⟨zr (by rw [List.length_map]; omega),sm ++ [b],by rw [List.map_append]; rfl,by rw [List.length_append,sl]; rfl,fun x hx=>?_,pp11,g11.scr hs10⟩⟩
  rcases List.mem_append.mp hx with hx | hx
  ·exact sb x hx
  ·rw [List.mem_singleton.mp hx]; exact ⟨b0,b1⟩
 ·rintro vs H10 ⟨sm,rfl,sl,sb,pp10,hs10⟩ l hl'
  have gl:=Grow.new (m:=[]) hl' (.lst (sm.map V.int))
  refine hk _ _ ⟨l,sm,rfl,zc,by omega,by omega,sb,fun e=>?_,pp10.grow gl,gl.scr hs10⟩
  obtain ⟨p0,p1,z,_⟩:=pp10
  rw [e,hl'] at z; cases z
 rintro _ H9 ⟨l,sm,rfl,hl9,sm1,smL,smb,npl,pp9,hs9⟩
 clear pp8 hs8
 refine uM (fun v H'=>∃ (tb:Addr) (b:List Int),v = .ref tb /\ J3 K H' tb (b.map V.int) /\ b.length=mn /\ InC (10 ^ 29) b /\ Grow [p] H9 H' /\ Pot H' p) (fun Kk hk=>⟨_,rfl,_,rfl,by omega,by omega,vp (fun j vs H'=>∃ b:List Int,vs=b.map V.int /\ b.length=j /\ InC (10 ^ 29) b /\ Grow [p] H9 H' /\ Pot H' p) ⟨[],rfl,rfl,(fun v hv=>by cases hv),Grow.refl _ _,pp9⟩ ?_ ?_⟩) ?_
 ·rintro j vs H10 hj ⟨b,rfl,bl,bb,g10,pp10⟩
  rw [Int.toNat_natCast] at hj
  refine ⟨_,rfl,_,rfl,p,rfl,pp10,fun n H11 nb1 nb2 g11 pp11=>⟨zr (by rw [List.length_map]; omega),b ++ [n],by rw [List.map_append]; rfl,by rw [List.length_append,bl]; rfl,fun v hv=>?_,g10.trans g11,pp11⟩⟩
  rcases List.mem_append.mp hv with z | z
  ·exact bb v z
  ·rw [List.mem_singleton.mp z]; exact ⟨nb1,nb2⟩
 ·rintro vs H10 ⟨b,rfl,bl,bb,g10,pp10⟩ lb hlb
  rw [Int.toNat_natCast] at bl
  have gb:=Grow.new (m:=[]) hlb (.lst (b.map V.int))
  refine ⟨_,_,rfl,.inl ⟨J1.of zc,fun tb htb=>?_⟩⟩
  have gb2:=Grow.new (m:=[]) htb (.tup (b.map V.int))
  exact hk _ _ ⟨tb,b,rfl,J3.of zc,bl,bb,g10.trans ((gb.trans gb2).wk (m:=[p])),(pp10.grow gb).grow gb2⟩
 rintro _ H10 ⟨tb,b,rfl,htb,bl,bb,g10,pp10⟩
 have hs10:=g10.scr hs9
 have hl10:=g10.keep _ _ (by simpa using npl.symm) hl9
 have rg0:=SD npl pp10 hl10
 clear pp9 hs9 hl9 g10 npl
 have nn:N7 k mn 0 0 (sG k b rm kp):=by rw [← bl]; exact N7.new k4 (by omega) rm1 bb
 refine vR (fun σ' H'=>∃ (A1 A2:Ad->Addr),σ' = [some (.ref a),some (.int (0+(i:Int))),some (.ref p),some (.int k),some (.int tn),some (.int mn),some (.int rm),some (.int kp),some (.ref l),some (.ref tb),some (.ref (A1 .p)),some (.ref (A2 .p)),e12,e13,e14,e15,e16,e17,e18,e19,e20,e21,e22] /\ Reg H' (uH [p] (msA A1 (sG k b rm kp)) (msA A2 (sG k b rm kp)) [] [l] [] []) /\ NetAt K C H' A1 (sG k b rm kp) /\ NetAt K C H' A2 (sG k b rm kp) /\ H' l=some (.lst (sm.map V.int)) /\ Scr K H' a sc /\ J3 K H' tb (b.map V.int) /\ Pot H' p) (fun D' hD=>?_) ?_
 ·refine ⟨_,rfl,_,rfl,_,rfl,_,rfl,?_⟩
  intro x1 d1 hx1 hd1 nd1
  have go1:=(Grow.new (m:=[]) hd1 (.own x1)).trans (Grow.new (m:=[]) (show JQ H10 d1 (.own x1) x1=none by rw [zu nd1.symm]; exact hx1) (.ins C d1 []))
  refine ⟨_,_,_,_,_,rfl,x1,d1,k,rm,kp,b,rfl,rfl,⟨tb,rfl,go1.sqT htb⟩,rfl,rfl,k4,by omega,by omega,rm1,rm6,kp6,zc,fun A1 H11 g11 eA1 fr1 hn1=>⟨rfl,?_⟩⟩
  obtain ⟨G1,F1⟩:=UN hx1 hd1 nd1 g11 eA1 fr1
  have rg1:=rg0.grow 1 (R:=msA A1 (sG k b rm kp)) G1 (fun x hx=>by cases hx) fun x hx=>⟨.inr (F1 x hx),hn1.al x hx⟩
  rw [Th] at rg1
  have pp11:=pp10.grow G1
  have hl11:=G1.keep _ _ (by simp) hl10
  have hs11:=G1.scr hs10
  have tb11:=G1.sqT htb
  clear go1 fr1 g11 F1 G1 hx1 hd1 nd1 rg0 pp10 hl10 hs10 htb
  refine ⟨_,rfl,_,rfl,_,rfl,_,rfl,?_⟩
  intro x2 d2 hx2 hd2 nd2
  have go2:=(Grow.new (m:=[]) hd2 (.own x2)).trans (Grow.new (m:=[]) (show JQ H11 d2 (.own x2) x2=none by rw [zu nd2.symm]; exact hx2) (.ins C d2 []))
  refine ⟨_,_,_,_,_,rfl,x2,d2,k,rm,kp,b,rfl,rfl,⟨tb,rfl,go2.sqT tb11⟩,rfl,rfl,k4,by omega,by omega,rm1,rm6,kp6,zc,fun A2 H12 g12 eA2 fr2 hn2=>⟨rfl,_,_,rfl,?_⟩⟩
  obtain ⟨G2,F2⟩:=UN hx2 hd2 nd2 g12 eA2 fr2
  have rg2:=rg1.grow 2 (R:=msA A2 (sG k b rm kp)) G2 (fun x hx=>by cases hx) fun x hx=>⟨.inr (F2 x hx),hn2.al x hx⟩
  rw [Ti] at rg2
  have pp12:=pp11.grow G2
  have hl12:=G2.keep _ _ (by simp) hl11
  have hs12:=G2.scr hs11
  have tb12:=G2.sqT tb11
  have hn12:=hn1.grow0 G2
  clear go2 fr2 g12 F2 G2 hx2 hd2 nd2 rg1 pp11 hl11 hs11 tb11 hn1
  exact hD _ _ ⟨A1,A2,by rw [eA1,eA2]; rfl,rg2,hn12,hn2,hl12,hs12,tb12,pp12⟩
 clear rg0 pp10 hl10 hs10 htb
 rintro σ H12 ⟨A1,A2,rfl,rg2,hn12,hn2,hl12,hs12,tb12,pp12⟩
 generalize hN0:sG k b rm kp=N0 at rg2 hn12 hn2 nn
 generalize hq1:A1 .p=qq1
 generalize hq2:A2 .p=qq2
 refine vR (fun σ' H'=>∃ (dk dm:Nat),σ' = [some (.ref a),some (.int (0+(i:Int))),some (.ref p),some (.int k),some (.int tn),some (.int mn),some (.int rm),some (.int kp),some (.ref l),some (.ref tb),some (.ref qq1),some (.ref qq2),some (.int dk),some (.int dm),e14,e15,e16,e17,e18,e19,e20,e21,e22] /\ (dk<=4 /\ 1<=dm /\ dm<=16) /\ Grow [p] H12 H' /\ Pot H' p) (fun D' hD=>⟨_,rfl,_,_,rfl,p,5,rfl,rfl,pp12,by decide,by decide,fun t5' H13 b50 b51 g13 pp13=>⟨_,rfl,_,_,rfl,p,16,rfl,rfl,pp13,by decide,by decide,fun t16' H14 b160 b161 g14 pp14=>⟨_,_,rfl,rfl,_,_,rfl,?_⟩⟩⟩) ?_
 ·obtain ⟨dk,rfl⟩:∃ dk:Nat,t5' = dk:=⟨t5'.toNat,by omega⟩
  obtain ⟨dm,hdm⟩:∃ dm:Nat,1+t16' = dm:=⟨(1+t16').toNat,by omega⟩
  exact hD _ _ ⟨dk,dm,by rw [← hdm]; rfl,⟨by omega,by omega,by omega⟩,g13.trans g14,pp14⟩
 rintro σ H14 ⟨dk,dm,rfl,⟨dk4,dm1,dm16⟩,g1314,pp14⟩
 have hm0:∀ x ∈ [p],x ∈ uH [p] (msA A1 N0) (msA A2 N0) [] [l] [] [] 0:=fun x hx=>hx
 have rg3:=rg2.same 0 g1314 hm0 (Za pp14)
 have hn13:=rg2.net g1314 hm0 (j:=1) (by decide) rfl hn12
 have hn23:=rg2.net g1314 hm0 (j:=2) (by decide) rfl hn2
 have hl14:=rg2.keep g1314 hm0 (j:=4) (by decide) (List.mem_singleton.mpr rfl) hl12
 have hs14:=g1314.scr hs12
 have tb14:=g1314.sqT tb12
 clear rg2 hn12 hn2 hl12 hs12 tb12 pp12 g1314 hm0
 refine uM (fun v H'=>∃ (A3:Ad->Addr) (n3:NS),v = .ref (A3 .p) /\ Reg H' (uH [p] (msA A1 N0) (msA A2 N0) (msA A3 n3) [l] [] []) /\ NetAt K C H' A1 N0 /\ NetAt K C H' A2 N0 /\ NetAt K C H' A3 n3 /\ NX n3 /\ n3.k=dk /\ n3.boxes.length=dm /\ n3.now<=0 /\ H' l=some (.lst (sm.map V.int)) /\ Scr K H' a sc /\ J3 K H' tb (b.map V.int) /\ Pot H' p) (fun Kk hk=>⟨_,rfl,_,rfl,_,rfl,by omega,by omega,vp (fun j vs H'=>∃ b:List Int,vs=b.map V.int /\ b.length=j /\ Grow [p] H14 H' /\ Pot H' p) ⟨[],rfl,rfl,Grow.refl _ _,pp14⟩ ?_ ?_⟩) ?_
 ·rintro j vs H15 hj ⟨c,rfl,cl,g15,pp15⟩
  rw [Int.toNat_natCast] at hj
  exact ⟨_,rfl,_,rfl,p,rfl,pp15,fun n H16 _ _ g16 pp16=>⟨zr (by rw [List.length_map]; omega),c ++ [n],by rw [List.map_append]; rfl,by rw [List.length_append,cl]; rfl,g15.trans g16,pp16⟩⟩
 ·rintro vs H15 ⟨c,rfl,cl,g15,pp15⟩ lb hlb
  rw [Int.toNat_natCast] at cl
  have gb:=Grow.new (m:=[]) hlb (.lst (c.map V.int))
  refine ⟨_,_,rfl,.inl ⟨J1.of zc,fun tc htc=>?_⟩⟩
  have gb2:=Grow.new (m:=[]) htc (.tup (c.map V.int))
  have hc16:=zc (H:=JQ H15 lb (.lst (c.map V.int))) (a:=tc) (o:=.tup (c.map V.int))
  have g16:Grow [p] H14 _:=g15.trans ((gb.trans gb2).wk (m:=[p]))
  have pp16:=(pp15.grow gb).grow gb2
  generalize JQ (JQ H15 lb _) tc _=H16 at hc16 g16 pp16 ⊢
  refine ⟨_,rfl,_,_,rfl,p,6,rfl,rfl,pp16,by decide,by decide,fun r6' H17 r60' r61' g17 pp17=>⟨_,_,rfl,rfl,_,rfl,_,_,rfl,p,7,rfl,rfl,pp17,by decide,by decide,fun q7' H18 q70' q71' g18 pp18=>?_⟩⟩
  intro x3 d3 hx3 hd3 nd3
  have G18:=g16.trans (g17.trans g18)
  have hc18:=g18.tup _ _ (g17.tup _ _ hc16)
  have go3:=(Grow.new (m:=[]) hd3 (.own x3)).trans (Grow.new (m:=[]) (show JQ H18 d3 (.own x3) x3=none by rw [zu nd3.symm]; exact hx3) (.ins C d3 []))
  refine ⟨_,_,_,_,_,rfl,x3,d3,dk,(1+r6').toNat,q7'.toNat,c,rfl,rfl,⟨tc,rfl,go3.sqT (J3.of hc18)⟩,congrArg V.int (by omega),congrArg V.int (by omega),dk4,by omega,by omega,by omega,by omega,by omega,zc,fun A3 H19 g19 eA3 fr3 hn3=>⟨rfl,?_⟩⟩
  obtain ⟨G3,F3⟩:=UN hx3 hd3 nd3 g19 eA3 fr3
  have hm0:∀ x ∈ [p],x ∈ uH [p] (msA A1 N0) (msA A2 N0) [] [l] [] [] 0:=fun x hx=>hx
  have rg4:=rg3.same 0 G18 hm0 (Za pp18)
  have rg5:=rg4.grow 3 (R:=msA A3 (sG dk c (1+r6').toNat q7'.toNat)) G3 (fun x hx=>by cases hx) fun x hx=>⟨.inr (F3 x hx),hn3.al x hx⟩
  rw [Tj] at rg5
  exact hk _ _ ⟨A3,_,by rw [eA3],rg5,(rg3.net G18 hm0 (j:=1) (by decide) rfl hn13).grow0 G3,(rg3.net G18 hm0 (j:=2) (by decide) rfl hn23).grow0 G3,hn3,NX.new dk4 (by omega) (by omega),rfl,cl,Nat.le_refl _,G3.keep _ _ (by simp) (rg3.keep G18 hm0 (j:=4) (by decide) (List.mem_singleton.mpr rfl) hl14),G3.scr (G18.scr hs14),G3.sqT (G18.sqT tb14),pp18.grow G3⟩
 rintro _ H15 ⟨A3,n3,rfl,rg5,hn15,hn25,hn35,nx3,ek3,bl3,now3,hl15,hs15,tb15,pp15⟩
 clear rg3 hn13 hn23 hl14 hs14 tb14 pp14
 generalize hq3:A3 .p=qq3
 refine vR (fun σ' H'=>∃ (ld lk:Addr),σ' = sg7 a p l tb qq1 qq2 qq3 ld lk i k tn mn rm kp dk dm 0 e18 e19 e20 e21 e22 /\ L7 K C p l ld lk H' A1 A2 A3 (uz N0 []) (uz N0 []) n3 sm [] [] [] /\ Scr K H' a sc /\ J3 K H' tb (b.map V.int)) (fun D' hD=>⟨szl rfl,fun ld hld=>⟨szl rfl,fun lk hlk=>⟨_,_,_,rfl,?_⟩⟩⟩) ?_
 ·have ga:=Grow.new (m:=[]) hld (.lst [])
  have gb:=Grow.new (m:=[]) hlk (.lst [])
  have hda:JQ H15 ld (.lst []) ld=some (.lst []):=zc
  have hkb:JQ (JQ H15 ld (.lst [])) lk (.lst []) lk=some (.lst []):=zc
  have rg6:=rg5.grow 5 (R:=[ld]) ga (fun x hx=>by cases hx) fun x hx=>by rw [List.mem_singleton.mp hx]; exact ⟨.inr hld,by rw [hda]; exact fun z=>nomatch z⟩
  rw [RZ] at rg6
  have rg7:=rg6.grow 6 (R:=[lk]) gb (fun x hx=>by cases hx) fun x hx=>by rw [List.mem_singleton.mp hx]; exact ⟨.inr hlk,by rw [hkb]; exact fun z=>nomatch z⟩
  rw [R0] at rg7
  have gab:=ga.trans gb
  have W0:L7 K C p l ld lk (JQ (JQ H15 ld (.lst [])) lk (.lst [])) A1 A2 A3 (uz N0 []) (uz N0 []) n3 sm [] [] [] :=
   ⟨rg7,pp15.grow gab,hn15.grow0 gab,hn25.grow0 gab,hn35.grow0 gab,gab.keep _ _ (by simp) hl15,gb.keep _ _ (by simp) hda,trivial,hkb,fun x hx=>by cases hx⟩
  have hs16:=gab.scr hs15
  have tb16:=gab.sqT tb15
  exact hD _ _ ⟨ld,lk,rfl,W0,hs16,tb16⟩
 clear rg5 hn15 hn25 hn35 hl15 hs15 tb15 pp15
 rintro σ H16 ⟨ld,lk,rfl,W0,hs16,tb16⟩
 refine Vf (fun σ' H'=>∃ (f18 f19 f20 f21 f22:Option V) (d:S7),σ' = sg7 a p l tb qq1 qq2 qq3 ld lk i k tn mn rm kp dk dm d.c f18 f19 f20 f21 f22 /\ J7 K C p l ld lk a tb sc k mn dk dm N0 b sm qq1 qq2 qq3 H' d /\ B7 100 100 0 100 100 0 d) (fun D hD=>⟨_,rfl,_,_,rfl,rfl,_,rfl,by omega,by omega,yN (fun t σ' H'=>∃ (f18 f19 f20 f21 f22:Option V) (d:S7),σ' = sg7 a p l tb qq1 qq2 qq3 ld lk i k tn mn rm kp dk dm d.c f18 f19 f20 f21 f22 /\ J7 K C p l ld lk a tb sc k mn dk dm N0 b sm qq1 qq2 qq3 H' d /\ B7 (2 * t) (3 * t) 0 (4 * t) t 0 d) ⟨_,_,_,_,_,⟨A1,A2,A3,n3,0,[],[],[]⟩,rfl,⟨W0,hq1,hq2,hq3,rfl,(fun o ho=>by cases ho),nx3,ek3,bl3,hs16,tb16⟩,⟨by show n3.now<=2 * 0; omega,Nat.le_refl _,Nat.zero_le _,Nat.le_refl _,Nat.le_refl _⟩⟩ ?_ ?_⟩) ?_
 rotate_left
 ·rintro σ H' ⟨f18,f19,f20,f21,f22,d,e,J,z⟩
  have z1:=z.z1
  have z2:=z.z2
  have z4:=z.z4
  have z5:=z.z5
  exact hD _ _ ⟨f18,f19,f20,f21,f22,d,e,J,⟨by omega,by omega,z.z3,by omega,by omega⟩⟩
 rotate_left
 ·clear W0 hs16 tb16 hq1 hq2 hq3 nx3 ek3 bl3 now3
  rintro tu σ H17 htu ⟨f18,f19,f20,f21,f22,d,rfl,J,Z⟩
  obtain ⟨A1,A2,A3,n3,c,xs,ho,rows⟩:=d
  obtain ⟨W,hq1,hq2,hq3,ec,ook,nx3,ek3,bl3,hs17,tb17⟩:=J
  obtain ⟨z1,z2,z3,z4,z5⟩:=Z
  dsimp only at W hq1 hq2 hq3 ec ook nx3 ek3 bl3 z1 z2 z3 z4 z5
  try dsimp only
  have tu18:tu < tn+8:=by omega
  refine Vf (fun σ' H'=>∃ (f19 f20 f21 f22:Option V) (d:S7),σ' = sg7 a p l tb qq1 qq2 qq3 ld lk i k tn mn rm kp dk dm d.c (some (.int (0+(tu:Int)))) f19 f20 f21 f22 /\ J7 K C p l ld lk a tb sc k mn dk dm N0 b sm qq1 qq2 qq3 H' d /\ B7 (2 * tu) (3 * tu+3) 0 (4 * tu+3) tu 0 d) (fun D hD=>?_) ?_
  ·refine ⟨_,rfl,_,_,rfl,p,4,rfl,rfl,W.pot,by decide,by decide,fun t4 H18 t40 t41 g18 pp18=>⟨_,rfl,_,rfl,_,_,rfl,rfl,.inr ⟨_,rfl,_,_,rfl,rfl,re ?_,_,rfl,?_,?_,?_⟩⟩⟩
   ·split <;> exact ⟨by decide,by decide⟩
   ·split <;> omega
   ·split <;> omega
   obtain ⟨cnt,hcnt,hc3,hc0⟩:∃ cnt:Nat,(t4 * (if decide (0+(tu:Int) < tn)=true then 1 else 0)).toNat=cnt /\ cnt<=3 /\ (tn<=tu->cnt=0):=by
    refine ⟨_,rfl,?_,fun h=>?_⟩
    ·split <;> omega
    ·rw [decide_eq_false (show ¬ (0+(tu:Int) < tn) by omega)]; simp
   rw [hcnt]
   have hp30:yJ ho+(cnt - 0)<=30:=by
    by_cases h:tn<=tu
    ·rw [hc0 h]; omega
    ·omega
   have W18:=W.potS g18 pp18
   refine yN (fun m σ' H'=>∃ (f19 f20 f21 f22:Option V) (d:S7),σ' = sg7 a p l tb qq1 qq2 qq3 ld lk i k tn mn rm kp dk dm d.c (some (.int (0+(tu:Int)))) f19 f20 f21 f22 /\ J7 K C p l ld lk a tb sc k mn dk dm N0 b sm qq1 qq2 qq3 H' d /\ B7 (2 * tu) (3 * tu+m) (cnt - m) (4 * tu+m) tu 0 d) ⟨_,_,_,_,⟨A1,A2,A3,n3,c,xs,ho,rows⟩,rfl,⟨W18,hq1,hq2,hq3,ec,ook,nx3,ek3,bl3,g18.scr hs17,g18.sqT tb17⟩,⟨z1,by show yJ ho<=3 * tu+0; omega,hp30,by show ho.length<=4 * tu+0; omega,z5⟩⟩ ?_ ?_
   rotate_left
   ·rintro σ H' ⟨f19,f20,f21,f22,d,e,J,z⟩
    have z2:=z.z2
    have z3:=z.z3
    have z4:=z.z4
    exact hD _ _ ⟨f19,f20,f21,f22,d,e,J,⟨z.z1,by omega,by omega,by omega,z.z5⟩⟩
   rintro m σ H19 hm ⟨f19,f20,f21,f22,d,rfl,J,Z⟩
   obtain ⟨A1,A2,A3,n3,c,xs,ho,rows⟩:=d
   obtain ⟨W,hq1,hq2,hq3,ec,ook,nx3,ek3,bl3,hs19,tb19⟩:=J
   obtain ⟨y1,y2,y3,y4,y5⟩:=Z
   dsimp only at W hq1 hq2 hq3 ec ook nx3 ek3 bl3 y1 y2 y3 y4 y5
   try dsimp only
   have R:=sj nn ook (by omega) (by omega)
   generalize eN:uz N0 ho=N at W R
   refine vR (fun σ' H'=>∃ (t1:Addr) (yk:V) (ak:Ask),σ' = sg7 a p l tb qq1 qq2 qq3 ld lk i k tn mn rm kp dk dm c (some (.int (0+(tu:Int)))) (some (.int (0+(m:Int)))) f20 f21 f22 /\ J3 K H' t1 [.str "put",yk] /\ vq K H' yk ak /\ (qj mn ak /\ ak.hand < (2 ^ k:Nat) /\ ak.deed.Bd (10 ^ 29)) /\ L7 K C p l ld lk H' A1 A2 A3 N N n3 sm (xs ++ [.ref t1]) (ho ++ [.put ak]) rows /\ Scr K H' a sc /\ J3 K H' tb (b.map V.int)) (fun D' hD=>⟨_,rfl,.inl ⟨rfl,_,J1.of W.hd⟩,_,rfl,_,rfl,_,rfl,_,rfl,_,_,_,_,rfl,p,l,k,mn,sm,rfl,rfl,rfl,rfl,W.pot,k4,mn1,mn16,W.ls,?_,sm1,smL,smb,fun ak yk H20 aok ah abd g20 pp20 hask=>⟨szl rfl,fun t1 ht1=>?_⟩⟩) ?_
   ·exact fun e=>W.rg.dj 0 4 p (by decide) (List.mem_singleton.mpr rfl) (List.mem_singleton.mpr e)
   ·have W20:=W.potS g20 pp20
    have g21:=Grow.new (m:=[]) ht1 (.tup [.str "put",yk])
    have hop:j8 K (JQ H20 t1 (.tup [.str "put",yk])) (.ref t1) (.put ak):=⟨t1,yk,rfl,J3.of zc,g21.ask hask⟩
    have W21:=W20.grow0 g21
    obtain ⟨W22,g22⟩:=W21.s5 hop
    refine ⟨ld,xs,_,rfl,rfl,W21.hd,zr (by have:=W21.ops.len; omega),hD _ _ ⟨t1,yk,ak,rfl,g22.sqT (J3.of zc),g22.ask (g21.ask hask),⟨aok,ah,abd⟩,W22,g22.scr (g21.scr (g20.scr hs19)),g22.sqT (g21.sqT (g20.sqT tb19))⟩⟩
   clear W hs19 tb19
   rintro σ H22 ⟨t1,yk,ak,rfl,hsq22,hask22,⟨aok,ah,abd⟩,W22,hs22,tb22⟩
   subst hq1 hq2
   have Rp:=R.put aok ah abd (by omega)
   refine rj (fun bb H'=>bb=false /\ L7 K C p l ld lk H' A1 A2 A3 (putS N ak) (putS N ak) n3 sm (xs ++ [.ref t1]) (ho ++ [.put ak]) rows /\ Scr K H' a sc /\ J3 K H' tb (b.map V.int)) (fun Kk hk=>⟨_,rfl,_,rfl,_,rfl,_,rfl,_,rfl,_,rfl,ld,_,-1,_,rfl,rfl,J1.of W22.hd,RW,t1,_,1,_,rfl,rfl,hsq22,zP (j:=1) rfl,_,_,_,_,_,rfl,A1,A2,N,ak,rfl,rfl,congrArg V.int (by rw [ec,R.al]),hask22,W22.net1,W22.net2,R.nx.nw.nr,by rw [R.bl]; exact aok,by rw [R.ek]; exact ah,by rw [R.al]; omega,fun x h1 h2=>W22.rg.dj 1 2 x (by decide) h1 h2,fun H23 H24 g23 hn1 hn2 g24 hn3 hn4=>⟨_,rfl,hk _ _ ⟨rfl,(W22.s1 (A':=A1) (n':=putS N ak) g23 hn1 fun x hx=>.inl hx).s2 (A':=A2) (n':=putS N ak) g24 hn4 fun x hx=>.inl hx,g24.scr (g23.scr hs22),g24.sqT (g23.sqT tb22)⟩⟩⟩) ?_
   clear W22 hs22 tb22
   rintro bb H24 ⟨rfl,W24,hs24,tb24⟩
   refine xw (wT ?_)
   have er:uz N0 (ho ++ [.put ak])=putS N ak:=by rw [← eN]; exact vQ
   have ep:yJ (ho ++ [.put ak])=yJ ho+1:=xU
   refine ⟨_,rfl,_,_,rfl,rfl,_,_,_,_,⟨A1,A2,A3,n3,c+1,xs ++ [.ref t1],ho ++ [.put ak],rows⟩,rfl,⟨by dsimp only; rw [er]; exact W24,rfl,rfl,hq3,by dsimp only; rw [ep,ec]; omega,fun o hh=>?_,nx3,ek3,bl3,hs24,tb24⟩,⟨y1,by dsimp only; omega,by dsimp only; omega,by dsimp only; rw [List.length_append]; show ho.length+1<=_; omega,y5⟩⟩
   rcases List.mem_append.mp hh with z | z
   ·exact ook o z
   ·rw [List.mem_singleton.mp z]; exact ⟨aok,ah,abd⟩
  clear W hs17 tb17 z1 z2 z3 z4 z5 ook ec nx3 ek3 bl3 hq1 hq2 hq3
  rintro σ H18 ⟨f19,f20,f21,f22,d,rfl,J,Z⟩
  obtain ⟨A1,A2,A3,n3,c,xs,ho,rows⟩:=d
  obtain ⟨W,hq1,hq2,hq3,ec,ook,nx3,ek3,bl3,hs18,tb18⟩:=J
  obtain ⟨z1,z2,z3,z4,z5⟩:=Z
  dsimp only at W hq1 hq2 hq3 ec ook nx3 ek3 bl3 z1 z2 z3 z4 z5
  try dsimp only
  have R:=sj nn ook (by omega) (by omega)
  have hol:=W.ops.len
  generalize eN:uz N0 ho=N at W R
  refine uM (fun v H'=>∃ gone,(∀ q ∈ gone,wU k q) /\ gone.length<=20 /\ yY K H' v gone /\ L7 K C p l ld lk H' A1 A2 A3 N N n3 sm xs ho rows /\ Scr K H' a sc /\ J3 K H' tb (b.map V.int)) (fun Kk hk=>⟨_,rfl,_,rfl,_,_,rfl,p,k,rfl,rfl,W.pot,k4,fun gone zg H19 gok glen g19 pp19 hg=>hk _ _ ⟨gone,gok,glen,hg,W.potS g19 pp19,g19.scr hs18,g19.sqT tb18⟩⟩) ?_
  clear W hs18 tb18
  rintro zg H19 ⟨gone,gok,glen,hg,W,hs19,tb19⟩
  refine vR (fun σ' H'=>∃ (t1:Addr),σ' = sg7 a p l tb qq1 qq2 qq3 ld lk i k tn mn rm kp dk dm c (some (.int (0+(tu:Int)))) f19 (some zg) f21 f22 /\ yY K H' zg gone /\ L7 K C p l ld lk H' A1 A2 A3 N N n3 sm (xs ++ [.ref t1]) (ho ++ [.beat gone]) rows /\ Scr K H' a sc /\ J3 K H' tb (b.map V.int)) (fun D' hD=>⟨_,rfl,.inl ⟨rfl,_,J1.of W.hd⟩,_,rfl,szl rfl,fun t1 ht1=>?_⟩) ?_
  ·have g20:=Grow.new (m:=[]) ht1 (.tup [.str "beat",zg])
   have hg20:=hg.grow g20
   have hop:j8 K (JQ H19 t1 (.tup [.str "beat",zg])) (.ref t1) (.beat gone):=⟨t1,zg,rfl,J3.of zc,hg20⟩
   have W20:=W.grow0 g20
   obtain ⟨W21,g21⟩:=W20.s5 hop
   exact ⟨ld,xs,_,rfl,rfl,W20.hd,zr (by omega),hD _ _ ⟨t1,rfl,hg20.grow g21,W21,g21.scr (g20.scr hs19),g21.sqT (g20.sqT tb19)⟩⟩
  clear W hs19 tb19 hg
  rintro σ H21 ⟨t1,rfl,hg21,W21,hs21,tb21⟩
  have nw5:=R.now
  have er:uz N0 (ho ++ [.beat gone])=beatS gone N:=by rw [← eN]; exact vQ
  have epp:yJ (ho ++ [.beat gone])=yJ ho:=xU
  have ook':∀ o ∈ ho ++ [.beat gone],Vz k mn o:=fun o hh=>by
   rcases List.mem_append.mp hh with z | z
   ·exact ook o z
   ·rw [List.mem_singleton.mp z]; exact gok
  have hol':(ho ++ [Op7.beat gone]).length=ho.length+1:=by rw [List.length_append]; rfl
  have R':=sj nn ook' (by omega) (by omega)
  generalize eN1:uz N0 (ho ++ [.beat gone])=N1 at er R'
  subst hq1 hq2 hq3
  refine uM (fun v H'=>∃ (A1':Ad->Addr) (tl:List (Nat × Int)),A1' .p=A1 .p /\ tl.Perm (yV (zK gone N)) /\ tl.Pairwise (fun a b=>a.1 < b.1) /\ wj K H' v (se tl) /\ yY K H' zg gone /\ L7 K C p l ld lk H' A1' A2 A3 N1 N n3 sm (xs ++ [.ref t1]) (ho ++ [.beat gone]) rows /\ Scr K H' a sc /\ J3 K H' tb (b.map V.int)) (fun Kk hk=>⟨_,rfl,_,rfl,_,rfl,_,_,rfl,p,3,rfl,rfl,W21.pot,by decide,by decide,fun pl H22 pl0 pl1 g22 pp22=>?_⟩) ?_
  ·have W22:=W21.potS g22 pp22
   refine ⟨_,_,_,rfl,A1,_,gone,pl,msA A1 N,rfl,hg21.grow g22,rfl,by rw [R.ek]; exact gok,W22.net1,R.nx.nw,by omega,fun _ z=>yI z,fun A' v tl H23 g23 ex hn23 hdv pm pw=>hk _ _ ⟨A',tl,ex.1 .p trivial,pm,pw,hdv,(hg21.grow g22).grow g23,?_,g23.scr (g22.scr hs21),g23.sqT (g22.sqT tb21)⟩⟩
   rw [er]
   exact W22.s1 g23 hn23 (uU (gone:=gone) R.nx.nw (by omega) ex)
  clear W21 hs21 tb21 hg21
  rintro vt H22 ⟨A1',tl,eA1,pm,pw,hdt,hg22,W22,hs22,tb22⟩
  have n3k4:=nx3.nw.nr.k4
  refine vR (fun σ' H'=>∃ (A3':Ad->Addr) (n3':NS),σ' = sg7 a p l tb (A1 .p) (A2 .p) (A3 .p) ld lk i k tn mn rm kp dk dm c (some (.int (0+(tu:Int)))) f19 (some zg) (some vt) f22 /\ (NX n3' /\ n3'.k=n3.k /\ n3'.boxes.length=n3.boxes.length /\ n3'.now<=n3.now+2 /\ A3' .p=A3 .p) /\ L7 K C p l ld lk H' A1' A2 A3' N1 N n3' sm (xs ++ [.ref t1]) (ho ++ [.beat gone]) rows /\ Scr K H' a sc /\ J3 K H' tb (b.map V.int) /\ yY K H' zg gone /\ wj K H' vt (se tl)) (fun D' hD=>⟨_,rfl,_,rfl,_,rfl,_,rfl,_,_,_,_,rfl,p,A3,n3,rfl,rfl,congrArg V.int (by rw [ek3]),congrArg V.int (by rw [bl3]),W22.pot,W22.net3,nx3,by omega,by omega,fun z=>W22.rg.dj 0 3 p (by decide) (List.mem_singleton.mpr rfl) z,fun A3' n3' v3 H23 g23 pp23 hn23 nx3' ek3' bl3' now3' ap3 ms3=>hD _ _ ⟨A3',n3',rfl,⟨nx3',ek3',bl3',now3',ap3⟩,W22.s3 g23 pp23 hn23 ms3,g23.scr hs22,g23.sqT tb22,hg22.grow g23,hdt.grow g23⟩⟩) ?_
  clear W22 hs22 tb22 hg22 hdt
  rintro σ H23 ⟨A3',n3',rfl,⟨nx3',ek3',bl3',now3',ap3⟩,W23,hs23,tb23,hg23,hdt23⟩
  have stl:=SB (B:=10 ^ 29) (by decide) R.nb R.nx.nw (by omega) pm
  have stlo:=VC stl (by decide) (by decide)
  refine rj (fun bb H'=>bb=false /\ ∃ A2',A2' .p=A2 .p /\ wj K H' vt (se tl) /\ L7 K C p l ld lk H' A1' A2' A3' N1 N1 n3' sm (xs ++ [.ref t1]) (ho ++ [.beat gone]) rows /\ Scr K H' a sc /\ J3 K H' tb (b.map V.int)) (fun Kk hk=>?_) ?_
  ·obtain ⟨rg,ys,rfl,hrg,hga,hgl⟩:=hg23
   have yl:=hga.len
   obtain ⟨us,hus,husm⟩:=hga.cut none (some 1)
   have cl:(qe ys none (some 1)).length<=ys.length:=by
    unfold qe
    rw [List.length_take,List.length_drop]
    omega
   have ul:=hus.len
   refine ⟨_,rfl,_,rfl,_,rfl,_,rfl,1,rfl,rg,ys,rfl,hrg,fun p2 H24 g24 hp2=>⟨rg,p2,ys,_,rfl,rfl,g24.sqT hrg,hp2,Nat.le_of_lt (zr (by omega)),fun p3 H25 g25 hp3=>?_⟩⟩
   have g2425:=g24.trans g25
   have W25:=W23.grow0 g2425
   have hgg:yY K H25 (.ref p3) (gone ++ us):=⟨p3,_,rfl,hp3,((hga.app hus).imp fun _ _ ⟨r,e,z⟩=>⟨r,e,g2425.sqT z⟩),by rw [List.length_append]; omega⟩
   refine ⟨_,_,rfl,p,gone ++ us,rfl,W25.pot,hgg,by rw [List.length_append]; omega,fun gone' zg' H26 hmem g26 pp26 hg26=>?_⟩
   have hmem':∀ q,q ∈ gone' ↔ q ∈ gone:=fun q=>by
    rw [hmem q,List.mem_append]
    exact ⟨fun z=>z.elim id (husm q),.inl⟩
   have W26:=W25.potS g26 pp26
   refine ⟨_,_,_,rfl,A2,_,gone',0,msA A2 N,rfl,hg26,rfl,fun q hq=>by rw [R.ek]; exact gok q ((hmem' q).mp hq),W26.net2,R.nx.nw,by omega,fun _ z=>yI z,fun A2' v2 tl2 H27 g27 ex hn27 hdv pm2 pw2=>?_⟩
   rw [rQ hmem'] at pm2
   rw [rR hmem'] at hn27
   have etl:=Vv pm2 pw2 pm pw
   subst etl
   have W27:=W26.s2 g27 hn27 (by rw [← rR hmem']; exact uU (gone:=gone') R.nx.nw (by omega) ex)
   have hdt27:=((hdt23.grow g2425).grow g26).grow g27
   rw [← er] at W27
   refine ⟨_,_,rfl,hdv.dat,stlo.1,stlo.2.1,stlo.2.2.1,stlo.2.2.2,?_⟩
   refine ⟨_,rfl,?_⟩
   refine ⟨_,_,rfl,hdt27.dat,stlo.1,stlo.2.1,stlo.2.2.1,stlo.2.2.2,?_⟩
   exact ⟨rfl,_,rfl,hk _ _ ⟨by rw [decide_eq_true rfl]; rfl,A2',ex.1 .p trivial,hdt27,W27,g27.scr (g26.scr (g2425.scr hs23)),g27.sqT (g26.sqT (g2425.sqT tb23))⟩⟩
  clear W23 hs23 tb23 hg23 hdt23
  rintro bb H24 ⟨rfl,A2',eA2,hdt24,W24,hs24,tb24⟩
  refine xw (wT ?_)
  have ssh:=qS (B:=10 ^ 29) (by decide) R'.nx R'.nb
  have ssho:=VC ssh (by decide) (by decide)
  refine uM (fun v H'=>wj K H' v (vO N1) /\ wj K H' vt (se tl) /\ L7 K C p l ld lk H' A1' A2' A3' N1 N1 n3' sm (xs ++ [.ref t1]) (ho ++ [.beat gone]) rows /\ Scr K H' a sc /\ J3 K H' tb (b.map V.int)) (fun Kk hk=>⟨_,rfl,_,rfl,_,rfl,_,_,_,rfl,A1',_,congrArg V.ref eA1.symm,congrArg V.int (by rw [R'.ek]),congrArg V.int (by rw [R'.al,epp]; exact ec),W24.net1,R'.nx,fun u H25 g25 hu=>hk _ _ ⟨hu,hdt24.grow g25,W24.grow0 g25,g25.scr hs24,g25.sqT tb24⟩⟩) ?_
  clear W24 hs24 tb24 hdt24
  rintro vs5 H25 ⟨hds,hdt25,W25,hs25,tb25⟩
  have S2:Sh (.tuple [se tl,vO N1]) 2000000 8:=(tE (z9 (stl.mono (Nat.le_refl _) (show 3<=7 by decide)) (z9 (ssh.mono (Nat.le_refl _) (show 6<=7 by decide)) ub))).mono (by decide) (by decide)
  have S2o:=VC S2 (by decide) (by decide)
  refine vR (fun σ' H'=>∃ (t3:Addr),σ' = sg7 a p l tb (A1 .p) (A2 .p) (A3 .p) ld lk i k tn mn rm kp dk dm c (some (.int (0+(tu:Int)))) f19 (some zg) (some vt) (some vs5) /\ L7 K C p l ld lk H' A1' A2' A3' N1 N1 n3' sm (xs ++ [.ref t1]) (ho ++ [.beat gone]) (rows ++ [.ref t3]) /\ Scr K H' a sc /\ J3 K H' tb (b.map V.int) /\ wj K H' vs5 (vO N1)) (fun D' hD=>⟨_,rfl,.inl ⟨rfl,_,J1.of W25.hk⟩,_,rfl,_,rfl,_,rfl,_,rfl,szl rfl,fun t2 ht2=>?_⟩) ?_
  ·have g26:=Grow.new (m:=[]) ht2 (.tup [vt,vs5])
   have hd26:wj K (JQ H25 t2 (.tup [vt,vs5])) (.ref t2) (.tuple [se tl,vO N1]):=.tup (J3.of zc) ⟨hdt25.grow g26,hds.grow g26,trivial⟩
   refine ⟨_,_,rfl,hd26.dat,S2o.1,S2o.2.1,S2o.2.2.1,S2o.2.2.2,szl rfl,fun t3 ht3=>?_⟩
   have g27:=Grow.new (m:=[]) ht3 (.tup [vt,vs5,.str (PyData.tuple [se tl,vO N1]).shown])
   have g267:=g26.trans g27
   have hrow:rW K (JQ (JQ H25 t2 (.tup [vt,vs5])) t3 (.tup [vt,vs5,.str (PyData.tuple [se tl,vO N1]).shown])) (.ref t3):=⟨t3,vt,vs5,_,_,rfl,J3.of zc,hdt25.grow g267,hds.grow g267,S2⟩
   have W27:=W25.grow0 g267
   obtain ⟨W28,g28⟩:=W27.s6 hrow
   exact ⟨lk,rows,_,rfl,rfl,W27.hk,zr (by omega),hD _ _ ⟨t3,rfl,W28,g28.scr (g267.scr hs25),g28.sqT (g267.sqT tb25),(hds.grow g267).grow g28⟩⟩
  clear W25 hs25 tb25 hds hdt25
  rintro σ H28 ⟨t3,rfl,W28,hs28,tb28,hds28⟩
  refine ⟨_,rfl,_,rfl,_,rfl,_,_,_,rfl,A1',_,congrArg V.ref eA1.symm,congrArg V.int (by rw [R'.ek]),congrArg V.int (by rw [R'.al,epp]; exact ec),W28.net1,R'.nx,fun u1 H29 g29 hu1=>?_⟩
  refine ⟨_,_,rfl,hu1.dat,ssho.1,ssho.2.1,ssho.2.2.1,ssho.2.2.2,?_⟩
  refine ⟨_,rfl,?_⟩
  refine ⟨_,_,rfl,(hds28.grow g29).dat,ssho.1,ssho.2.1,ssho.2.2.1,ssho.2.2.2,?_⟩
  refine ⟨rfl,_,rfl,yF (by rw [decide_eq_true rfl]; rfl) ?_⟩
  refine ⟨_,rfl,_,rfl,_,rfl,_,_,_,rfl,A2',_,congrArg V.ref eA2.symm,congrArg V.int (by rw [R'.ek]),congrArg V.int (by rw [R'.al,epp]; exact ec),(W28.grow0 g29).net2,R'.nx,fun u2 H30 g30 hu2=>?_⟩
  refine ⟨_,_,rfl,hu2.dat,ssho.1,ssho.2.1,ssho.2.2.1,ssho.2.2.2,?_⟩
  refine ⟨_,rfl,?_⟩
  refine ⟨_,_,rfl,((hds28.grow g29).grow g30).dat,ssho.1,ssho.2.1,ssho.2.2.1,ssho.2.2.2,?_⟩
  refine ⟨rfl,_,rfl,yF (by rw [decide_eq_true rfl]; rfl) ?_⟩
  have g:=g29.trans g30
  exact ⟨_,_,_,_,_,⟨A1',A2',A3',n3',c,xs ++ [.ref t1],ho ++ [.beat gone],rows ++ [.ref t3]⟩,rfl,⟨by dsimp only; rw [eN1]; exact W28.grow0 g,eA1,eA2,ap3,by dsimp only; rw [epp]; exact ec,ook',nx3',ek3'.trans ek3,bl3'.trans bl3,g.scr hs28,g.sqT tb28⟩,⟨by dsimp only; omega,by dsimp only; omega,by dsimp only; omega,by dsimp only; omega,by dsimp only; rw [List.length_append]; show rows.length+1<=tu+1; omega⟩⟩
 clear W0 hs16 tb16 hq1 hq2 hq3 nx3 ek3 bl3 now3
 rintro σ H17 ⟨f18,f19,f20,f21,f22,d,rfl,J,Z⟩
 obtain ⟨A1,A2,A3,n3,c,xs,ho,rows⟩:=d
 obtain ⟨W,hq1,hq2,hq3,ec,ook,nx3,ek3,bl3,hs17,tb17⟩:=J
 obtain ⟨z1,z2,z3,z4,z5⟩:=Z
 dsimp only at W hq1 hq2 hq3 ec ook nx3 ek3 bl3 z1 z2 z3 z4 z5
 try dsimp only
 have R:=sj nn ook (by omega) (by omega)
 have ssh:=qS (B:=10 ^ 29) (by decide) R.nx R.nb
 have ssho:=VC ssh (by decide) (by decide)
 subst hq1 hq2 hq3
 refine rj (fun bb H'=>bb=false /\ L7 K C p l ld lk H' A1 A2 A3 (uz N0 ho) (uz N0 ho) n3 sm xs ho rows /\ Scr K H' a sc /\ J3 K H' tb (b.map V.int)) (fun Kk hk=>⟨_,rfl,lk,rfl,⟨_,J1.of W.hk⟩,vo (xs:=rows) (fun j vs σ' H'=>(∃ e0 e1 e2,σ' = [e0,e1,e2]) /\ Grow [] H17 H' /\ vs.length=j /\ vs=(List.replicate j true).map V.bl) ⟨⟨_,_,_,rfl⟩,Grow.refl _ _,rfl,rfl⟩ (fun j vs σ' H' _ ⟨_,g,_⟩=>J1.of (g.keep _ _ (by simp) W.hk)) ?_ ?_⟩) ?_
 ·rintro j x vs σ' H18 hx ⟨⟨e0,e1,e2,rfl⟩,g18,vl,rfl⟩
  obtain ⟨r,va,vb,d1,d2,rfl,h1,h2,h3,h4⟩:=W.rw x (List.mem_of_getElem? hx)
  have jl:=(List.getElem?_eq_some_iff.mp hx).1
  have h4o:=VC h4 (by decide) (by decide)
  refine ⟨r,_,rfl,g18.sqT h1,rfl,_,_,rfl,_,_,rfl,_,_,rfl,rfl,?_⟩
  refine ⟨_,rfl,_,rfl,szl rfl,fun t2 ht2=>?_⟩
  have g19:=Grow.new (m:=[]) ht2 (.tup [va,vb])
  have hd:wj K (JQ H18 t2 (.tup [va,vb])) (.ref t2) (.tuple [d1,d2]):=.tup (J3.of zc) ⟨(h2.grow g18).grow g19,(h3.grow g18).grow g19,trivial⟩
  refine ⟨_,_,rfl,hd.dat,h4o.1,h4o.2.1,h4o.2.2.1,h4o.2.2.2,?_⟩
  refine ⟨_,rfl,rfl,zr (by rw [vl]; omega),⟨_,_,_,rfl⟩,g18.trans g19,by rw [List.length_append,vl]; rfl,?_⟩
  rw [decide_eq_true rfl,List.replicate_succ',List.map_append]; rfl
 ·rintro vs σ' H18 ⟨_,g18,vl,rfl⟩ lz hlz
  have g19:=Grow.new (m:=[]) hlz (.lst ((List.replicate rows.length true).map V.bl))
  have g:=g18.trans g19
  have ea:(List.replicate rows.length true).all id=true:=by
   rw [List.all_eq_true]
   intro y hy
   rw [(List.mem_replicate.mp hy).2]; rfl
  refine ⟨lz,_,rfl,J1.of zc,_,rfl,?_⟩
  rw [ea]
  exact hk _ _ ⟨rfl,W.grow0 g,g.scr hs17,g.sqT tb17⟩
 clear W hs17 tb17
 rintro bb H18 ⟨rfl,W,hs18,tb18⟩
 refine xw (wT ?_)
 refine ⟨_,rfl,_,rfl,_,rfl,_,rfl,?_⟩
 intro x4 d4 hx4 hd4 nd4
 have go4:=(Grow.new (m:=[]) hd4 (.own x4)).trans (Grow.new (m:=[]) (show JQ H18 d4 (.own x4) x4=none by rw [zu nd4.symm]; exact hx4) (.ins C d4 []))
 refine ⟨_,_,_,_,_,rfl,x4,d4,k,rm,kp,b,rfl,rfl,⟨tb,rfl,go4.sqT tb18⟩,rfl,rfl,k4,by omega,by omega,rm1,rm6,kp6,zc,fun A4 H19 g19 eA4 fr4 hn4=>⟨rfl,?_⟩⟩
 rw [hN0] at fr4 hn4
 obtain ⟨G4,F4⟩:=UN hx4 hd4 nd4 g19 eA4 fr4
 have W19:=W.grow0 G4
 refine ⟨_,rfl,_,rfl,_,rfl,_,_,_,_,rfl,A4,k,mn,_,ld,xs,ho,by rw [eA4],rfl,rfl,congrArg V.int ec,W19.hd,W19.ops,hn4,nn,ook,by omega,by omega,fun z=>?_,fun H20 g20=>?_⟩
 ·have:=F4 ld z
  rw [W.hd] at this; cases this
 have W20:NetAt K C H20 A1 (uz N0 ho):=W19.net1.grow g20 fun c hc z=>by
  obtain ⟨o,h1,_⟩:=W.net1.at_ c hc
  rw [F4 _ z] at h1; cases h1
 have hs20:=g20.scr (G4.scr hs18)
 refine ⟨_,rfl,_,rfl,_,rfl,_,_,_,rfl,A1,_,rfl,congrArg V.int (by rw [R.ek]),congrArg V.int (by rw [R.al]; exact ec),W20,R.nx,fun u1 H21 g21 hu1=>?_⟩
 refine ⟨_,_,rfl,hu1.dat,ssho.1,ssho.2.1,ssho.2.2.1,ssho.2.2.2,?_⟩
 refine ⟨rfl,_,rfl,yF (by rw [decide_eq_true rfl]; rfl) ?_⟩
 exact ⟨_,_,_,_,_,_,_,_,_,_,_,_,_,_,_,_,_,_,_,_,_,_,rfl,g21.scr hs20⟩
end
theorem yK:∀ {us:List Value},us.length=1 -> ∃ x0,us=[x0]
 | [x0],_=>⟨x0,rfl⟩
theorem yt:∀ {us:List Value},us.length=2 -> ∃ x0,∃ x1,us=[x0,x1]
 | [x0,x1],_=>⟨x0,x1,rfl⟩
theorem yU:∀ {us:List Value},us.length=3 -> ∃ x0,∃ x1,∃ x2,us=[x0,x1,x2]
 | [x0,x1,x2],_=>⟨x0,x1,x2,rfl⟩
theorem uB:∀ {us:List Value},us.length=4 -> ∃ x0,∃ x1,∃ x2,∃ x3,us=[x0,x1,x2,x3]
 | [x0,x1,x2,x3],_=>⟨x0,x1,x2,x3,rfl⟩
theorem VM:∀ {us:List Value},us.length=5 -> ∃ x0,∃ x1,∃ x2,∃ x3,∃ x4,us=[x0,x1,x2,x3,x4]
 | [x0,x1,x2,x3,x4],_=>⟨x0,x1,x2,x3,x4,rfl⟩
def FA (K:JN) (x:Str) (t:Stmt) (f:Addr) (d:FuncData):Prop:=PySem.W.nsIn K mainGlobals x=some (some (.ref f)) /\ Fun K x x t f d
theorem FA.cl {P:Program} {w:World} {K:JN} {h base:Heap} {mg:Str->Option Value} {x:Str} {t:Stmt} {f:Addr} {d:FuncData} {k:Nat} {ps:List Str} {sp:Sp} (a:FA K x t f d) (X:K.In h) (G:h.Ns mainGlobals mg) (F:FnOk P w K mg base CX0 k f d ps sp) (b:wt K d ps []):zm P w K mg base k x ps sp:=⟨_,_,F,b,a.2.kp,PySem.W.mg_of X G a.1⟩
theorem all_mk {l:PySem.W.OpenLaw} {w:World} {K:JN} {h:Heap} {mg:Str->Option Value} {fa f1 f2 f3 f4 f5 f6 f7 f8 f9 f10 f11 f12 f13 f14 f15 f16 f17 f18 f19 f20 f21 f22 f23 f24 f25 f26 f27 f28 f29 f30 f31 f32 f33 f34 f35 f36 f37 f38 f39 f40 f41 f42 f43 f44 f45 f46 f47 f48 f49 f50 f51 f52 f53 f54 f55:Addr} (X:K.In h) (G:h.Ns mainGlobals mg) (hfa:mg "law" = some (.ref fa))
    {od2 an2 od3 an3 od4 an4 od5 an5 od8 an8 od10 an10 od12 an12 od18 an18 od21 an21 od22 an22 od33 an33 od34 an34 od35 an35 od36 an36 od37 an37 od38 an38 od54 an54:Option Addr} {sl2 sl3 sl4 sl5 sl8 sl10 sl12 sl18 sl21 sl22 sl33 sl34 sl35 sl36 sl37 sl38 sl54:Array (Option Value)} {oc2 kV2 dc2 pm2 cd2 ct2 oc3 kV3 dc3 pm3 cd3 ct3 oc4 kV4 dc4 pm4 cd4 ct4 oc5 kV5 dc5 pm5 cd5 ct5 oc8 kV8 dc8 pm8 cd8 ct8 oc10 kV10 dc10 pm10 cd10 ct10 oc12 kV12 dc12 pm12 cd12 ct12 oc18 kV18 dc18 pm18 cd18 ct18 oc21 kV21 dc21 pm21 cd21 ct21 oc22 kV22 dc22 pm22 cd22 ct22 oc33 kV33 dc33 pm33 cd33 ct33 oc34 kV34 dc34 pm34 cd34 ct34 oc35 kV35 dc35 pm35 cd35 ct35 oc36 kV36 dc36 pm36 cd36 ct36 oc37 kV37 dc37 pm37 cd37 ct37 oc38 kV38 dc38 pm38 cd38 ct38 oc54 kV54 dc54 pm54 cd54 ct54:Value}
    {T38:Addr} {tc38:Value} {td38:Option Addr} {tn38:Nat} {ts38:Array (Option Value)}
    {d1 d6 d7 d9 d11 d13 d14 d15 d16 d17 d19 d20 d23 d24 d25 d26 d27 d28 d29 d30 d31 d32 d39 d40 d41 d42 d43 d44 d45 d46 d47 d48 d49 d50 d51 d52 d53 d55:FuncData}
    {C:Addr} (aC:PySem.W.nsIn K mainGlobals "Net" = some (some (.ref C))) (pg:PySem.W.plainGet K C Str.empty=true) (hd:PySem.W.hasDictIn K C=true) (po:PySem.W.plainOver K C=true) (sa:PySem.W.findIn K (.ref C) "__setattr__" = some (some (.builtin "object.__setattr__"))) (mkc:PySem.W.makesIn K C=true) (kc:PySem.W.keepIn K (.ref C)=true)
    (na_depth:PySem.W.findIn K (.ref C) "depth" = some none) (na_room:PySem.W.findIn K (.ref C) "room" = some none) (na_most_kept:PySem.W.findIn K (.ref C) "most_kept" = some none) (na_boxes:PySem.W.findIn K (.ref C) "boxes" = some none) (na_asks:PySem.W.findIn K (.ref C) "asks" = some none) (na_now:PySem.W.findIn K (.ref C) "now" = some none) (na_lines:PySem.W.findIn K (.ref C) "lines" = some none) (na_keeping:PySem.W.findIn K (.ref C) "keeping" = some none) (na_done_in:PySem.W.findIn K (.ref C) "done_in" = some none) (na_logged:PySem.W.findIn K (.ref C) "logged" = some none) (na_found:PySem.W.findIn K (.ref C) "found" = some none) (na_answers:PySem.W.findIn K (.ref C) "answers" = some none)
 (h1:FA K "_law_spots" ((top 53)) f1 d1)
    (a2:PySem.W.findIn K (.ref C) "todo" = some (some (.ref f2))) (i2:PySem.W.isFn K (.ref f2)=true) (l2:K.lookup f2=some ⟨oc2,od2,.func (PySem.W.fnOf "todo" "Net.todo" (zN (zj (top 45) 13)) (zI (zj (top 45) 13)) (zf (zj (top 45) 13)) .none kV2 dc2 pm2 an2 cd2 ct2),sl2⟩) (c2:PySem.W.codeIn K cd2 "Net.todo" = true) (k2:PySem.W.keepIn K (.ref f2)=true)
    (a3:PySem.W.findIn K (.ref C) "beats" = some (some (.ref f3))) (i3:PySem.W.isFn K (.ref f3)=true) (l3:K.lookup f3=some ⟨oc3,od3,.func (PySem.W.fnOf "beats" "Net.beats" (zN (zj (top 45) 10)) (zI (zj (top 45) 10)) (zf (zj (top 45) 10)) .none kV3 dc3 pm3 an3 cd3 ct3),sl3⟩) (c3:PySem.W.codeIn K cd3 "Net.beats" = true) (k3:PySem.W.keepIn K (.ref f3)=true)
    (a4:PySem.W.findIn K (.ref C) "log" = some (some (.ref f4))) (i4:PySem.W.isFn K (.ref f4)=true) (l4:K.lookup f4=some ⟨oc4,od4,.func (PySem.W.fnOf "log" "Net.log" (zN (zj (top 45) 12)) (zI (zj (top 45) 12)) (zf (zj (top 45) 12)) .none kV4 dc4 pm4 an4 cd4 ct4),sl4⟩) (c4:PySem.W.codeIn K cd4 "Net.log" = true) (k4:PySem.W.keepIn K (.ref f4)=true)
    (a5:PySem.W.findIn K (.ref C) "board" = some (some (.ref f5))) (i5:PySem.W.isFn K (.ref f5)=true) (l5:K.lookup f5=some ⟨oc5,od5,.func (PySem.W.fnOf "board" "Net.board" (zN (zj (top 45) 11)) (zI (zj (top 45) 11)) (zf (zj (top 45) 11)) .none kV5 dc5 pm5 an5 cd5 ct5),sl5⟩) (c5:PySem.W.codeIn K cd5 "Net.board" = true) (k5:PySem.W.keepIn K (.ref f5)=true)
 (h6:FA K "is_whole" ((top 10)) f6 d6)
 (h7:FA K "is_within" ((top 11)) f7 d7)
    (a8:PySem.W.findIn K (.ref C) "answer" = some (some (.ref f8))) (i8:PySem.W.isFn K (.ref f8)=true) (l8:K.lookup f8=some ⟨oc8,od8,.func (PySem.W.fnOf "answer" "Net.answer" (zN (zj (top 45) 14)) (zI (zj (top 45) 14)) (zf (zj (top 45) 14)) .none kV8 dc8 pm8 an8 cd8 ct8),sl8⟩) (c8:PySem.W.codeIn K cd8 "Net.answer" = true) (k8:PySem.W.keepIn K (.ref f8)=true)
 (h9:FA K "is_switch" ((top 28)) f9 d9)
    (a10:PySem.W.findIn K (.ref C) "joinings" = some (some (.ref f10))) (i10:PySem.W.isFn K (.ref f10)=true) (l10:K.lookup f10=some ⟨oc10,od10,.func (PySem.W.fnOf "joinings" "Net.joinings" (zN (zj (top 45) 16)) (zI (zj (top 45) 16)) (zf (zj (top 45) 16)) .none kV10 dc10 pm10 an10 cd10 ct10),sl10⟩) (c10:PySem.W.codeIn K cd10 "Net.joinings" = true) (k10:PySem.W.keepIn K (.ref f10)=true)
 (h11:FA K "is_line" ((top 27)) f11 d11)
    (a12:PySem.W.findIn K (.ref C) "waiting" = some (some (.ref f12))) (i12:PySem.W.isFn K (.ref f12)=true) (l12:K.lookup f12=some ⟨oc12,od12,.func (PySem.W.fnOf "waiting" "Net.waiting" (zN (zj (top 45) 15)) (zI (zj (top 45) 15)) (zf (zj (top 45) 15)) .none kV12 dc12 pm12 an12 cd12 ct12),sl12⟩) (c12:PySem.W.codeIn K cd12 "Net.waiting" = true) (k12:PySem.W.keepIn K (.ref f12)=true)
 (h13:FA K "_law_shown" ((top 54)) f13 d13)
 (h14:FA K "need_hand" ((top 29)) f14 d14)
 (h15:FA K "is_end" ((top 13)) f15 d15)
 (h16:FA K "is_deed" ((top 14)) f16 d16)
 (h17:FA K "is_ask" ((top 23)) f17 d17)
    (a18:PySem.W.findIn K (.ref C) "put" = some (some (.ref f18))) (i18:PySem.W.isFn K (.ref f18)=true) (l18:K.lookup f18=some ⟨oc18,od18,.func (PySem.W.fnOf "put" "Net.put" (zN (zj (top 45) 1)) (zI (zj (top 45) 1)) (zf (zj (top 45) 1)) .none kV18 dc18 pm18 an18 cd18 ct18),sl18⟩) (c18:PySem.W.codeIn K cd18 "Net.put" = true) (k18:PySem.W.keepIn K (.ref f18)=true)
 (h19:FA K "may_be_lost" ((top 42)) f19 d19)
 (h20:FA K "need_lost" ((top 43)) f20 d20)
    (a21:PySem.W.findIn K (.ref C) "done_ago" = some (some (.ref f21))) (i21:PySem.W.isFn K (.ref f21)=true) (l21:K.lookup f21=some ⟨oc21,od21,.func (PySem.W.fnOf "done_ago" "Net.done_ago" (zN (zj (top 45) 3)) (zI (zj (top 45) 3)) (zf (zj (top 45) 3)) .none kV21 dc21 pm21 an21 cd21 ct21),sl21⟩) (c21:PySem.W.codeIn K cd21 "Net.done_ago" = true) (k21:PySem.W.keepIn K (.ref f21)=true)
    (a22:PySem.W.findIn K (.ref C) "tell" = some (some (.ref f22))) (i22:PySem.W.isFn K (.ref f22)=true) (l22:K.lookup f22=some ⟨oc22,od22,.func (PySem.W.fnOf "tell" "Net.tell" (zN (zj (top 45) 9)) (zI (zj (top 45) 9)) (zf (zj (top 45) 9)) .none kV22 dc22 pm22 an22 cd22 ct22),sl22⟩) (c22:PySem.W.codeIn K cd22 "Net.tell" = true) (k22:PySem.W.keepIn K (.ref f22)=true)
 (h23:FA K "in_line" ((top 34)) f23 d23)
 (h24:FA K "tidy" ((top 16)) f24 d24)
 (h25:FA K "made" ((top 15)) f25 d25)
 (h26:FA K "joined" ((top 17)) f26 d26)
 (h27:FA K "joined_at" ((top 44)) f27 d27)
 (h28:FA K "switch_at" ((top 33)) f28 d28)
 (h29:FA K "figure" ((top 30)) f29 d29)
 (h30:FA K "with_figure" ((top 31)) f30 d30)
 (h31:FA K "onward" ((top 32)) f31 d31)
 (h32:FA K "side_for" ((top 36)) f32 d32)
    (a33:PySem.W.findIn K (.ref C) "hand_on" = some (some (.ref f33))) (i33:PySem.W.isFn K (.ref f33)=true) (l33:K.lookup f33=some ⟨oc33,od33,.func (PySem.W.fnOf "hand_on" "Net.hand_on" (zN (zj (top 45) 8)) (zI (zj (top 45) 8)) (zf (zj (top 45) 8)) .none kV33 dc33 pm33 an33 cd33 ct33),sl33⟩) (c33:PySem.W.codeIn K cd33 "Net.hand_on" = true) (k33:PySem.W.keepIn K (.ref f33)=true)
    (a34:PySem.W.findIn K (.ref C) "pass_on" = some (some (.ref f34))) (i34:PySem.W.isFn K (.ref f34)=true) (l34:K.lookup f34=some ⟨oc34,od34,.func (PySem.W.fnOf "pass_on" "Net.pass_on" (zN (zj (top 45) 7)) (zI (zj (top 45) 7)) (zf (zj (top 45) 7)) .none kV34 dc34 pm34 an34 cd34 ct34),sl34⟩) (c34:PySem.W.codeIn K cd34 "Net.pass_on" = true) (k34:PySem.W.keepIn K (.ref f34)=true)
    (a35:PySem.W.findIn K (.ref C) "do_asks" = some (some (.ref f35))) (i35:PySem.W.isFn K (.ref f35)=true) (l35:K.lookup f35=some ⟨oc35,od35,.func (PySem.W.fnOf "do_asks" "Net.do_asks" (zN (zj (top 45) 6)) (zI (zj (top 45) 6)) (zf (zj (top 45) 6)) .none kV35 dc35 pm35 an35 cd35 ct35),sl35⟩) (c35:PySem.W.codeIn K cd35 "Net.do_asks" = true) (k35:PySem.W.keepIn K (.ref f35)=true)
    (a36:PySem.W.findIn K (.ref C) "take" = some (some (.ref f36))) (i36:PySem.W.isFn K (.ref f36)=true) (l36:K.lookup f36=some ⟨oc36,od36,.func (PySem.W.fnOf "take" "Net.take" (zN (zj (top 45) 5)) (zI (zj (top 45) 5)) (zf (zj (top 45) 5)) .none kV36 dc36 pm36 an36 cd36 ct36),sl36⟩) (c36:PySem.W.codeIn K cd36 "Net.take" = true) (k36:PySem.W.keepIn K (.ref f36)=true)
    (a37:PySem.W.findIn K (.ref C) "forget" = some (some (.ref f37))) (i37:PySem.W.isFn K (.ref f37)=true) (l37:K.lookup f37=some ⟨oc37,od37,.func (PySem.W.fnOf "forget" "Net.forget" (zN (zj (top 45) 4)) (zI (zj (top 45) 4)) (zf (zj (top 45) 4)) .none kV37 dc37 pm37 an37 cd37 ct37),sl37⟩) (c37:PySem.W.codeIn K cd37 "Net.forget" = true) (k37:PySem.W.keepIn K (.ref f37)=true)
    (a38:PySem.W.findIn K (.ref C) "beat" = some (some (.ref f38))) (i38:PySem.W.isFn K (.ref f38)=true) (l38:K.lookup f38=some ⟨oc38,od38,.func (PySem.W.fnOf "beat" "Net.beat" (zN (zj (top 45) 2)) (zI (zj (top 45) 2)) (zf (zj (top 45) 2)) (.ref T38) kV38 dc38 pm38 an38 cd38 ct38),sl38⟩) (c38:PySem.W.codeIn K cd38 "Net.beat" = true) (k38:PySem.W.keepIn K (.ref f38)=true)
    (t38:K.lookup T38=some ⟨tc38,td38,.seq #[.none] tn38,ts38⟩)
 (h39:FA K "_law_once_more" ((top 58)) f39 d39)
 (h40:FA K "_law_beat" ((top 56)) f40 d40)
 (h41:FA K "_law_take" ((top 48)) f41 d41)
 (h42:FA K "_law_mixed" ((top 55)) f42 d42)
 (h43:FA K "_law_lost" ((top 52)) f43 d43)
 (h44:FA K "_law_number" ((top 49)) f44 d44)
 (h45:FA K "_law_deed" ((top 50)) f45 d45)
 (h46:FA K "_law_other" ((top 57)) f46 d46)
 (h47:FA K "_law_both" ((top 59)) f47 d47)
 (h48:FA K "_law_ask" ((top 51)) f48 d48)
 (h49:FA K "_law_pot" ((top 47)) f49 d49)
 (h50:FA K "is_board" ((top 21)) f50 d50)
 (h51:FA K "need_board" ((top 22)) f51 d51)
 (h52:FA K "need_sizes" ((top 41)) f52 d52)
 (h53:FA K "need_net" ((top 26)) f53 d53)
    (a54:PySem.W.findIn K (.ref C) "__init__" = some (some (.ref f54))) (i54:PySem.W.isFn K (.ref f54)=true) (l54:K.lookup f54=some ⟨oc54,od54,.func (PySem.W.fnOf "__init__" "Net.__init__" (zN (zj (top 45) 0)) (zI (zj (top 45) 0)) (zf (zj (top 45) 0)) .none kV54 dc54 pm54 an54 cd54 ct54),sl54⟩) (c54:PySem.W.codeIn K cd54 "Net.__init__" = true) (k54:PySem.W.keepIn K (.ref f54)=true)
 (h55:FA K "law" ((top 60)) f55 d55)
    {t_DEEPEST:Tok} (ga_DEEPEST:PySem.W.nsIn K mainGlobals "DEEPEST" = some (some (.int 4 t_DEEPEST)))
    {t_LAST_HAND:Tok} (ga_LAST_HAND:PySem.W.nsIn K mainGlobals "LAST_HAND" = some (some (.int 15 t_LAST_HAND)))
    {t_MOST_ASKS:Tok} (ga_MOST_ASKS:PySem.W.nsIn K mainGlobals "MOST_ASKS" = some (some (.int 40 t_MOST_ASKS)))
    {t_MOST_BOXES:Tok} (ga_MOST_BOXES:PySem.W.nsIn K mainGlobals "MOST_BOXES" = some (some (.int 16 t_MOST_BOXES)))
    {t_MOST_KEPT:Tok} (ga_MOST_KEPT:PySem.W.nsIn K mainGlobals "MOST_KEPT" = some (some (.int 6 t_MOST_KEPT)))
    {t_MOST_ROOM:Tok} (ga_MOST_ROOM:PySem.W.nsIn K mainGlobals "MOST_ROOM" = some (some (.int 6 t_MOST_ROOM)))
    (ga_enumerate:PySem.W.nsIn K mainGlobals "enumerate" = some none)
    (ga_sorted:PySem.W.nsIn K mainGlobals "sorted" = some none)
    (z_abs:PySem.W.nsIn K mainGlobals "abs" = some none)
    (z_len:PySem.W.nsIn K mainGlobals "len" = some none)
    (z_max:PySem.W.nsIn K mainGlobals "max" = some none)
    (z_min:PySem.W.nsIn K mainGlobals "min" = some none)
    (z_divmod:PySem.W.nsIn K mainGlobals "divmod" = some none)
    (z_repr:PySem.W.nsIn K mainGlobals "repr" = some none)
    (z_isinstance:PySem.W.nsIn K mainGlobals "isinstance" = some none)
    (z_all:PySem.W.nsIn K mainGlobals "all" = some none)
    (z_range:PySem.W.nsIn K mainGlobals "range" = some none)
    (z_int:PySem.W.nsIn K mainGlobals "int" = some none)
    (z_bool:PySem.W.nsIn K mainGlobals "bool" = some none)
    (z_str:PySem.W.nsIn K mainGlobals "str" = some none)
    (z_tuple:PySem.W.nsIn K mainGlobals "tuple" = some none)
    (z_list:PySem.W.nsIn K mainGlobals "list" = some none)
    (z_dict:PySem.W.nsIn K mainGlobals "dict" = some none)
    :
    ∃ fd:FuncData,(∀ (s:Shared) (v:Value),BindsTo s fd ⟨[v],[]⟩ [("_law_script",v)]) /\ ∀ base:Heap,K.In base->base.Ns mainGlobals mg->FnOk l.prog w K mg base CX0 8 fa fd ["_law_script"] (Yq K):=by
  have e:=hfa.symm.trans (PySem.W.mg_of X G h55.1)
  cases e
  have F2:=fun_mk (st:=(zj (top 45) 13)) l2 c2 k2
  have F3:=fun_mk (st:=(zj (top 45) 10)) l3 c3 k3
  have F4:=fun_mk (st:=(zj (top 45) 12)) l4 c4 k4
  have F5:=fun_mk (st:=(zj (top 45) 11)) l5 c5 k5
  have F8:=fun_mk (st:=(zj (top 45) 14)) l8 c8 k8
  have F10:=fun_mk (st:=(zj (top 45) 16)) l10 c10 k10
  have F12:=fun_mk (st:=(zj (top 45) 15)) l12 c12 k12
  have F18:=fun_mk (st:=(zj (top 45) 1)) l18 c18 k18
  have F21:=fun_mk (st:=(zj (top 45) 3)) l21 c21 k21
  have F22:=fun_mk (st:=(zj (top 45) 9)) l22 c22 k22
  have F33:=fun_mk (st:=(zj (top 45) 8)) l33 c33 k33
  have F34:=fun_mk (st:=(zj (top 45) 7)) l34 c34 k34
  have F35:=fun_mk (st:=(zj (top 45) 6)) l35 c35 k35
  have F36:=fun_mk (st:=(zj (top 45) 5)) l36 c36 k36
  have F37:=fun_mk (st:=(zj (top 45) 4)) l37 c37 k37
  have F38:=Sx (st:=(zj (top 45) 2)) l38 c38 k38
  have F54:=fun_mk (st:=(zj (top 45) 0)) l54 c54 k54
  have b2:=F2.binds (ps:=["self"]) fun _ _ _ _ _ _ us hl=>by obtain ⟨_,rfl⟩:=yK hl; rfl
  have b3:=F3.binds (ps:=["self"]) fun _ _ _ _ _ _ us hl=>by obtain ⟨_,rfl⟩:=yK hl; rfl
  have b4:=F4.binds (ps:=["self"]) fun _ _ _ _ _ _ us hl=>by obtain ⟨_,rfl⟩:=yK hl; rfl
  have b5:=F5.binds (ps:=["self"]) fun _ _ _ _ _ _ us hl=>by obtain ⟨_,rfl⟩:=yK hl; rfl
  have b8:=F8.binds (ps:=["self","number"]) fun _ _ _ _ _ _ us hl=>by obtain ⟨_,_,rfl⟩:=yt hl; rfl
  have b10:=F10.binds (ps:=["self","stage","number"]) fun _ _ _ _ _ _ us hl=>by obtain ⟨_,_,_,rfl⟩:=yU hl; rfl
  have b12:=F12.binds (ps:=["self","level","line"]) fun _ _ _ _ _ _ us hl=>by obtain ⟨_,_,_,rfl⟩:=yU hl; rfl
  have b18:=F18.binds (ps:=["self","ask"]) fun _ _ _ _ _ _ us hl=>by obtain ⟨_,_,rfl⟩:=yt hl; rfl
  have b21:=F21.binds (ps:=["self","many"]) fun _ _ _ _ _ _ us hl=>by obtain ⟨_,_,rfl⟩:=yt hl; rfl
  have b22:=F22.binds (ps:=["self"]) fun _ _ _ _ _ _ us hl=>by obtain ⟨_,rfl⟩:=yK hl; rfl
  have b33:=F33.binds (ps:=["self","stage","line"]) fun _ _ _ _ _ _ us hl=>by obtain ⟨_,_,_,rfl⟩:=yU hl; rfl
  have b34:=F34.binds (ps:=["self","stage","gone"]) fun _ _ _ _ _ _ us hl=>by obtain ⟨_,_,_,rfl⟩:=yU hl; rfl
  have b35:=F35.binds (ps:=["self","box","numbers"]) fun _ _ _ _ _ _ us hl=>by obtain ⟨_,_,_,rfl⟩:=yU hl; rfl
  have b36:=F36.binds (ps:=["self","gone"]) fun _ _ _ _ _ _ us hl=>by obtain ⟨_,_,rfl⟩:=yt hl; rfl
  have b37:=F37.binds (ps:=["self"]) fun _ _ _ _ _ _ us hl=>by obtain ⟨_,rfl⟩:=yK hl; rfl
  have b38:wt K _ ["self","lost"] []:=rO (fd:=PySem.W.fnOf "beat" "Net.beat" (zN (zj (top 45) 2)) (zI (zj (top 45) 2)) (zf (zj (top 45) 2)) (.ref T38) kV38 dc38 pm38 an38 cd38 ct38) rfl t38 rfl fun us hl=>by rw [List.append_nil] at hl ⊢; obtain ⟨_,_,rfl⟩:=yt hl; exact ⟨_,rfl,rfl⟩
  have e38:wt K _ ["self","lost"] [.none]:=rO (fd:=PySem.W.fnOf "beat" "Net.beat" (zN (zj (top 45) 2)) (zI (zj (top 45) 2)) (zf (zj (top 45) 2)) (.ref T38) kV38 dc38 pm38 an38 cd38 ct38) rfl t38 rfl fun us hl=>by obtain ⟨_,rfl⟩:=yK (us:=us) (by rw [List.length_append] at hl; exact Nat.succ.inj hl); exact ⟨_,rfl,rfl⟩
  have b54:=F54.binds (ps:=["self","k","board","room","kept"]) fun _ _ _ _ _ _ us hl=>by obtain ⟨_,_,_,_,_,rfl⟩:=VM hl; rfl
  have T:NTxt K mg C:=⟨⟨pg,hd,po,sa⟩,na_depth,na_room,na_most_kept,na_boxes,na_asks,na_now,na_lines,na_keeping,na_done_in,na_logged,na_found,na_answers,PySem.W.mg_of X G aC⟩
  have B:Blt mg:=⟨PySem.W.mg_none_of X G z_abs,PySem.W.mg_none_of X G z_len,PySem.W.mg_none_of X G z_max,PySem.W.mg_none_of X G z_min,PySem.W.mg_none_of X G z_divmod,PySem.W.mg_none_of X G z_repr,PySem.W.mg_none_of X G z_isinstance,PySem.W.mg_none_of X G z_all,PySem.W.mg_none_of X G z_range,PySem.W.mg_none_of X G z_int,PySem.W.mg_none_of X G z_bool,PySem.W.mg_none_of X G z_str,PySem.W.mg_none_of X G z_tuple,PySem.W.mg_none_of X G z_list,PySem.W.mg_none_of X G z_dict⟩
  obtain ⟨oc,od,kV,dc,pm,an,cd,ct,sl,rfl,lk,hc⟩:=h55.2.ex
  refine ⟨PySem.W.fnOf "law" "law" (zN (top 60)) (zI (top 60)) (zf (top 60)) .none kV dc pm an cd ct,fun s v=>.of_eq rfl,fun base _ _=>?_⟩
  have C1:zm l.prog w K mg base 1 _ _ _:=h1.cl X G (qT h1.2 B       ) (h1.2.binds fun _ _ _ _ _ _ us hl=>by obtain ⟨_,_,_,rfl⟩:=yU hl; rfl)
  have C2:zt l.prog w K mg base C 1 "todo" ["self"] (uS C K):=⟨_,_,Z2 (P:=l.prog) (w:=w) (base:=base) (n:=0) F2 B T         ,b2,⟨a2,i2,k2⟩⟩
  have C3:zt l.prog w K mg base C 1 "beats" ["self"] (vK C K):=⟨_,_,Zc (P:=l.prog) (w:=w) (base:=base) (n:=0) F3 B T         ,b3,⟨a3,i3,k3⟩⟩
  have C4:zt l.prog w K mg base C 1 "log" ["self"] (qK C K):=⟨_,_,XN (P:=l.prog) (w:=w) (base:=base) (n:=0) F4 B T         ,b4,⟨a4,i4,k4⟩⟩
  have C5:zt l.prog w K mg base C 1 "board" ["self"] (tW C K):=⟨_,_,Ze (P:=l.prog) (w:=w) (base:=base) (n:=0) F5 B T         ,b5,⟨a5,i5,k5⟩⟩
  have C6:zm l.prog w K mg base 1 _ _ _:=h6.cl X G (Z4 h6.2 B       ) (h6.2.binds fun _ _ _ _ _ _ us hl=>by obtain ⟨_,rfl⟩:=yK hl; rfl)
  have C7:zm l.prog w K mg base 2 _ _ _:=h7.cl X G (Zg h7.2 B    (C6.mono (by decide))   ) (h7.2.binds fun _ _ _ _ _ _ us hl=>by obtain ⟨_,_,_,rfl⟩:=yU hl; rfl)
  have C8:zt l.prog w K mg base C 3 "answer" ["self","number"] (uu C K):=⟨_,_,qV (P:=l.prog) (w:=w) (base:=base) (n:=2) F8 B T      (C7.mono (by decide))   ,b8,⟨a8,i8,k8⟩⟩
  have C9:zm l.prog w K mg base 3 _ _ _:=h9.cl X G (Zi h9.2 B    (C7.mono (by decide))   ) (h9.2.binds fun _ _ _ _ _ _ us hl=>by obtain ⟨_,_,_,rfl⟩:=yU hl; rfl)
  have C10:zt l.prog w K mg base C 4 "joinings" ["self","stage","number"] (wz C K):=⟨_,_,sr (P:=l.prog) (w:=w) (base:=base) (n:=3) F10 B T      (C9.mono (by decide))   ,b10,⟨a10,i10,k10⟩⟩
  have C11:zm l.prog w K mg base 3 _ _ _:=h11.cl X G (XQ h11.2 B    (C7.mono (by decide))   ) (h11.2.binds fun _ _ _ _ _ _ us hl=>by obtain ⟨_,_,rfl⟩:=yt hl; rfl)
  have C12:zt l.prog w K mg base C 4 "waiting" ["self","level","line"] (wZ C K):=⟨_,_,sJ (P:=l.prog) (w:=w) (base:=base) (n:=3) F12 B T      (C11.mono (by decide)) (C7.mono (by decide))   ,b12,⟨a12,i12,k12⟩⟩
  have C13:zm l.prog w K mg base 5 _ _ _:=h13.cl X G (qW h13.2 B T    (C2.mono (by decide)) (C3.mono (by decide)) (C4.mono (by decide)) (C5.mono (by decide)) (C8.mono (by decide)) (C10.mono (by decide)) (C12.mono (by decide))  (C1.mono (by decide))   ) (h13.2.binds fun _ _ _ _ _ _ us hl=>by obtain ⟨_,_,_,rfl⟩:=yU hl; rfl)
  have C14:zm l.prog w K mg base 4 _ _ _:=h14.cl X G (Zk h14.2 B    (C11.mono (by decide))   ) (h14.2.binds fun _ _ _ _ _ _ us hl=>by obtain ⟨_,_,rfl⟩:=yt hl; rfl)
  have C15:zm l.prog w K mg base 2 _ _ _:=h15.cl X G (VE h15.2 B    (C6.mono (by decide))   ) (h15.2.binds fun _ _ _ _ _ _ us hl=>by obtain ⟨_,rfl⟩:=yK hl; rfl)
  have C16:zm l.prog w K mg base 3 _ _ _:=h16.cl X G (XR h16.2 B    (C15.mono (by decide)) (C6.mono (by decide))   ) (h16.2.binds fun _ _ _ _ _ _ us hl=>by obtain ⟨_,rfl⟩:=yK hl; rfl)
  have C17:zm l.prog w K mg base 4 _ _ _:=h17.cl X G (VF h17.2 B    (C16.mono (by decide)) (C7.mono (by decide))  (PySem.W.mg_of X G ga_LAST_HAND) ) (h17.2.binds fun _ _ _ _ _ _ us hl=>by obtain ⟨_,_,rfl⟩:=yt hl; rfl)
  have C18:zt l.prog w K mg base C 5 "put" ["self","ask"] (tV C K):=⟨_,_,XS (P:=l.prog) (w:=w) (base:=base) (n:=4) F18 B T      (C14.mono (by decide)) (C17.mono (by decide))  (PySem.W.mg_of X G ga_MOST_ASKS) ,b18,⟨a18,i18,k18⟩⟩
  have C19:zm l.prog w K mg base 4 _ _ _:=h19.cl X G (sK h19.2 B    (C11.mono (by decide)) (C7.mono (by decide)) (C9.mono (by decide))   ) (h19.2.binds fun _ _ _ _ _ _ us hl=>by obtain ⟨_,_,rfl⟩:=yt hl; rfl)
  have C20:zm l.prog w K mg base 5 _ _ _:=h20.cl X G (Zm h20.2 B    (C19.mono (by decide))   ) (h20.2.binds fun _ _ _ _ _ _ us hl=>by obtain ⟨_,_,rfl⟩:=yt hl; rfl)
  have C21:zt l.prog w K mg base C 1 "done_ago" ["self","many"] (qB C K):=⟨_,_,su (P:=l.prog) (w:=w) (base:=base) (n:=0) F21 B T         ,b21,⟨a21,i21,k21⟩⟩
  have C22:zt l.prog w K mg base C 2 "tell" ["self"] (qF C K):=⟨_,_,Z5 (P:=l.prog) (w:=w) (base:=base) (n:=1) F22 B T    (C21.mono (by decide))   (PySem.W.mg_none_of X G ga_sorted)  ,b22,⟨a22,i22,k22⟩⟩
  have C23:zm l.prog w K mg base 1 _ _ _:=h23.cl X G (XT h23.2 B       ) (h23.2.binds fun _ _ _ _ _ _ us hl=>by obtain ⟨_,_,_,_,rfl⟩:=uB hl; rfl)
  have C24:zm l.prog w K mg base 1 _ _ _:=h24.cl X G (ZF h24.2 B       ) (h24.2.binds fun _ _ _ _ _ _ us hl=>by obtain ⟨_,_,_,rfl⟩:=yU hl; rfl)
  have C25:zm l.prog w K mg base 1 _ _ _:=h25.cl X G (SF h25.2 B       ) (h25.2.binds fun _ _ _ _ _ _ us hl=>by obtain ⟨_,_,rfl⟩:=yt hl; rfl)
  have C26:zm l.prog w K mg base 2 _ _ _:=h26.cl X G (VG h26.2 B    (C24.mono (by decide)) (C25.mono (by decide))   ) (h26.2.binds fun _ _ _ _ _ _ us hl=>by obtain ⟨_,_,rfl⟩:=yt hl; rfl)
  have C27:zm l.prog w K mg base 3 _ _ _:=h27.cl X G (Zn h27.2 B    (C26.mono (by decide))   ) (h27.2.binds fun _ _ _ _ _ _ us hl=>by obtain ⟨_,_,_,rfl⟩:=yU hl; rfl)
  have C28:zm l.prog w K mg base 1 _ _ _:=h28.cl X G (Zo h28.2 B       ) (h28.2.binds fun _ _ _ _ _ _ us hl=>by obtain ⟨_,_,_,rfl⟩:=yU hl; rfl)
  have C29:zm l.prog w K mg base 1 _ _ _:=h29.cl X G (VI h29.2 B       ) (h29.2.binds fun _ _ _ _ _ _ us hl=>by obtain ⟨_,_,_,rfl⟩:=yU hl; rfl)
  have C30:zm l.prog w K mg base 2 _ _ _:=h30.cl X G (sM h30.2 B    (C29.mono (by decide))   ) (h30.2.binds fun _ _ _ _ _ _ us hl=>by obtain ⟨_,_,_,_,rfl⟩:=uB hl; rfl)
  have C31:zm l.prog w K mg base 3 _ _ _:=h31.cl X G (VL h31.2 B    (C30.mono (by decide)) (C29.mono (by decide))   ) (h31.2.binds fun _ _ _ _ _ _ us hl=>by obtain ⟨_,_,_,_,rfl⟩:=uB hl; rfl)
  have C32:zm l.prog w K mg base 1 _ _ _:=h32.cl X G (Z7 h32.2 B       ) (h32.2.binds fun _ _ _ _ _ _ us hl=>by obtain ⟨_,_,rfl⟩:=yt hl; rfl)
  have C33:zt l.prog w K mg base C 4 "hand_on" ["self","stage","line"] (qD C K):=⟨_,_,sN (P:=l.prog) (w:=w) (base:=base) (n:=3) F33 B T      (C27.mono (by decide)) (C28.mono (by decide)) (C31.mono (by decide)) (C32.mono (by decide)) (PySem.W.mg_none_of X G ga_enumerate)  ,b33,⟨a33,i33,k33⟩⟩
  have C34:zt l.prog w K mg base C 5 "pass_on" ["self","stage","gone"] (qE C K):=⟨_,_,sO (P:=l.prog) (w:=w) (base:=base) (n:=4) F34 B T    (C33.mono (by decide))  (C23.mono (by decide))   ,b34,⟨a34,i34,k34⟩⟩
  have C35:zt l.prog w K mg base C 2 "do_asks" ["self","box","numbers"] (um C K):=⟨_,_,sP (P:=l.prog) (w:=w) (base:=base) (n:=1) F35 B T      (C25.mono (by decide))   ,b35,⟨a35,i35,k35⟩⟩
  have C36:zt l.prog w K mg base C 3 "take" ["self","gone"] (qC C K):=⟨_,_,Z8 (P:=l.prog) (w:=w) (base:=base) (n:=2) F36 B T    (C35.mono (by decide))     ,b36,⟨a36,i36,k36⟩⟩
  have C37:zt l.prog w K mg base C 2 "forget" ["self"] (uk C K):=⟨_,_,qX (P:=l.prog) (w:=w) (base:=base) (n:=1) F37 B T    (C21.mono (by decide))     ,b37,⟨a37,i37,k37⟩⟩
  have C38:zt l.prog w K mg base C 6 "beat" ["self","lost"] (xJ C K):=⟨_,_,sx (P:=l.prog) (w:=w) (base:=base) (n:=5) F38 B T    (C22.mono (by decide)) (C34.mono (by decide)) (C36.mono (by decide)) (C37.mono (by decide))  (C20.mono (by decide))   ,b38,⟨a38,i38,k38⟩⟩
  have D38:wI l.prog w K mg base C 6 "beat" ["self","lost"] [.none] (xJ C K):=⟨_,_,sx (P:=l.prog) (w:=w) (base:=base) (n:=5) F38 B T    (C22.mono (by decide)) (C34.mono (by decide)) (C36.mono (by decide)) (C37.mono (by decide))  (C20.mono (by decide))   ,e38,⟨a38,i38,k38⟩⟩
  have C39:zm l.prog w K mg base 7 _ _ _:=h39.cl X G (uA h39.2 B T    (C18.mono (by decide)) (C38.mono (by decide))  (C13.mono (by decide))   ) (h39.2.binds fun _ _ _ _ _ _ us hl=>by obtain ⟨_,_,_,_,rfl⟩:=uB hl; rfl)
  have C40:zm l.prog w K mg base 7 _ _ _:=h40.cl X G (Zq h40.2 B T    (C38.mono (by decide)) (D38.mono (by decide))    ) (h40.2.binds fun _ _ _ _ _ _ us hl=>by obtain ⟨_,_,_,rfl⟩:=yU hl; rfl)
  have C41:zm l.prog w K mg base 1 _ _ _:=h41.cl X G (Zr h41.2 B       ) (h41.2.binds fun _ _ _ _ _ _ us hl=>by obtain ⟨_,_,rfl⟩:=yt hl; rfl)
  have C42:zm l.prog w K mg base 2 _ _ _:=h42.cl X G (qY h42.2 B    (C41.mono (by decide))   ) (h42.2.binds fun _ _ _ _ _ _ us hl=>by obtain ⟨_,_,rfl⟩:=yt hl; rfl)
  have C43:zm l.prog w K mg base 2 _ _ _:=h43.cl X G (Zs h43.2 B    (C41.mono (by decide))   ) (h43.2.binds fun _ _ _ _ _ _ us hl=>by obtain ⟨_,_,rfl⟩:=yt hl; rfl)
  have C44:zm l.prog w K mg base 2 _ _ _:=h44.cl X G (sQ h44.2 B    (C41.mono (by decide))   ) (h44.2.binds fun _ _ _ _ _ _ us hl=>by obtain ⟨_,rfl⟩:=yK hl; rfl)
  have C45:zm l.prog w K mg base 3 _ _ _:=h45.cl X G (Zt h45.2 B    (C41.mono (by decide)) (C44.mono (by decide)) (PySem.W.mg_none_of X G ga_sorted)  ) (h45.2.binds fun _ _ _ _ _ _ us hl=>by obtain ⟨_,rfl⟩:=yK hl; rfl)
  have C46:zm l.prog w K mg base 7 _ _ _:=h46.cl X G (qZ h46.2 B T    (C3.mono (by decide)) (C38.mono (by decide)) (C4.mono (by decide)) (C2.mono (by decide)) (C18.mono (by decide))  (C41.mono (by decide)) (C43.mono (by decide)) (C45.mono (by decide))   ) (h46.2.binds fun _ _ _ _ _ _ us hl=>by obtain ⟨_,_,_,_,rfl⟩:=uB hl; rfl)
  have C47:zm l.prog w K mg base 6 _ _ _:=h47.cl X G (Zv h47.2 B T    (C18.mono (by decide))     ) (h47.2.binds fun _ _ _ _ _ _ us hl=>by obtain ⟨_,_,_,_,_,rfl⟩:=VM hl; rfl)
  have C48:zm l.prog w K mg base 4 _ _ _:=h48.cl X G (Z9 h48.2 B    (C45.mono (by decide)) (C41.mono (by decide))   ) (h48.2.binds fun _ _ _ _ _ _ us hl=>by obtain ⟨_,_,_,_,rfl⟩:=uB hl; rfl)
  have C49:zm l.prog w K mg base 1 _ _ _:=h49.cl X G (Ya h49.2 B       ) (h49.2.binds fun _ _ _ _ _ _ us hl=>by obtain ⟨_,_,rfl⟩:=yt hl; rfl)
  have C50:zm l.prog w K mg base 2 _ _ _:=h50.cl X G (Yc h50.2 B    (C6.mono (by decide))  (PySem.W.mg_of X G ga_MOST_BOXES) ) (h50.2.binds fun _ _ _ _ _ _ us hl=>by obtain ⟨_,rfl⟩:=yK hl; rfl)
  have C51:zm l.prog w K mg base 3 _ _ _:=h51.cl X G (jb h51.2 B    (C50.mono (by decide))   ) (h51.2.binds fun _ _ _ _ _ _ us hl=>by obtain ⟨_,rfl⟩:=yK hl; rfl)
  have C52:zm l.prog w K mg base 3 _ _ _:=h52.cl X G (jd h52.2 B    (C7.mono (by decide))  (PySem.W.mg_of X G ga_MOST_KEPT) (PySem.W.mg_of X G ga_MOST_ROOM) ) (h52.2.binds fun _ _ _ _ _ _ us hl=>by obtain ⟨_,_,rfl⟩:=yt hl; rfl)
  have C53:zm l.prog w K mg base 3 _ _ _:=h53.cl X G (Ye h53.2 B    (C7.mono (by decide))  (PySem.W.mg_of X G ga_DEEPEST) ) (h53.2.binds fun _ _ _ _ _ _ us hl=>by obtain ⟨_,rfl⟩:=yK hl; rfl)
  have C54:zt l.prog w K mg base C 4 "__init__" ["self","k","board","room","kept"] (qJ C K):=⟨_,_,sA (P:=l.prog) (w:=w) (base:=base) (n:=3) F54 B T      (C51.mono (by decide)) (C52.mono (by decide)) (C53.mono (by decide))   ,b54,⟨a54,i54,k54⟩⟩
  exact R4 (P:=l.prog) (w:=w) (base:=base) (n:=7) h55.2 B T      (x6.mono (j:=5) (C54.make ⟨mkc,a54,i54,kc⟩) (by decide)) (C39.mono (by decide)) (C13.mono (by decide)) (C40.mono (by decide)) (C42.mono (by decide)) (C46.mono (by decide)) (C41.mono (by decide)) (C43.mono (by decide)) (C47.mono (by decide)) (C48.mono (by decide)) (C44.mono (by decide)) (C49.mono (by decide))
theorem walk {l:PySem.W.OpenLaw} {q:Program} {loose:List Str} {XP:(Str->Option Value)->Heap->Prop} {YP:World->Heap->Prop} {d:DefRec} {K:Params->JN} (hn:l.most=some 63) (hdf:d.params.defaults=[])
  (hY:∀ (w:World) (h:Heap),YP w h->(K w.params).In h)
  (F:∀ (w:World) (mg:Str->Option Value) (fa:Addr) (h:Heap),(K w.params).In h->h.Ns mainGlobals mg->mg d.name=some (.ref fa) →
   ∃ fd:FuncData,(∀ (s:Shared) (u:Value),BindsTo s fd ⟨[u],[]⟩ [("_law_script",u)]) /\ ∀ base:Heap,(K w.params).In base->base.Ns mainGlobals mg->FnOk l.prog w (K w.params) mg base CX0 8 fa fd ["_law_script"] (Yq (K w.params))) :
  PySem.W.WalkO q loose XP YP l.row.toRowW d [] (fun f vs=>PySem.call f vs) :=
 L2.walk_of (n:=63) (k:=8) (x:="_law_script") (CX:=fun _=>CX0) (sp:=fun w=>Yq (K w.params)) hn (by decide) hdf ⟨rfl,by decide,by decide,rfl⟩ hY F (fun _ _ a ns hl hO hS=>⟨_,rfl,a,ns,rfl,Scr.of hO hS,hl,fun _=>rfl⟩) fun _ _ _ _ _ z=>z
theorem walkX {q:Program} {loose:List Str} {XP:(Str->Option Value)->Heap->Prop} {K:Params->JN} {as:List Addr} {n t:Nat} {r:PySem.W.RowW} {d:DefRec} {kwd:List (Str × Expr)} {run:Value->List Value->Sem Value}
  (e:∀ P,as=(K P).map (·.1)) (W:PySem.W.WalkO q loose XP (PySem.W.InK K) r d kwd run):PySem.W.WalkX q loose XP (PySem.W.X.obsZ as) (PySem.W.X.valZ K n t) r d kwd run :=
 fun w s₀ s₁ mg mb G Y a o pm cd doc dV kV h2 h3 h4 h5 h6 h7 args vals as' L hpre hlay hrd hwl hlo =>
  W w s₀ s₁ mg mb G (PySem.W.InK.keeps w s₀.heap s₁.heap (PySem.W.X.z_facts e Y).2.1 L.keeps) a o pm cd doc dV kV h2 h3 h4 h5 h6 h7 args vals as' hpre hlay hrd hwl hlo
end My
open PySem PySem.W PyProof.Rows
namespace PySem.W.Fast
def tw10461084171033312980:=()
def tw5324435410994882136:=()
def tw4510817194877131231:=()
def tw17521073364344768327:=()
def tw15008437742161003747:=()
def tw13238889886975723047:=()
def tw7605297113817999393:=()
def tw15624563066244785829:=()
def tw14978039206706623735:=()
def tw17739562725863263206:=()
def tw15965676596100492661:=()
def tw6868631679887705780:=()
def tw14210775676314657786:=()
def tw12089029152311278624:=()
def tw10533496055190609127:=()
def tw18437909523997869555:=()
def tw17988407582708244144:=()
def tw9308208272426619098:=()
def tw17622910670909944539:=()
def tw9178418046420579784:=()
def tw2985469743763521463:=()
def tw11407490297312447310:=()
def tw11499102628846430323:=()
def tw14316238753961264155:=()
def tw13592148969815415127:=()
def tw11276296106520346419:=()
def tw3058319530277875937:=()
def tw32004877354012838:=()
def tw3646178378095866748:=()
def tw4777369040733961676:=()
def tw17292896991332126356:=()
def tw17947982494721816492:=()
def tw3646494356029535925:=()
def tw8678520605943356637:=()
def tw8673789758864993764:=()
def tw7574763364757953185:=()
def tw13187388783542039230:=()
def tw11269127989274557190:=()
def tw3116470895707756898:=()
def tw11560268151156398665:=()
def tw1208892619443043155:=()
def tw14923055376119418066:=()
def tw4664805372292323214:=()
def tw5918610116331945776:=()
def tw14549759587042667102:=()
def tw12813679323517363012:=()
def tw2503354398504541684:=()
def tw12274029359487747455:=()
def tw12789350490617659946:=()
def tw3640434672892177936:=()
def tw17927612954948446440:=()
def tw6057068046405813668:=()
def tw2406428537521573707:=()
def tw14207513470677256369:=()
def tw8984299528214195542:=()
def tw5543250610379727941:=()
def tw1477893236304017300:=()
def tw1508783984143775402:=()
def tw16694599129846533909:=()
def tw15704543603253345801:=()
def tw2929549113141009907:=()
def tw10260630995096892638:=()
def tw5063683075436848735:=()
def tw16316657003137427575:=()
def tw12896206824556386552:=()
def tw9500428660780708153:=()
def tw17450757078883008469:=()
def tw16177202931744357629:=()
def tw5864370583433060577:=()
def tw11299607135478494456:=()
def tw6043706596308537331:=()
def tw15368272113437132025:=()
def tw595752236140222002:=()
def tw14681537448755063412:=()
def tw11501449257827787513:=()
def tw6454616677010704079:=()
def tw2265765430551295888:=()
def tw3500613816188833948:=()
def tw13621255009871510167:=()
def tw8766812194104373027:=()
def tw11978067657718640915:=()
def tw17447637332013353545:=()
def tw5439951817957008439:=()
def tw14675014683818152982:=()
def tw17784316479521816617:=()
def tw11720224149170471164:=()
def tw1960713232693625404:=()
def tw11225410841655264824:=()
def tw16857540463674599059:=()
def tw11525824782025679574:=()
def tw1211543352189343466:=()
def tw13447470852112714109:=()
def tw3216897751206924316:=()
def tw8585724935890695892:=()
def tw14851163793573183157:=()
def tw5027271562515094819:=()
def tw14548134302179618790:=()
def tw7899835812768041947:=()
def tw12372926754355761137:=()
def tw8726634560272195420:=()
def tw18009233521908745625:=()
def tw13568359050451764844:=()
def tw16025466664338060717:=()
def tw9791601971231161852:=()
def tw11653852675280451521:=()
def tw16027336542345805732:=()
def tw10909683657409824144:=()
def tw5700906968401991619:=()
def tw3814667316882913298:=()
def tw2741999197111854824:=()
def tw10674704853698991067:=()
def tw10399912168784987658:=()
def tw14142777911902204007:=()
def tw2095970864976813611:=()
def tw11384536337678704187:=()
def tw12331047862369336467:=()
def tw18317330070981764196:=()
def tw5988071460358022379:=()
def tw1593918769464601673:=()
def tw11972657480928657139:=()
def tw6764528860599289599:=()
def tw7946885439388036268:=()
def tw10241084297477992577:=()
def tw9910809169520394072:=()
def tw9618955951908764089:=()
def tw15861690153010487932:=()
def tw13101129166426747624:=()
def tw5353786016739638412:=()
def tw7263452827927045391:=()
def tw6756069810289832944:=()
def tw11167980018495755402:=()
def tw10063917189589515861:=()
def tw6875158873922849626:=()
def tw6023628674195639298:=()
def tw16193822101569096251:=()
def tw3199513409363202349:=()
def tw13890386249979189255:=()
def tw10915072157060604707:=()
def tw6889104607395675008:=()
def tw14064129630632339531:=()
def tw16708046224633633823:=()
def tw93735966763769504:=()
def tw12805002217551384012:=()
def tw1175271228776312174:=()
def tw10087891642120478381:=()
def tw18361954784454109367:=()
def tw8774299444777230561:=()
def tw3298726636972321575:=()
def tw18289950433201025333:=()
def tw14711068862575205037:=()
def tw362720577071049889:=()
def tw17086437053388147718:=()
def tw7474254703475935514:=()
def tw562849617194444485:=()
def tw8479726803366679411:=()
def tw14976177834809266027:=()
def tw15762511489653264548:=()
def tw17421863458716083353:=()
def tw9053496948897309954:=()
def tw11091863171792556433:=()
def tw4720240216751312138:=()
def tw15926113284371911822:=()
def tw5006580151584057565:=()
def tw102955268303387745:=()
def tw5468547070827590747:=()
def tw12070168527502788011:=()
def tw6906661396957714118:=()
def tw13436844693563418907:=()
def tw4466830707433037184:=()
def tw10420919960131977132:=()
def tw13757302826093164004:=()
def tw6687493765777564288:=()
def tw12433247150111277649:=()
def tw10458383311884547335:=()
def tw495268613356011373:=()
def tw10076755480707144858:=()
def tw5387836910771290662:=()
def tw14326350960662016667:=()
def tw2901058669279243837:=()
def tw510498501601592642:=()
def tw5414686095266581184:=()
def tw9445343762045240784:=()
def tw13125579211498294776:=()
def tw3445793351698344502:=()
def tw4257120108981741746:=()
def tw13543330474977564441:=()
def tw13191515360260129435:=()
def tw12638026694200232375:=()
def tw11569623738526591156:=()
def tw16874262335319520415:=()
def tw969446892893535728:=()
def tw3666967096030785448:=()
def tw10751613812119285194:=()
def tw16638814424637293508:=()
def tw8781349749899108396:=()
def tw14530721197308289743:=()
def tw10958648022581227345:=()
def tw3937753192108106979:=()
def tw9932764191313551424:=()
def tw6170113812628481528:=()
def tw2407026330018204228:=()
def tw2931826077773062196:=()
def tw5178563265394249048:=()
def tw18233779940569309693:=()
def tw556126945882682027:=()
def tw3523269992720791247:=()
def tw17625317056507589487:=()
def tw1688176503524150582:=()
def tw13726061547286572879:=()
def tw14645046032810473879:=()
def tw3467810416204394322:=()
def tw766813977770547061:=()
def tw13579843606377993120:=()
def tw7432134365209610867:=()
def tw6582726274403109794:=()
def tw8391706051147451215:=()
def tw10372966459699742700:=()
def tw6715602528052734280:=()
def tw7375307248007706431:=()
def tw8179559434879720574:=()
def tw13396291530390039880:=()
def tw5211184237303469508:=()
def tw15872618553347387689:=()
def tw12003619288669493443:=()
def tw1010920062374823140:=()
def tw10847590293283917322:=()
def tw10299110638211669618:=()
def tw6719854998438606774:=()
def tw7554769713121588063:=()
def tw11819326003363049217:=()
def tw3601377873297009143:=()
def tw2011021140523843345:=()
def tw12267884398486547178:=()
def tw14671541731821126935:=()
def tw13477405598877198929:=()
def tw15383335540749875974:=()
def tw5480138602710305639:=()
def tw5083095107721672076:=()
def tw6985269568547260297:=()
def tw2342782495832022734:=()
def tw3424888493926153871:=()
def tw7441715413819505265:=()
def tw17695991069002834311:=()
def tw7593885155693744791:=()
def tw2595821501354775528:=()
def tw2075948276746693639:=()
def tw14672886100933510433:=()
def tw10955685217329400906:=()
def tw12979403744583876076:=()
def tw1258390679358258742:=()
def tw3575628166372906130:=()
def tw12957882930476446488:=()
def tw1388557972726833557:=()
def tw15297784127749454432:=()
def tw9499124360493856320:=()
def tw17693885368296570934:=()
def tw762059793004701264:=()
def tw14686877932208779593:=()
def tw7831887774929593963:=()
def tw16236242627031632638:=()
def tw594563336444489210:=()
def tw7465647740236166191:=()
def tw14604997776847720223:=()
def tw16262186722953879200:=()
def tw695726374612151892:=()
def tw2251028130450104353:=()
def tw13246615351451560470:=()
def tw2242160748189414286:=()
def tw7816629293301683007:=()
def tw6506472078291509265:=()
def tw563058007735090148:=()
def tw1822928107461998942:=()
def tw11656295212478473267:=()
def tw8904633432599978875:=()
def tw7966797468201958417:=()
def tw2463395269011576511:=()
def tw12538908174650251285:=()
def tw3953618574583654350:=()
def tw6318730129189904906:=()
def tw8670895015942816233:=()
def tw8449819031686651544:=()
def tw13387974217321988119:=()
def tw7645646648124549378:=()
def tw4114243029470863294:=()
def tw11254009626845404205:=()
def tw13382966977410065368:=()
def tw13428659583871659080:=()
def tw10592634577822170295:=()
def tw7742930778465601578:=()
def tw15595969702312042071:=()
def tw5183357859869462251:=()
def tw4146169539141672999:=()
def tw13163513063648916970:=()
def tw16371809707707393831:=()
def tw3320807260480074111:=()
def tw9225475176823556289:=()
def tw17406805894722402033:=()
def tw16442253730250903221:=()
def tw16800232439325161762:=()
def tw5028722351349907639:=()
def tw9082507322140691245:=()
def tw14292045031117516169:=()
def tw14785689258387843398:=()
def tw6000836116870909867:=()
def tw2685015514238001524:=()
def tw11316946536653297691:=()
def tw1841823172056861927:=()
def tw1887158953622704348:=()
def tw4481010339953339102:=()
def tw11507945590541165252:=()
def tw15476618196525332675:=()
def tw10578218160275046151:=()
def tw12060224129980260573:=()
def tw14167650168355379283:=()
def tw18418894050650752784:=()
def tw15834119443059760746:=()
def tw4591545024368444326:=()
def tw12399944634856650707:=()
def tw6338793093771740958:=()
def tw10380882440392330826:=()
def tw16036367850781153628:=()
def tw16951405589746254504:=()
def tw6990236840548181128:=()
def tw1841321841451063305:=()
def tw4971751994339966036:=()
def tw16072532343921238604:=()
def tw9870470789860022136:=()
def tw14713802873904662733:=()
def tw7824647179099709710:=()
def tw3238092042314414150:=()
def tw2953952121957770871:=()
def tw4010857376578079239:=()
def tw5190951496792824975:=()
def tw13390117356291222979:=()
def tw14869665278992913811:=()
def tw4955243207867374947:=()
def tw4776298655346708910:=()
def tw2366030147600135014:=()
def tw17707027133906143914:=()
def tw14654357124228403540:=()
def tw3129580873682364064:=()
end PySem.W.Fast
set_option maxRecDepth 100000 in
theorem PySem.Challenge.cw_joinedasks_k57_nets_again_and_apart_holds : PySem.Challenge.rw_joinedasks_k57_nets_again_and_apart.Holds := by
 w_on; o_law; z_head; (case hw=>w_witness2)
 refine My.walkX (fun _=>by kernel_rfl) (My.walk (l:=PySem.Challenge.rw_joinedasks_k57_nets_again_and_apart) rfl rfl (fun w h Y=>Y) ?F)
 case F =>
  intro w mg fa h KX G hmg
  refine' My.all_mk KX G hmg ?aC ?pg ?hd ?po ?sa ?mkc ?kc ?na_depth ?na_room ?na_most_kept ?na_boxes ?na_asks ?na_now ?na_lines ?na_keeping ?na_done_in ?na_logged ?na_found ?na_answers       ?h1 ?a2 ?i2 ?l2 ?c2 ?k2 ?a3 ?i3 ?l3 ?c3 ?k3 ?a4 ?i4 ?l4 ?c4 ?k4 ?a5 ?i5 ?l5 ?c5 ?k5 ?h6 ?h7 ?a8 ?i8 ?l8 ?c8 ?k8 ?h9 ?a10 ?i10 ?l10 ?c10 ?k10 ?h11 ?a12 ?i12 ?l12 ?c12 ?k12 ?h13 ?h14 ?h15 ?h16 ?h17 ?a18 ?i18 ?l18 ?c18 ?k18 ?h19 ?h20 ?a21 ?i21 ?l21 ?c21 ?k21 ?a22 ?i22 ?l22 ?c22 ?k22 ?h23 ?h24 ?h25 ?h26 ?h27 ?h28 ?h29 ?h30 ?h31 ?h32 ?a33 ?i33 ?l33 ?c33 ?k33 ?a34 ?i34 ?l34 ?c34 ?k34 ?a35 ?i35 ?l35 ?c35 ?k35 ?a36 ?i36 ?l36 ?c36 ?k36 ?a37 ?i37 ?l37 ?c37 ?k37 ?a38 ?i38 ?l38 ?c38 ?k38 ?t38 ?h39 ?h40 ?h41 ?h42 ?h43 ?h44 ?h45 ?h46 ?h47 ?h48 ?h49 ?h50 ?h51 ?h52 ?h53 ?a54 ?i54 ?l54 ?c54 ?k54 ?h55 ?ga_DEEPEST ?ga_LAST_HAND ?ga_MOST_ASKS ?ga_MOST_BOXES ?ga_MOST_KEPT ?ga_MOST_ROOM ?ga_enumerate ?ga_sorted ?z_abs ?z_len ?z_max ?z_min ?z_divmod ?z_repr ?z_isinstance ?z_all ?z_range ?z_int ?z_bool ?z_str ?z_tuple ?z_list ?z_dict
  (case aC=>k_is); (case pg=>k_is); (case hd=>k_is); (case po=>k_is); (case sa=>k_is); (case mkc=>k_is); (case kc=>k_is); (case na_depth=>k_is); (case na_room=>k_is); (case na_most_kept=>k_is); (case na_boxes=>k_is); (case na_asks=>k_is); (case na_now=>k_is); (case na_lines=>k_is); (case na_keeping=>k_is); (case na_done_in=>k_is); (case na_logged=>k_is); (case na_found=>k_is); (case na_answers=>k_is)
  (case h1=>exact ⟨by k_is,L2.fun_mk (by k_is) (by k_is) (by k_is)⟩)
  (case a2=>k_is); (case i2=>k_is); (case l2=>k_is); (case c2=>k_is); (case k2=>k_is)
  (case a3=>k_is); (case i3=>k_is); (case l3=>k_is); (case c3=>k_is); (case k3=>k_is)
  (case a4=>k_is); (case i4=>k_is); (case l4=>k_is); (case c4=>k_is); (case k4=>k_is)
  (case a5=>k_is); (case i5=>k_is); (case l5=>k_is); (case c5=>k_is); (case k5=>k_is)
  (case h6=>exact ⟨by k_is,L2.fun_mk (by k_is) (by k_is) (by k_is)⟩)
  (case h7=>exact ⟨by k_is,L2.fun_mk (by k_is) (by k_is) (by k_is)⟩)
  (case a8=>k_is); (case i8=>k_is); (case l8=>k_is); (case c8=>k_is); (case k8=>k_is)
  (case h9=>exact ⟨by k_is,L2.fun_mk (by k_is) (by k_is) (by k_is)⟩)
  (case a10=>k_is); (case i10=>k_is); (case l10=>k_is); (case c10=>k_is); (case k10=>k_is)
  (case h11=>exact ⟨by k_is,L2.fun_mk (by k_is) (by k_is) (by k_is)⟩)
  (case a12=>k_is); (case i12=>k_is); (case l12=>k_is); (case c12=>k_is); (case k12=>k_is)
  (case h13=>exact ⟨by k_is,L2.fun_mk (by k_is) (by k_is) (by k_is)⟩)
  (case h14=>exact ⟨by k_is,L2.fun_mk (by k_is) (by k_is) (by k_is)⟩)
  (case h15=>exact ⟨by k_is,L2.fun_mk (by k_is) (by k_is) (by k_is)⟩)
  (case h16=>exact ⟨by k_is,L2.fun_mk (by k_is) (by k_is) (by k_is)⟩)
  (case h17=>exact ⟨by k_is,L2.fun_mk (by k_is) (by k_is) (by k_is)⟩)
  (case a18=>k_is); (case i18=>k_is); (case l18=>k_is); (case c18=>k_is); (case k18=>k_is)
  (case h19=>exact ⟨by k_is,L2.fun_mk (by k_is) (by k_is) (by k_is)⟩)
  (case h20=>exact ⟨by k_is,L2.fun_mk (by k_is) (by k_is) (by k_is)⟩)
  (case a21=>k_is); (case i21=>k_is); (case l21=>k_is); (case c21=>k_is); (case k21=>k_is)
  (case a22=>k_is); (case i22=>k_is); (case l22=>k_is); (case c22=>k_is); (case k22=>k_is)
  (case h23=>exact ⟨by k_is,L2.fun_mk (by k_is) (by k_is) (by k_is)⟩)
  (case h24=>exact ⟨by k_is,L2.fun_mk (by k_is) (by k_is) (by k_is)⟩)
  (case h25=>exact ⟨by k_is,L2.fun_mk (by k_is) (by k_is) (by k_is)⟩)
  (case h26=>exact ⟨by k_is,L2.fun_mk (by k_is) (by k_is) (by k_is)⟩)
  (case h27=>exact ⟨by k_is,L2.fun_mk (by k_is) (by k_is) (by k_is)⟩)
  (case h28=>exact ⟨by k_is,L2.fun_mk (by k_is) (by k_is) (by k_is)⟩)
  (case h29=>exact ⟨by k_is,L2.fun_mk (by k_is) (by k_is) (by k_is)⟩)
  (case h30=>exact ⟨by k_is,L2.fun_mk (by k_is) (by k_is) (by k_is)⟩)
  (case h31=>exact ⟨by k_is,L2.fun_mk (by k_is) (by k_is) (by k_is)⟩)
  (case h32=>exact ⟨by k_is,L2.fun_mk (by k_is) (by k_is) (by k_is)⟩)
  (case a33=>k_is); (case i33=>k_is); (case l33=>k_is); (case c33=>k_is); (case k33=>k_is)
  (case a34=>k_is); (case i34=>k_is); (case l34=>k_is); (case c34=>k_is); (case k34=>k_is)
  (case a35=>k_is); (case i35=>k_is); (case l35=>k_is); (case c35=>k_is); (case k35=>k_is)
  (case a36=>k_is); (case i36=>k_is); (case l36=>k_is); (case c36=>k_is); (case k36=>k_is)
  (case a37=>k_is); (case i37=>k_is); (case l37=>k_is); (case c37=>k_is); (case k37=>k_is)
  (case a38=>k_is); (case i38=>k_is); (case l38=>k_is); (case c38=>k_is); (case k38=>k_is)
  (case t38=>k_is)
  (case h39=>exact ⟨by k_is,L2.fun_mk (by k_is) (by k_is) (by k_is)⟩)
  (case h40=>exact ⟨by k_is,L2.fun_mk (by k_is) (by k_is) (by k_is)⟩)
  (case h41=>exact ⟨by k_is,L2.fun_mk (by k_is) (by k_is) (by k_is)⟩)
  (case h42=>exact ⟨by k_is,L2.fun_mk (by k_is) (by k_is) (by k_is)⟩)
  (case h43=>exact ⟨by k_is,L2.fun_mk (by k_is) (by k_is) (by k_is)⟩)
  (case h44=>exact ⟨by k_is,L2.fun_mk (by k_is) (by k_is) (by k_is)⟩)
  (case h45=>exact ⟨by k_is,L2.fun_mk (by k_is) (by k_is) (by k_is)⟩)
  (case h46=>exact ⟨by k_is,L2.fun_mk (by k_is) (by k_is) (by k_is)⟩)
  (case h47=>exact ⟨by k_is,L2.fun_mk (by k_is) (by k_is) (by k_is)⟩)
  (case h48=>exact ⟨by k_is,L2.fun_mk (by k_is) (by k_is) (by k_is)⟩)
  (case h49=>exact ⟨by k_is,L2.fun_mk (by k_is) (by k_is) (by k_is)⟩)
  (case h50=>exact ⟨by k_is,L2.fun_mk (by k_is) (by k_is) (by k_is)⟩)
  (case h51=>exact ⟨by k_is,L2.fun_mk (by k_is) (by k_is) (by k_is)⟩)
  (case h52=>exact ⟨by k_is,L2.fun_mk (by k_is) (by k_is) (by k_is)⟩)
  (case h53=>exact ⟨by k_is,L2.fun_mk (by k_is) (by k_is) (by k_is)⟩)
  (case a54=>k_is); (case i54=>k_is); (case l54=>k_is); (case c54=>k_is); (case k54=>k_is)
  (case h55=>exact ⟨by k_is,L2.fun_mk (by k_is) (by k_is) (by k_is)⟩)
  (case ga_DEEPEST=>k_is)
  (case ga_LAST_HAND=>k_is)
  (case ga_MOST_ASKS=>k_is)
  (case ga_MOST_BOXES=>k_is)
  (case ga_MOST_KEPT=>k_is)
  (case ga_MOST_ROOM=>k_is)
  (case ga_enumerate=>k_is)
  (case ga_sorted=>k_is)
  (case z_abs=>k_is); (case z_len=>k_is); (case z_max=>k_is); (case z_min=>k_is); (case z_divmod=>k_is); (case z_repr=>k_is); (case z_isinstance=>k_is); (case z_all=>k_is); (case z_range=>k_is); (case z_int=>k_is); (case z_bool=>k_is); (case z_str=>k_is); (case z_tuple=>k_is); (case z_list=>k_is); (case z_dict=>k_is)
