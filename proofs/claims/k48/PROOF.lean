import PyProof.Rows.All
import Wide.All
import OpenK.AllK
import Wide.FinOn
import Lean
import PyProof.EqAt
import PyProof.EqKinds
import PyProof.TupleCall
import PyProof.NeKinds
import PyProof.ReprRoads
import PyProof.ReprLen
import PyProof.Rows.RegStrFacts
import PyProof.Draws
import PyProof.EnumStmt
import PyProof.ZipIter
import PyProof.ListNew
import PyProof.TupleOfGen
import PyProof.ListRange
import PyProof.Rows.Range3
import PyProof.SumWalkG
import PyProof.Rows.RuleB_lshift
import PyProof.AutoSeq1
import PyProof.Cells
import PyProof.AutoListH
import PyProof.DictTable
import PyProof.RulesAs
import PyProof.NsDelKeeps
import KE.KDictList
import PyProof.DictCompW
import PyProof.DictItems
import PyProof.Rows.SetFrom
import PyProof.SetRoads
import PyProof.IsiH_list
import PyProof.AttrMiss
import KE.KDictOf
import KE.KSortTup
import PyProof.DictWalks
import PyProof.Rows.CallKw2
import PySem.Challenge.RW_joinedasks_k48_whole_exchanged
set_option Elab.async false
set_option linter.all false
set_option maxRecDepth 100000
set_option maxHeartbeats 0
abbrev FG7:=PySem.W.Frag
abbrev VS7:=PySem.Value -> PySem.Shared -> Prop
namespace L2
open PySem PySem.Spec PyProof.Rows
abbrev Key:=Sum Int Str
def jp:Key -> Value -> Bool
 | .inl k,v=>Value.isInt k v
 | .inr x,v=>Value.isStrOf x v
def keyH (w:World):Key -> Int
 | .inl k=>hashInt k
 | .inr x=>hashStr w x
theorem zX:∀ {k:Key} {v:Value},jp k v = true -> (∃ i t,k = Sum.inl i /\ v = Value.int i t) \/ (∃ x t,k = Sum.inr x /\ v = Value.str x t)
 | .inl i,v,h=>by
  obtain ⟨t,e⟩:=Value.isInt_shape (k:=i) (v:=v) h
  exact .inl ⟨i,t,rfl,e⟩
 | .inr x,v,h=>by
  obtain ⟨t,e⟩:=Value.isStrOf_shape (x:=x) (v:=v) h
  exact .inr ⟨x,t,rfl,e⟩
theorem j8 (i:Int) (t:Tok):jp (.inl i) (.int i t) = true:=by simp [jp,Value.isInt]
theorem j9 (x:Str) (t:Tok):jp (.inr x) (.str x t) = true:=by simp [jp,Value.isStrOf]
theorem WX (a b:Int):decide ((Sum.inl a:Key) = Sum.inl b) = (a == b):=by
 by_cases e:a = b
 ·subst e; simp
 ·have h:¬ (Sum.inl a:Key) = Sum.inl b:=fun q=>e (Sum.inl.inj q)
  rw [decide_eq_false h]
  exact (beq_eq_false_iff_ne.mpr e).symm
theorem WY (a b:Str):decide ((Sum.inr a:Key) = Sum.inr b) = decide (a = b):=by
 by_cases e:a = b
 ·subst e; simp
 ·have h:¬ (Sum.inr a:Key) = Sum.inr b:=fun q=>e (Sum.inr.inj q)
  rw [decide_eq_false h,decide_eq_false e]
theorem WZ (a:Int) (b:Str):decide ((Sum.inl a:Key) = Sum.inr b) = false:=decide_eq_false (fun q=>nomatch q)
theorem W0 (a:Str) (b:Int):decide ((Sum.inr a:Key) = Sum.inl b) = false:=decide_eq_false (fun q=>nomatch q)
def z6 (prog:Program) (w:World):PySem.KeyKind prog w Key where
 is:=jp
 hash:=keyH w
 inj:=fun v a b ha hb=>by
  rcases zX ha with ⟨i,t,rfl,rfl⟩ | ⟨x,t,rfl,rfl⟩
  ·rcases zX hb with ⟨j,u,rfl,e⟩ | ⟨y,u,rfl,e⟩
   ·injection e with e1 _; rw [e1]
   ·exact nomatch e
  ·rcases zX hb with ⟨j,u,rfl,e⟩ | ⟨y,u,rfl,e⟩
   ·exact nomatch e
   ·injection e with e1 _; rw [e1]
 byValue:=fun k v h=>by
  rcases zX h with ⟨i,t,rfl,rfl⟩ | ⟨x,t,rfl,rfl⟩ <;> rfl
 pyHash:=fun hv h=>by
  rcases zX hv with ⟨i,t,rfl,rfl⟩ | ⟨x,t,rfl,rfl⟩
  ·exact wpAny_pyHash_int h
  ·exact wpAny_pyHash_str h
 eqBool:=fun hu hv h=>by
  rcases zX hu with ⟨i,t,rfl,rfl⟩ | ⟨x,t,rfl,rfl⟩
  ·rcases zX hv with ⟨j,u,rfl,rfl⟩ | ⟨y,u,rfl,rfl⟩
   ·rw [WX] at h; exact wpAny_eqBool_int h
   ·rw [WZ] at h; exact SeqAt.EqAt.int_str i t y u _ _ _ _ h
  ·rcases zX hv with ⟨j,u,rfl,rfl⟩ | ⟨y,u,rfl,rfl⟩
   ·rw [W0] at h; exact SeqAt.EqAt.str_int x t j u _ _ _ _ h
   ·rw [WY] at h; exact wpAny_eqBool_str h
 «strs»:=fun k x t v h=>by
  rcases zX h with ⟨i,u,rfl,e⟩ | ⟨y,u,rfl,e⟩
  ·exact nomatch e
  ·injection e with e1 _
   subst e1
   cases v <;> rfl
theorem rG (prog:Program) (w:World) (i:Int) (t:Tok):(z6 prog w).is (.inl i) (.int i t) = true:=j8 i t
theorem rH (prog:Program) (w:World) (x:Str) (t:Tok):(z6 prog w).is (.inr x) (.str x t) = true:=j9 x t
end L2
namespace L2
open PySem PySem.Spec PyProof.Rows
inductive V where
 | non | bl (b:Bool) | int (i:Int) | str (x:Str) | byt (b:Array UInt8) | flt (b:UInt64) | ref (a:Addr) | ty (n:String)
 deriving DecidableEq
def RelV:V -> Value -> Prop
 | .non,u=>u = Value.none
 | .bl b,u=>u = Value.bool b
 | .int i,u=>∃ t,u = Value.int i t
 | .str x,u=>∃ t,u = Value.str x t
 | .byt b,u=>∃ t,u = Value.bytes b t
 | .flt b,u=>∃ t,u = Value.float b t
 | .ref a,u=>u = Value.ref a
 | .ty n,u=>u = Value.type n
abbrev Vals:List V -> List Value -> Prop:=Paired RelV
theorem Vals.length {xs:List V} {us:List Value} (r:Vals xs us):xs.length = us.length:=Paired.length r
theorem Vals.get:∀ {xs:List V} {us:List Value} {i:Nat} {x:V},Vals xs us -> xs[i]? = some x -> ∃ u,us[i]? = some u /\ RelV x u
 | _,_,_,_,.nil,e=>by simp at e
 | _,_,0,_,.cons r _,e=>by simp at e; subst e; exact ⟨_,rfl,r⟩
 | _,_,i + 1,x,.cons _ t,e=>by
  obtain ⟨u,h1,h2⟩:=Vals.get (i:=i) (x:=x) t (by simpa using e)
  exact ⟨u,by simpa using h1,h2⟩
theorem Vals.set {x:V} {u:Value} (r:RelV x u):∀ {xs:List V} {us:List Value} (i:Nat),Vals xs us -> Vals (xs.set i x) (us.set i u)
 | _,_,_,.nil=>.nil
 | _,_,0,.cons _ t=>.cons r t
 | _,_,i + 1,.cons q t=>.cons q (Vals.set r i t)
theorem Vals.append:∀ {xs ys:List V} {us ws:List Value},Vals xs us -> Vals ys ws -> Vals (xs ++ ys) (us ++ ws)
 | _,_,_,_,.nil,s=>s
 | _,_,_,_,.cons r t,s=>.cons r (Vals.append t s)
theorem Vals.take:∀ {xs:List V} {us:List Value} (n:Nat),Vals xs us -> Vals (xs.take n) (us.take n)
 | _,_,0,_=>.nil
 | _,_,_ + 1,.nil=>.nil
 | _,_,n + 1,.cons r t=>.cons r (Vals.take n t)
theorem Vals.drop:∀ {xs:List V} {us:List Value} (n:Nat),Vals xs us -> Vals (xs.drop n) (us.drop n)
 | _,_,0,r=>r
 | _,_,_ + 1,.nil=>.nil
 | _,_,n + 1,.cons _ t=>Vals.drop n t
def RelO:Option V -> Option Value -> Prop
 | some v,some u=>RelV v u
 | none,none=>True
 | _,_=>False
def KV {κ:Type}:List (κ × V) -> List (κ × Value) -> Prop:=Paired fun (p:κ × V) (q:κ × Value)=>p.1 = q.1 /\ RelV p.2 q.2
def kV:Key -> V
 | .inl i=>.int i
 | .inr x=>.str x
inductive HO where
 /-- a list -/
 | lst (xs:List V)
 /-- a tuple (never changes) -/
 | tup (xs:List V)
 /-- a dict whose keys are ints and texts; one whose keys are tuples of ints and texts (the empty one is both) -/
 | dK (kvs:List (Key × V)) | dT (kvs:List (List Key × V))
 /-- a set of ints: its members,its size -/
 | set (S:Int -> Bool) (n:Nat)
 /-- an instance of the class at C,its dict at dx,its attributes -/
 | ins (C dx:Addr) (fs:List (Str × V))
 /-- the dict of the instance at x -/
 | own (x:Addr)
 /-- the dict of an exception -/
 | xd (fs:List (Str × V))
 /-- a bound method,f of x -/
 | met (f x:Addr)
 /-- a range object lo,lo + 1,.. below hi -/
 | rng (lo hi:Int)
 /-- a thing that is known to the object (the script; a dict while a loop walks it): read,never written while it is so -/
 | frz (o:Obj) (u:HO)
 /-- a code object's table -/
 | tbl (ps:Array Value)
 /-- any other thing,by what is true of its one object (a def of one's own: SetO a S n:=HO.ext fun h=>..) -/
 | ext (φ:Heap -> Prop)
abbrev Hp:=Addr -> Option HO
def upd (H:Hp) (a:Addr) (o:HO):Hp:=fun b=>if b = a then some o else H b
theorem zd {H:Hp} {a:Addr} {o:HO}:upd H a o a = some o:=by unfold upd; rw [if_pos rfl]
theorem zp {H:Hp} {a b:Addr} {o:HO} (h:b ≠ a):upd H a o b = H b:=by unfold upd; rw [if_neg h]
theorem Wa {H:Hp} {a b:Addr} {o u:HO} (h:H a = some o) (h':H b = some u) (d:o ≠ u):a ≠ b:=by
 intro e; subst e; rw [h] at h'; exact d (Option.some.inj h')
theorem zv {H:Hp} {a b:Addr} {o:HO} (h:H a = some o) (h':H b = none):a ≠ b:=by
 intro e; subst e; rw [h] at h'; cases h'
section
variable (P:Program) (w:World)
def z7 (H:Hp) (h:Heap) (a:Addr):HO -> Prop
 | .lst xs=>xs.length <= sizeLine /\ ∃ (its:List Value) (n:Nat),Vals xs its /\ h.get? a = some { cls:=.type "list",data:=.seq its.toArray n }
 | .tup xs=>xs.length <= sizeLine /\ ∃ its:List Value,Vals xs its /\ IsTup h a its.toArray
 | .dK kvs=>kvs.length <= sizeLine /\ (a == sysModules) = false /\ ∃ vs,KV kvs vs /\ h.DictOf (z6 P w) a vs
 | .dT kvs=>kvs.length <= sizeLine /\ (a == sysModules) = false /\ ∃ xs:List (List Key × Addr × Value),
   Paired (fun (p:List Key × V) (q:List Key × Addr × Value)=>p.1 = q.1 /\ H q.2.1 = some (.tup (p.1.map kV)) /\ RelV p.2 q.2.2) kvs xs ∧
   ∃ o es ep,h.get? a = some o /\ o.ExactDict /\ o.data = .dict es ep /\ es.toList = xs.map (entryOfKey (tupleKind (z6 P w))) /\ (xs.map (·.1)).Nodup
 | .set S n=>h.SetOf (intKind P w) a S n
 | .ins C dx fs=>H dx = some (.own a) /\ fs.length <= 1000 /\ dx ≠ a /\ h.get? a = some (PySem.W.instObj C dx) ∧
   ∃ mA,h.Ns1 dx mA /\ (∀ f,RelO (fs.lookup f) (mA f)) /\ PySem.Within mA (fs.map (·.1))
 | .own _=>∃ o,h.get? a = some o
 | .xd fs=>∃ mA,h.Ns1 a mA /\ ∀ f,RelO (fs.lookup f) (mA f)
 | .rng lo hi=>∃ t u v,h.get? a = some { cls:=.type "range",data:=.fields #[.int lo t,.int hi u,.int 1 v] }
 | .frz o u=>h.get? a = some o /\ z7 H h a u
 | .tbl ps=>h.get? a = some { cls:=.none,data:=.fields ps }
 | .met f x=>h.get? a = some (PySem.W.methodObj (.ref f) (.ref x))
 | .ext φ=>φ h /\ (∃ o,h.get? a = some o) /\ ∀ h1 h2:Heap,φ h1 -> (∀ o,h1.get? a = some o -> h2.get? a = some o) -> φ h2
def HOk (H:Hp) (h:Heap):Prop:=∀ a o,H a = some o -> z7 P w H h a o
end
section
variable {P:Program} {w:World} {H H':Hp} {h h':Heap} {a:Addr} {o:HO}
theorem z7.lt (x:z7 P w H h a o):a < h.objs.size:=by
 cases o with
 | lst xs=>obtain ⟨_,_,_,_,e⟩:=x; exact Heap.lt_size e
 | tup xs=>obtain ⟨_,_,_,p⟩:=x; exact p.lt
 | dK kvs=>obtain ⟨_,_,_,_,o,_,_,e,_⟩:=x; exact Heap.lt_size e
 | dT kvs=>obtain ⟨_,_,_,_,o,_,_,e,_⟩:=x; exact Heap.lt_size e
 | set S n=>obtain ⟨o,_,_,_,e,_⟩:=x; exact Heap.lt_size e
 | ins C dx fs=>obtain ⟨_,_,_,e,_⟩:=x; exact Heap.lt_size e
 | own y=>obtain ⟨_,e⟩:=x; exact Heap.lt_size e
 | xd fs=>obtain ⟨_,⟨_,_,_,e,_⟩,_⟩:=x; exact Heap.lt_size e
 | rng lo hi=>obtain ⟨_,_,_,e⟩:=x; exact Heap.lt_size e
 | frz ob u=>obtain ⟨e,_⟩:=x; exact Heap.lt_size e
 | tbl ps=>exact Heap.lt_size (show h.get? a = some _ from x)
 | met f y=>exact Heap.lt_size (show h.get? a = some _ from x)
 | ext φ=>obtain ⟨_,⟨_,e⟩,_⟩:=x; exact Heap.lt_size e
theorem Paired.mapP {α β:Type} {F G:α -> β -> Prop}:∀ {l₁:List α} {l₂:List β},Paired F l₁ l₂ -> (∀ a b,F a b -> G a b) -> Paired G l₁ l₂
 | _,_,.nil,_=>.nil
 | _,_,.cons r t,f=>.cons (f _ _ r) (Paired.mapP t f)
theorem z7.stay (x:z7 P w H h a o) (k:∀ b u,(b = a \/ H b = some (.own a)) -> h.get? b = some u -> h'.get? b = some u)
  (ho:∀ b,H b = some (.own a) -> H' b = some (.own a)) (ht:∀ b xs,H b = some (.tup xs) -> H' b = some (.tup xs)):z7 P w H' h' a o:=by
 induction o with
 | lst xs=>obtain ⟨z,its,n,r,e⟩:=x; exact ⟨z,its,n,r,k _ _ (.inl rfl) e⟩
 | tup xs=>obtain ⟨z,its,r,ob,e,c⟩:=x; exact ⟨z,its,r,ob,k _ _ (.inl rfl) e,c⟩
 | dK kvs=>obtain ⟨z,y,vs,r,ob,es,ep,e,c⟩:=x; exact ⟨z,y,vs,r,ob,es,ep,k _ _ (.inl rfl) e,c⟩
 | dT kvs =>
  obtain ⟨z,y,xs,r,ob,es,ep,e,c⟩:=x
  exact ⟨z,y,xs,Paired.mapP r fun p q z=>⟨z.1,ht _ _ z.2.1,z.2.2⟩,ob,es,ep,k _ _ (.inl rfl) e,c⟩
 | set S n=>obtain ⟨ob,es,ep,t,e,c⟩:=x; exact ⟨ob,es,ep,t,k _ _ (.inl rfl) e,c⟩
 | ins C dx fs =>
  obtain ⟨d,z,ne,e,mA,⟨od,es,ep,e2,c⟩,r⟩:=x
  exact ⟨ho _ d,z,ne,k _ _ (.inl rfl) e,mA,⟨od,es,ep,k _ _ (.inr d) e2,c⟩,r⟩
 | own y=>obtain ⟨ob,e⟩:=x; exact ⟨ob,k _ _ (.inl rfl) e⟩
 | xd fs=>obtain ⟨mA,⟨od,es,ep,e,c⟩,r⟩:=x; exact ⟨mA,⟨od,es,ep,k _ _ (.inl rfl) e,c⟩,r⟩
 | rng lo hi=>obtain ⟨t,u,v,e⟩:=x; exact ⟨t,u,v,k _ _ (.inl rfl) e⟩
 | frz ob u ih=>obtain ⟨e,q⟩:=x; exact ⟨k _ _ (.inl rfl) e,ih q⟩
 | tbl ps =>
  have e:h.get? a = some { cls:=.none,data:=.fields ps }:=x
  show h'.get? a = some { cls:=.none,data:=.fields ps }
  exact k a _ (.inl rfl) e
 | met f y =>
  have e:h.get? a = some (PySem.W.methodObj (.ref f) (.ref y)):=x
  show h'.get? a = some (PySem.W.methodObj (.ref f) (.ref y))
  exact k a _ (.inl rfl) e
 | ext φ=>obtain ⟨p,⟨o,e⟩,st⟩:=x; exact ⟨st _ _ p fun o q=>k _ _ (.inl rfl) q,⟨o,k _ _ (.inl rfl) e⟩,st⟩
theorem HOk.lt (x:HOk P w H h) (e:H a = some o):a < h.objs.size:=(x a o e).lt
theorem HOk.fresh (x:HOk P w H h) (e:h.objs.size <= a):H a = none:=by
 cases q:H a with
 | none=>rfl
 | some u=>exact absurd (Nat.lt_of_lt_of_le (x.lt q) e) (Nat.lt_irrefl _)
theorem HOk.kept (x:HOk P w H h) (k:∀ b u,h.get? b = some u -> h'.get? b = some u):HOk P w H h':=fun a o e =>
 (x a o e).stay (fun b u _ q=>k b u q) (fun _ q=>q) fun _ _ q=>q
theorem HOk.laid (x:HOk P w H h) (k:∀ b u,h.get? b = some u -> h'.get? b = some u) (hp:h.objs.size <= a) (new:z7 P w (upd H a o) h' a o):HOk P w (upd H a o) h':=fun b u e=>by
 have hn:=x.fresh hp
 by_cases hb:b = a
 ·subst hb; rw [zd] at e; cases e; exact new
 ·rw [zp hb] at e
  exact (x b u e).stay (fun c v _ q=>k c v q) (fun c q=>by rw [zp (zv q hn)]; exact q) fun c xs q=>by rw [zp (zv q hn)]; exact q
end
def Rd (H:Hp) (a:Addr) (u:HO):Prop:=H a = some u \/ ∃ o,H a = some (.frz o u)
theorem Rd.ok {P:Program} {w:World} {H:Hp} {h:Heap} {a:Addr} {u:HO} (r:Rd H a u) (x:HOk P w H h):z7 P w H h a u:=by
 rcases r with r | ⟨o,r⟩
 ·exact x a u r
 ·obtain ⟨_,q⟩:=x a _ r
  exact q
def Mut:Option HO -> Prop
 | some (.lst _)=>True
 | some (.dK _)=>True
 | some (.dT _)=>True
 | some (.set _ _)=>True
 | some (.ins _ _ _)=>True
 | some (.ext _)=>True
 | _=>False
section
variable {P:Program} {w:World} {H:Hp} {h h':Heap} {x e:Addr} {o':HO}
theorem HOk.write (ok:HOk P w H h) (mu:Mut (H x)) (he:e = x \/ H e = some (.own x)) (k:∀ b u,b ≠ e -> h.get? b = some u -> h'.get? b = some u) (heo:∃ u,h'.get? e = some u)
  (new:z7 P w (upd H x o') h' x o'):HOk P w (upd H x o') h':=fun b u q=>by
 have nown:∀ c y,H c = some (.own y) -> c ≠ x:=fun c y r z=>by subst z; rw [r] at mu; exact mu
 have ntup:∀ c xs,H c = some (.tup xs) -> c ≠ x:=fun c xs r z=>by subst z; rw [r] at mu; exact mu
 by_cases hb:b = x
 ·subst hb; rw [zd] at q; cases q; exact new
 ·rw [zp hb] at q
  by_cases hbe:b = e
  ·have q':H b = some (.own x):=by
    rcases he with z | z
    ·exact absurd (hbe.trans z) hb
    ·rw [hbe]; exact z
   rw [q] at q'; cases q'
   obtain ⟨v,hv⟩:=heo
   exact ⟨v,by rw [hbe]; exact hv⟩
  ·refine (ok b u q).stay (fun c v hc r=>k c v ?_ r) (fun c r=>by rw [zp (nown c b r)]; exact r) fun c xs r=>by rw [zp (ntup c xs r)]; exact r
   rcases hc with rfl | hc
   ·exact hbe
   ·rintro rfl
    rcases he with z | z
    ·exact nown c b hc z
    ·rw [hc] at z; cases z; exact hb rfl
end
structure Un (fs ex:List Addr) (H H':Hp) (h h':Heap):Prop where
 keep:∀ b o,h.get? b = some o -> H b = none -> b ∉ fs -> b ∉ ex -> h'.get? b = some o
 slot:∀ b o,h.get? b = some o -> H b = none -> b ∈ fs -> b ∉ ex -> ∃ sl,h'.get? b = some { o with slots:=sl }
 free:∀ b o,h.get? b = some o -> H b = none -> b ∉ ex -> H' b = none
 there:∀ b o,h.get? b = some o -> b ∉ ex -> ∃ o',h'.get? b = some o'
 tups:∀ b xs,H b = some (.tup xs) -> H' b = some (.tup xs)
 frzs:∀ b o u,H b = some (.frz o u) -> H' b = some (.frz o u)
 tbls:∀ b ps,H b = some (.tbl ps) -> ∃ more,H' b = some (.tbl (ps ++ more))
section
variable {fs fs' ex ex':List Addr} {H H1 H2:Hp} {h h1 h2 h':Heap} {a x e:Addr} {o:HO}
theorem Un.any (u:Un fs ex H H1 h h1) {b:Addr} {ob:Obj} (q:h.get? b = some ob) (n:H b = none) (hx:b ∉ ex):∃ sl,h1.get? b = some { ob with slots:=sl }:=by
 by_cases hb:b ∈ fs
 ·exact u.slot b ob q n hb hx
 ·exact ⟨ob.slots,u.keep b ob q n hb hx⟩
theorem Un.kept (k:∀ b u,h.get? b = some u -> h'.get? b = some u):Un fs ex H H h h' :=
 ⟨fun b ob q _ _ _=>k b ob q,fun b ob q _ _ _=>⟨ob.slots,k b ob q⟩,fun _ _ _ n _=>n,fun b ob q _=>⟨ob,k b ob q⟩,fun _ _ q=>q,fun _ _ _ q=>q,fun _ ps q=>⟨#[],by rw [q]; simp⟩⟩
theorem Un.refl:Un fs ex H H h h:=Un.kept fun _ _ q=>q
theorem Un.laid (k:∀ b u,h.get? b = some u -> h'.get? b = some u) (hp:h.objs.size <= a) (hn:H a = none):Un fs ex H (upd H a o) h h' where
 keep:=fun b u q _ _ _=>k b u q
 slot:=fun b u q _ _ _=>⟨u.slots,k b u q⟩
 free:=fun b u q n _=>by rw [zp (Nat.ne_of_lt (Nat.lt_of_lt_of_le (Heap.lt_size q) hp))]; exact n
 there:=fun b u q _=>⟨u,k b u q⟩
 tups:=fun b xs q=>by rw [zp (zv q hn)]; exact q
 frzs:=fun b u xs q=>by rw [zp (zv q hn)]; exact q
 tbls:=fun b ps q=>⟨#[],by rw [zp (zv q hn),q]; simp⟩
theorem Un.write (mu:Mut (H x)) (he:e = x \/ H e = some (.own x)) (k:∀ b u,b ≠ e -> h.get? b = some u -> h'.get? b = some u) (heo:∃ u,h'.get? e = some u):Un fs ex H (upd H x o) h h':=by
 have hx:∀ b,H b = none -> b ≠ x:=fun b n z=>by subst z; rw [n] at mu; exact mu
 have hb:∀ b,H b = none -> b ≠ e:=fun b n z=>by
  subst z
  rcases he with r | r
  ·exact hx b n r
  ·rw [n] at r; cases r
 have hm:∀ b u,H b = some u -> ¬ Mut (some u) -> b ≠ x:=fun b u q nm z=>by subst z; rw [q] at mu; exact nm mu
 refine ⟨fun b u q n _ _=>k b u (hb b n) q,fun b u q n _ _=>⟨u.slots,k b u (hb b n) q⟩,fun b u q n _=>by rw [zp (hx b n)]; exact n,fun b u q _=>?_,
  fun b xs q=>by rw [zp (hm b _ q fun z=>z)]; exact q,fun b u xs q=>by rw [zp (hm b _ q fun z=>z)]; exact q,fun b ps q=>⟨#[],by rw [zp (hm b _ q fun z=>z),q]; simp⟩⟩
 by_cases hbe:b = e
 ·subst hbe; exact heo
 ·exact ⟨u,k b u hbe q⟩
end
def trk (h:Heap) (H:Hp):List Addr:=(List.range h.objs.size).filter fun a=>(H a).isSome
def hidT (h:Heap) (H:Hp):Heap:=PySem.W.hideAll h (trk h H)
theorem Za (h:Heap) (H:Hp):(hidT h H).objs.size = h.objs.size:=PySem.W.hideAll_size _ _
theorem YZ {h:Heap} {H:Hp} {b:Addr} {o:Obj} (e:h.get? b = some o) (n:H b = none):(hidT h H).get? b = some o :=
 PySem.W.hideAll_get _ e fun hm=>by
  have q:(H b).isSome = true:=(List.mem_filter.mp hm).2
  rw [n] at q; simp at q
theorem Wb {h:Heap} {H:Hp} {b:Addr} {o:Obj} (e:(hidT h H).get? b = some o):h.get? b = some o /\ H b = none:=by
 have e':h.get? b = some o:=PySem.W.of_hideAll (trk h H) e
 refine ⟨e',?_⟩
 cases q:H b with
 | none=>rfl
 | some x =>
  have hm:b ∈ trk h H:=List.mem_filter.mpr ⟨List.mem_range.mpr (Heap.lt_size e'),by simp [q]⟩
  have z:(hidT h H).get? b = none:=PySem.W.hideAll_none (trk h H) hm
  rw [z] at e; cases e
def Wc (g h:Heap) (L:Addr):List (Addr × Obj):=(List.range h.objs.size).filterMap fun a=>if a = L \/ (g.get? a).isSome = true then none else (h.get? a).map fun o=>(a,o)
def rest (g h:Heap) (L d:Addr):List (Addr × Obj):=(Wc g h L).filter fun p=>decide (p.1 ≠ d)
end L2
namespace L2
open PySem PySem.Spec PyProof.Rows
structure Mod (K:FG7) (mg:Str -> Option Value) (base:Heap):Prop where
 kin:K.In base
 glob:base.Ns mainGlobals mg
 blt:∃ mb,base.Ns builtinsNs mb /\ ∀ x:Str,x ≠ "__name__" -> mb x = bootBuiltins x
 nolimit:base.NoLimit
structure Cx where
 prog:Program
 w:World
 K:FG7
 mg:Str -> Option Value
 base:Heap
 A:Around
 N:List Str
 s₀:Shared
 H₀:Hp
 env:Env
 outer:List Env
 stack:List Env
 ex:List Addr
 fn:Str -> Bool
 calm:Bool
 pn:List (Addr × Obj)
 xe:VS7
def frs (l:List Env):List Addr:=l.filterMap (·.frame)
abbrev Cx.fs (X:Cx):List Addr:=frs X.outer
def Vis (sc:Scope) (x:Str):Prop:=sc.names.lookup x = some .local \/ sc.names.lookup x = some .cell \/ sc.names.lookup x = some .free
def Loc (sc:Scope) (x:Str):Prop:=sc.names.lookup x = some .local \/ sc.names.lookup x = some .cell
def Look (env:Env) (h:Heap) (m:Str -> Option Value) (x:Str) (u:Value):Prop :=
 (env.kindOf x = some .local /\ m x = some u) \/ ((env.kindOf x = some .cell \/ env.kindOf x = some .free) /\ ∃ c,env.cells.lookup x = some c /\ h.IsCell c (some u))
structure Cx.Ok (X:Cx):Prop where
 mod:Mod X.K X.mg X.base
 kind:X.env.scope.kind = .function
 glob:X.env.globals = mainGlobals
 blt:X.env.builtins = builtinsNs
 above:X.s₀.heap.objs.size <= X.env.locals
 inj:∀ x y c,X.env.cells.lookup x = some c -> X.env.cells.lookup y = some c -> x = y
 has:∀ x,(X.env.kindOf x = some .cell \/ X.env.kindOf x = some .free) -> ∃ c,X.env.cells.lookup x = some c
 cab:∀ x c,X.fn x = true -> X.env.cells.lookup x = some c -> X.s₀.heap.objs.size <= c
 hd:X.calm = true -> X.A.handled = none
 frames:X.A.frames = some X.stack
 stk:X.stack = X.outer \/ (X.stack = X.env :: X.outer /\ X.env.frame = some X.env.locals)
 exf:∀ b ∈ X.ex,b ≠ X.env.locals /\ ∀ x c,X.env.cells.lookup x = some c -> c ≠ b
 bs:∀ b o,X.base.get? b = some o -> X.s₀.heap.get? b = some o /\ X.H₀ b = none
 bsz:X.base.objs.size <= X.s₀.heap.objs.size
 noex:∀ b o,X.base.get? b = some o -> b ∉ X.ex
 exfs:∀ b ∈ X.ex,b ∉ X.fs
 funs:X.s₀.heap.FunFrames X.base X.outer
 frf:∀ b ∈ X.fs,X.H₀ b = none
structure Inv (X:Cx) (pins:List (Addr × Obj)) (σ:List (Option V)) (H:Hp) (s:Shared):Prop where
 ok:X.Ok
 os:s.os = X.s₀.os
 bare:AllBare s.gens
 base:Un X.fs X.ex X.H₀ H X.s₀.heap s.heap
 loc:∃ m,s.heap.Ns X.env.locals m /\ ∀ (i:Nat) (x:Str) (v:V),X.N[i]? = some x -> σ[i]? = some (some v) -> Vis X.env.scope x -> ∃ u,RelV v u /\ Look X.env s.heap m x u
 cell:∀ x c,X.env.cells.lookup x = some c -> ∃ v,s.heap.IsCell c v
 free:H X.env.locals = none
 freeC:∀ x c,X.env.cells.lookup x = some c -> H c = none
 pin:∀ p ∈ X.pn ++ pins,s.heap.get? p.1 = some p.2 /\ H p.1 = none /\ p.1 ≠ X.env.locals /\ p.1 ∉ X.fs /\ ∀ v,p.2.data ≠ .cell v
 hok:HOk X.prog X.w H s.heap
 len:σ.length = X.N.length
section
variable {X:Cx} {pins:List (Addr × Obj)} {σ:List (Option V)} {H H':Hp} {s:Shared} {h':Heap}
theorem Cx.Ok.nofr (ok:X.Ok) {b:Addr} {o:Obj} (e:X.base.get? b = some o):b ∉ X.fs:=fun hb=>by
 have:=(ok.funs.mem hb).1
 rw [e] at this; cases this
theorem Inv.bs (I:Inv X pins σ H s):∀ b o,X.base.get? b = some o -> s.heap.get? b = some o /\ H b = none:=fun b o e =>
 ⟨I.base.keep b o (I.ok.bs b o e).1 (I.ok.bs b o e).2 (I.ok.nofr e) (I.ok.noex b o e),I.base.free b o (I.ok.bs b o e).1 (I.ok.bs b o e).2 (I.ok.noex b o e)⟩
theorem Inv.bk (I:Inv X pins σ H s):∀ b o,X.base.get? b = some o -> s.heap.get? b = some o:=fun b o e=>(I.bs b o e).1
theorem Inv.mod (I:Inv X pins σ H s):Mod X.K X.mg X.base:=I.ok.mod
theorem Inv.kIn (I:Inv X pins σ H s):X.K.In s.heap:=I.ok.mod.kin.keeps I.bk
theorem Inv.lt (I:Inv X pins σ H s):X.env.locals < s.heap.objs.size:=let ⟨_,hn,_⟩:=I.loc; hn.lt
theorem Inv.sz (I:Inv X pins σ H s):X.s₀.heap.objs.size <= s.heap.objs.size:=Nat.le_trans I.ok.above (Nat.le_of_lt I.lt)
theorem Inv.nofs (I:Inv X pins σ H s) {a:Addr} (h:s.heap.objs.size <= a):a ∉ X.fs:=fun hb=>by
 obtain ⟨_,o,ho,_⟩:=I.ok.funs.mem hb
 exact absurd (Nat.lt_of_lt_of_le (Heap.lt_size ho) (Nat.le_trans I.sz h)) (Nat.lt_irrefl _)
theorem Inv.cne (I:Inv X pins σ H s):∀ x c,X.env.cells.lookup x = some c -> c ≠ X.env.locals:=fun x c e z=>by
 obtain ⟨v,o,ho,hd⟩:=I.cell x c e
 obtain ⟨m,⟨o',es,ep,ho',hd',_⟩,_⟩:=I.loc
 rw [z,ho'] at ho; cases ho; rw [hd'] at hd; cases hd
theorem Inv.funs (I:Inv X pins σ H s):s.heap.FunFrames X.base X.outer:=by
 have all:∀ (l:List Env),(∀ b ∈ frs l,b ∈ X.fs) -> X.s₀.heap.FunFrames X.base l -> s.heap.FunFrames X.base l:=by
  intro l
  induction l with
  | nil=>intro _ _; trivial
  | cons env r ih =>
   intro hs hl
   obtain ⟨hk,⟨L,o,hf,hn,ho,hd⟩,hr⟩:=hl
   have hL:L ∈ X.fs:=hs L (by unfold frs; rw [List.filterMap_cons,hf]; exact List.mem_cons_self)
   obtain ⟨sl,e⟩:=I.base.slot L o ho (I.ok.frf L hL) hL fun z=>I.ok.exfs L z hL
   exact ⟨hk,⟨L,_,hf,hn,e,hd⟩,ih (fun b hb=>hs b (by unfold frs; rw [List.filterMap_cons,hf]; exact List.mem_cons_of_mem _ hb)) hr⟩
 exact all X.outer (fun _ hb=>hb) I.ok.funs
theorem Inv.stack (I:Inv X pins σ H s):s.heap.FunFrames X.base X.stack:=by
 rcases I.ok.stk with e | ⟨e,hf⟩
 ·rw [e]; exact I.funs
 ·rw [e]
  obtain ⟨m,hn,_⟩:=I.loc
  refine .cons (by rw [I.ok.kind]; decide) hf hn ?_ I.funs
  exact Heap.get?_none_of_le (Nat.le_trans I.ok.bsz I.ok.above)
theorem Inv.stkSub (I:Inv X pins σ H s):∀ b ∈ frs X.stack,b ∈ X.env.locals :: X.fs:=fun b hb=>by
 rcases I.ok.stk with e | ⟨e,hf⟩
 ·rw [e] at hb; exact List.mem_cons_of_mem _ hb
 ·rw [e] at hb
  unfold frs at hb
  rw [List.filterMap_cons,hf] at hb
  exact hb
theorem Inv.stkFree (I:Inv X pins σ H s):∀ b ∈ frs X.stack,H b = none:=fun b hb=>by
 rcases List.mem_cons.mp (I.stkSub b hb) with e | hb
 ·rw [e]; exact I.free
 ·obtain ⟨_,o,ho,_⟩:=I.ok.funs.mem hb
  exact I.base.free b o ho (I.ok.frf b hb) fun z=>I.ok.exfs b z hb
theorem Inv.step {g':Array GenState} {t':Nat} {d':Drawn} {ch:List Addr} (I:Inv X pins σ H s)
  (hch:∀ b ∈ ch,(b ∈ X.ex \/ X.s₀.heap.objs.size <= b) /\ b ≠ X.env.locals /\ (∀ x c,X.env.cells.lookup x = some c -> c ≠ b) /\ ∀ p ∈ X.pn ++ pins,p.1 ≠ b)
  (keep:∀ b o,b ≠ X.env.locals -> b ∉ X.fs -> b ∉ ch -> s.heap.get? b = some o -> H b = none -> h'.get? b = some o)
  (slot:∀ b o,b ≠ X.env.locals -> b ∈ X.fs -> b ∉ ch -> s.heap.get? b = some o -> H b = none -> ∃ sl,h'.get? b = some { o with slots:=sl }) (free:∀ b o,b ∉ ch -> s.heap.get? b = some o -> H b = none -> H' b = none)
  (there:∀ b o,b ∉ ch -> s.heap.get? b = some o -> ∃ o',h'.get? b = some o')
  (tups:∀ b xs,H b = some (.tup xs) -> H' b = some (.tup xs)) (frzs:∀ b o u,H b = some (.frz o u) -> H' b = some (.frz o u)) (tbls:∀ b ps,H b = some (.tbl ps) -> ∃ more,H' b = some (.tbl (ps ++ more)))
  (ns:∀ m,s.heap.Ns X.env.locals m -> h'.Ns X.env.locals m) (hok:HOk X.prog X.w H' h') (hg:AllBare g') :
  Inv X pins σ H' { s with heap:=h',gens:=g',drawn:=d',toks:=t' }:=by
 have neL:∀ b o,X.s₀.heap.get? b = some o -> b ≠ X.env.locals:=fun b o e=>Nat.ne_of_lt (Nat.lt_of_lt_of_le (Heap.lt_size e) I.ok.above)
 have neC:∀ b o,X.s₀.heap.get? b = some o -> b ∉ X.ex -> b ∉ ch:=fun b o e hx hb=>by
  rcases (hch b hb).1 with z | z
  ·exact hx z
  ·exact absurd (Nat.lt_of_lt_of_le (Heap.lt_size e) z) (Nat.lt_irrefl _)
 have cellK:∀ x c,X.env.cells.lookup x = some c -> ∀ v,s.heap.IsCell c v -> h'.IsCell c v:=fun x c e v ⟨o,ho,hd⟩=>by
  have nch:c ∉ ch:=fun z=>(hch c z).2.2.1 x c e rfl
  by_cases hc:c ∈ X.fs
  ·obtain ⟨sl,q⟩:=slot c o (I.cne x c e) hc nch ho (I.freeC x c e)
   exact ⟨_,q,hd⟩
  ·exact ⟨o,keep c o (I.cne x c e) hc nch ho (I.freeC x c e),hd⟩
 refine ⟨I.ok,I.os,hg,⟨fun b o e n hb hx=>?_,fun b o e n hb hx=>?_,fun b o e n hx=>?_,fun b o e hx=>?_,fun b xs e=>tups b xs (I.base.tups b xs e),fun b o xs e=>frzs b o xs (I.base.frzs b o xs e),fun b ps e=>?_⟩,?_,fun x c e=>?_,?_,fun x c e=>?_,fun p hp=>?_,hok,I.len⟩
 ·exact keep b o (neL b o e) hb (neC b o e hx) (I.base.keep b o e n hb hx) (I.base.free b o e n hx)
 ·obtain ⟨sl,e1⟩:=I.base.slot b o e n hb hx
  obtain ⟨sl',e2⟩:=slot b _ (neL b o e) hb (neC b o e hx) e1 (I.base.free b o e n hx)
  exact ⟨sl',e2⟩
 ·obtain ⟨o',e1⟩:=I.base.there b o e hx
  exact free b o' (neC b o e hx) e1 (I.base.free b o e n hx)
 ·obtain ⟨o',e1⟩:=I.base.there b o e hx
  exact there b o' (neC b o e hx) e1
 ·obtain ⟨m1,e1⟩:=I.base.tbls b ps e
  obtain ⟨m2,e2⟩:=tbls b _ e1
  exact ⟨m1 ++ m2,by rw [e2,Array.append_assoc]⟩
 ·obtain ⟨m,hn,hl⟩:=I.loc
  refine ⟨m,ns m hn,fun i x v e1 e2 e3=>?_⟩
  obtain ⟨u,r,l⟩:=hl i x v e1 e2 e3
  refine ⟨u,r,?_⟩
  rcases l with l | ⟨k,c,e,z⟩
  ·exact .inl l
  ·exact .inr ⟨k,c,e,cellK x c e _ z⟩
 ·obtain ⟨v,z⟩:=I.cell x c e
  exact ⟨v,cellK x c e v z⟩
 ·obtain ⟨m,⟨o,_,_,ho,_⟩,_⟩:=I.loc
  exact free _ o (fun z=>(hch _ z).2.1 rfl) ho I.free
 ·obtain ⟨v,o,ho,hd⟩:=I.cell x c e
  exact free c o (fun z=>(hch c z).2.2.1 x c e rfl) ho (I.freeC x c e)
 ·obtain ⟨e,n,ne,nf,d⟩:=I.pin p hp
  have nch:p.1 ∉ ch:=fun z=>(hch p.1 z).2.2.2 p hp rfl
  exact ⟨keep p.1 p.2 ne nf nch e n,free p.1 p.2 nch e n,ne,nf,d⟩
theorem Inv.un {t':Nat} (I:Inv X pins σ H s) (u:Un X.fs [] H H' s.heap h') (hok:HOk X.prog X.w H' h'):Inv X pins σ H' { s with heap:=h',toks:=t' }:=by
 obtain ⟨m,⟨o,es,ep,ho,r⟩,_⟩:=id I.loc
 obtain ⟨sl,hL⟩:=u.any ho I.free (by simp)
 exact I.step (g':=s.gens) (d':=s.drawn) (ch:=[]) (fun _ z=>nomatch z) (fun b o _ hb _ e n=>u.keep b o e n hb (by simp)) (fun b o _ hb _ e n=>u.slot b o e n hb (by simp)) (fun b o _ e n=>u.free b o e n (by simp)) (fun b o _ e=>u.there b o e (by simp)) u.tups u.frzs u.tbls (fun m' hm=>by
  obtain ⟨o',es',ep',ho',r'⟩:=hm
  rw [ho] at ho'; cases ho'
  exact ⟨_,es',ep',hL,r'⟩) hok I.bare
theorem Inv.call {g':Array GenState} {t':Nat} {d':Drawn} {ch:List Addr} (I:Inv X pins σ H s) (u:Un (frs X.stack) ch H H' s.heap h') (hok:HOk X.prog X.w H' h') (hg:AllBare g')
  (hch:∀ b ∈ ch,(b ∈ X.ex \/ X.s₀.heap.objs.size <= b) /\ b ≠ X.env.locals /\ (∀ x c,X.env.cells.lookup x = some c -> c ≠ b) /\ ∀ p ∈ X.pn ++ pins,p.1 ≠ b) :
  Inv X pins σ H' { s with heap:=h',gens:=g',drawn:=d',toks:=t' }:=by
 obtain ⟨m,⟨o,es,ep,ho,r⟩,_⟩:=id I.loc
 obtain ⟨sl,hL⟩:=u.any ho I.free fun z=>(hch _ z).2.1 rfl
 exact I.step (ch:=ch) hch (fun b o hL hb hc e n=>u.keep b o e n (fun z=>(List.mem_cons.mp (I.stkSub b z)).elim hL hb) hc) (fun b o _ _ hc e n=>u.any e n hc) (fun b o hc e n=>u.free b o e n hc) (fun b o hc e=>u.there b o e hc) u.tups u.frzs u.tbls (fun m' hm=>by
  obtain ⟨o',es',ep',ho',r'⟩:=hm
  rw [ho] at ho'; cases ho'
  exact ⟨_,es',ep',hL,r'⟩) hok hg
theorem Inv.turned {t':Nat} {it:Addr} (I:Inv X pins σ H s) (k:∀ b o,b ≠ it -> s.heap.get? b = some o -> h'.get? b = some o) (hn:H it = none) (hL:it ≠ X.env.locals)
  (h1:it ∈ X.ex \/ X.s₀.heap.objs.size <= it) (h2:∀ x c,X.env.cells.lookup x = some c -> c ≠ it) (h3:∀ p ∈ X.pn ++ pins,p.1 ≠ it):Inv X pins σ H { s with heap:=h',toks:=t' }:=by
 have nit:∀ b u,H b = some u -> b ≠ it:=fun b u e z=>by rw [z,hn] at e; cases e
 refine I.step (g':=s.gens) (d':=s.drawn) (ch:=[it]) (fun b hb=>?_) (fun b o _ _ hc e _=>k b o (fun z=>hc (by simp [z])) e) (fun b o _ _ hc e _=>⟨o.slots,k b o (fun z=>hc (by simp [z])) e⟩) (fun _ _ _ _ n=>n)
  (fun b o hc e=>⟨o,k b o (fun z=>hc (by simp [z])) e⟩) (fun _ _ e=>e) (fun _ _ _ e=>e) (fun b ps e=>⟨#[],by rw [e]; simp⟩) (fun m hm=>?_) (fun b u e=>?_) I.bare
 ·have e:b = it:=by simpa using hb
  subst e
  exact ⟨h1,hL,h2,h3⟩
 ·obtain ⟨o,es,ep,ho,r⟩:=hm
  exact ⟨o,es,ep,k _ o (Ne.symm hL) ho,r⟩
 ·refine (I.hok b u e).stay (fun c v hc q=>k c v ?_ q) (fun _ q=>q) fun _ _ q=>q
  rcases hc with z | z
  ·rw [z]; exact nit b u e
  ·exact nit c _ z
theorem Inv.tok (I:Inv X pins σ H s) (t:Nat):Inv X pins σ H { s with toks:=t }:=I.un (h':=s.heap) (t':=t) Un.refl I.hok
theorem Inv.kept {t':Nat} (I:Inv X pins σ H s) (k:∀ b u,s.heap.get? b = some u -> h'.get? b = some u):Inv X pins σ H { s with heap:=h',toks:=t' }:=I.un (Un.kept k) (I.hok.kept k)
theorem Inv.laid {a:Addr} {o:HO} {t':Nat} (I:Inv X pins σ H s) (k:∀ b u,s.heap.get? b = some u -> h'.get? b = some u) (hp:s.heap.objs.size <= a) (new:z7 X.prog X.w (upd H a o) h' a o) :
  Inv X pins σ (upd H a o) { s with heap:=h',toks:=t' }:=I.un (Un.laid k hp (I.hok.fresh hp)) (I.hok.laid k hp new)
theorem Inv.write {x e:Addr} {o:HO} {t':Nat} (I:Inv X pins σ H s) (mu:Mut (H x)) (he:e = x \/ H e = some (.own x)) (k:∀ b u,b ≠ e -> s.heap.get? b = some u -> h'.get? b = some u) (heo:∃ u,h'.get? e = some u)
  (new:z7 X.prog X.w (upd H x o) h' x o):Inv X pins σ (upd H x o) { s with heap:=h',toks:=t' }:=I.un (Un.write mu he k heo) (I.hok.write mu he k heo new)
theorem Inv.pins_of {pins':List (Addr × Obj)} (I:Inv X pins σ H s) (h:∀ p ∈ pins',s.heap.get? p.1 = some p.2 /\ H p.1 = none /\ p.1 ≠ X.env.locals /\ p.1 ∉ X.fs /\ ∀ v,p.2.data ≠ .cell v):Inv X pins' σ H s :=
 ⟨I.ok,I.os,I.bare,I.base,I.loc,I.cell,I.free,I.freeC,fun p hp=>(List.mem_append.mp hp).elim (fun z=>I.pin p (List.mem_append_left _ z)) (h p),I.hok,I.len⟩
theorem qE {N:List Str} (hN:N.Nodup) {i j:Nat} {x:Str} (a:N[i]? = some x) (b:N[j]? = some x):i = j:=by
 obtain ⟨h1,e1⟩:=List.getElem?_eq_some_iff.mp a
 obtain ⟨h2,e2⟩:=List.getElem?_eq_some_iff.mp b
 exact (List.getElem_inj hN).mp (e1.trans e2.symm)
theorem Zb {M:Model} {A:Around} {E:VS7} {i:Nat} {x:Str} {v:V} {u:Value} {Q:Unit -> Shared -> Prop} (I:Inv X pins σ H s) (hN:X.N.Nodup) (hi:X.N[i]? = some x) (hx:Loc X.env.scope x) (r:RelV v u)
  (h:∀ s',Inv X pins (σ.set i (some v)) H s' -> (∃ a,Heap.SameBut a s.heap s'.heap /\ (a = X.env.locals \/ X.env.cells.lookup x = some a)) -> Q () s') (hf:X.fn x = true \/ X.env.scope.names.lookup x = some .local :=by first | exact .inl rfl | exact .inr rfl | assumption):wpAny M A (storeName X.env x u) Q E s:=by
 obtain ⟨m,hn,hl⟩:=id I.loc
 have hcls:(X.env.scope.kind == .class || (X.env.scope.kind == .module && X.env.locals != X.env.globals)) = false:=by rw [I.ok.kind]; rfl
 have hiσ:i < σ.length:=by rw [I.len]; exact (List.getElem?_eq_some_iff.mp hi).1
 have cne:=I.cne
 have tracked:∀ {a:Addr} {h':Heap},(∃ o,s.heap.get? a = some o /\ H a = none) -> Heap.SameBut a s.heap h' -> HOk X.prog X.w H h':=fun {a h'} ha hs b ob e=>by
  obtain ⟨_,_,hfree⟩:=ha
  refine (I.hok b ob e).stay (fun c w' hc q=>(hs.2 c ?_).trans q) (fun _ q=>q) fun _ _ q=>q
  rintro rfl
  rcases hc with rfl | hc
  ·rw [hfree] at e; cases e
  ·rw [hfree] at hc; cases hc
 rcases hx with hk | hk
 ·refine wpAny_storeName_local hk hn (fun h' hn' hs=>?_) hcls
  obtain ⟨oL,_,_,hoL,_⟩:=id hn
  refine h _ ⟨I.ok,I.os,I.bare,⟨fun b o e n hb hx=>?_,fun b o e n hb hx=>?_,I.base.free,fun b o e hx=>?_,I.base.tups,I.base.frzs,I.base.tbls⟩,⟨_,hn',fun j y v' e1 e2 e3=>?_⟩,fun y c e=>?_,I.free,I.freeC,fun p hp=>?_,tracked ⟨oL,hoL,I.free⟩ hs,by simpa using I.len⟩ ⟨_,hs,.inl rfl⟩
  ·exact (hs.2 b (Nat.ne_of_lt (Nat.lt_of_lt_of_le (Heap.lt_size e) I.ok.above))).trans (I.base.keep b o e n hb hx)
  ·obtain ⟨sl,e1⟩:=I.base.slot b o e n hb hx
   exact ⟨sl,(hs.2 b (Nat.ne_of_lt (Nat.lt_of_lt_of_le (Heap.lt_size e) I.ok.above))).trans e1⟩
  ·obtain ⟨o',e1⟩:=I.base.there b o e hx
   exact ⟨o',(hs.2 b (Nat.ne_of_lt (Nat.lt_of_lt_of_le (Heap.lt_size e) I.ok.above))).trans e1⟩
  ·by_cases hj:j = i
   ·subst hj
    rw [hi] at e1; cases e1
    rw [List.getElem?_set_self hiσ] at e2
    cases e2
    exact ⟨u,r,.inl ⟨hk,by simp⟩⟩
   ·rw [List.getElem?_set_ne (Ne.symm hj)] at e2
    obtain ⟨u',r',q⟩:=hl j y v' e1 e2 e3
    refine ⟨u',r',?_⟩
    rcases q with ⟨k,e⟩ | ⟨k,c,e,z⟩
    ·refine .inl ⟨k,?_⟩
     have:y ≠ x:=fun e=>hj (qE hN e1 (e ▸ hi))
     simp [this,e]
    ·exact .inr ⟨k,c,e,z.sameBut hs (cne y c e)⟩
  ·obtain ⟨w',z⟩:=I.cell y c e
   exact ⟨w',z.sameBut hs (cne y c e)⟩
  ·obtain ⟨e,n,ne,nf,d⟩:=I.pin p hp
   exact ⟨(hs.2 p.1 ne).trans e,n,ne,nf,d⟩
 ·have hfn:X.fn x = true:=by
   rcases hf with z | z
   ·exact z
   ·rw [z] at hk; cases hk
  obtain ⟨c,hc⟩:=I.ok.has x (.inl hk)
  obtain ⟨w',z⟩:=I.cell x c hc
  refine wpAny_storeName_cell I.ok.kind hk hc z (fun h' hc' hs=>?_)
  obtain ⟨oc,hoc,hocd⟩:=id z
  refine h { s with heap:=h' } ⟨I.ok,I.os,I.bare,⟨fun b o e n hb hx=>?_,fun b o e n hb hx=>?_,I.base.free,fun b o e hx=>?_,I.base.tups,I.base.frzs,I.base.tbls⟩,⟨m,hn.sameBut hs (Ne.symm (cne x c hc)),fun j y v' e1 e2 e3=>?_⟩,fun y c' e=>?_,I.free,I.freeC,fun p hp=>?_,tracked ⟨oc,hoc,I.freeC x c hc⟩ hs,by simpa using I.len⟩ ⟨c,hs,.inr hc⟩
  ·exact (hs.2 b (Nat.ne_of_lt (Nat.lt_of_lt_of_le (Heap.lt_size e) (I.ok.cab x c hfn hc)))).trans (I.base.keep b o e n hb hx)
  ·obtain ⟨sl,e1⟩:=I.base.slot b o e n hb hx
   exact ⟨sl,(hs.2 b (Nat.ne_of_lt (Nat.lt_of_lt_of_le (Heap.lt_size e) (I.ok.cab x c hfn hc)))).trans e1⟩
  ·obtain ⟨o',e1⟩:=I.base.there b o e hx
   exact ⟨o',(hs.2 b (Nat.ne_of_lt (Nat.lt_of_lt_of_le (Heap.lt_size e) (I.ok.cab x c hfn hc)))).trans e1⟩
  ·by_cases hj:j = i
   ·subst hj
    rw [hi] at e1; cases e1
    rw [List.getElem?_set_self hiσ] at e2
    cases e2
    exact ⟨u,r,.inr ⟨.inl hk,c,hc,hc'⟩⟩
   ·rw [List.getElem?_set_ne (Ne.symm hj)] at e2
    obtain ⟨u',r',q⟩:=hl j y v' e1 e2 e3
    refine ⟨u',r',?_⟩
    rcases q with q | ⟨k,c',e,z'⟩
    ·exact .inl q
    ·refine .inr ⟨k,c',e,z'.sameBut hs ?_⟩
     rintro rfl
     exact hj (qE hN e1 (I.ok.inj _ _ _ e hc ▸ hi))
  ·by_cases hcc:c' = c
   ·subst hcc; exact ⟨_,hc'⟩
   ·obtain ⟨w2,z2⟩:=I.cell y c' e
    exact ⟨w2,z2.sameBut hs hcc⟩
  ·obtain ⟨e,n,ne,nf,d⟩:=I.pin p hp
   refine ⟨(hs.2 p.1 ?_).trans e,n,ne,nf,d⟩
   intro q
   rw [q,hoc] at e
   have q':oc = p.2:=Option.some.inj e
   exact d w' (by rw [← q']; exact hocd)
theorem vy {M:Model} {A:Around} {E:VS7} {i:Nat} {x:Str} {v:V} {u:Value} {Q:Unit -> Shared -> Prop} (I:Inv X pins σ H s) (hN:X.N.Nodup) (hi:X.N[i]? = some x) (hx:Loc X.env.scope x) (r:RelV v u)
  (h:∀ s',Inv X pins (σ.set i (some v)) H s' -> Q () s') (hf:X.fn x = true \/ X.env.scope.names.lookup x = some .local :=by first | exact .inl rfl | exact .inr rfl | assumption):wpAny M A (storeName X.env x u) Q E s :=
 Zb I hN hi hx r (fun s' I' _=>h s' I') hf
theorem Inv.call' {s':Shared} {ch:List Addr} (I:Inv X pins σ H s) (ho:s'.os = s.os) (u:Un (frs X.stack) ch H H' s.heap s'.heap) (hok:HOk X.prog X.w H' s'.heap) (hg:AllBare s'.gens)
  (hch:∀ b ∈ ch,(b ∈ X.ex \/ X.s₀.heap.objs.size <= b) /\ b ≠ X.env.locals /\ (∀ x c,X.env.cells.lookup x = some c -> c ≠ b) /\ ∀ p ∈ X.pn ++ pins,p.1 ≠ b):Inv X pins σ H' s':=by
 obtain ⟨h',g',d',t',o'⟩:=s'
 have e:o' = s.os:=ho
 subst e
 exact I.call (g':=g') (t':=t') (d':=d') u hok hg hch
end
abbrev XK:=Value -> Option Addr -> Hp -> Prop
abbrev St:=List (Option V)
abbrev VK:=V -> Hp -> Prop
abbrev TE:=St -> Hp -> VK -> Prop
abbrev TT:=St -> Hp -> (Bool -> Hp -> Prop) -> Prop
abbrev TA:=St -> Hp -> (List V -> Hp -> Prop) -> Prop
structure Ends where
 nx:St -> Hp -> Prop
 rt:VK
 bk:St -> Hp -> Prop:=fun _ _=>False
 ct:St -> Hp -> Prop:=fun _ _=>False
abbrev TS:=Ends -> St -> Hp -> Prop
def EP (X:Cx) (pins:List (Addr × Obj)) (σ:St) (Q:VK) (u:Value) (s':Shared):Prop:=∃ v H',Inv X pins σ H' s' /\ RelV v u /\ Q v H'
def TP (X:Cx) (pins:List (Addr × Obj)) (σ:St) (Q:Bool -> Hp -> Prop) (b:Bool) (s':Shared):Prop:=∃ H',Inv X pins σ H' s' /\ Q b H'
def AP (X:Cx) (pins:List (Addr × Obj)) (σ:St) (Q:List V -> Hp -> Prop) (us:List Value) (s':Shared):Prop:=∃ vs H',Inv X pins σ H' s' /\ Vals vs us /\ Q vs H'
def SP (X:Cx) (pins:List (Addr × Obj)) (D:Ends) (f:Flow) (s':Shared):Prop :=
 match f with
 | .next=>∃ σ' H',Inv X pins σ' H' s' /\ D.nx σ' H'
 | .brk=>∃ σ' H',Inv X pins σ' H' s' /\ D.bk σ' H'
 | .cont=>∃ σ' H',Inv X pins σ' H' s' /\ D.ct σ' H'
 | .ret u=>∃ v σ' H',Inv X pins σ' H' s' /\ RelV v u /\ D.rt v H'
def PE (X:Cx) (e:Expr) (t:TE):Prop :=
 ∀ (pins:List (Addr × Obj)) (s:Shared) (σ:St) (H:Hp) (Q:VK),Inv X pins σ H s -> t σ H Q -> wpAny (model X.prog X.w) X.A (eval e X.env) (EP X pins σ Q) X.xe s
def PT (X:Cx) (e:Expr) (t:TT):Prop :=
 ∀ (pins:List (Addr × Obj)) (s:Shared) (σ:St) (H:Hp) (Q:Bool -> Hp -> Prop),Inv X pins σ H s -> t σ H Q -> wpAny (model X.prog X.w) X.A (isTrue e X.env (eval e X.env)) (TP X pins σ Q) X.xe s
def PW (X:Cx) (e:Expr) (t:TT):Prop :=
 ∀ (whole:Sem Value) (pins:List (Addr × Obj)) (s:Shared) (σ:St) (H:Hp) (Q:Bool -> Hp -> Prop),Inv X pins σ H s -> t σ H Q -> wpAny (model X.prog X.w) X.A (isTrue e X.env whole) (TP X pins σ Q) X.xe s
theorem PW.pt {X:Cx} {e:Expr} {t:TT} (h:PW X e t):PT X e t:=h _
def PA (X:Cx) (es:List Expr) (t:TA):Prop :=
 ∀ (pos:Pos) (pins:List (Addr × Obj)) (s:Shared) (σ:St) (H:Hp) (Q:List V -> Hp -> Prop),Inv X pins σ H s -> t σ H Q -> wpAny (model X.prog X.w) X.A (spliced (backTo pos (starEach es X.env))) (AP X pins σ Q) X.xe s
def PS (X:Cx) (st:Stmt) (t:TS):Prop :=
 ∀ (pins:List (Addr × Obj)) (s:Shared) (σ:St) (H:Hp) (D:Ends),Inv X pins σ H s -> t D σ H -> wpAny (model X.prog X.w) X.A (exec st X.env) (SP X pins D) X.xe s
def PSs (X:Cx) (st:List Stmt) (t:TS):Prop :=
 ∀ (pins:List (Addr × Obj)) (s:Shared) (σ:St) (H:Hp) (D:Ends),Inv X pins σ H s -> t D σ H -> wpAny (model X.prog X.w) X.A (execs st X.env) (SP X pins D) X.xe s
theorem thn {α:Type} {t:Sem α} {Q Q':α -> Shared -> Prop} {M:Model} {A:Around} {E:VS7} {s:Shared} (h:wpAny M A t Q E s) (hQ:∀ a s,Q a s -> Q' a s):wpAny M A t Q' E s:=wpAny_mono h hQ fun _ _ x=>x
end L2
namespace L2
open PySem PySem.Spec PyProof.Rows
section
variable {X:Cx}
def tVar (i:Nat):TE:=fun σ H Q=>∃ v,σ[i]? = some (some v) /\ Q v H
def tC (v:V):TE:=fun _ H Q=>Q v H
theorem W3 {i:Nat} {x:Str} {pos:Pos} (hN:X.N[i]? = some x) (hv:Vis X.env.scope x) (hd:(x == ("__debug__":Str)) = false:=by decide) (hcd:(x == ("__classdict__":Str)) = false:=by decide):PE X (.Name x pos) (tVar i):=by
 intro pins s σ H Q I h
 obtain ⟨v,e,h⟩:=h
 obtain ⟨m,hn,hl⟩:=I.loc
 obtain ⟨u,r,l⟩:=hl i x v hN e hv
 have fin:EP X pins σ Q u s:=⟨v,H,I,r,h⟩
 rcases l with ⟨hk,hm⟩ | ⟨hk,c,hc,hcell⟩
 ·exact wpAny_Name (wpAny_loadName_local I.ok.kind hk hn hm fin) hd
 ·rcases hk with hk | hk
  ·exact wpAny_Name (wpAny_loadName_cell I.ok.kind hk hc hcell fin) hd
  ·exact wpAny_Name (wpAny_loadName_free I.ok.kind hk hc hcell fin hcd) hd
theorem zi {i j pos}:PE X (.Constant (.int i) j pos) (tC (.int i)):=fun _ _ _ H _ I h=>wpAny_Constant_int ⟨.int i,H,I.tok _,⟨_,rfl⟩,h⟩
theorem wM {b j pos}:PE X (.Constant (.bool b) j pos) (tC (.bl b)):=fun _ _ _ H _ I h=>Constant_bool ⟨.bl b,H,I,rfl,h⟩
theorem ux {j pos}:PE X (.Constant .none j pos) (tC .non):=fun _ _ _ H _ I h=>Constant_none ⟨.non,H,I,rfl,h⟩
def Gl (X:Cx) (x:Str):Prop:=X.env.kindOf x = some .globalImplicit
theorem Zc {E:VS7} {pins:List (Addr × Obj)} {s:Shared} {σ:St} {H:Hp} {x:Str} {u:Value} {pos:Pos} {Q:VS7} (I:Inv X pins σ H s) (hg:Gl X x) (hm:X.mg x = some u) (h:Q u s)
  (hd:(x == ("__debug__":Str)) = false:=by decide):wpAny (model X.prog X.w) X.A (eval (.Name x pos) X.env) Q E s :=
 Calls.Name_function_global I.ok.kind hg (Calls.loadGlobal_global (by rw [I.ok.glob]; exact I.mod.glob.keeps I.bk) hm h) hd
theorem va {E:VS7} {pins:List (Addr × Obj)} {s:Shared} {σ:St} {H:Hp} {x:Str} {u:Value} {pos:Pos} {Q:VS7} (I:Inv X pins σ H s) (hg:Gl X x) (hm:X.mg x = none) (hv:bootBuiltins x = some u) (h:Q u s)
  (hn:x ≠ "__name__":=by decide) (hd:(x == ("__debug__":Str)) = false:=by decide):wpAny (model X.prog X.w) X.A (eval (.Name x pos) X.env) Q E s:=by
 obtain ⟨mb,h1,h2⟩:=I.mod.blt
 exact Calls.Name_function_global I.ok.kind hg (Calls.loadGlobal_builtin (by rw [I.ok.glob]; exact I.mod.glob.keeps I.bk) hm (by rw [I.ok.blt]; exact h1.keeps I.bk) ((h2 x hn).trans hv) h) hd
theorem rJ {x:Str} {v:V} {u:Value} {pos:Pos} (hg:Gl X x) (hm:X.mg x = some u) (r:RelV v u) (hd:(x == ("__debug__":Str)) = false:=by decide):PE X (.Name x pos) (tC v) :=
 fun _ _ _ H _ I h=>Zc I hg hm ⟨v,H,I,r,h⟩ hd
theorem Wd {x:Str} {v:V} {u:Value} {pos:Pos} (hg:Gl X x) (hm:X.mg x = none) (hv:bootBuiltins x = some u) (r:RelV v u) (hn:x ≠ "__name__":=by decide) (hd:(x == ("__debug__":Str)) = false:=by decide):PE X (.Name x pos) (tC v) :=
 fun _ _ _ H _ I h=>va I hg hm hv ⟨v,H,I,r,h⟩ hn hd
variable {a b:Expr} {ta tb:TE} {pos:Pos}
def PC (X:Cx) (op:CmpOp) (a b:Expr) (t:TE):Prop :=
 ∀ (pins:List (Addr × Obj)) (s:Shared) (σ:St) (H:Hp) (Q:VK),Inv X pins σ H s -> t σ H Q →
  wpAny (model X.prog X.w) X.A (eval a X.env) (fun v s₁=>wpAny (model X.prog X.w) X.A (eval b X.env) (fun u s₂=>wpAny (model X.prog X.w) X.A (compareOp op v u) (EP X pins σ Q) X.xe s₂) X.xe s₁) X.xe s
theorem qF (b:Expr) {op:CmpOp} (h:op ≠ .In) (h2:op ≠ .NotIn):behindInMarks op b = false:=by
 have e1:(op == CmpOp.In) = false:=by cases op <;> first | rfl | exact absurd rfl h
 have e2:(op == CmpOp.NotIn) = false:=by cases op <;> first | rfl | exact absurd rfl h2
 cases b <;> simp [behindInMarks,e1,e2]
def tIsN (ta:TE):TE:=fun σ H Q=>ta σ H fun x H1=>Q (.bl (decide (x = .non))) H1
def VY (ta:TE):TE:=fun σ H Q=>ta σ H fun x H1=>Q (.bl (!decide (x = .non))) H1
theorem RelV.none_iff {x:V} {v:Value} (r:RelV x v):(v == Value.none) = decide (x = .non):=by
 cases x with
 | non=>cases r; rfl
 | bl _=>cases r; rfl
 | int _=>obtain ⟨t,rfl⟩:=r; rfl
 | str _=>obtain ⟨t,rfl⟩:=r; rfl
 | byt _=>obtain ⟨t,rfl⟩:=r; rfl
 | flt _=>obtain ⟨t,rfl⟩:=r; rfl
 | ref _=>cases r; rfl
 | ty _=>cases r; rfl
theorem tW {j pos'} (ha:PE X a ta):PC X .Is a (.Constant .none j pos') (tIsN ta):=by
 intro pins s σ H Q I h
 refine thn (ha pins s σ H _ I h) fun v s1 ⟨x,H1,I1,r1,q1⟩=>?_
 exact Constant_none (is_none_gen ⟨.bl _,H1,I1,by rw [r1.none_iff]; rfl,q1⟩)
theorem rK {j pos'} (ha:PE X a ta):PC X .IsNot a (.Constant .none j pos') (VY ta):=by
 intro pins s σ H Q I h
 refine thn (ha pins s σ H _ I h) fun v s1 ⟨x,H1,I1,r1,q1⟩=>?_
 exact Constant_none (isnot_none_gen ⟨.bl _,H1,I1,by rw [r1.none_iff]; rfl,q1⟩)
def tB (t:TE):TT:=fun σ H Q=>t σ H fun x H1=>∃ c,x = .bl c /\ Q c H1
theorem W4 {op:CmpOp} {t:TE} (h:PC X op a b t) (h1:behindInMarks op b = false:=by first | exact qF _ (by decide) (by decide) | rfl):PE X (.Compare a [op] [b] pos) t:=fun pins s σ H Q I hw=>wpAny_Compare1 (h pins s σ H Q I hw) h1
theorem wp {op:CmpOp} {t:TE} (h:PC X op a b t) (h1:behindInMarks op b = false:=by first | exact qF _ (by decide) (by decide) | rfl):PT X (.Compare a [op] [b] pos) (tB t):=by
 intro pins s σ H Q I hw
 refine wpAny_isTrue_Compare1 (thn (h pins s σ H _ I hw) fun v s1 h1=>thn h1 fun u s2 h2=>thn h2 fun c s3 ⟨x,H1,I1,r1,q1⟩=>?_) h1
 obtain ⟨d,rfl,q⟩:=q1
 cases r1
 exact wpAny_truthy_bool ⟨H1,I1,q⟩
theorem yL {e:Expr} {t:TE} (h:PE X e t) (he:∀ whole,isTrue e X.env whole = (do let v ← whole; standAt e.pos; holding [v] (truthy v)):=by intro _; rfl):PT X e (tB t):=by
 intro pins s σ H Q I hw
 refine isTrue_plain (thn (h pins s σ H _ I hw) fun v s1 ⟨x,H1,I1,r1,q1⟩=>?_) (he _)
 obtain ⟨d,rfl,q⟩:=q1
 cases r1
 exact wpAny_truthy_bool ⟨H1,I1,q⟩
variable {tA tB':TT} {rest:List Expr}
def tAnd (t u:TT):TT:=fun σ H Q=>t σ H fun c H1=>if c = true then u σ H1 Q else Q false H1
def tOr (t u:TT):TT:=fun σ H Q=>t σ H fun c H1=>if c = true then Q true H1 else u σ H1 Q
def tNot (t:TT):TT:=fun σ H Q=>t σ H fun c H1=>Q (!c) H1
theorem vD (ha:PT X a tA):PW X (.BoolOp .And [a] pos) tA:=by
 intro wh pins s σ H Q I h
 refine isTrue_and (thn (ha pins s σ H Q I h) fun c s1 e=>?_)
 cases c with
 | true=>exact isTrue_and_nil e
 | false=>exact e
theorem vb (ha:PT X a tA):PW X (.BoolOp .Or [a] pos) tA:=by
 intro wh pins s σ H Q I h
 refine isTrue_or (thn (ha pins s σ H Q I h) fun c s1 e=>?_)
 cases c with
 | false=>exact isTrue_or_nil e
 | true=>exact e
theorem uy (ha:PT X a tA) (hb:PW X (.BoolOp .And (b :: rest) pos) tB'):PW X (.BoolOp .And (a :: b :: rest) pos) (tAnd tA tB'):=by
 intro wh pins s σ H Q I h
 refine isTrue_and (thn (ha pins s σ H _ I h) fun c s1 ⟨H1,I1,q1⟩=>?_)
 cases c with
 | true=>exact hb wh pins s1 σ H1 Q I1 q1
 | false=>exact ⟨H1,I1,q1⟩
theorem tX (ha:PT X a tA) (hb:PW X (.BoolOp .Or (b :: rest) pos) tB'):PW X (.BoolOp .Or (a :: b :: rest) pos) (tOr tA tB'):=by
 intro wh pins s σ H Q I h
 refine isTrue_or (thn (ha pins s σ H _ I h) fun c s1 ⟨H1,I1,q1⟩=>?_)
 cases c with
 | true=>exact ⟨H1,I1,q1⟩
 | false=>exact hb wh pins s1 σ H1 Q I1 q1
theorem y0 (ha:PT X a tA):PT X (.UnaryOp .Not a pos) (tNot tA):=by
 intro pins s σ H Q I h
 exact isTrue_not (ha pins s σ H (fun c H1=>Q (!c) H1) I h)
def VZ (ta tb:TE):TE:=fun σ H Q=>ta σ H fun x H1=>∃ c,x = .bl c /\ if c = true then tb σ H1 Q else Q (.bl false) H1
def tOrV (ta tb:TE):TE:=fun σ H Q=>ta σ H fun x H1=>∃ c,x = .bl c /\ if c = true then Q (.bl true) H1 else tb σ H1 Q
def V0 (ta:TE):TE:=fun σ H Q=>ta σ H fun x H1=>∃ c,x = .bl c /\ Q (.bl (!c)) H1
theorem vE {op} {t:TE} (h:PE X a t):PE X (.BoolOp op [a] pos) t:=fun pins s σ H Q I hw=>BoolOp_one (h pins s σ H Q I hw)
theorem uz (ha:PE X a ta) (hb:PE X (.BoolOp .And (b :: rest) pos) tb):PE X (.BoolOp .And (a :: b :: rest) pos) (VZ ta tb):=by
 intro pins s σ H Q I h
 refine BoolOp_and (thn (ha pins s σ H _ I h) fun v s1 ⟨x,H1,I1,r1,q1⟩=>?_)
 obtain ⟨c,rfl,q1⟩:=q1
 cases r1
 refine wpAny_truthy_bool ?_
 cases c with
 | true=>exact hb pins s1 σ H1 Q I1 q1
 | false=>exact ⟨.bl false,H1,I1,rfl,q1⟩
theorem W5 (ha:PE X a ta) (hb:PE X (.BoolOp .Or (b :: rest) pos) tb):PE X (.BoolOp .Or (a :: b :: rest) pos) (tOrV ta tb):=by
 intro pins s σ H Q I h
 refine BoolOp_or (thn (ha pins s σ H _ I h) fun v s1 ⟨x,H1,I1,r1,q1⟩=>?_)
 obtain ⟨c,rfl,q1⟩:=q1
 cases r1
 refine wpAny_truthy_bool ?_
 cases c with
 | false=>exact hb pins s1 σ H1 Q I1 q1
 | true=>exact ⟨.bl true,H1,I1,rfl,q1⟩
theorem W6 (ha:PE X a ta):PE X (.UnaryOp .Not a pos) (V0 ta):=by
 intro pins s σ H Q I h
 refine UnaryOp_ (thn (ha pins s σ H _ I h) fun v s1 ⟨x,H1,I1,r1,q1⟩=>?_)
 obtain ⟨c,rfl,q1⟩:=q1
 cases r1
 exact not_of (wpAny_truthy_bool ⟨.bl (!c),H1,I1,rfl,q1⟩)
def tIf (t:TT) (ta tb:TE):TE:=fun σ H Q=>t σ H fun c H1=>if c = true then ta σ H1 Q else tb σ H1 Q
theorem qG {c:Expr} (hc:PT X c tA) (ha:PE X a ta) (hb:PE X b tb):PE X (.IfExp c a b pos) (tIf tA ta tb):=by
 intro pins s σ H Q I h
 refine wpAny_IfExp (thn (hc pins s σ H _ I h) fun d s1 ⟨H1,I1,q1⟩=>?_)
 cases d with
 | true=>exact ha pins s1 σ H1 Q I1 q1
 | false=>exact hb pins s1 σ H1 Q I1 q1
end
end L2
namespace L2
open PySem PySem.Spec PyProof.Rows
def SqL (K:FG7) (H:Hp) (a:Addr) (xs:List V):Prop :=
 Rd H a (.lst xs) ∨
  ∃ (o:Obj) (its:Array Value) (n:Nat),K.lookup a = some o /\ o.cls = .type "list" /\ o.dict = none /\ o.data = .seq its n /\ its.size <= sizeLine /\ Vals xs its.toList
def SqT (K:FG7) (H:Hp) (a:Addr) (xs:List V):Prop :=
 Rd H a (.tup xs) ∨
  ∃ (o:Obj) (its:Array Value) (n:Nat),K.lookup a = some o /\ o.cls = .type "tuple" /\ o.data = .seq its n /\ its.size <= sizeLine /\ Vals xs its.toList
def absV:Value -> Option V
 | .none=>some .non
 | .bool b=>some (.bl b)
 | .int i _=>some (.int i)
 | .str x _=>some (.str x)
 | .bytes b _=>some (.byt b)
 | .float b _=>some (.flt b)
 | .ref a=>some (.ref a)
 | .type n=>some (.ty n)
 | _=>none
theorem RelV.abs {x:V} {u:Value} (r:RelV x u):absV u = some x:=by
 cases x with
 | non=>cases r; rfl
 | bl _=>cases r; rfl
 | int _=>obtain ⟨t,rfl⟩:=r; rfl
 | str _=>obtain ⟨t,rfl⟩:=r; rfl
 | byt _=>obtain ⟨t,rfl⟩:=r; rfl
 | flt _=>obtain ⟨t,rfl⟩:=r; rfl
 | ref _=>cases r; rfl
 | ty _=>cases r; rfl
theorem RelV.inj {x y:V} {u:Value} (r:RelV x u) (q:RelV y u):x = y:=Option.some.inj (r.abs.symm.trans q.abs)
theorem Vals.inj:∀ {xs ys:List V} {us:List Value},Vals xs us -> Vals ys us -> xs = ys
 | _,_,_,.nil,.nil=>rfl
 | _,_,_,.cons r t,.cons r' t'=>by rw [r.inj r',Vals.inj t t']
section
variable {X:Cx} {pins:List (Addr × Obj)} {σ:St} {H:Hp} {s:Shared} {a:Addr} {xs ys:List V}
theorem SqL.of {K:FG7} (h:H a = some (.lst xs)):SqL K H a xs:=.inl (.inl h)
theorem SqT.of {K:FG7} (h:H a = some (.tup xs)):SqT K H a xs:=.inl (.inl h)
theorem Inv.list (I:Inv X pins σ H s) (h:SqL X.K H a xs):∃ its:List Value,Vals xs its /\ PlainL s.heap a its.toArray /\ xs.length <= sizeLine:=by
 rcases h with h | ⟨o,its,n,hk,hc,hd,hs,hz,r⟩
 ·obtain ⟨z,its,n,r,e⟩:=h.ok I.hok
  exact ⟨its,r,⟨_,n,e,rfl,rfl,rfl⟩,z⟩
 ·refine ⟨its.toList,r,⟨o,n,I.kIn a o hk,hc,hd,by simpa using hs⟩,?_⟩
  have e:=r.length
  simp only [Array.length_toList] at e
  omega
theorem Inv.tuple (I:Inv X pins σ H s) (h:SqT X.K H a xs):∃ its:List Value,Vals xs its /\ IsTup s.heap a its.toArray /\ xs.length <= sizeLine:=by
 rcases h with h | ⟨o,its,n,hk,hc,hs,hz,r⟩
 ·obtain ⟨z,its,r,p⟩:=h.ok I.hok
  exact ⟨its,r,p,z⟩
 ·refine ⟨its.toList,r,⟨o,I.kIn a o hk,hc,n,by simpa using hs⟩,?_⟩
  have e:=r.length
  simp only [Array.length_toList] at e
  omega
theorem Inv.list_inj (I:Inv X pins σ H s) (h:SqL X.K H a xs) (h':SqL X.K H a ys):xs = ys:=by
 obtain ⟨its,r,⟨o,n,e,_,_,d⟩,_⟩:=I.list h
 obtain ⟨its',r',⟨o',n',e',_,_,d'⟩,_⟩:=I.list h'
 rw [e] at e'; cases e'
 rw [d] at d'
 injection d' with d1 _
 have:its = its':=by simpa using congrArg Array.toList d1
 subst this
 exact r.inj r'
theorem Inv.tuple_inj (I:Inv X pins σ H s) (h:SqT X.K H a xs) (h':SqT X.K H a ys):xs = ys:=by
 obtain ⟨its,r,⟨o,e,_,n,d⟩,_⟩:=I.tuple h
 obtain ⟨its',r',⟨o',e',_,n',d'⟩,_⟩:=I.tuple h'
 rw [e] at e'; cases e'
 rw [d] at d'
 injection d' with d1 _
 have:its = its':=by simpa using congrArg Array.toList d1
 subst this
 exact r.inj r'
end
abbrev Cx.wish (X:Cx) (E:VS7):Cx:={ X with xe:=E }
abbrev Cx.nox (X:Cx):Cx:=X.wish fun _ _=>False
theorem Cx.Ok.wish {X:Cx} (ok:X.Ok) (E:VS7):(X.wish E).Ok :=
 ⟨ok.mod,ok.kind,ok.glob,ok.blt,ok.above,ok.inj,ok.has,ok.cab,ok.hd,ok.frames,ok.stk,ok.exf,ok.bs,ok.bsz,ok.noex,ok.exfs,ok.funs,ok.frf⟩
theorem Cx.Ok.unwish {X:Cx} {E:VS7} (ok:(X.wish E).Ok):X.Ok :=
 ⟨ok.mod,ok.kind,ok.glob,ok.blt,ok.above,ok.inj,ok.has,ok.cab,ok.hd,ok.frames,ok.stk,ok.exf,ok.bs,ok.bsz,ok.noex,ok.exfs,ok.funs,ok.frf⟩
section
variable {X:Cx} {pins:List (Addr × Obj)} {σ:St} {H:Hp} {s:Shared} {E:VS7}
theorem Inv.wish (I:Inv X pins σ H s) (E:VS7):Inv (X.wish E) pins σ H s:=⟨I.ok.wish E,I.os,I.bare,I.base,I.loc,I.cell,I.free,I.freeC,I.pin,I.hok,I.len⟩
theorem Inv.unwish (I:Inv (X.wish E) pins σ H s):Inv X pins σ H s:=⟨I.ok.unwish,I.os,I.bare,I.base,I.loc,I.cell,I.free,I.freeC,I.pin,I.hok,I.len⟩
theorem SP.unwish {D:Ends} {f:Flow} {s':Shared} (h:SP (X.wish E) pins D f s'):SP X pins D f s':=by
 cases f with
 | next=>obtain ⟨σ',H',I,q⟩:=h; exact ⟨σ',H',I.unwish,q⟩
 | brk=>obtain ⟨σ',H',I,q⟩:=h; exact ⟨σ',H',I.unwish,q⟩
 | cont=>obtain ⟨σ',H',I,q⟩:=h; exact ⟨σ',H',I.unwish,q⟩
 | ret u=>obtain ⟨v,σ',H',I,r,q⟩:=h; exact ⟨v,σ',H',I.unwish,r,q⟩
theorem PSs.nox {st:List Stmt} {t:TS} (h:PSs X.nox st t):PSs X st t:=fun pins s σ H D I hw =>
 wpAny_mono (h pins s σ H D (I.wish _) hw) (fun _ _ q=>q.unwish) fun _ _ z=>False.elim z
end
section
variable {X:Cx} {st:Stmt} {rest:List Stmt} {t u:TS} {e:Expr} {te:TE} {pos:Pos}
def W8:TS:=fun D σ H=>D.nx σ H
def tSeq (t u:TS):TS:=fun D σ H=>t { D with nx:=u D } σ H
theorem zC:PSs X [] W8:=fun _ _ σ H _ I h=>wpAny_execs_nil ⟨σ,H,I,h⟩
theorem ze (h1:PS X st t) (h2:PSs X rest u):PSs X (st :: rest) (tSeq t u):=by
 intro pins s σ H D I h
 refine wpAny_execs_cons (thn (h1 pins s σ H { D with nx:=u D } I h) fun f s1 q=>?_)
 cases f with
 | next =>
  obtain ⟨σ',H',I',q⟩:=q
  exact h2 pins s1 σ' H' D I' q
 | ret v=>exact q
 | brk=>exact q
 | cont=>exact q
theorem zj (h1:PS X st t):PSs X [st] t:=by
 intro pins s σ H D I h
 refine wpAny_execs_cons (thn (h1 pins s σ H D I h) fun f s1 q=>?_)
 cases f with
 | next=>exact wpAny_execs_nil q
 | ret v=>exact q
 | brk=>exact q
 | cont=>exact q
theorem Inv.quiet {pins:List (Addr × Obj)} {σ:St} {H:Hp} {s:Shared} (I:Inv X pins σ H s):interactive X.env = false:=by simp [interactive,I.ok.kind]
def V1 (te:TE):TS:=fun D σ H=>te σ H fun _ H1=>D.nx σ H1
theorem zL (he:PE X e te) (hs:swapsWith e none pos.line X.env = pure false:=by rfl):PS X (.Expr e pos) (V1 te):=by
 intro pins s σ H D I h
 exact wpAny_Expr_any (thn (he pins s σ H _ I h) fun v s1 ⟨x,H1,I1,r1,q1⟩=>⟨σ,H1,I1,q1⟩) I.quiet hs
def tRet (te:TE):TS:=fun D σ H=>te σ H D.rt
theorem zr (he:PE X e te):PS X (.Return (some e) pos) (tRet te):=by
 intro pins s σ H D I h
 exact wpAny_Return_some (thn (he pins s σ H _ I h) fun v s1 ⟨x,H1,I1,r1,q1⟩=>⟨x,σ,H1,I1,r1,q1⟩)
def tIfS (c:TT) (t u:TS):TS:=fun D σ H=>c σ H fun b H1=>if b = true then t D σ H1 else u D σ H1
theorem yi {c:Expr} {a b:List Stmt} {tc:TT} (hc:PT X c tc) (ha:PSs X a t) (hb:PSs X b u):PS X (.If c a b pos) (tIfS tc t u):=by
 intro pins s σ H D I h
 refine wpAny_If (thn (hc pins s σ H _ I h) fun d s1 ⟨H1,I1,q1⟩=>?_)
 cases d with
 | true=>exact ha pins s1 σ H1 D I1 q1
 | false=>exact hb pins s1 σ H1 D I1 q1
def W9:TS:=fun _ _ _=>False
theorem xS:PS X st W9:=fun _ _ _ _ _ _ h=>h.elim
end
abbrev TG:=V -> St -> Hp -> (St -> Hp -> Prop) -> Prop
abbrev TGs:=List V -> St -> Hp -> (St -> Hp -> Prop) -> Prop
def PG (X:Cx) (target:Expr) (t:TG):Prop :=
 ∀ (pins:List (Addr × Obj)) (s:Shared) (σ:St) (H:Hp) (v:V) (u:Value) (Q:St -> Hp -> Prop),Inv X pins σ H s -> RelV v u -> t v σ H Q →
  wpAny (model X.prog X.w) X.A (assign target X.env u) (fun _ s'=>∃ σ' H',Inv X pins σ' H' s' /\ Q σ' H') X.xe s
def PGs (X:Cx) (ts:List Expr) (t:TGs):Prop :=
 ∀ (pins:List (Addr × Obj)) (s:Shared) (σ:St) (H:Hp) (vs:List V) (us:List Value) (Q:St -> Hp -> Prop),Inv X pins σ H s -> Vals vs us -> t vs σ H Q →
  wpAny (model X.prog X.w) X.A (assignInOrder ((assignEach ts X.env).map (·.2)) us) (fun _ s'=>∃ σ' H',Inv X pins σ' H' s' /\ Q σ' H') X.xe s
abbrev TSet:=V -> V -> V -> Hp -> (Hp -> Prop) -> Prop
def PSet (X:Cx) (t:TSet):Prop :=
 ∀ (pins:List (Addr × Obj)) (s:Shared) (σ:St) (H:Hp) (o i v:V) (ov iv u:Value) (Q:Hp -> Prop),Inv X pins σ H s -> RelV o ov -> RelV i iv -> RelV v u -> t o i v H Q →
  wpAny (model X.prog X.w) X.A (setItem ov iv u) (fun _ s'=>∃ H',Inv X pins σ H' s' /\ Q H') X.xe s
section
variable {X:Cx} {pos:Pos}
def vm (i:Nat):TG:=fun v σ H Q=>Q (σ.set i (some v)) H
theorem zk {i:Nat} {x:Str} (hN:X.N.Nodup) (hi:X.N[i]? = some x) (hx:Loc X.env.scope x) (hf:X.fn x = true \/ X.env.scope.names.lookup x = some .local :=by first | exact .inl rfl | exact .inr rfl | assumption):PG X (.Name x pos) (vm i):=by
 intro pins s σ H v u Q I r h
 exact wpAny_assign_Name (vy I hN hi hx r (fun s' I'=>⟨_,H,I',h⟩) hf)
def gNil:TGs:=fun vs σ H Q=>vs = [] /\ Q σ H
def V3 (t:TG) (u:TGs):TGs:=fun vs σ H Q=>∃ v r,vs = v :: r /\ t v σ H fun σ' H'=>u r σ' H' Q
theorem zH:PGs X [] gNil:=by
 intro pins s σ H vs us Q I r h
 obtain ⟨e,h⟩:=h
 subst e
 cases r
 exact assignInOrder_nil ⟨σ,H,I,h⟩
theorem zm {e:Expr} {es:List Expr} {t:TG} {u:TGs} (h1:PG X e t) (h2:PGs X es u)
  (hs:(assignEach (e :: es) X.env).map (·.2) = assign e X.env :: (assignEach es X.env).map (·.2):=by rfl):PGs X (e :: es) (V3 t u):=by
 intro pins s σ H vs us Q I r h
 obtain ⟨v,vr,e1,h⟩:=h
 subst e1
 cases r with
 | cons r rr =>
  rw [hs]
  refine assignInOrder_cons (thn (h1 pins s σ H _ _ _ I r h) fun _ s1 ⟨σ1,H1,I1,q1⟩=>?_)
  exact h2 pins s1 σ1 H1 _ _ Q I1 rr q1
def gTup (K:FG7) (n:Nat) (t:TGs):TG:=fun v σ H Q=>∃ a xs,v = .ref a /\ SqT K H a xs /\ xs.length = n /\ t xs σ H Q
theorem yI {es:List Expr} {k:Nat} {t:TGs} {n:Nat} (hc:X.calm = true) (h:PGs X es t)
  (hn:(assignEach es X.env).length = n:=by rfl) (hst:(assignEach es X.env).findIdx? (·.1) = none:=by rfl):PG X (.Tuple es k pos) (gTup X.K n t):=by
 intro pins s σ H v u Q I r hw
 obtain ⟨a,xs,e1,hq,hl,hw⟩:=hw
 subst e1
 cases r
 obtain ⟨its,rv,ht,hz⟩:=I.tuple hq
 refine assign_Tuple_tuple (I.ok.hd hc) ht (by simp [hn,← hl,rv.length]) hst fun h' hx=>?_
 have I1:Inv X pins σ H { s with heap:=h' }:=I.kept (t':=s.toks) fun b o e=>hx b o (Nat.ne_of_lt (Heap.lt_size e)) e
 exact h pins _ σ H xs _ Q I1 (by simpa using rv) hw
def gSub (to ti:TE) (t:TSet):TG:=fun v σ H Q=>to σ H fun o H1=>ti σ H1 fun i H2=>t o i v H2 fun H3=>Q σ H3
theorem Zd {o i:Expr} {to ti:TE} {t:TSet} (ho:PE X o to) (hi:PE X i ti) (hs:PSet X t)
  (ha:∀ v,assign (.Subscript o i pos) X.env v = (do
   let ov ← holding [v] (eval o X.env)
   let iv ← holding [v,ov] (eval i X.env)
   standAt pos
   holding [v,ov,iv] (setItem ov iv v)
   release [v,ov,iv] []):=by intro _; rfl):PG X (.Subscript o i pos) (gSub to ti t):=by
 intro pins s σ H v u Q I r h
 rw [ha]
 refine wpAny_bind (wpAny_holding (thn (ho pins s σ H _ I h) fun ov s1 ⟨x,H1,I1,r1,q1⟩=>?_))
 refine wpAny_bind (wpAny_holding (thn (hi pins s1 σ H1 _ I1 q1) fun iv s2 ⟨y,H2,I2,r2,q2⟩=>?_))
 refine wpAny_bind (wpAny_standAt (wpAny_bind (wpAny_holding (thn (hs pins s2 σ H2 x y v ov iv u _ I2 r1 r2 r q2) fun _ s3 ⟨H3,I3,q3⟩=>?_))))
 exact wpAny_release ⟨σ,H3,I3,q3⟩
def tAsg (te:TE) (g:TG):TS:=fun D σ H=>te σ H fun x H1=>g x σ H1 D.nx
theorem x6 {tg e:Expr} {te:TE} {g:TG} (he:PE X e te) (hg:PG X tg g) (hs:swapsWithSole [tg] e pos.line X.env = pure false:=by rfl) (hw:swappedStores [tg] e X.env = pure none:=by rfl)
  (h1:(assignEach [tg] X.env).map (·.2) = [assign tg X.env]:=by rfl):PS X (.Assign [tg] e pos) (tAsg te g):=by
 intro pins s σ H D I h
 refine wpAny_Assign_stores (thn (he pins s σ H _ I h) fun v s1 ⟨x,H1,I1,r1,q1⟩=>?_) hs hw
 rw [h1]
 exact thn (hg pins s1 σ H1 x v _ I1 r1 q1) fun _ s2 q=>q
theorem zw {i:Nat} {x:Str} {e:Expr} {te:TE} {pos':Pos} (hN:X.N.Nodup) (hi:X.N[i]? = some x) (hx:Loc X.env.scope x) (he:PE X e te) (hs:swapsWith e (some (.Name x pos')) pos.line X.env = pure false:=by rfl) (hf:X.fn x = true \/ X.env.scope.names.lookup x = some .local :=by first | exact .inl rfl | exact .inr rfl | assumption) :
  PS X (.Assign [.Name x pos'] e pos) (tAsg te (vm i)):=by
 intro pins s σ H D I h
 refine wpAny_Assign_Name (thn (he pins s σ H _ I h) fun v s1 ⟨y,H1,I1,r1,q1⟩=>?_) hs
 exact vy I1 hN hi hx r1 (fun s2 I2=>⟨_,H1,I2,q1⟩) hf
def tPar (i j:Nat) (ta:TA):TS:=fun D σ H=>ta σ H fun vs H1=>∃ v w,vs = [v,w] /\ D.nx ((σ.set i (some v)).set j (some w)) H1
theorem qH {i j:Nat} {x y:Str} {a b:Expr} {ta:TA} {px py pt:Pos} {kt k2 pt2} (hc:X.calm = true) (hN:X.N.Nodup) (hi:X.N[i]? = some x) (hj:X.N[j]? = some y) (hij:i ≠ j)
  (hx:X.env.scope.names.lookup x = some .local) (hy:X.env.scope.names.lookup y = some .local) (ha:PA X [a,b] ta)
  (hw:swappedStores [.Tuple [.Name x px,.Name y py] kt pt] (.Tuple [a,b] k2 pt2) X.env = pure (some [x,y]))
  (hs:swapsWithSole [.Tuple [.Name x px,.Name y py] kt pt] (.Tuple [a,b] k2 pt2) pos.line X.env = pure false:=by rfl) :
  PS X (.Assign [.Tuple [.Name x px,.Name y py] kt pt] (.Tuple [a,b] k2 pt2) pos) (tPar i j ta):=by
 intro pins s σ H D I h
 rw [exec_Assign_arm]
 refine wpAny_bind (wpAny_standAt ?_)
 rw [hs]
 refine wpAny_bind (wpAny_pure ?_)
 rw [if_neg (by decide)]
 refine wpAny_bind (Tuple_ (thn (ha _ pins s σ H _ I h) fun us s1 ⟨vs,H1,I1,r1,q1⟩=>?_))
 obtain ⟨v,w,e1,q1⟩:=q1
 subst e1
 obtain ⟨u1,u2,rfl,rv,rw'⟩:∃ u1 u2,us = [u1,u2] /\ RelV v u1 /\ RelV w u2:=by
  cases r1 with
  | cons p q =>
   cases q with
   | cons p' q' =>
    cases q'
    exact ⟨_,_,rfl,p,p'⟩
 refine wpAny_newObj_type ?_ (by show 2 <= sizeLine; decide)
 have I2:Inv X pins σ H1 { s1 with heap:=s1.heap.push { cls:=.type "tuple",data:=.seq [u1,u2].toArray } }:=I1.kept (t':=s1.toks) fun b o e=>Heap.get?_push_of_some _ e
 rw [hw]
 refine wpAny_bind (wpAny_pure ?_)
 show wpAny (model X.prog X.w) X.A (do rule "assign.swapped-stores"; let items ← unpackItems (.ref s1.heap.objs.size) 2 none; assignInOrder [fun v=>bindName X.env y v,fun v=>bindName X.env x v] items.reverse; pure Flow.next) _ _ _
 refine wpAny_bind (wpAny_rule (wpAny_bind (unpackItems_tuple (items:=#[u1,u2]) (I.ok.hd hc) (IsTup.new s1.heap _) fun h' hx'=>?_)))
 have I3:=I2.kept (h':=h') (t':=s1.toks) fun b o e=>hx' b o (Nat.ne_of_lt (Heap.lt_size e)) e
 show wpAny _ _ (assignInOrder [fun v=>bindName X.env y v,fun v=>bindName X.env x v] [u2,u1] >>= fun _=>pure Flow.next) _ _ _
 refine wpAny_bind (assignInOrder_cons (wpAny_bindName (vy I3 hN hj (.inl hy) rw' (fun s2 I4=>?_) (.inr hy))))
 refine assignInOrder_cons (wpAny_bindName (vy I4 hN hi (.inl hx) rv (fun s3 I5=>assignInOrder_nil (wpAny_pure ?_)) (.inr hx)))
 rw [List.set_comm _ _ (Ne.symm hij)] at I5
 exact ⟨_,H1,I5,q1⟩
end
structure It where
 go:Nat -> Hp -> Prop
 yld:Nat -> Hp -> V -> Hp -> Prop
 stop:Nat -> Hp -> Prop
def FpOk (X:Cx) (pins:List (Addr × Obj)) (H:Hp) (b:Addr):Prop :=
 H b = none /\ b ≠ X.env.locals /\ b ∉ X.fs /\ (b ∈ X.ex \/ X.s₀.heap.objs.size <= b) /\ (∀ x c,X.env.cells.lookup x = some c -> c ≠ b) /\ ∀ p ∈ X.pn ++ pins,p.1 ≠ b
theorem Inv.fpOk {X:Cx} {pins:List (Addr × Obj)} {σ:St} {H H':Hp} {s:Shared} {b:Addr} (I:Inv X pins σ H s) (hb:s.heap.objs.size <= b) (hn:H' b = none):FpOk X pins H' b:=by
 refine ⟨hn,Nat.ne_of_gt (Nat.lt_of_lt_of_le I.lt hb),I.nofs hb,.inr (Nat.le_trans I.sz hb),fun x c e z=>?_,fun p hp z=>?_⟩
 ·obtain ⟨v,q⟩:=I.cell x c e
  exact absurd (Nat.lt_of_lt_of_le q.lt (by rw [z]; exact hb)) (Nat.lt_irrefl _)
 ·exact absurd (Nat.lt_of_lt_of_le (Heap.lt_size (I.pin p hp).1) (by rw [z]; exact hb)) (Nat.lt_irrefl _)
structure Turn (P:Program) (w:World) (K:FG7) (tg:Expr) (J:It) (fp:List Addr) (it:Addr) (tn:Nat -> Heap -> Prop):Prop where
 mem:it ∈ fp
 obj:∀ i h,tn i h -> ∀ b ∈ fp,∃ o,h.get? b = some o /\ ∀ v,o.data ≠ .cell v
 keep:∀ i h h',tn i h -> (∀ b ∈ fp,∀ o,h.get? b = some o -> h'.get? b = some o) -> tn i h'
 item:∀ (X:Cx),X.prog = P -> X.w = w -> X.K = K -> X.calm = true -> ∀ (i:Nat) (pins:List (Addr × Obj)) (s:Shared) (σ:St) (H:Hp) (E:VS7),Inv X pins σ H s -> (∀ b ∈ fp,FpOk X pins H b) -> tn i s.heap -> J.go i H →
  wpAny (model P w) X.A (pyNext (.ref it)) (fun r s1=>∃ u,r = some u ∧
   wpAny (model P w) X.A (letOwnedTupleGo tg (.ref it) u) (fun _ s2=>∃ x H',Inv X pins σ H' s2 /\ RelV x u /\ J.yld i H x H' /\ tn (i + 1) s2.heap /\ ∀ b ∈ fp,H' b = none) E s1) E s
 done:∀ (X:Cx),X.prog = P -> X.w = w -> X.K = K -> X.calm = true -> ∀ (i:Nat) (pins:List (Addr × Obj)) (s:Shared) (σ:St) (H:Hp) (E:VS7),Inv X pins σ H s -> (∀ b ∈ fp,FpOk X pins H b) -> tn i s.heap -> J.stop i H →
  wpAny (model P w) X.A (pyNext (.ref it)) (fun r s1=>r = none /\ Inv X pins σ H s1) E s
 self:∀ (A:Around) (i:Nat) (s:Shared) (Q:VS7) (E:VS7),tn i s.heap -> Q (.ref it) s -> wpAny (model P w) A (pyIter (.ref it)) Q E s
abbrev TI:=St -> Hp -> (It -> Hp -> Prop) -> Prop
def PIE (X:Cx) (pins:List (Addr × Obj)) (σ:St) (tg:Expr) (R:It -> Hp -> Prop) (itv:Value) (s2:Shared):Prop :=
 ∃ (it:Addr) (fp:List Addr) (tn:Nat -> Heap -> Prop) (J:It) (H':Hp),itv = .ref it /\ Inv X pins σ H' s2 /\ Turn X.prog X.w X.K tg J fp it tn /\ tn 0 s2.heap /\ (∀ b ∈ fp,FpOk X pins H' b) /\ R J H'
def PI (X:Cx) (tg iter:Expr) (wi:TI):Prop :=
 ∀ (pins:List (Addr × Obj)) (s:Shared) (σ:St) (H:Hp) (R:It -> Hp -> Prop),Inv X pins σ H s -> wi σ H R →
  wpAny (model X.prog X.w) X.A (eval iter X.env) (fun v s1=>wpAny (model X.prog X.w) X.A (pyIter v) (PIE X pins σ tg R) X.xe s1) X.xe s
theorem Ze {M:Model} {A:Around} {E:VS7} {s:Shared} {tg:Expr} {it:Addr} {u:Value} {o:Obj} {n:String} {vs:Array Value} {Q:Unit -> Shared -> Prop} (ho:s.heap.get? it = some o) (hc:o.cls = .type n) (hd:o.data = .fields vs)
    (hn:["enumerate","zip","dict_itemiterator","dict_reverseitemiterator","odict_iterator","itertools.zip_longest","itertools.pairwise"].contains n = false) (hQ:Q () s):wpAny M A (letOwnedTupleGo tg (.ref it) u) Q E s:=by
  unfold letOwnedTupleGo
  cases tg <;> first
    | exact wpAny_pure hQ
    | (cases u <;> first
        | exact wpAny_pure hQ
        | (refine wpAny_bind (wpAny_load ho ?_)
           rw [hc,hd]
           show wpAny M A (if (["enumerate","zip","dict_itemiterator","dict_reverseitemiterator","odict_iterator","itertools.zip_longest","itertools.pairwise"].contains n && vs[0]? == some (rawInt _)) = true then _ else _) Q E s
           rw [if_neg (by intro h; rw [hn,Bool.false_and] at h; cases h)]
           exact wpAny_pure hQ))
def Itl (K:FG7) (a:Addr):It :=
 ⟨fun i H=>∃ xs x,SqL K H a xs /\ xs[i]? = some x,fun i H x H'=>H' = H /\ ∀ xs,SqL K H a xs -> xs[i]? = some x,fun i H=>∃ xs,SqL K H a xs /\ xs.length <= i⟩
def Itt (K:FG7) (a:Addr):It :=
 ⟨fun i H=>∃ xs x,SqT K H a xs /\ xs[i]? = some x,fun i H x H'=>H' = H /\ ∀ xs,SqT K H a xs -> xs[i]? = some x,fun i H=>∃ xs,SqT K H a xs /\ xs.length <= i⟩
def Itr (lo:Int) (n:Nat):It:=⟨fun i _=>i < n,fun i H x H'=>H' = H /\ x = .int (lo + i),fun i _=>n <= i⟩
theorem Zf {P:Program} {w:World} {K:FG7} {tg:Expr} (a it:Addr):Turn P w K tg (Itl K a) [it] it (fun i h=>h.IsListIter it a i) where
 mem:=by simp
 obj:=fun i h st b hb=>by
  have e:b = it:=by simpa using hb
  subst e
  obtain ⟨o,e,c,d⟩:=st
  exact ⟨o,e,fun v z=>by rw [d] at z; cases z⟩
 keep:=fun i h h' st k=>st.at fun o e=>k it (by simp) o e
 item:=by
  intro X hP hw hK hc i pins s σ H E I hf st hg
  subst hP hw hK
  obtain ⟨xs,x,hq,hx⟩:=hg
  obtain ⟨its,rv,p,hz⟩:=I.list hq
  obtain ⟨u,hu,ru⟩:=rv.get hx
  obtain ⟨f0,f1,f2,f3,f4,f5⟩:=hf it (by simp)
  refine wpAny_pyNext_list_item st p.isList (x:=u) (by simpa using hu) fun h' st' sb=>?_
  have I1:Inv X pins σ H { s with heap:=h' }:=I.turned (t':=s.toks) (fun b o hb e=>(sb.2 b hb).trans e) f0 f1 f3 f4 f5
  obtain ⟨o,e,c,d⟩:=id st'
  exact ⟨u,rfl,Ze (s:={ s with heap:=h' }) e c d (by decide) ⟨x,H,I1,ru,⟨rfl,fun ys hy=>by rw [I.list_inj hy hq]; exact hx⟩,st',fun b hb=>(hf b hb).1⟩⟩
 done:=by
  intro X hP hw hK hc i pins s σ H E I hf st hg
  subst hP hw hK
  obtain ⟨xs,hq,hx⟩:=hg
  obtain ⟨its,rv,p,hz⟩:=I.list hq
  obtain ⟨f0,f1,f2,f3,f4,f5⟩:=hf it (by simp)
  have hl:=rv.length
  exact wpAny_pyNext_list_end (I.ok.hd hc) st p.isList (by simp; omega) fun h' eb=>⟨rfl,I.turned (t':=s.toks) (fun b o hb e=>eb b o hb e) f0 f1 f3 f4 f5⟩
 self:=fun _ _ _ _ _ st h=>wpAny_pyIter_listiter st h
theorem jq {P:Program} {w:World} {K:FG7} {tg:Expr} (a it:Addr):Turn P w K tg (Itt K a) [it] it (fun i h=>h.IsTupleIter it a i) where
 mem:=by simp
 obj:=fun i h st b hb=>by
  have e:b = it:=by simpa using hb
  subst e
  obtain ⟨o,e,c,d⟩:=st
  exact ⟨o,e,fun v z=>by rw [d] at z; cases z⟩
 keep:=fun i h h' st k=>st.at fun o e=>k it (by simp) o e
 item:=by
  intro X hP hw hK hc i pins s σ H E I hf st hg
  subst hP hw hK
  obtain ⟨xs,x,hq,hx⟩:=hg
  obtain ⟨its,rv,p,hz⟩:=I.tuple hq
  obtain ⟨u,hu,ru⟩:=rv.get hx
  obtain ⟨f0,f1,f2,f3,f4,f5⟩:=hf it (by simp)
  refine wpAny_pyNext_tuple_item st (show s.heap.IsTuple a its.toArray from p) (x:=u) (by simpa using hu) fun h' st' sb=>?_
  have I1:Inv X pins σ H { s with heap:=h' }:=I.turned (t':=s.toks) (fun b o hb e=>(sb.2 b hb).trans e) f0 f1 f3 f4 f5
  obtain ⟨o,e,c,d⟩:=id st'
  exact ⟨u,rfl,Ze (s:={ s with heap:=h' }) e c d (by decide) ⟨x,H,I1,ru,⟨rfl,fun ys hy=>by rw [I.tuple_inj hy hq]; exact hx⟩,st',fun b hb=>(hf b hb).1⟩⟩
 done:=by
  intro X hP hw hK hc i pins s σ H E I hf st hg
  subst hP hw hK
  obtain ⟨xs,hq,hx⟩:=hg
  obtain ⟨its,rv,p,hz⟩:=I.tuple hq
  obtain ⟨f0,f1,f2,f3,f4,f5⟩:=hf it (by simp)
  have hl:=rv.length
  exact wpAny_pyNext_tuple_end (I.ok.hd hc) st (show s.heap.IsTuple a its.toArray from p) (by simp; omega) fun h' eb=>⟨rfl,I.turned (t':=s.toks) (fun b o hb e=>eb b o hb e) f0 f1 f3 f4 f5⟩
 self:=fun _ _ _ _ _ st h=>wpAny_pyIter_tupleiter st h
theorem jr {P:Program} {w:World} {K:FG7} {tg:Expr} (it:Addr) (lo:Int) (n:Nat):Turn P w K tg (Itr lo n) [it] it (fun i h=>IsRangeIter h it (lo + (i:Nat) * 1) ((n:Int) - (i:Nat)) 1) where
 mem:=by simp
 obj:=fun i h st b hb=>by
  have e:b = it:=by simpa using hb
  subst e
  exact ⟨_,st,fun v z=>by
   have z':Data.fields _ = Data.cell v:=z
   cases z'⟩
 keep:=fun i h h' st k=>k it (by simp) _ st
 item:=by
  intro X hP hw hK hc i pins s σ H E I hf st hg
  subst hP hw hK
  obtain ⟨f0,f1,f2,f3,f4,f5⟩:=hf it (by simp)
  have W:=Walks.range (prog:=X.prog) (w:=X.w) (I.ok.hd hc) it lo 1 n
  refine W.item i s _ _ hg st fun v h' tk hv st' kk=>?_
  obtain ⟨t,rfl⟩:=hv
  have I1:Inv X pins σ H { s with heap:=h',toks:=tk }:=I.turned (fun b o hb e=>kk b o (by simpa using hb) e) f0 f1 f3 f4 f5
  refine ⟨_,rfl,Ze (s:={ s with heap:=h',toks:=tk }) (n:="range_iterator") st' rfl rfl (by decide) ⟨.int (lo + i),H,I1,⟨t,?_⟩,⟨rfl,rfl⟩,st',fun b hb=>(hf b hb).1⟩⟩
  rw [Int.mul_one]
 done:=by
  intro X hP hw hK hc i pins s σ H E I hf st hg
  subst hP hw hK
  obtain ⟨f0,f1,f2,f3,f4,f5⟩:=hf it (by simp)
  exact wpAny_pyNext_range_end (I.ok.hd hc) st (by have:n <= i:=hg; omega) fun h' eb=>⟨rfl,I.turned (t':=s.toks) (fun b o hb e=>eb b o hb e) f0 f1 f3 f4 f5⟩
 self:=fun _ _ _ _ _ st h=>wpAny_pyIter_rangeiter st h
end L2
namespace L2
open PySem PySem.Spec PyProof.Rows
section
variable {X:Cx} {tg:Expr}
def Va (K:FG7) (tl:TE):TI:=fun σ H R=>tl σ H fun x H1=>∃ a,x = .ref a /\ (∃ xs,SqL K H1 a xs) /\ R (Itl K a) H1
def iTup (K:FG7) (tl:TE):TI:=fun σ H R=>tl σ H fun x H1=>∃ a,x = .ref a /\ (∃ xs,SqT K H1 a xs) /\ R (Itt K a) H1
theorem vF {l:Expr} {tl:TE} (hl:PE X l tl):PI X tg l (Va X.K tl):=by
 intro pins s σ H R I h
 refine thn (hl pins s σ H _ I h) fun v s1 ⟨x,H1,I1,r1,q1⟩=>?_
 obtain ⟨a,e,⟨xs,hq⟩,q⟩:=q1
 subst e
 cases r1
 obtain ⟨its,rv,p,hz⟩:=I1.list hq
 refine wpAny_pyIter_list p.isList ?_
 refine ⟨s1.heap.objs.size,[s1.heap.objs.size],_,_,H1,rfl,I1.kept (t':=s1.toks) fun b o e=>Heap.get?_push_of_some _ e,Zf a _,⟨_,Heap.get?_push_size _ rfl,rfl,rfl⟩,fun b hb=>?_,q⟩
 have e:b = s1.heap.objs.size:=by simpa using hb
 subst e
 exact I1.fpOk (Nat.le_refl _) (I1.hok.fresh (Nat.le_refl _))
theorem y7 {l:Expr} {tl:TE} (hl:PE X l tl):PI X tg l (iTup X.K tl):=by
 intro pins s σ H R I h
 refine thn (hl pins s σ H _ I h) fun v s1 ⟨x,H1,I1,r1,q1⟩=>?_
 obtain ⟨a,e,⟨xs,hq⟩,q⟩:=q1
 subst e
 cases r1
 obtain ⟨its,rv,p,hz⟩:=I1.tuple hq
 refine wpAny_pyIter_tuple (show s1.heap.IsTuple a its.toArray from p) ?_
 refine ⟨s1.heap.objs.size,[s1.heap.objs.size],_,_,H1,rfl,I1.kept (t':=s1.toks) fun b o e=>Heap.get?_push_of_some _ e,jq a _,⟨_,Heap.get?_push_size _ rfl,rfl,rfl⟩,fun b hb=>?_,q⟩
 have e:b = s1.heap.objs.size:=by simpa using hb
 subst e
 exact I1.fpOk (Nat.le_refl _) (I1.hok.fresh (Nat.le_refl _))
theorem qI {pins:List (Addr × Obj)} {σ:St} {H:Hp} {s:Shared} {R:It -> Hp -> Prop} {E:VS7} {lo hi:Int} {t u v:Tok} {tk:Nat} (I:Inv X pins σ H s) (h1:-(2 ^ 62) <= lo) (h2:lo < 2 ^ 62) (h3:-(2 ^ 62) <= hi) (h4:hi < 2 ^ 62)
  (q:R (Itr lo (hi - lo).toNat) H):wpAny (model X.prog X.w) X.A (pyIter (.ref s.heap.objs.size)) (PIE X pins σ tg R) E { s with heap:=s.heap.push { cls:=.type "range",data:=.fields #[.int lo t,.int hi u,.int 1 v] },toks:=tk }:=by
 refine wpAny_pyIter_range (IsRange.new ..) (small_one h1 h2 h3 h4) ?_
 have I1:Inv X pins σ H { s with heap:=s.heap.push { cls:=.type "range",data:=.fields #[.int lo t,.int hi u,.int 1 v] },toks:=tk }:=I.kept fun b o e=>Heap.get?_push_of_some _ e
 refine ⟨(s.heap.push { cls:=.type "range",data:=.fields #[.int lo t,.int hi u,.int 1 v] }).objs.size,[(s.heap.push { cls:=.type "range",data:=.fields #[.int lo t,.int hi u,.int 1 v] }).objs.size],_,_,H,rfl,
  I1.kept (t':=tk) fun b o e=>Heap.get?_push_of_some _ e,jr _ lo (hi - lo).toNat,?_,fun b hb=>?_,q⟩
 ·have e1:lo + ((0:Nat):Int) * 1 = lo:=by simp
  have e2:(((hi - lo).toNat:Nat):Int) - ((0:Nat):Int) = Builtin.Range.rangeSize lo hi 1:=by rw [rangeSize_one]; split <;> omega
  show IsRangeIter _ _ (lo + ((0:Nat):Int) * 1) ((((hi - lo).toNat:Nat):Int) - ((0:Nat):Int)) 1
  rw [e1,e2]
  exact Heap.get?_push_size _ rfl
 ·have e:b = (s.heap.push { cls:=.type "range",data:=.fields #[.int lo t,.int hi u,.int 1 v] }).objs.size:=by simpa using hb
  subst e
  exact I1.fpOk (Nat.le_refl _) (I1.hok.fresh (Nat.le_refl _))
def V4 (ta:TA):TI:=fun σ H R=>ta σ H fun vs H1=>∃ j:Int,vs = [.int j] /\ -(2 ^ 62) <= j /\ j < 2 ^ 62 /\ R (Itr 0 j.toNat) H1
def V5 (ta:TA):TI:=fun σ H R=>ta σ H fun vs H1=>∃ i j:Int,vs = [.int i,.int j] /\ (-(2 ^ 62) <= i /\ i < 2 ^ 62 /\ -(2 ^ 62) <= j /\ j < 2 ^ 62) /\ R (Itr i (j - i).toNat) H1
theorem zU {a:Expr} {ta:TA} {p pos:Pos} (hg:Gl X "range") (hm:X.mg "range" = none) (ha:PA X [a] ta) (hs:starEach [a] X.env = [(false,eval a X.env)]:=by rfl):PI X tg (.Call (.Name "range" p) [a] [] pos) (V4 ta):=by
 intro pins s σ H R I h
 refine Call_ (va I hg hm boot_range (PyProof.Rows.callWith_type1 (thn (ha pos pins s σ H _ I h) fun us s1 ⟨vs,H1,I1,r1,q1⟩=>?_) hs rfl))
 obtain ⟨j,e,q1,q2,q⟩:=q1
 subst e
 cases r1 with
 | cons r rr =>
  cases rr
  obtain ⟨t,rfl⟩:=r
  exact call_range_1 (qI I1 (by omega) (by omega) q1 q2 (by simpa using q))
theorem tY {a b:Expr} {ta:TA} {p pos:Pos} (hg:Gl X "range") (hm:X.mg "range" = none) (ha:PA X [a,b] ta) (hs:starEach [a,b] X.env = [(false,eval a X.env),(false,eval b X.env)]:=by rfl) (hs2:starEach [b] X.env = [(false,eval b X.env)]:=by rfl) :
  PI X tg (.Call (.Name "range" p) [a,b] [] pos) (V5 ta):=by
 intro pins s σ H R I h
 refine Call_ (va I hg hm boot_range (PyProof.Rows.callWith_type1 (thn (ha pos pins s σ H _ I h) fun us s1 ⟨vs,H1,I1,r1,q1⟩=>?_) (by rw [hs,hs2]) (by rw [hs2]; rfl)))
 obtain ⟨i,j,e,⟨q1,q2,q3,q4⟩,q⟩:=q1
 subst e
 cases r1 with
 | cons r rr =>
  cases rr with
  | cons r' rr =>
   cases rr
   obtain ⟨t,rfl⟩:=r
   obtain ⟨t',rfl⟩:=r'
   exact call_range_2 (qI I1 q1 q2 q3 q4 q)
def tFor (wi:TI) (g:TG) (tb:TS):TS:=fun D σ H=>wi σ H fun J H1=>∃ W:Nat -> Nat -> St -> Hp -> Prop,(∃ m,W 0 m σ H1) /\ ∀ i m σ H,W i m σ H →
 (J.stop i H /\ D.nx σ H) \/ (J.go i H /\ ∃ N:St -> Hp -> Prop,(∀ σ' H',N σ' H' -> ∃ m',m' < m /\ W (i + 1) m' σ' H') /\ ∀ x H',J.yld i H x H' -> g x σ H' fun σ2 H2=>tb { D with nx:=N,ct:=N,bk:=D.nx } σ2 H2)
def xH (fp:List Addr) (h:Heap):List (Addr × Obj):=fp.filterMap fun b=>(h.get? b).map fun o=>(b,o)
theorem zR {fp:List Addr} {h:Heap} {b:Addr} {o:Obj} (hb:b ∈ fp) (e:h.get? b = some o):(b,o) ∈ xH fp h:=List.mem_filterMap.mpr ⟨b,hb,by rw [e]; rfl⟩
theorem Zg {fp:List Addr} {h:Heap} {p:Addr × Obj} (hp:p ∈ xH fp h):p.1 ∈ fp /\ h.get? p.1 = some p.2:=by
 obtain ⟨b,hb,e⟩:=List.mem_filterMap.mp hp
 cases q:h.get? b with
 | none=>rw [q] at e; cases e
 | some o =>
  rw [q] at e
  have e':(b,o) = p:=Option.some.inj e
  subst e'
  exact ⟨hb,q⟩
theorem Inv.pinned {pins:List (Addr × Obj)} {σ:St} {H:Hp} {s:Shared} {fp:List Addr} (I:Inv X pins σ H s) (hf:∀ b ∈ fp,FpOk X pins H b) (ho:∀ b ∈ fp,∃ o,s.heap.get? b = some o /\ ∀ v,o.data ≠ .cell v):Inv X (pins ++ xH fp s.heap) σ H s :=
 I.pins_of fun p hp=>(List.mem_append.mp hp).elim (fun z=>I.pin p (List.mem_append_right _ z)) fun z=>by
  obtain ⟨hb,e⟩:=Zg z
  obtain ⟨f0,f1,f2,_⟩:=hf p.1 hb
  obtain ⟨o,e',d⟩:=ho p.1 hb
  rw [e] at e'; cases e'
  exact ⟨e,f0,f1,f2,d⟩
theorem Inv.unpinned {pins pl:List (Addr × Obj)} {σ:St} {H:Hp} {s:Shared} (I:Inv X (pins ++ pl) σ H s):Inv X pins σ H s:=I.pins_of fun p hp=>I.pin p (List.mem_append_right _ (List.mem_append_left _ hp))
theorem yU {iter:Expr} {body:List Stmt} {wi:TI} {g:TG} {tb:TS} {pos:Pos} (hp:PassesOwn (model X.prog X.w) X.A X.env X.xe) (hc:X.calm = true) (hi:PI X tg iter wi) (hg:PG X tg g) (hb:PSs X body tb)
  (hs:∀ x,foldedSetIterable iter X.env x = pure x:=by intro _; rfl):PS X (.For tg iter body [] pos) (tFor wi g tb):=by
 intro pins s σ H D I h
 refine wpAny_For (thn (hi pins s σ H _ I h) fun v s1 h1=>thn h1 fun itv s2 h2=>?_) hs
 obtain ⟨it,fp,tn,J,H2,e,I2,T,st2,f2,W,⟨m0,w0⟩,turn⟩:=h2
 subst e
 -- what stays true of the iterator's objects through the loop
 have stat:∀ {H':Hp},(∀ b ∈ fp,H' b = none) -> ∀ b ∈ fp,FpOk X pins H' b:=fun hn b hb=>⟨hn b hb,(f2 b hb).2⟩
 refine codeAny_forLoop_any (fun n s'=>∃ i σ' H',Inv X pins σ' H' s' /\ tn i s'.heap /\ (∀ b ∈ fp,H' b = none) /\ W i n σ' H') ?_ m0 ⟨0,σ,H2,I2,st2,fun b hb=>(f2 b hb).1,w0⟩
 rintro n s3 ⟨i,σ3,H3,I3,st3,fr3,w3⟩
 rcases turn i n σ3 H3 w3 with ⟨stop,qn⟩ | ⟨go,N,hN,step⟩
 ·refine wpAny_passesOwn hp (thn (T.done X rfl rfl rfl hc i pins s3 σ3 H3 X.xe I3 (stat fr3) st3 stop) fun r s4 ⟨hr,I4⟩=>?_)
  subst hr
  exact wpAny_execs_nil ⟨σ3,H3,I4,qn⟩
 ·refine wpAny_passesOwn hp (thn (T.item X rfl rfl rfl hc i pins s3 σ3 H3 X.xe I3 (stat fr3) st3 go) fun r s4 ⟨u,hr,h4⟩=>?_)
  subst hr
  refine wpAny_passesOwn hp (thn h4 fun _ s5 ⟨x,H5,I5,r5,y5,st5,fr5⟩=>?_)
  have I5':=I5.pinned (stat fr5) (T.obj _ _ st5)
  refine wpAny_passesOwn hp (thn (hg _ s5 σ3 H5 x u _ I5' r5 (step x H5 y5)) fun _ s6 ⟨σ6,H6,I6,q6⟩=>?_)
  refine wpAny_passesOwn hp (thn (hb _ s6 σ6 H6 _ I6 q6) fun f s7 q7=>?_)
  have again:∀ {σ7:St} {H7:Hp},Inv X (pins ++ xH fp s5.heap) σ7 H7 s7 -> N σ7 H7 -> ∃ m,m < n /\ ∃ i σ' H',Inv X pins σ' H' s7 /\ tn i s7.heap /\ (∀ b ∈ fp,H' b = none) /\ W i m σ' H':=fun {σ7 H7} I7 n7=>by
   obtain ⟨m',hm,w7⟩:=hN σ7 H7 n7
   refine ⟨m',hm,i + 1,σ7,H7,I7.unpinned,T.keep _ _ _ st5 fun b hb o e=>(I7.pin (b,o) (List.mem_append_right _ (List.mem_append_right _ (zR hb e)))).1,fun b hb=>?_,w7⟩
   obtain ⟨o,e,d⟩:=T.obj _ _ st5 b hb
   exact (I7.pin (b,o) (List.mem_append_right _ (List.mem_append_right _ (zR hb e)))).2.1
  cases f with
  | next=>obtain ⟨σ7,H7,I7,n7⟩:=q7; exact again I7 n7
  | cont=>obtain ⟨σ7,H7,I7,n7⟩:=q7; exact again I7 n7
  | brk=>obtain ⟨σ7,H7,I7,q7⟩:=q7; exact ⟨σ7,H7,I7.unpinned,q7⟩
  | ret v=>obtain ⟨x7,σ7,H7,I7,r7,q7⟩:=q7; exact ⟨x7,σ7,H7,I7.unpinned,r7,q7⟩
end
theorem We {K:FG7} {a:Addr} {xs:List V} {g:TG} {tb:TS} {D:Ends} {σ:St} {H:Hp} (Pv:Nat -> St -> Hp -> Prop) (h0:Pv 0 σ H) (hl:∀ i σ H,i <= xs.length -> Pv i σ H -> SqT K H a xs)
  (hs:∀ i x σ H,xs[i]? = some x -> Pv i σ H -> g x σ H fun σ2 H2=>tb { D with nx:=Pv (i + 1),ct:=Pv (i + 1),bk:=D.nx } σ2 H2) (hd:∀ σ H,Pv xs.length σ H -> D.nx σ H) :
  ∃ W:Nat -> Nat -> St -> Hp -> Prop,(∃ m,W 0 m σ H) /\ ∀ i m σ H,W i m σ H →
   ((Itt K a).stop i H /\ D.nx σ H) \/ ((Itt K a).go i H /\ ∃ N:St -> Hp -> Prop,(∀ σ' H',N σ' H' -> ∃ m',m' < m /\ W (i + 1) m' σ' H') /\ ∀ x H',(Itt K a).yld i H x H' -> g x σ H' fun σ2 H2=>tb { D with nx:=N,ct:=N,bk:=D.nx } σ2 H2):=by
 refine ⟨fun i m σ H=>m = xs.length - i /\ i <= xs.length /\ Pv i σ H,⟨xs.length,by simp,Nat.zero_le _,h0⟩,?_⟩
 rintro i m σ H ⟨rfl,hi,p⟩
 have q:=hl i σ H hi p
 by_cases hlt:i < xs.length
 ·refine .inr ⟨⟨xs,xs[i],q,by simp [hlt]⟩,Pv (i + 1),fun σ' H' p'=>⟨xs.length - (i + 1),by omega,rfl,hlt,p'⟩,fun x H' y=>?_⟩
  obtain ⟨e,y⟩:=y
  subst e
  exact hs i x σ _ (y xs q) p
 ·have e:i = xs.length:=by omega
  subst e
  exact .inl ⟨⟨xs,q,Nat.le_refl _⟩,hd σ H p⟩
theorem xr {lo:Int} {n:Nat} {g:TG} {tb:TS} {D:Ends} {σ:St} {H:Hp} (Pv:Nat -> St -> Hp -> Prop) (h0:Pv 0 σ H)
  (hs:∀ i σ H,i < n -> Pv i σ H -> g (.int (lo + i)) σ H fun σ2 H2=>tb { D with nx:=Pv (i + 1),ct:=Pv (i + 1),bk:=D.nx } σ2 H2) (hd:∀ σ H,Pv n σ H -> D.nx σ H) :
  ∃ W:Nat -> Nat -> St -> Hp -> Prop,(∃ m,W 0 m σ H) /\ ∀ i m σ H,W i m σ H →
   ((Itr lo n).stop i H /\ D.nx σ H) \/ ((Itr lo n).go i H /\ ∃ N:St -> Hp -> Prop,(∀ σ' H',N σ' H' -> ∃ m',m' < m /\ W (i + 1) m' σ' H') /\ ∀ x H',(Itr lo n).yld i H x H' -> g x σ H' fun σ2 H2=>tb { D with nx:=N,ct:=N,bk:=D.nx } σ2 H2):=by
 refine ⟨fun i m σ H=>m = n - i /\ i <= n /\ Pv i σ H,⟨n,by simp,Nat.zero_le _,h0⟩,?_⟩
 rintro i m σ H ⟨rfl,hi,p⟩
 by_cases hlt:i < n
 ·refine .inr ⟨hlt,Pv (i + 1),fun σ' H' p'=>⟨n - (i + 1),by omega,rfl,hlt,p'⟩,fun x H' y=>?_⟩
  obtain ⟨e,y⟩:=y
  subst e y
  exact hs i σ _ hlt p
 ·have e:i = n:=by omega
  subst e
  exact .inl ⟨Nat.le_refl _,hd σ H p⟩
end L2
namespace L2
open PySem PySem.Spec PyProof.Rows
abbrev R2:=V -> V -> Hp -> VK -> Prop
def OpR (X:Cx) (f:Value -> Value -> Sem Value) (r:R2):Prop :=
 ∀ (pins:List (Addr × Obj)) (s:Shared) (σ:St) (H:Hp) (x y:V) (v u:Value) (Q:VK),Inv X pins σ H s -> RelV x v -> RelV y u -> r x y H Q →
  wpAny (model X.prog X.w) X.A (f v u) (EP X pins σ Q) X.xe s
def UnR (X:Cx) (f:Value -> Sem Value) (r:V -> Hp -> VK -> Prop):Prop :=
 ∀ (pins:List (Addr × Obj)) (s:Shared) (σ:St) (H:Hp) (x:V) (v:Value) (Q:VK),Inv X pins σ H s -> RelV x v -> r x H Q →
  wpAny (model X.prog X.w) X.A (f v) (EP X pins σ Q) X.xe s
def wf (X:Cx) (f:Value) (r:List V -> Hp -> VK -> Prop):Prop :=
 ∀ (pins:List (Addr × Obj)) (s:Shared) (σ:St) (H:Hp) (xs:List V) (us:List Value) (Q:VK),Inv X pins σ H s -> Vals xs us -> r xs H Q →
  wpAny (model X.prog X.w) X.A (call f us) (EP X pins σ Q) X.xe s
def tOp (r:R2) (ta tb:TE):TE:=fun σ H Q=>ta σ H fun x H1=>tb σ H1 fun y H2=>r x y H2 Q
def tUn (r:V -> Hp -> VK -> Prop) (ta:TE):TE:=fun σ H Q=>ta σ H fun x H1=>r x H1 Q
def rI (C:Int -> Int -> Prop) (g:Int -> Int -> V):R2:=fun x y H Q=>∃ i j,x = .int i /\ y = .int j /\ C i j /\ Q (g i j) H
def rI0 (g:Int -> Int -> V):R2:=fun x y H Q=>∃ i j,x = .int i /\ y = .int j /\ Q (g i j) H
def rU (g:Int -> V):V -> Hp -> VK -> Prop:=fun x H Q=>∃ i,x = .int i /\ Q (g i) H
section
variable {X:Cx} {a b c:Expr} {ta tb tc:TE} {pos:Pos}
theorem binT (ha:PE X a ta) (hb:PE X b tb) {pins:List (Addr × Obj)} {s:Shared} {σ:St} {H:Hp} {R:V -> V -> Hp -> Prop} (I:Inv X pins σ H s)
  (h:ta σ H fun x H1=>tb σ H1 fun y H2=>R x y H2) {Q:VS7} {f:Value -> Value -> Sem Value}
  (hf:∀ v u s2 x y H2,Inv X pins σ H2 s2 -> RelV x v -> RelV y u -> R x y H2 -> wpAny (model X.prog X.w) X.A (f v u) Q X.xe s2) :
  wpAny (model X.prog X.w) X.A (eval a X.env) (fun v s₁=>wpAny (model X.prog X.w) X.A (eval b X.env) (fun u s₂=>wpAny (model X.prog X.w) X.A (f v u) Q X.xe s₂) X.xe s₁) X.xe s:=by
 refine thn (ha pins s σ H _ I h) fun v s1 ⟨x,H1,I1,r1,q1⟩=>?_
 refine thn (hb pins s1 σ H1 _ I1 q1) fun u s2 ⟨y,H2,I2,r2,q2⟩=>?_
 exact hf v u s2 x y H2 I2 r1 r2 q2
theorem zq {op:Operator} {r:R2} (ho:OpR X (binaryOp op) r) (ha:PE X a ta) (hb:PE X b tb):PE X (.BinOp a op b pos) (tOp r ta tb):=by
 intro pins s σ H Q I h
 exact wpAny_BinOp (binT ha hb I h fun v u s2 x y H2 I2 rx ry q=>ho pins s2 σ H2 x y v u Q I2 rx ry q)
theorem Y0 {op:UnaryOp} {r:V -> Hp -> VK -> Prop} (ho:UnR X (unaryOp op) r) (ha:PE X a ta):PE X (.UnaryOp op a pos) (tUn r ta):=by
 intro pins s σ H Q I h
 exact UnaryOp_ (thn (ha pins s σ H _ I h) fun v s1 ⟨x,H1,I1,r1,q1⟩=>ho pins s1 σ H1 x v Q I1 r1 q1)
theorem opI {f:Value -> Value -> Sem Value} {C:Int -> Int -> Prop} {g:Int -> Int -> Int}
  (rule:∀ (i j:Int) (t u:Tok) (s:Shared) (Q:VS7) (E:VS7),C i j -> Q (.int (g i j) s.toks) { s with toks:=s.toks + 1 } -> wpAny (model X.prog X.w) X.A (f (.int i t) (.int j u)) Q E s) :
  OpR X f (rI C fun i j=>.int (g i j)):=by
 intro pins s σ H x y v u Q I rx ry h
 obtain ⟨i,j,rfl,rfl,hc,q⟩:=h
 obtain ⟨t,rfl⟩:=rx
 obtain ⟨t',rfl⟩:=ry
 exact rule i j t t' s _ _ hc ⟨.int (g i j),H,I.tok _,⟨_,rfl⟩,q⟩
theorem opI0 {f:Value -> Value -> Sem Value} {g:Int -> Int -> Int}
  (rule:∀ (i j:Int) (t u:Tok) (s:Shared) (Q:VS7) (E:VS7),Q (.int (g i j) s.toks) { s with toks:=s.toks + 1 } -> wpAny (model X.prog X.w) X.A (f (.int i t) (.int j u)) Q E s) :
  OpR X f (rI0 fun i j=>.int (g i j)):=by
 intro pins s σ H x y v u Q I rx ry h
 obtain ⟨i,j,rfl,rfl,q⟩:=h
 obtain ⟨t,rfl⟩:=rx
 obtain ⟨t',rfl⟩:=ry
 exact rule i j t t' s _ _ ⟨.int (g i j),H,I.tok _,⟨_,rfl⟩,q⟩
theorem opB0 {f:Value -> Value -> Sem Value} {g:Int -> Int -> Bool}
  (rule:∀ (i j:Int) (t u:Tok) (s:Shared) (Q:VS7) (E:VS7),Q (.bool (g i j)) s -> wpAny (model X.prog X.w) X.A (f (.int i t) (.int j u)) Q E s) :
  OpR X f (rI0 fun i j=>.bl (g i j)):=by
 intro pins s σ H x y v u Q I rx ry h
 obtain ⟨i,j,rfl,rfl,q⟩:=h
 obtain ⟨t,rfl⟩:=rx
 obtain ⟨t',rfl⟩:=ry
 exact rule i j t t' s _ _ ⟨.bl (g i j),H,I,rfl,q⟩
def CPow (i j:Int):Prop:=0 <= j /\ j <= 1000000 /\ i.natAbs < 2 ^ 64
theorem ju (k:Nat):(0:Int) <= 2 ^ k:=by
 rw [two_pow_cast]
 exact Int.natCast_nonneg _
theorem yM:OpR X (binaryOp .Add) (rI0 fun i j=>.int (i + j)):=opI0 fun _ _ _ _ _ _ _ q=>add_int q
theorem yE:OpR X (binaryOp .Sub) (rI0 fun i j=>.int (i - j)):=opI0 fun _ _ _ _ _ _ _ q=>sub_int q
theorem x8:OpR X (binaryOp .Mod) (rI (fun _ j=>0 < j) fun i j=>.int (i % j)):=opI fun i j _ _ _ _ _ hc q=>by
 have h1:(0:Int) < j:=hc
 exact mod_int' (by omega) (by rw [Int.fmod_eq_emod_of_nonneg i (by omega)]; exact q)
theorem qJ:OpR X (binaryOp .Pow) (rI CPow fun i j=>.int (i ^ j.toNat)):=opI fun _ _ _ _ _ _ _ hc q=>pow_int_small hc.1 hc.2.1 hc.2.2 q
theorem yN:OpR X (binaryOp .LShift) (rI CPow fun i j=>.int (i * 2 ^ j.toNat)):=opI fun _ _ _ _ _ _ _ hc q=>lshift_int_small hc.1 hc.2.1 hc.2.2 q
theorem Zh:OpR X (binaryOp .RShift) (rI (fun _ j=>0 <= j) fun i j=>.int (i / 2 ^ j.toNat)):=opI fun i j _ _ _ _ _ hc q =>
 rshift_int hc (by rw [Int.fdiv_eq_ediv_of_nonneg i (ju _)]; exact q)
theorem Zi:OpR X (binaryOp .BitAnd) (rI0 fun i j=>.int (Builtin.bitAnd i j)):=opI0 fun _ _ _ _ _ _ _ q=>and_int q
theorem V6:OpR X (binaryOp .BitOr) (rI0 fun i j=>.int (Builtin.bitOr i j)):=opI0 fun _ _ _ _ _ _ _ q=>or_int q
theorem xt:OpR X (binaryOp .BitXor) (rI0 fun i j=>.int (Builtin.bitXor i j)):=opI0 fun _ _ _ _ _ _ _ q=>xor_int q
theorem unI {f:Value -> Sem Value} {g:Int -> Int}
  (rule:∀ (i:Int) (t:Tok) (s:Shared) (Q:VS7) (E:VS7),Q (.int (g i) s.toks) { s with toks:=s.toks + 1 } -> wpAny (model X.prog X.w) X.A (f (.int i t)) Q E s) :
  UnR X f (rU fun i=>.int (g i)):=by
 intro pins s σ H x v Q I rx h
 obtain ⟨i,rfl,q⟩:=h
 obtain ⟨t,rfl⟩:=rx
 exact rule i t s _ _ ⟨.int (g i),H,I.tok _,⟨_,rfl⟩,q⟩
theorem qK:UnR X (unaryOp .USub) (rU fun i=>.int (-i)):=unI fun _ _ _ _ _ q=>neg_int q
end
def scal:V -> V -> Bool
 | .non,.non=>true | .non,.int _=>true | .int _,.non=>true | .non,.bl _=>true | .bl _,.non=>true | .non,.str _=>true | .str _,.non=>true
 | .int _,.int _=>true | .bl _,.bl _=>true | .str _,.str _=>true | .byt _,.byt _=>true
 | .int _,.str _=>true | .str _,.int _=>true | .bl _,.str _=>true | .str _,.bl _=>true
 | _,_=>false
def rEq:R2:=fun x y H Q=>scal x y = true /\ Q (.bl (decide (x = y))) H
def rNe:R2:=fun x y H Q=>scal x y = true /\ Q (.bl (!decide (x = y))) H
theorem Zj {i j:Int}:decide (V.int i = V.int j) = (i == j):=by
 rw [Bool.eq_iff_iff]
 simp
theorem XL {i j:Bool}:decide (V.bl i = V.bl j) = (i == j):=by
 rw [Bool.eq_iff_iff]
 simp
theorem Zk {i j:Str}:decide (V.str i = V.str j) = (i == j):=by
 rw [Bool.eq_iff_iff]
 simp
theorem Zl {i j:Array UInt8}:decide (V.byt i = V.byt j) = (i.toList == j.toList):=by
 rw [Bool.eq_iff_iff]
 cases i
 cases j
 simp
section
variable {X:Cx} {a b c:Expr} {ta tb tc:TE} {pos:Pos}
theorem zP {pins:List (Addr × Obj)} {σ:St} {H:Hp} {s:Shared} {Q:VK} {k k':Bool} (I:Inv X pins σ H s) (q:Q (.bl k) H) (e:k = k'):EP X pins σ Q (.bool k') s:=by
 subst e
 exact ⟨.bl k,H,I,rfl,q⟩
theorem vn:OpR X (compareOp .Eq) rEq:=by
 intro pins s σ H x y v u Q I rx ry h
 obtain ⟨hs,q⟩:=h
 cases x with
 | non =>
  cases rx
  cases y with
  | non=>cases ry; exact PySem.EqNone.eq_none_none (zP I q (by simp))
  | bl j=>cases ry; exact PySem.EqNone.eq_none_bool (zP I q (by simp))
  | int j=>obtain ⟨t',rfl⟩:=ry; exact PySem.EqNone.eq_none_int (zP I q (by simp))
  | str j=>obtain ⟨t',rfl⟩:=ry; exact PySem.EqNone.eq_none_str (zP I q (by simp))
  | _=>exact absurd (show false = true from hs) Bool.false_ne_true
 | bl i =>
  cases rx
  cases y with
  | non=>cases ry; exact PySem.EqNone.eq_bool_none (zP I q (by simp))
  | bl j=>cases ry; exact eq_bool (zP I q XL)
  | str j=>obtain ⟨t',rfl⟩:=ry; exact PySem.EqMixed.eq_bool_str (zP I q (by simp))
  | _=>exact absurd (show false = true from hs) Bool.false_ne_true
 | int i =>
  obtain ⟨t,rfl⟩:=rx
  cases y with
  | non=>cases ry; exact PySem.EqNone.eq_int_none (zP I q (by simp))
  | int j=>obtain ⟨t',rfl⟩:=ry; exact eq_int (zP I q Zj)
  | str j=>obtain ⟨t',rfl⟩:=ry; exact PySem.EqMixed.eq_int_str (zP I q (by simp))
  | _=>exact absurd (show false = true from hs) Bool.false_ne_true
 | str i =>
  obtain ⟨t,rfl⟩:=rx
  cases y with
  | non=>cases ry; exact PySem.EqNone.eq_str_none (zP I q (by simp))
  | bl j=>cases ry; exact PySem.EqMixed.eq_str_bool (zP I q (by simp))
  | int j=>obtain ⟨t',rfl⟩:=ry; exact PySem.EqMixed.eq_str_int (zP I q (by simp))
  | str j=>obtain ⟨t',rfl⟩:=ry; exact eq_str (zP I q Zk)
  | _=>exact absurd (show false = true from hs) Bool.false_ne_true
 | byt i =>
  obtain ⟨t,rfl⟩:=rx
  cases y with
  | byt j=>obtain ⟨t',rfl⟩:=ry; exact PySem.W.eq_bytes (zP I q Zl)
  | _=>exact absurd (show false = true from hs) Bool.false_ne_true
 | _=>cases y <;> exact absurd (show false = true from hs) Bool.false_ne_true
theorem Zm:OpR X (compareOp .NotEq) rNe:=by
 intro pins s σ H x y v u Q I rx ry h
 obtain ⟨hs,q⟩:=h
 cases x with
 | non =>
  cases rx
  cases y with
  | non=>cases ry; exact PySem.EqNone.ne_none_none (zP I q (by simp))
  | bl j=>cases ry; exact PySem.EqNone.ne_none_bool (zP I q (by simp))
  | int j=>obtain ⟨t',rfl⟩:=ry; exact PySem.EqNone.ne_none_int (zP I q (by simp))
  | str j=>obtain ⟨t',rfl⟩:=ry; exact PySem.EqNone.ne_none_str (zP I q (by simp))
  | _=>exact absurd (show false = true from hs) Bool.false_ne_true
 | bl i =>
  cases rx
  cases y with
  | non=>cases ry; exact PySem.EqNone.ne_bool_none (zP I q (by simp))
  | bl j=>cases ry; exact ne_bool (zP I q (congrArg not XL))
  | str j=>obtain ⟨t',rfl⟩:=ry; exact PySem.EqMixed.ne_bool_str (zP I q (by simp))
  | _=>exact absurd (show false = true from hs) Bool.false_ne_true
 | int i =>
  obtain ⟨t,rfl⟩:=rx
  cases y with
  | non=>cases ry; exact PySem.EqNone.ne_int_none (zP I q (by simp))
  | int j=>obtain ⟨t',rfl⟩:=ry; exact ne_int (zP I q (congrArg not Zj))
  | str j=>obtain ⟨t',rfl⟩:=ry; exact PySem.EqMixed.ne_int_str (zP I q (by simp))
  | _=>exact absurd (show false = true from hs) Bool.false_ne_true
 | str i =>
  obtain ⟨t,rfl⟩:=rx
  cases y with
  | non=>cases ry; exact PySem.EqNone.ne_str_none (zP I q (by simp))
  | bl j=>cases ry; exact PySem.EqMixed.ne_str_bool (zP I q (by simp))
  | int j=>obtain ⟨t',rfl⟩:=ry; exact PySem.EqMixed.ne_str_int (zP I q (by simp))
  | str j=>obtain ⟨t',rfl⟩:=ry; exact ne_str (zP I q (congrArg not Zk))
  | _=>exact absurd (show false = true from hs) Bool.false_ne_true
 | byt i =>
  obtain ⟨t,rfl⟩:=rx
  cases y with
  | byt j=>obtain ⟨t',rfl⟩:=ry; exact PySem.W.ne_bytes (zP I q (congrArg not Zl))
  | _=>exact absurd (show false = true from hs) Bool.false_ne_true
 | _=>cases y <;> exact absurd (show false = true from hs) Bool.false_ne_true
theorem Zn:OpR X (compareOp .Lt) (rI0 fun i j=>.bl (decide (i < j))):=opB0 fun _ _ _ _ _ _ _ q=>lt_int q
theorem Y1:OpR X (compareOp .LtE) (rI0 fun i j=>.bl (decide (i <= j))):=opB0 fun _ _ _ _ _ _ _ q=>le_int q
theorem Wf:OpR X (compareOp .Gt) (rI0 fun i j=>.bl (decide (j < i))):=opB0 fun _ _ _ _ _ _ _ q=>gt_int q
theorem zQ (b:Expr) {op:CmpOp} (h:op ≠ .In:=by decide) (h2:op ≠ .NotIn:=by decide):behindInMarks op b = false:=by
 have e1:(op == CmpOp.In) = false:=by cases op <;> first | rfl | exact absurd rfl h
 have e2:(op == CmpOp.NotIn) = false:=by cases op <;> first | rfl | exact absurd rfl h2
 cases b <;> simp [behindInMarks,e1,e2]
theorem vG {op:CmpOp} {r:R2} (ho:OpR X (compareOp op) r) (ha:PE X a ta) (hb:PE X b tb) (hm:behindInMarks op b = false):PE X (.Compare a [op] [b] pos) (tOp r ta tb):=by
 intro pins s σ H Q I h
 exact wpAny_Compare1 (binT ha hb I h fun v u s2 x y H2 I2 rx ry q=>ho pins s2 σ H2 x y v u Q I2 rx ry q) hm
def Vb (t:TE):TT:=fun σ H Q=>t σ H fun x H'=>∃ k,x = .bl k /\ Q k H'
theorem zJ {op:CmpOp} {r:R2} (ho:OpR X (compareOp op) r) (ha:PE X a ta) (hb:PE X b tb) (hm:behindInMarks op b = false):PT X (.Compare a [op] [b] pos) (Vb (tOp r ta tb)):=by
 intro pins s σ H Q I h
 refine wpAny_isTrue_Compare1 (thn (ha pins s σ H _ I h) fun v s1 ⟨x,H1,I1,r1,q1⟩=>thn (hb pins s1 σ H1 _ I1 q1) fun u s2 ⟨y,H2,I2,r2,q2⟩ =>
  thn (ho pins s2 σ H2 x y v u _ I2 r1 r2 q2) fun c s3 ⟨z,H3,I3,r3,k,e,q3⟩=>?_) hm
 subst e
 cases r3
 exact wpAny_truthy_bool ⟨H3,I3,q3⟩
def XM (r r':R2) (ta tb tc:TE):TE:=fun σ H Q=>ta σ H fun x H1=>tb σ H1 fun y H2=>r x y H2 fun z H3=>∃ k,z = .bl k ∧
 (if k = true then tc σ H3 fun w' H4=>r' y w' H4 Q else Q (.bl false) H3)
theorem Y2 {op op':CmpOp} {r r':R2} (ho:OpR X (compareOp op) r) (ho':OpR X (compareOp op') r') (ha:PE X a ta) (hb:PE X b tb) (hc:PE X c tc)
  (hm:lastMarks [op,op'] [b,c] = false:=by with_unfolding_all rfl):PE X (.Compare a [op,op'] [b,c] pos) (XM r r' ta tb tc):=by
 intro pins s σ H Q I h
 refine Compare_chain (thn (ha pins s σ H _ I h) fun v s1 ⟨x,H1,I1,r1,q1⟩=>chain_link (thn (hb pins s1 σ H1 _ I1 q1) fun u s2 ⟨y,H2,I2,r2,q2⟩ =>
  thn (ho pins s2 σ H2 x y v u _ I2 r1 r2 q2) fun d s3 ⟨z,H3,I3,r3,k,e,q3⟩=>?_)) hm
 subst e
 cases r3
 refine wpAny_truthy_bool ?_
 cases k with
 | false=>exact ite_ff ⟨.bl false,H3,I3,rfl,q3⟩
 | true=>exact ite_tt (chain_last (thn (hc pins s3 σ H3 _ I3 q3) fun w' s4 ⟨z',H4,I4,r4,q4⟩=>ho' pins s4 σ H4 y z' u w' Q I4 r2 r4 q4))
theorem Y3 {op op':CmpOp} {r r':R2} (ho:OpR X (compareOp op) r) (ho':OpR X (compareOp op') r') (ha:PE X a ta) (hb:PE X b tb) (hc:PE X c tc)
  (hm:lastMarks [op,op'] [b,c] = false:=by with_unfolding_all rfl):PT X (.Compare a [op,op'] [b,c] pos) (Vb (XM r r' ta tb tc)):=by
 intro pins s σ H Q I h
 refine isTrue_chain (thn (ha pins s σ H _ I h) fun v s1 ⟨x,H1,I1,r1,q1⟩=>test_link (thn (hb pins s1 σ H1 _ I1 q1) fun u s2 ⟨y,H2,I2,r2,q2⟩ =>
  thn (ho pins s2 σ H2 x y v u _ I2 r1 r2 q2) fun d s3 ⟨z,H3,I3,r3,k,e,q3⟩=>?_)) hm
 subst e
 cases r3
 refine wpAny_truthy_bool ?_
 cases k with
 | false =>
  obtain ⟨k',e',q'⟩:=q3
  cases e'
  exact ite_ff ⟨H3,I3,q'⟩
 | true =>
  refine ite_tt (test_last (thn (hc pins s3 σ H3 _ I3 q3) fun w' s4 ⟨z',H4,I4,r4,q4⟩=>thn (ho' pins s4 σ H4 y z' u w' _ I4 r2 r4 q4) fun d' s5 ⟨z2,H5,I5,r5,k2,e2,q5⟩=>?_))
  subst e2
  cases r5
  exact wpAny_truthy_bool ⟨H5,I5,q5⟩
theorem tZ:(sizeLine:Nat) < 2 ^ 63:=by rw [sizeLine_eq]; decide
theorem vH {x:V} {us:List Value} (r:Vals [x] us):∃ u,us = [u] /\ RelV x u:=by
 cases r with
 | cons r1 r2=>cases r2; exact ⟨_,rfl,r1⟩
theorem Zo {x y:V} {us:List Value} (r:Vals [x,y] us):∃ u w',us = [u,w'] /\ RelV x u /\ RelV y w':=by
 cases r with
 | cons r1 r2 =>
  cases r2 with
  | cons r3 r4=>cases r4; exact ⟨_,_,rfl,r1,r3⟩
theorem qL:wf X (.builtin "abs") (fun xs H Q=>∃ i,xs = [.int i] /\ Q (.int (if i < 0 then -i else i)) H):=by
 intro pins s σ H xs us Q I r h
 obtain ⟨i,rfl,q⟩:=h
 obtain ⟨u,rfl,t,rfl⟩:=vH r
 exact call_abs_int fun u tk=>⟨.int (if i < 0 then -i else i),H,I.tok _,⟨_,rfl⟩,q⟩
theorem t6 (hc:X.calm = true):wf X (.builtin "max") (fun xs H Q=>∃ i j,xs = [.int i,.int j] /\ Q (.int (if j > i then j else i)) H):=by
 intro pins s σ H xs us Q I r h
 obtain ⟨i,j,rfl,q⟩:=h
 obtain ⟨u,w',rfl,⟨t,rfl⟩,⟨t',rfl⟩⟩:=Zo r
 refine max_two_ints (I.ok.hd hc) fun h' tk k=>⟨_,H,I.kept k,?_,q⟩
 by_cases hj:j > i
 ·rw [if_pos hj,if_pos hj]; exact ⟨_,rfl⟩
 ·rw [if_neg hj,if_neg hj]; exact ⟨_,rfl⟩
theorem Zp (hc:X.calm = true):wf X (.builtin "min") (fun xs H Q=>∃ i j,xs = [.int i,.int j] /\ Q (.int (if j < i then j else i)) H):=by
 intro pins s σ H xs us Q I r h
 obtain ⟨i,j,rfl,q⟩:=h
 obtain ⟨u,w',rfl,⟨t,rfl⟩,⟨t',rfl⟩⟩:=Zo r
 refine min_two_ints (I.ok.hd hc) fun h' tk k=>⟨_,H,I.kept k,?_,q⟩
 by_cases hj:j < i
 ·rw [if_pos hj,if_pos hj]; exact ⟨_,rfl⟩
 ·rw [if_neg hj,if_neg hj]; exact ⟨_,rfl⟩
end
end L2
namespace L2
open PySem PySem.Spec PyProof.Rows
structure ObjM (h:Heap) (x dx C:Addr) (mA:Str -> Option Value):Prop where
 obj:h.get? x = some (PySem.W.instObj C dx)
 ns:h.Ns1 dx mA
 ne:dx ≠ x
theorem Zq {h:Heap} {dx:Addr} {mA:Str -> Option Value} (n:h.Ns1 dx mA):∃ od,h.get? dx = some od /\ ∀ name,PySem.W.lookIn name od = some (mA name):=by
 obtain ⟨o,es,ep,ho,hd,hk,_,hm⟩:=n
 refine ⟨o,ho,fun name=>?_⟩
 have e:=hm name
 unfold nsFind findBy at e
 rw [← Array.find?_toList] at e
 unfold PySem.W.lookIn
 rw [hd]
 dsimp only
 split
 ·rename_i y q
  rw [q] at e
  exact congrArg some e
 ·rename_i q
  rw [q] at e
  have a:es.toList.any (·.refKey) = false:=by
   rw [List.any_eq_false]
   intro y hy
   obtain ⟨z,t,hkey⟩:=hk y (Array.mem_toList_iff.mp hy)
   simp [DictEntry.refKey,hkey]
  have a':¬ es.toList.any (·.refKey) = true:=by rw [a]; exact Bool.false_ne_true
  rw [if_neg a']
  exact congrArg some e
theorem ObjM.look {h:Heap} {x dx C:Addr} {mA:Str -> Option Value} (I:ObjM h x dx C mA):∃ od,PySem.W.InstAt h x (PySem.W.instObj C dx) C (some od) /\ ∀ name,PySem.W.lookIn name od = some (mA name) :=
 let ⟨od,ho,hl⟩:=Zq I.ns
 ⟨od,⟨I.obj,rfl,rfl,ho⟩,hl⟩
theorem RelO.some_of {v:V} {o:Option Value} (r:RelO (some v) o):∃ u,o = some u /\ RelV v u:=by
 cases o with
 | none=>exact (show False from r).elim
 | some u=>exact ⟨u,rfl,r⟩
section
variable {P:Program} {w:World} {H H':Hp} {h h':Heap} {a C dx:Addr} {fs fs':List (Str × V)}
theorem Wg (hok:HOk P w H h) (e:H a = some (.ins C dx fs)):∃ mA,ObjM h a dx C mA /\ (∀ f,RelO (fs.lookup f) (mA f)) /\ PySem.Within mA (fs.map (·.1)) /\ fs.length <= 1000 /\ H dx = some (.own a):=by
 obtain ⟨d,z,ne,ob,mA,n,r,q⟩:=(show z7 P w H h a (.ins C dx fs) from hok a _ e)
 exact ⟨mA,⟨ob,n,ne⟩,r,q,z,d⟩
end
structure Cls (K:FG7) (C:Addr):Prop where
 pg:PySem.W.plainGet K C Str.empty = true
 hd:PySem.W.hasDictIn K C = true
 po:PySem.W.plainOver K C = true
 sa:PySem.W.findIn K (.ref C) "__setattr__" = some (some (.builtin "object.__setattr__"))
theorem Cls.get {K:FG7} {C:Addr} (c:Cls K C) (f:Str):PySem.W.plainGet K C f = true:=c.pg
section
variable {X:Cx} {pins:List (Addr × Obj)} {σ:St} {H:Hp} {s:Shared} {A:Around} {E:VS7} {Q:VS7} {c:Value} {b:Bool}
inductive TyOf (K:FG7) (H:Hp):V -> Value -> Prop where
 | non:TyOf K H .non (.type "NoneType")
 | bl (x:Bool):TyOf K H (.bl x) (.type "bool")
 | int (i:Int):TyOf K H (.int i) (.type "int")
 | str (x:Str):TyOf K H (.str x) (.type "str")
 | flt (x:UInt64):TyOf K H (.flt x) (.type "float")
 | lst {a:Addr} {xs:List V} (e:H a = some (.lst xs)):TyOf K H (.ref a) (.type "list")
 | frz {a:Addr} {o:Obj} {xs:List V} (e:H a = some (.frz o (.lst xs))):TyOf K H (.ref a) (.type "list")
 | tup {a:Addr} {xs:List V} (e:H a = some (.tup xs)):TyOf K H (.ref a) (.type "tuple")
 | dK {a:Addr} {kvs:List (Key × V)} (e:H a = some (.dK kvs)):TyOf K H (.ref a) (.type "dict")
 | dT {a:Addr} {kvs:List (List Key × V)} (e:H a = some (.dT kvs)):TyOf K H (.ref a) (.type "dict")
 | ins {a C dx:Addr} {fs:List (Str × V)} (e:H a = some (.ins C dx fs)) (cl:Cls K C) (ha:PySem.W.findIn K (.ref C) "__class__" = some (some (.builtin "object.__class__")))
   (hn:PySem.W.specialIn K (.builtin "object.__class__") "__get__" = some (some (.builtin "getset_descriptor.__get__"))) (htk:PySem.W.takesIn K (.builtin "object.__class__") = some true)
   (hm:PySem.W.mroIn K C (.type "object") = some true):TyOf K H (.ref a) (.ref C)
theorem xI {x:V} {u t:Value} (I:Inv X pins σ H s) (rx:RelV x u) (ty:TyOf X.K H x t) (e:PySem.W.kitOne X.K t c = some b) (h:∀ tk,Q (.bool b) { s with toks:=tk }) :
  wpAny (model X.prog X.w) A (call (.builtin "isinstance") [u,c]) Q E s:=by
 cases ty with
 | non=>cases (show u = Value.none from rx); exact PySem.W.kia_one PySem.W.kitx_none I.kIn True.intro e (fun z=>nomatch z) h
 | bl y=>cases (show u = Value.bool y from rx); exact PySem.W.kia_one PySem.W.kitx_bool I.kIn True.intro e (fun z=>nomatch z) h
 | int i=>obtain ⟨t,q⟩:=(show ∃ t,u = Value.int i t from rx); cases q; exact PySem.W.kia_one PySem.W.kitx_int I.kIn True.intro e (fun z=>nomatch z) h
 | str y=>obtain ⟨t,q⟩:=(show ∃ t,u = Value.str y t from rx); cases q; exact PySem.W.kia_one PySem.W.kitx_str I.kIn True.intro e (fun z=>nomatch z) h
 | flt y=>obtain ⟨t,q⟩:=(show ∃ t,u = Value.float y t from rx); cases q; exact PySem.W.kia_one PySem.W.kitx_float I.kIn True.intro e (fun z=>nomatch z) h
 | @lst a xs ea =>
  cases (show u = Value.ref a from rx)
  obtain ⟨_,_,n,_,h1⟩:=(show z7 X.prog X.w H s.heap a (.lst xs) from I.hok a _ ea)
  exact PySem.W.kia_one PySem.W.kitx_list I.kIn ⟨_,h1,rfl⟩ e (fun z=>nomatch z) h
 | @frz a ob xs ea =>
  cases (show u = Value.ref a from rx)
  obtain ⟨_,_,_,n,_,h1⟩:=(show z7 X.prog X.w H s.heap a (.frz ob (.lst xs)) from I.hok a _ ea)
  exact PySem.W.kia_one PySem.W.kitx_list I.kIn ⟨_,h1,rfl⟩ e (fun z=>nomatch z) h
 | @tup a xs ea =>
  cases (show u = Value.ref a from rx)
  obtain ⟨_,_,_,p⟩:=(show z7 X.prog X.w H s.heap a (.tup xs) from I.hok a _ ea)
  obtain ⟨o,h1,h2,_⟩:=p
  exact PySem.W.kia_one PySem.W.kitx_tuple I.kIn ⟨o,h1,h2⟩ e (fun z=>nomatch z) h
 | @dK a kvs ea =>
  cases (show u = Value.ref a from rx)
  obtain ⟨_,_,vs,_,p⟩:=(show z7 X.prog X.w H s.heap a (.dK kvs) from I.hok a _ ea)
  obtain ⟨o,es,ep,h1,h2,_⟩:=p
  exact PySem.W.kia_one PySem.W.kitx_dict I.kIn ⟨o,h1,h2.1⟩ e (fun z=>nomatch z) h
 | @dT a kvs ea =>
  cases (show u = Value.ref a from rx)
  obtain ⟨_,_,xs,_,o,es,ep,h1,h2,_⟩:=(show z7 X.prog X.w H s.heap a (.dT kvs) from I.hok a _ ea)
  exact PySem.W.kia_one PySem.W.kitx_dict I.kIn ⟨o,h1,h2.1⟩ e (fun z=>nomatch z) h
 | @ins a C dx fs ea cl ha hn htk hm =>
  cases (show u = Value.ref a from rx)
  obtain ⟨mA,O,_⟩:=Wg I.hok ea
  obtain ⟨od,J,_⟩:=O.look
  exact PySem.W.kia_one (PySem.W.kitx_own (cl.get _) cl.hd ha hn htk hm) I.kIn J e (fun z=>nomatch z) h
end
end L2
namespace L2
open PySem PySem.Spec PyProof.Rows
structure Room (k:Nat) (A:Around):Prop where
 hd:A.handled = none
 dp:A.depth + 3 * k + 5 < recursionLimit
 un:A.units + 16 * k + 200 < cLine
 gd:A.guards = some []
theorem Room.mono {j k:Nat} {A:Around} (r:Room k A) (h:j <= k):Room j A:=⟨r.hd,by have:=r.dp; omega,by have:=r.un; omega,r.gd⟩
theorem Room.deeper {k:Nat} {A:Around} (r:Room (k + 1) A) (env:Env):Room k (A.deeper env) :=
 ⟨r.hd,by have:=r.dp; show A.depth + 1 + 3 * k + 5 < _; omega,by have:=r.un; show A.units + 3 + 16 * k + 200 < _; omega,r.gd⟩
theorem Room.depth {k:Nat} {A:Around} (r:Room k A):A.depth < recursionLimit:=by have:=r.dp; omega
theorem Room.units0 {k:Nat} {A:Around} (r:Room k A):A.units < cLine:=by have:=r.un; omega
def tNil:TA:=fun _ H Q=>Q [] H
def Zr (ta:TE) (tr:TA):TA:=fun σ H Q=>ta σ H fun x H1=>tr σ H1 fun xs H2=>Q (x :: xs) H2
section
variable {X:Cx} {e:Expr} {es:List Expr} {te:TE} {t:TA} {pos:Pos}
theorem zb:PA X [] tNil:=fun _ _ _ _ H Q I h=>Calls.spliced_nil ⟨[],H,I,.nil,h⟩
theorem za (ha:PE X e te) (hr:PA X es t) (hs:starEach (e :: es) X.env = (false,eval e X.env) :: starEach es X.env:=by rfl):PA X (e :: es) (Zr te t):=by
 intro pos pins s σ H Q I h
 rw [hs]
 show wpAny _ _ (spliced ((false,eval e X.env) :: backTo pos (starEach es X.env))) _ _ s
 refine Calls.spliced_cons (thn (ha pins s σ H _ I h) fun u s1 ⟨x,H1,I1,r1,q1⟩=>?_)
 exact thn (hr pos pins s1 σ H1 _ I1 q1) fun us s2 ⟨xs,H2,I2,r2,q2⟩=>⟨x :: xs,H2,I2,.cons r1 r2,q2⟩
def tTup (t:TA):TE:=fun σ H Q=>t σ H fun xs H1=>xs.length <= sizeLine /\ ∀ p,H1 p = none -> Q (.ref p) (upd H1 p (.tup xs))
def tLst (t:TA):TE:=fun σ H Q=>t σ H fun xs H1=>xs.length <= sizeLine /\ ∀ p,H1 p = none -> Q (.ref p) (upd H1 p (.lst xs))
theorem zO {x1} (h:PA X es t):PE X (.Tuple es x1 pos) (tTup t):=by
 intro pins s σ H Q I hq
 refine wpAny_Tuple_spliced (thn (h pos pins s σ H _ I hq) fun us s1 ⟨xs,H1,I1,r,z,q⟩=>⟨by rw [← r.length]; exact z,?_⟩)
 have hf:H1 s1.heap.objs.size = none:=I1.hok.fresh (Nat.le_refl _)
 refine ⟨.ref s1.heap.objs.size,upd H1 s1.heap.objs.size (.tup xs),I1.laid (t':=s1.toks) (fun b u e=>Heap.get?_push_of_some _ e) (Nat.le_refl _) ?_,rfl,q _ hf⟩
 exact ⟨z,us,r,⟨_,Heap.get?_push_size _ rfl,rfl,_,rfl⟩⟩
theorem y9 (h:PA X es t):PE X (.List es pos) (tLst t):=by
 intro pins s σ H Q I hq
 refine wpAny_List_spliced (thn (h pos pins s σ H _ I hq) fun us s1 ⟨xs,H1,I1,r,z,q⟩=>⟨by rw [← r.length]; exact z,?_⟩)
 have hf:H1 s1.heap.objs.size = none:=I1.hok.fresh (Nat.le_refl _)
 refine ⟨.ref s1.heap.objs.size,upd H1 s1.heap.objs.size (.lst xs),I1.laid (t':=s1.toks) (fun b u e=>Heap.get?_push_of_some _ e) (Nat.le_refl _) ?_,rfl,q _ hf⟩
 exact ⟨z,us,0,r,Heap.get?_push_size _ rfl⟩
end
abbrev Sp:=List V -> Hp -> VK -> XK -> Prop
abbrev CXT:=List Env -> Hp -> Shared -> XK -> Value -> Shared -> Prop
structure Env0 (P:Program) (w:World) (K:FG7) (mg:Str -> Option Value) (base:Heap) (A:Around) (outer:List Env) (s:Shared) (H:Hp):Prop where
 frames:A.frames = some outer
 mod:Mod K mg base
 bs:∀ b o,base.get? b = some o -> s.heap.get? b = some o /\ H b = none
 bsz:base.objs.size <= s.heap.objs.size
 funs:s.heap.FunFrames base outer
 frf:∀ b ∈ frs outer,H b = none
 hok:HOk P w H s.heap
 bare:AllBare s.gens
def CE (outer:List Env) (P:Program) (w:World) (H:Hp) (s:Shared) (Q:VK) (u:Value) (s':Shared):Prop :=
 ∃ v H',s'.os = s.os /\ AllBare s'.gens /\ Un (frs outer) [] H H' s.heap s'.heap /\ HOk P w H' s'.heap /\ RelV v u /\ Q v H'
def CR (CX:CXT) (outer:List Env) (P:Program) (w:World) (H:Hp) (s:Shared) (Q:VK) (E:XK) (r:Result) (s':Shared):Prop :=
 match r with
 | .ok (.ret u)=>CE outer P w H s Q u s'
 | .ok _=>False
 | .error e=>CX outer H s E e s'
structure FnOk (P:Program) (w:World) (K:FG7) (mg:Str -> Option Value) (base:Heap) (CX:CXT) (k:Nat) (f:Addr) (fd:FuncData) (ps:List Str) (sp:Sp):Prop where
 len:∀ vs H Q E,sp vs H Q E -> vs.length = ps.length
 run:∀ (A:Around) (outer:List Env) (s:Shared) (H:Hp) (args:Args) (us:List Value) (vs:List V) (Q:VK) (E:XK),Room k A -> Env0 P w K mg base A outer s H -> BindsTo s fd args (ps.zip us) -> Vals vs us -> sp vs H Q E →
  codeAny (model P w) A (.call (.ref f) args) (CR CX outer P w H s Q E) s
theorem FnOk.mono {P:Program} {w:World} {K:FG7} {mg:Str -> Option Value} {base:Heap} {CX:CXT} {j k:Nat} {f:Addr} {fd:FuncData} {ps:List Str} {sp:Sp} (F:FnOk P w K mg base CX j f fd ps sp) (h:j <= k) :
  FnOk P w K mg base CX k f fd ps sp:=⟨F.len,fun A outer s H args us vs Q E hr=>F.run A outer s H args us vs Q E (hr.mono h)⟩
section
variable {X:Cx} {pins:List (Addr × Obj)} {σ:St} {H:Hp} {s s':Shared}
theorem Inv.env0 (I:Inv X pins σ H s):Env0 X.prog X.w X.K X.mg X.base X.A X.stack s H :=
 ⟨I.ok.frames,I.ok.mod,I.bs,Nat.le_trans I.ok.bsz I.sz,I.stack,I.stkFree,I.hok,I.bare⟩
theorem Inv.after {Q:VK} {u:Value} (I:Inv X pins σ H s) (h:CE X.stack X.prog X.w H s Q u s'):EP X pins σ Q u s':=by
 obtain ⟨v,H',os,bare,un,hok,r,q⟩:=h
 obtain ⟨hh,g,d,t,os'⟩:=s'
 obtain rfl:os' = s.os:=os
 exact ⟨v,H',I.call (h':=hh) (g':=g) (d':=d) (t':=t) (ch:=[]) un hok bare (fun b z=>absurd z (by simp)),r,q⟩
end
def Vc (sp:Sp) (dvs:List V) (E:XK) (t:TA):TE:=fun σ H Q=>t σ H fun vs H1=>sp (vs ++ dvs) H1 Q E
def rL (K:FG7) (fd:FuncData) (ps:List Str) (ds:List Value):Prop :=
 ∀ (s:Shared) (us:List Value),K.In s.heap -> (us ++ ds).length = ps.length -> BindsTo s fd ⟨us,[]⟩ (ps.zip (us ++ ds))
theorem rL.all {K:FG7} {fd:FuncData} {ps:List Str} (h:∀ us:List Value,us.length = ps.length -> bindArgs fd ⟨us,[]⟩ = pure (ps.zip us)):rL K fd ps []:=fun s us _ hl=>by
 rw [List.append_nil] at hl ⊢
 exact .of_eq (h us hl)
def Zs (CX:CXT) (X:Cx) (E:XK):Prop:=∀ (pins:List (Addr × Obj)) (σ:St) (H:Hp) (s:Shared) (e:Value) (s':Shared),Inv X pins σ H s -> CX X.stack H s E e s' -> X.xe e s'
section
variable {X:Cx} {CX:CXT} {k:Nat} {f C:Addr} {fd:FuncData} {ps:List Str} {sp:Sp} {dvs:List V} {ds:List Value} {E:XK} {x m:Str} {p pos apos:Pos} {e o:Expr} {es:List Expr} {ta:TE} {t:TA}
theorem Vd {pins:List (Addr × Obj)} {σ:St} {H:Hp} {s:Shared} {Q:VK} {us:List Value} {vs:List V} (F:FnOk X.prog X.w X.K X.mg X.base CX k f fd ps sp) (hr:Room k X.A) (hb:rL X.K fd ps ds) (hd:Vals dvs ds) (hx:Zs CX X E)
  (I:Inv X pins σ H s) (r:Vals vs us) (h:sp (vs ++ dvs) H Q E):wpAny (model X.prog X.w) X.A (call (.ref f) us) (EP X pins σ Q) X.xe s:=by
 have r2:Vals (vs ++ dvs) (us ++ ds):=r.append hd
 have hl:(us ++ ds).length = ps.length:=by rw [← r2.length]; exact F.len _ _ _ _ h
 refine wpAny_call (codeAny_mono (F.run X.A X.stack s H ⟨us,[]⟩ (us ++ ds) (vs ++ dvs) Q E hr I.env0 (hb s us I.kIn hl) r2 h) fun r s' hq=>?_)
 cases r with
 | error e=>exact hx pins σ H s e s' I hq
 | ok fl =>
  cases fl with
  | ret u=>exact I.after hq
  | next=>exact False.elim hq
  | brk=>exact False.elim hq
  | cont=>exact False.elim hq
theorem Wh (F:FnOk X.prog X.w X.K X.mg X.base CX k f fd ps sp) (hr:Room k X.A) (hg:Gl X x) (hm:X.mg x = some (.ref f)) (hk:PySem.W.keepIn X.K (.ref f) = true) (hb:rL X.K fd ps ds) (hd:Vals dvs ds) (hx:Zs CX X E)
  (ha:PA X (e :: es) t) (hdb:(x == ("__debug__":Str)) = false:=by decide) (he:starEach (e :: es) X.env = (false,eval e X.env) :: starEach es X.env:=by rfl) (hpl:(backTo pos (starEach es X.env)).any (·.1) = false:=by rfl) :
  PE X (.Call (.Name x p) (e :: es) [] pos) (Vc sp dvs E t):=by
 intro pins s σ H Q I h
 refine wpAny_Call_Name_kw (Zc I hg hm ?_ hdb)
 refine PySem.W.callWith_K (h₀:=X.base) I.ok.mod.kin hk (thn (ha pos pins s σ H _ I h) fun us s1 ⟨vs,H1,I1,r,q⟩=>⟨I1.kIn,?_⟩) he hpl
 exact Vd F hr hb hd hx I1 r q
end
structure FnScope (N P:List Str) (sc:Scope):Prop where
 kind:sc.kind = .function
 co:sc.isCoroutine = false
 gen:sc.isGenerator = false
 nd:N.Nodup
 pre:N.take P.length = P
 par:∀ x ∈ P,sc.names.lookup x = some .local \/ sc.names.lookup x = some .cell
 nofree:∀ y ∈ sc.names,y.2 ≠ .free
theorem t7 {kindOf:Str -> Option NameKind} {x:Str}:∀ {binds:List (Str × Value)} {m:Str -> Option Value},(∀ v,(x,v) ∉ binds) -> bindL kindOf binds m x = m x
 | [],_,_=>rfl
 | (n,v) :: r,m,h=>by
  unfold bindL
  rw [t7 fun w hw=>h w (List.mem_cons_of_mem _ hw)]
  split
  ·have:x ≠ n:=by rintro rfl; exact h v List.mem_cons_self
   simp [this]
  ·rfl
theorem t8 {kindOf:Str -> Option NameKind} {x:Str}:∀ {binds:List (Str × Value)} {m:Str -> Option Value},(∀ v,(x,v) ∉ binds) -> bindC kindOf binds m x = m x
 | [],_,_=>rfl
 | (n,v) :: r,m,h=>by
  unfold bindC
  rw [t8 fun w hw=>h w (List.mem_cons_of_mem _ hw)]
  split
  ·rfl
  ·have:x ≠ n:=by rintro rfl; exact h v List.mem_cons_self
   simp [this]
theorem t9 {kindOf:Str -> Option NameKind} {x:Str} {v:Value}:∀ {P:List Str} {vs:List Value} {i:Nat} {m:Str -> Option Value},P.Nodup -> P[i]? = some x -> vs[i]? = some v -> kindOf x = some .local →
  bindL kindOf (P.zip vs) m x = some v
 | [],_,_,_,_,h,_,_=>by simp at h
 | _ :: _,[],_,_,_,_,h,_=>by simp at h
 | p :: P,w :: vs,0,m,nd,h1,h2,hk=>by
  simp at h1 h2; subst h1; subst h2
  show bindL kindOf ((p,w) :: P.zip vs) m p = _
  unfold bindL
  rw [t7 fun v hv=>(List.nodup_cons.mp nd).1 (List.of_mem_zip hv).1,if_pos hk]
  simp
 | p :: P,w :: vs,i + 1,m,nd,h1,h2,hk=>by
  show bindL kindOf ((p,w) :: P.zip vs) m x = _
  unfold bindL
  exact t9 (i:=i) (List.nodup_cons.mp nd).2 (by simpa using h1) (by simpa using h2) hk
theorem sd {kindOf:Str -> Option NameKind} {x:Str} {v:Value}:∀ {P:List Str} {vs:List Value} {i:Nat} {m:Str -> Option Value},P.Nodup -> P[i]? = some x -> vs[i]? = some v -> kindOf x ≠ some .local →
  bindC kindOf (P.zip vs) m x = some v
 | [],_,_,_,_,h,_,_=>by simp at h
 | _ :: _,[],_,_,_,_,h,_=>by simp at h
 | p :: P,w :: vs,0,m,nd,h1,h2,hk=>by
  simp at h1 h2; subst h1; subst h2
  show bindC kindOf ((p,w) :: P.zip vs) m p = _
  unfold bindC
  rw [t8 fun v hv=>(List.nodup_cons.mp nd).1 (List.of_mem_zip hv).1,if_neg hk]
  simp
 | p :: P,w :: vs,i + 1,m,nd,h1,h2,hk=>by
  show bindC kindOf ((p,w) :: P.zip vs) m x = _
  unfold bindC
  exact sd (i:=i) (List.nodup_cons.mp nd).2 (by simpa using h1) (by simpa using h2) hk
def se (N:List Str) (vs:List V):St:=vs.map some ++ List.replicate (N.length - vs.length) none
def cxOf (CX:CXT) (P:Program) (w:World) (K:FG7) (mg:Str -> Option Value) (base:Heap) (N:List Str) (qual:Str) (scope:Scope) (f:Addr) (cd:Value) (A:Around) (outer:List Env) (s:Shared) (H:Hp) (E:XK):Cx where
 prog:=P
 w:=w
 K:=K
 mg:=mg
 base:=base
 A:=A.deeper (envOfC qual scope s.heap.objs.size f cd)
 N:=N
 s₀:=s
 H₀:=H
 env:=envOfC qual scope s.heap.objs.size f cd
 outer:=outer
 stack:=envOfC qual scope s.heap.objs.size f cd :: outer
 ex:=[]
 calm:=true
 fn:=fun _=>true
 pn:=[]
 xe:=fun e s'=>wpAny (model P w) (A.deeper (envOfC qual scope s.heap.objs.size f cd)) (leaving (envOfC qual scope s.heap.objs.size f cd) e) (fun _ s''=>CX outer H s E e s'') (fun e' s''=>CX outer H s E e' s'') s'
theorem qM {sc:Scope} {n:Nat} {x:Str} (h:sc.names.lookup x = some .cell):∃ c,(cellsFrom n sc.names []).lookup x = some c:=by
 have q:=PySem.W.cellsFrom_some sc.names n [] (.inl h)
 exact Option.isSome_iff_exists.mp q
theorem Zt {CX:CXT} {P:Program} {w:World} {K:FG7} {mg:Str -> Option Value} {base:Heap} {N ps:List Str} {qual:Str} {scope:Scope} {f:Addr} {cd:Value} {A:Around} {outer:List Env} {s s1:Shared} {H:Hp} {E:XK} {us:List Value} {vs:List V}
  (S:FnScope N ps scope) (hd:A.handled = none) (e0:Env0 P w K mg base A outer s H) (hl:vs.length = ps.length) (r:Vals vs us)
  (x:InCallC s s.heap.objs.size (bindL (envOfC qual scope s.heap.objs.size f cd).kindOf (ps.zip us) fun _=>none) (cellsFrom (s.heap.objs.size + 1) scope.names []) (bindC (envOfC qual scope s.heap.objs.size f cd).kindOf (ps.zip us) fun _=>none) s1) :
  Inv (cxOf CX P w K mg base N qual scope f cd A outer s H E) [] (se N vs) H s1:=by
 have hpl:ps.length <= N.length:=by have:=congrArg List.length S.pre; rw [List.length_take] at this; omega
 obtain ⟨h1,tk,rfl,hk⟩:=x.done
 have noA:∀ b:Addr,b ∉ (cxOf CX P w K mg base N qual scope f cd A outer s H E).ex:=fun b z=>absurd (show b ∈ ([]:List Addr) from z) (by simp)
 refine ⟨⟨e0.mod,S.kind,rfl,rfl,Nat.le_refl _,fun y z c h1 h2=>?_,fun y hy=>?_,fun y c _ h=>?_,fun _=>hd,Around.frames_deeper e0.frames,.inr ⟨rfl,rfl⟩,fun b z=>absurd z (noA b),e0.bs,e0.bsz,fun b _ _=>noA b,fun b z=>absurd z (noA b),e0.funs,e0.frf⟩,
  rfl,e0.bare,Un.kept hk,⟨_,x.toInCall.ns,fun i y v h1 h2 h3=>?_⟩,fun y c h=>⟨_,x.cell y c h⟩,e0.hok.fresh (Nat.le_refl _),fun y c h=>?_,fun p hp=>absurd (show p ∈ ([]:List (Addr × Obj)) from hp) (by simp),e0.hok.kept hk,?_⟩
 ·exact name_of_addr x.apart (PySem.mem_of_lookup h1) (PySem.mem_of_lookup h2)
 ·have hy:scope.names.lookup y = some .cell \/ scope.names.lookup y = some .free:=hy
  rcases hy with hy | hy
  ·exact qM hy
  ·exact absurd rfl (S.nofree _ (PySem.mem_of_lookup hy))
 ·exact Nat.le_of_lt (x.above y c (PySem.mem_of_lookup h))
 ·have hi:i < vs.length:=by
   unfold se at h2
   by_cases hi:i < vs.length
   ·exact hi
   ·rw [List.getElem?_append_right (by simpa using hi)] at h2
    rw [List.getElem?_replicate] at h2
    split at h2 <;> cases h2
  have ha:vs[i]? = some v:=by
   unfold se at h2
   rw [List.getElem?_append_left (by simpa using hi),List.getElem?_map] at h2
   cases e:vs[i]? with
   | none=>rw [e] at h2; cases h2
   | some a=>rw [e] at h2; cases h2; rfl
  obtain ⟨u,hu,rv⟩:=r.get ha
  have hp:ps[i]? = some y:=by
   rw [← S.pre,List.getElem?_take_of_lt (by omega)]; exact h1
  have ndP:ps.Nodup:=by rw [← S.pre]; exact S.nd.sublist (List.take_sublist _ _)
  refine ⟨u,rv,?_⟩
  rcases S.par y (List.mem_of_getElem? hp) with k | k
  ·exact .inl ⟨k,t9 ndP hp hu k⟩
  ·obtain ⟨c,e⟩:=qM (n:=s.heap.objs.size + 1) k
   refine .inr ⟨.inl k,c,e,?_⟩
   have q:=x.cell y c e
   rw [sd ndP hp hu (by show scope.names.lookup y ≠ _; rw [k]; decide)] at q
   exact q
 ·exact e0.hok.fresh (Nat.le_of_lt (x.above y c (PySem.mem_of_lookup h)))
 ·unfold se
  show _ = N.length
  rw [List.length_append,List.length_map,List.length_replicate]
  omega
theorem V7 {CX:CXT} {P:Program} {w:World} {K:FG7} {mg:Str -> Option Value} {base:Heap} {k:Nat} {f:Addr} {name qual:Str} {params:Arguments} {body:List Stmt} {scope:Scope} {dV kV doc pm cdv ct oc:Value} {an od:Option Addr}
  {osl:Array (Option Value)} {N ps:List Str} {sp:Sp} (lk:K.lookup f = some ⟨oc,od,.func (PySem.W.fnOf name qual params body scope dV kV doc pm an cdv ct),osl⟩) (hcd:PySem.W.codeIn K cdv qual = true) (S:FnScope N ps scope)
  (len:∀ vs H Q E,sp vs H Q E -> vs.length = ps.length)
  (hbody:∀ (A:Around) (outer:List Env) (s:Shared) (H:Hp) (vs:List V) (Q:VK) (E:XK),Room k (A.deeper (envOfC qual scope s.heap.objs.size f cdv)) -> sp vs H Q E →
   ∃ t,PSs (cxOf CX P w K mg base N qual scope f cdv A outer s H E) body t /\ t { nx:=fun _ H'=>Q .non H',rt:=Q } (se N vs) H) :
  FnOk P w K mg base CX (k + 1) f (PySem.W.fnOf name qual params body scope dV kV doc pm an cdv ct) ps sp:=by
 refine ⟨len,fun A outer s H args us vs Q E hr e0 hb r hsp=>?_⟩
 have hl:=len _ _ _ _ hsp
 have KX:K.In s.heap:=e0.mod.kin.keeps fun b o e=>(e0.bs b o e).1
 have lim:s.heap.NoLimit:=e0.mod.nolimit.keeps fun b o e=>(e0.bs b o e).1
 have hkind:∀ y ∈ ps.zip us,scope.names.lookup y.1 = some .local \/ (scope.names.lookup y.1 = some .cell /\ ((cellsFrom (s.heap.objs.size + 1) scope.names []).lookup y.1).isSome = true):=fun ⟨n,v⟩ hy=>by
  rcases S.par n (List.of_mem_zip hy).1 with q | q
  ·exact .inl q
  ·exact .inr ⟨q,PySem.W.cellsFrom_some _ _ _ (.inl q)⟩
 refine codeAny_call_function hr.depth (KX _ _ lk) rfl S.co S.gen rfl (PySem.W.codeRec_of KX hcd) (hb _ _ _ _ ?_)
 refine wpAny_newFunctionEnv_cells S.kind hkind fun env he s1 x=>?_
 subst he
 refine ⟨lim.keeps x.toInCall.keep,codeAny_func ?_⟩
 obtain ⟨t,ht,hq⟩:=hbody A outer s H vs Q E (hr.deeper _) hsp
 have I:Inv (cxOf CX P w K mg base N qual scope f cdv A outer s H E) [] (se N vs) H s1:=Zt S hr.hd e0 hl r x
 refine wpAny_mono (ht [] s1 (se N vs) H _ I hq) (fun fl s' hs=>?_) fun e s' hs=>hs
 have fin:∀ {σ':St} {H':Hp} {v:V} {u:Value},Inv (cxOf CX P w K mg base N qual scope f cdv A outer s H E) [] σ' H' s' -> RelV v u -> Q v H' -> CE outer P w H s Q u s' :=
  fun {σ' H' v u} J rv q=>⟨v,H',J.os,J.bare,J.base,J.hok,rv,q⟩
 cases fl with
 | ret u =>
  obtain ⟨v,σ',H',J,rv,q⟩:=hs
  exact fin J rv q
 | next =>
  obtain ⟨σ',H',J,q⟩:=hs
  exact fin (v:=V.non) (u:=Value.none) J rfl q
 | brk =>
  obtain ⟨_,_,_,q⟩:=hs
  exact False.elim q
 | cont =>
  obtain ⟨_,_,_,q⟩:=hs
  exact False.elim q
end L2
namespace L2
open PySem PySem.Spec PyProof.Rows
section
variable {X:Cx} {x:Str} {p pos:Pos} {e:Expr} {es:List Expr} {t:TA} {id T:String} {r:List V -> Hp -> VK -> Prop}
def tCB (r:List V -> Hp -> VK -> Prop) (t:TA):TE:=fun σ H Q=>t σ H fun vs H1=>r vs H1 Q
theorem zu (hc:wf X (.builtin id) r) (hg:Gl X x) (hm:X.mg x = none) (hv:bootBuiltins x = some (.builtin id)) (ha:PA X (e :: es) t) (hn:x ≠ "__name__":=by decide) (hdb:(x == ("__debug__":Str)) = false:=by decide)
  (he:starEach (e :: es) X.env = (false,eval e X.env) :: starEach es X.env:=by rfl) (hpl:(backTo pos (starEach es X.env)).any (·.1) = false:=by rfl):PE X (.Call (.Name x p) (e :: es) [] pos) (tCB r t):=by
 intro pins s σ H Q I h
 refine wpAny_Call_Name_kw (va I hg hm hv ?_ hn hdb)
 exact PyProof.Rows.callWith_builtin1 (thn (ha pos pins s σ H _ I h) fun us s1 ⟨vs,H1,I1,r1,q1⟩=>hc pins s1 σ H1 vs us Q I1 r1 q1) he hpl
theorem zy (hc:wf X (.type T) r) (hg:Gl X x) (hm:X.mg x = none) (hv:bootBuiltins x = some (.type T)) (ha:PA X (e :: es) t) (hn:x ≠ "__name__":=by decide) (hdb:(x == ("__debug__":Str)) = false:=by decide)
  (he:starEach (e :: es) X.env = (false,eval e X.env) :: starEach es X.env:=by rfl) (hpl:(backTo pos (starEach es X.env)).any (·.1) = false:=by rfl):PE X (.Call (.Name x p) (e :: es) [] pos) (tCB r t):=by
 intro pins s σ H Q I h
 refine wpAny_Call_Name_kw (va I hg hm hv ?_ hn hdb)
 exact PyProof.Rows.callWith_type1 (thn (ha pos pins s σ H _ I h) fun us s1 ⟨vs,H1,I1,r1,q1⟩=>hc pins s1 σ H1 vs us Q I1 r1 q1) he hpl
end
end L2
namespace HT
open PySem PyProof.Rows
end HT
namespace L2
open PySem PySem.Spec PyProof.Rows
section
variable {X:Cx} {e:Expr} {te:TE} {lo hi:Option Expr} {tl th:TO} {pos p2:Pos}
theorem Vals.nil_iff {xs:List V} {us:List Value} (r:Vals xs us):us = [] ↔ xs = []:=by
 cases r with
 | nil=>simp
 | cons _ _=>simp
end
end L2
namespace L2
open PySem PySem.Spec PyProof.Rows
def ixN (n:Nat) (i:Int):Option Nat:=if 0 <= i then (if i < n then some i.toNat else none) else if -(n:Int) <= i then some (i + n).toNat else none
def atI {α:Type} (xs:List α) (i:Int):Option α:=(ixN xs.length i).bind fun j=>xs[j]?
theorem Zu {n:Nat} {i:Int} {j:Nat} (h:ixN n i = some j):seqIndex? i n = some j /\ j < n /\ -(n:Int) <= i /\ i < n:=by
 unfold ixN at h
 by_cases h0:0 <= i
 ·rw [if_pos h0] at h
  by_cases h1:i < n
  ·rw [if_pos h1] at h
   have e:i.toNat = j:=Option.some.inj h
   exact ⟨by rw [seqIndex_of h0 h1,e],by omega,by omega,h1⟩
  ·rw [if_neg h1] at h; cases h
 ·rw [if_neg h0] at h
  by_cases h1:-(n:Int) <= i
  ·rw [if_pos h1] at h
   have e:(i + n).toNat = j:=Option.some.inj h
   exact ⟨by rw [seqIndex_neg (by omega) h1,e],by omega,h1,by omega⟩
  ·rw [if_neg h1] at h; cases h
theorem Zv {α:Type} {xs:List α} {i:Int} {v:α} (h:atI xs i = some v):∃ j,seqIndex? i xs.length = some j /\ xs[j]? = some v /\ j < xs.length /\ -(xs.length:Int) <= i /\ i < xs.length:=by
 unfold atI at h
 cases e:ixN xs.length i with
 | none=>rw [e] at h; cases h
 | some j =>
  rw [e] at h
  obtain ⟨h1,h2,h3,h4⟩:=Zu e
  exact ⟨j,h1,h,h2,h3,h4⟩
theorem uT {α:Type} {xs:List α} {j:Nat} {v:α} (h:xs[j]? = some v):atI xs (j:Int) = some v:=by
 have hj:j < xs.length:=(List.getElem?_eq_some_iff.mp h).1
 have e:ixN xs.length (j:Int) = some j:=by
  unfold ixN
  rw [if_pos (by omega),if_pos (by omega)]; simp
 unfold atI; rw [e]; exact h
def Wi (b:Expr):Prop:=∀ o i,subscripted b false o i = operate [o,i] (getItem o i)
def IxR (X:Cx) (r:R2):Prop :=
 ∀ (value slice:Expr) (pins:List (Addr × Obj)) (s:Shared) (σ:St) (H:Hp) (x y:V) (v u:Value) (Q:VK),Inv X pins σ H s -> RelV x v -> RelV y u -> r x y H Q →
  subscripted slice false v u = operate [v,u] (getItem v u) -> wpAny (model X.prog X.w) X.A (subscriptTail value slice v u) (EP X pins σ Q) X.xe s
def MtR (X:Cx) (id:String) (r:V -> List V -> Hp -> VK -> Prop):Prop :=
 ∀ (pins:List (Addr × Obj)) (s:Shared) (σ:St) (H:Hp) (x:V) (xs:List V) (v:Value) (us:List Value) (Q:VK),Inv X pins σ H s -> RelV x v -> Vals xs us -> r x xs H Q →
  wpAny (model X.prog X.w) X.A (call (.builtin id) (v :: us)) (EP X pins σ Q) X.xe s
section
variable {X:Cx} {a b:Expr} {ta tb:TE} {pos:Pos}
theorem zZ {r:R2} (hr:IxR X r) (ha:PE X a ta) (hb:PE X b tb) (hs:Wi b):PE X (.Subscript a b pos) (tOp r ta tb):=by
 intro pins s σ H Q I h
 exact Subscript_ (binT ha hb I h fun v u s2 x y H2 I2 rx ry q=>hr a b pins s2 σ H2 x y v u Q I2 rx ry q (hs _ _))
def rIxL (K:FG7):R2:=fun x y H Q=>∃ p xs i v,x = .ref p /\ y = .int i /\ SqL K H p xs /\ atI xs i = some v /\ Q v H
def rIxT (K:FG7):R2:=fun x y H Q=>∃ p xs i v,x = .ref p /\ y = .int i /\ SqT K H p xs /\ atI xs i = some v /\ Q v H
theorem z9:IxR X (rIxL X.K):=by
 intro value slice pins s σ H x y v u Q I rx ry h hs
 obtain ⟨p,xs,i,z,rfl,rfl,hq,he,q⟩:=h
 cases rx
 obtain ⟨t,rfl⟩:=ry
 obtain ⟨its,r,pl,hz⟩:=I.list hq
 obtain ⟨j,h1,h2,h3,h4,h5⟩:=Zv he
 obtain ⟨w,ew,rw'⟩:=r.get h2
 have hl:=r.length
 have hn:=tZ
 have fin:EP X pins σ Q w s:=⟨z,H,I,rw',q⟩
 by_cases h0:0 <= i
 ·have hj:i.toNat = j:=by
   rw [seqIndex_of h0 h5] at h1
   exact Option.some.inj h1
  exact item_listR pl.isList h0 (by omega) (by rw [hj]; simpa using ew) fin hs
 ·have hj:(i + (its.toArray.size:Int)).toNat = j:=by
   rw [seqIndex_neg (by omega) h4] at h1
   rw [List.size_toArray,← hl]
   exact Option.some.inj h1
  exact subscriptTail_builtinR (x:=w) pl.isList.typeIs slot_list_getitem.lookup
   (wpAny_getItem_list_neg (Q:=fun r s'=>r = w /\ EP X pins σ Q r s') pl.isList (by omega) (by rw [List.size_toArray] <;> omega) (by omega) (by rw [hj]; simpa using ew) ⟨rfl,fin⟩) hs
theorem yO:IxR X (rIxT X.K):=by
 intro value slice pins s σ H x y v u Q I rx ry h hs
 obtain ⟨p,xs,i,z,rfl,rfl,hq,he,q⟩:=h
 cases rx
 obtain ⟨t,rfl⟩:=ry
 obtain ⟨its,r,pl,hz⟩:=I.tuple hq
 obtain ⟨j,h1,h2,h3,h4,h5⟩:=Zv he
 obtain ⟨w,ew,rw'⟩:=r.get h2
 have hl:=r.length
 have hn:=tZ
 have fin:EP X pins σ Q w s:=⟨z,H,I,rw',q⟩
 exact subscriptTail_builtinR (x:=w) pl.typeIs slot_tuple_getitem.lookup
  (getItem_tuple (j:=j) (Q:=fun r s'=>r = w /\ EP X pins σ Q r s') pl (by omega) (by omega) (by rw [List.size_toArray,← hl]; exact h1) (by simpa using ew) ⟨rfl,fin⟩) hs
theorem jv (its:List Value) (n j:Nat) (u:Value):Obj.mapSeq (·.setIfInBounds j u) { cls:=.type "list",data:=.seq its.toArray n } = { cls:=.type "list",data:=.seq (its.set j u).toArray n }:=by
 simp [Obj.mapSeq]
theorem Inv.lst {pins:List (Addr × Obj)} {σ:St} {H:Hp} {s:Shared} {p:Addr} {xs:List V} (I:Inv X pins σ H s) (h:H p = some (.lst xs)) :
  ∃ (its:List Value) (n:Nat),Vals xs its /\ s.heap.get? p = some { cls:=.type "list",data:=.seq its.toArray n } /\ xs.length <= sizeLine:=by
 obtain ⟨z,its,n,r,e⟩:=I.hok p _ h
 exact ⟨its,n,r,e,z⟩
theorem Inv.lstUpd {pins:List (Addr × Obj)} {σ:St} {H:Hp} {s:Shared} {p:Addr} {xs ys:List V} {its its':List Value} {n n':Nat} {f:Obj -> Obj} (I:Inv X pins σ H s) (h:H p = some (.lst xs))
  (ho:s.heap.get? p = some { cls:=.type "list",data:=.seq its.toArray n }) (hf:f { cls:=.type "list",data:=.seq its.toArray n } = { cls:=.type "list",data:=.seq its'.toArray n' }) (r:Vals ys its') (hz:ys.length <= sizeLine) (t:Nat) :
  Inv X pins σ (upd H p (.lst ys)) { s with heap:=s.heap.update p f,toks:=t }:=by
 have e:(s.heap.update p f).get? p = some { cls:=.type "list",data:=.seq its'.toArray n' }:=by
  rw [Heap.get?_update_self f ho (by rw [hf] <;> rfl),hf]
 refine I.write (x:=p) (e:=p) (by rw [h]; trivial) (.inl rfl) (fun b u hb q=>(Heap.get?_update_other _ _ (Ne.symm hb)).trans q) ⟨_,e⟩ ?_
 exact ⟨hz,its',n',r,e⟩
def V8:V -> V -> V -> Hp -> (Hp -> Prop) -> Prop:=fun o i v H Q=>∃ p xs k j,o = .ref p /\ i = .int k /\ H p = some (.lst xs) /\ ixN xs.length k = some j /\ Q (upd H p (.lst (xs.set j v)))
theorem uU:PSet X V8:=by
 intro pins s σ H o i v ov iv u Q I ro ri rv h
 obtain ⟨p,xs,k,j,rfl,rfl,hp,hj,q⟩:=h
 cases ro
 obtain ⟨t,rfl⟩:=ri
 obtain ⟨its,n,r,ho,hz⟩:=I.lst hp
 obtain ⟨h1,h2,h3,h4⟩:=Zu hj
 have hl:=r.length
 have hn:=tZ
 have I':Inv X pins σ (upd H p (.lst (xs.set j v))) { s with heap:=s.heap.update p (Obj.mapSeq (·.setIfInBounds j u)) } :=
  I.lstUpd hp ho (jv its n j u) (r.set rv j) (by rw [List.length_set]; exact hz) s.toks
 by_cases h0:0 <= k
 ·have hk:k.toNat = j:=by
   rw [seqIndex_of h0 h4] at h1
   exact Option.some.inj h1
  exact PySem.W.ki_setAt ho h0 (by omega) (by rw [List.size_toArray,← hl]; exact h4) (by rw [hk]; exact ⟨_,I',q⟩)
 ·have hk:(k + (its.toArray.size:Int)).toNat = j:=by
   rw [seqIndex_neg (by omega) h3] at h1
   rw [List.size_toArray,← hl]
   exact Option.some.inj h1
  exact PySem.W.ki_setBack ho (by omega) (by rw [List.size_toArray,← hl]; exact h3) (by omega) (by rw [hk]; exact ⟨_,I',q⟩)
theorem zD:wf X (.builtin "len") (fun xs H Q=>∃ p ys,xs = [.ref p] /\ (SqL X.K H p ys \/ SqT X.K H p ys) /\ Q (.int ys.length) H):=by
 intro pins s σ H xs us Q I r h
 obtain ⟨p,ys,rfl,hq,q⟩:=h
 obtain ⟨u,rfl,rx⟩:=vH r
 cases rx
 have hn:=tZ
 rcases hq with hq | hq
 ·obtain ⟨its,r',pl,hz⟩:=I.list hq
  have hlen:=r'.length
  exact Calls.call_len_list pl.isList (by simp only [List.size_toArray] <;> omega) ⟨.int ys.length,H,I.tok _,⟨s.toks + 1,by rw [List.size_toArray,hlen]⟩,q⟩
 ·obtain ⟨its,r',pl,hz⟩:=I.tuple hq
  have hlen:=r'.length
  exact len_tuple pl (by simp only [List.size_toArray] <;> omega) ⟨.int ys.length,H,I.tok _,⟨s.toks + 1,by rw [List.size_toArray,hlen]⟩,q⟩
theorem sf:wf X (.type "list") (fun xs H Q=>∃ p ys,xs = [.ref p] /\ (SqL X.K H p ys \/ SqT X.K H p ys) /\ ∀ l,H l = none -> Q (.ref l) (upd H l (.lst ys))):=by
 intro pins s σ H xs us Q I r h
 obtain ⟨p,ys,rfl,hq,q⟩:=h
 obtain ⟨u,rfl,rx⟩:=vH r
 cases rx
 have fin:∀ (its:List Value),Vals ys its -> ys.length <= sizeLine -> ∀ (h':Heap) (c':Nat),(∀ b o',s.heap.get? b = some o' -> h'.get? b = some o') →
   h'.get? s.heap.objs.size = some { cls:=.type "list",dict:=none,data:=.seq its.toArray c',slots:=#[] } -> EP X pins σ Q (.ref s.heap.objs.size) { s with heap:=h' }:=fun its r' hz h' c' kp e =>
  ⟨.ref s.heap.objs.size,_,I.laid (t':=s.toks) kp (Nat.le_refl _) (show z7 X.prog X.w _ h' _ (.lst ys) from ⟨hz,its,c',r',e⟩),rfl,q _ (I.hok.fresh (Nat.le_refl _))⟩
 rcases hq with hq | hq
 ·obtain ⟨its,r',pl,hz⟩:=I.list hq
  have hlen:=r'.length
  obtain ⟨o,ho,hc,n,hd⟩:=pl.isList
  exact call_list_seq p (.inl rfl) ho hc hd (fun h' c' kp e=>fin its r' hz h' c' kp e) (by simp only [List.size_toArray] <;> omega)
 ·obtain ⟨its,r',pl,hz⟩:=I.tuple hq
  have hlen:=r'.length
  obtain ⟨o,ho,hc,n,hd⟩:=pl
  exact call_list_seq p (.inr rfl) ho hc hd (fun h' c' kp e=>fin its r' hz h' c' kp e) (by simp only [List.size_toArray] <;> omega)
theorem zn:wf X (.type "tuple") (fun xs H Q=>∃ p ys,xs = [.ref p] /\ ((SqL X.K H p ys /\ ∀ l,H l = none -> Q (.ref l) (upd H l (.tup ys))) \/ (SqT X.K H p ys /\ Q (.ref p) H))):=by
 intro pins s σ H xs us Q I r h
 obtain ⟨p,ys,rfl,h⟩:=h
 obtain ⟨u,rfl,rx⟩:=vH r
 cases rx
 rcases h with ⟨hq,q⟩ | ⟨hq,q⟩
 ·obtain ⟨its,r',pl,hz⟩:=I.list hq
  have hlen:=r'.length
  refine call_tuple_list pl.isList (fun h' kp=>?_) (by simp only [List.size_toArray] <;> omega)
  have I1:Inv X pins σ H { s with heap:=h' }:=I.kept (t':=s.toks) kp
  have I2:Inv X pins σ (upd H h'.objs.size (.tup ys)) { s with heap:=h'.push { cls:=.type "tuple",data:=.seq its.toArray } } :=
   I1.laid (t':=s.toks) (fun b o e=>Heap.get?_push_of_some _ e) (Nat.le_refl _) (show z7 X.prog X.w _ _ _ (.tup ys) from ⟨hz,its,r',IsTup.new _ _⟩)
  exact ⟨.ref h'.objs.size,_,I2,rfl,q _ (I1.hok.fresh (Nat.le_refl _))⟩
 ·obtain ⟨its,r',pl,hz⟩:=I.tuple hq
  exact call_tuple_same pl ⟨.ref p,H,I,rfl,q⟩
def tyV (K:FG7) (T:String) (x:V) (H:Hp):Prop:=match x with
 | .str _=>T = "str"
 | .int _=>T = "int"
 | .ref p=>(T = "list" /\ ∃ xs,SqL K H p xs) \/ (T = "tuple" /\ ∃ o,K.lookup p = some o /\ o.cls = .type "tuple" /\ o.dict = none) ∨
   (T = "dict" /\ ((∃ kvs,H p = some (.dK kvs)) \/ ∃ kvs,H p = some (.dT kvs))) \/ (T = "set" /\ ∃ S n,H p = some (.set S n))
 | _=>False
theorem Ve {pins:List (Addr × Obj)} {σ:St} {H:Hp} {s:Shared} {T:String} {x:V} {v:Value} (I:Inv X pins σ H s) (r:RelV x v) (ty:tyV X.K T x H) :
  s.TypeIs v T /\ ∀ a,v = .ref a -> ∃ ob,s.heap.get? a = some ob /\ ob.dict = none:=by
 cases x with
 | str z =>
  obtain ⟨t,rfl⟩:=r
  cases (show T = "str" from ty)
  exact ⟨typeIs_str s z t,fun _ e=>nomatch e⟩
 | int i =>
  obtain ⟨t,rfl⟩:=r
  cases (show T = "int" from ty)
  exact ⟨typeIs_int s i t,fun _ e=>nomatch e⟩
 | ref p =>
  cases r
  rcases ty with ⟨rfl,xs,hq⟩ | ⟨rfl,o,hk,hc,hd⟩ | ⟨rfl,hk⟩ | ⟨rfl,S,n,hk⟩
  ·obtain ⟨its,_,pl,_⟩:=I.list hq
   refine ⟨pl.isList.typeIs,fun a e=>?_⟩
   cases e
   obtain ⟨o,n,e,c,hd,_⟩:=pl
   exact ⟨o,e,hd⟩
  ·refine ⟨⟨o,I.kIn p o hk,hc⟩,fun a e=>?_⟩
   cases e
   exact ⟨o,I.kIn _ o hk,hd⟩
  ·have z:∃ o,s.heap.get? p = some o /\ o.ExactDict:=by
    rcases hk with ⟨kvs,hk⟩ | ⟨kvs,hk⟩
    ·obtain ⟨_,_,_,_,o,_,_,e,ex,_⟩:=I.hok p _ hk
     exact ⟨o,e,ex⟩
    ·obtain ⟨_,_,_,_,o,_,_,e,ex,_⟩:=I.hok p _ hk
     exact ⟨o,e,ex⟩
   obtain ⟨o,e,ex⟩:=z
   refine ⟨⟨o,e,ex.1⟩,fun a e2=>?_⟩
   cases e2
   exact ⟨o,e,ex.2.1⟩
  ·obtain ⟨o,_,_,_,e,ex,_⟩:=I.hok p _ hk
   refine ⟨⟨o,e,ex.1⟩,fun a e2=>?_⟩
   cases e2
   exact ⟨o,e,ex.2.1⟩
 | _=>exact False.elim ty
def tBM (K:FG7) (T:String) (r:V -> List V -> Hp -> VK -> Prop) (to:TE) (t:TA):TE:=fun σ H Q=>to σ H fun x H1=>tyV K T x H1 /\ t σ H1 fun xs H2=>r x xs H2 Q
variable {o e:Expr} {es:List Expr} {to:TE} {t:TA} {name:Str} {apos cpos:Pos} {T id:String} {r:V -> List V -> Hp -> VK -> Prop}
theorem uV (pa:PlainAttrs T) (slot:Slot T name id) (hty:typeOf (.builtin id) = pure (.type "method_descriptor")) (hm:MtR X id r) (ho:PE X o to) (ha:PA X (e :: es) t)
  (hbase:attributeBase o name X.env (eval o X.env) = eval o X.env:=by rfl)
  (hfew:((backTo cpos (starEach (e :: es) X.env)).all (fun x=>!x.1) && (backToKw cpos (keywordEach [] X.env)).all (fun x=>x.1.isSome)
   && decide ((e :: es).length + ([]:List Keyword).length + (if ([]:List Keyword).isEmpty then 0 else 1) < 30)) = true:=by rfl)
  (hline:(apos.endLine == cpos.line) = true:=by rfl) (hs:starEach (e :: es) X.env = (false,eval e X.env) :: starEach es X.env:=by rfl) (hplain:(backTo cpos (starEach es X.env)).any (·.1) = false:=by rfl) :
  PE X (.Call (.Attribute o name apos) (e :: es) [] cpos) (tBM X.K T r to t):=by
 intro pins s σ H Q I h
 refine wpAny_Call_method_late hbase hfew hline rfl (thn (ho pins s σ H _ I h) fun v s1 ⟨x,H1,I1,r1,ty,q1⟩=>?_)
 obtain ⟨h1,h2⟩:=Ve I1 r1 ty
 refine ⟨T,id,pa,slot,hty,h1,h2,?_⟩
 have hA:=ha cpos pins s1 σ H1 _ I1 q1
 rw [hs] at hA ⊢
 refine Calls.callWith_builtin (by show (false || (backTo cpos (starEach es X.env)).any (·.1)) = false; rw [hplain] <;> rfl) (Calls.evalArgs_plain ?_)
 exact thn hA fun us s2 ⟨vs,H2,I2,r2,q2⟩=>hm pins s2 σ H2 x vs v us Q I2 r1 r2 q2
end
end L2
namespace L2
open PySem PySem.Spec PyProof.Rows
def MtM (X:Cx) (id:String) (r:V -> List V -> Hp -> VK -> Prop):Prop :=
 ∀ (pins:List (Addr × Obj)) (s:Shared) (σ:St) (H:Hp) (x:V) (xs:List V) (v:Value) (us:List Value) (Q:VK),Inv X pins σ H s -> RelV x v -> Vals xs us -> r x xs H Q →
  wpAny (model X.prog X.w) X.A (call (.builtin id) (v :: us)) (EP X pins σ Q) X.xe s
theorem Vals.one:∀ {x:V} {us:List Value},Vals [x] us -> ∃ u,us = [u] /\ RelV x u
 | _,_,.cons r .nil=>⟨_,rfl,r⟩
theorem Vals.rep {xs:List V} {us:List Value} (h:Vals xs us):∀ k:Nat,Vals (List.replicate k xs).flatten (List.replicate k us).flatten
 | 0=>.nil
 | k + 1=>by
  rw [List.replicate_succ,List.replicate_succ,List.flatten_cons,List.flatten_cons]
  exact Vals.append h (Vals.rep h k)
theorem sg (its:List Value):∀ (k:Nat) (acc:List Value),
  List.foldl (fun x1 x2=>x1 ++ x2) acc.toArray (List.replicate k its.toArray) = (acc ++ (List.replicate k its).flatten).toArray
 | 0,acc=>by simp
 | k + 1,acc=>by
  have e:acc.toArray ++ its.toArray = (acc ++ its).toArray:=by simp
  have e2:(acc ++ its) ++ (List.replicate k its).flatten = acc ++ (List.replicate (k + 1) its).flatten:=by
   rw [List.replicate_succ,List.flatten_cons,List.append_assoc]
  rw [← e2,← sg its k (acc ++ its),← e,List.replicate_succ,List.foldl_cons]
section
variable {X:Cx} {pins:List (Addr × Obj)} {σ:St} {H:Hp} {s:Shared} {l b:Addr} {xs ys zs:List V}
theorem Inv.lset {its its':List Value} {n:Nat} {f:Array Value -> Array Value} {t':Nat} (I:Inv X pins σ H s) (hH:H l = some (.lst xs))
  (e:s.heap.get? l = some { cls:=.type "list",data:=.seq its.toArray n }) (hf:f its.toArray = its'.toArray) (hv:Vals ys its') (hz:ys.length <= sizeLine) :
  Inv X pins σ (upd H l (.lst ys)) { s with heap:=s.heap.update l (Obj.mapSeq f),toks:=t' }:=by
 have q:=PySem.IsL.update e f
 rw [hf] at q
 refine I.write (x:=l) (e:=l) (by rw [hH]; exact trivial) (.inl rfl) (fun b' u hb hu=>(Heap.get?_update_other s.heap (Obj.mapSeq f) (Ne.symm hb)).trans hu) ⟨_,q⟩ ?_
 exact ⟨hz,its',_,hv,q⟩
theorem Inv.lstM (I:Inv X pins σ H s) (hH:H l = some (.lst xs)):xs.length <= sizeLine /\ ∃ (its:List Value) (n:Nat),Vals xs its /\ xs.length = its.length /\ s.heap.get? l = some { cls:=.type "list",data:=.seq its.toArray n }:=by
 obtain ⟨z,its,n,r,e⟩:=I.hok l _ hH
 exact ⟨z,its,n,r,r.length,e⟩
theorem Y4 {n:Nat} (h:n <= sizeLine):Builtin.List.listTooLong n = false:=by
 unfold Builtin.List.listTooLong
 exact decide_eq_false (by omega)
end
section
variable {X:Cx}
def Wj:V -> List V -> Hp -> VK -> Prop:=fun x vs H Q=>∃ l xs y,x = .ref l /\ vs = [y] /\ H l = some (.lst xs) /\ xs.length < sizeLine /\ Q .non (upd H l (.lst (xs ++ [y])))
theorem xu:MtM X "list.append" Wj:=by
 intro pins s σ H x vs v us Q I rx rv h
 obtain ⟨l,xs,y,rfl,rfl,hH,hz,q⟩:=h
 cases rx
 obtain ⟨u,rfl,ru⟩:=rv.one
 obtain ⟨z,its,n,r,hl,e⟩:=I.lstM hH
 refine call_meets F.slot_list_append ⟨_,e,rfl⟩ F.entry_list_append (F.args_list_append_2 _ _) (PySem.list_append l its.toArray n u (by rw [List.size_toArray]; omega)) ⟨e,?_⟩
 refine ⟨.non,_,I.lset (its':=its ++ [u]) hH e (by simp) (r.append (.cons ru .nil)) ?_,rfl,q⟩
 rw [List.length_append,List.length_singleton]
 omega
def Wk:V -> List V -> Hp -> VK -> Prop:=fun x vs H Q=>∃ l b xs zs,x = .ref l /\ vs = [.ref b] /\ H l = some (.lst xs) /\ H b = some (.lst zs) /\ xs.length + zs.length <= sizeLine /\ Q .non (upd H l (.lst (xs ++ zs)))
theorem Zw:MtM X "list.extend" Wk:=by
 intro pins s σ H x vs v us Q I rx rv h
 obtain ⟨l,b,xs,zs,rfl,rfl,hH,hB,hz,q⟩:=h
 cases rx
 obtain ⟨u,rfl,ru⟩:=rv.one
 cases ru
 obtain ⟨z,its,n,r,hl,e⟩:=I.lstM hH
 obtain ⟨z2,its2,n2,r2,hl2,e2⟩:=I.lstM hB
 have hsz:its.toArray.size + its2.toArray.size <= sizeLine:=by rw [List.size_toArray,List.size_toArray]; omega
 have hlong:¬ (!its.toArray.isEmpty && Builtin.List.listTooLong (its.toArray.size + its2.toArray.size)) = true:=by
  rw [Y4 hsz,Bool.and_false]
  exact Bool.false_ne_true
 refine call_meets F.slot_list_extend ⟨_,e,rfl⟩ F.entry_list_extend (F.args_list_extend_2 _ _)
  (AutoSeq1.list_extend_list_list_0 l its.toArray n b its2.toArray n2 hlong (by rw [List.size_toArray]; omega) (by omega)) ⟨e,e2,?_⟩
 refine ⟨.non,_,I.lset (its':=its ++ its2) hH e (by simp) (r.append r2) ?_,rfl,q⟩
 rw [List.length_append]
 omega
theorem Zx {α:Type} (xs:List α) (k:Nat):(List.replicate k xs).flatten.length = k * xs.length:=by
 induction k with
 | zero=>simp
 | succ k ih=>rw [List.replicate_succ,List.flatten_cons,List.length_append,ih,Nat.succ_mul,Nat.add_comm]
end
end L2
namespace Att
open PySem PySem.W PySem.Calls PyProof.Rows
theorem vI {P:Params} {h:Heap}:∀ (ns:List Int) (vs:List Value),WellAll P h vs (ns.map WData.int) -> IntsAre vs ns:=by
 intro ns
 induction ns with
 | nil =>
  intro vs w
  rw [List.map_nil] at w
  cases w
  exact .nil
 | cons n ns ih =>
  intro vs w
  rw [List.map_cons] at w
  cases w with
  | cons a b =>
   cases a
   exact .cons _ _ (ih _ b)
theorem Zy {l:OpenLaw} {n:Nat} (hn:l.most = some n) {P:Params} {h:Heap} {args:List WData} {vals:List Value}
  (hpre:l.row.toRowW.claim.pre args = true) (hwl:WellAll P h vals args) :
  ∃ a vs ns,vals = [Value.ref a] /\ args = [WData.list (ns.map WData.int)] /\ h.get? a = some { cls:=.type "list",data:=.seq vs.toArray } /\ IntsAre vs ns /\ ns.length <= n:=by
 have hsh:WShape.hasAll [] args [.list .int] = true:=(pre_splitW hpre).1
 have hc:l.pre.holds [] { args:=args } = true:=(pre_splitW hpre).2
 obtain ⟨d,r,rfl,h1,h2⟩:=hasAllW_cons hsh
 obtain rfl:=hasAllW_nil h2
 obtain ⟨xs,rfl,h3⟩:=hasW_list h1
 obtain ⟨ns,rfl⟩:=items_int h3
 have hlen:ns.length <= n:=by
  unfold OpenLaw.pre at hc
  have h4:(WTm.not (.lt (.lit (.int (n:Int))) (.len (.arg 0)))).holds [] { args:=[.list (ns.map .int)] } = true:=by
   have h4:=(holds_andW hc).1
   rw [hn] at h4
   exact h4
  have h5:=condW_of h4 (w_not (w_lt w_lit (w_len_list (w_arg rfl))))
  rw [List.length_map] at h5
  refine Nat.le_of_not_lt fun q=>?_
  have q':(n:Int) < ((ns.length:Nat):Int):=by omega
  first
   | (rw [decide_eq_true q'] at h5; exact absurd h5 (by decide))
   | (simp at h5; omega)
 cases hwl with
 | cons w1 w2 =>
  cases w2
  cases w1 with
  | list ho hall=>exact ⟨_,_,ns,rfl,rfl,ho,vI ns _ hall,hlen⟩
theorem Zz (l:OpenLaw) (args:List WData):l.row.toRowW.claim.post args (.bool true) args = true :=
 postW_of (r:=l.row.toRowW) (X:=(true == true))
  (show WShape.has [] (.bool true) .bool = true by first | rfl | decide | simp [WShape.has,WShape.arms,WShape.armsAll])
  (show (WTm.eq .res (.lit (.bool true))).value [] { args:=args,res:=some (.bool true),after:=args } = some (.bool (true == true)) from w_eq_bool (w_res rfl) w_lit) rfl
theorem attach_call {l:OpenLaw} {n:Nat} {q:Program} {loose:List Str} {XP:(Str -> Option Value) -> Heap -> Prop} {YP:World -> Heap -> Prop} {d:DefRec}
  (hn:l.most = some n) (hdf:d.params.defaults = [])
  (call:∀ (w:World) (s₀ s₁:Shared) (mg mb:Str -> Option Value) (fa:Addr) (o:Obj) (pm cd doc:Value) (a:Addr) (vs:List Value) (ns:List Int),
   Ground q loose [] XP w s₀ mg mb s₁.heap -> YP w s₁.heap →
   s₁.heap.get? fa = some o -> o.data = .func (docDef d.name d.params d.body d.scope pm cd doc) -> s₁.heap.CodeRec cd d.name -> mg d.name = some (.ref fa) →
   s₁.heap.get? a = some { cls:=.type "list",data:=.seq vs.toArray } -> IntsAre vs ns -> ns.length <= n -> s₁.gens = #[] →
   codeAny (model l.prog w) callerA (.call (.ref fa) ⟨[.ref a],[]⟩) (fun r s'=>r = .ok (.ret (.bool true)) /\ OldK s₁.heap s'.heap /\ s'.os = s₁.os /\ AllBare s'.gens) s₁) :
  WalkO q loose XP YP l.row.toRowW d [] (fun f vs=>PySem.call f vs):=by
 intro w s₀ s₁ mg mb G Y fa o pm cd doc dV kV ho hd hcd hD hmg hg args vals as hpre hlay hrd hwl hlo
 obtain rfl:dV = .none:=Dflts.none hD hdf
 obtain rfl:kV = .none:=Dflts.noKw hD
 obtain ⟨a,vs,ns,rfl,rfl,hobj,hints,hlen⟩:=Zy hn hpre hwl
 refine enter_call (codeAny_mono (call w s₀ s₁ mg mb fa o pm cd doc a vs ns G Y ho (fd_plain hd) hcd hmg hobj hints hlen hg) fun r s' hq=>?_)
 obtain ⟨rfl,h2,h3,h4⟩:=hq
 exact ⟨.inl ⟨.bool true,.bool true,[],rfl,fun _=>rfl,.bool true,Zz l _,fun _=>⟨List.Pairwise.nil,fun _ hm=>(nomatch hm)⟩⟩,h2,h3,h4⟩
end Att
namespace L2
open PySem PySem.Spec PyProof.Rows
theorem vJ:∀ {vs:List Value} {ns:List Int},IntsAre vs ns -> Vals (ns.map V.int) vs
 | _,_,.nil=>.nil
 | _,_,.cons n t h=>.cons ⟨t,rfl⟩ (vJ h)
def Only (H:Hp):Prop:=∀ b,H b = none \/ ∃ o xs,H b = some (.frz o (.lst xs))
theorem Y5 {P:Program} {w:World} {K:FG7} {mg mb:Str -> Option Value} {CX:CXT} {k:Nat} {fa a:Addr} {fd:FuncData} {x:Str} {sp:Sp} {s₁:Shared} {vs:List Value} {ns:List Int}
  (KX:K.In s₁.heap) (hns:s₁.heap.Ns mainGlobals mg) (hb:s₁.heap.Ns builtinsNs mb) (hbb:∀ x:Str,x ≠ "__name__" -> mb x = bootBuiltins x) (hlim:s₁.heap.NoLimit) (hg:s₁.gens = #[])
  (ha:s₁.heap.get? a = some { cls:=.type "list",data:=.seq vs.toArray }) (hi:IntsAre vs ns) (hl:ns.length <= sizeLine) (hr:Room k callerA)
  (F:∀ base:Heap,K.In base -> base.Ns mainGlobals mg -> FnOk P w K mg base CX k fa fd [x] sp) (hbind:∀ (s:Shared) (u:Value),BindsTo s fd ⟨[u],[]⟩ [(x,u)])
  (hsp:∀ H:Hp,Only H -> SqL K H a (ns.map V.int) -> sp [.ref a] H (fun v _=>v = .bl true) fun _ _ _=>False)
  (hCX:∀ H e s',CX [] H s₁ (fun _ _ _=>False) e s' -> False) :
  codeAny (model P w) callerA (.call (.ref fa) ⟨[.ref a],[]⟩) (fun r s'=>r = .ok (.ret (.bool true)) /\ OldK s₁.heap s'.heap /\ s'.os = s₁.os /\ AllBare s'.gens) s₁:=by
 have rv:=vJ hi
 have lenV:=hi.length
 -- from an abstract heap in which nothing but the script may be tracked
 have core:∀ H:Hp,Only H -> SqL K H a (ns.map V.int) -> HOk P w H s₁.heap -> (∀ b,H b ≠ none -> b = a) -> (H a ≠ none -> K.lookup a = none) →
   codeAny (model P w) callerA (.call (.ref fa) ⟨[.ref a],[]⟩) (fun r s'=>r = .ok (.ret (.bool true)) /\ OldK s₁.heap s'.heap /\ s'.os = s₁.os /\ AllBare s'.gens) s₁:=by
  intro H hO hS hok hA hK
  have base_of:∀ {b:Addr} {o:Obj},s₁.heap.get? b = some o -> H b = none -> (hidT s₁.heap H).get? b = some o:=fun e n=>YZ e n
  have noA:∀ {b:Addr} {o:Obj} {es:Array DictEntry} {ep:Nat},s₁.heap.get? b = some o -> o.data = .dict es ep -> H b = none:=fun {b o es ep} e d=>by
   cases q:H b with
   | none=>rfl
   | some u =>
    have e':b = a:=hA b (by rw [q]; simp)
    subst e'
    rw [ha] at e; cases e
    have d':Data.seq vs.toArray _ = Data.dict es ep:=d
    cases d'
  have nsK:∀ {b:Addr} {m:Str -> Option Value},s₁.heap.Ns b m -> (hidT s₁.heap H).Ns b m:=fun {b m} ⟨o,es,ep,e,d,r⟩=>⟨o,es,ep,base_of e (noA e d),d,r⟩
  have hKb:K.In (hidT s₁.heap H):=fun b o e=>base_of (KX b o e) (by
   cases q:H b with
   | none=>rfl
   | some u =>
    have e':b = a:=hA b (by rw [q]; simp)
    subst e'
    rw [hK (by rw [q]; simp)] at e; cases e)
  have hM:Mod K mg (hidT s₁.heap H):=⟨hKb,nsK hns,⟨mb,nsK hb,hbb⟩,let ⟨mc,h1,h2⟩:=hlim; ⟨mc,nsK h1,h2⟩⟩
  have e0:Env0 P w K mg (hidT s₁.heap H) callerA [] s₁ H:=⟨rfl,hM,fun b o e=>Wb e,Nat.le_of_eq (Za _ _),trivial,fun b hb=>absurd (show b ∈ ([]:List Addr) from hb) (by simp),hok,.of_eq hg⟩
  refine codeAny_mono ((F _ hKb (nsK hns)).run callerA [] s₁ H ⟨[.ref a],[]⟩ [.ref a] [.ref a] _ _ hr e0 (hbind s₁ (.ref a)) (.cons rfl .nil) (hsp H hO hS)) fun r s' h=>?_
  cases r with
  | error e=>exact (hCX H e s' h).elim
  | ok fl =>
   cases fl with
   | next=>exact False.elim h
   | brk=>exact False.elim h
   | cont=>exact False.elim h
   | ret u =>
    obtain ⟨v,H',os,bare,un,hok',r',q⟩:=h
    have q':v = .bl true:=q
    subst q'
    obtain rfl:u = Value.bool true:=r'
    refine ⟨rfl,OldK.of_keep fun b o e=>?_,os,bare⟩
    cases q:H b with
    | none=>exact un.keep b o e q (by intro z; exact absurd (show b ∈ ([]:List Addr) from z) (by simp)) (by simp)
    | some u =>
     rcases hO b with z | ⟨ob,xs,z⟩
     ·rw [q] at z; cases z
     ·have z2:=un.frzs b ob _ z
      obtain ⟨e1,_⟩:=hok b _ z
      obtain ⟨e2,_⟩:=hok' b _ z2
      rw [e] at e1; cases e1
      exact e2
 cases hk:K.lookup a with
 | some o =>
  -- the script is one of the module's own objects
  have e:=KX a o hk
  rw [ha] at e
  cases e
  refine core (fun _=>none) (fun _=>.inl rfl) (.inr ⟨_,vs.toArray,_,hk,rfl,rfl,rfl,by rw [List.size_toArray,lenV]; exact hl,by simpa using rv⟩) (fun b u z=>by have z':(none:Option HO) = some u:=z; cases z') (fun b z=>absurd rfl z) fun z=>absurd rfl z
 | none =>
  refine core (fun b=>if b = a then some (.frz { cls:=.type "list",data:=.seq vs.toArray } (.lst (ns.map V.int))) else none) (fun b=>?_) (.inl (.inr ⟨{ cls:=.type "list",data:=.seq vs.toArray },if_pos rfl⟩)) (fun b u z=>?_) (fun b z=>?_) fun _=>hk
  ·by_cases hb:b = a
   ·exact .inr ⟨_,_,if_pos hb⟩
   ·exact .inl (if_neg hb)
  ·by_cases hb:b = a
   ·have z':=(if_pos hb).symm.trans z
    cases z'
    subst hb
    exact ⟨ha,by rw [List.length_map]; exact hl,vs,_,rv,ha⟩
   ·have z':=(if_neg hb).symm.trans z
    cases z'
  ·by_cases hb:b = a
   ·exact hb
   ·exact absurd (if_neg hb) z
end L2
namespace L2
open PySem PySem.Spec PyProof.Rows
theorem walk_of {l:PySem.W.OpenLaw} {n k:Nat} {q:Program} {loose:List Str} {XP:(Str -> Option Value) -> Heap -> Prop} {YP:World -> Heap -> Prop} {d:DefRec} {K:Params -> FG7} {CX:World -> CXT} {sp:World -> Sp} {x:Str}
  (hn:l.most = some n) (hn2:n <= sizeLine) (hdf:d.params.defaults = []) (hr:Room k callerA)
  (hY:∀ (w:World) (h:Heap),YP w h -> (K w.params).In h)
  (F:∀ (w:World) (mg:Str -> Option Value) (fa:Addr) (h:Heap),(K w.params).In h -> h.Ns mainGlobals mg -> mg d.name = some (.ref fa) →
   ∃ fd:FuncData,(∀ (s:Shared) (u:Value),BindsTo s fd ⟨[u],[]⟩ [(x,u)]) ∧
    ∀ base:Heap,(K w.params).In base -> base.Ns mainGlobals mg -> FnOk l.prog w (K w.params) mg base (CX w) k fa fd [x] (sp w))
  (hsp:∀ (w:World) (H:Hp) (a:Addr) (ns:List Int),ns.length <= n -> Only H -> SqL (K w.params) H a (ns.map V.int) -> sp w [.ref a] H (fun v _=>v = .bl true) fun _ _ _=>False)
  (hCX:∀ (w:World) (H:Hp) (s:Shared) (e:Value) (s':Shared),CX w [] H s (fun _ _ _=>False) e s' -> False) :
  PySem.W.WalkO q loose XP YP l.row.toRowW d [] (fun f vs=>PySem.call f vs):=by
 refine Att.attach_call hn hdf fun w s₀ s₁ mg mb fa o pm cd doc a vs ns G Y ho hd hcd hmg hobj hints hlen hg=>?_
 have KX:=hY w _ Y
 obtain ⟨fd,hb,hF⟩:=F w mg fa _ KX G.T.g hmg
 exact Y5 KX G.T.g G.T.b G.T.builtins G.T.nolimit hg hobj hints (Nat.le_trans hlen hn2) hr hF hb (fun H hO hS=>hsp w H a ns hlen hO hS) fun H e s'=>hCX w H s₁ e s'
end L2
namespace L2
open PySem PySem.Spec PyProof.Rows
def vK (s:Stmt):Arguments:=match s with
 | .FunctionDef _ a _ _ _ _ _ _ _ _=>a
 | _=>{ posonlyargs:=[],args:=[],vararg:=none,kwonlyargs:=[],kw_defaults:=[],kwarg:=none,defaults:=[] }
def wN (s:Stmt):List Stmt:=match s with
 | .FunctionDef _ _ b _ _ _ _ _ _ _=>b
 | _=>[]
def zg (s:Stmt):Scope:=match s with
 | .FunctionDef _ _ _ _ _ _ sc _ _ _=>sc
 | _=>{ kind:=.function,names:=[],isGenerator:=false,isCoroutine:=false }
abbrev CX0:CXT:=fun _ _ _ _ _ _=>False
abbrev E0:XK:=fun _ _ _=>False
theorem V9 {X:Cx}:Zs CX0 X E0:=fun _ _ _ _ _ _ _ h=>h.elim
structure Fun (K:FG7) (x qual:Str) (st:Stmt) (f:Addr) (fd:FuncData):Prop where
 ex:∃ (oc:Value) (od:Option Addr) (kV doc pm:Value) (an:Option Addr) (cdv ct:Value) (osl:Array (Option Value)),
  fd = PySem.W.fnOf x qual (vK st) (wN st) (zg st) .none kV doc pm an cdv ct /\ K.lookup f = some ⟨oc,od,.func fd,osl⟩ /\ PySem.W.codeIn K cdv qual = true
 kp:PySem.W.keepIn K (.ref f) = true
section
variable {P:Program} {w:World} {K:FG7} {mg:Str -> Option Value} {base:Heap}
theorem Fun.ok {x qual:Str} {st:Stmt} {f:Addr} {fd:FuncData} {N ps:List Str} {k:Nat} {sp:Sp} (F:Fun K x qual st f fd) (S:FnScope N ps (zg st)) (len:∀ vs H Q E,sp vs H Q E -> vs.length = ps.length)
  (hbody:∀ (cdv:Value) (A:Around) (outer:List Env) (s:Shared) (H:Hp) (vs:List V) (Q:VK) (E:XK),Room k (A.deeper (envOfC qual (zg st) s.heap.objs.size f cdv)) -> sp vs H Q E →
   ∃ t,PSs (cxOf CX0 P w K mg base N qual (zg st) f cdv A outer s H E).nox (wN st) t /\ t { nx:=fun _ H'=>Q .non H',rt:=Q } (se N vs) H):FnOk P w K mg base CX0 (k + 1) f fd ps sp:=by
 obtain ⟨oc,od,kV,doc,pm,an,cdv,ct,osl,rfl,lk,hcd⟩:=F.ex
 refine V7 lk hcd S len fun A outer s H vs Q E hr hsp=>?_
 obtain ⟨t,h,q⟩:=hbody cdv A outer s H vs Q E hr hsp
 exact ⟨t,h.nox,q⟩
theorem Fun.binds {x qual:Str} {st:Stmt} {f:Addr} {fd:FuncData} {ps:List Str} (F:Fun K x qual st f fd)
  (h:∀ (kV doc pm:Value) (an:Option Addr) (cdv ct:Value) (us:List Value),us.length = ps.length -> bindArgs (PySem.W.fnOf x qual (vK st) (wN st) (zg st) .none kV doc pm an cdv ct) ⟨us,[]⟩ = pure (ps.zip us)):rL K fd ps []:=by
 obtain ⟨oc,od,kV,doc,pm,an,cdv,ct,osl,rfl,lk,hcd⟩:=F.ex
 exact .all (h kV doc pm an cdv ct)
theorem fun_mk {x qual:Str} {st:Stmt} {f:Addr} {oc:Value} {od an:Option Addr} {osl:Array (Option Value)} {kV doc pm cdv ct:Value} (l:K.lookup f = some ⟨oc,od,.func (PySem.W.fnOf x qual (vK st) (wN st) (zg st) .none kV doc pm an cdv ct),osl⟩)
  (c:PySem.W.codeIn K cdv qual = true) (k:PySem.W.keepIn K (.ref f) = true):Fun K x qual st f (PySem.W.fnOf x qual (vK st) (wN st) (zg st) .none kV doc pm an cdv ct):=⟨⟨oc,od,kV,doc,pm,an,cdv,ct,osl,rfl,l,c⟩,k⟩
end
theorem yJ {n:Nat} (h:n <= 1000):n < sizeLine:=Nat.lt_of_le_of_lt h (by decide)
section
variable {X:Cx}
theorem pv (i:Nat) {x:Str} {pos:Pos} (hN:X.N[i]? = some x:=by rfl) (hv:Vis X.env.scope x:=by first | exact Or.inl rfl | exact Or.inr (Or.inl rfl) | exact Or.inr (Or.inr rfl)) (hd:(x == ("__debug__":Str)) = false:=by decide)
  (hcd:(x == ("__classdict__":Str)) = false:=by decide):PE X (.Name x pos) (tVar i):=W3 hN hv hd hcd
end
theorem iteF {A B:Prop} (h:B):if false = true then A else B:=by
 rw [if_neg Bool.false_ne_true]
 exact h
theorem iteT {A B:Prop} (h:A):if true = true then A else B:=by
 rw [if_pos rfl]
 exact h
theorem ite2 {c A B:Prop} [Decidable c] (h1:c -> A) (h2:¬ c -> B):if c then A else B:=by
 by_cases h:c
 ·rw [if_pos h]
  exact h1 h
 ·rw [if_neg h]
  exact h2 h
end L2
namespace L3
open PySem PySem.Spec PyProof.Rows L2
theorem Vf:bootBuiltins "abs" = some (.builtin "abs"):=by decide +kernel
theorem wq:bootBuiltins "len" = some (.builtin "len"):=by decide +kernel
theorem Vg:bootBuiltins "max" = some (.builtin "max"):=by decide +kernel
theorem Ua:bootBuiltins "min" = some (.builtin "min"):=by decide +kernel
theorem Y6:bootBuiltins "divmod" = some (.builtin "divmod"):=by decide +kernel
theorem zV:bootBuiltins "isinstance" = some (.builtin "isinstance"):=by decide +kernel
theorem ZA:bootBuiltins "all" = some (.builtin "all"):=by decide +kernel
theorem vz:bootBuiltins "sorted" = some (.builtin "sorted"):=by decide +kernel
theorem Ub:bootBuiltins "int" = some (.type "int"):=by decide +kernel
theorem Vh:bootBuiltins "bool" = some (.type "bool"):=by decide +kernel
theorem zE:bootBuiltins "tuple" = some (.type "tuple"):=by decide +kernel
theorem Vi:bootBuiltins "list" = some (.type "list"):=by decide +kernel
def TyV (K:FG7) (H:Hp) (x:V) (T:String):Prop:=match x with
 | .non=>T = "NoneType"
 | .bl _=>T = "bool"
 | .int _=>T = "int"
 | .str _=>T = "str"
 | .ref a=>(T = "tuple" /\ ∃ xs,SqT K H a xs) \/ (T = "list" /\ ∃ xs,SqL K H a xs) \/ (T = "dict" /\ ∃ kvs,H a = some (.dK kvs))
 | _=>False
section
variable {X:Cx} {a b c:Expr} {ta tb tc:TE} {pos:Pos}
def rIsi (K:FG7):List V -> Hp -> VK -> Prop:=fun xs H Q=>∃ x T t k,xs = [x,.ty T] /\ TyV K H x t /\ PySem.W.kitOne K (.type t) (.type T) = some k /\ Q (.bl k) H
theorem xa:wf X (.builtin "isinstance") (rIsi X.K):=by
 intro pins s σ H xs us Q I r h
 obtain ⟨x,T,t,k,rfl,ty,e,q⟩:=h
 obtain ⟨u,w',rfl,rx,rt⟩:=Zo r
 cases (show w' = Value.type T from rt)
 have fin:∀ tk,EP X pins σ Q (.bool k) { s with toks:=tk }:=fun tk=>⟨.bl k,H,I.tok _,rfl,q⟩
 cases x with
 | non=>cases (show t = "NoneType" from ty); exact xI I rx .non e fin
 | bl y=>cases (show t = "bool" from ty); exact xI I rx (.bl y) e fin
 | int i=>cases (show t = "int" from ty); exact xI I rx (.int i) e fin
 | str y=>cases (show t = "str" from ty); exact xI I rx (.str y) e fin
 | byt y=>exact ty.elim
 | flt y=>exact ty.elim
 | ty y=>exact ty.elim
 | ref a =>
  cases (show u = Value.ref a from rx)
  rcases ty with ⟨rfl,xs,hq⟩ | ⟨rfl,xs,hq⟩ | ⟨rfl,kvs,hq⟩
  ·obtain ⟨its,_,⟨o,h1,h2,_⟩,_⟩:=I.tuple hq
   exact PySem.W.kia_one PySem.W.kitx_tuple I.kIn ⟨o,h1,h2⟩ e (fun z=>nomatch z) fin
  ·obtain ⟨its,_,pl,_⟩:=I.list hq
   obtain ⟨o,h1,h2,_⟩:=pl.isList
   exact PySem.W.kia_one PySem.W.kitx_list I.kIn ⟨o,h1,h2⟩ e (fun z=>nomatch z) fin
  ·exact xI (x:=V.ref a) I (show RelV (.ref a) (.ref a) from rfl) (.dK hq) e fin
theorem vc {x:Str} {T:String} {pos:Pos} (hg:Gl X x) (hm:X.mg x = none) (hv:bootBuiltins x = some (.type T)) (hn:x ≠ "__name__":=by decide) (hd:(x == ("__debug__":Str)) = false:=by decide):PE X (.Name x pos) (tC (.ty T)) :=
 Wd hg hm hv (show RelV (.ty T) (Value.type T) from rfl) hn hd
theorem xJ:OpR X (binaryOp .Mult) (rI IntMulOk fun i j=>.int (i * j)):=opI fun _ _ _ _ _ _ _ hc q=>mul_int q hc
def Y7 (i j:Int):Prop:=0 < j /\ j < 2 ^ 200
theorem Y7.py {i j:Int} (h:Y7 i j):Builtin.divisionGoesByPylong i j = false:=by
 refine PyProof.noPylong_of_log2 ?_
 obtain ⟨h1,h2⟩:=h
 have h0:j.natAbs ≠ 0:=by omega
 have h3:j.natAbs < 2 ^ 200:=by
  have:(j.natAbs:Int) = j:=by omega
  have h4:((j.natAbs:Nat):Int) < ((2 ^ 200:Nat):Int):=by rw [this]; exact h2
  exact Int.ofNat_lt.mp h4
 exact Nat.lt_of_lt_of_le ((Nat.log2_lt h0).mpr h3) (by decide)
theorem wr:OpR X (binaryOp .FloorDiv) (rI Y7 fun i j=>.int (i / j)):=opI fun i j _ _ _ _ _ hc q=>by
 have:=hc.1
 refine floordiv_int (by omega) ?_ (.inl hc.py)
 rw [Int.fdiv_eq_ediv_of_nonneg i (by omega)]
 exact q
theorem si:wf X (.builtin "divmod") (fun xs H Q=>∃ i j,xs = [.int i,.int j] /\ Y7 i j /\ ∀ p,H p = none -> Q (.ref p) (upd H p (.tup [.int (i / j),.int (i % j)]))):=by
 intro pins s σ H xs us Q I r h
 obtain ⟨i,j,rfl,hc,q⟩:=h
 have h1:=hc.1
 obtain ⟨u,w',rfl,⟨t,rfl⟩,⟨t',rfl⟩⟩:=Zo r
 refine divmod_int (by omega) ?_ (.inl hc.py)
 rw [Int.fdiv_eq_ediv_of_nonneg i (by omega),Int.fmod_eq_emod_of_nonneg i (by omega)]
 have hn:H s.heap.objs.size = none:=I.hok.fresh (Nat.le_refl _)
 refine ⟨.ref s.heap.objs.size,_,?_,rfl,q _ hn⟩
 refine I.laid (fun b o e=>Heap.get?_push_of_some _ e) (Nat.le_refl _) ⟨by simp only [List.length_cons,List.length_nil]; rw [sizeLine_eq]; decide,[.int (i / j) s.toks,.int (i % j) (s.toks + 1)],.cons ⟨_,rfl⟩ (.cons ⟨_,rfl⟩ .nil),?_⟩
 exact ⟨_,Heap.get?_push_size s.heap rfl,rfl,0,rfl⟩
end
def zh (P:Program) (w:World) (K:FG7) (mg:Str -> Option Value) (base:Heap) (k:Nat) (x:Str) (ps:List Str) (sp:Sp):Prop :=
 ∃ (f:Addr) (fd:FuncData),FnOk P w K mg base CX0 k f fd ps sp /\ rL K fd ps [] /\ PySem.W.keepIn K (.ref f) = true /\ mg x = some (.ref f)
theorem zh.mono {P:Program} {w:World} {K:FG7} {mg:Str -> Option Value} {base:Heap} {j k:Nat} {x:Str} {ps:List Str} {sp:Sp} (C:zh P w K mg base j x ps sp) (h:j <= k):zh P w K mg base k x ps sp:=by
 obtain ⟨f,fd,F,b,kp,m⟩:=C
 exact ⟨f,fd,F.mono h,b,kp,m⟩
section
variable {X:Cx} {k:Nat} {ps:List Str} {sp:Sp} {x:Str} {p pos:Pos} {e:Expr} {es:List Expr} {t:TA}
theorem zf (C:zh X.prog X.w X.K X.mg X.base k x ps sp) (hr:Room k X.A) (hg:Gl X x)
  (ha:PA X (e :: es) t) (hdb:(x == ("__debug__":Str)) = false:=by decide) (he:starEach (e :: es) X.env = (false,eval e X.env) :: starEach es X.env:=by rfl) (hpl:(backTo pos (starEach es X.env)).any (·.1) = false:=by rfl) :
  PE X (.Call (.Name x p) (e :: es) [] pos) (Vc sp [] E0 t):=by
 obtain ⟨f,fd,F,b,kp,m⟩:=C
 exact Wh F hr hg m kp b .nil V9 ha hdb he hpl
end
structure Grow (m:List Addr) (H H':Hp):Prop where
 keep:∀ b o,b ∉ m -> H b = some o -> H' b = some o
 tup:∀ b xs,H b = some (.tup xs) -> H' b = some (.tup xs)
 frz:∀ b o u,H b = some (.frz o u) -> H' b = some (.frz o u)
theorem Grow.refl (m:List Addr) (H:Hp):Grow m H H:=⟨fun _ _ _ h=>h,fun _ _ h=>h,fun _ _ _ h=>h⟩
theorem Grow.trans {m:List Addr} {H H1 H2:Hp} (a:Grow m H H1) (b:Grow m H1 H2):Grow m H H2 :=
 ⟨fun c o n h=>b.keep c o n (a.keep c o n h),fun c xs h=>b.tup c xs (a.tup c xs h),fun c o u h=>b.frz c o u (a.frz c o u h)⟩
theorem Grow.new {m:List Addr} {H:Hp} {p:Addr} (h:H p = none) (o:HO):Grow m H (upd H p o) :=
 ⟨fun b u _ q=>by rw [zp (zv q h)]; exact q,fun b xs q=>by rw [zp (zv q h)]; exact q,fun b u v q=>by rw [zp (zv q h)]; exact q⟩
theorem Grow.set {m:List Addr} {H:Hp} {p:Addr} {xs:List V} (h:H p = some (.lst xs)) (hm:p ∈ m) (ys:List V):Grow m H (upd H p (.lst ys)) :=
 ⟨fun b u hb q=>by rw [zp (show b ≠ p from fun z=>hb (by rw [z]; exact hm))]; exact q,fun b zs q=>by rw [zp (fun z=>by subst z; rw [h] at q; cases q)]; exact q,fun b u v q=>by rw [zp (fun z=>by subst z; rw [h] at q; cases q)]; exact q⟩
theorem Grow.mono {m m':List Addr} {H H':Hp} (a:Grow m H H') (h:∀ b ∈ m,b ∈ m'):Grow m' H H':=⟨fun b o n q=>a.keep b o (fun z=>n (h b z)) q,a.tup,a.frz⟩
theorem Grow.sqT {m:List Addr} {H H':Hp} (g:Grow m H H') {K:FG7} {a:Addr} {xs:List V} (h:SqT K H a xs):SqT K H' a xs:=by
 rcases h with (h | ⟨o,h⟩) | h
 ·exact .inl (.inl (g.tup _ _ h))
 ·exact .inl (.inr ⟨o,g.frz _ _ _ h⟩)
 ·exact .inr h
theorem Grow.free {H H':Hp} {m:List Addr} (g:Grow m H H') {l:Addr} (hm:l ∉ m) (h:H' l = none):H l = none:=by
 cases q:H l with
 | none=>rfl
 | some o=>rw [g.keep l o hm q] at h; cases h
def Scr (K:FG7) (H:Hp) (a:Addr) (ns:List Int):Prop :=
 (∃ o,H a = some (.frz o (.lst (ns.map V.int)))) ∨
  ∃ (o:Obj) (its:Array Value) (n:Nat),K.lookup a = some o /\ o.cls = .type "list" /\ o.dict = none /\ o.data = .seq its n /\ its.size <= sizeLine /\ Vals (ns.map V.int) its.toList
theorem Scr.sq {K:FG7} {H:Hp} {a:Addr} {ns:List Int} (h:Scr K H a ns):SqL K H a (ns.map V.int):=by
 rcases h with ⟨o,h⟩ | h
 ·exact .inl (.inr ⟨o,h⟩)
 ·exact .inr h
theorem Scr.of {K:FG7} {H:Hp} {a:Addr} {ns:List Int} (hO:Only H) (h:SqL K H a (ns.map V.int)):Scr K H a ns:=by
 rcases h with (h | ⟨o,h⟩) | h
 ·rcases hO a with z | ⟨o,xs,z⟩
  ·rw [h] at z; cases z
  ·rw [h] at z; cases z
 ·exact .inl ⟨o,h⟩
 ·exact .inr h
theorem Grow.scr {m:List Addr} {H H':Hp} (g:Grow m H H') {K:FG7} {a:Addr} {ns:List Int} (h:Scr K H a ns):Scr K H' a ns:=by
 rcases h with ⟨o,h⟩ | h
 ·exact .inl ⟨o,g.frz _ _ _ h⟩
 ·exact .inr h
structure Blt (mg:Str -> Option Value):Prop where
 abs:mg "abs" = none
 len:mg "len" = none
 max:mg "max" = none
 min:mg "min" = none
 divmod:mg "divmod" = none
 repr:mg "repr" = none
 isinstance:mg "isinstance" = none
 all:mg "all" = none
 range:mg "range" = none
 int:mg "int" = none
 bool:mg "bool" = none
 str:mg "str" = none
 tuple:mg "tuple" = none
 list:mg "list" = none
 dict:mg "dict" = none
def sp1 (b:V -> Hp -> VK -> Prop):Sp:=fun vs H Q _=>∃ x,vs = [x] /\ b x H Q
def sp2 (b:V -> V -> Hp -> VK -> Prop):Sp:=fun vs H Q _=>∃ x y,vs = [x,y] /\ b x y H Q
def sp3 (b:V -> V -> V -> Hp -> VK -> Prop):Sp:=fun vs H Q _=>∃ x y z,vs = [x,y,z] /\ b x y z H Q
theorem yV {b:V -> Hp -> VK -> Prop} {p:Str}:∀ vs H Q E,sp1 b vs H Q E -> vs.length = [p].length:=fun vs H Q E h=>by
 obtain ⟨x,rfl,_⟩:=h; rfl
theorem yp {b:V -> V -> Hp -> VK -> Prop} {p q:Str}:∀ vs H Q E,sp2 b vs H Q E -> vs.length = [p,q].length:=fun vs H Q E h=>by
 obtain ⟨x,y,rfl,_⟩:=h; rfl
theorem xi {b:V -> V -> V -> Hp -> VK -> Prop} {p q r:Str}:∀ vs H Q E,sp3 b vs H Q E -> vs.length = [p,q,r].length:=fun vs H Q E h=>by
 obtain ⟨x,y,z,rfl,_⟩:=h; rfl
def sj:V -> Bool
 | .int _=>true
 | _=>false
def endV:V -> Bool
 | .non=>true
 | .int _=>true
 | _=>false
def Kn (K:FG7) (H:Hp) (x:V):Prop:=∃ T,TyV K H x T
structure Deed where
 add:Int
 lo:Option Int
 hi:Option Int
 deriving DecidableEq
def ov:Option Int -> V
 | none=>.non
 | some i=>.int i
def Deed.vs (d:Deed):List V:=[.int d.add,ov d.lo,ov d.hi]
def Deed.Ok (d:Deed):Prop:=∀ l h,d.lo = some l -> d.hi = some h -> l < h \/ (l = h /\ d.add = 0)
def yg (lo:Option Int) (r:Int):Int:=match lo with
 | none=>r
 | some l=>if l > r then l else r
def yh (hi:Option Int) (r:Int):Int:=match hi with
 | none=>r
 | some h=>if h < r then h else r
def Deed.mk' (d:Deed) (v:Int):Int:=yh d.hi (yg d.lo (v + d.add))
def ordV:V -> V -> V -> Bool
 | .int a,.int l,.int h=>decide (l < h) || (decide (l = h) && decide (a = 0))
 | _,_,_=>true
def wO:List V -> Bool
 | [x,y,z]=>sj x && (endV y && (endV z && ordV x y z))
 | _=>false
theorem jw {d:Deed} (h:d.Ok):wO d.vs = true:=by
 obtain ⟨a,lo,hi⟩:=d
 cases lo with
 | none=>cases hi <;> rfl
 | some l =>
  cases hi with
  | none=>rfl
  | some u =>
   have:=h l u rfl rfl
   show (decide (l < u) || (decide (l = u) && decide (a = 0))) = true
   rcases this with q | ⟨q,q2⟩
   ·simp [q]
   ·have q2':a = 0:=q2
    simp [q,q2']
theorem ZB {x:V} (h:sj x = true):∃ i,x = .int i:=by
 cases x <;> first | exact ⟨_,rfl⟩ | cases h
theorem XN {x:V} (h:endV x = true):∃ o,x = ov o:=by
 cases x <;> first | exact ⟨none,rfl⟩ | exact ⟨some _,rfl⟩ | cases h
theorem len3 {xs:List V} (h:xs.length = 3):∃ x y z,xs = [x,y,z]:=by
 match xs,h with
 | [x,y,z],_=>exact ⟨x,y,z,rfl⟩
theorem rM {xs:List V} (h:xs.length ≠ 3):wO xs = false:=by
 match xs,h with
 | [],_=>rfl
 | [_],_=>rfl
 | [_,_],_=>rfl
 | [_,_,_],h=>exact absurd rfl h
 | _ :: _ :: _ :: _ :: _,_=>rfl
def zx (K:FG7) (H:Hp) (x:V) (d:Deed):Prop:=∃ a,x = .ref a /\ SqT K H a d.vs
theorem Grow.deed {m:List Addr} {H H':Hp} (g:Grow m H H') {K:FG7} {x:V} {d:Deed} (h:zx K H x d):zx K H' x d:=by
 obtain ⟨a,e,h⟩:=h
 exact ⟨a,e,g.sqT h⟩
theorem qN {K:FG7} {H:Hp} {i:Int}:Kn K H (.int i):=⟨"int",rfl⟩
theorem Vj {K:FG7} {H:Hp}:Kn K H .non:=⟨"NoneType",rfl⟩
theorem Vk {K:FG7} {H:Hp} (o:Option Int):Kn K H (ov o):=by cases o; exact Vj; exact qN
def yW (K:FG7):Sp:=sp1 fun x H Q=>Kn K H x /\ Q (.bl (sj x)) H
def sr (K:FG7):Sp:=sp1 fun x H Q=>Kn K H x /\ Q (.bl (endV x)) H
def uA (K:FG7):Sp:=sp1 fun x H Q=>(∃ T,T ≠ "tuple" /\ TyV K H x T /\ Q (.bl false) H) \/ ∃ a xs,x = .ref a /\ SqT K H a xs /\ (∀ y ∈ xs,Kn K H y) /\ Q (.bl (wO xs)) H
def uW (K:FG7):Sp:=sp2 fun x y H Q=>∃ d v,zx K H x d /\ y = .int v /\ Q (.int (d.mk' v)) H
def Pot (H:Hp) (a:Addr):Prop:=∃ p0 p1:Int,H a = some (.lst [.int p0,.int p1]) /\ 0 <= p0
def Sm (n:Int):Prop:=-(10 ^ 30) < n /\ n < 10 ^ 30
def Deed.Sm (d:Deed):Prop:=L3.Sm d.add /\ (∀ l,d.lo = some l -> L3.Sm l) /\ ∀ h,d.hi = some h -> L3.Sm h
def XO (K:FG7):Sp:=sp2 fun x y H Q=>∃ a ns k,x = .ref a /\ y = .int k /\ Scr K H a ns /\ 0 <= k /\ k < 1000 /\ ∀ p H',H p = none -> Grow [] H H' -> Pot H' p -> Q (.ref p) H'
def wP (_:FG7):Sp:=sp2 fun x y H Q=>∃ a m,x = .ref a /\ y = .int m /\ Pot H a /\ 0 < m /\ m < 2 ^ 200 /\ ∀ n H',0 <= n -> n < m -> Grow [a] H H' -> Pot H' a -> Q (.int n) H'
def ZC (K:FG7):Sp:=sp1 fun x H Q=>∃ a,x = .ref a /\ Pot H a /\ ∀ d y H',d.Ok -> d.Sm -> Grow [a] H H' -> Pot H' a -> zx K H' y d -> Q y H'
def qO (K:FG7):Sp:=sp1 fun x H Q=>∃ a ns,x = .ref a /\ Scr K H a ns /\ ns.length <= 63 /\ ∀ H',Q (.bl true) H'
theorem Vl {A:Int} (h:Sm A):Deed.Sm ⟨A,none,none⟩:=⟨h,(fun l z=>by cases z),(fun l z=>by cases z)⟩
theorem Uc {A l:Int} (h:Sm A) (h2:Sm l):Deed.Sm ⟨A,some l,none⟩:=⟨h,(fun l z=>by cases z; exact h2),(fun l z=>by cases z)⟩
theorem Ud {A l:Int} (h:Sm A) (h2:Sm l):Deed.Sm ⟨A,none,some l⟩:=⟨h,(fun l z=>by cases z),(fun l z=>by cases z; exact h2)⟩
theorem ok_n {A:Int} {o:Option Int}:Deed.Ok ⟨A,none,o⟩:=fun l h z=>by cases z
theorem Ue {A l:Int}:Deed.Ok ⟨A,some l,none⟩:=fun l h z z2=>by cases z2
theorem szl {n:Nat} (h:Nat.ble n 1000 = true):n <= sizeLine:=Nat.le_of_lt (yJ (Nat.le_of_ble_eq_true h))
theorem Grow.shrink {H H':Hp} {l:Addr} (h:H l = none) (g:Grow [l] H H'):Grow [] H H' :=
 ⟨fun b o _ q=>g.keep b o (fun z=>by rw [List.mem_singleton.mp z] at q; rw [h] at q; cases q) q,g.tup,g.frz⟩
theorem Grow.wk {m:List Addr} {H H':Hp} (g:Grow [] H H'):Grow m H H':=g.mono (by simp)
theorem Pot.grow {H H':Hp} {a:Addr} (p:Pot H a) (g:Grow [] H H'):Pot H' a:=by
 obtain ⟨u0,u1,hu,hn⟩:=p
 exact ⟨u0,u1,g.keep _ _ (by simp) hu,hn⟩
theorem Pot.new {H:Hp} {a l:Addr} (p:Pot H a) (hl:H l = none) (o:HO):Pot (upd H l o) a:=p.grow (Grow.new hl o)
theorem qP {i j:Int} (h2:-(2 ^ 60) < j /\ j < 2 ^ 60):IntMulOk i j:=PySem.IntMulOk.of_right (Nat.le_trans ((PySem.intBits_le_iff (m:=60)).mpr (by obtain ⟨a,b⟩:=h2; omega)) (by decide))
section
variable {prog:Program} {w:World} {A:Around} {R:Result -> Shared -> Prop} {s:Shared}
theorem ss {elt target iter:Expr} {ifs:List Expr} {scope:Scope} {pos:Pos} {it acc:Value} {env:Env} (I:Nat -> Shared -> Prop)
  (turn:∀ n s,I n s -> wpAny (model prog w) A (pyNext it) (fun r s₁=>match r with
   | none=>R (.ok .next) s₁
   | some v=>wpAny (model prog w) A (letOwnedTupleGo target it v) (fun _ s₂=>wpAny (model prog w) A (assign target env v) (fun _ s₃ =>
     wpAny (model prog w) A (forIn ifs true fun c r=>if r = true then do let ok ← isTrue c env (eval c env); pure (ForInStep.yield ok) else pure (ForInStep.yield r)) (fun ok s₄ =>
      if ok = true then wpAny (model prog w) A (eval elt env) (fun x s₅ =>
       wpAny (model prog w) A (call (.builtin "list.append") [acc,x]) (fun _ s₆=>∃ m,m < n /\ I m s₆) (fun _ _=>False) s₅) (fun _ _=>False) s₄
      else ∃ m,m < n /\ I m s₄) (fun _ _=>False) s₃) (fun _ _=>False) s₂) (fun _ _=>False) s₁) (fun _ _=>False) s)
  (n:Nat) (h:I n s) :
  codeAny (model prog w) A (.compLoop (.ListComp elt [⟨target,iter,ifs,0⟩] scope pos) 0 it acc env) R s:=by
 refine codeAny_loop rfl I (fun n s hI=>?_) n h
 show wpAny _ A ((compTurn (.ListComp elt [⟨target,iter,ifs,0⟩] scope pos) 0 it acc env).onRaise (fun x=>do noteFrame x env; theTreesLotGoes x)) _ _ s
 refine wpAny_noted ?_
 rw [compTurn_list]
 have no:∀ (E:VS7) (e:Value) (s:Shared),(fun (_:Value) (_:Shared)=>False) e s -> E e s:=fun _ _ _ f=>f.elim
 refine wpAny_bind (wpAny_standAt (wpAny_bind (wpAny_mono (turn n s hI) (fun r s₁ h₁=>?_) (no _))))
 cases r with
 | none=>exact wpAny_pure h₁
 | some v =>
  refine wpAny_bind (wpAny_mono h₁ (fun _ s₂ h₂=>?_) (no _))
  refine wpAny_bind (wpAny_mono h₂ (fun _ s₃ h₃=>wpAny_bind (wpAny_mono h₃ (fun ok s₄ h₄=>?_) (no _))) (no _))
  cases ok with
  | true =>
   simp only [if_true] at h₄ ⊢
   exact wpAny_bind (wpAny_bind (wpAny_mono h₄ (fun x s₅ h₅=>wpAny_bind (wpAny_mono h₅ (fun _ s₆ h₆=>wpAny_pure (wpAny_pure ⟨rfl,h₆⟩)) (no _))) (no _)))
  | false =>
   simp only [Bool.false_eq_true,if_false] at h₄ ⊢
   first
    | exact wpAny_bind (wpAny_pure (wpAny_pure ⟨rfl,h₄⟩))
    | exact wpAny_pure ⟨rfl,h₄⟩
end
theorem uB {scope:Scope} {env:Env} (hfree:∀ y ∈ scope.names,y.2 = .free -> ∃ c,env.cells.lookup y.1 = some c) :
  ∃ cl,closureFor scope env = pure cl /\ (∀ x c,cl.lookup x = some c -> env.cells.lookup x = some c) /\ ∀ y ∈ scope.names,y.2 = .free -> ∃ c,cl.lookup y.1 = some c:=by
 have key:∀ (l:List (Str × NameKind)) (cs:List (Str × Addr)),(∀ y ∈ l,y.2 = .free -> ∃ c,env.cells.lookup y.1 = some c) -> (∀ x c,cs.lookup x = some c -> env.cells.lookup x = some c) →
   ∃ cl,(forIn l cs (fun (x:Str × NameKind) r=>do if x.2 == .free then do let c ← cellOf env x.1; pure (ForInStep.yield ((x.1,c) :: r)) else pure (ForInStep.yield r)):Sem (List (Str × Addr))) = pure cl ∧
    (∀ x c,cl.lookup x = some c -> env.cells.lookup x = some c) /\ (∀ y ∈ l,y.2 = .free -> ∃ c,cl.lookup y.1 = some c) /\ ∀ x c,cs.lookup x = some c -> ∃ c',cl.lookup x = some c':=by
  intro l
  induction l with
  | nil=>intro cs _ h2; exact ⟨cs,rfl,h2,fun y hy=>absurd hy (by simp),fun x c h=>⟨c,h⟩⟩
  | cons y r ih =>
   intro cs h1 h2
   obtain ⟨n,k⟩:=y
   by_cases hk:k = .free
   ·subst hk
    obtain ⟨c,hc⟩:=h1 (n,.free) (by simp) rfl
    have hc':env.cells.lookup n = some c:=hc
    have e0:cellOf env n = pure c:=by unfold cellOf; rw [hc']
    obtain ⟨cl,e,p1,p2,p3⟩:=ih ((n,c) :: cs) (fun z hz=>h1 z (List.mem_cons_of_mem _ hz)) (fun x d h=>by
     by_cases hx:x = n
     ·subst hx
      rw [List.lookup_cons_self] at h
      cases h; exact hc'
     ·rw [List.lookup_cons,beq_eq_false_iff_ne.mpr hx] at h
      exact h2 x d h)
    refine ⟨cl,?_,p1,fun z hz=>?_,fun x d h=>?_⟩
    ·rw [List.forIn_cons]
     simp only [beq_self_eq_true,if_true,e0,pure_bind]
     exact e
    ·rcases List.mem_cons.mp hz with rfl | hz
     ·intro _
      exact p3 n c List.lookup_cons_self
     ·exact p2 z hz
    ·by_cases hx:x = n
     ·subst hx; exact p3 x c List.lookup_cons_self
     ·exact p3 x d (by rw [List.lookup_cons,beq_eq_false_iff_ne.mpr hx]; exact h)
   ·have hb:(k == NameKind.free) = false:=beq_eq_false_iff_ne.mpr hk
    obtain ⟨cl,e,p1,p2,p3⟩:=ih cs (fun z hz=>h1 z (List.mem_cons_of_mem _ hz)) h2
    refine ⟨cl,?_,p1,fun z hz=>?_,p3⟩
    ·rw [List.forIn_cons]
     simp only [hb,Bool.false_eq_true,if_false,pure_bind]
     exact e
    ·rcases List.mem_cons.mp hz with rfl | hz
     ·intro h; exact absurd h hk
     ·exact p2 z hz
 obtain ⟨cl,e,p1,p2,_⟩:=key scope.names [] hfree (fun x c h=>by cases h)
 refine ⟨cl,?_,p1,p2⟩
 unfold closureFor
 first
  | (rw [show (forIn scope.names [] _:Sem (List (Str × Addr))) = pure cl from e]; rfl)
  | (simp only [bind_pure]; exact e)
  | exact e
def PIfs (X:Cx) (ifs:List Expr) (t:TT):Prop :=
 ∀ (pins:List (Addr × Obj)) (s:Shared) (σ:L2.St) (H:Hp) (Q:Bool -> Hp -> Prop),Inv X pins σ H s -> t σ H Q →
  wpAny (model X.prog X.w) X.A (forIn ifs true fun c r=>if r = true then do let ok ← isTrue c X.env (eval c X.env); pure (ForInStep.yield ok) else pure (ForInStep.yield r)) (TP X pins σ Q) X.xe s
def uX:TT:=fun _ H Q=>Q true H
theorem zA {X:Cx}:PIfs X [] uX:=fun pins s σ H Q I h=>wpAny_pure ⟨H,I,h⟩
theorem Y8 {X:Cx} {c:Expr} {t:TT} (hc:PT X c t):PIfs X [c] t:=fun pins s σ H Q I h=>wpAny_tests_one (hc pins s σ H Q I h)
abbrev cxC (X:Cx) (N':List Str) (scope:Scope) (cl:List (Str × Addr)) (C D:Addr) (fp:List Addr) (s:Shared) (H:Hp):Cx :=
 { X with N:=N',s₀:=s,H₀:=H,env:=compEnvC scope cl C X.env,outer:=X.stack,ex:=D :: fp,fn:=fun _=>false,xe:=fun _ _=>False }
def capt (sub:List (Option Nat)) (σ:L2.St):L2.St:=sub.map fun o=>match o with
 | none=>none
 | some i=>(match σ[i]? with | some v=>v | none=>none)
def wt (J:It) (σ0:L2.St) (H1:Hp) (g:TG) (tt:TT) (te:TE) (Q:VK):Prop :=
 ∃ W:Nat -> Nat -> List V -> L2.St -> Hp -> Prop,(∃ m,W 0 m [] σ0 H1) /\ ∀ i m ys σ' H',W i m ys σ' H' →
  (J.stop i H' /\ ∀ l,H' l = none -> Q (.ref l) (upd H' l (.lst ys))) ∨
  (J.go i H' /\ ∃ Nn:List V -> L2.St -> Hp -> Prop,(∀ zs σ2 H2,Nn zs σ2 H2 -> ∃ m',m' < m /\ W (i + 1) m' zs σ2 H2) ∧
   ∀ x H2,J.yld i H' x H2 -> g x σ' H2 fun σ2 H3=>tt σ2 H3 fun b H4=>if b = true then te σ2 H4 fun y H5=>ys.length < sizeLine /\ Nn (ys ++ [y]) σ2 H5 else Nn ys σ2 H4)
def Wl (wi:TI) (sub:List (Option Nat)) (g:TG) (tt:TT) (te:TE):TE:=fun σ H Q=>wi σ H fun J H1=>wt J (capt sub σ) H1 g tt te Q
structure CSc (X:Cx) (scope:Scope) (N':List Str) (sub:List (Option Nat)):Prop where
 free:∀ y ∈ scope.names,y.2 = .free -> X.env.kindOf y.1 = some .cell
 nocell:∀ y ∈ scope.names,y.2 ≠ .cell
 kind:scope.kind = .function
 names:∀ y ∈ scope.names,y.2 = .local -> scope.names.lookup y.1 = some .local
 len:sub.length = N'.length
 cap:∀ (j:Nat) (y:Str) (i:Nat),N'[j]? = some y -> sub[j]? = some (some i) -> X.N[i]? = some y /\ X.env.scope.names.lookup y = some .cell /\ scope.names.lookup y = some .free
theorem HOk.track {P:Program} {w:World} {H:Hp} {h:Heap} {a:Addr} {o:HO} (x:HOk P w H h) (hn:H a = none) (new:z7 P w (upd H a o) h a o):HOk P w (upd H a o) h:=fun b u e=>by
 by_cases hb:b = a
 ·subst hb; rw [zd] at e; cases e; exact new
 ·rw [zp hb] at e
  exact (x b u e).stay (fun c v _ q=>q) (fun c q=>by rw [zp (zv q hn)]; exact q) fun c xs q=>by rw [zp (zv q hn)]; exact q
theorem yG {scope:Scope} {env:Env} {y:Str} {k:NameKind} (h:(relabel scope env).names.lookup y = some k) :
  ∃ k',scope.names.lookup y = some k' /\ (k = k' \/ (k = .cell /\ k' = .free)):=by
 have key:∀ l:List (Str × NameKind),(l.map fun (n,k)=>if (k == NameKind.free && env.scope.kind == .function && env.kindOf n == some .cell) then (n,NameKind.cell) else (n,k)).lookup y = some k →
   ∃ k',l.lookup y = some k' /\ (k = k' \/ (k = .cell /\ k' = .free)):=by
  intro l
  induction l with
  | nil=>intro h; cases h
  | cons p r ih =>
   obtain ⟨n,k0⟩:=p
   intro h
   rw [List.map_cons] at h
   by_cases hc:(k0 == NameKind.free && env.scope.kind == .function && env.kindOf n == some .cell) = true
   ·have hf:k0 = .free:=by
     simp only [Bool.and_eq_true,beq_iff_eq] at hc
     exact hc.1.1
    dsimp only at h
    rw [if_pos hc,List.lookup_cons] at h
    rw [List.lookup_cons]
    cases hx:y == n with
    | true=>rw [hx] at h; cases h; exact ⟨k0,rfl,.inr ⟨rfl,hf⟩⟩
    | false=>rw [hx] at h; exact ih h
   ·dsimp only at h
    rw [if_neg hc,List.lookup_cons] at h
    rw [List.lookup_cons]
    cases hx:y == n with
    | true=>rw [hx] at h; cases h; exact ⟨_,rfl,.inl rfl⟩
    | false=>rw [hx] at h; exact ih h
 exact key scope.names h
theorem xc {scope:Scope} {env:Env} {y:Str} (hk:env.scope.kind = .function) (hc:env.kindOf y = some .cell) (h:scope.names.lookup y = some .free):(relabel scope env).names.lookup y = some .cell:=by
 have key:∀ l:List (Str × NameKind),l.lookup y = some .free -> (l.map fun (n,k)=>if (k == NameKind.free && env.scope.kind == .function && env.kindOf n == some .cell) then (n,NameKind.cell) else (n,k)).lookup y = some .cell:=by
  intro l
  induction l with
  | nil=>intro h; cases h
  | cons p r ih =>
   obtain ⟨n,k0⟩:=p
   intro h
   rw [List.map_cons]
   rw [List.lookup_cons] at h
   dsimp only
   cases hx:y == n with
   | true =>
    rw [hx] at h
    cases h
    have e:y = n:=by simpa using hx
    subst e
    rw [if_pos (by simp [hk,hc]),List.lookup_cons,hx]
   | false =>
    rw [hx] at h
    by_cases hc2:(k0 == NameKind.free && env.scope.kind == .function && env.kindOf n == some .cell) = true
    ·rw [if_pos hc2,List.lookup_cons,hx]; exact ih h
    ·rw [if_neg hc2,List.lookup_cons,hx]; exact ih h
 exact key scope.names h
section
variable {X:Cx} {pins:List (Addr × Obj)} {σ:L2.St} {H2:Hp} {s₂:Shared} {it:Addr} {fp:List Addr} {tn:Nat -> Heap -> Prop} {J:It} {scope:Scope} {cl:List (Str × Addr)} {N':List Str} {sub:List (Option Nat)}
theorem wQ {h₁:Heap} {tk:Nat} (I:Inv X pins σ H2 s₂) (S:CSc X scope N' sub) (hcl1:∀ x c,cl.lookup x = some c -> X.env.cells.lookup x = some c) (hcl2:∀ y ∈ scope.names,y.2 = .free -> ∃ c,cl.lookup y.1 = some c)
    (f2:∀ b ∈ fp,FpOk X pins H2 b) (hfp:∀ b ∈ fp,b < s₂.heap.objs.size) {m:Str -> Option Value} {ob:Obj}
    (hns:h₁.Ns (s₂.heap.objs.size + 1) m) (hk:∀ b o,(s₂.heap.push ob).get? b = some o -> h₁.get? b = some o) :
    Inv (cxC X N' scope cl (s₂.heap.objs.size + 1) s₂.heap.objs.size fp { s₂ with heap:=s₂.heap.push ob } H2) pins (capt sub σ) H2 { s₂ with heap:=h₁,toks:=tk }:=by
  have old:∀ b o,s₂.heap.get? b = some o -> (s₂.heap.push ob).get? b = some o:=fun b o e=>Heap.get?_push_of_some _ e
  have old2:∀ b o,s₂.heap.get? b = some o -> h₁.get? b = some o:=fun b o e=>hk b o (old b o e)
  have sz:(s₂.heap.push ob).objs.size = s₂.heap.objs.size + 1:=Heap.size_push ..
  have cells:∀ x c,cl.lookup x = some c -> c < s₂.heap.objs.size:=fun x c e=>let ⟨v,q⟩:=I.cell x c (hcl1 x c e); q.lt
  have has:∀ x,((relabel scope X.env).names.lookup x = some .cell \/ (relabel scope X.env).names.lookup x = some .free) -> ∃ c,cl.lookup x = some c:=fun x hx=>by
    rcases hx with hx | hx
    · obtain ⟨k',e,z⟩:=yG hx
      rcases z with z | ⟨_,z⟩
      · subst z; exact absurd rfl (S.nocell _ (PySem.mem_of_lookup e))
      · subst z; exact hcl2 _ (PySem.mem_of_lookup e) rfl
    · obtain ⟨k',e,z⟩:=yG hx
      rcases z with z | ⟨z,_⟩
      · subst z; exact hcl2 _ (PySem.mem_of_lookup e) rfl
      · cases z
  have frsz:∀ b ∈ frs X.stack,b < s₂.heap.objs.size:=fun b hb=>by
    rcases List.mem_cons.mp (I.stkSub b hb) with z | z
    · rw [z]; exact I.lt
    · exact Nat.lt_of_not_le fun q=>I.nofs q z
  refine
    { ok :=
      { mod:=I.ok.mod,kind:=S.kind,glob:=I.ok.glob,blt:=I.ok.blt
        above:=by show (s₂.heap.push ob).objs.size <= s₂.heap.objs.size + 1; rw [sz]; exact Nat.le_refl _
        inj:=fun x y c h1 h2=>I.ok.inj x y c (hcl1 x c h1) (hcl1 y c h2)
        has:=has
        cab:=fun x c z=>by cases z
        hd:=I.ok.hd,frames:=I.ok.frames,stk:=.inl rfl
        exf:=fun b hb=>?exf
        bs:=fun b o e=>⟨old b o (I.bk b o e),(I.bs b o e).2⟩
        bsz:=by show X.base.objs.size <= (s₂.heap.push ob).objs.size; rw [sz]; exact Nat.le_succ_of_le (Nat.le_trans I.ok.bsz I.sz)
        noex:=fun b o e hb=>?noex
        exfs:=fun b hb=>?exfs
        funs:=?funs
        frf:=I.stkFree }
      os:=rfl,bare:=I.bare,base:=Un.kept fun b u e=>hk b u e
      loc:=⟨m,hns,?loc⟩
      cell:=fun x c e=>?cell
      free:=I.hok.fresh (Nat.le_succ _)
      freeC:=fun x c e=>I.freeC x c (hcl1 x c e)
      pin:=fun p hp=>?pin
      hok:=I.hok.kept old2
      len:=?len }
  case exf =>
    rcases List.mem_cons.mp hb with rfl | hb
    · exact ⟨Nat.ne_of_lt (Nat.lt_succ_self _),fun x c e=>Nat.ne_of_lt (cells x c e)⟩
    · exact ⟨Nat.ne_of_lt (Nat.lt_succ_of_lt (hfp b hb)),fun x c e=>(f2 b hb).2.2.2.2.1 x c (hcl1 x c e)⟩
  case noex =>
    have hl:b < X.s₀.heap.objs.size:=Nat.lt_of_lt_of_le (Heap.lt_size e) I.ok.bsz
    rcases List.mem_cons.mp hb with rfl | hb
    · exact absurd (Nat.lt_of_lt_of_le hl I.sz) (Nat.lt_irrefl _)
    · rcases (f2 b hb).2.2.2.1 with z | z
      · exact I.ok.noex b o e z
      · exact absurd (Nat.lt_of_lt_of_le hl z) (Nat.lt_irrefl _)
  case exfs =>
    intro hs
    rcases List.mem_cons.mp hb with rfl | hb
    · exact absurd (frsz _ hs) (Nat.lt_irrefl _)
    · rcases List.mem_cons.mp (I.stkSub b hs) with z | z
      · exact (f2 b hb).2.1 z
      · exact (f2 b hb).2.2.1 z
  case funs=>exact Heap.FunFrames.of_keeps (fun b o e _=>⟨o,old b o e,rfl⟩) I.stack
  case loc =>
    intro j y v hj hv hvis
    obtain ⟨mX,_,lX⟩:=I.loc
    unfold capt at hv
    rw [List.getElem?_map] at hv
    cases hs:sub[j]? with
    | none=>rw [hs] at hv; cases hv
    | some o =>
      rw [hs] at hv
      cases o with
      | none=>cases hv
      | some i =>
        obtain ⟨hN,hc,hf⟩:=S.cap j y i hj hs
        have hv':σ[i]? = some (some v):=by
          have z:(match σ[i]? with | some v=>v | none=>none) = some v:=Option.some.inj hv
          cases q:σ[i]? with
          | none=>rw [q] at z; cases z
          | some w=>rw [q] at z; rw [show w = some v from z]
        obtain ⟨u,ru,hl⟩:=lX i y v hN hv' (.inr (.inl hc))
        refine ⟨u,ru,?_⟩
        have kc:(relabel scope X.env).names.lookup y = some .cell:=xc I.ok.kind hc hf
        rcases hl with ⟨z,_⟩ | ⟨_,c,e,ic⟩
        · have z':X.env.scope.names.lookup y = some .local :=z
          rw [hc] at z'; cases z'
        · obtain ⟨c',e'⟩:=hcl2 _ (PySem.mem_of_lookup hf) rfl
          have:=hcl1 _ _ e'
          rw [e] at this; cases this
          refine .inr ⟨.inl kc,c,e',?_⟩
          obtain ⟨oc,h1,h2⟩:=ic
          exact ⟨oc,old2 _ _ h1,h2⟩
  case cell =>
    obtain ⟨v,oc,h1,h2⟩:=I.cell x c (hcl1 x c e)
    exact ⟨v,oc,old2 _ _ h1,h2⟩
  case pin =>
    obtain ⟨p1,p2,p3,p4,p5⟩:=I.pin p hp
    refine ⟨old2 _ _ p1,p2,Nat.ne_of_lt (Nat.lt_succ_of_lt (Heap.lt_size p1)),fun hs=>?_,p5⟩
    rcases List.mem_cons.mp (I.stkSub _ hs) with z | z
    · exact p3 z
    · exact p4 z
  case len =>
    show (capt sub σ).length = N'.length
    unfold capt
    rw [List.length_map]; exact S.len
theorem qQ {C D:Addr} {s₀:Shared} {s':Shared} {σ':L2.St} {H':Hp} {ys:List V} {us:List Value} {k:Nat} {oC:Obj} (I:Inv X pins σ H2 s₂)
    (hs₀:∀ b o,s₂.heap.get? b = some o -> s₀.heap.get? b = some o) (hos:s₀.os = s₂.os) (hD:s₂.heap.objs.size <= D) (hC:s₂.heap.objs.size <= C) (hDC:D ≠ C) (f2:∀ b ∈ fp,FpOk X pins H2 b)
    (I':Inv (cxC X N' scope cl C D fp s₀ H2) pins σ' H' s') (hn:H' D = none) (hy:s'.heap.get? D = some { cls:=.type "list",data:=.seq us.toArray k }) (rv:Vals ys us) (hz:ys.length <= sizeLine)
    (ho:s'.heap.get? C = some oC) (hd:∀ v,oC.data ≠ .cell v):Inv X (pins ++ [(C,oC)]) σ (upd H' D (.lst ys)) s' /\ FpOk X pins (upd H' D (.lst ys)) C:=by
  have neD:∀ b o,s₂.heap.get? b = some o -> b ≠ D:=fun b o e=>Nat.ne_of_lt (Nat.lt_of_lt_of_le (Heap.lt_size e) hD)
  have nm:∀ b o,s₂.heap.get? b = some o -> b ∉ fp -> b ∉ D :: fp:=fun b o e h z=>(List.mem_cons.mp z).elim (neD b o e) h
  have U:=I'.base
  have HC:upd H' D (.lst ys) C = none:=by rw [zp (Ne.symm hDC)]; exact I'.free
  have fpc:FpOk X pins (upd H' D (.lst ys)) C:=I.fpOk hC HC
  have un:Un (frs X.stack) fp H2 (upd H' D (.lst ys)) s₂.heap s'.heap :=
    { keep:=fun b o e n h1 h2=>U.keep b o (hs₀ b o e) n h1 (nm b o e h2)
      slot:=fun b o e n h1 h2=>U.slot b o (hs₀ b o e) n h1 (nm b o e h2)
      free:=fun b o e n h2=>by rw [zp (neD b o e)]; exact U.free b o (hs₀ b o e) n (nm b o e h2)
      there:=fun b o e h2=>U.there b o (hs₀ b o e) (nm b o e h2)
      tups:=fun b xs e=>by have z:=U.tups b xs e; rw [zp (zv z hn)]; exact z
      frzs:=fun b o u e=>by have z:=U.frzs b o u e; rw [zp (zv z hn)]; exact z
      tbls:=fun b ps e=>by obtain ⟨more,z⟩:=U.tbls b ps e; exact ⟨more,by rw [zp (zv z hn)]; exact z⟩ }
  have hok:HOk X.prog X.w (upd H' D (.lst ys)) s'.heap:=HOk.track I'.hok hn ⟨hz,us,k,rv,hy⟩
  have IX:Inv X pins σ (upd H' D (.lst ys)) s':=I.call' (I'.os.trans hos) un hok I'.bare fun b hb=>⟨(f2 b hb).2.2.2.1,(f2 b hb).2.1,(f2 b hb).2.2.2.2.1,(f2 b hb).2.2.2.2.2⟩
  refine ⟨IX.pins_of fun p hp=>?_,fpc⟩
  rcases List.mem_append.mp hp with hp | hp
  · exact IX.pin p (List.mem_append_right _ hp)
  · rw [List.mem_singleton.mp hp]
    exact ⟨ho,HC,fpc.2.1,fpc.2.2.1,hd⟩
end
section
variable {X:Cx} {scope:Scope} {N':List Str} {sub:List (Option Nat)} {x:Str} {px pos:Pos} {elt iter:Expr} {ifs:List Expr} {wi:TI} {g:TG} {tt:TT} {te:TE}
theorem CSc.clos {pins:List (Addr × Obj)} {σ:L2.St} {H:Hp} {s:Shared} (S:CSc X scope N' sub) (I:Inv X pins σ H s):∃ cl,closureFor scope X.env = pure cl /\ (∀ x c,cl.lookup x = some c -> X.env.cells.lookup x = some c) /\ ∀ y ∈ scope.names,y.2 = .free -> ∃ c,cl.lookup y.1 = some c :=
 uB fun y hy hf=>I.ok.has y.1 (.inl (S.free y hy hf))
end
section
variable {X:Cx}
theorem yS {h:Heap} {a:Addr} {its:Array Value} (t:IsTup h a its):h.IsTuple a its:=t
end
section
variable {X:Cx} {pos:Pos}
theorem su:∀ {bs:List Bool} {us:List Value},Vals (bs.map V.bl) us -> LSm.BoolsAre us bs
 | [],_,.nil=>.nil
 | b :: bs,_,.cons r t=>by
  cases r
  exact .cons b (su t)
theorem xK (hcalm:X.calm = true):wf X (.builtin "all") (fun xs H Q=>∃ (l:Addr) (bs:List Bool),xs = [.ref l] /\ SqL X.K H l (bs.map V.bl) /\ Q (.bl (bs.all id)) H):=by
 intro pins s σ H xs us Q I r h
 obtain ⟨l,bs,rfl,hl,q⟩:=h
 obtain ⟨u,rfl,rx⟩:=vH r
 cases (show u = Value.ref l from rx)
 obtain ⟨vs,rv,pl,_⟩:=I.list hl
 have hl':s.heap.IsList l vs.toArray:=pl.isList
 have hb:LSm.BoolsAre vs bs:=su rv
 have hlt:l < s.heap.objs.size:=by obtain ⟨_,e,_⟩:=hl'; exact Heap.lt_size e
 refine call_all_walk (wpAny_pyIter_list hl' ?_)
 refine ⟨s.heap.objs.size,[s.heap.objs.size,l],[s.heap.objs.size],vs.toArray.size,_,_,fun i=>(bs[i]?).getD true,rfl,Walks.list (A:=X.A.in1) (I.ok.hd hcalm) _ l (Nat.ne_of_lt hlt) vs.toArray,
  ⟨⟨_,Heap.get?_push_size _ rfl,rfl,rfl⟩,hl'.push _⟩,fun i v s' Q' E' hP hQ=>?_,fun h' tk hk=>?_⟩
 ·obtain ⟨b,e,rfl⟩:=hb.get i v (by simpa using hP)
  simp only [e,Option.getD_some] at hQ
  exact wpAny_truthy_bool hQ
 ·have e:((List.range vs.toArray.size).all fun i=>(bs[i]?).getD true) = bs.all id:=by
   have hlen:bs.length = vs.length:=by rw [← rv.length,List.length_map]
   rw [List.size_toArray,← hlen,Bool.eq_iff_iff,List.all_eq_true,List.all_eq_true]
   constructor
   ·intro z b hb'
    obtain ⟨i,hi,rfl⟩:=List.getElem_of_mem hb'
    have:=z i (List.mem_range.mpr hi)
    simpa [List.getElem?_eq_getElem hi] using this
   ·intro z i hi
    have hi':=List.mem_range.mp hi
    simpa [List.getElem?_eq_getElem hi'] using z _ (List.getElem_mem hi')
  rw [e]
  exact ⟨.bl (bs.all id),H,I.kept (t':=tk) (h':=h') (LSm.kept_iter hk),rfl,q⟩
end
theorem CSc.of {X:Cx} {scope:Scope} {N':List Str} {sub:List (Option Nat)} (sc:Scope) (NN:List Str) (e:X.env.scope = sc) (en:X.N = NN)
  (h:((scope.names.all fun y=>(y.2 != .free || sc.names.lookup y.1 == some .cell) && (y.2 != .cell) && (y.2 != .local || scope.names.lookup y.1 == some .local)) && (sub.length == N'.length) &&
   ((N'.zip sub).all fun p=>match p.2 with | none=>true | some i=>NN[i]? == some p.1 && sc.names.lookup p.1 == some .cell && scope.names.lookup p.1 == some .free)) = true)
  (hk:scope.kind = .function):CSc X scope N' sub:=by
 rw [Bool.and_eq_true,Bool.and_eq_true] at h
 obtain ⟨⟨h1,h2⟩,h3⟩:=h
 have k1:=fun y hy=>List.all_eq_true.mp h1 y hy
 refine ⟨fun y hy hf=>?_,fun y hy hc=>?_,hk,fun y hy hl=>?_,by simpa using h2,fun j y i hj hs=>?_⟩
 ·have:=k1 y hy
  simp only [hf,Bool.and_eq_true] at this
  have z:=this.1.1
  show X.env.scope.names.lookup y.1 = _
  rw [e]; simpa using z
 ·have:=k1 y hy
  simp only [hc,Bool.and_eq_true] at this
  simp at this
 ·have:=k1 y hy
  simp only [hl,Bool.and_eq_true] at this
  simpa using this.2
 ·have hm:(y,some i) ∈ N'.zip sub:=by
   have:(N'.zip sub)[j]? = some (y,some i):=by
    rw [List.getElem?_zip_eq_some]; exact ⟨hj,hs⟩
   exact List.mem_of_getElem? this
  have:=List.all_eq_true.mp h3 _ hm
  simp only [Bool.and_eq_true,beq_iff_eq] at this
  rw [e,en]
  exact ⟨this.1.1,this.1.2,this.2⟩
def vo (a:Int) (lo hi:Option Int):Deed:=if lo ≠ none /\ lo = hi then ⟨0,lo,hi⟩ else ⟨a,lo,hi⟩
def thrO (e:Deed) (o:Option Int) (d:Option Int):Option Int:=match o with
 | none=>d
 | some l=>some (e.mk' l)
def ue (d e:Deed):Deed:=vo (d.add + e.add) (thrO e d.lo e.lo) (thrO e d.hi e.hi)
theorem Uf (a l v:Int):(Deed.mk a (some l) none).mk' v = if l > v + a then l else v + a:=rfl
theorem Ug (a h v:Int):(Deed.mk a none (some h)).mk' v = if h < v + a then h else v + a:=rfl
theorem Y9 (a l h v:Int):(Deed.mk a (some l) (some h)).mk' v = if h < (if l > v + a then l else v + a) then h else (if l > v + a then l else v + a):=rfl
theorem ZD {a l h:Int} (o:Deed.Ok ⟨a,some l,some h⟩):l < h \/ (l = h /\ a = 0):=o l h rfl rfl
theorem rN {a:Int} {lo hi:Option Int} (h:∀ l u,lo = some l -> hi = some u -> l <= u):(vo a lo hi).Ok:=by
 unfold vo
 split
 ·rename_i c
  intro l u e1 e2
  have e1':lo = some l:=e1
  have e2':hi = some u:=e2
  right
  refine ⟨?_,rfl⟩
  have:=c.2
  rw [e1',e2'] at this
  exact Option.some.inj this
 ·rename_i c
  intro l u e1 e2
  have e1':lo = some l:=e1
  have e2':hi = some u:=e2
  left
  have:=h l u e1' e2'
  have ne:l ≠ u:=fun z=>c ⟨by rw [e1']; simp,by rw [e1',e2',z]⟩
  omega
theorem Wm {a:Int} {lo hi:Option Int} (v:Int):(vo a lo hi).mk' v = (Deed.mk a lo hi).mk' v:=by
 unfold vo
 split
 ·rename_i c
  obtain ⟨c1,c2⟩:=c
  subst c2
  cases lo with
  | none=>exact absurd rfl c1
  | some l =>
   rw [Y9,Y9]
   split <;> split <;> split <;> (try split) <;> omega
 ·rfl
theorem uf (l r:Int):yg (some l) r = max l r:=by
 show (if l > r then l else r) = _
 split <;> omega
theorem wR (h r:Int):yh (some h) r = min h r:=by
 show (if h < r then h else r) = _
 split <;> omega
theorem XQ (r:Int):yg none r = r:=rfl
theorem XR (r:Int):yh none r = r:=rfl
theorem qR {l x y:Int} (h:x <= y):max l x <= max l y:=by omega
theorem qS {l x y:Int} (h:x <= y):min l x <= min l y:=by omega
theorem vL {d:Deed} {v w:Int} (h:v <= w):d.mk' v <= d.mk' w:=by
 obtain ⟨a,lo,hi⟩:=d
 have h':v + a <= w + a:=Int.add_le_add_right h a
 cases lo with
 | none =>
  cases hi with
  | none=>exact h'
  | some u=>simp only [Deed.mk',wR,XQ]; exact qS h'
 | some l =>
  cases hi with
  | none=>simp only [Deed.mk',uf,XR]; exact qR h'
  | some u=>simp only [Deed.mk',uf,wR]; exact qS (qR h')
theorem Xa {d e:Deed} (od:d.Ok) (oe:e.Ok):(ue d e).Ok:=by
 refine rN fun l u e1 e2=>?_
 obtain ⟨a,lo,hi⟩:=d
 obtain ⟨a',lo',hi'⟩:=e
 cases lo with
 | none =>
  have e1':lo' = some l:=e1
  subst e1'
  cases hi with
  | none =>
   have e2':hi' = some u:=e2
   subst e2'
   have:=ZD oe; omega
  | some h =>
   have e2':(Deed.mk a' (some l) hi').mk' h = u:=Option.some.inj e2
   subst e2'
   cases hi' with
   | none=>rw [Uf]; split <;> omega
   | some h' =>
    have:=ZD oe
    rw [Y9]; (repeat' split) <;> omega
 | some l0 =>
  have e1':(Deed.mk a' lo' hi').mk' l0 = l:=Option.some.inj e1
  subst e1'
  cases hi with
  | none =>
   have e2':hi' = some u:=e2
   subst e2'
   cases lo' with
   | none=>rw [Ug]; split <;> omega
   | some l' =>
    have:=ZD oe
    rw [Y9]; (repeat' split) <;> omega
  | some h =>
   have e2':(Deed.mk a' lo' hi').mk' h = u:=Option.some.inj e2
   subst e2'
   have:=ZD od
   exact vL (by omega)
theorem XS {d:Deed} (x y:Int):d.mk' (max x y) = max (d.mk' x) (d.mk' y):=by
 rcases Int.le_total x y with h | h
 ·rw [Int.max_eq_right h,Int.max_eq_right (vL h)]
 ·rw [Int.max_eq_left h,Int.max_eq_left (vL h)]
theorem XT {d:Deed} (x y:Int):d.mk' (min x y) = min (d.mk' x) (d.mk' y):=by
 rcases Int.le_total x y with h | h
 ·rw [Int.min_eq_left h,Int.min_eq_left (vL h)]
 ·rw [Int.min_eq_right h,Int.min_eq_right (vL h)]
theorem Uh {F m W:Int} (h:m <= F):max F W = max F (max m W):=by omega
theorem Ui {F u L:Int} (h:F <= u):min F L = min F (min u L):=by omega
theorem mm_x {F u W:Int} (h:F <= u):min u (max F W) = max F (min u W):=by omega
theorem Uj {F G C W:Int} (h:C = W \/ (W < C /\ C <= F) \/ (C < W /\ F <= C /\ G <= C)):min G (max F W) = min G (max F C):=by
 rcases h with rfl | ⟨h1,h2⟩ | ⟨h1,h2,h3⟩
 ·rfl
 ·rw [Int.max_eq_left h2,Int.max_eq_left (Int.le_trans (Int.le_of_lt h1) h2)]
 ·rw [Int.max_eq_right h2,Int.max_eq_right (Int.le_trans h2 (Int.le_of_lt h1)),Int.min_eq_left h3,Int.min_eq_left (Int.le_trans h3 (Int.le_of_lt h1))]
theorem Vm {a:Int} {lo hi:Option Int} (o:∀ l h,lo = some l -> hi = some h -> l <= h) (W:Int) :
  yh hi (yg lo W) = W \/ (W < yh hi (yg lo W) /\ ∀ x,yh hi (yg lo W) <= (Deed.mk a lo hi).mk' x) \/ (yh hi (yg lo W) < W /\ ∀ x,(Deed.mk a lo hi).mk' x <= yh hi (yg lo W)):=by
 cases lo with
 | none =>
  cases hi with
  | none=>exact .inl rfl
  | some h =>
   simp only [Deed.mk',wR,XQ]
   rcases Int.le_total W h with c | c
   ·exact .inl (Int.min_eq_right c)
   ·rw [Int.min_eq_left c]
    rcases Int.lt_or_eq_of_le c with d | d
    ·exact .inr (.inr ⟨d,fun x=>Int.min_le_left _ _⟩)
    ·exact .inl d
 | some l =>
  cases hi with
  | none =>
   simp only [Deed.mk',uf,XR]
   rcases Int.le_total l W with c | c
   ·exact .inl (Int.max_eq_right c)
   ·rw [Int.max_eq_left c]
    rcases Int.lt_or_eq_of_le c with d | d
    ·exact .inr (.inl ⟨d,fun x=>Int.le_max_left _ _⟩)
    ·exact .inl d.symm
  | some h =>
   have lh:=o l h rfl rfl
   simp only [Deed.mk',uf,wR]
   rcases Int.lt_or_le W l with c | c
   ·rw [Int.max_eq_left (Int.le_of_lt c),Int.min_eq_right lh]
    exact .inr (.inl ⟨c,fun x=>Int.le_min.mpr ⟨lh,Int.le_max_left _ _⟩⟩)
   ·rw [Int.max_eq_right c]
    rcases Int.lt_or_le h W with d | d
    ·rw [Int.min_eq_left (Int.le_of_lt d)]
     exact .inr (.inr ⟨d,fun x=>Int.min_le_left _ _⟩)
    ·exact .inl (Int.min_eq_right d)
theorem Xb {d e:Deed} (od:d.Ok) (oe:e.Ok) (v:Int):(ue d e).mk' v = e.mk' (d.mk' v):=by
 unfold ue
 rw [Wm]
 obtain ⟨a,lo,hi⟩:=d
 obtain ⟨a',lo',hi'⟩:=e
 have q2:∀ l h,lo' = some l -> hi' = some h -> l <= h:=fun l h e1 e2=>by
  subst e1 e2
  rcases ZD oe with z | z
  ·exact Int.le_of_lt z
  ·exact Int.le_of_eq z.1
 have ew:v + (a + a') = v + a + a':=(Int.add_assoc v a a').symm
 have ef:∀ w,(Deed.mk a' lo' hi').mk' w = yh hi' (yg lo' (w + a')):=fun _=>rfl
 have fu:∀ u,hi' = some u -> ∀ w,(Deed.mk a' lo' hi').mk' w <= u:=fun u e w=>by
  rw [ef,e,wR]; exact Int.min_le_left _ _
 have fm:∀ m,lo' = some m -> ∀ w,m <= (Deed.mk a' lo' hi').mk' w:=fun m e w=>by
  rw [ef,e,uf]
  cases hi' with
  | none=>exact Int.le_max_left _ _
  | some h=>rw [wR]; exact Int.le_min.mpr ⟨q2 m h e rfl,Int.le_max_left _ _⟩
 cases lo with
 | none =>
  cases hi with
  | none =>
   show yh hi' (yg lo' (v + (a + a'))) = yh hi' (yg lo' (v + a + a'))
   rw [ew]
  | some h =>
   show yh (some ((Deed.mk a' lo' hi').mk' h)) (yg lo' (v + (a + a'))) = (Deed.mk a' lo' hi').mk' (yh (some h) (v + a))
   rw [wR,wR,XT,ew,ef (v + a)]
   cases hi' with
   | none=>rfl
   | some u=>rw [wR u]; exact Ui (fu u rfl h)
 | some l =>
  cases hi with
  | none =>
   show yh hi' (yg (some ((Deed.mk a' lo' hi').mk' l)) (v + (a + a'))) = (Deed.mk a' lo' hi').mk' (yg (some l) (v + a))
   rw [uf,uf,XS,ew,ef (v + a)]
   have g:max ((Deed.mk a' lo' hi').mk' l) (v + a + a') = max ((Deed.mk a' lo' hi').mk' l) (yg lo' (v + a + a')):=by
    cases lo' with
    | none=>rfl
    | some m=>rw [uf]; exact Uh (fm m rfl l)
   rw [g]
   cases hi' with
   | none=>rfl
   | some u=>rw [wR,wR]; exact mm_x (fu u rfl l)
  | some h =>
   show yh (some ((Deed.mk a' lo' hi').mk' h)) (yg (some ((Deed.mk a' lo' hi').mk' l)) (v + (a + a'))) = (Deed.mk a' lo' hi').mk' (yh (some h) (yg (some l) (v + a)))
   rw [wR,uf,wR,uf,XT,XS,ew,ef (v + a)]
   refine Uj ?_
   rcases Vm (a:=a') q2 (v + a + a') with z | z | z
   ·exact .inl z
   ·exact .inr (.inl ⟨z.1,z.2 l⟩)
   ·exact .inr (.inr ⟨z.1,z.2 l,z.2 h⟩)
theorem rO {σ:L2.St} {H:Hp} {A B:Hp -> Prop} (h:A H):uX σ H (fun b H4=>if b = true then A H4 else B H4):=by
 show if true = true then A H else B H
 rw [if_pos rfl]; exact h
theorem xL {c:Bool} {A B:Prop} (e:c = false) (h:B):if c = true then A else B:=by rw [e]; exact iteF h
theorem wg {c:Bool} {A B:Prop} (e:c = true) (h:A):if c = true then A else B:=by rw [e]; exact iteT h
theorem uY {K:FG7} {a:Addr} {xs:List V} {g:TG} {tt:TT} {te:TE} {Q:VK} {σ:L2.St} {H:Hp} (Pv:Nat -> List V -> L2.St -> Hp -> Prop) (h0:Pv 0 [] σ H) (hl:∀ i ys σ H,i <= xs.length -> Pv i ys σ H -> SqT K H a xs)
  (hs:∀ i x ys σ H,xs[i]? = some x -> Pv i ys σ H -> g x σ H fun σ2 H3=>tt σ2 H3 fun b H4=>if b = true then te σ2 H4 fun y H5=>ys.length < sizeLine /\ Pv (i + 1) (ys ++ [y]) σ2 H5 else Pv (i + 1) ys σ2 H4)
  (hd:∀ ys σ H,Pv xs.length ys σ H -> ∀ l,H l = none -> Q (.ref l) (upd H l (.lst ys))) :
  wt (Itt K a) σ H g tt te Q:=by
 refine ⟨fun i m ys σ H=>m = xs.length - i /\ i <= xs.length /\ Pv i ys σ H,⟨xs.length,by simp,Nat.zero_le _,h0⟩,?_⟩
 rintro i m ys σ H ⟨rfl,hi,p⟩
 have q:=hl i ys σ H hi p
 by_cases hlt:i < xs.length
 ·refine .inr ⟨⟨xs,xs[i],q,by simp [hlt]⟩,Pv (i + 1),fun zs σ' H' p'=>⟨xs.length - (i + 1),by omega,rfl,hlt,p'⟩,fun x H' y=>?_⟩
  obtain ⟨e,y⟩:=y
  subst e
  exact hs i x ys σ _ (y xs q) p
 ·have e:i = xs.length:=by omega
  subst e
  exact .inl ⟨⟨xs,q,Nat.le_refl _⟩,hd ys σ H p⟩
theorem sx {K:FG7} {a:Addr} {xs:List V} {g:TG} {tt:TT} {te:TE} {Q:VK} {σ:L2.St} {H:Hp} (Pv:Nat -> List V -> L2.St -> Hp -> Prop) (h0:Pv 0 [] σ H) (hl:∀ i ys σ H,i <= xs.length -> Pv i ys σ H -> SqL K H a xs)
  (hs:∀ i x ys σ H,xs[i]? = some x -> Pv i ys σ H -> g x σ H fun σ2 H3=>tt σ2 H3 fun b H4=>if b = true then te σ2 H4 fun y H5=>ys.length < sizeLine /\ Pv (i + 1) (ys ++ [y]) σ2 H5 else Pv (i + 1) ys σ2 H4)
  (hd:∀ ys σ H,Pv xs.length ys σ H -> ∀ l,H l = none -> Q (.ref l) (upd H l (.lst ys))) :
  wt (Itl K a) σ H g tt te Q:=by
 refine ⟨fun i m ys σ H=>m = xs.length - i /\ i <= xs.length /\ Pv i ys σ H,⟨xs.length,by simp,Nat.zero_le _,h0⟩,?_⟩
 rintro i m ys σ H ⟨rfl,hi,p⟩
 have q:=hl i ys σ H hi p
 by_cases hlt:i < xs.length
 ·refine .inr ⟨⟨xs,xs[i],q,by simp [hlt]⟩,Pv (i + 1),fun zs σ' H' p'=>⟨xs.length - (i + 1),by omega,rfl,hlt,p'⟩,fun x H' y=>?_⟩
  obtain ⟨e,y⟩:=y
  subst e
  exact hs i x ys σ _ (y xs q) p
 ·have e:i = xs.length:=by omega
  subst e
  exact .inl ⟨⟨xs,q,Nat.le_refl _⟩,hd ys σ H p⟩
theorem vM {X:Cx} {K:FG7} (h:X.K = K):IxR X (rIxT K):=by subst h; exact yO
theorem Vn {a:Int} {hi:Option Int}:vo a none hi = ⟨a,none,hi⟩:=by simp [vo]
theorem Vo {a l:Int}:vo a (some l) (some l) = ⟨0,some l,some l⟩:=by simp [vo]
theorem XU {a l:Int} {hi:Option Int} (h:some l ≠ hi):vo a (some l) hi = ⟨a,some l,hi⟩:=by simp [vo,h]
def ZE (_:FG7):Sp:=sp3 fun x y z H Q=>∃ a lo hi,x = .int a /\ y = ov lo /\ z = ov hi /\ ∀ t,H t = none -> Q (.ref t) (upd H t (.tup (vo a lo hi).vs))
def sy (K:FG7):Sp:=sp2 fun x y H Q=>∃ d e,zx K H x d /\ zx K H y e /\ ∀ t,H t = none -> Q (.ref t) (upd H t (.tup (ue d e).vs))
section
variable {K:FG7} {a:Addr} {xs:List V} {n:Nat} {tt:TT} {te:TE} {Q:VK} {σ:L2.St} {H:Hp}
theorem sB {p:V -> Bool} {f:V -> V} {i:Nat} {x:V} (hx:xs[i]? = some x):((xs.take (i + 1)).filter p).map f = ((xs.take i).filter p).map f ++ (if p x = true then [f x] else []):=by
 rw [List.take_add_one,hx,List.filter_append,List.map_append]
 congr 1
 show ((([x]:List V)).filter p).map f = _
 by_cases c:p x = true
 ·rw [if_pos c,List.filter_cons_of_pos c]; rfl
 ·rw [if_neg c,List.filter_cons_of_neg c]; rfl
theorem Xc {p:V -> Bool} {f:V -> V} {i:Nat} (h:xs.length <= 1000):(((xs.take i).filter p).map f).length < sizeLine:=by
 rw [List.length_map]
 refine yJ ?_
 have:=List.length_filter_le p (xs.take i)
 have:=List.length_take_le i xs
 have:(xs.take i).length <= xs.length:=by rw [List.length_take]; omega
 omega
theorem Xd {p:V -> Bool} {f:V -> V}:((xs.take xs.length).filter p).map f = (xs.filter p).map f:=by rw [List.take_length]
theorem jx (p:V -> Bool) (f:V -> V) (hl:SqT K H a xs) (hlen:xs.length <= 1000)
  (ht:∀ x H' (R:Bool -> Hp -> Prop),x ∈ xs -> Grow [] H H' -> (∀ H2,Grow [] H' H2 -> R (p x) H2) -> tt (σ.set n (some x)) H' R)
  (hs:∀ x H' (R:VK),x ∈ xs -> p x = true -> Grow [] H H' -> (∀ H2,Grow [] H' H2 -> R (f x) H2) -> te (σ.set n (some x)) H' R)
  (hd:∀ H' l,Grow [] H H' -> H' l = none -> Q (.ref l) (upd H' l (.lst ((xs.filter p).map f)))):wt (Itt K a) σ H (vm n) tt te Q:=by
 refine uY (xs:=xs) (fun i ys σ' H'=>Grow [] H H' /\ (σ' = σ \/ ∃ e,σ' = σ.set n e) /\ ys = ((xs.take i).filter p).map f) ⟨Grow.refl _ _,.inl rfl,rfl⟩ ?_ ?_ ?_
 ·rintro i ys σ' H' _ ⟨g,_⟩
  exact g.sqT hl
 ·rintro i x ys σ' H' hx ⟨g,hσ,rfl⟩
  have e:σ'.set n (some x) = σ.set n (some x):=by
   rcases hσ with rfl | ⟨e,rfl⟩
   ·rfl
   ·rw [List.set_set]
  show tt (σ'.set n (some x)) H' _
  rw [e]
  refine ht x H' _ (List.mem_of_getElem? hx) g fun H2 g2=>?_
  by_cases c:p x = true
  ·rw [if_pos c]
   refine hs x H2 _ (List.mem_of_getElem? hx) c (g.trans g2) fun H3 g3=>⟨Xc hlen,(g.trans g2).trans g3,.inr ⟨_,rfl⟩,?_⟩
   rw [sB hx,if_pos c]
  ·rw [if_neg c]
   refine ⟨g.trans g2,.inr ⟨_,rfl⟩,?_⟩
   rw [sB hx,if_neg c,List.append_nil]
 ·rintro ys σ' H' ⟨g,_,rfl⟩ l hl
  rw [Xd]
  exact hd H' l g hl
theorem Xe {p:V -> Bool} (h:∀ x,p x = true):xs.filter p = xs:=List.filter_eq_self.mpr fun x _=>h x
theorem wu (f:V -> V) (hl:SqT K H a xs) (hlen:xs.length <= 1000)
  (hs:∀ x H' (R:VK),x ∈ xs -> Grow [] H H' -> (∀ H2,Grow [] H' H2 -> R (f x) H2) -> te (σ.set n (some x)) H' R)
  (hd:∀ H' l,Grow [] H H' -> H' l = none -> Q (.ref l) (upd H' l (.lst (xs.map f)))):wt (Itt K a) σ H (vm n) uX te Q :=
 jx (fun _=>true) f hl hlen (fun x H' R _ _ k=>k H' (Grow.refl _ _)) (fun x H' R hx _ g k=>hs x H' R hx g k) (fun H' l g hl=>by rw [Xe fun _=>rfl]; exact hd H' l g hl)
end
theorem nd {d e:Deed} (h:d = e):(!decide (d = e)) = false:=by rw [decide_eq_true h]; rfl
mutual
inductive Dat (K:FG7) (H:Hp):V -> PyData -> Prop
 | non:Dat K H .non .none
 | bl (b:Bool):Dat K H (.bl b) (.bool b)
 | int (i:Int):Dat K H (.int i) (.int i)
 | tup {a:Addr} {xs:List V} {ds:List PyData}:SqT K H a xs -> DatAll K H xs ds -> Dat K H (.ref a) (.tuple ds)
 | lst {a:Addr} {xs:List V} {ds:List PyData}:SqL K H a xs -> DatAll K H xs ds -> Dat K H (.ref a) (.list ds)
inductive DatAll (K:FG7) (H:Hp):List V -> List PyData -> Prop
 | nil:DatAll K H [] []
 | cons {x:V} {xs:List V} {d:PyData} {ds:List PyData}:Dat K H x d -> DatAll K H xs ds -> DatAll K H (x :: xs) (d :: ds)
end
def oD:Option Int -> PyData
 | none=>.none
 | some i=>.int i
theorem XV {K:FG7} {H:Hp} (o:Option Int):Dat K H (ov o) (oD o):=by cases o; exact .non; exact .int _
theorem wv {α:Type} (xs:List α):(xs.map (fun _=>true)).all id = true:=by rw [List.all_eq_true]; intro x hx; obtain ⟨_,_,rfl⟩:=List.mem_map.mp hx; rfl
theorem Xf (gs:List Int):(gs.map V.int).map (fun _=>V.bl true) = (gs.map (fun _=>true)).map V.bl:=by rw [List.map_map,List.map_map]; rfl
section
variable {K:FG7} {a:Addr} {xs:List V} {lo:Int} {n k:Nat} {te:TE} {Q:VK} {σ:L2.St} {H:Hp}
theorem yP (Pv:Nat -> List V -> Hp -> Prop) (h0:Pv 0 [] H)
  (hs:∀ i ys H',i < n -> Pv i ys H' -> te (σ.set k (some (.int (lo + i)))) H' fun y H5=>ys.length < sizeLine /\ Pv (i + 1) (ys ++ [y]) H5)
  (hd:∀ ys H',Pv n ys H' -> ∀ l,H' l = none -> Q (.ref l) (upd H' l (.lst ys))):wt (Itr lo n) σ H (vm k) uX te Q:=by
 refine ⟨fun i m ys σ' H'=>m = n - i /\ i <= n /\ (σ' = σ \/ ∃ e,σ' = σ.set k e) /\ Pv i ys H',⟨n,by simp,Nat.zero_le _,.inl rfl,h0⟩,?_⟩
 rintro i m ys σ' H' ⟨rfl,hi,hσ,p⟩
 by_cases hlt:i < n
 ·refine .inr ⟨hlt,fun zs σ2 H2=>(σ2 = σ \/ ∃ e,σ2 = σ.set k e) /\ Pv (i + 1) zs H2,fun zs σ2 H2 p'=>⟨n - (i + 1),by omega,rfl,hlt,p'.1,p'.2⟩,fun x H2 y=>?_⟩
  obtain ⟨e,y⟩:=y
  subst e y
  have e:σ'.set k (some (V.int (lo + i))) = σ.set k (some (V.int (lo + i))):=by
   rcases hσ with rfl | ⟨e,rfl⟩
   ·rfl
   ·rw [List.set_set]
  show if true = true then te (σ'.set k (some (V.int (lo + i)))) H2 (fun y H5=>ys.length < sizeLine /\ ((σ'.set k (some (V.int (lo + i))) = σ \/ ∃ e,σ'.set k (some (V.int (lo + i))) = σ.set k e) /\ Pv (i + 1) (ys ++ [y]) H5)) else ((σ'.set k (some (V.int (lo + i))) = σ \/ ∃ e,σ'.set k (some (V.int (lo + i))) = σ.set k e) /\ Pv (i + 1) ys H2)
  rw [if_pos rfl,e]
  have e2:(fun (y:V) (H5:Hp)=>ys.length < sizeLine /\ ((σ.set k (some (V.int (lo + i))) = σ \/ ∃ e,σ.set k (some (V.int (lo + i))) = σ.set k e) /\ Pv (i + 1) (ys ++ [y]) H5)) = fun y H5=>ys.length < sizeLine /\ Pv (i + 1) (ys ++ [y]) H5:=by
   funext y H5
   exact propext ⟨fun z=>⟨z.1,z.2.2⟩,fun z=>⟨z.1,.inr ⟨_,rfl⟩,z.2⟩⟩
  rw [e2]
  exact hs i ys H2 hlt p
 ·have e:i = n:=by omega
  subst e
  exact .inl ⟨Nat.le_refl _,hd ys H' p⟩
theorem jy (Pv:Nat -> List V -> Hp -> Prop) (h0:Pv 0 [] H) (hl:∀ i ys H',Pv i ys H' -> SqL K H' a xs)
  (hs:∀ i x ys H',xs[i]? = some x -> Pv i ys H' -> te (σ.set k (some x)) H' fun y H5=>ys.length < sizeLine /\ Pv (i + 1) (ys ++ [y]) H5)
  (hd:∀ ys H',Pv xs.length ys H' -> ∀ l,H' l = none -> Q (.ref l) (upd H' l (.lst ys))):wt (Itl K a) σ H (vm k) uX te Q:=by
 refine sx (xs:=xs) (fun i ys σ' H'=>(σ' = σ \/ ∃ e,σ' = σ.set k e) /\ Pv i ys H') ⟨.inl rfl,h0⟩ (fun i ys σ' H' _ p=>hl i ys H' p.2) ?_ (fun ys σ' H' p l hl=>hd ys H' p.2 l hl)
 rintro i x ys σ' H' hx ⟨hσ,p⟩
 have e:σ'.set k (some x) = σ.set k (some x):=by
  rcases hσ with rfl | ⟨e,rfl⟩
  ·rfl
  ·rw [List.set_set]
 show if true = true then te (σ'.set k (some x)) H' (fun y H5=>ys.length < sizeLine /\ ((σ'.set k (some x) = σ \/ ∃ e,σ'.set k (some x) = σ.set k e) /\ Pv (i + 1) (ys ++ [y]) H5)) else ((σ'.set k (some x) = σ \/ ∃ e,σ'.set k (some x) = σ.set k e) /\ Pv (i + 1) ys H')
 rw [if_pos rfl,e]
 have e2:(fun (y:V) (H5:Hp)=>ys.length < sizeLine /\ ((σ.set k (some x) = σ \/ ∃ e,σ.set k (some x) = σ.set k e) /\ Pv (i + 1) (ys ++ [y]) H5)) = fun y H5=>ys.length < sizeLine /\ Pv (i + 1) (ys ++ [y]) H5:=by
  funext y H5
  exact propext ⟨fun z=>⟨z.1,z.2.2⟩,fun z=>⟨z.1,.inr ⟨_,rfl⟩,z.2⟩⟩
 rw [e2]
 exact hs i x ys H' hx p
end
theorem Grow.fresh {m:List Addr} {H H':Hp} (h:∀ b ∈ m,H b = none) (g:Grow m H H'):Grow [] H H' :=
 ⟨fun b o _ q=>g.keep b o (fun z=>by rw [h b z] at q; cases q) q,g.tup,g.frz⟩
theorem Grow.less {m m':List Addr} {H H':Hp} (g:Grow m H H') (h:∀ b ∈ m,b ∈ m' \/ H b = none):Grow m' H H' :=
 ⟨fun b o n q=>g.keep b o (fun z=>by
  rcases h b z with w | w
  ·exact n w
  ·rw [w] at q; cases q) q,g.tup,g.frz⟩
theorem vN {n:Nat} {i:Int} (h0:0 <= i) (h:i.toNat < n):ixN n i = some i.toNat:=by
 unfold ixN; rw [if_pos h0,if_pos (by omega)]
theorem jz {xs:List V} {i:Int} {j:Nat} {v:V} (h:ixN xs.length i = some j) (hv:xs[j]? = some v):atI xs i = some v:=by
 unfold atI; rw [h]; exact hv
structure Ask where
 hand:Int
 box:Int
 deed:Deed
def ug (K:FG7) (H:Hp) (x:V) (k:Ask):Prop:=∃ r rd,x = .ref r /\ SqT K H r [.int k.hand,.int k.box,.ref rd] /\ SqT K H rd k.deed.vs
def AllA (K:FG7) (H:Hp):List V -> List Ask -> Prop
 | [],[]=>True
 | x :: xs,k :: ks=>ug K H x k /\ AllA K H xs ks
 | _,_=>False
def xf (K:FG7) (H:Hp) (x:V) (ks:List Ask):Prop:=∃ r xs,x = .ref r /\ SqT K H r xs /\ AllA K H xs ks
def zz (K:FG7) (H:Hp) (x:V) (b:List Int):Prop:=∃ r,x = .ref r /\ SqT K H r (b.map V.int)
def Xg (m:Nat) (k:Ask):Prop:=0 <= k.hand /\ k.hand <= 15 /\ 0 <= k.box /\ k.box < m /\ k.deed.Ok
theorem Grow.ask {m:List Addr} {H H':Hp} (g:Grow m H H') {K:FG7} {x:V} {k:Ask} (h:ug K H x k):ug K H' x k:=by
 obtain ⟨r,rd,e,h1,h2⟩:=h
 exact ⟨r,rd,e,g.sqT h1,g.sqT h2⟩
theorem Grow.allA {m:List Addr} {H H':Hp} (g:Grow m H H') {K:FG7}:∀ {xs:List V} {ks:List Ask},AllA K H xs ks -> AllA K H' xs ks
 | [],[],_=>trivial
 | _ :: _,_ :: _,⟨h,t⟩=>⟨g.ask h,g.allA t⟩
 | [],_ :: _,h=>h.elim
 | _ :: _,[],h=>h.elim
theorem Grow.asks {m:List Addr} {H H':Hp} (g:Grow m H H') {K:FG7} {x:V} {ks:List Ask} (h:xf K H x ks):xf K H' x ks:=by
 obtain ⟨r,xs,e,h1,h2⟩:=h
 exact ⟨r,xs,e,g.sqT h1,g.allA h2⟩
theorem Grow.board {m:List Addr} {H H':Hp} (g:Grow m H H') {K:FG7} {x:V} {b:List Int} (h:zz K H x b):zz K H' x b:=by
 obtain ⟨r,e,h1⟩:=h
 exact ⟨r,e,g.sqT h1⟩
theorem AllA.len {K:FG7} {H:Hp}:∀ {xs:List V} {ks:List Ask},AllA K H xs ks -> xs.length = ks.length
 | [],[],_=>rfl
 | _ :: xs,_ :: ks,⟨_,t⟩=>congrArg (· + 1) (AllA.len t)
 | [],_ :: _,h=>h.elim
 | _ :: _,[],h=>h.elim
theorem AllA.get {K:FG7} {H:Hp}:∀ {xs:List V} {ks:List Ask} {i:Nat} {x:V},AllA K H xs ks -> xs[i]? = some x -> ∃ k,ks[i]? = some k /\ ug K H x k
 | _ :: _,k :: _,0,x,⟨h,_⟩,e=>by
  obtain rfl:=Option.some.inj e
  exact ⟨k,rfl,h⟩
 | _ :: _,_ :: _,i + 1,x,⟨_,t⟩,e=>AllA.get (i:=i) t e
 | [],[],i,x,_,e=>by cases e
 | [],_ :: _,_,_,h,_=>h.elim
 | _ :: _,[],_,_,h,_=>h.elim
theorem AllA.snoc {K:FG7} {H:Hp}:∀ {xs:List V} {ks:List Ask} {x:V} {k:Ask},AllA K H xs ks -> ug K H x k -> AllA K H (xs ++ [x]) (ks ++ [k])
 | [],[],_,_,_,h=>⟨h,trivial⟩
 | _ :: _,_ :: _,_,_,⟨h,t⟩,q=>⟨h,AllA.snoc t q⟩
 | [],_ :: _,_,_,h,_=>h.elim
 | _ :: _,[],_,_,h,_=>h.elim
theorem ZF {xs:List Int} {i:Nat} (h:i < xs.length):xs[i]? = some (xs.getD i 0):=by
 rw [List.getD_eq_getElem?_getD,List.getElem?_eq_getElem h]; rfl
def InB (B:Int) (xs:List Int):Prop:=∀ v ∈ xs,-B < v /\ v < B
def Vp (xs:List Int):PyData:=.tuple (xs.map PyData.int)
def ZG (d:Deed):PyData:=.tuple [.int d.add,oD d.lo,oD d.hi]
def askD (k:Ask):PyData:=.tuple [.int k.hand,.int k.box,ZG k.deed]
theorem uZ {K:FG7} {H:Hp}:∀ xs:List Int,DatAll K H (xs.map V.int) (xs.map PyData.int)
 | []=>.nil
 | x :: xs=>.cons (.int x) (uZ xs)
theorem qT {K:FG7} {H:Hp} {r:Addr} {d:Deed} (h:SqT K H r d.vs):Dat K H (.ref r) (ZG d):=.tup h (.cons (.int _) (.cons (XV _) (.cons (XV _) .nil)))
theorem ug.dat {K:FG7} {H:Hp} {x:V} {k:Ask} (h:ug K H x k):Dat K H x (askD k):=by
 obtain ⟨r,rd,rfl,h1,h2⟩:=h
 exact .tup h1 (.cons (.int _) (.cons (.int _) (.cons (qT h2) .nil)))
theorem AllA.dat {K:FG7} {H:Hp}:∀ {xs:List V} {ks:List Ask},AllA K H xs ks -> DatAll K H xs (ks.map askD)
 | [],[],_=>.nil
 | _ :: _,_ :: _,⟨h,t⟩=>.cons h.dat (AllA.dat t)
 | [],_ :: _,h=>h.elim
 | _ :: _,[],h=>h.elim
def vd (K:FG7) (H:Hp) (x:V) (p:List Int × List Int):Prop:=∃ r r1 r2,x = .ref r /\ SqT K H r [.ref r1,.ref r2] /\ SqT K H r1 (p.1.map V.int) /\ SqT K H r2 (p.2.map V.int)
def Wn (p:List Int × List Int):PyData:=.tuple [Vp p.1,Vp p.2]
theorem vd.dat {K:FG7} {H:Hp} {x:V} {p:List Int × List Int} (h:vd K H x p):Dat K H x (Wn p):=by
 obtain ⟨r,r1,r2,rfl,h0,h1,h2⟩:=h
 exact .tup h0 (.cons (.tup h1 (uZ _)) (.cons (.tup h2 (uZ _)) .nil))
theorem Grow.told {m:List Addr} {H H':Hp} (g:Grow m H H') {K:FG7} {x:V} {p:List Int × List Int} (h:vd K H x p):vd K H' x p:=by
 obtain ⟨r,r1,r2,e,h0,h1,h2⟩:=h
 exact ⟨r,r1,r2,e,g.sqT h0,g.sqT h1,g.sqT h2⟩
def yK (K:FG7):Sp:=sp3 fun x y z H Q=>∃ i l u,x = .int i /\ y = .int l /\ z = .int u /\ Q (.bl (decide (l <= i) && decide (i <= u))) H
def vO (K:FG7):Sp:=sp1 fun x H Q=>∃ b,zz K H x b /\ 1 <= b.length /\ b.length <= 16 /\ ∀ H',Grow [] H H' -> Q (.bl true) H'
def ww (K:FG7):Sp:=sp1 fun x H Q=>∃ b,zz K H x b /\ 1 <= b.length /\ b.length <= 16 /\ ∀ H',Grow [] H H' -> Q .non H'
def sC (K:FG7):Sp:=sp2 fun x y H Q=>∃ b k,zz K H x b /\ ug K H y k /\ Xg b.length k /\ Q (.bl true) H
def vP (K:FG7):Sp:=sp2 fun x y H Q=>∃ b ks,zz K H x b /\ 1 <= b.length /\ b.length <= 16 /\ xf K H y ks /\ ks.length <= 1000 /\ (∀ k ∈ ks,Xg b.length k) /\ ∀ H',Grow [] H H' -> Q (.bl true) H'
def ve (K:FG7):Sp:=sp2 fun x y H Q=>∃ b ks,zz K H x b /\ 1 <= b.length /\ b.length <= 16 /\ xf K H y ks /\ ks.length <= 1000 /\ (∀ k ∈ ks,Xg b.length k) /\ ∀ H',Grow [] H H' -> Q .non H'
def sp4 (b:V -> V -> V -> V -> Hp -> VK -> Prop):Sp:=fun vs H Q _=>∃ x y z u,vs = [x,y,z,u] /\ b x y z u H Q
theorem xj {b:V -> V -> V -> V -> Hp -> VK -> Prop} {p q r s:Str}:∀ vs H Q E,sp4 b vs H Q E -> vs.length = [p,q,r,s].length:=fun vs H Q E h=>by
 obtain ⟨x,y,z,u,rfl,_⟩:=h; rfl
def AllR {α:Type} (R:V -> α -> Prop):List V -> List α -> Prop
 | [],[]=>True
 | x :: xs,k :: ks=>R x k /\ AllR R xs ks
 | _,_=>False
section
variable {α:Type} {R S:V -> α -> Prop}
theorem AllR.imp (h:∀ x k,R x k -> S x k):∀ {xs:List V} {ks:List α},AllR R xs ks -> AllR S xs ks
 | [],[],_=>trivial
 | _ :: _,_ :: _,⟨a,t⟩=>⟨h _ _ a,AllR.imp h t⟩
 | [],_ :: _,z=>z.elim
 | _ :: _,[],z=>z.elim
theorem AllR.len:∀ {xs:List V} {ks:List α},AllR R xs ks -> xs.length = ks.length
 | [],[],_=>rfl
 | _ :: xs,_ :: ks,⟨_,t⟩=>congrArg (· + 1) (AllR.len t)
 | [],_ :: _,h=>h.elim
 | _ :: _,[],h=>h.elim
theorem AllR.get:∀ {xs:List V} {ks:List α} {i:Nat} {x:V},AllR R xs ks -> xs[i]? = some x -> ∃ k,ks[i]? = some k /\ R x k
 | _ :: _,k :: _,0,x,⟨h,_⟩,e=>by
  obtain rfl:=Option.some.inj e
  exact ⟨k,rfl,h⟩
 | _ :: _,_ :: _,i + 1,x,⟨_,t⟩,e=>AllR.get (i:=i) t e
 | [],[],i,x,_,e=>by cases e
 | [],_ :: _,_,_,h,_=>h.elim
 | _ :: _,[],_,_,h,_=>h.elim
theorem AllR.getR:∀ {xs:List V} {ks:List α} {i:Nat} {k:α},AllR R xs ks -> ks[i]? = some k -> ∃ x,xs[i]? = some x /\ R x k
 | x :: _,_ :: _,0,k,⟨h,_⟩,e=>by
  obtain rfl:=Option.some.inj e
  exact ⟨x,rfl,h⟩
 | _ :: _,_ :: _,i + 1,k,⟨_,t⟩,e=>AllR.getR (i:=i) t e
 | [],[],i,k,_,e=>by cases e
 | [],_ :: _,_,_,h,_=>h.elim
 | _ :: _,[],_,_,h,_=>h.elim
theorem AllR.app:∀ {xs ys:List V} {ks js:List α},AllR R xs ks -> AllR R ys js -> AllR R (xs ++ ys) (ks ++ js)
 | [],_,[],_,_,h=>h
 | _ :: _,_,_ :: _,_,⟨h,t⟩,q=>⟨h,AllR.app t q⟩
 | [],_,_ :: _,_,h,_=>h.elim
 | _ :: _,_,[],_,h,_=>h.elim
theorem AllR.one {x:V} {k:α} (h:R x k):AllR R [x] [k]:=⟨h,trivial⟩
end
theorem zx.dat {K:FG7} {H:Hp} {x:V} {d:Deed} (h:zx K H x d):Dat K H x (ZG d):=by
 obtain ⟨r,rfl,h⟩:=h
 exact qT h
theorem datR {α:Type} {K:FG7} {H:Hp} {R:V -> α -> Prop} {f:α -> PyData} (h:∀ x k,R x k -> Dat K H x (f k)):∀ {xs:List V} {ks:List α},AllR R xs ks -> DatAll K H xs (ks.map f)
 | [],[],_=>.nil
 | _ :: _,_ :: _,⟨a,t⟩=>.cons (h _ _ a) (datR h t)
 | [],_ :: _,h=>h.elim
 | _ :: _,[],h=>h.elim
def look:Deed:=⟨0,none,none⟩
theorem CSc.nest {X0:Cx} {scope scope2:Scope} {N' N2:List Str} {sub sub2:List (Option Nat)} {cl:List (Str × Addr)} {C D:Addr} {fp:List Addr} {s:Shared} {H:Hp} (S:CSc X0 scope N' sub) (hk0:X0.env.scope.kind = .function)
  (h:((scope2.names.all fun y=>(y.2 != .free || scope.names.lookup y.1 == some .free) && (y.2 != .cell) && (y.2 != .local || scope2.names.lookup y.1 == some .local)) && (sub2.length == N2.length) &&
   ((N2.zip sub2).all fun p=>match p.2 with | none=>true | some i=>N'[i]? == some p.1 && scope.names.lookup p.1 == some .free && scope2.names.lookup p.1 == some .free)) = true)
  (hk:scope2.kind = .function):CSc (cxC X0 N' scope cl C D fp s H) scope2 N2 sub2:=by
 rw [Bool.and_eq_true,Bool.and_eq_true] at h
 obtain ⟨⟨h1,h2⟩,h3⟩:=h
 have k1:=fun y hy=>List.all_eq_true.mp h1 y hy
 have cellOf:∀ y:Str,scope.names.lookup y = some .free -> (relabel scope X0.env).names.lookup y = some .cell:=fun y hy=>xc hk0 (S.free (y,.free) (PySem.mem_of_lookup hy) rfl) hy
 refine ⟨fun y hy hf=>?_,fun y hy hc=>?_,hk,fun y hy hl=>?_,by simpa using h2,fun j y i hj hs=>?_⟩
 ·have:=k1 y hy
  simp only [hf,Bool.and_eq_true] at this
  have z:=this.1.1
  exact cellOf y.1 (by simpa using z)
 ·have:=k1 y hy
  simp only [hc,Bool.and_eq_true] at this
  simp at this
 ·have:=k1 y hy
  simp only [hl,Bool.and_eq_true] at this
  simpa using this.2
 ·have hm:(y,some i) ∈ N2.zip sub2:=by
   have:(N2.zip sub2)[j]? = some (y,some i):=by
    rw [List.getElem?_zip_eq_some]; exact ⟨hj,hs⟩
   exact List.mem_of_getElem? this
  have:=List.all_eq_true.mp h3 _ hm
  simp only [Bool.and_eq_true,beq_iff_eq] at this
  exact ⟨this.1.1,cellOf y this.1.2,this.2⟩
theorem rP {X:Cx} {K:FG7} (h:X.K = K):wf X (.type "tuple") (fun xs H Q=>∃ p ys,xs = [.ref p] /\ ((SqL K H p ys /\ ∀ l,H l = none -> Q (.ref l) (upd H l (.tup ys))) \/ (SqT K H p ys /\ Q (.ref p) H))):=by subst h; exact zn
def sp5 (b:V -> V -> V -> V -> V -> Hp -> VK -> Prop):Sp:=fun vs H Q _=>∃ x y z u w,vs = [x,y,z,u,w] /\ b x y z u w H Q
theorem ZH {b:V -> V -> V -> V -> V -> Hp -> VK -> Prop} {p q r s t:Str}:∀ vs H Q E,sp5 b vs H Q E -> vs.length = [p,q,r,s,t].length:=fun vs H Q E h=>by
 obtain ⟨x,y,z,u,w,rfl,_⟩:=h; rfl
def sp6 (b:V -> V -> V -> V -> V -> V -> Hp -> VK -> Prop):Sp:=fun vs H Q _=>∃ x y z u w k,vs = [x,y,z,u,w,k] /\ b x y z u w k H Q
theorem ZI {b:V -> V -> V -> V -> V -> V -> Hp -> VK -> Prop} {p q r s t u:Str}:∀ vs H Q E,sp6 b vs H Q E -> vs.length = [p,q,r,s,t,u].length:=fun vs H Q E h=>by
 obtain ⟨x,y,z,u,w,k,rfl,_⟩:=h; rfl
def zM (K:FG7) (H:Hp) (x:V) (rows:List (List Int)):Prop:=∃ r xs,x = .ref r /\ SqT K H r xs /\ AllR (zz K H) xs rows
theorem Grow.boardsR {m:List Addr} {H H':Hp} (g:Grow m H H') {K:FG7} {xs:List V} {rows:List (List Int)} (h:AllR (zz K H) xs rows):AllR (zz K H') xs rows:=h.imp fun _ _ z=>g.board z
theorem Grow.rows {m:List Addr} {H H':Hp} (g:Grow m H H') {K:FG7} {x:V} {rows:List (List Int)} (h:zM K H x rows):zM K H' x rows:=by
 obtain ⟨r,xs,e,h1,h2⟩:=h
 exact ⟨r,xs,e,g.sqT h1,g.boardsR h2⟩
theorem getI {xs:List Int} {i:Int} (h0:0 <= i) (h:i < xs.length):atI (xs.map V.int) i = some (V.int (xs.getD i.toNat 0)):=by
 have hj:i.toNat < xs.length:=by omega
 exact jz (vN h0 (by rw [List.length_map]; exact hj)) (by rw [List.getElem?_map,ZF hj]; rfl)
theorem Vq {K:FG7} {H:Hp} {xs:List V} {rows:List (List Int)} (h:AllR (zz K H) xs rows) {i:Int} (h0:0 <= i) (h1:i < rows.length):∃ a,atI xs i = some (V.ref a) /\ SqT K H a ((rows.getD i.toNat []).map V.int):=by
 have hj:i.toNat < rows.length:=by omega
 have e:rows[i.toNat]? = some (rows.getD i.toNat []):=by rw [List.getD_eq_getElem?_getD,List.getElem?_eq_getElem hj]; rfl
 obtain ⟨x,hx,a,rfl,hs⟩:=h.getR e
 exact ⟨a,jz (vN h0 (by rw [h.len]; exact hj)) hx,hs⟩
section
variable {prog:Program} {w:World} {A:Around} {E:VS7} {s:Shared}
theorem rQ {jt t:Addr} {i:Nat} {vs:Array Value} {v:Value} {Q:VS7} (hit:s.heap.IsTupleIter jt t i) (ht:s.heap.IsTuple t vs) (hv:vs[i]? = some v)
  (hQ:∀ h',h'.IsTupleIter jt t (i + 1) -> Heap.SameBut jt s.heap h' -> Q v { s with heap:=h' }):wpAny (model prog w) A (Builtin.SmallTypes.nextOf (.ref jt)) Q E s:=by
 obtain ⟨oj,hoj,cj,dj⟩:=id hit
 obtain ⟨ot,hot,_,nt,dt⟩:=ht
 unfold Builtin.SmallTypes.nextOf
 refine wpAny_bind (wpAny_callSpecial?_slot (name:=Str.ofString "__next__") hit.typeIs F.slot_tuple_iterator_next (wpAny_call_entry F.slot_tuple_iterator_next hit.typeIs F.entry_tuple_iterator_next ?_ (F.args_tuple_iterator_next_1 _)))
 show wpAny _ _ (field (.ref jt) 0 >>= _) _ _ s
 refine wpAny_bind (wpAny_field hoj dj (x:=.ref t) rfl ?_); show wpAny _ _ (if (Value.ref t == Value.none) = true then _ else _) _ _ s
 rw [if_neg (show ¬ ((Value.ref t == Value.none) = true) by exact Bool.false_ne_true)]; show wpAny _ _ (field (.ref jt) 1 >>= _) _ _ s
 refine wpAny_bind (wpAny_field hoj dj (x:=.int i 0) rfl ?_); show wpAny _ _ (seqItems? (.ref t) >>= _) _ _ s
 refine wpAny_bind (wpAny_seqItems hot dt ?_); simp only [Int.toNat_natCast,hv]
 refine wpAny_bind (wpAny_setField hoj dj (by simp) (wpAny_pure ⟨v,rfl,wpAny_pure (hQ _ ⟨_,Heap.get?_update_self _ hoj (Obj.isFreed_of_fields (Obj.data_mapFields dj _)),(Obj.cls_mapFields ..).trans cj,by rw [Obj.data_mapFields dj]; simp [rawInt]⟩ (Heap.SameBut.update ..))⟩))
theorem uC {jt t:Addr} {i:Nat} {vs:Array Value} {Q:VS7} (hh:A.handled = none) (hit:s.heap.IsTupleIter jt t i) (ht:s.heap.IsTuple t vs) (hv:vs[i]? = none)
  (hE:∀ h' e,Heap.ExtBut jt s.heap h' -> (∃ o,h'.get? e = some o /\ o.cls = .type "StopIteration") -> E (.ref e) { s with heap:=h' }):wpAny (model prog w) A (Builtin.SmallTypes.nextOf (.ref jt)) Q E s:=by
 obtain ⟨oj,hoj,cj,dj⟩:=id hit
 obtain ⟨ot,hot,_,nt,dt⟩:=ht
 unfold Builtin.SmallTypes.nextOf
 refine wpAny_bind (wpAny_callSpecial?_slot (name:=Str.ofString "__next__") hit.typeIs F.slot_tuple_iterator_next (wpAny_call_entry F.slot_tuple_iterator_next hit.typeIs F.entry_tuple_iterator_next ?_ (F.args_tuple_iterator_next_1 _)))
 show wpAny _ _ (field (.ref jt) 0 >>= _) _ _ s
 refine wpAny_bind (wpAny_field hoj dj (x:=.ref t) rfl ?_); show wpAny _ _ (if (Value.ref t == Value.none) = true then _ else _) _ _ s
 rw [if_neg (show ¬ ((Value.ref t == Value.none) = true) by exact Bool.false_ne_true)]; show wpAny _ _ (field (.ref jt) 1 >>= _) _ _ s
 refine wpAny_bind (wpAny_field hoj dj (x:=.int i 0) rfl ?_); show wpAny _ _ (seqItems? (.ref t) >>= _) _ _ s
 refine wpAny_bind (wpAny_seqItems hot dt ?_); simp only [Int.toNat_natCast,hv]
 refine wpAny_bind (wpAny_rule (wpAny_bind (wpAny_setField hoj dj (by simp) ?_))); show wpAny _ _ (newExc (.type "StopIteration") [] >>= _) _ _ _
 refine wpAny_bind ?_; simp only [newExc,newTuple]
 refine wpAny_bind (wpAny_newObj_type ?_ (by size_fits)); refine wpAny_bind (m:=firstArgMember _ _) (wpAny_of_eq (a:=Value.none) (by first | rfl | (simp only [firstArgMember]; rfl)) ?_)
 refine wpAny_newObj_type ?_ (by size_fits); simp only [raiseNew]
 refine wpAny_bind (wpAny_handled ?_); (first | rw [show A.in1.handled = none from hh] | rw [hh])
 exact wpAny_bind (wpAny_pure (wpAny_throw (hE _ _ (((Heap.SameBut.update ..).extBut.push _).push _) ⟨_,Heap.get?_push_size _ rfl,rfl⟩)))
end
theorem ZJ {prog:Program} {w:World} {A:Around} (hh:A.handled = none) (jt t:Addr) (hne:t ≠ jt) (vs:Array Value) :
  Draws prog w A jt [jt,t] vs.size (fun i v=>vs[i]? = some v) (fun i h=>h.IsTupleIter jt t i /\ h.IsTuple t vs) where
 live:=fun _ _ st=>let ⟨o,ho,_⟩:=st.1; ⟨o,ho⟩
 frame:=fun _ _ _ st hk=>⟨st.1.at (hk jt (by simp)),st.2.at (hk t (by simp))⟩
 item:=fun i s Q E hi st hQ=>rQ st.1 st.2 (v:=vs[i]) (by simp [hi]) fun h' hit' hs'=>hQ _ h' s.toks (by simp [hi]) ⟨hit',st.2.extBut hs'.extBut hne⟩ hs'
 done:=fun s Q E st hE=>uC hh st.1 st.2 (by simp) hE
theorem ZK {prog:Program} {w:World} {A:Around} (hh:A.handled = none) (jt t:Addr) (vs:Array Value) {i:Nat} (hv:vs[i]? = none) :
  Draws prog w A jt [jt,t] i (fun _ _=>True) (fun j h=>j = i /\ h.IsTupleIter jt t i /\ h.IsTuple t vs) where
 live:=fun _ _ st=>let ⟨o,ho,_⟩:=st.2.1; ⟨o,ho⟩
 frame:=fun _ _ _ st hk=>⟨st.1,st.2.1.at (hk jt (by simp)),st.2.2.at (hk t (by simp))⟩
 item:=fun j s Q E hj st hQ=>absurd st.1 (Nat.ne_of_lt hj)
 done:=fun s Q E st hE=>uC hh st.2.1 st.2.2 hv hE
section
variable {X:Cx} {pins:List (Addr × Obj)} {σ:L2.St} {H:Hp} {s:Shared} {h':Heap}
theorem u7 {fp:List Addr} {t':Nat} (I:Inv X pins σ H s) (k:∀ b o,b ∉ fp -> s.heap.get? b = some o -> h'.get? b = some o) (ff:∀ b ∈ fp,FpOk X pins H b):Inv X pins σ H { s with heap:=h',toks:=t' }:=by
 have nit:∀ b u,H b = some u -> b ∉ fp:=fun b u e z=>by rw [(ff b z).1] at e; cases e
 refine I.step (g':=s.gens) (d':=s.drawn) (ch:=fp) (fun b hb=>?_) (fun b o _ _ hc e _=>k b o hc e) (fun b o _ _ hc e _=>⟨o.slots,k b o hc e⟩) (fun _ _ _ _ n=>n) (fun b o hc e=>⟨o,k b o hc e⟩) (fun _ _ e=>e) (fun _ _ _ e=>e) (fun b ps e=>⟨#[],by rw [e]; simp⟩) (fun m hm=>?_) (fun b u e=>?_) I.bare
 ·obtain ⟨_,f1,_,f3,f4,f5⟩:=ff b hb
  exact ⟨f3,f1,f4,f5⟩
 ·obtain ⟨o,es,ep,ho,r⟩:=hm
  exact ⟨o,es,ep,k _ o (fun z=>(ff _ z).2.1 rfl) ho,r⟩
 ·refine (I.hok b u e).stay (fun c v hc q=>k c v ?_ q) (fun _ q=>q) fun _ _ q=>q
  rcases hc with z | z
  ·rw [z]; exact nit b u e
  ·exact nit c _ z
theorem tf {fp:List Addr} {T:Addr} {o:HO} {t':Nat} (I:Inv X pins σ H s) (k:∀ b o,b ∉ fp -> s.heap.get? b = some o -> h'.get? b = some o) (ff:∀ b ∈ fp,FpOk X pins H b) (hT:s.heap.objs.size <= T)
  (new:z7 X.prog X.w (upd H T o) h' T o):Inv X pins σ (upd H T o) { s with heap:=h',toks:=t' }:=by
 have hn:H T = none:=I.hok.fresh hT
 have I1:Inv X pins σ H { s with heap:=h',toks:=t' }:=u7 I k ff
 have hok:HOk X.prog X.w (upd H T o) h':=HOk.track I1.hok hn new
 refine I.step (g':=s.gens) (d':=s.drawn) (ch:=fp) (fun b hb=>?_) (fun b o _ _ hc e _=>k b o hc e) (fun b o _ _ hc e _=>⟨o.slots,k b o hc e⟩) (fun b u _ e n=>by rw [zp (Nat.ne_of_lt (Nat.lt_of_lt_of_le (Heap.lt_size e) hT))]; exact n) (fun b o hc e=>⟨o,k b o hc e⟩)
  (fun b xs e=>by rw [zp (zv e hn)]; exact e) (fun b u xs e=>by rw [zp (zv e hn)]; exact e) (fun b ps e=>⟨#[],by rw [zp (zv e hn),e]; simp⟩) (fun m hm=>?_) hok I.bare
 ·obtain ⟨_,f1,_,f3,f4,f5⟩:=ff b hb
  exact ⟨f3,f1,f4,f5⟩
 ·obtain ⟨o,es,ep,ho,r⟩:=hm
  exact ⟨o,es,ep,k _ o (fun z=>(ff _ z).2.1 rfl) ho,r⟩
end
section
variable {X:Cx} {elts:List Expr} {kt:Nat} {pt:Pos}
theorem XW:bootBuiltins "enumerate" = some (.type "enumerate"):=by decide +kernel
end
def figI (k st l:Int):Int:=Builtin.bitAnd (l / 2 ^ (k - st).toNat) 1
def wfI (k st l w:Int):Int:=Builtin.bitXor l (Builtin.bitXor (figI k st l) w * 2 ^ (k - st).toNat)
def wayN (k h s:Int):Nat -> Int
 | 0=>h
 | n + 1=>wfI k (1 + n) (wayN k h s n) (figI k (1 + n) s)
def swI (k st l:Int):Int:=Builtin.bitOr (l / 2 ^ (k - st + 1).toNat * 2 ^ (k - st).toNat) (Builtin.bitAnd l (1 * 2 ^ (k - st).toNat - 1))
def wx (k n:Int):List Int:=(List.range k.toNat).map fun i:Nat=>Builtin.bitAnd (n / 2 ^ (k - 1 - (0 + (i:Int))).toNat) 1
def numL (xs:List Int):Int:=xs.foldl (fun f o=>2 * f + o) 0
def yf (k h g:Int) (n:Nat):Int:=numL ((wx k g).take n ++ (wx k h).drop n)
def vQ (k l:Int) (st:Nat):Int:=numL ((wx k l).take (st - 1) ++ (wx k l).drop st)
theorem ZL:∀ k:Fin 5,∀ h:Fin 16,∀ g:Fin 16,h.val < 2 ^ k.val -> g.val < 2 ^ k.val -> ∀ n:Fin 5,n.val <= k.val →
  (wayN k.val h.val g.val n.val = yf k.val h.val g.val n.val /\ 0 <= yf k.val h.val g.val n.val /\ yf k.val h.val g.val n.val < 2 ^ k.val) ∧
  (1 <= n.val -> swI k.val n.val (yf k.val h.val g.val n.val) = vQ k.val (yf k.val h.val g.val (n.val - 1)) n.val /\ vQ k.val (yf k.val h.val g.val n.val) n.val = vQ k.val (yf k.val h.val g.val (n.val - 1)) n.val /\ 0 <= vQ k.val (yf k.val h.val g.val (n.val - 1)) n.val /\ vQ k.val (yf k.val h.val g.val (n.val - 1)) n.val < 16):=by
 decide +kernel
theorem ZM:∀ k:Fin 5,∀ st:Fin 5,st.val <= k.val -> ∀ l:Fin 16,(figI k.val st.val l.val = 0 \/ figI k.val st.val l.val = 1) /\ ∀ w:Fin 2,(Builtin.bitXor (figI k.val st.val l.val) w.val).natAbs < 2:=by
 decide +kernel
theorem sD {i j:Int} (h:-(2 ^ 60) < i /\ i < 2 ^ 60):IntMulOk i j:=PySem.IntMulOk.of_left (Nat.le_trans ((PySem.intBits_le_iff (m:=60)).mpr (by obtain ⟨a,b⟩:=h; omega)) (by decide))
theorem x9 {k:Nat} (h:k <= 4):CPow 1 (k:Int):=⟨by omega,by omega,by decide⟩
theorem zS {k:Nat} (h:k <= 4):(2:Nat) ^ k <= 16:=Nat.le_trans (Nat.pow_le_pow_right (by decide) h) (by decide)
theorem yv {k:Nat}:(1:Int) * 2 ^ ((k:Int)).toNat = ((2 ^ k:Nat):Int):=by rw [Int.toNat_natCast,Int.one_mul,Int.natCast_pow]; rfl
theorem Wo {k h g n:Nat} (k4:k <= 4) (hh:h < 2 ^ k) (hg:g < 2 ^ k) (hn:n <= k):wayN k h g n = yf k h g n /\ 0 <= yf k h g n /\ yf k h g n < 16:=by
 have p:=zS k4
 have z:=(ZL ⟨k,by omega⟩ ⟨h,by omega⟩ ⟨g,by omega⟩ hh hg ⟨n,by omega⟩ hn).1
 refine ⟨z.1,z.2.1,?_⟩
 have z3:yf k h g n < (2:Int) ^ k:=z.2.2
 have:((2 ^ k:Nat):Int) = (2:Int) ^ k:=Int.natCast_pow 2 k
 omega
theorem figF {k st:Nat} {l:Int} (k4:k <= 4) (hs:st <= k) (l0:0 <= l) (l1:l < 16):(figI k st l = 0 \/ figI k st l = 1) /\ ∀ w:Int,w = 0 \/ w = 1 -> (Builtin.bitXor (figI k st l) w).natAbs < 2 ^ 64:=by
 obtain ⟨n,rfl⟩:∃ n:Nat,l = n:=⟨l.toNat,by omega⟩
 have z:=ZM ⟨k,by omega⟩ ⟨st,by omega⟩ hs ⟨n,by omega⟩
 refine ⟨z.1,fun w hw=>?_⟩
 rcases hw with rfl | rfl
 ·exact Nat.lt_trans (z.2 0) (by decide)
 ·exact Nat.lt_trans (z.2 1) (by decide)
def qU (k h g:Nat):List Int:=(List.range (k + 1)).map fun n=>yf k h g n
theorem Uk {ys:List Int} {v:Int}:atI ((ys ++ [v]).map V.int) (-1) = some (V.int v):=by
 refine jz (j:=ys.length) ?_ ?_
 ·unfold ixN
  rw [List.length_map,List.length_append,if_neg (by decide),if_pos (by show -((ys.length + 1:Nat):Int) <= -1; omega)]
  exact congrArg some (by show (-1 + ((ys.length + 1:Nat):Int)).toNat = ys.length; omega)
 ·rw [List.getElem?_map]; simp
def wS (_:FG7):Sp:=sp2 fun x y H Q=>∃ k l:Nat,x = .int k /\ y = .int l /\ k <= 4 /\ l < 2 ^ k /\ Q (.bl true) H
def yX (_:FG7):Sp:=sp1 fun x H Q=>∃ k:Nat,x = .int k /\ k <= 4 /\ Q .non H
def vf (_:FG7):Sp:=sp2 fun x y H Q=>∃ k l:Nat,x = .int k /\ y = .int l /\ k <= 4 /\ l < 2 ^ k /\ Q .non H
def vR (_:FG7):Sp:=sp3 fun x y z H Q=>∃ (k st:Nat) (l:Int),x = .int k /\ y = .int st /\ z = .int l /\ st <= k /\ Q (.int (figI k st l)) H
def xk (_:FG7):Sp:=sp4 fun x y z u H Q=>∃ (k st:Nat) (l w:Int),x = .int k /\ y = .int st /\ z = .int l /\ u = .int w /\ k <= 4 /\ st <= k /\ 0 <= l /\ l < 16 /\ (w = 0 \/ w = 1) /\ Q (.int (wfI k st l w)) H
def wz (_:FG7):Sp:=sp4 fun x y z u H Q=>∃ (k st:Nat) (l s:Int),x = .int k /\ y = .int st /\ z = .int l /\ u = .int s /\ k <= 4 /\ st <= k /\ 0 <= l /\ l < 16 /\ 0 <= s /\ s < 16 /\ Q (.int (wfI k st l (figI k st s))) H
def XX (K:FG7):Sp:=sp3 fun x y z H Q=>∃ k h g:Nat,x = .int k /\ y = .int h /\ z = .int g /\ k <= 4 /\ h < 2 ^ k /\ g < 2 ^ k /\ ∀ y H',Grow [] H H' -> zz K H' y (qU k h g) -> Q y H'
def xg (_:FG7):Sp:=sp3 fun x y z H Q=>∃ (k st:Nat) (l:Int),x = .int k /\ y = .int st /\ z = .int l /\ k <= 4 /\ st <= k /\ 0 <= l /\ l < 16 /\ Q (.int (swI k st l)) H
abbrev lc2 (elt t0 i0 t1 i1:Expr) (ifs:List Expr) (scope:Scope) (pos:Pos):Expr:=.ListComp elt [⟨t0,i0,[],0⟩,⟨t1,i1,ifs,0⟩] scope pos
section
variable {prog:Program} {w:World} {A:Around} {R:Result -> Shared -> Prop} {s:Shared}
variable {elt t0 i0 t1 i1:Expr} {ifs:List Expr} {scope:Scope} {pos:Pos} {it acc:Value} {env:Env}
theorem Wp:compTurn (lc2 elt t0 i0 t1 i1 ifs scope pos) 0 it acc env = (do
      standAt i0.pos
      match ← pyNext it with
      | none=>pure (.done .next)
      | some u =>
        letOwnedTupleGo t0 it u
        assign t0 env u
        let mut ko:=true
        for d in ([]:List Expr) do
          if ko then ko ← isTrue d env (eval d env)
        if ko then
          let y ← eval i1 env
          standAt i1.pos
          let y ← foldedSetIterable i1 env y
          let _ ← runOwn (.compStart (lc2 elt t0 i0 t1 i1 ifs scope pos) 1 (← holding [y] (pyIter y)) acc env) env
        again (.compLoop (lc2 elt t0 i0 t1 i1 ifs scope pos) 0 it acc env)):=by rfl
theorem Wq:compTurn (lc2 elt t0 i0 t1 i1 ifs scope pos) 1 it acc env = (do
      standAt i1.pos
      match ← pyNext it with
      | none=>pure (.done .next)
      | some u =>
        letOwnedTupleGo t1 it u
        assign t1 env u
        let mut ko:=true
        for d in ifs do
          if ko then ko ← isTrue d env (eval d env)
        if ko then
          (do let _ ← call (.builtin "list.append") [acc,← eval elt env])
        again (.compLoop (lc2 elt t0 i0 t1 i1 ifs scope pos) 1 it acc env)):=by rfl
def noX:VS7:=fun _ _=>False
theorem Wr (I:Nat -> Shared -> Prop)
  (turn:∀ n s,I n s -> wpAny (model prog w) A (pyNext it) (fun r s₁=>match r with
   | none=>R (.ok .next) s₁
   | some v=>wpAny (model prog w) A (letOwnedTupleGo t1 it v) (fun _ s₂=>wpAny (model prog w) A (assign t1 env v) (fun _ s₃ =>
     wpAny (model prog w) A (forIn ifs true fun c r=>if r = true then do let ok ← isTrue c env (eval c env); pure (ForInStep.yield ok) else pure (ForInStep.yield r)) (fun ok s₄ =>
      if ok = true then wpAny (model prog w) A (eval elt env) (fun x s₅=>wpAny (model prog w) A (call (.builtin "list.append") [acc,x]) (fun _ s₆=>∃ m,m < n /\ I m s₆) noX s₅) noX s₄
      else ∃ m,m < n /\ I m s₄) noX s₃) noX s₂) noX s₁) noX s)
  (n:Nat) (h:I n s):codeAny (model prog w) A (.compLoop (lc2 elt t0 i0 t1 i1 ifs scope pos) 1 it acc env) R s:=by
 refine codeAny_loop rfl I (fun n s hI=>?_) n h
 show wpAny _ A ((compTurn (lc2 elt t0 i0 t1 i1 ifs scope pos) 1 it acc env).onRaise (fun x=>do noteFrame x env; theTreesLotGoes x)) _ _ s
 refine wpAny_noted ?_
 rw [Wq]
 have no:∀ (E:VS7) (e:Value) (s:Shared),noX e s -> E e s:=fun _ _ _ f=>f.elim
 refine wpAny_bind (wpAny_standAt (wpAny_bind (wpAny_mono (turn n s hI) (fun r s₁ h₁=>?_) (no _))))
 cases r with
 | none=>exact wpAny_pure h₁
 | some v =>
  refine wpAny_bind (wpAny_mono h₁ (fun _ s₂ h₂=>?_) (no _))
  refine wpAny_bind (wpAny_mono h₂ (fun _ s₃ h₃=>wpAny_bind (wpAny_mono h₃ (fun ok s₄ h₄=>?_) (no _))) (no _))
  cases ok with
  | true =>
   simp only [if_true] at h₄ ⊢
   exact wpAny_bind (wpAny_bind (wpAny_mono h₄ (fun x s₅ h₅=>wpAny_bind (wpAny_mono h₅ (fun _ s₆ h₆=>wpAny_pure (wpAny_pure ⟨rfl,h₆⟩)) (no _))) (no _)))
  | false =>
   simp only [Bool.false_eq_true,if_false] at h₄ ⊢
   first
    | exact wpAny_bind (wpAny_pure (wpAny_pure ⟨rfl,h₄⟩))
    | exact wpAny_pure ⟨rfl,h₄⟩
theorem Ws (I:Nat -> Shared -> Prop) (hs:∀ x,foldedSetIterable i1 env x = pure x)
  (turn:∀ n s,I n s -> wpAny (model prog w) A (pyNext it) (fun r s₁=>match r with
   | none=>R (.ok .next) s₁
   | some v=>wpAny (model prog w) A (letOwnedTupleGo t0 it v) (fun _ s₂=>wpAny (model prog w) A (assign t0 env v) (fun _ s₃ =>
     wpAny (model prog w) A (eval i1 env) (fun y s₄=>wpAny (model prog w) A (pyIter y) (fun j s₅ =>
      codeAny (model prog w) A (.compStart (lc2 elt t0 i0 t1 i1 ifs scope pos) 1 j acc env) (fun r s'=>match r with | .ok _=>∃ m,m < n /\ I m s' | .error _=>False) s₅) noX s₄) noX s₃) noX s₂) noX s₁) noX s)
  (n:Nat) (h:I n s):codeAny (model prog w) A (.compLoop (lc2 elt t0 i0 t1 i1 ifs scope pos) 0 it acc env) R s:=by
 refine codeAny_loop rfl I (fun n s hI=>?_) n h
 show wpAny _ A ((compTurn (lc2 elt t0 i0 t1 i1 ifs scope pos) 0 it acc env).onRaise (fun x=>do noteFrame x env; theTreesLotGoes x)) _ _ s
 refine wpAny_noted ?_
 rw [Wp]
 have no:∀ (E:VS7) (e:Value) (s:Shared),noX e s -> E e s:=fun _ _ _ f=>f.elim
 refine wpAny_bind (wpAny_standAt (wpAny_bind (wpAny_mono (turn n s hI) (fun r s₁ h₁=>?_) (no _))))
 cases r with
 | none=>exact wpAny_pure h₁
 | some v =>
  refine wpAny_bind (wpAny_mono h₁ (fun _ s₂ h₂=>?_) (no _))
  refine wpAny_bind (wpAny_mono h₂ (fun _ s₃ h₃=>wpAny_bind (wpAny_pure ?_)) (no _))
  simp only [if_true]
  refine wpAny_bind (wpAny_mono h₃ (fun y s₄ h₄=>wpAny_bind (wpAny_standAt (wpAny_bind (wpAny_of_eq (hs y) (wpAny_bind (wpAny_holding (wpAny_mono h₄ (fun j s₅ h₅=>?_) (no _)))))))) (no _))
  refine wpAny_bind (wpAny_runOwn (codeAny_mono h₅ fun r s' hr=>?_))
  cases r with
  | ok f=>first
    | exact wpAny_pure ⟨rfl,hr⟩
    | exact wpAny_pure (wpAny_pure ⟨rfl,hr⟩)
  | error e=>exact hr.elim
theorem Xh (h0:codeAny (model prog w) A (.compLoop (lc2 elt t0 i0 t1 i1 ifs scope pos) 1 it acc env) R s)
  (h:wpAny (model prog w) A (pyIter it) (fun it' s'=>codeAny (model prog w) A (.compLoop (lc2 elt t0 i0 t1 i1 ifs scope pos) 1 it' acc env) R s') noX s) :
  codeAny (model prog w) A (.compStart (lc2 elt t0 i0 t1 i1 ifs scope pos) 1 it acc env) R s:=by
 refine codeAny_of_tree ?_
 show wpAny _ _ ((compStart (lc2 elt t0 i0 t1 i1 ifs scope pos) 1 it acc env).onRaise (fun x=>do noteFrame x env; standAt theWindowsPlace)) _ _ s
 refine wpAny_notedAt ?_
 unfold compStart
 show wpAny _ _ (ask >>= _) _ _ s
 have no:∀ (E:VS7) (e:Value) (s:Shared),noX e s -> E e s:=fun _ _ _ f=>f.elim
 refine wpAny_bind (wpAny_askSetting (wpAny_ite ?_))
 split
 ·first
   | exact wpAny_bind (wpAny_pure (wpAny_pure ⟨rfl,h0⟩))
   | exact wpAny_pure ⟨rfl,h0⟩
 ·first
   | exact wpAny_bind (wpAny_rule (wpAny_bind (wpAny_standAt (wpAny_bind (wpAny_mono h (fun jt s' q=>wpAny_pure ⟨rfl,q⟩) (no _))))))
   | (refine wpAny_bind (wpAny_rule ?_); show wpAny _ _ (standAt i1.pos >>= _) _ _ s; exact wpAny_bind (wpAny_standAt (wpAny_bind (wpAny_mono h (fun jt s' q=>wpAny_pure ⟨rfl,q⟩) (no _)))))
end
def InW (J:It) (ys0:List V) (σ0:L2.St) (H1:Hp) (g:TG) (tt:TT) (te:TE) (Out:List V -> L2.St -> Hp -> Prop):Prop :=
 ∃ W:Nat -> Nat -> List V -> L2.St -> Hp -> Prop,(∃ m,W 0 m ys0 σ0 H1) /\ ∀ i m ys σ' H',W i m ys σ' H' →
  (J.stop i H' /\ Out ys σ' H') ∨
  (J.go i H' /\ ∃ Nn:List V -> L2.St -> Hp -> Prop,(∀ zs σ2 H2,Nn zs σ2 H2 -> ∃ m',m' < m /\ W (i + 1) m' zs σ2 H2) ∧
   ∀ x H2,J.yld i H' x H2 -> g x σ' H2 fun σ2 H3=>tt σ2 H3 fun b H4=>if b = true then te σ2 H4 fun y H5=>ys.length < sizeLine /\ Nn (ys ++ [y]) σ2 H5 else Nn ys σ2 H4)
def ZN (J:It) (σ0:L2.St) (H1:Hp) (g0:TG) (wi1:TI) (g1:TG) (tt:TT) (te:TE) (Q:VK):Prop :=
 ∃ W:Nat -> Nat -> List V -> L2.St -> Hp -> Prop,(∃ m,W 0 m [] σ0 H1) /\ ∀ i m ys σ' H',W i m ys σ' H' →
  (J.stop i H' /\ ∀ l,H' l = none -> Q (.ref l) (upd H' l (.lst ys))) ∨
  (J.go i H' /\ ∃ Nn:List V -> L2.St -> Hp -> Prop,(∀ zs σ2 H2,Nn zs σ2 H2 -> ∃ m',m' < m /\ W (i + 1) m' zs σ2 H2) ∧
   ∀ x H2,J.yld i H' x H2 -> g0 x σ' H2 fun σ2 H3=>wi1 σ2 H3 fun J2 H4=>InW J2 ys σ2 H4 g1 tt te Nn)
def Vr (wi:TI) (sub:List (Option Nat)) (g0:TG) (wi1:TI) (g1:TG) (tt:TT) (te:TE):TE:=fun σ H Q=>wi σ H fun J H1=>ZN J (capt sub σ) H1 g0 wi1 g1 tt te Q
section
variable {Y:Cx} {pins:List (Addr × Obj)} {D it2:Addr} {fp2:List Addr} {tn2:Nat -> Heap -> Prop} {J2:It} {y:Str} {py pos:Pos} {elt t0 i0 i1:Expr} {ifs:List Expr} {scope:Scope} {g1:TG} {tt:TT} {te:TE} {Out:List V -> L2.St -> Hp -> Prop} {W:Nat -> Nat -> List V -> L2.St -> Hp -> Prop} {R:Result -> Shared -> Prop}
theorem Vs (hxe:Y.xe = noX) (hcalm:Y.calm = true) (T:Turn Y.prog Y.w Y.K (.Name y py) J2 fp2 it2 tn2) (hD:∀ H':Hp,H' D = none -> FpOk Y pins H' D) (f2:∀ b ∈ fp2,∀ H':Hp,H' b = none -> FpOk Y pins H' b) (hDf:D ∉ fp2)
  (hg:PG Y (.Name y py) g1) (ht:PIfs Y ifs tt) (he:PE Y elt te)
  (turn:∀ i m ys σ' H',W i m ys σ' H' -> (J2.stop i H' /\ Out ys σ' H') ∨
   (J2.go i H' /\ ∃ Nn:List V -> L2.St -> Hp -> Prop,(∀ zs σ2 H2,Nn zs σ2 H2 -> ∃ m',m' < m /\ W (i + 1) m' zs σ2 H2) ∧
    ∀ x H2,J2.yld i H' x H2 -> g1 x σ' H2 fun σ2 H3=>tt σ2 H3 fun b H4=>if b = true then te σ2 H4 fun y H5=>ys.length < sizeLine /\ Nn (ys ++ [y]) σ2 H5 else Nn ys σ2 H4))
  (hR:∀ (ys:List V) (us:List Value) (k:Nat) (σ':L2.St) (H':Hp) (s':Shared),Inv Y pins σ' H' s' -> H' D = none -> s'.heap.get? D = some { cls:=.type "list",data:=.seq us.toArray k } -> Vals ys us -> ys.length <= sizeLine -> Out ys σ' H' -> R (.ok .next) s')
  (n:Nat) (s:Shared) (h:∃ i ys us k σ' H',Inv Y pins σ' H' s /\ tn2 i s.heap /\ (∀ b ∈ fp2,H' b = none) /\ H' D = none ∧
   s.heap.get? D = some { cls:=.type "list",data:=.seq (us:List Value).toArray k } /\ Vals ys us /\ ys.length <= sizeLine /\ W i n ys σ' H') :
  codeAny (model Y.prog Y.w) Y.A (.compLoop (lc2 elt t0 i0 (.Name y py) i1 ifs scope pos) 1 (.ref it2) (.ref D) Y.env) R s:=by
 refine Wr (fun n s=>∃ i ys us k σ' H',Inv Y pins σ' H' s /\ tn2 i s.heap /\ (∀ b ∈ fp2,H' b = none) /\ H' D = none ∧
   s.heap.get? D = some { cls:=.type "list",data:=.seq (us:List Value).toArray k } /\ Vals ys us /\ ys.length <= sizeLine /\ W i n ys σ' H') ?_ n h
 rintro n s ⟨i,ys,us,k,σ',H',I',st',fr,hn,hy,rv,hz,w'⟩
 obtain ⟨_,dL,dF,dE,dC,dP⟩:=hD H' hn
 have pD:Inv Y (pins ++ [(D,{ cls:=.type "list",data:=.seq us.toArray k })]) σ' H' s:=I'.pins_of fun p hp=>by
  rcases List.mem_append.mp hp with hp | hp
  ·exact I'.pin p (List.mem_append_right _ hp)
  ·rw [List.mem_singleton.mp hp]
   exact ⟨hy,hn,dL,dF,fun v z=>by cases z⟩
 have fpok:∀ {H'':Hp},(∀ b ∈ fp2,H'' b = none) -> ∀ b ∈ fp2,FpOk Y (pins ++ [(D,{ cls:=.type "list",data:=.seq us.toArray k })]) H'' b:=fun hz b hb=>by
  obtain ⟨q0,q1,q2,q3,q4,q5⟩:=f2 b hb _ (hz b hb)
  refine ⟨q0,q1,q2,q3,q4,fun p hp=>?_⟩
  rcases List.mem_append.mp hp with hp | hp
  ·exact q5 p (List.mem_append_left _ hp)
  ·rcases List.mem_append.mp hp with hp | hp
   ·exact q5 p (List.mem_append_right _ hp)
   ·rw [List.mem_singleton.mp hp]; exact fun z=>hDf (by rw [show D = b from z]; exact hb)
 rcases turn i n ys σ' H' w' with ⟨stop,q⟩ | ⟨go,Nn,hN,step⟩
 ·refine thn (T.done Y rfl rfl rfl hcalm i _ s σ' H' noX pD (fpok fr) st' stop) fun r s1 ⟨hr,I1⟩=>?_
  subst hr
  exact hR ys us k σ' H' s1 I1.unpinned hn (I1.pin (D,{ cls:=.type "list",data:=.seq us.toArray k }) (by simp)).1 rv hz q
 ·refine thn (T.item Y rfl rfl rfl hcalm i _ s σ' H' noX pD (fpok fr) st' go) fun r s1 ⟨u,hr,h4⟩=>?_
  subst hr
  refine thn h4 fun _ s2 ⟨x5,H5,I5,r5,y5,st5,fr5⟩=>?_
  have I5':=I5.pinned (fpok fr5) (T.obj _ _ st5)
  have hg5:=hg _ s2 σ' H5 x5 u _ I5' r5 (step x5 H5 y5)
  rw [hxe] at hg5
  refine thn hg5 fun _ s3 ⟨σ6,H6,I6,q6⟩=>?_
  have ht6:=ht _ s3 σ6 H6 _ I6 q6
  rw [hxe] at ht6
  refine thn ht6 fun ok s4 ⟨H7,I7,q7⟩=>?_
  have stay:∀ {σ7:L2.St} {H7:Hp} {s7:Shared},Inv Y (pins ++ [(D,{ cls:=.type "list",data:=.seq us.toArray k })] ++ xH fp2 s2.heap) σ7 H7 s7 →
    (∀ b ∈ fp2,∀ o,s2.heap.get? b = some o -> s7.heap.get? b = some o) /\ (∀ b ∈ fp2,H7 b = none) /\ H7 D = none /\ s7.heap.get? D = some { cls:=.type "list",data:=.seq us.toArray k }:=fun {σ7 H7 s7} I7=>by
   have d:=I7.pin (D,{ cls:=.type "list",data:=.seq us.toArray k }) (by simp)
   refine ⟨fun b hb o e=>(I7.pin (b,o) (List.mem_append_right _ (List.mem_append_right _ (zR hb e)))).1,fun b hb=>?_,d.2.1,d.1⟩
   obtain ⟨o,e,_⟩:=T.obj _ _ st5 b hb
   exact (I7.pin (b,o) (List.mem_append_right _ (List.mem_append_right _ (zR hb e)))).2.1
  cases ok with
  | false =>
   rw [if_neg (by decide)] at q7 ⊢
   obtain ⟨k1,k2,k3,k4⟩:=stay I7
   obtain ⟨m',hm,w7⟩:=hN ys σ6 H7 q7
   exact ⟨m',hm,i + 1,ys,us,k,σ6,H7,I7.unpinned.unpinned,T.keep _ _ _ st5 k1,k2,k3,k4,rv,hz,w7⟩
  | true =>
   rw [if_pos rfl] at q7 ⊢
   have he7:=he _ s4 σ6 H7 _ I7 q7
   rw [hxe] at he7
   refine thn he7 fun v s5 ⟨z8,H8,I8,r8,hl8,n8⟩=>?_
   obtain ⟨k1,k2,k3,k4⟩:=stay I8
   refine wpAny_list_append_plain (l:=D) ⟨k,k4⟩ (fun h' pl sb=>?_) (by rw [List.size_toArray,← rv.length]; exact hz)
   obtain ⟨k',e'⟩:=pl
   obtain ⟨m',hm,w8⟩:=hN _ σ6 H8 n8
   refine ⟨m',hm,i + 1,ys ++ [z8],us ++ [v],k',σ6,H8,?_,T.keep _ _ _ (T.keep _ _ _ st5 k1) fun b hb o e=>sb.extBut b o (fun z=>hDf (by rw [← z]; exact hb)) e,k2,k3,?_,rv.append (.cons r8 .nil),?_,w8⟩
   ·exact (I8.unpinned.unpinned).turned (it:=D) (t':=s5.toks) (h':=h') (fun b o hb e=>sb.extBut b o hb e) k3 dL dE dC dP
   ·rw [e']; simp
   ·rw [List.length_append]; exact hl8
end
section
variable {X:Cx} {pins:List (Addr × Obj)} {σ:L2.St} {H2:Hp} {s₂:Shared} {it:Addr} {fp:List Addr} {tn:Nat -> Heap -> Prop} {J:It} {scope:Scope} {cl:List (Str × Addr)} {N':List Str} {sub:List (Option Nat)}
theorem run2 {C D:Addr} {s₀:Shared} {x y:Str} {px py pos:Pos} {elt i0 i1:Expr} {ifs:List Expr} {g0 g1:TG} {wi1:TI} {tt:TT} {te:TE} {Q:VK} {RR:Value -> Addr -> Result -> Shared -> Prop} {W:Nat -> Nat -> List V -> L2.St -> Hp -> Prop}
  (I:Inv X pins σ H2 s₂) (hcalm:X.calm = true) (T:Turn X.prog X.w X.K (.Name x px) J fp it tn) (f2:∀ b ∈ fp,FpOk X pins H2 b) (hfp:∀ b ∈ fp,b < s₂.heap.objs.size)
  (hs₀:∀ b o,s₂.heap.get? b = some o -> s₀.heap.get? b = some o) (hos:s₀.os = s₂.os) (hD:s₂.heap.objs.size <= D) (hC:s₂.heap.objs.size <= C) (hDC:D ≠ C)
  (hcl1:∀ x c,cl.lookup x = some c -> X.env.cells.lookup x = some c)
  (hg0:PG (cxC X N' scope cl C D fp s₀ H2) (.Name x px) g0) (hi1:PI (cxC X N' scope cl C D fp s₀ H2) (.Name y py) i1 wi1) (hg1:PG (cxC X N' scope cl C D fp s₀ H2) (.Name y py) g1) (ht:PIfs (cxC X N' scope cl C D fp s₀ H2) ifs tt) (he:PE (cxC X N' scope cl C D fp s₀ H2) elt te)
  (hss:∀ v,foldedSetIterable i1 (compEnvC scope cl C X.env) v = pure v)
  (turn:∀ i m ys σ' H',W i m ys σ' H' →
   (J.stop i H' /\ ∀ l,H' l = none -> Q (.ref l) (upd H' l (.lst ys))) ∨
   (J.go i H' /\ ∃ Nn:List V -> L2.St -> Hp -> Prop,(∀ zs σ2 H2,Nn zs σ2 H2 -> ∃ m',m' < m /\ W (i + 1) m' zs σ2 H2) ∧
    ∀ x H2,J.yld i H' x H2 -> g0 x σ' H2 fun σ2 H3=>wi1 σ2 H3 fun J2 H4=>InW J2 ys σ2 H4 g1 tt te Nn))
  (hRR:∀ (D C:Addr) (oC:Obj) (m:Str -> Option Value) (s':Shared) (Hf:Hp),Inv X (pins ++ [(C,oC)]) σ Hf s' -> s'.heap.Ns C m -> FpOk X pins Hf C -> Q (.ref D) Hf -> RR (.ref D) C (.ok .next) s')
  (n:Nat) (s:Shared) (h:∃ i ys us k σ' H',Inv (cxC X N' scope cl C D fp s₀ H2) pins σ' H' s /\ tn i s.heap /\ (∀ b ∈ fp,H' b = none) /\ H' D = none ∧
   s.heap.get? D = some { cls:=.type "list",data:=.seq (us:List Value).toArray k } /\ Vals ys us /\ ys.length <= sizeLine /\ W i n ys σ' H') :
  codeAny (model X.prog X.w) X.A (.compLoop (lc2 elt (.Name x px) i0 (.Name y py) i1 ifs scope pos) 0 (.ref it) (.ref D) (compEnvC scope cl C X.env)) (RR (.ref D) C) s:=by
 have frsz:∀ b ∈ frs X.stack,b < s₂.heap.objs.size:=fun b hb=>by
  rcases List.mem_cons.mp (I.stkSub b hb) with z | z
  ·rw [z]; exact I.lt
  ·exact Nat.lt_of_not_le fun q=>I.nofs q z
 have cells:∀ x c,cl.lookup x = some c -> c < s₂.heap.objs.size:=fun x c e=>let ⟨v,q⟩:=I.cell x c (hcl1 x c e); q.lt
 have pinsz:∀ p ∈ X.pn ++ pins,p.1 < s₂.heap.objs.size:=fun p hp=>Heap.lt_size (I.pin p hp).1
 refine Ws (fun n s=>∃ i ys us k σ' H',Inv (cxC X N' scope cl C D fp s₀ H2) pins σ' H' s /\ tn i s.heap /\ (∀ b ∈ fp,H' b = none) /\ H' D = none ∧
   s.heap.get? D = some { cls:=.type "list",data:=.seq (us:List Value).toArray k } /\ Vals ys us /\ ys.length <= sizeLine /\ W i n ys σ' H') hss ?_ n h
 rintro n s ⟨i,ys,us,k,σ',H',I',st',fr,hn,hy,rv,hz,w'⟩
 have pD:Inv (cxC X N' scope cl C D fp s₀ H2) (pins ++ [(D,{ cls:=.type "list",data:=.seq us.toArray k })]) σ' H' s:=I'.pins_of fun p hp=>by
  rcases List.mem_append.mp hp with hp | hp
  ·exact I'.pin p (List.mem_append_right _ hp)
  ·rw [List.mem_singleton.mp hp]
   exact ⟨hy,hn,hDC,fun z=>absurd (Nat.lt_of_lt_of_le (frsz _ z) hD) (Nat.lt_irrefl _),fun v z=>by cases z⟩
 have fpok:∀ {H'':Hp},(∀ b ∈ fp,H'' b = none) -> ∀ b ∈ fp,FpOk (cxC X N' scope cl C D fp s₀ H2) (pins ++ [(D,{ cls:=.type "list",data:=.seq us.toArray k })]) H'' b:=fun hz b hb=>by
  refine ⟨hz b hb,Nat.ne_of_lt (Nat.lt_of_lt_of_le (hfp b hb) hC),fun z=>?_,.inl (List.mem_cons_of_mem _ hb),fun x c e=>(f2 b hb).2.2.2.2.1 x c (hcl1 x c e),fun p hp=>?_⟩
  ·rcases List.mem_cons.mp (I.stkSub b z) with z | z
   ·exact (f2 b hb).2.1 z
   ·exact (f2 b hb).2.2.1 z
  ·rcases List.mem_append.mp hp with hp | hp
   ·exact (f2 b hb).2.2.2.2.2 p (List.mem_append_left _ hp)
   ·rcases List.mem_append.mp hp with hp | hp
    ·exact (f2 b hb).2.2.2.2.2 p (List.mem_append_right _ hp)
    ·rw [List.mem_singleton.mp hp]
     exact Nat.ne_of_gt (Nat.lt_of_lt_of_le (hfp b hb) hD)
 rcases turn i n ys σ' H' w' with ⟨stop,q⟩ | ⟨go,Nn,hN,step⟩
 ·refine thn (T.done (cxC X N' scope cl C D fp s₀ H2) rfl rfl rfl hcalm i _ s σ' H' noX pD (fpok fr) st' stop) fun r s1 ⟨hr,I1⟩=>?_
  subst hr
  have hy1:=(I1.pin (D,{ cls:=.type "list",data:=.seq us.toArray k }) (by simp)).1
  obtain ⟨m,hm,_⟩:=I1.loc
  obtain ⟨oC,es,ep,hoC,hdC,_⟩:=id hm
  obtain ⟨IX,fpc⟩:=qQ I hs₀ hos hD hC hDC f2 I1.unpinned hn hy1 rv hz hoC (by intro v z; rw [hdC] at z; cases z)
  exact hRR D C oC m s1 _ IX hm fpc (q D hn)
 ·refine thn (T.item (cxC X N' scope cl C D fp s₀ H2) rfl rfl rfl hcalm i _ s σ' H' noX pD (fpok fr) st' go) fun r s1 ⟨u,hr,h4⟩=>?_
  subst hr
  refine thn h4 fun _ s2 ⟨x5,H5,I5,r5,y5,st5,fr5⟩=>?_
  have I5':=I5.pinned (fpok fr5) (T.obj _ _ st5)
  refine thn (hg0 _ s2 σ' H5 x5 u _ I5' r5 (step x5 H5 y5)) fun _ s3 ⟨σ6,H6,I6,q6⟩=>?_
  refine thn (hi1 _ s3 σ6 H6 _ I6 q6) fun v s4 h4'=>?_
  refine thn h4' fun itv s5 ⟨it2,fp2,tn2,J2,H7,e2,I7,T2,st7,f7,W2,⟨m2,w2⟩,turn2⟩=>?_
  subst e2
  have dpin:=I7.pin (D,{ cls:=.type "list",data:=.seq us.toArray k }) (by simp)
  have I8:Inv (cxC X N' scope cl C D fp s₀ H2) (pins ++ xH fp s2.heap) σ6 H7 s5:=I7.pins_of fun p hp=>I7.pin p (by
   rcases List.mem_append.mp hp with hp | hp
   ·exact List.mem_append_right _ (List.mem_append_left _ (List.mem_append_left _ hp))
   ·exact List.mem_append_right _ (List.mem_append_right _ hp))
  have hDfp2:D ∉ fp2:=fun z=>(f7 D z).2.2.2.2.2 (D,{ cls:=.type "list",data:=.seq us.toArray k }) (by simp) rfl
  have hDok:∀ H':Hp,H' D = none -> FpOk (cxC X N' scope cl C D fp s₀ H2) (pins ++ xH fp s2.heap) H' D:=fun H' hn'=>by
   refine ⟨hn',hDC,fun z=>absurd (Nat.lt_of_lt_of_le (frsz _ z) hD) (Nat.lt_irrefl _),.inl (by simp),fun x c e=>Nat.ne_of_lt (Nat.lt_of_lt_of_le (cells x c e) hD),fun p hp=>?_⟩
   rcases List.mem_append.mp hp with hp | hp
   ·exact Nat.ne_of_lt (Nat.lt_of_lt_of_le (pinsz p (List.mem_append_left _ hp)) hD)
   ·rcases List.mem_append.mp hp with hp | hp
    ·exact Nat.ne_of_lt (Nat.lt_of_lt_of_le (pinsz p (List.mem_append_right _ hp)) hD)
    ·obtain ⟨b,hb,e⟩:=List.mem_filterMap.mp hp
     have:p.1 = b:=by
      cases q:s2.heap.get? b with
      | none=>rw [q] at e; cases e
      | some o=>rw [q] at e; cases e; rfl
     rw [this]; exact Nat.ne_of_lt (Nat.lt_of_lt_of_le (hfp b hb) hD)
  have f8:∀ b ∈ fp2,∀ H':Hp,H' b = none -> FpOk (cxC X N' scope cl C D fp s₀ H2) (pins ++ xH fp s2.heap) H' b:=fun b hb H' hn'=>by
   obtain ⟨_,q1,q2,q3,q4,q5⟩:=f7 b hb
   refine ⟨hn',q1,q2,q3,q4,fun p hp=>q5 p ?_⟩
   rcases List.mem_append.mp hp with hp | hp
   ·exact List.mem_append_left _ hp
   ·rcases List.mem_append.mp hp with hp | hp
    ·exact List.mem_append_right _ (List.mem_append_left _ (List.mem_append_left _ hp))
    ·exact List.mem_append_right _ (List.mem_append_right _ hp)
  have loop:codeAny (model X.prog X.w) X.A (.compLoop (lc2 elt (.Name x px) i0 (.Name y py) i1 ifs scope pos) 1 (.ref it2) (.ref D) (compEnvC scope cl C X.env)) (fun r s'=>match r with
    | .ok _=>∃ m,m < n /\ ∃ i ys us k σ' H',Inv (cxC X N' scope cl C D fp s₀ H2) pins σ' H' s' /\ tn i s'.heap /\ (∀ b ∈ fp,H' b = none) /\ H' D = none ∧
      s'.heap.get? D = some { cls:=.type "list",data:=.seq (us:List Value).toArray k } /\ Vals ys us /\ ys.length <= sizeLine /\ W i m ys σ' H'
    | .error _=>False) s5:=by
   refine Vs (Y:=cxC X N' scope cl C D fp s₀ H2) rfl hcalm T2 hDok f8 hDfp2 hg1 ht he turn2 ?_ m2 s5 ⟨0,ys,us,k,σ6,H7,I8,st7,fun b hb=>(f7 b hb).1,dpin.2.1,dpin.1,rv,hz,w2⟩
   intro ys9 us9 k9 σ9 H9 s9 I9 hn9 hy9 rv9 hz9 o9
   obtain ⟨m',hm,w9⟩:=hN ys9 σ9 H9 o9
   refine ⟨m',hm,i + 1,ys9,us9,k9,σ9,H9,I9.unpinned,T.keep _ _ _ st5 fun b hb o e=>(I9.pin (b,o) (List.mem_append_right _ (List.mem_append_right _ (zR hb e)))).1,fun b hb=>?_,hn9,hy9,rv9,hz9,w9⟩
   obtain ⟨o,e,_⟩:=T.obj _ _ st5 b hb
   exact (I9.pin (b,o) (List.mem_append_right _ (List.mem_append_right _ (zR hb e)))).2.1
  exact Xh loop (T2.self _ _ _ _ _ st7 loop)
end
section
variable {X:Cx} {pins:List (Addr × Obj)} {σ:L2.St} {H2:Hp} {s₂:Shared} {it:Addr} {fp:List Addr} {tn:Nat -> Heap -> Prop} {J:It} {scope:Scope} {cl:List (Str × Addr)} {N':List Str} {sub:List (Option Nat)}
theorem rR {x y:Str} {px py pos:Pos} {elt i0 i1:Expr} {ifs:List Expr} {g0 g1:TG} {wi1:TI} {tt:TT} {te:TE} {E:VS7} {Q:VK} {RR:Value -> Addr -> Result -> Shared -> Prop}
  (I:Inv X pins σ H2 s₂) (hcalm:X.calm = true) (T:Turn X.prog X.w X.K (.Name x px) J fp it tn) (st:tn 0 s₂.heap) (f2:∀ b ∈ fp,FpOk X pins H2 b)
  (S:CSc X scope N' sub) (hcl1:∀ x c,cl.lookup x = some c -> X.env.cells.lookup x = some c) (hcl2:∀ y ∈ scope.names,y.2 = .free -> ∃ c,cl.lookup y.1 = some c)
  (hg0:∀ C D fp s H,PG (cxC X N' scope cl C D fp s H) (.Name x px) g0) (hi1:∀ C D fp s H,PI (cxC X N' scope cl C D fp s H) (.Name y py) i1 wi1) (hg1:∀ C D fp s H,PG (cxC X N' scope cl C D fp s H) (.Name y py) g1) (ht:∀ C D fp s H,PIfs (cxC X N' scope cl C D fp s H) ifs tt) (he:∀ C D fp s H,PE (cxC X N' scope cl C D fp s H) elt te)
  (hss:∀ C v,foldedSetIterable i1 (compEnvC scope cl C X.env) v = pure v)
  (hW:ZN J (capt sub σ) H2 g0 wi1 g1 tt te Q)
  (hRR:∀ (D C:Addr) (oC:Obj) (m:Str -> Option Value) (s':Shared) (Hf:Hp),Inv X (pins ++ [(C,oC)]) σ Hf s' -> s'.heap.Ns C m -> FpOk X pins Hf C -> Q (.ref D) Hf -> RR (.ref D) C (.ok .next) s') :
  wpAny (model X.prog X.w) X.A (newList []) (fun acc s₃=>wpAny (model X.prog X.w) X.A (newFunctionEnv scope X.env.globals cl [] X.env.qual none .none (some X.env)) (fun cenv s₄ =>
   codeAny (model X.prog X.w) X.A (.compStart (lc2 elt (.Name x px) i0 (.Name y py) i1 ifs scope pos) 0 (.ref it) acc { cenv with scope:=relabel scope X.env }) (RR acc cenv.locals) s₄) E s₃) E s₂:=by
 obtain ⟨W,⟨m0,w0⟩,turn⟩:=hW
 refine wpAny_newObj_type (wpAny_newFunctionEnv S.nocell (by intro y hy; simp at hy) (fun h₁ hns₁ hsb₁=>?_) S.kind)
 dsimp only at hns₁ hsb₁ ⊢
 have hC:(s₂.heap.push { cls:=.type "list",dict:=none,data:=.seq ([]:List Value).toArray }).objs.size = s₂.heap.objs.size + 1:=Heap.size_push ..
 rw [hC] at hns₁ hsb₁ ⊢
 have hk:∀ b o,(s₂.heap.push { cls:=.type "list",dict:=none,data:=.seq ([]:List Value).toArray }).get? b = some o -> h₁.get? b = some o:=fun b o e =>
  hsb₁.extBut b o (by have:=Heap.lt_size e; rw [hC] at this; exact Nat.ne_of_lt this) (Heap.get?_push_of_some _ e)
 have hfp:∀ b ∈ fp,b < s₂.heap.objs.size:=fun b hb=>by
  obtain ⟨o,e,_⟩:=T.obj _ _ st b hb
  exact Heap.lt_size e
 have I0:=wQ (tk:=s₂.toks + ([]:List (Str × Value)).length) I S hcl1 hcl2 f2 hfp hns₁ hk
 have hD0:h₁.get? s₂.heap.objs.size = some { cls:=.type "list",data:=.seq ([]:List Value).toArray 0 }:=hk _ _ (Heap.get?_push_size _ rfl)
 have loop:codeAny (model X.prog X.w) X.A (.compLoop (lc2 elt (.Name x px) i0 (.Name y py) i1 ifs scope pos) 0 (.ref it) (.ref s₂.heap.objs.size) (compEnvC scope cl (s₂.heap.objs.size + 1) X.env)) (RR (.ref s₂.heap.objs.size) (s₂.heap.objs.size + 1)) { s₂ with heap:=h₁,toks:=s₂.toks + ([]:List (Str × Value)).length } :=
  run2 (s₀:={ s₂ with heap:=s₂.heap.push { cls:=.type "list",dict:=none,data:=.seq ([]:List Value).toArray } }) (C:=s₂.heap.objs.size + 1) (D:=s₂.heap.objs.size) I hcalm T f2 hfp (fun b o e=>Heap.get?_push_of_some _ e) rfl (Nat.le_refl _) (Nat.le_succ _) (Nat.ne_of_lt (Nat.lt_succ_self _)) hcl1 (hg0 _ _ _ _ _) (hi1 _ _ _ _ _) (hg1 _ _ _ _ _) (ht _ _ _ _ _) (he _ _ _ _ _) (hss _) turn hRR m0 _
   ⟨0,[],[],0,capt sub σ,H2,I0,T.keep _ _ _ st fun b hb o e=>hk b o (Heap.get?_push_of_some _ e),fun b hb=>(f2 b hb).1,I.hok.fresh (Nat.le_refl _),hD0,.nil,Nat.zero_le _,w0⟩
 exact codeAny_compStart_list loop (T.self _ _ _ _ _ (T.keep _ _ _ st fun b hb o e=>hk b o (Heap.get?_push_of_some _ e)) loop)
end
section
variable {X:Cx} {scope:Scope} {N':List Str} {sub:List (Option Nat)} {x y:Str} {px py pos:Pos} {elt i0 i1:Expr} {ifs:List Expr} {wi wi1:TI} {g0 g1:TG} {tt:TT} {te:TE}
theorem Xi {i:Nat} {z:Str} {pz spos:Pos} (hN:X.N.Nodup) (hiN:X.N[i]? = some z) (hy:X.env.scope.names.lookup z = some .local) (S:CSc X scope N' sub) (hcalm:X.calm = true) (hi:PI X (.Name x px) i0 wi)
  (hg0:∀ cl C D fp s H,PG (cxC X N' scope cl C D fp s H) (.Name x px) g0) (hi1:∀ cl C D fp s H,PI (cxC X N' scope cl C D fp s H) (.Name y py) i1 wi1) (hg1:∀ cl C D fp s H,PG (cxC X N' scope cl C D fp s H) (.Name y py) g1) (ht:∀ cl C D fp s H,PIfs (cxC X N' scope cl C D fp s H) ifs tt) (he:∀ cl C D fp s H,PE (cxC X N' scope cl C D fp s H) elt te)
  (hsw:swapsWith (lc2 elt (.Name x px) i0 (.Name y py) i1 ifs scope pos) (some (.Name z pz)) spos.line X.env = pure true:=by rfl)
  (hs:∀ x,foldedSetIterable i0 X.env x = pure x:=by intro _; rfl) (hss:∀ cl C v,foldedSetIterable i1 (compEnvC scope cl C X.env) v = pure v:=by intro _ _ _; rfl):PS X (.Assign [.Name z pz] (lc2 elt (.Name x px) i0 (.Name y py) i1 ifs scope pos) spos) (tAsg (Vr wi sub g0 wi1 g1 tt te) (vm i)):=by
 intro pins s σ H D I h
 obtain ⟨cl,hclos,hcl1,hcl2⟩:=S.clos I
 rw [exec_Assign_Name_used _ _ _ _ hsw]
 refine wpAny_bind (wpAny_standAt (wpAny_bind ?_))
 show wpAny _ X.A (do let _ ← comprehension (lc2 elt (.Name x px) i0 (.Name y py) i1 ifs scope pos) scope X.env _ (newList []) false (eval i0 X.env) (some (assign (.Name z pz) X.env))) _ _ s
 refine wpAny_bind (wpAny_mono (wpAny_comprehension_free (use:=some (assign (.Name z pz) X.env)) (Q:=fun _ s'=>SP X pins D .next s') rfl hs hclos S.kind S.names
  (thn (hi pins s σ H _ I h) fun v s1 h1=>thn h1 fun itv s2 h2=>?_)) (fun _ s' hq=>wpAny_pure (wpAny_pure hq)) fun _ _ e=>e)
 obtain ⟨it,fp,tn,J,H2,e,I2,T,st2,f2,hW⟩:=h2
 subst e
 refine rR (Q:=fun x H1=>vm i x σ H1 D.nx) (RR:=fun acc C=>compPost (model X.prog X.w) X.A X.xe (some (assign (.Name z pz) X.env)) (fun _ s'=>SP X pins D .next s') acc C) I2 hcalm T st2 f2 S hcl1 hcl2 (hg0 cl) (hi1 cl) (hg1 cl) (ht cl) (he cl) (hss cl) hW ?_
 intro L C oC m s' Hf IX hm fpc q
 have st:=zk (X:=X) (pos:=pz) hN hiN (.inl hy) (.inr hy) _ s' σ Hf (.ref L) (.ref L) D.nx IX rfl q
 refine thn st fun _ s'' ⟨σ2,H2,I2',q2⟩=>?_
 have p:=I2'.pin (C,oC) (by simp)
 have hm':s''.heap.Ns C m:=by
  obtain ⟨o,es,ep,e1,r⟩:=hm
  have z:=(IX.pin (C,oC) (by simp)).1
  rw [e1] at z; cases z
  exact ⟨_,es,ep,p.1,r⟩
 refine ⟨m,hm',fun h' sb=>⟨σ2,H2,?_,q2⟩⟩
 exact (I2'.unpinned).turned (it:=C) (t':=s''.toks) (h':=h') (fun b o hb e=>sb.extBut b o hb e) p.2.1 fpc.2.1 fpc.2.2.2.1 fpc.2.2.2.2.1 fpc.2.2.2.2.2
end
theorem Wt {K:FG7} {a:Addr} {xs ys0:List V} {g:TG} {tt:TT} {te:TE} {Out:List V -> L2.St -> Hp -> Prop} {σ:L2.St} {H:Hp} (Pv:Nat -> List V -> L2.St -> Hp -> Prop) (h0:Pv 0 ys0 σ H) (hl:∀ i ys σ H,i <= xs.length -> Pv i ys σ H -> SqT K H a xs)
  (hs:∀ i x ys σ H,xs[i]? = some x -> Pv i ys σ H -> g x σ H fun σ2 H3=>tt σ2 H3 fun b H4=>if b = true then te σ2 H4 fun y H5=>ys.length < sizeLine /\ Pv (i + 1) (ys ++ [y]) σ2 H5 else Pv (i + 1) ys σ2 H4)
  (hd:∀ ys σ H,Pv xs.length ys σ H -> Out ys σ H) :
  InW (Itt K a) ys0 σ H g tt te Out:=by
 refine ⟨fun i m ys σ H=>m = xs.length - i /\ i <= xs.length /\ Pv i ys σ H,⟨xs.length,by simp,Nat.zero_le _,h0⟩,?_⟩
 rintro i m ys σ H ⟨rfl,hi,p⟩
 have q:=hl i ys σ H hi p
 by_cases hlt:i < xs.length
 ·refine .inr ⟨⟨xs,xs[i],q,by simp [hlt]⟩,Pv (i + 1),fun zs σ' H' p'=>⟨xs.length - (i + 1),by omega,rfl,hlt,p'⟩,fun x H' y=>?_⟩
  obtain ⟨e,y⟩:=y
  subst e
  exact hs i x ys σ _ (y xs q) p
 ·have e:i = xs.length:=by omega
  subst e
  exact .inl ⟨⟨xs,q,Nat.le_refl _⟩,hd ys σ H p⟩
theorem Wu {X:Cx} {K:FG7} {tg l:Expr} {tl:TE} (h:X.K = K) (hl:PE X l tl):PI X tg l (iTup K tl):=by subst h; exact y7 hl
section
variable {X:Cx} {pins:List (Addr × Obj)} {σ:L2.St} {H2:Hp} {s₂:Shared} {it:Addr} {fp:List Addr} {tn:Nat -> Heap -> Prop} {J:It} {scope:Scope} {cl:List (Str × Addr)} {N':List Str} {sub:List (Option Nat)}
theorem ZO {C D:Addr} {s₀:Shared} {tg:Expr} {pos:Pos} {elt iter:Expr} {ifs:List Expr} {g:TG} {tt:TT} {te:TE} {Q:VK} {RR:Value -> Addr -> Result -> Shared -> Prop} {W:Nat -> Nat -> List V -> L2.St -> Hp -> Prop}
  (I:Inv X pins σ H2 s₂) (hcalm:X.calm = true) (T:Turn X.prog X.w X.K tg J fp it tn) (f2:∀ b ∈ fp,FpOk X pins H2 b) (hfp:∀ b ∈ fp,b < s₂.heap.objs.size)
  (hs₀:∀ b o,s₂.heap.get? b = some o -> s₀.heap.get? b = some o) (hos:s₀.os = s₂.os) (hD:s₂.heap.objs.size <= D) (hC:s₂.heap.objs.size <= C) (hDC:D ≠ C)
  (hcl1:∀ x c,cl.lookup x = some c -> X.env.cells.lookup x = some c)
  (hg:PG (cxC X N' scope cl C D fp s₀ H2) tg g) (ht:PIfs (cxC X N' scope cl C D fp s₀ H2) ifs tt) (he:PE (cxC X N' scope cl C D fp s₀ H2) elt te)
  (turn:∀ i m ys σ' H',W i m ys σ' H' →
   (J.stop i H' /\ ∀ l,H' l = none -> Q (.ref l) (upd H' l (.lst ys))) ∨
   (J.go i H' /\ ∃ Nn:List V -> L2.St -> Hp -> Prop,(∀ zs σ2 H2,Nn zs σ2 H2 -> ∃ m',m' < m /\ W (i + 1) m' zs σ2 H2) ∧
    ∀ x H2,J.yld i H' x H2 -> g x σ' H2 fun σ2 H3=>tt σ2 H3 fun b H4=>if b = true then te σ2 H4 fun y H5=>ys.length < sizeLine /\ Nn (ys ++ [y]) σ2 H5 else Nn ys σ2 H4))
  (hRR:∀ (D C:Addr) (oC:Obj) (m:Str -> Option Value) (s':Shared) (Hf:Hp),Inv X (pins ++ [(C,oC)]) σ Hf s' -> s'.heap.Ns C m -> FpOk X pins Hf C -> Q (.ref D) Hf -> RR (.ref D) C (.ok .next) s')
  (n:Nat) (s:Shared) (h:∃ i ys us k σ' H',Inv (cxC X N' scope cl C D fp s₀ H2) pins σ' H' s /\ tn i s.heap /\ (∀ b ∈ fp,H' b = none) /\ H' D = none ∧
   s.heap.get? D = some { cls:=.type "list",data:=.seq (us:List Value).toArray k } /\ Vals ys us /\ ys.length <= sizeLine /\ W i n ys σ' H') :
  codeAny (model X.prog X.w) X.A (.compLoop (.ListComp elt [⟨tg,iter,ifs,0⟩] scope pos) 0 (.ref it) (.ref D) (compEnvC scope cl C X.env)) (RR (.ref D) C) s:=by
 have frsz:∀ b ∈ frs X.stack,b < s₂.heap.objs.size:=fun b hb=>by
  rcases List.mem_cons.mp (I.stkSub b hb) with z | z
  ·rw [z]; exact I.lt
  ·exact Nat.lt_of_not_le fun q=>I.nofs q z
 have cells:∀ x c,cl.lookup x = some c -> c < s₂.heap.objs.size:=fun x c e=>let ⟨v,q⟩:=I.cell x c (hcl1 x c e); q.lt
 have pinsz:∀ p ∈ X.pn ++ pins,p.1 < s₂.heap.objs.size:=fun p hp=>Heap.lt_size (I.pin p hp).1
 refine ss (fun n s=>∃ i ys us k σ' H',Inv (cxC X N' scope cl C D fp s₀ H2) pins σ' H' s /\ tn i s.heap /\ (∀ b ∈ fp,H' b = none) /\ H' D = none ∧
   s.heap.get? D = some { cls:=.type "list",data:=.seq (us:List Value).toArray k } /\ Vals ys us /\ ys.length <= sizeLine /\ W i n ys σ' H') ?_ n h
 rintro n s ⟨i,ys,us,k,σ',H',I',st',fr,hn,hy,rv,hz,w'⟩
 have pD:Inv (cxC X N' scope cl C D fp s₀ H2) (pins ++ [(D,{ cls:=.type "list",data:=.seq us.toArray k })]) σ' H' s:=I'.pins_of fun p hp=>by
  rcases List.mem_append.mp hp with hp | hp
  ·exact I'.pin p (List.mem_append_right _ hp)
  ·rw [List.mem_singleton.mp hp]
   exact ⟨hy,hn,hDC,fun z=>absurd (Nat.lt_of_lt_of_le (frsz _ z) hD) (Nat.lt_irrefl _),fun v z=>by cases z⟩
 have fpok:∀ {H'':Hp},(∀ b ∈ fp,H'' b = none) -> ∀ b ∈ fp,FpOk (cxC X N' scope cl C D fp s₀ H2) (pins ++ [(D,{ cls:=.type "list",data:=.seq us.toArray k })]) H'' b:=fun hz b hb=>by
  refine ⟨hz b hb,Nat.ne_of_lt (Nat.lt_of_lt_of_le (hfp b hb) hC),fun z=>?_,.inl (List.mem_cons_of_mem _ hb),fun x c e=>(f2 b hb).2.2.2.2.1 x c (hcl1 x c e),fun p hp=>?_⟩
  ·rcases List.mem_cons.mp (I.stkSub b z) with z | z
   ·exact (f2 b hb).2.1 z
   ·exact (f2 b hb).2.2.1 z
  ·rcases List.mem_append.mp hp with hp | hp
   ·exact (f2 b hb).2.2.2.2.2 p (List.mem_append_left _ hp)
   ·rcases List.mem_append.mp hp with hp | hp
    ·exact (f2 b hb).2.2.2.2.2 p (List.mem_append_right _ hp)
    ·rw [List.mem_singleton.mp hp]
     exact Nat.ne_of_gt (Nat.lt_of_lt_of_le (hfp b hb) hD)
 rcases turn i n ys σ' H' w' with ⟨stop,q⟩ | ⟨go,Nn,hN,step⟩
 ·refine thn (T.done (cxC X N' scope cl C D fp s₀ H2) rfl rfl rfl hcalm i _ s σ' H' (fun _ _=>False) pD (fpok fr) st' stop) fun r s1 ⟨hr,I1⟩=>?_
  subst hr
  have hy1:=(I1.pin (D,{ cls:=.type "list",data:=.seq us.toArray k }) (by simp)).1
  obtain ⟨m,hm,_⟩:=I1.loc
  obtain ⟨oC,es,ep,hoC,hdC,_⟩:=id hm
  obtain ⟨IX,fpc⟩:=qQ I hs₀ hos hD hC hDC f2 I1.unpinned hn hy1 rv hz hoC (by intro v z; rw [hdC] at z; cases z)
  exact hRR D C oC m s1 _ IX hm fpc (q D hn)
 ·refine thn (T.item (cxC X N' scope cl C D fp s₀ H2) rfl rfl rfl hcalm i _ s σ' H' (fun _ _=>False) pD (fpok fr) st' go) fun r s1 ⟨u,hr,h4⟩=>?_
  subst hr
  refine thn h4 fun _ s2 ⟨x5,H5,I5,r5,y5,st5,fr5⟩=>?_
  have I5':=I5.pinned (fpok fr5) (T.obj _ _ st5)
  refine thn (hg _ s2 σ' H5 x5 u _ I5' r5 (step x5 H5 y5)) fun _ s3 ⟨σ6,H6,I6,q6⟩=>?_
  refine thn (ht _ s3 σ6 H6 _ I6 q6) fun ok s4 ⟨H7,I7,q7⟩=>?_
  have stay:∀ {σ7:L2.St} {H7:Hp} {s7:Shared},Inv (cxC X N' scope cl C D fp s₀ H2) (pins ++ [(D,{ cls:=.type "list",data:=.seq us.toArray k })] ++ xH fp s2.heap) σ7 H7 s7 →
    (∀ b ∈ fp,∀ o,s2.heap.get? b = some o -> s7.heap.get? b = some o) /\ (∀ b ∈ fp,H7 b = none) /\ H7 D = none /\ s7.heap.get? D = some { cls:=.type "list",data:=.seq us.toArray k }:=fun {σ7 H7 s7} I7=>by
   have d:=I7.pin (D,{ cls:=.type "list",data:=.seq us.toArray k }) (by simp)
   refine ⟨fun b hb o e=>(I7.pin (b,o) (List.mem_append_right _ (List.mem_append_right _ (zR hb e)))).1,fun b hb=>?_,d.2.1,d.1⟩
   obtain ⟨o,e,_⟩:=T.obj _ _ st5 b hb
   exact (I7.pin (b,o) (List.mem_append_right _ (List.mem_append_right _ (zR hb e)))).2.1
  cases ok with
  | false =>
   rw [if_neg (by decide)] at q7 ⊢
   obtain ⟨k1,k2,k3,k4⟩:=stay I7
   obtain ⟨m',hm,w7⟩:=hN ys σ6 H7 q7
   exact ⟨m',hm,i + 1,ys,us,k,σ6,H7,I7.unpinned.unpinned,T.keep _ _ _ st5 k1,k2,k3,k4,rv,hz,w7⟩
  | true =>
   rw [if_pos rfl] at q7 ⊢
   refine thn (he _ s4 σ6 H7 _ I7 q7) fun v s5 ⟨y,H8,I8,r8,hl8,n8⟩=>?_
   obtain ⟨k1,k2,k3,k4⟩:=stay I8
   refine wpAny_list_append_plain (l:=D) ⟨k,k4⟩ (fun h' pl sb=>?_) (by rw [List.size_toArray,← rv.length]; exact hz)
   obtain ⟨k',e'⟩:=pl
   obtain ⟨m',hm,w8⟩:=hN _ σ6 H8 n8
   refine ⟨m',hm,i + 1,ys ++ [y],us ++ [v],k',σ6,H8,?_,T.keep _ _ _ (T.keep _ _ _ st5 k1) fun b hb o e=>sb.extBut b o (Nat.ne_of_lt (Nat.lt_of_lt_of_le (hfp b hb) hD)) e,k2,k3,?_,rv.append (.cons r8 .nil),?_,w8⟩
   ·exact (I8.unpinned.unpinned).turned (it:=D) (t':=s5.toks) (h':=h') (fun b o hb e=>sb.extBut b o hb e) k3 hDC (.inl (by simp)) (fun x c e=>Nat.ne_of_lt (Nat.lt_of_lt_of_le (cells x c e) hD)) (fun p hp=>Nat.ne_of_lt (Nat.lt_of_lt_of_le (pinsz p hp) hD))
   ·rw [e']; simp
   ·rw [List.length_append]; exact hl8
theorem vS {tg:Expr} {pos:Pos} {elt iter:Expr} {ifs:List Expr} {g:TG} {tt:TT} {te:TE} {E:VS7} {Q:VK} {RR:Value -> Addr -> Result -> Shared -> Prop}
  (I:Inv X pins σ H2 s₂) (hcalm:X.calm = true) (T:Turn X.prog X.w X.K tg J fp it tn) (st:tn 0 s₂.heap) (f2:∀ b ∈ fp,FpOk X pins H2 b)
  (S:CSc X scope N' sub) (hcl1:∀ x c,cl.lookup x = some c -> X.env.cells.lookup x = some c) (hcl2:∀ y ∈ scope.names,y.2 = .free -> ∃ c,cl.lookup y.1 = some c)
  (hg:∀ C D fp s H,PG (cxC X N' scope cl C D fp s H) tg g) (ht:∀ C D fp s H,PIfs (cxC X N' scope cl C D fp s H) ifs tt) (he:∀ C D fp s H,PE (cxC X N' scope cl C D fp s H) elt te)
  (hW:wt J (capt sub σ) H2 g tt te Q)
  (hRR:∀ (D C:Addr) (oC:Obj) (m:Str -> Option Value) (s':Shared) (Hf:Hp),Inv X (pins ++ [(C,oC)]) σ Hf s' -> s'.heap.Ns C m -> FpOk X pins Hf C -> Q (.ref D) Hf -> RR (.ref D) C (.ok .next) s') :
  wpAny (model X.prog X.w) X.A (newList []) (fun acc s₃=>wpAny (model X.prog X.w) X.A (newFunctionEnv scope X.env.globals cl [] X.env.qual none .none (some X.env)) (fun cenv s₄ =>
   codeAny (model X.prog X.w) X.A (.compStart (.ListComp elt [⟨tg,iter,ifs,0⟩] scope pos) 0 (.ref it) acc { cenv with scope:=relabel scope X.env }) (RR acc cenv.locals) s₄) E s₃) E s₂:=by
 obtain ⟨W,⟨m0,w0⟩,turn⟩:=hW
 refine wpAny_newObj_type (wpAny_newFunctionEnv S.nocell (by intro y hy; simp at hy) (fun h₁ hns₁ hsb₁=>?_) S.kind)
 dsimp only at hns₁ hsb₁ ⊢
 have hC:(s₂.heap.push { cls:=.type "list",dict:=none,data:=.seq ([]:List Value).toArray }).objs.size = s₂.heap.objs.size + 1:=Heap.size_push ..
 rw [hC] at hns₁ hsb₁ ⊢
 have hk:∀ b o,(s₂.heap.push { cls:=.type "list",dict:=none,data:=.seq ([]:List Value).toArray }).get? b = some o -> h₁.get? b = some o:=fun b o e =>
  hsb₁.extBut b o (by have:=Heap.lt_size e; rw [hC] at this; exact Nat.ne_of_lt this) (Heap.get?_push_of_some _ e)
 have hfp:∀ b ∈ fp,b < s₂.heap.objs.size:=fun b hb=>by
  obtain ⟨o,e,_⟩:=T.obj _ _ st b hb
  exact Heap.lt_size e
 have I0:=wQ (tk:=s₂.toks + ([]:List (Str × Value)).length) I S hcl1 hcl2 f2 hfp hns₁ hk
 have hD0:h₁.get? s₂.heap.objs.size = some { cls:=.type "list",data:=.seq ([]:List Value).toArray 0 }:=hk _ _ (Heap.get?_push_size _ rfl)
 have loop:codeAny (model X.prog X.w) X.A (.compLoop (.ListComp elt [⟨tg,iter,ifs,0⟩] scope pos) 0 (.ref it) (.ref s₂.heap.objs.size) (compEnvC scope cl (s₂.heap.objs.size + 1) X.env)) (RR (.ref s₂.heap.objs.size) (s₂.heap.objs.size + 1)) { s₂ with heap:=h₁,toks:=s₂.toks + ([]:List (Str × Value)).length } :=
  ZO (s₀:={ s₂ with heap:=s₂.heap.push { cls:=.type "list",dict:=none,data:=.seq ([]:List Value).toArray } }) (C:=s₂.heap.objs.size + 1) (D:=s₂.heap.objs.size) I hcalm T f2 hfp (fun b o e=>Heap.get?_push_of_some _ e) rfl (Nat.le_refl _) (Nat.le_succ _) (Nat.ne_of_lt (Nat.lt_succ_self _)) hcl1 (hg _ _ _ _ _) (ht _ _ _ _ _) (he _ _ _ _ _) turn hRR m0 _
   ⟨0,[],[],0,capt sub σ,H2,I0,T.keep _ _ _ st fun b hb o e=>hk b o (Heap.get?_push_of_some _ e),fun b hb=>(f2 b hb).1,I.hok.fresh (Nat.le_refl _),hD0,.nil,Nat.zero_le _,w0⟩
 exact codeAny_compStart_list loop (T.self _ _ _ _ _ (T.keep _ _ _ st fun b hb o e=>hk b o (Heap.get?_push_of_some _ e)) loop)
end
section
variable {X:Cx} {scope:Scope} {N':List Str} {sub:List (Option Nat)} {tg:Expr} {pos:Pos} {elt iter:Expr} {ifs:List Expr} {wi:TI} {g:TG} {tt:TT} {te:TE}
theorem zF (S:CSc X scope N' sub) (hcalm:X.calm = true) (hi:PI X tg iter wi)
  (hg:∀ cl C D fp s H,PG (cxC X N' scope cl C D fp s H) tg g) (ht:∀ cl C D fp s H,PIfs (cxC X N' scope cl C D fp s H) ifs tt) (he:∀ cl C D fp s H,PE (cxC X N' scope cl C D fp s H) elt te)
  (hs:∀ x,foldedSetIterable iter X.env x = pure x:=by intro _; rfl):PE X (.ListComp elt [⟨tg,iter,ifs,0⟩] scope pos) (Wl wi sub g tt te):=by
 intro pins s σ H Q I h
 obtain ⟨cl,hclos,hcl1,hcl2⟩:=S.clos I
 rw [eval_ListComp]
 refine wpAny_comprehension_free (use:=none) rfl hs hclos S.kind S.names (thn (hi pins s σ H _ I h) fun v s1 h1=>thn h1 fun itv s2 h2=>?_)
 obtain ⟨it,fp,tn,J,H2,e,I2,T,st2,f2,hW⟩:=h2
 subst e
 refine vS (RR:=fun acc C=>compPost (model X.prog X.w) X.A X.xe none (EP X pins σ Q) acc C) I2 hcalm T st2 f2 S hcl1 hcl2 (hg cl) (ht cl) (he cl) hW ?_
 intro D C oC m s' Hf IX hm fpc q
 refine ⟨m,hm,fun h' sb=>⟨.ref D,Hf,?_,rfl,q⟩⟩
 exact (IX.unpinned).turned (it:=C) (t':=s'.toks) (h':=h') (fun b o hb e=>sb.extBut b o hb e) fpc.1 fpc.2.1 fpc.2.2.2.1 fpc.2.2.2.2.1 fpc.2.2.2.2.2
theorem tj {i:Nat} {y:Str} {py spos:Pos} (hN:X.N.Nodup) (hiN:X.N[i]? = some y) (hy:X.env.scope.names.lookup y = some .local) (S:CSc X scope N' sub) (hcalm:X.calm = true) (hi:PI X tg iter wi)
  (hg:∀ cl C D fp s H,PG (cxC X N' scope cl C D fp s H) tg g) (ht:∀ cl C D fp s H,PIfs (cxC X N' scope cl C D fp s H) ifs tt) (he:∀ cl C D fp s H,PE (cxC X N' scope cl C D fp s H) elt te)
  (hsw:swapsWith (.ListComp elt [⟨tg,iter,ifs,0⟩] scope pos) (some (.Name y py)) spos.line X.env = pure true:=by rfl)
  (hs:∀ x,foldedSetIterable iter X.env x = pure x:=by intro _; rfl):PS X (.Assign [.Name y py] (.ListComp elt [⟨tg,iter,ifs,0⟩] scope pos) spos) (tAsg (Wl wi sub g tt te) (vm i)):=by
 intro pins s σ H D I h
 obtain ⟨cl,hclos,hcl1,hcl2⟩:=S.clos I
 rw [exec_Assign_Name_used _ _ _ _ hsw]
 refine wpAny_bind (wpAny_standAt (wpAny_bind ?_))
 show wpAny _ X.A (do let _ ← comprehension (.ListComp elt [⟨tg,iter,ifs,0⟩] scope pos) scope X.env _ (newList []) false (eval iter X.env) (some (assign (.Name y py) X.env))) _ _ s
 refine wpAny_bind (wpAny_mono (wpAny_comprehension_free (use:=some (assign (.Name y py) X.env)) (Q:=fun _ s'=>SP X pins D .next s') rfl hs hclos S.kind S.names
  (thn (hi pins s σ H _ I h) fun v s1 h1=>thn h1 fun itv s2 h2=>?_)) (fun _ s' hq=>wpAny_pure (wpAny_pure hq)) fun _ _ e=>e)
 obtain ⟨it,fp,tn,J,H2,e,I2,T,st2,f2,hW⟩:=h2
 subst e
 refine vS (Q:=fun x H1=>vm i x σ H1 D.nx) (RR:=fun acc C=>compPost (model X.prog X.w) X.A X.xe (some (assign (.Name y py) X.env)) (fun _ s'=>SP X pins D .next s') acc C) I2 hcalm T st2 f2 S hcl1 hcl2 (hg cl) (ht cl) (he cl) hW ?_
 intro L C oC m s' Hf IX hm fpc q
 have st:=zk (X:=X) (pos:=py) hN hiN (.inl hy) (.inr hy) _ s' σ Hf (.ref L) (.ref L) D.nx IX rfl q
 refine thn st fun _ s'' ⟨σ2,H2,I2',q2⟩=>?_
 have p:=I2'.pin (C,oC) (by simp)
 have hm':s''.heap.Ns C m:=by
  obtain ⟨o,es,ep,e1,r⟩:=hm
  have z:=(IX.pin (C,oC) (by simp)).1
  rw [e1] at z; cases z
  exact ⟨_,es,ep,p.1,r⟩
 refine ⟨m,hm',fun h' sb=>⟨σ2,H2,?_,q2⟩⟩
 exact (I2'.unpinned).turned (it:=C) (t':=s''.toks) (h':=h') (fun b o hb e=>sb.extBut b o hb e) p.2.1 fpc.2.1 fpc.2.2.2.1 fpc.2.2.2.2.1 fpc.2.2.2.2.2
end
section
variable {prog:Program} {w:World} {A:Around} {E:VS7} {s:Shared}
def tm (h:Heap) (a:Addr) (cn:String) (vs:Array Value):Prop:=(cn = "tuple_iterator" /\ h.IsTuple a vs) \/ (cn = "list_iterator" /\ h.IsList a vs)
theorem tm.iter {a:Addr} {cn:String} {vs:Array Value} {Q:VS7} (h:tm s.heap a cn vs)
  (q:Q (.ref s.heap.objs.size) { s with heap:=s.heap.push { cls:=.type cn,data:=.fields #[.ref a,.int 0 0] } }):wpAny (model prog w) A (pyIter (.ref a)) Q E s:=by
 rcases h with ⟨rfl,h⟩ | ⟨rfl,h⟩
 ·exact wpAny_pyIter_tuple h q
 ·exact wpAny_pyIter_list h q
def zpO (c:String) (a:Addr):Obj:={ cls:=.type c,data:=.fields #[.ref a,.int 0 0] }
end
def SqC (c:Bool) (K:FG7) (H:Hp) (a:Addr) (xs:List V):Prop:=match c with
 | true=>SqT K H a xs
 | false=>SqL K H a xs
def wT (c:Bool) (h:Heap) (j a:Addr) (i:Nat):Prop:=match c with
 | true=>h.IsTupleIter j a i
 | false=>h.IsListIter j a i
def SeqC (c:Bool) (h:Heap) (a:Addr) (vs:Array Value):Prop:=match c with
 | true=>h.IsTuple a vs
 | false=>h.IsList a vs
def cnC (c:Bool):String:=match c with
 | true=>"tuple_iterator"
 | false=>"list_iterator"
theorem wT.at {c:Bool} {h h':Heap} {j a:Addr} {i:Nat} (x:wT c h j a i) (k:∀ o,h.get? j = some o -> h'.get? j = some o):wT c h' j a i:=by
 cases c
 ·exact Heap.IsListIter.at x k
 ·exact Heap.IsTupleIter.at x k
theorem wT.obj {c:Bool} {h:Heap} {j a:Addr} {i:Nat} (x:wT c h j a i):∃ o,h.get? j = some o /\ ∀ v,o.data ≠ .cell v:=by
 cases c
 ·obtain ⟨o,e,_,d⟩:=x
  exact ⟨o,e,fun v z=>by rw [d] at z; cases z⟩
 ·obtain ⟨o,e,_,d⟩:=x
  exact ⟨o,e,fun v z=>by rw [d] at z; cases z⟩
theorem wT.mk {c:Bool} {h:Heap} {j a:Addr} (e:h.get? j = some (zpO (cnC c) a)):wT c h j a 0:=by
 cases c
 ·exact ⟨_,e,rfl,rfl⟩
 ·exact ⟨_,e,rfl,rfl⟩
theorem SeqC.src {c:Bool} {h:Heap} {a:Addr} {vs:Array Value} (x:SeqC c h a vs):tm h a (cnC c) vs:=by
 cases c
 ·exact .inr ⟨rfl,x⟩
 ·exact .inl ⟨rfl,x⟩
theorem SeqC.lt {c:Bool} {h:Heap} {a:Addr} {vs:Array Value} (x:SeqC c h a vs):a < h.objs.size:=by
 cases c
 ·obtain ⟨_,e,_⟩:=(show h.IsList a vs from x); exact Heap.lt_size e
 ·obtain ⟨_,e,_⟩:=(show h.IsTuple a vs from x); exact Heap.lt_size e
theorem XY {prog:Program} {w:World} {A:Around} (hh:A.handled = none) (c:Bool) (j t:Addr) (hne:t ≠ j) (vs:Array Value) :
  Draws prog w A j [j,t] vs.size (fun i v=>vs[i]? = some v) (fun i h=>wT c h j t i /\ SeqC c h t vs):=by
 cases c
 ·exact Draws.list hh j t hne vs
 ·exact ZJ hh j t hne vs
theorem jA {prog:Program} {w:World} {A:Around} (hh:A.handled = none) (jt t:Addr) (vs:Array Value) {i:Nat} (hv:vs[i]? = none) :
  Draws prog w A jt [jt,t] i (fun _ _=>True) (fun j h=>j = i /\ h.IsListIter jt t i /\ h.IsList t vs) where
 live:=fun _ _ st=>let ⟨o,ho,_⟩:=st.2.1; ⟨o,ho⟩
 frame:=fun _ _ _ st hk=>⟨st.1,st.2.1.at (hk jt (by simp)),st.2.2.at (hk t (by simp))⟩
 item:=fun j s Q E hj st hQ=>absurd st.1 (Nat.ne_of_lt hj)
 done:=fun s Q E st hE=>wpAny_nextOf_list_end hh st.2.1 st.2.2 hv hE
theorem uD {prog:Program} {w:World} {A:Around} (hh:A.handled = none) (c:Bool) (j t:Addr) (vs:Array Value) {i:Nat} (hv:vs[i]? = none) :
  Draws prog w A j [j,t] i (fun _ _=>True) (fun k h=>k = i /\ wT c h j t i /\ SeqC c h t vs):=by
 cases c
 ·exact jA hh j t vs hv
 ·exact ZK hh j t vs hv
theorem xT {X:Cx} {pins:List (Addr × Obj)} {σ:L2.St} {H:Hp} {s:Shared} {c:Bool} {a:Addr} {xs:List V} (I:Inv X pins σ H s) (h:SqC c X.K H a xs):∃ its:List Value,Vals xs its /\ SeqC c s.heap a its.toArray:=by
 cases c
 ·obtain ⟨its,r,p,_⟩:=I.list h
  exact ⟨its,r,p.isList⟩
 ·obtain ⟨its,r,p,_⟩:=I.tuple h
  exact ⟨its,r,p⟩
theorem vg {X:Cx} {pins:List (Addr × Obj)} {σ:L2.St} {H:Hp} {s:Shared} {c:Bool} {a:Addr} {xs ys:List V} (I:Inv X pins σ H s) (h:SqC c X.K H a xs) (h':SqC c X.K H a ys):xs = ys:=by
 cases c
 ·exact I.list_inj h h'
 ·exact I.tuple_inj h h'
section
variable {prog:Program} {w:World} {A:Around} {E:VS7} {s:Shared}
open PySem.AutoSeq1 (wpAny_loadPart')
theorem ZP (t:Addr) (c:Bool) (vs:Array Value) :
  Meets (Builtin.«enumerate.__new__» ⟨[.type "enumerate",.ref t],[]⟩) (fun _ R s=>SeqC c s.heap t vs ∧
   R (.ok (.ret (.ref (s.heap.push (zpO (cnC c) t)).objs.size)))
    { s with heap:=(s.heap.push (zpO (cnC c) t)).push { cls:=.type "enumerate",data:=.fields #[.none,.bool false,.ref s.heap.objs.size,rawInt 0,.none,.none] } }) :=
 .of_wp fun prog w A R s h=>by
  obtain ⟨hp,g,d,tk,os⟩:=s; obtain ⟨hT,h⟩:=h
  have hT':tm (Shared.heap ⟨hp,g,d,tk,os⟩) t (cnC c) vs:=hT.src
  obtain ⟨ot,hot⟩:∃ o,hp.get? t = some o:=by
   cases c
   ·obtain ⟨o,e,_⟩:=(show hp.IsList t vs from hT); exact ⟨o,e⟩
   ·obtain ⟨o,e,_⟩:=(show hp.IsTuple t vs from hT); exact ⟨o,e⟩
  have hsub:=sub_enumerate
  wp_walk using wpAny_loadPart' hot
  refine wpAny_stack_any fun st=>wpAny_pure ?_
  split
  ·rename_i c' _ _ _ _ _
   cases (c' == Value.type "enumerate") <;> (wp_walk using wpAny_loadPart' hot,tm.iter hT') <;> exact ⟨_,rfl,h⟩
  ·wp_walk using wpAny_loadPart' hot,tm.iter hT'
   exact ⟨_,rfl,h⟩
theorem jB {t:Addr} {c:Bool} {vs:Array Value} {Q:VS7} (ht:SeqC c s.heap t vs)
  (h:∀ h',IsEnum h' (s.heap.objs.size + 1) s.heap.objs.size 0 .none -> wT c h' s.heap.objs.size t 0 -> h'.objs.size = s.heap.objs.size + 2 -> (∀ b o,s.heap.get? b = some o -> h'.get? b = some o) -> Q (.ref (s.heap.objs.size + 1)) { s with heap:=h' }) :
  wpAny (model prog w) A (call (.type "enumerate") [.ref t]) Q E s:=by
 refine callType_new F.called_enumerate (by decide) (F.typeCall_enumerate_1 _) (F.newCall_enumerate_1 _) (fun obj=>F.args_object_init_2 obj _) F.entry_enumerate_new (ZP t c vs) ⟨ht,?_⟩
 have hz:(s.heap.push (zpO (cnC c) t)).objs.size = s.heap.objs.size + 1:=Heap.size_push ..
 show _ /\ _
 rw [hz]
 have he:IsEnum ((s.heap.push (zpO (cnC c) t)).push { cls:=.type "enumerate",data:=.fields #[.none,.bool false,.ref s.heap.objs.size,rawInt 0,.none,.none] }) (s.heap.objs.size + 1) s.heap.objs.size 0 .none:=by
  have:=Heap.get?_push_size (s.heap.push (zpO (cnC c) t)) (o:={ cls:=.type "enumerate",data:=.fields #[.none,.bool false,.ref s.heap.objs.size,rawInt 0,.none,.none] }) rfl
  rw [hz] at this; exact this
 exact ⟨⟨_,he,rfl⟩,h _ he (.mk (Heap.get?_push_of_some _ (Heap.get?_push_size _ rfl))) (by rw [Heap.size_push,Heap.size_push]) fun b o x=>Heap.get?_push_of_some _ (Heap.get?_push_of_some _ x)⟩
end
def IteC (c:Bool) (K:FG7) (a:Addr):It :=
 ⟨fun i H=>∃ xs x,SqC c K H a xs /\ xs[i]? = some x,fun i H x H'=>∃ T v,H T = none /\ x = .ref T /\ H' = upd H T (.tup [.int i,v]) /\ ∀ xs,SqC c K H a xs -> xs[i]? = some v,fun i H=>∃ xs,SqC c K H a xs /\ xs.length <= i⟩
theorem jC {P:Program} {w:World} {K:FG7} {elts:List Expr} {kt:Nat} {pt:Pos} (c:Bool) (a e jt:Addr) (hej:e ≠ jt) (hae:a ≠ e) (haj:a ≠ jt) :
  Turn P w K (.Tuple elts kt pt) (IteC c K a) [e,jt] e (fun i h=>(∃ old,IsEnum h e jt i old) /\ wT c h jt a i) where
 mem:=by simp
 obj:=fun i h st b hb=>by
  obtain ⟨⟨old,he⟩,st⟩:=st
  simp only [List.mem_cons,List.mem_nil_iff,or_false] at hb
  rcases hb with rfl | rfl
  ·exact ⟨_,he,fun v z=>by cases z⟩
  ·exact st.obj
 keep:=fun i h h' st k=>by
  obtain ⟨⟨old,he⟩,st⟩:=st
  exact ⟨⟨old,k e (by simp) _ he⟩,st.at fun o q=>k jt (by simp) o q⟩
 item:=by
  intro X hP hw hK hc i pins s σ H E I hf st hg
  subst hP hw hK
  obtain ⟨⟨old,he⟩,hit⟩:=st
  obtain ⟨xs,x,hq,hx⟩:=hg
  obtain ⟨its,rv,p⟩:=xT I hq
  obtain ⟨u,hu,ru⟩:=rv.get hx
  have hlt:i < its.toArray.size:=by have:=(List.getElem?_eq_some_iff.mp hu).1; simpa using this
  refine wpAny_pyNext_enum_itemD (XY (A:=X.A.in1) (I.ok.hd hc) c jt a haj its.toArray) he ⟨hit,p⟩ hlt hej (by simp [hej,Ne.symm hae]) fun v h1 tk hv hout hst1 hT hsz hk=>?_
  have hvu:v = u:=by
   have e1:its.toArray[i]? = some v:=hv
   have e2:its.toArray[i]? = some u:=by simpa using hu
   rw [e1] at e2; exact Option.some.inj e2
  subst hvu
  refine ⟨_,rfl,wpAny_letOwnedTupleGo_enum (s:={ s with heap:=h1,toks:=tk + 1 }) hout fun h2 he2 hs2=>?_⟩
  have hk2:∀ b o,b ∉ [e,jt] -> s.heap.get? b = some o -> h2.get? b = some o:=fun b o hb q=>by
   have n1:b ≠ e:=fun z=>hb (by simp [z])
   have n2:b ≠ jt:=fun z=>hb (by simp [z])
   exact (hs2.2 b n1).trans (hk b o n1 n2 q)
  have eT:s.heap.objs.size ≠ e:=Nat.ne_of_gt (Heap.lt_size he)
  have hT2:h2.get? s.heap.objs.size = some { cls:=.type "tuple",data:=.seq #[.int i tk,v] }:=(hs2.2 _ eT).trans hT
  have hn:H s.heap.objs.size = none:=I.hok.fresh (Nat.le_refl _)
  have I2:Inv X pins σ (upd H s.heap.objs.size (.tup [.int i,x])) { s with heap:=h2,toks:=tk + 1 }:=tf (s:=s) I hk2 hf (Nat.le_refl _) ⟨by show 2 <= sizeLine; decide,[.int i tk,v],.cons ⟨_,rfl⟩ (.cons ru .nil),_,hT2,rfl,0,rfl⟩
  refine ⟨.ref s.heap.objs.size,upd H s.heap.objs.size (.tup [.int i,x]),I2,rfl,⟨_,x,hn,rfl,rfl,fun ys hy=>by rw [vg I hy hq]; exact hx⟩,⟨⟨v,by simpa using he2⟩,?_⟩,fun b hb=>?_⟩
  ·exact hst1.1.at fun o q=>(hs2.2 jt (Ne.symm hej)).trans q
  ·have nb:b ≠ s.heap.objs.size:=by
    obtain ⟨oj,hoj,_⟩:=hit.obj
    simp only [List.mem_cons,List.mem_nil_iff,or_false] at hb
    rcases hb with rfl | rfl
    ·exact Ne.symm eT
    ·exact Nat.ne_of_lt (Heap.lt_size hoj)
   rw [zp nb]; exact (hf b hb).1
 done:=by
  intro X hP hw hK hc i pins s σ H E I hf st hg
  subst hP hw hK
  obtain ⟨⟨old,he⟩,hit⟩:=st
  obtain ⟨xs,hq,hx⟩:=hg
  obtain ⟨its,rv,p⟩:=xT I hq
  have hl:=rv.length
  refine wpAny_pyNext_enum_endD (uD (A:=X.A.in1) (I.ok.hd hc) c jt a its.toArray (i:=i) (by simp; omega)) he ⟨rfl,hit,p⟩ fun h' eb=>⟨rfl,?_⟩
  exact u7 (fp:=[e,jt]) (t':=s.toks) I (fun b o hb q=>eb b o (fun z=>hb (by simp [z])) q) hf
 self:=fun _ _ _ _ _ st h=>by
  obtain ⟨⟨old,he⟩,_⟩:=st
  exact wpAny_pyIter_enum he h
section
variable {X:Cx} {elts:List Expr} {kt:Nat} {pt:Pos} {K:FG7}
def Vt (c:Bool) (K:FG7) (ta:TA):TI:=fun σ H R=>ta σ H fun vs H1=>∃ a xs,vs = [.ref a] /\ SqC c K H1 a xs /\ R (IteC c K a) H1
theorem qV {a:Expr} {ta:TA} {p pos:Pos} (c:Bool) (hK:X.K = K) (hg:Gl X "enumerate") (hm:X.mg "enumerate" = none) (ha:PA X [a] ta) (hs:starEach [a] X.env = [(false,eval a X.env)]:=by rfl) :
  PI X (.Tuple elts kt pt) (.Call (.Name "enumerate" p) [a] [] pos) (Vt c K ta):=by
 subst hK
 intro pins s σ H R I h
 refine Call_ (va I hg hm XW (PyProof.Rows.callWith_type1 (thn (ha pos pins s σ H _ I h) fun us s1 ⟨vs,H1,I1,r1,q1⟩=>?_) hs rfl))
 obtain ⟨t,xs,e,hq,q⟩:=q1
 subst e
 obtain ⟨u,rfl,e1⟩:=vH r1
 cases (show u = Value.ref t from e1)
 obtain ⟨its,rv,p⟩:=xT I1 hq
 refine jB p fun h' he hit _ hk=>?_
 refine wpAny_pyIter_enum he ?_
 have lt:t < s1.heap.objs.size:=p.lt
 have I2:Inv X pins σ H1 { s1 with heap:=h' }:=I1.kept (t':=s1.toks) hk
 refine ⟨s1.heap.objs.size + 1,[s1.heap.objs.size + 1,s1.heap.objs.size],_,_,H1,rfl,I2,jC c t (s1.heap.objs.size + 1) s1.heap.objs.size (Nat.succ_ne_self _) (Nat.ne_of_lt (Nat.lt_succ_of_lt lt)) (Nat.ne_of_lt lt),⟨⟨_,he⟩,hit⟩,fun b hb=>?_,q⟩
 simp only [List.mem_cons,List.mem_nil_iff,or_false] at hb
 rcases hb with rfl | rfl
 ·exact I1.fpOk (Nat.le_succ _) (I1.hok.fresh (Nat.le_succ _))
 ·exact I1.fpOk (Nat.le_refl _) (I1.hok.fresh (Nat.le_refl _))
end
section
variable {K:FG7} {a:Addr} {c:Bool} {xs:List V} {g:TG} {tt:TT} {te:TE} {tb:TS} {D:Ends} {Q:VK} {σ:L2.St} {H:Hp}
theorem sE (Pv:Nat -> L2.St -> Hp -> Prop) (h0:Pv 0 σ H) (hl:∀ i σ H,i <= xs.length -> Pv i σ H -> SqC c K H a xs)
  (hs:∀ i x σ H T,xs[i]? = some x -> Pv i σ H -> H T = none -> g (.ref T) σ (upd H T (.tup [.int i,x])) fun σ2 H2=>tb { D with nx:=Pv (i + 1),ct:=Pv (i + 1),bk:=D.nx } σ2 H2) (hd:∀ σ H,Pv xs.length σ H -> D.nx σ H) :
  ∃ W:Nat -> Nat -> L2.St -> Hp -> Prop,(∃ m,W 0 m σ H) /\ ∀ i m σ H,W i m σ H →
   ((IteC c K a).stop i H /\ D.nx σ H) \/ ((IteC c K a).go i H /\ ∃ N:L2.St -> Hp -> Prop,(∀ σ' H',N σ' H' -> ∃ m',m' < m /\ W (i + 1) m' σ' H') /\ ∀ x H',(IteC c K a).yld i H x H' -> g x σ H' fun σ2 H2=>tb { D with nx:=N,ct:=N,bk:=D.nx } σ2 H2):=by
 refine ⟨fun i m σ H=>m = xs.length - i /\ i <= xs.length /\ Pv i σ H,⟨xs.length,by simp,Nat.zero_le _,h0⟩,?_⟩
 rintro i m σ H ⟨rfl,hi,p⟩
 have q:=hl i σ H hi p
 by_cases hlt:i < xs.length
 ·refine .inr ⟨⟨xs,xs[i],q,by simp [hlt]⟩,Pv (i + 1),fun σ' H' p'=>⟨xs.length - (i + 1),by omega,rfl,hlt,p'⟩,fun x H' y=>?_⟩
  obtain ⟨T,v,hT,rfl,rfl,y⟩:=y
  exact hs i v σ H T (y xs q) p hT
 ·have e:i = xs.length:=by omega
  subst e
  exact .inl ⟨⟨xs,q,Nat.le_refl _⟩,hd σ H p⟩
end
section
variable {X:Cx}
variable {K:FG7}
theorem yY {es:List Expr} {k:Nat} {pos:Pos} {t:TGs} (n:Nat) (h0:X.K = K) (hc:X.calm = true) (h:PGs X es t)
  (hn:(assignEach es X.env).length = n) (hst:(assignEach es X.env).findIdx? (·.1) = none):PG X (.Tuple es k pos) (gTup K n t):=by subst h0; exact yI hc h hn hst
theorem Xj {tg l:Expr} {tl:TE} (h:X.K = K) (hl:PE X l tl):PI X tg l (Va K tl):=by subst h; exact vF hl
end
theorem vJ:∀ {ns:List Int} {us:List Value},IntsAre us ns -> Vals (ns.map V.int) us:=by
 intro ns us h
 induction h with
 | nil=>exact .nil
 | cons n t _ ih=>exact .cons ⟨t,rfl⟩ ih
def zB (k:Nat) (rows:List (List Int)):Prop:=rows.length = k /\ ∀ r ∈ rows,r.length = 2 ^ (k - 1) /\ ∀ b ∈ r,b = 0 \/ b = 1
mutual
inductive Dq (K:FG7) (H:Hp):V -> PyData -> Prop
 | non:Dq K H .non .none
 | bl (b:Bool):Dq K H (.bl b) (.bool b)
 | int (i:Int):Dq K H (.int i) (.int i)
 | str (x:Str):Dq K H (.str x) (.str x)
 | tup {a:Addr} {xs:List V} {ds:List PyData}:SqT K H a xs -> DqAll K H xs ds -> Dq K H (.ref a) (.tuple ds)
 | lst {a:Addr} {xs:List V} {ds:List PyData}:SqL K H a xs -> DqAll K H xs ds -> Dq K H (.ref a) (.list ds)
inductive DqAll (K:FG7) (H:Hp):List V -> List PyData -> Prop
 | nil:DqAll K H [] []
 | cons {x:V} {xs:List V} {d:PyData} {ds:List PyData}:Dq K H x d -> DqAll K H xs ds -> DqAll K H (x :: xs) (d :: ds)
end
mutual
theorem Dat.dq {K:FG7} {H:Hp}:∀ {x:V} {d:PyData},Dat K H x d -> Dq K H x d
 | _,_,.non=>.non
 | _,_,.bl b=>.bl b
 | _,_,.int i=>.int i
 | _,_,.tup h t=>.tup h (DatAll.dq t)
 | _,_,.lst h t=>.lst h (DatAll.dq t)
theorem DatAll.dq {K:FG7} {H:Hp}:∀ {xs:List V} {ds:List PyData},DatAll K H xs ds -> DqAll K H xs ds
 | _,_,.nil=>.nil
 | _,_,.cons h t=>.cons (Dat.dq h) (DatAll.dq t)
end
theorem DqAll.len {K:FG7} {H:Hp}:∀ {xs:List V} {ds:List PyData},DqAll K H xs ds -> xs.length = ds.length
 | _,_,.nil=>rfl
 | _,_,.cons _ t=>congrArg (· + 1) (DqAll.len t)
theorem xU (n:Nat):(List.range n).all (fun _=>true) = true:=List.all_eq_true.mpr fun _ _=>rfl
section
variable {X:Cx} {pins:List (Addr × Obj)} {σ:L2.St} {H:Hp} {s:Shared}
mutual
theorem dq_eq (I:Inv X pins σ H s):∀ {d:PyData} {x y:V} {u v:Value} {A:Around},Dq X.K H x d -> Dq X.K H y d -> RelV x u -> RelV y v -> A.units + d.depth < cLine -> SeqAt.EqAt A s u v true
 | _,_,y,u,v,A,.non,hy,ru,rv,_=>by
  cases hy
  cases (show u = Value.none from ru)
  cases (show v = Value.none from rv)
  exact SeqAt.EqAt.same _
 | _,_,y,u,v,A,.bl b,hy,ru,rv,_=>by
  cases hy
  cases (show u = Value.bool b from ru)
  cases (show v = Value.bool b from rv)
  exact SeqAt.EqAt.same _
 | _,_,y,u,v,A,.int i,hy,ru,rv,_=>by
  cases hy
  obtain ⟨t,rfl⟩:=ru
  obtain ⟨t',rfl⟩:=rv
  have z:=SeqAt.EqAt.int_int (A:=A) (s:=s) i t i t'
  rw [beq_self_eq_true] at z
  exact z
 | _,_,y,u,v,A,.str x,hy,ru,rv,_=>by
  cases hy
  obtain ⟨t,rfl⟩:=ru
  obtain ⟨t',rfl⟩:=rv
  have z:=SeqAt.EqAt.str_str (A:=A) (s:=s) x t x t'
  rw [beq_self_eq_true] at z
  exact z
 | _,_,y,u,v,A,.tup (a:=a) (xs:=xs) (ds:=ds) hs ha,hy,ru,rv,hu=>by
  cases hy with
  | tup hs' ha' =>
   rename_i a' xs'
   cases (show u = Value.ref a from ru)
   cases (show v = Value.ref a' from rv)
   obtain ⟨us,r1,t1,_⟩:=I.tuple hs
   obtain ⟨ws,r2,t2,_⟩:=I.tuple hs'
   have hd:A.units + (PyData.depthAll ds + 1) < cLine:=hu
   by_cases e:a = a'
   ·subst e; exact SeqAt.EqAt.same _
   ·have l1:=ha.len
    have l2:=ha'.len
    have q:=SeqAt.RcAt.tuples (e:=fun _=>true) (yS t1) (yS t2) (by omega) (dqs_eq I ha ha' r1 r2 (A:=A.in1) (by show A.units + 1 + PyData.depthAll ds < cLine; omega))
    rw [xU,Bool.true_and,List.size_toArray,List.size_toArray,← r1.length,← r2.length,l1,l2,beq_self_eq_true] at q
    exact SeqAt.EqAt.of_refs e q
 | _,_,y,u,v,A,.lst (a:=a) (xs:=xs) (ds:=ds) hs ha,hy,ru,rv,hu=>by
  cases hy with
  | lst hs' ha' =>
   rename_i a' xs'
   cases (show u = Value.ref a from ru)
   cases (show v = Value.ref a' from rv)
   obtain ⟨us,r1,t1,_⟩:=I.list hs
   obtain ⟨ws,r2,t2,_⟩:=I.list hs'
   have hd:A.units + (PyData.depthAll ds + 1) < cLine:=hu
   by_cases e:a = a'
   ·subst e; exact SeqAt.EqAt.same _
   ·have l1:=ha.len
    have l2:=ha'.len
    have q:=SeqAt.RcAt.lists (e:=fun _=>true) t1.isList t2.isList (by rw [List.size_toArray,List.size_toArray,← r1.length,← r2.length,l1,l2]) (by omega) (dqs_eq I ha ha' r1 r2 (A:=A.in1) (by show A.units + 1 + PyData.depthAll ds < cLine; omega))
    rw [xU] at q
    exact SeqAt.EqAt.of_refs e q
theorem dqs_eq (I:Inv X pins σ H s):∀ {ds:List PyData} {xs ys:List V} {us vs:List Value} {A:Around},DqAll X.K H xs ds -> DqAll X.K H ys ds -> Vals xs us -> Vals ys vs -> A.units + PyData.depthAll ds < cLine →
  ∀ j (h1:j < us.toArray.size) (h2:j < vs.toArray.size),SeqAt.EqAt A s us.toArray[j] vs.toArray[j] true
 | _,_,_,_,_,A,.nil,hy,ru,rv,_=>fun j h1 _=>by
  cases ru
  exact absurd h1 (Nat.not_lt_zero j)
 | _,_,_,_,_,A,.cons (d:=d) (ds:=ds) hx tx,hy,ru,rv,hd=>fun j h1 h2=>by
  cases hy with
  | cons hy ty =>
   cases ru with
   | cons r1 rr1 =>
    cases rv with
    | cons r2 rr2 =>
     have hd':A.units + max d.depth (PyData.depthAll ds) < cLine:=hd
     cases j with
     | zero=>simpa using dq_eq I hx hy r1 r2 (A:=A) (by omega)
     | succ j =>
      have z:=dqs_eq I tx ty rr1 rr2 (A:=A) (by omega) j (by simpa using h1) (by simpa using h2)
      simpa using z
end
variable {K:FG7}
def rS (K:FG7) (neg:Bool):R2:=fun x y H Q=>∃ d,Dq K H x d /\ Dq K H y d /\ (∃ a,x = .ref a) /\ d.depth <= 100 /\ Q (.bl neg) H
theorem Vu {k:Nat} (hK:X.K = K) (hr:Room k X.A):OpR X (compareOp .Eq) (rS K true):=by
 subst hK
 intro pins s σ H x y u v Q I rx ry h
 obtain ⟨d,hx,hy,⟨a0,e0⟩,hd,q⟩:=h
 have hu:=hr.un
 cases hx with
 | non=>cases e0
 | bl b=>cases e0
 | int i=>cases e0
 | str x=>cases e0
 | tup hs ha =>
  cases hy with
  | tup hs' ha' =>
   rename_i a xs ds a' xs'
   cases (show u = Value.ref a from rx)
   cases (show v = Value.ref a' from ry)
   obtain ⟨us,r1,t1,_⟩:=I.tuple hs
   obtain ⟨ws,r2,t2,_⟩:=I.tuple hs'
   have hd':PyData.depthAll ds + 1 <= 100:=hd
   refine SeqAt.eq_tupleAt (e:=fun _=>true) (yS t1) (yS t2) hr.units0 (dqs_eq I ha ha' r1 r2 (A:=X.A.in1) (by show X.A.units + 1 + PyData.depthAll ds < cLine; omega)) ?_
   rw [xU,Bool.true_and,List.size_toArray,List.size_toArray,← r1.length,← r2.length,ha.len,ha'.len,beq_self_eq_true]
   exact ⟨.bl true,H,I,rfl,q⟩
 | lst hs ha =>
  cases hy with
  | lst hs' ha' =>
   rename_i a xs ds a' xs'
   cases (show u = Value.ref a from rx)
   cases (show v = Value.ref a' from ry)
   obtain ⟨us,r1,t1,_⟩:=I.list hs
   obtain ⟨ws,r2,t2,_⟩:=I.list hs'
   have hd':PyData.depthAll ds + 1 <= 100:=hd
   refine SeqAt.eq_listAt (e:=fun _=>true) t1.isList t2.isList (by rw [List.size_toArray,List.size_toArray,← r1.length,← r2.length,ha.len,ha'.len]) hr.units0 (dqs_eq I ha ha' r1 r2 (A:=X.A.in1) (by show X.A.units + 1 + PyData.depthAll ds < cLine; omega)) ?_
   rw [xU]
   exact ⟨.bl true,H,I,rfl,q⟩
theorem qW {k:Nat} (hK:X.K = K) (hr:Room k X.A):OpR X (compareOp .NotEq) (rS K false):=by
 subst hK
 intro pins s σ H x y u v Q I rx ry h
 obtain ⟨d,hx,hy,⟨a0,e0⟩,hd,q⟩:=h
 have hu:=hr.un
 cases hx with
 | non=>cases e0
 | bl b=>cases e0
 | int i=>cases e0
 | str x=>cases e0
 | tup hs ha =>
  cases hy with
  | tup hs' ha' =>
   rename_i a xs ds a' xs'
   cases (show u = Value.ref a from rx)
   cases (show v = Value.ref a' from ry)
   obtain ⟨us,r1,t1,_⟩:=I.tuple hs
   obtain ⟨ws,r2,t2,_⟩:=I.tuple hs'
   have hd':PyData.depthAll ds + 1 <= 100:=hd
   refine SeqAt.RcNeAt.tuples (e:=fun _=>true) (yS t1) (yS t2) hr.units0 (dqs_eq I ha ha' r1 r2 (A:=X.A.in1) (by show X.A.units + 1 + PyData.depthAll ds < cLine; omega)) _ _ _ _ ?_
   rw [xU,Bool.true_and,List.size_toArray,List.size_toArray,← r1.length,← r2.length,ha.len,ha'.len,beq_self_eq_true]
   exact ⟨.bl false,H,I,rfl,q⟩
 | lst hs ha =>
  cases hy with
  | lst hs' ha' =>
   rename_i a xs ds a' xs'
   cases (show u = Value.ref a from rx)
   cases (show v = Value.ref a' from ry)
   obtain ⟨us,r1,t1,_⟩:=I.list hs
   obtain ⟨ws,r2,t2,_⟩:=I.list hs'
   have hd':PyData.depthAll ds + 1 <= 100:=hd
   refine SeqAt.RcNeAt.lists (e:=fun _=>true) t1.isList t2.isList (by rw [List.size_toArray,List.size_toArray,← r1.length,← r2.length,ha.len,ha'.len]) hr.units0 (dqs_eq I ha ha' r1 r2 (A:=X.A.in1) (by show X.A.units + 1 + PyData.depthAll ds < cLine; omega)) _ _ _ _ ?_
   rw [xU]
   exact ⟨.bl false,H,I,rfl,q⟩
end
def xN (k st a:Nat):Nat:=a ^^^ 2 ^ (k - st)
def nN (k st a:Nat):Nat:=(vQ k a st).toNat
def lN (k h g n:Nat):Nat:=(yf k h g n).toNat
theorem ZQ:∀ k:Fin 5,∀ st:Fin 5,1 <= st.val -> st.val <= k.val -> ∀ a:Fin 16,a.val < 2 ^ k.val →
  (swI k.val st.val a.val = vQ k.val a.val st.val /\ vQ k.val a.val st.val = (nN k.val st.val a.val:Int) /\ nN k.val st.val a.val < 2 ^ (k.val - 1) /\ nN k.val st.val (xN k.val st.val a.val) = nN k.val st.val a.val) ∧
  (xN k.val st.val (xN k.val st.val a.val) = a.val /\ xN k.val st.val a.val ≠ a.val /\ xN k.val st.val a.val < 2 ^ k.val) ∧
  (wfI k.val st.val a.val (Builtin.bitXor (figI k.val st.val a.val) 0) = (a.val:Int) /\ wfI k.val st.val a.val (Builtin.bitXor (figI k.val st.val a.val) 1) = (xN k.val st.val a.val:Int)) ∧
  (Builtin.bitXor (figI k.val st.val a.val) (figI k.val st.val (xN k.val st.val a.val)) = 1 /\ Builtin.bitXor (figI k.val st.val a.val) (figI k.val st.val a.val) = 0) ∧
  ((Builtin.bitXor (figI k.val st.val a.val) 0 = 0 \/ Builtin.bitXor (figI k.val st.val a.val) 0 = 1) /\ (Builtin.bitXor (figI k.val st.val a.val) 1 = 0 \/ Builtin.bitXor (figI k.val st.val a.val) 1 = 1)):=by
 decide +kernel
theorem ZR:∀ k:Fin 5,∀ st:Fin 5,1 <= st.val -> st.val <= k.val -> ∀ a:Fin 16,a.val < 2 ^ k.val -> ∀ b:Fin 16,b.val < 2 ^ k.val -> nN k.val st.val a.val = nN k.val st.val b.val -> b.val = a.val \/ b.val = xN k.val st.val a.val:=by
 decide +kernel
theorem sF:∀ k:Fin 5,∀ h:Fin 16,∀ g:Fin 16,h.val < 2 ^ k.val -> g.val < 2 ^ k.val →
  lN k.val h.val g.val 0 = h.val /\ lN k.val h.val g.val k.val = g.val /\ ∀ n:Fin 5,n.val <= k.val -> (yf k.val h.val g.val n.val = (lN k.val h.val g.val n.val:Int) /\ lN k.val h.val g.val n.val < 2 ^ k.val) ∧
   (n.val + 1 <= k.val -> lN k.val h.val g.val (n.val + 1) = lN k.val h.val g.val n.val \/ lN k.val h.val g.val (n.val + 1) = xN k.val (n.val + 1) (lN k.val h.val g.val n.val)):=by
 decide +kernel
structure OneF (k st a:Nat):Prop where
 sw:swI k st a = vQ k a st
 num:vQ k a st = (nN k st a:Int)
 lt:nN k st a < 2 ^ (k - 1)
 nx:nN k st (xN k st a) = nN k st a
 xx:xN k st (xN k st a) = a
 xne:xN k st a ≠ a
 xlt:xN k st a < 2 ^ k
 w0:wfI k st a (Builtin.bitXor (figI k st a) 0) = (a:Int)
 w1:wfI k st a (Builtin.bitXor (figI k st a) 1) = (xN k st a:Int)
 c1:Builtin.bitXor (figI k st a) (figI k st (xN k st a)) = 1
 c0:Builtin.bitXor (figI k st a) (figI k st a) = 0
 b0:Builtin.bitXor (figI k st a) 0 = 0 \/ Builtin.bitXor (figI k st a) 0 = 1
 b1:Builtin.bitXor (figI k st a) 1 = 0 \/ Builtin.bitXor (figI k st a) 1 = 1
theorem oneF {k st a:Nat} (k4:k <= 4) (s1:1 <= st) (s2:st <= k) (ha:a < 2 ^ k):OneF k st a:=by
 have p:=zS k4
 obtain ⟨⟨a1,a2,a3,a4⟩,⟨b1,b2,b3⟩,⟨c1,c2⟩,⟨d1,d2⟩,e1,e2⟩:=ZQ ⟨k,by omega⟩ ⟨st,by omega⟩ s1 s2 ⟨a,by omega⟩ ha
 exact ⟨a1,a2,a3,a4,b1,b2,b3,c1,c2,d1,d2,e1,e2⟩
theorem twoF {k st a b:Nat} (k4:k <= 4) (s1:1 <= st) (s2:st <= k) (ha:a < 2 ^ k) (hb:b < 2 ^ k) (e:nN k st a = nN k st b):b = a \/ b = xN k st a:=by
 have p:=zS k4
 exact ZR ⟨k,by omega⟩ ⟨st,by omega⟩ s1 s2 ⟨a,by omega⟩ ha ⟨b,by omega⟩ hb e
theorem ZS {k:Nat} (h:1 <= k):2 ^ k / 2 = 2 ^ (k - 1):=by
 obtain ⟨n,rfl⟩:∃ n,k = n + 1:=⟨k - 1,by omega⟩
 rw [Nat.pow_succ,Nat.mul_div_cancel _ (by decide)]; rfl
theorem Wv {k:Nat} (h:k <= 4):(1:Int) * 2 ^ ((k:Int)).toNat / 2 ^ (1:Int).toNat = ((2 ^ k / 2:Nat):Int):=by
 have key:∀ k:Fin 5,(1:Int) * 2 ^ ((k.val:Int)).toNat / 2 ^ (1:Int).toNat = ((2 ^ k.val / 2:Nat):Int):=by decide
 exact key ⟨k,by omega⟩
def Bits (r:List Int):Prop:=∀ b ∈ r,b = 0 \/ b = 1
def xm (_:FG7):Sp:=sp1 fun x H Q=>∃ k:Nat,x = .int k /\ k <= 4 /\ Q (.int (2 ^ k / 2:Nat)) H
def vh (K:FG7):Sp:=sp2 fun x y H Q=>∃ (k:Nat) (row:List Int),x = .int k /\ k <= 4 /\ zz K H y row /\ row.length = 2 ^ k / 2 /\ Bits row /\ ∀ H',Grow [] H H' -> Q (.bl true) H'
def wb (K:FG7):Sp:=sp2 fun x y H Q=>∃ (k:Nat) (rows:List (List Int)),x = .int k /\ k <= 4 /\ zM K H y rows /\ zB k rows /\ ∀ H',Grow [] H H' -> Q (.bl true) H'
def z0 (K:FG7):Sp:=sp2 fun x y H Q=>∃ (k:Nat) (rows:List (List Int)),x = .int k /\ k <= 4 /\ zM K H y rows /\ zB k rows /\ ∀ H',Grow [] H H' -> Q .non H'
def yZ (gs:List Nat):List V:=gs.map fun g:Nat=>V.int g
theorem jD {gs:List Nat}:yZ gs = (gs.map fun g:Nat=>(g:Int)).map V.int:=by unfold yZ; rw [List.map_map]; rfl
theorem zB.bits {k n:Nat} {rows:List (List Int)} (h:zB k rows) (hn:n < k):(rows.getD n []).length = 2 ^ (k - 1) /\ Bits (rows.getD n []):=by
 have e:rows[n]? = some (rows.getD n []):=by rw [List.getD_eq_getElem?_getD,List.getElem?_eq_getElem (by rw [h.1]; exact hn)]; rfl
 exact h.2 _ (List.mem_of_getElem? e)
theorem ZT {gs:List Nat} {i:Nat} {x:V} (h:(yZ gs)[i]? = some x):i < gs.length /\ x = .int (gs.getD i 0:Nat):=by
 unfold yZ at h
 rw [List.getElem?_map] at h
 cases e:gs[i]? with
 | none=>rw [e] at h; cases h
 | some g =>
  rw [e] at h
  refine ⟨(List.getElem?_eq_some_iff.mp e).1,?_⟩
  rw [List.getD_eq_getElem?_getD,e]
  exact (Option.some.inj h).symm
theorem ZU {K:FG7} {H:Hp}:∀ (ns:List Int),DqAll K H (ns.map V.int) (ns.map PyData.int)
 | []=>.nil
 | n :: ns=>.cons (.int n) (ZU ns)
def rowD (r:List Int):PyData:=.tuple (r.map PyData.int)
def jE (rows:List (List Int)):PyData:=.tuple (rows.map rowD)
theorem wA:∀ ns:List Int,PyData.depthAll (ns.map PyData.int) = 0
 | []=>rfl
 | n :: ns=>by
  show max (PyData.depth (.int n)) (PyData.depthAll (ns.map PyData.int)) = 0
  rw [wA ns]; rfl
theorem qX:∀ rows:List (List Int),PyData.depthAll (rows.map rowD) <= 1
 | []=>Nat.zero_le _
 | r :: rows=>by
  show max (PyData.depthAll (r.map PyData.int) + 1) (PyData.depthAll (rows.map rowD)) <= 1
  have:=qX rows
  rw [wA]; omega
theorem sG (rows:List (List Int)):(jE rows).depth <= 2:=Nat.succ_le_succ (qX rows)
theorem ZV {K:FG7} {H:Hp} {x:V} {r:List Int} (h:zz K H x r):Dq K H x (rowD r):=by
 obtain ⟨a,rfl,h⟩:=h
 exact .tup h (ZU r)
theorem qY {K:FG7} {H:Hp}:∀ {xs:List V} {rows:List (List Int)},AllR (zz K H) xs rows -> DqAll K H xs (rows.map rowD)
 | [],[],_=>.nil
 | _ :: _,_ :: _,⟨h,t⟩=>.cons (ZV h) (qY t)
 | [],_ :: _,h=>h.elim
 | _ :: _,[],h=>h.elim
theorem tq {K:FG7} {H:Hp} {x:V} {rows:List (List Int)} (h:zM K H x rows):Dq K H x (jE rows):=by
 obtain ⟨a,xs,rfl,h,t⟩:=h
 exact .tup h (qY t)
theorem AllR.of_get {α:Type} {R:V -> α -> Prop}:∀ {xs:List V} {ks:List α},xs.length = ks.length -> (∀ (i:Nat) (x:V),xs[i]? = some x -> ∃ k,ks[i]? = some k /\ R x k) -> AllR R xs ks
 | [],[],_,_=>trivial
 | x :: xs,k :: ks,hl,h=>by
  refine ⟨?_,AllR.of_get (by simpa using hl) fun i y hy=>by simpa using h (i + 1) y (by simpa using hy)⟩
  obtain ⟨k',e,r⟩:=h 0 x rfl
  cases e
  exact r
 | [],_ :: _,hl,_=>by simp at hl
 | _ :: _,[],hl,_=>by simp at hl
section
variable {X:Cx} {K:FG7}
def ItrD (lo:Int) (n:Nat):It:=⟨fun i _=>i < n,fun i H x H'=>H' = H /\ x = .int (lo - i),fun i _=>n <= i⟩
theorem rT {P:Program} {w:World} {K:FG7} {tg:Expr} (it:Addr) (lo:Int) (n:Nat):Turn P w K tg (ItrD lo n) [it] it (fun i h=>IsRangeIter h it (lo + (i:Nat) * (-1)) ((n:Int) - (i:Nat)) (-1)) where
 mem:=by simp
 obj:=fun i h st b hb=>by
  obtain rfl:b = it:=by simpa using hb
  refine ⟨_,st,fun v z=>?_⟩
  have z':Data.fields _ = Data.cell v:=z
  cases z'
 keep:=fun i h h' st k=>k it (by simp) _ st
 item:=by
  intro X hP hw hK hc i pins s σ H E I hf st hg
  subst hP hw hK
  obtain ⟨f0,f1,f2,f3,f4,f5⟩:=hf it (by simp)
  have W:=Walks.range (prog:=X.prog) (w:=X.w) (I.ok.hd hc) it lo (-1) n
  refine W.item i s _ _ hg st fun v h' tk hv st' kk=>?_
  obtain ⟨t,rfl⟩:=hv
  have J:Inv X pins σ H { s with heap:=h',toks:=tk }:=I.turned (fun b o hb e=>kk b o (by simpa using hb) e) f0 f1 f3 f4 f5
  refine ⟨_,rfl,Ze (s:={ s with heap:=h',toks:=tk }) (n:="range_iterator") st' rfl rfl (by decide) ⟨.int (lo - i),H,J,⟨t,?_⟩,⟨rfl,rfl⟩,st',fun b hb=>(hf b hb).1⟩⟩
  rw [show lo + (i:Int) * (-1) = lo - i by omega]
 done:=by
  intro X hP hw hK hc i pins s σ H E I hf st hg
  subst hP hw hK
  obtain ⟨f0,f1,f2,f3,f4,f5⟩:=hf it (by simp)
  exact wpAny_pyNext_range_end (I.ok.hd hc) st (by have:n <= i:=hg; omega) fun h' eb=>⟨rfl,I.turned (t':=s.toks) (fun b o hb e=>eb b o hb e) f0 f1 f3 f4 f5⟩
 self:=fun _ _ _ _ _ st h=>wpAny_pyIter_rangeiter st h
theorem Vv (a b:Int):Builtin.Range.rangeSize a b (-1) = ((a - b).toNat:Int):=by
 unfold Builtin.Range.rangeSize
 simp only [show ¬ ((-1:Int) > 0) by decide,if_false,show (- -1:Int) = 1 from rfl,Int.ediv_one]
 split <;> omega
theorem Vw {a b:Int} (h1:-1000 <= a) (h2:a <= 1000) (h3:-1000 <= b) (h4:b <= 1000):Builtin.Range.small a b (-1) = true:=by
 unfold Builtin.Range.small
 rw [Vv]
 simp only [Builtin.Range.rangeFitsLong,Bool.and_eq_true,Bool.or_eq_true,decide_eq_true_eq,beq_iff_eq,show ¬ ((-1:Int) > 0) by decide,if_false]
 omega
def Ul (ta:TA):TI:=fun σ H R=>ta σ H fun vs H1=>∃ i j:Int,vs = [.int i,.int j,.int (-1)] /\ -1000 <= i /\ i <= 1000 /\ -1000 <= j /\ j <= 1000 /\ R (ItrD i (i - j).toNat) H1
theorem sH {tg a b c:Expr} {ta:TA} {p pos:Pos} (hg:Gl X "range") (hm:X.mg "range" = none) (ha:PA X [a,b,c] ta)
  (hs:starEach [a,b,c] X.env = [(false,eval a X.env),(false,eval b X.env),(false,eval c X.env)]:=by rfl) (hs2:starEach [b,c] X.env = [(false,eval b X.env),(false,eval c X.env)]:=by rfl) :
  PI X tg (.Call (.Name "range" p) [a,b,c] [] pos) (Ul ta):=by
 intro pins s σ H R I h
 refine Call_ (va I hg hm boot_range (PyProof.Rows.callWith_type1 (thn (ha pos pins s σ H _ I h) fun us s1 ⟨vs,H1,I1,r1,q1⟩=>?_) (by rw [hs,hs2]) (by rw [hs2]; rfl)))
 obtain ⟨i,j,e,b1,b2,b3,b4,q⟩:=q1
 subst e
 cases r1 with
 | cons r rr =>
  cases rr with
  | cons r' rr =>
   cases rr with
   | cons r'' rr =>
    cases rr
    obtain ⟨t,rfl⟩:=r
    obtain ⟨t',rfl⟩:=r'
    obtain ⟨t'',rfl⟩:=r''
    refine call_range_3 (by decide) ?_ (Or.inl (PyProof.noPylong_small (by omega)))
    refine wpAny_pyIter_range (IsRange.new ..) (Vw b1 b2 b3 b4) ?_
    have I2:Inv X pins σ H1 { s1 with heap:=s1.heap.push { cls:=.type "range",data:=.fields #[.int i t,.int j t',.int (-1) t''] },toks:=s1.toks }:=I1.kept fun b o e=>Heap.get?_push_of_some _ e
    refine ⟨(s1.heap.push { cls:=.type "range",data:=.fields #[.int i t,.int j t',.int (-1) t''] }).objs.size,[(s1.heap.push { cls:=.type "range",data:=.fields #[.int i t,.int j t',.int (-1) t''] }).objs.size],_,_,H1,rfl,
     I2.kept (t':=s1.toks) fun b o e=>Heap.get?_push_of_some _ e,rT _ i (i - j).toNat,?_,fun b hb=>?_,q⟩
    ·show IsRangeIter _ _ (i + ((0:Nat):Int) * (-1)) ((((i - j).toNat:Nat):Int) - ((0:Nat):Int)) (-1)
     rw [show i + ((0:Nat):Int) * (-1) = i by simp,show (((i - j).toNat:Nat):Int) - ((0:Nat):Int) = Builtin.Range.rangeSize i j (-1) by rw [Vv]; simp]
     exact Heap.get?_push_size _ rfl
    ·obtain rfl:b = (s1.heap.push { cls:=.type "range",data:=.fields #[.int i t,.int j t',.int (-1) t''] }).objs.size:=by simpa using hb
     exact I2.fpOk (Nat.le_refl _) (I2.hok.fresh (Nat.le_refl _))
theorem uE {lo:Int} {n:Nat} {g:TG} {tb:TS} {D:Ends} {σ:L2.St} {H:Hp} (Pv:Nat -> L2.St -> Hp -> Prop) (h0:Pv 0 σ H)
  (hs:∀ i σ H,i < n -> Pv i σ H -> g (.int (lo - i)) σ H fun σ2 H2=>tb { D with nx:=Pv (i + 1),ct:=Pv (i + 1),bk:=D.nx } σ2 H2) (hd:∀ σ H,Pv n σ H -> D.nx σ H) :
  ∃ W:Nat -> Nat -> L2.St -> Hp -> Prop,(∃ m,W 0 m σ H) /\ ∀ i m σ H,W i m σ H →
   ((ItrD lo n).stop i H /\ D.nx σ H) \/ ((ItrD lo n).go i H /\ ∃ N:L2.St -> Hp -> Prop,(∀ σ' H',N σ' H' -> ∃ m',m' < m /\ W (i + 1) m' σ' H') /\ ∀ x H',(ItrD lo n).yld i H x H' -> g x σ H' fun σ2 H2=>tb { D with nx:=N,ct:=N,bk:=D.nx } σ2 H2):=by
 refine ⟨fun i m σ H=>m = n - i /\ i <= n /\ Pv i σ H,⟨n,by simp,Nat.zero_le _,h0⟩,?_⟩
 rintro i m σ H ⟨rfl,hi,p⟩
 by_cases c:i < n
 ·refine .inr ⟨c,Pv (i + 1),fun σ' H' p'=>⟨n - (i + 1),by omega,rfl,c,p'⟩,?_⟩
  rintro x H' ⟨rfl,rfl⟩
  exact hs i σ _ c p
 ·obtain rfl:i = n:=by omega
  exact .inl ⟨Nat.le_refl _,hd σ H p⟩
end
def wfN (k s l:Nat) (w:Int):Nat:=(wfI k s l w).toNat
theorem ZW:∀ k:Fin 5,∀ s:Fin 5,1 <= s.val -> s.val <= k.val -> ∀ l:Fin 16,l.val < 2 ^ k.val -> ∀ w:Fin 2,
  (wfI k.val s.val l.val w.val = (wfN k.val s.val l.val w.val:Int) /\ wfN k.val s.val l.val w.val < 2 ^ k.val /\ figI k.val s.val (wfN k.val s.val l.val w.val) = w.val) /\ ∀ t:Fin 5,t.val <= k.val -> t.val ≠ s.val -> figI k.val t.val (wfN k.val s.val l.val w.val) = figI k.val t.val l.val:=by
 decide +kernel
theorem uF:∀ k:Fin 5,∀ l:Fin 16,l.val < 2 ^ k.val -> (∀ t:Fin 5,figI k.val t.val l.val = 0 \/ figI k.val t.val l.val = 1) /\ ∀ m:Fin 16,m.val < 2 ^ k.val -> (∀ t:Fin 5,1 <= t.val -> t.val <= k.val -> figI k.val t.val l.val = figI k.val t.val m.val) -> l = m:=by
 decide +kernel
structure WfF (k s l:Nat) (w:Int):Prop where
 eq:wfI k s l w = (wfN k s l w:Int)
 lt:wfN k s l w < 2 ^ k
 at_:figI k s (wfN k s l w) = w
 off:∀ t:Nat,t <= k -> t ≠ s -> figI k t (wfN k s l w) = figI k t l
theorem wfF {k s l:Nat} {w:Int} (k4:k <= 4) (s1:1 <= s) (s2:s <= k) (hl:l < 2 ^ k) (hw:w = 0 \/ w = 1):WfF k s l w:=by
 have p:=zS k4
 have z:=ZW ⟨k,by omega⟩ ⟨s,by omega⟩ s1 s2 ⟨l,by omega⟩ hl
 rcases hw with rfl | rfl
 ·exact ⟨(z 0).1.1,(z 0).1.2.1,(z 0).1.2.2,fun t ht hn=>(z 0).2 ⟨t,by omega⟩ ht hn⟩
 ·exact ⟨(z 1).1.1,(z 1).1.2.1,(z 1).1.2.2,fun t ht hn=>(z 1).2 ⟨t,by omega⟩ ht hn⟩
theorem wB {k t l:Nat} (k4:k <= 4) (ht:t <= k) (hl:l < 2 ^ k):figI k t l = 0 \/ figI k t l = 1:=by
 have p:=zS k4
 exact (uF ⟨k,by omega⟩ ⟨l,by omega⟩ hl).1 ⟨t,by omega⟩
theorem xz {k l m:Nat} (k4:k <= 4) (hl:l < 2 ^ k) (hm:m < 2 ^ k) (h:∀ t:Nat,1 <= t -> t <= k -> figI k t l = figI k t m):l = m:=by
 have p:=zS k4
 have z:=(uF ⟨k,by omega⟩ ⟨l,by omega⟩ hl).2 ⟨m,by omega⟩ hm fun t h1 h2=>h t.val h1 h2
 exact congrArg Fin.val z
theorem wU {k i:Nat} {n:Int} (hi:i < k):(wx k n)[i]? = some (figI k ((i + 1:Nat):Int) n):=by
 unfold wx figI
 rw [List.getElem?_map,List.getElem?_range (by rw [Int.toNat_natCast]; exact hi)]
 show some (Builtin.bitAnd (n / 2 ^ _) 1) = _
 congr 4
 omega
theorem vA {k:Nat} {n:Int}:(wx k n).length = k:=by unfold wx; rw [List.length_map,List.length_range,Int.toNat_natCast]
def mixN (k e x t:Nat):Nat:=(numL ((wx k e).take (t - 1) ++ (wx k x).drop t)).toNat
theorem ZX {k e x l t:Nat} (t1:1 <= t) (tk:t <= k) (h1:∀ u:Nat,1 <= u -> u < t -> figI k u l = figI k u e) (h2:∀ u:Nat,t < u -> u <= k -> figI k u l = figI k u x):nN k t l = mixN k e x t:=by
 unfold nN vQ mixN
 have a:(wx k (l:Int)).take (t - 1) = (wx k (e:Int)).take (t - 1):=by
  refine List.ext_getElem? fun i=>?_
  by_cases hi:i < t - 1
  ·rw [List.getElem?_take_of_lt hi,List.getElem?_take_of_lt hi,wU (by omega),wU (by omega),h1 (i + 1) (by omega) (by omega)]
  ·rw [List.getElem?_eq_none (by rw [List.length_take]; omega),List.getElem?_eq_none (by rw [List.length_take]; omega)]
 have b:(wx k (l:Int)).drop t = (wx k (x:Int)).drop t:=by
  refine List.ext_getElem? fun i=>?_
  rw [List.getElem?_drop,List.getElem?_drop]
  by_cases hi:t + i < k
  ·rw [wU hi,wU hi,h2 (t + i + 1) (by omega) (by omega)]
  ·rw [List.getElem?_eq_none (by rw [vA]; omega),List.getElem?_eq_none (by rw [vA]; omega)]
 rw [a,b]
def fstI (rows:List (List Int)) (t n:Nat):Int:=(rows.getD (t - 1) []).getD n 0
def inO (k:Nat) (rows:List (List Int)) (s l:Nat):List Nat:=[wfN k s l (fstI rows s (nN k s l)),wfN k s l (1 - fstI rows s (nN k s l))]
def ordL (k:Nat) (rows:List (List Int)) (e:Nat):Nat -> List Nat
 | 0=>[e]
 | n + 1=>(ordL k rows e n).flatMap (inO k rows (k - n))
def Um (k:Nat) (rows:List (List Int)) (e m x y:Nat):Prop:=∃ t:Nat,m < t /\ t <= k /\ figI k t x ≠ figI k t y /\ (∀ u:Nat,t < u -> u <= k -> figI k u x = figI k u y) /\ figI k t x = fstI rows t (mixN k e x t)
theorem uh {k t l:Nat} {rows:List (List Int)} (k4:k <= 4) (hs:zB k rows) (t1:1 <= t) (tk:t <= k) (hl:l < 2 ^ k):fstI rows t (nN k t l) = 0 \/ fstI rows t (nN k t l) = 1:=by
 have b:=hs.bits (show t - 1 < k by omega)
 have O:=oneF k4 t1 tk hl
 exact b.2 _ (List.mem_of_getElem? (ZF (by rw [b.1]; exact O.lt)))
structure OrdF (k:Nat) (rows:List (List Int)) (e n:Nat) (L:List Nat):Prop where
 len:L.length = 2 ^ n
 mem:∀ x ∈ L,x < 2 ^ k /\ ∀ t:Nat,1 <= t -> t <= k - n -> figI k t x = figI k t e
 all:∀ x:Nat,x < 2 ^ k -> (∀ t:Nat,1 <= t -> t <= k - n -> figI k t x = figI k t e) -> x ∈ L
 row:L.Pairwise (Um k rows e (k - n))
theorem len2 {f:Nat -> List Nat} (h:∀ a,(f a).length = 2):∀ l:List Nat,(l.flatMap f).length = l.length * 2
 | []=>rfl
 | a :: l=>by rw [List.flatMap_cons,List.length_append,h,len2 h l,List.length_cons]; omega
theorem ordF {k e:Nat} {rows:List (List Int)} (k4:k <= 4) (hs:zB k rows) (he:e < 2 ^ k):∀ n,n <= k -> OrdF k rows e n (ordL k rows e n)
 | 0,_=>by
  refine ⟨rfl,fun x hx=>?_,fun x hx h=>?_,List.pairwise_singleton _ _⟩
  ·rw [List.mem_singleton.mp hx]; exact ⟨he,fun _ _ _=>rfl⟩
  ·rw [xz k4 hx he fun t a b=>h t a (by omega)]; exact List.mem_singleton.mpr rfl
 | n + 1,hn=>by
  have ih:=ordF (rows:=rows) k4 hs he n (by omega)
  have s1:1 <= k - n:=by omega
  have s2:k - n <= k:=by omega
  have mx:∀ a ∈ ordL k rows e n,∀ x ∈ inO k rows (k - n) a,∃ w:Int,(w = 0 \/ w = 1) /\ x = wfN k (k - n) a w:=by
   intro a ha x hx
   have f:=uh k4 hs s1 s2 (ih.mem a ha).1
   unfold inO at hx
   rcases List.mem_cons.mp hx with rfl | hx
   ·exact ⟨_,f,rfl⟩
   ·rw [List.mem_singleton.mp hx]
    exact ⟨_,by omega,rfl⟩
  refine ⟨?_,fun x hx=>?_,fun x hx h=>?_,?_⟩
  ·show ((ordL k rows e n).flatMap (inO k rows (k - n))).length = _
   rw [len2 (fun _=>rfl),ih.len,Nat.pow_succ]
  ·obtain ⟨a,ha,hxa⟩:=List.mem_flatMap.mp hx
   obtain ⟨w,hw,rfl⟩:=mx a ha x hxa
   have W:=wfF k4 s1 s2 (ih.mem a ha).1 hw
   exact ⟨W.lt,fun t t1 t2=>by rw [W.off t (by omega) (by omega)]; exact (ih.mem a ha).2 t t1 (by omega)⟩
  ·have W:=wfF k4 s1 s2 hx (wB (l:=e) k4 s2 he)
   have ha:=ih.all (wfN k (k - n) x (figI k ((k - n:Nat):Int) e)) W.lt fun t t1 t2=>by
    by_cases c:t = k - n
    ·rw [c]; exact W.at_
    ·rw [W.off t (by omega) c]; exact h t t1 (by omega)
   refine List.mem_flatMap.mpr ⟨_,ha,?_⟩
   have f:=uh k4 hs s1 s2 W.lt
   have g:=wB (l:=x) k4 s2 hx
   have V2:=wfF k4 s1 s2 W.lt g
   have ex:x = wfN k (k - n) (wfN k (k - n) x (figI k ((k - n:Nat):Int) e)) (figI k ((k - n:Nat):Int) x):=by
    refine xz k4 hx V2.lt fun t t1 t2=>?_
    by_cases c:t = k - n
    ·rw [c]; exact V2.at_.symm
    ·rw [V2.off t t2 c,W.off t t2 c]
   unfold inO
   by_cases c:figI k ((k - n:Nat):Int) x = fstI rows (k - n) (nN k (k - n) (wfN k (k - n) x (figI k ((k - n:Nat):Int) e)))
   ·rw [← c,← ex]; simp
   ·have c2:figI k ((k - n:Nat):Int) x = 1 - fstI rows (k - n) (nN k (k - n) (wfN k (k - n) x (figI k ((k - n:Nat):Int) e))):=by omega
    rw [← c2,← ex]; simp
  ·show ((ordL k rows e n).flatMap (inO k rows (k - n))).Pairwise _
   refine List.pairwise_flatMap.mpr ⟨fun a ha=>?_,?_⟩
   ·have f:=uh k4 hs s1 s2 (ih.mem a ha).1
    have A1:=wfF k4 s1 s2 (ih.mem a ha).1 f
    have A2:=wfF k4 s1 s2 (ih.mem a ha).1 (show 1 - fstI rows (k - n) (nN k (k - n) a) = 0 \/ 1 - fstI rows (k - n) (nN k (k - n) a) = 1 by omega)
    unfold inO
    refine List.pairwise_cons.mpr ⟨fun y hy=>?_,List.pairwise_singleton _ _⟩
    rw [List.mem_singleton.mp hy]
    refine ⟨k - n,by omega,s2,by rw [A1.at_,A2.at_]; omega,fun u u1 u2=>by rw [A1.off u u2 (by omega),A2.off u u2 (by omega)],?_⟩
    rw [A1.at_]
    congr 1
    exact ZX s1 s2 (fun u u1 u2=>(ih.mem a ha).2 u u1 (by omega)) fun u u1 u2=>(A1.off u u2 (by omega)).symm
   ·refine ih.row.imp_of_mem fun {a b} ha hb hab x hx y hy=>?_
    obtain ⟨w,hw,rfl⟩:=mx a ha x hx
    obtain ⟨v,hv,rfl⟩:=mx b hb y hy
    have A1:=wfF k4 s1 s2 (ih.mem a ha).1 hw
    have A2:=wfF k4 s1 s2 (ih.mem b hb).1 hv
    obtain ⟨t,t1,t2,t3,t4,t5⟩:=hab
    refine ⟨t,by omega,t2,by rw [A1.off t t2 (by omega),A2.off t t2 (by omega)]; exact t3,fun u u1 u2=>by rw [A1.off u u2 (by omega),A2.off u u2 (by omega)]; exact t4 u u1 u2,?_⟩
    rw [A1.off t t2 (by omega),t5]
    unfold mixN
    congr 4
    refine List.ext_getElem? fun i=>?_
    rw [List.getElem?_drop,List.getElem?_drop]
    by_cases hi:t + i < k
    ·rw [wU hi,wU hi,A1.off (t + i + 1) (by omega) (by omega)]
    ·rw [List.getElem?_eq_none (by rw [vA]; omega),List.getElem?_eq_none (by rw [vA]; omega)]
theorem Xk {k e:Nat} {rows:List (List Int)} (k4:k <= 4) (hs:zB k rows) (he:e < 2 ^ k):(ordL k rows e k).Perm (List.range (2 ^ k)):=by
 have F:=ordF (rows:=rows) k4 hs he k (Nat.le_refl k)
 refine (List.perm_ext_iff_of_nodup ?_ List.nodup_range).mpr fun x=>⟨fun hx=>List.mem_range.mpr (F.mem x hx).1,fun hx=>F.all x (List.mem_range.mp hx) fun t t1 t2=>by omega⟩
 exact F.row.imp fun ⟨t,_,_,h,_⟩ e=>h (by rw [e])
theorem jF {K:FG7} {a:Addr} {xs:List V} {g0 g1:TG} {wi1:TI} {tt:TT} {te:TE} {Q:VK} {σ:L2.St} {H:Hp} (Pv:Nat -> List V -> L2.St -> Hp -> Prop) (h0:Pv 0 [] σ H) (hl:∀ i ys σ H,i <= xs.length -> Pv i ys σ H -> SqL K H a xs)
  (hs:∀ i x ys σ H,xs[i]? = some x -> Pv i ys σ H -> g0 x σ H fun σ2 H3=>wi1 σ2 H3 fun J2 H4=>InW J2 ys σ2 H4 g1 tt te (Pv (i + 1)))
  (hd:∀ ys σ H,Pv xs.length ys σ H -> ∀ l,H l = none -> Q (.ref l) (upd H l (.lst ys))) :
  ZN (Itl K a) σ H g0 wi1 g1 tt te Q:=by
 refine ⟨fun i m ys σ H=>m = xs.length - i /\ i <= xs.length /\ Pv i ys σ H,⟨xs.length,by simp,Nat.zero_le _,h0⟩,?_⟩
 rintro i m ys σ H ⟨rfl,hi,p⟩
 have q:=hl i ys σ H hi p
 by_cases hlt:i < xs.length
 ·refine .inr ⟨⟨xs,xs[i],q,by simp [hlt]⟩,Pv (i + 1),fun zs σ' H' p'=>⟨xs.length - (i + 1),by omega,rfl,hlt,p'⟩,fun x H' y=>?_⟩
  obtain ⟨e,y⟩:=y
  subst e
  exact hs i x ys σ _ (y xs q) p
 ·obtain rfl:i = xs.length:=by omega
  exact .inl ⟨⟨xs,q,Nat.le_refl _⟩,hd ys σ H p⟩
def Ww (K:FG7) (H:Hp) (x:V) (gs:List Nat):Prop:=∃ r,x = .ref r /\ SqT K H r (yZ gs)
def xA (K:FG7):Sp:=sp4 fun x y z u H Q=>∃ (k st l:Nat) (rows:List (List Int)),x = .int k /\ y = .int st /\ z = .int l /\ zM K H u rows /\ k <= 4 /\ 1 <= st /\ st <= k /\ l < 2 ^ k /\ zB k rows /\ ∀ y H',Grow [] H H' -> Ww K H' y (inO k rows st l) -> Q y H'
def sI (K:FG7):Sp:=sp3 fun x y z H Q=>∃ (k e:Nat) (rows:List (List Int)),x = .int k /\ y = .int e /\ zM K H z rows /\ k <= 4 /\ e < 2 ^ k /\ zB k rows /\ ∀ y H',Grow [] H H' -> Ww K H' y (ordL k rows e k) -> Q y H'
def sJ (K:FG7):Sp:=sp2 fun x y H Q=>∃ (a:Addr) (k:Nat),x = .ref a /\ y = .int k /\ k <= 4 /\ Pot H a /\ ∀ y rows H',Grow [a] H H' -> Pot H' a -> zM K H' y rows -> zB k rows -> Q y H'
theorem jG:∀ k:Fin 5,∀ i:Fin 5,i.val < k.val -> ∀ n:Fin 16,(n.val:Int) / (1 * 2 ^ ((k.val:Int) - (0 + i.val) - 1).toNat) % 2 = figI k.val (i.val + 1:Nat) n.val:=by
 decide +kernel
theorem figd {k i n:Nat} (k4:k <= 4) (hi:i < k) (hn:n < 2 ^ k):(n:Int) / (1 * 2 ^ ((k:Int) - (0 + i) - 1).toNat) % 2 = figI k ((i + 1:Nat):Int) n:=by
 have p:=zS k4
 exact jG ⟨k,by omega⟩ ⟨i,by omega⟩ hi ⟨n,by omega⟩
theorem Wx {k:Nat} (h:k <= 4):(1:Int) * 2 ^ ((k:Int)).toNat / 2 = ((2 ^ k / 2:Nat):Int):=by
 have key:∀ k:Fin 5,(1:Int) * 2 ^ ((k.val:Int)).toNat / 2 = ((2 ^ k.val / 2:Nat):Int):=by decide
 exact key ⟨k,by omega⟩
theorem Xl {xs:List Nat} {i:Nat} (h:i < xs.length):xs[i]? = some (xs.getD i 0):=by rw [List.getD_eq_getElem?_getD,List.getElem?_eq_getElem h]; rfl
theorem Wy {a b:Nat}:Builtin.bitAnd (a:Int) (b:Int) = ((a &&& b:Nat):Int):=by
 unfold Builtin.bitAnd
 rw [decide_eq_true (Int.natCast_nonneg a),decide_eq_true (Int.natCast_nonneg b)]; rfl
theorem Vx {a b:Nat}:Builtin.bitOr (a:Int) (b:Int) = ((a ||| b:Nat):Int):=by
 have e:∀ x:Nat,decide (0 <= Builtin.bitNot (x:Int)) = false:=fun x=>decide_eq_false (by show ¬ 0 <= -(x:Int) - 1; omega)
 have n2:∀ x:Int,Builtin.bitNot (Builtin.bitNot x) = x:=fun x=>by show -(-x - 1) - 1 = x; omega
 unfold Builtin.bitOr Builtin.bitAnd
 rw [e a,e b]
 show Builtin.bitNot (Builtin.bitNot (((Builtin.bitNot (Builtin.bitNot (a:Int))).toNat ||| (Builtin.bitNot (Builtin.bitNot (b:Int))).toNat:Nat):Int)) = _
 rw [n2,n2,n2]; rfl
theorem jH:∀ a b:Nat,a ||| b = (a ^^^ b) + (a &&& b):=by
 intro a
 induction a using Nat.strongRecOn with
 | ind a ih =>
  intro b
  by_cases h0:a = 0
  ·subst h0; simp
  have h:=ih (a / 2) (by omega) (b / 2)
  have d1:(a ||| b) / 2 = a / 2 ||| b / 2:=Nat.or_div_two
  have d2:(a ^^^ b) / 2 = a / 2 ^^^ b / 2:=Nat.xor_div_two
  have d3:(a &&& b) / 2 = a / 2 &&& b / 2:=Nat.and_div_two
  have m1:(a ||| b) % 2 = a % 2 ||| b % 2:=Nat.or_mod_two_pow (n:=1)
  have m2:(a ^^^ b) % 2 = a % 2 ^^^ b % 2:=Nat.xor_mod_two_pow (n:=1)
  have m3:(a &&& b) % 2 = a % 2 &&& b % 2:=Nat.and_mod_two_pow (n:=1)
  have k:a % 2 ||| b % 2 = (a % 2 ^^^ b % 2) + (a % 2 &&& b % 2):=by
   rcases Nat.mod_two_eq_zero_or_one a with e | e <;> rcases Nat.mod_two_eq_zero_or_one b with e' | e' <;> rw [e,e'] <;> rfl
  omega
theorem xn {a b:Nat}:Builtin.bitXor (a:Int) (b:Int) = ((a ^^^ b:Nat):Int):=by
 unfold Builtin.bitXor
 rw [Vx,Wy]
 have:=jH a b
 omega
abbrev cxO (X:Cx) (N':List Str) (scope:Scope) (cl:List (Str × Addr)) (C D:Addr) (fp:List Addr) (s:Shared) (H:Hp):Cx :=
 { X with N:=N',s₀:=s,H₀:=H,env:=compEnvC scope cl C X.env,outer:=X.stack,ex:=D :: fp,fn:=fun x=>scope.names.lookup x == some .cell,xe:=fun _ _=>False }
structure CScC (X:Cx) (scope:Scope) (N':List Str) (sub:List (Option Nat)):Prop where
 free:∀ y ∈ scope.names,y.2 = .free -> X.env.kindOf y.1 = some .cell
 nd:(scope.names.map (·.1)).Nodup
 kind:scope.kind = .function
 names:∀ y ∈ scope.names,y.2 = .local -> scope.names.lookup y.1 = some .local
 len:sub.length = N'.length
 cap:∀ (j:Nat) (y:Str) (i:Nat),N'[j]? = some y -> sub[j]? = some (some i) -> X.N[i]? = some y /\ X.env.scope.names.lookup y = some .cell /\ scope.names.lookup y = some .free
theorem xV {α:Type} {x:Str} {c:α}:∀ {a b:List (Str × α)},(a ++ b).lookup x = some c -> a.lookup x = some c \/ (a.lookup x = none /\ b.lookup x = some c)
 | [],b,h=>.inr ⟨rfl,h⟩
 | (k,v) :: r,b,h=>by
  rw [List.cons_append,List.lookup_cons] at h
  rw [List.lookup_cons]
  cases hb:x == k with
  | true=>rw [hb] at h; exact .inl h
  | false=>rw [hb] at h; exact xV h
theorem jI {α:Type} {x:Str} {a b:List (Str × α)} (h:∃ c,a.lookup x = some c):∃ c,(a ++ b).lookup x = some c:=by
 induction a with
 | nil=>obtain ⟨c,h⟩:=h; cases h
 | cons p r ih =>
  obtain ⟨k,v⟩:=p
  rw [List.lookup_cons] at h
  rw [List.cons_append,List.lookup_cons]
  cases hb:x == k with
  | true=>exact ⟨v,rfl⟩
  | false=>rw [hb] at h; exact ih h
theorem vT {α:Type} {x:Str} {a b:List (Str × α)} (h:∃ c,b.lookup x = some c):∃ c,(a ++ b).lookup x = some c:=by
 induction a with
 | nil=>exact h
 | cons p r ih =>
  obtain ⟨k,v⟩:=p
  rw [List.cons_append,List.lookup_cons]
  cases hb:x == k with
  | true=>exact ⟨v,rfl⟩
  | false=>exact ih
theorem rV {α:Type} {x:Str} {c:α} {a b:List (Str × α)} (h:a.lookup x = none) (e:b.lookup x = some c):(a ++ b).lookup x = some c:=by
 induction a with
 | nil=>exact e
 | cons p r ih =>
  obtain ⟨k,v⟩:=p
  rw [List.lookup_cons] at h
  rw [List.cons_append,List.lookup_cons]
  cases hb:x == k with
  | true=>rw [hb] at h; cases h
  | false=>rw [hb] at h; exact ih h
theorem vU:∀ (names:List (Str × NameKind)) (n:Nat) (acc more:List (Str × Addr)),cellsFrom n names (acc ++ more) = cellsFrom n names acc ++ more
 | [],_,_,_=>rfl
 | (x,k) :: r,n,acc,more=>by
  unfold cellsFrom
  split
  ·exact vU r (n + 1) ((x,n) :: acc) more
  ·exact vU r n acc more
theorem vV:∀ {names:List (Str × NameKind)} {n:Nat} {acc:List (Str × Addr)} {x:Str} {c:Addr},(x,c) ∈ cellsFrom n names acc -> (x,c) ∈ acc \/ (x,NameKind.cell) ∈ names
 | [],_,_,_,_,h=>.inl h
 | (y,k) :: r,n,acc,x,c,h=>by
  unfold cellsFrom at h
  split at h
  ·rename_i hk
   have hk':k = .cell:=by simpa using hk
   rcases vV h with z | z
   ·rcases List.mem_cons.mp z with e | z
    ·cases e; exact .inr (by rw [hk']; simp)
    ·exact .inl z
   ·exact .inr (List.mem_cons_of_mem _ z)
  ·rcases vV h with z | z
   ·exact .inl z
   ·exact .inr (List.mem_cons_of_mem _ z)
theorem wC {α:Type} {x:Str}:∀ {a:List (Str × α)},x ∈ a.map (·.1) -> ∃ c,a.lookup x = some c
 | (k,v) :: r,h=>by
  rw [List.lookup_cons]
  cases hb:x == k with
  | true=>exact ⟨v,rfl⟩
  | false =>
   rcases List.mem_cons.mp h with e | h
   ·rw [e] at hb; simp at hb
   ·exact wC h
theorem wV:∀ {names:List (Str × NameKind)} {n:Nat} {acc:List (Str × Addr)} {x:Str},x ∈ acc.map (·.1) -> x ∈ (cellsFrom n names acc).map (·.1)
 | [],_,_,_,h=>h
 | (y,k) :: r,n,acc,x,h=>by
  unfold cellsFrom
  split
  ·exact wV (by rw [List.map_cons]; exact List.mem_cons_of_mem _ h)
  ·exact wV h
theorem qZ:∀ {names:List (Str × NameKind)} {n:Nat} {acc:List (Str × Addr)} {x:Str},(x,NameKind.cell) ∈ names -> x ∈ (cellsFrom n names acc).map (·.1)
 | (y,k) :: r,n,acc,x,h=>by
  unfold cellsFrom
  rcases List.mem_cons.mp h with e | h
  ·cases e
   rw [if_pos (by decide)]
   exact wV (by rw [List.map_cons]; exact List.mem_cons_self)
  ·split <;> exact qZ h
theorem sK {names:List (Str × NameKind)} {n:Nat} {x:Str} (h:(x,NameKind.cell) ∈ names):∃ c,(cellsFrom n names []).lookup x = some c:=wC (qZ h)
theorem ZY {names:List (Str × NameKind)} {n:Nat} {x:Str} (nd:(names.map (·.1)).Nodup) (h:(x,NameKind.free) ∈ names):(cellsFrom n names []).lookup x = none:=by
 cases e:(cellsFrom n names []).lookup x with
 | none=>rfl
 | some c =>
  rcases vV (PySem.mem_of_lookup e) with z | z
  ·cases z
  ·have key:∀ {l:List (Str × NameKind)},(l.map (·.1)).Nodup -> (x,NameKind.free) ∈ l -> (x,NameKind.cell) ∈ l -> False:=by
    intro l
    induction l with
    | nil=>intro _ h; cases h
    | cons p r ih =>
     intro nd h1 h2
     rw [List.map_cons,List.nodup_cons] at nd
     rcases List.mem_cons.mp h1 with e1 | h1 <;> rcases List.mem_cons.mp h2 with e2 | h2
     ·rw [← e1] at e2; cases e2
     ·exact nd.1 (by rw [← e1]; exact List.mem_map.mpr ⟨_,h2,rfl⟩)
     ·exact nd.1 (by rw [← e2]; exact List.mem_map.mpr ⟨_,h1,rfl⟩)
     ·exact ih nd.2 h1 h2
   exact (key nd h z).elim
section
variable {X:Cx} {pins:List (Addr × Obj)} {σ:L2.St} {H2:Hp} {s₂:Shared} {it:Addr} {fp:List Addr} {tn:Nat -> Heap -> Prop} {J:It} {scope:Scope} {cl:List (Str × Addr)} {N':List Str} {sub:List (Option Nat)}
theorem rW {h₁:Heap} {tk:Nat} (I:Inv X pins σ H2 s₂) (S:CScC X scope N' sub) (hcl1:∀ x c,cl.lookup x = some c -> X.env.cells.lookup x = some c) (hcl2:∀ y ∈ scope.names,y.2 = .free -> ∃ c,cl.lookup y.1 = some c)
    (hcc:CellsOk h₁ (s₂.heap.objs.size + 2) (cellsFrom (s₂.heap.objs.size + 2) scope.names []))
    (f2:∀ b ∈ fp,FpOk X pins H2 b) (hfp:∀ b ∈ fp,b < s₂.heap.objs.size) {m:Str -> Option Value} {ob:Obj}
    (hns:h₁.Ns (s₂.heap.objs.size + 1) m) (hk:∀ b o,(s₂.heap.push ob).get? b = some o -> h₁.get? b = some o) :
    Inv (cxO X N' scope (cellsFrom (s₂.heap.objs.size + 2) scope.names [] ++ cl) (s₂.heap.objs.size + 1) s₂.heap.objs.size fp { s₂ with heap:=s₂.heap.push ob } H2) pins (capt sub σ) H2 { s₂ with heap:=h₁,toks:=tk }:=by
  have old:∀ b o,s₂.heap.get? b = some o -> (s₂.heap.push ob).get? b = some o:=fun b o e=>Heap.get?_push_of_some _ e
  have old2:∀ b o,s₂.heap.get? b = some o -> h₁.get? b = some o:=fun b o e=>hk b o (old b o e)
  have sz:(s₂.heap.push ob).objs.size = s₂.heap.objs.size + 1:=Heap.size_push ..
  have lk:∀ x c,(cellsFrom (s₂.heap.objs.size + 2) scope.names [] ++ cl).lookup x = some c -> ((x,c) ∈ cellsFrom (s₂.heap.objs.size + 2) scope.names [] /\ h₁.IsCell c none /\ s₂.heap.objs.size + 2 <= c) \/ X.env.cells.lookup x = some c:=fun x c e=>by
    rcases xV e with e | ⟨_,e⟩
    · exact .inl ⟨PySem.mem_of_lookup e,hcc.empty x c (PySem.mem_of_lookup e)⟩
    · exact .inr (hcl1 x c e)
  have cells:∀ x c,X.env.cells.lookup x = some c -> c < s₂.heap.objs.size:=fun x c e=>let ⟨v,q⟩:=I.cell x c e; q.lt
  have has:∀ x,((relabel scope X.env).names.lookup x = some .cell \/ (relabel scope X.env).names.lookup x = some .free) -> ∃ c,(cellsFrom (s₂.heap.objs.size + 2) scope.names [] ++ cl).lookup x = some c:=fun x hx=>by
    rcases hx with hx | hx
    · obtain ⟨k',e,z⟩:=yG hx
      rcases z with z | ⟨_,z⟩
      · subst z; exact jI (sK (PySem.mem_of_lookup e))
      · subst z; exact vT (hcl2 _ (PySem.mem_of_lookup e) rfl)
    · obtain ⟨k',e,z⟩:=yG hx
      rcases z with z | ⟨z,_⟩
      · subst z; exact vT (hcl2 _ (PySem.mem_of_lookup e) rfl)
      · cases z
  have frsz:∀ b ∈ frs X.stack,b < s₂.heap.objs.size:=fun b hb=>by
    rcases List.mem_cons.mp (I.stkSub b hb) with z | z
    · rw [z]; exact I.lt
    · exact Nat.lt_of_not_le fun q=>I.nofs q z
  refine
    { ok :=
      { mod:=I.ok.mod,kind:=S.kind,glob:=I.ok.glob,blt:=I.ok.blt
        above:=by show (s₂.heap.push ob).objs.size <= s₂.heap.objs.size + 1; rw [sz]; exact Nat.le_refl _
        inj:=fun x y c h1 h2=>?inj
        has:=has
        cab:=fun x c z e=>?cab
        hd:=I.ok.hd,frames:=I.ok.frames,stk:=.inl rfl
        exf:=fun b hb=>?exf
        bs:=fun b o e=>⟨old b o (I.bk b o e),(I.bs b o e).2⟩
        bsz:=by show X.base.objs.size <= (s₂.heap.push ob).objs.size; rw [sz]; exact Nat.le_succ_of_le (Nat.le_trans I.ok.bsz I.sz)
        noex:=fun b o e hb=>?noex
        exfs:=fun b hb=>?exfs
        funs:=?funs
        frf:=I.stkFree }
      os:=rfl,bare:=I.bare,base:=Un.kept fun b u e=>hk b u e
      loc:=⟨m,hns,?loc⟩
      cell:=fun x c e=>?cell
      free:=I.hok.fresh (Nat.le_succ _)
      freeC:=fun x c e=>?freeC
      pin:=fun p hp=>?pin
      hok:=I.hok.kept old2
      len:=?len }
  case exf =>
    rcases List.mem_cons.mp hb with rfl | hb
    · exact ⟨Nat.ne_of_lt (Nat.lt_succ_self _),fun x c e=>(lk x c e).elim (fun z=>Nat.ne_of_gt (Nat.lt_of_lt_of_le (Nat.lt_succ_of_lt (Nat.lt_succ_self _)) z.2.2)) (fun z=>Nat.ne_of_lt (cells x c z))⟩
    · exact ⟨Nat.ne_of_lt (Nat.lt_succ_of_lt (hfp b hb)),fun x c e=>(lk x c e).elim (fun z=>Nat.ne_of_gt (Nat.lt_of_lt_of_le (hfp b hb) (Nat.le_trans (Nat.le_add_right _ 2) z.2.2))) (fun z=>(f2 b hb).2.2.2.2.1 x c z)⟩
  case noex =>
    have hl:b < X.s₀.heap.objs.size:=Nat.lt_of_lt_of_le (Heap.lt_size e) I.ok.bsz
    rcases List.mem_cons.mp hb with rfl | hb
    · exact absurd (Nat.lt_of_lt_of_le hl I.sz) (Nat.lt_irrefl _)
    · rcases (f2 b hb).2.2.2.1 with z | z
      · exact I.ok.noex b o e z
      · exact absurd (Nat.lt_of_lt_of_le hl z) (Nat.lt_irrefl _)
  case exfs =>
    intro hs
    rcases List.mem_cons.mp hb with rfl | hb
    · exact absurd (frsz _ hs) (Nat.lt_irrefl _)
    · rcases List.mem_cons.mp (I.stkSub b hs) with z | z
      · exact (f2 b hb).2.1 z
      · exact (f2 b hb).2.2.1 z
  case funs=>exact Heap.FunFrames.of_keeps (fun b o e _=>⟨o,old b o e,rfl⟩) I.stack
  case loc =>
    intro j y v hj hv hvis
    obtain ⟨mX,_,lX⟩:=I.loc
    unfold capt at hv
    rw [List.getElem?_map] at hv
    cases hs:sub[j]? with
    | none=>rw [hs] at hv; cases hv
    | some o =>
      rw [hs] at hv
      cases o with
      | none=>cases hv
      | some i =>
        obtain ⟨hN,hc,hf⟩:=S.cap j y i hj hs
        have hv':σ[i]? = some (some v):=by
          have z:(match σ[i]? with | some v=>v | none=>none) = some v:=Option.some.inj hv
          cases q:σ[i]? with
          | none=>rw [q] at z; cases z
          | some w=>rw [q] at z; rw [show w = some v from z]
        obtain ⟨u,ru,hl⟩:=lX i y v hN hv' (.inr (.inl hc))
        refine ⟨u,ru,?_⟩
        have kc:(relabel scope X.env).names.lookup y = some .cell:=xc I.ok.kind hc hf
        rcases hl with ⟨z,_⟩ | ⟨_,c,e,ic⟩
        · have z':X.env.scope.names.lookup y = some .local :=z
          rw [hc] at z'; cases z'
        · obtain ⟨c',e'⟩:=hcl2 _ (PySem.mem_of_lookup hf) rfl
          have:=hcl1 _ _ e'
          rw [e] at this; cases this
          have e3:(cellsFrom (s₂.heap.objs.size + 2) scope.names [] ++ cl).lookup y = some c:=rV (ZY S.nd (PySem.mem_of_lookup hf)) e'
          refine .inr ⟨.inl kc,c,e3,?_⟩
          obtain ⟨oc,h1,h2⟩:=ic
          exact ⟨oc,old2 _ _ h1,h2⟩
  case cell =>
    rcases lk x c e with ⟨_,z,_⟩ | z
    · exact ⟨none,z⟩
    · obtain ⟨v,oc,h1,h2⟩:=I.cell x c z
      exact ⟨v,oc,old2 _ _ h1,h2⟩
  case inj =>
    rcases lk x c h1 with ⟨m1,_,z1⟩ | z1 <;> rcases lk y c h2 with ⟨m2,_,z2⟩ | z2
    · exact name_of_addr hcc.apart m1 m2
    · exact absurd (Nat.lt_of_lt_of_le (cells y c z2) (Nat.le_trans (Nat.le_add_right _ 2) z1)) (Nat.lt_irrefl _)
    · exact absurd (Nat.lt_of_lt_of_le (cells x c z1) (Nat.le_trans (Nat.le_add_right _ 2) z2)) (Nat.lt_irrefl _)
    · exact I.ok.inj x y c z1 z2
  case cab =>
    show (s₂.heap.push ob).objs.size <= c
    rw [sz]
    have hz:scope.names.lookup x = some .cell:=by simpa using z
    rcases xV e with e | ⟨e,_⟩
    · have:=(hcc.empty x c (PySem.mem_of_lookup e)).2; omega
    · obtain ⟨c',e'⟩:=sK (n:=s₂.heap.objs.size + 2) (PySem.mem_of_lookup hz)
      rw [e'] at e; cases e
  case freeC =>
    rcases lk x c e with ⟨_,_,z⟩ | z
    · exact I.hok.fresh (by omega)
    · exact I.freeC x c z
  case pin =>
    obtain ⟨p1,p2,p3,p4,p5⟩:=I.pin p hp
    refine ⟨old2 _ _ p1,p2,Nat.ne_of_lt (Nat.lt_succ_of_lt (Heap.lt_size p1)),fun hs=>?_,p5⟩
    rcases List.mem_cons.mp (I.stkSub _ hs) with z | z
    · exact p3 z
    · exact p4 z
  case len =>
    show (capt sub σ).length = N'.length
    unfold capt
    rw [List.length_map]; exact S.len
theorem ZZ {C D:Addr} {s₀:Shared} {s':Shared} {σ':L2.St} {H':Hp} {ys:List V} {us:List Value} {k:Nat} {oC:Obj} (I:Inv X pins σ H2 s₂)
    (hs₀:∀ b o,s₂.heap.get? b = some o -> s₀.heap.get? b = some o) (hos:s₀.os = s₂.os) (hD:s₂.heap.objs.size <= D) (hC:s₂.heap.objs.size <= C) (hDC:D ≠ C) (f2:∀ b ∈ fp,FpOk X pins H2 b)
    (I':Inv (cxO X N' scope cl C D fp s₀ H2) pins σ' H' s') (hn:H' D = none) (hy:s'.heap.get? D = some { cls:=.type "list",data:=.seq us.toArray k }) (rv:Vals ys us) (hz:ys.length <= sizeLine)
    (ho:s'.heap.get? C = some oC) (hd:∀ v,oC.data ≠ .cell v):Inv X (pins ++ [(C,oC)]) σ (upd H' D (.lst ys)) s' /\ FpOk X pins (upd H' D (.lst ys)) C:=by
  have neD:∀ b o,s₂.heap.get? b = some o -> b ≠ D:=fun b o e=>Nat.ne_of_lt (Nat.lt_of_lt_of_le (Heap.lt_size e) hD)
  have nm:∀ b o,s₂.heap.get? b = some o -> b ∉ fp -> b ∉ D :: fp:=fun b o e h z=>(List.mem_cons.mp z).elim (neD b o e) h
  have U:=I'.base
  have HC:upd H' D (.lst ys) C = none:=by rw [zp (Ne.symm hDC)]; exact I'.free
  have fpc:FpOk X pins (upd H' D (.lst ys)) C:=I.fpOk hC HC
  have un:Un (frs X.stack) fp H2 (upd H' D (.lst ys)) s₂.heap s'.heap :=
    { keep:=fun b o e n h1 h2=>U.keep b o (hs₀ b o e) n h1 (nm b o e h2)
      slot:=fun b o e n h1 h2=>U.slot b o (hs₀ b o e) n h1 (nm b o e h2)
      free:=fun b o e n h2=>by rw [zp (neD b o e)]; exact U.free b o (hs₀ b o e) n (nm b o e h2)
      there:=fun b o e h2=>U.there b o (hs₀ b o e) (nm b o e h2)
      tups:=fun b xs e=>by have z:=U.tups b xs e; rw [zp (zv z hn)]; exact z
      frzs:=fun b o u e=>by have z:=U.frzs b o u e; rw [zp (zv z hn)]; exact z
      tbls:=fun b ps e=>by obtain ⟨more,z⟩:=U.tbls b ps e; exact ⟨more,by rw [zp (zv z hn)]; exact z⟩ }
  have hok:HOk X.prog X.w (upd H' D (.lst ys)) s'.heap:=HOk.track I'.hok hn ⟨hz,us,k,rv,hy⟩
  have IX:Inv X pins σ (upd H' D (.lst ys)) s':=I.call' (I'.os.trans hos) un hok I'.bare fun b hb=>⟨(f2 b hb).2.2.2.1,(f2 b hb).2.1,(f2 b hb).2.2.2.2.1,(f2 b hb).2.2.2.2.2⟩
  refine ⟨IX.pins_of fun p hp=>?_,fpc⟩
  rcases List.mem_append.mp hp with hp | hp
  · exact IX.pin p (List.mem_append_right _ hp)
  · rw [List.mem_singleton.mp hp]
    exact ⟨ho,HC,fpc.2.1,fpc.2.2.1,hd⟩
theorem Z0 {C D:Addr} {s₀:Shared} {tg:Expr} {pos:Pos} {elt iter:Expr} {ifs:List Expr} {g:TG} {tt:TT} {te:TE} {Q:VK} {RR:Value -> Addr -> Result -> Shared -> Prop} {W:Nat -> Nat -> List V -> L2.St -> Hp -> Prop}
  (I:Inv X pins σ H2 s₂) (hcalm:X.calm = true) (T:Turn X.prog X.w X.K tg J fp it tn) (f2:∀ b ∈ fp,FpOk X pins H2 b) (hfp:∀ b ∈ fp,b < s₂.heap.objs.size)
  (hs₀:∀ b o,s₂.heap.get? b = some o -> s₀.heap.get? b = some o) (hos:s₀.os = s₂.os) (hD:s₂.heap.objs.size <= D) (hC:s₂.heap.objs.size <= C) (hDC:D ≠ C)
  (hcl1:∀ x c,cl.lookup x = some c -> X.env.cells.lookup x = some c \/ (s₂.heap.objs.size <= c /\ D ≠ c))
  (hg:PG (cxO X N' scope cl C D fp s₀ H2) tg g) (ht:PIfs (cxO X N' scope cl C D fp s₀ H2) ifs tt) (he:PE (cxO X N' scope cl C D fp s₀ H2) elt te)
  (turn:∀ i m ys σ' H',W i m ys σ' H' →
   (J.stop i H' /\ ∀ l,H' l = none -> Q (.ref l) (upd H' l (.lst ys))) ∨
   (J.go i H' /\ ∃ Nn:List V -> L2.St -> Hp -> Prop,(∀ zs σ2 H2,Nn zs σ2 H2 -> ∃ m',m' < m /\ W (i + 1) m' zs σ2 H2) ∧
    ∀ x H2,J.yld i H' x H2 -> g x σ' H2 fun σ2 H3=>tt σ2 H3 fun b H4=>if b = true then te σ2 H4 fun y H5=>ys.length < sizeLine /\ Nn (ys ++ [y]) σ2 H5 else Nn ys σ2 H4))
  (hRR:∀ (D C:Addr) (oC:Obj) (m:Str -> Option Value) (s':Shared) (Hf:Hp),Inv X (pins ++ [(C,oC)]) σ Hf s' -> s'.heap.Ns C m -> FpOk X pins Hf C -> Q (.ref D) Hf -> RR (.ref D) C (.ok .next) s')
  (n:Nat) (s:Shared) (h:∃ i ys us k σ' H',Inv (cxO X N' scope cl C D fp s₀ H2) pins σ' H' s /\ tn i s.heap /\ (∀ b ∈ fp,H' b = none) /\ H' D = none ∧
   s.heap.get? D = some { cls:=.type "list",data:=.seq (us:List Value).toArray k } /\ Vals ys us /\ ys.length <= sizeLine /\ W i n ys σ' H') :
  codeAny (model X.prog X.w) X.A (.compLoop (.ListComp elt [⟨tg,iter,ifs,0⟩] scope pos) 0 (.ref it) (.ref D) (compEnvC scope cl C X.env)) (RR (.ref D) C) s:=by
 have frsz:∀ b ∈ frs X.stack,b < s₂.heap.objs.size:=fun b hb=>by
  rcases List.mem_cons.mp (I.stkSub b hb) with z | z
  ·rw [z]; exact I.lt
  ·exact Nat.lt_of_not_le fun q=>I.nofs q z
 have cells:∀ x c,cl.lookup x = some c -> D ≠ c:=fun x c e=>by
  rcases hcl1 x c e with z | z
  ·obtain ⟨v,q⟩:=I.cell x c z
   exact Nat.ne_of_gt (Nat.lt_of_lt_of_le q.lt hD)
  ·exact z.2
 have pinsz:∀ p ∈ X.pn ++ pins,p.1 < s₂.heap.objs.size:=fun p hp=>Heap.lt_size (I.pin p hp).1
 refine ss (fun n s=>∃ i ys us k σ' H',Inv (cxO X N' scope cl C D fp s₀ H2) pins σ' H' s /\ tn i s.heap /\ (∀ b ∈ fp,H' b = none) /\ H' D = none ∧
   s.heap.get? D = some { cls:=.type "list",data:=.seq (us:List Value).toArray k } /\ Vals ys us /\ ys.length <= sizeLine /\ W i n ys σ' H') ?_ n h
 rintro n s ⟨i,ys,us,k,σ',H',I',st',fr,hn,hy,rv,hz,w'⟩
 have pD:Inv (cxO X N' scope cl C D fp s₀ H2) (pins ++ [(D,{ cls:=.type "list",data:=.seq us.toArray k })]) σ' H' s:=I'.pins_of fun p hp=>by
  rcases List.mem_append.mp hp with hp | hp
  ·exact I'.pin p (List.mem_append_right _ hp)
  ·rw [List.mem_singleton.mp hp]
   exact ⟨hy,hn,hDC,fun z=>absurd (Nat.lt_of_lt_of_le (frsz _ z) hD) (Nat.lt_irrefl _),fun v z=>by cases z⟩
 have fpok:∀ {H'':Hp},(∀ b ∈ fp,H'' b = none) -> ∀ b ∈ fp,FpOk (cxO X N' scope cl C D fp s₀ H2) (pins ++ [(D,{ cls:=.type "list",data:=.seq us.toArray k })]) H'' b:=fun hz b hb=>by
  refine ⟨hz b hb,Nat.ne_of_lt (Nat.lt_of_lt_of_le (hfp b hb) hC),fun z=>?_,.inl (List.mem_cons_of_mem _ hb),fun x c e=>(hcl1 x c e).elim (fun z=>(f2 b hb).2.2.2.2.1 x c z) (fun z q=>absurd (Nat.lt_of_lt_of_le (q ▸ hfp b hb) z.1) (Nat.lt_irrefl _)),fun p hp=>?_⟩
  ·rcases List.mem_cons.mp (I.stkSub b z) with z | z
   ·exact (f2 b hb).2.1 z
   ·exact (f2 b hb).2.2.1 z
  ·rcases List.mem_append.mp hp with hp | hp
   ·exact (f2 b hb).2.2.2.2.2 p (List.mem_append_left _ hp)
   ·rcases List.mem_append.mp hp with hp | hp
    ·exact (f2 b hb).2.2.2.2.2 p (List.mem_append_right _ hp)
    ·rw [List.mem_singleton.mp hp]
     exact Nat.ne_of_gt (Nat.lt_of_lt_of_le (hfp b hb) hD)
 rcases turn i n ys σ' H' w' with ⟨stop,q⟩ | ⟨go,Nn,hN,step⟩
 ·refine thn (T.done (cxO X N' scope cl C D fp s₀ H2) rfl rfl rfl hcalm i _ s σ' H' (fun _ _=>False) pD (fpok fr) st' stop) fun r s1 ⟨hr,I1⟩=>?_
  subst hr
  have hy1:=(I1.pin (D,{ cls:=.type "list",data:=.seq us.toArray k }) (by simp)).1
  obtain ⟨m,hm,_⟩:=I1.loc
  obtain ⟨oC,es,ep,hoC,hdC,_⟩:=id hm
  obtain ⟨IX,fpc⟩:=ZZ I hs₀ hos hD hC hDC f2 I1.unpinned hn hy1 rv hz hoC (by intro v z; rw [hdC] at z; cases z)
  exact hRR D C oC m s1 _ IX hm fpc (q D hn)
 ·refine thn (T.item (cxO X N' scope cl C D fp s₀ H2) rfl rfl rfl hcalm i _ s σ' H' (fun _ _=>False) pD (fpok fr) st' go) fun r s1 ⟨u,hr,h4⟩=>?_
  subst hr
  refine thn h4 fun _ s2 ⟨x5,H5,I5,r5,y5,st5,fr5⟩=>?_
  have I5':=I5.pinned (fpok fr5) (T.obj _ _ st5)
  refine thn (hg _ s2 σ' H5 x5 u _ I5' r5 (step x5 H5 y5)) fun _ s3 ⟨σ6,H6,I6,q6⟩=>?_
  refine thn (ht _ s3 σ6 H6 _ I6 q6) fun ok s4 ⟨H7,I7,q7⟩=>?_
  have stay:∀ {σ7:L2.St} {H7:Hp} {s7:Shared},Inv (cxO X N' scope cl C D fp s₀ H2) (pins ++ [(D,{ cls:=.type "list",data:=.seq us.toArray k })] ++ xH fp s2.heap) σ7 H7 s7 →
    (∀ b ∈ fp,∀ o,s2.heap.get? b = some o -> s7.heap.get? b = some o) /\ (∀ b ∈ fp,H7 b = none) /\ H7 D = none /\ s7.heap.get? D = some { cls:=.type "list",data:=.seq us.toArray k }:=fun {σ7 H7 s7} I7=>by
   have d:=I7.pin (D,{ cls:=.type "list",data:=.seq us.toArray k }) (by simp)
   refine ⟨fun b hb o e=>(I7.pin (b,o) (List.mem_append_right _ (List.mem_append_right _ (zR hb e)))).1,fun b hb=>?_,d.2.1,d.1⟩
   obtain ⟨o,e,_⟩:=T.obj _ _ st5 b hb
   exact (I7.pin (b,o) (List.mem_append_right _ (List.mem_append_right _ (zR hb e)))).2.1
  cases ok with
  | false =>
   rw [if_neg (by decide)] at q7 ⊢
   obtain ⟨k1,k2,k3,k4⟩:=stay I7
   obtain ⟨m',hm,w7⟩:=hN ys σ6 H7 q7
   exact ⟨m',hm,i + 1,ys,us,k,σ6,H7,I7.unpinned.unpinned,T.keep _ _ _ st5 k1,k2,k3,k4,rv,hz,w7⟩
  | true =>
   rw [if_pos rfl] at q7 ⊢
   refine thn (he _ s4 σ6 H7 _ I7 q7) fun v s5 ⟨y,H8,I8,r8,hl8,n8⟩=>?_
   obtain ⟨k1,k2,k3,k4⟩:=stay I8
   refine wpAny_list_append_plain (l:=D) ⟨k,k4⟩ (fun h' pl sb=>?_) (by rw [List.size_toArray,← rv.length]; exact hz)
   obtain ⟨k',e'⟩:=pl
   obtain ⟨m',hm,w8⟩:=hN _ σ6 H8 n8
   refine ⟨m',hm,i + 1,ys ++ [y],us ++ [v],k',σ6,H8,?_,T.keep _ _ _ (T.keep _ _ _ st5 k1) fun b hb o e=>sb.extBut b o (Nat.ne_of_lt (Nat.lt_of_lt_of_le (hfp b hb) hD)) e,k2,k3,?_,rv.append (.cons r8 .nil),?_,w8⟩
   ·exact (I8.unpinned.unpinned).turned (it:=D) (t':=s5.toks) (h':=h') (fun b o hb e=>sb.extBut b o hb e) k3 hDC (.inl (by simp)) (fun x c e=>(cells x c e).symm) (fun p hp=>Nat.ne_of_lt (Nat.lt_of_lt_of_le (pinsz p hp) hD))
   ·rw [e']; simp
   ·rw [List.length_append]; exact hl8
theorem Z1 {M:Model} {A:Around} {E:VS7} {s:Shared} {scope:Scope} {globals:Addr} {closure:List (Str × Addr)} {qual:Str} {around:Env} {Q:Env -> Shared -> Prop} (hk:scope.kind = .function)
  (hQ:∀ h',h'.Ns s.heap.objs.size (fun _=>none) -> (∀ b o,s.heap.get? b = some o -> h'.get? b = some o) -> CellsOk h' (s.heap.objs.size + 1) (cellsFrom (s.heap.objs.size + 1) scope.names []) →
   Q (newEnv scope s.heap.objs.size globals (cellsFrom (s.heap.objs.size + 1) scope.names [] ++ closure) qual none .none (some around) builtinsNs) { s with heap:=h' }) :
  wpAny M A (newFunctionEnv scope globals closure [] qual none .none (some around)) Q E s:=by
 simp only [newFunctionEnv,Option.isSome_some,if_true]
 refine wpAny_bind (wpAny_alloc (wpAny_bind (wpAny_layCells _ (fun nm kd cs=>by cases h:kd == NameKind.cell <;> simp [h]) scope.names closure _ _ ?_)))
 have own:=cellsFrom_ok scope.names (s.heap.push ⟨.type "dict",none,.dict #[],#[]⟩) (s.heap.objs.size + 1) [] ⟨fun _ _ z=>(nomatch z),.nil⟩ (Nat.le_of_eq (Heap.size_push ..).symm)
 have sz:(s.heap.push ⟨.type "dict",none,.dict #[],#[]⟩).objs.size = s.heap.objs.size + 1:=Heap.size_push ..
 rw [sz] at own
 have ea:=vU scope.names (s.heap.objs.size + 1) [] closure
 rw [List.nil_append] at ea
 show wpAny _ _ _ _ _ { s with heap:=pushCells (s.heap.push ⟨.type "dict",none,.dict #[],#[]⟩) scope.names }
 dsimp only
 rw [sz,ea]
 exact wpAny_bind (wpAny_pure (wpAny_pure (hQ _ ((Heap.Ns.new s.heap (.type "dict")).keeps (pushCells_keeps _ _)) (fun b o e=>pushCells_keeps _ _ b o (Heap.get?_push_of_some _ e)) own)))
theorem rX {tg:Expr} {pos:Pos} {elt iter:Expr} {ifs:List Expr} {g:TG} {tt:TT} {te:TE} {E:VS7} {Q:VK} {RR:Value -> Addr -> Result -> Shared -> Prop}
  (I:Inv X pins σ H2 s₂) (hcalm:X.calm = true) (T:Turn X.prog X.w X.K tg J fp it tn) (st:tn 0 s₂.heap) (f2:∀ b ∈ fp,FpOk X pins H2 b)
  (S:CScC X scope N' sub) (hcl1:∀ x c,cl.lookup x = some c -> X.env.cells.lookup x = some c) (hcl2:∀ y ∈ scope.names,y.2 = .free -> ∃ c,cl.lookup y.1 = some c)
  (hg:∀ cl C D fp s H,PG (cxO X N' scope cl C D fp s H) tg g) (ht:∀ cl C D fp s H,PIfs (cxO X N' scope cl C D fp s H) ifs tt) (he:∀ cl C D fp s H,PE (cxO X N' scope cl C D fp s H) elt te)
  (hW:wt J (capt sub σ) H2 g tt te Q)
  (hRR:∀ (D C:Addr) (oC:Obj) (m:Str -> Option Value) (s':Shared) (Hf:Hp),Inv X (pins ++ [(C,oC)]) σ Hf s' -> s'.heap.Ns C m -> FpOk X pins Hf C -> Q (.ref D) Hf -> RR (.ref D) C (.ok .next) s') :
  wpAny (model X.prog X.w) X.A (newList []) (fun acc s₃=>wpAny (model X.prog X.w) X.A (newFunctionEnv scope X.env.globals cl [] X.env.qual none .none (some X.env)) (fun cenv s₄ =>
   codeAny (model X.prog X.w) X.A (.compStart (.ListComp elt [⟨tg,iter,ifs,0⟩] scope pos) 0 (.ref it) acc { cenv with scope:=relabel scope X.env }) (RR acc cenv.locals) s₄) E s₃) E s₂:=by
 obtain ⟨W,⟨m0,w0⟩,turn⟩:=hW
 refine wpAny_newObj_type (Z1 S.kind fun h₁ hns₁ hk0 hcc=>?_)
 dsimp only at hns₁ hk0 hcc ⊢
 have hC:(s₂.heap.push { cls:=.type "list",dict:=none,data:=.seq ([]:List Value).toArray }).objs.size = s₂.heap.objs.size + 1:=Heap.size_push ..
 rw [hC] at hns₁ hcc ⊢
 have hk:∀ b o,(s₂.heap.push { cls:=.type "list",dict:=none,data:=.seq ([]:List Value).toArray }).get? b = some o -> h₁.get? b = some o:=hk0
 have hfp:∀ b ∈ fp,b < s₂.heap.objs.size:=fun b hb=>by
  obtain ⟨o,e,_⟩:=T.obj _ _ st b hb
  exact Heap.lt_size e
 have I0:=rW (tk:=s₂.toks) I S hcl1 hcl2 hcc f2 hfp hns₁ hk
 have hD0:h₁.get? s₂.heap.objs.size = some { cls:=.type "list",data:=.seq ([]:List Value).toArray 0 }:=hk _ _ (Heap.get?_push_size _ rfl)
 have hcl3:∀ x c,(cellsFrom (s₂.heap.objs.size + 2) scope.names [] ++ cl).lookup x = some c -> X.env.cells.lookup x = some c \/ (s₂.heap.objs.size <= c /\ s₂.heap.objs.size ≠ c):=fun x c e=>by
  rcases xV e with e | ⟨_,e⟩
  ·have z:=(hcc.empty x c (PySem.mem_of_lookup e)).2
   exact .inr ⟨Nat.le_trans (Nat.le_add_right _ 2) z,Nat.ne_of_lt (Nat.lt_of_lt_of_le (Nat.lt_succ_of_lt (Nat.lt_succ_self _)) z)⟩
  ·exact .inl (hcl1 x c e)
 have loop:codeAny (model X.prog X.w) X.A (.compLoop (.ListComp elt [⟨tg,iter,ifs,0⟩] scope pos) 0 (.ref it) (.ref s₂.heap.objs.size) (compEnvC scope (cellsFrom (s₂.heap.objs.size + 2) scope.names [] ++ cl) (s₂.heap.objs.size + 1) X.env)) (RR (.ref s₂.heap.objs.size) (s₂.heap.objs.size + 1)) { s₂ with heap:=h₁,toks:=s₂.toks } :=
  Z0 (s₀:={ s₂ with heap:=s₂.heap.push { cls:=.type "list",dict:=none,data:=.seq ([]:List Value).toArray } }) (C:=s₂.heap.objs.size + 1) (D:=s₂.heap.objs.size) I hcalm T f2 hfp (fun b o e=>Heap.get?_push_of_some _ e) rfl (Nat.le_refl _) (Nat.le_succ _) (Nat.ne_of_lt (Nat.lt_succ_self _)) hcl3 (hg _ _ _ _ _ _) (ht _ _ _ _ _ _) (he _ _ _ _ _ _) turn hRR m0 _
   ⟨0,[],[],0,capt sub σ,H2,I0,T.keep _ _ _ st fun b hb o e=>hk b o (Heap.get?_push_of_some _ e),fun b hb=>(f2 b hb).1,I.hok.fresh (Nat.le_refl _),hD0,.nil,Nat.zero_le _,w0⟩
 exact codeAny_compStart_list loop (T.self _ _ _ _ _ (T.keep _ _ _ st fun b hb o e=>hk b o (Heap.get?_push_of_some _ e)) loop)
end
section
variable {X:Cx} {scope:Scope} {N':List Str} {sub:List (Option Nat)} {tg:Expr} {pos:Pos} {elt iter:Expr} {ifs:List Expr} {wi:TI} {g:TG} {tt:TT} {te:TE}
theorem CScC.clos {pins:List (Addr × Obj)} {σ:L2.St} {H:Hp} {s:Shared} (S:CScC X scope N' sub) (I:Inv X pins σ H s):∃ cl,closureFor scope X.env = pure cl /\ (∀ x c,cl.lookup x = some c -> X.env.cells.lookup x = some c) /\ ∀ y ∈ scope.names,y.2 = .free -> ∃ c,cl.lookup y.1 = some c :=
 uB fun y hy hf=>I.ok.has y.1 (.inl (S.free y hy hf))
theorem Xm (S:CScC X scope N' sub) (hcalm:X.calm = true) (hi:PI X tg iter wi)
  (hg:∀ cl C D fp s H,PG (cxO X N' scope cl C D fp s H) tg g) (ht:∀ cl C D fp s H,PIfs (cxO X N' scope cl C D fp s H) ifs tt) (he:∀ cl C D fp s H,PE (cxO X N' scope cl C D fp s H) elt te)
  (hs:∀ x,foldedSetIterable iter X.env x = pure x:=by intro _; rfl):PE X (.ListComp elt [⟨tg,iter,ifs,0⟩] scope pos) (Wl wi sub g tt te):=by
 intro pins s σ H Q I h
 obtain ⟨cl,hclos,hcl1,hcl2⟩:=S.clos I
 rw [eval_ListComp]
 refine wpAny_comprehension_free (use:=none) rfl hs hclos S.kind S.names (thn (hi pins s σ H _ I h) fun v s1 h1=>thn h1 fun itv s2 h2=>?_)
 obtain ⟨it,fp,tn,J,H2,e,I2,T,st2,f2,hW⟩:=h2
 subst e
 refine rX (RR:=fun acc C=>compPost (model X.prog X.w) X.A X.xe none (EP X pins σ Q) acc C) I2 hcalm T st2 f2 S hcl1 hcl2 hg ht he hW ?_
 intro D C oC m s' Hf IX hm fpc q
 refine ⟨m,hm,fun h' sb=>⟨.ref D,Hf,?_,rfl,q⟩⟩
 exact (IX.unpinned).turned (it:=C) (t':=s'.toks) (h':=h') (fun b o hb e=>sb.extBut b o hb e) fpc.1 fpc.2.1 fpc.2.2.2.1 fpc.2.2.2.2.1 fpc.2.2.2.2.2
end
theorem CScC.of {X:Cx} {scope:Scope} {N':List Str} {sub:List (Option Nat)} (sc:Scope) (NN:List Str) (e:X.env.scope = sc) (en:X.N = NN)
  (h:((scope.names.all fun y=>(y.2 != .free || sc.names.lookup y.1 == some .cell) && (y.2 != .local || scope.names.lookup y.1 == some .local)) && (sub.length == N'.length) &&
   ((N'.zip sub).all fun p=>match p.2 with | none=>true | some i=>NN[i]? == some p.1 && sc.names.lookup p.1 == some .cell && scope.names.lookup p.1 == some .free)) = true)
  (nd:(scope.names.map (·.1)).Nodup) (hk:scope.kind = .function):CScC X scope N' sub:=by
 rw [Bool.and_eq_true,Bool.and_eq_true] at h
 obtain ⟨⟨h1,h2⟩,h3⟩:=h
 have k1:=fun y hy=>List.all_eq_true.mp h1 y hy
 refine ⟨fun y hy hf=>?_,nd,hk,fun y hy hl=>?_,by simpa using h2,fun j y i hj hs=>?_⟩
 ·have:=k1 y hy
  simp only [hf,Bool.and_eq_true] at this
  have z:=this.1
  show X.env.scope.names.lookup y.1 = _
  rw [e]; simpa using z
 ·have:=k1 y hy
  simp only [hl,Bool.and_eq_true] at this
  simpa using this.2
 ·have hm:(y,some i) ∈ N'.zip sub:=by
   have:(N'.zip sub)[j]? = some (y,some i):=by
    rw [List.getElem?_zip_eq_some]; exact ⟨hj,hs⟩
   exact List.mem_of_getElem? this
  have:=List.all_eq_true.mp h3 _ hm
  simp only [Bool.and_eq_true,beq_iff_eq] at this
  rw [e,en]
  exact ⟨this.1.1,this.1.2,this.2⟩
theorem rY {scope:Scope} {env:Env} {y:Str} (h:scope.names.lookup y = some .cell):(relabel scope env).names.lookup y = some .cell:=by
 have key:∀ l:List (Str × NameKind),l.lookup y = some .cell -> (l.map fun (n,k)=>if (k == NameKind.free && env.scope.kind == .function && env.kindOf n == some .cell) then (n,NameKind.cell) else (n,k)).lookup y = some .cell:=by
  intro l
  induction l with
  | nil=>intro h; cases h
  | cons p r ih =>
   obtain ⟨n,k0⟩:=p
   intro h
   rw [List.map_cons]
   rw [List.lookup_cons] at h
   dsimp only
   cases hx:y == n with
   | true =>
    rw [hx] at h
    cases h
    rw [if_neg (by simp),List.lookup_cons,hx]
   | false =>
    rw [hx] at h
    by_cases hc2:(k0 == NameKind.free && env.scope.kind == .function && env.kindOf n == some .cell) = true
    ·rw [if_pos hc2,List.lookup_cons,hx]; exact ih h
    ·rw [if_neg hc2,List.lookup_cons,hx]; exact ih h
 exact key scope.names h
theorem CSc.nestO {X0:Cx} {scope scope2:Scope} {N' N2:List Str} {sub sub2:List (Option Nat)} {cl:List (Str × Addr)} {C D:Addr} {fp:List Addr} {s:Shared} {H:Hp} (S:CScC X0 scope N' sub) (hk0:X0.env.scope.kind = .function)
  (h:((scope2.names.all fun y=>(y.2 != .free || (scope.names.lookup y.1 == some .free || scope.names.lookup y.1 == some .cell)) && (y.2 != .cell) && (y.2 != .local || scope2.names.lookup y.1 == some .local)) && (sub2.length == N2.length) &&
   ((N2.zip sub2).all fun p=>match p.2 with | none=>true | some i=>N'[i]? == some p.1 && (scope.names.lookup p.1 == some .free || scope.names.lookup p.1 == some .cell) && scope2.names.lookup p.1 == some .free)) = true)
  (hk:scope2.kind = .function):CSc (cxO X0 N' scope cl C D fp s H) scope2 N2 sub2:=by
 rw [Bool.and_eq_true,Bool.and_eq_true] at h
 obtain ⟨⟨h1,h2⟩,h3⟩:=h
 have k1:=fun y hy=>List.all_eq_true.mp h1 y hy
 have cellOf:∀ y:Str,(scope.names.lookup y = some .free \/ scope.names.lookup y = some .cell) -> (relabel scope X0.env).names.lookup y = some .cell:=fun y hy=>by
  rcases hy with hy | hy
  ·exact xc hk0 (S.free (y,.free) (PySem.mem_of_lookup hy) rfl) hy
  ·exact rY hy
 refine ⟨fun y hy hf=>?_,fun y hy hc=>?_,hk,fun y hy hl=>?_,by simpa using h2,fun j y i hj hs=>?_⟩
 ·have:=k1 y hy
  simp only [hf,Bool.and_eq_true] at this
  have z:=this.1.1
  exact cellOf y.1 (by simpa using z)
 ·have:=k1 y hy
  simp only [hc,Bool.and_eq_true] at this
  simp at this
 ·have:=k1 y hy
  simp only [hl,Bool.and_eq_true] at this
  simpa using this.2
 ·have hm:(y,some i) ∈ N2.zip sub2:=by
   have:(N2.zip sub2)[j]? = some (y,some i):=by
    rw [List.getElem?_zip_eq_some]; exact ⟨hj,hs⟩
   exact List.mem_of_getElem? this
  have:=List.all_eq_true.mp h3 _ hm
  simp only [Bool.and_eq_true,Bool.or_eq_true,beq_iff_eq] at this
  exact ⟨this.1.1,cellOf y this.1.2,this.2⟩
section
variable {X:Cx} {K:FG7}
theorem Z2:MtM X "list.insert" (fun x vs H Q=>∃ (l:Addr) (xs:List V) (i:Nat) (y:V),x = .ref l /\ vs = [.int i,y] /\ H l = some (.lst xs) /\ i <= xs.length /\ xs.length < sizeLine /\ Q .non (upd H l (.lst (xs.take i ++ [y] ++ xs.drop i)))):=by
 intro pins s σ H x vs v us Q I rx rv h
 obtain ⟨l,xs,i,y,rfl,rfl,hH,hi,hz,q⟩:=h
 cases rx
 obtain ⟨u,u2,rfl,⟨t,rfl⟩,ru⟩:=Zo rv
 obtain ⟨z,its,n,r,hl,e⟩:=I.lstM hH
 have hn:=tZ
 have sz:its.toArray.size <= sizeLine:=by rw [List.size_toArray]; omega
 have key:∀ (x:Int),x = (i:Int) -> wpAny (model X.prog X.w) X.A (call (.builtin "list.insert") (.ref l :: [.int x t,u2])) (EP X pins σ Q) X.xe s:=by
  intro x hx
  have hfit:¬ (!Builtin.List.listFitsIndex x) = true:=by
   unfold Builtin.List.listFitsIndex
   simp only [Bool.not_eq_true',Bool.not_eq_false,Bool.and_eq_true,decide_eq_true_eq]
   omega
  refine call_meets F.slot_list_insert ⟨_,e,rfl⟩ F.entry_list_insert (F.args_list_insert_3 _ _ _) (PySem.AutoListH.list_insert_list_int_val_1 l its.toArray n x t u2 hfit sz) ⟨e,?_⟩
  refine ⟨.non,_,I.lset (its':=its.take i ++ [u2] ++ its.drop i) hH e ?_ ?_ ?_,rfl,q⟩
  ·rw [if_neg (by omega),hx,Int.toNat_natCast,List.size_toArray,Nat.min_eq_left (by omega)]
   apply Array.ext'
   simp [List.take_of_length_le]
  ·exact ((r.take i).append (.cons ru .nil)).append (r.drop i)
  ·rw [List.length_append,List.length_append,List.length_take,List.length_drop,List.length_singleton]
   omega
 exact key _ rfl
end
theorem Vy {X:Cx} {K:FG7} {T:String} {name:Str} {id:String} {r:V -> List V -> Hp -> VK -> Prop} {o e:Expr} {es:List Expr} {to:TE} {t:TA} {apos cpos:Pos} (hK:X.K = K) (pa:PlainAttrs T) (slot:Slot T name id) (hty:typeOf (.builtin id) = pure (.type "method_descriptor")) (hm:MtR X id r) (ho:PE X o to) (ha:PA X (e :: es) t)
  (hbase:attributeBase o name X.env (eval o X.env) = eval o X.env:=by rfl)
  (hfew:((backTo cpos (starEach (e :: es) X.env)).all (fun x=>!x.1) && (backToKw cpos (keywordEach [] X.env)).all (fun x=>x.1.isSome)
   && decide ((e :: es).length + ([]:List Keyword).length + (if ([]:List Keyword).isEmpty then 0 else 1) < 30)) = true:=by rfl)
  (hline:(apos.endLine == cpos.line) = true:=by rfl) (hs:starEach (e :: es) X.env = (false,eval e X.env) :: starEach es X.env:=by rfl) (hplain:(backTo cpos (starEach es X.env)).any (·.1) = false:=by rfl) :
  PE X (.Call (.Attribute o name apos) (e :: es) [] cpos) (tBM K T r to t):=by
 subst hK
 exact uV pa slot hty hm ho ha hbase hfew hline hs hplain
open PySem PySem.Spec PyProof.Rows L2 HT
theorem Xn (p:List Int × List Int):(Wn p).depth <= 100:=by
 show max (PyData.depthAll (p.1.map PyData.int) + 1) (max (PyData.depthAll (p.2.map PyData.int) + 1) 0) + 1 <= 100
 rw [wA,wA]; decide
theorem Xo (o:Option Int):(oD o).depth = 0:=by cases o <;> rfl
section
variable {P:Program} {w:World} {K:FG7} {mg:Str -> Option Value} {base:Heap} {N:List Str} {qual:Str} {scope:Scope} {f:Addr} {cd:Value} {A:Around} {outer:List Env} {s0:Shared} {H0:Hp} {E:XK}
 {pins:List (Addr × Obj)} {σ:L2.St} {H:Hp} {s:Shared}
end
structure ApX (X:Cx) (pins:List (Addr × Obj)) (H:Hp) (a T:Addr):Prop where
 s0:∀ b o,X.s₀.heap.get? b = some o -> b ≠ a /\ b ≠ T
 loc:X.env.locals ≠ a /\ X.env.locals ≠ T
 cel:∀ x c,X.env.cells.lookup x = some c -> c ≠ a /\ c ≠ T
 pin:∀ p ∈ X.pn ++ pins,p.1 ≠ a /\ p.1 ≠ T
 ha:H a = none
 hT:H T = none
theorem Inv.leftK {X:Cx} {pins:List (Addr × Obj)} {σ:L2.St} {H:Hp} {s:Shared} {a T0:Addr} {h2:Heap} (I:Inv X pins σ H s) (hx:X.ex = []) (ap:ApX X pins H a T0)
  (lk:∀ b o,b ∉ frs X.stack -> b ≠ a -> b ≠ T0 -> s.heap.get? b = some o -> h2.get? b = some o) (ls:∀ b o,b ∈ frs X.stack -> b ≠ a -> b ≠ T0 -> s.heap.get? b = some o -> ∃ sl,h2.get? b = some { o with slots:=sl }):Inv X pins σ H { s with heap:=h2 }:=by
 have stk:∀ b,b ∈ frs X.stack -> b = X.env.locals \/ b ∈ X.fs:=fun b hb=>List.mem_cons.mp (I.stkSub b hb)
 have any:∀ b o,b ≠ a -> b ≠ T0 -> s.heap.get? b = some o -> ∃ sl,h2.get? b = some { o with slots:=sl }:=fun b o n1 n2 ho=>by
  by_cases z:b ∈ frs X.stack
  ·exact ls b o z n1 n2 ho
  ·exact ⟨o.slots,lk b o z n1 n2 ho⟩
 have cellK:∀ x c,X.env.cells.lookup x = some c -> ∀ v,s.heap.IsCell c v -> h2.IsCell c v:=fun x c e v ⟨o,ho,hd⟩=>by
  obtain ⟨n1,n2⟩:=ap.cel x c e
  obtain ⟨sl,h1⟩:=any c o n1 n2 ho
  exact ⟨_,h1,hd⟩
 refine ⟨I.ok,I.os,I.bare,⟨fun b o hb hn hf hx'=>?_,fun b o hb hn hf hx'=>?_,I.base.free,fun b o hb hx'=>?_,I.base.tups,I.base.frzs,I.base.tbls⟩,?_,fun x c hc=>?_,I.free,I.freeC,fun p hp=>?_,fun b u q=>?_,I.len⟩
 ·obtain ⟨n1,n2⟩:=ap.s0 b o hb
  refine lk b o (fun z=>?_) n1 n2 (I.base.keep b o hb hn hf hx')
  rcases stk b z with z | z
  ·exact absurd (Nat.lt_of_lt_of_le (Heap.lt_size hb) I.ok.above) (by rw [z]; exact Nat.lt_irrefl _)
  ·exact hf z
 ·obtain ⟨n1,n2⟩:=ap.s0 b o hb
  obtain ⟨sl,h1⟩:=I.base.slot b o hb hn hf hx'
  obtain ⟨sl',h3⟩:=any b _ n1 n2 h1
  exact ⟨sl',h3⟩
 ·obtain ⟨n1,n2⟩:=ap.s0 b o hb
  obtain ⟨o',h1⟩:=I.base.there b o hb hx'
  obtain ⟨sl,h3⟩:=any b o' n1 n2 h1
  exact ⟨_,h3⟩
 ·obtain ⟨m,⟨o,es,ep,ho,r⟩,hl⟩:=I.loc
  obtain ⟨sl,h1⟩:=any _ o ap.loc.1 ap.loc.2 ho
  refine ⟨m,⟨_,es,ep,h1,r⟩,fun i x v e1 e2 e3=>?_⟩
  obtain ⟨u,ru,lk⟩:=hl i x v e1 e2 e3
  refine ⟨u,ru,?_⟩
  rcases lk with lk | ⟨k1,c,k2,k3⟩
  ·exact .inl lk
  ·exact .inr ⟨k1,c,k2,cellK x c k2 _ k3⟩
 ·obtain ⟨v,hv⟩:=I.cell x c hc
  exact ⟨v,cellK x c hc v hv⟩
 ·obtain ⟨p1,p2,p3,p4,p5⟩:=I.pin p hp
  obtain ⟨n1,n2⟩:=ap.pin p hp
  refine ⟨lk _ _ (fun z=>?_) n1 n2 p1,p2,p3,p4,p5⟩
  rcases stk _ z with z | z
  ·exact p3 z
  ·exact p4 z
 ·refine (I.hok b u q).stay (fun c v hc r=>?_) (fun _ r=>r) fun _ _ r=>r
  have hn:H c ≠ none:=by
   rcases hc with rfl | hc
   ·rw [q]; exact fun z=>nomatch z
   ·rw [hc]; exact fun z=>nomatch z
  exact lk c v (fun z=>hn (I.stkFree c z)) (fun z=>hn (by rw [z]; exact ap.ha)) (fun z=>hn (by rw [z]; exact ap.hT)) r
open PySem PySem.Spec PyProof.Rows L2 PySem.W
end L3
namespace L2
open PySem PySem.Spec PyProof.Rows
end L2
namespace L2
open PySem PySem.Spec PyProof.Rows
end L2
namespace L2
open PySem PySem.Spec PyProof.Rows
end L2
namespace L2
open PySem PySem.Spec PyProof.Rows
end L2
namespace L2
open PySem PySem.Spec PyProof.Rows
end L2
namespace L2
open PySem PySem.Spec PyProof.Rows
end L2
namespace L2
open PySem PySem.Spec PyProof.Rows
section
variable {κ:Type} [DecidableEq κ]
def valV (kvs:List (κ × V)) (k:κ):Option V:=(kvs.find? fun kv=>decide (kv.1 = k)).map (·.2)
def putK (kvs:List (κ × V)) (k:κ) (v:V):List (κ × V) :=
 if (kvs.any fun kv=>decide (kv.1 = k)) = true then kvs.map (fun kv=>if kv.1 = k then (kv.1,v) else kv) else kvs ++ [(k,v)]
theorem yA {p:κ × V} {r:List (κ × V)} {k:κ} (e:p.1 = k):valV (p :: r) k = some p.2:=by simp [valV,List.find?_cons,e]
theorem yB {p:κ × V} {r:List (κ × V)} {k:κ} (e:¬ p.1 = k):valV (p :: r) k = valV r k:=by simp [valV,List.find?_cons,e]
theorem xB (k:κ):∀ kvs:List (κ × V),(kvs.any fun kv=>decide (kv.1 = k)) = (valV kvs k).isSome
 | []=>rfl
 | p :: r=>by
  rw [List.any_cons]
  by_cases e:p.1 = k
  ·simp only [yA e,decide_eq_true e,Bool.true_or,Option.isSome_some]
  ·rw [yB e,decide_eq_false e,Bool.false_or]; exact xB k r
theorem q9 (k j:κ) (y:V):∀ kvs:List (κ × V),valV (kvs.map fun kv=>if kv.1 = k then (kv.1,y) else kv) j = (valV kvs j).map fun x=>if j = k then y else x
 | []=>rfl
 | p :: r=>by
  have ih:=q9 k j y r
  rw [List.map_cons]
  by_cases h:p.1 = k
  ·rw [if_pos h]
   by_cases e:p.1 = j
   ·rw [yA (p:=(p.1,y)) e,yA e,Option.map_some,if_pos (e.symm.trans h)]
   ·rw [yB (p:=(p.1,y)) e,yB e,ih]
  ·rw [if_neg h]
   by_cases e:p.1 = j
   ·rw [yA (p:=p) e,yA e,Option.map_some,if_neg (fun z=>h (e.trans z))]
   ·rw [yB (p:=p) e,yB e,ih]
theorem sL (k j:κ) (y:V):∀ kvs:List (κ × V),valV kvs k = none -> valV (kvs ++ [(k,y)]) j = if j = k then some y else valV kvs j
 | [],_=>by
  by_cases e:k = j
  ·rw [if_pos e.symm]; exact yA (p:=(k,y)) e
  ·rw [if_neg (fun z=>e z.symm)]; exact yB (p:=(k,y)) e
 | p :: r,hn=>by
  rw [List.cons_append]
  have hk:¬ p.1 = k:=fun z=>by rw [yA z] at hn; cases hn
  rw [yB hk] at hn
  have ih:=sL k j y r hn
  by_cases e:p.1 = j
  ·rw [yA e,yA e,if_neg (fun z=>hk (e.trans z))]
  ·rw [yB e,yB e,ih]
theorem ja (kvs:List (κ × V)) (k j:κ) (y:V):valV (putK kvs k y) j = if j = k then some y else valV kvs j:=by
 unfold putK
 by_cases a:(kvs.any fun kv=>decide (kv.1 = k)) = true
 ·rw [if_pos a,q9]
  rw [xB] at a
  by_cases e:j = k
  ·obtain ⟨x,hx⟩:=Option.isSome_iff_exists.mp a
   rw [if_pos e,e,hx,Option.map_some,if_pos rfl]
  ·rw [if_neg e]
   cases valV kvs j with
   | none=>rfl
   | some x=>rw [Option.map_some,if_neg e]
 ·rw [if_neg a]
  refine sL k j y kvs ?_
  rw [xB] at a
  cases q:valV kvs k with
  | none=>rfl
  | some x=>rw [q] at a; exact (a rfl).elim
theorem yx (kvs:List (κ × V)) (k:κ) (v:V):(putK kvs k v).length <= kvs.length + 1:=by
 unfold putK
 split
 ·rw [List.length_map]; omega
 ·rw [List.length_append,List.length_cons,List.length_nil]; omega
theorem jb {kvs:List (κ × V)} {k:κ} (v:V) (h:valV kvs k = none):putK kvs k v = kvs ++ [(k,v)]:=by
 unfold putK
 rw [xB,h]
 exact if_neg (by decide)
theorem RelO.isSome_eq {o:Option V} {u:Option Value} (r:RelO o u):o.isSome = u.isSome:=by
 cases o with
 | none=>cases u with
  | none=>rfl
  | some _=>exact (show False from r).elim
 | some _=>cases u with
  | none=>exact (show False from r).elim
  | some _=>rfl
theorem KV.val {kvs:List (κ × V)} {vs:List (κ × Value)} (r:KV kvs vs) (k:κ):RelO (valV kvs k) (valueAt vs k):=by
 unfold KV at r
 induction r with
 | nil=>exact True.intro
 | @cons p q ps qs h t ih =>
  obtain ⟨h1,h2⟩:=h
  by_cases e:p.1 = k
  ·have e':q.1 = k:=h1.symm.trans e
   have b:valueAt (q :: qs) k = some q.2:=by simp [valueAt,List.find?_cons,e']
   rw [yA e,b]; exact h2
  ·have e':¬ q.1 = k:=fun z=>e (h1.trans z)
   have b:valueAt (q :: qs) k = valueAt qs k:=by simp [valueAt,List.find?_cons,e']
   rw [yB e,b]; exact ih
theorem KV.any {kvs:List (κ × V)} {vs:List (κ × Value)} (r:KV kvs vs) (k:κ):(kvs.any fun kv=>decide (kv.1 = k)) = vs.any fun kv=>decide (kv.1 = k):=by
 unfold KV at r
 induction r with
 | nil=>rfl
 | cons h t ih=>rw [List.any_cons,List.any_cons,ih,h.1]
theorem KV.repl {kvs:List (κ × V)} {vs:List (κ × Value)} (r:KV kvs vs) (k:κ) {y:V} {u:Value} (ry:RelV y u) :
  KV (kvs.map fun kv=>if kv.1 = k then (kv.1,y) else kv) (vs.map fun kv=>if kv.1 = k then (kv.1,u) else kv):=by
 unfold KV at r ⊢
 induction r with
 | nil=>exact .nil
 | @cons p q ps qs h t ih =>
  rw [List.map_cons,List.map_cons]
  refine .cons ?_ ih
  obtain ⟨h1,h2⟩:=h
  by_cases e:p.1 = k
  ·rw [if_pos e,if_pos (h1.symm.trans e)]; exact ⟨h1,ry⟩
  ·rw [if_neg e,if_neg (fun z=>e (h1.trans z))]; exact ⟨h1,h2⟩
theorem KV.put {kvs:List (κ × V)} {vs:List (κ × Value)} (r:KV kvs vs) (k:κ) {y:V} {u:Value} (ry:RelV y u):KV (putK kvs k y) (stored vs k u):=by
 unfold putK stored
 rw [r.any k]
 by_cases e:(vs.any fun kv=>decide (kv.1 = k)) = true
 ·rw [if_pos e,if_pos e]; exact r.repl k ry
 ·rw [if_neg e,if_neg e]; exact Paired.snoc r ⟨rfl,ry⟩
theorem KV.length {kvs:List (κ × V)} {vs:List (κ × Value)} (r:KV kvs vs):kvs.length = vs.length:=Paired.length r
end
theorem Xp {P:Program} {w:World} {k:Key} {u:Value} (r:RelV (kV k) u):(z6 P w).is k u = true:=by
 cases k with
 | inl i=>obtain ⟨t,e⟩:=(show ∃ t,u = Value.int i t from r); subst e; exact rG P w i t
 | inr x=>obtain ⟨t,e⟩:=(show ∃ t,u = Value.str x t from r); subst e; exact rH P w x t
theorem sM {P:Program} {w:World}:∀ {ks:List Key} {us:List Value},Vals (ks.map kV) us -> ItemsAre (z6 P w) ks us
 | [],_,r=>by rw [List.map_nil] at r; cases r; exact .nil
 | k :: ks,_,r=>by
  rw [List.map_cons] at r
  cases r with
  | cons h t=>exact .cons (Xp h) (sM t)
abbrev KT (H:Hp):List (List Key × V) -> List (List Key × Addr × Value) -> Prop:=Paired fun p q=>p.1 = q.1 /\ H q.2.1 = some (.tup (p.1.map kV)) /\ RelV p.2 q.2.2
theorem KT.val {H:Hp} {kvs:List (List Key × V)} {xs:List (List Key × Addr × Value)} (r:KT H kvs xs) (k:List Key):RelO (valV kvs k) ((atKey xs k).map (·.2)):=by
 induction r with
 | nil=>exact True.intro
 | @cons p q ps qs h t ih =>
  obtain ⟨h1,_,h2⟩:=h
  by_cases e:p.1 = k
  ·have e':q.1 = k:=h1.symm.trans e
   have b:atKey (q :: qs) k = some q.2:=by simp [atKey,List.find?_cons,e']
   rw [yA e,b]; exact h2
  ·have e':¬ q.1 = k:=fun z=>e (h1.trans z)
   have b:atKey (q :: qs) k = atKey qs k:=by simp [atKey,List.find?_cons,e']
   rw [yB e,b]; exact ih
theorem KT.repl {H:Hp} {kvs:List (List Key × V)} {xs:List (List Key × Addr × Value)} (r:KT H kvs xs) (k:List Key) {y:V} {u:Value} (ry:RelV y u) :
  KT H (kvs.map fun kv=>if kv.1 = k then (kv.1,y) else kv) (xs.map (putAt k u)):=by
 induction r with
 | nil=>exact .nil
 | @cons p q ps qs h t ih =>
  rw [List.map_cons,List.map_cons]
  refine .cons ?_ ih
  obtain ⟨h1,h2,h3⟩:=h
  unfold putAt
  by_cases e:p.1 = k
  ·rw [if_pos e,if_pos (h1.symm.trans e)]; exact ⟨h1,h2,ry⟩
  ·rw [if_neg e,if_neg (fun z=>e (h1.trans z))]; exact ⟨h1,h2,h3⟩
theorem KT.put {H:Hp} {kvs:List (List Key × V)} {xs:List (List Key × Addr × Value)} (r:KT H kvs xs) (k:List Key) {b:Addr} {y:V} {u:Value} (hb:H b = some (.tup (k.map kV))) (ry:RelV y u) :
  KT H (putK kvs k y) (storedH xs k b u):=by
 have e:(kvs.any fun kv=>decide (kv.1 = k)) = (atKey xs k).isSome:=by
  rw [xB,(r.val k).isSome_eq,Option.isSome_map]
 unfold putK storedH
 rw [e]
 by_cases q:(atKey xs k).isSome = true
 ·rw [if_pos q,if_pos q]; exact r.repl k ry
 ·rw [if_neg q,if_neg q]; exact Paired.snoc r ⟨rfl,hb,ry⟩
theorem KT.keeps {H H':Hp} {kvs:List (List Key × V)} {xs:List (List Key × Addr × Value)} (r:KT H kvs xs) (ht:∀ b ys,H b = some (.tup ys) -> H' b = some (.tup ys)):KT H' kvs xs :=
 Paired.mapP r fun _ _ z=>⟨z.1,ht _ _ z.2.1,z.2.2⟩
section
variable {P:Program} {w:World} {H:Hp} {h:Heap} {a:Addr}
theorem Vz {u:HO} (ok:HOk P w H h) (e:Rd H a u):z7 P w H h a u:=e.ok ok
theorem Xq {kvs:List (Key × V)} (ok:HOk P w H h) (e:Rd H a (.dK kvs)):kvs.length <= sizeLine /\ (a == sysModules) = false /\ ∃ vs,KV kvs vs /\ h.DictOf (z6 P w) a vs :=
 show z7 P w H h a (.dK kvs) from Vz ok e
theorem Uo {kvs:List (Key × V)} (ok:HOk P w H h) (e:H a = some (.dK kvs)):kvs.length <= sizeLine /\ (a == sysModules) = false /\ ∃ vs,KV kvs vs /\ h.DictOf (z6 P w) a vs:=Xq ok (.inl e)
theorem uG {ks:List Key} (ok:HOk P w H h) (e:H a = some (.tup (ks.map kV))):(tupleKind (z6 P w)).is h ks a:=by
 obtain ⟨_,its,r,o,h1,h2,n,h3⟩:=(show z7 P w H h a (.tup (ks.map kV)) from ok a _ e)
 exact ⟨o,its.toArray,n,h1,h2,h3,by simpa using sM r⟩
theorem Xr {kvs:List (List Key × V)} (ok:HOk P w H h) (e:Rd H a (.dT kvs)):kvs.length <= sizeLine /\ (a == sysModules) = false ∧
  ∃ xs,KT H kvs xs /\ h.DictOfH (tupleKind (z6 P w)) a xs:=by
 obtain ⟨z,y,xs,r,o,es,ep,h1,h2,h3,h4,h5⟩:=(show z7 P w H h a (.dT kvs) from Vz ok e)
 refine ⟨z,y,xs,r,o,es,ep,h1,h2,h3,h4,fun x hx=>?_,h5⟩
 have all:∀ {l:List (List Key × V)} {m:List (List Key × Addr × Value)},KT H l m -> ∀ x ∈ m,(tupleKind (z6 P w)).is h x.1 x.2.1:=by
  intro l m q
  induction q with
  | nil=>intro x hx; exact nomatch hx
  | @cons p q ps qs hq t ih =>
   intro x hx
   rcases List.mem_cons.mp hx with e | hx
   ·subst e
    exact uG ok (by rw [← hq.1]; exact hq.2.1)
   ·exact ih x hx
 exact all r x hx
theorem Up {kvs:List (List Key × V)} (ok:HOk P w H h) (e:H a = some (.dT kvs)):kvs.length <= sizeLine /\ (a == sysModules) = false ∧
  ∃ xs,KT H kvs xs /\ h.DictOfH (tupleKind (z6 P w)) a xs:=Xr ok (.inl e)
end
def DGet (H:Hp) (a:Addr) (y:V) (r:Option V):Prop :=
 (∃ kvs k,Rd H a (.dK kvs) /\ y = kV k /\ r = valV kvs k) \/ ∃ kvs k b,Rd H a (.dT kvs) /\ y = .ref b /\ H b = some (.tup (k.map kV)) /\ r = valV kvs k
def DPut (H:Hp) (a:Addr) (y v:V) (H':Hp):Prop :=
 (∃ kvs k,H a = some (.dK kvs) /\ y = kV k /\ kvs.length < sizeLine /\ H' = upd H a (.dK (putK kvs k v))) ∨
 ∃ kvs k b,H a = some (.dT kvs) /\ y = .ref b /\ H b = some (.tup (k.map kV)) /\ kvs.length < sizeLine /\ H' = upd H a (.dT (putK kvs k v))
theorem DPut.t {H:Hp} {a b:Addr} {kvs:List (List Key × V)} {k:List Key} {v:V} (e:H a = some (.dT kvs)) (eb:H b = some (.tup (k.map kV))) (hl:kvs.length < sizeLine) :
  DPut H a (.ref b) v (upd H a (.dT (putK kvs k v))):=.inr ⟨kvs,k,b,e,rfl,eb,hl,rfl⟩
section
variable {X:Cx} {pins:List (Addr × Obj)} {σ:St} {H:Hp} {s:Shared} {a:Addr} {y v:V} {u r:Value} {o:Option V} {A:Around} {E:VS7}
theorem Inv.big (I:Inv X pins σ H s):sysModules < s.heap.objs.size:=by
 have h:mainGlobals < s.heap.objs.size:=(I.mod.glob.keeps I.bk).lt
 exact Nat.lt_trans (by decide) h
theorem Z3 {Q:VS7} (hu:A.units + 1 < cLine) (I:Inv X pins σ H s) (g:DGet H a y (some v)) (ry:RelV y u) (h:∀ w' s',Inv X pins σ H s' -> RelV v w' -> Q w' s') :
  wpAny (model X.prog X.w) A (getItem (.ref a) u) Q E s:=by
 rcases g with ⟨kvs,k,e,ey,l⟩ | ⟨kvs,k,b,e,ey,eb,l⟩
 ·subst ey
  obtain ⟨z,hd,vs,rel,dd⟩:=Xq I.hok e
  obtain ⟨w',hw,rw'⟩:=RelO.some_of (v:=v) (o:=valueAt vs k) (by rw [l]; exact rel.val k)
  exact wpAny_getItem_of (Xp ry) dd.mapOf hw (h w' _ (I.tok _) rw')
 ·subst ey
  cases (show u = Value.ref b from ry)
  obtain ⟨z,hd,xs,rel,dd⟩:=Xr I.hok e
  obtain ⟨w',hw,rw'⟩:=RelO.some_of (v:=v) (o:=(atKey xs k).map (·.2)) (by rw [l]; exact rel.val k)
  obtain ⟨p,hp,hp2⟩:=Option.map_eq_some_iff.mp hw
  refine wpAny_getItem_heap (tupleKind_room_in1 hu) (uG I.hok eb) dd hp ?_
  rw [hp2]
  exact h w' _ (I.tok _) rw'
theorem d_in {Q:VS7} (hu:A.units + 1 < cLine) (I:Inv X pins σ H s) (g:DGet H a y o) (ry:RelV y u) (h:∀ s',Inv X pins σ H s' -> Q (.bool o.isSome) s') :
  wpAny (model X.prog X.w) A (compareOp .In u (.ref a)) Q E s:=by
 rcases g with ⟨kvs,k,e,ey,l⟩ | ⟨kvs,k,b,e,ey,eb,l⟩
 ·subst ey
  obtain ⟨z,hd,vs,rel,dd⟩:=Xq I.hok e
  refine wpAny_in_of (Xp ry) hd dd.mapOf ?_
  rw [← (rel.val k).isSome_eq,← l]
  exact h _ (I.tok _)
 ·subst ey
  cases (show u = Value.ref b from ry)
  obtain ⟨z,hd,xs,rel,dd⟩:=Xr I.hok e
  refine wpAny_in_heap (tupleKind_room_in1 hu) (uG I.hok eb) hd dd ?_
  have q:=(rel.val k).isSome_eq
  rw [Option.isSome_map] at q
  rw [← q,← l]
  exact h _ (I.tok _)
theorem tw {h':Heap} {t':Nat} {ob:HO} (I:Inv X pins σ H s) (mu:Mut (H a)) (hs:Heap.SameBut a s.heap h') (he:∃ q,h'.get? a = some q) (new:z7 X.prog X.w (upd H a ob) h' a ob) :
  Inv X pins σ (upd H a ob) { s with heap:=h',toks:=t' } :=
 I.write (x:=a) (e:=a) mu (.inl rfl) (fun b q hb z=>(hs.2 b hb).trans z) he new
theorem VA {P:Program} {w:World} {H':Hp} {h':Heap} {kvs:List (Key × V)} {vs:List (Key × Value)} (z:kvs.length <= sizeLine) (hd:(a == sysModules) = false) (rel:KV kvs vs) (dd:h'.DictOf (z6 P w) a vs) :
  z7 P w H' h' a (.dK kvs):=⟨z,hd,vs,rel,dd⟩
theorem Z4 {H':Hp} {Q:Unit -> Shared -> Prop} (hu:A.units + 1 < cLine) (I:Inv X pins σ H s) (g:DPut H a y v H') (ry:RelV y u) (rv:RelV v r) (h:∀ s',Inv X pins σ H' s' -> Q () s') :
  wpAny (model X.prog X.w) A (setItem (.ref a) u r) Q E s:=by
 rcases g with ⟨kvs,k,e,ey,l,eH⟩ | ⟨kvs,k,b,e,ey,eb,l,eH⟩
 ·subst ey eH
  obtain ⟨z,hd,vs,rel,dd⟩:=Uo I.hok e
  have hz:vs.length <= sizeLine:=by rw [← rel.length]; exact z
  have hl:(putK kvs k v).length <= sizeLine:=by have:=yx kvs k v; omega
  refine wpAny_setItem_pairs (hsz:=hz) (Xp ry) dd fun h' dd' hs=>h _ ?_
  have he:∃ q,h'.get? a = some q:=let ⟨q,_,_,hq,_⟩:=dd'; ⟨q,hq⟩
  exact tw I (by rw [e]; exact True.intro) hs he (VA hl hd (rel.put k rv) dd')
 ·subst ey eH
  cases (show u = Value.ref b from ry)
  obtain ⟨z,hd,xs,rel,dd⟩:=Up I.hok e
  have hz:xs.length <= sizeLine:=by rw [← Paired.length rel]; exact z
  have hl:(putK kvs k v).length <= sizeLine:=by have:=yx kvs k v; omega
  refine wpAny_setItem_heap (hsz:=hz) (tupleKind_room_in1 hu) (uG I.hok eb) dd fun h' dd' hs=>h _ ?_
  obtain ⟨q,es,ep,hq,h2,h3,h4,_,h5⟩:=dd'
  refine tw I (by rw [e]; exact True.intro) hs ⟨q,hq⟩ ⟨hl,hd,_,(rel.put k eb rv).keeps fun c ys ec=>?_,q,es,ep,hq,h2,h3,h4,h5⟩
  rw [zp (Wa ec e (fun z=>nomatch z))]
  exact ec
end
def NoSl (i:Expr):Prop:=∀ ov iv,subscripted i false ov iv = operate [ov,iv] (getItem ov iv)
theorem Wz {prog:Program} {w:World} {A:Around} {E:VS7} {s:Shared} {env:Env} {value slice:Expr} {pos:Pos} {T id:String} {Q:VS7}
  (hl:typeLookup (.type T) "__getitem__" = pure (some (.builtin id))) (hs:NoSl slice)
  (h:wpAny (model prog w) A (eval value env) (fun o s₁=>wpAny (model prog w) A (eval slice env) (fun i s₂=>s₂.TypeIs o T /\ wpAny (model prog w) A (getItem o i) Q E s₂) E s₁) E s) :
  wpAny (model prog w) A (eval (.Subscript value slice pos) env) Q E s:=by
 refine Subscript_ (wpAny_mono h (fun o s₁ h₁=>wpAny_mono h₁ (fun i s₂ h₂=>?_) fun _ _ x=>x) fun _ _ x=>x)
 obtain ⟨hT,h₂⟩:=h₂
 unfold subscriptTail
 refine wpAny_bind ?_
 rw [getitemInPython_of_ne hT.not_modules]
 refine wpAny_bind (wpAny_specialOf hT hl ?_)
 have fin:wpAny (model prog w) A (subscripted slice false o i) (fun r s₃=>wpAny (model prog w) A (letTemporaryGo value o r >>= fun _=>pure r) Q E s₃) E s₂:=by
  rw [hs o i]
  exact wpAny_operating (wpAny_mono h₂ (fun r s₃ h₃=>wpAny_bind (wpAny_letTemporaryGo (wpAny_pure h₃))) fun _ _ x=>x)
 first
  | exact wpAny_pure (wpAny_bind fin)
  | exact wpAny_bind (wpAny_pure (wpAny_bind fin))
  | exact wpAny_bind fin
theorem rZ {X:Cx} {pins:List (Addr × Obj)} {σ:St} {H:Hp} {s:Shared} {a:Addr} {y:V} {o:Option V} (I:Inv X pins σ H s) (g:DGet H a y o):s.TypeIs (.ref a) "dict":=by
 rcases g with ⟨kvs,k,e,_,_⟩ | ⟨kvs,k,b,e,_,_,_⟩
 ·obtain ⟨_,_,vs,_,dd⟩:=Xq I.hok e
  exact dd.typeIs
 ·obtain ⟨_,_,xs,_,dd⟩:=Xr I.hok e
  exact dd.typeIs
def VB (td ty:TE):TE:=fun σ H Q=>td σ H fun x H1=>ty σ H1 fun y H2=>∃ a v,x = .ref a /\ DGet H2 a y (some v) /\ Q v H2
def tDIn (ty td:TE):TE:=fun σ H Q=>ty σ H fun y H1=>td σ H1 fun x H2=>∃ a o,x = .ref a /\ DGet H2 a y o /\ Q (.bl o.isSome) H2
def Uq (td ty tv:TE):TS:=fun D σ H=>tv σ H fun v H1=>td σ H1 fun x H2=>ty σ H2 fun y H3=>∃ a H4,x = .ref a /\ DPut H3 a y v H4 /\ D.nx σ H4
section
variable {X:Cx} {o i e value:Expr} {pos pos' tpos:Pos} {td ty tv:TE}
theorem tz (hu:X.A.units + 1 < cLine) (ho:PE X o td) (hi:PE X i ty) (hs:NoSl i):PE X (.Subscript o i pos) (VB td ty):=by
 intro pins s σ H Q I h
 refine Wz PySem.F.slot_dict_getitem.lookup hs (thn (ho pins s σ H _ I h) fun u s1 ⟨x,H1,I1,rx,q1⟩=>thn (hi pins s1 σ H1 _ I1 q1) fun iv s2 ⟨y,H2,I2,ry,a,v,ex,g,q2⟩=>?_)
 subst ex
 obtain rfl:u = Value.ref a:=rx
 exact ⟨rZ I2 g,Z3 hu I2 g ry fun w' s3 I3 rw'=>⟨v,H2,I3,rw',q2⟩⟩
theorem XZ (hu:X.A.units + 1 < cLine) (hi:PE X i ty) (ho:PE X o td):PC X .In i o (tDIn ty td):=by
 intro pins s σ H Q I h
 refine thn (hi pins s σ H _ I h) fun iv s1 ⟨y,H1,I1,ry,q1⟩=>thn (ho pins s1 σ H1 _ I1 q1) fun u s2 ⟨x,H2,I2,rx,a,ov,ex,g,q2⟩=>?_
 subst ex
 obtain rfl:u = Value.ref a:=rx
 exact d_in hu I2 g ry fun s3 I3=>⟨.bl ov.isSome,H2,I3,rfl,q2⟩
theorem vW (hu:X.A.units + 1 < cLine) (ho:PE X o td) (hi:PE X i ty) (hv:PE X value tv) (hs:swapsWith value (some (.Subscript o i pos')) pos.line X.env = pure false) :
  PS X (.Assign [.Subscript o i pos'] value pos) (Uq td ty tv):=by
 intro pins s σ H D I h
 refine wpAny_Assign_Subscript (thn (hv pins s σ H _ I h) fun r s1 ⟨v,H1,I1,rv,q1⟩=>thn (ho pins s1 σ H1 _ I1 q1) fun u s2 ⟨x,H2,I2,rx,q2⟩=>thn (hi pins s2 σ H2 _ I2 q2) fun iv s3 ⟨y,H3,I3,ry,a,H4,ex,g,q3⟩=>?_) hs
 subst ex
 obtain rfl:u = Value.ref a:=rx
 exact Z4 hu I3 g ry rv fun s4 I4=>⟨σ,H4,I4,q3⟩
end
theorem jc {P:Program} {w:World} {H:Hp} (h:Heap) (hb:sysModules < h.objs.size):z7 P w H (h.push { cls:=.type "dict",data:=.dict #[] }) h.objs.size (.dT []) :=
 ⟨Nat.zero_le _,beq_eq_false_iff_ne.mpr (Ne.symm (Nat.ne_of_lt hb)),[],.nil,_,#[],0,Heap.get?_push_size _ rfl,⟨rfl,rfl,rfl⟩,rfl,rfl,List.nodup_nil⟩
def VC:TE:=fun _ H Q=>∀ p,H p = none -> Q (.ref p) (upd H p (.dT []))
section
variable {X:Cx} {pos:Pos}
theorem vB:PE X (.Dict [] [] pos) VC:=fun pins s σ H Q I h =>
 wpAny_Dict_empty ⟨.ref s.heap.objs.size,_,I.laid (a:=s.heap.objs.size) (o:=.dT []) (t':=s.toks) (fun _ _ q=>Heap.get?_push_of_some _ q) (Nat.le_refl _) (jc s.heap I.big),rfl,h _ (I.hok.fresh (Nat.le_refl _))⟩
end
end L2
namespace Att
open PySem PySem.W PySem.Calls PyProof.Rows
end Att
namespace L2
open PySem PySem.Spec PyProof.Rows
section
variable {κ:Type} [DecidableEq κ]
theorem jd {kvs:List (κ × V)} {k:κ} (h:valV kvs k = none):¬ k ∈ kvs.map (·.1):=by
 intro m
 obtain ⟨p,hp,e⟩:=List.mem_map.mp m
 have q:(kvs.any fun kv=>decide (kv.1 = k)) = true:=List.any_eq_true.mpr ⟨p,hp,decide_eq_true e⟩
 rw [xB,h] at q
 exact absurd q (by simp)
theorem Z5:∀ {l:List κ} {k:κ},l.Nodup -> ¬ k ∈ l -> (l ++ [k]).Nodup
 | [],k,_,_=>by simp
 | a :: r,k,h,hk=>by
  obtain ⟨h1,h2⟩:=List.nodup_cons.mp h
  show (a :: (r ++ [k])).Nodup
  refine List.nodup_cons.mpr ⟨fun m=>?_,Z5 h2 fun m=>hk (List.mem_cons.mpr (Or.inr m))⟩
  rcases List.mem_append.mp m with q | q
  ·exact h1 q
  ·exact hk (List.mem_cons.mpr (Or.inl (List.mem_singleton.mp q).symm))
theorem WA {kvs:List (κ × V)} {k:κ} (v:V) (hn:(kvs.map (·.1)).Nodup) (h:valV kvs k = none):((putK kvs k v).map (·.1)).Nodup:=by
 rw [jb v h,List.map_append]
 exact Z5 hn (jd h)
end
end L2
namespace L3
open PySem PySem.Spec PyProof.Rows L2
open PySem PySem.Spec PyProof.Rows L2 PySem.W
def wD (es:Array DictEntry) (d:Addr) (ep:Nat) (h:Heap):Prop:=∃ o,h.get? d = some o /\ o.ExactDict /\ o.data = .dict es ep
section
variable {prog:Program} {w:World} {A:Around} {E:VS7} {s:Shared} {es:Array DictEntry} {d it:Addr} {ep i:Nat}
theorem wD.typeIs (h:wD es d ep s.heap):s.TypeIs (.ref d) "dict":=let ⟨o,ho,hc,_⟩:=h; ⟨o,ho,hc.1⟩
theorem wD.keep {h h':Heap} (x:wD es d ep h) (e:∀ o,h.get? d = some o -> h'.get? d = some o):wD es d ep h':=let ⟨o,ho,r⟩:=x; ⟨o,e o ho,r⟩
theorem Xs {Q:VS7} (hd:(d == sysModules) = false) (hm:wD es d ep s.heap)
  (hQ:Q (.ref s.heap.objs.size) { s with heap:=s.heap.push { cls:=.type "dict_keyiterator",data:=.fields #[.ref d,.int 0 0,.int es.size 0,.int ep 0] } }) :
  wpAny (model prog w) A (pyIter (.ref d)) Q E s:=by
 obtain ⟨o,ho,hc,hdat⟩:=id hm
 have hT:s.TypeIs (.ref d) "dict":=hm.typeIs
 refine wpAny_pyIter_slot hT PySem.F.slot_dict_iter (wpAny_call_entry PySem.F.slot_dict_iter hT PySem.F.entry_dict_iter ?_ (PySem.F.args_dict_iter_1 _))
 unfold Builtin.«dict.__iter__»
 refine wpAny_bind ?_
 unfold Builtin.Dict.dictSlotNone
 refine wpAny_bind (wpAny_notOrdered_dict hT ?_)
 show wpAny _ _ (pure (Value.ref d)) _ _ s
 refine wpAny_pure ?_
 show wpAny _ _ (Builtin.Dict.showsAll d >>= _) _ _ s
 unfold Builtin.Dict.showsAll
 rw [if_neg (by rw [hd]; exact Bool.false_ne_true)]
 refine wpAny_bind (wpAny_pure ?_)
 refine wpAny_bind (wpAny_dictEntries ho hdat ?_)
 refine wpAny_bind (wpAny_dictEpoch ho hdat ?_)
 refine wpAny_bind (wpAny_newObj_type (wpAny_pure ⟨_,rfl,"dict_keyiterator",_,⟨_,Heap.get?_push_size _ rfl,rfl⟩,PySem.F.slot_dict_keyiterator_next.lookup,?_⟩))
 simpa [rawInt] using hQ
theorem Xt {Q:Option Value -> Shared -> Prop} (hit:s.heap.IsKeyIter it d i es.size ep) (hm:wD es d ep s.heap) (hlt:i < es.size)
  (hQ:∀ h',h'.IsKeyIter it d (i + 1) es.size ep -> Heap.SameBut it s.heap h' -> Q (some es[i].key) { s with heap:=h' }) :
  wpAny (model prog w) A (pyNext (.ref it)) Q E s:=by
 obtain ⟨o,ho,hc,hd⟩:=id hit
 obtain ⟨od,hod,hcd,hdd⟩:=id hm
 unfold pyNext
 refine wpAny_bind (wpAny_attempt (wpAny_callSpecial?_slot (name:=Str.ofString "__next__") hit.typeIs PySem.F.slot_dict_keyiterator_next
  (wpAny_call_entry PySem.F.slot_dict_keyiterator_next hit.typeIs PySem.F.entry_dict_keyiterator_next ?_ (PySem.F.args_dict_keyiterator_next_1 _))))
 refine wpAny_bind (wpAny_pure ?_)
 refine wpAny_bind ?_
 refine wpAny_bind ?_
 first | refine wpAny_bind (wpAny_typeNameOfWhole_keyiter hit.typeIs (wpAny_pure ?_)) | refine wpAny_bind (wpAny_typeNameOf_keyiter hit.typeIs (wpAny_pure ?_))
 refine wpAny_bind (wpAny_fieldsOf ho hd ?_)
 have hown:Builtin.Dict_items.ownsTuple "dict_keyiterator" = false:=by decide
 simp only [hown,Bool.false_eq_true,if_false]
 show wpAny _ _ (if (Value.ref d == Value.none) = true then _ else _) _ _ s
 rw [if_neg (show ¬ ((Value.ref d == Value.none) = true) from Bool.false_ne_true)]
 refine wpAny_bind (wpAny_pure ?_)
 refine wpAny_bind (wpAny_dictEntries hod hdd ?_)
 rw [if_neg (by simp)]
 refine wpAny_bind (wpAny_pure ?_)
 refine wpAny_bind (wpAny_dictEpoch hod hdd ?_)
 rw [if_neg (by simp)]
 refine wpAny_pure ?_
 simp only [show ¬ ((i:Int) < 0) from by omega,if_false,Int.toNat_natCast,Array.getElem?_eq_getElem hlt]
 refine wpAny_bind ?_
 first | refine wpAny_bind (wpAny_typeNameOfWhole_keyiter hit.typeIs (wpAny_pure ?_)) | refine wpAny_bind (wpAny_typeNameOf_keyiter hit.typeIs (wpAny_pure ?_))
 refine wpAny_bind (wpAny_isOneOf_keyiter hit.typeIs ?_)
 show wpAny _ _ (setField (.ref it) 1 (rawInt ((i:Int) + 1)) >>= _) _ _ s
 refine wpAny_bind (wpAny_setField ho hd (by simp) ?_)
 have hit':(s.heap.update it (Obj.mapFields (·.setIfInBounds 1 (rawInt ((i:Int) + 1))))).IsKeyIter it d (i + 1) es.size ep :=
  ⟨_,Heap.get?_update_self _ ho (Obj.isFreed_of_fields (Obj.data_mapFields hd _)),(Obj.cls_mapFields ..).trans hc,by rw [Obj.data_mapFields hd]; simp [rawInt]⟩
 refine wpAny_bind (wpAny_holding ?_)
 refine wpAny_bind (wpAny_isOneOf_keyiter (s:={ s with heap:=s.heap.update it (Obj.mapFields (·.setIfInBounds 1 (rawInt ((i:Int) + 1)))) }) hit'.typeIs ?_)
 show wpAny _ _ (pure es[i].key) _ _ _
 exact wpAny_pure (wpAny_pure ⟨_,rfl,wpAny_pure (hQ _ hit' (Heap.SameBut.update ..))⟩)
theorem WB {Q:Option Value -> Shared -> Prop} (hh:A.handled = none) (hit:s.heap.IsKeyIter it d es.size es.size ep) (hm:wD es d ep s.heap)
  (hQ:∀ h',Heap.ExtBut it s.heap h' -> Q none { s with heap:=h' }):wpAny (model prog w) A (pyNext (.ref it)) Q E s:=by
 obtain ⟨o,ho,hc,hd⟩:=id hit
 obtain ⟨od,hod,hcd,hdd⟩:=id hm
 unfold pyNext
 refine wpAny_bind (wpAny_attempt (wpAny_callSpecial?_slot (name:=Str.ofString "__next__") hit.typeIs PySem.F.slot_dict_keyiterator_next
  (wpAny_call_entry PySem.F.slot_dict_keyiterator_next hit.typeIs PySem.F.entry_dict_keyiterator_next ?_ (PySem.F.args_dict_keyiterator_next_1 _))))
 refine wpAny_bind (wpAny_pure ?_)
 refine wpAny_bind ?_
 refine wpAny_bind ?_
 first | refine wpAny_bind (wpAny_typeNameOfWhole_keyiter hit.typeIs (wpAny_pure ?_)) | refine wpAny_bind (wpAny_typeNameOf_keyiter hit.typeIs (wpAny_pure ?_))
 refine wpAny_bind (wpAny_fieldsOf ho hd ?_)
 have hown:Builtin.Dict_items.ownsTuple "dict_keyiterator" = false:=by decide
 simp only [hown,Bool.false_eq_true,if_false]
 show wpAny _ _ (if (Value.ref d == Value.none) = true then _ else _) _ _ s
 rw [if_neg (show ¬ ((Value.ref d == Value.none) = true) from Bool.false_ne_true)]
 refine wpAny_bind (wpAny_pure ?_)
 refine wpAny_bind (wpAny_dictEntries hod hdd ?_)
 rw [if_neg (by simp)]
 refine wpAny_bind (wpAny_pure ?_)
 refine wpAny_bind (wpAny_dictEpoch hod hdd ?_)
 rw [if_neg (by simp)]
 refine wpAny_pure ?_
 simp only [show ¬ ((es.size:Int) < 0) from by omega,if_false,Int.toNat_natCast,Array.getElem?_eq_none (Nat.le_refl es.size)]
 refine wpAny_bind ?_
 first | refine wpAny_bind (wpAny_typeNameOfWhole_keyiter hit.typeIs (wpAny_pure ?_)) | refine wpAny_bind (wpAny_typeNameOf_keyiter hit.typeIs (wpAny_pure ?_))
 show wpAny _ _ (setField (.ref it) 0 .none >>= _) _ _ s
 refine wpAny_bind (wpAny_setField ho hd (by simp) ?_)
 show wpAny _ _ (newExc (.type "StopIteration") [] >>= _) _ _ _
 refine wpAny_bind ?_
 simp only [newExc,newTuple]
 refine wpAny_bind (wpAny_newObj_type ?_ (by size_fits))
 refine wpAny_bind (m:=firstArgMember _ _) (wpAny_of_eq (a:=Value.none) (by first | rfl | (simp only [firstArgMember]; rfl)) ?_)
 refine wpAny_newObj_type ?_ (by size_fits)
 simp only [raiseNew]
 refine wpAny_bind (wpAny_handled ?_)
 rw [show A.in1.handled = none from hh]
 refine wpAny_bind (wpAny_pure (wpAny_throw ?_))
 refine wpAny_bind (wpAny_isInstance (T:="StopIteration") (b:=true) ⟨_,Heap.get?_push_size _ rfl,rfl⟩ isSubtype_stop ?_)
 exact wpAny_pure (hQ _ (((Heap.SameBut.update ..).extBut.push _).push _))
end
def VD (H:Hp) (z:V) (p:List Key × V):Prop:=∃ b,z = .ref b /\ H b = some (.tup (p.1.map kV))
theorem je {H:Hp}:∀ {kvs:List (List Key × V)} {xs:List (List Key × Addr × Value)},KT H kvs xs -> AllR (VD H) (xs.map fun q=>V.ref q.2.1) kvs
 | _,_,.nil=>trivial
 | _,_,.cons h t=>⟨⟨_,rfl,h.2.1⟩,je t⟩
open PySem PySem.Spec PyProof.Rows L2 HT
theorem vp:fillsNumberSlot (.type "tuple") "mul" = pure false :=
 PySem.fillsNumberSlot_seq (id:="tuple.__mul__") (r:=some (.builtin "tuple.__rmul__")) PySem.F.slot_tuple_mul.lookup (by decide +kernel) (by rw [typeLookup_type,builtinLookup_eq_fast]; kernel_rfl) (by decide +kernel)
theorem sN:seqRepeat? (.type "tuple") = pure (some (.builtin "tuple.__mul__")):=by
 unfold seqRepeat?
 rw [PySem.seqSlot_of (T:="tuple") (name:="__mul__") (id:="tuple.__mul__") PySem.F.slot_tuple_mul.lookup (by decide +kernel),PySem.seqSlot_of (T:="tuple") (name:="__rmul__") (id:="tuple.__rmul__") (by rw [typeLookup_type,builtinLookup_eq_fast]; kernel_rfl) (by decide +kernel)]
 rfl
theorem ui (a:Int) (t:Tok) (l:Addr) (us:Array Value) (n:Nat) (d1:Option Addr) (e1:Array (Option Value)) :
  Meets (Builtin.«int.__rmul__» ⟨[.int a t,.ref l],[]⟩) (fun _ R s=>s.heap.get? l = some ⟨.type "tuple",d1,.seq us n,e1⟩ /\ R (.ok (.ret Value.notImplemented)) s) :=
 .of_wp fun prog w A R s h=>by obtain ⟨hp,g,d,tk,os⟩:=s; obtain ⟨hl,h⟩:=h; wp_walk; exact ⟨_,rfl,h⟩
theorem Z6 (l:Addr) (us:Array Value) (n:Nat) (d1:Option Addr) (e1:Array (Option Value)) (x:Int) (u:Tok) (h1:¬ x < -(2 ^ 63)) (h2:¬ x >= 2 ^ 63) (h0:us.isEmpty = false) (h3:(x == 1) = false) (h4:¬ x <= 0) (h5:¬ (us.size:Int) * x > (2 ^ 63 - 1) / 8) (h6:Builtin.Tuple.tupleTooMany ((us.size:Int) * x) = false) (h7:(List.foldl (fun x1 x2=>x1 ++ x2) #[] (List.replicate x.toNat us)).size <= sizeLine) :
  Meets (Builtin.«tuple.__mul__» ⟨[.ref l,.int x u],[]⟩) (fun _ R s=>s.heap.get? l = some ⟨.type "tuple",d1,.seq us n,e1⟩ /\ R (.ok (.ret (Value.ref s.heap.objs.size))) { s with heap:=s.heap.push { cls:=Value.type "tuple",data:=Data.seq (List.foldl (fun x1 x2=>x1 ++ x2) #[] (List.replicate x.toNat us)) },toks:=s.toks }) :=
 .of_wp fun prog w A R s h=>by
  obtain ⟨hp,g,d,tk,os⟩:=s; obtain ⟨hl,h⟩:=h
  wp_walk using PySem.AutoSeq1.wpAny_loadPart' hl
  rw [if_neg (by simp only [Bool.or_eq_true,decide_eq_true_eq]; omega)]
  wp_walk using PySem.AutoSeq1.wpAny_loadPart' hl
  rw [if_neg h5]
  rw [if_neg (by rw [h6]; decide)]
  unfold Builtin.Tuple.tupleExact
  refine wpAny_bind (wpAny_newObj_type ?_ h7)
  exact wpAny_pure ⟨_,rfl,h⟩
theorem jJ (l:Addr) (us:Array Value) (n:Nat) (d1:Option Addr) (e1:Array (Option Value)) (u:Tok) :
  Meets (Builtin.«tuple.__mul__» ⟨[.ref l,.int 1 u],[]⟩) (fun _ R s=>s.heap.get? l = some ⟨.type "tuple",d1,.seq us n,e1⟩ /\ R (.ok (.ret (Value.ref l))) s) :=
 .of_wp fun prog w A R s h=>by
  obtain ⟨hp,g,d,tk,os⟩:=s; obtain ⟨hl,h⟩:=h
  wp_walk using PySem.AutoSeq1.wpAny_loadPart' hl
  exact ⟨_,rfl,h⟩
theorem jK (l:Addr) (us:Array Value) (n:Nat) (d1:Option Addr) (e1:Array (Option Value)) (u:Tok) (h0:us.isEmpty = false) :
  Meets (Builtin.«tuple.__mul__» ⟨[.ref l,.int 0 u],[]⟩) (fun _ R s=>s.heap.get? l = some ⟨.type "tuple",d1,.seq us n,e1⟩ /\ R (.ok (.ret (Value.ref s.heap.objs.size))) { s with heap:=s.heap.push { cls:=Value.type "tuple",data:=Data.seq #[] },toks:=s.toks }) :=
 .of_wp fun prog w A R s h=>by
  obtain ⟨hp,g,d,tk,os⟩:=s; obtain ⟨hl,h⟩:=h
  wp_walk using PySem.AutoSeq1.wpAny_loadPart' hl
  exact ⟨_,rfl,h⟩
section
variable {X:Cx} {K:FG7}
def Ur (K:FG7):R2:=fun x y H Q=>∃ (a:Addr) (k:Nat) (xs:List V),x = .ref a /\ y = .int k /\ SqT K H a xs /\ xs ≠ [] /\ xs.length * k <= sizeLine /\ ∀ p H',Grow [] H H' -> SqT K H' p (List.replicate k xs).flatten -> Q (.ref p) H'
theorem Z7 (hK:X.K = K):OpR X (binaryOp .Mult) (Ur K):=by
 subst hK
 intro pins s σ H x y v u Q I rx ry h
 obtain ⟨a,k,xs,rfl,rfl,ha,hne,hz,q⟩:=h
 cases rx
 obtain ⟨t,rfl⟩:=ry
 obtain ⟨its,r,ht,hzz⟩:=I.tuple ha
 obtain ⟨⟨c1,d1,x1,l1⟩,ho,hc,n,hd⟩:=id ht
 cases hc
 cases hd
 have hl:=r.length
 have he:its.toArray.isEmpty = false:=by
  cases its with
  | nil=>exact absurd (r.nil_iff.mp rfl) hne
  | cons _ _=>rfl
 have hsl:(sizeLine:Nat) <= (2 ^ 63 - 1) / 8:=by decide
 have hpos:0 < xs.length:=List.length_pos_iff.mpr hne
 have hk:k <= xs.length * k:=Nat.le_mul_of_pos_left k hpos
 refine wpAny_binaryOp_repeat_ref (T:="tuple") (U:="int") (by decide) ⟨_,ho,rfl⟩ (fun s'=>typeIs_int s' k t) vp PySem.F.fills_int_mul PySem.F.slot_int_rmul sN PySem.F.slot_int_index.lookup
  (call_meets PySem.F.slot_int_rmul (typeIs_int s k t) PySem.F.entry_int_rmul (PySem.F.args_int_rmul_2 _ _) (ui k t a its.toArray n d1 l1)
   ⟨ho,rfl,⟨_,ho,rfl⟩,?_⟩)
 by_cases k1:k = 1
 ·subst k1
  refine call_meets PySem.F.slot_tuple_mul ⟨_,ho,rfl⟩ PySem.F.entry_tuple_mul (PySem.F.args_tuple_mul_2 _ _) (jJ a its.toArray n d1 l1 t) ⟨ho,?_⟩
  exact ⟨.ref a,H,I,rfl,q a H (Grow.refl _ _) (by simpa using ha)⟩
 by_cases k0:k = 0
 ·subst k0
  refine call_meets PySem.F.slot_tuple_mul ⟨_,ho,rfl⟩ PySem.F.entry_tuple_mul (PySem.F.args_tuple_mul_2 _ _) (jK a its.toArray n d1 l1 t he) ⟨ho,?_⟩
  refine ⟨.ref s.heap.objs.size,_,I.laid (t':=s.toks) (o:=.tup []) (fun b ob q=>Heap.get?_push_of_some _ q) (Nat.le_refl _) ⟨Nat.zero_le _,[],.nil,IsTup.new _ _⟩,rfl,q _ _ (Grow.new (I.hok.fresh (Nat.le_refl _)) _) (by simpa using SqT.of zd)⟩
 have hnew:List.foldl (fun x1 x2=>x1 ++ x2) #[] (List.replicate (k:Int).toNat its.toArray) = (List.replicate k its).flatten.toArray:=by
  have:=sg its k []
  rw [List.nil_append] at this
  exact this
 have hsz:(List.replicate k its).flatten.length <= sizeLine:=by rw [Zx,← hl,Nat.mul_comm]; exact hz
 refine call_meets PySem.F.slot_tuple_mul ⟨_,ho,rfl⟩ PySem.F.entry_tuple_mul (PySem.F.args_tuple_mul_2 _ _) (Z6 a its.toArray n d1 l1 k t (by omega) (by omega) he (beq_false_of_ne (by omega)) (by omega) ?_ ?_ (by rw [hnew,List.size_toArray]; exact hsz)) ⟨ho,?_⟩
 ·rw [List.size_toArray,← hl]
  have:((xs.length:Nat):Int) * (k:Int) = ((xs.length * k:Nat):Int):=by rw [Int.natCast_mul]
  rw [this]; omega
 ·rw [List.size_toArray,← hl]
  have:((xs.length:Nat):Int) * (k:Int) = ((xs.length * k:Nat):Int):=by rw [Int.natCast_mul]
  rw [this]
  exact decide_eq_false (by omega)
 ·rw [hnew]
  refine ⟨.ref s.heap.objs.size,_,I.laid (t':=s.toks) (o:=.tup (List.replicate k xs).flatten) (fun b ob q=>Heap.get?_push_of_some _ q) (Nat.le_refl _) ⟨by rw [Zx,Nat.mul_comm]; exact hz,_,r.rep k,IsTup.new _ _⟩,rfl,q _ _ (Grow.new (I.hok.fresh (Nat.le_refl _)) _) (SqT.of zd)⟩
end
theorem nd1 {α:Type} {a:α}:[a].Nodup:=List.nodup_cons.mpr ⟨(fun z=>nomatch z),List.nodup_nil⟩
theorem Room.u1F {k:Nat} {A:Around} (r:Room k A):A.units + 1 < cLine:=by have:=r.un; omega
section
variable {prog:Program} {w:World} {A:Around} {R:Result -> Shared -> Prop} {s:Shared}
theorem jL {kx vx target iter:Expr} {ifs:List Expr} {scope:Scope} {pos:Pos} {it:Value} {D:Addr} {env:Env} (I:Nat -> Shared -> Prop)
  (turn:∀ n s,I n s -> wpAny (model prog w) A (pyNext it) (fun r s₁=>match r with
   | none=>R (.ok .next) s₁
   | some v=>wpAny (model prog w) A (letOwnedTupleGo target it v) (fun _ s₂=>wpAny (model prog w) A (assign target env v) (fun _ s₃ =>
     wpAny (model prog w) A (forIn ifs true fun c r=>if r = true then do let ok ← isTrue c env (eval c env); pure (ForInStep.yield ok) else pure (ForInStep.yield r)) (fun ok s₄ =>
      if ok = true then wpAny (model prog w) A (eval kx env) (fun kv s₅=>wpAny (model prog w) A (eval vx env) (fun vv s₆ =>
       wpAny (model prog w) A (dictSet D kv vv) (fun _ s₇=>∃ m,m < n /\ I m s₇) (fun _ _=>False) s₆) (fun _ _=>False) s₅) (fun _ _=>False) s₄
      else ∃ m,m < n /\ I m s₄) (fun _ _=>False) s₃) (fun _ _=>False) s₂) (fun _ _=>False) s₁) (fun _ _=>False) s)
  (n:Nat) (h:I n s) :
  codeAny (model prog w) A (.compLoop (.DictComp kx vx [⟨target,iter,ifs,0⟩] scope pos) 0 it (.ref D) env) R s:=by
 refine codeAny_loop rfl I (fun n s hI=>?_) n h
 show wpAny _ A ((compTurn (.DictComp kx vx [⟨target,iter,ifs,0⟩] scope pos) 0 it (.ref D) env).onRaise (fun x=>do noteFrame x env; theTreesLotGoes x)) _ _ s
 refine wpAny_noted ?_
 rw [compTurn_dict]
 have no:∀ (E:VS7) (e:Value) (s:Shared),(fun (_:Value) (_:Shared)=>False) e s -> E e s:=fun _ _ _ f=>f.elim
 refine wpAny_bind (wpAny_standAt (wpAny_bind (wpAny_mono (turn n s hI) (fun r s₁ h₁=>?_) (no _))))
 cases r with
 | none=>exact wpAny_pure h₁
 | some v =>
  refine wpAny_bind (wpAny_mono h₁ (fun _ s₂ h₂=>?_) (no _))
  refine wpAny_bind (wpAny_mono h₂ (fun _ s₃ h₃=>wpAny_bind (wpAny_mono h₃ (fun ok s₄ h₄=>?_) (no _))) (no _))
  cases ok with
  | false=>exact wpAny_pure ⟨rfl,h₄⟩
  | true =>
   exact wpAny_bind (wpAny_bind (wpAny_mono h₄ (fun kv s₅ h₅=>wpAny_bind (wpAny_holding (wpAny_mono h₅ (fun vv s₆ h₆=>wpAny_bind (wpAny_standAt (wpAny_holding (wpAny_mono h₆ (fun _ s₇ h₇=>wpAny_pure ⟨rfl,h₇⟩) (no _))))) (no _)))) (no _)))
end
def DRaw (prog:Program) (w:World) (Hb:Hp) (h:Heap) (D:Addr) (o:Obj) (kvs:List (List Key × V)):Prop :=
 kvs.length <= sizeLine /\ (D == sysModules) = false /\ ∃ xs:List (List Key × Addr × Value),KT Hb kvs xs /\ ∃ es ep,h.get? D = some o /\ o.ExactDict /\ o.data = .dict es ep /\ es.toList = xs.map (entryOfKey (tupleKind (z6 prog w))) /\ (xs.map (·.1)).Nodup
theorem DRaw.at {prog:Program} {w:World} {Hb:Hp} {h h':Heap} {D:Addr} {o:Obj} {kvs:List (List Key × V)} (r:DRaw prog w Hb h D o kvs) (e:h'.get? D = some o):DRaw prog w Hb h' D o kvs :=
 let ⟨z,y,xs,k,es,ep,_,h2,h3,h4,h5⟩:=r; ⟨z,y,xs,k,es,ep,e,h2,h3,h4,h5⟩
theorem DRaw.obj {prog:Program} {w:World} {Hb H':Hp} {h:Heap} {D:Addr} {o:Obj} {kvs:List (List Key × V)} (r:DRaw prog w Hb h D o kvs) (hk:∀ b xs,Hb b = some (.tup xs) -> H' b = some (.tup xs)):z7 prog w H' h D (.dT kvs) :=
 let ⟨z,y,xs,k,es,ep,h1,h2,h3,h4,h5⟩:=r; ⟨z,y,xs,k.keeps hk,o,es,ep,h1,h2,h3,h4,h5⟩
theorem DRaw.nocell {prog:Program} {w:World} {Hb:Hp} {h:Heap} {D:Addr} {o:Obj} {kvs:List (List Key × V)} (r:DRaw prog w Hb h D o kvs) (v:Option Value):o.data ≠ .cell v:=by
 obtain ⟨_,_,_,_,es,ep,_,_,h3,_⟩:=r
 rw [h3]; intro z; cases z
def Z8 (J:It) (σ0:L2.St) (H1:Hp) (g:TG) (tt:TT) (tk tv:TE) (Q:VK):Prop :=
 ∃ W:Nat -> Nat -> List (List Key × V) -> Hp -> L2.St -> Hp -> Prop,(∃ m,W 0 m [] H1 σ0 H1) /\ ∀ i m kvs Hb σ' H',W i m kvs Hb σ' H' →
  (J.stop i H' /\ (∀ b xs,Hb b = some (.tup xs) -> H' b = some (.tup xs)) /\ ∀ l,H' l = none -> Q (.ref l) (upd H' l (.dT kvs))) ∨
  (J.go i H' /\ ∃ Nn:List (List Key × V) -> Hp -> L2.St -> Hp -> Prop,(∀ zs Hc σ2 H2,Nn zs Hc σ2 H2 -> ∃ m',m' < m /\ W (i + 1) m' zs Hc σ2 H2) ∧
   ∀ x H2,J.yld i H' x H2 -> g x σ' H2 fun σ2 H3=>tt σ2 H3 fun b H4=>if b = true then tk σ2 H4 fun y H5=>tv σ2 H5 fun v H6=>kvs.length < sizeLine /\ ∃ b ks,y = .ref b /\ H6 b = some (.tup (ks.map kV)) /\ (∀ c xs,Hb c = some (.tup xs) -> H6 c = some (.tup xs)) /\ Nn (putK kvs ks v) H6 σ2 H6 else Nn kvs Hb σ2 H4)
def VE (wi:TI) (sub:List (Option Nat)) (g:TG) (tt:TT) (tk tv:TE):TE:=fun σ H Q=>wi σ H fun J H1=>Z8 J (capt sub σ) H1 g tt tk tv Q
section
variable {X:Cx} {pins:List (Addr × Obj)} {σ:L2.St} {H2:Hp} {s₂:Shared} {it:Addr} {fp:List Addr} {tn:Nat -> Heap -> Prop} {J:It} {scope:Scope} {cl:List (Str × Addr)} {N':List Str} {sub:List (Option Nat)}
theorem Z9 {C D:Addr} {s₀:Shared} {s':Shared} {σ':L2.St} {H' Hb:Hp} {kvs:List (List Key × V)} {o oC:Obj} (I:Inv X pins σ H2 s₂)
    (hs₀:∀ b o,s₂.heap.get? b = some o -> s₀.heap.get? b = some o) (hos:s₀.os = s₂.os) (hD:s₂.heap.objs.size <= D) (hC:s₂.heap.objs.size <= C) (hDC:D ≠ C) (f2:∀ b ∈ fp,FpOk X pins H2 b)
    (I':Inv (cxC X N' scope cl C D fp s₀ H2) pins σ' H' s') (hn:H' D = none) (hb:∀ b xs,Hb b = some (.tup xs) -> H' b = some (.tup xs)) (rv:DRaw X.prog X.w Hb s'.heap D o kvs)
    (ho:s'.heap.get? C = some oC) (hd:∀ v,oC.data ≠ .cell v):Inv X (pins ++ [(C,oC)]) σ (upd H' D (.dT kvs)) s' /\ FpOk X pins (upd H' D (.dT kvs)) C:=by
  have neD:∀ b o,s₂.heap.get? b = some o -> b ≠ D:=fun b o e=>Nat.ne_of_lt (Nat.lt_of_lt_of_le (Heap.lt_size e) hD)
  have nm:∀ b o,s₂.heap.get? b = some o -> b ∉ fp -> b ∉ D :: fp:=fun b o e h z=>(List.mem_cons.mp z).elim (neD b o e) h
  have U:=I'.base
  have HC:upd H' D (.dT kvs) C = none:=by rw [zp (Ne.symm hDC)]; exact I'.free
  have fpc:FpOk X pins (upd H' D (.dT kvs)) C:=I.fpOk hC HC
  have tp:∀ b xs,H2 b = some (.tup xs) -> upd H' D (.dT kvs) b = some (.tup xs):=fun b xs e=>by have z:=U.tups b xs e; rw [zp (zv z hn)]; exact z
  have un:Un (frs X.stack) fp H2 (upd H' D (.dT kvs)) s₂.heap s'.heap :=
    { keep:=fun b o e n h1 h2=>U.keep b o (hs₀ b o e) n h1 (nm b o e h2)
      slot:=fun b o e n h1 h2=>U.slot b o (hs₀ b o e) n h1 (nm b o e h2)
      free:=fun b o e n h2=>by rw [zp (neD b o e)]; exact U.free b o (hs₀ b o e) n (nm b o e h2)
      there:=fun b o e h2=>U.there b o (hs₀ b o e) (nm b o e h2)
      tups:=tp
      frzs:=fun b o u e=>by have z:=U.frzs b o u e; rw [zp (zv z hn)]; exact z
      tbls:=fun b ps e=>by obtain ⟨more,z⟩:=U.tbls b ps e; exact ⟨more,by rw [zp (zv z hn)]; exact z⟩ }
  have hok:HOk X.prog X.w (upd H' D (.dT kvs)) s'.heap:=HOk.track I'.hok hn (rv.obj fun b xs e=>by have z:=hb b xs e; rw [zp (zv z hn)]; exact z)
  have IX:Inv X pins σ (upd H' D (.dT kvs)) s':=I.call' (I'.os.trans hos) un hok I'.bare fun b hb=>⟨(f2 b hb).2.2.2.1,(f2 b hb).2.1,(f2 b hb).2.2.2.2.1,(f2 b hb).2.2.2.2.2⟩
  refine ⟨IX.pins_of fun p hp=>?_,fpc⟩
  rcases List.mem_append.mp hp with hp | hp
  · exact IX.pin p (List.mem_append_right _ hp)
  · rw [List.mem_singleton.mp hp]
    exact ⟨ho,HC,fpc.2.1,fpc.2.2.1,hd⟩
theorem Ya {C D:Addr} {s₀:Shared} {tg:Expr} {pos:Pos} {kx vx iter:Expr} {ifs:List Expr} {g:TG} {tt:TT} {tk tv:TE} {Q:VK} {RR:Value -> Addr -> Result -> Shared -> Prop} {W:Nat -> Nat -> List (List Key × V) -> Hp -> L2.St -> Hp -> Prop}
  (hu:X.A.units + 1 < cLine) (I:Inv X pins σ H2 s₂) (hcalm:X.calm = true) (T:Turn X.prog X.w X.K tg J fp it tn) (f2:∀ b ∈ fp,FpOk X pins H2 b) (hfp:∀ b ∈ fp,b < s₂.heap.objs.size)
  (hs₀:∀ b o,s₂.heap.get? b = some o -> s₀.heap.get? b = some o) (hos:s₀.os = s₂.os) (hD:s₂.heap.objs.size <= D) (hC:s₂.heap.objs.size <= C) (hDC:D ≠ C)
  (hcl1:∀ x c,cl.lookup x = some c -> X.env.cells.lookup x = some c)
  (hg:PG (cxC X N' scope cl C D fp s₀ H2) tg g) (ht:PIfs (cxC X N' scope cl C D fp s₀ H2) ifs tt) (hk:PE (cxC X N' scope cl C D fp s₀ H2) kx tk) (he:PE (cxC X N' scope cl C D fp s₀ H2) vx tv)
  (turn:∀ i m kvs Hb σ' H',W i m kvs Hb σ' H' →
   (J.stop i H' /\ (∀ b xs,Hb b = some (.tup xs) -> H' b = some (.tup xs)) /\ ∀ l,H' l = none -> Q (.ref l) (upd H' l (.dT kvs))) ∨
   (J.go i H' /\ ∃ Nn:List (List Key × V) -> Hp -> L2.St -> Hp -> Prop,(∀ zs Hc σ2 H2,Nn zs Hc σ2 H2 -> ∃ m',m' < m /\ W (i + 1) m' zs Hc σ2 H2) ∧
    ∀ x H3,J.yld i H' x H3 -> g x σ' H3 fun σ2 H3=>tt σ2 H3 fun b H4=>if b = true then tk σ2 H4 fun y H5=>tv σ2 H5 fun v H6=>kvs.length < sizeLine /\ ∃ b ks,y = .ref b /\ H6 b = some (.tup (ks.map kV)) /\ (∀ c xs,Hb c = some (.tup xs) -> H6 c = some (.tup xs)) /\ Nn (putK kvs ks v) H6 σ2 H6 else Nn kvs Hb σ2 H4))
  (hRR:∀ (D C:Addr) (oC:Obj) (m:Str -> Option Value) (s':Shared) (Hf:Hp),Inv X (pins ++ [(C,oC)]) σ Hf s' -> s'.heap.Ns C m -> FpOk X pins Hf C -> Q (.ref D) Hf -> RR (.ref D) C (.ok .next) s')
  (n:Nat) (s:Shared) (h:∃ i kvs Hb o σ' H',Inv (cxC X N' scope cl C D fp s₀ H2) pins σ' H' s /\ tn i s.heap /\ (∀ b ∈ fp,H' b = none) /\ H' D = none ∧
   DRaw X.prog X.w Hb s.heap D o kvs /\ W i n kvs Hb σ' H') :
  codeAny (model X.prog X.w) X.A (.compLoop (.DictComp kx vx [⟨tg,iter,ifs,0⟩] scope pos) 0 (.ref it) (.ref D) (compEnvC scope cl C X.env)) (RR (.ref D) C) s:=by
 have frsz:∀ b ∈ frs X.stack,b < s₂.heap.objs.size:=fun b hb=>by
  rcases List.mem_cons.mp (I.stkSub b hb) with z | z
  ·rw [z]; exact I.lt
  ·exact Nat.lt_of_not_le fun q=>I.nofs q z
 have cells:∀ x c,cl.lookup x = some c -> c < s₂.heap.objs.size:=fun x c e=>let ⟨v,q⟩:=I.cell x c (hcl1 x c e); q.lt
 have pinsz:∀ p ∈ X.pn ++ pins,p.1 < s₂.heap.objs.size:=fun p hp=>Heap.lt_size (I.pin p hp).1
 refine jL (fun n s=>∃ i kvs Hb o σ' H',Inv (cxC X N' scope cl C D fp s₀ H2) pins σ' H' s /\ tn i s.heap /\ (∀ b ∈ fp,H' b = none) /\ H' D = none ∧
   DRaw X.prog X.w Hb s.heap D o kvs /\ W i n kvs Hb σ' H') ?_ n h
 rintro n s ⟨i,kvs,Hb,o,σ',H',I',st',fr,hn,rv,w'⟩
 have hy:s.heap.get? D = some o:=let ⟨_,_,_,_,_,_,e,_⟩:=rv; e
 have pD:Inv (cxC X N' scope cl C D fp s₀ H2) (pins ++ [(D,o)]) σ' H' s:=I'.pins_of fun p hp=>by
  rcases List.mem_append.mp hp with hp | hp
  ·exact I'.pin p (List.mem_append_right _ hp)
  ·rw [List.mem_singleton.mp hp]
   exact ⟨hy,hn,hDC,fun z=>absurd (Nat.lt_of_lt_of_le (frsz _ z) hD) (Nat.lt_irrefl _),rv.nocell⟩
 have fpok:∀ {H'':Hp},(∀ b ∈ fp,H'' b = none) -> ∀ b ∈ fp,FpOk (cxC X N' scope cl C D fp s₀ H2) (pins ++ [(D,o)]) H'' b:=fun hz b hb=>by
  refine ⟨hz b hb,Nat.ne_of_lt (Nat.lt_of_lt_of_le (hfp b hb) hC),fun z=>?_,.inl (List.mem_cons_of_mem _ hb),fun x c e=>(f2 b hb).2.2.2.2.1 x c (hcl1 x c e),fun p hp=>?_⟩
  ·rcases List.mem_cons.mp (I.stkSub b z) with z | z
   ·exact (f2 b hb).2.1 z
   ·exact (f2 b hb).2.2.1 z
  ·rcases List.mem_append.mp hp with hp | hp
   ·exact (f2 b hb).2.2.2.2.2 p (List.mem_append_left _ hp)
   ·rcases List.mem_append.mp hp with hp | hp
    ·exact (f2 b hb).2.2.2.2.2 p (List.mem_append_right _ hp)
    ·rw [List.mem_singleton.mp hp]
     exact Nat.ne_of_gt (Nat.lt_of_lt_of_le (hfp b hb) hD)
 rcases turn i n kvs Hb σ' H' w' with ⟨stop,hbt,q⟩ | ⟨go,Nn,hN,step⟩
 ·refine thn (T.done (cxC X N' scope cl C D fp s₀ H2) rfl rfl rfl hcalm i _ s σ' H' (fun _ _=>False) pD (fpok fr) st' stop) fun r s1 ⟨hr,I1⟩=>?_
  subst hr
  have hy1:=(I1.pin (D,o) (by simp)).1
  obtain ⟨m,hm,_⟩:=I1.loc
  obtain ⟨oC,es,ep,hoC,hdC,_⟩:=id hm
  obtain ⟨IX,fpc⟩:=Z9 I hs₀ hos hD hC hDC f2 I1.unpinned hn hbt (rv.at hy1) hoC (by intro v z; rw [hdC] at z; cases z)
  exact hRR D C oC m s1 _ IX hm fpc (q D hn)
 ·refine thn (T.item (cxC X N' scope cl C D fp s₀ H2) rfl rfl rfl hcalm i _ s σ' H' (fun _ _=>False) pD (fpok fr) st' go) fun r s1 ⟨u,hr,h4⟩=>?_
  subst hr
  refine thn h4 fun _ s2 ⟨x5,H5,I5,r5,y5,st5,fr5⟩=>?_
  have I5':=I5.pinned (fpok fr5) (T.obj _ _ st5)
  refine thn (hg _ s2 σ' H5 x5 u _ I5' r5 (step x5 H5 y5)) fun _ s3 ⟨σ6,H6,I6,q6⟩=>?_
  refine thn (ht _ s3 σ6 H6 _ I6 q6) fun ok s4 ⟨H7,I7,q7⟩=>?_
  have stay:∀ {σ7:L2.St} {H7:Hp} {s7:Shared},Inv (cxC X N' scope cl C D fp s₀ H2) (pins ++ [(D,o)] ++ xH fp s2.heap) σ7 H7 s7 →
    (∀ b ∈ fp,∀ o,s2.heap.get? b = some o -> s7.heap.get? b = some o) /\ (∀ b ∈ fp,H7 b = none) /\ H7 D = none /\ s7.heap.get? D = some o:=fun {σ7 H7 s7} I7=>by
   have d:=I7.pin (D,o) (by simp)
   refine ⟨fun b hb o e=>(I7.pin (b,o) (List.mem_append_right _ (List.mem_append_right _ (zR hb e)))).1,fun b hb=>?_,d.2.1,d.1⟩
   obtain ⟨o,e,_⟩:=T.obj _ _ st5 b hb
   exact (I7.pin (b,o) (List.mem_append_right _ (List.mem_append_right _ (zR hb e)))).2.1
  cases ok with
  | false =>
   rw [if_neg (by decide)] at q7 ⊢
   obtain ⟨k1,k2,k3,k4⟩:=stay I7
   obtain ⟨m',hm,w7⟩:=hN kvs Hb σ6 H7 q7
   exact ⟨m',hm,i + 1,kvs,Hb,o,σ6,H7,I7.unpinned.unpinned,T.keep _ _ _ st5 k1,k2,k3,rv.at k4,w7⟩
  | true =>
   rw [if_pos rfl] at q7 ⊢
   refine thn (hk _ s4 σ6 H7 _ I7 q7) fun kv s5 ⟨y,H8,I8,ry,q8⟩=>?_
   refine thn (he _ s5 σ6 H8 _ I8 q8) fun vv s6 ⟨v,H9,I9,r9,hl9,b,ks,ey,eb,tp,n9⟩=>?_
   subst ey
   cases (show kv = Value.ref b from ry)
   obtain ⟨k1,k2,k3,k4⟩:=stay I9
   obtain ⟨z,hd,xs,rel,es,ep,h1,h2,h3,h4',h5⟩:=rv.at k4
   have dd:s6.heap.DictOfH (tupleKind (z6 X.prog X.w)) D xs:=by
    refine ⟨o,es,ep,h1,h2,h3,h4',fun x hx=>?_,h5⟩
    have all:∀ {l:List (List Key × V)} {m:List (List Key × Addr × Value)},KT Hb l m -> ∀ x ∈ m,(tupleKind (z6 X.prog X.w)).is s6.heap x.1 x.2.1:=by
     intro l m q
     induction q with
     | nil=>intro x hx; exact nomatch hx
     | @cons p q ps qs hq t ih =>
      intro x hx
      rcases List.mem_cons.mp hx with e | hx
      ·subst e
       exact uG I9.hok (by rw [← hq.1]; exact tp _ _ hq.2.1)
      ·exact ih x hx
    exact all rel x hx
   have xl:xs.length <= sizeLine:=by rw [← Paired.length rel]; exact z
   refine wpAny_dictSet_heap (hsz:=xl) (show (tupleKind (z6 X.prog X.w)).room X.A from Nat.lt_of_succ_lt hu) (uG I9.hok eb) dd fun h' dd' sb=>?_
   obtain ⟨o',es',ep',hq1,hq2,hq3,hq4,_,hq5⟩:=dd'
   obtain ⟨m',hm,w9⟩:=hN _ _ σ6 H9 n9
   have pl:=yx kvs ks v
   refine ⟨m',hm,i + 1,putK kvs ks v,H9,o',σ6,H9,?_,T.keep _ _ _ (T.keep _ _ _ st5 k1) fun b hb o e=>sb.extBut b o (Nat.ne_of_lt (Nat.lt_of_lt_of_le (hfp b hb) hD)) e,k2,k3,⟨by omega,hd,_,(KT.keeps rel tp).put ks eb r9,es',ep',hq1,hq2,hq3,hq4,hq5⟩,w9⟩
   exact (I9.unpinned.unpinned).turned (it:=D) (t':=_) (h':=h') (fun b o hb e=>sb.extBut b o hb e) k3 hDC (.inl (by simp)) (fun x c e=>Nat.ne_of_lt (Nat.lt_of_lt_of_le (cells x c e) hD)) (fun p hp=>Nat.ne_of_lt (Nat.lt_of_lt_of_le (pinsz p hp) hD))
theorem r6 {tg:Expr} {pos:Pos} {kx vx iter:Expr} {ifs:List Expr} {g:TG} {tt:TT} {tk tv:TE} {E:VS7} {Q:VK} {RR:Value -> Addr -> Result -> Shared -> Prop}
  (hu:X.A.units + 1 < cLine) (I:Inv X pins σ H2 s₂) (hcalm:X.calm = true) (T:Turn X.prog X.w X.K tg J fp it tn) (st:tn 0 s₂.heap) (f2:∀ b ∈ fp,FpOk X pins H2 b)
  (S:CSc X scope N' sub) (hcl1:∀ x c,cl.lookup x = some c -> X.env.cells.lookup x = some c) (hcl2:∀ y ∈ scope.names,y.2 = .free -> ∃ c,cl.lookup y.1 = some c)
  (hg:∀ C D fp s H,PG (cxC X N' scope cl C D fp s H) tg g) (ht:∀ C D fp s H,PIfs (cxC X N' scope cl C D fp s H) ifs tt) (hk:∀ C D fp s H,PE (cxC X N' scope cl C D fp s H) kx tk) (he:∀ C D fp s H,PE (cxC X N' scope cl C D fp s H) vx tv)
  (hW:Z8 J (capt sub σ) H2 g tt tk tv Q)
  (hRR:∀ (D C:Addr) (oC:Obj) (m:Str -> Option Value) (s':Shared) (Hf:Hp),Inv X (pins ++ [(C,oC)]) σ Hf s' -> s'.heap.Ns C m -> FpOk X pins Hf C -> Q (.ref D) Hf -> RR (.ref D) C (.ok .next) s') :
  wpAny (model X.prog X.w) X.A newDict (fun acc s₃=>wpAny (model X.prog X.w) X.A (newFunctionEnv scope X.env.globals cl [] X.env.qual none .none (some X.env)) (fun cenv s₄ =>
   codeAny (model X.prog X.w) X.A (.compStart (.DictComp kx vx [⟨tg,iter,ifs,0⟩] scope pos) 0 (.ref it) acc { cenv with scope:=relabel scope X.env }) (RR acc cenv.locals) s₄) E s₃) E s₂:=by
 obtain ⟨W,⟨m0,w0⟩,turn⟩:=hW
 refine wpAny_newObj_type (wpAny_newFunctionEnv S.nocell (by intro y hy; simp at hy) (fun h₁ hns₁ hsb₁=>?_) S.kind)
 dsimp only at hns₁ hsb₁ ⊢
 have hC:(s₂.heap.push { cls:=.type "dict",dict:=none,data:=.dict #[] }).objs.size = s₂.heap.objs.size + 1:=Heap.size_push ..
 rw [hC] at hns₁ hsb₁ ⊢
 have hk1:∀ b o,(s₂.heap.push { cls:=.type "dict",dict:=none,data:=.dict #[] }).get? b = some o -> h₁.get? b = some o:=fun b o e =>
  hsb₁.extBut b o (by have:=Heap.lt_size e; rw [hC] at this; exact Nat.ne_of_lt this) (Heap.get?_push_of_some _ e)
 have hfp:∀ b ∈ fp,b < s₂.heap.objs.size:=fun b hb=>by
  obtain ⟨o,e,_⟩:=T.obj _ _ st b hb
  exact Heap.lt_size e
 have I0:=wQ (tk:=s₂.toks + ([]:List (Str × Value)).length) I S hcl1 hcl2 f2 hfp hns₁ hk1
 have hD0:h₁.get? s₂.heap.objs.size = some { cls:=.type "dict",data:=.dict #[] }:=hk1 _ _ (Heap.get?_push_size _ rfl)
 obtain ⟨_,hd0,xs0,rel0,o0,es0,ep0,q1,q2,q3,q4,q5⟩:=(jc (P:=X.prog) (w:=X.w) (H:=H2) s₂.heap I.big)
 rw [Heap.get?_push_size _ rfl] at q1
 cases q1
 have loop:codeAny (model X.prog X.w) X.A (.compLoop (.DictComp kx vx [⟨tg,iter,ifs,0⟩] scope pos) 0 (.ref it) (.ref s₂.heap.objs.size) (compEnvC scope cl (s₂.heap.objs.size + 1) X.env)) (RR (.ref s₂.heap.objs.size) (s₂.heap.objs.size + 1)) { s₂ with heap:=h₁,toks:=s₂.toks + ([]:List (Str × Value)).length } :=
  Ya (s₀:={ s₂ with heap:=s₂.heap.push { cls:=.type "dict",dict:=none,data:=.dict #[] } }) (C:=s₂.heap.objs.size + 1) (D:=s₂.heap.objs.size) hu I hcalm T f2 hfp (fun b o e=>Heap.get?_push_of_some _ e) rfl (Nat.le_refl _) (Nat.le_succ _) (Nat.ne_of_lt (Nat.lt_succ_self _)) hcl1 (hg _ _ _ _ _) (ht _ _ _ _ _) (hk _ _ _ _ _) (he _ _ _ _ _) turn hRR m0 _
   ⟨0,[],H2,_,capt sub σ,H2,I0,T.keep _ _ _ st fun b hb o e=>hk1 b o (Heap.get?_push_of_some _ e),fun b hb=>(f2 b hb).1,I.hok.fresh (Nat.le_refl _),⟨Nat.zero_le _,hd0,[],.nil,es0,ep0,hD0,q2,q3,by cases rel0; exact q4,List.nodup_nil⟩,w0⟩
 exact codeAny_compStart_dict loop (T.self _ _ _ _ _ (T.keep _ _ _ st fun b hb o e=>hk1 b o (Heap.get?_push_of_some _ e)) loop)
end
section
variable {X:Cx} {scope:Scope} {N':List Str} {sub:List (Option Nat)} {tg:Expr} {pos:Pos} {kx vx iter:Expr} {ifs:List Expr} {wi:TI} {g:TG} {tt:TT} {tk tv:TE}
theorem Xu (hu:X.A.units + 1 < cLine) (S:CSc X scope N' sub) (hcalm:X.calm = true) (hi:PI X tg iter wi)
  (hg:∀ cl C D fp s H,PG (cxC X N' scope cl C D fp s H) tg g) (ht:∀ cl C D fp s H,PIfs (cxC X N' scope cl C D fp s H) ifs tt) (hk:∀ cl C D fp s H,PE (cxC X N' scope cl C D fp s H) kx tk) (he:∀ cl C D fp s H,PE (cxC X N' scope cl C D fp s H) vx tv)
  (hs:∀ x,foldedSetIterable iter X.env x = pure x:=by intro _; rfl):PE X (.DictComp kx vx [⟨tg,iter,ifs,0⟩] scope pos) (VE wi sub g tt tk tv):=by
 intro pins s σ H Q I h
 obtain ⟨cl,hclos,hcl1,hcl2⟩:=S.clos I
 rw [arm_eval_DictComp]
 refine wpAny_comprehension_free (use:=none) rfl hs hclos S.kind S.names (thn (hi pins s σ H _ I h) fun v s1 h1=>thn h1 fun itv s2 h2=>?_)
 obtain ⟨it,fp,tn,J,H2,e,I2,T,st2,f2,hW⟩:=h2
 subst e
 refine r6 (RR:=fun acc C=>compPost (model X.prog X.w) X.A X.xe none (EP X pins σ Q) acc C) hu I2 hcalm T st2 f2 S hcl1 hcl2 (hg cl) (ht cl) (hk cl) (he cl) hW ?_
 intro D C oC m s' Hf IX hm fpc q
 refine ⟨m,hm,fun h' sb=>⟨.ref D,Hf,?_,rfl,q⟩⟩
 exact (IX.unpinned).turned (it:=C) (t':=s'.toks) (h':=h') (fun b o hb e=>sb.extBut b o hb e) fpc.1 fpc.2.1 fpc.2.2.2.1 fpc.2.2.2.2.1 fpc.2.2.2.2.2
end
def Itd (a:Addr) (o:Obj) (kvs:List (List Key × V)):It :=
 ⟨fun i H=>i < kvs.length /\ H a = some (.frz o (.dT kvs)),fun i H x H'=>H' = H /\ ∃ p b,kvs[i]? = some p /\ x = .ref b /\ H b = some (.tup (p.1.map kV)),fun i H=>i = kvs.length /\ H a = some (.frz o (.dT kvs))⟩
theorem jf {P:Program} {w:World} {H:Hp} {h:Heap} {a:Addr} {o:Obj} {es:Array DictEntry} {ep:Nat} {kvs:List (List Key × V)} (x:z7 P w H h a (.frz o (.dT kvs))) (hd:o.data = .dict es ep) :
  ∃ xs:List (List Key × Addr × Value),KT H kvs xs /\ h.get? a = some o /\ es.toList = xs.map (entryOfKey (tupleKind (z6 P w))):=by
 obtain ⟨g,z,lo,xs,rel,o',es',ep',g',hx,hd',he,nd⟩:=x
 rw [g] at g'
 cases g'
 rw [hd] at hd'
 injection hd' with e1 e2
 subst e1
 exact ⟨xs,rel,g,he⟩
theorem WC {P:Program} {w:World} {K:FG7} {tg:Expr} (a it:Addr) (o:Obj) (es:Array DictEntry) (ep:Nat) (kvs:List (List Key × V)) (hx:o.ExactDict) (hd:o.data = .dict es ep) (hes:es.size = kvs.length) :
  Turn P w K tg (Itd a o kvs) [it] it (fun i h=>h.IsKeyIter it a i es.size ep) where
 mem:=by simp
 obj:=fun i h st b hb=>by
  have e:b = it:=by simpa using hb
  subst e
  obtain ⟨o,e,c,d⟩:=st
  exact ⟨o,e,fun v z=>by rw [d] at z; cases z⟩
 keep:=fun i h h' st k=>st.at fun o e=>k it (by simp) o e
 item:=by
  intro X hP hw hK hc i pins s σ H E I hf st hg
  subst hP hw hK
  obtain ⟨hi,hH⟩:=hg
  obtain ⟨xs,rel,g,he⟩:=jf (I.hok a _ hH) hd
  have hl:kvs.length = xs.length:=Paired.length rel
  obtain ⟨f0,f1,f2,f3,f4,f5⟩:=hf it (by simp)
  refine Xt st ⟨o,g,hx,hd⟩ (by omega) fun h' st' sb=>?_
  have I1:Inv X pins σ H { s with heap:=h' }:=I.turned (t':=s.toks) (fun b o hb e=>(sb.2 b hb).trans e) f0 f1 f3 f4 f5
  obtain ⟨oi,e,c,d⟩:=id st'
  have hy:i < xs.length:=by omega
  have ee:=entry_at he i
  rw [Array.getElem?_eq_getElem (by omega),List.getElem?_eq_getElem hy,Option.map_some] at ee
  have ek:es[i].key = Value.ref xs[i].2.1:=by rw [Option.some.inj ee]; rfl
  obtain ⟨p,hp,hr⟩:∃ p,kvs[i]? = some p /\ H xs[i].2.1 = some (.tup (p.1.map kV)):=by
   have hz:(xs.map fun q=>V.ref q.2.1)[i]? = some (V.ref xs[i].2.1):=by rw [List.getElem?_map,List.getElem?_eq_getElem hy]; rfl
   have hk:=je rel
   have:∀ {zs:List V} {ps:List (List Key × V)} {j:Nat} {b:Addr},AllR (VD H) zs ps -> zs[j]? = some (V.ref b) -> ∃ p,ps[j]? = some p /\ H b = some (.tup (p.1.map kV)):=by
    intro zs
    induction zs with
    | nil=>intro ps j b _ h; cases h
    | cons z zs ih =>
     intro ps j b hA h
     cases ps with
     | nil=>exact hA.elim
     | cons p ps =>
      cases j with
      | zero =>
       obtain ⟨b',e',hb'⟩:=hA.1
       have:z = V.ref b:=Option.some.inj h
       rw [this] at e'
       cases e'
       exact ⟨p,rfl,hb'⟩
      | succ j =>
       obtain ⟨p',h1,h2⟩:=ih (ps:=ps) (j:=j) hA.2 (show zs[j]? = some (V.ref b) from h)
       exact ⟨p',h1,h2⟩
   exact this hk hz
  exact ⟨_,rfl,Ze (s:={ s with heap:=h' }) e c d (by decide) ⟨V.ref xs[i].2.1,H,I1,ek,⟨rfl,p,_,hp,rfl,hr⟩,st',fun b hb=>(hf b hb).1⟩⟩
 done:=by
  intro X hP hw hK hc i pins s σ H E I hf st hg
  subst hP hw hK
  obtain ⟨hi,hH⟩:=hg
  obtain ⟨xs,rel,g,he⟩:=jf (I.hok a _ hH) hd
  obtain ⟨f0,f1,f2,f3,f4,f5⟩:=hf it (by simp)
  have ei:i = es.size:=by omega
  subst ei
  exact WB (I.ok.hd hc) st ⟨o,g,hx,hd⟩ fun h' eb=>⟨rfl,I.turned (t':=s.toks) (fun b o hb e=>eb b o hb e) f0 f1 f3 f4 f5⟩
 self:=fun _ _ _ _ _ st h=>wpAny_pyIter_keyiter st h
section
variable {X:Cx} {tg:Expr}
theorem Grow.frzR {m:List Addr} {H:Hp} {d:Addr} {kvs:List (List Key × V)} {o:Obj} (h:H d = some (.dT kvs)) (hm:d ∈ m):Grow m H (upd H d (.frz o (.dT kvs))) :=
 ⟨fun b u hb q=>by rw [zp (show b ≠ d from fun z=>hb (by rw [z]; exact hm))]; exact q,fun b zs q=>by rw [zp (fun z=>by subst z; rw [h] at q; cases q)]; exact q,fun b u v q=>by rw [zp (fun z=>by subst z; rw [h] at q; cases q)]; exact q⟩
def iDT (tl:TE):TI:=fun σ H R=>tl σ H fun x H1=>∃ a kvs,x = .ref a /\ Rd H1 a (.dT kvs) /\ ∀ o H',H' a = some (.frz o (.dT kvs)) -> Grow [a] H1 H' -> (∀ b,b ≠ a -> H' b = H1 b) -> R (Itd a o kvs) H'
theorem WD {l:Expr} {tl:TE} (hl:PE X l tl):PI X tg l (iDT tl):=by
 intro pins s σ H R I h
 refine thn (hl pins s σ H _ I h) fun v s1 ⟨x,H1,I1,r1,q1⟩=>?_
 obtain ⟨a,kvs,e,hrd,q⟩:=q1
 subst e
 cases r1
 have key:∀ (H2:Hp) (o:Obj),Inv X pins σ H2 s1 -> H2 a = some (.frz o (.dT kvs)) -> R (Itd a o kvs) H2 -> wpAny (model X.prog X.w) X.A (pyIter (.ref a)) (PIE X pins σ tg R) X.xe s1:=by
  intro H2 o I2 hH hR
  obtain ⟨g,z,lo,xs,rel,o',es,ep,g',hx,hd,he,nd⟩:=(show z7 X.prog X.w H2 s1.heap a (.frz o (.dT kvs)) from I2.hok a _ hH)
  rw [g] at g'
  cases g'
  have hl:kvs.length = xs.length:=Paired.length rel
  have hes:es.size = xs.length:=size_of_entries he
  refine Xs lo ⟨o,g,hx,hd⟩ ?_
  refine ⟨s1.heap.objs.size,[s1.heap.objs.size],_,_,H2,rfl,I2.kept (t':=s1.toks) fun b o e=>Heap.get?_push_of_some _ e,WC a _ o es ep kvs hx hd (by omega),⟨_,Heap.get?_push_size _ rfl,rfl,rfl⟩,fun b hb=>?_,hR⟩
  have e:b = s1.heap.objs.size:=by simpa using hb
  subst e
  exact I2.fpOk (Nat.le_refl _) (I2.hok.fresh (Nat.le_refl _))
 rcases hrd with ha | ⟨o,ha⟩
 ·obtain ⟨z,lo,xs,rel,o,es,ep,g,hx,hd,he,nd⟩:=(show z7 X.prog X.w H1 s1.heap a (.dT kvs) from I1.hok a _ ha)
  have I2:Inv X pins σ (upd H1 a (.frz o (.dT kvs))) { s1 with heap:=s1.heap,toks:=s1.toks }:=tw I1 (by rw [ha]; trivial) (Heap.SameBut.refl ..) ⟨o,g⟩ ⟨g,z,lo,xs,?_,o,es,ep,g,hx,hd,he,nd⟩
  ·exact key _ o I2 zd (q o _ zd (Grow.frzR ha (by simp)) fun b hb=>zp hb)
  ·refine KT.keeps rel fun b ys e=>?_
   have:b ≠ a:=fun z=>by rw [z,ha] at e; cases e
   rw [zp this]; exact e
 ·exact key _ o I1 ha (q o _ ha (Grow.refl _ _) fun _ _=>rfl)
end
theorem X1 {a:Addr} {o:Obj} {kvs:List (List Key × V)} {g:TG} {tb:TS} {D:Ends} {σ:L2.St} {H:Hp} (Pv:Nat -> L2.St -> Hp -> Prop) (h0:Pv 0 σ H) (hl:∀ i σ H,i <= kvs.length -> Pv i σ H -> H a = some (.frz o (.dT kvs)))
  (hs:∀ i p b σ H,kvs[i]? = some p -> H b = some (.tup (p.1.map kV)) -> Pv i σ H -> g (.ref b) σ H fun σ2 H2=>tb { D with nx:=Pv (i + 1),ct:=Pv (i + 1),bk:=D.nx } σ2 H2) (hd:∀ σ H,Pv kvs.length σ H -> D.nx σ H) :
  ∃ W:Nat -> Nat -> L2.St -> Hp -> Prop,(∃ m,W 0 m σ H) /\ ∀ i m σ H,W i m σ H →
   ((Itd a o kvs).stop i H /\ D.nx σ H) \/ ((Itd a o kvs).go i H /\ ∃ N:L2.St -> Hp -> Prop,(∀ σ' H',N σ' H' -> ∃ m',m' < m /\ W (i + 1) m' σ' H') /\ ∀ x H',(Itd a o kvs).yld i H x H' -> g x σ H' fun σ2 H2=>tb { D with nx:=N,ct:=N,bk:=D.nx } σ2 H2):=by
 refine ⟨fun i m σ H=>m = kvs.length - i /\ i <= kvs.length /\ Pv i σ H,⟨kvs.length,by simp,Nat.zero_le _,h0⟩,?_⟩
 rintro i m σ H ⟨rfl,hi,p⟩
 have q:=hl i σ H hi p
 by_cases hlt:i < kvs.length
 ·refine .inr ⟨⟨hlt,q⟩,Pv (i + 1),fun σ' H' p'=>⟨kvs.length - (i + 1),by omega,rfl,hlt,p'⟩,fun x H' y=>?_⟩
  obtain ⟨rfl,pk,b,hp,rfl,hb⟩:=y
  exact hs i pk b σ _ hp hb p
 ·have e:i = kvs.length:=by omega
  exact .inl ⟨⟨e,q⟩,hd σ H (e ▸ p)⟩
theorem WE {a:Addr} {o:Obj} {kvs:List (List Key × V)} {g:TG} {tt:TT} {te:TE} {Q:VK} {σ:L2.St} {H:Hp} (Pv:Nat -> List V -> L2.St -> Hp -> Prop) (h0:Pv 0 [] σ H) (hl:∀ i ys σ H,i <= kvs.length -> Pv i ys σ H -> H a = some (.frz o (.dT kvs)))
  (hs:∀ i p b ys σ H,kvs[i]? = some p -> H b = some (.tup (p.1.map kV)) -> Pv i ys σ H -> g (.ref b) σ H fun σ2 H3=>tt σ2 H3 fun t H4=>if t = true then te σ2 H4 fun y H5=>ys.length < sizeLine /\ Pv (i + 1) (ys ++ [y]) σ2 H5 else Pv (i + 1) ys σ2 H4)
  (hd:∀ ys σ H,Pv kvs.length ys σ H -> ∀ l,H l = none -> Q (.ref l) (upd H l (.lst ys))):wt (Itd a o kvs) σ H g tt te Q:=by
 refine ⟨fun i m ys σ H=>m = kvs.length - i /\ i <= kvs.length /\ Pv i ys σ H,⟨kvs.length,by simp,Nat.zero_le _,h0⟩,?_⟩
 rintro i m ys σ H ⟨rfl,hi,p⟩
 have q:=hl i ys σ H hi p
 by_cases hlt:i < kvs.length
 ·refine .inr ⟨⟨hlt,q⟩,Pv (i + 1),fun zs σ' H' p'=>⟨kvs.length - (i + 1),by omega,rfl,hlt,p'⟩,fun x H' y=>?_⟩
  obtain ⟨rfl,pk,b,hp,rfl,hb⟩:=y
  exact hs i pk b ys σ _ hp hb p
 ·have e:i = kvs.length:=by omega
  exact .inl ⟨⟨e,q⟩,hd ys σ H (e ▸ p)⟩
def x0R (k:Nat) (rows:List (List Int)) (s l:Nat):Nat:=wfN k s l (fstI rows s (nN k s l))
def x1R (k:Nat) (rows:List (List Int)) (s l:Nat):Nat:=wfN k s l (1 - fstI rows s (nN k s l))
theorem VF {k s l:Nat} {rows:List (List Int)}:inO k rows s l = [x0R k rows s l,x1R k rows s l]:=rfl
def outR (k s l b:Nat):Nat:=wfN k s l (figI k s ((b % 2 ^ k:Nat):Int))
theorem VG {k s l m:Nat} {w:Int} (k4:k <= 4) (s1:1 <= s) (sk:s <= k) (hl:l < 2 ^ k) (hm:m < 2 ^ k) (hw:w = 0 \/ w = 1) (h:∀ t:Nat,1 <= t -> t <= k -> t ≠ s -> figI k t l = figI k t m):wfN k s l w = wfN k s m w:=by
 have A:=wfF k4 s1 sk hl hw
 have B:=wfF k4 s1 sk hm hw
 refine xz k4 A.lt B.lt fun t t1 tk=>?_
 by_cases c:t = s
 ·rw [c,A.at_,B.at_]
 ·rw [A.off t tk c,B.off t tk c,h t t1 tk c]
theorem WF {k s l m:Nat} (s1:1 <= s) (sk:s <= k) (h:∀ t:Nat,1 <= t -> t <= k -> t ≠ s -> figI k t l = figI k t m):nN k s l = nN k s m:=by
 rw [ZX (e:=m) (x:=m) s1 sk (fun u u1 u2=>h u u1 (by omega) (by omega)) fun u u1 u2=>h u (by omega) u2 (by omega)]
 exact (ZX (e:=m) (x:=m) s1 sk (fun u _ _=>rfl) fun u _ _=>rfl).symm
section
variable {k:Nat} {rows:List (List Int)}
theorem X2 {s l m:Nat} (k4:k <= 4) (hs:zB k rows) (s1:1 <= s) (sk:s <= k) (hl:l < 2 ^ k) (hm:m < 2 ^ k) (h:∀ t:Nat,1 <= t -> t <= k -> t ≠ s -> figI k t l = figI k t m) :
  x0R k rows s l = x0R k rows s m /\ x1R k rows s l = x1R k rows s m:=by
 have e:=WF s1 sk h
 have f:=uh k4 hs s1 sk hm
 unfold x0R x1R
 rw [e]
 exact ⟨VG k4 s1 sk hl hm f h,VG k4 s1 sk hl hm (by omega) h⟩
structure XF (k:Nat) (rows:List (List Int)) (s l:Nat):Prop where
 lt0:x0R k rows s l < 2 ^ k
 lt1:x1R k rows s l < 2 ^ k
 ne:x0R k rows s l ≠ x1R k rows s l
 or:l = x0R k rows s l \/ l = x1R k rows s l
 off0:∀ t:Nat,t <= k -> t ≠ s -> figI k t (x0R k rows s l) = figI k t l
 off1:∀ t:Nat,t <= k -> t ≠ s -> figI k t (x1R k rows s l) = figI k t l
theorem xF {s l:Nat} (k4:k <= 4) (hs:zB k rows) (s1:1 <= s) (sk:s <= k) (hl:l < 2 ^ k):XF k rows s l:=by
 have f:=uh k4 hs s1 sk hl
 have A:=wfF k4 s1 sk hl f
 have B:=wfF k4 s1 sk hl (show 1 - fstI rows s (nN k s l) = 0 \/ 1 - fstI rows s (nN k s l) = 1 by omega)
 have g:=wB (l:=l) k4 sk hl
 refine ⟨A.lt,B.lt,fun e=>?_,?_,A.off,B.off⟩
 ·have e':wfN k s l (fstI rows s (nN k s l)) = wfN k s l (1 - fstI rows s (nN k s l)):=e
  have a:=A.at_
  rw [e',B.at_] at a
  omega
 ·by_cases c:figI k s l = fstI rows s (nN k s l)
  ·refine .inl (xz k4 hl A.lt fun t t1 tk=>?_)
   by_cases d:t = s
   ·rw [d]; exact c.trans A.at_.symm
   ·exact (A.off t tk d).symm
  ·refine .inr (xz k4 hl B.lt fun t t1 tk=>?_)
   by_cases d:t = s
   ·rw [d,show figI k s (x1R k rows s l) = 1 - fstI rows s (nN k s l) from B.at_]; omega
   ·exact (B.off t tk d).symm
theorem zo {b:Nat}:b % 2 ^ k < 2 ^ k:=Nat.mod_lt _ (Nat.two_pow_pos k)
theorem outF {s l b:Nat} (k4:k <= 4) (s1:1 <= s) (sk:s <= k) (hl:l < 2 ^ k):WfF k s l (figI k s ((b % 2 ^ k:Nat):Int)):=wfF k4 s1 sk hl (wB k4 sk zo)
theorem Us {s l b:Nat} (k4:k <= 4) (hs:zB k rows) (s1:1 <= s) (sk:s <= k) (hl:l < 2 ^ k):x0R k rows s (outR k s l b) = x0R k rows s l /\ x1R k rows s (outR k s l b) = x1R k rows s l:=by
 have W:=outF (b:=b) k4 s1 sk hl
 exact X2 k4 hs s1 sk W.lt hl fun t _ tk h=>W.off t tk h
def vX:Option Deed -> Option Deed -> Option Deed
 | some d,some e=>some (ue d e)
 | some d,none=>some d
 | none,o=>o
def lvR (k:Nat) (rows:List (List Int)) (ks:List Ask):Nat -> Nat -> Nat -> Option Deed
 | 0,l,b=>(ks.find? fun a=>decide (a.hand = (l:Int) /\ a.box = (b:Int))).map (·.deed)
 | s + 1,l,b=>if figI k ((s + 1:Nat):Int) l = figI k ((s + 1:Nat):Int) ((b % 2 ^ k:Nat):Int) then vX (lvR k rows ks s (x0R k rows (s + 1) l) b) (lvR k rows ks s (x1R k rows (s + 1) l) b) else none
def arrR (k:Nat) (rows:List (List Int)) (ks:List Ask):Nat -> Nat -> Nat -> List Ask
 | 0,l,b=>ks.filter fun a=>decide (a.hand = (l:Int) /\ a.box = (b:Int))
 | s + 1,l,b=>if figI k ((s + 1:Nat):Int) l = figI k ((s + 1:Nat):Int) ((b % 2 ^ k:Nat):Int) then arrR k rows ks s (x0R k rows (s + 1) l) b ++ arrR k rows ks s (x1R k rows (s + 1) l) b else []
def runR (v:Int) (as:List Ask):Int:=as.foldl (fun v a=>a.deed.mk' v) v
theorem qa {v:Int} {as bs:List Ask}:runR v (as ++ bs) = runR (runR v as) bs:=List.foldl_append
structure RndOk (k m:Nat) (ks:List Ask):Prop where
 nd:(ks.map (·.hand)).Nodup
 hand:∀ a ∈ ks,0 <= a.hand /\ a.hand < 2 ^ k
 box:∀ a ∈ ks,0 <= a.box /\ a.box < m
 ok:∀ a ∈ ks,a.deed.Ok
theorem X3 {ks:List Ask} {l b:Int} (nd:(ks.map (·.hand)).Nodup):(ks.filter fun a=>decide (a.hand = l /\ a.box = b)) = ((ks.find? fun a=>decide (a.hand = l /\ a.box = b)).toList):=by
 induction ks with
 | nil=>rfl
 | cons a ks ih =>
  rw [List.map_cons,List.nodup_cons] at nd
  rw [List.filter_cons,List.find?_cons]
  by_cases c:a.hand = l /\ a.box = b
  ·rw [decide_eq_true c]
   show a :: ks.filter _ = [a]
   congr 1
   rw [List.filter_eq_nil_iff]
   intro x hx hd
   have:=of_decide_eq_true hd
   exact nd.1 (List.mem_map.mpr ⟨x,hx,by rw [this.1,c.1]⟩)
  ·rw [decide_eq_false c]
   exact ih nd.2
structure LvF (k:Nat) (rows:List (List Int)) (ks:List Ask) (s l b:Nat):Prop where
 non:lvR k rows ks s l b = none ↔ arrR k rows ks s l b = []
 run:∀ d,lvR k rows ks s l b = some d -> d.Ok /\ ∀ v,d.mk' v = runR v (arrR k rows ks s l b)
theorem lvF {m:Nat} {ks:List Ask} (R:RndOk k m ks):∀ s l b,LvF k rows ks s l b
 | 0,l,b=>by
  have e:=X3 (l:=l) (b:=b) R.nd
  have e1:arrR k rows ks 0 l b = (ks.find? fun a=>decide (a.hand = (l:Int) /\ a.box = (b:Int))).toList:=e
  have e2:lvR k rows ks 0 l b = (ks.find? fun a=>decide (a.hand = (l:Int) /\ a.box = (b:Int))).map (·.deed):=rfl
  cases h:ks.find? fun a=>decide (a.hand = (l:Int) /\ a.box = (b:Int)) with
  | none =>
   rw [h] at e1 e2
   exact ⟨by rw [e1,e2]; exact ⟨fun _=>rfl,fun _=>rfl⟩,fun d hd=>by rw [e2] at hd; cases hd⟩
  | some a =>
   rw [h] at e1 e2
   refine ⟨by rw [e1,e2]; exact ⟨(fun z=>nomatch z),(fun z=>nomatch z)⟩,fun d hd=>?_⟩
   rw [e2] at hd
   cases Option.some.inj hd
   exact ⟨R.ok a (List.mem_of_find?_eq_some h),fun v=>by rw [e1]; rfl⟩
 | s + 1,l,b=>by
  have A:=lvF R s (x0R k rows (s + 1) l) b
  have B:=lvF R s (x1R k rows (s + 1) l) b
  by_cases c:figI k ((s + 1:Nat):Int) l = figI k ((s + 1:Nat):Int) ((b % 2 ^ k:Nat):Int)
  ·have e1:arrR k rows ks (s + 1) l b = arrR k rows ks s (x0R k rows (s + 1) l) b ++ arrR k rows ks s (x1R k rows (s + 1) l) b:=if_pos c
   have e2:lvR k rows ks (s + 1) l b = vX (lvR k rows ks s (x0R k rows (s + 1) l) b) (lvR k rows ks s (x1R k rows (s + 1) l) b):=if_pos c
   cases h0:lvR k rows ks s (x0R k rows (s + 1) l) b with
   | none =>
    have a0:=A.non.mp h0
    rw [h0] at e2
    rw [a0,List.nil_append] at e1
    exact ⟨by rw [e1,e2]; exact B.non,fun d hd=>by rw [e2] at hd; rw [e1]; exact B.run d hd⟩
   | some d0 =>
    have r0:=A.run d0 h0
    have n0:arrR k rows ks s (x0R k rows (s + 1) l) b ≠ []:=fun z=>by rw [A.non.mpr z] at h0; cases h0
    cases h1:lvR k rows ks s (x1R k rows (s + 1) l) b with
    | none =>
     have a1:=B.non.mp h1
     rw [h0,h1] at e2
     rw [a1,List.append_nil] at e1
     refine ⟨by rw [e1,e2]; exact ⟨(fun z=>nomatch z),(fun z=>absurd z n0)⟩,fun d hd=>?_⟩
     rw [e2] at hd
     cases Option.some.inj hd
     rw [e1]; exact r0
    | some d1 =>
     have r1:=B.run d1 h1
     rw [h0,h1] at e2
     refine ⟨by rw [e1,e2]; exact ⟨(fun z=>nomatch z),fun z=>absurd (List.append_eq_nil_iff.mp z).1 n0⟩,fun d hd=>?_⟩
     rw [e2] at hd
     cases Option.some.inj hd
     refine ⟨Xa r0.1 r1.1,fun v=>?_⟩
     rw [e1,qa,Xb r0.1 r1.1,r1.2,r0.2]
  ·have e1:arrR k rows ks (s + 1) l b = []:=if_neg c
   have e2:lvR k rows ks (s + 1) l b = none:=if_neg c
   exact ⟨by rw [e1,e2]; exact ⟨fun _=>rfl,fun _=>rfl⟩,fun d hd=>by rw [e2] at hd; cases hd⟩
theorem qb {ks:List Ask} (k4:k <= 4) (hs:zB k rows):∀ {s l b:Nat},s <= k -> l < 2 ^ k -> arrR k rows ks s l b ≠ [] -> ∀ t:Nat,1 <= t -> t <= s -> figI k t l = figI k t ((b % 2 ^ k:Nat):Int)
 | 0,l,b,_,_,_,t,t1,t2=>by omega
 | s + 1,l,b,sk,hl,h,t,t1,t2=>by
  by_cases c:figI k ((s + 1:Nat):Int) l = figI k ((s + 1:Nat):Int) ((b % 2 ^ k:Nat):Int)
  ·by_cases d:t = s + 1
   ·rw [d]; exact c
   ·have X:=xF k4 hs (show 1 <= s + 1 by omega) sk hl
    have e1:arrR k rows ks (s + 1) l b = arrR k rows ks s (x0R k rows (s + 1) l) b ++ arrR k rows ks s (x1R k rows (s + 1) l) b:=if_pos c
    rw [e1] at h
    by_cases n0:arrR k rows ks s (x0R k rows (s + 1) l) b = []
    ·have n1:arrR k rows ks s (x1R k rows (s + 1) l) b ≠ []:=fun z=>h (by rw [n0,z]; rfl)
     have:=qb k4 hs (show s <= k by omega) X.lt1 n1 t t1 (by omega)
     rw [X.off1 t (by omega) d] at this; exact this
    ·have:=qb k4 hs (show s <= k by omega) X.lt0 n0 t t1 (by omega)
     rw [X.off0 t (by omega) d] at this; exact this
  ·exact absurd (if_neg c) h
theorem X4 {ks:List Ask} (k4:k <= 4) (hs:zB k rows) {s l b:Nat} (sk:s + 1 <= k) (hl:l < 2 ^ k):lvR k rows ks (s + 1) (outR k (s + 1) l b) b = vX (lvR k rows ks s (x0R k rows (s + 1) l) b) (lvR k rows ks s (x1R k rows (s + 1) l) b):=by
 have W:=outF (b:=b) k4 (show 1 <= s + 1 by omega) sk hl
 have X:=Us (b:=b) k4 hs (show 1 <= s + 1 by omega) sk hl
 show (if figI k ((s + 1:Nat):Int) (outR k (s + 1) l b) = _ then _ else _) = _
 rw [if_pos (show figI k ((s + 1:Nat):Int) (outR k (s + 1) l b) = figI k ((s + 1:Nat):Int) ((b % 2 ^ k:Nat):Int) from W.at_),X.1,X.2]
theorem VH {ks:List Ask} (k4:k <= 4) (hs:zB k rows) {s l b:Nat} (sk:s + 1 <= k) (hl:l < 2 ^ k) (h:lvR k rows ks (s + 1) l b ≠ none):∃ x,x < 2 ^ k /\ outR k (s + 1) x b = l /\ lvR k rows ks s x b ≠ none:=by
 by_cases c:figI k ((s + 1:Nat):Int) l = figI k ((s + 1:Nat):Int) ((b % 2 ^ k:Nat):Int)
 ·have e2:lvR k rows ks (s + 1) l b = vX (lvR k rows ks s (x0R k rows (s + 1) l) b) (lvR k rows ks s (x1R k rows (s + 1) l) b):=if_pos c
  have X:=xF k4 hs (show 1 <= s + 1 by omega) sk hl
  have back:∀ x:Nat,x < 2 ^ k -> (∀ t:Nat,t <= k -> t ≠ s + 1 -> figI k t x = figI k t l) -> outR k (s + 1) x b = l:=by
   intro x hx ho
   have W:=outF (b:=b) k4 (show 1 <= s + 1 by omega) sk hx
   refine xz k4 W.lt hl fun t t1 tk=>?_
   by_cases d:t = s + 1
   ·rw [d]; exact W.at_.trans c.symm
   ·exact (W.off t tk d).trans (ho t tk d)
  cases h0:lvR k rows ks s (x0R k rows (s + 1) l) b with
  | some d=>exact ⟨_,X.lt0,back _ X.lt0 X.off0,by rw [h0]; exact fun z=>nomatch z⟩
  | none =>
   refine ⟨_,X.lt1,back _ X.lt1 X.off1,fun z=>h ?_⟩
   rw [e2,h0,z]; rfl
 ·exact absurd (if_neg c) h
def stvR (k:Nat) (rows:List (List Int)) (ks:List Ask) (bd:Nat -> Int):Nat -> Nat -> Nat -> Int
 | 0,_,b=>bd b
 | n + 1,l,b=>match lvR k rows ks (k - n - 1) (x0R k rows (k - n) l) b,lvR k rows ks (k - n - 1) (x1R k rows (k - n) l) b with
  | some d,some _=>if l = x1R k rows (k - n) l then d.mk' (stvR k rows ks bd n (outR k (k - n) l b) b) else stvR k rows ks bd n (outR k (k - n) l b) b
  | _,_=>stvR k rows ks bd n (outR k (k - n) l b) b
theorem xv {α β:Type} {f g:α -> List β}:∀ {xs:List α},(∀ x ∈ xs,f x = g x) -> xs.flatMap f = xs.flatMap g
 | [],_=>rfl
 | x :: xs,h=>by rw [List.flatMap_cons,List.flatMap_cons,h x (by simp),xv fun y hy=>h y (by simp [hy])]
theorem qc {ks:List Ask} (k4:k <= 4) (hs:zB k rows) {b:Nat}:∀ n,n <= k -> arrR k rows ks k (b % 2 ^ k) b = (ordL k rows (b % 2 ^ k) n).flatMap fun l=>arrR k rows ks (k - n) l b
 | 0,_=>by show _ = ([b % 2 ^ k]:List Nat).flatMap _; simp
 | n + 1,hn=>by
  rw [qc k4 hs n (by omega)]
  show _ = ((ordL k rows (b % 2 ^ k) n).flatMap (inO k rows (k - n))).flatMap _
  rw [List.flatMap_assoc]
  have F:=ordF (rows:=rows) k4 hs (zo (k:=k) (b:=b)) n (by omega)
  refine xv fun l hl=>?_
  obtain ⟨h1,h2⟩:=F.mem l hl
  have es:k - n = k - (n + 1) + 1:=by omega
  show _ = [x0R k rows (k - n) l,x1R k rows (k - n) l].flatMap _
  simp only [List.flatMap_cons,List.flatMap_nil,List.append_nil]
  have c:figI k ((k - (n + 1) + 1:Nat):Int) l = figI k ((k - (n + 1) + 1:Nat):Int) ((b % 2 ^ k:Nat):Int):=h2 _ (by omega) (by omega)
  have e:arrR k rows ks (k - (n + 1) + 1) l b = arrR k rows ks (k - (n + 1)) (x0R k rows (k - (n + 1) + 1) l) b ++ arrR k rows ks (k - (n + 1)) (x1R k rows (k - (n + 1) + 1) l) b:=if_pos c
  rw [← es] at e
  exact e
end
section
variable {prog:Program} {w:World} {A:Around} {E:VS7} {s:Shared} {es:Array DictEntry} {d it r:Addr} {ep i:Nat} {ok ov:Value}
theorem Xv {Q:VS7} (lo:(d == sysModules) = false) (hm:wD es d ep s.heap) (q:Q (.ref s.heap.objs.size) { s with heap:=s.heap.push { cls:=.type "dict_items",data:=.fields #[.ref d] } }) :
  wpAny (model prog w) A (call (.builtin "dict.items") [.ref d]) Q E s:=by
 have hT:s.TypeIs (.ref d) "dict":=hm.typeIs
 refine wpAny_call_entry PySem.F.slot_dict_items hT PySem.F.entry_dict_items ?_ (PySem.F.args_dict_items_1 _)
 unfold Builtin.«dict.items»
 refine wpAny_bind ?_
 unfold Builtin.Dict.noArgs
 refine wpAny_bind (wpAny_notOrdered_dict hT (show wpAny _ _ (pure d) _ _ s from wpAny_pure ?_))
 show wpAny _ _ (Builtin.Dict.showsAll d >>= _) _ _ s
 unfold Builtin.Dict.showsAll
 rw [if_neg (by rw [lo]; exact Bool.false_ne_true)]
 exact wpAny_bind (wpAny_pure (wpAny_bind (wpAny_newObj_type (wpAny_pure ⟨_,rfl,q⟩))))
theorem Xw {Q:VS7} (hv:s.heap.IsItemsView r d) (hm:wD es d ep s.heap)
  (hQ:Q (.ref s.heap.objs.size) { s with heap:=s.heap.push { cls:=.type "dict_itemiterator",data:=.fields #[.none,.bool false,.ref d,.int 0 0,.int es.size 0,.int ep 0,.none,.none] } }) :
  wpAny (model prog w) A (pyIter (.ref r)) Q E s:=by
 obtain ⟨o1,h1,c1,d1⟩:=id hv
 obtain ⟨o,ho,hc,hdat⟩:=id hm
 refine wpAny_pyIter_slot hv.typeIs PySem.F.slot_dict_items_iter (wpAny_call_entry PySem.F.slot_dict_items_iter hv.typeIs PySem.F.entry_dict_items_iter ?_ (PySem.F.args_dict_items_iter_1 _))
 unfold Builtin.«dict_items.__iter__»
 refine wpAny_bind (wpAny_pure (wpAny_bind ?_))
 unfold Builtin.Dict_items.dictOf
 refine wpAny_bind (wpAny_field h1 d1 (x:=.ref d) rfl (wpAny_pure (wpAny_bind ?_)))
 unfold Builtin.Dict_items.newIterator
 refine wpAny_bind (wpAny_dictEntries ho hdat (wpAny_bind (wpAny_dictEpoch ho hdat ?_)))
 have own:Builtin.Dict_items.ownsTuple "dict_itemiterator" = true:=by decide
 simp only [own,if_true]
 refine wpAny_newObj_type (wpAny_pure ⟨_,rfl,"dict_itemiterator",_,⟨_,Heap.get?_push_size _ rfl,rfl⟩,PySem.F.slot_dict_itemiterator_next.lookup,?_⟩)
  (by simp only [sizeOk,Builtin.Dict_items.ownedTupleFields,List.size_toArray,List.length_append,List.length_cons,List.length_nil,sizeLine_eq]; omega)
 simpa [rawInt,Builtin.Dict_items.ownedTupleFields] using hQ
theorem Xx {Q:Option Value -> Shared -> Prop} (hit:IsItemIter s.heap it d i es.size ep ok ov) (hm:wD es d ep s.heap) (hlt:i < es.size)
  (hQ:∀ h',IsItemIterOut h' it d (i + 1) es.size ep es[i].key es[i].val s.heap.objs.size -> h'.get? s.heap.objs.size = some { cls:=.type "tuple",data:=.seq #[es[i].key,es[i].val] } →
   (∀ b o,b ≠ it -> s.heap.get? b = some o -> h'.get? b = some o) -> Q (some (.ref s.heap.objs.size)) { s with heap:=h' }) :
  wpAny (model prog w) A (pyNext (.ref it)) Q E s:=by
 obtain ⟨hp,g,dr,tk,os⟩:=s
 obtain ⟨od,hod,hcd,hdd⟩:=id hm
 have hT:Shared.TypeIs ⟨hp,g,dr,tk,os⟩ (.ref it) "dict_itemiterator":=⟨_,hit,rfl⟩
 unfold pyNext
 refine wpAny_bind (wpAny_attempt (wpAny_callSpecial?_slot (name:=Str.ofString "__next__") hT PySem.F.slot_dict_itemiterator_next
  (wpAny_call_entry PySem.F.slot_dict_itemiterator_next hT PySem.F.entry_dict_itemiterator_next ?_ (PySem.F.args_dict_itemiterator_next_1 _))))
 refine wpAny_bind (wpAny_pure (wpAny_bind (wpAny_bind ?_)))
 first | refine wpAny_bind (wpAny_typeNameOfWhole_itemiter hT (wpAny_pure ?_)) | refine wpAny_bind (wpAny_typeNameOf_itemiter hT (wpAny_pure ?_))
 refine wpAny_bind (wpAny_fieldsOf hit rfl ?_)
 have own:Builtin.Dict_items.ownsTuple "dict_itemiterator" = true:=by decide
 simp only [own,if_true]
 show wpAny _ _ (if (Value.ref d == Value.none) = true then _ else _) _ _ _
 rw [if_neg (show ¬ ((Value.ref d == Value.none) = true) from Bool.false_ne_true)]
 refine wpAny_bind (wpAny_pure (wpAny_bind (wpAny_dictEntries hod hdd ?_)))
 rw [if_neg (by simp)]
 refine wpAny_bind (wpAny_pure (wpAny_bind (wpAny_dictEpoch hod hdd ?_)))
 rw [if_neg (by simp)]
 refine wpAny_pure ?_
 simp only [show ¬ ((i:Int) < 0) from by omega,if_false,Int.toNat_natCast,Array.getElem?_eq_getElem hlt]
 refine wpAny_bind ?_
 first | refine wpAny_bind (wpAny_typeNameOfWhole_itemiter hT (wpAny_pure ?_)) | refine wpAny_bind (wpAny_typeNameOf_itemiter hT (wpAny_pure ?_))
 refine wpAny_bind (wpAny_isOneOf_itemiter hT ?_)
 show wpAny _ _ (setField (.ref it) 3 (rawInt ((i:Int) + 1)) >>= _) _ _ ⟨hp,g,dr,tk,os⟩
 refine wpAny_bind (wpAny_setField_rec hit (by simp) fun h1 he1 hs1=>?_)
 replace hs1:Heap.SameBut it hp h1:=hs1
 replace he1:IsItemIter h1 it d (i + 1) es.size ep ok ov:=by
  have e:((i + 1:Nat):Int) = (i:Int) + 1:=by omega
  unfold IsItemIter; rw [e]; simpa [rawInt] using he1
 have hT1:Shared.TypeIs ⟨h1,g,dr,tk,os⟩ (.ref it) "dict_itemiterator":=⟨_,he1,rfl⟩
 refine wpAny_bind (wpAny_holding (wpAny_bind (wpAny_isOneOf_itemiter hT1 (wpAny_bind (wpAny_isOneOf_itemiter hT1 ?_)))))
 show wpAny _ _ (Builtin.Dict_items.pairFromOwner (.ref it) 6 es[i].key es[i].val) _ _ ⟨h1,g,dr,tk,os⟩
 unfold Builtin.Dict_items.pairFromOwner
 refine wpAny_bind (wpAny_newTuple ?_)
 have he2:IsItemIter (h1.push { cls:=.type "tuple",data:=.seq #[es[i].key,es[i].val] }) it d (i + 1) es.size ep ok ov:=Heap.get?_push_of_some _ he1
 generalize hh2:h1.push { cls:=.type "tuple",data:=.seq #[es[i].key,es[i].val] } = h2 at he2
 have hz1:h1.objs.size = hp.objs.size:=hs1.1
 have hil:it < hp.objs.size:=Heap.lt_size hit
 have ht2:h2.get? hp.objs.size = some { cls:=.type "tuple",data:=.seq #[es[i].key,es[i].val] }:=by rw [← hh2,← hz1]; exact Heap.get?_push_size _ rfl
 have hk2:∀ b o,b ≠ it -> hp.get? b = some o -> h2.get? b = some o:=fun b o hb e=>by rw [← hh2]; exact Heap.get?_push_of_some _ (hs1.extBut b o hb e)
 show wpAny _ _ (Builtin.Dict_items.ownedTupleIsFree (.ref it) >>= _) _ _ ⟨h2,g,dr,tk,os⟩
 rw [hz1]
 clear hh2 he1 hs1 hT1 hz1 h1
 refine wpAny_bind ?_
 unfold Builtin.Dict_items.ownedTupleIsFree
 refine wpAny_bind (wpAny_field he2 rfl (x:=.none) rfl (wpAny_pure ?_))
 simp only [if_true]
 refine wpAny_bind (wpAny_field he2 rfl (x:=ok) rfl (wpAny_bind (wpAny_field he2 rfl (x:=ov) rfl ?_)))
 refine wpAny_bind (wpAny_setField_rec he2 (by simp) fun h3 he3 hs3=>?_)
 replace hs3:Heap.SameBut it h2 h3:=hs3
 replace he3:IsItemIter h3 it d (i + 1) es.size ep es[i].key ov:=he3
 refine wpAny_bind (wpAny_setField_rec he3 (by simp) fun h4 he4 hs4=>?_)
 replace hs4:Heap.SameBut it h3 h4:=hs4
 replace he4:IsItemIter h4 it d (i + 1) es.size ep es[i].key es[i].val:=he4
 refine wpAny_bind (wpAny_setField_rec he4 (by simp) fun h5 he5 hs5=>?_)
 replace hs5:Heap.SameBut it h4 h5:=hs5
 replace he5:IsItemIterOut h5 it d (i + 1) es.size ep es[i].key es[i].val hp.objs.size:=he5
 refine wpAny_bind (wpAny_setField_rec he5 (by simp) fun h6 he6 hs6=>?_)
 replace hs6:Heap.SameBut it h5 h6:=hs6
 replace he6:IsItemIterOut h6 it d (i + 1) es.size ep es[i].key es[i].val hp.objs.size:=he6
 have keep:∀ b o,b ≠ it -> h2.get? b = some o -> h6.get? b = some o:=fun b o hb e=>hs6.extBut b o hb (hs5.extBut b o hb (hs4.extBut b o hb (hs3.extBut b o hb e)))
 exact wpAny_bind (wpAny_letGo (wpAny_pure (wpAny_pure ⟨_,rfl,wpAny_pure (hQ h6 he6 (keep _ _ (Nat.ne_of_gt hil) ht2) fun b o hb e=>keep b o hb (hk2 b o hb e))⟩)))
theorem WG {Q:Option Value -> Shared -> Prop} (hh:A.handled = none) (hit:IsItemIter s.heap it d es.size es.size ep ok ov) (hm:wD es d ep s.heap)
  (hQ:∀ h',Heap.ExtBut it s.heap h' -> Q none { s with heap:=h' }):wpAny (model prog w) A (pyNext (.ref it)) Q E s:=by
 obtain ⟨od,hod,hcd,hdd⟩:=id hm
 have hT:s.TypeIs (.ref it) "dict_itemiterator":=⟨_,hit,rfl⟩
 unfold pyNext
 refine wpAny_bind (wpAny_attempt (wpAny_callSpecial?_slot (name:=Str.ofString "__next__") hT PySem.F.slot_dict_itemiterator_next
  (wpAny_call_entry PySem.F.slot_dict_itemiterator_next hT PySem.F.entry_dict_itemiterator_next ?_ (PySem.F.args_dict_itemiterator_next_1 _))))
 refine wpAny_bind (wpAny_pure (wpAny_bind (wpAny_bind ?_)))
 first | refine wpAny_bind (wpAny_typeNameOfWhole_itemiter hT (wpAny_pure ?_)) | refine wpAny_bind (wpAny_typeNameOf_itemiter hT (wpAny_pure ?_))
 refine wpAny_bind (wpAny_fieldsOf hit rfl ?_)
 have own:Builtin.Dict_items.ownsTuple "dict_itemiterator" = true:=by decide
 simp only [own,if_true]
 show wpAny _ _ (if (Value.ref d == Value.none) = true then _ else _) _ _ s
 rw [if_neg (show ¬ ((Value.ref d == Value.none) = true) from Bool.false_ne_true)]
 refine wpAny_bind (wpAny_pure (wpAny_bind (wpAny_dictEntries hod hdd ?_)))
 rw [if_neg (by simp)]
 refine wpAny_bind (wpAny_pure (wpAny_bind (wpAny_dictEpoch hod hdd ?_)))
 rw [if_neg (by simp)]
 refine wpAny_pure ?_
 simp only [show ¬ ((es.size:Int) < 0) from by omega,if_false,Int.toNat_natCast,Array.getElem?_eq_none (Nat.le_refl es.size)]
 refine wpAny_bind ?_
 first | refine wpAny_bind (wpAny_typeNameOfWhole_itemiter hT (wpAny_pure ?_)) | refine wpAny_bind (wpAny_typeNameOf_itemiter hT (wpAny_pure ?_))
 show wpAny _ _ (setField (.ref it) 2 .none >>= _) _ _ s
 refine wpAny_bind (wpAny_setField hit rfl (by simp) ?_)
 show wpAny _ _ (newExc (.type "StopIteration") [] >>= _) _ _ _
 refine wpAny_bind ?_
 simp only [newExc,newTuple]
 refine wpAny_bind (wpAny_newObj_type ?_ (by size_fits))
 refine wpAny_bind (m:=firstArgMember _ _) (wpAny_of_eq (a:=Value.none) (by first | rfl | (simp only [firstArgMember]; rfl)) ?_)
 refine wpAny_newObj_type ?_ (by size_fits)
 simp only [raiseNew]
 refine wpAny_bind (wpAny_handled ?_)
 rw [show A.in1.handled = none from hh]
 refine wpAny_bind (wpAny_pure (wpAny_throw ?_))
 refine wpAny_bind (wpAny_isInstance (T:="StopIteration") (b:=true) ⟨_,Heap.get?_push_size _ rfl,rfl⟩ isSubtype_stop ?_)
 exact wpAny_pure (hQ _ (((Heap.SameBut.update ..).extBut.push _).push _))
end
theorem jM:entryFor table "dict_itemiterator.__iter__" = some Builtin.«dict_keyiterator.__iter__»:=entryFor_alias (id':="dict_keyiterator.__iter__") (by kernel_rfl) rfl (by decide +kernel) (by kernel_rfl)
theorem sO {α β:Type} {R:α -> β -> Prop}:∀ {as:List α} {bs:List β} {i:Nat} {b:β},Paired R as bs -> bs[i]? = some b -> ∃ a,as[i]? = some a /\ R a b
 | _,_,0,_,.cons r _,e=>⟨_,rfl,by cases Option.some.inj e; exact r⟩
 | _,_,i + 1,_,.cons _ t,e=>sO (i:=i) t e
def Iti (a:Addr) (o:Obj) (kvs:List (List Key × V)):It :=
 ⟨fun i H=>i < kvs.length /\ H a = some (.frz o (.dT kvs)),fun i H x H'=>∃ T b p,H T = none /\ x = .ref T /\ kvs[i]? = some p /\ H b = some (.tup (p.1.map kV)) /\ H' = upd H T (.tup [.ref b,p.2]),fun i H=>i = kvs.length /\ H a = some (.frz o (.dT kvs))⟩
theorem Xy {P:Program} {w:World} {K:FG7} {elts:List Expr} {kt:Nat} {pt:Pos} (a it:Addr) (o:Obj) (es:Array DictEntry) (ep:Nat) (kvs:List (List Key × V)) (hx:o.ExactDict) (hd:o.data = .dict es ep) (hes:es.size = kvs.length) :
  Turn P w K (.Tuple elts kt pt) (Iti a o kvs) [it] it (fun i h=>∃ ok ov,IsItemIter h it a i es.size ep ok ov) where
 mem:=by simp
 obj:=fun i h st b hb=>by
  have e:b = it:=by simpa using hb
  subst e
  obtain ⟨ok,ov,st⟩:=st
  exact ⟨_,st,fun v z=>by cases z⟩
 keep:=fun i h h' st k=>by
  obtain ⟨ok,ov,st⟩:=st
  exact ⟨ok,ov,k it (by simp) _ st⟩
 item:=by
  intro X hP hw hK hc i pins s σ H E I hf st hg
  subst hP hw hK
  obtain ⟨ok,ov,st⟩:=st
  obtain ⟨hi,hH⟩:=hg
  obtain ⟨xs,rel,g,he⟩:=jf (I.hok a _ hH) hd
  have hl:kvs.length = xs.length:=Paired.length rel
  have hy:i < xs.length:=by omega
  have hie:i < es.size:=by omega
  have ee:=entry_at he i
  rw [Array.getElem?_eq_getElem hie,List.getElem?_eq_getElem hy,Option.map_some] at ee
  have ek:es[i].key = Value.ref xs[i].2.1:=by rw [Option.some.inj ee]; rfl
  have ev:es[i].val = xs[i].2.2:=by rw [Option.some.inj ee]; rfl
  obtain ⟨p,hp,r1,r2,r3⟩:=sO rel (List.getElem?_eq_getElem hy)
  refine Xx st ⟨o,g,hx,hd⟩ hie fun h1 hout hT hk=>?_
  refine ⟨_,rfl,wpAny_letOwnedTupleGo_items (s:={ s with heap:=h1 }) hout fun h2 he2 hs2=>?_⟩
  have eT:s.heap.objs.size ≠ it:=Nat.ne_of_gt (Heap.lt_size st)
  have hk2:∀ b o,b ∉ [it] -> s.heap.get? b = some o -> h2.get? b = some o:=fun b o hb q=>by
   have n1:b ≠ it:=fun z=>hb (by simp [z])
   exact (hs2.2 b n1).trans (hk b o n1 q)
  have hT2:h2.get? s.heap.objs.size = some { cls:=.type "tuple",data:=.seq #[es[i].key,es[i].val] }:=(hs2.2 _ eT).trans hT
  have hn:H s.heap.objs.size = none:=I.hok.fresh (Nat.le_refl _)
  have I2:Inv X pins σ (upd H s.heap.objs.size (.tup [.ref xs[i].2.1,p.2])) { s with heap:=h2,toks:=s.toks }:=tf (s:=s) I hk2 hf (Nat.le_refl _) ⟨by show 2 <= sizeLine; decide,[es[i].key,es[i].val],.cons ek (.cons (by rw [ev]; exact r3) .nil),_,hT2,rfl,0,rfl⟩
  refine ⟨.ref s.heap.objs.size,_,I2,rfl,⟨_,_,p,hn,rfl,hp,r2,rfl⟩,⟨_,_,he2⟩,fun b hb=>?_⟩
  have e:b = it:=by simpa using hb
  subst e
  rw [zp (Ne.symm eT)]
  exact (hf b (by simp)).1
 done:=by
  intro X hP hw hK hc i pins s σ H E I hf st hg
  subst hP hw hK
  obtain ⟨ok,ov,st⟩:=st
  obtain ⟨hi,hH⟩:=hg
  obtain ⟨xs,rel,g,he⟩:=jf (I.hok a _ hH) hd
  have ei:i = es.size:=by omega
  subst ei
  exact WG (I.ok.hd hc) st ⟨o,g,hx,hd⟩ fun h' eb=>⟨rfl,u7 (fp:=[it]) (t':=s.toks) I (fun b o hb q=>eb b o (fun z=>hb (by simp [z])) q) hf⟩
 self:=fun _ _ _ _ _ st h=>by
  obtain ⟨ok,ov,st⟩:=st
  have hT:Shared.TypeIs _ (.ref it) "dict_itemiterator":=⟨_,st,rfl⟩
  refine wpAny_pyIter_slot hT PySem.F.slot_dict_itemiterator_iter (wpAny_call_entry PySem.F.slot_dict_itemiterator_iter hT jM ?_ (PySem.F.args_dict_itemiterator_iter_1 _))
  show wpAny _ _ (ret (.ref it)) _ _ _
  exact wpAny_pure ⟨_,rfl,"dict_itemiterator",_,hT,PySem.F.slot_dict_itemiterator_next.lookup,h⟩
section
variable {X:Cx} {elts:List Expr} {kt:Nat} {pt:Pos}
def iItm (tl:TE):TI:=fun σ H R=>tl σ H fun x H1=>∃ a kvs,x = .ref a /\ Rd H1 a (.dT kvs) /\ ∀ o H',H' a = some (.frz o (.dT kvs)) -> Grow [a] H1 H' -> (∀ b,b ≠ a -> H' b = H1 b) -> R (Iti a o kvs) H'
theorem Yb {o:Expr} {to:TE} {apos cpos:Pos} (ho:PE X o to)
  (hbase:attributeBase o "items" X.env (eval o X.env) = eval o X.env:=by rfl) (hline:(apos.endLine == cpos.line) = true:=by rfl) :
  PI X (.Tuple elts kt pt) (.Call (.Attribute o "items" apos) [] [] cpos) (iItm to):=by
 intro pins s σ H R I h
 refine wpAny_Call_method0_late hbase hline (thn (ho pins s σ H _ I h) fun v s1 ⟨x,H1,I1,r1,a,kvs,ex,hrd,q⟩=>?_)
 subst ex
 obtain rfl:v = Value.ref a:=r1
 have key:∀ (H2:Hp) (ob:Obj),Inv X pins σ H2 s1 -> H2 a = some (.frz ob (.dT kvs)) -> R (Iti a ob kvs) H2 -> MethodOn X.prog X.w X.A "items" cpos (.ref a) [] (fun v s1=>wpAny (model X.prog X.w) X.A (pyIter v) (PIE X pins σ (.Tuple elts kt pt) R) X.xe s1) X.xe s1:=by
  intro H2 ob I2 hH hR
  obtain ⟨g,z,lo,xs,rel,o',es,ep,g',hx,hd,he,nd⟩:=(show z7 X.prog X.w H2 s1.heap a (.frz ob (.dT kvs)) from I2.hok a _ hH)
  rw [g] at g'
  cases g'
  have hl:kvs.length = xs.length:=Paired.length rel
  have hes:es.size = xs.length:=size_of_entries he
  have em:wD es a ep s1.heap:=⟨ob,g,hx,hd⟩
  refine ⟨"dict","dict.items",PySem.F.plainAttrs_dict,PySem.F.slot_dict_items,PySem.F.type_dict_items,em.typeIs,fun b e=>by cases e; exact ⟨ob,g,hx.2.1⟩,Calls.callWith_builtin rfl (PySem.evalArgs_none (Xv lo em ?_))⟩
  have em':wD es a ep (s1.heap.push { cls:=.type "dict_items",data:=.fields #[.ref a] }):=em.keep fun o e=>Heap.get?_push_of_some _ e
  have I3:Inv X pins σ H2 { s1 with heap:=s1.heap.push { cls:=.type "dict_items",data:=.fields #[.ref a] } }:=I2.kept (t':=s1.toks) fun b o e=>Heap.get?_push_of_some _ e
  refine Xw (s:={ s1 with heap:=s1.heap.push { cls:=.type "dict_items",data:=.fields #[.ref a] } }) ⟨_,Heap.get?_push_size _ rfl,rfl,rfl⟩ em' ?_
  refine ⟨_,[_],_,_,H2,rfl,I3.kept (t':=s1.toks) fun b o e=>Heap.get?_push_of_some _ e,Xy a _ ob es ep kvs hx hd (by omega),⟨_,_,Heap.get?_push_size _ rfl⟩,fun b hb=>?_,hR⟩
  have e:=List.mem_singleton.mp hb
  subst e
  exact I3.fpOk (Nat.le_refl _) (I3.hok.fresh (Nat.le_refl _))
 rcases hrd with ha | ⟨ob,ha⟩
 ·obtain ⟨z,lo,xs,rel,ob,es,ep,g,hx,hd,he,nd⟩:=(show z7 X.prog X.w H1 s1.heap a (.dT kvs) from I1.hok a _ ha)
  have I2:Inv X pins σ (upd H1 a (.frz ob (.dT kvs))) { s1 with heap:=s1.heap,toks:=s1.toks }:=tw I1 (by rw [ha]; trivial) (Heap.SameBut.refl ..) ⟨ob,g⟩ ⟨g,z,lo,xs,?_,ob,es,ep,g,hx,hd,he,nd⟩
  ·exact key _ ob I2 zd (q ob _ zd (Grow.frzR ha (by simp)) fun b hb=>zp hb)
  ·refine KT.keeps rel fun b ys e=>?_
   have:b ≠ a:=fun z=>by rw [z,ha] at e; cases e
   rw [zp this]; exact e
 ·exact key _ ob I1 ha (q ob _ ha (Grow.refl _ _) fun _ _=>rfl)
end
theorem WH {a:Addr} {o:Obj} {kvs:List (List Key × V)} {g:TG} {tb:TS} {D:Ends} {σ:L2.St} {H:Hp} (Pv:Nat -> L2.St -> Hp -> Prop) (h0:Pv 0 σ H) (hl:∀ i σ H,i <= kvs.length -> Pv i σ H -> H a = some (.frz o (.dT kvs)))
  (hs:∀ i p b T σ H,kvs[i]? = some p -> H b = some (.tup (p.1.map kV)) -> H T = none -> Pv i σ H -> g (.ref T) σ (upd H T (.tup [.ref b,p.2])) fun σ2 H2=>tb { D with nx:=Pv (i + 1),ct:=Pv (i + 1),bk:=D.nx } σ2 H2) (hd:∀ σ H,Pv kvs.length σ H -> D.nx σ H) :
  ∃ W:Nat -> Nat -> L2.St -> Hp -> Prop,(∃ m,W 0 m σ H) /\ ∀ i m σ H,W i m σ H →
   ((Iti a o kvs).stop i H /\ D.nx σ H) \/ ((Iti a o kvs).go i H /\ ∃ N:L2.St -> Hp -> Prop,(∀ σ' H',N σ' H' -> ∃ m',m' < m /\ W (i + 1) m' σ' H') /\ ∀ x H',(Iti a o kvs).yld i H x H' -> g x σ H' fun σ2 H2=>tb { D with nx:=N,ct:=N,bk:=D.nx } σ2 H2):=by
 refine ⟨fun i m σ H=>m = kvs.length - i /\ i <= kvs.length /\ Pv i σ H,⟨kvs.length,by simp,Nat.zero_le _,h0⟩,?_⟩
 rintro i m σ H ⟨rfl,hi,p⟩
 have q:=hl i σ H hi p
 by_cases hlt:i < kvs.length
 ·refine .inr ⟨⟨hlt,q⟩,Pv (i + 1),fun σ' H' p'=>⟨kvs.length - (i + 1),by omega,rfl,hlt,p'⟩,fun x H' y=>?_⟩
  obtain ⟨T,b,pk,hT,rfl,hp,hb,rfl⟩:=y
  exact hs i pk b T σ H hp hb hT p
 ·have e:i = kvs.length:=by omega
  exact .inl ⟨⟨e,q⟩,hd σ H (e ▸ p)⟩
theorem jg {a:Addr} {o:Obj} {kvs:List (List Key × V)} {g:TG} {tt:TT} {te:TE} {Q:VK} {σ:L2.St} {H:Hp} (Pv:Nat -> List V -> L2.St -> Hp -> Prop) (h0:Pv 0 [] σ H) (hl:∀ i ys σ H,i <= kvs.length -> Pv i ys σ H -> H a = some (.frz o (.dT kvs)))
  (hs:∀ i p b T ys σ H,kvs[i]? = some p -> H b = some (.tup (p.1.map kV)) -> H T = none -> Pv i ys σ H -> g (.ref T) σ (upd H T (.tup [.ref b,p.2])) fun σ2 H3=>tt σ2 H3 fun t H4=>if t = true then te σ2 H4 fun y H5=>ys.length < sizeLine /\ Pv (i + 1) (ys ++ [y]) σ2 H5 else Pv (i + 1) ys σ2 H4)
  (hd:∀ ys σ H,Pv kvs.length ys σ H -> ∀ l,H l = none -> Q (.ref l) (upd H l (.lst ys))):wt (Iti a o kvs) σ H g tt te Q:=by
 refine ⟨fun i m ys σ H=>m = kvs.length - i /\ i <= kvs.length /\ Pv i ys σ H,⟨kvs.length,by simp,Nat.zero_le _,h0⟩,?_⟩
 rintro i m ys σ H ⟨rfl,hi,p⟩
 have q:=hl i ys σ H hi p
 by_cases hlt:i < kvs.length
 ·refine .inr ⟨⟨hlt,q⟩,Pv (i + 1),fun zs σ' H' p'=>⟨kvs.length - (i + 1),by omega,rfl,hlt,p'⟩,fun x H' y=>?_⟩
  obtain ⟨T,b,pk,hT,rfl,hp,hb,rfl⟩:=y
  exact hs i pk b T ys σ H hp hb hT p
 ·have e:i = kvs.length:=by omega
  exact .inl ⟨⟨e,q⟩,hd ys σ H (e ▸ p)⟩
def dedI (ns:List Int):List Int:=ns.foldl step_dedup []
theorem Yc {ns:List Int}:firstMet (fun i=>ns.getD i 0) ns.length = dedI ns:=by
 unfold firstMet dedI
 congr 1
 refine List.ext_getElem? fun i=>?_
 by_cases h:i < ns.length
 ·rw [List.getElem?_map,List.getElem?_range h,Option.map_some,List.getD_eq_getElem?_getD,List.getElem?_eq_getElem h]; rfl
 ·rw [List.getElem?_map,List.getElem?_eq_none (by rw [List.length_range]; omega),List.getElem?_eq_none (by omega)]; rfl
theorem jh:∀ {ns:List Int} {us:List Value},Vals (ns.map V.int) us -> IntsAre us ns
 | [],_,.nil=>.nil
 | n :: ns,_,.cons r t=>by
  obtain ⟨tk,rfl⟩:=r
  exact .cons n tk (jh t)
section
variable {X:Cx}
theorem Yd {k:Nat} (hr:Room k X.A):wf X (.type "set") (fun xs H Q=>∃ a ns,xs = [V.ref a] /\ SqL X.K H a (ns.map V.int) /\ ns.length <= 1000 /\ ∀ l,H l = none -> Q (.ref l) (upd H l (.set (fun j=>(dedI ns).any (· == j)) (dedI ns).length))):=by
 intro pins s σ H xs us Q I r h
 obtain ⟨a,ns,rfl,ha,hl,q⟩:=h
 obtain ⟨u,rfl,ru⟩:=vH r
 cases ru
 obtain ⟨its,rv,p,hz⟩:=I.list ha
 have hlen:=rv.length
 rw [List.length_map] at hlen
 refine call_set_list hr.hd p.isList (ns:=ns) (by simpa using jh rv) (by simp only [List.size_toArray]; have:scanBound = 4096:=rfl; omega) fun h' tk hS kp=>?_
 have e:(its.toArray).size = ns.length:=by simp [hlen]
 rw [e,Yc] at hS
 refine ⟨.ref s.heap.objs.size,_,I.laid (t':=tk) (fun b o eb=>kp b o (Heap.lt_size eb) eb) (Nat.le_refl _) (show z7 X.prog X.w _ h' _ (.set _ _) from hS),rfl,q _ (I.hok.fresh (Nat.le_refl _))⟩
theorem Ye:wf X (.builtin "len") (fun xs H Q=>∃ a S n,xs = [V.ref a] /\ H a = some (.set S n) /\ Q (.int n) H):=by
 intro pins s σ H xs us Q I r h
 obtain ⟨a,S,n,rfl,ha,q⟩:=h
 obtain ⟨u,rfl,ru⟩:=vH r
 cases ru
 obtain ⟨o,es,ep,t,ho,hex,hd,_,_,hb,hf,hn⟩:=(show s.heap.SetOf (intKind X.prog X.w) a S n from I.hok a _ ha)
 refine call_len_set ho hex hd hf (by have:scanBound = 4096:=rfl; omega) ?_
 rw [hn]
 exact ⟨.int n,H,I.tok _,⟨_,rfl⟩,q⟩
end
theorem VJ {ns:List Int} (h:ns.Nodup):(dedI ns).length = ns.length:=by
 have key:∀ (ns acc:List Int),ns.Nodup -> (∀ x ∈ ns,x ∉ acc) -> (ns.foldl step_dedup acc).length = acc.length + ns.length:=by
  intro ns
  induction ns with
  | nil=>intro acc _ _; rfl
  | cons a ns ih =>
   intro acc nd hx
   rw [List.nodup_cons] at nd
   have h0:¬ acc.any (· == a) = true:=fun z=>by
    obtain ⟨y,hy,e⟩:=List.any_eq_true.mp z
    rw [beq_iff_eq] at e
    exact hx a (by simp) (e ▸ hy)
   rw [List.foldl_cons,show step_dedup acc a = acc ++ [a] from by unfold step_dedup; rw [if_neg h0],ih _ nd.2,List.length_append]
   ·simp only [List.length_cons,List.length_nil]; omega
   ·intro x hx' hm
    rcases List.mem_append.mp hm with z | z
    ·exact hx x (by simp [hx']) z
    ·rw [List.mem_singleton.mp z] at hx'; exact nd.1 hx'
 unfold dedI
 rw [key ns [] h (fun _ _ z=>nomatch z)]; simp
section
variable {c:TT} {e:TE} {i:Nat} {v v':V} {t u r:TS} {D:Ends} {σ:L2.St} {H:Hp} {rt:VK} {bk ct:L2.St -> Hp -> Prop}
theorem c_if (Good:L2.St -> Hp -> Prop) (hr:∀ σ' H',Good σ' H' -> r D σ' H') (hc:(∀ σ' H',Good σ' H' -> r D σ' H') -> tIfS c t u { D with nx:=r D } σ H):tSeq (tIfS c t u) r D σ H:=hc hr
theorem ye (Good:V -> Hp -> Prop) (hc:∀ K:VK,(∀ v H',Good v H' -> K v H') -> e σ H K) (hr:∀ v H',Good v H' -> t D (σ.set i (some v)) H'):tSeq (tAsg e (vm i)) t D σ H:=hc _ fun v H' g=>hr v H' g
theorem sP (h:t D σ H):W8 ({ nx:=t D,rt:=rt,bk:=bk,ct:=ct }:Ends) σ H:=h
theorem c_nx (h:t D σ H):({ nx:=t D,rt:=rt,bk:=bk,ct:=ct }:Ends).nx σ H:=h
theorem Yf (Good:Bool -> Hp -> Prop) (hc:∀ K:Bool -> Hp -> Prop,(∀ b H',Good b H' -> K b H') -> c σ H K) (hr:∀ b H',Good b H' -> if b = true then t { D with nx:=r D } σ H' else u { D with nx:=r D } σ H'):tSeq (tIfS c t u) r D σ H:=hc _ hr
end
theorem xw {K:FG7} {a:Addr} {xs:List V} {g:TG} {te:TE} {Q:VK} {σ:L2.St} {H:Hp} (Pv:Nat -> List V -> L2.St -> Hp -> Prop) (h0:Pv 0 [] σ H) (hl:∀ i ys σ H,i <= xs.length -> Pv i ys σ H -> SqT K H a xs)
  (hs:∀ i x ys σ H,xs[i]? = some x -> Pv i ys σ H -> g x σ H fun σ2 H3=>te σ2 H3 fun y H5=>ys.length < sizeLine /\ Pv (i + 1) (ys ++ [y]) σ2 H5)
  (hd:∀ ys σ H,Pv xs.length ys σ H -> ∀ l,H l = none -> Q (.ref l) (upd H l (.lst ys))):wt (Itt K a) σ H g uX te Q:=uY Pv h0 hl (fun i x ys σ H hx hp=>hs i x ys σ H hx hp) hd
theorem Xz {a:Addr} {o:Obj} {kvs:List (List Key × V)} {g:TG} {te:TE} {Q:VK} {σ:L2.St} {H:Hp} (Pv:Nat -> List V -> L2.St -> Hp -> Prop) (h0:Pv 0 [] σ H) (hl:∀ i ys σ H,i <= kvs.length -> Pv i ys σ H -> H a = some (.frz o (.dT kvs)))
  (hs:∀ i p b ys σ H,kvs[i]? = some p -> H b = some (.tup (p.1.map kV)) -> Pv i ys σ H -> g (.ref b) σ H fun σ2 H3=>te σ2 H3 fun y H5=>ys.length < sizeLine /\ Pv (i + 1) (ys ++ [y]) σ2 H5)
  (hd:∀ ys σ H,Pv kvs.length ys σ H -> ∀ l,H l = none -> Q (.ref l) (upd H l (.lst ys))):wt (Itd a o kvs) σ H g uX te Q:=WE Pv h0 hl (fun i p b ys σ H h1 h2 h3=>hs i p b ys σ H h1 h2 h3) hd
theorem zG {n:Nat} (h:n <= 1000):n < sizeLine:=Nat.lt_of_le_of_lt h (by decide)
theorem Yg {K:FG7} {a:Addr} {xs:List V} {g:TG} {tk tv:TE} {Q:VK} {σ:L2.St} {H:Hp} (Pv:Nat -> List (List Key × V) -> Hp -> L2.St -> Hp -> Prop) (h0:Pv 0 [] H σ H) (hl:∀ i kvs Hb σ H,Pv i kvs Hb σ H -> SqT K H a xs)
  (hs:∀ i x kvs Hb σ H,xs[i]? = some x -> Pv i kvs Hb σ H -> g x σ H fun σ2 H3=>tk σ2 H3 fun y H5=>tv σ2 H5 fun v H6=>kvs.length < sizeLine /\ ∃ b ks,y = .ref b /\ H6 b = some (.tup (ks.map kV)) /\ (∀ c xs,Hb c = some (.tup xs) -> H6 c = some (.tup xs)) /\ Pv (i + 1) (putK kvs ks v) H6 σ2 H6)
  (hd:∀ kvs Hb σ H,Pv xs.length kvs Hb σ H -> (∀ b xs,Hb b = some (.tup xs) -> H b = some (.tup xs)) /\ ∀ l,H l = none -> Q (.ref l) (upd H l (.dT kvs))):Z8 (Itt K a) σ H g uX tk tv Q:=by
 refine ⟨fun i m kvs Hb σ H=>m = xs.length - i /\ i <= xs.length /\ Pv i kvs Hb σ H,⟨xs.length,by simp,Nat.zero_le _,h0⟩,?_⟩
 rintro i m kvs Hb σ H ⟨rfl,hi,p⟩
 have q:=hl i kvs Hb σ H p
 by_cases hlt:i < xs.length
 ·refine .inr ⟨⟨xs,xs[i],q,List.getElem?_eq_getElem hlt⟩,Pv (i + 1),fun zs Hc σ' H' p'=>⟨xs.length - (i + 1),by omega,rfl,hlt,p'⟩,fun x H' y=>?_⟩
  obtain ⟨rfl,y⟩:=y
  exact hs i x kvs Hb σ _ (y xs q) p
 ·have e:i = xs.length:=by omega
  obtain ⟨h1,h2⟩:=hd kvs Hb σ H (e ▸ p)
  exact .inl ⟨⟨xs,q,by omega⟩,h1,h2⟩
def keyR (l b:Nat):List Key:=[.inl (l:Int),.inl (b:Int)]
theorem yj {l b l' b':Nat} (h:keyR l b = keyR l' b'):l = l' /\ b = b':=by
 unfold keyR at h
 injection h with h1 h2
 injection h2 with h2 _
 injection h1 with h1
 injection h2 with h2
 exact ⟨by omega,by omega⟩
structure TabR {α:Type} (kvs:List (List Key × V)) (n m:Nat) (f:Nat -> Nat -> Option α) (R:V -> α -> Prop):Prop where
 keys:∀ p ∈ kvs,∃ l b x,p.1 = keyR l b /\ l < n /\ b < m /\ f l b = some x /\ R p.2 x
 nd:(kvs.map (·.1)).Nodup
 all:∀ l b,l < n -> b < m -> f l b ≠ none -> (valV kvs (keyR l b)).isSome = true
theorem tD {kvs:List (List Key × V)} {k:List Key} {v:V} (h:valV kvs k = some v):(k,v) ∈ kvs:=by
 unfold valV at h
 cases e:kvs.find? fun kv=>decide (kv.1 = k) with
 | none=>rw [e] at h; cases h
 | some p =>
  rw [e] at h
  have h2:p.2 = v:=Option.some.inj h
  have h0:decide (p.1 = k) = true:=by have z:=List.find?_some e; exact z
  have h1:=of_decide_eq_true h0
  have h3:=List.mem_of_find?_eq_some e
  rw [← h2,← h1]; exact h3
theorem TabR.val {α:Type} {kvs:List (List Key × V)} {n m:Nat} {f:Nat -> Nat -> Option α} {R:V -> α -> Prop} (t:TabR kvs n m f R) {l b:Nat} (hl:l < n) (hb:b < m) :
  match f l b with | some x=>∃ v,valV kvs (keyR l b) = some v /\ R v x | none=>valV kvs (keyR l b) = none:=by
 cases hv:valV kvs (keyR l b) with
 | some v =>
  obtain ⟨l',b',x,e,_,_,hf,hR⟩:=t.keys _ (tD hv)
  obtain ⟨rfl,rfl⟩:=yj e
  rw [hf]
  exact ⟨v,rfl,hR⟩
 | none =>
  cases hf:f l b with
  | none=>rfl
  | some x =>
   have:=t.all l b hl hb (by rw [hf]; exact fun z=>nomatch z)
   rw [hv] at this; cases this
theorem vC {kvs:List (List Key × V)} {k:List Key} {v:V}:∀ p ∈ putK kvs k v,p = (k,v) \/ (p ∈ kvs /\ p.1 ≠ k):=by
 intro p hp
 unfold putK at hp
 split at hp
 ·obtain ⟨q,hq,rfl⟩:=List.mem_map.mp hp
  by_cases c:q.1 = k
  ·left; rw [if_pos c]; exact Prod.ext c rfl
  ·right; rw [if_neg c]; exact ⟨hq,c⟩
 ·rename_i h
  rcases List.mem_append.mp hp with z | z
  ·by_cases c:p.1 = k
   ·exfalso; exact h (List.any_eq_true.mpr ⟨p,z,decide_eq_true c⟩)
   ·exact .inr ⟨z,c⟩
  ·exact .inl (List.mem_singleton.mp z)
theorem ji {kvs:List (List Key × V)} {k:List Key} {v:V} (h:(kvs.map (·.1)).Nodup):((putK kvs k v).map (·.1)).Nodup:=by
 cases e:valV kvs k with
 | none=>exact WA v h e
 | some u =>
  have:(putK kvs k v).map (·.1) = kvs.map (·.1):=by
   unfold putK
   rw [if_pos (by rw [xB,e]; rfl),List.map_map]
   refine List.map_congr_left fun p _=>?_
   show (if p.1 = k then (p.1,v) else p).1 = p.1
   split <;> rfl
  rw [this]; exact h
theorem TabR.nil {α:Type} {n m:Nat} {R:V -> α -> Prop}:TabR [] n m (fun _ _=>(none:Option α)) R:=⟨(fun _ h=>nomatch h),List.nodup_nil,fun _ _ _ _ h=>absurd rfl h⟩
theorem TabR.imp {α:Type} {kvs:List (List Key × V)} {n m:Nat} {f:Nat -> Nat -> Option α} {R R':V -> α -> Prop} (t:TabR kvs n m f R) (h:∀ v x,R v x -> R' v x):TabR kvs n m f R' :=
 ⟨fun p hp=>by obtain ⟨l,b,x,e,h1,h2,h3,h4⟩:=t.keys p hp; exact ⟨l,b,x,e,h1,h2,h3,h _ _ h4⟩,t.nd,t.all⟩
def VL {α:Type} (H:Hp) (d:Addr) (n m:Nat) (f:Nat -> Nat -> Option α) (R:V -> α -> Prop):Prop:=∃ kvs,Rd H d (.dT kvs) /\ TabR kvs n m f R /\ kvs.length <= 16
def LvAt (K:FG7) (H:Hp) (k m:Nat) (rows:List (List Int)) (ks:List Ask) (s:Nat) (d:Addr):Prop:=VL H d (2 ^ k) m (lvR k rows ks s) (zx K H)
def kpR (k:Nat) (rows:List (List Int)) (ks:List Ask) (s l b:Nat):Option Deed:=match lvR k rows ks (s - 1) (x0R k rows s l) b,lvR k rows ks (s - 1) (x1R k rows s l) b with
 | some d,some _=>some d
 | _,_=>none
def KpAt (K:FG7) (H:Hp) (k m:Nat) (rows:List (List Int)) (ks:List Ask) (s:Nat) (d:Addr):Prop :=
 ∃ kvs,Rd H d (.dT kvs) /\ kvs.length <= 16 /\ (∀ p ∈ kvs,∃ l b x,p.1 = keyR (nN k s l) b /\ l < 2 ^ k /\ b < m /\ kpR k rows ks s l b = some x /\ zx K H p.2 x) /\ (kvs.map (·.1)).Nodup ∧
  ∀ l b,l < 2 ^ k -> b < m -> kpR k rows ks s l b ≠ none -> (valV kvs (keyR (nN k s l) b)).isSome = true
theorem Rd.growR {m:List Addr} {H H':Hp} {d:Addr} {u:HO} (g:Grow m H H') (hm:d ∉ m \/ ∃ o,H d = some (.frz o u)) (h:Rd H d u):Rd H' d u:=by
 rcases hm with hm | ⟨o,ho⟩
 ·rcases h with h | ⟨o,h⟩
  ·exact .inl (g.keep _ _ hm h)
  ·exact .inr ⟨o,g.frz _ _ _ h⟩
 ·exact .inr ⟨o,g.frz _ _ _ ho⟩
theorem LvAt.grow {K:FG7} {m':List Addr} {H H':Hp} {k m:Nat} {rows:List (List Int)} {ks:List Ask} {s:Nat} {d:Addr} (g:Grow m' H H') (hm:d ∉ m') (h:LvAt K H k m rows ks s d):LvAt K H' k m rows ks s d:=by
 obtain ⟨kvs,h1,h2,h3⟩:=h
 exact ⟨kvs,Rd.growR g (.inl hm) h1,h2.imp fun v x hv=>g.deed hv,h3⟩
theorem KpAt.grow {K:FG7} {m':List Addr} {H H':Hp} {k m:Nat} {rows:List (List Int)} {ks:List Ask} {s:Nat} {d:Addr} (g:Grow m' H H') (hm:d ∉ m') (h:KpAt K H k m rows ks s d):KpAt K H' k m rows ks s d:=by
 obtain ⟨kvs,h1,h2,h3,h4,h5⟩:=h
 exact ⟨kvs,Rd.growR g (.inl hm) h1,h2,fun p hp=>by obtain ⟨l,b,x,e,a1,a2,a3,a4⟩:=h3 p hp; exact ⟨l,b,x,e,a1,a2,a3,g.deed a4⟩,h4,h5⟩
theorem uH:∀ k:Fin 5,∀ s:Fin 5,1 <= s.val -> s.val <= k.val -> ∀ l:Fin 16,l.val < 2 ^ k.val -> ∀ t:Fin 5,1 <= t.val -> t.val <= k.val -> t.val ≠ s.val -> figI k.val t.val (xN k.val s.val l.val) = figI k.val t.val l.val:=by decide +kernel
theorem qd {k:Nat} {rows:List (List Int)} {ks:List Ask} {s l l' b:Nat} (k4:k <= 4) (hs:zB k rows) (s1:1 <= s) (sk:s <= k) (hl:l < 2 ^ k) (hl':l' < 2 ^ k) (e:nN k s l = nN k s l'):kpR k rows ks s l b = kpR k rows ks s l' b:=by
 have key:x0R k rows s l = x0R k rows s l' /\ x1R k rows s l = x1R k rows s l':=by
  refine X2 k4 hs s1 sk hl hl' fun t t1 tk hne=>?_
  rcases twoF k4 s1 sk hl' hl e.symm with rfl | rfl
  ·rfl
  ·have p:=zS k4
   have:=uH ⟨k,by omega⟩ ⟨s,by omega⟩ s1 sk ⟨l',by omega⟩ hl' ⟨t,by omega⟩ t1 tk (by simpa using hne)
   exact this
 unfold kpR
 rw [key.1,key.2]
theorem jN:∀ k:Fin 5,∀ b:Fin 16,Builtin.bitAnd (b.val:Int) (1 * 2 ^ ((k.val:Int)).toNat - 1) = ((b.val % 2 ^ k.val:Nat):Int):=by decide +kernel
theorem XA {k b:Nat} (k4:k <= 4) (hb:b < 16):Builtin.bitAnd (b:Int) (1 * 2 ^ ((k:Int)).toNat - 1) = ((b % 2 ^ k:Nat):Int):=jN ⟨k,by omega⟩ ⟨b,hb⟩
theorem uI {K:FG7} {H:Hp}:∀ {xs:List V} {ks:List Ask},AllA K H xs ks -> xs.length = ks.length
 | [],[],_=>rfl
 | _ :: _,_ :: _,⟨_,t⟩=>by rw [List.length_cons,List.length_cons,uI t]
 | [],_ :: _,h=>h.elim
 | _ :: _,[],h=>h.elim
theorem yT {k:Nat} {i:Int} (h0:0 <= i) (h1:i < 2 ^ k):i.toNat < 2 ^ k:=by
 have e:((2 ^ k:Nat):Int) = 2 ^ k:=by rw [Int.natCast_pow]; rfl
 omega
theorem RndOk.ask {k m:Nat} {ks:List Ask} (R:RndOk k m ks) (k4:k <= 4):∀ a ∈ ks,Xg m a:=fun a ha=>by
 have h:=R.hand a ha
 have p:=zS k4
 have:=yT h.1 h.2
 exact ⟨h.1,by omega,(R.box a ha).1,(R.box a ha).2,R.ok a ha⟩
structure Beh (K:FG7) (H:Hp) (k m:Nat) (rows:List (List Int)) (ks:List Ask) (st:Nat) (kvs:List (List Key × V)) (i:Nat) (bk kk:List (List Key × V)):Prop where
 b1:∀ p ∈ bk,∃ l b x,p.1 = keyR l b /\ l < 2 ^ k /\ b < m /\ lvR k rows ks st l b = some x /\ zx K H p.2 x
 b2:(bk.map (·.1)).Nodup
 b3:∀ j l b v,j < i -> kvs[j]? = some (keyR l b,v) -> (valV bk (keyR (outR k st l b) b)).isSome = true
 bl:bk.length <= i
 k1:∀ p ∈ kk,∃ l b x,p.1 = keyR (nN k st l) b /\ l < 2 ^ k /\ b < m /\ kpR k rows ks st l b = some x /\ zx K H p.2 x
 k2:(kk.map (·.1)).Nodup
 k3:∀ j l b v,j < i -> kvs[j]? = some (keyR l b,v) -> kpR k rows ks st l b ≠ none -> (valV kk (keyR (nN k st l) b)).isSome = true
 kl:kk.length <= i
section
variable {K:FG7} {H H':Hp} {k m:Nat} {rows:List (List Int)} {ks:List Ask} {st:Nat} {kvs:List (List Key × V)} {i:Nat} {bk kk:List (List Key × V)}
theorem Beh.grow {m':List Addr} (g:Grow m' H H') (B:Beh K H k m rows ks st kvs i bk kk):Beh K H' k m rows ks st kvs i bk kk :=
 ⟨fun p hp=>by obtain ⟨l,b,x,e,h1,h2,h3,h4⟩:=B.b1 p hp; exact ⟨l,b,x,e,h1,h2,h3,g.deed h4⟩,B.b2,B.b3,B.bl,fun p hp=>by obtain ⟨l,b,x,e,h1,h2,h3,h4⟩:=B.k1 p hp; exact ⟨l,b,x,e,h1,h2,h3,g.deed h4⟩,B.k2,B.k3,B.kl⟩
theorem Beh.nil:Beh K H k m rows ks st kvs 0 [] []:=⟨(fun _ h=>nomatch h),List.nodup_nil,(fun _ _ _ _ h=>absurd h (Nat.not_lt_zero _)),Nat.le_refl _,(fun _ h=>nomatch h),List.nodup_nil,(fun _ _ _ _ h=>absurd h (Nat.not_lt_zero _)),Nat.le_refl _⟩
theorem xW {bk:List (List Key × V)} {k j:List Key} {v:V} (h:(valV bk j).isSome = true):(valV (putK bk k v) j).isSome = true:=by
 rw [ja]
 split
 ·rfl
 ·exact h
theorem xC {bk:List (List Key × V)} {k:List Key} {v:V}:(valV (putK bk k v) k).isSome = true:=by rw [ja,if_pos rfl]; rfl
theorem Beh.one {l b:Nat} {v w:V} {x:Deed} (B:Beh K H k m rows ks st kvs i bk kk) (hp:kvs[i]? = some (keyR l b,v)) (ho:outR k st l b < 2 ^ k) (hb:b < m) (hx:lvR k rows ks st (outR k st l b) b = some x) (hd:zx K H w x) (hk:kpR k rows ks st l b = none) :
  Beh K H k m rows ks st kvs (i + 1) (putK bk (keyR (outR k st l b) b) w) kk where
 b1:=fun p hp'=>by
  rcases vC p hp' with rfl | ⟨hm,_⟩
  ·exact ⟨_,b,x,rfl,ho,hb,hx,hd⟩
  ·exact B.b1 p hm
 b2:=ji B.b2
 b3:=fun j l' b' v' hj hj'=>by
  by_cases c:j < i
  ·exact xW (B.b3 j l' b' v' c hj')
  ·have e:j = i:=by omega
   rw [e,hp] at hj'
   obtain ⟨rfl,rfl⟩:=yj (congrArg Prod.fst (Option.some.inj hj'))
   exact xC
 bl:=Nat.le_trans (yx ..) (Nat.succ_le_succ B.bl)
 k1:=B.k1
 k2:=B.k2
 k3:=fun j l' b' v' hj hj' hne=>by
  by_cases c:j < i
  ·exact B.k3 j l' b' v' c hj' hne
  ·have e:j = i:=by omega
   rw [e,hp] at hj'
   obtain ⟨rfl,rfl⟩:=yj (congrArg Prod.fst (Option.some.inj hj'))
   exact absurd hk hne
 kl:=Nat.le_succ_of_le B.kl
theorem Beh.two {l b:Nat} {v w w2:V} {x y:Deed} (B:Beh K H k m rows ks st kvs i bk kk) (hp:kvs[i]? = some (keyR l b,v)) (hl:l < 2 ^ k) (ho:outR k st l b < 2 ^ k) (hb:b < m) (hx:lvR k rows ks st (outR k st l b) b = some x) (hd:zx K H w x) (hk:kpR k rows ks st l b = some y) (hy:zx K H w2 y) :
  Beh K H k m rows ks st kvs (i + 1) (putK bk (keyR (outR k st l b) b) w) (putK kk (keyR (nN k st l) b) w2) where
 b1:=fun p hp'=>by
  rcases vC p hp' with rfl | ⟨hm,_⟩
  ·exact ⟨_,b,x,rfl,ho,hb,hx,hd⟩
  ·exact B.b1 p hm
 b2:=ji B.b2
 b3:=fun j l' b' v' hj hj'=>by
  by_cases c:j < i
  ·exact xW (B.b3 j l' b' v' c hj')
  ·have e:j = i:=by omega
   rw [e,hp] at hj'
   obtain ⟨rfl,rfl⟩:=yj (congrArg Prod.fst (Option.some.inj hj'))
   exact xC
 bl:=Nat.le_trans (yx ..) (Nat.succ_le_succ B.bl)
 k1:=fun p hp'=>by
  rcases vC p hp' with rfl | ⟨hm,_⟩
  ·exact ⟨l,b,y,rfl,hl,hb,hk,hy⟩
  ·exact B.k1 p hm
 k2:=ji B.k2
 k3:=fun j l' b' v' hj hj' hne=>by
  by_cases c:j < i
  ·exact xW (B.k3 j l' b' v' c hj' hne)
  ·have e:j = i:=by omega
   rw [e,hp] at hj'
   obtain ⟨rfl,rfl⟩:=yj (congrArg Prod.fst (Option.some.inj hj'))
   exact xC
 kl:=Nat.le_trans (yx ..) (Nat.succ_le_succ B.kl)
theorem wm {kvs:List (List Key × V)} {k:List Key} (h:(valV kvs k).isSome = true):∃ j v,kvs[j]? = some (k,v) /\ j < kvs.length:=by
 obtain ⟨v,hv⟩:=Option.isSome_iff_exists.mp h
 obtain ⟨j,hj,e⟩:=List.getElem_of_mem (tD hv)
 exact ⟨j,v,by rw [List.getElem?_eq_getElem hj,e],hj⟩
theorem Beh.done {b0 k0:Addr} (k4:k <= 4) (hs:zB k rows) (s1:1 <= st) (sk:st <= k) (tab:TabR kvs (2 ^ k) m (lvR k rows ks (st - 1)) (zx K H)) (kl:kvs.length <= 16) (B:Beh K H k m rows ks st kvs kvs.length bk kk) (hB:H b0 = some (.dT bk)) (hK:H k0 = some (.dT kk)) :
  LvAt K H k m rows ks st b0 /\ KpAt K H k m rows ks st k0:=by
 have es:st = st - 1 + 1:=by omega
 refine ⟨⟨bk,.inl hB,⟨B.b1,B.b2,fun l b hl hb hne=>?_⟩,Nat.le_trans B.bl kl⟩,kk,.inl hK,Nat.le_trans B.kl kl,B.k1,B.k2,fun l b hl hb hne=>?_⟩
 ·rw [es] at hne
  obtain ⟨x,hx,hox,hxn⟩:=VH k4 hs (by omega) hl hne
  obtain ⟨j,v,hj,hjl⟩:=wm (tab.all x b hx hb hxn)
  have:=B.b3 j x b v hjl hj
  rw [← es] at hox
  rw [hox] at this; exact this
 ·have X:=xF (rows:=rows) k4 hs s1 sk hl
  have nx:nN k st (x0R k rows st l) = nN k st l:=WF s1 sk fun t _ tk hne=>X.off0 t tk hne
  have h0:lvR k rows ks (st - 1) (x0R k rows st l) b ≠ none:=by
   intro z
   unfold kpR at hne
   rw [z] at hne
   exact hne rfl
  obtain ⟨j,v,hj,hjl⟩:=wm (tab.all _ b X.lt0 hb h0)
  have:=B.k3 j _ b v hjl hj (by rw [qd k4 hs s1 sk X.lt0 hl nx]; exact hne)
  rw [nx] at this; exact this
end
theorem Grow.setR {m:List Addr} {H:Hp} {d:Addr} {kvs kvs':List (List Key × V)} (h:H d = some (.dT kvs)) (hm:d ∈ m):Grow m H (upd H d (.dT kvs')) :=
 ⟨fun b u hb q=>by rw [zp (show b ≠ d from fun z=>hb (by rw [z]; exact hm))]; exact q,fun b zs q=>by rw [zp (fun z=>by subst z; rw [h] at q; cases q)]; exact q,fun b u v q=>by rw [zp (fun z=>by subst z; rw [h] at q; cases q)]; exact q⟩
theorem Yh {H:Hp} {d t:Addr} {o:Obj} {kvs:List (List Key × V)} {l b:Nat} (h:H d = some (.frz o (.dT kvs))) (ht:H t = some (.tup [.int l,.int b])):DGet H d (.ref t) (valV kvs (keyR l b)):=.inr ⟨kvs,keyR l b,t,.inr ⟨o,h⟩,rfl,ht,rfl⟩
theorem qe {H:Hp} {d t:Addr} {kvs:List (List Key × V)} {l b:Nat} (h:Rd H d (.dT kvs)) (ht:H t = some (.tup [.int l,.int b])):DGet H d (.ref t) (valV kvs (keyR l b)):=.inr ⟨kvs,keyR l b,t,h,rfl,ht,rfl⟩
def wE (_:FG7):Sp:=sp2 fun x y H Q=>∃ (k b:Nat),x = .int k /\ y = .int b /\ k <= 4 /\ b < 16 /\ Q (.int ((b % 2 ^ k:Nat):Int)) H
def yk (K:FG7):Sp:=sp3 fun x y z H Q=>∃ (k:Nat) (b:List Int) (ks:List Ask),x = .int k /\ k <= 4 /\ zz K H y b /\ 1 <= b.length /\ b.length <= 16 /\ xf K H z ks /\ ks.length <= 16 /\ RndOk k b.length ks /\ ∀ H',Grow [] H H' -> Q .non H'
def sQ (K:FG7):Sp:=sp4 fun x y z u H Q=>∃ (k st m:Nat) (d:Addr) (rows:List (List Int)) (ks:List Ask),x = .int k /\ y = .int st /\ z = .ref d /\ k <= 4 /\ 1 <= st /\ st <= k /\ m <= 16 /\ LvAt K H k m rows ks (st - 1) d /\ zM K H u rows /\ zB k rows /\ RndOk k m ks ∧
 ∀ r b' kp H',Grow [d] H H' -> H b' = none -> H kp = none -> b' ≠ kp -> SqT K H' r [.ref b',.ref kp] -> LvAt K H' k m rows ks st b' -> KpAt K H' k m rows ks st kp -> LvAt K H' k m rows ks (st - 1) d -> Q (.ref r) H'
structure NetR (K:FG7) (H:Hp) (k m:Nat) (rows:List (List Int)) (ks:List Ask) (ds kps:List Addr):Prop where
 lv:∀ s d,ds[s]? = some d -> LvAt K H k m rows ks s d
 kp:∀ s d,kps[s]? = some d -> KpAt K H k m rows ks (s + 1) d
 nd:(ds ++ kps).Nodup
theorem LvAt.isD {K:FG7} {H:Hp} {k m:Nat} {rows:List (List Int)} {ks:List Ask} {s:Nat} {d:Addr} (h:LvAt K H k m rows ks s d):∃ kvs,Rd H d (.dT kvs):=by obtain ⟨kvs,h1,_⟩:=h; exact ⟨kvs,h1⟩
theorem KpAt.isD {K:FG7} {H:Hp} {k m:Nat} {rows:List (List Int)} {ks:List Ask} {s:Nat} {d:Addr} (h:KpAt K H k m rows ks s d):∃ kvs,Rd H d (.dT kvs):=by obtain ⟨kvs,h1,_⟩:=h; exact ⟨kvs,h1⟩
theorem NetR.isD {K:FG7} {H:Hp} {k m:Nat} {rows:List (List Int)} {ks:List Ask} {ds kps:List Addr} (N:NetR K H k m rows ks ds kps) {d:Addr} (h:d ∈ ds ++ kps):∃ kvs,Rd H d (.dT kvs):=by
 rcases List.mem_append.mp h with z | z
 ·obtain ⟨i,hi,rfl⟩:=List.getElem_of_mem z; exact (N.lv i _ (List.getElem?_eq_getElem hi)).isD
 ·obtain ⟨i,hi,rfl⟩:=List.getElem_of_mem z; exact (N.kp i _ (List.getElem?_eq_getElem hi)).isD
theorem Rd.ne_none {H:Hp} {d:Addr} {u:HO} (h:Rd H d u):H d ≠ none:=by rcases h with z | ⟨o,z⟩ <;> rw [z] <;> exact fun z=>nomatch z
theorem Rd.ne_lst {H:Hp} {d l:Addr} {kvs:List (List Key × V)} {xs:List V} (h:Rd H d (.dT kvs)) (hl:H l = some (.lst xs)):d ≠ l:=fun e=>by
 rw [e] at h
 rcases h with z | ⟨o,z⟩ <;> rw [hl] at z <;> cases z
theorem NetR.grow {K:FG7} {H H':Hp} {m':List Addr} {k m:Nat} {rows:List (List Int)} {ks:List Ask} {ds kps:List Addr} (g:Grow m' H H') (hm:∀ d ∈ ds ++ kps,d ∉ m') (N:NetR K H k m rows ks ds kps):NetR K H' k m rows ks ds kps :=
 ⟨fun s d h=>(N.lv s d h).grow g (hm d (List.mem_append_left _ (List.mem_of_getElem? h))),fun s d h=>(N.kp s d h).grow g (hm d (List.mem_append_right _ (List.mem_of_getElem? h))),N.nd⟩
def xM (K:FG7):Sp:=sp3 fun x y z H Q=>∃ (k m:Nat) (rows:List (List Int)) (ks:List Ask),x = .int k /\ k <= 4 /\ m <= 16 /\ ks.length <= 16 /\ xf K H y ks /\ zM K H z rows /\ zB k rows /\ RndOk k m ks ∧
 ∀ r lL lS ds kps H',Grow [] H H' -> SqT K H' r [.ref lL,.ref lS] -> H' lL = some (.lst (ds.map V.ref)) -> H' lS = some (.lst (kps.map V.ref)) -> ds.length = k + 1 -> kps.length = k -> NetR K H' k m rows ks ds kps -> (∀ d ∈ ds ++ kps,H d = none) -> Q (.ref r) H'
def lv0K (ks:List Ask) (vs:List V):List (List Key × V):=(ks.zip vs).map fun p=>(keyR p.1.hand.toNat p.1.box.toNat,p.2)
theorem XB {a:Ask} (h0:0 <= a.hand) (h1:0 <= a.box):(keyR a.hand.toNat a.box.toNat).map kV = [.int a.hand,.int a.box]:=by
 show [V.int ((a.hand.toNat:Nat):Int),V.int ((a.box.toNat:Nat):Int)] = _
 rw [Int.toNat_of_nonneg h0,Int.toNat_of_nonneg h1]
theorem sR {ks:List Ask} {a:Ask} (nd:(ks.map (·.hand)).Nodup) (ha:a ∈ ks):(ks.find? fun c=>decide (c.hand = a.hand /\ c.box = a.box)) = some a:=by
 induction ks with
 | nil=>cases ha
 | cons c ks ih =>
  rw [List.map_cons,List.nodup_cons] at nd
  rw [List.find?_cons]
  rcases List.mem_cons.mp ha with rfl | ha
  ·rw [decide_eq_true ⟨rfl,rfl⟩]
  ·have:¬ (c.hand = a.hand /\ c.box = a.box):=fun z=>nd.1 (List.mem_map.mpr ⟨a,ha,z.1.symm⟩)
   rw [decide_eq_false this]
   exact ih nd.2 ha
theorem WI {K:FG7} {H:Hp} {k m:Nat} {rows:List (List Int)} {ks:List Ask} {vs:List V} (R:RndOk k m ks) (hl:vs.length = ks.length) (hv:∀ (i:Nat) (a:Ask) (v:V),ks[i]? = some a -> vs[i]? = some v -> zx K H v a.deed):TabR (lv0K ks vs) (2 ^ k) m (lvR k rows ks 0) (zx K H):=by
 have ek:(lv0K ks vs).map (·.1) = ks.map fun a=>keyR a.hand.toNat a.box.toNat:=by
  unfold lv0K
  rw [List.map_map]
  refine List.ext_getElem? fun i=>?_
  rw [List.getElem?_map,List.getElem?_map]
  by_cases h:i < ks.length
  ·rw [List.getElem?_eq_getElem (show i < (ks.zip vs).length by rw [List.length_zip]; omega),List.getElem?_eq_getElem h,List.getElem_zip]; rfl
  ·rw [List.getElem?_eq_none (by rw [List.length_zip]; omega),List.getElem?_eq_none (by omega)]; rfl
 refine ⟨fun p hp=>?_,?_,fun l b hlt hb hne=>?_⟩
 ·unfold lv0K at hp
  obtain ⟨⟨a,v⟩,hm,rfl⟩:=List.mem_map.mp hp
  obtain ⟨i,hi,e⟩:=List.getElem_of_mem hm
  rw [List.getElem_zip] at e
  have hi':i < ks.length:=by rw [List.length_zip] at hi; omega
  have hiv:i < vs.length:=by omega
  have ea:ks[i] = a:=congrArg Prod.fst e
  have ev:vs[i] = v:=congrArg Prod.snd e
  have ha:a ∈ ks:=ea ▸ List.getElem_mem hi'
  have hh:=R.hand a ha
  have hbx:=R.box a ha
  refine ⟨a.hand.toNat,a.box.toNat,a.deed,rfl,yT hh.1 hh.2,by omega,?_,hv i a v (by rw [List.getElem?_eq_getElem hi',ea]) (by rw [List.getElem?_eq_getElem hiv,ev])⟩
  show (ks.find? fun c=>decide (c.hand = ((a.hand.toNat:Nat):Int) /\ c.box = ((a.box.toNat:Nat):Int))).map (·.deed) = _
  rw [Int.toNat_of_nonneg hh.1,Int.toNat_of_nonneg hbx.1,sR R.nd ha]; rfl
 ·rw [ek]
  have nd:=R.nd
  unfold List.Nodup at nd ⊢
  rw [List.pairwise_map] at nd ⊢
  refine nd.imp_of_mem fun {a c} ha hc hne e=>hne ?_
  have:=yj e
  have h1:=(R.hand a ha).1
  have h2:=(R.hand c hc).1
  omega
 ·have hne':(ks.find? fun c=>decide (c.hand = (l:Int) /\ c.box = (b:Int))).map (·.deed) ≠ none:=hne
  cases hf:ks.find? fun c=>decide (c.hand = (l:Int) /\ c.box = (b:Int)) with
  | none=>rw [hf] at hne'; exact absurd rfl hne'
  | some a =>
   have ha:=List.mem_of_find?_eq_some hf
   have hd:decide (a.hand = (l:Int) /\ a.box = (b:Int)) = true:=by have z:=List.find?_some hf; exact z
   obtain ⟨h1,h2⟩:=of_decide_eq_true hd
   have hm:keyR l b ∈ (lv0K ks vs).map (·.1):=by
    rw [ek]
    exact List.mem_map.mpr ⟨a,ha,by rw [h1,h2]; rfl⟩
   cases hv':valV (lv0K ks vs) (keyR l b) with
   | none=>exact absurd hm (jd hv')
   | some v=>rfl
theorem Yi {ks:List Ask} {vs:List V}:(lv0K ks vs).length = min ks.length vs.length:=by unfold lv0K; rw [List.length_map,List.length_zip]
theorem WJ {k m n:Nat} {ks:List Ask} {vs:List V} {v:V} {a:Ask} (R:RndOk k m ks) (ha:ks[n]? = some a) (vl:vs.length = n):putK (lv0K (ks.take n) vs) (keyR a.hand.toNat a.box.toNat) v = lv0K (ks.take (n + 1)) (vs ++ [v]):=by
 have hn:=(List.getElem?_eq_some_iff.mp ha).1
 rw [jb]
 ·unfold lv0K
  rw [List.take_succ,ha,List.zip_append (by rw [List.length_take]; omega),List.map_append]; rfl
 ·cases hv:valV (lv0K (ks.take n) vs) (keyR a.hand.toNat a.box.toNat) with
  | none=>rfl
  | some u =>
   exfalso
   have:=tD hv
   unfold lv0K at this
   obtain ⟨⟨c,w⟩,hm,e⟩:=List.mem_map.mp this
   have hc:c ∈ ks.take n:=(List.of_mem_zip hm).1
   obtain ⟨h1,_⟩:=yj (congrArg Prod.fst e)
   have hck:=List.mem_of_mem_take hc
   have ha':=List.mem_of_getElem? ha
   have e1:c.hand = a.hand:=by have:=(R.hand c hck).1; have:=(R.hand a ha').1; have h1':c.hand.toNat = a.hand.toNat:=h1; omega
   obtain ⟨j,hj,ej⟩:=List.getElem_of_mem hc
   rw [List.length_take] at hj
   rw [List.getElem_take] at ej
   have nd:=R.nd
   have h2:(ks.map (·.hand))[j]'(by rw [List.length_map]; omega) = (ks.map (·.hand))[n]'(by rw [List.length_map]; omega):=by
    rw [List.getElem_map,List.getElem_map,ej,e1]
    rw [List.getElem?_eq_getElem hn] at ha
    rw [Option.some.inj ha]
   have:=(List.getElem_inj nd).mp h2
   omega
theorem XC {α:Type} {xs:List α} (h:xs ≠ []):∃ ys y,xs = ys ++ [y]:=⟨xs.dropLast,xs.getLast h,(List.dropLast_concat_getLast h).symm⟩
theorem jO {as bs:List Addr} {b c:Addr} (h:(as ++ bs).Nodup) (h1:∀ e ∈ as ++ bs,e ≠ b) (h2:∀ e ∈ as ++ bs,e ≠ c) (h3:b ≠ c):((as ++ [b]) ++ (bs ++ [c])).Nodup:=by
 have p:((as ++ [b]) ++ (bs ++ [c])).Perm (b :: c :: (as ++ bs)):=by
  have e1:(as ++ [b]) ++ (bs ++ [c]) = as ++ (b :: (bs ++ [c])):=by simp
  rw [e1]
  refine List.perm_middle.trans (List.Perm.cons b ?_)
  rw [← List.append_assoc]
  exact List.perm_append_singleton c (as ++ bs)
 refine p.nodup_iff.mpr ?_
 rw [List.nodup_cons,List.nodup_cons]
 refine ⟨fun z=>?_,fun z=>h2 c z rfl,h⟩
 rcases List.mem_cons.mp z with e | e
 ·exact h3 e
 ·exact h1 b e rfl
theorem Ut {ys:List Addr} {v:Addr}:atI ((ys ++ [v]).map V.ref) (-1) = some (V.ref v):=by
 refine jz (j:=ys.length) ?_ ?_
 ·unfold ixN
  rw [List.length_map,List.length_append,if_neg (by decide),if_pos (by show -((ys.length + 1:Nat):Int) <= -1; omega)]
  congr 1
  show (((ys.length + 1:Nat):Int) + -1).toNat = _
  omega
 ·rw [List.map_append,← List.length_map (f:=V.ref) (as:=ys)]
  exact List.getElem?_concat_length
structure PTab {α:Type} (kvs:List (List Key × V)) (n m:Nat) (f:Nat -> Nat -> Option α) (R:V -> α -> Prop) (i:Nat) (tk:List (List Key × V)):Prop where
 p1:∀ p ∈ tk,∃ l b x,p.1 = keyR l b /\ l < n /\ b < m /\ f l b = some x /\ R p.2 x
 p2:(tk.map (·.1)).Nodup
 p3:∀ j l b v,j < i -> kvs[j]? = some (keyR l b,v) -> (valV tk (keyR l b)).isSome = true
 p4:tk.length <= i
theorem PTab.nil {α:Type} {kvs:List (List Key × V)} {n m:Nat} {f:Nat -> Nat -> Option α} {R:V -> α -> Prop}:PTab kvs n m f R 0 []:=⟨(fun _ h=>nomatch h),List.nodup_nil,(fun _ _ _ _ h=>absurd h (Nat.not_lt_zero _)),Nat.le_refl _⟩
theorem PTab.step {α:Type} {kvs:List (List Key × V)} {n m:Nat} {f:Nat -> Nat -> Option α} {R:V -> α -> Prop} {i:Nat} {tk:List (List Key × V)} {l b:Nat} {v w:V} {x:α} (P:PTab kvs n m f R i tk) (hp:kvs[i]? = some (keyR l b,v)) (hl:l < n) (hb:b < m) (hx:f l b = some x) (hR:R w x):PTab kvs n m f R (i + 1) (putK tk (keyR l b) w) where
 p1:=fun p hp'=>by
  rcases vC p hp' with rfl | ⟨hm,_⟩
  ·exact ⟨l,b,x,rfl,hl,hb,hx,hR⟩
  ·exact P.p1 p hm
 p2:=ji P.p2
 p3:=fun j l' b' v' hj hj'=>by
  by_cases c:j < i
  ·exact xW (P.p3 j l' b' v' c hj')
  ·have e:j = i:=by omega
   rw [e,hp] at hj'
   obtain ⟨rfl,rfl⟩:=yj (congrArg Prod.fst (Option.some.inj hj'))
   exact xC
 p4:=Nat.le_trans (yx ..) (Nat.succ_le_succ P.p4)
theorem PTab.done {α β:Type} {kvs:List (List Key × V)} {n m:Nat} {f:Nat -> Nat -> Option α} {R:V -> α -> Prop} {f':Nat -> Nat -> Option β} {R':V -> β -> Prop} {tk:List (List Key × V)} (P:PTab kvs n m f R kvs.length tk) (T:TabR kvs n m f' R') (h:∀ l b,l < n -> b < m -> f l b ≠ none -> f' l b ≠ none):TabR tk n m f R :=
 ⟨P.p1,P.p2,fun l b hl hb hne=>by
  obtain ⟨j,v,hj,hjl⟩:=wm (T.all l b hl hb (h l b hl hb hne))
  exact P.p3 j l b v hjl hj⟩
def anF (k:Nat) (rows:List (List Int)) (ks:List Ask) (bd:Nat -> Int) (s l b:Nat):Option Int:=(lvR k rows ks s l b).map fun _=>stvR k rows ks bd (k - s) l b
def AnAt (H:Hp) (k m:Nat) (rows:List (List Int)) (ks:List Ask) (bd:Nat -> Int) (s:Nat) (d:Addr):Prop:=VL H d (2 ^ k) m (anF k rows ks bd s) (fun v x=>v = .int x)
section
variable {K:FG7} {H:Hp} {k m:Nat} {rows:List (List Int)} {ks:List Ask} {bd:Nat -> Int} {s:Nat} {d:Addr}
theorem XD {st l b:Nat} (s1:1 <= st) (sk:st <= k):stvR k rows ks bd (k - (st - 1)) l b = match kpR k rows ks st l b with
  | some d=>if l = x1R k rows st l then d.mk' (stvR k rows ks bd (k - st) (outR k st l b) b) else stvR k rows ks bd (k - st) (outR k st l b) b
  | none=>stvR k rows ks bd (k - st) (outR k st l b) b:=by
 have e1:k - (st - 1) = k - st + 1:=by omega
 have e2:k - (k - st) = st:=by omega
 have e:stvR k rows ks bd (k - st + 1) l b = match lvR k rows ks (k - (k - st) - 1) (x0R k rows (k - (k - st)) l) b,lvR k rows ks (k - (k - st) - 1) (x1R k rows (k - (k - st)) l) b with
  | some d,some _=>if l = x1R k rows (k - (k - st)) l then d.mk' (stvR k rows ks bd (k - st) (outR k (k - (k - st)) l b) b) else stvR k rows ks bd (k - st) (outR k (k - (k - st)) l b) b
  | _,_=>stvR k rows ks bd (k - st) (outR k (k - (k - st)) l b) b:=rfl
 rw [e1,e,e2]
 unfold kpR
 cases lvR k rows ks (st - 1) (x0R k rows st l) b with
 | none=>rfl
 | some d=>cases lvR k rows ks (st - 1) (x1R k rows st l) b <;> rfl
theorem KpAt.val {st l b:Nat} {kvs:List (List Key × V)} (k4:k <= 4) (hs:zB k rows) (s1:1 <= st) (sk:st <= k) (hl:l < 2 ^ k) (hb:b < m)
  (h3:∀ p ∈ kvs,∃ l b x,p.1 = keyR (nN k st l) b /\ l < 2 ^ k /\ b < m /\ kpR k rows ks st l b = some x /\ zx K H p.2 x)
  (h5:∀ l b,l < 2 ^ k -> b < m -> kpR k rows ks st l b ≠ none -> (valV kvs (keyR (nN k st l) b)).isSome = true) :
  match kpR k rows ks st l b with | some x=>∃ v,valV kvs (keyR (nN k st l) b) = some v /\ zx K H v x | none=>valV kvs (keyR (nN k st l) b) = none:=by
 have sound:∀ v,valV kvs (keyR (nN k st l) b) = some v -> ∃ x,kpR k rows ks st l b = some x /\ zx K H v x:=fun v hv=>by
  obtain ⟨l',b',x,e,h1,h2,h4,h6⟩:=h3 _ (tD hv)
  obtain ⟨e1,rfl⟩:=yj e
  exact ⟨x,(qd k4 hs s1 sk hl h1 e1).trans h4,h6⟩
 cases hv:valV kvs (keyR (nN k st l) b) with
 | some v =>
  obtain ⟨x,e,hd⟩:=sound v hv
  rw [e]
  exact ⟨v,rfl,hd⟩
 | none =>
  cases hk:kpR k rows ks st l b with
  | none=>rfl
  | some x =>
   have:=h5 l b hl hb (by rw [hk]; exact fun z=>nomatch z)
   rw [hv] at this; cases this
theorem tE {l b:Nat} (R:RndOk k m ks) (k4:k <= 4) (hs:zB k rows) (hl:l < 2 ^ k) (h:lvR k rows ks k l b ≠ none):l = b % 2 ^ k :=
 xz k4 hl zo fun t t1 tk=>qb k4 hs (Nat.le_refl k) hl (fun z=>h ((lvF R k l b).non.mpr z)) t t1 tk
def finR (k:Nat) (rows:List (List Int)) (ks:List Ask) (bd:Nat -> Int) (j:Nat):Int:=match lvR k rows ks k (j % 2 ^ k) j with
 | some d=>d.mk' (bd j)
 | none=>bd j
def bdF (b:List Int) (j:Nat):Int:=b.getD j 0
def ansR (k:Nat) (rows:List (List Int)) (ks:List Ask) (b:List Int):List Int:=ks.map fun a=>stvR k rows ks (bdF b) k a.hand.toNat a.box.toNat
def finL (k:Nat) (rows:List (List Int)) (ks:List Ask) (b:List Int):List Int:=(List.range b.length).map (finR k rows ks (bdF b))
def uJ (K:FG7):Sp:=sp6 fun x y z u w v H Q=>∃ (k st m:Nat) (d kp an:Addr) (rows:List (List Int)) (ks:List Ask) (bd:Nat -> Int),x = .int k /\ y = .int st /\ z = .ref d /\ u = .ref kp /\ v = .ref an /\ k <= 4 /\ 1 <= st /\ st <= k /\ m <= 16 /\ LvAt K H k m rows ks (st - 1) d /\ KpAt K H k m rows ks st kp /\ zM K H w rows /\ zB k rows /\ RndOk k m ks ∧
 AnAt H k m rows ks bd st an /\ d ≠ kp /\ d ≠ an /\ ∀ a' H',Grow [d] H H' -> H a' = none -> AnAt H' k m rows ks bd (st - 1) a' -> LvAt K H' k m rows ks (st - 1) d -> Q (.ref a') H'
def uK (K:FG7):Sp:=sp4 fun x y z u H Q=>∃ (k:Nat) (b:List Int) (ks:List Ask) (rows:List (List Int)),x = .int k /\ k <= 4 /\ zz K H y b /\ 1 <= b.length /\ b.length <= 16 /\ xf K H z ks /\ ks.length <= 16 /\ RndOk k b.length ks /\ zM K H u rows /\ zB k rows ∧
 ∀ y H',Grow [] H H' -> vd K H' y (ansR k rows ks b,finL k rows ks b) -> Q y H'
end
structure VI (kvs:List (List Key × V)) (b:List Int) (fin:Nat -> Int) (i:Nat) (w:List Int):Prop where
 len:w.length = b.length
 or:∀ j,j < b.length -> w[j]? = some (bdF b j) \/ w[j]? = some (fin j)
 dn:∀ i' l c v,i' < i -> kvs[i']? = some (keyR l c,v) -> c < b.length -> w[c]? = some (fin c)
theorem Yj {b:List Int} {j:Nat} (h:j < b.length):b[j]? = some (bdF b j):=by
 unfold bdF; rw [List.getD_eq_getElem?_getD,List.getElem?_eq_getElem h]; rfl
theorem VI.nil {kvs:List (List Key × V)} {b:List Int} {fin:Nat -> Int}:VI kvs b fin 0 b:=⟨rfl,fun _ h=>.inl (Yj h),fun _ _ _ _ h=>absurd h (Nat.not_lt_zero _)⟩
theorem VI.step {kvs:List (List Key × V)} {b:List Int} {fin:Nat -> Int} {i l c:Nat} {w:List Int} {v:V} (h:VI kvs b fin i w) (hp:kvs[i]? = some (keyR l c,v)) (hc:c < b.length):VI kvs b fin (i + 1) (w.set c (fin c)):=by
 have hw:c < w.length:=by rw [h.len]; exact hc
 refine ⟨by rw [List.length_set]; exact h.len,fun j hj=>?_,fun i' l' c' v' hi hp' hc'=>?_⟩
 ·by_cases e:c = j
  ·subst e; exact .inr (List.getElem?_set_self hw)
  ·rw [List.getElem?_set_ne e]; exact h.or j hj
 ·by_cases e:c = c'
  ·subst e; exact List.getElem?_set_self hw
  ·rw [List.getElem?_set_ne e]
   by_cases hii:i' < i
   ·exact h.dn i' l' c' v' hii hp' hc'
   ·have:i' = i:=by omega
    rw [this,hp] at hp'
    exact absurd (yj (congrArg Prod.fst (Option.some.inj hp'))).2 e
theorem VI.done {kvs:List (List Key × V)} {k:Nat} {rows:List (List Int)} {ks:List Ask} {b w:List Int} {R:V -> Deed -> Prop} (h:VI kvs b (finR k rows ks (bdF b)) kvs.length w) (T:TabR kvs (2 ^ k) b.length (lvR k rows ks k) R):w = finL k rows ks b:=by
 have el:(finL k rows ks b).length = b.length:=by unfold finL; rw [List.length_map,List.length_range]
 have gf:∀ j,j < b.length -> (finL k rows ks b)[j]? = some (finR k rows ks (bdF b) j):=fun j hj=>by
  unfold finL; rw [List.getElem?_map,List.getElem?_range hj]; rfl
 refine List.ext_getElem? fun j=>?_
 by_cases hj:j < b.length
 ·rw [gf j hj]
  cases hl:lvR k rows ks k (j % 2 ^ k) j with
  | none =>
   have e:finR k rows ks (bdF b) j = bdF b j:=by unfold finR; rw [hl]
   rcases h.or j hj with z | z
   ·rw [z,e]
   ·exact z
  | some d =>
   obtain ⟨i',v,hp,hi⟩:=wm (T.all (j % 2 ^ k) j (zo (k:=k) (b:=j)) hj (by rw [hl]; exact fun z=>nomatch z))
   exact h.dn i' _ j v hi hp hj
 ·rw [List.getElem?_eq_none (by rw [h.len]; omega),List.getElem?_eq_none (by omega)]
theorem NetR.walk {K:FG7} {H H':Hp} {k m:Nat} {rows:List (List Int)} {ks:List Ask} {ds kps:List Addr} {s:Nat} {d:Addr} (N:NetR K H k m rows ks ds kps) (hd:ds[s]? = some d) (g:Grow [d] H H') (L:LvAt K H' k m rows ks s d):NetR K H' k m rows ks ds kps:=by
 have nd:=List.nodup_append.mp N.nd
 refine ⟨fun s' d' h=>?_,fun s' d' h=>?_,N.nd⟩
 ·by_cases c:d' = d
  ·subst c
   have e:s' = s:=by
    obtain ⟨h1,h2⟩:=List.getElem?_eq_some_iff.mp h
    obtain ⟨h3,h4⟩:=List.getElem?_eq_some_iff.mp hd
    exact (List.getElem_inj nd.1).mp (h2.trans h4.symm)
   rw [e]; exact L
  ·exact (N.lv s' d' h).grow g (by simpa using c)
 ·exact (N.kp s' d' h).grow g (by simpa using fun z=>nd.2.2 d (List.mem_of_getElem? hd) d' (List.mem_of_getElem? h) z.symm)
theorem NetR.ndk {K:FG7} {H:Hp} {k m:Nat} {rows:List (List Int)} {ks:List Ask} {ds kps:List Addr} {d e:Addr} (N:NetR K H k m rows ks ds kps) (h:d ∈ ds) (h':e ∈ kps):d ≠ e:=(List.nodup_append.mp N.nd).2.2 d h e h'
theorem Grow.tfresh {ms:List Addr} {H H1 H2:Hp} (g:Grow [] H H1) (g':Grow ms H1 H2) (h:∀ d ∈ ms,H d = none):Grow [] H H2:=(g.wk.trans g').less fun b hb=>.inr (h b hb)
theorem wW {α:Type} {xs:List α} {f:α -> V} {i:Int} {j:Nat} {x:α} (e:i = j) (h:xs[j]? = some x):atI (xs.map f) i = some (f x):=by
 subst e
 have hj:=(List.getElem?_eq_some_iff.mp h).1
 exact jz (vN (by omega) (by rw [List.length_map]; exact hj)) (by rw [List.getElem?_map,show ((j:Int).toNat) = j from rfl,h]; rfl)
theorem VM {k m:Nat} {rows:List (List Int)} {ks:List Ask} {bd:Nat -> Int} {a:Ask} (R:RndOk k m ks) (ha:a ∈ ks):anF k rows ks bd 0 a.hand.toNat a.box.toNat = some (stvR k rows ks bd k a.hand.toNat a.box.toNat):=by
 have e:lvR k rows ks 0 a.hand.toNat a.box.toNat ≠ none:=by
  unfold lvR
  intro z
  have f:=sR R.nd ha
  simp only [Option.map_eq_none_iff] at z
  rw [List.find?_eq_none] at z
  exact z a ha (by simp [Int.toNat_of_nonneg (R.hand a ha).1,Int.toNat_of_nonneg (R.box a ha).1])
 unfold anF
 cases h:lvR k rows ks 0 a.hand.toNat a.box.toNat with
 | none=>exact absurd h e
 | some d=>rfl
def atB (j:Nat) (as:List Ask):List Ask:=as.filter fun a=>decide (a.box = (j:Int))
def hndE (k:Nat) (ks:List Ask) (e h:Nat):List Ask:=ks.filter fun a=>decide (a.hand = (h:Int) /\ a.box % ((2 ^ k:Nat):Int) = (e:Int))
def dueE (k:Nat) (rows:List (List Int)) (ks:List Ask) (e:Nat):List Ask:=(ordL k rows e k).flatMap (hndE k ks e)
def dueN (k:Nat) (rows:List (List Int)) (ks:List Ask) (n:Nat):List Ask:=(List.range n).flatMap (dueE k rows ks)
def AnsD (b:List Int) (as:List Ask) (tk:List (Key × V)):Prop:=tk.length <= as.length /\ ∀ a ∈ as,∃ a' pre post,a' ∈ as /\ a'.hand = a.hand /\ as = pre ++ [a'] ++ post /\ valV tk (.inl a.hand) = some (.int (runR (bdF b a'.box.toNat) (atB a'.box.toNat pre)))
theorem AnsD.nil {b:List Int}:AnsD b [] []:=⟨Nat.le_refl _,fun _ h=>nomatch h⟩
section
variable {k m:Nat} {rows:List (List Int)} {ks:List Ask} {b:List Int}
theorem tF {j e:Nat}:((j:Int) % ((2 ^ k:Nat):Int) = (e:Int)) ↔ j % 2 ^ k = e:=by
 rw [← Int.natCast_emod]; exact Int.ofNat_inj
theorem VN (k4:k <= 4) (hs:zB k rows) {j:Nat}:atB j (dueN k rows ks (2 ^ k)) = arrR k rows ks k (j % 2 ^ k) j:=by
 rw [qc k4 hs k (Nat.le_refl k),Nat.sub_self]
 have e1:∀ e,atB j (dueE k rows ks e) = if e = j % 2 ^ k then (ordL k rows (j % 2 ^ k) k).flatMap fun l=>arrR k rows ks 0 l j else []:=fun e=>by
  unfold atB dueE
  rw [List.filter_flatMap]
  by_cases c:e = j % 2 ^ k
  ·rw [if_pos c,← c]
   refine xv fun h _=>?_
   unfold hndE
   rw [List.filter_filter]
   show _ = ks.filter fun a=>decide (a.hand = (h:Int) /\ a.box = (j:Int))
   congr 1
   funext a
   rw [← Bool.decide_and]
   refine decide_eq_decide.mpr ⟨fun z=>⟨z.2.1,z.1⟩,fun z=>⟨z.2,z.1,by rw [z.2]; exact tF.mpr c.symm⟩⟩
  ·rw [if_neg c]
   refine List.flatMap_eq_nil_iff.mpr fun h _=>List.filter_eq_nil_iff.mpr fun a ha z=>?_
   have z1:=of_decide_eq_true z
   have z2:=of_decide_eq_true (List.mem_filter.mp ha).2
   exact c (tF.mp (by rw [← z1]; exact z2.2)).symm
 unfold dueN
 have e2:atB j ((List.range (2 ^ k)).flatMap (dueE k rows ks)) = (List.range (2 ^ k)).flatMap fun e=>atB j (dueE k rows ks e):=by unfold atB; rw [List.filter_flatMap]
 rw [e2]
 have e3:(List.range (2 ^ k)).flatMap (fun e=>atB j (dueE k rows ks e)) = (List.range (2 ^ k)).flatMap fun e=>if e = j % 2 ^ k then (ordL k rows (j % 2 ^ k) k).flatMap fun l=>arrR k rows ks 0 l j else []:=xv fun e _=>e1 e
 rw [e3]
 have one:∀ (L:List Ask) (n x:Nat),(List.range n).flatMap (fun e=>if e = x then L else []) = if x < n then L else []:=by
  intro L n x
  induction n with
  | zero=>rfl
  | succ n ih =>
   rw [List.range_succ,List.flatMap_append,ih,List.flatMap_cons,List.flatMap_nil,List.append_nil]
   by_cases c:x < n
   ·rw [if_pos c,if_neg (by omega),if_pos (by omega),List.append_nil]
   ·rw [if_neg c]
    by_cases c2:n = x
    ·rw [if_pos c2,if_pos (by omega),List.nil_append]
    ·rw [if_neg c2,if_neg (by omega),List.nil_append]
 rw [one,if_pos (zo (k:=k) (b:=j))]
theorem Yk (k4:k <= 4) (hs:zB k rows) (R:RndOk k m ks) {j:Nat}:(arrR k rows ks k (j % 2 ^ k) j).Nodup:=by
 rw [qc k4 hs k (Nat.le_refl k),Nat.sub_self]
 have ndk:ks.Nodup:=List.Pairwise.of_map (f:=(·.hand)) (S:=(· ≠ ·)) (fun a b h z=>h (by rw [z])) R.nd
 have ndo:(ordL k rows (j % 2 ^ k) k).Nodup:=(Xk k4 hs (zo (k:=k) (b:=j))).nodup_iff.mpr List.nodup_range
 unfold List.Nodup
 rw [List.pairwise_flatMap]
 refine ⟨fun l _=>ndk.filter _,ndo.imp fun {x y} hxy a ha c hc z=>?_⟩
 have h1:=of_decide_eq_true (List.mem_filter.mp ha).2
 have h2:=of_decide_eq_true (List.mem_filter.mp hc).2
 rw [z] at h1
 have:=h1.1.symm.trans h2.1
 exact hxy (by omega)
theorem WK (k4:k <= 4) (hs:zB k rows) (R:RndOk k m ks) {a:Ask} (ha:a ∈ ks):a ∈ dueN k rows ks (2 ^ k):=by
 have hh:=R.hand a ha
 have hb:=R.box a ha
 have he:a.box.toNat % 2 ^ k < 2 ^ k:=zo (k:=k) (b:=a.box.toNat)
 have hl:a.hand.toNat < 2 ^ k:=yT hh.1 hh.2
 refine List.mem_flatMap.mpr ⟨a.box.toNat % 2 ^ k,List.mem_range.mpr he,List.mem_flatMap.mpr ⟨a.hand.toNat,?_,?_⟩⟩
 ·exact (ordF k4 hs he k (Nat.le_refl k)).all _ hl fun t t1 t2=>by omega
 ·refine List.mem_filter.mpr ⟨ha,decide_eq_true ⟨(Int.toNat_of_nonneg hh.1).symm,?_⟩⟩
  have:=(tF (k:=k) (j:=a.box.toNat) (e:=a.box.toNat % 2 ^ k)).mpr rfl
  rw [Int.toNat_of_nonneg hb.1] at this; exact this
theorem VO {n:Nat} {a:Ask} (h:a ∈ dueN k rows ks n):a ∈ ks:=by
 obtain ⟨e,_,h⟩:=List.mem_flatMap.mp h
 obtain ⟨l,_,h⟩:=List.mem_flatMap.mp h
 exact (List.mem_filter.mp h).1
end
theorem AllA.ins {K:FG7} {H:Hp} {y:V} {a:Ask} (ha:ug K H y a):∀ {xs:List V} {ks:List Ask} {i:Nat},AllA K H xs ks -> AllA K H (xs.take i ++ [y] ++ xs.drop i) (ks.take i ++ [a] ++ ks.drop i)
 | xs,ks,0,h=>⟨ha,h⟩
 | [],[],i + 1,h=>⟨ha,trivial⟩
 | x :: xs,k :: ks,i + 1,h=>⟨h.1,AllA.ins ha (i:=i) h.2⟩
structure RndS (j m:Nat) (ks:List Ask):Prop where
 nd:(ks.map (·.hand)).Nodup
 hand:∀ a ∈ ks,0 <= a.hand /\ a.hand < (j:Int)
 box:∀ a ∈ ks,0 <= a.box /\ a.box < (m:Int)
 ok:∀ a ∈ ks,a.deed.Ok
 sm:∀ a ∈ ks,a.deed.Sm
theorem RndS.nil {j m:Nat}:RndS j m []:=⟨List.nodup_nil,(fun _ h=>nomatch h),(fun _ h=>nomatch h),(fun _ h=>nomatch h),(fun _ h=>nomatch h)⟩
theorem RndS.next {j m:Nat} {ks:List Ask} (h:RndS j m ks):RndS (j + 1) m ks:=⟨h.nd,fun a ha=>by have:=h.hand a ha; omega,h.box,h.ok,h.sm⟩
theorem RndS.ins {j m i:Nat} {ks:List Ask} {a:Ask} (h:RndS j m ks) (h1:a.hand = (j:Int)) (h2:0 <= a.box /\ a.box < (m:Int)) (h3:a.deed.Ok) (h4:a.deed.Sm):RndS (j + 1) m (ks.take i ++ [a] ++ ks.drop i):=by
 have mem:∀ c ∈ ks.take i ++ [a] ++ ks.drop i,c = a \/ c ∈ ks:=fun c hc=>by
  rcases List.mem_append.mp hc with hc | hc
  ·rcases List.mem_append.mp hc with hc | hc
   ·exact .inr (List.mem_of_mem_take hc)
   ·exact .inl (List.mem_singleton.mp hc)
  ·exact .inr (List.mem_of_mem_drop hc)
 have pm:(ks.take i ++ [a] ++ ks.drop i).Perm (a :: ks):=by
  have p1:(ks.take i ++ [a]).Perm (a :: ks.take i):=List.perm_append_singleton a (ks.take i)
  have p2:=p1.append_right (ks.drop i)
  rw [List.cons_append,List.take_append_drop] at p2
  exact p2
 refine ⟨?_,fun c hc=>?_,fun c hc=>?_,fun c hc=>?_,fun c hc=>?_⟩
 ·refine ((pm.map (·.hand)).nodup_iff).mpr ?_
  rw [List.map_cons,List.nodup_cons]
  refine ⟨fun z=>?_,h.nd⟩
  obtain ⟨c,hc,e⟩:=List.mem_map.mp z
  have:=(h.hand c hc).2
  rw [e,h1] at this
  omega
 ·rcases mem c hc with rfl | hc
  ·rw [h1]; omega
  ·have:=h.hand c hc; omega
 ·rcases mem c hc with rfl | hc
  ·exact h2
  ·exact h.box c hc
 ·rcases mem c hc with rfl | hc
  ·exact h3
  ·exact h.ok c hc
 ·rcases mem c hc with rfl | hc
  ·exact h4
  ·exact h.sm c hc
theorem RndS.done {k m:Nat} {ks:List Ask} (h:RndS (2 ^ k) m ks):RndOk k m ks:=by
 have e:((2 ^ k:Nat):Int) = 2 ^ k:=by simp
 refine ⟨h.nd,fun a ha=>?_,h.box,h.ok⟩
 have:=h.hand a ha
 rw [e] at this
 exact this
theorem Yl {c:TT} {t u:TS} {D:Ends} {σ:L2.St} {H:Hp} (Good:Hp -> Prop) (hc:∀ K:Bool -> Hp -> Prop,(∀ b H',Good H' -> K b H') -> c σ H K) (ht:∀ H',Good H' -> t D σ H') (hu:∀ H',Good H' -> u D σ H'):tIfS c t u D σ H:=hc _ fun b H' g=>by
 cases b with
 | true=>exact iteT (ht H' g)
 | false=>exact iteF (hu H' g)
structure OrdB (n:Nat) (lt:Nat -> Nat -> Bool):Prop where
 tr:∀ {i j k:Nat},lt i j = true -> lt j k = true -> lt i k = true
 as:∀ {i j:Nat},lt i j = true -> lt j i = false
 to:∀ {i j:Nat},i < n -> j < n -> i ≠ j -> lt i j = false -> lt j i = true
structure PmA (n:Nat) (p:Array Nat):Prop where
 sz:p.size = n
 pm:p.toList.Perm (List.range n)
theorem PmA.lt {n:Nat} {p:Array Nat} (h:PmA n p) {i:Nat} (hi:i < n):p.getD i 0 < n:=by
 have hi':i < p.toList.length:=by rw [Array.length_toList,h.sz]; exact hi
 have e:p.getD i 0 = p.toList[i]:=by simp [Array.getD,h.sz,hi]
 rw [e]
 exact List.mem_range.mp (h.pm.mem_iff.mp (List.getElem_mem hi'))
theorem PmA.inj {n:Nat} {p:Array Nat} (h:PmA n p) {i j:Nat} (hi:i < n) (hj:j < n) (hne:i ≠ j):p.getD i 0 ≠ p.getD j 0:=by
 have hi':i < p.toList.length:=by rw [Array.length_toList,h.sz]; exact hi
 have hj':j < p.toList.length:=by rw [Array.length_toList,h.sz]; exact hj
 have e:p.getD i 0 = p.toList[i]:=by simp [Array.getD,h.sz,hi]
 have e':p.getD j 0 = p.toList[j]:=by simp [Array.getD,h.sz,hj]
 rw [e,e']
 intro z
 exact hne ((List.getElem_inj (h.pm.nodup_iff.mpr List.nodup_range)).mp z)
theorem PmA.of_perm {n:Nat} {p q:Array Nat} (h:PmA n p) (hq:q.Perm p):PmA n q :=
 ⟨hq.size_eq.trans h.sz,(Array.perm_iff_toList_perm.mp hq).trans h.pm⟩
def Ups (lt:Nat -> Nat -> Bool) (p:Array Nat) (k:Nat):Prop:=∀ i j,i < j -> j < k -> lt (p.getD i 0) (p.getD j 0) = true
def qf (lt:Nat -> Nat -> Bool) (p:Array Nat) (k:Nat):Prop:=∀ i j,i < j -> j < k -> lt (p.getD j 0) (p.getD i 0) = true
theorem jj {p q:Array Nat} {i j:Nat} (h:p[i]? = q[j]?):p.getD i 0 = q.getD j 0:=by
 rw [Array.getD_eq_getD_getElem?,Array.getD_eq_getD_getElem?,h]
section
variable {n:Nat} {lt:Nat -> Nat -> Bool} {cmp:Nat -> Nat -> (Bool -> Shared -> Prop) -> Shared -> Prop} {s:Shared}
def Says (n:Nat) (lt:Nat -> Nat -> Bool) (cmp:Nat -> Nat -> (Bool -> Shared -> Prop) -> Shared -> Prop) (s:Shared):Prop:=∀ i j (C:Bool -> Shared -> Prop),i < n -> j < n -> C (lt i j) s -> cmp i j C s
theorem Ups.snoc {p:Array Nat} {m:Nat} (o:OrdB n lt) (h1:1 <= m) (u:Ups lt p m) (e:lt (p.getD (m - 1) 0) (p.getD m 0) = true):Ups lt p (m + 1):=by
 intro i j hij hj
 by_cases hjm:j < m
 ·exact u i j hij hjm
 ·obtain rfl:j = m:=by omega
  by_cases hi:i = j - 1
  ·subst hi; exact e
  ·exact o.tr (u i (j - 1) (by omega) (by omega)) e
theorem tG (o:OrdB n lt) (hc:Says n lt cmp s) {p:Array Nat} (hp:PmA n p):∀ (f m:Nat) {Q:Nat -> Shared -> Prop},1 <= m -> m + f = n -> Ups lt p m →
  (∀ k,m <= k -> k <= n -> Ups lt p k -> (k = n \/ lt (p.getD k 0) (p.getD (k - 1) 0) = true) -> Q k s) -> (kas_asc p f m).kasWp cmp Q s
 | 0,m,Q,h1,e,u,q=>q m (Nat.le_refl _) (by omega) u (.inl (by omega))
 | f + 1,m,Q,h1,e,u,q=>by
  refine hc _ _ _ (hp.lt (by omega)) (hp.lt (by omega)) ?_
  cases c:lt (p.getD m 0) (p.getD (m - 1) 0) with
  | true =>
   dsimp only
   rw [if_pos rfl]
   exact q m (Nat.le_refl _) (by omega) u (.inr c)
  | false =>
   dsimp only
   rw [if_neg (by decide)]
   exact tG o hc hp f (m + 1) (by omega) (by omega) (u.snoc o h1 (o.to (hp.lt (by omega)) (hp.lt (by omega)) (hp.inj (by omega) (by omega) (by omega)) c)) fun k hk=>q k (by omega)
theorem qf.snoc {p:Array Nat} {m:Nat} (o:OrdB n lt) (h1:1 <= m) (u:qf lt p m) (e:lt (p.getD m 0) (p.getD (m - 1) 0) = true):qf lt p (m + 1):=by
 intro i j hij hj
 by_cases hjm:j < m
 ·exact u i j hij hjm
 ·obtain rfl:j = m:=by omega
  by_cases hi:i = j - 1
  ·subst hi; exact e
  ·exact o.tr e (u i (j - 1) (by omega) (by omega))
theorem sS (o:OrdB n lt) (hc:Says n lt cmp s) {p:Array Nat} (hp:PmA n p):∀ (f m:Nat) {Q:Array Nat × Nat × Nat -> Shared -> Prop},1 <= m -> m + f = n -> qf lt p m →
  (∀ k,m <= k -> k <= n -> qf lt p k -> Q (p,k,0) s) -> (kas_desc f p m 0).kasWp cmp Q s
 | 0,m,Q,h1,e,u,q=>q m (Nat.le_refl _) (by omega) u
 | f + 1,m,Q,h1,e,u,q=>by
  refine hc _ _ _ (hp.lt (by omega)) (hp.lt (by omega)) ?_
  cases c:lt (p.getD m 0) (p.getD (m - 1) 0) with
  | true =>
   dsimp only
   rw [if_pos rfl,if_neg (by decide)]
   exact sS o hc hp f (m + 1) (by omega) (by omega) (u.snoc o h1 c) fun k hk=>q k (by omega)
  | false =>
   dsimp only
   rw [if_neg (by decide)]
   refine hc _ _ _ (hp.lt (by omega)) (hp.lt (by omega)) ?_
   rw [o.to (hp.lt (by omega)) (hp.lt (by omega)) (hp.inj (by omega) (by omega) (by omega)) c]
   dsimp only
   rw [if_pos rfl]
   exact q m (Nat.le_refl _) (by omega) u
theorem WL {p:Array Nat} {k:Nat} (hp:PmA n p) (hk:k <= n) (d:qf lt p k):Ups lt (kas_rev p 0 k) k:=by
 intro i j hij hj
 have g:∀ x,x < k -> (kas_rev p 0 k).getD x 0 = p.getD (k - 1 - x) 0:=fun x hx=>by
  refine jj ?_
  unfold kas_rev
  rw [getElem?_mirror_all (by rw [hp.sz]; exact hk),if_pos (by omega)]
  congr 1; omega
 rw [g i (by omega),g j hj]
 exact d _ _ (by omega) (by omega)
theorem Ym (o:OrdB n lt) (hc:Says n lt cmp s) {p:Array Nat} (hp:PmA n p) {k:Nat} (h1:1 <= k) (hk:k <= n) (d:qf lt p k) {Q:Nat × Array Nat -> Shared -> Prop}
  (q:∀ m p',PmA n p' -> 1 <= m -> m <= n -> Ups lt p' m -> Q (m,p') s):(kas_tail3 k n p).kasWp cmp Q s:=by
 unfold kas_tail3
 rw [KasT.kasWp_bind]
 have hp':PmA n (kas_rev p 0 k):=hp.of_perm (mirror_perm _ _ _ _)
 exact tG o hc hp' (n - k) k h1 (by omega) (WL hp hk d) fun m hm hm' u _=>q m _ hp' (by omega) hm' u
theorem Yn (o:OrdB n lt) (hc:Says n lt cmp s) {p:Array Nat} (hp:PmA n p) (h2:2 <= n) (c:lt (p.getD 1 0) (p.getD 0 0) = true) {Q:Nat × Array Nat -> Shared -> Prop}
  (q:∀ m p',PmA n p' -> 1 <= m -> m <= n -> Ups lt p' m -> Q (m,p') s):(kas_descPart 1 n p).kasWp cmp Q s:=by
 unfold kas_descPart
 rw [KasT.kasWp_bind]
 refine sS o hc hp (n - 2) 2 (by decide) (by omega) (fun i j hij hj=>?_) fun k hk hk' d=>?_
 ·obtain rfl:i = 0:=by omega
  obtain rfl:j = 1:=by omega
  exact c
 ·dsimp only
  rw [if_neg (by omega)]
  exact Ym o hc hp (by omega) hk' d q
theorem jP (o:OrdB n lt) (hc:Says n lt cmp s) {p:Array Nat} (hp:PmA n p) (h2:2 <= n) {Q:Nat × Array Nat -> Shared -> Prop}
  (q:∀ m p',PmA n p' -> 1 <= m -> m <= n -> Ups lt p' m -> Q (m,p') s):(kas_count n p).kasWp cmp Q s:=by
 unfold kas_count
 rw [KasT.kasWp_bind]
 refine tG o hc hp (n - 1) 1 (Nat.le_refl _) (by omega) (fun i j hij hj=>by omega) fun k h1 hk u e=>?_
 by_cases hkn:k = n
 ·rw [if_pos (by simpa using hkn)]
  exact q k p hp h1 hk u
 rw [if_neg (by simpa using hkn)]
 have e:=e.resolve_left hkn
 by_cases hg:k > 1
 ·rw [if_pos hg]
  refine hc _ _ _ (hp.lt (by omega)) (hp.lt (by omega)) ?_
  rw [u 0 (k - 1) (by omega) (by omega)]
  dsimp only
  rw [if_pos rfl]
  exact q k p hp h1 hk u
 ·rw [if_neg hg]
  obtain rfl:k = 1:=by omega
  exact Yn o hc hp h2 e q
theorem wX (o:OrdB n lt) (hc:Says n lt cmp s) {p:Array Nat} (hp:PmA n p) {k:Nat} (hk:k < n) (u:Ups lt p k):∀ (f l r:Nat) {Q:Nat -> Shared -> Prop},l <= r -> r <= k -> r - l <= f →
  (∀ i,i < l -> lt (p.getD i 0) (p.getD k 0) = true) -> (∀ i,r <= i -> i < k -> lt (p.getD k 0) (p.getD i 0) = true) →
  (∀ x,x <= k -> (∀ i,i < x -> lt (p.getD i 0) (p.getD k 0) = true) -> (∀ i,x <= i -> i < k -> lt (p.getD k 0) (p.getD i 0) = true) -> Q x s) -> (kas_place p k f l r).kasWp cmp Q s
 | 0,l,r,Q,h1,h2,h3,a,b,q=>q l (by omega) a fun i hi=>b i (by omega)
 | f + 1,l,r,Q,h1,h2,h3,a,b,q=>by
  unfold kas_place
  by_cases hlr:l >= r
  ·rw [if_pos hlr]
   exact q l (by omega) a fun i hi=>b i (by omega)
  rw [if_neg hlr]
  refine hc _ _ _ (hp.lt hk) (hp.lt (by omega)) ?_
  cases c:lt (p.getD k 0) (p.getD ((l + r) / 2) 0) with
  | true =>
   dsimp only
   rw [if_pos rfl]
   refine wX o hc hp hk u f l ((l + r) / 2) (by omega) (by omega) (by omega) a (fun i hi hik=>?_) q
   by_cases e:i = (l + r) / 2
   ·rw [e]; exact c
   ·exact o.tr c (u _ i (by omega) hik)
  | false =>
   dsimp only
   rw [if_neg (by decide)]
   have c':=o.to (hp.lt hk) (hp.lt (by omega)) (hp.inj hk (by omega) (by omega)) c
   refine wX o hc hp hk u f ((l + r) / 2 + 1) r (by omega) h2 (by omega) (fun i hi=>?_) b q
   by_cases e:i = (l + r) / 2
   ·rw [e]; exact c'
   ·exact o.tr (u i _ (by omega) (by omega)) c'
theorem WM {p:Array Nat} {k x:Nat} (o:OrdB n lt) (hp:PmA n p) (hk:k < n) (u:Ups lt p k) (hx:x <= k) (a:∀ i,i < x -> lt (p.getD i 0) (p.getD k 0) = true) (b:∀ i,x <= i -> i < k -> lt (p.getD k 0) (p.getD i 0) = true):Ups lt (bubble p k (k - x)) (k + 1):=by
 have g:=fun i=>getElem?_bubble (xs:=p) (src:=k) (by rw [hp.sz]; exact hk) (k - x) (by omega) i
 have e:k - (k - x) = x:=by omega
 rw [e] at g
 have g1:∀ i,i < x -> (bubble p k (k - x)).getD i 0 = p.getD i 0:=fun i hi=>jj (by rw [g,if_neg (by omega),if_neg (by omega)])
 have g2:(bubble p k (k - x)).getD x 0 = p.getD k 0:=jj (by rw [g,if_pos rfl])
 have g3:∀ i,x < i -> i <= k -> (bubble p k (k - x)).getD i 0 = p.getD (i - 1) 0:=fun i hi hik=>jj (by rw [g,if_neg (by omega),if_pos ⟨hi,hik⟩])
 intro i j hij hj
 rcases Nat.lt_trichotomy j x with h | h | h
 ·rw [g1 i (by omega),g1 j h]; exact u i j hij (by omega)
 ·subst h; rw [g1 i hij,g2]; exact a i hij
 ·rw [g3 j h (by omega)]
  rcases Nat.lt_trichotomy i x with h' | h' | h'
  ·rw [g1 i h']; exact u i _ (by omega) (by omega)
  ·subst h'; rw [g2]; exact b _ (by omega) (by omega)
  ·rw [g3 i h' (by omega)]; exact u _ _ (by omega) (by omega)
theorem jk (o:OrdB n lt) (hc:Says n lt cmp s):∀ (f:Nat) (p:Array Nat) (k:Nat) {Q:Array Nat -> Shared -> Prop},PmA n p -> k + f = n -> Ups lt p k -> (∀ p',PmA n p' -> Ups lt p' n -> Q p' s) -> (kas_bin f p k).kasWp cmp Q s
 | 0,p,k,Q,hp,e,u,q=>q p hp (by rw [← show k = n by omega]; exact u)
 | f + 1,p,k,Q,hp,e,u,q=>by
  unfold kas_bin
  rw [KasT.kasWp_bind]
  refine wX o hc hp (by omega) u k 0 k (Nat.zero_le _) (Nat.le_refl _) (by omega) (fun i hi=>by omega) (fun i h1 h2=>by omega) fun x hx a b=>?_
  exact jk o hc f _ (k + 1) (hp.of_perm (bubble_perm _ _ _)) (by omega) (WM o hp (by omega) u hx a b) q
theorem Yo (o:OrdB n lt) (hc:Says n lt cmp s) (h2:2 <= n) {Q:Array Nat -> Shared -> Prop} (q:∀ p,PmA n p -> Ups lt p n -> Q p s):(kas_sort n).kasWp cmp Q s:=by
 unfold kas_sort
 rw [KasT.kasWp_bind]
 have h0:PmA n (List.toArray (List.range n)):=⟨by simp,by simp⟩
 refine jP o hc h0 h2 fun m p hp h1 hm u=>?_
 by_cases hmn:m < n
 ·rw [if_pos hmn]
  have e:max m 1 = m:=by omega
  show (kas_bin (n - max m 1) p (max m 1)).kasWp cmp Q s
  rw [e]
  exact jk o hc (n - m) p m hp (by omega) u q
 ·rw [if_neg hmn]
  obtain rfl:m = n:=by omega
  exact q p hp u
end
section
variable {prog:Program} {w:World} {A:Around} {E:VS7} {s:Shared}
def Asks (prog:Program) (w:World) (A:Around) (s:Shared) (a:Addr) (vs:List Value) (lt:Nat -> Nat -> Bool):Prop:=∃ κ,∀ h':Heap,(∀ b ob,b ≠ a -> s.heap.get? b = some ob -> h'.get? b = some ob) →
 (∀ (Q:SortKind -> Shared -> Prop) (E':VS7),Q κ { s with heap:=h' } -> wpAny (model prog w) A (keyKind' vs.toArray) Q E' { s with heap:=h' }) /\ Says vs.length lt (kas_ask prog w A κ vs) { s with heap:=h' }
theorem Yp (vs:List Value):((List.range vs.length).map fun i=>vs.getD i Value.none) = vs:=by
 refine List.ext_getElem? fun i=>?_
 rw [List.getElem?_map]
 by_cases h:i < vs.length
 ·rw [List.getElem?_range h]
  show some (vs.getD i Value.none) = _
  rw [List.getD_eq_getElem?_getD,List.getElem?_eq_getElem h]; rfl
 ·rw [List.getElem?_eq_none (by rw [List.length_range]; omega),List.getElem?_eq_none (by omega)]; rfl
theorem Yq {a:Addr} {vs:List Value} {n:Nat} {P:PySem.Fin -> Shared -> Prop} {lt:Nat -> Nat -> Bool} (here:s.heap.get? a = some (seqObj "list" vs.toArray n)) (few:vs.length < 64) (o:OrdB vs.length lt) (asks:2 <= vs.length -> Asks prog w A s a vs lt)
  (fin:∀ p,PmA vs.length p -> Ups lt p vs.length -> P (.done (.ret .none)) { s with heap:=sortedHeap s.heap a vs (List.toArray (p.toList.map fun i=>vs.getD i Value.none)) }) :
  wpAny (model prog w) A (Builtin.«list.sort» ⟨[.ref a],[]⟩) P E s:=by
 have low:a < s.heap.objs.size:=Heap.lt_size here
 obtain ⟨ep,emp⟩:∃ ep,(s.heap.update a (Obj.mapSeq fun _=>(#[]:Array Value))).get? a = some (seqObj "list" #[] ep):=⟨_,get?_update_seq here fun _=>#[]⟩
 have big:sizeLine = sizeLine:=rfl
 have fits:vs.length <= sizeLine:=by have:=sizeLine_eq; omega
 have empty:(((s.heap.update a (Obj.mapSeq fun _=>(#[]:Array Value))).push (seqObj "tuple" vs.toArray 0)).push (seqObj "list" #[] 0)).get? a = some (seqObj "list" #[] ep):=Heap.get?_push_of_some _ (Heap.get?_push_of_some _ emp)
 have old:∀ b ob,b ≠ a -> s.heap.get? b = some ob -> (((s.heap.update a (Obj.mapSeq fun _=>(#[]:Array Value))).push (seqObj "tuple" vs.toArray 0)).push (seqObj "list" #[] 0)).get? b = some ob:=fun b ob ne e =>
  Heap.get?_push_of_some _ (Heap.get?_push_of_some _ (by rw [Heap.get?_update_ne _ _ _ _ ne]; exact e))
 rw [list_sort_plain]
 refine wpAny_bind (listItems_at here rfl (wpAny_bind (listUpdate_at here rfl ?_ (by rw [List.size_toArray]; exact fits) (Nat.zero_le _))))
 refine wpAny_bind (seqEpoch_at emp rfl (wpAny_bind (wpAny_newTuple ?_ (by show vs.length <= _; exact fits))))
 refine wpAny_bind (wpAny_newList (wpAny_holding ?_) (Nat.zero_le _))
 show wpAny (model prog w) A _ P E { s with heap:=((s.heap.update a (Obj.mapSeq fun _=>(#[]:Array Value))).push (seqObj "tuple" vs.toArray 0)).push (seqObj "list" #[] 0),toks:=s.toks }
 have sz:vs.toArray.size = vs.length:=by simp
 by_cases h2:vs.toArray.size < 2
 ·rw [if_pos h2,if_pos h2]
  refine wpAny_bind (wpAny_pure ?_)
  dsimp only
  rw [StateT.run_pure]
  refine wpAny_bind (wpAny_pure (wpAny_bind (seqEpoch_at empty rfl (wpAny_bind (listUpdate_at empty rfl ?_ (Nat.zero_le _) ?_)))))
  ·have f:=fin (List.toArray (List.range vs.length)) ⟨by simp,by simp⟩ (fun i j hij hj=>by omega)
   have e:(List.toArray ((List.toArray (List.range vs.length)).toList.map fun i=>vs.getD i Value.none)) = (vs.toArray.zip vs.toArray).map (·.2):=by
    apply Array.toList_inj.mp
    rw [Array.toList_map]
    show (List.range vs.length).map (fun i=>vs.getD i Value.none) = _
    rw [Yp,Array.toList_zip]
    show vs = (vs.zip vs).map Prod.snd
    rw [List.map_snd_zip (Nat.le_refl _)]
   rw [e] at f
   have ne:(ep != ep) = false:=by simp
   show wpAny _ _ _ P E _
   simp only [ne,Bool.false_eq_true,if_false]
   exact wpAny_pure f
  ·show ((vs.toArray.zip vs.toArray).map (·.2)).size <= _
   rw [Array.size_map,Array.size_zip,sz]; omega
 have h2':2 <= vs.length:=by omega
 obtain ⟨κ,ok⟩:=asks h2'
 obtain ⟨kd,says⟩:=ok _ old
 rw [if_neg h2,if_neg h2]
 refine wpAny_bind (kd _ _ ?_)
 refine wpAny_bind (wpAny_mono (kat_run (ks:=vs) (Q:=fun st' s'=>s' = { s with heap:=((s.heap.update a (Obj.mapSeq fun _=>(#[]:Array Value))).push (seqObj "tuple" vs.toArray 0)).push (seqObj "list" #[] 0) } /\ failedOf st' = none /\ ∃ p,PmA vs.length p /\ Ups lt p vs.length /\ (arrOf st').map (·.2) = List.toArray (p.toList.map fun i=>vs.getD i Value.none)) (G:=fun p s'=>s' = { s with heap:=((s.heap.update a (Obj.mapSeq fun _=>(#[]:Array Value))).push (seqObj "tuple" vs.toArray 0)).push (seqObj "list" #[] 0) } /\ PmA vs.length p /\ Ups lt p vs.length) rfl h2' few
  (fun p st' s' _ har hf g=>⟨g.1,hf,p,g.2.1,g.2.2,kat_snds rfl har⟩) (Yo o says h2' fun p hp u=>⟨rfl,hp,u⟩)) ?_ fun _ _ e=>e)
 rintro ⟨⟨⟩,st'⟩ s' ⟨rfl,hf,p,hp,u,out⟩
 refine wpAny_bind (seqEpoch_at empty rfl (wpAny_bind (listUpdate_at empty rfl ?_ (Nat.zero_le _) ?_)))
 ·have f:=fin p hp u
  rw [← out] at f
  show wpAny _ _ _ P E _
  have ne:(ep != ep) = false:=by simp
  have hf':failedOf st' = none:=hf
  dsimp only
  rw [hf']
  simp only [ne,Bool.false_eq_true,if_false]
  exact wpAny_pure f
 ·show ((arrOf st').map (·.2)).size <= _
  rw [out,List.size_toArray,List.length_map,Array.length_toList,hp.sz]; omega
end
def ltL:List Int -> List Int -> Bool
 | [],[]=>false
 | [],_ :: _=>true
 | _ :: _,[]=>false
 | a :: as,b :: bs=>if a = b then ltL as bs else decide (a < b)
theorem X5:∀ {a b c:List Int},ltL a b = true -> ltL b c = true -> ltL a c = true
 | [],[],_,h,_=>nomatch h
 | [],_ :: _,[],_,h=>nomatch h
 | [],_ :: _,_ :: _,_,_=>rfl
 | _ :: _,[],_,h,_=>nomatch h
 | _ :: _,_ :: _,[],_,h=>nomatch h
 | a :: as,b :: bs,c :: cs,h,k=>by
  unfold ltL at h k ⊢
  by_cases e:a = b
  ·subst e
   rw [if_pos rfl] at h
   by_cases e':a = c
   ·rw [if_pos e'] at k ⊢; exact X5 h k
   ·rw [if_neg e'] at k ⊢; exact k
  ·rw [if_neg e] at h
   have h:=of_decide_eq_true h
   by_cases e':b = c
   ·subst e'; rw [if_neg e]; exact decide_eq_true h
   ·rw [if_neg e'] at k
    have k:=of_decide_eq_true k
    rw [if_neg (by omega)]; exact decide_eq_true (by omega)
theorem sT:∀ {a b:List Int},ltL a b = true -> ltL b a = false
 | [],[],h=>nomatch h
 | [],_ :: _,_=>rfl
 | _ :: _,[],h=>nomatch h
 | a :: as,b :: bs,h=>by
  unfold ltL at h ⊢
  by_cases e:a = b
  ·subst e; rw [if_pos rfl] at h ⊢; exact sT h
  ·rw [if_neg e] at h; rw [if_neg (Ne.symm e)]
   have h:=of_decide_eq_true h
   exact decide_eq_false (by omega)
theorem X6:∀ {a b:List Int},a ≠ b -> ltL a b = false -> ltL b a = true
 | [],[],h,_=>absurd rfl h
 | [],_ :: _,_,h=>nomatch h
 | _ :: _,[],_,_=>rfl
 | a :: as,b :: bs,n,h=>by
  unfold ltL at h ⊢
  by_cases e:a = b
  ·subst e; rw [if_pos rfl] at h ⊢; exact X6 (fun z=>n (by rw [z])) h
  ·rw [if_neg e] at h; rw [if_neg (Ne.symm e)]
   have h:=of_decide_eq_false h
   exact decide_eq_true (by omega)
theorem wY {a:List Int}:ltL a a = false:=by
 cases h:ltL a a with
 | false=>rfl
 | true=>have:=sT h; rw [h] at this; cases this
theorem tH:∀ {a b:List (List Int)},a.Pairwise (fun x y=>ltL x y = true) -> b.Pairwise (fun x y=>ltL x y = true) -> a.Perm b -> a = b
 | [],b,_,_,p=>(List.Perm.nil_eq p)
 | x :: xs,[],_,_,p=>absurd p.length_eq (by simp)
 | x :: xs,y :: ys,ha,hb,p=>by
  obtain ⟨a1,a2⟩:=List.pairwise_cons.mp ha
  obtain ⟨b1,b2⟩:=List.pairwise_cons.mp hb
  have e:x = y:=by
   by_cases e:x = y
   ·exact e
   ·have hx:x ∈ ys:=(List.mem_cons.mp (p.mem_iff.mp List.mem_cons_self)).resolve_left e
    have hy:y ∈ xs:=(List.mem_cons.mp (p.mem_iff.mpr List.mem_cons_self)).resolve_left (Ne.symm e)
    have:=sT (a1 y hy)
    rw [b1 x hx] at this; cases this
  subst e
  rw [tH a2 b2 ((List.perm_cons x).mp p)]
section
variable {prog:Program} {w:World} {A:Around} {E:VS7} {s:Shared} {b fin:Bool} {Q:Bool -> Shared -> Prop}
theorem XE {rows:List (List Int)} (nd:rows.Nodup):OrdB rows.length (fun i j=>ltL (rows.getD i []) (rows.getD j [])) where
 tr:=X5
 as:=sT
 to:=fun {i j} hi hj hne h=>by
  refine X6 (fun z=>hne ?_) h
  have e:∀ {i:Nat} (h:i < rows.length),rows.getD i [] = rows[i]:=fun h=>by rw [List.getD_eq_getElem?_getD,List.getElem?_eq_getElem h]; rfl
  rw [e hi,e hj] at z
  exact (List.getElem_inj nd).mp z
end
section
variable {X:Cx} {K:FG7}
theorem Yr {α:Type} {l:List α} {d:α} {is:List Nat} (h:is.Perm (List.range l.length)):(is.map fun i=>l.getD i d).Perm l:=by
 refine (h.map _).trans ?_
 have e:(List.range l.length).map (fun i=>l.getD i d) = l:=by
  refine List.ext_getElem? fun i=>?_
  rw [List.getElem?_map]
  by_cases h:i < l.length
  ·rw [List.getElem?_range h]
   show some (l.getD i d) = _
   rw [List.getD_eq_getElem?_getD,List.getElem?_eq_getElem h]; rfl
  ·rw [List.getElem?_eq_none (by rw [List.length_range]; omega),List.getElem?_eq_none (by omega)]; rfl
 rw [e]
end
section
variable {prog:Program} {w:World} {A:Around} {E:VS7} {s:Shared}
theorem jQ {l:Addr} {us:List Value} {Q:List Value -> Shared -> Prop} (tu:s.heap.IsList l us.toArray) (hu:us.length <= sizeLine)
  (q:Q us { s with heap:=(s.heap.push (seqObj "list" #[] 0)).update s.heap.objs.size (Obj.mapSeq (· ++ us.toArray)) }):wpAny (model prog w) A (collect (.ref l)) Q E s:=by
 obtain ⟨ob,eo,ec,m,ed⟩:=id tu
 have eo2:(s.heap.push (seqObj "list" #[] 0)).get? l = some ob:=Heap.get?_push_of_some _ eo
 unfold collect
 refine wpAny_bind (wpAny_runValue (codeAny_builtin entry_proto_collect' (show wpAny _ _ (do again (.builtin "list.__iadd__" ⟨[← newList [],.ref l],[]⟩)) _ _ s from ?_)))
 refine wpAny_bind (wpAny_newList (wpAny_pure ⟨Code.quiet_builtin _ (by decide +kernel),codeAny_builtin entry_list_iadd' (show wpAny _ _ (Builtin.List.listExtendWith (.ref s.heap.objs.size) (.ref l) (.ref s.heap.objs.size)) _ _ { s with heap:=s.heap.push (seqObj "list" #[] 0) } from ?_)⟩))
 unfold Builtin.List.listExtendWith
 refine wpAny_bind (wpAny_typeOf (T:="list") ⟨ob,eo2,ec⟩ ?_)
 have k1:(Value.type "list" == Value.type "list") = true:=rfl
 rw [if_pos (by simp [k1])]
 refine wpAny_bind (listItems_at eo2 ed (wpAny_bind (listItems_at (xs:=#[]) (n:=0) (Heap.get?_push_size _ rfl) rfl ?_)))
 rw [if_neg (by simp)]
 refine wpAny_bind (listUpdate_at (xs:=#[]) (n:=0) (Heap.get?_push_size _ rfl) rfl (wpAny_pure ?_) (Nat.zero_le _) (by show (#[] ++ us.toArray).size <= sizeLine + 1; simp only [Array.size_append,List.size_toArray,List.length_nil]; omega))
 refine wpAny_bind (wpAny_load (get?_update_seq (Heap.get?_push_size _ rfl) _) ?_)
 show wpAny _ _ (pure ((#[]:Array Value) ++ us.toArray).toList) Q E _
 rw [show ((#[]:Array Value) ++ us.toArray).toList = us by simp]
 exact wpAny_pure q
theorem tI {l:Addr} {vs:List Value} {Q:VS7} {lt:Nat -> Nat -> Bool} (tu:s.heap.IsList l vs.toArray) (few:vs.length < 64) (o:OrdB vs.length lt)
  (asks:2 <= vs.length -> ∀ s':Shared,(∀ b ob,s.heap.get? b = some ob -> s'.heap.get? b = some ob /\ b ≠ s.heap.objs.size + 1) -> Asks prog w A.in1.in1 s' (s.heap.objs.size + 1) vs lt)
  (fin:∀ p,PmA vs.length p -> Ups lt p vs.length -> Q (.ref (s.heap.objs.size + 1)) { s with heap:=sortedAll s.heap vs (List.toArray (p.toList.map fun i=>vs.getD i Value.none)) }) :
  wpAny (model prog w) A (call (.builtin "sorted") [.ref l]) Q E s:=by
 refine Calls.call_function_entry kind_sorted plain_sorted entry_sorted (args_sorted1 _) ?_
 unfold Builtin.«sorted»
 refine wpAny_bind (m:=checkCount "sorted" 1 1 _) (wpAny_pure (wpAny_bind (jQ tu (by rw [sizeLine_eq]; omega) (wpAny_bind (wpAny_newList ?_ (by rw [sizeLine_eq]; omega))))))
 have e1:((s.heap.push (seqObj "list" #[] 0)).update s.heap.objs.size (Obj.mapSeq (· ++ vs.toArray))).objs.size = s.heap.objs.size + 1:=by rw [Heap.size_update,size_push']
 have e2:(((s.heap.push (seqObj "list" #[] 0)).update s.heap.objs.size (Obj.mapSeq (· ++ vs.toArray))).push (seqObj "list" vs.toArray 0)).get? (s.heap.objs.size + 1) = some (seqObj "list" vs.toArray 0):=by
  rw [← e1]; exact Heap.get?_push_size _ rfl
 show wpAny _ _ _ _ _ { s with heap:=((s.heap.push (seqObj "list" #[] 0)).update s.heap.objs.size (Obj.mapSeq (· ++ vs.toArray))).push (seqObj "list" vs.toArray 0) }
 rw [e1]
 refine wpAny_bind (wpAny_holding (wpAny_call_entry slot_list_sort ⟨_,e2,rfl⟩ entry_list_sort (Yq (s:={ s with heap:=((s.heap.push (seqObj "list" #[] 0)).update s.heap.objs.size (Obj.mapSeq (· ++ vs.toArray))).push (seqObj "list" vs.toArray 0) }) e2 few o (fun h2=>asks h2 _ fun b ob e=>⟨?_,?_⟩) fun p hp u=>⟨_,rfl,wpAny_pure ⟨_,rfl,fin p hp u⟩⟩) (args_list_sort _)))
 ·have lo:b < s.heap.objs.size:=Heap.lt_size e
  refine Heap.get?_push_of_some _ ?_
  rw [Heap.get?_update_ne _ _ _ _ (Nat.ne_of_lt lo)]
  exact Heap.get?_push_of_some _ e
 ·exact Nat.ne_of_lt (Nat.lt_succ_of_lt (Heap.lt_size e))
end
section
variable {k m:Nat} {rows:List (List Int)} {ks:List Ask} {bd:Nat -> Int}
theorem Ys (k4:k <= 4) (hs:zB k rows) (R:RndOk k m ks) {j:Nat} {a:Ask}:a ∈ arrR k rows ks k (j % 2 ^ k) j ↔ a ∈ ks.filter fun a=>decide (a.box = (j:Int)):=by
 rw [← VN k4 hs]
 constructor
 ·intro h
  obtain ⟨h1,h2⟩:=List.mem_filter.mp h
  exact List.mem_filter.mpr ⟨VO h1,h2⟩
 ·intro h
  obtain ⟨h1,h2⟩:=List.mem_filter.mp h
  exact List.mem_filter.mpr ⟨WK k4 hs R h1,h2⟩
end
theorem xO {K:FG7} {a:Addr} {xs:List V} {g:TG} {te:TE} {Q:VK} {σ:L2.St} {H:Hp} (Pv:Nat -> List V -> L2.St -> Hp -> Prop) (h0:Pv 0 [] σ H) (hl:∀ i ys σ H,i <= xs.length -> Pv i ys σ H -> SqL K H a xs)
  (hs:∀ i x ys σ H,xs[i]? = some x -> Pv i ys σ H -> g x σ H fun σ2 H3=>te σ2 H3 fun y H5=>ys.length < sizeLine /\ Pv (i + 1) (ys ++ [y]) σ2 H5)
  (hd:∀ ys σ H,Pv xs.length ys σ H -> ∀ l,H l = none -> Q (.ref l) (upd H l (.lst ys))):wt (Itl K a) σ H g uX te Q:=sx Pv h0 hl (fun i x ys σ H hx hp=>hs i x ys σ H hx hp) hd
def tJ (_:FG7):Sp:=sp1 fun x H Q=>∃ a,x = .ref a /\ Pot H a /\ ∀ n H',-(10 ^ 28) < n -> n < 10 ^ 28 -> Grow [a] H H' -> Pot H' a -> Q (.int n) H'
section
variable {prog:Program} {w:World} {A:Around} {E:VS7} {s:Shared} {b fin:Bool} {Q:Bool -> Shared -> Prop}
theorem Yt {v:Value} {Q:Bool -> Shared -> Prop} (h:Q true s):wpAny (model prog w) A (eqBool v v) Q E s:=by
 unfold eqBool
 refine wpAny_holding ?_
 rw [if_pos (beq_self_eq_true v)]
 exact wpAny_bind (wpAny_rule (wpAny_pure h))
theorem uL:∀ {us:List Value} (i:Nat),Q fin s -> KatLex prog w A b fin Q (us.zip us) i s
 | [],_,q=>kat_nil q
 | u :: us,i,q=>by
  rw [List.zip_cons_cons]
  exact kat_cons (Yt (kat_yes (uL (i + 1) q)))
theorem sU:∀ {us vs rs ts:List Value} {as bs:List Int} (i:Nat),IntsAre us as -> IntsAre vs bs -> as.length = bs.length -> as ≠ bs -> Q (ltL as bs) s -> KatLex prog w A b fin Q ((us ++ rs).zip (vs ++ ts)) i s
 | _,_,_,_,_,_,i,.nil,.nil,_,ne,_=>absurd rfl ne
 | _,_,_,_,_,_,i,.nil,.cons _ _ _,l,_,_=>absurd l (by simp)
 | _,_,_,_,_,_,i,.cons _ _ _,.nil,l,_,_=>absurd l (by simp)
 | _,_,rs,ts,_,_,i,.cons x t hx,.cons y u hy,l,ne,q=>by
  rename_i us as vs bs
  rw [List.cons_append,List.cons_append,List.zip_cons_cons]
  refine kat_cons (wpAny_eqBool_int (kat_go (fun h=>?_) fun h=>?_))
  ·have h:=eq_of_beq h
   subst h
   refine kat_yes (sU (i + 1) hx hy (by simpa using l) (fun z=>ne (by rw [z])) ?_)
   unfold ltL at q
   rw [if_pos rfl] at q
   exact q
  ·have h:=ne_of_beq_false h
   unfold ltL at q
   rw [if_neg h] at q
   refine kat_no ?_
   cases (b && i == 0) with
   | true=>exact oneLt_int q
   | false=>exact kat_one _ _ (PyProof.Rows.lt_int (show PySem.W.BoolBack Q (.bool (decide (x < y))) s from q))
structure RowAtP (h:Heap) (v:Value) (row:List Int) (x:Addr) (ob:Obj) (its:Array Value) (n:Nat) (us rest:List Value):Prop where
 e:v = .ref x
 g:h.get? x = some ob
 c:ob.cls = .type "tuple"
 d:ob.data = .seq its n
 t:its.toList = us ++ rest
 i:IntsAre us row
def VP (h:Heap) (v:Value) (row:List Int):Prop:=∃ x ob its n us rest,RowAtP h v row x ob its n us rest
inductive RowsP (h:Heap):List Value -> List (List Int) -> Prop
 | nil:RowsP h [] []
 | cons {v vs row rows}:VP h v row -> RowsP h vs rows -> RowsP h (v :: vs) (row :: rows)
theorem RowsP.len {h:Heap}:∀ {vs rows},RowsP h vs rows -> vs.length = rows.length
 | _,_,.nil=>rfl
 | _,_,.cons _ t=>congrArg (· + 1) t.len
theorem RowsP.get {h:Heap}:∀ {vs rows} {i:Nat},RowsP h vs rows -> i < vs.length -> VP h (vs.getD i Value.none) (rows.getD i [])
 | _,_,_,.nil,hi=>absurd hi (by simp)
 | _,_,0,.cons r _,_=>r
 | _,_,i + 1,.cons _ t,hi=>by
  have:=t.get (i:=i) (by simpa using hi)
  exact this
theorem RowsP.old {h h':Heap} (k:∀ x ob,h.get? x = some ob -> h'.get? x = some ob):∀ {vs rows},RowsP h vs rows -> RowsP h' vs rows
 | _,_,.nil=>.nil
 | _,_,.cons ⟨x,ob,its,n,us,rest,r⟩ t=>.cons ⟨x,ob,its,n,us,rest,r.e,k _ _ r.g,r.c,r.d,r.t,r.i⟩ (t.old k)
theorem RowsP.tups {h:Heap}:∀ {vs rows},RowsP h vs rows -> (∀ r ∈ rows,r ≠ []) -> ∃ fs,KatTups h vs fs /\ fs.length = vs.length /\ ∀ f ∈ fs,∃ n t,f = Value.int n t
 | _,_,.nil,_=>⟨[],.nil,rfl,fun f hf=>absurd hf (by simp)⟩
 | _,_,.cons ⟨x,ob,its,n,us,rest,r⟩ t,ne=>by
  rename_i v vs row rows
  obtain ⟨fs,k,l,a⟩:=t.tups fun r hr=>ne r (List.mem_cons_of_mem _ hr)
  have hne:=ne row List.mem_cons_self
  obtain ⟨f,hf,n',t',rfl⟩:∃ f,its[0]? = some f /\ ∃ n t,f = Value.int n t:=by
   have hi:=r.i
   rw [← Array.getElem?_toList,r.t]
   revert hi
   generalize us = us'
   intro hi
   cases hi with
   | nil=>exact absurd rfl hne
   | cons n t _=>exact ⟨_,rfl,n,t,rfl⟩
  obtain rfl:=r.e
  exact ⟨Value.int n' t' :: fs,.cons r.g r.c r.d hf k,congrArg (· + 1) l,fun f hf=>by
   rcases List.mem_cons.mp hf with rfl | hf
   ·exact ⟨n',t',rfl⟩
   ·exact a f hf⟩
theorem jR {vs:List Value} {rows:List (List Int)} {a:Addr} {m:Nat} (r:RowsP s.heap vs rows) (nd:rows.Nodup) (m1:1 <= m) (hm:∀ r ∈ rows,r.length = m) (ha:∀ x ob,s.heap.get? x = some ob -> (∃ v ∈ vs,v = .ref x) -> x ≠ a) (h2:2 <= vs.length):Asks prog w A s a vs (fun i j=>ltL (rows.getD i []) (rows.getD j [])):=by
 refine ⟨tuples' (Value.type "int" != Value.type "tuple"),fun h' k=>?_⟩
 have ne:∀ r ∈ rows,r ≠ []:=fun r hr z=>by have:=hm r hr; rw [z] at this; have:0 = m:=this; omega
 have r':RowsP h' vs rows:=by
  have go:∀ {vs' rows'},RowsP s.heap vs' rows' -> (∀ v ∈ vs',v ∈ vs) -> RowsP h' vs' rows':=by
   intro vs' rows' q
   induction q with
   | nil=>intro _; exact .nil
   | cons q t ih =>
    intro sub
    obtain ⟨x,ob,its,n,us,rest,q⟩:=q
    exact .cons ⟨x,ob,its,n,us,rest,q.e,k x ob (ha x ob q.g ⟨_,sub _ List.mem_cons_self,q.e⟩) q.g,q.c,q.d,q.t,q.i⟩ (ih fun v hv=>sub v (List.mem_cons_of_mem _ hv))
  exact go r fun v hv=>hv
 have rl:=r'.len
 have get:∀ {i:Nat} (h:i < rows.length),rows.getD i [] = rows[i]:=fun h=>by rw [List.getD_eq_getElem?_getD,List.getElem?_eq_getElem h]; rfl
 obtain ⟨fs,kt,fl,fi⟩:=r'.tups ne
 refine ⟨fun Q E' q=>kat_kind (s:={ s with heap:=h' }) (T:=.type "int") kt (by omega) (fun v hv=>?_) (by simp) q,fun i j C hi hj c=>?_⟩
 ·obtain ⟨n,t,rfl⟩:=fi v hv
  exact Looks.of_pure rfl
 ·obtain ⟨x,ox,xs,n,us,rest,p⟩:=r'.get hi
  obtain ⟨y,oy,ys,m',us',rest',q⟩:=r'.get hj
  unfold kas_ask
  by_cases hij:i = j
  ·subst hij
   rw [p.e]
   refine kat_lt (s:={ s with heap:=h' }) p.g p.d p.g p.d (uL 0 ?_)
   dsimp only at c
   rw [wY] at c
   rw [decide_eq_false (Nat.lt_irrefl _)]; exact c
  ·rw [p.e,q.e]
   refine kat_lt (s:={ s with heap:=h' }) p.g p.d q.g q.d ?_
   rw [p.t,q.t]
   have hi':i < rows.length:=by omega
   have hj':j < rows.length:=by omega
   refine sU 0 p.i q.i ?_ (fun z=>hij ?_) c
   ·rw [get hi',get hj',hm _ (List.getElem_mem hi'),hm _ (List.getElem_mem hj')]
   ·rw [get hi',get hj'] at z
    exact (List.getElem_inj nd).mp z
end
section
variable {X:Cx} {K:FG7}
def yy (K:FG7) (H:Hp) (z:V) (p:List Int × List V):Prop:=∃ r,z = .ref r /\ SqT K H r (p.1.map V.int ++ p.2)
def VQ (K:FG7):List V -> Hp -> VK -> Prop:=fun xs H Q=>∃ (l:Addr) (zs:List V) (items:List (List Int × List V)) (m:Nat),xs = [.ref l] /\ SqL K H l zs /\ AllR (yy K H) zs items /\ (items.map (·.1)).Nodup /\ 1 <= m /\ (∀ p ∈ items,p.1.length = m) /\ items.length < 64 ∧
 ∀ (p:Addr) (zs':List V) (items':List (List Int × List V)),H p = none -> items'.Perm items -> items'.Pairwise (fun x y=>ltL x.1 y.1 = true) -> AllR (yy K H) zs' items' -> Q (.ref p) (upd H p (.lst zs'))
theorem uM:∀ {ns:List Int} {rest:List V} {us:List Value},Vals (ns.map V.int ++ rest) us -> ∃ a b,us = a ++ b /\ IntsAre a ns
 | [],_,us,_=>⟨[],us,rfl,.nil⟩
 | n :: ns,rest,_,.cons r t=>by
  obtain ⟨a,b,rfl,h⟩:=uM (ns:=ns) (rest:=rest) t
  obtain ⟨tk,rfl⟩:=r
  exact ⟨_ :: a,b,rfl,.cons n tk h⟩
theorem jl {pins:List (Addr × Obj)} {σ:L2.St} {H:Hp} {s:Shared} (I:Inv X pins σ H s):∀ {zs:List V} {items:List (List Int × List V)} {vs:List Value},AllR (yy X.K H) zs items -> Vals zs vs -> RowsP s.heap vs (items.map (·.1))
 | [],[],_,_,.nil=>.nil
 | z :: zs,it :: items,_,⟨h,t⟩,.cons r rs=>by
  obtain ⟨b,rfl,hb⟩:=h
  obtain ⟨its,rv,⟨ob,eo,ec,m,ed⟩,_⟩:=I.tuple hb
  obtain ⟨a,c,e,hi⟩:=uM rv
  exact .cons ⟨b,ob,its.toArray,m,a,c,r,eo,ec,ed,e,hi⟩ (jl I t rs)
 | [],_ :: _,_,h,_=>h.elim
 | _ :: _,[],_,h,_=>h.elim
theorem xX (hK:X.K = K):wf X (.builtin "sorted") (VQ K):=by
 subst hK
 intro pins s σ H xs us Q I r h
 obtain ⟨l,zs,items,m,rfl,hl,hr,nd,m1,hm,few,q⟩:=h
 obtain ⟨rows,hrows⟩:∃ rows,rows = items.map (·.1):=⟨_,rfl⟩
 have rlen:rows.length = items.length:=by rw [hrows,List.length_map]
 rw [← hrows] at nd
 have hm':∀ r ∈ rows,r.length = m:=fun r hr=>by rw [hrows] at hr; obtain ⟨p,hp,rfl⟩:=List.mem_map.mp hr; exact hm p hp
 obtain ⟨u,rfl,rx⟩:=vH r
 cases (show u = Value.ref l from rx)
 obtain ⟨vs,rv,pl,hz⟩:=I.list hl
 have e1:=rv.length
 have e2:=hr.len
 have R:=jl I hr rv
 rw [← hrows] at R
 have e3:=R.len
 have o:=XE nd
 rw [← e3] at o
 refine tI pl.isList (by omega) o (fun h2 s' k=>jR (R.old fun x ob e=>(k x ob e).1) nd m1 hm' (fun x ob e ⟨v,hv,ev⟩=>?_) h2) fun p hp u=>?_
 ·subst ev
  obtain ⟨i,hi,ei⟩:=List.getElem_of_mem hv
  obtain ⟨x',ob',its,n,us,rest,p⟩:=R.get hi
  have ex:vs.getD i Value.none = .ref x:=by rw [List.getD_eq_getElem?_getD,List.getElem?_eq_getElem hi,ei]; rfl
  rw [ex] at p
  cases p.e
  exact (k _ _ p.g).2
 ·obtain ⟨e,he⟩:=sortedAll_at s.heap vs (List.toArray (p.toList.map fun i=>vs.getD i Value.none))
  have hn:H (s.heap.objs.size + 1) = none:=I.hok.fresh (Nat.le_succ _)
  have mem:∀ i ∈ p.toList,i < vs.length:=fun i hi=>List.mem_range.mp (hp.pm.mem_iff.mp hi)
  have rl:∀ is:List Nat,(∀ i ∈ is,i < vs.length) -> Vals (is.map fun i=>zs.getD i .non) (is.map fun i=>vs.getD i Value.none):=by
   intro is
   induction is with
   | nil=>intro _; exact .nil
   | cons i is ih =>
    intro hm
    have hi:=hm i List.mem_cons_self
    refine .cons ?_ (ih fun j hj=>hm j (List.mem_cons_of_mem _ hj))
    obtain ⟨u,hu,ru⟩:=rv.get (List.getElem?_eq_getElem (show i < zs.length by omega))
    dsimp only
    rw [List.getD_eq_getElem?_getD,List.getD_eq_getElem?_getD,hu,List.getElem?_eq_getElem (show i < zs.length by omega)]
    exact ru
  have al:∀ is:List Nat,(∀ i ∈ is,i < vs.length) -> AllR (yy X.K H) (is.map fun i=>zs.getD i .non) (is.map fun i=>items.getD i ([],[])):=by
   intro is
   induction is with
   | nil=>intro _; trivial
   | cons i is ih =>
    intro hm
    have hi:=hm i List.mem_cons_self
    refine ⟨?_,ih fun j hj=>hm j (List.mem_cons_of_mem _ hj)⟩
    obtain ⟨row,hrow,br⟩:=hr.get (List.getElem?_eq_getElem (show i < zs.length by omega))
    dsimp only
    rw [List.getD_eq_getElem?_getD,List.getD_eq_getElem?_getD,hrow,List.getElem?_eq_getElem (show i < zs.length by omega)]
    exact br
  have hpm:p.toList.Perm (List.range items.length):=by rw [← rlen,← e3]; exact hp.pm
  have pw:(p.toList.map fun i=>items.getD i ([],[])).Pairwise (fun x y=>ltL x.1 y.1 = true):=by
   rw [List.pairwise_map,List.pairwise_iff_getElem]
   intro i j hi hj hij
   have g:∀ {i:Nat} (h:i < p.toList.length),p.getD i 0 = p.toList[i]:=fun {i} h=>by
    have h':i < p.size:=by simpa using h
    simp [Array.getD,h']
   have:=u i j hij (by rw [← hp.sz,← Array.length_toList]; exact hj)
   rw [g hi,g hj] at this
   have gg:∀ n:Nat,rows.getD n [] = (items.getD n ([],[])).1:=fun n=>by
    rw [hrows,List.getD_eq_getElem?_getD,List.getD_eq_getElem?_getD,List.getElem?_map]
    cases items[n]? <;> rfl
   dsimp only at this
   rw [gg,gg] at this
   exact this
  refine ⟨.ref (s.heap.objs.size + 1),_,?_,rfl,q _ (p.toList.map fun i=>zs.getD i .non) _ hn (Yr hpm) pw (al _ mem)⟩
  refine I.laid (t':=s.toks) (fun b o q=>sortedAll_old q) (Nat.le_succ _) (show z7 X.prog X.w _ _ _ (.lst (p.toList.map fun i=>zs.getD i .non)) from ⟨by rw [List.length_map,Array.length_toList,hp.sz]; have:=sizeLine_eq; omega,_,e,rl _ mem,he⟩)
end
theorem Uu:bootBuiltins "set" = some (.type "set"):=by decide +kernel
def yu (k:Nat) (rows:List (List Int)) (ks:List Ask) (m:Nat):List (Nat × Deed):=(List.range m).filterMap fun j=>(lvR k rows ks k (j % 2 ^ k) j).map fun d=>(j,d)
def BdAt (K:FG7) (H:Hp) (z:V) (p:Nat × Deed):Prop:=∃ r dv,z = .ref r /\ SqT K H r [.int (p.1:Nat),dv] /\ zx K H dv p.2
def wF (K:FG7) (H:Hp) (y:V) (ps:List (Nat × Deed)):Prop:=∃ r zs,y = .ref r /\ SqT K H r zs /\ AllR (BdAt K H) zs ps
def sV (K:FG7):Sp:=sp4 fun x y z u H Q=>∃ (k:Nat) (b:List Int) (ks:List Ask) (rows:List (List Int)),x = .int k /\ k <= 4 /\ zz K H y b /\ 1 <= b.length /\ b.length <= 16 /\ xf K H z ks /\ ks.length <= 16 /\ RndOk k b.length ks /\ zM K H u rows /\ zB k rows ∧
 ∀ y H',Grow [] H H' -> wF K H' y (yu k rows ks b.length) -> Q y H'
section
variable {k m:Nat} {rows:List (List Int)} {ks:List Ask}
theorem yQ {j:Nat} {d:Deed}:(j,d) ∈ yu k rows ks m ↔ j < m /\ lvR k rows ks k (j % 2 ^ k) j = some d:=by
 unfold yu
 rw [List.mem_filterMap]
 constructor
 ·rintro ⟨i,hi,e⟩
  obtain ⟨d',h1,h2⟩:=Option.map_eq_some_iff.mp e
  cases h2
  exact ⟨List.mem_range.mp hi,h1⟩
 ·rintro ⟨h1,h2⟩
  exact ⟨j,List.mem_range.mpr h1,by rw [h2]; rfl⟩
theorem vY:((yu k rows ks m).map fun p=>[(p.1:Int)]).Pairwise (fun x y=>ltL x y = true):=by
 rw [List.pairwise_map]
 unfold yu
 rw [List.pairwise_filterMap]
 refine (List.pairwise_lt_range (n:=m)).imp fun {a b} hab p hp q hq=>?_
 obtain ⟨_,_,e1⟩:=Option.map_eq_some_iff.mp hp
 obtain ⟨_,_,e2⟩:=Option.map_eq_some_iff.mp hq
 rw [← e1,← e2]
 show (if (a:Int) = (b:Int) then _ else decide ((a:Int) < (b:Int))) = true
 rw [if_neg (by omega)]
 exact decide_eq_true (by omega)
theorem Yu {K:FG7} {H:Hp} {kvs:List (List Key × V)} {items:List (List Int × List V)} {zs:List V} {its:List (List Int × List V)} (R:RndOk k m ks) (k4:k <= 4) (hs:zB k rows) (T:TabR kvs (2 ^ k) m (lvR k rows ks k) (zx K H))
  (hi:∀ p,p ∈ its ↔ ∃ l c v,(keyR l c,v) ∈ kvs /\ p = ([(c:Int)],[v])) (nd:(its.map (·.1)).Nodup)
  (pm:items.Perm its) (pw:items.Pairwise (fun x y=>ltL x.1 y.1 = true)) (al:AllR (yy K H) zs items):AllR (BdAt K H) zs (yu k rows ks m):=by
 have look:∀ p ∈ items,∃ (c:Nat) (v:V) (d:Deed),p = ([(c:Int)],[v]) /\ c < m /\ lvR k rows ks k (c % 2 ^ k) c = some d /\ zx K H v d:=fun p hp=>by
  obtain ⟨l,c,v,h1,h2⟩:=(hi p).mp (pm.mem_iff.mp hp)
  obtain ⟨l',c',d,e,hl,hc,hd,hv⟩:=T.keys _ h1
  obtain ⟨rfl,rfl⟩:=yj e
  have el:=tE R k4 hs hl (by rw [hd]; exact fun z=>nomatch z)
  rw [el] at hd
  exact ⟨_,v,d,h2,hc,hd,hv⟩
 have boxes:(items.map (·.1)) = (yu k rows ks m).map fun p=>[(p.1:Int)]:=by
  have pw1:(items.map (·.1)).Pairwise (fun x y=>ltL x y = true):=List.pairwise_map.mpr pw
  have nd1:(items.map (·.1)).Nodup:=((pm.map _).nodup_iff).mpr nd
  have nd2:((yu k rows ks m).map fun p=>[(p.1:Int)]).Nodup:=vY.imp fun {x y} h z=>by rw [z,wY] at h; cases h
  refine tH pw1 vY ((List.perm_ext_iff_of_nodup nd1 nd2).mpr fun x=>⟨fun hx=>?_,fun hx=>?_⟩)
  ·obtain ⟨p,hp,rfl⟩:=List.mem_map.mp hx
   obtain ⟨c,v,d,rfl,hc,hd,_⟩:=look p hp
   exact List.mem_map.mpr ⟨(c,d),yQ.mpr ⟨hc,hd⟩,rfl⟩
  ·obtain ⟨⟨c,d⟩,hp,rfl⟩:=List.mem_map.mp hx
   obtain ⟨hc,hd⟩:=yQ.mp hp
   obtain ⟨i,v,h1,h2⟩:=wm (T.all (c % 2 ^ k) c (zo (k:=k) (b:=c)) hc (by rw [hd]; exact fun z=>nomatch z))
   exact List.mem_map.mpr ⟨([(c:Int)],[v]),pm.mem_iff.mpr ((hi _).mpr ⟨_,c,v,List.mem_of_getElem? h1,rfl⟩),rfl⟩
 have len:zs.length = (yu k rows ks m).length:=by
  rw [al.len]
  have:=congrArg List.length boxes
  rw [List.length_map,List.length_map] at this; exact this
 refine AllR.of_get len fun i z hz=>?_
 obtain ⟨p,hp,r,rfl,hr⟩:=al.get hz
 obtain ⟨c,v,d,rfl,hc,hd,hv⟩:=look p (List.mem_of_getElem? hp)
 have e:=congrArg (fun l=>l[i]?) boxes
 simp only [List.getElem?_map,hp,Option.map_some] at e
 obtain ⟨⟨c',d'⟩,h1,h2⟩:=Option.map_eq_some_iff.mp e.symm
 have ec:c' = c:=by have:=(List.cons.inj h2).1; omega
 subst ec
 have hd':=(yQ.mp (List.mem_of_getElem? h1)).2
 rw [hd] at hd'
 cases Option.some.inj hd'
 exact ⟨_,h1,r,v,rfl,hr,hv⟩
end
def sW (p:List Key × V):List Int × List V:=match p.1 with
 | [_,.inl c]=>([c],[p.2])
 | _=>([],[])
section
variable {k m:Nat} {rows:List (List Int)} {ks:List Ask} {K:FG7} {H:Hp} {kvs:List (List Key × V)}
theorem Yv (T:TabR kvs (2 ^ k) m (lvR k rows ks k) (zx K H)) (p:List Int × List V):p ∈ kvs.map sW ↔ ∃ l c v,(keyR l c,v) ∈ kvs /\ p = ([(c:Int)],[v]):=by
 rw [List.mem_map]
 constructor
 ·rintro ⟨⟨pk,v⟩,h,rfl⟩
  obtain ⟨l,c,d,e,_⟩:=T.keys _ h
  cases (show pk = keyR l c from e)
  exact ⟨l,c,v,h,rfl⟩
 ·rintro ⟨l,c,v,h,rfl⟩
  exact ⟨_,h,rfl⟩
theorem X7 (R:RndOk k m ks) (k4:k <= 4) (hs:zB k rows) (T:TabR kvs (2 ^ k) m (lvR k rows ks k) (zx K H)):((kvs.map sW).map (·.1)).Nodup:=by
 have nd:=List.pairwise_map.mp T.nd
 rw [List.map_map]
 refine List.pairwise_map.mpr (nd.imp_of_mem fun {a b} ha hb hab z=>hab ?_)
 obtain ⟨pk,v⟩:=a
 obtain ⟨pk',v'⟩:=b
 obtain ⟨l,c,d,e,hl,hc,hd,_⟩:=T.keys _ ha
 obtain ⟨l',c',d',e',hl',hc',hd',_⟩:=T.keys _ hb
 cases (show pk = keyR l c from e)
 cases (show pk' = keyR l' c' from e')
 have z':[(c:Int)] = [(c':Int)]:=z
 have ec:c = c':=by have:=(List.cons.inj z').1; omega
 subst ec
 have h1:=tE R k4 hs hl (by rw [hd]; exact fun z=>nomatch z)
 have h2:=tE R k4 hs hl' (by rw [hd']; exact fun z=>nomatch z)
 rw [h1,h2]
theorem WN (T:TabR kvs (2 ^ k) m (lvR k rows ks k) (zx K H)):∀ p ∈ kvs.map sW,p.1.length = 1:=fun p hp=>by
 obtain ⟨l,c,v,_,rfl⟩:=(Yv T p).mp hp
 rfl
end
theorem yy.grow {K:FG7} {H H':Hp} {m:List Addr} {z:V} {p:List Int × List V} (g:Grow m H H') (h:yy K H z p):yy K H' z p:=by
 obtain ⟨r,e,hr⟩:=h
 exact ⟨r,e,g.sqT hr⟩
def rowB (k:Nat) (rows:List (List Int)) (ks:List Ask) (m:Nat):List Ask:=(List.range m).flatMap fun j=>arrR k rows ks k (j % 2 ^ k) j
section
variable {k m:Nat} {rows:List (List Int)} {ks:List Ask} {b:List Int}
theorem vZ (k4:k <= 4) (hs:zB k rows) (R:RndOk k m ks) {j:Nat} {a:Ask} (h:a ∈ arrR k rows ks k (j % 2 ^ k) j):a ∈ ks /\ a.box = (j:Int):=by
 obtain ⟨h1,h2⟩:=List.mem_filter.mp ((Ys k4 hs R).mp h)
 exact ⟨h1,of_decide_eq_true h2⟩
end
section
variable {k m:Nat} {rows:List (List Int)} {ks:List Ask} {b:List Int}
theorem jS (k4:k <= 4) (hs:zB k rows) (R:RndOk k m ks):(rowB k rows ks m).Perm ks:=by
 have ndk:ks.Nodup:=List.Pairwise.of_map (f:=(·.hand)) (S:=(· ≠ ·)) (fun a b h z=>h (by rw [z])) R.nd
 have ndr:(rowB k rows ks m).Nodup:=by
  unfold rowB List.Nodup
  rw [List.pairwise_flatMap]
  refine ⟨fun j _=>Yk k4 hs R,List.nodup_range.imp fun {x y} hxy a ha c hc z=>hxy ?_⟩
  have h1:=(vZ k4 hs R ha).2
  have h2:=(vZ k4 hs R hc).2
  rw [z,h2] at h1
  omega
 refine (List.perm_ext_iff_of_nodup ndr ndk).mpr fun a=>⟨fun h=>?_,fun h=>?_⟩
 ·obtain ⟨j,_,h⟩:=List.mem_flatMap.mp h
  exact (vZ k4 hs R h).1
 ·have hb:=R.box a h
  refine List.mem_flatMap.mpr ⟨a.box.toNat,List.mem_range.mpr (by omega),(Ys k4 hs R).mpr (List.mem_filter.mpr ⟨h,decide_eq_true (Int.toNat_of_nonneg hb.1).symm⟩)⟩
theorem jT {n:Nat}:rowB k rows ks (n + 1) = rowB k rows ks n ++ arrR k rows ks k (n % 2 ^ k) n:=by
 unfold rowB
 rw [List.range_succ,List.flatMap_append,List.flatMap_cons,List.flatMap_nil,List.append_nil]
theorem qg {n:Nat}:yu k rows ks (n + 1) = yu k rows ks n ++ ((lvR k rows ks k (n % 2 ^ k) n).map fun d=>(n,d)).toList:=by
 unfold yu
 rw [List.range_succ,List.filterMap_append]
 congr 1
end
theorem BdAt.grow97 {K:FG7} {H H':Hp} {m:List Addr} {z:V} {p:Nat × Deed} (g:Grow m H H') (h:BdAt K H z p):BdAt K H' z p:=by
 obtain ⟨r,dv,e,h1,h2⟩:=h
 exact ⟨r,dv,e,g.sqT h1,g.deed h2⟩
def qh (p:Nat × Deed):PyData:=.tuple [.int p.1,ZG p.2]
theorem BdAt.dat97 {K:FG7} {H:Hp} {x:V} {p:Nat × Deed} (h:BdAt K H x p):Dat K H x (qh p):=by
 obtain ⟨r,dv,rfl,h1,h2⟩:=h
 exact .tup h1 (.cons (.int _) (.cons h2.dat .nil))
theorem sX {K:FG7} {H:Hp}:∀ {xs:List V} {ps:List (Nat × Deed)},AllR (BdAt K H) xs ps -> DatAll K H xs (ps.map qh)
 | [],[],_=>.nil
 | _ :: _,_ :: _,⟨h,t⟩=>.cons h.dat97 (sX t)
 | [],_ :: _,h=>h.elim
 | _ :: _,[],h=>h.elim
theorem wF.dat97 {K:FG7} {H:Hp} {x:V} {ps:List (Nat × Deed)} (h:wF K H x ps):Dat K H x (.tuple (ps.map qh)):=by
 obtain ⟨r,zs,rfl,h1,h2⟩:=h
 exact .tup h1 (sX h2)
theorem sY:∀ ps:List (Nat × Deed),PyData.depthAll (ps.map qh) <= 2
 | []=>Nat.zero_le _
 | p :: ps=>by
  show max (max 0 (max (max 0 (max (oD p.2.lo).depth (max (oD p.2.hi).depth 0)) + 1) 0) + 1) (PyData.depthAll (ps.map qh)) <= 2
  have:=sY ps
  rw [Xo,Xo]; omega
theorem qi {K:FG7} {H:Hp} {x y:V} {ps:List (Nat × Deed)} {neg:Bool} {Q:VK} (hx:wF K H x ps) (hy:wF K H y ps) (q:Q (.bl neg) H):rS K neg x y H Q :=
 ⟨.tuple (ps.map qh),hx.dat97.dq,hy.dat97.dq,(by obtain ⟨a,_,e,_⟩:=hx; exact ⟨a,e⟩),by have:=sY ps; show PyData.depthAll (ps.map qh) + 1 <= 100; omega,q⟩
theorem wF.grow97 {K:FG7} {H H':Hp} {m:List Addr} {z:V} {ps:List (Nat × Deed)} (g:Grow m H H') (h:wF K H z ps):wF K H' z ps:=by
 obtain ⟨r,zs,e,h1,h2⟩:=h
 exact ⟨r,zs,e,g.sqT h1,h2.imp fun _ _ h=>BdAt.grow97 g h⟩
section
variable {prog:Program} {w:World} {A:Around} {E:VS7} {s:Shared}
theorem Yw (T:String) (args:List Value) (kw:List (Str × Value)):(Code.builtin "type.__call__" ⟨.type T :: args,kw⟩).weight = 0:=rfl
theorem XG (T:String) (args:List Value) (kw:List (Str × Value)):(Code.builtin "type.__call__" ⟨.type T :: args,kw⟩).cUnits = 1:=rfl
theorem sZ {T newId initId:String} {Bn Bi:Builtin} {args:List Value} {kw:List (Str × Value)} {S:PySem.Spec} {Q Q₁:VS7} (ft:TypeCalled T newId initId)
  (hct:checkTypeCall T ⟨args,kw⟩ = pure ()) (hcn:checkBuiltinCall newId ⟨.type T :: args,kw⟩ = pure ())
  (entryN:entryFor table newId = some Bn) (entryI:entryFor table initId = some Bi) (g:Meets (Bn ⟨.type T :: args,kw⟩) S)
  (h:S A.in1 (wants Q₁ E) s)
  (hnext:∀ obj s₁,Q₁ obj s₁ -> s₁.TypeIs obj T /\ argsOk initId ⟨obj :: args,kw⟩ /\ ∃ Si,Meets (Bi ⟨obj :: args,kw⟩) Si /\ Si A.in1 (wants (fun r s₂=>r = .none /\ Q obj s₂) E) s₁) :
  wpAny (model prog w) A (call (.type T) args kw) Q E s:=by
 obtain ⟨c,tl,hmro⟩:=ft.mro
 have hmade:=ft.made
 have hsub:=ft.sub
 refine wpAny_call (codeAny_of_tree ?_)
 show wpAny _ _ (callAny (.type T) _) _ _ _
 refine wpAny_pure ⟨Code.quiet_builtin _ (by decide +kernel),codeAny_builtin F.entry_type_call ?_⟩
 rw [Around.under_plain (Yw T args kw) (XG T args kw)]
 have h1:=ft.notType
 have h2:=ft.canCreate
 repeat (any_goals (first | assumption | wp_step))
 refine codeAny_mono (codeAny_call_builtin ft.plain entryN (wpAny_of_eq hcn (g prog w A.in1 _ s h))) fun r s₁ hr=>?_
 cases r with
 | error e=>exact hr
 | ok fl =>
  cases fl with
  | ret obj =>
   obtain ⟨hT,hok,Si,gi,hsi⟩:=hnext _ _ hr
   have hli:=ft.init.lookup
   have hbi:=ft.init.bind obj
   repeat (any_goals (first | assumption | wp_step))
   refine codeAny_mono (codeAny_call_builtin ft.init.plain entryI (ft.init.check _ _ _ _ _ _ _ _ hT hok (gi prog w A.in1 _ s₁ hsi))) fun r₂ s₂ hr₂=>?_
   cases r₂ with
   | error e=>exact hr₂
   | ok fl₂ =>
    cases fl₂ with
    | ret r =>
     obtain ⟨rfl,hq⟩:=hr₂
     repeat (any_goals (first | assumption | wp_step))
    | _=>exact hr₂.elim
  | _=>exact hr.elim
theorem v3 {T newId:String} {self:Value} {rest:List Value} {kw:List (Str × Value)} (hl:typeLookup (.type T) "__init__" = pure (some (.builtin "object.__init__")))
  (hm:Bind.madeBy (.type T) = pure (some newId)) (hne:(some newId != some "object.__new__") = true) (hkw:kw.isEmpty = false) :
  Meets (Builtin.«object.__init__» ⟨self :: rest,kw⟩) (fun _ R s=>s.TypeIs self T /\ R (.ok (.ret .none)) s):=by
 refine Meets.of_wp fun prog w A R s hs=>?_
 obtain ⟨hT,hq⟩:=hs
 cases kw with
 | nil=>cases hkw
 | cons a kw =>
  have e:(!rest.isEmpty || !(a :: kw).isEmpty) = true:=by simp
  repeat (any_goals (first | assumption | wp_step))
  all_goals exact ⟨_,rfl,hq⟩
open PySem.AutoSeq1 (wpAny_loadPart')
theorem Yx (t:Addr) (c:Bool) (vs:Array Value) (tk0:Tok) :
  Meets (Builtin.«enumerate.__new__» ⟨[.type "enumerate",.ref t],[("start",.int 1 tk0)]⟩) (fun _ R s=>SeqC c s.heap t vs ∧
   R (.ok (.ret (.ref (s.heap.push (zpO (cnC c) t)).objs.size)))
    { s with heap:=(s.heap.push (zpO (cnC c) t)).push { cls:=.type "enumerate",data:=.fields #[.none,.bool false,.ref s.heap.objs.size,rawInt 1,.none,.none] } }) :=
 .of_wp fun prog w A R s h=>by
  obtain ⟨hp,g,d,tk,os⟩:=s; obtain ⟨hT,h⟩:=h
  have hT':tm (Shared.heap ⟨hp,g,d,tk,os⟩) t (cnC c) vs:=hT.src
  obtain ⟨ot,hot⟩:∃ o,hp.get? t = some o:=by
   cases c
   ·obtain ⟨o,e,_⟩:=(show hp.IsList t vs from hT); exact ⟨o,e⟩
   ·obtain ⟨o,e,_⟩:=(show hp.IsTuple t vs from hT); exact ⟨o,e⟩
  have hsub:=sub_enumerate
  wp_walk using wpAny_loadPart' hot
  refine wpAny_stack_any fun st=>wpAny_pure ?_
  split
  ·rename_i c' _ _ _ _ _
   cases (c' == Value.type "enumerate") <;> (wp_walk using wpAny_loadPart' hot,tm.iter hT') <;> exact ⟨_,rfl,h⟩
  ·wp_walk using wpAny_loadPart' hot,tm.iter hT'
   exact ⟨_,rfl,h⟩
theorem jU {t:Addr} {c:Bool} {vs:Array Value} {tk0:Tok} {Q:VS7} (ht:SeqC c s.heap t vs)
  (h:∀ h',IsEnum h' (s.heap.objs.size + 1) s.heap.objs.size 1 .none -> wT c h' s.heap.objs.size t 0 -> h'.objs.size = s.heap.objs.size + 2 -> (∀ b o,s.heap.get? b = some o -> h'.get? b = some o) -> Q (.ref (s.heap.objs.size + 1)) { s with heap:=h' }) :
  wpAny (model prog w) A (call (.type "enumerate") [.ref t] [("start",.int 1 tk0)]) Q E s:=by
 have ft:=F.called_enumerate
 refine sZ (Q₁:=fun obj s₁=>s₁.TypeIs obj "enumerate" /\ Q obj s₁) ft (by kernel_rfl) (by kernel_rfl) F.entry_enumerate_new F.entry_object_init (Yx t c vs tk0) ⟨ht,?_⟩ fun obj _ hq =>
  ⟨hq.1,?_,_,v3 ft.init.lookup ft.made (by decide) rfl,hq.1,rfl,hq.2⟩
 ·have hz:(s.heap.push (zpO (cnC c) t)).objs.size = s.heap.objs.size + 1:=Heap.size_push ..
  show _ /\ _
  rw [hz]
  have he:IsEnum ((s.heap.push (zpO (cnC c) t)).push { cls:=.type "enumerate",data:=.fields #[.none,.bool false,.ref s.heap.objs.size,rawInt 1,.none,.none] }) (s.heap.objs.size + 1) s.heap.objs.size 1 .none:=by
   have:=Heap.get?_push_size (s.heap.push (zpO (cnC c) t)) (o:={ cls:=.type "enumerate",data:=.fields #[.none,.bool false,.ref s.heap.objs.size,rawInt 1,.none,.none] }) rfl
   rw [hz] at this; exact this
  exact ⟨⟨_,he,rfl⟩,h _ he (.mk (Heap.get?_push_of_some _ (Heap.get?_push_size _ rfl))) (by rw [Heap.size_push,Heap.size_push]) fun b o x=>Heap.get?_push_of_some _ (Heap.get?_push_of_some _ x)⟩
 ·unfold argsOk; rw [signature?_of (id:="object.__init__") (n:=['_','_','t','i','n','i','_','_']) (o:=['t','c','e','j','b','o']) (by kernel_rfl) F.owner_object]; kernel_rfl
theorem VR {it:Addr} {fp:List Addr} {n:Nat} {P:Nat -> Value -> Prop} {St:Nat -> Heap -> Prop} (D:Draws prog w A it fp n P St):Draws prog w A it fp (n + 1) (fun i=>P (i - 1)) (fun i h=>1 <= i /\ St (i - 1) h) where
 live:=fun i h st=>D.live _ h st.2
 frame:=fun i h h' st k=>⟨st.1,D.frame _ h h' st.2 k⟩
 item:=fun i s Q E hi st hQ=>D.item (i - 1) s Q E (by have:=st.1; omega) st.2 fun x h' tk p st' sb=>hQ x h' tk p ⟨by omega,by rw [show i + 1 - 1 = i - 1 + 1 by have:=st.1; omega]; exact st'⟩ sb
 done:=fun s Q E st hE=>D.done s Q E st.2 hE
end
def IteS (c:Bool) (K:FG7) (a:Addr):It :=
 ⟨fun i H=>∃ xs x,SqC c K H a xs /\ xs[i]? = some x,fun i H x H'=>∃ T v,H T = none /\ x = .ref T /\ H' = upd H T (.tup [.int ((i + 1:Nat):Int),v]) /\ ∀ xs,SqC c K H a xs -> xs[i]? = some v,fun i H=>∃ xs,SqC c K H a xs /\ xs.length <= i⟩
theorem jV {P:Program} {w:World} {K:FG7} {elts:List Expr} {kt:Nat} {pt:Pos} (c:Bool) (a e jt:Addr) (hej:e ≠ jt) (hae:a ≠ e) (haj:a ≠ jt) :
  Turn P w K (.Tuple elts kt pt) (IteS c K a) [e,jt] e (fun i h=>(∃ old,IsEnum h e jt ((i + 1:Nat):Int) old) /\ wT c h jt a i) where
 mem:=by simp
 obj:=fun i h st b hb=>by
  obtain ⟨⟨old,he⟩,st⟩:=st
  simp only [List.mem_cons,List.mem_nil_iff,or_false] at hb
  rcases hb with rfl | rfl
  ·exact ⟨_,he,fun v z=>by cases z⟩
  ·exact st.obj
 keep:=fun i h h' st k=>by
  obtain ⟨⟨old,he⟩,st⟩:=st
  exact ⟨⟨old,k e (by simp) _ he⟩,st.at fun o q=>k jt (by simp) o q⟩
 item:=by
  intro X hP hw hK hc i pins s σ H E I hf st hg
  subst hP hw hK
  obtain ⟨⟨old,he⟩,hit⟩:=st
  obtain ⟨xs,x,hq,hx⟩:=hg
  obtain ⟨its,rv,p⟩:=xT I hq
  obtain ⟨u,hu,ru⟩:=rv.get hx
  have hlt:i < its.toArray.size:=by have:=(List.getElem?_eq_some_iff.mp hu).1; simpa using this
  refine wpAny_pyNext_enum_itemD (VR (XY (A:=X.A.in1) (I.ok.hd hc) c jt a haj its.toArray)) he ⟨Nat.succ_le_succ (Nat.zero_le _),hit,p⟩ (Nat.succ_lt_succ hlt) hej (by simp [hej,Ne.symm hae]) fun v h1 tk hv hout hst1 hT hsz hk=>?_
  have hvu:v = u:=by
   have e1:its.toArray[i]? = some v:=hv
   have e2:its.toArray[i]? = some u:=by simpa using hu
   rw [e1] at e2; exact Option.some.inj e2
  subst hvu
  refine ⟨_,rfl,wpAny_letOwnedTupleGo_enum (s:={ s with heap:=h1,toks:=tk + 1 }) hout fun h2 he2 hs2=>?_⟩
  have hk2:∀ b o,b ∉ [e,jt] -> s.heap.get? b = some o -> h2.get? b = some o:=fun b o hb q=>by
   have n1:b ≠ e:=fun z=>hb (by simp [z])
   have n2:b ≠ jt:=fun z=>hb (by simp [z])
   exact (hs2.2 b n1).trans (hk b o n1 n2 q)
  have eT:s.heap.objs.size ≠ e:=Nat.ne_of_gt (Heap.lt_size he)
  have hT2:h2.get? s.heap.objs.size = some { cls:=.type "tuple",data:=.seq #[.int ((i + 1:Nat):Int) tk,v] }:=(hs2.2 _ eT).trans hT
  have hn:H s.heap.objs.size = none:=I.hok.fresh (Nat.le_refl _)
  have I2:Inv X pins σ (upd H s.heap.objs.size (.tup [.int ((i + 1:Nat):Int),x])) { s with heap:=h2,toks:=tk + 1 }:=tf (s:=s) I hk2 hf (Nat.le_refl _) ⟨by show 2 <= sizeLine; decide,[.int ((i + 1:Nat):Int) tk,v],.cons ⟨_,rfl⟩ (.cons ru .nil),_,hT2,rfl,0,rfl⟩
  refine ⟨.ref s.heap.objs.size,upd H s.heap.objs.size (.tup [.int ((i + 1:Nat):Int),x]),I2,rfl,⟨_,x,hn,rfl,rfl,fun ys hy=>by rw [vg I hy hq]; exact hx⟩,⟨⟨v,by simpa using he2⟩,?_⟩,fun b hb=>?_⟩
  ·exact hst1.2.1.at fun o q=>(hs2.2 jt (Ne.symm hej)).trans q
  ·have nb:b ≠ s.heap.objs.size:=by
    obtain ⟨oj,hoj,_⟩:=hit.obj
    simp only [List.mem_cons,List.mem_nil_iff,or_false] at hb
    rcases hb with rfl | rfl
    ·exact Ne.symm eT
    ·exact Nat.ne_of_lt (Heap.lt_size hoj)
   rw [zp nb]; exact (hf b hb).1
 done:=by
  intro X hP hw hK hc i pins s σ H E I hf st hg
  subst hP hw hK
  obtain ⟨⟨old,he⟩,hit⟩:=st
  obtain ⟨xs,hq,hx⟩:=hg
  obtain ⟨its,rv,p⟩:=xT I hq
  have hl:=rv.length
  refine wpAny_pyNext_enum_endD (uD (A:=X.A.in1) (I.ok.hd hc) c jt a its.toArray (i:=i) (by simp; omega)) he ⟨rfl,hit,p⟩ fun h' eb=>⟨rfl,?_⟩
  exact u7 (fp:=[e,jt]) (t':=s.toks) I (fun b o hb q=>eb b o (fun z=>hb (by simp [z])) q) hf
 self:=fun _ _ _ _ _ st h=>by
  obtain ⟨⟨old,he⟩,_⟩:=st
  exact wpAny_pyIter_enum he h
section
variable {M:Model} {A:Around} {E:VS7} {s:Shared} {env:Env}
theorem XH {func:Expr} {args:List Expr} {kws:List Keyword} {pos:Pos} {Q:VS7}
  (h:wpAny M A (eval func env) (fun f s₁=>wpAny M A (callWith pos f [] (backTo pos (starEach args env)) (backToKw pos (keywordEach kws env))) Q E s₁) E s)
  (he:eval (.Call func args kws pos) env = (do callWith pos (← eval func env) [] (backTo pos (starEach args env)) (backToKw pos (keywordEach kws env))):=by rfl) :
  wpAny M A (eval (.Call func args kws pos) env) Q E s:=by
 rw [he]; exact wpAny_bind h
theorem vq {pos:Pos} {T:String} {e:Expr} {rest:List Expr} {kws:List Keyword} {Q:VS7}
  (h:wpAny M A (spliced (backTo pos (starEach (e :: rest) env))) (fun vs s₁=>wpAny M A (evalAll ((backToKw pos (keywordEach kws env)).map (·.2)))
   (fun ks s₂=>wpAny M A (call (.type T) vs (((backToKw pos (keywordEach kws env)).filterMap (·.1)).zip ks)) Q E s₂) E s₁) E s)
  (he:starEach (e :: rest) env = (false,eval e env) :: starEach rest env:=by rfl)
  (hplain:(backTo pos (starEach (e :: rest) env)).any (·.1) = false:=by rfl)
  (hall:(backToKw pos (keywordEach kws env)).all (·.1.isSome) = true:=by rfl)
  (hkw:(backToKw pos (keywordEach kws env)).any (·.1.isNone) = false:=by rfl) :
  wpAny M A (callWith pos (.type T) [] (backTo pos (starEach (e :: rest) env)) (backToKw pos (keywordEach kws env))) Q E s:=by
 unfold callWith
 refine wpAny_bind (wpAny_holding (wpAny_mono (evalArgs_kw2 (Q:=fun a s₁=>wpAny M A (call (.type T) a.pos a.kw) Q E s₁) hall h he) (fun a s₁ h₁=>wpAny_bind (wpAny_standAt ?_)) fun _ _ x=>x))
 simp only [hplain,hkw,Bool.or_false]
 refine wpAny_bind (wpAny_pure ?_)
 exact wpAny_bind (wpAny_mono h₁ (fun r s₂ hr=>wpAny_bind (wpAny_holding (wpAny_point (wpAny_pure hr)))) fun _ _ x=>x)
end
section
variable {X:Cx} {elts:List Expr} {kt:Nat} {pt:Pos} {K:FG7}
def VS (c:Bool) (K:FG7) (ta:TA):TI:=fun σ H R=>ta σ H fun vs H1=>∃ a xs,vs = [.ref a] /\ SqC c K H1 a xs /\ R (IteS c K a) H1
theorem XI {a:Expr} {ta:TA} {p pos p2 p3:Pos} {j:Nat} (c:Bool) (hK:X.K = K) (hg:Gl X "enumerate") (hm:X.mg "enumerate" = none) (ha:PA X [a] ta) (hs:starEach [a] X.env = [(false,eval a X.env)]:=by rfl) :
  PI X (.Tuple elts kt pt) (.Call (.Name "enumerate" p) [a] [⟨some "start",.Constant (.int 1) j p2,p3⟩] pos) (VS c K ta):=by
 subst hK
 intro pins s σ H R I h
 refine XH (va I hg hm XW (vq (thn (ha pos pins s σ H _ I h) fun us s1 ⟨vs,H1,I1,r1,q1⟩=>?_) hs (by rw [hs]; rfl)))
 refine kwAll_cons (thn (zi pins s1 σ H1 (fun v H'=>v = .int 1 /\ H' = H1) I1 ⟨rfl,rfl⟩) fun u2 s2 ⟨v2,H2,I2,r2,e2,e3⟩=>kwAll_nil ?_)
 subst e2 e3
 obtain ⟨tk0,rfl⟩:=(show ∃ t,u2 = Value.int 1 t from r2)
 obtain ⟨t,xs,e,hq,q⟩:=q1
 subst e
 obtain ⟨u,rfl,e1⟩:=vH r1
 cases (show u = Value.ref t from e1)
 obtain ⟨its,rv,p⟩:=xT I2 hq
 show wpAny _ _ (call (.type "enumerate") [.ref t] [("start",.int 1 tk0)]) _ _ _
 refine jU p fun h' he hit _ hk=>?_
 refine wpAny_pyIter_enum he ?_
 have lt:t < s2.heap.objs.size:=p.lt
 have I3:Inv X pins σ H2 { s2 with heap:=h' }:=I2.kept (t':=s2.toks) hk
 refine ⟨s2.heap.objs.size + 1,[s2.heap.objs.size + 1,s2.heap.objs.size],_,_,H2,rfl,I3,jV c t (s2.heap.objs.size + 1) s2.heap.objs.size (Nat.succ_ne_self _) (Nat.ne_of_lt (Nat.lt_succ_of_lt lt)) (Nat.ne_of_lt lt),⟨⟨_,he⟩,hit⟩,fun b hb=>?_,q⟩
 simp only [List.mem_cons,List.mem_nil_iff,or_false] at hb
 rcases hb with rfl | rfl
 ·exact I2.fpOk (Nat.le_succ _) (I2.hok.fresh (Nat.le_succ _))
 ·exact I2.fpOk (Nat.le_refl _) (I2.hok.fresh (Nat.le_refl _))
end
section
variable {K:FG7} {a:Addr} {c:Bool} {xs:List V} {g:TG} {tt:TT} {te:TE} {tb:TS} {D:Ends} {Q:VK} {σ:L2.St} {H:Hp}
theorem Yy (Pv:Nat -> L2.St -> Hp -> Prop) (h0:Pv 0 σ H) (hl:∀ i σ H,i <= xs.length -> Pv i σ H -> SqC c K H a xs)
  (hs:∀ i x σ H T,xs[i]? = some x -> Pv i σ H -> H T = none -> g (.ref T) σ (upd H T (.tup [.int ((i + 1:Nat):Int),x])) fun σ2 H2=>tb { D with nx:=Pv (i + 1),ct:=Pv (i + 1),bk:=D.nx } σ2 H2) (hd:∀ σ H,Pv xs.length σ H -> D.nx σ H) :
  ∃ W:Nat -> Nat -> L2.St -> Hp -> Prop,(∃ m,W 0 m σ H) /\ ∀ i m σ H,W i m σ H →
   ((IteS c K a).stop i H /\ D.nx σ H) \/ ((IteS c K a).go i H /\ ∃ N:L2.St -> Hp -> Prop,(∀ σ' H',N σ' H' -> ∃ m',m' < m /\ W (i + 1) m' σ' H') /\ ∀ x H',(IteS c K a).yld i H x H' -> g x σ H' fun σ2 H2=>tb { D with nx:=N,ct:=N,bk:=D.nx } σ2 H2):=by
 refine ⟨fun i m σ H=>m = xs.length - i /\ i <= xs.length /\ Pv i σ H,⟨xs.length,by simp,Nat.zero_le _,h0⟩,?_⟩
 rintro i m σ H ⟨rfl,hi,p⟩
 have q:=hl i σ H hi p
 by_cases hlt:i < xs.length
 ·refine .inr ⟨⟨xs,xs[i],q,by simp [hlt]⟩,Pv (i + 1),fun σ' H' p'=>⟨xs.length - (i + 1),by omega,rfl,hlt,p'⟩,fun x H' y=>?_⟩
  obtain ⟨T,v,hT,rfl,rfl,y⟩:=y
  exact hs i v σ H T (y xs q) p hT
 ·have e:i = xs.length:=by omega
  subst e
  exact .inl ⟨⟨xs,q,Nat.le_refl _⟩,hd σ H p⟩
end
structure Mem44 where
 st:Nat
 num:Nat
 box:Nat
 d:Deed
def yC (e:Mem44):List Int:=[(e.st:Int),(e.num:Int),(e.box:Int)]
theorem xy {e e':Mem44} (h:yC e = yC e'):e.st = e'.st /\ e.num = e'.num /\ e.box = e'.box:=by
 unfold yC at h
 injection h with h1 h
 injection h with h2 h
 injection h with h3 h
 omega
def memL (k:Nat) (rows:List (List Int)) (ks:List Ask) (b:Nat):Nat -> Nat -> List Mem44
 | 0,_=>[]
 | s + 1,l=>memL k rows ks b s (x0R k rows (s + 1) l) ++ memL k rows ks b s (x1R k rows (s + 1) l) ++ (match kpR k rows ks (s + 1) l b with | some d=>[⟨s + 1,nN k (s + 1) l,b,d⟩] | none=>[])
def Yz (k b s l:Nat):Prop:=∀ j:Nat,1 <= j -> j <= s -> figI k (j:Int) l = figI k (j:Int) ((b % 2 ^ k:Nat):Int)
section
variable {k m:Nat} {rows:List (List Int)} {ks:List Ask} {b:Nat}
theorem Yz.down {s l l':Nat} (h:Yz k b (s + 1) l) (e:∀ t:Nat,t <= k -> t ≠ s + 1 -> figI k t l' = figI k t l) (sk:s + 1 <= k):Yz k b s l':=fun j j1 js=>by
 rw [e j (by omega) (by omega)]; exact h j j1 (by omega)
structure MemI (k:Nat) (rows:List (List Int)) (ks:List Ask) (b s l:Nat) (e:Mem44):Prop where
 box:e.box = b
 s1:1 <= e.st
 sk:e.st <= s
 ex:∃ l':Nat,l' < 2 ^ k /\ (∀ j:Nat,s < j -> j <= k -> figI k (j:Int) l' = figI k (j:Int) l) /\ e.num = nN k e.st l' /\ kpR k rows ks e.st l' b = some e.d
theorem yn (k4:k <= 4) (hs:zB k rows):∀ {s l:Nat},s <= k -> l < 2 ^ k -> ∀ e ∈ memL k rows ks b s l,MemI k rows ks b s l e
 | 0,_,_,_,e,he=>by cases he
 | s + 1,l,sk,hl,e,he=>by
  have X:=xF (rows:=rows) k4 hs (s:=s + 1) (by omega) sk hl
  have he':e ∈ (memL k rows ks b s (x0R k rows (s + 1) l) ++ memL k rows ks b s (x1R k rows (s + 1) l)) ++ (match kpR k rows ks (s + 1) l b with | some d=>[⟨s + 1,nN k (s + 1) l,b,d⟩] | none=>[]):=he
  rcases List.mem_append.mp he' with h | h
  ·rcases List.mem_append.mp h with h | h
   ·obtain ⟨h1,h2,h3,l',h4,h5,h6⟩:=yn k4 hs (by omega) X.lt0 e h
    exact ⟨h1,h2,by omega,l',h4,fun j j1 j2=>(h5 j (by omega) j2).trans (X.off0 j j2 (by omega)),h6⟩
   ·obtain ⟨h1,h2,h3,l',h4,h5,h6⟩:=yn k4 hs (by omega) X.lt1 e h
    exact ⟨h1,h2,by omega,l',h4,fun j j1 j2=>(h5 j (by omega) j2).trans (X.off1 j j2 (by omega)),h6⟩
  ·cases hk:kpR k rows ks (s + 1) l b with
   | none=>rw [hk] at h; cases h
   | some d =>
    rw [hk] at h
    cases List.mem_singleton.mp h
    exact ⟨rfl,by show 1 <= s + 1; omega,Nat.le_refl _,l,hl,(fun _ _ _=>rfl),rfl,hk⟩
theorem s8 (k4:k <= 4) {s l l':Nat} (s1:1 <= s) (sk:s <= k) (hl:l < 2 ^ k) (hl':l' < 2 ^ k) (e:nN k s l = nN k s l') {t:Nat} (t1:1 <= t) (tk:t <= k) (hne:t ≠ s):figI k (t:Int) l = figI k (t:Int) l':=by
 rcases twoF k4 s1 sk hl' hl e.symm with rfl | rfl
 ·rfl
 ·have p:=zS k4
  exact uH ⟨k,by omega⟩ ⟨s,by omega⟩ s1 sk ⟨l',by omega⟩ hl' ⟨t,by omega⟩ t1 tk (by simpa using hne)
theorem tK (k4:k <= 4) (hs:zB k rows):∀ {s l:Nat},s <= k -> l < 2 ^ k -> ((memL k rows ks b s l).map yC).Nodup
 | 0,_,_,_=>List.nodup_nil
 | s + 1,l,sk,hl=>by
  have X:=xF (rows:=rows) k4 hs (s:=s + 1) (by omega) sk hl
  have f:=uh (t:=s + 1) k4 hs (by omega) sk hl
  have A:=wfF k4 (s:=s + 1) (by omega) sk hl f
  have B:=wfF k4 (s:=s + 1) (by omega) sk hl (show 1 - fstI rows (s + 1) (nN k (s + 1) l) = 0 \/ 1 - fstI rows (s + 1) (nN k (s + 1) l) = 1 by omega)
  show ((memL k rows ks b s (x0R k rows (s + 1) l) ++ memL k rows ks b s (x1R k rows (s + 1) l) ++ (match kpR k rows ks (s + 1) l b with | some d=>[⟨s + 1,nN k (s + 1) l,b,d⟩] | none=>[])).map yC).Nodup
  rw [List.map_append,List.map_append]
  refine List.nodup_append.mpr ⟨List.nodup_append.mpr ⟨tK k4 hs (by omega) X.lt0,tK k4 hs (by omega) X.lt1,fun x hx y hy z=>?_⟩,?_,fun x hx y hy z=>?_⟩
  ·obtain ⟨e,he,rfl⟩:=List.mem_map.mp hx
   obtain ⟨e',he',rfl⟩:=List.mem_map.mp hy
   obtain ⟨z1,z2,z3⟩:=xy z
   obtain ⟨_,h2,h3,l0,h4,h5,h6,_⟩:=yn k4 hs (by omega) X.lt0 e he
   obtain ⟨_,h2',h3',l1,h4',h5',h6',_⟩:=yn k4 hs (by omega) X.lt1 e' he'
   rw [← z1,← z2,h6] at h6'
   have hf:=s8 k4 h2 (by omega) h4 h4' h6' (t:=s + 1) (by omega) sk (by omega)
   rw [h5 (s + 1) (by omega) sk,h5' (s + 1) (by omega) sk] at hf
   have a1:figI k ((s + 1:Nat):Int) (x0R k rows (s + 1) l) = _:=A.at_
   have b1:figI k ((s + 1:Nat):Int) (x1R k rows (s + 1) l) = _:=B.at_
   rw [a1,b1] at hf
   omega
  ·cases kpR k rows ks (s + 1) l b with
   | none=>exact List.nodup_nil
   | some d=>exact List.nodup_cons.mpr ⟨(fun z=>nomatch z),List.nodup_nil⟩
  ·have hle:∃ e:Mem44,yC e = x /\ e.st <= s:=by
    rcases List.mem_append.mp hx with h | h
    ·obtain ⟨e,he,rfl⟩:=List.mem_map.mp h
     exact ⟨e,rfl,(yn k4 hs (by omega) X.lt0 e he).sk⟩
    ·obtain ⟨e,he,rfl⟩:=List.mem_map.mp h
     exact ⟨e,rfl,(yn k4 hs (by omega) X.lt1 e he).sk⟩
   obtain ⟨e,rfl,hle⟩:=hle
   obtain ⟨e',he',rfl⟩:=List.mem_map.mp hy
   obtain ⟨z1,_,_⟩:=xy z
   cases hk:kpR k rows ks (s + 1) l b with
   | none=>rw [hk] at he'; cases he'
   | some d =>
    rw [hk] at he'
    cases List.mem_singleton.mp he'
    have:e.st = s + 1:=z1
    omega
theorem wZ (k4:k <= 4) (hs:zB k rows):∀ {S s L l:Nat},s <= S -> S <= k -> L < 2 ^ k -> l < 2 ^ k -> (∀ j:Nat,1 <= j -> j <= s -> figI k (j:Int) l = figI k (j:Int) L) -> (∀ j:Nat,S < j -> j <= k -> figI k (j:Int) l = figI k (j:Int) L) →
  ∀ e ∈ memL k rows ks b s l,e ∈ memL k rows ks b S L
 | 0,s,L,l,h1,_,_,_,_,_,e,he=>by
  cases (show s = 0 by omega)
  exact he
 | S + 1,s,L,l,h1,h2,hL,hl,f1,f2,e,he=>by
  by_cases c:s = S + 1
  ·subst c
   have:l = L:=xz k4 hl hL fun t t1 tk=>by
    by_cases d:t <= S + 1
    ·exact f1 t t1 d
    ·exact f2 t (by omega) tk
   rw [← this]; exact he
  ·have X:=xF (rows:=rows) k4 hs (s:=S + 1) (by omega) h2 hL
   have f:=uh (t:=S + 1) k4 hs (by omega) h2 hL
   have A:=wfF k4 (s:=S + 1) (by omega) h2 hL f
   have B:=wfF k4 (s:=S + 1) (by omega) h2 hL (show 1 - fstI rows (S + 1) (nN k (S + 1) L) = 0 \/ 1 - fstI rows (S + 1) (nN k (S + 1) L) = 1 by omega)
   have g:=wB (l:=l) k4 h2 hl
   show e ∈ (memL k rows ks b S (x0R k rows (S + 1) L) ++ memL k rows ks b S (x1R k rows (S + 1) L)) ++ _
   refine List.mem_append_left _ ?_
   by_cases d:figI k ((S + 1:Nat):Int) l = fstI rows (S + 1) (nN k (S + 1) L)
   ·refine List.mem_append_left _ (wZ k4 hs (by omega) (by omega) X.lt0 hl (fun j j1 j2=>?_) (fun j j1 j2=>?_) e he)
    ·rw [X.off0 j (by omega) (by omega)]; exact f1 j j1 j2
    ·by_cases c2:j = S + 1
     ·rw [c2,d]; exact A.at_.symm
     ·rw [X.off0 j j2 c2]; exact f2 j (by omega) j2
   ·refine List.mem_append_right _ (wZ k4 hs (by omega) (by omega) X.lt1 hl (fun j j1 j2=>?_) (fun j j1 j2=>?_) e he)
    ·rw [X.off1 j (by omega) (by omega)]; exact f1 j j1 j2
    ·by_cases c2:j = S + 1
     ·rw [c2,show figI k ((S + 1:Nat):Int) (x1R k rows (S + 1) L) = 1 - fstI rows (S + 1) (nN k (S + 1) L) from B.at_]; omega
     ·rw [X.off1 j j2 c2]; exact f2 j (by omega) j2
theorem v4 (k4:k <= 4) (hs:zB k rows):∀ {s l:Nat},s <= k -> l < 2 ^ k -> lvR k rows ks s l b ≠ none -> Yz k b s l
 | 0,_,_,_,_=>fun j j1 j2=>by omega
 | s + 1,l,sk,hl,h=>by
  have X:=xF (rows:=rows) k4 hs (s:=s + 1) (by omega) sk hl
  by_cases c:figI k ((s + 1:Nat):Int) l = figI k ((s + 1:Nat):Int) ((b % 2 ^ k:Nat):Int)
  ·have e2:lvR k rows ks (s + 1) l b = vX (lvR k rows ks s (x0R k rows (s + 1) l) b) (lvR k rows ks s (x1R k rows (s + 1) l) b):=if_pos c
   intro j j1 j2
   by_cases d:j = s + 1
   ·rw [d]; exact c
   ·by_cases h0:lvR k rows ks s (x0R k rows (s + 1) l) b = none
    ·by_cases h1:lvR k rows ks s (x1R k rows (s + 1) l) b = none
     ·rw [e2,h0,h1] at h; exact absurd rfl h
     ·rw [← X.off1 j (by omega) d]; exact v4 k4 hs (by omega) X.lt1 h1 j j1 (by omega)
    ·rw [← X.off0 j (by omega) d]; exact v4 k4 hs (by omega) X.lt0 h0 j j1 (by omega)
  ·have e2:lvR k rows ks (s + 1) l b = none:=if_neg c
   exact absurd e2 h
theorem WO {s l:Nat} {d:Deed} (h:kpR k rows ks s l b = some d):lvR k rows ks (s - 1) (x0R k rows s l) b = some d /\ lvR k rows ks (s - 1) (x1R k rows s l) b ≠ none:=by
 unfold kpR at h
 cases h0:lvR k rows ks (s - 1) (x0R k rows s l) b with
 | none=>rw [h0] at h; cases h
 | some d0 =>
  cases h1:lvR k rows ks (s - 1) (x1R k rows s l) b with
  | none=>rw [h0,h1] at h; cases h
  | some d1=>rw [h0,h1] at h; cases h; exact ⟨rfl,fun z=>nomatch z⟩
theorem YA (k4:k <= 4) (hs:zB k rows) {s l:Nat} {d:Deed} (s1:1 <= s) (sk:s <= k) (hl:l < 2 ^ k) (h:kpR k rows ks s l b = some d):(⟨s,nN k s l,b,d⟩:Mem44) ∈ memL k rows ks b k (b % 2 ^ k):=by
 have X:=xF (rows:=rows) k4 hs s1 sk hl
 have W:=outF (b:=b) k4 s1 sk hl
 have en:nN k s (outR k s l b) = nN k s l:=WF s1 sk fun t _ tk hn=>W.off t tk hn
 have P:=v4 (ks:=ks) (b:=b) (s:=s - 1) k4 hs (by omega) X.lt0 (by rw [(WO h).1]; exact fun z=>nomatch z)
 have hk:kpR k rows ks s (outR k s l b) b = some d:=(qd (l:=outR k s l b) k4 hs s1 sk W.lt hl en).trans h
 have hin:(⟨s,nN k s l,b,d⟩:Mem44) ∈ memL k rows ks b s (outR k s l b):=by
  obtain ⟨n,rfl⟩:∃ n,s = n + 1:=⟨s - 1,by omega⟩
  show _ ∈ _ ++ (match kpR k rows ks (n + 1) (outR k (n + 1) l b) b with | some d=>[(⟨n + 1,nN k (n + 1) (outR k (n + 1) l b),b,d⟩:Mem44)] | none=>[])
  rw [hk]
  refine List.mem_append_right _ ?_
  show _ ∈ [(⟨n + 1,nN k (n + 1) (outR k (n + 1) l b),b,d⟩:Mem44)]
  rw [en]
  exact List.mem_singleton.mpr rfl
 refine wZ k4 hs sk (Nat.le_refl k) zo W.lt (fun j j1 j2=>?_) (fun j j1 j2=>by omega) _ hin
 by_cases c:j = s
 ·rw [c]; exact W.at_
 ·rw [W.off j (by omega) c,← X.off0 j (by omega) c]
  exact P j j1 (by omega)
theorem v5 (k4:k <= 4) (hs:zB k rows) (R:RndOk k m ks):∀ {s l:Nat},s <= k -> l < 2 ^ k -> Yz k b s l -> (memL k rows ks b s l).length + (if lvR k rows ks s l b = none then 0 else 1) = (arrR k rows ks s l b).length
 | 0,l,_,hl,_=>by
  have e:=X3 (l:=l) (b:=b) R.nd
  show 0 + _ = (ks.filter fun a=>decide (a.hand = (l:Int) /\ a.box = (b:Int))).length
  rw [e]
  show 0 + (if (ks.find? fun a=>decide (a.hand = (l:Int) /\ a.box = (b:Int))).map (·.deed) = none then 0 else 1) = _
  cases ks.find? fun a=>decide (a.hand = (l:Int) /\ a.box = (b:Int)) with
  | none=>rfl
  | some a=>rfl
 | s + 1,l,sk,hl,P=>by
  have X:=xF (rows:=rows) k4 hs (s:=s + 1) (by omega) sk hl
  have c:=P (s + 1) (by omega) (Nat.le_refl _)
  have e1:arrR k rows ks (s + 1) l b = arrR k rows ks s (x0R k rows (s + 1) l) b ++ arrR k rows ks s (x1R k rows (s + 1) l) b:=if_pos c
  have e2:lvR k rows ks (s + 1) l b = vX (lvR k rows ks s (x0R k rows (s + 1) l) b) (lvR k rows ks s (x1R k rows (s + 1) l) b):=if_pos c
  have a0:=v5 k4 hs R (by omega) X.lt0 (P.down X.off0 sk)
  have a1:=v5 k4 hs R (by omega) X.lt1 (P.down X.off1 sk)
  have ek:kpR k rows ks (s + 1) l b = match lvR k rows ks s (x0R k rows (s + 1) l) b,lvR k rows ks s (x1R k rows (s + 1) l) b with | some d,some _=>some d | _,_=>none:=rfl
  show (memL k rows ks b s (x0R k rows (s + 1) l) ++ memL k rows ks b s (x1R k rows (s + 1) l) ++ (match kpR k rows ks (s + 1) l b with | some d=>[(⟨s + 1,nN k (s + 1) l,b,d⟩:Mem44)] | none=>[])).length + _ = _
  rw [e1,e2,List.length_append,List.length_append,List.length_append,ek,← a0,← a1]
  cases h0:lvR k rows ks s (x0R k rows (s + 1) l) b with
  | none =>
   cases h1:lvR k rows ks s (x1R k rows (s + 1) l) b with
   | none=>show _ + _ + 0 + 0 = _ + 0 + (_ + 0); omega
   | some d1=>show _ + _ + 0 + 1 = _ + 0 + (_ + 1); omega
  | some d0 =>
   cases h1:lvR k rows ks s (x1R k rows (s + 1) l) b with
   | none=>show _ + _ + 0 + 1 = _ + 1 + (_ + 0); omega
   | some d1=>show _ + _ + 1 + 1 = _ + 1 + (_ + 1); omega
def memA (k:Nat) (rows:List (List Int)) (ks:List Ask) (m:Nat):List Mem44:=(List.range m).flatMap fun b=>memL k rows ks b k (b % 2 ^ k)
theorem qj {n:Nat}:memA k rows ks (n + 1) = memA k rows ks n ++ memL k rows ks n k (n % 2 ^ k):=by
 unfold memA
 rw [List.range_succ,List.flatMap_append,List.flatMap_cons,List.flatMap_nil,List.append_nil]
theorem uN (k4:k <= 4) (hs:zB k rows) (R:RndOk k m ks):∀ n,(memA k rows ks n).length + (yu k rows ks n).length = (rowB k rows ks n).length
 | 0=>rfl
 | n + 1=>by
  have h:=v5 (b:=n) k4 hs R (Nat.le_refl k) (zo (k:=k) (b:=n)) (fun _ _ _=>rfl)
  have ih:=uN k4 hs R n
  rw [qj,qg,jT,List.length_append,List.length_append,List.length_append]
  have e:(((lvR k rows ks k (n % 2 ^ k) n).map fun d=>(n,d)).toList).length = if lvR k rows ks k (n % 2 ^ k) n = none then 0 else 1:=by
   cases lvR k rows ks k (n % 2 ^ k) n <;> rfl
  rw [e]; omega
theorem wG (k4:k <= 4) (hs:zB k rows) (R:RndOk k m ks):(memA k rows ks m).length + (yu k rows ks m).length = ks.length:=by
 rw [uN k4 hs R m,(jS k4 hs R).length_eq]
theorem z4 (k4:k <= 4) (hs:zB k rows) {e:Mem44}:e ∈ memA k rows ks m ↔ 1 <= e.st /\ e.st <= k /\ e.box < m /\ ∃ l,l < 2 ^ k /\ e.num = nN k e.st l /\ kpR k rows ks e.st l e.box = some e.d:=by
 constructor
 ·intro h
  obtain ⟨b,hb,h⟩:=List.mem_flatMap.mp h
  obtain ⟨h1,h2,h3,l',h4,_,h6,h7⟩:=yn k4 hs (Nat.le_refl k) zo e h
  rw [h1]
  exact ⟨h2,h3,List.mem_range.mp hb,l',h4,h6,h7⟩
 ·rintro ⟨h1,h2,h3,l,h4,h5,h6⟩
  refine List.mem_flatMap.mpr ⟨e.box,List.mem_range.mpr h3,?_⟩
  have:=YA k4 hs h1 h2 h4 h6
  rw [← h5] at this; exact this
theorem wH (k4:k <= 4) (hs:zB k rows):((memA k rows ks m).map yC).Nodup:=by
 unfold memA List.Nodup
 rw [List.map_flatMap,List.pairwise_flatMap]
 refine ⟨fun b _=>tK k4 hs (Nat.le_refl k) zo,List.nodup_range.imp fun {x y} hxy p hp q hq z=>hxy ?_⟩
 obtain ⟨e,he,rfl⟩:=List.mem_map.mp hp
 obtain ⟨e',he',rfl⟩:=List.mem_map.mp hq
 have h1:=(yn k4 hs (Nat.le_refl k) zo e he).box
 have h2:=(yn k4 hs (Nat.le_refl k) zo e' he').box
 obtain ⟨_,_,z3⟩:=xy z
 rw [← h1,← h2,z3]
end
structure RemS (k m:Nat) (rows:List (List Int)) (ks:List Ask) (L:List Mem44):Prop where
 up:L.Pairwise (fun x y=>ltL (yC x) (yC y) = true)
 pm:L.Perm (memA k rows ks m)
theorem YB {α:Type} {key:α -> List Int}:∀ {L L':List α},L.Pairwise (fun x y=>ltL (key x) (key y) = true) -> L'.Pairwise (fun x y=>ltL (key x) (key y) = true) -> (∀ a,a ∈ L ↔ a ∈ L') -> L = L'
 | [],[],_,_,_=>rfl
 | [],a :: _,_,_,h=>by have:=(h a).mpr (List.mem_cons_self ..); cases this
 | a :: _,[],_,_,h=>by have:=(h a).mp (List.mem_cons_self ..); cases this
 | a :: t,a' :: t',p,p',h=>by
  obtain ⟨p1,p2⟩:=List.pairwise_cons.mp p
  obtain ⟨q1,q2⟩:=List.pairwise_cons.mp p'
  have e:a = a':=by
   rcases List.mem_cons.mp ((h a).mp (List.mem_cons_self ..)) with z | z
   ·exact z
   ·rcases List.mem_cons.mp ((h a').mpr (List.mem_cons_self ..)) with w | w
    ·exact w.symm
    ·have h1:=q1 a z
     have h2:=p1 a' w
     rw [sT h1] at h2; cases h2
  subst e
  rw [YB p2 q2 fun x=>⟨fun hx=>?_,fun hx=>?_⟩]
  ·rcases List.mem_cons.mp ((h x).mp (List.mem_cons_of_mem _ hx)) with z | z
   ·subst z; have:=p1 x hx; rw [wY] at this; cases this
   ·exact z
  ·rcases List.mem_cons.mp ((h x).mpr (List.mem_cons_of_mem _ hx)) with z | z
   ·subst z; have:=q1 x hx; rw [wY] at this; cases this
   ·exact z
theorem RemS.eq {k m:Nat} {rows:List (List Int)} {ks:List Ask} {L L':List Mem44} (h:RemS k m rows ks L) (h':RemS k m rows ks L'):L = L':=YB h.up h'.up fun a=>(h.pm.trans h'.pm.symm).mem_iff
def RmAt (K:FG7) (H:Hp) (z:V) (e:Mem44):Prop:=∃ r dv,z = .ref r /\ SqT K H r [.int (e.st:Nat),.int (e.num:Nat),.int (e.box:Nat),dv] /\ zx K H dv e.d
def v6 (K:FG7) (H:Hp) (y:V) (L:List Mem44):Prop:=∃ r zs,y = .ref r /\ SqT K H r zs /\ AllR (RmAt K H) zs L
theorem RmAt.grow {K:FG7} {H H':Hp} {m:List Addr} {z:V} {e:Mem44} (g:Grow m H H') (h:RmAt K H z e):RmAt K H' z e:=by
 obtain ⟨r,dv,e,h1,h2⟩:=h
 exact ⟨r,dv,e,g.sqT h1,g.deed h2⟩
theorem v6.grow {K:FG7} {H H':Hp} {m:List Addr} {z:V} {L:List Mem44} (g:Grow m H H') (h:v6 K H z L):v6 K H' z L:=by
 obtain ⟨r,zs,e,h1,h2⟩:=h
 exact ⟨r,zs,e,g.sqT h1,h2.imp fun _ _ h=>RmAt.grow g h⟩
def jm (K:FG7):Sp:=sp4 fun x y z u H Q=>∃ (k:Nat) (b:List Int) (ks:List Ask) (rows:List (List Int)),x = .int k /\ k <= 4 /\ zz K H y b /\ 1 <= b.length /\ b.length <= 16 /\ xf K H z ks /\ ks.length <= 16 /\ RndOk k b.length ks /\ zM K H u rows /\ zB k rows ∧
 ∀ y L H',Grow [] H H' -> v6 K H' y L -> RemS k b.length rows ks L -> Q y H'
def uO (st:Nat) (p:List Key × V):List Int × List V:=match p.1 with
 | [.inl n,.inl c]=>([(st:Int),n,c],[p.2])
 | _=>([],[])
structure RemP (K:FG7) (H:Hp) (k m:Nat) (rows:List (List Int)) (ks:List Ask) (i:Nat) (its:List (List Int × List V)):Prop where
 ent:∀ p ∈ its,∃ (e:Mem44) (v:V),p = (yC e,[v]) /\ e ∈ memA k rows ks m /\ e.st <= i /\ zx K H v e.d
 nd:(its.map (·.1)).Nodup
 all:∀ e ∈ memA k rows ks m,e.st <= i -> yC e ∈ its.map (·.1)
theorem RemP.grow {K:FG7} {H H':Hp} {m':List Addr} {k m i:Nat} {rows:List (List Int)} {ks:List Ask} {its:List (List Int × List V)} (g:Grow m' H H') (h:RemP K H k m rows ks i its):RemP K H' k m rows ks i its :=
 ⟨fun p hp=>by obtain ⟨e,v,h1,h2,h3,h4⟩:=h.ent p hp; exact ⟨e,v,h1,h2,h3,g.deed h4⟩,h.nd,h.all⟩
section
variable {k m:Nat} {rows:List (List Int)} {ks:List Ask} {K:FG7} {H:Hp}
theorem v7 {α:Type} [DecidableEq α]:∀ {l l':List α},l.Nodup -> (∀ x ∈ l,x ∈ l') -> l.length <= l'.length
 | [],_,_,_=>Nat.zero_le _
 | a :: l,l',hn,h=>by
  have ha:a ∈ l':=h a (List.mem_cons.mpr (.inl rfl))
  obtain ⟨h1,h2⟩:=List.nodup_cons.mp hn
  have:=v7 (l:=l) (l':=l'.erase a) h2 fun x hx=>(List.mem_erase_of_ne (fun e=>h1 (by rw [← e]; exact hx))).mpr (h x (List.mem_cons.mpr (.inr hx)))
  rw [List.length_erase_of_mem ha] at this
  have:0 < l'.length:=List.length_pos_of_mem ha
  rw [List.length_cons]; omega
theorem RemP.len {i:Nat} {its:List (List Int × List V)} (h:RemP K H k m rows ks i its):its.length <= (memA k rows ks m).length:=by
 have:=v7 (l':=(memA k rows ks m).map yC) h.nd fun x hx=>by
  obtain ⟨p,hp,rfl⟩:=List.mem_map.mp hx
  obtain ⟨e,v,rfl,h2,_⟩:=h.ent p hp
  exact List.mem_map.mpr ⟨e,h2,rfl⟩
 rw [List.length_map,List.length_map] at this; exact this
theorem RemP.nil (k4:k <= 4) (hs:zB k rows):RemP K H k m rows ks 0 []:=⟨(fun p hp=>nomatch hp),List.nodup_nil,fun e he h0=>by
 have:=((z4 k4 hs).mp he).1
 omega⟩
theorem RemP.next (k4:k <= 4) (hs:zB k rows) {i:Nat} {its:List (List Int × List V)} {kvs:List (List Key × V)} (hi:i < k) (h:RemP K H k m rows ks i its)
  (h3:∀ p ∈ kvs,∃ l b x,p.1 = keyR (nN k (i + 1) l) b /\ l < 2 ^ k /\ b < m /\ kpR k rows ks (i + 1) l b = some x /\ zx K H p.2 x) (nd:(kvs.map (·.1)).Nodup)
  (h5:∀ l b,l < 2 ^ k -> b < m -> kpR k rows ks (i + 1) l b ≠ none -> (valV kvs (keyR (nN k (i + 1) l) b)).isSome = true):RemP K H k m rows ks (i + 1) (its ++ kvs.map (uO (i + 1))):=by
 have hit:∀ p ∈ kvs,∃ (e:Mem44),uO (i + 1) p = (yC e,[p.2]) /\ e ∈ memA k rows ks m /\ e.st = i + 1 /\ zx K H p.2 e.d /\ p.1 = keyR e.num e.box:=fun p hp=>by
  obtain ⟨l,b,x,e1,hl,hb,hx,hd⟩:=h3 p hp
  obtain ⟨pk,v⟩:=p
  cases (show pk = keyR (nN k (i + 1) l) b from e1)
  exact ⟨⟨i + 1,nN k (i + 1) l,b,x⟩,rfl,(z4 k4 hs).mpr ⟨Nat.succ_le_succ (Nat.zero_le _),hi,hb,l,hl,rfl,hx⟩,rfl,hd,rfl⟩
 refine ⟨fun p hp=>?_,?_,fun e he hle=>?_⟩
 ·rcases List.mem_append.mp hp with z | z
  ·obtain ⟨e,v,a,b,c,d⟩:=h.ent p z
   exact ⟨e,v,a,b,by omega,d⟩
  ·obtain ⟨q,hq,rfl⟩:=List.mem_map.mp z
   obtain ⟨e,a,b,c,d,_⟩:=hit q hq
   exact ⟨e,q.2,a,b,by omega,d⟩
 ·rw [List.map_append]
  refine List.nodup_append.mpr ⟨h.nd,?_,fun x hx y hy z=>?_⟩
  ·rw [List.map_map]
   refine List.pairwise_map.mpr ((List.pairwise_map.mp nd).imp_of_mem fun {a b} ha hb hab z=>hab ?_)
   obtain ⟨e,h1,_,_,_,h2⟩:=hit a ha
   obtain ⟨e',h1',_,_,_,h2'⟩:=hit b hb
   have z':(uO (i + 1) a).1 = (uO (i + 1) b).1:=z
   rw [h1,h1'] at z'
   obtain ⟨_,z2,z3⟩:=xy z'
   rw [h2,h2',z2,z3]
  ·obtain ⟨p,hp,rfl⟩:=List.mem_map.mp hx
   obtain ⟨e,v,rfl,_,c,_⟩:=h.ent p hp
   obtain ⟨q,hq,rfl⟩:=List.mem_map.mp hy
   obtain ⟨q',hq',rfl⟩:=List.mem_map.mp hq
   obtain ⟨e',h1',_,h3',_⟩:=hit q' hq'
   rw [h1'] at z
   have:=(xy (e:=e) (e':=e') z).1
   omega
 ·rw [List.map_append]
  by_cases c:e.st <= i
  ·exact List.mem_append_left _ (h.all e he c)
  ·refine List.mem_append_right _ ?_
   obtain ⟨a1,a2,a3,l,a4,a5,a6⟩:=(z4 k4 hs).mp he
   have es:e.st = i + 1:=by omega
   rw [es] at a5 a6
   obtain ⟨j,v,j1,j2⟩:=wm (h5 l e.box a4 a3 (by rw [a6]; exact fun z=>nomatch z))
   rw [List.map_map]
   refine List.mem_map.mpr ⟨(keyR (nN k (i + 1) l) e.box,v),List.mem_of_getElem? j1,?_⟩
   show [((i + 1:Nat):Int),((nN k (i + 1) l:Nat):Int),((e.box:Nat):Int)] = yC e
   unfold yC; rw [es,a5]
theorem RemP.done (k4:k <= 4) (hs:zB k rows) {its its':List (List Int × List V)} {zs:List V} (h:RemP K H k m rows ks k its) (pm:its'.Perm its) (pw:its'.Pairwise (fun x y=>ltL x.1 y.1 = true)) (al:AllR (yy K H) zs its'):∃ L,AllR (RmAt K H) zs L /\ RemS k m rows ks L:=by
 have key:∀ {zs:List V} {its':List (List Int × List V)},(∀ p ∈ its',∃ (e:Mem44) (v:V),p = (yC e,[v]) /\ e ∈ memA k rows ks m /\ e.st <= k /\ zx K H v e.d) -> AllR (yy K H) zs its' -> ∃ L:List Mem44,AllR (RmAt K H) zs L /\ L.map yC = its'.map (·.1) /\ ∀ e ∈ L,e ∈ memA k rows ks m:=by
  intro zs
  induction zs with
  | nil =>
   intro its' _ al
   cases its' with
   | nil=>exact ⟨[],trivial,rfl,(fun e he=>nomatch he)⟩
   | cons _ _=>exact al.elim
  | cons z zs ih =>
   intro its' hp al
   cases its' with
   | nil=>exact al.elim
   | cons p its' =>
    obtain ⟨L,h1,h2,h3⟩:=ih (fun q hq=>hp q (List.mem_cons_of_mem _ hq)) al.2
    obtain ⟨e,v,rfl,he,_,hd⟩:=hp p (List.mem_cons_self ..)
    obtain ⟨r,rfl,hr⟩:=al.1
    refine ⟨e :: L,⟨⟨r,v,rfl,hr,hd⟩,h1⟩,by rw [List.map_cons,List.map_cons,h2],fun x hx=>?_⟩
    rcases List.mem_cons.mp hx with z | z
    ·rw [z]; exact he
    ·exact h3 x z
 obtain ⟨L,h1,h2,h3⟩:=key (fun p hp=>h.ent p (pm.mem_iff.mp hp)) al
 refine ⟨L,h1,?_,?_⟩
 ·have:(its'.map (·.1)).Pairwise (fun x y=>ltL x y = true):=List.pairwise_map.mpr pw
  rw [← h2] at this
  exact List.pairwise_map.mp this
 ·have nd1:(L.map yC).Nodup:=by rw [h2]; exact ((pm.map _).nodup_iff).mpr h.nd
  have nd:L.Nodup:=List.Pairwise.of_map (S:=(· ≠ ·)) yC (fun a b h z=>h (by rw [z])) nd1
  have ndA:(memA k rows ks m).Nodup:=List.Pairwise.of_map (S:=(· ≠ ·)) yC (fun a b h z=>h (by rw [z])) (wH k4 hs)
  refine (List.perm_ext_iff_of_nodup nd ndA).mpr fun e=>⟨h3 e,fun he=>?_⟩
  have hk:=h.all e he ((z4 k4 hs).mp he).2.1
  rw [← (pm.map (·.1)).mem_iff,← h2] at hk
  obtain ⟨e',he',ek⟩:=List.mem_map.mp hk
  have hA':=h3 e' he'
  obtain ⟨i,hi,e1⟩:=List.mem_iff_getElem.mp he
  obtain ⟨j,hj,e2⟩:=List.mem_iff_getElem.mp hA'
  have nk:=wH (m:=m) (ks:=ks) k4 hs
  have:i = j:=by
   refine (List.getElem_inj (xs:=(memA k rows ks m).map yC) (h₀:=by rw [List.length_map]; exact hi) (h₁:=by rw [List.length_map]; exact hj) nk).mp ?_
   rw [List.getElem_map,List.getElem_map,e1,e2,ek]
  subst this
  rw [← e1,e2]; exact he'
end
section
variable {k m:Nat} {rows:List (List Int)} {ks:List Ask}
def memD (e:Mem44):PyData:=.tuple [.int (e.st:Nat),.int (e.num:Nat),.int (e.box:Nat),ZG e.d]
theorem v6.dat {K:FG7} {H:Hp} {x:V} {L:List Mem44} (h:v6 K H x L):Dat K H x (.tuple (L.map memD)):=by
 obtain ⟨r,zs,rfl,h1,h2⟩:=h
 refine .tup h1 (datR (fun _ _ z=>?_) h2)
 obtain ⟨r,dv,rfl,h1,h2⟩:=z
 exact .tup h1 (.cons (.int _) (.cons (.int _) (.cons (.int _) (.cons h2.dat .nil))))
end
theorem jW {X:Cx} {K:FG7} (hK:X.K = K):MtR X "list.count" (fun x vs H Q=>∃ (l:Addr) (ns:List Int) (j:Int),x = .ref l /\ vs = [.int j] /\ SqL K H l (ns.map V.int) /\ Q (.int ((ns.countP fun i=>decide (i = j):Nat):Int)) H):=by
 subst hK
 intro pins s σ H x vs v us Q I rx rv h
 obtain ⟨l,ns,j,rfl,rfl,hq,q⟩:=h
 cases rx
 obtain ⟨u,rfl,t,rfl⟩:=vH rv
 obtain ⟨its,r,⟨o,n,ho,hc,hdi,hd⟩,hz⟩:=I.list hq
 obtain ⟨oc,od,oda,osl⟩:=o
 cases hc
 cases hd
 have key:∀ {ms:List Int} {ws:List Value},Vals (ms.map V.int) ws -> (ws.countP fun v=>match v with | .int a _=>a == j | _=>false) = ms.countP fun i=>decide (i = j):=by
  intro ms
  induction ms with
  | nil=>intro ws r; cases r; rfl
  | cons a ms ih =>
   intro ws r
   cases r with
   | cons r1 r2 =>
    obtain ⟨t',rfl⟩:=r1
    rw [List.countP_cons,List.countP_cons,ih r2]
    congr 1
 refine call_meets F.slot_list_count ⟨_,ho,rfl⟩ F.entry_list_count (F.args_list_count_2 _ _)
  (SeqAt.list_countAt l its.toArray n od osl (.int j t) (fun v=>match v with | .int a _=>a == j | _=>false)) ⟨ho,fun y hy=>?_,?_⟩
 ·obtain ⟨m,hm,rfl⟩:=List.getElem_of_mem (by simpa using hy:y ∈ its)
  have hm':m < ns.length:=by have:=r.length; rw [List.length_map] at this; omega
  have e1:(ns.map V.int)[m]? = some (.int ns[m]):=by rw [List.getElem?_map,List.getElem?_eq_getElem hm']; rfl
  obtain ⟨u,hu,t',rfl⟩:=r.get e1
  rw [List.getElem?_eq_getElem hm] at hu
  rw [Option.some.inj hu]
  exact SeqAt.EqAt.int_int _ _ _ _
 ·have:its.toArray.toList = its:=List.toList_toArray
  rw [this,key r]
  exact ⟨.int _,H,I.tok _,⟨_,rfl⟩,q⟩
def w4 (k:Nat):List (List Int):=List.replicate k (List.replicate (2 ^ k / 2) 0)
theorem jn (k:Nat):zB k (w4 k):=by
 refine ⟨by unfold w4; rw [List.length_replicate],fun r hr=>?_⟩
 obtain ⟨hk,rfl⟩:=List.mem_replicate.mp hr
 refine ⟨?_,fun b hb=>.inl (List.mem_replicate.mp hb).2⟩
 rw [List.length_replicate]
 obtain ⟨n,rfl⟩:∃ n,k = n + 1:=⟨k - 1,by omega⟩
 rw [Nat.add_sub_cancel,Nat.pow_succ]; omega
def wc (ns:List Int) (l:Nat):Int:=((ns.countP fun i=>decide (i = (l:Int)):Nat):Int)
def jcB (k:Nat) (ks:List Ask) (m s l:Nat):Int:=(((List.range m).countP fun b=>(lvR k (w4 k) ks s l b).isSome:Nat):Int)
def jlR (k:Nat) (ks:List Ask) (m:Nat):List (List Int):=(List.range (k + 1)).map fun s=>(List.range (2 ^ k)).map fun l=>jcB k ks m s l
def plR (k:Nat) (ks:List Ask):List (List Int):=(List.range (k + 1)).map fun s=>(List.range (2 ^ k)).map fun l=>wc (ks.map fun a=>yf k a.hand.toNat (a.box.toNat % 2 ^ k) s) l
def wI (K:FG7):Sp:=sp1 fun x H Q=>∃ k:Nat,x = .int k /\ k <= 4 /\ ∀ y H',Grow [] H H' -> zM K H' y (w4 k) -> Q y H'
def xP (K:FG7):Sp:=sp2 fun x y H Q=>∃ (k:Nat) (l:Addr) (ns:List Int),x = .int k /\ k <= 4 /\ y = .ref l /\ H l = some (.lst (ns.map V.int)) /\ ∀ y' H',Grow [] H H' -> zz K H' y' ((List.range (2 ^ k)).map (wc ns)) -> Q y' H'
def YC (K:FG7):Sp:=sp3 fun x y z H Q=>∃ (k:Nat) (b:List Int) (ks:List Ask),x = .int k /\ k <= 4 /\ zz K H y b /\ 1 <= b.length /\ b.length <= 16 /\ xf K H z ks /\ ks.length <= 16 /\ RndOk k b.length ks /\ ∀ y H',Grow [] H H' -> zM K H' y (jlR k ks b.length) -> Q y H'
def YD (K:FG7):Sp:=sp3 fun x y z H Q=>∃ (k:Nat) (b:List Int) (ks:List Ask),x = .int k /\ k <= 4 /\ zz K H y b /\ 1 <= b.length /\ b.length <= 16 /\ xf K H z ks /\ ks.length <= 16 /\ RndOk k b.length ks /\ ∀ y H',Grow [] H H' -> zM K H' y (plR k ks) -> Q y H'
theorem YE {k m s:Nat} {ks:List Ask} {kvs:List (List Key × V)} {R:V -> Deed -> Prop} (T:TabR kvs (2 ^ k) m (lvR k (w4 k) ks s) R) {l:Nat} (hl:l < 2 ^ k) {ns:List Int} (hn:ns.length = kvs.length) (hk:∀ (i:Nat) (p:List Key × V),kvs[i]? = some p -> ∃ (l' b:Nat),p.1 = keyR l' b /\ ns[i]? = some (l':Int)) :
  wc ns l = jcB k ks m s l:=by
 have pr:∀ {kvs:List (List Key × V)} {ns:List Int},ns.length = kvs.length -> (∀ (i:Nat) (p:List Key × V),kvs[i]? = some p -> ∃ (l' b:Nat),p.1 = keyR l' b /\ ns[i]? = some (l':Int)) -> ∃ prs:List (Nat × Nat),kvs.map (·.1) = prs.map (fun p=>keyR p.1 p.2) /\ ns = prs.map fun p=>(p.1:Int):=by
  intro kvs
  induction kvs with
  | nil=>intro ns h _; cases ns with
   | nil=>exact ⟨[],rfl,rfl⟩
   | cons _ _=>cases h
  | cons p kvs ih =>
   intro ns h hk
   cases ns with
   | nil=>cases h
   | cons n ns =>
    obtain ⟨l',b,e1,e2⟩:=hk 0 p rfl
    obtain ⟨prs,h1,h2⟩:=ih (Nat.succ.inj h) fun i q hq=>hk (i + 1) q hq
    exact ⟨(l',b) :: prs,by rw [List.map_cons,List.map_cons,h1,e1],by rw [List.map_cons,← h2,Option.some.inj e2]⟩
 obtain ⟨prs,h1,rfl⟩:=pr hn hk
 have nd:prs.Nodup:=by
  have:=T.nd
  rw [h1] at this
  exact List.Pairwise.of_map (S:=(· ≠ ·)) (fun p:Nat × Nat=>keyR p.1 p.2) (fun a b h z=>h (by rw [z])) this
 have mem:∀ b,(l,b) ∈ prs ↔ b < m /\ (lvR k (w4 k) ks s l b).isSome = true:=fun b=>by
  constructor
  ·intro h
   have hm:keyR l b ∈ kvs.map (·.1):=by rw [h1]; exact List.mem_map.mpr ⟨_,h,rfl⟩
   obtain ⟨p,hp,e⟩:=List.mem_map.mp hm
   obtain ⟨l',b',x,e',_,hb',hx,_⟩:=T.keys p hp
   rw [e] at e'
   obtain ⟨rfl,rfl⟩:=yj e'
   exact ⟨hb',by rw [hx]; rfl⟩
  ·rintro ⟨hb,hx⟩
   obtain ⟨j,v,j1,_⟩:=wm (T.all l b hl hb (fun z=>by rw [z] at hx; cases hx))
   have hm:keyR l b ∈ kvs.map (·.1):=List.mem_map.mpr ⟨_,List.mem_of_getElem? j1,rfl⟩
   rw [h1] at hm
   obtain ⟨⟨l',b'⟩,hp,e⟩:=List.mem_map.mp hm
   obtain ⟨e1,e2⟩:=yj e
   have e1':l' = l:=e1
   have e2':b' = b:=e2
   rw [← e1',← e2']; exact hp
 have e1:((prs.map fun p=>(p.1:Int)).countP fun i=>decide (i = (l:Int))) = ((prs.filter fun p=>decide (p.1 = l)).map (·.2)).length:=by
  rw [List.countP_map,List.countP_eq_length_filter,List.length_map]
  congr 2
  funext p
  show decide ((p.1:Int) = (l:Int)) = decide (p.1 = l)
  exact decide_eq_decide.mpr ⟨fun z=>by omega,fun z=>by rw [z]⟩
 have nd2:((prs.filter fun p=>decide (p.1 = l)).map (·.2)).Nodup:=by
  refine List.pairwise_map.mpr ((nd.sublist List.filter_sublist).imp_of_mem fun {a b} ha hb hab z=>hab ?_)
  have h1:=of_decide_eq_true (List.mem_filter.mp ha).2
  have h2:=of_decide_eq_true (List.mem_filter.mp hb).2
  exact Prod.ext (h1.trans h2.symm) z
 have pm:((prs.filter fun p=>decide (p.1 = l)).map (·.2)).Perm ((List.range m).filter fun b=>(lvR k (w4 k) ks s l b).isSome):=by
  refine (List.perm_ext_iff_of_nodup nd2 (List.nodup_range.sublist List.filter_sublist)).mpr fun b=>?_
  rw [List.mem_filter,List.mem_range,← mem b]
  constructor
  ·intro h
   obtain ⟨⟨l',b'⟩,hp,rfl⟩:=List.mem_map.mp h
   obtain ⟨h1,h2⟩:=List.mem_filter.mp hp
   have:l' = l:=of_decide_eq_true h2
   rw [← this]; exact h1
  ·intro h
   exact List.mem_map.mpr ⟨(l,b),List.mem_filter.mpr ⟨h,decide_eq_true rfl⟩,rfl⟩
 unfold wc jcB
 rw [e1,pm.length_eq,← List.countP_eq_length_filter]
theorem re {α:Type} {R:V -> α -> Prop} {v:V} {r:α} (h:R v r):∀ n:Nat,AllR R (List.replicate n [v]).flatten (List.replicate n r)
 | 0=>trivial
 | n + 1=>by
  rw [List.replicate_succ,List.flatten_cons,List.replicate_succ]
  exact ⟨h,re h n⟩
def lnX (k s h e l:Nat):Nat:=l ^^^ (e / 2 ^ (k - s) * 2 ^ (k - s) + h % 2 ^ (k - s))
def swX (k s h e n:Nat):Nat:=n ^^^ (e / (2 * 2 ^ (k - s)) * 2 ^ (k - s) + h % 2 ^ (k - s))
theorem v8 (j a b i:Nat):(a * 2 ^ j + b % 2 ^ j).testBit i = if i < j then b.testBit i else a.testBit (i - j):=by
 rw [Nat.mul_comm,Nat.testBit_two_pow_mul_add a (Nat.mod_lt _ (Nat.two_pow_pos j))]
 by_cases c:i < j
 ·rw [if_pos c,if_pos c,Nat.testBit_mod_two_pow]; simp [c]
 ·rw [if_neg c,if_neg c]
theorem w5 (k s h e l i:Nat):(lnX k s h e l).testBit i = Bool.xor (l.testBit i) (if i < k - s then h.testBit i else e.testBit i):=by
 unfold lnX
 rw [Nat.testBit_xor,v8]
 by_cases c:i < k - s
 ·rw [if_pos c,if_pos c]
 ·rw [if_neg c,if_neg c,Nat.testBit_div_two_pow,show i - (k - s) + (k - s) = i by omega]
theorem YF (k s h e n i:Nat):(swX k s h e n).testBit i = Bool.xor (n.testBit i) (if i < k - s then h.testBit i else e.testBit (i + 1)):=by
 unfold swX
 rw [Nat.testBit_xor,v8]
 by_cases c:i < k - s
 ·rw [if_pos c,if_pos c]
 ·rw [if_neg c,if_neg c,show 2 * 2 ^ (k - s) = 2 ^ (k - s + 1) by rw [Nat.pow_succ,Nat.mul_comm],Nat.testBit_div_two_pow,show i - (k - s) + (k - s + 1) = i + 1 by omega]
theorem jX:∀ k:Fin 5,∀ t:Fin 5,t.val <= k.val -> ∀ l:Fin 16,figI k.val t.val l.val = if l.val.testBit (k.val - t.val) then 1 else 0:=by decide +kernel
theorem figB {k t l:Nat} (k4:k <= 4) (tk:t <= k) (hl:l < 2 ^ k):figI k t l = if l.testBit (k - t) then 1 else 0:=by
 have p:=zS k4
 exact jX ⟨k,by omega⟩ ⟨t,by omega⟩ tk ⟨l,by omega⟩
theorem XJ:∀ k:Fin 5,∀ s:Fin 5,1 <= s.val -> s.val <= k.val -> ∀ l:Fin 16,l.val < 2 ^ k.val -> nN k.val s.val l.val = l.val / 2 ^ (k.val - s.val + 1) * 2 ^ (k.val - s.val) + l.val % 2 ^ (k.val - s.val):=by decide +kernel
theorem nB {k s l:Nat} (k4:k <= 4) (s1:1 <= s) (sk:s <= k) (hl:l < 2 ^ k) (i:Nat):(nN k s l).testBit i = if i < k - s then l.testBit i else l.testBit (i + 1):=by
 have p:=zS k4
 rw [XJ ⟨k,by omega⟩ ⟨s,by omega⟩ s1 sk ⟨l,by omega⟩ hl,v8]
 by_cases c:i < k - s
 ·rw [if_pos c,if_pos c]
 ·rw [if_neg c,if_neg c]
  show (l / 2 ^ (k - s + 1)).testBit _ = _
  rw [Nat.testBit_div_two_pow,show i - (k - s) + (k - s + 1) = i + 1 by omega]
theorem rf {k l i:Nat} (hl:l < 2 ^ k) (hi:k <= i):l.testBit i = false:=Nat.testBit_lt_two_pow (Nat.lt_of_lt_of_le hl (Nat.pow_le_pow_right (by omega) hi))
theorem YG {k l:Nat} (h:∀ i,k <= i -> l.testBit i = false):l < 2 ^ k:=Nat.lt_pow_two_of_testBit l h
section
variable {k h e:Nat}
theorem wJ {s l:Nat} (hh:h < 2 ^ k) (he:e < 2 ^ k) (hl:l < 2 ^ k):lnX k s h e l < 2 ^ k:=YG fun i hi=>by
 rw [w5,rf hl hi,rf hh hi,rf he hi]; simp
theorem w6 {s l:Nat}:lnX k s h e (lnX k s h e l) = l:=by unfold lnX; rw [Nat.xor_assoc,Nat.xor_self,Nat.xor_zero]
theorem tL {s n:Nat}:swX k s h e (swX k s h e n) = n:=by unfold swX; rw [Nat.xor_assoc,Nat.xor_self,Nat.xor_zero]
theorem WP {s l m:Nat} (z:lnX k s h e l = lnX k s h e m):l = m:=by rw [← w6 (k:=k) (h:=h) (e:=e) (s:=s) (l:=l),z,w6]
theorem YH {s n:Nat} (s1:1 <= s) (sk:s <= k) (hh:h < 2 ^ k) (he:e < 2 ^ k) (hn:n < 2 ^ (k - 1)):swX k s h e n < 2 ^ (k - 1):=YG fun i hi=>by
 rw [YF,rf hn hi,if_neg (by omega),rf he (by omega)]; rfl
def xb (a b:Int):Int:=Builtin.bitXor a b
theorem Uv {a b:Bool}:(if Bool.xor a b then (1:Int) else 0) = xb (if a then 1 else 0) (if b then 1 else 0):=by revert a b; decide
theorem VT {a b:Int} (ha:a = 0 \/ a = 1) (hb:b = 0 \/ b = 1):xb a b = 0 \/ xb a b = 1:=by rcases ha with rfl | rfl <;> rcases hb with rfl | rfl <;> decide
theorem VU {a b:Int} (ha:a = 0 \/ a = 1) (hb:b = 0 \/ b = 1):1 - xb a b = xb (1 - a) b:=by rcases ha with rfl | rfl <;> rcases hb with rfl | rfl <;> decide
theorem VV {a b c:Int} (ha:a = 0 \/ a = 1) (hb:b = 0 \/ b = 1) (hc:c = 0 \/ c = 1):xb a c = xb b c ↔ a = b:=by rcases ha with rfl | rfl <;> rcases hb with rfl | rfl <;> rcases hc with rfl | rfl <;> decide
theorem figX {s t l:Nat} (k4:k <= 4) (tk:t <= k) (hh:h < 2 ^ k) (he:e < 2 ^ k) (hl:l < 2 ^ k) (sk:s <= k):figI k t (lnX k s h e l:Nat) = xb (figI k t l) (if t <= s then figI k t e else figI k t h):=by
 rw [figB k4 tk (wJ hh he hl),w5,Uv,figB k4 tk hl]
 by_cases c:t <= s
 ·rw [if_pos c,if_neg (show ¬ k - t < k - s by omega),figB k4 tk he]
 ·rw [if_neg c,if_pos (show k - t < k - s by omega),figB k4 tk hh]
theorem xs01 {s t:Nat} (k4:k <= 4) (tk:t <= k) (hh:h < 2 ^ k) (he:e < 2 ^ k):(if t <= s then figI k t e else figI k t h) = 0 \/ (if t <= s then figI k t e else figI k t h) = 1:=by
 split
 ·exact wB k4 tk he
 ·exact wB k4 tk hh
theorem nN_X {s s' l:Nat} (k4:k <= 4) (s1:1 <= s) (sk:s <= k) (hs:s' = s \/ s' + 1 = s) (hh:h < 2 ^ k) (he:e < 2 ^ k) (hl:l < 2 ^ k):nN k s (lnX k s' h e l) = swX k s h e (nN k s l):=by
 refine Nat.eq_of_testBit_eq fun i=>?_
 rw [nB k4 s1 sk (wJ hh he hl),YF,nB k4 s1 sk hl]
 by_cases c:i < k - s
 ·rw [if_pos c,if_pos c,if_pos c,w5,if_pos (by omega)]
 ·rw [if_neg c,if_neg c,if_neg c,w5,if_neg (by omega)]
theorem wfX {s s' l:Nat} {w:Int} (k4:k <= 4) (s1:1 <= s) (sk:s <= k) (s'k:s' <= k) (hh:h < 2 ^ k) (he:e < 2 ^ k) (hl:l < 2 ^ k) (hw:w = 0 \/ w = 1) {s'':Nat} (hs:s' = s \/ s' + 1 = s) (hs':s'' = s \/ s'' + 1 = s) :
  wfN k s (lnX k s' h e l) (xb w (if s <= s'' then figI k s e else figI k s h)) = lnX k s'' h e (wfN k s l w):=by
 have hx:=xs01 (k:=k) (h:=h) (e:=e) (s:=s'') (t:=s) k4 sk hh he
 have A:=wfF k4 s1 sk (wJ (s:=s') hh he hl) (VT hw hx)
 have B:=wfF k4 s1 sk hl hw
 refine xz k4 A.lt (wJ hh he B.lt) fun t t1 tk=>?_
 rw [figX k4 tk hh he B.lt (by omega)]
 by_cases d:t = s
 ·subst d; rw [A.at_,B.at_]
 ·rw [A.off t tk d,B.off t tk d,figX k4 tk hh he hl s'k]
  by_cases c:t <= s'
  ·rw [if_pos c,if_pos (by omega)]
  ·rw [if_neg c,if_neg (by omega)]
def rwX (k h e:Nat) (rows:List (List Int)):List (List Int):=rows.mapIdx fun i row=>(List.range row.length).map fun n=>xb (row.getD (swX k (i + 1) h e n) 0) (figI k ((i + 1:Nat):Int) h)
theorem uP {rows:List (List Int)} (k4:k <= 4) (hh:h < 2 ^ k) (he:e < 2 ^ k) (hs:zB k rows):zB k (rwX k h e rows):=by
 refine ⟨by unfold rwX; rw [List.length_mapIdx,hs.1],fun r hr=>?_⟩
 obtain ⟨i,hi,rfl⟩:=List.mem_mapIdx.mp hr
 have hik:i < k:=by rw [← hs.1]; exact hi
 have hm:=hs.2 _ (List.getElem_mem hi)
 refine ⟨by rw [List.length_map,List.length_range,hm.1],fun b hb=>?_⟩
 obtain ⟨n,hn,rfl⟩:=List.mem_map.mp hb
 rw [List.mem_range,hm.1] at hn
 refine VT ?_ (wB k4 (by omega) hh)
 have hlt:swX k (i + 1) h e n < (rows[i]).length:=by rw [hm.1]; exact YH (by omega) (by omega) hh he hn
 rw [List.getD_eq_getElem?_getD,List.getElem?_eq_getElem hlt]
 exact hm.2 _ (List.getElem_mem hlt)
theorem WQ {rows:List (List Int)} {s n:Nat} (hs:zB k rows) (s1:1 <= s) (sk:s <= k) (hn:n < 2 ^ (k - 1)):fstI (rwX k h e rows) s n = xb (fstI rows s (swX k s h e n)) (figI k s h):=by
 have hi:s - 1 < rows.length:=by rw [hs.1]; omega
 have hm:=hs.2 _ (List.getElem_mem hi)
 have e1:(rwX k h e rows).getD (s - 1) [] = (List.range (rows[s - 1]).length).map fun n=>xb ((rows[s - 1]).getD (swX k (s - 1 + 1) h e n) 0) (figI k ((s - 1 + 1:Nat):Int) h):=by
  unfold rwX
  rw [List.getD_eq_getElem?_getD,List.getElem?_mapIdx,List.getElem?_eq_getElem hi]; rfl
 have e2:rows.getD (s - 1) [] = rows[s - 1]:=by rw [List.getD_eq_getElem?_getD,List.getElem?_eq_getElem hi]; rfl
 unfold fstI
 rw [e1,e2,List.getD_eq_getElem?_getD,List.getElem?_map,List.getElem?_range (by rw [hm.1]; exact hn),show s - 1 + 1 = s by omega]
 rfl
theorem x_X {rows:List (List Int)} {s s' l:Nat} (k4:k <= 4) (hs:zB k rows) (s1:1 <= s) (sk:s <= k) (hs':s' = s \/ s' + 1 = s) (hh:h < 2 ^ k) (he:e < 2 ^ k) (hl:l < 2 ^ k) :
  x0R k (rwX k h e rows) s (lnX k s' h e l) = lnX k (s - 1) h e (x0R k rows s l) /\ x1R k (rwX k h e rows) s (lnX k s' h e l) = lnX k (s - 1) h e (x1R k rows s l):=by
 have O:=oneF k4 s1 sk hl
 have f:=uh k4 hs s1 sk hl
 have g:=wB (l:=h) k4 sk hh
 have en:=nN_X (h:=h) (e:=e) k4 s1 sk hs' hh he hl
 have ef:fstI (rwX k h e rows) s (nN k s (lnX k s' h e l)) = xb (fstI rows s (nN k s l)) (figI k s h):=by
  rw [en,WQ hs s1 sk (YH s1 sk hh he O.lt),tL]
 have ei:(if s <= s - 1 then figI k s e else figI k s h) = figI k s h:=if_neg (by omega)
 unfold x0R x1R
 rw [ef]
 constructor
 ·have:=wfX (h:=h) (e:=e) (s':=s') (s'':=s - 1) k4 s1 sk (by omega) hh he hl f hs' (by omega)
  rw [ei] at this; exact this
 ·rw [VU f g]
  have:=wfX (h:=h) (e:=e) (s':=s') (s'':=s - 1) (w:=1 - fstI rows s (nN k s l)) k4 s1 sk (by omega) hh he hl (by omega) hs' (by omega)
  rw [ei] at this; exact this
def akX (h c:Nat) (a:Ask):Ask:=⟨((a.hand.toNat ^^^ h:Nat):Int),((a.box.toNat ^^^ c:Nat):Int),a.deed⟩
theorem xQ {a b c:Nat} (z:a ^^^ c = b ^^^ c):a = b:=by
 have:=congrArg (· ^^^ c) z
 simpa [Nat.xor_assoc] using this
theorem tM {a b:Nat} (ha:a < 16) (hb:b < 16):a ^^^ b < 16:=Nat.xor_lt_two_pow (n:=4) ha hb
theorem modX {b c:Nat} (s:Nat):(b ^^^ c) % 2 ^ k = lnX k k h (c % 2 ^ k) (b % 2 ^ k):=by
 refine Nat.eq_of_testBit_eq fun i=>?_
 rw [w5,Nat.testBit_mod_two_pow,Nat.testBit_xor,Nat.testBit_mod_two_pow,if_neg (by omega),Nat.testBit_mod_two_pow]
 by_cases z:i < k <;> simp [z]
theorem YI {l:Nat} (hh:h < 2 ^ k) (he:e < 2 ^ k):l ^^^ h = lnX k 0 h e l:=by
 unfold lnX
 rw [Nat.sub_zero,Nat.div_eq_of_lt he,Nat.zero_mul,Nat.zero_add,Nat.mod_eq_of_lt hh]
theorem rndX {c:Nat} {ks:List Ask} (hh:h < 2 ^ k) (hc:c < 16) (R:RndOk k 16 ks):RndOk k 16 (ks.map (akX h c)) where
 nd:=by
  rw [List.map_map]
  refine List.pairwise_map.mpr ((List.pairwise_map.mp R.nd).imp_of_mem fun {a b} ma mb hne z=>hne ?_)
  have z':((a.hand.toNat ^^^ h:Nat):Int) = ((b.hand.toNat ^^^ h:Nat):Int):=z
  have z2:=xQ (Int.ofNat.inj z')
  have h1:=(R.hand a ma).1
  have h2:=(R.hand b mb).1
  omega
 hand:=fun a ha=>by
  obtain ⟨a,ma,rfl⟩:=List.mem_map.mp ha
  have h1:=R.hand a ma
  refine ⟨Int.natCast_nonneg _,?_⟩
  have hl:a.hand.toNat < 2 ^ k:=by
   have:=h1.2
   have e:((2 ^ k:Nat):Int) = (2:Int) ^ k:=by push_cast; rfl
   omega
  have:=Nat.xor_lt_two_pow hl hh
  have e:((2 ^ k:Nat):Int) = (2:Int) ^ k:=by push_cast; rfl
  show ((a.hand.toNat ^^^ h:Nat):Int) < _
  omega
 box:=fun a ha=>by
  obtain ⟨a,ma,rfl⟩:=List.mem_map.mp ha
  have h1:=R.box a ma
  have:a.box.toNat ^^^ c < 16:=tM (by omega) hc
  exact ⟨Int.natCast_nonneg _,by show ((a.box.toNat ^^^ c:Nat):Int) < _; omega⟩
 ok:=fun a ha=>by
  obtain ⟨a,ma,rfl⟩:=List.mem_map.mp ha
  exact R.ok a ma
section
variable {c:Nat} {rows:List (List Int)} {ks:List Ask}
theorem figS {s b:Nat} (k4:k <= 4) (s1:1 <= s) (sk:s <= k):figI k s (((b ^^^ c) % 2 ^ k:Nat):Int) = xb (figI k s ((b % 2 ^ k:Nat):Int)) (figI k s ((c % 2 ^ k:Nat):Int)):=by
 rw [modX (h:=0) 0,figX k4 sk (Nat.two_pow_pos k) zo zo (Nat.le_refl k),if_pos sk]
theorem lvX (k4:k <= 4) (hh:h < 2 ^ k) (hs:zB k rows) (R:RndOk k 16 ks):∀ {s l b:Nat},s <= k -> l < 2 ^ k -> lvR k (rwX k h (c % 2 ^ k) rows) (ks.map (akX h c)) s (lnX k s h (c % 2 ^ k) l) (b ^^^ c) = lvR k rows ks s l b
 | 0,l,b,_,hl=>by
  show ((ks.map (akX h c)).find? _).map _ = (ks.find? _).map _
  rw [List.find?_map,Option.map_map]
  have e1:(ks.find? ((fun a:Ask=>decide (a.hand = (lnX k 0 h (c % 2 ^ k) l:Int) /\ a.box = ((b ^^^ c:Nat):Int))) ∘ akX h c)) = ks.find? fun a=>decide (a.hand = (l:Int) /\ a.box = (b:Int)):=by
   have key:∀ js:List Ask,(∀ a ∈ js,a ∈ ks) -> (js.find? ((fun a:Ask=>decide (a.hand = (lnX k 0 h (c % 2 ^ k) l:Int) /\ a.box = ((b ^^^ c:Nat):Int))) ∘ akX h c)) = js.find? fun a=>decide (a.hand = (l:Int) /\ a.box = (b:Int)):=by
    intro js
    induction js with
    | nil=>intro _; rfl
    | cons a js ih =>
     intro hj
     have ha:=hj a (by simp)
     have h1:=(R.hand a ha).1
     have h2:=(R.box a ha).1
     have e:((fun a:Ask=>decide (a.hand = (lnX k 0 h (c % 2 ^ k) l:Int) /\ a.box = ((b ^^^ c:Nat):Int))) ∘ akX h c) a = decide (a.hand = (l:Int) /\ a.box = (b:Int)):=by
      show decide (((a.hand.toNat ^^^ h:Nat):Int) = _ /\ ((a.box.toNat ^^^ c:Nat):Int) = _) = _
      rw [← YI (l:=l) hh zo]
      refine decide_eq_decide.mpr ⟨fun ⟨z1,z2⟩=>?_,fun ⟨z1,z2⟩=>?_⟩
      ·have:=xQ (Int.ofNat.inj z1); have:=xQ (Int.ofNat.inj z2); omega
      ·rw [z1,z2]; simp
     rw [List.find?_cons,List.find?_cons,e,ih fun a ha=>hj a (by simp [ha])]
   exact key ks fun _ h=>h
  rw [e1]
  rfl
 | s + 1,l,b,sk,hl=>by
  have X:=xF k4 hs (show 1 <= s + 1 by omega) sk hl
  have Y:=x_X (h:=h) (e:=c % 2 ^ k) k4 hs (show 1 <= s + 1 by omega) sk (.inl rfl) hh zo hl
  have A:=lvX (s:=s) (b:=b) k4 hh hs R (by omega) X.lt0
  have B:=lvX (s:=s) (b:=b) k4 hh hs R (by omega) X.lt1
  have f1:=figX (s:=s + 1) (t:=s + 1) (h:=h) (e:=c % 2 ^ k) k4 sk hh zo hl sk
  rw [if_pos (Nat.le_refl _)] at f1
  have f2:=figS (b:=b) (c:=c) k4 (show 1 <= s + 1 by omega) sk
  have iff:=VV (wB (t:=s + 1) (l:=l) k4 sk hl) (wB (t:=s + 1) k4 sk (zo (k:=k) (b:=b))) (wB (t:=s + 1) k4 sk (zo (k:=k) (b:=c)))
  show (if figI k ((s + 1:Nat):Int) (lnX k (s + 1) h (c % 2 ^ k) l:Nat) = figI k ((s + 1:Nat):Int) (((b ^^^ c) % 2 ^ k:Nat):Int) then vX _ _ else none) = if _ then vX _ _ else none
  rw [f1,f2,Y.1,Y.2,show s + 1 - 1 = s from rfl,A,B]
  simp only [iff]
theorem outX {s l b:Nat} (k4:k <= 4) (hh:h < 2 ^ k) (s1:1 <= s) (sk:s <= k) (hl:l < 2 ^ k):outR k s (lnX k (s - 1) h (c % 2 ^ k) l) (b ^^^ c) = lnX k s h (c % 2 ^ k) (outR k s l b):=by
 unfold outR
 rw [figS k4 s1 sk]
 have:=wfX (k:=k) (h:=h) (e:=c % 2 ^ k) (s':=s - 1) (s'':=s) (w:=figI k s ((b % 2 ^ k:Nat):Int)) k4 s1 sk (by omega) hh zo hl (wB k4 sk zo) (by omega) (.inl rfl)
 rw [if_pos (Nat.le_refl s)] at this
 exact this
theorem kpX (k4:k <= 4) (hh:h < 2 ^ k) (hs:zB k rows) (R:RndOk k 16 ks) {s s' l b:Nat} (s1:1 <= s) (sk:s <= k) (hs':s' = s \/ s' + 1 = s) (hl:l < 2 ^ k):kpR k (rwX k h (c % 2 ^ k) rows) (ks.map (akX h c)) s (lnX k s' h (c % 2 ^ k) l) (b ^^^ c) = kpR k rows ks s l b:=by
 have X:=xF k4 hs s1 sk hl
 have Y:=x_X (h:=h) (e:=c % 2 ^ k) k4 hs s1 sk hs' hh zo hl
 unfold kpR
 rw [Y.1,Y.2,lvX k4 hh hs R (by omega) X.lt0,lvX k4 hh hs R (by omega) X.lt1]
theorem stvX {bd bd':Nat -> Int} (k4:k <= 4) (hh:h < 2 ^ k) (hs:zB k rows) (R:RndOk k 16 ks) {b:Nat} (hb:bd' (b ^^^ c) = bd b):∀ n,n <= k -> ∀ l,l < 2 ^ k -> stvR k (rwX k h (c % 2 ^ k) rows) (ks.map (akX h c)) bd' n (lnX k (k - n) h (c % 2 ^ k) l) (b ^^^ c) = stvR k rows ks bd n l b
 | 0,_,l,hl=>hb
 | n + 1,hn,l,hl=>by
  have s1:1 <= k - n:=by omega
  have sk:k - n <= k:=by omega
  have X:=xF k4 hs s1 sk hl
  have Y:=x_X (h:=h) (e:=c % 2 ^ k) (s':=k - n - 1) k4 hs s1 sk (by omega) hh zo hl
  have O:=outX (h:=h) (c:=c) (b:=b) k4 hh s1 sk hl
  have ih:=stvX (bd:=bd) (bd':=bd') k4 hh hs R hb n (by omega) (outR k (k - n) l b) (outF k4 s1 sk hl).lt
  have e:k - (n + 1) = k - n - 1:=by omega
  rw [e]
  show (match lvR _ _ _ _ (x0R k _ (k - n) (lnX k (k - n - 1) h (c % 2 ^ k) l)) (b ^^^ c),lvR _ _ _ _ (x1R k _ (k - n) (lnX k (k - n - 1) h (c % 2 ^ k) l)) (b ^^^ c) with
   | some d,some _=>if lnX k (k - n - 1) h (c % 2 ^ k) l = x1R k _ (k - n) (lnX k (k - n - 1) h (c % 2 ^ k) l) then d.mk' (stvR _ _ _ bd' n (outR k (k - n) (lnX k (k - n - 1) h (c % 2 ^ k) l) (b ^^^ c)) (b ^^^ c)) else stvR _ _ _ bd' n (outR k (k - n) (lnX k (k - n - 1) h (c % 2 ^ k) l) (b ^^^ c)) (b ^^^ c)
   | _,_=>stvR _ _ _ bd' n (outR k (k - n) (lnX k (k - n - 1) h (c % 2 ^ k) l) (b ^^^ c)) (b ^^^ c)) = match lvR k rows ks (k - n - 1) (x0R k rows (k - n) l) b,lvR k rows ks (k - n - 1) (x1R k rows (k - n) l) b with
   | some d,some _=>if l = x1R k rows (k - n) l then d.mk' (stvR k rows ks bd n (outR k (k - n) l b) b) else stvR k rows ks bd n (outR k (k - n) l b) b
   | _,_=>stvR k rows ks bd n (outR k (k - n) l b) b
  have ei:(lnX k (k - n - 1) h (c % 2 ^ k) l = lnX k (k - n - 1) h (c % 2 ^ k) (x1R k rows (k - n) l)) = (l = x1R k rows (k - n) l):=propext ⟨WP,fun z=>by rw [← z]⟩
  rw [Y.1,Y.2,O,ih,lvX k4 hh hs R (by omega) X.lt0,lvX k4 hh hs R (by omega) X.lt1]
  simp only [ei]
def bdX (c:Nat) (b:List Int):List Int:=(List.range 16).map fun j=>bdF b (j ^^^ c)
theorem yz {b:List Int}:(bdX c b).length = 16:=by unfold bdX; rw [List.length_map,List.length_range]
theorem X8 {b:List Int} {j:Nat} (hj:j < 16):bdF (bdX c b) j = bdF b (j ^^^ c):=by
 show ((List.range 16).map fun j=>bdF b (j ^^^ c)).getD j 0 = _
 rw [List.getD_eq_getElem?_getD,List.getElem?_map,List.getElem?_range hj]; rfl
theorem ansX {b:List Int} (k4:k <= 4) (hh:h < 2 ^ k) (hc:c < 16) (hs:zB k rows) (R:RndOk k 16 ks):ansR k (rwX k h (c % 2 ^ k) rows) (ks.map (akX h c)) (bdX c b) = ansR k rows ks b:=by
 unfold ansR
 rw [List.map_map]
 refine List.map_congr_left fun a ha=>?_
 have h1:=R.hand a ha
 have h2:=R.box a ha
 have hl:a.hand.toNat < 2 ^ k:=by
  have e:((2 ^ k:Nat):Int) = (2:Int) ^ k:=by push_cast; rfl
  omega
 show stvR k _ _ _ k ((a.hand.toNat ^^^ h:Nat):Int).toNat ((a.box.toNat ^^^ c:Nat):Int).toNat = _
 rw [Int.toNat_natCast,Int.toNat_natCast,YI (e:=c % 2 ^ k) hh zo]
 have:=stvX (c:=c) (bd:=bdF b) (bd':=bdF (bdX c b)) k4 hh hs R (b:=a.box.toNat) (by rw [X8 (tM (by omega) hc),Nat.xor_assoc,Nat.xor_self,Nat.xor_zero]) k (Nat.le_refl k) a.hand.toNat hl
 rw [Nat.sub_self] at this
 exact this
theorem finX {b:List Int} (hb:b.length = 16) (k4:k <= 4) (hh:h < 2 ^ k) (hc:c < 16) (hs:zB k rows) (R:RndOk k 16 ks):finL k (rwX k h (c % 2 ^ k) rows) (ks.map (akX h c)) (bdX c b) = bdX c (finL k rows ks b):=by
 unfold finL
 rw [yz,hb]
 unfold bdX
 refine List.map_congr_left fun j hj=>?_
 rw [List.mem_range] at hj
 have hx:=tM hj hc
 have ej:j = (j ^^^ c) ^^^ c:=by rw [Nat.xor_assoc,Nat.xor_self,Nat.xor_zero]
 have e1:bdF ((List.range 16).map (finR k rows ks (bdF b))) (j ^^^ c) = finR k rows ks (bdF b) (j ^^^ c):=by
  show ((List.range 16).map _).getD _ 0 = _
  rw [List.getD_eq_getElem?_getD,List.getElem?_map,List.getElem?_range hx]; rfl
 rw [e1]
 have e2:=lvX (c:=c) (b:=j ^^^ c) k4 hh hs R (Nat.le_refl k) (zo (k:=k) (b:=j ^^^ c))
 rw [← modX (h:=h) 0,← ej] at e2
 unfold finR
 rw [e2,show bdF (List.map (fun j=>bdF b (j ^^^ c)) (List.range 16)) j = bdF b (j ^^^ c) from X8 hj]
theorem ordX (k4:k <= 4) (hh:h < 2 ^ k) (he:e < 2 ^ k) (hs:zB k rows) {g:Nat} (hg:g < 2 ^ k):∀ n,n <= k -> ordL k (rwX k h e rows) (g ^^^ e) n = (ordL k rows g n).map (lnX k (k - n) h e)
 | 0,_=>by
  show [g ^^^ e] = [lnX k (k - 0) h e g]
  unfold lnX
  rw [Nat.sub_zero,Nat.sub_self,Nat.pow_zero,Nat.div_one,Nat.mul_one,Nat.mod_one,Nat.add_zero]
 | n + 1,hn=>by
  have F:=ordF (rows:=rows) k4 hs hg n (by omega)
  show (ordL k (rwX k h e rows) (g ^^^ e) n).flatMap (inO k (rwX k h e rows) (k - n)) = ((ordL k rows g n).flatMap (inO k rows (k - n))).map _
  rw [ordX k4 hh he hs hg n (by omega),List.flatMap_map,List.map_flatMap]
  refine xv fun l hl=>?_
  have Y:=x_X (h:=h) (e:=e) k4 hs (show 1 <= k - n by omega) (show k - n <= k by omega) (.inl rfl) hh he (F.mem l hl).1
  rw [VF,VF,Y.1,Y.2]
  rfl
end
section
variable {c:Nat} {rows:List (List Int)} {ks:List Ask}
theorem VW (k4:k <= 4) (hh:h < 2 ^ k) (hc:c < 16) (hs:zB k rows) (R:RndOk k 16 ks) {j:Nat} {d:Deed} (hj:j < 16):(j ^^^ c,d) ∈ yu k (rwX k h (c % 2 ^ k) rows) (ks.map (akX h c)) 16 ↔ (j,d) ∈ yu k rows ks 16:=by
 rw [yQ,yQ,modX (h:=h) 0,lvX k4 hh hs R (Nat.le_refl k) zo]
 exact ⟨fun z=>⟨hj,z.2⟩,fun z=>⟨tM hj hc,z.2⟩⟩
theorem jY {m:Nat} {K:FG7} {H:Hp} {its items:List (List Int × List V)} {zs:List V} (ent:∀ p ∈ its,∃ (j:Nat) (v:V) (d:Deed),p = ([(j:Int)],[v]) /\ (j,d) ∈ yu k rows ks m /\ zx K H v d)
  (nd:(its.map (·.1)).Nodup) (all:∀ (j:Nat) (d:Deed),(j,d) ∈ yu k rows ks m -> [(j:Int)] ∈ its.map (·.1))
  (pm:items.Perm its) (pw:items.Pairwise (fun x y=>ltL x.1 y.1 = true)) (al:AllR (yy K H) zs items):AllR (BdAt K H) zs (yu k rows ks m):=by
 have look:=fun p (hp:p ∈ items)=>ent p (pm.mem_iff.mp hp)
 have boxes:(items.map (·.1)) = (yu k rows ks m).map fun p=>[(p.1:Int)]:=by
  have pw1:(items.map (·.1)).Pairwise (fun x y=>ltL x y = true):=List.pairwise_map.mpr pw
  have nd1:(items.map (·.1)).Nodup:=((pm.map _).nodup_iff).mpr nd
  have nd2:((yu k rows ks m).map fun p=>[(p.1:Int)]).Nodup:=vY.imp fun {x y} h z=>by rw [z,wY] at h; cases h
  refine tH pw1 vY ((List.perm_ext_iff_of_nodup nd1 nd2).mpr fun x=>⟨fun hx=>?_,fun hx=>?_⟩)
  ·obtain ⟨p,hp,rfl⟩:=List.mem_map.mp hx
   obtain ⟨c,v,d,rfl,hd,_⟩:=look p hp
   exact List.mem_map.mpr ⟨(c,d),hd,rfl⟩
  ·obtain ⟨⟨c,d⟩,hp,rfl⟩:=List.mem_map.mp hx
   exact (pm.map _).mem_iff.mpr (all c d hp)
 have len:zs.length = (yu k rows ks m).length:=by
  rw [al.len]
  have:=congrArg List.length boxes
  rw [List.length_map,List.length_map] at this; exact this
 refine AllR.of_get len fun i z hz=>?_
 obtain ⟨p,hp,r,rfl,hr⟩:=al.get hz
 obtain ⟨c,v,d,rfl,hd,hv⟩:=look p (List.mem_of_getElem? hp)
 have e:=congrArg (fun l=>l[i]?) boxes
 simp only [List.getElem?_map,hp,Option.map_some] at e
 obtain ⟨⟨c',d'⟩,h1,h2⟩:=Option.map_eq_some_iff.mp e.symm
 have ec:c' = c:=by have:=(List.cons.inj h2).1; omega
 subst ec
 have hd':=(yQ.mp (List.mem_of_getElem? h1)).2
 rw [(yQ.mp hd).2] at hd'
 cases Option.some.inj hd'
 exact ⟨_,h1,r,v,rfl,hr,hv⟩
def meX (k h c:Nat) (m:Mem44):Mem44:=⟨m.st,swX k m.st h (c % 2 ^ k) m.num,m.box ^^^ c,m.d⟩
theorem WR {m:Mem44}:meX k h c (meX k h c m) = m:=by
 unfold meX
 simp only [tL,Nat.xor_assoc,Nat.xor_self,Nat.xor_zero]
theorem Uw (k4:k <= 4) (hh:h < 2 ^ k) (hc:c < 16) (hs:zB k rows) (R:RndOk k 16 ks) {m:Mem44} (hm:m ∈ memA k rows ks 16):meX k h c m ∈ memA k (rwX k h (c % 2 ^ k) rows) (ks.map (akX h c)) 16:=by
 obtain ⟨h1,h2,h3,l,h4,h5,h6⟩:=(z4 k4 hs).mp hm
 refine (z4 k4 (uP k4 hh zo hs)).mpr ⟨h1,h2,tM h3 hc,lnX k m.st h (c % 2 ^ k) l,wJ hh zo h4,?_,?_⟩
 ·show swX k m.st h (c % 2 ^ k) m.num = nN k m.st _
  rw [h5,nN_X k4 h1 h2 (.inl rfl) hh zo h4]
 ·exact (kpX k4 hh hs R h1 h2 (.inl rfl) h4).trans h6
theorem Ux (k4:k <= 4) (hh:h < 2 ^ k) (hc:c < 16) (hs:zB k rows) (R:RndOk k 16 ks) {m:Mem44} (hm:m ∈ memA k (rwX k h (c % 2 ^ k) rows) (ks.map (akX h c)) 16):meX k h c m ∈ memA k rows ks 16:=by
 obtain ⟨h1,h2,h3,l,h4,h5,h6⟩:=(z4 k4 (uP k4 hh zo hs)).mp hm
 have hl:lnX k m.st h (c % 2 ^ k) l < 2 ^ k:=wJ hh zo h4
 refine (z4 k4 hs).mpr ⟨h1,h2,tM h3 hc,lnX k m.st h (c % 2 ^ k) l,hl,?_,?_⟩
 ·show swX k m.st h (c % 2 ^ k) m.num = nN k m.st _
  rw [h5,nN_X k4 h1 h2 (.inl rfl) hh zo h4]
 ·have:=kpX (c:=c) (b:=m.box ^^^ c) k4 hh hs R h1 h2 (.inl rfl) hl
  rw [w6,Nat.xor_assoc,Nat.xor_self,Nat.xor_zero] at this
  exact this.symm.trans h6
theorem remX {K:FG7} {H:Hp} (k4:k <= 4) (hh:h < 2 ^ k) (hc:c < 16) (hs:zB k rows) (R:RndOk k 16 ks) {L:List Mem44} (hL:RemS k 16 rows ks L) {its:List (List Int × List V)}
  (hlen:its.length = L.length) (hi:∀ (i:Nat) (p:List Int × List V),its[i]? = some p -> ∃ m,L[i]? = some m /\ p.1 = yC (meX k h c m) /\ ∃ v,p.2 = [v] /\ zx K H v m.d):RemP K H k 16 (rwX k h (c % 2 ^ k) rows) (ks.map (akX h c)) k its:=by
 have keys:its.map (·.1) = L.map fun m=>yC (meX k h c m):=by
  refine List.ext_getElem? fun i=>?_
  rw [List.getElem?_map,List.getElem?_map]
  cases h1:its[i]? with
  | none =>
   have:L[i]? = none:=List.getElem?_eq_none (by rw [← hlen]; exact List.getElem?_eq_none_iff.mp h1)
   rw [this]; rfl
  | some p =>
   obtain ⟨m,h2,h3,_⟩:=hi i p h1
   rw [h2]; exact congrArg some h3
 refine ⟨fun p hp=>?_,?_,fun e he _=>?_⟩
 ·obtain ⟨i,hi1,rfl⟩:=List.mem_iff_getElem.mp hp
  obtain ⟨m,h2,h3,v,h4,h5⟩:=hi i _ (List.getElem?_eq_getElem hi1)
  have hm:=Uw k4 hh hc hs R (hL.pm.mem_iff.mp (List.mem_of_getElem? h2))
  exact ⟨_,v,Prod.ext h3 h4,hm,((z4 k4 (uP k4 hh zo hs)).mp hm).2.1,h5⟩
 ·rw [keys]
  have nd:L.Nodup:=(hL.pm.nodup_iff).mpr (List.Pairwise.of_map (S:=(· ≠ ·)) yC (fun a b h z=>h (by rw [z])) (wH k4 hs))
  have ndk:(L.map yC).Nodup:=((hL.pm.map yC).nodup_iff).mpr (wH k4 hs)
  refine List.pairwise_map.mpr ((List.pairwise_map.mp ndk).imp fun {a b} hab z=>hab ?_)
  obtain ⟨z1,z2,z3⟩:=xy z
  have z1':a.st = b.st:=z1
  have z2':swX k a.st h (c % 2 ^ k) a.num = swX k b.st h (c % 2 ^ k) b.num:=z2
  have z3':a.box = b.box:=xQ z3
  rw [z1'] at z2'
  have z2'':a.num = b.num:=by rw [← tL (k:=k) (s:=b.st) (h:=h) (e:=c % 2 ^ k) (n:=a.num),z2',tL]
  unfold yC; rw [z1',z2'',z3']
 ·rw [keys]
  have hm:=Ux k4 hh hc hs R he
  exact List.mem_map.mpr ⟨_,hL.pm.mem_iff.mpr hm,by rw [WR]⟩
def ldX (k h e:Nat) (rows:List (List Int)):List (List Int):=rows.mapIdx fun s row=>(List.range row.length).map fun l=>row.getD (lnX k s h e l) 0
theorem jZ {a b:Option Deed}:(vX a b).isSome = (a.isSome || b.isSome):=by cases a <;> cases b <;> rfl
theorem tN (k4:k <= 4):∀ {rows rows':List (List Int)},zB k rows -> zB k rows' -> ∀ {s l b:Nat},s <= k -> l < 2 ^ k -> (lvR k rows ks s l b).isSome = (lvR k rows' ks s l b).isSome
 | _,_,_,_,0,_,_,_,_=>rfl
 | rows,rows',hs,hs',s + 1,l,b,sk,hl=>by
  have ih:∀ {rw:List (List Int)},zB k rw -> (lvR k rw ks (s + 1) l b).isSome = if figI k ((s + 1:Nat):Int) l = figI k ((s + 1:Nat):Int) ((b % 2 ^ k:Nat):Int) then ((lvR k rows ks s (wfN k (s + 1) l 0) b).isSome || (lvR k rows ks s (wfN k (s + 1) l 1) b).isSome) else false:=by
   intro rw hrw
   have f:=uh k4 hrw (show 1 <= s + 1 by omega) sk hl
   have X:=xF k4 hrw (show 1 <= s + 1 by omega) sk hl
   by_cases c:figI k ((s + 1:Nat):Int) l = figI k ((s + 1:Nat):Int) ((b % 2 ^ k:Nat):Int)
   ·rw [if_pos c,show lvR k rw ks (s + 1) l b = vX (lvR k rw ks s (x0R k rw (s + 1) l) b) (lvR k rw ks s (x1R k rw (s + 1) l) b) from if_pos c,jZ,
     tN (rows':=rows) k4 hrw hs (by omega) X.lt0,tN (rows':=rows) k4 hrw hs (by omega) X.lt1]
    unfold x0R x1R
    rcases f with f | f
    ·rw [f]; rfl
    ·rw [f]; exact Bool.or_comm _ _
   ·rw [if_neg c,show lvR k rw ks (s + 1) l b = none from if_neg c]; rfl
  rw [ih hs,ih hs']
theorem rngX (hc:c < 16):((List.range 16).map (· ^^^ c)).Perm (List.range 16):=by
 have:∀ c:Fin 16,((List.range 16).map (· ^^^ c.val)).isPerm (List.range 16) = true:=by decide +kernel
 exact List.isPerm_iff.mp (this ⟨c,hc⟩)
theorem jcX (k4:k <= 4) (hh:h < 2 ^ k) (hc:c < 16) (R:RndOk k 16 ks) {s l:Nat} (sk:s <= k) (hl:l < 2 ^ k):jcB k (ks.map (akX h c)) 16 s l = jcB k ks 16 s (lnX k s h (c % 2 ^ k) l):=by
 have st:=jn k
 unfold jcB
 rw [← (rngX hc).countP_eq,List.countP_map]
 congr 1
 refine List.countP_congr fun b _=>?_
 have hx:lnX k s h (c % 2 ^ k) l < 2 ^ k:=wJ hh zo hl
 have e1:=lvX (c:=c) (b:=b) k4 hh st R sk hx
 rw [w6] at e1
 show (lvR k (w4 k) (ks.map (akX h c)) s l (b ^^^ c)).isSome = true ↔ _
 rw [tN (rows':=rwX k h (c % 2 ^ k) (w4 k)) k4 st (uP k4 hh zo st) sk hl,e1]
theorem X9 {f g:Nat -> Nat -> Int} {hh:h < 2 ^ k} {he:e < 2 ^ k} (hfg:∀ s l,s <= k -> l < 2 ^ k -> g s l = f s (lnX k s h e l)):ldX k h e ((List.range (k + 1)).map fun s=>(List.range (2 ^ k)).map fun l=>f s l) = (List.range (k + 1)).map fun s=>(List.range (2 ^ k)).map fun l=>g s l:=by
 unfold ldX
 refine List.ext_getElem? fun i=>?_
 rw [List.getElem?_mapIdx,List.getElem?_map,List.getElem?_map]
 by_cases hi:i < k + 1
 ·rw [List.getElem?_range hi]
  show some ((List.range ((List.range (2 ^ k)).map fun l=>f i l).length).map _) = some _
  rw [List.length_map,List.length_range]
  refine congrArg some (List.map_congr_left fun l hl=>?_)
  have hl':=List.mem_range.mp hl
  rw [List.getD_eq_getElem?_getD,List.getElem?_map,List.getElem?_range (wJ hh he hl'),hfg i l (by omega) hl']
  rfl
 ·rw [List.getElem?_eq_none (by rw [List.length_range]; omega)]; rfl
theorem jlX (k4:k <= 4) (hh:h < 2 ^ k) (hc:c < 16) (R:RndOk k 16 ks):ldX k h (c % 2 ^ k) (jlR k ks 16) = jlR k (ks.map (akX h c)) 16:=X9 (hh:=hh) (he:=zo) fun s l sk hl=>jcX k4 hh hc R sk hl
theorem uQ:∀ k:Fin 5,∀ a:Fin 16,∀ g:Fin 16,a.val < 2 ^ k.val -> g.val < 2 ^ k.val -> ∀ n:Fin 5,n.val <= k.val -> lN k.val a.val g.val n.val = g.val / 2 ^ (k.val - n.val) * 2 ^ (k.val - n.val) + a.val % 2 ^ (k.val - n.val):=by decide +kernel
theorem Uy {a b n:Nat} (k4:k <= 4) (hh:h < 2 ^ k) (ha:a < 2 ^ k) (nk:n <= k):yf k ((a ^^^ h:Nat):Int) (((b ^^^ c) % 2 ^ k:Nat):Int) n = (lnX k n h (c % 2 ^ k) (yf k a ((b % 2 ^ k:Nat):Int) n).toNat:Nat):=by
 have p:=zS k4
 have hg:b % 2 ^ k < 2 ^ k:=zo
 have hg':(b ^^^ c) % 2 ^ k < 2 ^ k:=zo
 have ha':a ^^^ h < 2 ^ k:=Nat.xor_lt_two_pow ha hh
 rw [((sF ⟨k,by omega⟩ ⟨a ^^^ h,by omega⟩ ⟨(b ^^^ c) % 2 ^ k,by omega⟩ ha' hg').2.2 ⟨n,by omega⟩ nk).1.1]
 show ((lN k (a ^^^ h) ((b ^^^ c) % 2 ^ k) n:Nat):Int) = ((lnX k n h (c % 2 ^ k) (lN k a (b % 2 ^ k) n):Nat):Int)
 congr 1
 have e1:=uQ ⟨k,by omega⟩ ⟨a ^^^ h,by omega⟩ ⟨(b ^^^ c) % 2 ^ k,by omega⟩ ha' hg' ⟨n,by omega⟩ nk
 have e2:=uQ ⟨k,by omega⟩ ⟨a,by omega⟩ ⟨b % 2 ^ k,by omega⟩ ha hg ⟨n,by omega⟩ nk
 refine Nat.eq_of_testBit_eq fun i=>?_
 rw [w5]
 rw [show lN k (a ^^^ h) ((b ^^^ c) % 2 ^ k) n = _ from e1,show lN k a (b % 2 ^ k) n = _ from e2,v8,v8]
 by_cases z:i < k - n
 ·rw [if_pos z,if_pos z,if_pos z,Nat.testBit_xor]
 ·rw [if_neg z,if_neg z,if_neg z]
  show (((b ^^^ c) % 2 ^ k) / 2 ^ (k - n)).testBit _ = Bool.xor ((b % 2 ^ k / 2 ^ (k - n)).testBit _) _
  rw [Nat.testBit_div_two_pow,Nat.testBit_div_two_pow,show i - (k - n) + (k - n) = i by omega,Nat.testBit_mod_two_pow,Nat.testBit_mod_two_pow,Nat.testBit_mod_two_pow,Nat.testBit_xor]
  by_cases y:i < k <;> simp [y]
theorem plX (k4:k <= 4) (hh:h < 2 ^ k) (R:RndOk k 16 ks):ldX k h (c % 2 ^ k) (plR k ks) = plR k (ks.map (akX h c)):=X9 (hh:=hh) (he:=zo) fun s l sk hl=>by
 have p:=zS k4
 unfold wc
 rw [List.map_map,List.countP_map,List.countP_map]
 congr 1
 refine List.countP_congr fun a ha=>?_
 have h1:=R.hand a ha
 have ha':a.hand.toNat < 2 ^ k:=by
  have e:((2 ^ k:Nat):Int) = (2:Int) ^ k:=by push_cast; rfl
  omega
 have hg:a.box.toNat % 2 ^ k < 2 ^ k:=zo
 have W:=((sF ⟨k,by omega⟩ ⟨a.hand.toNat,by omega⟩ ⟨a.box.toNat % 2 ^ k,by omega⟩ ha' hg).2.2 ⟨s,by omega⟩ sk).1
 have W1:yf k a.hand.toNat ((a.box.toNat % 2 ^ k:Nat):Int) s = (lN k a.hand.toNat (a.box.toNat % 2 ^ k) s:Int):=W.1
 show decide (yf k (((a.hand.toNat ^^^ h:Nat):Int).toNat:Int) (((((a.box.toNat ^^^ c:Nat):Int).toNat % 2 ^ k:Nat)):Int) s = (l:Int)) = true ↔ decide (yf k a.hand.toNat ((a.box.toNat % 2 ^ k:Nat):Int) s = ((lnX k s h (c % 2 ^ k) l:Nat):Int)) = true
 rw [Int.toNat_natCast,Int.toNat_natCast,Uy k4 hh ha' sk,W1,Int.toNat_natCast,decide_eq_true_iff,decide_eq_true_iff]
 constructor
 ·intro z
  have z':lnX k s h (c % 2 ^ k) (lN k a.hand.toNat (a.box.toNat % 2 ^ k) s) = l:=Int.ofNat.inj z
  rw [← z',w6]
 ·intro z
  have z':lN k a.hand.toNat (a.box.toNat % 2 ^ k) s = lnX k s h (c % 2 ^ k) l:=Int.ofNat.inj z
  rw [z',w6]
end
end
def qk (_:FG7):Sp:=sp5 fun x y z u w H Q=>∃ k s n h e:Nat,x = .int k /\ y = .int s /\ z = .int n /\ u = .int h /\ w = .int e /\ k <= 4 /\ 1 <= s /\ s <= k /\ n < 2 ^ k /\ h < 2 ^ k /\ e < 2 ^ k /\ Q (.int (swX k s h e n)) H
def YJ (_:FG7):Sp:=sp5 fun x y z u w H Q=>∃ k s n h e:Nat,x = .int k /\ y = .int s /\ z = .int n /\ u = .int h /\ w = .int e /\ k <= 4 /\ s <= k /\ n < 2 ^ k /\ h < 2 ^ k /\ e < 2 ^ k /\ Q (.int (lnX k s h e n)) H
def rg (K:FG7):Sp:=sp2 fun x y H Q=>∃ (a:Addr) (k:Nat),x = .ref a /\ y = .int k /\ k <= 4 /\ Pot H a /\ ∀ y ks H',Grow [a] H H' -> Pot H' a -> xf K H' y ks -> ks.length <= 16 -> RndOk k 16 ks -> (∀ a ∈ ks,a.deed.Sm) -> Q y H'
def YK (K:FG7):Sp:=sp4 fun x y z u H Q=>∃ (k:Nat) (rows:List (List Int)) (h e:Nat),x = .int k /\ zM K H y rows /\ z = .int h /\ u = .int e /\ k <= 4 /\ h < 2 ^ k /\ e < 2 ^ k /\ zB k rows /\ ∀ y H',Grow [] H H' -> zM K H' y (rwX k h e rows) -> Q y H'
def LdOk (k:Nat) (rows:List (List Int)):Prop:=rows.length = k + 1 /\ ∀ r ∈ rows,r.length = 2 ^ k
def YL (K:FG7):Sp:=sp4 fun x y z u H Q=>∃ (k:Nat) (rows:List (List Int)) (h e:Nat),x = .int k /\ zM K H y rows /\ z = .int h /\ u = .int e /\ k <= 4 /\ h < 2 ^ k /\ e < 2 ^ k /\ LdOk k rows /\ ∀ y H',Grow [] H H' -> zM K H' y (ldX k h e rows) -> Q y H'
def jo (K:FG7):Sp:=sp4 fun x y z u H Q=>∃ (k:Nat) (L:List Mem44) (h c:Nat) (rows:List (List Int)) (ks:List Ask),x = .int k /\ v6 K H y L /\ z = .int h /\ u = .int c /\ k <= 4 /\ h < 2 ^ k /\ c < 16 /\ zB k rows /\ RndOk k 16 ks /\ ks.length <= 16 /\ RemS k 16 rows ks L ∧
 ∀ y L' H',Grow [] H H' -> v6 K H' y L' -> RemS k 16 (rwX k h (c % 2 ^ k) rows) (ks.map (akX h c)) L' -> Q y H'
def uR (K:FG7):Sp:=sp6 fun x y z u v w H Q=>∃ (k:Nat) (b:List Int) (ks:List Ask) (rows:List (List Int)) (h c:Nat),x = .int k /\ k <= 4 /\ zz K H y b /\ b.length = 16 /\ InB (10 ^ 30) b /\ xf K H z ks /\ ks.length <= 16 /\ RndOk k 16 ks /\ (∀ a ∈ ks,a.deed.Sm) /\ zM K H u rows /\ zB k rows /\ v = .int h /\ w = .int c /\ h < 2 ^ k /\ c < 16 ∧
 ∀ H',Grow [] H H' -> Q (.bl true) H'
theorem sw48 {k s h e n:Nat}:Builtin.bitXor (n:Int) ((e:Int) / (2 * (1 * 2 ^ ((k - s:Nat):Int).toNat)) * (1 * 2 ^ ((k - s:Nat):Int).toNat) + (h:Int) % (1 * 2 ^ ((k - s:Nat):Int).toNat)) = (swX k s h e n:Nat):=by
 rw [yv]
 show Builtin.bitXor (n:Int) ((e / (2 * 2 ^ (k - s)) * 2 ^ (k - s) + h % 2 ^ (k - s):Nat):Int) = _
 exact xn
theorem ln48 {k s h e n:Nat}:Builtin.bitXor (n:Int) ((e:Int) / (1 * 2 ^ ((k - s:Nat):Int).toNat) * (1 * 2 ^ ((k - s:Nat):Int).toNat) + (h:Int) % (1 * 2 ^ ((k - s:Nat):Int).toNat)) = (lnX k s h e n:Nat):=by
 rw [yv]
 show Builtin.bitXor (n:Int) ((e / 2 ^ (k - s) * 2 ^ (k - s) + h % 2 ^ (k - s):Nat):Int) = _
 exact xn
section
variable {K:FG7} {H:Hp} {x y:V} {neg:Bool} {Q:VK}
theorem ql {p:List Int × List Int} (hx:vd K H x p) (hy:vd K H y p) (q:Q (.bl neg) H):rS K neg x y H Q :=
 ⟨Wn p,hx.dat.dq,hy.dat.dq,(by obtain ⟨a,_,_,e,_⟩:=hx; exact ⟨a,e⟩),Xn p,q⟩
theorem j0 {p:List Int} (hx:zz K H x p) (hy:zz K H y p) (q:Q (.bl neg) H):rS K neg x y H Q :=
 ⟨rowD p,ZV hx,ZV hy,(by obtain ⟨a,e,_⟩:=hx; exact ⟨a,e⟩),by show PyData.depthAll (p.map PyData.int) + 1 <= 100; rw [wA]; decide,q⟩
theorem uS:∀ L:List Mem44,PyData.depthAll (L.map memD) <= 2
 | []=>Nat.zero_le _
 | p :: ps=>by
  show max (max 0 (max 0 (max 0 (max (max 0 (max (oD p.d.lo).depth (max (oD p.d.hi).depth 0)) + 1) 0))) + 1) (PyData.depthAll (ps.map memD)) <= 2
  have:=uS ps
  rw [Xo,Xo]; omega
theorem j3 {L:List Mem44} (hx:v6 K H x L) (hy:v6 K H y L) (q:Q (.bl neg) H):rS K neg x y H Q :=
 ⟨.tuple (L.map memD),hx.dat.dq,hy.dat.dq,(by obtain ⟨a,_,e,_⟩:=hx; exact ⟨a,e⟩),by have:=uS L; show PyData.depthAll (L.map memD) + 1 <= 100; omega,q⟩
theorem j4 {l m:Addr} {a b a' b':V} {A B:List (List Int)} (hl:SqL K H l [a,b]) (hm:SqL K H m [a',b']) (ha:zM K H a A) (hb:zM K H b B) (ha':zM K H a' A) (hb':zM K H b' B) (q:Q (.bl neg) H):rS K neg (.ref l) (.ref m) H Q :=
 ⟨.list [jE A,jE B],.lst hl (.cons (tq ha) (.cons (tq hb) .nil)),.lst hm (.cons (tq ha') (.cons (tq hb') .nil)),⟨l,rfl⟩,by
  have h1:=sG A
  have h2:=sG B
  show max (jE A).depth (max (jE B).depth 0) + 1 <= 100
  omega,q⟩
end
theorem WS {k m:Nat} {ks:List Ask}:LdOk k (jlR k ks m):=⟨by unfold jlR; rw [List.length_map,List.length_range],fun r hr=>by
 unfold jlR at hr
 obtain ⟨s,_,rfl⟩:=List.mem_map.mp hr
 rw [List.length_map,List.length_range]⟩
theorem WT {k:Nat} {ks:List Ask}:LdOk k (plR k ks):=⟨by unfold plR; rw [List.length_map,List.length_range],fun r hr=>by
 unfold plR at hr
 obtain ⟨s,_,rfl⟩:=List.mem_map.mp hr
 rw [List.length_map,List.length_range]⟩
theorem Uz {k m h c:Nat} {ks:List Ask} (R:RndOk k m ks) {a:Ask} (ha:a ∈ ks):Builtin.bitXor a.hand (h:Int) = (akX h c a).hand /\ Builtin.bitXor a.box (c:Int) = (akX h c a).box:=by
 have h1:=(R.hand a ha).1
 have h2:=(R.box a ha).1
 constructor
 ·show _ = ((a.hand.toNat ^^^ h:Nat):Int)
  rw [← xn,Int.toNat_of_nonneg h1]
 ·show _ = ((a.box.toNat ^^^ c:Nat):Int)
  rw [← xn,Int.toNat_of_nonneg h2]
theorem UA {k h c:Nat} {rows:List (List Int)} {ks:List Ask} {K:FG7} {H:Hp} (k4:k <= 4) (hh:h < 2 ^ k) (hc:c < 16) (hs:zB k rows) (R:RndOk k 16 ks) {its:List (List Int × List V)} (hlen:its.length = (yu k rows ks 16).length)
  (hi:∀ (i:Nat) (p:List Int × List V),its[i]? = some p -> ∃ m,(yu k rows ks 16)[i]? = some m /\ p.1 = [((m.1 ^^^ c:Nat):Int)] /\ ∃ v,p.2 = [v] /\ zx K H v m.2) :
  (its.map (·.1)).Nodup /\ (∀ p ∈ its,∃ (j:Nat) (v:V) (d:Deed),p = ([(j:Int)],[v]) /\ (j,d) ∈ yu k (rwX k h (c % 2 ^ k) rows) (ks.map (akX h c)) 16 /\ zx K H v d) /\ ∀ (j:Nat) (d:Deed),(j,d) ∈ yu k (rwX k h (c % 2 ^ k) rows) (ks.map (akX h c)) 16 -> [(j:Int)] ∈ its.map (·.1):=by
 have keys:its.map (·.1) = (yu k rows ks 16).map fun m=>[((m.1 ^^^ c:Nat):Int)]:=by
  refine List.ext_getElem? fun i=>?_
  rw [List.getElem?_map,List.getElem?_map]
  cases h1:its[i]? with
  | none =>
   have:(yu k rows ks 16)[i]? = none:=List.getElem?_eq_none (by rw [← hlen]; exact List.getElem?_eq_none_iff.mp h1)
   rw [this]; rfl
  | some p =>
   obtain ⟨m,h2,h3,_⟩:=hi i p h1
   rw [h2]; exact congrArg some h3
 refine ⟨?_,fun p hp=>?_,fun j d hj=>?_⟩
 ·rw [keys]
  have nd2:((yu k rows ks 16).map fun p=>[(p.1:Int)]).Nodup:=vY.imp fun {x y} h z=>by rw [z,wY] at h; cases h
  refine List.pairwise_map.mpr ((List.pairwise_map.mp nd2).imp fun {a b} hab z=>hab ?_)
  have z':=xQ (Int.ofNat.inj (List.cons.inj z).1)
  rw [z']
 ·obtain ⟨i,hi1,rfl⟩:=List.mem_iff_getElem.mp hp
  obtain ⟨m,h2,h3,v,h4,h5⟩:=hi i _ (List.getElem?_eq_getElem hi1)
  have hm:=List.mem_of_getElem? h2
  have h16:=(yQ.mp hm).1
  exact ⟨m.1 ^^^ c,v,m.2,Prod.ext h3 h4,(VW k4 hh hc hs R h16).mpr hm,h5⟩
 ·rw [keys]
  have h16:=(yQ.mp hj).1
  have e:(j ^^^ c) ^^^ c = j:=by rw [Nat.xor_assoc,Nat.xor_self,Nat.xor_zero]
  rw [← e] at hj
  have:=(VW k4 hh hc hs R (tM h16 hc)).mp hj
  exact List.mem_map.mpr ⟨_,this,by show [(((j ^^^ c) ^^^ c:Nat):Int)] = _; rw [e]⟩
end L3
namespace My
open PySem PySem.Spec PyProof.Rows L2 L3
def top (i:Nat):Stmt:=PySem.Challenge.pw_joinedasks_k48_whole_exchanged.main.body.getD i (.Pass ⟨0,0,0,0⟩)
section
variable {P:Program} {w:World} {K:FG7} {mg:Str -> Option Value} {base:Heap} {n:Nat} {f:Addr} {fd:FuncData}
theorem tO:FnScope ["k","lines"] ["k","lines"] (zg (top 53)):=⟨rfl,rfl,rfl,by decide +kernel,rfl,by decide +kernel,by decide +kernel⟩
theorem tP (F:Fun K "counted_on" "counted_on" (top 53) f fd) (B:Blt mg)     :
  FnOk P w K mg base CX0 (n + 1) f fd ["k","lines"] (xP K):=by
 refine F.ok tO yp (fun cdv A outer s H vs Q E hr h=>?_)
 obtain ⟨x,y,rfl,k,l,ns,rfl,k4,rfl,hl,q⟩:=h
 refine ⟨_,(zj (zr (zy zn rfl B.tuple zE (za (zF (CSc.of (N':=["line","lines"]) (sub:=[none,some 1]) (zg (top 53)) ["k","lines"] rfl rfl (by decide +kernel) rfl) rfl (zU rfl B.range (za (zq yN zi (pv 0)) zb)) (fun _ _ _ _ _ _=>zk (i:=0) (show (["line","lines"]:List Str).Nodup by decide +kernel) rfl (Or.inl rfl)) (fun _ _ _ _ _ _=>zA) (fun _ _ _ _ _ _=>(Vy (K:=K) rfl PySem.F.plainAttrs_list PySem.F.slot_list_count PySem.F.type_list_count (jW (K:=K) rfl) (pv 1) (za (pv 0) zb)))) zb)))),?_⟩
 have p16:=zS k4
 obtain ⟨W,hW⟩:∃ W:Nat,W = 2 ^ k:=⟨_,rfl⟩
 have e1k:(1:Int) * 2 ^ ((k:Int)).toNat = W:=by rw [yv,hW]
 rw [← hW] at p16 q
 refine ⟨_,rfl,_,_,rfl,rfl,x9 k4,_,rfl,(by show -2 ^ 62 <= (1:Int) * 2 ^ ((k:Int)).toNat; rw [e1k]; omega),(by show (1:Int) * 2 ^ ((k:Int)).toNat < 2 ^ 62; rw [e1k]; omega),yP (fun i ys H'=>H' = H /\ ys = ((List.range i).map (wc ns)).map V.int) ⟨rfl,rfl⟩ ?_ ?_⟩
 ·rintro i ys H' hi ⟨rfl,rfl⟩
  have hi':i < W:=by rw [e1k] at hi; omega
  refine ⟨_,rfl,.inl ⟨rfl,_,SqL.of hl⟩,_,rfl,l,ns,_,rfl,rfl,SqL.of hl,zG (by rw [List.length_map,List.length_map,List.length_range]; omega),rfl,?_⟩
  rw [List.range_succ,List.map_append,List.map_append]
  show _ ++ [V.int _] = _ ++ [V.int (wc ns i)]
  unfold wc
  rw [Int.zero_add]
 ·rintro ys H' ⟨rfl,rfl⟩ l2 hl2
  rw [e1k,Int.toNat_natCast]
  refine ⟨l2,_,rfl,.inl ⟨SqL.of zd,fun r hr'=>q _ _ ((Grow.new hl2 _).trans (Grow.new hr' _)) ⟨r,rfl,SqT.of zd⟩⟩⟩
theorem YM:FnScope ["k","stage","line"] ["k","stage","line"] (zg (top 30)):=⟨rfl,rfl,rfl,by decide +kernel,rfl,by decide +kernel,by decide +kernel⟩
theorem YN (F:Fun K "figure" "figure" (top 30) f fd) (B:Blt mg)     :
  FnOk P w K mg base CX0 (n + 1) f fd ["k","stage","line"] (vR K):=by
 refine F.ok YM xi (fun cdv A outer s H vs Q E hr h=>?_)
 obtain ⟨x,y,z,rfl,k,st,l,rfl,rfl,rfl,hs,q⟩:=h
 refine ⟨_,(zj (zr (zq Zi (zq Zh (pv 2) (zq yE (pv 0) (pv 1))) zi))),?_⟩
 exact ⟨_,rfl,_,rfl,_,rfl,_,_,rfl,rfl,_,_,rfl,rfl,(by show (0:Int) <= (k:Int) - st; omega),_,_,rfl,rfl,q⟩
theorem uj:FnScope ["k","stage","line","wanted"] ["k","stage","line","wanted"] (zg (top 31)):=⟨rfl,rfl,rfl,by decide +kernel,rfl,by decide +kernel,by decide +kernel⟩
theorem uk (F:Fun K "with_figure" "with_figure" (top 31) f fd) (B:Blt mg) (qc0:zh P w K mg base n "figure" ["k","stage","line"] (vR K))    :
  FnOk P w K mg base CX0 (n + 1) f fd ["k","stage","line","wanted"] (xk K):=by
 refine F.ok uj xj (fun cdv A outer s H vs Q E hr h=>?_)
 obtain ⟨x,y,z,u,rfl,k,st,l,w,rfl,rfl,rfl,rfl,k4,hs,l0,l1,hw,q⟩:=h
 refine ⟨_,(zj (zr (zq xt (pv 2) (zq yN (zq xt (zf qc0 hr rfl (za (pv 0) (za (pv 1) (za (pv 2) zb)))) (pv 3)) (zq yE (pv 0) (pv 1)))))),?_⟩
 have F:=figF k4 hs l0 l1
 refine ⟨_,rfl,_,rfl,_,rfl,_,rfl,_,_,_,rfl,k,st,l,rfl,rfl,rfl,hs,_,rfl,_,_,rfl,rfl,_,rfl,_,rfl,_,_,rfl,rfl,_,_,rfl,rfl,⟨by show (0:Int) <= (k:Int) - st; omega,by show (k:Int) - st <= 1000000; omega,F.2 w hw⟩,_,_,rfl,rfl,q⟩
theorem YO:FnScope ["k","stage","line","side"] ["k","stage","line","side"] (zg (top 32)):=⟨rfl,rfl,rfl,by decide +kernel,rfl,by decide +kernel,by decide +kernel⟩
theorem YQ (F:Fun K "onward" "onward" (top 32) f fd) (B:Blt mg) (qc0:zh P w K mg base n "with_figure" ["k","stage","line","wanted"] (xk K)) (qc1:zh P w K mg base n "figure" ["k","stage","line"] (vR K))    :
  FnOk P w K mg base CX0 (n + 1) f fd ["k","stage","line","side"] (wz K):=by
 refine F.ok YO xj (fun cdv A outer s H vs Q E hr h=>?_)
 obtain ⟨x,y,z,u,rfl,k,st,l,s,rfl,rfl,rfl,rfl,k4,hs,l0,l1,s0,s1,q⟩:=h
 refine ⟨_,(zj (zr (zf qc0 hr rfl (za (pv 0) (za (pv 1) (za (pv 2) (za (zf qc1 hr rfl (za (pv 0) (za (pv 1) (za (pv 3) zb)))) zb))))))),?_⟩
 have F:=figF k4 hs s0 s1
 exact ⟨_,rfl,_,rfl,_,rfl,_,rfl,_,rfl,_,rfl,_,_,_,rfl,k,st,s,rfl,rfl,rfl,hs,_,_,_,_,rfl,k,st,l,_,rfl,rfl,rfl,rfl,k4,hs,l0,l1,F.1,q⟩
theorem v9:FnScope ["k","hand","side","lines","stage"] ["k","hand","side"] (zg (top 34)):=⟨rfl,rfl,rfl,by decide +kernel,rfl,by decide +kernel,by decide +kernel⟩
theorem YR (F:Fun K "way_of" "way_of" (top 34) f fd) (B:Blt mg) (qc0:zh P w K mg base n "onward" ["k","stage","line","side"] (wz K))    :
  FnOk P w K mg base CX0 (n + 1) f fd ["k","hand","side"] (XX K):=by
 refine F.ok v9 xi (fun cdv A outer s H vs Q E hr h=>?_)
 obtain ⟨x,y,z,rfl,k,h0,g0,rfl,rfl,rfl,k4,hh,hg,q⟩:=h
 refine ⟨_,(ze (zw (i:=3) v9.nd rfl (Or.inl rfl) (y9 (za (pv 1) zb))) (ze (yU PassesOwn.never rfl (tY rfl B.range (za zi (za (zq yM (pv 0) zi) zb))) (zk (i:=4) v9.nd rfl (Or.inl rfl)) (zj (zL (uV PySem.F.plainAttrs_list PySem.F.slot_list_append PySem.F.type_list_append xu (pv 3) (za (zf qc0 hr rfl (za (pv 0) (za (pv 4) (za (zZ z9 (pv 3) (Y0 qK zi) (fun _ _=>rfl)) (za (pv 2) zb))))) zb))))) (zj (zr (zy zn rfl B.tuple zE (za (pv 3) zb)))))),?_⟩
 have p:=zS k4
 refine ⟨_,rfl,szl rfl,fun l hl=>?_⟩
 have gl:Grow [l] H (upd H l (.lst [.int h0])):=Grow.new hl _
 refine ⟨_,rfl,_,_,rfl,rfl,_,_,rfl,⟨by omega,by omega,by omega,by omega⟩,xr (fun i σ H'=>∃ (ys:List Int) (e:Option V),σ = [some (.int k),some (.int h0),some (.int g0),some (.ref l),e] /\ Grow [l] H H' /\ H' l = some (.lst ((ys ++ [yf k h0 g0 i]).map V.int)) /\ ys ++ [yf k h0 g0 i] = (List.range (i + 1)).map fun n=>yf k h0 g0 n) ?_ ?_ ?_⟩
 ·have e0:yf k h0 g0 0 = h0:=(Wo k4 hh hg (n:=0) (by omega)).1.symm
  exact ⟨[],_,rfl,gl,by rw [zd,e0]; rfl,rfl⟩
 ·rintro i σ H1 hi ⟨ys,e,rfl,g,hl1,hy⟩
  have hik:i + 1 <= k:=by omega
  have F0:=Wo k4 hh hg (n:=i) (by omega)
  have F1:=Wo k4 hh hg (n:=i + 1) hik
  have hlen:(ys ++ [yf k h0 g0 i]).length = i + 1:=by rw [hy,List.length_map,List.length_range]
  refine ⟨_,rfl,.inl ⟨rfl,_,SqL.of hl1⟩,_,rfl,_,rfl,_,rfl,_,rfl,l,_,_,_,rfl,rfl,SqL.of hl1,Uk,_,rfl,_,_,_,_,rfl,k,i + 1,yf k h0 g0 i,g0,rfl,congrArg V.int (by omega),rfl,rfl,k4,hik,F0.2.1,F0.2.2,by omega,by omega,?_⟩
  have ew:wfI k ((i + 1:Nat):Int) (yf k h0 g0 i) (figI k ((i + 1:Nat):Int) g0) = yf k h0 g0 (i + 1):=by
   rw [← F1.1,← F0.1,show ((i + 1:Nat):Int) = 1 + (i:Int) by omega]; rfl
  rw [ew]
  refine ⟨l,_,_,rfl,rfl,hl1,yJ (by rw [List.length_map,hlen]; omega),ys ++ [yf k h0 g0 i],_,rfl,g.trans (Grow.set hl1 (by simp) _),?_,?_⟩
  ·rw [zd,List.map_append (l₂:=[yf k h0 g0 (i + 1)])]; rfl
  ·rw [List.range_succ (n:=i + 1),List.map_append,← hy]; rfl
 ·rintro σ H1 ⟨ys,e,rfl,g,hl1,hy⟩
  refine ⟨_,rfl,l,_,rfl,.inl ⟨SqL.of hl1,fun r hr=>q _ _ ((g.shrink hl).trans (Grow.new hr _)) ⟨r,rfl,SqT.of ?_⟩⟩⟩
  rw [zd,hy,show ((k:Int) + 1 - 1).toNat = k by omega]; rfl
theorem qm:FnScope ["k","box"] ["k","box"] (zg (top 42)):=⟨rfl,rfl,rfl,by decide +kernel,rfl,by decide +kernel,by decide +kernel⟩
theorem qo (F:Fun K "side_for" "side_for" (top 42) f fd) (B:Blt mg)     :
  FnOk P w K mg base CX0 (n + 1) f fd ["k","box"] (wE K):=by
 refine F.ok qm yp (fun cdv A outer s H vs Q E hr h=>?_)
 obtain ⟨x,y,rfl,k,b,rfl,rfl,k4,b16,q⟩:=h
 refine ⟨_,(zj (zr (zq Zi (pv 1) (zq yE (zq yN zi (pv 0)) zi)))),?_⟩
 refine ⟨_,rfl,_,rfl,_,_,rfl,rfl,x9 k4,_,_,rfl,rfl,_,_,rfl,rfl,?_⟩
 have e:=XA k4 b16
 show Q (.int (Builtin.bitAnd (b:Int) (1 * 2 ^ ((k:Int)).toNat - 1))) H
 rw [e]
 exact q
theorem qp:FnScope ["thing"] ["thing"] (zg (top 9)):=⟨rfl,rfl,rfl,by decide +kernel,rfl,by decide +kernel,by decide +kernel⟩
theorem qr (F:Fun K "is_whole" "is_whole" (top 9) f fd) (B:Blt mg)     :
  FnOk P w K mg base CX0 (n + 1) f fd ["thing"] (yW K):=by
 refine F.ok qp yV (fun cdv A outer s H vs Q E hr h=>?_)
 obtain ⟨x,rfl,⟨T,ty⟩,q⟩:=h
 refine ⟨_,(zj (zr (uz (zu xa rfl B.isinstance zV (za (pv 0) (za (vc rfl B.int Ub) zb))) (vE (W6 (zu xa rfl B.isinstance zV (za (pv 0) (za (vc rfl B.bool Vh) zb)))))))),?_⟩
 cases x with
 | non=>cases (show T = "NoneType" from ty); exact ⟨_,rfl,_,_,_,false,rfl,rfl,rfl,_,rfl,iteF q⟩
 | bl y=>cases (show T = "bool" from ty); exact ⟨_,rfl,_,_,_,true,rfl,rfl,rfl,_,rfl,iteT ⟨_,rfl,_,_,_,true,rfl,rfl,rfl,_,rfl,q⟩⟩
 | int i=>cases (show T = "int" from ty); exact ⟨_,rfl,_,_,_,true,rfl,rfl,rfl,_,rfl,iteT ⟨_,rfl,_,_,_,false,rfl,rfl,rfl,_,rfl,q⟩⟩
 | str y=>cases (show T = "str" from ty); exact ⟨_,rfl,_,_,_,false,rfl,rfl,rfl,_,rfl,iteF q⟩
 | byt y=>exact ty.elim
 | flt y=>exact ty.elim
 | ty y=>exact ty.elim
 | ref a =>
  rcases ty with ⟨rfl,xs,hq⟩ | ⟨rfl,xs,hq⟩ | ⟨rfl,kvs,hq⟩
  ·exact ⟨_,rfl,_,_,_,false,rfl,.inl ⟨rfl,xs,hq⟩,rfl,_,rfl,iteF q⟩
  ·exact ⟨_,rfl,_,_,_,false,rfl,.inr (.inl ⟨rfl,xs,hq⟩),rfl,_,rfl,iteF q⟩
  ·exact ⟨_,rfl,_,_,_,false,rfl,.inr (.inr ⟨rfl,kvs,hq⟩),rfl,_,rfl,iteF q⟩
theorem rh:FnScope ["thing","least","greatest"] ["thing","least","greatest"] (zg (top 10)):=⟨rfl,rfl,rfl,by decide +kernel,rfl,by decide +kernel,by decide +kernel⟩
theorem rj (F:Fun K "is_within" "is_within" (top 10) f fd) (B:Blt mg) (qc0:zh P w K mg base n "is_whole" ["thing"] (yW K))    :
  FnOk P w K mg base CX0 (n + 1) f fd ["thing","least","greatest"] (yK K):=by
 refine F.ok rh xi (fun cdv A outer s H vs Q E hr h=>?_)
 obtain ⟨x,y,z,rfl,i,l,u,rfl,rfl,rfl,q⟩:=h
 refine ⟨_,(zj (zr (uz (zf qc0 hr rfl (za (pv 0) zb)) (vE (Y2 Y1 Y1 (pv 1) (pv 0) (pv 2)))))),?_⟩
 refine ⟨_,rfl,_,rfl,qN,_,rfl,iteT ⟨_,rfl,_,rfl,_,_,rfl,rfl,_,rfl,?_⟩⟩
 by_cases c:l <= i
 ·refine wg (decide_eq_true c) ⟨_,rfl,_,_,rfl,rfl,?_⟩
  rw [decide_eq_true c] at q; exact q
 ·refine xL (decide_eq_false c) ?_
  rw [decide_eq_false c] at q; exact q
theorem j5:FnScope ["k","thing"] ["k","thing"] (zg (top 28)):=⟨rfl,rfl,rfl,by decide +kernel,rfl,by decide +kernel,by decide +kernel⟩
theorem j6 (F:Fun K "is_line" "is_line" (top 28) f fd) (B:Blt mg) (qc0:zh P w K mg base n "is_within" ["thing","least","greatest"] (yK K))    :
  FnOk P w K mg base CX0 (n + 1) f fd ["k","thing"] (wS K):=by
 refine F.ok j5 yp (fun cdv A outer s H vs Q E hr h=>?_)
 obtain ⟨x,y,rfl,k,l,rfl,rfl,k4,hl,q⟩:=h
 refine ⟨_,(zj (zr (zf qc0 hr rfl (za (pv 1) (za zi (za (zq yE (zq yN zi (pv 0)) zi) zb)))))),?_⟩
 refine ⟨_,rfl,_,rfl,_,_,rfl,rfl,x9 k4,_,_,rfl,rfl,_,_,_,rfl,_,_,_,rfl,rfl,rfl,?_⟩
 rw [decide_eq_true (show (0:Int) <= l by omega),decide_eq_true (show (l:Int) <= 1 * 2 ^ ((k:Int)).toNat - 1 by rw [yv]; omega)]
 exact q
theorem YS:FnScope ["thing"] ["thing"] (zg (top 12)):=⟨rfl,rfl,rfl,by decide +kernel,rfl,by decide +kernel,by decide +kernel⟩
theorem YT (F:Fun K "is_end" "is_end" (top 12) f fd) (B:Blt mg) (qc0:zh P w K mg base n "is_whole" ["thing"] (yW K))    :
  FnOk P w K mg base CX0 (n + 1) f fd ["thing"] (sr K):=by
 refine F.ok YS yV (fun cdv A outer s H vs Q E hr h=>?_)
 obtain ⟨x,rfl,kn,q⟩:=h
 refine ⟨_,(zj (zr (W5 (W4 (tW (pv 0))) (vE (zf qc0 hr rfl (za (pv 0) zb)))))),?_⟩
 refine ⟨x,rfl,_,rfl,?_⟩
 cases x with
 | non=>exact iteT q
 | _=>exact iteF ⟨_,rfl,_,rfl,kn,q⟩
theorem xY:FnScope ["thing","add","low","high"] ["thing"] (zg (top 13)):=⟨rfl,rfl,rfl,by decide +kernel,rfl,by decide +kernel,by decide +kernel⟩
theorem j7 (F:Fun K "is_deed" "is_deed" (top 13) f fd) (B:Blt mg) (qc0:zh P w K mg base n "is_end" ["thing"] (sr K)) (qc1:zh P w K mg base n "is_whole" ["thing"] (yW K))    :
  FnOk P w K mg base CX0 (n + 1) f fd ["thing"] (uA K):=by
 refine F.ok xY yV (fun cdv A outer s H vs Q E hr h=>?_)
 obtain ⟨x,rfl,h⟩:=h
 refine ⟨_,(ze (yi (PW.pt (tX (y0 (yL (zu xa rfl B.isinstance zV (za (pv 0) (za (vc rfl B.tuple zE) zb))))) (vb (zJ Zm (zu zD rfl B.len wq (za (pv 0) zb)) zi (zQ _))))) (zj (zr wM)) zC) (ze (x6 (pv 0) (yI rfl (zm (zk (i:=1) xY.nd rfl (Or.inl rfl)) (zm (zk (i:=2) xY.nd rfl (Or.inl rfl)) (zm (zk (i:=3) xY.nd rfl (Or.inl rfl)) zH))))) (ze (yi (y0 (PW.pt (uy (yL (zf qc1 hr rfl (za (pv 1) zb))) (uy (yL (zf qc0 hr rfl (za (pv 2) zb))) (vD (yL (zf qc0 hr rfl (za (pv 3) zb)))))))) (zj (zr wM)) zC) (ze (yi (PW.pt (tX (wp (tW (pv 2))) (vb (wp (tW (pv 3)))))) (zj (zr wM)) zC) (zj (zr (W5 (vG Zn (pv 2) (pv 3) (zQ _)) (vE (uz (vG vn (pv 2) (pv 3) (zQ _)) (vE (vG vn (pv 1) zi (zQ _)))))))))))),?_⟩
 rcases h with ⟨T,hT,ty,q⟩ | ⟨a,xs,rfl,hs,hk,q⟩
 ·have kt:PySem.W.kitOne K (.type T) (.type "tuple") = some false:=by
   cases x with
   | non=>cases (show T = "NoneType" from ty); rfl
   | bl y=>cases (show T = "bool" from ty); rfl
   | int i=>cases (show T = "int" from ty); rfl
   | str y=>cases (show T = "str" from ty); rfl
   | byt y=>exact ty.elim
   | flt y=>exact ty.elim
   | ty y=>exact ty.elim
   | ref a =>
    rcases ty with ⟨rfl,xs,hq⟩ | ⟨rfl,xs,hq⟩ | ⟨rfl,kvs,hq⟩
    ·exact absurd rfl hT
    ·rfl
    ·rfl
  exact ⟨_,rfl,_,_,_,false,rfl,ty,kt,_,rfl,iteT (iteT q)⟩
 ·refine ⟨_,rfl,_,_,_,true,rfl,.inl ⟨rfl,xs,hs⟩,rfl,_,rfl,iteF ⟨_,rfl,a,xs,rfl,.inr hs,rfl,_,rfl,?_⟩⟩
  by_cases hl:xs.length = 3
  ·obtain ⟨y1,y2,y3,rfl⟩:=len3 hl
   refine iteF ⟨_,rfl,a,_,rfl,hs,rfl,_,_,rfl,_,_,rfl,_,_,rfl,rfl,?_⟩
   refine ⟨_,rfl,_,rfl,hk y1 (by simp),_,rfl,?_⟩
   refine ite2 (fun c1=>?_) (fun c1=>?_)
   ·obtain ⟨i1,rfl⟩:=ZB c1
    refine ⟨_,rfl,_,rfl,hk y2 (by simp),_,rfl,?_⟩
    refine ite2 (fun c2=>?_) (fun c2=>?_)
    ·obtain ⟨o2,rfl⟩:=XN c2
     refine ⟨_,rfl,_,rfl,hk y3 (by simp),_,rfl,?_⟩
     by_cases c3:endV y3 = true
     ·obtain ⟨o3,rfl⟩:=XN c3
      rw [c3]
      refine iteF ?_
      cases o2 with
      | none=>exact ⟨_,rfl,_,rfl,iteT (iteT (by cases o3 <;> exact q))⟩
      | some l =>
       cases o3 with
       | none=>exact ⟨_,rfl,_,rfl,iteF ⟨_,rfl,_,rfl,iteT q⟩⟩
       | some u =>
        refine ⟨_,rfl,_,rfl,iteF ⟨_,rfl,_,rfl,iteF ?_⟩⟩
        refine ⟨_,rfl,_,rfl,_,_,rfl,rfl,_,rfl,?_⟩
        have q':Q (.bl (decide (l < u) || (decide (l = u) && decide (i1 = 0)))) H:=q
        refine ite2 (fun c=>?_) (fun c=>?_)
        ·rw [c] at q'; exact q'
        ·rw [Bool.eq_false_iff.mpr c] at q'
         refine ⟨_,rfl,_,rfl,rfl,_,rfl,?_⟩
         refine ite2 (fun d=>?_) (fun d=>?_)
         ·have d':l = u:=V.int.inj (of_decide_eq_true d)
          refine ⟨_,rfl,rfl,?_⟩
          rw [decide_eq_true d'] at q'
          have e:decide (V.int i1 = V.int 0) = decide (i1 = 0):=by simp
          rw [e]; exact q'
         ·have d':¬ l = u:=fun z=>d (by rw [z]; simp)
          rw [decide_eq_false d'] at q'
          exact q'
     ·have e:endV y3 = false:=Bool.eq_false_iff.mpr c3
      rw [e]
      refine iteT ?_
      have z:wO [V.int i1,ov o2,y3] = false:=by show (true && (endV (ov o2) && (endV y3 && _))) = false; rw [e]; simp
      rw [z] at q; exact q
    ·have e:endV y2 = false:=Bool.eq_false_iff.mpr c2
     refine iteT ?_
     have z:wO [V.int i1,y2,y3] = false:=by show (true && (endV y2 && (endV y3 && _))) = false; rw [e]; simp
     rw [z] at q; exact q
   ·have e:sj y1 = false:=Bool.eq_false_iff.mpr c1
    refine iteT ?_
    have z:wO [y1,y2,y3] = false:=by show (sj y1 && (endV y2 && (endV y3 && _))) = false; rw [e]; simp
    rw [z] at q; exact q
  ·have e:decide (V.int (xs.length:Int) = V.int 3) = false:=decide_eq_false fun z=>hl (by have:=V.int.inj z; omega)
   rw [e]
   refine iteT ?_
   rw [rM hl] at q; exact q
theorem wK:FnScope ["board","thing","hand","box","deed"] ["board","thing"] (zg (top 22)):=⟨rfl,rfl,rfl,by decide +kernel,rfl,by decide +kernel,by decide +kernel⟩
theorem YU (F:Fun K "is_ask" "is_ask" (top 22) f fd) (B:Blt mg) (qc0:zh P w K mg base n "is_deed" ["thing"] (uA K)) (qc1:zh P w K mg base n "is_within" ["thing","least","greatest"] (yK K))  {t_LAST_HAND:Tok} (g_LAST_HAND:mg "LAST_HAND" = some (.int 15 t_LAST_HAND))  :
  FnOk P w K mg base CX0 (n + 1) f fd ["board","thing"] (sC K):=by
 refine F.ok wK yp (fun cdv A outer s H vs Q E hr h=>?_)
 obtain ⟨x,y,rfl,b,k,⟨rb,rfl,hb⟩,⟨r,rd,rfl,h1,h2⟩,⟨k1,k2,k3,k4,k5⟩,q⟩:=h
 refine ⟨_,(ze (yi (PW.pt (tX (y0 (yL (zu xa rfl B.isinstance zV (za (pv 1) (za (vc rfl B.tuple zE) zb))))) (vb (zJ Zm (zu zD rfl B.len wq (za (pv 1) zb)) zi (zQ _))))) (zj (zr wM)) zC) (ze (x6 (pv 1) (yI rfl (zm (zk (i:=2) wK.nd rfl (Or.inl rfl)) (zm (zk (i:=3) wK.nd rfl (Or.inl rfl)) (zm (zk (i:=4) wK.nd rfl (Or.inl rfl)) zH))))) (zj (zr (uz (zf qc1 hr rfl (za (pv 2) (za zi (za (rJ rfl g_LAST_HAND (show RelV (.int 15) (.int 15 t_LAST_HAND) from ⟨_,rfl⟩)) zb)))) (uz (zf qc1 hr rfl (za (pv 3) (za zi (za (zq yE (zu zD rfl B.len wq (za (pv 0) zb)) zi) zb)))) (vE (zf qc0 hr rfl (za (pv 4) zb))))))))),?_⟩
 have hl:(b.map V.int).length = b.length:=List.length_map ..
 refine ⟨_,rfl,_,_,_,true,rfl,.inl ⟨rfl,_,h1⟩,rfl,_,rfl,iteF ⟨_,rfl,r,_,rfl,.inr h1,rfl,_,rfl,iteF ?_⟩⟩
 refine ⟨_,rfl,r,_,rfl,h1,rfl,_,_,rfl,_,_,rfl,_,_,rfl,rfl,?_⟩
 refine ⟨_,rfl,_,_,_,rfl,_,_,_,rfl,rfl,rfl,_,rfl,wg (by rw [decide_eq_true k1,decide_eq_true k2]; rfl) ?_⟩
 refine ⟨_,rfl,_,rfl,rb,_,rfl,.inr hb,_,_,rfl,rfl,_,_,_,rfl,_,_,_,rfl,rfl,rfl,_,rfl,wg (by rw [decide_eq_true k3,decide_eq_true (show k.box <= ((b.map V.int).length:Int) - 1 by rw [hl]; omega)]; rfl) ?_⟩
 refine ⟨_,rfl,_,rfl,.inr ⟨rd,_,rfl,h2,?_,?_⟩⟩
 ·intro v hv
  simp only [Deed.vs,List.mem_cons,List.mem_nil_iff,or_false] at hv
  rcases hv with rfl | rfl | rfl
  ·exact qN
  ·exact Vk _
  ·exact Vk _
 ·rw [jw k5]; exact q
theorem qt:FnScope ["thing"] ["thing"] (zg (top 20)):=⟨rfl,rfl,rfl,by decide +kernel,rfl,by decide +kernel,by decide +kernel⟩
theorem qu (F:Fun K "is_board" "is_board" (top 20) f fd) (B:Blt mg) (qc0:zh P w K mg base n "is_whole" ["thing"] (yW K))  {t_MOST_BOXES:Tok} (g_MOST_BOXES:mg "MOST_BOXES" = some (.int 16 t_MOST_BOXES))  :
  FnOk P w K mg base CX0 (n + 1) f fd ["thing"] (vO K):=by
 refine F.ok qt yV (fun cdv A outer s H vs Q E hr h=>?_)
 obtain ⟨x,rfl,b,⟨r,rfl,hs⟩,b1,b2,q⟩:=h
 refine ⟨_,(ze (yi (PW.pt (tX (y0 (yL (zu xa rfl B.isinstance zV (za (pv 0) (za (vc rfl B.tuple zE) zb))))) (vb (y0 (Y3 Y1 Y1 zi (zu zD rfl B.len wq (za (pv 0) zb)) (rJ rfl g_MOST_BOXES (show RelV (.int 16) (.int 16 t_MOST_BOXES) from ⟨_,rfl⟩))))))) (zj (zr wM)) zC) (zj (zr (zu (xK rfl) rfl B.all ZA (za (zF (CSc.of (N':=["value"]) (sub:=[none]) (zg (top 20)) ["thing"] rfl rfl (by decide +kernel) rfl) rfl (y7 (pv 0)) (fun _ _ _ _ _ _=>zk (i:=0) (show (["value"]:List Str).Nodup by decide +kernel) rfl (Or.inl rfl)) (fun _ _ _ _ _ _=>zA) (fun _ _ _ _ _ _=>(zf qc0 hr rfl (za (pv 0) zb)))) zb))))),?_⟩
 have hl:(b.map V.int).length = b.length:=List.length_map ..
 refine ⟨_,rfl,_,_,_,true,rfl,.inl ⟨rfl,_,hs⟩,rfl,_,rfl,iteF ?_⟩
 refine ⟨_,rfl,r,_,rfl,.inr hs,_,_,rfl,rfl,_,rfl,wg (decide_eq_true (by rw [hl]; omega)) ⟨_,_,rfl,rfl,_,rfl,xL (by rw [decide_eq_true (show ((b.map V.int).length:Int) <= 16 by rw [hl]; omega)]; rfl) ?_⟩⟩
 refine ⟨_,rfl,r,rfl,⟨_,hs⟩,wu (fun _=>V.bl true) hs (by rw [hl]; omega) ?_ ?_⟩
 ·intro x H1 R hx g k
  obtain ⟨i,_,rfl⟩:=List.mem_map.mp hx
  exact ⟨_,rfl,_,rfl,qN,k _ (Grow.refl _ _)⟩
 ·intro H1 p g hp
  refine ⟨p,b.map (fun _=>true),rfl,SqL.of (by rw [zd,Xf]),?_⟩
  rw [wv]
  exact q _ (g.trans (Grow.new hp _))
theorem tQ:FnScope ["thing"] ["thing"] (zg (top 21)):=⟨rfl,rfl,rfl,by decide +kernel,rfl,by decide +kernel,by decide +kernel⟩
theorem tR (F:Fun K "need_board" "need_board" (top 21) f fd) (B:Blt mg) (qc0:zh P w K mg base n "is_board" ["thing"] (vO K))    :
  FnOk P w K mg base CX0 (n + 1) f fd ["thing"] (ww K):=by
 refine F.ok tQ yV (fun cdv A outer s H vs Q E hr h=>?_)
 obtain ⟨x,rfl,b,hb,b1,b2,q⟩:=h
 refine ⟨_,(zj (yi (y0 (yL (zf qc0 hr rfl (za (pv 0) zb)))) (zj xS) zC)),?_⟩
 exact ⟨_,rfl,_,rfl,b,hb,b1,b2,fun H1 g1=>⟨_,rfl,iteF (q _ g1)⟩⟩
theorem qv:FnScope ["board","thing"] ["board","thing"] (zg (top 23)):=⟨rfl,rfl,rfl,by decide +kernel,rfl,by decide +kernel,by decide +kernel⟩
theorem qw (F:Fun K "are_asks" "are_asks" (top 23) f fd) (B:Blt mg) (qc0:zh P w K mg base n "is_ask" ["board","thing"] (sC K)) (qc1:zh P w K mg base n "need_board" ["thing"] (ww K))    :
  FnOk P w K mg base CX0 (n + 1) f fd ["board","thing"] (vP K):=by
 refine F.ok qv yp (fun cdv A outer s H vs Q E hr h=>?_)
 obtain ⟨x,y,rfl,b,ks,hb,b1,b2,ha,hk,hok,q⟩:=h
 refine ⟨_,(ze (zL (zf qc1 hr rfl (za (pv 0) zb))) (zj (zr (uz (zu xa rfl B.isinstance zV (za (pv 1) (za (vc rfl B.tuple zE) zb))) (vE (zu (xK rfl) rfl B.all ZA (za (zF (CSc.of (N':=["ask","board"]) (sub:=[none,some 0]) (zg (top 23)) ["board","thing"] rfl rfl (by decide +kernel) rfl) rfl (y7 (pv 1)) (fun _ _ _ _ _ _=>zk (i:=0) (show (["ask","board"]:List Str).Nodup by decide +kernel) rfl (Or.inl rfl)) (fun _ _ _ _ _ _=>zA) (fun _ _ _ _ _ _=>(zf qc0 hr rfl (za (pv 1) (za (pv 0) zb))))) zb))))))),?_⟩
 refine ⟨_,rfl,_,rfl,b,hb,b1,b2,fun H1 g1=>?_⟩
 obtain ⟨r,xs,rfl,hs,hall⟩:=g1.asks ha
 refine ⟨_,rfl,_,_,_,true,rfl,.inl ⟨rfl,_,hs⟩,rfl,_,rfl,iteT ?_⟩
 have hl:=hall.len
 refine ⟨_,rfl,r,rfl,⟨_,hs⟩,wu (fun _=>V.bl true) hs (by omega) ?_ ?_⟩
 ·intro v H2 R hv g k
  obtain ⟨i,hi⟩:=List.getElem?_of_mem hv
  obtain ⟨kk,hkk,hak⟩:=hall.get hi
  exact ⟨_,rfl,_,rfl,_,_,rfl,b,kk,(g1.trans g).board hb,g.ask hak,hok kk (List.mem_of_getElem? hkk),k _ (Grow.refl _ _)⟩
 ·intro H2 p g hp
  refine ⟨p,xs.map (fun _=>true),rfl,SqL.of (by rw [zd,List.map_map]; rfl),?_⟩
  rw [wv]
  exact q _ (g1.trans (g.trans (Grow.new hp _)))
theorem rk:FnScope ["board","thing"] ["board","thing"] (zg (top 24)):=⟨rfl,rfl,rfl,by decide +kernel,rfl,by decide +kernel,by decide +kernel⟩
theorem rm (F:Fun K "need_asks" "need_asks" (top 24) f fd) (B:Blt mg) (qc0:zh P w K mg base n "are_asks" ["board","thing"] (vP K))    :
  FnOk P w K mg base CX0 (n + 1) f fd ["board","thing"] (ve K):=by
 refine F.ok rk yp (fun cdv A outer s H vs Q E hr h=>?_)
 obtain ⟨x,y,rfl,b,ks,hb,b1,b2,ha,hk,hok,q⟩:=h
 refine ⟨_,(zj (yi (y0 (yL (zf qc0 hr rfl (za (pv 0) (za (pv 1) zb))))) (zj xS) zC)),?_⟩
 exact ⟨_,rfl,_,rfl,_,_,rfl,b,ks,hb,b1,b2,ha,hk,hok,fun H1 g1=>⟨_,rfl,iteF (q _ g1)⟩⟩
theorem qx:FnScope ["thing"] ["thing"] (zg (top 27)):=⟨rfl,rfl,rfl,by decide +kernel,rfl,by decide +kernel,by decide +kernel⟩
theorem qy (F:Fun K "need_net" "need_net" (top 27) f fd) (B:Blt mg) (qc0:zh P w K mg base n "is_within" ["thing","least","greatest"] (yK K))  {t_DEEPEST:Tok} (g_DEEPEST:mg "DEEPEST" = some (.int 4 t_DEEPEST))  :
  FnOk P w K mg base CX0 (n + 1) f fd ["thing"] (yX K):=by
 refine F.ok qx yV (fun cdv A outer s H vs Q E hr h=>?_)
 obtain ⟨x,rfl,k,rfl,k4,q⟩:=h
 refine ⟨_,(zj (yi (y0 (yL (zf qc0 hr rfl (za (pv 0) (za zi (za (rJ rfl g_DEEPEST (show RelV (.int 4) (.int 4 t_DEEPEST) from ⟨_,rfl⟩)) zb)))))) (zj xS) zC)),?_⟩
 exact ⟨_,rfl,_,_,_,rfl,_,_,_,rfl,rfl,rfl,_,rfl,xL (by rw [decide_eq_true (show (0:Int) <= k by omega),decide_eq_true (show (k:Int) <= 4 by omega)]; rfl) q⟩
theorem wL:FnScope ["k","board","asks","hands"] ["k","board","asks"] (zg (top 43)):=⟨rfl,rfl,rfl,by decide +kernel,rfl,by decide +kernel,by decide +kernel⟩
theorem tS (F:Fun K "need_round" "need_round" (top 43) f fd) (B:Blt mg) (qc0:zh P w K mg base n "is_line" ["k","thing"] (wS K)) (qc1:zh P w K mg base n "need_asks" ["board","thing"] (ve K)) (qc2:zh P w K mg base n "need_net" ["thing"] (yX K)) (g_set:mg "set" = none)   :
  FnOk P w K mg base CX0 (n + 1) f fd ["k","board","asks"] (yk K):=by
 refine F.ok wL xi (fun cdv A outer s H vs Q E hr h=>?_)
 obtain ⟨x,y,z,rfl,k,b,ks,rfl,k4,hb,b1,b16,hks,k16,R,q⟩:=h
 refine ⟨_,(ze (zL (zf qc2 hr rfl (za (pv 0) zb))) (ze (zL (zf qc1 hr rfl (za (pv 1) (za (pv 2) zb)))) (ze (tj (i:=3) wL.nd rfl rfl (CSc.of (N':=["hand","box","deed"]) (sub:=[none,none,none]) (zg (top 43)) ["k","board","asks","hands"] rfl rfl (by decide +kernel) rfl) rfl (y7 (pv 2)) (fun _ _ _ _ _ _=>yY (K:=K) 3 rfl rfl (zm (zk (i:=0) (show (["hand","box","deed"]:List Str).Nodup by decide +kernel) rfl (Or.inl rfl) (Or.inr rfl)) (zm (zk (i:=1) (show (["hand","box","deed"]:List Str).Nodup by decide +kernel) rfl (Or.inl rfl) (Or.inr rfl)) (zm (zk (i:=2) (show (["hand","box","deed"]:List Str).Nodup by decide +kernel) rfl (Or.inl rfl) (Or.inr rfl)) zH))) rfl rfl) (fun _ _ _ _ _ _=>zA) (fun _ _ _ _ _ _=>(pv 0))) (zj (yi (PW.pt (tX (zJ Zm (zu Ye rfl B.len wq (za (zy (Yd hr) rfl g_set Uu (za (pv 3) zb)) zb)) (zu zD rfl B.len wq (za (pv 3) zb)) (zQ _)) (vb (y0 (yL (zu (xK rfl) rfl B.all ZA (za (zF (CSc.of (N':=["hand","k"]) (sub:=[none,some 0]) (zg (top 43)) ["k","board","asks","hands"] rfl rfl (by decide +kernel) rfl) rfl (vF (pv 3)) (fun _ _ _ _ _ _=>zk (i:=0) (show (["hand","k"]:List Str).Nodup by decide +kernel) rfl (Or.inl rfl)) (fun _ _ _ _ _ _=>zA) (fun _ _ _ _ _ _=>(zf qc0 hr rfl (za (pv 1) (za (pv 0) zb))))) zb))))))) (zj xS) zC))))),?_⟩
 have aok:=R.ask k4
 refine ⟨_,rfl,_,rfl,k,rfl,k4,?_⟩
 refine ⟨_,rfl,_,rfl,_,_,rfl,b,ks,hb,b1,b16,hks,by omega,aok,fun H1 g1=>?_⟩
 obtain ⟨ra,xs,rfl,hra,hxs⟩:=g1.asks hks
 have xl:xs.length = ks.length:=uI hxs
 refine c_nx (ye (fun v H'=>∃ l,v = .ref l /\ H' l = some (.lst ((ks.map (·.hand)).map V.int)) /\ Grow [] H1 H') (fun Kk hk=>⟨_,rfl,ra,rfl,⟨_,hra⟩,xw (xs:=xs) (fun n ys σ' H'=>H' = H1 /\ (∃ e1 e2 e3,σ' = [e1,e2,e3]) /\ ys = ((ks.take n).map (·.hand)).map V.int) ⟨rfl,⟨_,_,_,rfl⟩,rfl⟩ (fun n ys σ' H' _ z=>by rw [z.1]; exact hra) ?_ ?_⟩) ?_)
 ·rintro n y ys σ' H' hy ⟨rfl,⟨e1,e2,e3,rfl⟩,rfl⟩
  obtain ⟨a,ha,r,rd,rfl,h1,h2⟩:=hxs.get hy
  have hn:=(List.getElem?_eq_some_iff.mp ha).1
  refine ⟨r,_,rfl,h1,rfl,_,_,rfl,_,_,rfl,_,_,rfl,rfl,?_⟩
  refine ⟨_,rfl,yJ (by rw [List.length_map,List.length_map,List.length_take]; omega),rfl,⟨_,_,_,rfl⟩,?_⟩
  rw [List.take_succ,ha,List.map_append,List.map_append]; rfl
 ·rintro ys σ' H' ⟨rfl,_,rfl⟩ l hl
  rw [xl,List.take_length]
  exact hk _ _ ⟨l,rfl,zd,Grow.new hl _⟩
 rintro _ H2 ⟨l,rfl,hl,g2⟩
 have nl:(ks.map (·.hand)).length <= 1000:=by rw [List.length_map]; omega
 refine ⟨_,rfl,l,_,rfl,SqL.of hl,nl,fun l3 hl3=>⟨l3,_,_,rfl,zd,_,rfl,?_⟩⟩
 have g3:=Grow.new (m:=[]) hl3 (.set (fun j=>(dedI (ks.map (·.hand))).any (· == j)) (dedI (ks.map (·.hand))).length)
 have hl3':=g3.keep _ _ (by simp) hl
 have e:decide (V.int ((dedI (ks.map (·.hand))).length:Int) = V.int (((ks.map (·.hand)).map V.int).length:Int)) = true:=decide_eq_true (congrArg V.int (by rw [VJ R.nd]; simp only [List.length_map]))
 refine ⟨l,_,rfl,.inl (SqL.of hl3'),rfl,_,rfl,xL (by rw [e]; rfl) ?_⟩
 generalize upd H2 l3 (.set (fun j=>(dedI (ks.map (·.hand))).any (· == j)) (dedI (ks.map (·.hand))).length) = H3 at g3 hl3' ⊢
 refine ⟨_,rfl,l,rfl,⟨_,SqL.of hl3'⟩,jy (xs:=(ks.map (·.hand)).map V.int) (fun i ys H'=>H' = H3 /\ ys = (List.replicate i true).map V.bl) ⟨rfl,rfl⟩ (fun i ys H' z=>by rw [z.1]; exact SqL.of hl3') ?_ ?_⟩
 ·rintro i x ys H' hx ⟨rfl,rfl⟩
  rw [List.map_map,List.getElem?_map] at hx
  obtain ⟨a,ha,rfl⟩:=Option.map_eq_some_iff.mp hx
  have hn:=(List.getElem?_eq_some_iff.mp ha).1
  obtain ⟨h0,h1⟩:=R.hand a (List.mem_of_getElem? ha)
  have h1':=yT h0 h1
  refine ⟨_,rfl,_,rfl,_,_,rfl,k,a.hand.toNat,rfl,congrArg V.int (Int.toNat_of_nonneg h0).symm,k4,h1',yJ (by rw [List.length_map,List.length_replicate]; omega),rfl,?_⟩
  rw [List.replicate_succ',List.map_append]; rfl
 ·rintro ys H' ⟨rfl,rfl⟩ l4 hl4
  refine ⟨l4,_,rfl,SqL.of zd,_,rfl,xL ?_ (q _ (g1.trans (g2.trans (g3.trans (Grow.new hl4 _)))))⟩
  rw [show (List.replicate ((ks.map (·.hand)).map V.int).length true).all id = true from List.all_eq_true.mpr fun x hx=>(List.eq_of_mem_replicate hx)]; rfl
theorem wd:FnScope ["k","board","asks","ways"] ["k","board","asks"] (zg (top 55)):=⟨rfl,rfl,rfl,by decide +kernel,rfl,by decide +kernel,by decide +kernel⟩
theorem ul (F:Fun K "plain_loads" "plain_loads" (top 55) f fd) (B:Blt mg) (qc0:zh P w K mg base n "counted_on" ["k","lines"] (xP K)) (qc1:zh P w K mg base n "way_of" ["k","hand","side"] (XX K)) (qc2:zh P w K mg base n "side_for" ["k","box"] (wE K)) (qc3:zh P w K mg base n "need_round" ["k","board","asks"] (yk K))    :
  FnOk P w K mg base CX0 (n + 1) f fd ["k","board","asks"] (YD K):=by
 refine F.ok wd xi (fun cdv A outer s H vs Q E hr h=>?_)
 obtain ⟨x,y,z,rfl,k,b,ks,rfl,k4,hb,b1,b16,hks,k16,R,q⟩:=h
 refine ⟨_,(ze (zL (zf qc3 hr rfl (za (pv 0) (za (pv 1) (za (pv 2) zb))))) (ze (zw (i:=3) wd.nd rfl (Or.inr rfl) (zF (CSc.of (N':=["hand","box","deed","k"]) (sub:=[none,none,none,some 0]) (zg (top 55)) ["k","board","asks","ways"] rfl rfl (by decide +kernel) rfl) rfl (y7 (pv 2)) (fun _ _ _ _ _ _=>yY (K:=K) 3 rfl rfl (zm (zk (i:=0) (show (["hand","box","deed","k"]:List Str).Nodup by decide +kernel) rfl (Or.inl rfl) (Or.inr rfl)) (zm (zk (i:=1) (show (["hand","box","deed","k"]:List Str).Nodup by decide +kernel) rfl (Or.inl rfl) (Or.inr rfl)) (zm (zk (i:=2) (show (["hand","box","deed","k"]:List Str).Nodup by decide +kernel) rfl (Or.inl rfl) (Or.inr rfl)) zH))) rfl rfl) (fun _ _ _ _ _ _=>zA) (fun _ _ _ _ _ _=>(zf qc1 hr rfl (za (pv 3) (za (pv 0) (za (zf qc2 hr rfl (za (pv 3) (za (pv 1) zb))) zb))))))) (zj (zr (zy zn rfl B.tuple zE (za (Xm (CScC.of (N':=["level","k","ways"]) (sub:=[none,some 0,some 3]) (zg (top 55)) ["k","board","asks","ways"] rfl rfl (by decide +kernel) (by decide +kernel) rfl) rfl (zU rfl B.range (za (zq yM (pv 0) zi) zb)) (fun _ _ _ _ _ _=>zk (i:=0) (show (["level","k","ways"]:List Str).Nodup by decide +kernel) rfl (Or.inr rfl) (Or.inl rfl)) (fun _ _ _ _ _ _=>zA) (fun _ _ _ _ _ _=>(zf qc0 hr rfl (za (pv 1) (za (zF (CSc.nestO (N2:=["lines","level"]) (sub2:=[none,some 0]) (CScC.of (N':=["level","k","ways"]) (sub:=[none,some 0,some 3]) (zg (top 55)) ["k","board","asks","ways"] rfl rfl (by decide +kernel) (by decide +kernel) rfl) rfl (by decide +kernel) rfl) rfl (Xj (K:=K) rfl (pv 2)) (fun _ _ _ _ _ _=>zk (i:=0) (show (["lines","level"]:List Str).Nodup by decide +kernel) rfl (Or.inl rfl)) (fun _ _ _ _ _ _=>zA) (fun _ _ _ _ _ _=>(zZ (vM (K:=K) rfl) (pv 0) (pv 1) (fun _ _=>rfl)))) zb))))) zb)))))),?_⟩
 have p16:=zS k4
 refine ⟨_,rfl,_,rfl,_,rfl,_,_,_,rfl,k,b,ks,rfl,k4,hb,b1,b16,hks,k16,R,fun H1 g1=>?_⟩
 refine c_nx ?_
 obtain ⟨ra,xs,rfl,hra,hxs⟩:=g1.asks hks
 have xl:=hxs.len
 have W1:0 < 2 ^ k:=Nat.two_pow_pos k
 let wy:Ask -> List Int:=fun a=>qU k a.hand.toNat (a.box.toNat % 2 ^ k)
 refine ye (fun v H'=>∃ lw ws,v = .ref lw /\ H' lw = some (.lst ws) /\ AllR (zz K H') ws (ks.map wy) /\ Grow [] H1 H') (fun Kk hk=>⟨_,rfl,ra,rfl,⟨_,hra⟩,xw (xs:=xs) (fun n ys σ' H'=>Grow [] H1 H' /\ (∃ e1 e2 e3,σ' = [e1,e2,e3,some (.int k)]) /\ AllR (zz K H') ys ((ks.take n).map wy)) ⟨Grow.refl _ _,⟨_,_,_,rfl⟩,trivial⟩ (fun n ys σ' H' _ w=>w.1.sqT hra) ?_ ?_⟩) ?_
 ·rintro n x ys σ' H2 hx ⟨g2,⟨e1,e2,e3,rfl⟩,al2⟩
  obtain ⟨a,ha,r,rd,rfl,h1,h2⟩:=hxs.get hx
  have am:=List.mem_of_getElem? ha
  have hn:=(List.getElem?_eq_some_iff.mp ha).1
  have hh:=R.hand a am
  have hbx:=R.box a am
  have hhn:=yT hh.1 hh.2
  refine ⟨r,_,rfl,g2.sqT h1,rfl,_,_,rfl,_,_,rfl,_,_,rfl,rfl,?_⟩
  refine ⟨_,rfl,_,rfl,_,rfl,_,rfl,_,_,rfl,k,a.box.toNat,rfl,congrArg V.int (Int.toNat_of_nonneg hbx.1).symm,k4,by omega,_,_,_,rfl,k,a.hand.toNat,a.box.toNat % 2 ^ k,rfl,congrArg V.int (Int.toNat_of_nonneg hh.1).symm,rfl,k4,hhn,Nat.mod_lt _ W1,fun y3 H3 g3 hb3=>⟨zG (by rw [al2.len,List.length_map,List.length_take]; omega),g2.trans g3,⟨_,_,_,rfl⟩,?_⟩⟩
  rw [List.take_succ,ha,List.map_append]
  exact (g3.boardsR al2).app (.one hb3)
 ·rintro ys σ' H2 ⟨g2,_,al2⟩ l hl
  rw [xl,List.take_length] at al2
  have gl:=Grow.new (m:=[]) hl (.lst ys)
  exact hk _ _ ⟨l,ys,rfl,zd,gl.boardsR al2,g2.trans gl⟩
 rintro _ H2 ⟨lw,ws,rfl,hw2,al2,g2⟩
 have wl:ws.length = ks.length:=by rw [al2.len,List.length_map]
 refine ⟨_,rfl,_,_,rfl,rfl,_,rfl,(by show -2 ^ 62 <= (k:Int) + 1; omega),(by show (k:Int) + 1 < 2 ^ 62; omega),yP (fun i ys H'=>Grow [] H2 H' /\ AllR (zz K H') ys ((plR k ks).take i)) ⟨Grow.refl _ _,trivial⟩ ?_ ?_⟩
 ·rintro i ys H3 hi ⟨g3,al3⟩
  have hi':i < k + 1:=by have:i < ((k:Int) + 1).toNat:=hi; omega
  refine ⟨_,rfl,_,rfl,lw,rfl,⟨_,SqL.of (g3.keep _ _ (by simp) hw2)⟩,xO (xs:=ws) (fun n zs σ' H'=>H' = H3 /\ (∃ e0,σ' = [e0,some (.int (0 + (i:Int)))]) /\ zs = ((ks.take n).map fun a=>yf k a.hand.toNat (a.box.toNat % 2 ^ k) i).map V.int) ⟨rfl,⟨_,rfl⟩,rfl⟩ (fun n zs σ' H' _ w=>by rw [w.1]; exact SqL.of (g3.keep _ _ (by simp) hw2)) ?_ ?_⟩
  ·rintro n x zs σ' H4 hx ⟨rfl,⟨e0,rfl⟩,rfl⟩
   obtain ⟨row,hrow,rr,rfl,hrr⟩:=al2.get hx
   rw [List.getElem?_map] at hrow
   obtain ⟨a,ha,rfl⟩:=Option.map_eq_some_iff.mp hrow
   have hn:=(List.getElem?_eq_some_iff.mp ha).1
   refine ⟨_,rfl,_,rfl,rr,_,_,.int (yf k a.hand.toNat (a.box.toNat % 2 ^ k) i),rfl,rfl,g3.sqT hrr,?_,zG (by rw [List.length_map,List.length_map,List.length_take]; omega),rfl,⟨_,rfl⟩,?_⟩
   ·refine wW (by omega) (j:=i) ?_
    show (qU k a.hand.toNat (a.box.toNat % 2 ^ k))[i]? = _
    unfold qU; rw [List.getElem?_map,List.getElem?_range hi']; rfl
   ·rw [List.take_succ,ha,List.map_append,List.map_append]; rfl
  ·rintro zs σ' H4 ⟨rfl,_,rfl⟩ l5 hl5
   rw [wl,List.take_length]
   refine ⟨_,_,rfl,k,l5,_,rfl,k4,rfl,zd,fun y6 H6 g6 hb6=>?_⟩
   have G6:=(Grow.new (m:=[]) hl5 (.lst ((ks.map fun a=>yf k a.hand.toNat (a.box.toNat % 2 ^ k) i).map V.int))).trans g6
   refine ⟨zG (by rw [al3.len,List.length_take]; omega),g3.trans G6,?_⟩
   have er:(plR k ks)[i]? = some ((List.range (2 ^ k)).map fun l=>wc (ks.map fun a=>yf k a.hand.toNat (a.box.toNat % 2 ^ k) i) l):=by
    unfold plR; rw [List.getElem?_map,List.getElem?_range hi']; rfl
   rw [List.take_succ,er]
   exact (G6.boardsR al3).app (.one hb6)
 ·rintro ys H3 ⟨g3,al3⟩ l9 hl9
  have le:(plR k ks).take ((k:Int) + 1).toNat = plR k ks:=List.take_of_length_le (by unfold plR; rw [List.length_map,List.length_range]; omega)
  rw [le] at al3
  refine ⟨l9,_,rfl,.inl ⟨SqL.of zd,fun r hr'=>?_⟩⟩
  have gg:=(Grow.new (m:=[]) hl9 (.lst ys)).trans (Grow.new hr' (.tup ys))
  exact q _ _ (g1.trans (g2.trans (g3.trans gg))) ⟨r,ys,rfl,SqT.of zd,gg.boardsR al3⟩
theorem WU:FnScope ["add","low","high"] ["add","low","high"] (zg (top 15)):=⟨rfl,rfl,rfl,by decide +kernel,rfl,by decide +kernel,by decide +kernel⟩
theorem rN (F:Fun K "tidy" "tidy" (top 15) f fd) (B:Blt mg)     :
  FnOk P w K mg base CX0 (n + 1) f fd ["add","low","high"] (ZE K):=by
 refine F.ok WU xi (fun cdv A outer s H vs Q E hr h=>?_)
 obtain ⟨x,y,z,rfl,a,lo,hi,rfl,rfl,rfl,q⟩:=h
 refine ⟨_,(ze (yi (PW.pt (uy (wp (rK (pv 1))) (vD (zJ vn (pv 1) (pv 2) (zQ _))))) (zj (zr (zO (za zi (za (pv 1) (za (pv 2) zb)))))) zC) (zj (zr (zO (za (pv 0) (za (pv 1) (za (pv 2) zb))))))),?_⟩
 cases lo with
 | none =>
  refine ⟨_,rfl,_,rfl,iteF (iteF ⟨_,rfl,_,rfl,_,rfl,szl rfl,fun t ht=>?_⟩)⟩
  have:=q t ht
  rw [Vn] at this; exact this
 | some l =>
  cases hi with
  | none =>
   refine ⟨_,rfl,_,rfl,iteT ⟨_,rfl,_,rfl,rfl,_,rfl,iteF ⟨_,rfl,_,rfl,_,rfl,szl rfl,fun t ht=>?_⟩⟩⟩
   have:=q t ht
   rw [XU (by simp)] at this; exact this
  | some u =>
   refine ⟨_,rfl,_,rfl,iteT ⟨_,rfl,_,rfl,rfl,_,rfl,?_⟩⟩
   refine ite2 (fun c=>?_) (fun c=>?_)
   ·have c':l = u:=V.int.inj (of_decide_eq_true c)
    subst c'
    refine ⟨_,rfl,_,rfl,szl rfl,fun t ht=>?_⟩
    have:=q t ht
    rw [Vo] at this; exact this
   ·have c':l ≠ u:=fun z=>c (by rw [z]; simp)
    refine ⟨_,rfl,_,rfl,_,rfl,szl rfl,fun t ht=>?_⟩
    have:=q t ht
    rw [XU (fun z=>c' (Option.some.inj z))] at this; exact this
theorem wn:FnScope ["deed","value","add","low","high","result"] ["deed","value"] (zg (top 14)):=⟨rfl,rfl,rfl,by decide +kernel,rfl,by decide +kernel,by decide +kernel⟩
theorem WV (F:Fun K "made" "made" (top 14) f fd) (B:Blt mg)     :
  FnOk P w K mg base CX0 (n + 1) f fd ["deed","value"] (uW K):=by
 refine F.ok wn yp (fun cdv A outer s H vs Q E hr h=>?_)
 obtain ⟨x,y,rfl,d,v,⟨a,rfl,hs⟩,rfl,q⟩:=h
 refine ⟨_,(ze (x6 (pv 0) (yI rfl (zm (zk (i:=2) wn.nd rfl (Or.inl rfl)) (zm (zk (i:=3) wn.nd rfl (Or.inl rfl)) (zm (zk (i:=4) wn.nd rfl (Or.inl rfl)) zH))))) (ze (zw (i:=5) wn.nd rfl (Or.inl rfl) (zq yM (pv 1) (pv 2))) (ze (yi (PW.pt (uy (wp (rK (pv 3))) (vD (zJ Wf (pv 3) (pv 5) (zQ _))))) (zj (zw (i:=5) wn.nd rfl (Or.inl rfl) (pv 3))) zC) (ze (yi (PW.pt (uy (wp (rK (pv 4))) (vD (zJ Zn (pv 4) (pv 5) (zQ _))))) (zj (zw (i:=5) wn.nd rfl (Or.inl rfl) (pv 4))) zC) (zj (zr (pv 5))))))),?_⟩
 obtain ⟨ad,lo,hi⟩:=d
 refine ⟨_,rfl,a,_,rfl,hs,rfl,_,_,rfl,_,_,rfl,_,_,rfl,rfl,?_⟩
 refine ⟨_,rfl,_,rfl,_,_,rfl,rfl,?_⟩
 cases lo with
 | none =>
  refine ⟨_,rfl,_,rfl,iteF (iteF ?_)⟩
  cases hi with
  | none=>exact ⟨_,rfl,_,rfl,iteF (iteF ⟨_,rfl,q⟩)⟩
  | some u =>
   refine ⟨_,rfl,_,rfl,iteT ⟨_,rfl,_,rfl,_,_,rfl,rfl,_,rfl,?_⟩⟩
   have q':Q (.int (if u < v + ad then u else v + ad)) H:=q
   refine ite2 (fun c=>?_) (fun c=>?_)
   ·have c':u < v + ad:=of_decide_eq_true c
    rw [if_pos c'] at q'
    exact ⟨_,rfl,_,rfl,q'⟩
   ·have c':¬ u < v + ad:=fun z=>c (decide_eq_true z)
    rw [if_neg c'] at q'
    exact ⟨_,rfl,q'⟩
 | some l =>
  refine ⟨_,rfl,_,rfl,iteT ⟨_,rfl,_,rfl,_,_,rfl,rfl,_,rfl,?_⟩⟩
  have q0:Q (.int (yh hi (if l > v + ad then l else v + ad))) H:=q
  clear q
  refine ite2 (fun c=>?_) (fun c=>?_)
  ·have c':l > v + ad:=of_decide_eq_true c
   rw [if_pos c'] at q0
   have q:=q0
   refine ⟨_,rfl,?_⟩
   cases hi with
   | none=>exact ⟨_,rfl,_,rfl,iteF (iteF ⟨_,rfl,q⟩)⟩
   | some u =>
    refine ⟨_,rfl,_,rfl,iteT ⟨_,rfl,_,rfl,_,_,rfl,rfl,_,rfl,?_⟩⟩
    have q':Q (.int (if u < l then u else l)) H:=q
    refine ite2 (fun c=>?_) (fun c=>?_)
    ·have c':u < l:=of_decide_eq_true c
     rw [if_pos c'] at q'
     exact ⟨_,rfl,_,rfl,q'⟩
    ·have c':¬ u < l:=fun z=>c (decide_eq_true z)
     rw [if_neg c'] at q'
     exact ⟨_,rfl,q'⟩
  ·have c':¬ l > v + ad:=fun z=>c (decide_eq_true z)
   rw [if_neg c'] at q0
   have q:=q0
   cases hi with
   | none=>exact ⟨_,rfl,_,rfl,iteF (iteF ⟨_,rfl,q⟩)⟩
   | some u =>
    refine ⟨_,rfl,_,rfl,iteT ⟨_,rfl,_,rfl,_,_,rfl,rfl,_,rfl,?_⟩⟩
    have q':Q (.int (if u < v + ad then u else v + ad)) H:=q
    refine ite2 (fun c=>?_) (fun c=>?_)
    ·have c':u < v + ad:=of_decide_eq_true c
     rw [if_pos c'] at q'
     exact ⟨_,rfl,_,rfl,q'⟩
    ·have c':¬ u < v + ad:=fun z=>c (decide_eq_true z)
     rw [if_neg c'] at q'
     exact ⟨_,rfl,q'⟩
theorem ua:FnScope ["one","other","low","high"] ["one","other"] (zg (top 16)):=⟨rfl,rfl,rfl,by decide +kernel,rfl,by decide +kernel,by decide +kernel⟩
theorem YV (F:Fun K "joined" "joined" (top 16) f fd) (B:Blt mg) (qc0:zh P w K mg base n "tidy" ["add","low","high"] (ZE K)) (qc1:zh P w K mg base n "made" ["deed","value"] (uW K))    :
  FnOk P w K mg base CX0 (n + 1) f fd ["one","other"] (sy K):=by
 refine F.ok ua yp (fun cdv A outer s H vs Q E hr h=>?_)
 obtain ⟨x,y,rfl,d,e,⟨a,rfl,hsa⟩,⟨b,rfl,hsb⟩,q⟩:=h
 refine ⟨_,(ze (zw (i:=2) ua.nd rfl (Or.inl rfl) (qG (wp (tW (zZ yO (pv 0) zi (fun _ _=>rfl)))) (zZ yO (pv 1) zi (fun _ _=>rfl)) (zf qc1 hr rfl (za (pv 1) (za (zZ yO (pv 0) zi (fun _ _=>rfl)) zb))))) (ze (zw (i:=3) ua.nd rfl (Or.inl rfl) (qG (wp (tW (zZ yO (pv 0) zi (fun _ _=>rfl)))) (zZ yO (pv 1) zi (fun _ _=>rfl)) (zf qc1 hr rfl (za (pv 1) (za (zZ yO (pv 0) zi (fun _ _=>rfl)) zb))))) (zj (zr (zf qc0 hr rfl (za (zq yM (zZ yO (pv 0) zi (fun _ _=>rfl)) (zZ yO (pv 1) zi (fun _ _=>rfl))) (za (pv 2) (za (pv 3) zb)))))))),?_⟩
 obtain ⟨da,lo,hi⟩:=d
 obtain ⟨ea,elo,ehi⟩:=e
 refine ⟨_,rfl,a,_,_,_,rfl,rfl,hsa,rfl,_,rfl,?_⟩
 cases lo with
 | none =>
  refine iteT ⟨_,rfl,b,_,_,_,rfl,rfl,hsb,rfl,?_⟩
  refine ⟨_,rfl,a,_,_,_,rfl,rfl,hsa,rfl,_,rfl,?_⟩
  cases hi with
  | none =>
   refine iteT ⟨_,rfl,b,_,_,_,rfl,rfl,hsb,rfl,?_⟩
   exact ⟨_,rfl,a,_,_,_,rfl,rfl,hsa,rfl,_,rfl,b,_,_,_,rfl,rfl,hsb,rfl,_,_,rfl,rfl,_,rfl,_,rfl,_,_,_,rfl,_,elo,ehi,rfl,rfl,rfl,q⟩
  | some u =>
   refine iteF ⟨_,rfl,_,rfl,a,_,_,_,rfl,rfl,hsa,rfl,_,_,rfl,⟨ea,elo,ehi⟩,u,⟨b,rfl,hsb⟩,rfl,?_⟩
   exact ⟨_,rfl,a,_,_,_,rfl,rfl,hsa,rfl,_,rfl,b,_,_,_,rfl,rfl,hsb,rfl,_,_,rfl,rfl,_,rfl,_,rfl,_,_,_,rfl,_,elo,some ((Deed.mk ea elo ehi).mk' u),rfl,rfl,rfl,q⟩
 | some l =>
  refine iteF ⟨_,rfl,_,rfl,a,_,_,_,rfl,rfl,hsa,rfl,_,_,rfl,⟨ea,elo,ehi⟩,l,⟨b,rfl,hsb⟩,rfl,?_⟩
  refine ⟨_,rfl,a,_,_,_,rfl,rfl,hsa,rfl,_,rfl,?_⟩
  cases hi with
  | none =>
   refine iteT ⟨_,rfl,b,_,_,_,rfl,rfl,hsb,rfl,?_⟩
   exact ⟨_,rfl,a,_,_,_,rfl,rfl,hsa,rfl,_,rfl,b,_,_,_,rfl,rfl,hsb,rfl,_,_,rfl,rfl,_,rfl,_,rfl,_,_,_,rfl,_,(some ((Deed.mk ea elo ehi).mk' l)),ehi,rfl,rfl,rfl,q⟩
  | some u =>
   refine iteF ⟨_,rfl,_,rfl,a,_,_,_,rfl,rfl,hsa,rfl,_,_,rfl,⟨ea,elo,ehi⟩,u,⟨b,rfl,hsb⟩,rfl,?_⟩
   exact ⟨_,rfl,a,_,_,_,rfl,rfl,hsa,rfl,_,rfl,b,_,_,_,rfl,rfl,hsb,rfl,_,_,rfl,rfl,_,rfl,_,rfl,_,_,_,rfl,_,(some ((Deed.mk ea elo ehi).mk' l)),some ((Deed.mk ea elo ehi).mk' u),rfl,rfl,rfl,q⟩
theorem vi:FnScope ["k","stage","line","behind"] ["k","stage","line"] (zg (top 33)):=⟨rfl,rfl,rfl,by decide +kernel,rfl,by decide +kernel,by decide +kernel⟩
theorem rn (F:Fun K "switch_at" "switch_at" (top 33) f fd) (B:Blt mg)     :
  FnOk P w K mg base CX0 (n + 1) f fd ["k","stage","line"] (xg K):=by
 refine F.ok vi xi (fun cdv A outer s H vs Q E hr h=>?_)
 obtain ⟨x,y,z,rfl,k,st,l,rfl,rfl,rfl,k4,hs,l0,l1,q⟩:=h
 refine ⟨_,(ze (zw (i:=3) vi.nd rfl (Or.inl rfl) (zq yE (pv 0) (pv 1))) (zj (zr (zq V6 (zq yN (zq Zh (pv 2) (zq yM (pv 3) zi)) (pv 3)) (zq Zi (pv 2) (zq yE (zq yN zi (pv 3)) zi)))))),?_⟩
 have e1:(0:Int) <= l / 2 ^ ((k:Int) - st + 1).toNat:=Int.ediv_nonneg l0 (Int.le_of_lt (Int.pow_pos (by decide)))
 have e2:l / 2 ^ ((k:Int) - st + 1).toNat <= l:=Int.ediv_le_self _ l0
 refine ⟨_,rfl,_,rfl,_,_,rfl,rfl,_,rfl,_,rfl,_,_,rfl,rfl,_,_,rfl,rfl,(by show (0:Int) <= (k:Int) - st + 1; omega),_,rfl,_,_,rfl,rfl,⟨by show (0:Int) <= (k:Int) - st; omega,by show (k:Int) - st <= 1000000; omega,by show (l / 2 ^ ((k:Int) - st + 1).toNat).natAbs < 2 ^ 64; omega⟩,?_⟩
 exact ⟨_,rfl,_,rfl,_,_,rfl,rfl,⟨by show (0:Int) <= (k:Int) - st; omega,by show (k:Int) - st <= 1000000; omega,by decide⟩,_,_,rfl,rfl,_,_,rfl,rfl,_,_,rfl,rfl,q⟩
theorem ub:FnScope ["k","stage","line","firsts","first"] ["k","stage","line","firsts"] (zg (top 44)):=⟨rfl,rfl,rfl,by decide +kernel,rfl,by decide +kernel,by decide +kernel⟩
theorem qz (F:Fun K "in_order" "in_order" (top 44) f fd) (B:Blt mg) (qc0:zh P w K mg base n "with_figure" ["k","stage","line","wanted"] (xk K)) (qc1:zh P w K mg base n "switch_at" ["k","stage","line"] (xg K))    :
  FnOk P w K mg base CX0 (n + 1) f fd ["k","stage","line","firsts"] (xA K):=by
 refine F.ok ub xj (fun cdv A outer s H vs Q E hr h=>?_)
 obtain ⟨x,y,z,u,rfl,k,st,l,rows,rfl,rfl,rfl,⟨rs,xs,rfl,hs,hall⟩,k4,s1,s2,hl,hset,q⟩:=h
 refine ⟨_,(ze (zw (i:=4) ub.nd rfl (Or.inl rfl) (zZ yO (zZ yO (pv 3) (zq yE (pv 1) zi) (fun _ _=>rfl)) (zf qc1 hr rfl (za (pv 0) (za (pv 1) (za (pv 2) zb)))) (fun _ _=>rfl))) (zj (zr (zO (za (zf qc0 hr rfl (za (pv 0) (za (pv 1) (za (pv 2) (za (pv 4) zb))))) (za (zf qc0 hr rfl (za (pv 0) (za (pv 1) (za (pv 2) (za (zq yE zi (pv 4)) zb))))) zb)))))),?_⟩
 have p:=zS k4
 have O:=oneF k4 s1 s2 hl
 have hlt:=O.lt
 have hf:=uh k4 hset s1 s2 hl
 have hb:=hset.bits (show st - 1 < k by omega)
 obtain ⟨ra,hra,hsa⟩:=Vq hall (i:=(st:Int) - 1) (by omega) (by rw [hset.1]; omega)
 rw [show ((st:Int) - 1).toNat = st - 1 by omega] at hsa
 refine ⟨_,rfl,_,rfl,_,_,rfl,rfl,rs,_,_,_,rfl,rfl,hs,hra,_,rfl,_,rfl,_,rfl,_,_,_,rfl,k,st,l,rfl,rfl,rfl,k4,s2,by omega,by omega,?_⟩
 rw [O.sw,O.num]
 have hg:=getI (xs:=rows.getD (st - 1) []) (i:=(nN k st l:Int)) (by omega) (by rw [hb.1]; omega)
 rw [Int.toNat_natCast] at hg
 refine ⟨ra,_,_,_,rfl,rfl,hsa,hg,?_⟩
 have W1:=wfF k4 s1 s2 hl hf
 have W2:=wfF k4 s1 s2 hl (show 1 - fstI rows st (nN k st l) = 0 \/ 1 - fstI rows st (nN k st l) = 1 by omega)
 refine ⟨_,rfl,_,rfl,_,rfl,_,rfl,_,_,_,_,rfl,k,st,l,fstI rows st (nN k st l),rfl,rfl,rfl,rfl,k4,s2,by omega,by omega,hf,?_⟩
 refine ⟨_,rfl,_,rfl,_,rfl,_,rfl,_,_,rfl,rfl,_,_,_,_,rfl,k,st,l,1 - fstI rows st (nN k st l),rfl,rfl,rfl,rfl,k4,s2,by omega,by omega,by omega,szl rfl,fun t ht=>?_⟩
 refine q _ _ (Grow.new ht _) ⟨t,rfl,SqT.of ?_⟩
 rw [zd,W1.eq,W2.eq]; rfl
theorem zT:FnScope ["k","stage","asked","firsts","behind","kept","line","box","in_lines","deeds","out"] ["k","stage","asked","firsts"] (zg (top 45)):=⟨rfl,rfl,rfl,by decide +kernel,rfl,by decide +kernel,by decide +kernel⟩
theorem tT (F:Fun K "pass_stage" "pass_stage" (top 45) f fd) (B:Blt mg) (qc0:zh P w K mg base n "joined" ["one","other"] (sy K)) (qc1:zh P w K mg base n "switch_at" ["k","stage","line"] (xg K)) (qc2:zh P w K mg base n "onward" ["k","stage","line","side"] (wz K)) (qc3:zh P w K mg base n "side_for" ["k","box"] (wE K)) (qc4:zh P w K mg base n "in_order" ["k","stage","line","firsts"] (xA K))    :
  FnOk P w K mg base CX0 (n + 1) f fd ["k","stage","asked","firsts"] (sQ K):=by
 refine F.ok zT xj (fun cdv A outer s H vs Q E hr h=>?_)
 obtain ⟨x,y,z,u,rfl,k,st,m,d,rows,ks,rfl,rfl,rfl,k4,s1,sk,m16,hd,hrw,hs,R,q⟩:=h
 refine ⟨_,(ze (zw (i:=4) zT.nd rfl (Or.inl rfl) vB) (ze (zw (i:=5) zT.nd rfl (Or.inl rfl) vB) (ze (yU PassesOwn.never rfl (WD (pv 2)) (yI rfl (zm (zk (i:=6) zT.nd rfl (Or.inl rfl)) (zm (zk (i:=7) zT.nd rfl (Or.inr rfl)) zH))) (ze (zw (i:=8) zT.nd rfl (Or.inl rfl) (zf qc4 hr rfl (za (pv 0) (za (pv 1) (za (pv 6) (za (pv 3) zb)))))) (ze (tj (i:=9) zT.nd rfl rfl (CSc.of (N':=["in_line","asked","box"]) (sub:=[none,some 2,some 7]) (zg (top 45)) ["k","stage","asked","firsts","behind","kept","line","box","in_lines","deeds","out"] rfl rfl (by decide +kernel) rfl) rfl (y7 (pv 8)) (fun _ _ _ _ _ _=>zk (i:=0) (show (["in_line","asked","box"]:List Str).Nodup by decide +kernel) rfl (Or.inl rfl)) (fun _ _ _ _ _ _=>(Y8 (wp (XZ (Room.u1F hr) (zO (za (pv 0) (za (pv 2) zb))) (pv 1))))) (fun _ _ _ _ _ _=>(tz (Room.u1F hr) (pv 1) (zO (za (pv 0) (za (pv 2) zb))) (fun _ _=>rfl)))) (ze (zw (i:=10) zT.nd rfl (Or.inl rfl) (zO (za (zf qc2 hr rfl (za (pv 0) (za (pv 1) (za (pv 6) (za (zf qc3 hr rfl (za (pv 0) (za (pv 7) zb))) zb))))) (za (pv 7) zb)))) (zj (yi (zJ vn (zu zD rfl B.len wq (za (pv 9) zb)) zi (zQ _)) (ze (vW (Room.u1F hr) (pv 5) (zO (za (zf qc1 hr rfl (za (pv 0) (za (pv 1) (za (pv 6) zb)))) (za (pv 7) zb))) (zZ z9 (pv 9) zi (fun _ _=>rfl)) rfl) (zj (vW (Room.u1F hr) (pv 4) (pv 10) (zf qc0 hr rfl (za (zZ z9 (pv 9) zi (fun _ _=>rfl)) (za (zZ z9 (pv 9) zi (fun _ _=>rfl)) zb))) rfl))) (zj (vW (Room.u1F hr) (pv 4) (pv 10) (zZ z9 (pv 9) zi (fun _ _=>rfl)) rfl)))))))) (zj (zr (zO (za (pv 4) (za (pv 5) zb)))))))),?_⟩
 have p16:=zS k4
 obtain ⟨kvs,hrd,tab,kl⟩:=hd
 have es:st = st - 1 + 1:=by omega
 have hdn:H d ≠ none:=by rcases hrd with z | ⟨o,z⟩ <;> rw [z] <;> exact fun z=>nomatch z
 refine ye (fun v H'=>∃ b0,v = .ref b0 /\ H b0 = none /\ H' = upd H b0 (.dT [])) (fun Kk hk=>fun p hp=>hk _ _ ⟨p,rfl,hp,rfl⟩) ?_
 rintro _ _ ⟨b0,rfl,hb0,rfl⟩
 have g1:=Grow.new (m:=[]) hb0 (.dT [])
 have eB1:=zd (H:=H) (a:=b0) (o:=.dT [])
 generalize upd H b0 (.dT []) = H1 at g1 eB1 ⊢
 refine ye (fun v H'=>∃ k0,v = .ref k0 /\ H1 k0 = none /\ H' = upd H1 k0 (.dT [])) (fun Kk hk=>fun p hp=>hk _ _ ⟨p,rfl,hp,rfl⟩) ?_
 rintro _ _ ⟨k0,rfl,hk1,rfl⟩
 have g2:=Grow.new (m:=[]) hk1 (.dT [])
 have eK2:=zd (H:=H1) (a:=k0) (o:=.dT [])
 have hk0:H k0 = none:=g1.free (by simp) hk1
 have bk0:b0 ≠ k0:=fun z=>by rw [z,hk1] at eB1; cases eB1
 have eB2:=g2.keep _ _ (by simp) eB1
 have g12:=g1.trans g2
 generalize upd H1 k0 (.dT []) = H2 at g2 g12 eK2 eB2 ⊢
 have nb:d ≠ b0:=fun z=>hdn (z ▸ hb0)
 have nk:d ≠ k0:=fun z=>hdn (z ▸ hk0)
 have hrd2:=Rd.growR g12 (.inl (by simp)) hrd
 refine ⟨_,rfl,d,kvs,rfl,hrd2,fun o H3 hd3 g3 same3=>?_⟩
 have eB3:H3 b0 = some (.dT []):=by rw [same3 b0 (Ne.symm nb)]; exact eB2
 have eK3:H3 k0 = some (.dT []):=by rw [same3 k0 (Ne.symm nk)]; exact eK2
 have hrw3:=g3.rows (g12.rows hrw)
 have tab3:TabR kvs (2 ^ k) m (lvR k rows ks (st - 1)) (zx K H3):=tab.imp fun v x hv=>g3.deed (g12.deed hv)
 refine X1 (fun i σ H'=>∃ (e6 e7 e8 e9 e10:Option V) (bk kk:List (List Key × V)),σ = [some (.int k),some (.int st),some (.ref d),some u,some (.ref b0),some (.ref k0),e6,e7,e8,e9,e10] /\ Grow [b0,k0] H3 H' /\ H' b0 = some (.dT bk) /\ H' k0 = some (.dT kk) /\ Beh K H' k m rows ks st kvs i bk kk) ?_ ?_ ?_ ?_
 ·exact ⟨_,_,_,_,_,[],[],rfl,Grow.refl _ _,eB3,eK3,Beh.nil⟩
 ·rintro i σ H' _ ⟨e6,e7,e8,e9,e10,bk,kk,rfl,g,_⟩
  exact g.frz _ _ _ hd3
 ·rintro i p bb σ H4 hp hbb ⟨e6,e7,e8,e9,e10,bk,kk,rfl,g4,hB4,hK4,beh⟩
  obtain ⟨l,b,dd,ep,hl,hb,hlv,hdd⟩:=tab3.keys p (List.mem_of_getElem? hp)
  obtain ⟨pk,v⟩:=p
  cases (show pk = keyR l b from ep)
  have b16:b < 16:=by omega
  have hi:i < kvs.length:=(List.getElem?_eq_some_iff.mp hp).1
  refine ⟨bb,[.int l,.int b],rfl,SqT.of hbb,rfl,_,_,rfl,_,_,rfl,rfl,?_⟩
  refine ye (fun v H'=>Ww K H' v [x0R k rows st l,x1R k rows st l] /\ Grow [] H4 H') (fun Kk hk=>⟨_,rfl,_,rfl,_,rfl,_,rfl,_,_,_,_,rfl,k,st,l,rows,rfl,rfl,rfl,g4.rows hrw3,k4,s1,sk,hl,hs,fun y H' g hn=>hk _ _ ⟨hn,g⟩⟩) ?_
  rintro _ H5 ⟨⟨ri,rfl,hri⟩,g5⟩
  have X:=xF (rows:=rows) k4 hs s1 sk hl
  have fz:∀ H',Grow [] H4 H' -> H' d = some (.frz o (.dT kvs)):=fun H' g=>g.frz _ _ _ (g4.frz _ _ _ hd3)
  have fz5:=fz H5 g5
  refine ye (fun v H'=>∃ l9,v = .ref l9 /\ H' l9 = some (.lst ((valV kvs (keyR (x0R k rows st l) b)).toList ++ (valV kvs (keyR (x1R k rows st l) b)).toList)) /\ Grow [] H5 H') (fun Kk hk=>⟨_,rfl,ri,rfl,⟨_,hri⟩,uY (xs:=yZ [x0R k rows st l,x1R k rows st l]) (fun n ys σ' H'=>Grow [] H5 H' /\ (∃ e,σ' = [e,some (.ref d),some (.int b)]) /\ ys = (([x0R k rows st l,x1R k rows st l].take n).flatMap fun x=>(valV kvs (keyR x b)).toList)) ⟨Grow.refl _ _,⟨_,rfl⟩,rfl⟩ (fun n ys σ' H' _ z=>z.1.sqT hri) ?_ ?_⟩) ?_
  ·rintro n y ys σ' H' hy ⟨g,⟨e,rfl⟩,rfl⟩
   have fin:∀ x:Nat,y = .int x -> (([x0R k rows st l,x1R k rows st l].take (n + 1)).flatMap fun x=>(valV kvs (keyR x b)).toList) = (([x0R k rows st l,x1R k rows st l].take n).flatMap fun x=>(valV kvs (keyR x b)).toList) ++ (valV kvs (keyR x b)).toList -> (([x0R k rows st l,x1R k rows st l].take n).flatMap fun x=>(valV kvs (keyR x b)).toList).length < sizeLine →
     tB (tDIn (tTup (Zr (tVar 0) (Zr (tVar 2) tNil))) (tVar 1)) [some y,some (.ref d),some (.int b)] H' (fun t H4=>if t = true then VB (tVar 1) (tTup (Zr (tVar 0) (Zr (tVar 2) tNil))) [some y,some (.ref d),some (.int b)] H4 fun y' H5'=>(([x0R k rows st l,x1R k rows st l].take n).flatMap fun x=>(valV kvs (keyR x b)).toList).length < sizeLine /\ Grow [] H5 H5' /\ (∃ e,[some y,some (V.ref d),some (V.int b)] = [e,some (.ref d),some (.int b)]) /\ (([x0R k rows st l,x1R k rows st l].take n).flatMap fun x=>(valV kvs (keyR x b)).toList) ++ [y'] = (([x0R k rows st l,x1R k rows st l].take (n + 1)).flatMap fun x=>(valV kvs (keyR x b)).toList) else Grow [] H5 H4 /\ (∃ e,[some y,some (V.ref d),some (V.int b)] = [e,some (.ref d),some (.int b)]) /\ (([x0R k rows st l,x1R k rows st l].take n).flatMap fun x=>(valV kvs (keyR x b)).toList) = (([x0R k rows st l,x1R k rows st l].take (n + 1)).flatMap fun x=>(valV kvs (keyR x b)).toList)):=by
    rintro x rfl et hsz
    rw [et]
    refine ⟨_,rfl,_,rfl,szl rfl,fun t ht=>?_⟩
    have gt:=Grow.new (m:=[]) ht (.tup [.int x,.int b])
    refine ⟨_,rfl,d,valV kvs (keyR x b),rfl,Yh (gt.frz _ _ _ (g.frz _ _ _ fz5)) zd,_,rfl,?_⟩
    cases hv:valV kvs (keyR x b) with
    | none=>exact iteF ⟨g.trans gt,⟨_,rfl⟩,by rw [show (none:Option V).toList = [] from rfl,List.append_nil]⟩
    | some v =>
     refine wg rfl ⟨_,rfl,_,rfl,_,rfl,szl rfl,fun t2 ht2=>?_⟩
     have gt2:=Grow.new (m:=[]) ht2 (.tup [.int x,.int b])
     have gx:=Yh (l:=x) (b:=b) (gt2.frz _ _ _ (gt.frz _ _ _ (g.frz _ _ _ fz5))) (zd (H:=upd H' t (.tup [.int x,.int b])) (a:=t2) (o:=.tup [.int x,.int b]))
     rw [hv] at gx
     exact ⟨d,v,rfl,gx,hsz,g.trans (gt.trans gt2),⟨_,rfl⟩,rfl⟩
   have small:∀ o:Option V,o.toList.length <= 1:=fun o=>by cases o <;> simp
   match n,hy with
   | 0,hy=>cases Option.some.inj hy; exact fin _ rfl (by simp [List.flatMap_cons]) (zG (by simp))
   | 1,hy =>
    cases Option.some.inj hy
    refine fin _ rfl (by simp [List.flatMap_cons]) (zG ?_)
    have:=small (valV kvs (keyR (x0R k rows st l) b))
    simp [List.flatMap_cons]; omega
  ·rintro ys σ' H' ⟨g,_,rfl⟩ l9 hl9
   refine hk _ _ ⟨l9,rfl,?_,g.trans (Grow.new hl9 _)⟩
   rw [zd]
   simp [List.flatMap_cons,yZ]
  rintro _ H6 ⟨l9,rfl,h9,g6⟩
  have fz6:=g6.frz _ _ _ fz5
  have W:=outF (b:=b) k4 s1 sk hl
  refine ye (fun v H'=>∃ t,v = .ref t /\ H' t = some (.tup [.int (outR k st l b:Nat),.int b]) /\ Grow [] H6 H') (fun Kk hk=>⟨_,rfl,_,rfl,_,rfl,_,rfl,_,rfl,_,_,rfl,k,b,rfl,rfl,k4,b16,_,_,_,_,rfl,k,st,l,((b % 2 ^ k:Nat):Int),rfl,rfl,rfl,rfl,k4,sk,by omega,by omega,by omega,by have:=zo (k:=k) (b:=b); omega,_,rfl,szl rfl,fun t ht=>hk _ _ ⟨t,rfl,?_,Grow.new ht _⟩⟩) ?_
  ·rw [zd,W.eq]; rfl
  rintro _ H7 ⟨t,rfl,ht,g7⟩
  have G7:=g5.trans (g6.trans g7)
  have h97:=g7.keep _ _ (by simp) h9
  have tab7:TabR kvs (2 ^ k) m (lvR k rows ks (st - 1)) (zx K H7):=tab3.imp fun v x hv=>G7.deed (g4.deed hv)
  have B7:=beh.grow G7
  have hB7:=G7.keep _ _ (by simp) hB4
  have hK7:=G7.keep _ _ (by simp) hK4
  have G37:Grow [b0,k0] H3 H7:=g4.trans G7.wk
  have lvo:lvR k rows ks st (outR k st l b) b = vX (lvR k rows ks (st - 1) (x0R k rows st l) b) (lvR k rows ks (st - 1) (x1R k rows st l) b):=by
   have:=X4 (ks:=ks) (b:=b) k4 hs (s:=st - 1) (by omega) hl
   rw [← es] at this; exact this
  have val0:=tab7.val X.lt0 hb
  have val1:=tab7.val X.lt1 hb
  have tb:=beh.bl
  have tk:=beh.kl
  have O:=oneF k4 s1 sk hl
  have single:∀ (w:V) (x:Deed),H7 l9 = some (.lst [w]) -> lvR k rows ks st (outR k st l b) b = some x -> zx K H7 w x -> kpR k rows ks st l b = none -> ∃ (e6 e7 e8 e9 e10:Option V) (bk' kk':List (List Key × V)),[some (V.int k),some (.int st),some (.ref d),some u,some (.ref b0),some (.ref k0),some (.int l),some (.int b),some (.ref ri),some (.ref l9),some (.ref t)] = [some (.int k),some (.int st),some (.ref d),some u,some (.ref b0),some (.ref k0),e6,e7,e8,e9,e10] /\ Grow [b0,k0] H3 (upd H7 b0 (.dT (putK bk (keyR (outR k st l b) b) w))) /\ upd H7 b0 (.dT (putK bk (keyR (outR k st l b) b) w)) b0 = some (.dT bk') /\ upd H7 b0 (.dT (putK bk (keyR (outR k st l b) b) w)) k0 = some (.dT kk') /\ Beh K (upd H7 b0 (.dT (putK bk (keyR (outR k st l b) b) w))) k m rows ks st kvs (i + 1) bk' kk':=fun w x _ hx hw hkp=>by
   have gs:Grow [b0,k0] H7 (upd H7 b0 (.dT (putK bk (keyR (outR k st l b) b) w))):=Grow.setR hB7 (by simp)
   exact ⟨_,_,_,_,_,_,kk,rfl,G37.trans gs,zd,by rw [zp (Ne.symm bk0)]; exact hK7,(B7.one hp W.lt hb hx hw hkp).grow gs⟩
  cases h0:lvR k rows ks (st - 1) (x0R k rows st l) b with
  | none =>
   rw [h0] at val0 lvo
   cases h1:lvR k rows ks (st - 1) (x1R k rows st l) b with
   | none =>
    rcases X.or with e | e
    ·rw [← e,hlv] at h0; cases h0
    ·rw [← e,hlv] at h1; cases h1
   | some d1 =>
    rw [h1] at val1 lvo
    obtain ⟨v1,e1,w1⟩:=val1
    have kn:kpR k rows ks st l b = none:=by unfold kpR; rw [h0]
    rw [(show valV kvs (keyR (x0R k rows st l) b) = none from val0),e1] at h97
    refine ⟨_,rfl,l9,_,rfl,.inl (SqL.of h97),rfl,_,rfl,xL (decide_eq_false fun z=>nomatch V.int.inj z) ?_⟩
    exact ⟨_,rfl,l9,_,0,v1,rfl,rfl,SqL.of h97,rfl,_,rfl,_,rfl,b0,_,rfl,DPut.t (k:=keyR (outR k st l b) b) hB7 ht (zG (by omega)),single v1 d1 h97 lvo w1 kn⟩
  | some d0 =>
   rw [h0] at val0
   obtain ⟨v0,e0,w0⟩:=val0
   cases h1:lvR k rows ks (st - 1) (x1R k rows st l) b with
   | none =>
    rw [h0,h1] at lvo
    rw [h1] at val1
    have kn:kpR k rows ks st l b = none:=by unfold kpR; rw [h0,h1]
    rw [e0,(show valV kvs (keyR (x1R k rows st l) b) = none from val1)] at h97
    refine ⟨_,rfl,l9,_,rfl,.inl (SqL.of h97),rfl,_,rfl,xL (decide_eq_false fun z=>nomatch V.int.inj z) ?_⟩
    exact ⟨_,rfl,l9,_,0,v0,rfl,rfl,SqL.of h97,rfl,_,rfl,_,rfl,b0,_,rfl,DPut.t (k:=keyR (outR k st l b) b) hB7 ht (zG (by omega)),single v0 d0 h97 lvo w0 kn⟩
   | some d1 =>
    rw [h0,h1] at lvo
    rw [h1] at val1
    obtain ⟨v1,e1,w1⟩:=val1
    have kn:kpR k rows ks st l b = some d0:=by unfold kpR; rw [h0,h1]
    rw [e0,e1] at h97
    refine ⟨_,rfl,l9,_,rfl,.inl (SqL.of h97),rfl,_,rfl,wg (decide_eq_true rfl) ?_⟩
    refine ⟨_,rfl,l9,_,0,v0,rfl,rfl,SqL.of h97,rfl,_,rfl,_,rfl,_,rfl,_,rfl,_,_,_,rfl,k,st,l,rfl,rfl,rfl,k4,sk,by omega,by omega,_,rfl,szl rfl,fun t2 ht2=>?_⟩
    rw [O.sw,O.num]
    have g8:=Grow.new (m:=[]) ht2 (.tup [.int (nN k st l:Nat),.int b])
    have e8:=zd (H:=H7) (a:=t2) (o:=.tup [.int (nN k st l:Nat),.int b])
    have hB8:=g8.keep _ _ (by simp) hB7
    have hK8:=g8.keep _ _ (by simp) hK7
    have h98:=g8.keep _ _ (by simp) h97
    have ht8:=g8.keep _ _ (by simp) ht
    have w0':=g8.deed w0
    have w1':=g8.deed w1
    have B8:=B7.grow g8
    generalize upd H7 t2 (.tup [.int (nN k st l:Nat),.int b]) = H8 at g8 e8 hB8 hK8 h98 ht8 w0' w1' B8 ⊢
    refine ⟨k0,_,rfl,DPut.t (k:=keyR (nN k st l) b) hK8 e8 (zG (by omega)),?_⟩
    have g9:Grow [b0,k0] H8 (upd H8 k0 (.dT (putK kk (keyR (nN k st l) b) v0))):=Grow.setR hK8 (by simp)
    have hB9:upd H8 k0 (.dT (putK kk (keyR (nN k st l) b) v0)) b0 = some (.dT bk):=by rw [zp bk0]; exact hB8
    have hK9:=zd (H:=H8) (a:=k0) (o:=.dT (putK kk (keyR (nN k st l) b) v0))
    have n9:l9 ≠ k0:=Wa h98 hK8 (fun z=>nomatch z)
    have nt9:t ≠ k0:=Wa ht8 hK8 (fun z=>nomatch z)
    have h99:upd H8 k0 (.dT (putK kk (keyR (nN k st l) b) v0)) l9 = some (.lst [v0,v1]):=by rw [zp n9]; exact h98
    have ht9:upd H8 k0 (.dT (putK kk (keyR (nN k st l) b) v0)) t = some (.tup [.int (outR k st l b:Nat),.int b]):=by rw [zp nt9]; exact ht8
    generalize upd H8 k0 (.dT (putK kk (keyR (nN k st l) b) v0)) = H9 at g9 hB9 hK9 h99 ht9 ⊢
    refine ⟨_,rfl,l9,_,0,v0,rfl,rfl,SqL.of h99,rfl,_,rfl,l9,_,1,v1,rfl,rfl,SqL.of h99,rfl,_,_,rfl,d0,d1,g9.deed w0',g9.deed w1',fun t3 ht3=>?_⟩
    have ga:=Grow.new (m:=[]) ht3 (.tup (ue d0 d1).vs)
    have hBa:=ga.keep _ _ (by simp) hB9
    have hKa:=ga.keep _ _ (by simp) hK9
    have hta:=ga.keep _ _ (by simp) ht9
    have wj:zx K (upd H9 t3 (.tup (ue d0 d1).vs)) (.ref t3) (ue d0 d1):=⟨t3,rfl,SqT.of zd⟩
    have Ga:Grow [b0,k0] H3 (upd H9 t3 (.tup (ue d0 d1).vs)):=G37.trans (g8.wk.trans (g9.trans ga.wk))
    have Ba:=(B8.grow g9).grow ga
    have wa:=ga.deed (g9.deed w0')
    generalize upd H9 t3 (.tup (ue d0 d1).vs) = Ha at ga hBa hKa hta wj Ga Ba wa ⊢
    refine ⟨_,rfl,_,rfl,b0,_,rfl,DPut.t (k:=keyR (outR k st l b) b) hBa hta (zG (by omega)),?_⟩
    have gs:Grow [b0,k0] Ha (upd Ha b0 (.dT (putK bk (keyR (outR k st l b) b) (.ref t3)))):=Grow.setR hBa (by simp)
    exact ⟨_,_,_,_,_,_,_,rfl,Ga.trans gs,zd,by rw [zp (Ne.symm bk0)]; exact hKa,(Ba.two hp hl W.lt hb lvo wj kn wa).grow gs⟩
 ·rintro σ H4 ⟨e6,e7,e8,e9,e10,bk,kk,rfl,g4,hB4,hK4,beh⟩
  have tab4:TabR kvs (2 ^ k) m (lvR k rows ks (st - 1)) (zx K H4):=tab3.imp fun v x hv=>g4.deed hv
  obtain ⟨L1,L2⟩:=beh.done k4 hs s1 sk tab4 kl hB4 hK4
  refine ⟨_,rfl,_,rfl,szl rfl,fun r hr'=>?_⟩
  have g5:=Grow.new (m:=[]) hr' (.tup [.ref b0,.ref k0])
  have G:Grow [d] H (upd H4 r (.tup [.ref b0,.ref k0])):=by
   have a1:Grow [d,b0,k0] H H3:=(g12.wk.trans (g3.mono (by simp)))
   have a2:Grow [d,b0,k0] H3 H4:=g4.mono (by simp)
   refine (a1.trans (a2.trans g5.wk)).less fun b hb=>?_
   simp only [List.mem_cons,List.mem_nil_iff,or_false] at hb
   rcases hb with rfl | rfl | rfl
   ·exact .inl (by simp)
   ·exact .inr hb0
   ·exact .inr hk0
  exact q r b0 k0 _ G hb0 hk0 bk0 (SqT.of zd) (L1.grow g5 (by simp)) (L2.grow g5 (by simp)) ⟨kvs,.inr ⟨o,g5.frz _ _ _ (g4.frz _ _ _ hd3)⟩,tab4.imp fun v x hv=>g5.deed hv,kl⟩
theorem yF:FnScope ["k","asks","firsts","levels","stages","stage","behind","kept"] ["k","asks","firsts"] (zg (top 46)):=⟨rfl,rfl,rfl,by decide +kernel,rfl,by decide +kernel,by decide +kernel⟩
theorem qA (F:Fun K "pass_net" "pass_net" (top 46) f fd) (B:Blt mg) (qc0:zh P w K mg base n "pass_stage" ["k","stage","asked","firsts"] (sQ K))    :
  FnOk P w K mg base CX0 (n + 1) f fd ["k","asks","firsts"] (xM K):=by
 refine F.ok yF xi (fun cdv A outer s H vs Q E hr h=>?_)
 obtain ⟨x,y,z,rfl,k,m,rows,ks,rfl,k4,m16,k16,hks,hrw,hs,R,q⟩:=h
 refine ⟨_,(ze (zw (i:=3) yF.nd rfl (Or.inl rfl) (y9 (za (Xu (Room.u1F hr) (CSc.of (N':=["hand","box","deed"]) (sub:=[none,none,none]) (zg (top 46)) ["k","asks","firsts","levels","stages","stage","behind","kept"] rfl rfl (by decide +kernel) rfl) rfl (y7 (pv 1)) (fun _ _ _ _ _ _=>yY (K:=K) 3 rfl rfl (zm (zk (i:=0) (show (["hand","box","deed"]:List Str).Nodup by decide +kernel) rfl (Or.inl rfl) (Or.inr rfl)) (zm (zk (i:=1) (show (["hand","box","deed"]:List Str).Nodup by decide +kernel) rfl (Or.inl rfl) (Or.inr rfl)) (zm (zk (i:=2) (show (["hand","box","deed"]:List Str).Nodup by decide +kernel) rfl (Or.inl rfl) (Or.inr rfl)) zH))) rfl rfl) (fun _ _ _ _ _ _=>zA) (fun _ _ _ _ _ _=>(zO (za (pv 0) (za (pv 1) zb)))) (fun _ _ _ _ _ _=>(pv 2))) zb))) (ze (zw (i:=4) yF.nd rfl (Or.inl rfl) (y9 zb)) (ze (yU PassesOwn.never rfl (tY rfl B.range (za zi (za (zq yM (pv 0) zi) zb))) (zk (i:=5) yF.nd rfl (Or.inl rfl)) (ze (x6 (zf qc0 hr rfl (za (pv 0) (za (pv 5) (za (zZ z9 (pv 3) (Y0 qK zi) (fun _ _=>rfl)) (za (pv 2) zb))))) (yI rfl (zm (zk (i:=6) yF.nd rfl (Or.inl rfl)) (zm (zk (i:=7) yF.nd rfl (Or.inl rfl)) zH)))) (ze (zL (uV PySem.F.plainAttrs_list PySem.F.slot_list_append PySem.F.type_list_append xu (pv 3) (za (pv 6) zb))) (zj (zL (uV PySem.F.plainAttrs_list PySem.F.slot_list_append PySem.F.type_list_append xu (pv 4) (za (pv 7) zb))))))) (zj (zr (zO (za (pv 3) (za (pv 4) zb)))))))),?_⟩
 have p16:=zS k4
 obtain ⟨ra,xs,rfl,hra,hxs⟩:=hks
 have xl:=hxs.len
 refine ye (fun v H'=>∃ lL d0 vs,v = .ref lL /\ H' lL = some (.lst [.ref d0]) /\ H' d0 = some (.dT (lv0K ks vs)) /\ vs.length = ks.length /\ (∀ (i:Nat) (a:Ask) (v:V),ks[i]? = some a -> vs[i]? = some v -> zx K H' v a.deed) /\ Grow [] H H' /\ H d0 = none /\ H lL = none) (fun Kk hk=>⟨_,rfl,ra,rfl,⟨_,hra⟩,Yg (xs:=xs) (fun n kvs Hb σ' H'=>Grow [] H H' /\ Grow [] Hb H' /\ (∃ e1 e2 e3,σ' = [e1,e2,e3]) /\ n <= ks.length /\ ∃ vs,kvs = lv0K (ks.take n) vs /\ vs.length = n /\ ∀ (i:Nat) (a:Ask) (v:V),ks[i]? = some a -> vs[i]? = some v -> zx K H' v a.deed) ⟨Grow.refl _ _,Grow.refl _ _,⟨_,_,_,rfl⟩,Nat.zero_le _,[],rfl,rfl,fun i a v _ h=>by cases h⟩ (fun n kvs Hb σ' H' z=>z.1.sqT hra) ?_ ?_⟩) ?_
 ·rintro n x kvs Hb σ' H' hx ⟨g,gb,⟨e1,e2,e3,rfl⟩,hn,vs,rfl,vl,hv⟩
  obtain ⟨a,ha,r,rd,rfl,h1,h2⟩:=hxs.get hx
  have hn':=(List.getElem?_eq_some_iff.mp ha).1
  have am:=List.mem_of_getElem? ha
  refine ⟨r,_,rfl,g.sqT h1,rfl,_,_,rfl,_,_,rfl,_,_,rfl,rfl,?_⟩
  refine ⟨_,rfl,_,rfl,szl rfl,fun t ht=>?_⟩
  have gt:=Grow.new (m:=[]) ht (.tup [.int a.hand,.int a.box])
  refine ⟨_,rfl,zG (by rw [Yi]; omega),t,keyR a.hand.toNat a.box.toNat,rfl,?_,(fun c xs e=>gt.tup _ _ (gb.tup _ _ e)),g.trans gt,Grow.refl _ _,⟨_,_,_,rfl⟩,hn',vs ++ [.ref rd],WJ R ha vl,by rw [List.length_append]; show vs.length + 1 = _; omega,?_⟩
  ·rw [XB (R.hand a am).1 (R.box a am).1]; exact zd
  ·intro i a' v' hi hv'
   by_cases c:i < vs.length
   ·rw [List.getElem?_append_left c] at hv'
    exact gt.deed (hv i a' v' hi hv')
   ·have e:i = n:=by have:=(List.getElem?_eq_some_iff.mp hv').1; rw [List.length_append] at this; have:i < vs.length + 1:=this; omega
    rw [e,ha] at hi
    rw [e,← vl,List.getElem?_concat_length] at hv'
    cases Option.some.inj hi
    cases Option.some.inj hv'
    exact ⟨rd,rfl,gt.sqT (g.sqT h2)⟩
 ·rintro kvs Hb σ' H' ⟨g,gb,_,_,vs,rfl,vl,hv⟩
  refine ⟨fun b xs e=>gb.tup _ _ e,fun d0 hd0=>⟨szl rfl,fun lL hlL=>?_⟩⟩
  have g1:=Grow.new (m:=[]) hd0 (.dT (lv0K (ks.take xs.length) vs))
  have g2:=Grow.new (m:=[]) hlL (.lst [.ref d0])
  rw [xl,List.take_length] at g1 g2 hlL ⊢
  exact hk _ _ ⟨lL,d0,vs,rfl,zd,g2.keep _ _ (by simp) zd,by omega,fun i a v h1 h2=>g2.deed (g1.deed (hv i a v h1 h2)),g.trans (g1.trans g2),g.free (by simp) hd0,g.free (by simp) (g1.free (by simp) hlL)⟩
 rintro _ H1 ⟨lL,d0,vs,rfl,hL1,hd1,vl,hv1,g1,hd0,hlL⟩
 refine ye (fun v H'=>∃ lS,v = .ref lS /\ H1 lS = none /\ H' = upd H1 lS (.lst [])) (fun Kk hk=>⟨szl rfl,fun lS hlS=>hk _ _ ⟨lS,rfl,hlS,rfl⟩⟩) ?_
 rintro _ _ ⟨lS,rfl,hlS,rfl⟩
 have g2:=Grow.new (m:=[]) hlS (.lst [])
 have hS2:=zd (H:=H1) (a:=lS) (o:=.lst [])
 have hL2:=g2.keep _ _ (by simp) hL1
 have hd2:=g2.keep _ _ (by simp) hd1
 have nLS:lL ≠ lS:=fun z=>by rw [z,hlS] at hL1; cases hL1
 have hlS0:H lS = none:=g1.free (by simp) hlS
 have G2:=g1.trans g2
 have N2:NetR K (upd H1 lS (.lst [])) k m rows ks [d0] []:=by
  refine ⟨fun s d h=>?_,fun s d h=>(by cases h),by simp⟩
  match s,h with
  | 0,h =>
   cases Option.some.inj h
   exact ⟨_,.inl hd2,WI R vl fun i a v h1 h2=>g2.deed (hv1 i a v h1 h2),by rw [Yi]; omega⟩
 generalize upd H1 lS (.lst []) = H2 at g2 hS2 hL2 hd2 G2 N2 ⊢
 refine ⟨_,rfl,_,_,rfl,rfl,_,_,rfl,⟨by omega,by omega,by omega,by omega⟩,xr (fun i σ H'=>∃ (ds kps:List Addr) (e5 e6 e7:Option V),σ = [some (.int k),some (.ref ra),some z,some (.ref lL),some (.ref lS),e5,e6,e7] /\ ds.length = i + 1 /\ kps.length = i /\ H' lL = some (.lst (ds.map V.ref)) /\ H' lS = some (.lst (kps.map V.ref)) /\ NetR K H' k m rows ks ds kps /\ (∀ d ∈ ds ++ kps,H d = none) /\ Grow [] H H') ?_ ?_ ?_⟩
 ·exact ⟨[d0],[],_,_,_,rfl,rfl,rfl,hL2,hS2,N2,(fun d hd=>by rw [show d = d0 from by simpa using hd]; exact hd0),G2⟩
 ·rintro i σ H3 hi ⟨ds,kps,e5,e6,e7,rfl,dl,kpl,hL3,hS3,N3,fr3,G3⟩
  have hik:i + 1 <= k:=by omega
  obtain ⟨ds0,d,rfl⟩:=XC (xs:=ds) (fun z=>by rw [z] at dl; cases dl)
  have dl0:ds0.length = i:=by rw [List.length_append] at dl; have:ds0.length + 1 = i + 1:=dl; omega
  have hLd:LvAt K H3 k m rows ks i d:=N3.lv i d (by rw [← dl0,List.getElem?_concat_length])
  have last:atI ((ds0 ++ [d]).map V.ref) (-1) = some (.ref d):=Ut
  have nL:∀ e ∈ (ds0 ++ [d]) ++ kps,e ≠ lL /\ e ≠ lS:=fun e he=>by
   obtain ⟨kv,hk⟩:=N3.isD he
   exact ⟨Rd.ne_lst hk hL3,Rd.ne_lst hk hS3⟩
  have nLd:=nL d (by simp)
  refine ⟨_,rfl,_,rfl,_,rfl,_,rfl,lL,_,_,_,rfl,rfl,SqL.of hL3,last,_,rfl,_,_,_,_,rfl,k,i + 1,m,d,rows,ks,rfl,congrArg V.int (by omega),rfl,k4,by omega,hik,m16,hLd,G3.rows hrw,hs,R,fun r b' kp H4 g4 hb' hkp nbk s4 L4 K4 L4'=>?_⟩
  refine ⟨r,[.ref b',.ref kp],rfl,s4,rfl,_,_,rfl,_,_,rfl,rfl,?_⟩
  have hL4:=g4.keep _ _ (by simpa using Ne.symm nLd.1) hL3
  have hS4:=g4.keep _ _ (by simpa using Ne.symm nLd.2) hS3
  have nb:∀ e ∈ (ds0 ++ [d]) ++ kps,e ≠ b' /\ e ≠ kp:=fun e he=>by
   obtain ⟨kv,hk⟩:=N3.isD he
   exact ⟨fun z=>Rd.ne_none hk (z ▸ hb'),fun z=>Rd.ne_none hk (z ▸ hkp)⟩
  have ndd:∀ e ∈ ds0 ++ kps,e ≠ d:=fun e he z=>by
   have nd:=N3.nd
   rw [List.append_assoc] at nd
   rcases List.mem_append.mp he with h | h
   ·exact (List.nodup_append.mp nd).2.2 e h d (by simp) z
   ·have:=(List.nodup_append.mp nd).2.1
    rw [List.singleton_append,List.nodup_cons] at this
    exact this.1 (z ▸ h)
  have N4:NetR K H4 k m rows ks (ds0 ++ [d] ++ [b']) (kps ++ [kp]):=by
   refine ⟨fun s e h=>?_,fun s e h=>?_,?_⟩
   ·by_cases c:s < (ds0 ++ [d]).length
    ·rw [List.getElem?_append_left c] at h
     by_cases c2:s < ds0.length
     ·rw [List.getElem?_append_left c2] at h
      exact (N3.lv s e (by rw [List.getElem?_append_left c2]; exact h)).grow g4 (by simpa using ndd e (List.mem_append_left _ (List.mem_of_getElem? h)))
     ·have es:s = ds0.length:=by rw [List.length_append] at c; have:s < ds0.length + 1:=c; omega
      rw [es,List.getElem?_concat_length] at h
      cases Option.some.inj h
      rw [es,dl0]; exact L4'
    ·have es:s = (ds0 ++ [d]).length:=by have:=(List.getElem?_eq_some_iff.mp h).1; rw [List.length_append (bs:=[b'])] at this; have:s < (ds0 ++ [d]).length + 1:=this; omega
     rw [es,List.getElem?_concat_length] at h
     cases Option.some.inj h
     rw [es,dl]; exact L4
   ·by_cases c:s < kps.length
    ·rw [List.getElem?_append_left c] at h
     exact (N3.kp s e h).grow g4 (by simpa using ndd e (List.mem_append_right _ (List.mem_of_getElem? h)))
    ·have es:s = kps.length:=by have:=(List.getElem?_eq_some_iff.mp h).1; rw [List.length_append] at this; have:s < kps.length + 1:=this; omega
     rw [es,List.getElem?_concat_length] at h
     cases Option.some.inj h
     rw [es,kpl]; exact K4
   ·exact jO N3.nd (fun e he=>(nb e he).1) (fun e he=>(nb e he).2) nbk
  have fr4:∀ e ∈ (ds0 ++ [d] ++ [b']) ++ (kps ++ [kp]),H e = none:=fun e he=>by
   rcases List.mem_append.mp he with h | h
   ·rcases List.mem_append.mp h with h | h
    ·exact fr3 e (List.mem_append_left _ h)
    ·rw [List.mem_singleton.mp h]; exact G3.free (by simp) hb'
   ·rcases List.mem_append.mp h with h | h
    ·exact fr3 e (List.mem_append_right _ h)
    ·rw [List.mem_singleton.mp h]; exact G3.free (by simp) hkp
  have G4:Grow [] H H4:=(G3.wk.trans g4).fresh fun b hb=>by rw [List.mem_singleton.mp hb]; exact fr3 d (by simp)
  have nL4:∀ e ∈ (ds0 ++ [d] ++ [b']) ++ (kps ++ [kp]),e ∉ [lL]:=fun e he z=>by
   obtain ⟨kv,hk⟩:=N4.isD he
   exact Rd.ne_lst hk hL4 (by simpa using z)
  have nS4:∀ e ∈ (ds0 ++ [d] ++ [b']) ++ (kps ++ [kp]),e ∉ [lS]:=fun e he z=>by
   obtain ⟨kv,hk⟩:=N4.isD he
   exact Rd.ne_lst hk hS4 (by simpa using z)
  refine ⟨_,rfl,.inl ⟨rfl,_,SqL.of hL4⟩,_,rfl,lL,_,_,rfl,rfl,hL4,zG (by rw [List.length_map]; omega),?_⟩
  have g5:Grow [lL] H4 (upd H4 lL (.lst ((ds0 ++ [d]).map V.ref ++ [.ref b']))):=Grow.set hL4 (by simp) _
  have hL5:=zd (H:=H4) (a:=lL) (o:=.lst ((ds0 ++ [d]).map V.ref ++ [.ref b']))
  have hS5:upd H4 lL (.lst ((ds0 ++ [d]).map V.ref ++ [.ref b'])) lS = some (.lst (kps.map V.ref)):=by rw [zp (Ne.symm nLS)]; exact hS4
  have N5:=N4.grow g5 nL4
  have G5:Grow [] H (upd H4 lL (.lst ((ds0 ++ [d]).map V.ref ++ [.ref b']))):=(G4.wk.trans g5).fresh fun b hb=>by rw [List.mem_singleton.mp hb]; exact hlL
  generalize upd H4 lL (.lst ((ds0 ++ [d]).map V.ref ++ [.ref b'])) = H5 at g5 hL5 hS5 N5 G5 ⊢
  refine ⟨_,rfl,.inl ⟨rfl,_,SqL.of hS5⟩,_,rfl,lS,_,_,rfl,rfl,hS5,zG (by rw [List.length_map]; omega),?_⟩
  have g6:Grow [lS] H5 (upd H5 lS (.lst (kps.map V.ref ++ [.ref kp]))):=Grow.set hS5 (by simp) _
  refine ⟨ds0 ++ [d] ++ [b'],kps ++ [kp],_,_,_,rfl,by rw [List.length_append,dl]; rfl,by rw [List.length_append,kpl]; rfl,?_,?_,N5.grow g6 nS4,fr4,(G5.wk.trans g6).fresh fun b hb=>by rw [List.mem_singleton.mp hb]; exact hlS0⟩
  ·rw [zp nLS,hL5,List.map_append (l₂:=[b'])]; rfl
  ·rw [zd,List.map_append (l₂:=[kp])]; rfl
 ·rintro σ H3 ⟨ds,kps,e5,e6,e7,rfl,dl,kpl,hL3,hS3,N3,fr3,G3⟩
  have ek:((k:Int) + 1 - 1).toNat = k:=by omega
  rw [ek] at dl kpl
  refine ⟨_,rfl,_,rfl,szl rfl,fun r hr'=>?_⟩
  have g5:=Grow.new (m:=[]) hr' (.tup [.ref lL,.ref lS])
  exact q r lL lS ds kps _ (G3.trans g5) (SqT.of zd) (g5.keep _ _ (by simp) hL3) (g5.keep _ _ (by simp) hS3) dl kpl (N3.grow g5 (by simp)) fr3
theorem xE:FnScope ["k"] ["k"] (zg (top 36)):=⟨rfl,rfl,rfl,by decide +kernel,rfl,by decide +kernel,by decide +kernel⟩
theorem xG (F:Fun K "switches_in_a_stage" "switches_in_a_stage" (top 36) f fd) (B:Blt mg)     :
  FnOk P w K mg base CX0 (n + 1) f fd ["k"] (xm K):=by
 refine F.ok xE yV (fun cdv A outer s H vs Q E hr h=>?_)
 obtain ⟨x,rfl,k,rfl,k4,q⟩:=h
 refine ⟨_,(zj (zr (zq Zh (zq yN zi (pv 0)) zi))),?_⟩
 refine ⟨_,rfl,_,_,rfl,rfl,x9 k4,_,_,rfl,rfl,(by show (0:Int) <= 1; decide),?_⟩
 show Q (V.int (1 * 2 ^ ((k:Int)).toNat / 2 ^ (1:Int).toNat)) H
 rw [Wv k4]
 exact q
theorem qB:FnScope ["k"] ["k"] (zg (top 40)):=⟨rfl,rfl,rfl,by decide +kernel,rfl,by decide +kernel,by decide +kernel⟩
theorem qC (F:Fun K "straight" "straight" (top 40) f fd) (B:Blt mg) (qc0:zh P w K mg base n "switches_in_a_stage" ["k"] (xm K)) (qc1:zh P w K mg base n "need_net" ["thing"] (yX K))    :
  FnOk P w K mg base CX0 (n + 1) f fd ["k"] (wI K):=by
 refine F.ok qB yV (fun cdv A outer s H vs Q E hr h=>?_)
 obtain ⟨x,rfl,k,rfl,k4,q⟩:=h
 refine ⟨_,(ze (zL (zf qc1 hr rfl (za (pv 0) zb))) (zj (zr (zq (Z7 (K:=K) rfl) (zO (za (zq (Z7 (K:=K) rfl) (zO (za zi zb)) (zf qc0 hr rfl (za (pv 0) zb))) zb)) (pv 0))))),?_⟩
 refine ⟨_,rfl,_,rfl,k,rfl,k4,?_⟩
 refine c_nx ⟨szl rfl,fun t ht=>⟨_,rfl,_,rfl,k,rfl,k4,?_⟩⟩
 have gt:=Grow.new (m:=[]) ht (.tup [.int 0])
 have p16:=zS k4
 refine ⟨t,2 ^ k / 2,[.int 0],rfl,rfl,SqT.of zd,(fun z=>nomatch z),Nat.le_of_lt (zG (by show 1 * (2 ^ k / 2) <= 1000; omega)),fun p1 H1 g1 h1=>⟨szl rfl,fun t2 ht2=>⟨_,rfl,?_⟩⟩⟩
 have gt2:=Grow.new (m:=[]) ht2 (.tup [.ref p1])
 refine ⟨t2,k,[.ref p1],rfl,rfl,SqT.of zd,(fun z=>nomatch z),Nat.le_of_lt (zG (by show 1 * k <= 1000; omega)),fun p2 H2 g2 h2=>q _ _ (gt.trans (g1.trans (gt2.trans g2))) ⟨p2,_,rfl,h2,?_⟩⟩
 have e1:(List.replicate (2 ^ k / 2) [V.int 0]).flatten = (List.replicate (2 ^ k / 2) (0:Int)).map V.int:=by
  rw [List.map_replicate]
  generalize 2 ^ k / 2 = n
  induction n with
  | zero=>rfl
  | succ n ih=>rw [List.replicate_succ,List.flatten_cons,ih,List.replicate_succ]; rfl
 rw [e1] at h1
 have hr1:zz K H2 (.ref p1) (List.replicate (2 ^ k / 2) 0):=⟨p1,rfl,(gt2.trans g2).sqT h1⟩
 exact re hr1 k
theorem xR:FnScope ["k","board","asks","levels"] ["k","board","asks"] (zg (top 54)):=⟨rfl,rfl,rfl,by decide +kernel,rfl,by decide +kernel,by decide +kernel⟩
theorem uc (F:Fun K "joined_loads" "joined_loads" (top 54) f fd) (B:Blt mg) (qc0:zh P w K mg base n "counted_on" ["k","lines"] (xP K)) (qc1:zh P w K mg base n "pass_net" ["k","asks","firsts"] (xM K)) (qc2:zh P w K mg base n "straight" ["k"] (wI K)) (qc3:zh P w K mg base n "need_round" ["k","board","asks"] (yk K))    :
  FnOk P w K mg base CX0 (n + 1) f fd ["k","board","asks"] (YC K):=by
 refine F.ok xR xi (fun cdv A outer s H vs Q E hr h=>?_)
 obtain ⟨x,y,z,rfl,k,b,ks,rfl,k4,hb,b1,b16,hks,k16,R,q⟩:=h
 refine ⟨_,(ze (zL (zf qc3 hr rfl (za (pv 0) (za (pv 1) (za (pv 2) zb))))) (ze (zw (i:=3) xR.nd rfl (Or.inl rfl) (zZ yO (zf qc1 hr rfl (za (pv 0) (za (pv 2) (za (zf qc2 hr rfl (za (pv 0) zb)) zb)))) zi (fun _ _=>rfl))) (zj (zr (zy zn rfl B.tuple zE (za (zF (CSc.of (N':=["asked","k"]) (sub:=[none,some 0]) (zg (top 54)) ["k","board","asks","levels"] rfl rfl (by decide +kernel) rfl) rfl (vF (pv 3)) (fun _ _ _ _ _ _=>zk (i:=0) (show (["asked","k"]:List Str).Nodup by decide +kernel) rfl (Or.inl rfl)) (fun _ _ _ _ _ _=>zA) (fun _ _ _ _ _ _=>(zf qc0 hr rfl (za (pv 1) (za (zF (CSc.nest (N2:=["line","box"]) (sub2:=[none,none]) (CSc.of (N':=["asked","k"]) (sub:=[none,some 0]) (zg (top 54)) ["k","board","asks","levels"] rfl rfl (by decide +kernel) rfl) rfl (by decide +kernel) rfl) rfl (WD (pv 0)) (fun _ _ _ _ _ _=>yY (K:=K) 2 rfl rfl (zm (zk (i:=0) (show (["line","box"]:List Str).Nodup by decide +kernel) rfl (Or.inl rfl) (Or.inr rfl)) (zm (zk (i:=1) (show (["line","box"]:List Str).Nodup by decide +kernel) rfl (Or.inl rfl) (Or.inr rfl)) zH)) rfl rfl) (fun _ _ _ _ _ _=>zA) (fun _ _ _ _ _ _=>(pv 0))) zb))))) zb)))))),?_⟩
 have p16:=zS k4
 have hs:=jn k
 refine ⟨_,rfl,_,rfl,_,rfl,_,_,_,rfl,k,b,ks,rfl,k4,hb,b1,b16,hks,k16,R,fun H1 g1=>?_⟩
 refine c_nx ⟨_,rfl,_,rfl,_,rfl,_,rfl,k,rfl,k4,fun ys H2 g2 hst=>?_⟩
 have G2:=g1.trans g2
 refine ⟨_,_,_,rfl,k,b.length,w4 k,ks,rfl,k4,b16,k16,G2.asks hks,hst,hs,R,fun r0 lL lS ds kps H3 g3 s3 hL3 hS3 dl kpl N3 fr3=>?_⟩
 have G3:=G2.trans g3
 refine ⟨r0,_,0,.ref lL,rfl,rfl,s3,rfl,?_⟩
 have ndd:ds.Nodup:=(List.nodup_append.mp N3.nd).1
 have LV3:=N3.lv
 have frd:∀ d ∈ ds,H d = none:=fun d hd=>G2.free (by simp) (fr3 d (List.mem_append_left _ hd))
 have nLd:lL ∉ ds:=fun w=>by
  obtain ⟨s,hs',e⟩:=List.mem_iff_getElem.mp w
  obtain ⟨kvs,hr,_⟩:=LV3 s lL (by rw [List.getElem?_eq_getElem hs',e])
  exact Rd.ne_lst hr hL3 rfl
 refine c_nx ⟨_,rfl,lL,rfl,⟨_,SqL.of hL3⟩,xO (xs:=ds.map V.ref) (fun i ys σ' H'=>(∃ e0,σ' = [e0,some (.int k)]) /\ i <= ds.length /\ Grow ds H3 H' /\ AllR (zz K H') ys ((jlR k ks b.length).take i) /\ ∀ s d,ds[s]? = some d -> LvAt K H' k b.length (w4 k) ks s d) ⟨⟨_,rfl⟩,Nat.zero_le _,Grow.refl _ _,trivial,LV3⟩ (fun i ys σ' H' _ w=>SqL.of (w.2.2.1.keep _ _ nLd hL3)) ?_ ?_⟩
 ·rintro i v ys σ' H4 hv ⟨⟨e0,rfl⟩,hi0,g4,al4,LV4⟩
  rw [List.getElem?_map] at hv
  obtain ⟨d,hd,rfl⟩:=Option.map_eq_some_iff.mp hv
  have dm:d ∈ ds:=List.mem_of_getElem? hd
  have hi:i < k + 1:=by rw [← dl]; exact (List.getElem?_eq_some_iff.mp hd).1
  obtain ⟨kvs,hrd,tab,kl⟩:=LV4 i d hd
  refine ⟨_,rfl,_,rfl,d,kvs,rfl,hrd,fun o H5 hd5 g5 same5=>?_⟩
  have tab5:TabR kvs (2 ^ k) b.length (lvR k (w4 k) ks i) (zx K H5):=tab.imp fun v x hv=>g5.deed hv
  have LV5:∀ s d',ds[s]? = some d' -> LvAt K H5 k b.length (w4 k) ks s d':=fun s d' h=>by
   by_cases c:d' = d
   ·subst c
    have es:s = i:=by
     obtain ⟨a1,a2⟩:=List.getElem?_eq_some_iff.mp h
     obtain ⟨a3,a4⟩:=List.getElem?_eq_some_iff.mp hd
     exact (List.getElem_inj ndd).mp (a2.trans a4.symm)
    subst es
    exact ⟨kvs,.inr ⟨o,hd5⟩,tab5,kl⟩
   ·exact (LV4 s d' h).grow g5 (by simpa using c)
  have g35:Grow ds H3 H5:=g4.trans (g5.mono (by simpa using dm))
  refine Xz (fun j zs σ2 H'=>H' = H5 /\ (∃ e0 e1,σ2 = [e0,e1]) /\ j <= kvs.length /\ ∃ ns:List Int,zs = ns.map V.int /\ ns.length = j /\ ∀ (n:Nat) (p:List Key × V),n < j -> kvs[n]? = some p -> ∃ (l' b':Nat),p.1 = keyR l' b' /\ ns[n]? = some (l':Int)) ⟨rfl,⟨_,_,rfl⟩,Nat.zero_le _,[],rfl,rfl,(fun n p h=>absurd h (Nat.not_lt_zero _))⟩ (fun j zs σ2 H' _ w=>by rw [w.1]; exact hd5) ?_ ?_
  ·rintro j p bb zs σ2 H6 hp hbb ⟨rfl,⟨e0,e1,rfl⟩,hj0,ns,rfl,nl,hns⟩
   obtain ⟨l,c,dd,ep,hl,hc,hlv',hdd⟩:=tab5.keys p (List.mem_of_getElem? hp)
   obtain ⟨pk,v⟩:=p
   cases (show pk = keyR l c from ep)
   have hj:j < kvs.length:=(List.getElem?_eq_some_iff.mp hp).1
   have hbb':H6 bb = some (.tup [.int (l:Nat),.int (c:Nat)]):=hbb
   refine ⟨bb,[.int (l:Nat),.int (c:Nat)],rfl,SqT.of hbb',rfl,_,_,rfl,_,_,rfl,rfl,_,rfl,zG (by rw [List.length_map]; omega),rfl,⟨_,_,rfl⟩,hj,ns ++ [(l:Int)],by rw [List.map_append]; rfl,by rw [List.length_append,nl]; rfl,fun n p hn hp'=>?_⟩
   by_cases c2:n < j
   ·obtain ⟨l',b',a1,a2⟩:=hns n p c2 hp'
    exact ⟨l',b',a1,by rw [List.getElem?_append_left (by omega)]; exact a2⟩
   ·have e:n = j:=by omega
    subst e
    rw [hp] at hp'
    cases Option.some.inj hp'
    exact ⟨l,c,rfl,by rw [← nl,List.getElem?_concat_length]⟩
  ·rintro zs σ2 H6 ⟨rfl,_,_,ns,rfl,nl,hns⟩ l7 hl7
   have g7:=Grow.new (m:=[]) hl7 (.lst (ns.map V.int))
   refine ⟨_,_,rfl,k,l7,ns,rfl,k4,rfl,zd,fun y8 H8 g8 hb8=>?_⟩
   have G8:=g7.trans g8
   refine ⟨zG (by rw [al4.len,List.length_take]; unfold jlR; rw [List.length_map,List.length_range]; omega),⟨_,rfl⟩,by omega,g35.trans G8.wk,?_,fun s d' h=>(LV5 s d' h).grow G8 (by simp)⟩
   have e:(List.range (2 ^ k)).map (wc ns) = (List.range (2 ^ k)).map fun l=>jcB k ks b.length i l:=List.map_congr_left fun l hl=>YE tab5 (List.mem_range.mp hl) nl fun n p hp=>hns n p (by rw [← nl]; have:=(List.getElem?_eq_some_iff.mp hp).1; omega) hp
   rw [e] at hb8
   have er:(jlR k ks b.length)[i]? = some ((List.range (2 ^ k)).map fun l=>jcB k ks b.length i l):=by
    unfold jlR; rw [List.getElem?_map,List.getElem?_range hi]; rfl
   rw [List.take_succ,er]
   exact ((g5.mono (m':=ds) (by simpa using dm)).trans G8.wk).boardsR al4 |>.app (.one hb8)
 ·rintro ys σ' H4 ⟨_,_,g4,al4,LV4⟩ l9 hl9
  have le:(jlR k ks b.length).take (ds.map V.ref).length = jlR k ks b.length:=List.take_of_length_le (by unfold jlR; rw [List.length_map,List.length_map,List.length_range]; omega)
  rw [le] at al4
  have G4:Grow [] H H4:=(G3.wk.trans g4).less fun d hd=>.inr (frd d hd)
  refine ⟨l9,_,rfl,.inl ⟨SqL.of zd,fun r hr'=>?_⟩⟩
  have gg:=(Grow.new (m:=[]) hl9 (.lst ys)).trans (Grow.new hr' (.tup ys))
  exact q _ _ (G4.trans gg) ⟨r,ys,rfl,SqT.of zd,gg.boardsR al4⟩
theorem vj:FnScope ["_law_k","_law_level","_law_line_here","_law_hands","_law_ends","_law_far"] ["_law_k","_law_level","_law_line_here","_law_hands","_law_ends"] (zg (top 64)):=⟨rfl,rfl,rfl,by decide +kernel,rfl,by decide +kernel,by decide +kernel⟩
theorem rp (F:Fun K "_law_line" "_law_line" (top 64) f fd) (B:Blt mg)     :
  FnOk P w K mg base CX0 (n + 1) f fd ["_law_k","_law_level","_law_line_here","_law_hands","_law_ends"] (YJ K):=by
 refine F.ok vj ZH (fun cdv A outer s H vs Q E hr h=>?_)
 obtain ⟨x,y,z,u,w,rfl,k,s,n,h,e,rfl,rfl,rfl,rfl,rfl,k4,sk,hn,hh,he,q⟩:=h
 refine ⟨_,(ze (zw (i:=5) vj.nd rfl (Or.inl rfl) (zq yN zi (zq yE (pv 0) (pv 1)))) (zj (zr (zq xt (pv 2) (zq yM (zq xJ (zq wr (pv 4) (pv 5)) (pv 5)) (zq x8 (pv 3) (pv 5))))))),?_⟩
 have p16:=zS k4
 obtain ⟨g,hg⟩:∃ g,g = 2 ^ (k - s):=⟨_,rfl⟩
 have g0:0 < g:=by rw [hg]; exact Nat.two_pow_pos _
 have g16:g <= 16:=by rw [hg]; exact zS (by omega)
 refine ye (fun v H'=>v = .int g /\ H = H') (fun Kk hk=>⟨_,rfl,_,rfl,_,_,rfl,rfl,_,_,rfl,rfl,⟨by omega,by omega,by decide⟩,hk _ _ ⟨congrArg V.int ?_,rfl⟩⟩) ?_
 ·have e1:((k:Int) - (s:Int)).toNat = k - s:=by omega
  show (1:Int) * 2 ^ ((k:Int) - (s:Int)).toNat = (g:Int)
  rw [e1,Int.one_mul,hg,Int.natCast_pow]; rfl
 rintro _ _ ⟨rfl,rfl⟩
 have ef:Builtin.bitXor (n:Int) ((e:Int) / (g:Int) * (g:Int) + (h:Int) % (g:Int)) = ((lnX k s h e n:Nat):Int):=by
  have:=ln48 (k:=k) (s:=s) (h:=h) (e:=e) (n:=n)
  rw [yv,← hg] at this; exact this
 refine ⟨_,rfl,_,rfl,_,rfl,_,_,rfl,rfl,⟨by omega,by omega⟩,_,rfl,_,_,rfl,rfl,qP ⟨by omega,by omega⟩,_,rfl,_,rfl,_,_,rfl,rfl,by omega,_,_,rfl,rfl,_,_,rfl,rfl,?_⟩
 exact (congrArg (fun i=>Q (V.int i) H) ef).mpr q
theorem zY:FnScope ["_law_k","_law_loads","_law_hands","_law_ends","_law_found","_law_level","_law_row"] ["_law_k","_law_loads","_law_hands","_law_ends"] (zg (top 66)):=⟨rfl,rfl,rfl,by decide +kernel,rfl,by decide +kernel,by decide +kernel⟩
theorem wo (F:Fun K "_law_other_loads" "_law_other_loads" (top 66) f fd) (B:Blt mg) (qc0:zh P w K mg base n "_law_line" ["_law_k","_law_level","_law_line_here","_law_hands","_law_ends"] (YJ K)) (g_enumerate:mg "enumerate" = none)   :
  FnOk P w K mg base CX0 (n + 1) f fd ["_law_k","_law_loads","_law_hands","_law_ends"] (YL K):=by
 refine F.ok zY xj (fun cdv A outer s H vs Q E hr h=>?_)
 obtain ⟨x,y,z,u,rfl,k,rows,h,e,rfl,hrw,rfl,rfl,k4,hh,he,hs,q⟩:=h
 refine ⟨_,(ze (zw (i:=4) zY.nd rfl (Or.inl rfl) (y9 zb)) (ze (yU PassesOwn.never rfl (qV true (K:=K) rfl rfl g_enumerate (za (pv 1) zb)) (yI rfl (zm (zk (i:=5) zY.nd rfl (Or.inr rfl)) (zm (zk (i:=6) zY.nd rfl (Or.inr rfl)) zH))) (zj (zL (uV PySem.F.plainAttrs_list PySem.F.slot_list_append PySem.F.type_list_append xu (pv 4) (za (zy zn rfl B.tuple zE (za (zF (CSc.of (N':=["_law_line_here","_law_row","_law_k","_law_level","_law_hands","_law_ends"]) (sub:=[none,some 6,some 0,some 5,some 2,some 3]) (zg (top 66)) ["_law_k","_law_loads","_law_hands","_law_ends","_law_found","_law_level","_law_row"] rfl rfl (by decide +kernel) rfl) rfl (zU rfl B.range (za (zu zD rfl B.len wq (za (pv 6) zb)) zb)) (fun _ _ _ _ _ _=>zk (i:=0) (show (["_law_line_here","_law_row","_law_k","_law_level","_law_hands","_law_ends"]:List Str).Nodup by decide +kernel) rfl (Or.inl rfl)) (fun _ _ _ _ _ _=>zA) (fun _ _ _ _ _ _=>(zZ (vM (K:=K) rfl) (pv 1) (zf qc0 hr rfl (za (pv 2) (za (pv 3) (za (pv 0) (za (pv 4) (za (pv 5) zb)))))) (fun _ _=>rfl)))) zb)) zb))))) (zj (zr (zy zn rfl B.tuple zE (za (pv 4) zb)))))),?_⟩
 have p16:=zS k4
 obtain ⟨rt,xs,rfl,hrt,hxs⟩:=hrw
 have xl:=hxs.len
 refine ye (fun v H'=>∃ lf,v = .ref lf /\ H lf = none /\ H' = upd H lf (.lst [])) (fun Kk hk=>⟨szl rfl,fun lf hlf=>hk _ _ ⟨lf,rfl,hlf,rfl⟩⟩) ?_
 rintro _ _ ⟨lf,rfl,hlf,rfl⟩
 have g1:=Grow.new (m:=[]) hlf (.lst [])
 have hF1:=zd (H:=H) (a:=lf) (o:=.lst [])
 generalize upd H lf (.lst []) = H1 at g1 hF1 ⊢
 have hrt1:=g1.sqT hrt
 refine ⟨_,rfl,rt,_,rfl,hrt1,sE (xs:=xs) (fun i σ H'=>∃ (e5 e6:Option V) (zs:List V),σ = [some (.int k),some (.ref rt),some (.int h),some (.int e),some (.ref lf),e5,e6] /\ Grow [lf] H1 H' /\ H' lf = some (.lst zs) /\ AllR (zz K H') zs ((ldX k h e rows).take i)) ⟨_,_,[],rfl,Grow.refl _ _,hF1,trivial⟩ (fun i σ H' _ ⟨_,_,_,_,g,_⟩=>g.sqT hrt1) ?_ ?_⟩
 ·rintro i v σ H2 T hv ⟨e5,e6,zs,rfl,g2,hF2,al2⟩ hT
  obtain ⟨row,hrow,rr,rfl,hrr⟩:=hxs.get hv
  have hi:i < rows.length:=(List.getElem?_eq_some_iff.mp hrow).1
  have hik:i < k + 1:=by rw [← hs.1]; exact hi
  have hm:=hs.2 row (List.mem_of_getElem? hrow)
  have gT:=Grow.new (m:=[]) hT (.tup [.int i,.ref rr])
  have hTt:=zd (H:=H2) (a:=T) (o:=.tup [.int i,.ref rr])
  have nTl:lf ≠ T:=fun z=>by rw [← z,hF2] at hT; cases hT
  have hF3:=gT.keep _ _ (by simp) hF2
  have g3:=g2.trans gT.wk
  have al3:=al2.imp fun x b hb=>gT.board hb
  generalize upd H2 T (.tup [.int i,.ref rr]) = H3 at gT hTt hF3 g3 al3 ⊢
  have hrr3:SqT K H3 rr (row.map V.int):=g3.sqT (g1.sqT hrr)
  refine ⟨T,[.int i,.ref rr],rfl,SqT.of hTt,rfl,_,_,rfl,_,_,rfl,rfl,?_⟩
  refine ⟨_,rfl,.inl ⟨rfl,_,SqL.of hF3⟩,_,rfl,rr,_,rfl,.inr hrr3,_,rfl,by rw [List.length_map,hm]; omega,by rw [List.length_map,hm]; omega,yP (fun j ys H'=>Grow [] H3 H' /\ ys = ((List.range j).map fun n=>row.getD (lnX k i h e n) 0).map V.int) ⟨Grow.refl _ _,rfl⟩ ?_ ?_⟩
  ·rintro j ys H4 hj ⟨g4,rfl⟩
   have hjk:j < 2 ^ k:=by rw [List.length_map,hm] at hj; omega
   have hlt:lnX k i h e j < row.length:=by rw [hm]; exact wJ hh he hjk
   refine ⟨_,rfl,_,rfl,_,rfl,_,rfl,_,rfl,_,rfl,_,_,_,_,_,rfl,k,i,j,h,e,rfl,rfl,congrArg V.int (Int.zero_add _),rfl,rfl,k4,by omega,hjk,hh,he,?_⟩
   refine ⟨rr,row.map V.int,_,.int (row.getD (lnX k i h e j) 0),rfl,rfl,g4.sqT hrr3,uT ?_,zG (by simp; omega),g4,?_⟩
   ·rw [List.getElem?_map,List.getElem?_eq_getElem hlt,List.getD_eq_getElem?_getD,List.getElem?_eq_getElem hlt]; rfl
   ·rw [List.range_succ,List.map_append,List.map_append]; rfl
  ·rintro ys H4 ⟨g4,rfl⟩ l hl
   have ln:((((row.map V.int).length:Nat):Int)).toNat = row.length:=by rw [List.length_map,Int.toNat_natCast]
   rw [ln]
   refine ⟨l,_,rfl,.inl ⟨SqL.of zd,fun r hr'=>?_⟩⟩
   have g5:=Grow.new (m:=[]) hl (.lst (((List.range row.length).map fun n=>row.getD (lnX k i h e n) 0).map V.int))
   have g6:=Grow.new (m:=[]) hr' (.tup (((List.range row.length).map fun n=>row.getD (lnX k i h e n) 0).map V.int))
   have G:=g4.trans (g5.trans g6)
   have hF6:=G.keep _ _ (by simp) hF3
   refine ⟨lf,zs,.ref r,rfl,rfl,hF6,zG (by rw [al2.len,List.length_take]; omega),?_⟩
   have gs:Grow [lf] _ (upd _ lf (HO.lst (zs ++ [.ref r]))):=Grow.set hF6 (by simp) _
   refine ⟨_,_,zs ++ [.ref r],rfl,g3.trans (G.wk.trans gs),zd,?_⟩
   rw [List.take_succ,show (ldX k h e rows)[i]? = some ((List.range row.length).map fun n=>row.getD (lnX k i h e n) 0) by unfold ldX; rw [List.getElem?_mapIdx,hrow]; rfl]
   exact (al3.imp fun x b hb=>(G.wk.trans gs).board hb).app (AllR.one (gs.board ⟨r,rfl,SqT.of zd⟩))
 ·rintro σ H2 ⟨e5,e6,zs,rfl,g2,hF2,al2⟩
  rw [xl,List.take_of_length_le (by unfold ldX; rw [List.length_mapIdx]; exact Nat.le_refl _)] at al2
  refine ⟨_,rfl,lf,_,rfl,.inl ⟨SqL.of hF2,fun r hr'=>?_⟩⟩
  have gr:=Grow.new (m:=[]) hr' (.tup zs)
  have G:Grow [] H H2:=((g1.mono (m':=[lf]) (by simp)).trans g2).less fun d hd=>by
   rw [List.mem_singleton.mp hd]; exact .inr hlf
  exact q _ _ (G.trans gr) ⟨r,zs,rfl,SqT.of zd,al2.imp fun x b hb=>gr.board hb⟩
theorem rq:FnScope ["k","thing"] ["k","thing"] (zg (top 37)):=⟨rfl,rfl,rfl,by decide +kernel,rfl,by decide +kernel,by decide +kernel⟩
theorem rz (F:Fun K "are_marks" "are_marks" (top 37) f fd) (B:Blt mg) (qc0:zh P w K mg base n "is_within" ["thing","least","greatest"] (yK K)) (qc1:zh P w K mg base n "switches_in_a_stage" ["k"] (xm K))    :
  FnOk P w K mg base CX0 (n + 1) f fd ["k","thing"] (vh K):=by
 refine F.ok rq yp (fun cdv A outer s H vs Q E hr h=>?_)
 obtain ⟨x,y,rfl,k,row,rfl,k4,⟨r,rfl,hs⟩,hl,hb,q⟩:=h
 refine ⟨_,(ze (yi (PW.pt (tX (y0 (yL (zu xa rfl B.isinstance zV (za (pv 1) (za (vc rfl B.tuple zE) zb))))) (vb (zJ Zm (zu zD rfl B.len wq (za (pv 1) zb)) (zf qc1 hr rfl (za (pv 0) zb)) (zQ _))))) (zj (zr wM)) zC) (zj (zr (zu (xK rfl) rfl B.all ZA (za (zF (CSc.of (N':=["mark"]) (sub:=[none]) (zg (top 37)) ["k","thing"] rfl rfl (by decide +kernel) rfl) rfl (y7 (pv 1)) (fun _ _ _ _ _ _=>zk (i:=0) (show (["mark"]:List Str).Nodup by decide +kernel) rfl (Or.inl rfl)) (fun _ _ _ _ _ _=>zA) (fun _ _ _ _ _ _=>(zf qc0 hr rfl (za (pv 0) (za zi (za zi zb)))))) zb))))),?_⟩
 refine ⟨_,rfl,_,_,_,true,rfl,.inl ⟨rfl,_,hs⟩,rfl,_,rfl,iteF ?_⟩
 have hl2:(row.map V.int).length = 2 ^ k / 2:=by rw [List.length_map,hl]
 have p:=zS k4
 refine ⟨_,rfl,r,_,rfl,.inr hs,_,rfl,_,rfl,k,rfl,k4,rfl,_,rfl,xL (by rw [hl2]; simp) ?_⟩
 refine ⟨_,rfl,r,rfl,⟨_,hs⟩,wu (fun _=>V.bl true) hs (by omega) ?_ ?_⟩
 ·intro v H2 R hv g kk
  obtain ⟨i,hi,rfl⟩:=List.mem_map.mp hv
  have:=hb i hi
  refine ⟨_,rfl,_,_,_,rfl,_,_,_,rfl,rfl,rfl,?_⟩
  rw [decide_eq_true (show (0:Int) <= i by omega),decide_eq_true (show i <= (1:Int) by omega)]
  exact kk _ (Grow.refl _ _)
 intro H2 p g hp
 refine ⟨p,row.map (fun _=>true),rfl,SqL.of (by rw [zd,List.map_map,List.map_map]; rfl),?_⟩
 rw [wv]
 exact q _ (g.trans (Grow.new hp _))
theorem um:FnScope ["k","thing"] ["k","thing"] (zg (top 38)):=⟨rfl,rfl,rfl,by decide +kernel,rfl,by decide +kernel,by decide +kernel⟩
theorem uo (F:Fun K "is_settings" "is_settings" (top 38) f fd) (B:Blt mg) (qc0:zh P w K mg base n "are_marks" ["k","thing"] (vh K)) (qc1:zh P w K mg base n "need_net" ["thing"] (yX K))    :
  FnOk P w K mg base CX0 (n + 1) f fd ["k","thing"] (wb K):=by
 refine F.ok um yp (fun cdv A outer s H vs Q E hr h=>?_)
 obtain ⟨x,y,rfl,k,rows,rfl,k4,⟨r,xs,rfl,hs,hall⟩,hset,q⟩:=h
 refine ⟨_,(ze (zL (zf qc1 hr rfl (za (pv 0) zb))) (ze (yi (PW.pt (tX (y0 (yL (zu xa rfl B.isinstance zV (za (pv 1) (za (vc rfl B.tuple zE) zb))))) (vb (zJ Zm (zu zD rfl B.len wq (za (pv 1) zb)) (pv 0) (zQ _))))) (zj (zr wM)) zC) (zj (zr (zu (xK rfl) rfl B.all ZA (za (zF (CSc.of (N':=["marks","k"]) (sub:=[none,some 0]) (zg (top 38)) ["k","thing"] rfl rfl (by decide +kernel) rfl) rfl (y7 (pv 1)) (fun _ _ _ _ _ _=>zk (i:=0) (show (["marks","k"]:List Str).Nodup by decide +kernel) rfl (Or.inl rfl)) (fun _ _ _ _ _ _=>zA) (fun _ _ _ _ _ _=>(zf qc0 hr rfl (za (pv 1) (za (pv 0) zb))))) zb)))))),?_⟩
 have hxl:xs.length = k:=hall.len.trans hset.1
 refine ⟨_,rfl,_,rfl,k,rfl,k4,?_⟩
 refine ⟨_,rfl,_,_,_,true,rfl,.inl ⟨rfl,_,hs⟩,rfl,_,rfl,iteF ?_⟩
 refine ⟨_,rfl,r,_,rfl,.inr hs,_,rfl,rfl,_,rfl,xL (by rw [hxl]; simp) ?_⟩
 refine ⟨_,rfl,r,rfl,⟨_,hs⟩,wu (fun _=>V.bl true) hs (by omega) ?_ ?_⟩
 ·intro v H2 R hv g kk
  obtain ⟨i,hi⟩:=List.getElem?_of_mem hv
  obtain ⟨row,hrow,hb⟩:=hall.get hi
  have o:=hset.2 row (List.mem_of_getElem? hrow)
  have hk1:1 <= k:=by have:=(List.getElem?_eq_some_iff.mp hi).1; omega
  exact ⟨_,rfl,_,rfl,_,_,rfl,k,row,rfl,k4,g.board hb,by rw [ZS hk1]; exact o.1,o.2,fun H3 g3=>kk _ g3⟩
 intro H2 p g hp
 refine ⟨p,xs.map (fun _=>true),rfl,SqL.of (by rw [zd,List.map_map]; rfl),?_⟩
 rw [wv]
 exact q _ (g.trans (Grow.new hp _))
theorem vt:FnScope ["k","thing"] ["k","thing"] (zg (top 39)):=⟨rfl,rfl,rfl,by decide +kernel,rfl,by decide +kernel,by decide +kernel⟩
theorem vu (F:Fun K "need_settings" "need_settings" (top 39) f fd) (B:Blt mg) (qc0:zh P w K mg base n "is_settings" ["k","thing"] (wb K))    :
  FnOk P w K mg base CX0 (n + 1) f fd ["k","thing"] (z0 K):=by
 refine F.ok vt yp (fun cdv A outer s H vs Q E hr h=>?_)
 obtain ⟨x,y,rfl,k,rows,rfl,k4,hR,hset,q⟩:=h
 refine ⟨_,(zj (yi (y0 (yL (zf qc0 hr rfl (za (pv 0) (za (pv 1) zb))))) (zj xS) zC)),?_⟩
 exact ⟨_,rfl,_,rfl,_,_,rfl,k,rows,rfl,k4,hR,hset,fun H1 g1=>⟨_,rfl,iteF (q _ g1)⟩⟩
theorem yD:FnScope ["k","board","asks","firsts","stages","told","stage","kept"] ["k","board","asks","firsts"] (zg (top 51)):=⟨rfl,rfl,rfl,by decide +kernel,rfl,by decide +kernel,by decide +kernel⟩
theorem tU (F:Fun K "remembered" "remembered" (top 51) f fd) (B:Blt mg) (qc0:zh P w K mg base n "pass_net" ["k","asks","firsts"] (xM K)) (qc1:zh P w K mg base n "need_settings" ["k","thing"] (z0 K)) (qc2:zh P w K mg base n "need_round" ["k","board","asks"] (yk K)) (g_sorted:mg "sorted" = none) (g_enumerate:mg "enumerate" = none)   :
  FnOk P w K mg base CX0 (n + 1) f fd ["k","board","asks","firsts"] (jm K):=by
 refine F.ok yD xj (fun cdv A outer s H vs Q E hr h=>?_)
 obtain ⟨x,y,z,u,rfl,k,b,ks,rows,rfl,k4,hb,b1,b16,hks,k16,R,hrw,hs,q⟩:=h
 refine ⟨_,(ze (zL (zf qc2 hr rfl (za (pv 0) (za (pv 1) (za (pv 2) zb))))) (ze (zL (zf qc1 hr rfl (za (pv 0) (za (pv 3) zb)))) (ze (zw (i:=4) yD.nd rfl (Or.inl rfl) (zZ yO (zf qc0 hr rfl (za (pv 0) (za (pv 2) (za (pv 3) zb)))) zi (fun _ _=>rfl))) (ze (zw (i:=5) yD.nd rfl (Or.inl rfl) (y9 zb)) (ze (yU PassesOwn.never rfl (XI false (K:=K) rfl rfl g_enumerate (za (pv 4) zb)) (yI rfl (zm (zk (i:=6) yD.nd rfl (Or.inr rfl)) (zm (zk (i:=7) yD.nd rfl (Or.inl rfl)) zH))) (zj (zL (uV PySem.F.plainAttrs_list PySem.F.slot_list_extend PySem.F.type_list_extend Zw (pv 5) (za (zF (CSc.of (N':=["deed","number","box","stage"]) (sub:=[none,none,none,some 6]) (zg (top 51)) ["k","board","asks","firsts","stages","told","stage","kept"] rfl rfl (by decide +kernel) rfl) rfl (Yb (pv 7)) (fun _ _ _ _ _ _=>yY (K:=K) 2 rfl rfl (zm (yY (K:=K) 2 rfl rfl (zm (zk (i:=1) (show (["deed","number","box","stage"]:List Str).Nodup by decide +kernel) rfl (Or.inl rfl) (Or.inr rfl)) (zm (zk (i:=2) (show (["deed","number","box","stage"]:List Str).Nodup by decide +kernel) rfl (Or.inl rfl) (Or.inr rfl)) zH)) rfl rfl) (zm (zk (i:=0) (show (["deed","number","box","stage"]:List Str).Nodup by decide +kernel) rfl (Or.inl rfl) (Or.inr rfl)) zH)) rfl rfl) (fun _ _ _ _ _ _=>zA) (fun _ _ _ _ _ _=>(zO (za (pv 3) (za (pv 1) (za (pv 2) (za (pv 0) zb))))))) zb))))) (zj (zr (zy zn rfl B.tuple zE (za (zu (xX (K:=K) rfl) rfl g_sorted vz (za (pv 5) zb)) zb))))))))),?_⟩
 have p16:=zS k4
 refine ⟨_,rfl,_,rfl,_,rfl,_,_,_,rfl,k,b,ks,rfl,k4,hb,b1,b16,hks,k16,R,fun H1 g1=>?_⟩
 refine ⟨_,rfl,_,rfl,_,_,rfl,k,rows,rfl,k4,g1.rows hrw,hs,fun H2 g2=>?_⟩
 have G2:=g1.trans g2
 refine ⟨_,rfl,_,rfl,_,rfl,_,_,_,rfl,k,b.length,rows,ks,rfl,k4,b16,k16,G2.asks hks,G2.rows hrw,hs,R,fun r0 lL lS ds kps H3 g3 s3 hL3 hS3 dl kpl N3 fr3=>?_⟩
 have G3:=G2.trans g3
 refine ⟨r0,_,1,.ref lS,rfl,rfl,s3,rfl,?_⟩
 have ndk:kps.Nodup:=(List.nodup_append.mp N3.nd).2.1
 have KP3:=N3.kp
 have frk:∀ d ∈ kps,H d = none:=fun d hd=>G2.free (by simp) (fr3 d (List.mem_append_right _ hd))
 refine c_nx (ye (fun v H'=>∃ lt,v = .ref lt /\ H3 lt = none /\ H' = upd H3 lt (.lst [])) (fun Kk hk=>⟨szl rfl,fun lt hlt=>hk _ _ ⟨lt,rfl,hlt,rfl⟩⟩) ?_)
 rintro _ _ ⟨lt,rfl,hlt,rfl⟩
 have g4:=Grow.new (m:=[]) hlt (.lst [])
 have hT4:=zd (H:=H3) (a:=lt) (o:=.lst [])
 have hS4:=g4.keep _ _ (by simp) hS3
 have hltH:H lt = none:=G3.free (by simp) hlt
 have KP4:∀ s d,kps[s]? = some d -> KpAt K (upd H3 lt (.lst [])) k b.length rows ks (s + 1) d:=fun s d h=>(KP3 s d h).grow g4 (by simp)
 have nSt:lS ≠ lt:=fun w=>by rw [w,hlt] at hS3; cases hS3
 have G4:=G3.trans g4
 generalize upd H3 lt (.lst []) = H4 at g4 hT4 hS4 KP4 G4 ⊢
 have nKS:∀ d ∈ kps,d ≠ lS:=fun d hd w=>by
  obtain ⟨s,hs',e⟩:=List.mem_iff_getElem.mp hd
  obtain ⟨kvs,hr,_⟩:=KP4 s d (by rw [List.getElem?_eq_getElem hs',e])
  exact Rd.ne_lst hr hS4 w
 have nKT:∀ d ∈ kps,d ≠ lt:=fun d hd w=>by
  obtain ⟨s,hs',e⟩:=List.mem_iff_getElem.mp hd
  obtain ⟨kvs,hr,_⟩:=KP4 s d (by rw [List.getElem?_eq_getElem hs',e])
  exact Rd.ne_lst hr hT4 w
 have nSm:lS ∉ lt :: kps:=fun w=>by
  rcases List.mem_cons.mp w with w | w
  ·exact nSt w
  ·exact nKS _ w rfl
 refine ⟨_,rfl,lS,_,rfl,SqL.of hS4,Yy (xs:=kps.map V.ref) (fun i σ H'=>∃ (e6 e7:Option V) (xs:List V) (its:List (List Int × List V)),σ = [some (.int k),some y,some z,some u,some (.ref lS),some (.ref lt),e6,e7] /\ Grow (lt :: kps) H4 H' /\ H' lt = some (.lst xs) /\ AllR (yy K H') xs its /\ RemP K H' k b.length rows ks i its /\ ∀ s d,kps[s]? = some d -> KpAt K H' k b.length rows ks (s + 1) d) ⟨_,_,[],[],rfl,Grow.refl _ _,hT4,trivial,RemP.nil k4 hs,KP4⟩ (fun i σ H' _ ⟨_,_,_,_,_,g,_⟩=>SqL.of (g.keep _ _ nSm hS4)) ?_ ?_⟩
 ·rintro i v σ H5 T hv ⟨e6,e7,xs,its,rfl,g5,hT5,al5,rp5,KP5⟩ hT
  rw [List.getElem?_map] at hv
  obtain ⟨d,hd,rfl⟩:=Option.map_eq_some_iff.mp hv
  have hi:i < k:=by rw [← kpl]; exact (List.getElem?_eq_some_iff.mp hd).1
  have dm:d ∈ kps:=List.mem_of_getElem? hd
  have gT:=Grow.new (m:=[]) hT (.tup [.int ((i + 1:Nat):Int),.ref d])
  have hTt:=zd (H:=H5) (a:=T) (o:=.tup [.int ((i + 1:Nat):Int),.ref d])
  have hT6:=gT.keep _ _ (by simp) hT5
  have al6:=al5.imp fun _ _ h=>yy.grow gT h
  have rp6:=rp5.grow gT
  have KP6:∀ s d',kps[s]? = some d' -> KpAt K (upd H5 T (.tup [.int ((i + 1:Nat):Int),.ref d])) k b.length rows ks (s + 1) d':=fun s d' h=>(KP5 s d' h).grow gT (by simp)
  have g6:Grow (lt :: kps) H4 (upd H5 T (.tup [.int ((i + 1:Nat):Int),.ref d])):=g5.trans gT.wk
  generalize upd H5 T (.tup [.int ((i + 1:Nat):Int),.ref d]) = H6 at gT hTt hT6 al6 rp6 KP6 g6 ⊢
  refine ⟨T,[.int ((i + 1:Nat):Int),.ref d],rfl,SqT.of hTt,rfl,_,_,rfl,_,_,rfl,rfl,?_⟩
  obtain ⟨kvs,hrd,kl,h3,nd3,h5⟩:=KP6 i d hd
  refine ⟨_,rfl,.inl ⟨rfl,_,SqL.of hT6⟩,_,rfl,d,kvs,rfl,hrd,fun o H7 hd7 g7 same7=>?_⟩
  have hT7:=g7.keep _ _ (by simpa using Ne.symm (nKT d dm)) hT6
  have h37:∀ p ∈ kvs,∃ l b' x,p.1 = keyR (nN k (i + 1) l) b' /\ l < 2 ^ k /\ b' < b.length /\ kpR k rows ks (i + 1) l b' = some x /\ zx K H7 p.2 x:=fun p hp=>by
   obtain ⟨l,b',x,a1,a2,a3,a4,a5⟩:=h3 p hp
   exact ⟨l,b',x,a1,a2,a3,a4,g7.deed a5⟩
  have KP7:∀ s d',kps[s]? = some d' -> KpAt K H7 k b.length rows ks (s + 1) d':=fun s d' h=>by
   by_cases c:d' = d
   ·subst c
    have es:s = i:=by
     obtain ⟨a1,a2⟩:=List.getElem?_eq_some_iff.mp h
     obtain ⟨a3,a4⟩:=List.getElem?_eq_some_iff.mp hd
     exact (List.getElem_inj ndk).mp (a2.trans a4.symm)
    subst es
    exact ⟨kvs,.inr ⟨o,hd7⟩,kl,h37,nd3,h5⟩
   ·exact (KP6 s d' h).grow g7 (by simpa using c)
  have al7:=al6.imp fun _ _ h=>yy.grow g7 h
  have rp7:=rp6.grow g7
  have g47:Grow (lt :: kps) H4 H7:=g6.trans (g7.mono (by simpa using .inr dm))
  refine jg (fun j ys σ' H'=>Grow [] H7 H' /\ (∃ e0 e1 e2,σ' = [e0,e1,e2,some (.int ((i + 1:Nat):Int))]) /\ AllR (yy K H') ys ((kvs.take j).map (uO (i + 1)))) ⟨Grow.refl _ _,⟨_,_,_,rfl⟩,trivial⟩ (fun j ys σ' H' _ w=>w.1.frz _ _ _ hd7) ?_ ?_
  ·rintro j p bb T2 ys σ' H8 hp hbb hT2 ⟨g8,⟨e0,e1,e2,rfl⟩,al8⟩
   obtain ⟨l,c,dd,ep,hl,hc,hlv',hdd⟩:=h37 p (List.mem_of_getElem? hp)
   obtain ⟨pk,v⟩:=p
   cases (show pk = keyR (nN k (i + 1) l) c from ep)
   have hj:j < kvs.length:=(List.getElem?_eq_some_iff.mp hp).1
   have g9:=Grow.new (m:=[]) hT2 (.tup [.ref bb,v])
   have hT9:=zd (H:=H8) (a:=T2) (o:=.tup [.ref bb,v])
   have hbb9:upd H8 T2 (.tup [.ref bb,v]) bb = some (.tup [.int (nN k (i + 1) l:Nat),.int (c:Nat)]):=g9.keep _ _ (by simp) hbb
   have al9:=al8.imp fun _ _ h=>yy.grow g9 h
   have G9:=g8.trans g9
   show gTup _ _ _ _ _ _ _
   generalize upd H8 T2 (.tup [.ref bb,v]) = H9 at g9 hT9 hbb9 al9 G9 ⊢
   refine ⟨T2,[.ref bb,v],rfl,SqT.of hT9,rfl,_,_,rfl,bb,[.int (nN k (i + 1) l:Nat),.int (c:Nat)],rfl,SqT.of hbb9,rfl,_,_,rfl,_,_,rfl,rfl,_,_,rfl,rfl,?_⟩
   refine rO ?_
   have yl:ys.length <= j:=by rw [al8.len,List.length_map,List.length_take]; omega
   refine ⟨_,rfl,_,rfl,_,rfl,_,rfl,szl rfl,fun t ht=>⟨zG (by omega),G9.trans (Grow.new ht _),⟨_,_,_,rfl⟩,?_⟩⟩
   rw [List.take_succ,hp,List.map_append]
   exact (al9.imp fun _ _ h=>yy.grow (Grow.new (m:=[]) ht _) h).app (AllR.one ⟨t,rfl,SqT.of zd⟩)
  ·rintro ys σ' H8 ⟨g8,_,al8⟩ l9 hl9
   rw [List.take_length] at al8
   have g9:=Grow.new (m:=[]) hl9 (.lst ys)
   have hl9t:=zd (H:=H8) (a:=l9) (o:=.lst ys)
   have G9:=g8.trans g9
   have hT9:=G9.keep _ _ (by simp) hT7
   have al9:=al8.imp fun _ _ h=>yy.grow g9 h
   have alo:=al7.imp fun _ _ h=>yy.grow G9 h
   have rp9:=(rp7.grow G9).next k4 hs hi (fun p hp=>by
    obtain ⟨l,b',x,a1,a2,a3,a4,a5⟩:=h37 p hp
    exact ⟨l,b',x,a1,a2,a3,a4,G9.deed a5⟩) nd3 h5
   have KP9:∀ s d',kps[s]? = some d' -> KpAt K (upd H8 l9 (.lst ys)) k b.length rows ks (s + 1) d':=fun s d' h=>(KP7 s d' h).grow G9 (by simp)
   generalize upd H8 l9 (.lst ys) = H9 at g9 hl9t G9 hT9 al9 alo rp9 KP9 ⊢
   have xl:xs.length <= 16:=by
    rw [al5.len]; have:=rp5.len; have:=wG k4 hs R; omega
   have yl:ys.length <= 16:=by rw [al9.len,List.length_map]; exact kl
   refine ⟨lt,l9,xs,ys,rfl,rfl,hT9,hl9t,Nat.le_of_lt (zG (by omega)),?_⟩
   have gs:Grow [lt] H9 (upd H9 lt (.lst (xs ++ ys))):=Grow.set hT9 (by simp) _
   refine ⟨_,_,xs ++ ys,its ++ kvs.map (uO (i + 1)),rfl,g47.trans (G9.wk.trans (gs.mono (by simp))),zd,?_,rp9.grow gs,fun s d' h=>(KP9 s d' h).grow gs (by simpa using nKT d' (List.mem_of_getElem? h))⟩
   exact (alo.imp fun _ _ h=>yy.grow gs h).app (al9.imp fun _ _ h=>yy.grow gs h)
 ·rintro σ H5 ⟨e6,e7,xs,its,rfl,g5,hT5,al5,rp5,KP5⟩
  rw [List.length_map,kpl] at rp5
  have G5:Grow [] H H5:=(G4.wk.trans g5).less fun d hd=>.inr (by
   rcases List.mem_cons.mp hd with w | w
   ·rw [w]; exact hltH
   ·exact frk d w)
  have il:its.length < 64:=by have:=rp5.len; have:=wG k4 hs R; omega
  refine c_nx ⟨_,rfl,lt,xs,its,3,rfl,SqL.of hT5,al5,rp5.nd,by decide,fun p hp=>?_,il,fun p9 zs' its' hp9 pm pw al9=>?_⟩
  ·obtain ⟨e,v,rfl,_⟩:=rp5.ent p hp; rfl
  have g9:=Grow.new (m:=[]) hp9 (.lst zs')
  obtain ⟨L,hL,hS⟩:=rp5.done k4 hs pm pw al9
  refine ⟨p9,zs',rfl,.inl ⟨SqL.of zd,fun r hr'=>?_⟩⟩
  have gg:=g9.trans (Grow.new hr' (.tup zs'))
  exact q _ L _ (G5.trans gg) ⟨r,zs',rfl,SqT.of zd,hL.imp fun _ _ h=>RmAt.grow gg h⟩ hS
theorem we:FnScope ["_law_k","_law_stage","_law_number_here","_law_hands","_law_ends","_law_half"] ["_law_k","_law_stage","_law_number_here","_law_hands","_law_ends"] (zg (top 63)):=⟨rfl,rfl,rfl,by decide +kernel,rfl,by decide +kernel,by decide +kernel⟩
theorem uq (F:Fun K "_law_switch" "_law_switch" (top 63) f fd) (B:Blt mg)     :
  FnOk P w K mg base CX0 (n + 1) f fd ["_law_k","_law_stage","_law_number_here","_law_hands","_law_ends"] (qk K):=by
 refine F.ok we ZH (fun cdv A outer s H vs Q E hr h=>?_)
 obtain ⟨x,y,z,u,w,rfl,k,s,n,h,e,rfl,rfl,rfl,rfl,rfl,k4,s1,sk,hn,hh,he,q⟩:=h
 refine ⟨_,(ze (zw (i:=5) we.nd rfl (Or.inl rfl) (zq yN zi (zq yE (pv 0) (pv 1)))) (zj (zr (zq xt (pv 2) (zq yM (zq xJ (zq wr (pv 4) (zq xJ zi (pv 5))) (pv 5)) (zq x8 (pv 3) (pv 5))))))),?_⟩
 have p16:=zS k4
 obtain ⟨g,hg⟩:∃ g,g = 2 ^ (k - s):=⟨_,rfl⟩
 have g0:0 < g:=by rw [hg]; exact Nat.two_pow_pos _
 have g16:g <= 16:=by rw [hg]; exact zS (by omega)
 refine ye (fun v H'=>v = .int g /\ H = H') (fun Kk hk=>⟨_,rfl,_,rfl,_,_,rfl,rfl,_,_,rfl,rfl,⟨by omega,by omega,by decide⟩,hk _ _ ⟨congrArg V.int ?_,rfl⟩⟩) ?_
 ·have e1:((k:Int) - (s:Int)).toNat = k - s:=by omega
  show (1:Int) * 2 ^ ((k:Int) - (s:Int)).toNat = (g:Int)
  rw [e1,Int.one_mul,hg,Int.natCast_pow]; rfl
 rintro _ _ ⟨rfl,rfl⟩
 have ef:Builtin.bitXor (n:Int) ((e:Int) / (2 * (g:Int)) * (g:Int) + (h:Int) % (g:Int)) = ((swX k s h e n:Nat):Int):=by
  have:=sw48 (k:=k) (s:=s) (h:=h) (e:=e) (n:=n)
  rw [yv,← hg] at this; exact this
 refine ⟨_,rfl,_,rfl,_,rfl,_,_,rfl,rfl,sD ⟨by decide,by decide⟩,_,_,rfl,rfl,⟨by omega,by omega⟩,_,rfl,_,_,rfl,rfl,qP ⟨by omega,by omega⟩,_,rfl,_,rfl,_,_,rfl,rfl,by omega,_,_,rfl,rfl,_,_,rfl,rfl,?_⟩
 exact (congrArg (fun i=>Q (V.int i) H) ef).mpr q
theorem z5:FnScope ["_law_k","_law_rows","_law_hands","_law_boxes","_law_found","_law_stage","_law_number_here","_law_box","_law_deed_here"] ["_law_k","_law_rows","_law_hands","_law_boxes"] (zg (top 67)):=⟨rfl,rfl,rfl,by decide +kernel,rfl,by decide +kernel,by decide +kernel⟩
theorem ur (F:Fun K "_law_memory" "_law_memory" (top 67) f fd) (B:Blt mg) (qc0:zh P w K mg base n "_law_switch" ["_law_k","_law_stage","_law_number_here","_law_hands","_law_ends"] (qk K)) (g_sorted:mg "sorted" = none)   :
  FnOk P w K mg base CX0 (n + 1) f fd ["_law_k","_law_rows","_law_hands","_law_boxes"] (jo K):=by
 refine F.ok z5 xj (fun cdv A outer s H vs Q E hr h=>?_)
 obtain ⟨x,y,z,u,rfl,k,L,h,c,rows,ks,rfl,hL,rfl,rfl,k4,hh,hc,hs,R,k16,S,q⟩:=h
 refine ⟨_,(ze (zw (i:=4) z5.nd rfl (Or.inl rfl) (y9 zb)) (ze (yU PassesOwn.never rfl (y7 (pv 1)) (yI rfl (zm (zk (i:=5) z5.nd rfl (Or.inl rfl)) (zm (zk (i:=6) z5.nd rfl (Or.inl rfl)) (zm (zk (i:=7) z5.nd rfl (Or.inl rfl)) (zm (zk (i:=8) z5.nd rfl (Or.inl rfl)) zH))))) (zj (zL (uV PySem.F.plainAttrs_list PySem.F.slot_list_append PySem.F.type_list_append xu (pv 4) (za (zO (za (pv 5) (za (zf qc0 hr rfl (za (pv 0) (za (pv 5) (za (pv 6) (za (pv 2) (za (zq x8 (pv 3) (zq yN zi (pv 0))) zb)))))) (za (zq xt (pv 7) (pv 3)) (za (pv 8) zb))))) zb))))) (zj (zr (zy zn rfl B.tuple zE (za (zu (xX (K:=K) rfl) rfl g_sorted vz (za (pv 4) zb)) zb)))))),?_⟩
 have p16:=zS k4
 obtain ⟨rt,xs,rfl,hrt,hxs⟩:=hL
 have xl:=hxs.len
 have Ll:L.length <= 16:=by
  rw [S.pm.length_eq]
  have:=wG (m:=16) k4 hs R
  omega
 refine ye (fun v H'=>∃ lf,v = .ref lf /\ H lf = none /\ H' = upd H lf (.lst [])) (fun Kk hk=>⟨szl rfl,fun lf hlf=>hk _ _ ⟨lf,rfl,hlf,rfl⟩⟩) ?_
 rintro _ _ ⟨lf,rfl,hlf,rfl⟩
 have g1:=Grow.new (m:=[]) hlf (.lst [])
 have hF1:=zd (H:=H) (a:=lf) (o:=.lst [])
 generalize upd H lf (.lst []) = H1 at g1 hF1 ⊢
 have hrt1:=g1.sqT hrt
 refine ⟨_,rfl,rt,rfl,⟨_,hrt1⟩,We (xs:=xs) (fun i σ H'=>∃ (e5 e6 e7 e8:Option V) (zs:List V) (its:List (List Int × List V)),σ = [some (.int k),some (.ref rt),some (.int h),some (.int c),some (.ref lf),e5,e6,e7,e8] /\ Grow [lf] H1 H' /\ H' lf = some (.lst zs) /\ AllR (yy K H') zs its /\ its.length = i /\ ∀ (j:Nat) (p:List Int × List V),its[j]? = some p -> ∃ m,L[j]? = some m /\ p.1 = yC (meX k h c m) /\ ∃ v,p.2 = [v] /\ zx K H' v m.d) ⟨_,_,_,_,[],[],rfl,Grow.refl _ _,hF1,trivial,rfl,(fun j p z=>nomatch z)⟩ (fun i σ H' _ ⟨_,_,_,_,_,_,_,g,_⟩=>g.sqT hrt1) ?_ ?_⟩
 ·rintro i v σ H2 hv ⟨e5,e6,e7,e8,zs,its,rfl,g2,hF2,al2,il,en⟩
  obtain ⟨m,hm,rr,dv,rfl,hrr,hdv⟩:=hxs.get hv
  have hi:i < L.length:=(List.getElem?_eq_some_iff.mp hm).1
  have hrr2:SqT K H2 rr [.int (m.st:Nat),.int (m.num:Nat),.int (m.box:Nat),dv]:=g2.sqT (g1.sqT hrr)
  have hdv2:zx K H2 dv m.d:=g2.deed (g1.deed hdv)
  obtain ⟨m1,m2,m3,l,m4,m5,m6⟩:=(z4 k4 hs).mp (S.pm.mem_iff.mp (List.mem_of_getElem? hm))
  have O:=oneF k4 m1 m2 m4
  have hnk:m.num < 2 ^ k:=by rw [m5]; exact Nat.lt_of_lt_of_le O.lt (Nat.pow_le_pow_right (by decide) (by omega))
  have ec:(c:Int) % (1 * 2 ^ ((k:Int)).toNat) = ((c % 2 ^ k:Nat):Int):=by rw [yv]; rfl
  refine ⟨rr,_,rfl,hrr2,rfl,_,_,rfl,_,_,rfl,_,_,rfl,_,_,rfl,rfl,?_⟩
  refine ⟨_,rfl,.inl ⟨rfl,_,SqL.of hF2⟩,_,rfl,_,rfl,_,rfl,_,rfl,_,rfl,_,rfl,_,rfl,_,_,rfl,rfl,x9 k4,_,_,rfl,rfl,by rw [yv]; exact Int.natCast_pos.mpr (Nat.two_pow_pos k),?_⟩
  refine ⟨_,_,_,_,_,rfl,k,m.st,m.num,h,c % 2 ^ k,rfl,rfl,rfl,rfl,congrArg V.int ec,k4,m1,m2,hnk,hh,zo,?_⟩
  refine ⟨_,rfl,_,rfl,_,_,rfl,rfl,_,rfl,szl rfl,fun t ht=>?_⟩
  have ex:Builtin.bitXor ((m.box:Nat):Int) ((c:Nat):Int) = ((m.box ^^^ c:Nat):Int):=xn
  have gt:=Grow.new (m:=[]) ht (.tup [.int (m.st:Nat),.int (swX k m.st h (c % 2 ^ k) m.num:Nat),.int (Builtin.bitXor ((m.box:Nat):Int) ((c:Nat):Int)),dv])
  have ht3:=zd (H:=H2) (a:=t) (o:=.tup [.int (m.st:Nat),.int (swX k m.st h (c % 2 ^ k) m.num:Nat),.int (Builtin.bitXor ((m.box:Nat):Int) ((c:Nat):Int)),dv])
  have hF3:=gt.keep _ _ (by simp) hF2
  generalize upd H2 t (.tup [.int (m.st:Nat),.int (swX k m.st h (c % 2 ^ k) m.num:Nat),.int (Builtin.bitXor ((m.box:Nat):Int) ((c:Nat):Int)),dv]) = H3 at gt ht3 hF3 ⊢
  refine ⟨lf,zs,.ref t,rfl,rfl,hF3,zG (by rw [al2.len,il]; omega),?_⟩
  have gs:Grow [lf] _ (upd _ lf (HO.lst (zs ++ [.ref t]))):=Grow.set hF3 (by simp) _
  have G:=(gt.mono (m':=[lf]) (by simp)).trans gs
  refine ⟨_,_,_,_,zs ++ [.ref t],its ++ [(yC (meX k h c m),[dv])],rfl,g2.trans G,zd,?_,by rw [List.length_append,il]; rfl,fun j p hp=>?_⟩
  ·exact (al2.imp fun x p h=>yy.grow G h).app (AllR.one (yy.grow gs ⟨t,rfl,SqT.of (ht3.trans (by rw [ex]; rfl))⟩))
  ·by_cases hj:j < its.length
   ·rw [List.getElem?_append_left hj] at hp
    obtain ⟨m',a,b,v',d,f⟩:=en j p hp
    exact ⟨m',a,b,v',d,G.deed f⟩
   ·have hj':j = its.length:=by
     have:=(List.getElem?_eq_some_iff.mp hp).1
     rw [List.length_append] at this
     have:j < its.length + 1:=this
     omega
    rw [hj',List.getElem?_append_right (Nat.le_refl _),Nat.sub_self] at hp
    cases Option.some.inj hp
    exact ⟨m,by rw [hj',il]; exact hm,rfl,dv,rfl,G.deed hdv2⟩
 ·rintro σ H2 ⟨e5,e6,e7,e8,zs,its,rfl,g2,hF2,al2,il,en⟩
  have RP:=remX (K:=K) (H:=H2) k4 hh hc hs R S (its:=its) (by rw [il,xl]) en
  refine ⟨_,rfl,lf,zs,its,3,rfl,SqL.of hF2,al2,RP.nd,by decide,fun p hp=>?_,by rw [il,xl]; omega,fun p9 zs' items' hp9 pm pw al9=>?_⟩
  ·obtain ⟨e,v,rfl,_⟩:=RP.ent p hp
   exact rfl
  have g9:=Grow.new (m:=[]) hp9 (.lst zs')
  refine ⟨p9,zs',rfl,.inl ⟨SqL.of zd,fun r hr'=>?_⟩⟩
  have gr:=Grow.new (m:=[]) hr' (.tup zs')
  obtain ⟨L',l1,l2⟩:=RP.done k4 (uP k4 hh zo hs) pm pw al9
  have G:Grow [] H H2:=((g1.mono (m':=[lf]) (by simp)).trans g2).less fun d hd=>by
   rw [List.mem_singleton.mp hd]; exact .inr hlf
  exact q _ L' _ (G.trans (g9.trans gr)) ⟨r,zs',rfl,SqT.of zd,l1.imp fun x p h=>RmAt.grow (g9.trans gr) h⟩ l2
theorem YW:FnScope ["k","board","asks","firsts","levels"] ["k","board","asks","firsts"] (zg (top 52)):=⟨rfl,rfl,rfl,by decide +kernel,rfl,by decide +kernel,by decide +kernel⟩
theorem WW (F:Fun K "came" "came" (top 52) f fd) (B:Blt mg) (qc0:zh P w K mg base n "pass_net" ["k","asks","firsts"] (xM K)) (qc1:zh P w K mg base n "need_settings" ["k","thing"] (z0 K)) (qc2:zh P w K mg base n "need_round" ["k","board","asks"] (yk K)) (g_sorted:mg "sorted" = none)   :
  FnOk P w K mg base CX0 (n + 1) f fd ["k","board","asks","firsts"] (sV K):=by
 refine F.ok YW xj (fun cdv A outer s H vs Q E hr h=>?_)
 obtain ⟨x,y,z,u,rfl,k,b,ks,rows,rfl,k4,hb,b1,b16,hks,k16,R,hrw,hs,q⟩:=h
 refine ⟨_,(ze (zL (zf qc2 hr rfl (za (pv 0) (za (pv 1) (za (pv 2) zb))))) (ze (zL (zf qc1 hr rfl (za (pv 0) (za (pv 3) zb)))) (ze (zw (i:=4) YW.nd rfl (Or.inl rfl) (zZ yO (zf qc0 hr rfl (za (pv 0) (za (pv 2) (za (pv 3) zb)))) zi (fun _ _=>rfl))) (zj (zr (zy zn rfl B.tuple zE (za (zu (xX (K:=K) rfl) rfl g_sorted vz (za (zF (CSc.of (N':=["deed","line","box"]) (sub:=[none,none,none]) (zg (top 52)) ["k","board","asks","firsts","levels"] rfl rfl (by decide +kernel) rfl) rfl (Yb (zZ z9 (pv 4) (pv 0) (fun _ _=>rfl))) (fun _ _ _ _ _ _=>yY (K:=K) 2 rfl rfl (zm (yY (K:=K) 2 rfl rfl (zm (zk (i:=1) (show (["deed","line","box"]:List Str).Nodup by decide +kernel) rfl (Or.inl rfl) (Or.inr rfl)) (zm (zk (i:=2) (show (["deed","line","box"]:List Str).Nodup by decide +kernel) rfl (Or.inl rfl) (Or.inr rfl)) zH)) rfl rfl) (zm (zk (i:=0) (show (["deed","line","box"]:List Str).Nodup by decide +kernel) rfl (Or.inl rfl) (Or.inr rfl)) zH)) rfl rfl) (fun _ _ _ _ _ _=>zA) (fun _ _ _ _ _ _=>(zO (za (pv 2) (za (pv 0) zb))))) zb)) zb))))))),?_⟩
 have p16:=zS k4
 refine ⟨_,rfl,_,rfl,_,rfl,_,_,_,rfl,k,b,ks,rfl,k4,hb,b1,b16,hks,k16,R,fun H1 g1=>?_⟩
 refine ⟨_,rfl,_,rfl,_,_,rfl,k,rows,rfl,k4,g1.rows hrw,hs,fun H2 g2=>?_⟩
 have G2:=g1.trans g2
 refine ⟨_,rfl,_,rfl,_,rfl,_,_,_,rfl,k,b.length,rows,ks,rfl,k4,b16,k16,G2.asks hks,G2.rows hrw,hs,R,fun r0 lL lS ds kps H3 g3 s3 hL3 hS3 dl kpl N3 fr3=>?_⟩
 have G3:=G2.trans g3
 refine ⟨r0,_,0,.ref lL,rfl,rfl,s3,rfl,?_⟩
 obtain ⟨dk,hdk⟩:∃ d,ds[k]? = some d:=⟨_,List.getElem?_eq_getElem (by omega)⟩
 have mdk:dk ∈ ds ++ kps:=List.mem_append_left _ (List.mem_of_getElem? hdk)
 have hdkH:H dk = none:=G2.free (by simp) (fr3 dk mdk)
 obtain ⟨kvs,hrd,tab,kl⟩:=N3.lv k dk hdk
 refine ⟨_,rfl,_,rfl,lL,_,_,_,rfl,rfl,SqL.of hL3,wW rfl hdk,dk,kvs,rfl,hrd,fun o H6 hd6 g6 same6=>?_⟩
 have tab6:TabR kvs (2 ^ k) b.length (lvR k rows ks k) (zx K H6):=tab.imp fun v x hv=>g6.deed hv
 have G6:Grow [] H H6:=Grow.tfresh G3 g6 (fun d hd=>by rw [List.mem_singleton.mp hd]; exact hdkH)
 refine jg (fun i ys σ' H'=>Grow [] H6 H' /\ (∃ e0 e1 e2,σ' = [e0,e1,e2]) /\ AllR (yy K H') ys ((kvs.take i).map sW)) ⟨Grow.refl _ _,⟨_,_,_,rfl⟩,trivial⟩ (fun i ys σ' H' _ z=>z.1.frz _ _ _ hd6) ?_ ?_
 ·rintro i p bb T ys σ' H7 hp hbb hT ⟨g7,⟨e0,e1,e2,rfl⟩,al7⟩
  obtain ⟨l,c,dd,ep,hl,hc,hlv',hdd⟩:=tab6.keys p (List.mem_of_getElem? hp)
  obtain ⟨pk,v⟩:=p
  cases (show pk = keyR l c from ep)
  have hi:i < kvs.length:=(List.getElem?_eq_some_iff.mp hp).1
  have g8:=Grow.new (m:=[]) hT (.tup [.ref bb,v])
  have hT8:=zd (H:=H7) (a:=T) (o:=.tup [.ref bb,v])
  have hbb8:upd H7 T (.tup [.ref bb,v]) bb = some (.tup [.int l,.int c]):=g8.keep _ _ (by simp) hbb
  have al8:=al7.imp fun x p h=>yy.grow g8 h
  have G8:=g7.trans g8
  show gTup _ _ _ _ _ _ _
  generalize upd H7 T (.tup [.ref bb,v]) = H8 at g8 hT8 hbb8 al8 G8 ⊢
  refine ⟨T,[.ref bb,v],rfl,SqT.of hT8,rfl,_,_,rfl,bb,[.int l,.int c],rfl,SqT.of hbb8,rfl,_,_,rfl,_,_,rfl,rfl,_,_,rfl,rfl,?_⟩
  refine rO ?_
  have yl:ys.length <= i:=by rw [al7.len,List.length_map,List.length_take]; omega
  refine ⟨_,rfl,_,rfl,szl rfl,fun t ht=>⟨zG (by omega),G8.trans (Grow.new ht _),⟨_,_,_,rfl⟩,?_⟩⟩
  rw [List.take_succ,hp,List.map_append]
  exact (al8.imp fun x p h=>yy.grow (Grow.new (m:=[]) ht _) h).app (AllR.one ⟨t,rfl,SqT.of zd⟩)
 ·rintro ys σ' H7 ⟨g7,_,al7⟩ l8 hl8
  rw [List.take_length] at al7
  have g8:=Grow.new (m:=[]) hl8 (.lst ys)
  have tab8:TabR kvs (2 ^ k) b.length (lvR k rows ks k) (zx K (upd H7 l8 (.lst ys))):=tab6.imp fun v x hv=>g8.deed (g7.deed hv)
  refine ⟨l8,ys,kvs.map sW,1,rfl,SqL.of zd,al7.imp (fun x p h=>yy.grow g8 h),X7 R k4 hs tab6,Nat.le_refl 1,WN tab6,by rw [List.length_map]; omega,fun p9 zs' items' hp9 pm pw al9=>?_⟩
  have g9:=Grow.new (m:=[]) hp9 (.lst zs')
  refine ⟨p9,zs',rfl,.inl ⟨SqL.of zd,fun r hr'=>q _ _ (G6.trans (g7.trans (g8.trans (g9.trans (Grow.new hr' _))))) ⟨r,zs',rfl,SqT.of zd,?_⟩⟩⟩
  have fin:=Yu R k4 hs tab8 (Yv tab8) (X7 R k4 hs tab8) pm pw al9
  exact fin.imp fun x p ⟨r',dv,e,h1,h2⟩=>⟨r',dv,e,(g9.trans (Grow.new hr' _)).sqT h1,(g9.trans (Grow.new (m:=[]) hr' _)).deed h2⟩
theorem rA:FnScope ["k","thing"] ["k","thing"] (zg (top 29)):=⟨rfl,rfl,rfl,by decide +kernel,rfl,by decide +kernel,by decide +kernel⟩
theorem rB (F:Fun K "need_side" "need_side" (top 29) f fd) (B:Blt mg) (qc0:zh P w K mg base n "is_line" ["k","thing"] (wS K))    :
  FnOk P w K mg base CX0 (n + 1) f fd ["k","thing"] (vf K):=by
 refine F.ok rA yp (fun cdv A outer s H vs Q E hr h=>?_)
 obtain ⟨x,y,rfl,k,l,rfl,rfl,k4,hl,q⟩:=h
 refine ⟨_,(zj (yi (y0 (yL (zf qc0 hr rfl (za (pv 0) (za (pv 1) zb))))) (zj xS) zC)),?_⟩
 exact ⟨_,rfl,_,rfl,_,_,rfl,k,l,rfl,rfl,k4,hl,_,rfl,iteF q⟩
theorem yR:FnScope ["k","side","firsts","lines","stage"] ["k","side","firsts"] (zg (top 49)):=⟨rfl,rfl,rfl,by decide +kernel,rfl,by decide +kernel,by decide +kernel⟩
theorem tV (F:Fun K "told_order" "told_order" (top 49) f fd) (B:Blt mg) (qc0:zh P w K mg base n "in_order" ["k","stage","line","firsts"] (xA K)) (qc1:zh P w K mg base n "need_settings" ["k","thing"] (z0 K)) (qc2:zh P w K mg base n "need_side" ["k","thing"] (vf K)) (qc3:zh P w K mg base n "need_net" ["thing"] (yX K))    :
  FnOk P w K mg base CX0 (n + 1) f fd ["k","side","firsts"] (sI K):=by
 refine F.ok yR xi (fun cdv A outer s H vs Q E hr h=>?_)
 obtain ⟨x,y,z,rfl,k,e,rows,rfl,rfl,hR,k4,he,hset,q⟩:=h
 refine ⟨_,(ze (zL (zf qc3 hr rfl (za (pv 0) zb))) (ze (zL (zf qc2 hr rfl (za (pv 0) (za (pv 1) zb)))) (ze (zL (zf qc1 hr rfl (za (pv 0) (za (pv 2) zb)))) (ze (zw (i:=3) yR.nd rfl (Or.inl rfl) (y9 (za (pv 1) zb))) (ze (yU PassesOwn.never rfl (sH rfl B.range (za (pv 0) (za zi (za (Y0 qK zi) zb)))) (zk (i:=4) yR.nd rfl (Or.inr rfl)) (zj (Xi (i:=3) yR.nd rfl rfl (CSc.of (N':=["line","in_line","k","stage","firsts"]) (sub:=[none,none,some 0,some 4,some 2]) (zg (top 49)) ["k","side","firsts","lines","stage"] rfl rfl (by decide +kernel) rfl) rfl (vF (pv 3)) (fun _ _ _ _ _ _=>zk (i:=0) (show (["line","in_line","k","stage","firsts"]:List Str).Nodup by decide +kernel) rfl (Or.inl rfl)) (fun _ _ _ _ _ _=>(Wu (K:=K) rfl (zf qc0 hr rfl (za (pv 2) (za (pv 3) (za (pv 0) (za (pv 4) zb))))))) (fun _ _ _ _ _ _=>zk (i:=1) (show (["line","in_line","k","stage","firsts"]:List Str).Nodup by decide +kernel) rfl (Or.inl rfl)) (fun _ _ _ _ _ _=>zA) (fun _ _ _ _ _ _=>(pv 1))))) (zj (zr (zy zn rfl B.tuple zE (za (pv 3) zb))))))))),?_⟩
 have p:=zS k4
 refine ⟨_,rfl,_,rfl,k,rfl,k4,_,rfl,_,rfl,_,_,rfl,k,e,rfl,rfl,k4,he,_,rfl,_,rfl,_,_,rfl,k,rows,rfl,k4,hR,hset,fun H1 g1=>?_⟩
 refine ⟨_,rfl,szl rfl,fun l0 hl0=>?_⟩
 have g0:=Grow.new (m:=[]) hl0 (.lst [.int e])
 refine ⟨_,rfl,_,rfl,_,_,rfl,by omega,by omega,by omega,by omega,uE (fun i σ H'=>∃ (l:Addr) (e4:Option V),σ = [some (.int k),some (.int e),some z,some (.ref l),e4] /\ Grow [] H H' /\ H' l = some (.lst (yZ (ordL k rows e i)))) ⟨l0,_,rfl,g1.trans g0,zd⟩ ?_ ?_⟩
 ·rintro i σ H2 hi ⟨l,e4,rfl,g2,hl2⟩
  have hik:i + 1 <= k:=by omega
  have F:=ordF (rows:=rows) k4 hset he i (by omega)
  have F1:=ordF (rows:=rows) k4 hset he (i + 1) hik
  have p2:2 ^ (i + 1) <= 16:=zS (by omega)
  have hlen:(ordL k rows e i).length <= 16:=by rw [F.len]; exact zS (by omega)
  refine ⟨_,rfl,l,rfl,⟨_,SqL.of hl2⟩,jF (xs:=yZ (ordL k rows e i)) (fun j ys σ' H'=>∃ (o1 o2:Option V),σ' = [o1,o2,some (.int k),some (.int ((k:Int) - i)),some z] /\ Grow [] H2 H' /\ ys = yZ (((ordL k rows e i).take j).flatMap (inO k rows (k - i)))) ⟨_,_,rfl,Grow.refl _ _,rfl⟩ (fun j ys σ' H' _ ⟨_,_,_,g,_⟩=>SqL.of (g.keep _ _ (by simp) hl2)) ?_ ?_⟩
  ·rintro j x ys σ' H3 hx ⟨o1,o2,rfl,g3,rfl⟩
   obtain ⟨hj,rfl⟩:=ZT hx
   obtain ⟨a,hea⟩:∃ a,a = (ordL k rows e i).getD j 0:=⟨_,rfl⟩
   have hja:(ordL k rows e i)[j]? = some a:=by rw [hea]; exact Xl hj
   rw [← hea]
   have ha:=F.mem a (List.mem_of_getElem? hja)
   refine ⟨_,rfl,_,rfl,_,rfl,_,rfl,_,_,_,_,rfl,k,k - i,a,rows,rfl,congrArg V.int (by omega),rfl,g3.rows (g2.rows hR),k4,by omega,by omega,ha.1,hset,fun y4 H4 g4 h4=>?_⟩
   obtain ⟨r4,rfl,hs4⟩:=h4
   have hl4:(yZ (((ordL k rows e i).take j).flatMap (inO k rows (k - i)))).length <= 32:=by
    unfold yZ
    rw [List.length_map,len2 (fun _=>rfl),List.length_take]; omega
   refine ⟨r4,rfl,⟨_,hs4⟩,Wt (xs:=yZ (inO k rows (k - i) a)) (fun m ys σ' H'=>∃ (o2:Option V),σ' = [some (.int a),o2,some (.int k),some (.int ((k:Int) - i)),some z] /\ Grow [] H4 H' /\ ys = yZ (((ordL k rows e i).take j).flatMap (inO k rows (k - i))) ++ (yZ (inO k rows (k - i) a)).take m) ⟨_,rfl,Grow.refl _ _,by rw [List.take_zero,List.append_nil]⟩ (fun m ys σ' H' _ ⟨_,_,g,_⟩=>g.sqT hs4) ?_ ?_⟩
   ·rintro m x ys σ' H5 hx ⟨o2,rfl,g5,rfl⟩
    have hm:m < 2:=(List.getElem?_eq_some_iff.mp hx).1
    unfold vm
    refine rO ?_
    refine ⟨_,rfl,yJ (by rw [List.length_append,List.length_take]; omega),_,rfl,g5,?_⟩
    rw [List.take_add_one,hx,List.append_assoc]; rfl
   ·rintro ys σ' H5 ⟨o2,rfl,g5,rfl⟩
    refine ⟨_,_,rfl,g3.trans (g4.trans g5),?_⟩
    rw [List.take_length,List.take_add_one,hja,List.flatMap_append]
    unfold yZ
    rw [List.map_append]
    show _ = _ ++ ([a].flatMap (inO k rows (k - i))).map _
    rw [List.flatMap_cons,List.flatMap_nil,List.append_nil]
  ·rintro ys σ' H3 ⟨o1,o2,rfl,g3,rfl⟩ l4 hl4
   have e4:(yZ (ordL k rows e i)).length = (ordL k rows e i).length:=by unfold yZ; rw [List.length_map]
   rw [e4,List.take_length]
   exact ⟨l4,_,rfl,g2.trans (g3.trans (Grow.new hl4 _)),zd⟩
 ·rintro σ H2 ⟨l,e4,rfl,g2,hl2⟩
  rw [show ((k:Int) - 0).toNat = k by omega] at hl2
  exact ⟨_,rfl,l,_,rfl,.inl ⟨SqL.of hl2,fun r hr=>q _ _ (g2.trans (Grow.new hr _)) ⟨r,rfl,SqT.of zd⟩⟩⟩
theorem zI:FnScope ["k","stage","asked","kept","firsts","answers","shared","line","box","answer","place","first","other"] ["k","stage","asked","kept","firsts","answers"] (zg (top 47)):=⟨rfl,rfl,rfl,by decide +kernel,rfl,by decide +kernel,by decide +kernel⟩
theorem ut (F:Fun K "share_stage" "share_stage" (top 47) f fd) (B:Blt mg) (qc0:zh P w K mg base n "made" ["deed","value"] (uW K)) (qc1:zh P w K mg base n "in_order" ["k","stage","line","firsts"] (xA K)) (qc2:zh P w K mg base n "switch_at" ["k","stage","line"] (xg K)) (qc3:zh P w K mg base n "onward" ["k","stage","line","side"] (wz K)) (qc4:zh P w K mg base n "side_for" ["k","box"] (wE K))    :
  FnOk P w K mg base CX0 (n + 1) f fd ["k","stage","asked","kept","firsts","answers"] (uJ K):=by
 refine F.ok zI ZI (fun cdv A outer s H vs Q E hr h=>?_)
 obtain ⟨x,y,z,u,w',v,rfl,k,st,m,d,kp,an,rows,ks,bd,rfl,rfl,rfl,rfl,rfl,k4,s1,sk,m16,hd,hkp,hrw,hs,R,han,ndk,nda,q⟩:=h
 refine ⟨_,(ze (zw (i:=6) zI.nd rfl (Or.inl rfl) vB) (ze (yU PassesOwn.never rfl (WD (pv 2)) (yI rfl (zm (zk (i:=7) zI.nd rfl (Or.inl rfl)) (zm (zk (i:=8) zI.nd rfl (Or.inl rfl)) zH))) (ze (zw (i:=9) zI.nd rfl (Or.inl rfl) (tz (Room.u1F hr) (pv 5) (zO (za (zf qc3 hr rfl (za (pv 0) (za (pv 1) (za (pv 7) (za (zf qc4 hr rfl (za (pv 0) (za (pv 8) zb))) zb))))) (za (pv 8) zb))) (fun _ _=>rfl))) (ze (zw (i:=10) zI.nd rfl (Or.inl rfl) (zO (za (zf qc2 hr rfl (za (pv 0) (za (pv 1) (za (pv 7) zb)))) (za (pv 8) zb)))) (ze (x6 (zf qc1 hr rfl (za (pv 0) (za (pv 1) (za (pv 7) (za (pv 4) zb))))) (yI rfl (zm (zk (i:=11) zI.nd rfl (Or.inl rfl)) (zm (zk (i:=12) zI.nd rfl (Or.inl rfl)) zH)))) (ze (yi (PW.pt (uy (zJ vn (pv 7) (pv 12) (zQ _)) (vD (wp (XZ (Room.u1F hr) (pv 10) (pv 3)))))) (zj (zw (i:=9) zI.nd rfl (Or.inl rfl) (zf qc0 hr rfl (za (tz (Room.u1F hr) (pv 3) (pv 10) (fun _ _=>rfl)) (za (pv 9) zb))))) zC) (zj (vW (Room.u1F hr) (pv 6) (zO (za (pv 7) (za (pv 8) zb))) (pv 9) rfl))))))) (zj (zr (pv 6))))),?_⟩
 have p16:=zS k4
 have es:st = st - 1 + 1:=by omega
 obtain ⟨kvs,hrd,tab,kl⟩:=hd
 obtain ⟨kk,hkr,kkl,kk3,kk4,kk5⟩:=hkp
 obtain ⟨ak,har,atab,akl⟩:=han
 refine ye (fun v H'=>∃ b0,v = .ref b0 /\ H b0 = none /\ H' = upd H b0 (.dT [])) (fun Kk hk=>fun p hp=>hk _ _ ⟨p,rfl,hp,rfl⟩) ?_
 rintro _ _ ⟨b0,rfl,hb0,rfl⟩
 have g1:=Grow.new (m:=[]) hb0 (.dT [])
 have eB1:=zd (H:=H) (a:=b0) (o:=.dT [])
 generalize upd H b0 (.dT []) = H1 at g1 eB1 ⊢
 have nb:d ≠ b0:=fun z=>Rd.ne_none hrd (z ▸ hb0)
 have nkb:kp ≠ b0:=fun z=>Rd.ne_none hkr (z ▸ hb0)
 have nab:an ≠ b0:=fun z=>Rd.ne_none har (z ▸ hb0)
 refine ⟨_,rfl,d,kvs,rfl,Rd.growR g1 (.inl (by simp)) hrd,fun o H3 hd3 g3 same3=>?_⟩
 have eB3:H3 b0 = some (.dT []):=by rw [same3 b0 (Ne.symm nb)]; exact eB1
 have hkr3:Rd H3 kp (.dT kk):=Rd.growR g3 (.inl (by simpa using Ne.symm ndk)) (Rd.growR g1 (.inl (by simp)) hkr)
 have har3:Rd H3 an (.dT ak):=Rd.growR g3 (.inl (by simpa using Ne.symm nda)) (Rd.growR g1 (.inl (by simp)) har)
 have hrw3:=g3.rows (g1.rows hrw)
 have tab3:TabR kvs (2 ^ k) m (lvR k rows ks (st - 1)) (zx K H3):=tab.imp fun v x hv=>g3.deed (g1.deed hv)
 refine X1 (fun i σ H'=>∃ (e7 e8 e9 e10 e11 e12:Option V) (tk:List (List Key × V)),σ = [some (.int k),some (.int st),some (.ref d),some (.ref kp),some w',some (.ref an),some (.ref b0),e7,e8,e9,e10,e11,e12] /\ Grow [b0] H3 H' /\ H' b0 = some (.dT tk) /\ PTab kvs (2 ^ k) m (anF k rows ks bd (st - 1)) (fun v x=>v = .int x) i tk) ?_ ?_ ?_ ?_
 ·exact ⟨_,_,_,_,_,_,[],rfl,Grow.refl _ _,eB3,PTab.nil⟩
 ·rintro i σ H' _ ⟨e7,e8,e9,e10,e11,e12,tk,rfl,g,_⟩
  exact g.frz _ _ _ hd3
 ·rintro i p bb σ H4 hp hbb ⟨e7,e8,e9,e10,e11,e12,tk,rfl,g4,hB4,P4⟩
  obtain ⟨l,b,dd,ep,hl,hb,hlv,hdd⟩:=tab3.keys p (List.mem_of_getElem? hp)
  obtain ⟨pk,v⟩:=p
  cases (show pk = keyR l b from ep)
  have b16:b < 16:=by omega
  have hi:i < kvs.length:=(List.getElem?_eq_some_iff.mp hp).1
  have W:=outF (b:=b) k4 s1 sk hl
  have X:=xF (rows:=rows) k4 hs s1 sk hl
  have O:=oneF k4 s1 sk hl
  have lvo:lvR k rows ks st (outR k st l b) b ≠ none:=by
   have e:=X4 (ks:=ks) (b:=b) k4 hs (s:=st - 1) (by omega) hl
   rw [← es] at e
   rw [e]
   rcases X.or with z | z
   ·rw [← z,hlv]; cases lvR k rows ks (st - 1) (x1R k rows st l) b <;> exact fun z=>nomatch z
   ·rw [← z,hlv]; cases lvR k rows ks (st - 1) (x0R k rows st l) b <;> exact fun z=>nomatch z
  refine ⟨bb,[.int l,.int b],rfl,SqT.of hbb,rfl,_,_,rfl,_,_,rfl,rfl,?_⟩
  refine ye (fun v H'=>v = .int (stvR k rows ks bd (k - st) (outR k st l b) b) /\ Grow [] H4 H') (fun Kk hk=>⟨_,rfl,_,rfl,_,rfl,_,rfl,_,rfl,_,rfl,_,_,rfl,k,b,rfl,rfl,k4,b16,_,_,_,_,rfl,k,st,l,((b % 2 ^ k:Nat):Int),rfl,rfl,rfl,rfl,k4,sk,by omega,by omega,by omega,by have:=zo (k:=k) (b:=b); omega,_,rfl,szl rfl,fun t ht=>?_⟩) ?_
  ·have gt:=Grow.new (m:=[]) ht (.tup [.int (wfI k st l (figI k st ((b % 2 ^ k:Nat):Int))),.int b])
   have et:upd H4 t (.tup [.int (wfI k st l (figI k st ((b % 2 ^ k:Nat):Int))),.int b]) t = some (.tup [.int (outR k st l b:Nat),.int b]):=by rw [zd,W.eq]; rfl
   have vv:=atab.val (l:=outR k st l b) (b:=b) W.lt hb
   unfold anF at vv
   cases hc:lvR k rows ks st (outR k st l b) b with
   | none=>exact absurd hc lvo
   | some dc =>
    rw [hc] at vv
    obtain ⟨v',ev,rfl⟩:=vv
    have gx:=qe (Rd.growR (gt.wk (m:=[b0])) (.inl (by simpa using nab)) (Rd.growR g4 (.inl (by simpa using nab)) har3)) et
    rw [ev] at gx
    exact ⟨an,_,rfl,gx,hk _ _ ⟨rfl,gt⟩⟩
  rintro _ H5 ⟨rfl,g5⟩
  refine ye (fun v H'=>∃ t,v = .ref t /\ H' t = some (.tup [.int (nN k st l:Nat),.int b]) /\ Grow [] H5 H') (fun Kk hk=>⟨_,rfl,_,rfl,_,rfl,_,_,_,rfl,k,st,l,rfl,rfl,rfl,k4,sk,by omega,by omega,_,rfl,szl rfl,fun t ht=>hk _ _ ⟨t,rfl,?_,Grow.new ht _⟩⟩) ?_
  ·rw [zd,O.sw,O.num]
  rintro _ H6 ⟨t,rfl,ht6,g6⟩
  have G6:=g5.trans g6
  refine ⟨_,rfl,_,rfl,_,rfl,_,rfl,_,_,_,_,rfl,k,st,l,rows,rfl,rfl,rfl,G6.rows (g4.rows hrw3),k4,s1,sk,hl,hs,fun y H7 g7 hn=>?_⟩
  obtain ⟨ri,rfl,hri⟩:=hn
  refine ⟨ri,[.int (x0R k rows st l:Nat),.int (x1R k rows st l:Nat)],rfl,hri,rfl,_,_,rfl,_,_,rfl,rfl,?_⟩
  have G7:Grow [b0] H3 H7:=g4.trans (G6.trans g7).wk
  have ht7:=g7.keep _ _ (by simp) ht6
  have hB7:=(G6.trans g7).keep _ _ (by simp) hB4
  have hkr7:=Rd.growR G7 (.inl (by simpa using nkb)) hkr3
  have dk:=qe hkr7 ht7
  have kv:=KpAt.val (K:=K) (H:=H7) (kvs:=kk) (ks:=ks) (rows:=rows) (m:=m) k4 hs s1 sk hl hb (fun p hp=>by obtain ⟨l,b,x,e,a1,a2,a3,a4⟩:=kk3 p hp; exact ⟨l,b,x,e,a1,a2,a3,G7.deed (g3.deed (g1.deed a4))⟩) kk5
  have sv:=XD (k:=k) (rows:=rows) (ks:=ks) (bd:=bd) (l:=l) (b:=b) s1 sk
  refine c_nx (c_if (fun σ' H'=>H' = H7 /\ σ' = [some (.int k),some (.int st),some (.ref d),some (.ref kp),some w',some (.ref an),some (.ref b0),some (.int l),some (.int b),some (.int (stvR k rows ks bd (k - (st - 1)) l b)),some (.ref t),some (.int (x0R k rows st l:Nat)),some (.int (x1R k rows st l:Nat))]) ?_ (fun hk=>?_))
  ·rintro σ' H' ⟨rfl,rfl⟩
   refine ⟨_,rfl,_,rfl,_,rfl,_,rfl,szl rfl,fun t2 ht2=>?_⟩
   have g8:=Grow.new (m:=[]) ht2 (.tup [.int l,.int b])
   have hB8:=g8.keep _ _ (by simp) hB7
   have P8:=P4.p4
   refine ⟨b0,_,rfl,DPut.t (k:=keyR l b) hB8 zd (zG (by omega)),?_⟩
   refine ⟨_,_,_,_,_,_,_,rfl,G7.trans (g8.wk.trans (Grow.setR hB8 (by simp))),zd,P4.step hp hl hb ?_ rfl⟩
   show (lvR k rows ks (st - 1) l b).map _ = _
   rw [hlv]; rfl
  ·have eqc:decide (V.int (l:Int) = V.int ((x1R k rows st l:Nat):Int)) = decide (l = x1R k rows st l):=by
    by_cases c:l = x1R k rows st l
    ·rw [decide_eq_true c,decide_eq_true (congrArg (fun x:Nat=>V.int (x:Int)) c)]
    ·rw [decide_eq_false c,decide_eq_false fun z=>c (by have:=V.int.inj z; omega)]
   refine ⟨_,rfl,_,rfl,rfl,_,rfl,?_⟩
   by_cases c:l = x1R k rows st l
   ·refine wg (by rw [eqc,decide_eq_true c]) ⟨_,rfl,_,rfl,kp,_,rfl,dk,_,rfl,?_⟩
    cases hk':kpR k rows ks st l b with
    | none =>
     rw [hk'] at kv sv
     have kv':valV kk (keyR (nN k st l) b) = none:=kv
     rw [kv']
     refine iteF (hk _ _ ⟨rfl,?_⟩)
     rw [show stvR k rows ks bd (k - (st - 1)) l b = stvR k rows ks bd (k - st) (outR k st l b) b from sv]; rfl
    | some x =>
     rw [hk'] at kv sv
     obtain ⟨vx,ev,hvx⟩:=kv
     rw [ev] at dk ⊢
     refine wg rfl ⟨_,rfl,_,rfl,kp,vx,rfl,dk,_,rfl,_,_,rfl,x,_,hvx,rfl,hk _ _ ⟨rfl,?_⟩⟩
     rw [show stvR k rows ks bd (k - (st - 1)) l b = x.mk' (stvR k rows ks bd (k - st) (outR k st l b) b) from by rw [sv]; exact if_pos c]; rfl
   ·refine xL (by rw [eqc,decide_eq_false c]) (iteF (hk _ _ ⟨rfl,?_⟩))
    have:stvR k rows ks bd (k - (st - 1)) l b = stvR k rows ks bd (k - st) (outR k st l b) b:=by
     rw [sv]
     cases kpR k rows ks st l b with
     | none=>rfl
     | some x=>exact if_neg c
    rw [this]; rfl
 ·rintro σ H4 ⟨e7,e8,e9,e10,e11,e12,tk,rfl,g4,hB4,P4⟩
  have G:Grow [d] H H4:=by
   have a1:Grow [d,b0] H H3:=(g1.wk.trans (g3.mono (by simp)))
   refine (a1.trans (g4.mono (by simp))).less fun b hb=>?_
   simp only [List.mem_cons,List.mem_nil_iff,or_false] at hb
   rcases hb with rfl | rfl
   ·exact .inl (by simp)
   ·exact .inr hb0
  have T:=P4.done tab3 (fun l b _ _ hne z=>hne (by unfold anF; rw [z]; rfl))
  exact ⟨_,rfl,q b0 _ G hb0 ⟨tk,.inl hB4,T,Nat.le_trans P4.p4 kl⟩ ⟨kvs,.inr ⟨o,g4.frz _ _ _ hd3⟩,tab3.imp fun v x hv=>g4.deed hv,kl⟩⟩
theorem zN:FnScope ["k","board","asks","firsts","levels","stages","values","answers","line","box","deed","stage"] ["k","board","asks","firsts"] (zg (top 48)):=⟨rfl,rfl,rfl,by decide +kernel,rfl,by decide +kernel,by decide +kernel⟩
theorem rC (F:Fun K "one_round" "one_round" (top 48) f fd) (B:Blt mg) (qc0:zh P w K mg base n "share_stage" ["k","stage","asked","kept","firsts","answers"] (uJ K)) (qc1:zh P w K mg base n "made" ["deed","value"] (uW K)) (qc2:zh P w K mg base n "pass_net" ["k","asks","firsts"] (xM K)) (qc3:zh P w K mg base n "need_settings" ["k","thing"] (z0 K)) (qc4:zh P w K mg base n "need_round" ["k","board","asks"] (yk K))    :
  FnOk P w K mg base CX0 (n + 1) f fd ["k","board","asks","firsts"] (uK K):=by
 refine F.ok zN xj (fun cdv A outer s H vs Q E hr h=>?_)
 obtain ⟨x,y,z,u,rfl,k,b,ks,rows,rfl,k4,hb,b1,b16,hks,k16,R,hrw,hs,q⟩:=h
 refine ⟨_,(ze (zL (zf qc4 hr rfl (za (pv 0) (za (pv 1) (za (pv 2) zb))))) (ze (zL (zf qc3 hr rfl (za (pv 0) (za (pv 3) zb)))) (ze (x6 (zf qc2 hr rfl (za (pv 0) (za (pv 2) (za (pv 3) zb)))) (yI rfl (zm (zk (i:=4) zN.nd rfl (Or.inl rfl)) (zm (zk (i:=5) zN.nd rfl (Or.inl rfl)) zH)))) (ze (zw (i:=6) zN.nd rfl (Or.inl rfl) (zy sf rfl B.list Vi (za (pv 1) zb))) (ze (zw (i:=7) zN.nd rfl (Or.inr rfl) vB) (ze (yU PassesOwn.never rfl (Yb (zZ z9 (pv 4) (pv 0) (fun _ _=>rfl))) (yI rfl (zm (yI rfl (zm (zk (i:=8) zN.nd rfl (Or.inl rfl)) (zm (zk (i:=9) zN.nd rfl (Or.inl rfl)) zH))) (zm (zk (i:=10) zN.nd rfl (Or.inl rfl)) zH))) (ze (vW (Room.u1F hr) (pv 7) (zO (za (pv 8) (za (pv 9) zb))) (zZ yO (pv 1) (pv 9) (fun _ _=>rfl)) rfl) (zj (x6 (zf qc1 hr rfl (za (pv 10) (za (zZ yO (pv 1) (pv 9) (fun _ _=>rfl)) zb))) (Zd (pv 6) (pv 9) uU))))) (ze (yU PassesOwn.never rfl (sH rfl B.range (za (pv 0) (za zi (za (Y0 qK zi) zb)))) (zk (i:=11) zN.nd rfl (Or.inl rfl)) (zj (zw (i:=7) zN.nd rfl (Or.inr rfl) (zf qc0 hr rfl (za (pv 0) (za (pv 11) (za (zZ z9 (pv 4) (zq yE (pv 11) zi) (fun _ _=>rfl)) (za (zZ z9 (pv 5) (zq yE (pv 11) zi) (fun _ _=>rfl)) (za (pv 3) (za (pv 7) zb)))))))))) (zj (zr (zO (za (zy zn rfl B.tuple zE (za (zF (CSc.of (N':=["hand","box","deed","answers"]) (sub:=[none,none,none,some 7]) (zg (top 48)) ["k","board","asks","firsts","levels","stages","values","answers","line","box","deed","stage"] rfl rfl (by decide +kernel) rfl) rfl (y7 (pv 2)) (fun _ _ _ _ _ _=>yY (K:=K) 3 rfl rfl (zm (zk (i:=0) (show (["hand","box","deed","answers"]:List Str).Nodup by decide +kernel) rfl (Or.inl rfl) (Or.inr rfl)) (zm (zk (i:=1) (show (["hand","box","deed","answers"]:List Str).Nodup by decide +kernel) rfl (Or.inl rfl) (Or.inr rfl)) (zm (zk (i:=2) (show (["hand","box","deed","answers"]:List Str).Nodup by decide +kernel) rfl (Or.inl rfl) (Or.inr rfl)) zH))) rfl rfl) (fun _ _ _ _ _ _=>zA) (fun _ _ _ _ _ _=>(tz (Room.u1F hr) (pv 3) (zO (za (pv 0) (za (pv 1) zb))) (fun _ _=>rfl)))) zb)) (za (zy zn rfl B.tuple zE (za (pv 6) zb)) zb)))))))))))),?_⟩
 have p16:=zS k4
 refine ⟨_,rfl,_,rfl,_,rfl,_,_,_,rfl,k,b,ks,rfl,k4,hb,b1,b16,hks,k16,R,fun H1 g1=>?_⟩
 refine ⟨_,rfl,_,rfl,_,_,rfl,k,rows,rfl,k4,g1.rows hrw,hs,fun H2 g2=>?_⟩
 have G2:=g1.trans g2
 refine ⟨_,rfl,_,rfl,_,rfl,_,_,_,rfl,k,b.length,rows,ks,rfl,k4,b16,k16,G2.asks hks,G2.rows hrw,hs,R,fun r0 lL lS ds kps H3 g3 s3 hL3 hS3 dl kpl N3 fr3=>?_⟩
 have G3:=G2.trans g3
 have fr:∀ d ∈ ds ++ kps,H d = none:=fun d hd=>G2.free (by simp) (fr3 d hd)
 refine ⟨r0,[.ref lL,.ref lS],rfl,s3,rfl,_,_,rfl,_,_,rfl,rfl,?_⟩
 obtain ⟨rb,rfl,hrb⟩:=hb
 refine c_nx (ye (fun v H'=>∃ lv,v = .ref lv /\ H3 lv = none /\ H' = upd H3 lv (.lst (b.map V.int))) (fun Kk hk=>⟨_,rfl,rb,_,rfl,.inr (G3.sqT hrb),fun l hl=>hk _ _ ⟨l,rfl,hl,rfl⟩⟩) ?_)
 rintro _ _ ⟨lv,rfl,hlv,rfl⟩
 have g4:=Grow.new (m:=[]) hlv (.lst (b.map V.int))
 have hV4:=zd (H:=H3) (a:=lv) (o:=.lst (b.map V.int))
 have hlvH:H lv = none:=G3.free (by simp) hlv
 have hL4:=g4.keep _ _ (by simp) hL3
 have hS4:=g4.keep _ _ (by simp) hS3
 have N4:=N3.grow g4 (by simp)
 have G4:=G3.trans g4
 generalize upd H3 lv (.lst (b.map V.int)) = H4 at g4 hV4 hL4 hS4 N4 G4 ⊢
 refine ye (fun v H'=>∃ la,v = .ref la /\ H4 la = none /\ H' = upd H4 la (.dT [])) (fun Kk hk=>fun p hp=>hk _ _ ⟨p,rfl,hp,rfl⟩) ?_
 rintro _ _ ⟨la,rfl,hla,rfl⟩
 have g5:=Grow.new (m:=[]) hla (.dT [])
 have hA5:=zd (H:=H4) (a:=la) (o:=.dT [])
 have hlaH:H la = none:=G4.free (by simp) hla
 have nla:∀ e ∈ ds ++ kps,e ≠ la:=fun e he w=>by
  obtain ⟨kv,hk⟩:=N4.isD he
  exact Rd.ne_none hk (w ▸ hla)
 have nlv:∀ e ∈ ds ++ kps,e ≠ lv:=fun e he w=>by
  obtain ⟨kv,hk⟩:=N4.isD he
  exact Rd.ne_lst hk hV4 w
 have nva:lv ≠ la:=fun w=>by rw [w,hla] at hV4; cases hV4
 have hV5:=g5.keep _ _ (by simp) hV4
 have hL5:=g5.keep _ _ (by simp) hL4
 have hS5:=g5.keep _ _ (by simp) hS4
 have N5:=N4.grow g5 (by simp)
 have G5:=G4.trans g5
 generalize upd H4 la (.dT []) = H5 at g5 hA5 hV5 hL5 hS5 N5 G5 ⊢
 obtain ⟨dk,hdk⟩:∃ d,ds[k]? = some d:=⟨_,List.getElem?_eq_getElem (by omega)⟩
 have mdk:dk ∈ ds ++ kps:=List.mem_append_left _ (List.mem_of_getElem? hdk)
 obtain ⟨kvs,hrd,tab,kl⟩:=N5.lv k dk hdk
 refine ⟨_,rfl,_,rfl,lL,_,_,_,rfl,rfl,SqL.of hL5,wW rfl hdk,dk,kvs,rfl,hrd,fun o H6 hd6 g6 same6=>?_⟩
 have tab6:TabR kvs (2 ^ k) b.length (lvR k rows ks k) (zx K H6):=tab.imp fun v x hv=>g6.deed hv
 have N6:NetR K H6 k b.length rows ks ds kps:=N5.walk hdk g6 ⟨kvs,.inr ⟨o,hd6⟩,tab6,kl⟩
 have hA6:H6 la = some (.dT []):=by rw [same6 la (Ne.symm (nla dk mdk))]; exact hA5
 have hV6:H6 lv = some (.lst (b.map V.int)):=by rw [same6 lv (Ne.symm (nlv dk mdk))]; exact hV5
 have hL6:=g6.keep _ _ (by simpa using Ne.symm (Rd.ne_lst hrd hL5)) hL5
 have hS6:=g6.keep _ _ (by simpa using Ne.symm (Rd.ne_lst hrd hS5)) hS5
 have G6:Grow [] H H6:=Grow.tfresh G5 g6 (fun d hd=>by rw [List.mem_singleton.mp hd]; exact fr dk mdk)
 have nLv:lL ≠ lv:=fun w=>by rw [w,hlv] at hL3; cases hL3
 have nSv:lS ≠ lv:=fun w=>by rw [w,hlv] at hS3; cases hS3
 have nLa:lL ≠ la:=fun w=>by rw [w,hla] at hL4; cases hL4
 have nSa:lS ≠ la:=fun w=>by rw [w,hla] at hS4; cases hS4
 refine WH (fun i σ H'=>∃ (e8 e9 e10 e11:Option V) (tk:List (List Key × V)) (w:List Int),σ = [some (.int k),some (.ref rb),some z,some u,some (.ref lL),some (.ref lS),some (.ref lv),some (.ref la),e8,e9,e10,e11] /\ Grow [lv,la] H6 H' /\ H' la = some (.dT tk) /\ H' lv = some (.lst (w.map V.int)) /\ PTab kvs (2 ^ k) b.length (anF k rows ks (bdF b) k) (fun v x=>v = .int x) i tk /\ VI kvs b (finR k rows ks (bdF b)) i w) ?_ ?_ ?_ ?_
 ·exact ⟨_,_,_,_,[],b,rfl,Grow.refl _ _,hA6,hV6,PTab.nil,VI.nil⟩
 ·rintro i σ H' _ ⟨e8,e9,e10,e11,tk,w,rfl,g,_⟩
  exact g.frz _ _ _ hd6
 ·rintro i p bb T σ H7 hp hbb hT ⟨e8,e9,e10,e11,tk,w,rfl,g7,hA7,hV7,P7,W7⟩
  obtain ⟨l,c,dd,ep,hl,hc,hlv',hdd⟩:=tab6.keys p (List.mem_of_getElem? hp)
  obtain ⟨pk,v⟩:=p
  cases (show pk = keyR l c from ep)
  have g8:=Grow.new (m:=[]) hT (.tup [.ref bb,v])
  have hT8:=zd (H:=H7) (a:=T) (o:=.tup [.ref bb,v])
  have hbb8:upd H7 T (.tup [.ref bb,v]) bb = some (.tup [.int l,.int c]):=g8.keep _ _ (by simp) hbb
  have hA8:=g8.keep _ _ (by simp) hA7
  have hV8:=g8.keep _ _ (by simp) hV7
  have G8:Grow [lv,la] H6 (upd H7 T (.tup [.ref bb,v])):=g7.trans g8.wk
  show gTup _ _ _ _ _ _ _
  generalize upd H7 T (.tup [.ref bb,v]) = H8 at g8 hT8 hbb8 hA8 hV8 G8 ⊢
  refine ⟨T,[.ref bb,v],rfl,SqT.of hT8,rfl,_,_,rfl,bb,[.int l,.int c],rfl,SqT.of hbb8,rfl,_,_,rfl,_,_,rfl,rfl,_,_,rfl,rfl,?_⟩
  have hgb:=Yj hc
  have el:l = c % 2 ^ k:=tE R k4 hs hl (by rw [hlv']; exact fun z=>nomatch z)
  have hix:atI (b.map V.int) (c:Int) = some (V.int (bdF b c)):=wW rfl hgb
  have hrb8:=G8.sqT (G6.sqT hrb)
  have P8:=P7.p4
  have hi:i < kvs.length:=(List.getElem?_eq_some_iff.mp hp).1
  refine ⟨_,rfl,_,rfl,rb,_,_,_,rfl,rfl,hrb8,hix,_,rfl,_,rfl,_,rfl,szl rfl,fun t2 ht2=>?_⟩
  have g9:=Grow.new (m:=[]) ht2 (.tup [.int l,.int c])
  have hA9:=g9.keep _ _ (by simp) hA8
  have hV9:=g9.keep _ _ (by simp) hV8
  have ht9:=zd (H:=H8) (a:=t2) (o:=.tup [.int l,.int c])
  have G9:Grow [lv,la] H6 (upd H8 t2 (.tup [.int l,.int c])):=G8.trans g9.wk
  generalize upd H8 t2 (.tup [.int l,.int c]) = H9 at g9 hA9 hV9 ht9 G9 ⊢
  refine ⟨la,_,rfl,DPut.t (k:=keyR l c) hA9 ht9 (zG (by omega)),?_⟩
  have ga:Grow [lv,la] H9 (upd H9 la (.dT (putK tk (keyR l c) (.int (bdF b c))))):=Grow.setR hA9 (by simp)
  have hAa:=zd (H:=H9) (a:=la) (o:=.dT (putK tk (keyR l c) (.int (bdF b c))))
  have hVa:upd H9 la (.dT (putK tk (keyR l c) (.int (bdF b c)))) lv = some (.lst (w.map V.int)):=by rw [zp nva]; exact hV9
  have Ga:=G9.trans ga
  generalize upd H9 la (.dT (putK tk (keyR l c) (.int (bdF b c)))) = Ha at ga hAa hVa Ga ⊢
  have hcw:c < w.length:=by rw [W7.len]; exact hc
  have hixw:ixN (w.map V.int).length (c:Int) = some c:=by rw [List.length_map]; exact vN (i:=(c:Int)) (by omega) hcw
  have efin:finR k rows ks (bdF b) c = dd.mk' (bdF b c):=by unfold finR; rw [← el,hlv']
  refine ⟨_,rfl,_,rfl,_,rfl,rb,_,_,_,rfl,rfl,Ga.sqT (G6.sqT hrb),hix,_,_,rfl,dd,_,Ga.deed hdd,rfl,?_⟩
  refine ⟨_,rfl,_,rfl,lv,_,_,_,rfl,rfl,hVa,hixw,?_⟩
  refine ⟨_,_,_,_,putK tk (keyR l c) (.int (bdF b c)),w.set c (finR k rows ks (bdF b) c),rfl,Ga.trans (Grow.set hVa (by simp) _),?_,?_,P7.step hp hl hc ?_ rfl,W7.step hp hc⟩
  ·rw [zp (Ne.symm nva)]; exact hAa
  ·rw [zd,efin]; exact congrArg (fun z=>some (HO.lst z)) List.map_set.symm
  ·show (lvR k rows ks k l c).map _ = _
   rw [hlv',Nat.sub_self]; rfl
 ·rintro σ H7 ⟨e8,e9,e10,e11,tk,w,rfl,g7,hA7,hV7,P7,W7⟩
  have ew:=W7.done tab6
  subst ew
  have T7:=P7.done tab6 (fun l b _ _ hne z=>hne (by unfold anF; rw [z]; rfl))
  have N7:=N6.grow g7 (fun d hd z=>by
   simp only [List.mem_cons,List.mem_nil_iff,or_false] at z
   exact z.elim (nlv d hd) (nla d hd))
  have hL7:=g7.keep _ _ (fun z=>by
   simp only [List.mem_cons,List.mem_nil_iff,or_false] at z
   exact z.elim nLv nLa) hL6
  have hS7:=g7.keep _ _ (fun z=>by
   simp only [List.mem_cons,List.mem_nil_iff,or_false] at z
   exact z.elim nSv nSa) hS6
  have G7:Grow [] H H7:=Grow.tfresh G6 g7 (fun d hd=>by
   simp only [List.mem_cons,List.mem_nil_iff,or_false] at hd
   rcases hd with rfl | rfl
   ·exact hlvH
   ·exact hlaH)
  have A7:AnAt H7 k b.length rows ks (bdF b) k la:=⟨tk,.inl hA7,T7,Nat.le_trans P7.p4 kl⟩
  refine ⟨_,rfl,_,rfl,_,_,rfl,by omega,by omega,by omega,by omega,uE (fun i σ H'=>∃ (e8 e9 e10 e11:Option V) (la:Addr),σ = [some (.int k),some (.ref rb),some z,some u,some (.ref lL),some (.ref lS),some (.ref lv),some (.ref la),e8,e9,e10,e11] /\ Grow [] H H' /\ H' lL = some (.lst (ds.map V.ref)) /\ H' lS = some (.lst (kps.map V.ref)) /\ H' lv = some (.lst ((finL k rows ks b).map V.int)) /\ NetR K H' k b.length rows ks ds kps /\ AnAt H' k b.length rows ks (bdF b) (k - i) la /\ ∀ e ∈ ds ++ kps,e ≠ la) ⟨_,_,_,_,la,rfl,G7,hL7,hS7,hV7,N7,A7,nla⟩ ?_ ?_⟩
  ·rintro i σ H8 hi ⟨e8,e9,e10,e11,la,rfl,G8,hL8,hS8,hV8,N8,A8,na8⟩
   obtain ⟨d,hd⟩:∃ d,ds[k - i - 1]? = some d:=⟨_,List.getElem?_eq_getElem (by omega)⟩
   obtain ⟨kp,hkp⟩:∃ d,kps[k - i - 1]? = some d:=⟨_,List.getElem?_eq_getElem (by omega)⟩
   have md:=List.mem_of_getElem? hd
   have mkp:=List.mem_of_getElem? hkp
   have Ld:=N8.lv _ d hd
   have Lk:=N8.kp _ kp hkp
   rw [show k - i - 1 + 1 = k - i from by omega] at Lk
   refine ⟨_,rfl,_,rfl,_,rfl,_,rfl,_,_,rfl,rfl,lL,_,_,_,rfl,rfl,SqL.of hL8,wW (j:=k - i - 1) (by omega) hd,_,rfl,_,rfl,_,_,rfl,rfl,lS,_,_,_,rfl,rfl,SqL.of hS8,wW (j:=k - i - 1) (by omega) hkp,_,rfl,_,rfl,_,_,_,_,_,_,rfl,k,k - i,b.length,d,kp,la,rows,ks,bdF b,rfl,congrArg V.int (by omega),rfl,rfl,rfl,k4,by omega,by omega,b16,Ld,Lk,G8.rows hrw,hs,R,A8,N8.ndk md mkp,na8 d (List.mem_append_left _ md),fun a' H9 g9 ha' A9 L9=>?_⟩
   obtain ⟨kv,hkv⟩:=Ld.isD
   have md':d ∈ ds ++ kps:=List.mem_append_left _ md
   refine ⟨_,_,_,_,a',rfl,Grow.tfresh G8 g9 (fun e he=>by rw [List.mem_singleton.mp he]; exact fr d md'),g9.keep _ _ (by simpa using Ne.symm (Rd.ne_lst hkv hL8)) hL8,g9.keep _ _ (by simpa using Ne.symm (Rd.ne_lst hkv hS8)) hS8,g9.keep _ _ (by simpa using Ne.symm (Rd.ne_lst hkv hV8)) hV8,N8.walk hd g9 L9,?_,fun e he w=>?_⟩
   ·rw [show k - (i + 1) = k - i - 1 from by omega]; exact A9
   ·obtain ⟨kv,hk⟩:=N8.isD he
    exact Rd.ne_none hk (w ▸ ha')
  ·rintro σ H8 ⟨e8,e9,e10,e11,la,rfl,G8,hL8,hS8,hV8,N8,A8,na8⟩
   rw [show k - ((k:Int) - 0).toNat = 0 from by omega] at A8
   obtain ⟨ak,hak,at8,al⟩:=A8
   obtain ⟨ra,xs,rfl,hra,hxs⟩:=G8.asks hks
   have xl:=hxs.len
   refine ⟨_,rfl,ra,rfl,⟨_,hra⟩,xw (xs:=xs) (fun n ys σ' H'=>Grow [] H8 H' /\ (∃ e1 e2 e3,σ' = [e1,e2,e3,some (.ref la)]) /\ ys = ((ks.take n).map fun a=>stvR k rows ks (bdF b) k a.hand.toNat a.box.toNat).map V.int) ⟨Grow.refl _ _,⟨_,_,_,rfl⟩,rfl⟩ (fun n ys σ' H' _ z=>z.1.sqT hra) ?_ ?_⟩
   ·rintro n x ys σ' H9 hx ⟨g9,⟨e1,e2,e3,rfl⟩,rfl⟩
    obtain ⟨a,ha,r,rd,rfl,h1,h2⟩:=hxs.get hx
    have hn:=(List.getElem?_eq_some_iff.mp ha).1
    have am:=List.mem_of_getElem? ha
    refine ⟨r,_,rfl,g9.sqT h1,rfl,_,_,rfl,_,_,rfl,_,_,rfl,rfl,?_⟩
    refine ⟨_,rfl,_,rfl,_,rfl,szl rfl,fun t ht=>?_⟩
    have gt:=Grow.new (m:=[]) ht (.tup [.int a.hand,.int a.box])
    have et:upd H9 t (.tup [.int a.hand,.int a.box]) t = some (.tup [.int (a.hand.toNat:Nat),.int (a.box.toNat:Nat)]):=by rw [zd,Int.toNat_of_nonneg (R.hand a am).1,Int.toNat_of_nonneg (R.box a am).1]
    have hbx:=R.box a am
    have hhd:=R.hand a am
    have vv:=at8.val (l:=a.hand.toNat) (b:=a.box.toNat) (yT hhd.1 hhd.2) (by omega)
    rw [VM R am] at vv
    obtain ⟨v',ev,rfl⟩:=vv
    have gx:=qe (Rd.growR gt (.inl (by simp)) (Rd.growR g9 (.inl (by simp)) hak)) et
    rw [ev] at gx
    refine ⟨la,_,rfl,gx,zG (by rw [List.length_map,List.length_map,List.length_take]; omega),g9.trans gt,⟨_,_,_,rfl⟩,?_⟩
    rw [List.take_succ,ha,List.map_append,List.map_append]; rfl
   ·rintro ys σ' H9 ⟨g9,_,rfl⟩ l9 hl9
    rw [xl,List.take_length]
    have ga:=Grow.new (m:=[]) hl9 (.lst ((ks.map fun a=>stvR k rows ks (bdF b) k a.hand.toNat a.box.toNat).map V.int))
    have ea:=zd (H:=H9) (a:=l9) (o:=.lst ((ks.map fun a=>stvR k rows ks (bdF b) k a.hand.toNat a.box.toNat).map V.int))
    have Ga:=g9.trans ga
    refine ⟨l9,_,rfl,.inl ⟨SqL.of ea,fun r1 hr1=>?_⟩⟩
    have gb:=Grow.new (m:=[]) hr1 (.tup ((ks.map fun a=>stvR k rows ks (bdF b) k a.hand.toNat a.box.toNat).map V.int))
    refine ⟨_,rfl,lv,_,rfl,.inl ⟨SqL.of ((Ga.trans gb).keep _ _ (by simp) hV8),fun r2 hr2=>⟨szl rfl,fun r3 hr3=>?_⟩⟩⟩
    have gc:=Grow.new (m:=[]) hr2 (.tup ((finL k rows ks b).map V.int))
    have gd:=Grow.new (m:=[]) hr3 (.tup [.ref r1,.ref r2])
    exact q _ _ (G8.trans (Ga.trans (gb.trans (gc.trans gd)))) ⟨r3,r1,r2,rfl,SqT.of zd,gd.sqT (gc.sqT (SqT.of zd)),gd.sqT (SqT.of zd)⟩
theorem zK:FnScope ["_law_k","_law_firsts_here","_law_hands","_law_ends","_law_found","_law_at","_law_row","_law_turned"] ["_law_k","_law_firsts_here","_law_hands","_law_ends"] (zg (top 65)):=⟨rfl,rfl,rfl,by decide +kernel,rfl,by decide +kernel,by decide +kernel⟩
theorem xZ (F:Fun K "_law_other_firsts" "_law_other_firsts" (top 65) f fd) (B:Blt mg) (qc0:zh P w K mg base n "_law_switch" ["_law_k","_law_stage","_law_number_here","_law_hands","_law_ends"] (qk K)) (g_enumerate:mg "enumerate" = none)   :
  FnOk P w K mg base CX0 (n + 1) f fd ["_law_k","_law_firsts_here","_law_hands","_law_ends"] (YK K):=by
 refine F.ok zK xj (fun cdv A outer s H vs Q E hr h=>?_)
 obtain ⟨x,y,z,u,rfl,k,rows,h,e,rfl,hrw,rfl,rfl,k4,hh,he,hs,q⟩:=h
 refine ⟨_,(ze (zw (i:=4) zK.nd rfl (Or.inl rfl) (y9 zb)) (ze (yU PassesOwn.never rfl (qV true (K:=K) rfl rfl g_enumerate (za (pv 1) zb)) (yI rfl (zm (zk (i:=5) zK.nd rfl (Or.inr rfl)) (zm (zk (i:=6) zK.nd rfl (Or.inr rfl)) zH))) (ze (zw (i:=7) zK.nd rfl (Or.inr rfl) (zq x8 (zq wr (pv 2) (zq yN zi (zq yE (zq yE (pv 0) (pv 5)) zi))) zi)) (zj (zL (uV PySem.F.plainAttrs_list PySem.F.slot_list_append PySem.F.type_list_append xu (pv 4) (za (zy zn rfl B.tuple zE (za (zF (CSc.of (N':=["_law_number_here","_law_row","_law_k","_law_at","_law_hands","_law_ends","_law_turned"]) (sub:=[none,some 6,some 0,some 5,some 2,some 3,some 7]) (zg (top 65)) ["_law_k","_law_firsts_here","_law_hands","_law_ends","_law_found","_law_at","_law_row","_law_turned"] rfl rfl (by decide +kernel) rfl) rfl (zU rfl B.range (za (zu zD rfl B.len wq (za (pv 6) zb)) zb)) (fun _ _ _ _ _ _=>zk (i:=0) (show (["_law_number_here","_law_row","_law_k","_law_at","_law_hands","_law_ends","_law_turned"]:List Str).Nodup by decide +kernel) rfl (Or.inl rfl)) (fun _ _ _ _ _ _=>zA) (fun _ _ _ _ _ _=>(zq xt (zZ (vM (K:=K) rfl) (pv 1) (zf qc0 hr rfl (za (pv 2) (za (zq yM (pv 3) zi) (za (pv 0) (za (pv 4) (za (pv 5) zb)))))) (fun _ _=>rfl)) (pv 6)))) zb)) zb)))))) (zj (zr (zy zn rfl B.tuple zE (za (pv 4) zb)))))),?_⟩
 have p16:=zS k4
 obtain ⟨rt,xs,rfl,hrt,hxs⟩:=hrw
 have xl:=hxs.len
 refine ye (fun v H'=>∃ lf,v = .ref lf /\ H lf = none /\ H' = upd H lf (.lst [])) (fun Kk hk=>⟨szl rfl,fun lf hlf=>hk _ _ ⟨lf,rfl,hlf,rfl⟩⟩) ?_
 rintro _ _ ⟨lf,rfl,hlf,rfl⟩
 have g1:=Grow.new (m:=[]) hlf (.lst [])
 have hF1:=zd (H:=H) (a:=lf) (o:=.lst [])
 generalize upd H lf (.lst []) = H1 at g1 hF1 ⊢
 have hrt1:=g1.sqT hrt
 refine ⟨_,rfl,rt,_,rfl,hrt1,sE (xs:=xs) (fun i σ H'=>∃ (e5 e6 e7:Option V) (zs:List V),σ = [some (.int k),some (.ref rt),some (.int h),some (.int e),some (.ref lf),e5,e6,e7] /\ Grow [lf] H1 H' /\ H' lf = some (.lst zs) /\ AllR (zz K H') zs ((rwX k h e rows).take i)) ⟨_,_,_,[],rfl,Grow.refl _ _,hF1,trivial⟩ (fun i σ H' _ ⟨_,_,_,_,_,g,_⟩=>g.sqT hrt1) ?_ ?_⟩
 ·rintro i v σ H2 T hv ⟨e5,e6,e7,zs,rfl,g2,hF2,al2⟩ hT
  obtain ⟨row,hrow,rr,rfl,hrr⟩:=hxs.get hv
  have hi:i < rows.length:=(List.getElem?_eq_some_iff.mp hrow).1
  have hik:i < k:=by rw [← hs.1]; exact hi
  have hm:=hs.2 row (List.mem_of_getElem? hrow)
  have r16:2 ^ (k - 1) <= 16:=zS (by omega)
  have gT:=Grow.new (m:=[]) hT (.tup [.int i,.ref rr])
  have hTt:=zd (H:=H2) (a:=T) (o:=.tup [.int i,.ref rr])
  have nTl:lf ≠ T:=fun z=>by rw [← z,hF2] at hT; cases hT
  have hF3:=gT.keep _ _ (by simp) hF2
  have g3:=g2.trans gT.wk
  have al3:=al2.imp fun x b hb=>gT.board hb
  generalize upd H2 T (.tup [.int i,.ref rr]) = H3 at gT hTt hF3 g3 al3 ⊢
  have hrr3:SqT K H3 rr (row.map V.int):=g3.sqT (g1.sqT hrr)
  refine ⟨T,[.int i,.ref rr],rfl,SqT.of hTt,rfl,_,_,rfl,_,_,rfl,rfl,?_⟩
  refine ye (fun v H'=>v = .int (figI k ((i + 1:Nat):Int) h) /\ H3 = H') (fun Kk hk=>⟨_,rfl,_,rfl,_,rfl,_,_,rfl,rfl,_,_,rfl,rfl,_,_,rfl,rfl,⟨by omega,by omega,by decide⟩,_,_,rfl,rfl,⟨?_,?_⟩,_,_,rfl,rfl,(by show (0:Int) < 2; decide),hk _ _ ⟨congrArg V.int ?_,rfl⟩⟩) ?_
  ·show (0:Int) < 1 * 2 ^ ((k:Int) - (i:Int) - 1).toNat
   rw [show ((k:Int) - (i:Int) - 1) = ((k - i - 1:Nat):Int) by omega,yv]; exact Int.natCast_pos.mpr (Nat.two_pow_pos _)
  ·show (1:Int) * 2 ^ ((k:Int) - (i:Int) - 1).toNat < 2 ^ 200
   rw [show ((k:Int) - (i:Int) - 1) = ((k - i - 1:Nat):Int) by omega,yv]
   have:2 ^ (k - i - 1) <= 16:=zS (by omega)
   omega
  ·have:=figd k4 hik hh
   rw [Int.zero_add] at this; exact this
  rintro _ _ ⟨rfl,rfl⟩
  have f01:=wB (t:=i + 1) k4 (by omega) hh
  refine ⟨_,rfl,.inl ⟨rfl,_,SqL.of hF3⟩,_,rfl,rr,_,rfl,.inr hrr3,_,rfl,by rw [List.length_map,hm.1]; omega,by rw [List.length_map,hm.1]; omega,yP (fun j ys H'=>Grow [] H3 H' /\ ys = ((List.range j).map fun n=>xb (row.getD (swX k (i + 1) h e n) 0) (figI k ((i + 1:Nat):Int) h)).map V.int) ⟨Grow.refl _ _,rfl⟩ ?_ ?_⟩
  ·rintro j ys H4 hj ⟨g4,rfl⟩
   have hj':j < 2 ^ (k - 1):=by rw [List.length_map,hm.1] at hj; omega
   have hjk:j < 2 ^ k:=Nat.lt_of_lt_of_le hj' (Nat.pow_le_pow_right (by decide) (by omega))
   have hlt:swX k (i + 1) h e j < row.length:=by rw [hm.1]; exact YH (by omega) (by omega) hh he hj'
   refine ⟨_,rfl,_,rfl,_,rfl,_,_,rfl,rfl,_,rfl,_,rfl,_,rfl,_,_,_,_,_,rfl,k,i + 1,j,h,e,rfl,rfl,congrArg V.int (Int.zero_add _),rfl,rfl,k4,by omega,by omega,hjk,hh,he,?_⟩
   refine ⟨rr,row.map V.int,_,.int (row.getD (swX k (i + 1) h e j) 0),rfl,rfl,g4.sqT hrr3,uT ?_,_,rfl,_,_,rfl,rfl,zG (by simp; omega),g4,?_⟩
   ·rw [List.getElem?_map,List.getElem?_eq_getElem hlt,List.getD_eq_getElem?_getD,List.getElem?_eq_getElem hlt]; rfl
   ·rw [List.range_succ,List.map_append,List.map_append]; rfl
  ·rintro ys H4 ⟨g4,rfl⟩ l hl
   have ln:((((row.map V.int).length:Nat):Int)).toNat = row.length:=by rw [List.length_map,Int.toNat_natCast]
   rw [ln]
   refine ⟨l,_,rfl,.inl ⟨SqL.of zd,fun r hr'=>?_⟩⟩
   have g5:=Grow.new (m:=[]) hl (.lst (((List.range row.length).map fun n=>xb (row.getD (swX k (i + 1) h e n) 0) (figI k ((i + 1:Nat):Int) h)).map V.int))
   have g6:=Grow.new (m:=[]) hr' (.tup (((List.range row.length).map fun n=>xb (row.getD (swX k (i + 1) h e n) 0) (figI k ((i + 1:Nat):Int) h)).map V.int))
   have G:=g4.trans (g5.trans g6)
   have hF6:=G.keep _ _ (by simp) hF3
   refine ⟨lf,zs,.ref r,rfl,rfl,hF6,zG (by rw [al2.len,List.length_take]; omega),?_⟩
   have gs:Grow [lf] _ (upd _ lf (HO.lst (zs ++ [.ref r]))):=Grow.set hF6 (by simp) _
   refine ⟨_,_,_,zs ++ [.ref r],rfl,g3.trans (G.wk.trans gs),zd,?_⟩
   rw [List.take_succ,show (rwX k h e rows)[i]? = some ((List.range row.length).map fun n=>xb (row.getD (swX k (i + 1) h e n) 0) (figI k ((i + 1:Nat):Int) h)) by unfold rwX; rw [List.getElem?_mapIdx,hrow]; rfl]
   exact (al3.imp fun x b hb=>(G.wk.trans gs).board hb).app (AllR.one (gs.board ⟨r,rfl,SqT.of zd⟩))
 ·rintro σ H2 ⟨e5,e6,e7,zs,rfl,g2,hF2,al2⟩
  rw [xl,List.take_of_length_le (by unfold rwX; rw [List.length_mapIdx]; exact Nat.le_refl _)] at al2
  refine ⟨_,rfl,lf,_,rfl,.inl ⟨SqL.of hF2,fun r hr'=>?_⟩⟩
  have gr:=Grow.new (m:=[]) hr' (.tup zs)
  have G:Grow [] H H2:=((g1.mono (m':=[lf]) (by simp)).trans g2).less fun d hd=>by
   rw [List.mem_singleton.mp hd]; exact .inr hlf
  exact q _ _ (G.trans gr) ⟨r,zs,rfl,SqT.of zd,al2.imp fun x b hb=>gr.board hb⟩
theorem zt:FnScope ["_law_k","_law_board","_law_asks_here","_law_firsts_here","_law_hands","_law_boxes","_law_ends","_law_beside","_law_others","_law_other_firsts_here","_law_answers","_law_later","_law_due","_law_end","_law_row","_law_brought","_law_memory_here","_law_loads"] ["_law_k","_law_board","_law_asks_here","_law_firsts_here","_law_hands","_law_boxes"] (zg (top 68)):=⟨rfl,rfl,rfl,by decide +kernel,rfl,by decide +kernel,by decide +kernel⟩
theorem vw (F:Fun K "_law_is_right" "_law_is_right" (top 68) f fd) (B:Blt mg) (qc0:zh P w K mg base n "plain_loads" ["k","board","asks"] (YD K)) (qc1:zh P w K mg base n "joined_loads" ["k","board","asks"] (YC K)) (qc2:zh P w K mg base n "_law_other_loads" ["_law_k","_law_loads","_law_hands","_law_ends"] (YL K)) (qc3:zh P w K mg base n "remembered" ["k","board","asks","firsts"] (jm K)) (qc4:zh P w K mg base n "_law_memory" ["_law_k","_law_rows","_law_hands","_law_boxes"] (jo K)) (qc5:zh P w K mg base n "came" ["k","board","asks","firsts"] (sV K)) (qc6:zh P w K mg base n "told_order" ["k","side","firsts"] (sI K)) (qc7:zh P w K mg base n "one_round" ["k","board","asks","firsts"] (uK K)) (qc8:zh P w K mg base n "_law_other_firsts" ["_law_k","_law_firsts_here","_law_hands","_law_ends"] (YK K)) (g_sorted:mg "sorted" = none)   :
  FnOk P w K mg base CX0 (n + 1) f fd ["_law_k","_law_board","_law_asks_here","_law_firsts_here","_law_hands","_law_boxes"] (uR K):=by
 refine F.ok zt ZI (fun cdv A outer s H vs Q E hr h=>?_)
 obtain ⟨x,y,z,u,v,w,rfl,k,b,ks,rows,h,c,rfl,k4,hb,bl,bB,hks,k16,R,sm,hrw,hs,rfl,rfl,hh,hc,q⟩:=h
 refine ⟨_,(ze (zw (i:=6) zt.nd rfl (Or.inr rfl) (zq x8 (pv 5) (zq yN zi (pv 0)))) (ze (zw (i:=7) zt.nd rfl (Or.inl rfl) (zy zn rfl B.tuple zE (za (zF (CSc.of (N':=["_law_box","_law_board","_law_boxes"]) (sub:=[none,some 1,some 5]) (zg (top 68)) ["_law_k","_law_board","_law_asks_here","_law_firsts_here","_law_hands","_law_boxes","_law_ends","_law_beside","_law_others","_law_other_firsts_here","_law_answers","_law_later","_law_due","_law_end","_law_row","_law_brought","_law_memory_here","_law_loads"] rfl rfl (by decide +kernel) rfl) rfl (zU rfl B.range (za zi zb)) (fun _ _ _ _ _ _=>zk (i:=0) (show (["_law_box","_law_board","_law_boxes"]:List Str).Nodup by decide +kernel) rfl (Or.inl rfl)) (fun _ _ _ _ _ _=>zA) (fun _ _ _ _ _ _=>(zZ (vM (K:=K) rfl) (pv 1) (zq xt (pv 0) (pv 2)) (fun _ _=>rfl)))) zb))) (ze (zw (i:=8) zt.nd rfl (Or.inl rfl) (zy zn rfl B.tuple zE (za (zF (CSc.of (N':=["_law_hand","_law_box","_law_deed_here","_law_hands","_law_boxes"]) (sub:=[none,none,none,some 4,some 5]) (zg (top 68)) ["_law_k","_law_board","_law_asks_here","_law_firsts_here","_law_hands","_law_boxes","_law_ends","_law_beside","_law_others","_law_other_firsts_here","_law_answers","_law_later","_law_due","_law_end","_law_row","_law_brought","_law_memory_here","_law_loads"] rfl rfl (by decide +kernel) rfl) rfl (y7 (pv 2)) (fun _ _ _ _ _ _=>yY (K:=K) 3 rfl rfl (zm (zk (i:=0) (show (["_law_hand","_law_box","_law_deed_here","_law_hands","_law_boxes"]:List Str).Nodup by decide +kernel) rfl (Or.inl rfl) (Or.inr rfl)) (zm (zk (i:=1) (show (["_law_hand","_law_box","_law_deed_here","_law_hands","_law_boxes"]:List Str).Nodup by decide +kernel) rfl (Or.inl rfl) (Or.inr rfl)) (zm (zk (i:=2) (show (["_law_hand","_law_box","_law_deed_here","_law_hands","_law_boxes"]:List Str).Nodup by decide +kernel) rfl (Or.inl rfl) (Or.inr rfl)) zH))) rfl rfl) (fun _ _ _ _ _ _=>zA) (fun _ _ _ _ _ _=>(zO (za (zq xt (pv 0) (pv 3)) (za (zq xt (pv 1) (pv 4)) (za (pv 2) zb)))))) zb))) (ze (zw (i:=9) zt.nd rfl (Or.inl rfl) (zf qc8 hr rfl (za (pv 0) (za (pv 3) (za (pv 4) (za (pv 6) zb)))))) (ze (x6 (zf qc7 hr rfl (za (pv 0) (za (pv 1) (za (pv 2) (za (pv 3) zb))))) (yI rfl (zm (zk (i:=10) zt.nd rfl (Or.inl rfl)) (zm (zk (i:=11) zt.nd rfl (Or.inr rfl)) zH)))) (ze (zw (i:=12) zt.nd rfl (Or.inl rfl) (zO (za (pv 10) (za (zy zn rfl B.tuple zE (za (zF (CSc.of (N':=["_law_box","_law_later","_law_boxes"]) (sub:=[none,some 11,some 5]) (zg (top 68)) ["_law_k","_law_board","_law_asks_here","_law_firsts_here","_law_hands","_law_boxes","_law_ends","_law_beside","_law_others","_law_other_firsts_here","_law_answers","_law_later","_law_due","_law_end","_law_row","_law_brought","_law_memory_here","_law_loads"] rfl rfl (by decide +kernel) rfl) rfl (zU rfl B.range (za zi zb)) (fun _ _ _ _ _ _=>zk (i:=0) (show (["_law_box","_law_later","_law_boxes"]:List Str).Nodup by decide +kernel) rfl (Or.inl rfl)) (fun _ _ _ _ _ _=>zA) (fun _ _ _ _ _ _=>(zZ (vM (K:=K) rfl) (pv 1) (zq xt (pv 0) (pv 2)) (fun _ _=>rfl)))) zb)) zb)))) (ze (yi (zJ (qW (K:=K) rfl hr) (zf qc7 hr rfl (za (pv 0) (za (pv 7) (za (pv 8) (za (pv 9) zb))))) (pv 12) (zQ _)) (zj (zr wM)) zC) (ze (yU PassesOwn.never rfl (zU rfl B.range (za (zq yN zi (pv 0)) zb)) (zk (i:=13) zt.nd rfl (Or.inl rfl)) (ze (zw (i:=14) zt.nd rfl (Or.inl rfl) (zy zn rfl B.tuple zE (za (zF (CSc.of (N':=["_law_hand","_law_hands"]) (sub:=[none,some 4]) (zg (top 68)) ["_law_k","_law_board","_law_asks_here","_law_firsts_here","_law_hands","_law_boxes","_law_ends","_law_beside","_law_others","_law_other_firsts_here","_law_answers","_law_later","_law_due","_law_end","_law_row","_law_brought","_law_memory_here","_law_loads"] rfl rfl (by decide +kernel) rfl) rfl (y7 (zf qc6 hr rfl (za (pv 0) (za (pv 13) (za (pv 3) zb))))) (fun _ _ _ _ _ _=>zk (i:=0) (show (["_law_hand","_law_hands"]:List Str).Nodup by decide +kernel) rfl (Or.inl rfl)) (fun _ _ _ _ _ _=>zA) (fun _ _ _ _ _ _=>(zq xt (pv 0) (pv 1)))) zb))) (zj (yi (zJ (qW (K:=K) rfl hr) (zf qc6 hr rfl (za (pv 0) (za (zq xt (pv 13) (pv 6)) (za (pv 9) zb)))) (pv 14) (zQ _)) (zj (zr wM)) zC)))) (ze (zw (i:=15) zt.nd rfl (Or.inl rfl) (zy zn rfl B.tuple zE (za (zu (xX (K:=K) rfl) rfl g_sorted vz (za (zF (CSc.of (N':=["_law_box","_law_deed_here","_law_boxes"]) (sub:=[none,none,some 5]) (zg (top 68)) ["_law_k","_law_board","_law_asks_here","_law_firsts_here","_law_hands","_law_boxes","_law_ends","_law_beside","_law_others","_law_other_firsts_here","_law_answers","_law_later","_law_due","_law_end","_law_row","_law_brought","_law_memory_here","_law_loads"] rfl rfl (by decide +kernel) rfl) rfl (y7 (zf qc5 hr rfl (za (pv 0) (za (pv 1) (za (pv 2) (za (pv 3) zb)))))) (fun _ _ _ _ _ _=>yY (K:=K) 2 rfl rfl (zm (zk (i:=0) (show (["_law_box","_law_deed_here","_law_boxes"]:List Str).Nodup by decide +kernel) rfl (Or.inl rfl) (Or.inr rfl)) (zm (zk (i:=1) (show (["_law_box","_law_deed_here","_law_boxes"]:List Str).Nodup by decide +kernel) rfl (Or.inl rfl) (Or.inr rfl)) zH)) rfl rfl) (fun _ _ _ _ _ _=>zA) (fun _ _ _ _ _ _=>(zO (za (zq xt (pv 0) (pv 2)) (za (pv 1) zb))))) zb)) zb))) (ze (yi (zJ (qW (K:=K) rfl hr) (zf qc5 hr rfl (za (pv 0) (za (pv 7) (za (pv 8) (za (pv 9) zb))))) (pv 15) (zQ _)) (zj (zr wM)) zC) (ze (zw (i:=16) zt.nd rfl (Or.inl rfl) (zf qc4 hr rfl (za (pv 0) (za (zf qc3 hr rfl (za (pv 0) (za (pv 1) (za (pv 2) (za (pv 3) zb))))) (za (pv 4) (za (pv 5) zb)))))) (ze (yi (zJ (qW (K:=K) rfl hr) (zf qc3 hr rfl (za (pv 0) (za (pv 7) (za (pv 8) (za (pv 9) zb))))) (pv 16) (zQ _)) (zj (zr wM)) zC) (ze (zw (i:=17) zt.nd rfl (Or.inl rfl) (y9 (za (zf qc1 hr rfl (za (pv 0) (za (pv 1) (za (pv 2) zb)))) (za (zf qc0 hr rfl (za (pv 0) (za (pv 1) (za (pv 2) zb)))) zb)))) (ze (tj (i:=12) zt.nd rfl rfl (CSc.of (N':=["_law_row","_law_k","_law_hands","_law_ends"]) (sub:=[none,some 0,some 4,some 6]) (zg (top 68)) ["_law_k","_law_board","_law_asks_here","_law_firsts_here","_law_hands","_law_boxes","_law_ends","_law_beside","_law_others","_law_other_firsts_here","_law_answers","_law_later","_law_due","_law_end","_law_row","_law_brought","_law_memory_here","_law_loads"] rfl rfl (by decide +kernel) rfl) rfl (vF (pv 17)) (fun _ _ _ _ _ _=>zk (i:=0) (show (["_law_row","_law_k","_law_hands","_law_ends"]:List Str).Nodup by decide +kernel) rfl (Or.inl rfl)) (fun _ _ _ _ _ _=>zA) (fun _ _ _ _ _ _=>(zf qc2 hr rfl (za (pv 1) (za (pv 0) (za (pv 2) (za (pv 3) zb))))))) (zj (zr (vG (Vu (K:=K) rfl hr) (y9 (za (zf qc1 hr rfl (za (pv 0) (za (pv 7) (za (pv 8) zb)))) (za (zf qc0 hr rfl (za (pv 0) (za (pv 7) (za (pv 8) zb)))) zb))) (pv 12) (zQ _)))))))))))))))))),?_⟩
 have p16:=zS k4
 have ec:(c:Int) % (1 * 2 ^ ((k:Int)).toNat) = ((c % 2 ^ k:Nat):Int):=by rw [yv]; rfl
 have hs':=uP (e:=c % 2 ^ k) k4 hh zo hs
 have R':=rndX hh hc R
 have k16':(ks.map (akX h c)).length <= 16:=by rw [List.length_map]; exact k16
 refine ye (fun v H'=>v = .int ((c % 2 ^ k:Nat):Int) /\ H = H') (fun Kk hk=>⟨_,rfl,_,rfl,_,_,rfl,rfl,x9 k4,_,_,rfl,rfl,by rw [yv]; exact Int.natCast_pos.mpr (Nat.two_pow_pos k),hk _ _ ⟨congrArg V.int ec,rfl⟩⟩) ?_
 rintro _ _ ⟨rfl,rfl⟩
 obtain ⟨rb,rfl,hrb⟩:=id hb
 refine ye (fun v H'=>zz K H' v (bdX c b) /\ Grow [] H H') (fun Kk hk=>⟨_,rfl,by decide,by decide,yP (fun j ys H'=>Grow [] H H' /\ ys = ((List.range j).map fun i=>bdF b (i ^^^ c)).map V.int) ⟨Grow.refl _ _,rfl⟩ ?_ ?_⟩) ?_
 ·rintro j ys H1 hj ⟨g1,rfl⟩
  have hj':j < 16:=by have:j < ((16:Int)).toNat:=hj; omega
  have hx:j ^^^ c < b.length:=by rw [bl]; exact tM hj' hc
  refine ⟨_,rfl,_,rfl,_,rfl,_,_,rfl,rfl,rb,b.map V.int,_,.int (bdF b (j ^^^ c)),rfl,rfl,g1.sqT hrb,?_,zG (by simp; omega),g1,?_⟩
  ·rw [Int.zero_add,xn]
   refine uT ?_
   unfold bdF
   rw [List.getElem?_map,List.getElem?_eq_getElem hx,List.getD_eq_getElem?_getD,List.getElem?_eq_getElem hx]; rfl
  ·rw [List.range_succ,List.map_append,List.map_append]; rfl
 ·rintro ys H1 ⟨g1,rfl⟩ l hl
  have gl:=Grow.new (m:=[]) hl (.lst (((List.range 16).map fun i=>bdF b (i ^^^ c)).map V.int))
  exact ⟨l,_,rfl,.inl ⟨SqL.of zd,fun r hr'=>hk _ _ ⟨⟨r,rfl,SqT.of zd⟩,g1.trans (gl.trans (Grow.new hr' _))⟩⟩⟩
 rintro yb' H1 ⟨hb',g1⟩
 obtain ⟨ra,xs,rfl,hra,hxs⟩:=g1.asks hks
 have xl:=hxs.len
 refine ye (fun v H'=>xf K H' v (ks.map (akX h c)) /\ Grow [] H1 H') (fun Kk hk=>⟨_,rfl,ra,rfl,⟨_,hra⟩,xw (xs:=xs) (fun n ys σ' H'=>Grow [] H1 H' /\ (∃ e1 e2 e3,σ' = [e1,e2,e3,some (.int h),some (.int c)]) /\ AllA K H' ys ((ks.take n).map (akX h c))) ⟨Grow.refl _ _,⟨_,_,_,rfl⟩,trivial⟩ (fun n ys σ' H' _ w=>w.1.sqT hra) ?_ ?_⟩) ?_
 ·rintro n x ys σ' H2 hx ⟨g2,⟨e1,e2,e3,rfl⟩,al2⟩
  obtain ⟨a,ha,r,rd,rfl,h1,h2⟩:=hxs.get hx
  have hn:=(List.getElem?_eq_some_iff.mp ha).1
  obtain ⟨z1,z2⟩:=Uz (h:=h) (c:=c) R (List.mem_of_getElem? ha)
  refine ⟨r,_,rfl,g2.sqT h1,rfl,_,_,rfl,_,_,rfl,_,_,rfl,rfl,?_⟩
  refine ⟨_,rfl,_,rfl,_,_,rfl,rfl,_,rfl,_,rfl,_,_,rfl,rfl,_,rfl,szl rfl,fun t ht=>⟨zG (by rw [al2.len,List.length_map,List.length_take]; omega),g2.trans (Grow.new ht _),⟨_,_,_,rfl⟩,?_⟩⟩
  rw [List.take_succ,ha,List.map_append]
  exact ((Grow.new (m:=[]) ht _).allA al2).snoc ⟨t,rd,rfl,SqT.of (zd.trans (by show some (HO.tup [V.int (Builtin.bitXor a.hand (h:Int)),V.int (Builtin.bitXor a.box (c:Int)),.ref rd]) = _; rw [z1,z2])),(Grow.new (m:=[]) ht _).sqT (g2.sqT h2)⟩
 ·rintro ys σ' H2 ⟨g2,_,al2⟩ l hl
  rw [xl,List.take_length] at al2
  have gl:=(Grow.new (m:=[]) hl (.lst ys))
  exact ⟨l,_,rfl,.inl ⟨SqL.of zd,fun r hr'=>hk _ _ ⟨⟨r,ys,rfl,SqT.of zd,(gl.trans (Grow.new hr' _)).allA al2⟩,g2.trans (gl.trans (Grow.new hr' _))⟩⟩⟩
 rintro ya' H2 ⟨hks',g2⟩
 have G2:=g1.trans g2
 refine ye (fun v H'=>zM K H' v (rwX k h (c % 2 ^ k) rows) /\ Grow [] H2 H') (fun Kk hk=>⟨_,rfl,_,rfl,_,rfl,_,rfl,_,_,_,_,rfl,k,rows,h,c % 2 ^ k,rfl,G2.rows hrw,rfl,rfl,k4,hh,zo,hs,fun y3 H3 g3 hR3=>hk _ _ ⟨hR3,g3⟩⟩) ?_
 rintro yr' H3 ⟨hrw',g3⟩
 have G3:=G2.trans g3
 have hb3:=g3.board (g2.board hb')
 have hks3:=g3.asks hks'
 have bl1:1 <= b.length:=by omega
 have bl16:b.length <= 16:=by omega
 have Rb:RndOk k b.length ks:=by rw [bl]; exact R
 have Rb':RndOk k (bdX c b).length (ks.map (akX h c)):=by rw [yz]; exact R'
 refine ⟨_,rfl,_,rfl,_,rfl,_,rfl,_,_,_,_,rfl,k,b,ks,rows,rfl,k4,G3.board hb,bl1,bl16,G3.asks hks,k16,Rb,G3.rows hrw,hs,fun yt H4 g4 hT4=>?_⟩
 obtain ⟨r0,r1,r2,rfl,hr0,hr1,hr2⟩:=id hT4
 have G4:=G3.trans g4
 refine ⟨r0,_,rfl,hr0,rfl,_,_,rfl,_,_,rfl,rfl,?_⟩
 have fl:(finL k rows ks b).length = 16:=by unfold finL; rw [List.length_map,List.length_range,bl]
 refine c_nx (ye (fun v H'=>vd K H' v (ansR k rows ks b,bdX c (finL k rows ks b)) /\ Grow [] H4 H') (fun Kk hk=>⟨_,rfl,_,rfl,by decide,by decide,yP (fun j ys H'=>Grow [] H4 H' /\ ys = ((List.range j).map fun i=>bdF (finL k rows ks b) (i ^^^ c)).map V.int) ⟨Grow.refl _ _,rfl⟩ ?_ ?_⟩) ?_)
 ·rintro j ys H5 hj ⟨g5,rfl⟩
  have hj':j < 16:=by have:j < ((16:Int)).toNat:=hj; omega
  have hx:j ^^^ c < (finL k rows ks b).length:=by rw [fl]; exact tM hj' hc
  refine ⟨_,rfl,_,rfl,_,rfl,_,_,rfl,rfl,r2,(finL k rows ks b).map V.int,_,.int (bdF (finL k rows ks b) (j ^^^ c)),rfl,rfl,g5.sqT hr2,?_,zG (by simp; omega),g5,?_⟩
  ·rw [Int.zero_add,xn]
   refine uT ?_
   unfold bdF
   rw [List.getElem?_map,List.getElem?_eq_getElem hx,List.getD_eq_getElem?_getD,List.getElem?_eq_getElem hx]; rfl
  ·rw [List.range_succ,List.map_append,List.map_append]; rfl
 ·rintro ys H5 ⟨g5,rfl⟩ l hl
  have gl:=Grow.new (m:=[]) hl (.lst (((List.range 16).map fun i=>bdF (finL k rows ks b) (i ^^^ c)).map V.int))
  refine ⟨l,_,rfl,.inl ⟨SqL.of zd,fun r hr'=>⟨szl rfl,fun t ht=>?_⟩⟩⟩
  have gr:=Grow.new (m:=[]) hr' (.tup (((List.range 16).map fun i=>bdF (finL k rows ks b) (i ^^^ c)).map V.int))
  have gt:=Grow.new (m:=[]) ht (.tup [.ref r1,.ref r])
  have G:=g5.trans (gl.trans (gr.trans gt))
  exact hk _ _ ⟨⟨t,r1,r,rfl,SqT.of zd,G.sqT hr1,gt.sqT (SqT.of zd)⟩,G⟩
 rintro yd H5 ⟨hd5,g5⟩
 have g45:=g4.trans g5
 have G5:=G4.trans g5
 refine Yf (fun c H'=>c = false /\ Grow [] H5 H') (fun Kk hk=>⟨_,rfl,_,rfl,_,rfl,_,rfl,_,_,_,_,rfl,k,bdX c b,ks.map (akX h c),rwX k h (c % 2 ^ k) rows,rfl,k4,g45.board hb3,by rw [yz]; decide,by rw [yz]; decide,g45.asks hks3,k16',Rb',g45.rows hrw',hs',fun yt' H6 g6 hT6=>⟨_,rfl,?_⟩⟩) ?_
 ·rw [ansX k4 hh hc hs R,finX bl k4 hh hc hs R] at hT6
  exact ql hT6 (g6.told hd5) ⟨_,rfl,hk _ _ ⟨rfl,g6⟩⟩
 rintro _ H6 ⟨rfl,g6⟩
 refine iteF (sP ?_)
 have G6:=G5.trans g6
 have g36:=g45.trans g6
 have e1k:(1:Int) * 2 ^ ((k:Int)).toNat = ((2 ^ k:Nat):Int):=yv
 refine ⟨_,rfl,_,_,rfl,rfl,x9 k4,_,rfl,by rw [e1k]; omega,by rw [e1k]; omega,xr (fun j σ H'=>∃ (e13 e14 e15 e16 e17:Option V),σ = [some (.int k),some (.ref rb),some (.ref ra),some u,some (.int h),some (.int c),some (.int ((c % 2 ^ k:Nat):Int)),some yb',some ya',some yr',some (.ref r1),some (.ref r2),some yd,e13,e14,e15,e16,e17] /\ Grow [] H6 H') ⟨_,_,_,_,_,rfl,Grow.refl _ _⟩ ?_ ?_⟩
 ·rintro j σ H7 hj ⟨e13,e14,e15,e16,e17,rfl,g7⟩
  have hjk:j < 2 ^ k:=by rw [e1k] at hj; omega
  have G7:=G6.trans g7
  have ordj:=ordX (rows:=rows) (e:=c % 2 ^ k) k4 hh zo hs hjk k (Nat.le_refl k)
  rw [Nat.sub_self] at ordj
  refine ye (fun v H'=>zz K H' v ((ordL k (rwX k h (c % 2 ^ k) rows) (j ^^^ c % 2 ^ k) k).map fun g:Nat=>(g:Int)) /\ Grow [] H7 H') (fun Kk hk=>⟨_,rfl,_,rfl,_,rfl,_,_,_,rfl,k,j,rows,rfl,congrArg V.int (Int.zero_add _),G7.rows hrw,k4,hjk,hs,fun yo H8 g8 ⟨ro,e8,hro⟩=>?_⟩) ?_
  ·subst e8
   have ol:(ordL k rows j k).length = 2 ^ k:=(ordF (rows:=rows) k4 hs hjk k (Nat.le_refl k)).len
   refine ⟨ro,rfl,⟨_,hro⟩,xw (xs:=yZ (ordL k rows j k)) (fun n ys σ' H'=>H' = H8 /\ (∃ e1,σ' = [e1,some (.int h)]) /\ ys = (((ordL k rows j k).take n).map fun g:Nat=>((g ^^^ h:Nat):Int)).map V.int) ⟨rfl,⟨_,rfl⟩,rfl⟩ (fun n ys σ' H' _ w=>by rw [w.1]; exact hro) ?_ ?_⟩
   ·rintro n x ys σ' H9 hx ⟨rfl,⟨e1,rfl⟩,rfl⟩
    unfold yZ at hx
    rw [List.getElem?_map] at hx
    obtain ⟨g,hg,rfl⟩:=Option.map_eq_some_iff.mp hx
    have hn:=(List.getElem?_eq_some_iff.mp hg).1
    refine ⟨_,rfl,_,rfl,_,_,rfl,rfl,zG (by rw [List.length_map,List.length_map,List.length_take]; omega),rfl,⟨_,rfl⟩,?_⟩
    rw [List.take_succ,hg,List.map_append,List.map_append]
    show _ ++ [V.int (Builtin.bitXor (g:Int) (h:Int))] = _ ++ [V.int ((g ^^^ h:Nat):Int)]
    rw [xn]
   ·rintro ys σ' H9 ⟨rfl,_,rfl⟩ l hl
    have nl:(yZ (ordL k rows j k)).length = (ordL k rows j k).length:=by unfold yZ; rw [List.length_map]
    rw [nl,List.take_length]
    have em:((ordL k rows j k).map fun g:Nat=>((g ^^^ h:Nat):Int)) = (ordL k (rwX k h (c % 2 ^ k) rows) (j ^^^ c % 2 ^ k) k).map fun g:Nat=>(g:Int):=by
     rw [ordj,List.map_map]
     refine List.map_congr_left fun g _=>?_
     show ((g ^^^ h:Nat):Int) = ((lnX k 0 h (c % 2 ^ k) g:Nat):Int)
     rw [YI (e:=c % 2 ^ k) hh zo]
    rw [em]
    have gl:=Grow.new (m:=[]) hl (.lst (((ordL k (rwX k h (c % 2 ^ k) rows) (j ^^^ c % 2 ^ k) k).map fun g:Nat=>(g:Int)).map V.int))
    exact ⟨l,_,rfl,.inl ⟨SqL.of zd,fun r hr'=>hk _ _ ⟨⟨r,rfl,SqT.of zd⟩,g8.trans (gl.trans (Grow.new hr' _))⟩⟩⟩
  rintro yw H8 ⟨hw8,g8⟩
  refine ⟨_,rfl,_,rfl,_,rfl,_,_,rfl,rfl,_,rfl,_,_,_,rfl,k,j ^^^ c % 2 ^ k,rwX k h (c % 2 ^ k) rows,rfl,congrArg V.int ?_,(g36.trans (g7.trans g8)).rows hrw',k4,Nat.xor_lt_two_pow hjk zo,hs',fun yo H9 g9 ⟨ro,e9,hro⟩=>⟨_,rfl,?_⟩⟩
  ·rw [Int.zero_add,xn]
  ·exact j0 (p:=(ordL k (rwX k h (c % 2 ^ k) rows) (j ^^^ c % 2 ^ k) k).map fun g:Nat=>(g:Int)) ⟨ro,e9,by rw [← jD]; exact hro⟩ (g9.board hw8) ⟨_,rfl,iteF ⟨_,_,_,_,_,rfl,g7.trans (g8.trans g9)⟩⟩
 rintro σ H7 ⟨e13,e14,e15,e16,e17,rfl,g7⟩
 refine c_nx ?_
 have G7:=G6.trans g7
 have g37:=g36.trans g7
 have m16:b.length = 16:=bl
 refine ye (fun v H'=>wF K H' v (yu k (rwX k h (c % 2 ^ k) rows) (ks.map (akX h c)) 16) /\ Grow [] H7 H') (fun Kk hk=>⟨_,rfl,_,rfl,_,rfl,_,rfl,_,_,_,_,rfl,k,b,ks,rows,rfl,k4,G7.board hb,bl1,bl16,G7.asks hks,k16,Rb,G7.rows hrw,hs,fun yc H8 g8 hC=>?_⟩) ?_
 ·rw [bl] at hC
  obtain ⟨rc,zc,rfl,hrc,hzc⟩:=hC
  have zl:=hzc.len
  have cl:(yu k rows ks 16).length <= 16:=by have:=wG (m:=16) k4 hs R; omega
  refine ⟨rc,rfl,⟨_,hrc⟩,xw (xs:=zc) (fun n ys σ' H'=>Grow [] H8 H' /\ (∃ e1 e2,σ' = [e1,e2,some (.int c)]) /\ ∃ its:List (List Int × List V),AllR (yy K H') ys its /\ its.length = n /\ ∀ (i:Nat) (p:List Int × List V),its[i]? = some p -> ∃ m,(yu k rows ks 16)[i]? = some m /\ p.1 = [((m.1 ^^^ c:Nat):Int)] /\ ∃ v,p.2 = [v] /\ zx K H' v m.2) ⟨Grow.refl _ _,⟨_,_,rfl⟩,[],trivial,rfl,(fun i p z=>nomatch z)⟩ (fun n ys σ' H' _ w=>w.1.sqT hrc) ?_ ?_⟩
  ·rintro n x ys σ' H9 hx ⟨g9,⟨e1,e2,rfl⟩,its,al9,il,en⟩
   obtain ⟨m,hm,rr,dv,rfl,hrr,hdv⟩:=hzc.get hx
   have hn:=(List.getElem?_eq_some_iff.mp hm).1
   refine ⟨rr,_,rfl,g9.sqT hrr,rfl,_,_,rfl,_,_,rfl,rfl,?_⟩
   have ex:Builtin.bitXor ((m.1:Nat):Int) ((c:Nat):Int) = ((m.1 ^^^ c:Nat):Int):=xn
   refine ⟨_,rfl,_,rfl,_,_,rfl,rfl,_,rfl,szl rfl,fun t ht=>?_⟩
   have gt:=Grow.new (m:=[]) ht (.tup [.int (Builtin.bitXor ((m.1:Nat):Int) ((c:Nat):Int)),dv])
   refine ⟨zG (by rw [al9.len,il]; omega),g9.trans gt,⟨_,_,rfl⟩,its ++ [([((m.1 ^^^ c:Nat):Int)],[dv])],(al9.imp fun x p h=>yy.grow gt h).app (AllR.one ⟨t,rfl,SqT.of (zd.trans (by rw [← ex]; rfl))⟩),by rw [List.length_append,il]; rfl,fun j p hp=>?_⟩
   by_cases hj:j < its.length
   ·rw [List.getElem?_append_left hj] at hp
    obtain ⟨m',a,b,v',d,f⟩:=en j p hp
    exact ⟨m',a,b,v',d,gt.deed f⟩
   ·have hj':j = its.length:=by
     have:=(List.getElem?_eq_some_iff.mp hp).1
     rw [List.length_append] at this
     have:j < its.length + 1:=this
     omega
    rw [hj',List.getElem?_append_right (Nat.le_refl _),Nat.sub_self] at hp
    cases Option.some.inj hp
    exact ⟨m,by rw [hj',il]; exact hm,rfl,dv,rfl,gt.deed (g9.deed hdv)⟩
  ·rintro ys σ' H9 ⟨g9,_,its,al9,il,en⟩ l hl
   have gl:=Grow.new (m:=[]) hl (.lst ys)
   obtain ⟨nd,ent,all⟩:=UA k4 hh hc hs R (its:=its) (by rw [il,zl]) en
   refine ⟨l,ys,its,1,rfl,SqL.of zd,al9.imp (fun x p h=>yy.grow gl h),nd,Nat.le_refl 1,fun p hp=>?_,by rw [il,zl]; omega,fun p9 zs' items' hp9 pm pw al10=>?_⟩
   ·obtain ⟨j,v,d,rfl,_⟩:=ent p hp
    rfl
   have gp:=Grow.new (m:=[]) hp9 (.lst zs')
   refine ⟨p9,zs',rfl,.inl ⟨SqL.of zd,fun r hr'=>?_⟩⟩
   have gr:=Grow.new (m:=[]) hr' (.tup zs')
   have fin:=jY (K:=K) (its:=its) (fun p hp=>by obtain ⟨j,v,d,a,b,e⟩:=ent p hp; exact ⟨j,v,d,a,b,gl.deed e⟩) nd all pm pw al10
   exact hk _ _ ⟨⟨r,zs',rfl,SqT.of zd,fin.imp fun x p ⟨r',dv,e,h1,h2⟩=>⟨r',dv,e,(gp.trans gr).sqT h1,(gp.trans gr).deed h2⟩⟩,g8.trans (g9.trans (gl.trans (gp.trans gr)))⟩
 rintro yc H8 ⟨hC8,g8⟩
 have g38:=g37.trans g8
 refine Yf (fun c H'=>c = false /\ Grow [] H8 H') (fun Kk hk=>⟨_,rfl,_,rfl,_,rfl,_,rfl,_,_,_,_,rfl,k,bdX c b,ks.map (akX h c),rwX k h (c % 2 ^ k) rows,rfl,k4,g38.board hb3,by rw [yz]; decide,by rw [yz]; decide,g38.asks hks3,k16',Rb',g38.rows hrw',hs',fun yt' H9 g9 hC9=>⟨_,rfl,?_⟩⟩) ?_
 ·rw [yz] at hC9
  exact qi hC9 (hC8.grow97 g9) ⟨_,rfl,hk _ _ ⟨rfl,g9⟩⟩
 rintro _ H9 ⟨rfl,g9⟩
 refine iteF (sP ?_)
 have g39:=g38.trans g9
 have G9:=G7.trans (g8.trans g9)
 refine ye (fun v H'=>∃ L',v6 K H' v L' /\ RemS k 16 (rwX k h (c % 2 ^ k) rows) (ks.map (akX h c)) L' /\ Grow [] H9 H') (fun Kk hk=>⟨_,rfl,_,rfl,_,rfl,_,rfl,_,rfl,_,_,_,_,rfl,k,b,ks,rows,rfl,k4,G9.board hb,bl1,bl16,G9.asks hks,k16,Rb,G9.rows hrw,hs,fun ym L H10 g10 hM hS=>⟨_,rfl,_,rfl,_,_,_,_,rfl,k,L,h,c,rows,ks,rfl,hM,rfl,rfl,k4,hh,hc,hs,R,k16,by rw [bl] at hS; exact hS,fun y' L' H11 g11 hM' hS'=>hk _ _ ⟨L',hM',hS',g10.trans g11⟩⟩⟩) ?_
 rintro ym H10 ⟨L',hM10,hS10,g10⟩
 have g310:=g39.trans g10
 refine Yf (fun c H'=>c = false /\ Grow [] H10 H') (fun Kk hk=>⟨_,rfl,_,rfl,_,rfl,_,rfl,_,_,_,_,rfl,k,bdX c b,ks.map (akX h c),rwX k h (c % 2 ^ k) rows,rfl,k4,g310.board hb3,by rw [yz]; decide,by rw [yz]; decide,g310.asks hks3,k16',Rb',g310.rows hrw',hs',fun yt' L2' H11 g11 hM11 hS11=>⟨_,rfl,?_⟩⟩) ?_
 ·rw [yz] at hS11
  have e:L2' = L':=hS11.eq hS10
  rw [e] at hM11
  exact j3 hM11 (hM10.grow g11) ⟨_,rfl,hk _ _ ⟨rfl,g11⟩⟩
 rintro _ H11 ⟨rfl,g11⟩
 refine iteF (sP ?_)
 have G11:=G9.trans (g10.trans g11)
 have g311:=g310.trans g11
 refine ye (fun v H'=>∃ l v0 v1,v = .ref l /\ H' l = some (.lst [v0,v1]) /\ zM K H' v0 (jlR k ks 16) /\ zM K H' v1 (plR k ks) /\ Grow [] H11 H') (fun Kk hk=>⟨_,rfl,_,rfl,_,rfl,_,_,_,rfl,k,b,ks,rfl,k4,G11.board hb,bl1,bl16,G11.asks hks,k16,Rb,fun v0 H12 g12 h0=>⟨_,rfl,_,rfl,_,rfl,_,_,_,rfl,k,b,ks,rfl,k4,(G11.trans g12).board hb,bl1,bl16,(G11.trans g12).asks hks,k16,Rb,fun v1 H13 g13 h1=>⟨szl rfl,fun l hl=>hk _ _ ⟨l,v0,v1,rfl,zd,?_,(Grow.new (m:=[]) hl _).rows h1,g12.trans (g13.trans (Grow.new hl _))⟩⟩⟩⟩) ?_
 ·rw [bl] at h0; exact (g13.trans (Grow.new (m:=[]) hl _)).rows h0
 rintro _ H12 ⟨ll,v0,v1,rfl,hll,h0,h1,g12⟩
 have g312:=g311.trans g12
 refine ye (fun v H'=>∃ l w0 w1,v = .ref l /\ H' l = some (.lst [w0,w1]) /\ zM K H' w0 (jlR k (ks.map (akX h c)) 16) /\ zM K H' w1 (plR k (ks.map (akX h c))) /\ Grow [] H12 H') (fun Kk hk=>⟨_,rfl,ll,rfl,⟨_,SqL.of hll⟩,xO (xs:=[v0,v1]) (fun n ys σ' H'=>Grow [] H12 H' /\ (∃ e0,σ' = [e0,some (.int k),some (.int h),some (.int ((c % 2 ^ k:Nat):Int))]) /\ AllR (zM K H') ys ([jlR k (ks.map (akX h c)) 16,plR k (ks.map (akX h c))].take n)) ⟨Grow.refl _ _,⟨_,rfl⟩,trivial⟩ (fun n ys σ' H' _ w=>SqL.of (w.1.keep _ _ (by simp) hll)) ?_ ?_⟩) ?_
 ·rintro n x ys σ' H13 hx ⟨g13,⟨e0,rfl⟩,al⟩
  have yl:=al.len
  match n,hx with
  | 0,hx =>
   cases Option.some.inj hx
   refine ⟨_,rfl,_,rfl,_,rfl,_,rfl,_,_,_,_,rfl,k,jlR k ks 16,h,c % 2 ^ k,rfl,g13.rows h0,rfl,rfl,k4,hh,zo,WS,fun y14 H14 g14 hR=>⟨zG (by rw [yl]; simp),g13.trans g14,⟨_,rfl⟩,?_⟩⟩
   rw [jlX k4 hh hc R] at hR
   exact (al.imp fun x r hr=>g14.rows hr).app (AllR.one hR)
  | 1,hx =>
   cases Option.some.inj hx
   refine ⟨_,rfl,_,rfl,_,rfl,_,rfl,_,_,_,_,rfl,k,plR k ks,h,c % 2 ^ k,rfl,g13.rows h1,rfl,rfl,k4,hh,zo,WT,fun y14 H14 g14 hR=>⟨zG (by rw [yl]; simp),g13.trans g14,⟨_,rfl⟩,?_⟩⟩
   rw [plX k4 hh R] at hR
   exact (al.imp fun x r hr=>g14.rows hr).app (AllR.one hR)
  | n + 2,hx=>cases hx
 ·rintro ys σ' H13 ⟨g13,_,al⟩ l hl
  match ys,al with
  | [w0,w1],al =>
   have gl:=Grow.new (m:=[]) hl (.lst [w0,w1])
   exact hk _ _ ⟨l,w0,w1,rfl,zd,gl.rows al.1,gl.rows al.2.1,g13.trans gl⟩
  | [],al=>exact al.elim
  | [_],al=>exact al.2.elim
  | _ :: _ :: _ :: _,al=>exact al.2.2.elim
 rintro _ H13 ⟨lw,w0,w1,rfl,hlw,hw0,hw1,g13⟩
 have g313:=g312.trans g13
 refine ⟨_,rfl,_,rfl,_,rfl,_,_,_,rfl,k,bdX c b,ks.map (akX h c),rfl,k4,g313.board hb3,by rw [yz]; decide,by rw [yz]; decide,g313.asks hks3,k16',Rb',fun u0 H14 g14 hu0=>?_⟩
 refine ⟨_,rfl,_,rfl,_,rfl,_,_,_,rfl,k,bdX c b,ks.map (akX h c),rfl,k4,(g313.trans g14).board hb3,by rw [yz]; decide,by rw [yz]; decide,(g313.trans g14).asks hks3,k16',Rb',fun u1 H15 g15 hu1=>?_⟩
 rw [yz] at hu0
 refine ⟨szl rfl,fun l hl=>⟨_,rfl,?_⟩⟩
 have gl:=Grow.new (m:=[]) hl (.lst [u0,u1])
 have gg:=g14.trans (g15.trans gl)
 refine j4 (SqL.of zd) (SqL.of (gg.keep _ _ (by simp) hlw)) ((g15.trans gl).rows hu0) (gl.rows hu1) (gg.rows hw0) (gg.rows hw1) ?_
 exact q _ (G11.trans (g12.trans (g13.trans gg)))
theorem vk:FnScope ["_law_pot_here","_law_many","_law_digit"] ["_law_pot_here","_law_many"] (zg (top 58)):=⟨rfl,rfl,rfl,by decide +kernel,rfl,by decide +kernel,by decide +kernel⟩
theorem rD (F:Fun K "_law_take" "_law_take" (top 58) f fd) (B:Blt mg)     :
  FnOk P w K mg base CX0 (n + 1) f fd ["_law_pot_here","_law_many"] (wP K):=by
 refine F.ok vk yp (fun cdv A outer s H vs Q E hr h=>?_)
 obtain ⟨x,y,rfl,a,m,rfl,rfl,⟨p0,p1,hp,h0⟩,hm,hm2,q⟩:=h
 refine ⟨_,(ze (yi (zJ Wf (zZ z9 (pv 0) zi (fun _ _=>rfl)) zi (zQ _)) (ze (x6 (zu si rfl B.divmod Y6 (za (zZ z9 (pv 0) zi (fun _ _=>rfl)) (za (pv 1) zb))) (yI rfl (zm (Zd (pv 0) zi uU) (zm (zk (i:=2) vk.nd rfl (Or.inl rfl)) zH)))) (zj (zr (pv 2)))) zC) (ze (x6 (zq x8 (zq yM (zq xJ (zZ z9 (pv 0) zi (fun _ _=>rfl)) zi) zi) zi) (Zd (pv 0) zi uU)) (zj (zr (zq x8 (zq wr (zq x8 (zq qJ (zZ z9 (pv 0) zi (fun _ _=>rfl)) zi) zi) zi) (pv 1)))))),?_⟩
 refine ⟨_,rfl,a,_,_,_,rfl,rfl,SqL.of hp,rfl,_,_,rfl,rfl,_,rfl,?_⟩
 refine ite2 (fun c=>?_) (fun c=>?_)
 ·refine ⟨_,rfl,a,_,_,_,rfl,rfl,SqL.of hp,rfl,_,rfl,p0,m,rfl,⟨hm,hm2⟩,fun t ht=>?_⟩
  have hp':upd H t (.tup [.int (p0 / m),.int (p0 % m)]) a = some (.lst [.int p0,.int p1]):=by rw [zp (zv hp ht)]; exact hp
  refine ⟨t,_,rfl,SqT.of zd,rfl,_,_,rfl,_,rfl,a,_,0,0,rfl,rfl,hp',rfl,_,_,rfl,rfl,?_⟩
  exact ⟨_,rfl,q _ _ (Int.emod_nonneg _ (by omega)) (Int.emod_lt_of_pos _ hm) ((Grow.new ht _).trans (Grow.set hp' (by simp) _)) ⟨p0 / m,p1,zd,Int.ediv_nonneg h0 (by omega)⟩⟩
 ·refine ⟨_,rfl,a,_,_,_,rfl,rfl,SqL.of hp,rfl,p1,48271,rfl,rfl,qP ⟨by decide,by decide⟩,_,_,rfl,rfl,_,_,rfl,rfl,(by show (0:Int) < 2147483647; decide),_,rfl,a,_,1,1,rfl,rfl,hp,rfl,?_⟩
  have b0:0 <= (p1 * 48271 + 12345) % 2147483647:=Int.emod_nonneg _ (by decide)
  have b1:(p1 * 48271 + 12345) % 2147483647 < 2147483647:=Int.emod_lt_of_pos _ (by decide)
  refine ⟨_,rfl,a,_,_,_,rfl,rfl,SqL.of zd,rfl,_,_,rfl,rfl,⟨by decide,by decide,?_⟩,_,_,rfl,rfl,(by show (0:Int) < 2147483629; decide),_,_,rfl,rfl,⟨by decide,by decide⟩,_,rfl,_,_,rfl,rfl,hm,?_⟩
  ·show ((p1 * 48271 + 12345) % 2147483647).natAbs < 2 ^ 64
   generalize (p1 * 48271 + 12345) % 2147483647 = v at b0 b1
   omega
  exact q _ _ (Int.emod_nonneg _ (by omega)) (Int.emod_lt_of_pos _ hm) (Grow.set hp (by simp) _) ⟨p0,(p1 * 48271 + 12345) % 2147483647,zd,h0⟩
theorem uu:FnScope ["_law_pot_here","_law_k"] ["_law_pot_here","_law_k"] (zg (top 62)):=⟨rfl,rfl,rfl,by decide +kernel,rfl,by decide +kernel,by decide +kernel⟩
theorem uv (F:Fun K "_law_firsts" "_law_firsts" (top 62) f fd) (B:Blt mg) (qc0:zh P w K mg base n "_law_take" ["_law_pot_here","_law_many"] (wP K))    :
  FnOk P w K mg base CX0 (n + 1) f fd ["_law_pot_here","_law_k"] (sJ K):=by
 refine F.ok uu yp (fun cdv A outer s H vs Q E hr h=>?_)
 obtain ⟨x,y,rfl,a,k,rfl,rfl,k4,pp,q⟩:=h
 refine ⟨_,(zj (zr (zy zn rfl B.tuple zE (za (zF (CSc.of (N':=["_law_stage","_law_k","_law_pot_here"]) (sub:=[none,some 1,some 0]) (zg (top 62)) ["_law_pot_here","_law_k"] rfl rfl (by decide +kernel) rfl) rfl (zU rfl B.range (za (pv 1) zb)) (fun _ _ _ _ _ _=>zk (i:=0) (show (["_law_stage","_law_k","_law_pot_here"]:List Str).Nodup by decide +kernel) rfl (Or.inl rfl)) (fun _ _ _ _ _ _=>zA) (fun _ _ _ _ _ _=>(zy (rP (K:=K) rfl) rfl B.tuple zE (za (zF (CSc.nest (N2:=["_law_number_here","_law_pot_here"]) (sub2:=[none,some 2]) (CSc.of (N':=["_law_stage","_law_k","_law_pot_here"]) (sub:=[none,some 1,some 0]) (zg (top 62)) ["_law_pot_here","_law_k"] rfl rfl (by decide +kernel) rfl) rfl (by decide +kernel) rfl) rfl (zU rfl B.range (za (zq wr (zq yN zi (pv 1)) zi) zb)) (fun _ _ _ _ _ _=>zk (i:=0) (show (["_law_number_here","_law_pot_here"]:List Str).Nodup by decide +kernel) rfl (Or.inl rfl)) (fun _ _ _ _ _ _=>zA) (fun _ _ _ _ _ _=>(zf qc0 hr rfl (za (pv 1) (za zi zb))))) zb)))) zb)))),?_⟩
 have p16:=zS k4
 refine ⟨_,rfl,_,rfl,by omega,by omega,yP (fun i ys H'=>∃ rows:List (List Int),AllR (zz K H') ys rows /\ rows.length = i /\ (∀ r ∈ rows,r.length = 2 ^ (k - 1) /\ ∀ b ∈ r,b = 0 \/ b = 1) /\ Grow [a] H H' /\ Pot H' a) ⟨[],trivial,rfl,(fun r hr=>by cases hr),Grow.refl _ _,pp⟩ ?_ ?_⟩
 ·rintro i ys H1 hi ⟨rows,ha1,rl,ro,g1,pp1⟩
  have hk1:1 <= k:=by omega
  have e2k:(1:Int) * 2 ^ ((k:Int)).toNat / 2 = ((2 ^ (k - 1):Nat):Int):=by rw [Wx k4,ZS hk1]
  have pw:2 ^ (k - 1) <= 16:=zS (by omega)
  obtain ⟨W,hW⟩:∃ W:Nat,W = 2 ^ (k - 1):=⟨_,rfl⟩
  rw [← hW] at e2k pw
  refine ⟨_,rfl,_,_,rfl,rfl,x9 k4,_,_,rfl,rfl,⟨by decide,by decide⟩,_,rfl,by rw [e2k]; omega,by rw [e2k]; omega,yP (fun j ys H'=>∃ bs:List Int,ys = bs.map V.int /\ bs.length = j /\ (∀ b ∈ bs,b = 0 \/ b = 1) /\ Grow [a] H1 H' /\ Pot H' a) ⟨[],rfl,rfl,(fun b hb=>by cases hb),Grow.refl _ _,pp1⟩ ?_ ?_⟩
  ·rintro j ys H2 hj ⟨bs,rfl,bl,bo,g2,pp2⟩
   have hj16:j < 16:=by rw [e2k] at hj; omega
   refine ⟨_,rfl,_,_,rfl,a,2,rfl,rfl,pp2,by decide,by decide,fun n H3 l3 u3 g3 pp3=>⟨yJ (by rw [List.length_map]; omega),bs ++ [n],by rw [List.map_append]; rfl,by rw [List.length_append]; show bs.length + 1 = _; omega,?_,g2.trans g3,pp3⟩⟩
   intro b hb
   rcases List.mem_append.mp hb with z | z
   ·exact bo b z
   ·rw [List.mem_singleton.mp z]; omega
  rintro ys2 H2 ⟨bs,rfl,bl,bo,g2,pp2⟩ l2 hl2
  refine ⟨l2,_,rfl,.inl ⟨SqL.of zd,fun r hr=>?_⟩⟩
  have g3:Grow [] H2 (upd (upd H2 l2 (.lst (bs.map V.int))) r (.tup (bs.map V.int))):=(Grow.new hl2 _).trans (Grow.new hr _)
  refine ⟨yJ (by rw [ha1.len]; omega),rows ++ [bs],((g2.trans g3.wk).boardsR ha1).app (.one ⟨r,rfl,SqT.of zd⟩),by rw [List.length_append]; show rows.length + 1 = _; omega,?_,g1.trans (g2.trans g3.wk),pp2.grow g3⟩
  intro rw' hrw
  rcases List.mem_append.mp hrw with z | z
  ·exact ro rw' z
  ·rw [List.mem_singleton.mp z]
   refine ⟨?_,bo⟩
   rw [bl,e2k,← hW]; exact Int.toNat_natCast W
 ·rintro ys H1 ⟨rows,ha1,rl,ro,g1,pp1⟩ l hl
  have g2:=Grow.new (m:=[]) hl (.lst ys)
  refine ⟨l,_,rfl,.inl ⟨SqL.of zd,fun r hr=>?_⟩⟩
  have g3:=Grow.new (m:=[]) hr (.tup ys)
  exact q _ rows _ (g1.trans (g2.trans g3).wk) (pp1.grow (g2.trans g3)) ⟨r,ys,rfl,SqT.of zd,(g2.trans g3).boardsR ha1⟩ ⟨by omega,ro⟩
theorem yH:FnScope ["_law_pot_here","_law_sign","_law_far","_law_turn"] ["_law_pot_here"] (zg (top 59)):=⟨rfl,rfl,rfl,by decide +kernel,rfl,by decide +kernel,by decide +kernel⟩
theorem uw (F:Fun K "_law_number" "_law_number" (top 59) f fd) (B:Blt mg) (qc0:zh P w K mg base n "_law_take" ["_law_pot_here","_law_many"] (wP K))    :
  FnOk P w K mg base CX0 (n + 1) f fd ["_law_pot_here"] (tJ K):=by
 refine F.ok yH yV (fun cdv A outer s H vs Q E hr h=>?_)
 obtain ⟨x,rfl,a,rfl,pp,q⟩:=h
 refine ⟨_,(ze (yi (zJ Zn (zf qc0 hr rfl (za (pv 0) (za zi zb))) zi (zQ _)) (zj (zr (zq yE (zf qc0 hr rfl (za (pv 0) (za zi zb))) zi))) zC) (ze (qH (i:=1) (j:=2) rfl yH.nd rfl rfl (by decide) rfl rfl (za (zq yE zi (zq xJ zi (zf qc0 hr rfl (za (pv 0) (za zi zb))))) (za zi zb)) rfl) (ze (yU PassesOwn.never rfl (zU rfl B.range (za zi zb)) (zk (i:=3) yH.nd rfl (Or.inl rfl)) (zj (zw (i:=2) yH.nd rfl (Or.inl rfl) (zq yM (zq xJ (pv 2) (zq qJ zi zi)) (zf qc0 hr rfl (za (pv 0) (za (zq qJ zi zi) zb))))))) (zj (zr (zq xJ (pv 1) (pv 2))))))),?_⟩
 refine ⟨_,rfl,_,_,rfl,a,4,rfl,rfl,pp,by decide,by decide,fun c0 H1 l0 u0 g1 pp1=>⟨_,_,rfl,rfl,_,rfl,?_⟩⟩
 by_cases c:c0 < 3
 ·refine wg (decide_eq_true c) ⟨_,rfl,_,_,rfl,a,19,rfl,rfl,pp1,by decide,by decide,fun n1 H2 l1 u1 g2 pp2=>⟨_,_,rfl,rfl,q _ _ ?_ ?_ (g1.trans g2) pp2⟩⟩
  ·show -(10 ^ 28) < n1 - 9
   omega
  ·show n1 - 9 < 10 ^ 28
   omega
 refine xL (decide_eq_false c) (sP ?_)
 refine ⟨_,rfl,_,_,rfl,a,2,rfl,rfl,pp1,by decide,by decide,fun n2 H2 l2 u2 g2 pp2=>⟨_,_,rfl,rfl,sD ⟨by decide,by decide⟩,_,_,rfl,rfl,_,_,rfl,?_⟩⟩
 have G3:Grow [a] H H2:=g1.trans g2
 refine ⟨_,rfl,by decide,by decide,xr (fun i σ H'=>∃ far e,σ = [some (.ref a),some (.int (1 - 2 * n2)),some (.int far),e] /\ Grow [a] H H' /\ Pot H' a /\ 0 <= far /\ far < (10:Int) ^ (7 * i)) ⟨0,none,rfl,G3,pp2,by decide,by decide⟩ ?_ ?_⟩
 ·rintro i σ H4 hi ⟨far,e,rfl,g4,pp4,f0,f1⟩
  refine ⟨_,rfl,_,_,rfl,rfl,⟨by decide,by decide,by decide⟩,_,_,rfl,rfl,qP ⟨by decide,by decide⟩,?_⟩
  refine ⟨_,rfl,_,_,rfl,rfl,⟨by decide,by decide,by decide⟩,_,_,rfl,a,_,rfl,rfl,pp4,by decide,by decide,fun n5 H5 l5 u5 g5 pp5=>?_⟩
  have u5':n5 < 10 ^ 7:=u5
  refine ⟨_,_,rfl,rfl,_,_,rfl,g4.trans g5,pp5,?_,?_⟩
  ·show 0 <= far * 10 ^ 7 + n5
   omega
  ·show far * 10 ^ 7 + n5 < (10:Int) ^ (7 * (i + 1))
   rw [show 7 * (i + 1) = 7 * i + 7 from by omega,Int.pow_add]
   generalize (10:Int) ^ (7 * i) = P at f1
   omega
 ·rintro σ H4 ⟨far,e,rfl,g4,pp4,f0,f1⟩
  have f2:far < 10 ^ 28:=f1
  refine ⟨_,rfl,_,rfl,_,_,rfl,rfl,sD ⟨by omega,by omega⟩,q _ _ ?_ ?_ g4 pp4⟩
  ·show -(10 ^ 28) < (1 - 2 * n2) * far
   obtain rfl | rfl:n2 = 0 \/ n2 = 1:=by omega
   ·omega
   ·omega
  ·show (1 - 2 * n2) * far < 10 ^ 28
   obtain rfl | rfl:n2 = 0 \/ n2 = 1:=by omega
   ·omega
   ·omega
theorem xh:FnScope ["_law_pot_here","_law_sort_of","_law_number_here","_law_add"] ["_law_pot_here"] (zg (top 60)):=⟨rfl,rfl,rfl,by decide +kernel,rfl,by decide +kernel,by decide +kernel⟩
theorem rE (F:Fun K "_law_deed" "_law_deed" (top 60) f fd) (B:Blt mg) (qc0:zh P w K mg base n "_law_take" ["_law_pot_here","_law_many"] (wP K)) (qc1:zh P w K mg base n "_law_number" ["_law_pot_here"] (tJ K))    :
  FnOk P w K mg base CX0 (n + 1) f fd ["_law_pot_here"] (ZC K):=by
 refine F.ok xh yV (fun cdv A outer s H vs Q E hr h=>?_)
 obtain ⟨x,rfl,a,rfl,pp,q⟩:=h
 refine ⟨_,(ze (zw (i:=1) xh.nd rfl (Or.inl rfl) (zf qc0 hr rfl (za (pv 0) (za zi zb)))) (ze (yi (zJ vn (pv 1) zi (zQ _)) (zj (zr (zO (za zi (za ux (za ux zb)))))) zC) (ze (zw (i:=2) xh.nd rfl (Or.inl rfl) (zf qc1 hr rfl (za (pv 0) zb))) (ze (yi (zJ Zn (pv 1) zi (zQ _)) (zj (zr (zO (za (pv 2) (za ux (za ux zb)))))) zC) (ze (yi (zJ vn (pv 1) zi (zQ _)) (zj (zr (zO (za zi (za (pv 2) (za (pv 2) zb)))))) zC) (ze (zw (i:=3) xh.nd rfl (Or.inl rfl) (zf qc1 hr rfl (za (pv 0) zb))) (ze (yi (zJ vn (pv 1) zi (zQ _)) (zj (zr (zO (za (pv 3) (za (pv 2) (za ux zb)))))) zC) (ze (yi (zJ vn (pv 1) zi (zQ _)) (zj (zr (zO (za (pv 3) (za ux (za (pv 2) zb)))))) zC) (zj (zr (zO (za (pv 3) (za (pv 2) (za (zq yM (zq yM (pv 2) zi) (zf qc0 hr rfl (za (pv 0) (za zi zb)))) zb)))))))))))))),?_⟩
 have sm0:Sm 0:=⟨by decide,by decide⟩
 refine ⟨_,rfl,_,_,rfl,a,7,rfl,rfl,pp,by decide,by decide,fun c0 H1 l0 u0 g1 pp1=>?_⟩
 refine ⟨_,rfl,rfl,_,rfl,?_⟩
 by_cases c1:c0 = 0
 ·refine wg (decide_eq_true (congrArg V.int c1)) ⟨szl rfl,fun t ht=>?_⟩
  exact q ⟨0,none,none⟩ _ _ ok_n (Vl sm0) (g1.trans (Grow.new ht _)) (pp1.new ht _) ⟨t,rfl,SqT.of zd⟩
 refine xL (decide_eq_false fun z=>c1 (V.int.inj z)) ?_
 refine ⟨_,rfl,_,rfl,a,rfl,pp1,fun n H3 n1 n2 g3 pp3=>?_⟩
 have sn:Sm n:=⟨by omega,by omega⟩
 have gA:=g1.trans g3
 refine ⟨_,rfl,_,_,rfl,rfl,_,rfl,?_⟩
 by_cases c2:c0 < 3
 ·refine wg (decide_eq_true c2) ⟨_,rfl,szl rfl,fun t ht=>?_⟩
  exact q ⟨n,none,none⟩ _ _ ok_n (Vl sn) (gA.trans (Grow.new ht _)) (pp3.new ht _) ⟨t,rfl,SqT.of zd⟩
 refine xL (decide_eq_false c2) ?_
 have set0:Deed.Ok ⟨0,some n,some n⟩:=fun l h e1 e2=>by cases e1; cases e2; exact .inr ⟨rfl,rfl⟩
 refine ⟨_,rfl,rfl,_,rfl,?_⟩
 by_cases c3:c0 = 3
 ·refine wg (decide_eq_true (congrArg V.int c3)) ⟨_,rfl,_,rfl,szl rfl,fun t ht=>?_⟩
  exact q ⟨0,some n,some n⟩ _ _ set0 ⟨sm0,(fun l e=>by cases e; exact sn),(fun l e=>by cases e; exact sn)⟩ (gA.trans (Grow.new ht _)) (pp3.new ht _) ⟨t,rfl,SqT.of zd⟩
 refine xL (decide_eq_false fun z=>c3 (V.int.inj z)) ?_
 refine ⟨_,rfl,_,rfl,a,rfl,pp3,fun A H4 A1 A2 g4 pp4=>?_⟩
 have sA:Sm A:=⟨by omega,by omega⟩
 have gB:=gA.trans g4
 refine ⟨_,rfl,rfl,_,rfl,?_⟩
 by_cases c4:c0 = 4
 ·refine wg (decide_eq_true (congrArg V.int c4)) ⟨_,rfl,_,rfl,szl rfl,fun t ht=>?_⟩
  exact q ⟨A,some n,none⟩ _ _ Ue (Uc sA sn) (gB.trans (Grow.new ht _)) (pp4.new ht _) ⟨t,rfl,SqT.of zd⟩
 refine xL (decide_eq_false fun z=>c4 (V.int.inj z)) ⟨_,rfl,rfl,_,rfl,?_⟩
 by_cases c5:c0 = 5
 ·refine wg (decide_eq_true (congrArg V.int c5)) ⟨_,rfl,_,rfl,szl rfl,fun t ht=>?_⟩
  exact q ⟨A,none,some n⟩ _ _ ok_n (Ud sA sn) (gB.trans (Grow.new ht _)) (pp4.new ht _) ⟨t,rfl,SqT.of zd⟩
 refine xL (decide_eq_false fun z=>c5 (V.int.inj z)) (sP ?_)
 refine ⟨_,rfl,_,rfl,_,rfl,_,_,rfl,rfl,_,rfl,_,_,rfl,a,12,rfl,rfl,pp4,by decide,by decide,fun t H5 t0 t1 g5 pp5=>⟨_,_,rfl,rfl,szl rfl,fun r hr'=>?_⟩⟩
 have sh:Sm (n + 1 + t):=⟨by omega,by omega⟩
 exact q ⟨A,some n,some (n + 1 + t)⟩ _ _ (fun l h e1 e2=>by cases e1; cases e2; exact .inl (by omega)) ⟨sA,(fun l e=>by cases e; exact sn),(fun l e=>by cases e; exact sh)⟩ (gB.trans (g5.trans (Grow.new hr' _))) (pp5.new hr' _) ⟨r,rfl,SqT.of zd⟩
theorem zW:FnScope ["_law_pot_here","_law_k","_law_spread","_law_is_full","_law_pair","_law_asks_here","_law_hand","_law_box"] ["_law_pot_here","_law_k"] (zg (top 61)):=⟨rfl,rfl,rfl,by decide +kernel,rfl,by decide +kernel,by decide +kernel⟩
theorem rF (F:Fun K "_law_asks" "_law_asks" (top 61) f fd) (B:Blt mg) (qc0:zh P w K mg base n "_law_take" ["_law_pot_here","_law_many"] (wP K)) (qc1:zh P w K mg base n "_law_deed" ["_law_pot_here"] (ZC K))    :
  FnOk P w K mg base CX0 (n + 1) f fd ["_law_pot_here","_law_k"] (rg K):=by
 refine F.ok zW yp (fun cdv A outer s H vs Q E hr h=>?_)
 obtain ⟨x,y,rfl,a,k,rfl,rfl,k4,pp,q⟩:=h
 refine ⟨_,(ze (qH (i:=2) (j:=3) rfl zW.nd rfl rfl (by decide) rfl rfl (za (zf qc0 hr rfl (za (pv 0) (za zi zb))) (za (vG vn (zf qc0 hr rfl (za (pv 0) (za zi zb))) zi (zQ _)) zb)) rfl) (ze (zw (i:=4) zW.nd rfl (Or.inl rfl) (y9 (za (zf qc0 hr rfl (za (pv 0) (za zi zb))) (za (zf qc0 hr rfl (za (pv 0) (za zi zb))) zb)))) (ze (zw (i:=5) zW.nd rfl (Or.inl rfl) (y9 zb)) (ze (yU PassesOwn.never rfl (zU rfl B.range (za (zq yN zi (pv 1)) zb)) (zk (i:=6) zW.nd rfl (Or.inl rfl)) (zj (yi (PW.pt (tX (yL (pv 3)) (vb (zJ Wf (zf qc0 hr rfl (za (pv 0) (za zi zb))) zi (zQ _))))) (ze (zw (i:=7) zW.nd rfl (Or.inl rfl) (zZ z9 (pv 4) zi (fun _ _=>rfl))) (ze (yi (zJ vn (pv 2) zi (zQ _)) (zj (zw (i:=7) zW.nd rfl (Or.inl rfl) (zZ z9 (pv 4) (zf qc0 hr rfl (za (pv 0) (za zi zb))) (fun _ _=>rfl)))) zC) (ze (yi (zJ vn (pv 2) zi (zQ _)) (zj (zw (i:=7) zW.nd rfl (Or.inl rfl) (zf qc0 hr rfl (za (pv 0) (za zi zb))))) zC) (zj (zL (uV PySem.F.plainAttrs_list PySem.F.slot_list_insert PySem.F.type_list_insert Z2 (pv 5) (za (zf qc0 hr rfl (za (pv 0) (za (zq yM (zu zD rfl B.len wq (za (pv 5) zb)) zi) zb))) (za (zO (za (pv 6) (za (pv 7) (za (zf qc1 hr rfl (za (pv 0) zb)) zb)))) zb)))))))) zC))) (zj (zr (zy zn rfl B.tuple zE (za (pv 5) zb)))))))),?_⟩
 have p16:=zS k4
 obtain ⟨W,hW⟩:∃ W:Nat,W = 2 ^ k:=⟨_,rfl⟩
 have e1k:(1:Int) * 2 ^ ((k:Int)).toNat = W:=by rw [yv,hW]
 refine ⟨_,rfl,_,_,rfl,a,3,rfl,rfl,pp,by decide,by decide,fun s3 H3 l3 u3 g3 pp3=>⟨_,rfl,_,_,rfl,a,2,rfl,rfl,pp3,by decide,by decide,fun f4 H4 l4 u4 g4 pp4=>⟨rfl,_,_,rfl,?_⟩⟩⟩
 generalize decide (V.int f4 = V.int 1) = full
 have G4:Grow [a] H H4:=g3.trans g4
 obtain ⟨m,hm⟩:∃ m:Nat,m = 16:=⟨_,rfl⟩
 have em:(16:Int) = (m:Int):=by omega
 refine c_nx (ye (fun v H'=>∃ lp p0 p1,v = .ref lp /\ H' lp = some (.lst [.int p0,.int p1]) /\ (0 <= p0 /\ p0 < (m:Int)) /\ (0 <= p1 /\ p1 < (m:Int)) /\ lp ≠ a /\ Grow [a] H4 H' /\ Pot H' a) (fun Kk hk=>⟨_,rfl,_,_,rfl,a,16,rfl,rfl,pp4,by decide,by decide,fun n1 H5 l5 u5 g5 pp5=>⟨_,rfl,_,_,rfl,a,16,rfl,rfl,pp5,by decide,by decide,fun n2 H6 l6 u6 g6 pp6=>⟨szl rfl,fun lp hlp=>hk _ _ ⟨lp,n1,n2,rfl,zd,⟨l5,by omega⟩,⟨l6,by omega⟩,?_,g5.trans (g6.trans (Grow.new hlp _)),pp6.new hlp _⟩⟩⟩⟩) ?_)
 ·intro z
  obtain ⟨x0,x1,z1,_⟩:=pp6
  rw [z,z1] at hlp; cases hlp
 rintro _ H5 ⟨lp,p0,p1,rfl,hlp5,hp0,hp1,npa,g5,pp5⟩
 refine ye (fun v H'=>∃ la,v = .ref la /\ H5 la = none /\ H' = upd H5 la (.lst [])) (fun Kk hk=>⟨szl rfl,fun la hla=>hk _ _ ⟨la,rfl,hla,rfl⟩⟩) ?_
 rintro _ _ ⟨la,rfl,hla,rfl⟩
 have g6:=Grow.new (m:=[]) hla (.lst [])
 have hA6:=zd (H:=H5) (a:=la) (o:=.lst [])
 have pp6:=pp5.new hla (.lst [])
 have hlp6:=g6.keep _ _ (by simp) hlp5
 have naa:la ≠ a:=fun z=>by
  obtain ⟨x0,x1,z1,_⟩:=pp5
  rw [z,z1] at hla; cases hla
 have nap:lp ≠ la:=fun z=>by rw [z,hla] at hlp5; cases hlp5
 have hlaH4:H4 la = none:=g5.free (by simpa using naa) hla
 have hlaH:H la = none:=G4.free (by simpa using naa) hlaH4
 have G6:Grow [a] H (upd H5 la (.lst [])):=G4.trans (g5.trans g6.wk)
 generalize upd H5 la (.lst []) = H6 at g6 hA6 pp6 hlp6 G6 ⊢
 refine ⟨_,rfl,_,_,rfl,rfl,x9 k4,_,rfl,by rw [e1k]; omega,by rw [e1k]; omega,xr (fun j σ H'=>∃ (e8 e9:Option V) (ks:List Ask) (xs:List V),σ = [some (.ref a),some (.int k),some (.int s3),some (.bl full),some (.ref lp),some (.ref la),e8,e9] /\ Grow [a,la] H6 H' /\ Pot H' a /\ H' la = some (.lst xs) /\ AllA K H' xs ks /\ ks.length <= j /\ RndS j m ks) ⟨_,_,[],[],rfl,Grow.refl _ _,pp6,hA6,trivial,Nat.le_refl _,RndS.nil⟩ ?_ ?_⟩
 ·rintro j σ H7 hj ⟨e8,e9,ks,xs,rfl,g7,pp7,hA7,all7,kj,S7⟩
  have hjW:j < W:=by rw [e1k] at hj; omega
  have hlp7:=g7.keep _ _ (by simpa using ⟨npa,nap⟩) hlp6
  have xl:=all7.len
  try dsimp only
  refine Yl (fun H'=>Grow [a] H7 H' /\ Pot H' a) (fun Kk hk=>⟨_,rfl,_,rfl,?_⟩) ?_ ?_
  ·cases full with
   | true=>exact iteT (hk _ _ ⟨Grow.refl _ _,pp7⟩)
   | false=>exact iteF ⟨_,rfl,_,_,rfl,a,4,rfl,rfl,pp7,by decide,by decide,fun n8 H8 l8 u8 g8 pp8=>⟨_,_,rfl,rfl,_,rfl,hk _ _ ⟨g8,pp8⟩⟩⟩
  ·rintro H8 ⟨g8,pp8⟩
   have nA:la ∉ [a]:=by simpa using naa
   have nP:lp ∉ [a]:=by simpa using npa
   have hlp8:=g8.keep _ _ nP hlp7
   refine ye (fun v H'=>v = .int p0 /\ H' = H8) (fun Kk hk=>⟨_,rfl,lp,_,0,.int p0,rfl,rfl,SqL.of hlp8,rfl,hk _ _ ⟨rfl,rfl⟩⟩) ?_
   rintro _ H8 ⟨rfl,rfl⟩
   refine c_if (fun σ' H'=>∃ bx:Int,σ' = [some (.ref a),some (.int k),some (.int s3),some (.bl full),some (.ref lp),some (.ref la),some (.int (0 + (j:Int))),some (.int bx)] /\ (0 <= bx /\ bx < (m:Int)) /\ Grow [a] H7 H' /\ Pot H' a) ?_ (fun hk=>?_)
   rotate_left
   ·refine ⟨_,rfl,rfl,_,rfl,?_⟩
    refine ite2 (fun c=>?_) (fun c=>?_)
    ·refine ⟨_,rfl,_,rfl,_,_,rfl,a,2,rfl,rfl,pp8,by decide,by decide,fun n9 H9 l9 u9 g9 pp9=>?_⟩
     have hlp9:=g9.keep _ _ nP hlp8
     obtain rfl | rfl:n9 = 0 \/ n9 = 1:=by omega
     ·exact ⟨lp,_,0,.int p0,rfl,rfl,SqL.of hlp9,rfl,hk _ _ ⟨_,rfl,hp0,g8.trans g9,pp9⟩⟩
     ·exact ⟨lp,_,1,.int p1,rfl,rfl,SqL.of hlp9,rfl,hk _ _ ⟨_,rfl,hp1,g8.trans g9,pp9⟩⟩
    ·exact hk _ _ ⟨_,rfl,hp0,g8,pp8⟩
   rintro σ' H9 ⟨bx,rfl,hbx,g9,pp9⟩
   refine c_if (fun σ' H'=>∃ bx:Int,σ' = [some (.ref a),some (.int k),some (.int s3),some (.bl full),some (.ref lp),some (.ref la),some (.int (0 + (j:Int))),some (.int bx)] /\ (0 <= bx /\ bx < (m:Int)) /\ Grow [a] H7 H' /\ Pot H' a) ?_ (fun hk=>?_)
   rotate_left
   ·refine ⟨_,rfl,rfl,_,rfl,?_⟩
    refine ite2 (fun c=>?_) (fun c=>?_)
    ·exact ⟨_,rfl,_,_,rfl,a,16,rfl,rfl,pp9,by decide,by decide,fun n10 H10 l10 u10 g10 pp10=>hk _ _ ⟨_,rfl,⟨l10,by omega⟩,g9.trans g10,pp10⟩⟩
    ·exact hk _ _ ⟨_,rfl,hbx,g9,pp9⟩
   rintro σ' H10 ⟨bx,rfl,hbx,g10,pp10⟩
   have hA10:=g10.keep _ _ nA hA7
   refine ⟨_,rfl,.inl ⟨rfl,_,SqL.of hA10⟩,_,rfl,_,rfl,la,_,rfl,.inl (SqL.of hA10),_,_,rfl,rfl,_,_,rfl,a,_,rfl,rfl,pp10,by omega,by omega,fun ix H11 l11 u11 g11 pp11=>?_⟩
   refine ⟨_,rfl,_,rfl,_,rfl,_,rfl,a,rfl,pp11,fun d yd H12 ok12 sm12 g12 pp12 hd12=>⟨szl rfl,fun t ht=>?_⟩⟩
   have gt:=Grow.new (m:=[a]) ht (.tup [.int (0 + (j:Int)),.int bx,yd])
   have G:Grow [a] H7 (upd H12 t (.tup [.int (0 + (j:Int)),.int bx,yd])):=g10.trans (g11.trans (g12.trans gt))
   have hA13:=G.keep _ _ nA hA7
   have pp13:=pp12.new ht (.tup [.int (0 + (j:Int)),.int bx,yd])
   have et:=zd (H:=H12) (a:=t) (o:=.tup [.int (0 + (j:Int)),.int bx,yd])
   have hd13:=(Grow.new (m:=[]) ht (.tup [.int (0 + (j:Int)),.int bx,yd])).deed hd12
   generalize upd H12 t (.tup [.int (0 + (j:Int)),.int bx,yd]) = H13 at gt G hA13 pp13 et hd13 ⊢
   obtain ⟨rd,rfl,hrd⟩:=hd13
   have ask:ug K H13 (.ref t) ⟨(j:Int),bx,d⟩:=⟨t,rd,rfl,SqT.of (by rw [et,Int.zero_add]),hrd⟩
   have ixl:ix.toNat <= xs.length:=by have u11':ix < (xs.length:Int) + 1:=u11; omega
   refine ⟨la,xs,ix.toNat,.ref t,rfl,by rw [Int.toNat_of_nonneg l11],hA13,ixl,zG (by omega),?_⟩
   have gs:Grow [a,la] H13 (upd H13 la (.lst (xs.take ix.toNat ++ [.ref t] ++ xs.drop ix.toNat))):=Grow.set hA13 (by simp) _
   refine ⟨_,_,ks.take ix.toNat ++ [⟨(j:Int),bx,d⟩] ++ ks.drop ix.toNat,_,rfl,g7.trans ((G.mono (by simp)).trans gs),?_,zd,gs.allA (AllA.ins ask (G.allA all7)),?_,S7.ins rfl hbx ok12 sm12⟩
   ·obtain ⟨x0,x1,z1,z2⟩:=pp13
    exact ⟨x0,x1,by rw [zp (Ne.symm naa)]; exact z1,z2⟩
   ·rw [List.length_append,List.length_append,List.length_take,List.length_drop]
    show min _ _ + 1 + _ <= _
    omega
  ·rintro H8 ⟨g8,pp8⟩
   have nA:la ∉ [a]:=by simpa using naa
   exact ⟨_,_,ks,xs,rfl,g7.trans (g8.mono (by simp)),pp8,g8.keep _ _ nA hA7,g8.allA all7,by omega,S7.next⟩
 ·rintro σ H7 ⟨e8,e9,ks,xs,rfl,g7,pp7,hA7,all7,kj,S7⟩
  rw [e1k,Int.toNat_natCast,hW] at kj S7
  refine ⟨_,rfl,la,_,rfl,.inl ⟨SqL.of hA7,fun r1 hr1=>?_⟩⟩
  have ga:=Grow.new (m:=[a]) hr1 (.tup xs)
  have G:Grow [a] H H7:=(((G6.mono (by simp)):Grow [a,la] H H6).trans g7).less fun d hd=>by
   simp only [List.mem_cons,List.mem_nil_iff,or_false] at hd
   rcases hd with rfl | rfl
   ·exact .inl (by simp)
   ·exact .inr hlaH
  refine q (.ref r1) ks _ (G.trans ga) (pp7.new hr1 _) ⟨r1,xs,rfl,SqT.of zd,ga.allA all7⟩ (by omega) ?_ S7.sm
  have D:=S7.done
  rw [hm] at D
  exact D
theorem xD:FnScope ["_law_script","_law_place","_law_cell","_law_prime"] ["_law_script","_law_place"] (zg (top 57)):=⟨rfl,rfl,rfl,by decide +kernel,rfl,by decide +kernel,by decide +kernel⟩
theorem qD (F:Fun K "_law_pot" "_law_pot" (top 57) f fd) (B:Blt mg)     :
  FnOk P w K mg base CX0 (n + 1) f fd ["_law_script","_law_place"] (XO K):=by
 refine F.ok xD yp (fun cdv A outer s H vs Q E hr h=>?_)
 obtain ⟨x,y,rfl,a,ns,k,rfl,rfl,hs,k0,k1,q⟩:=h
 refine ⟨_,(ze (zw (i:=2) xD.nd rfl (Or.inl rfl) zi) (ze (yi (zJ Zn (pv 1) (zu zD rfl B.len wq (za (pv 0) zb)) (zQ _)) (zj (zw (i:=2) xD.nd rfl (Or.inl rfl) (zZ z9 (pv 0) (pv 1) (fun _ _=>rfl)))) zC) (ze (zw (i:=3) xD.nd rfl (Or.inl rfl) (zZ z9 (y9 (za zi (za zi (za zi (za zi zb))))) (zq x8 (pv 1) zi) (fun _ _=>rfl))) (zj (zr (y9 (za (zu (t6 rfl) rfl B.max Vg (za zi (za (zq yE (zu qL rfl B.abs Vf (za (pv 2) zb)) (zq qJ zi zi)) zb))) (za (zq yM (zq yM (zq x8 (zu qL rfl B.abs Vf (za (pv 2) zb)) (pv 3)) (zq xJ zi (pv 1))) zi) zb)))))))),?_⟩
 obtain ⟨qq,hq,q0,q1⟩:∃ qq:Int,atI [V.int 2147483587,.int 2147483579,.int 2147483563,.int 2147483549] (k % 4) = some (V.int qq) /\ 0 < qq /\ qq < 2147483648:=by
  obtain h | h | h | h:k % 4 = 0 \/ k % 4 = 1 \/ k % 4 = 2 \/ k % 4 = 3:=by omega
  all_goals (rw [h]; exact ⟨_,rfl,by decide,by decide⟩)
 have hl:(ns.map V.int).length = ns.length:=List.length_map ..
 refine ⟨_,rfl,_,rfl,a,_,rfl,.inl hs.sq,_,_,rfl,rfl,_,rfl,?_⟩
 by_cases c:k < ((ns.map V.int).length:Int)
 ·refine wg (decide_eq_true c) ?_
  have hj:k.toNat < ns.length:=by omega
  refine ⟨_,rfl,_,rfl,a,_,_,V.int ns[k.toNat],rfl,rfl,hs.sq,jz (vN k0 (by omega)) (by rw [List.getElem?_map,List.getElem?_eq_getElem hj]; rfl),?_⟩
  refine ⟨szl rfl,fun lp hlp=>?_⟩
  refine ⟨_,rfl,_,_,rfl,rfl,(by show (0:Int) < 4; decide),lp,_,_,_,rfl,rfl,SqL.of zd,hq,?_⟩
  have g0:=Grow.new (m:=[]) hlp (.lst [V.int 2147483587,.int 2147483579,.int 2147483563,.int 2147483549])
  refine ⟨_,rfl,_,rfl,_,_,rfl,rfl,⟨by decide,by decide,by decide⟩,_,_,rfl,rfl,_,_,rfl,?_⟩
  refine ⟨_,rfl,_,rfl,_,rfl,_,_,rfl,rfl,q0,_,rfl,_,_,rfl,rfl,sD ⟨by decide,by decide⟩,_,_,rfl,rfl,_,_,rfl,rfl,szl rfl,fun p hp=>?_⟩
  refine q p _ (g0.free (by simp) hp) (g0.trans (Grow.new hp _)) ⟨_,_,zd,?_⟩
  split <;> omega
 ·refine xL (decide_eq_false c) ?_
  refine ⟨szl rfl,fun lp hlp=>?_⟩
  refine ⟨_,rfl,_,_,rfl,rfl,(by show (0:Int) < 4; decide),lp,_,_,_,rfl,rfl,SqL.of zd,hq,?_⟩
  have g0:=Grow.new (m:=[]) hlp (.lst [V.int 2147483587,.int 2147483579,.int 2147483563,.int 2147483549])
  refine ⟨_,rfl,_,rfl,_,_,rfl,rfl,⟨by decide,by decide,by decide⟩,_,_,rfl,rfl,_,_,rfl,?_⟩
  refine ⟨_,rfl,_,rfl,_,rfl,_,_,rfl,rfl,q0,_,rfl,_,_,rfl,rfl,sD ⟨by decide,by decide⟩,_,_,rfl,rfl,_,_,rfl,rfl,szl rfl,fun p hp=>?_⟩
  refine q p _ (g0.free (by simp) hp) (g0.trans (Grow.new hp _)) ⟨_,_,zd,?_⟩
  split <;> omega
theorem ud:FnScope ["_law_script","_law_place","_law_pot_here","_law_k","_law_boxes","_law_hands","_law_board","_law_asks_here","_law_firsts_here"] ["_law_script"] (zg (top 69)):=⟨rfl,rfl,rfl,by decide +kernel,rfl,by decide +kernel,by decide +kernel⟩
theorem VX (F:Fun K "law" "law" (top 69) f fd) (B:Blt mg) (qc0:zh P w K mg base n "_law_is_right" ["_law_k","_law_board","_law_asks_here","_law_firsts_here","_law_hands","_law_boxes"] (uR K)) (qc1:zh P w K mg base n "_law_firsts" ["_law_pot_here","_law_k"] (sJ K)) (qc2:zh P w K mg base n "_law_asks" ["_law_pot_here","_law_k"] (rg K)) (qc3:zh P w K mg base n "_law_number" ["_law_pot_here"] (tJ K)) (qc4:zh P w K mg base n "_law_take" ["_law_pot_here","_law_many"] (wP K)) (qc5:zh P w K mg base n "_law_pot" ["_law_script","_law_place"] (XO K))    :
  FnOk P w K mg base CX0 (n + 1) f fd ["_law_script"] (qO K):=by
 refine F.ok ud yV (fun cdv A outer s H vs Q E hr h=>?_)
 obtain ⟨x,rfl,a,ns,rfl,hs,h63,q⟩:=h
 refine ⟨_,(ze (yU PassesOwn.never rfl (zU rfl B.range (za (zu (t6 rfl) rfl B.max Vg (za zi (za (zu (Zp rfl) rfl B.min Ua (za zi (za (zu zD rfl B.len wq (za (pv 0) zb)) zb))) zb))) zb)) (zk (i:=1) ud.nd rfl (Or.inl rfl)) (ze (zw (i:=2) ud.nd rfl (Or.inr rfl) (zf qc5 hr rfl (za (pv 0) (za (pv 1) zb)))) (ze (qH (i:=3) (j:=4) rfl ud.nd rfl rfl (by decide) rfl rfl (za (zf qc4 hr rfl (za (pv 2) (za zi zb))) (za (zf qc4 hr rfl (za (pv 2) (za zi zb))) zb)) rfl) (ze (zw (i:=5) ud.nd rfl (Or.inl rfl) (zf qc4 hr rfl (za (pv 2) (za (zq yN zi (pv 3)) zb)))) (ze (zw (i:=6) ud.nd rfl (Or.inl rfl) (zy zn rfl B.tuple zE (za (zF (CSc.of (N':=["_law_box","_law_pot_here"]) (sub:=[none,some 2]) (zg (top 69)) ["_law_script","_law_place","_law_pot_here","_law_k","_law_boxes","_law_hands","_law_board","_law_asks_here","_law_firsts_here"] rfl rfl (by decide +kernel) rfl) rfl (zU rfl B.range (za zi zb)) (fun _ _ _ _ _ _=>zk (i:=0) (show (["_law_box","_law_pot_here"]:List Str).Nodup by decide +kernel) rfl (Or.inl rfl)) (fun _ _ _ _ _ _=>zA) (fun _ _ _ _ _ _=>(zf qc3 hr rfl (za (pv 1) zb)))) zb))) (ze (qH (i:=7) (j:=8) rfl ud.nd rfl rfl (by decide) rfl rfl (za (zf qc2 hr rfl (za (pv 2) (za (pv 3) zb))) (za (zf qc1 hr rfl (za (pv 2) (za (pv 3) zb))) zb)) rfl) (zj (yi (y0 (yL (zf qc0 hr rfl (za (pv 3) (za (pv 6) (za (pv 7) (za (pv 8) (za (pv 5) (za (pv 4) zb))))))))) (zj (zr wM)) zC)))))))) (zj (zr wM))),?_⟩
 have hl:(ns.map V.int).length = ns.length:=List.length_map ..
 refine ⟨_,rfl,a,_,rfl,.inl hs.sq,_,_,rfl,_,_,rfl,_,rfl,?_,?_,?_⟩
 ·split <;> split <;> omega
 ·rw [hl]; split <;> split <;> omega
 refine xr (fun i σ H'=>∃ (e1 e2 e3 e4 e5 e6 e7 e8:Option V),σ = [some (.ref a),e1,e2,e3,e4,e5,e6,e7,e8] /\ Grow [] H H') ⟨_,_,_,_,_,_,_,_,rfl,Grow.refl _ _⟩ ?_ ?_
 ·rintro i σ H1 hi ⟨e1,e2,e3,e4,e5,e6,e7,e8,rfl,g1⟩
  have i63:i < 100:=by
   have hi':=hi
   revert hi'
   split <;> split <;> omega
  try dsimp only
  refine ye (fun v H'=>∃ p,v = .ref p /\ H1 p = none /\ Grow [] H1 H' /\ Pot H' p) (fun Kk hk=>⟨_,rfl,_,rfl,_,_,rfl,a,ns,_,rfl,rfl,g1.scr hs,by omega,by omega,fun p H2 hp g2 pp=>hk _ _ ⟨p,rfl,hp,g2,pp⟩⟩) ?_
  rintro _ H2 ⟨p,rfl,np,g2,pp2⟩
  refine ⟨_,rfl,_,_,rfl,p,5,rfl,rfl,pp2,by decide,by decide,fun t3 H3 l3 u3 g3 pp3=>⟨_,rfl,_,_,rfl,p,16,rfl,rfl,pp3,by decide,by decide,fun t4 H4 l4 u4 g4 pp4=>⟨_,_,rfl,?_⟩⟩⟩
  obtain ⟨k,rfl⟩:∃ k:Nat,t3 = (k:Int):=⟨t3.toNat,by omega⟩
  obtain ⟨c,rfl⟩:∃ c:Nat,t4 = (c:Int):=⟨t4.toNat,by omega⟩
  have k4:k <= 4:=by omega
  have hc:c < 16:=by omega
  have p16:=zS k4
  have e1k:(1:Int) * 2 ^ ((k:Int)).toNat = ((2 ^ k:Nat):Int):=yv
  refine c_nx (ye (fun v H'=>∃ h:Nat,v = .int h /\ h < 2 ^ k /\ Grow [p] H4 H' /\ Pot H' p) (fun Kk hk=>⟨_,rfl,_,rfl,_,_,rfl,rfl,x9 k4,_,_,rfl,p,_,rfl,rfl,pp4,(by show (0:Int) < 1 * 2 ^ ((k:Int)).toNat; rw [e1k]; exact Int.natCast_pos.mpr (Nat.two_pow_pos k)),(by show (1:Int) * 2 ^ ((k:Int)).toNat < _; rw [e1k]; exact Int.lt_of_le_of_lt (show ((2 ^ k:Nat):Int) <= 16 by exact Int.ofNat_le.mpr p16) (by decide)),fun t H' t0 t1 g pp'=>hk _ _ ⟨t.toNat,congrArg V.int (by omega),?_,g,pp'⟩⟩) ?_)
  ·have t1':t < (1:Int) * 2 ^ ((k:Int)).toNat:=t1
   rw [e1k] at t1'
   exact Int.ofNat_lt.mp (by rw [Int.toNat_of_nonneg t0]; exact t1')
  rintro _ H5 ⟨h,rfl,hh,g5,pp5⟩
  refine ye (fun v H'=>∃ b,zz K H' v b /\ b.length = 16 /\ InB (10 ^ 30) b /\ Grow [p] H5 H' /\ Pot H' p) (fun Kk hk=>⟨_,rfl,by decide,by decide,yP (fun i ys H'=>∃ b:List Int,ys = b.map V.int /\ b.length = i /\ InB (10 ^ 30) b /\ Grow [p] H5 H' /\ Pot H' p) ⟨[],rfl,rfl,(fun v hv=>nomatch hv),Grow.refl _ _,pp5⟩ ?_ ?_⟩) ?_
  ·rintro i ys H6 hi ⟨b,rfl,bl,bB,g6,pp6⟩
   have hi':i < 16:=by have:i < ((16:Int)).toNat:=hi; omega
   refine ⟨_,rfl,_,rfl,p,rfl,pp6,fun n H7 n1 n2 g7 pp7=>⟨zG (by rw [List.length_map,bl]; omega),b ++ [n],by rw [List.map_append]; rfl,by rw [List.length_append,bl]; rfl,fun v hv=>?_,g6.trans g7,pp7⟩⟩
   rcases List.mem_append.mp hv with hv | hv
   ·exact bB v hv
   ·rw [List.mem_singleton.mp hv]; exact ⟨by omega,by omega⟩
  ·rintro ys H6 ⟨b,rfl,bl,bB,g6,pp6⟩ l hl
   have g7:=Grow.new (m:=[p]) hl (.lst (b.map V.int))
   exact ⟨l,_,rfl,.inl ⟨SqL.of zd,fun r hr'=>hk _ _ ⟨b,⟨r,rfl,SqT.of zd⟩,bl,bB,g6.trans (g7.trans (Grow.new hr' _)),(pp6.new hl _).new hr' _⟩⟩⟩
  rintro yb H6 ⟨b,hb6,bl,bB,g6,pp6⟩
  refine ⟨_,rfl,_,rfl,_,_,rfl,p,k,rfl,rfl,k4,pp6,fun ya ks H7 g7 pp7 hA7 k16 R sm=>⟨_,rfl,_,rfl,_,_,rfl,p,k,rfl,rfl,k4,pp7,fun yr rows H8 g8 pp8 hR8 hset=>⟨_,_,rfl,?_⟩⟩⟩
  have G8:Grow [] H1 H8:=(g2.wk.trans (g3.trans (g4.trans (g5.trans (g6.trans (g7.trans g8)))))).less fun d hd=>by
   rw [List.mem_singleton.mp hd]; exact .inr np
  refine c_nx ?_
  refine ⟨_,rfl,_,rfl,_,rfl,_,rfl,_,rfl,_,rfl,_,_,_,_,_,_,rfl,k,b,ks,rows,h,c,rfl,k4,(g7.trans g8).board hb6,bl,bB,g8.asks hA7,k16,R,sm,hR8,hset,rfl,rfl,hh,hc,fun H9 g9=>⟨_,rfl,iteF ⟨_,_,_,_,_,_,_,_,rfl,g1.trans (G8.trans g9)⟩⟩⟩
 ·rintro σ H1 ⟨e1,e2,e3,e4,e5,e6,e7,e8,rfl,g1⟩
  exact q _
end
theorem xo:∀ {us:List Value},us.length = 1 -> ∃ x0,us = [x0]
 | [x0],_=>⟨x0,rfl⟩
theorem yq:∀ {us:List Value},us.length = 2 -> ∃ x0,∃ x1,us = [x0,x1]
 | [x0,x1],_=>⟨x0,x1,rfl⟩
theorem xp:∀ {us:List Value},us.length = 3 -> ∃ x0,∃ x1,∃ x2,us = [x0,x1,x2]
 | [x0,x1,x2],_=>⟨x0,x1,x2,rfl⟩
theorem xq:∀ {us:List Value},us.length = 4 -> ∃ x0,∃ x1,∃ x2,∃ x3,us = [x0,x1,x2,x3]
 | [x0,x1,x2,x3],_=>⟨x0,x1,x2,x3,rfl⟩
theorem YX:∀ {us:List Value},us.length = 5 -> ∃ x0,∃ x1,∃ x2,∃ x3,∃ x4,us = [x0,x1,x2,x3,x4]
 | [x0,x1,x2,x3,x4],_=>⟨x0,x1,x2,x3,x4,rfl⟩
theorem YY:∀ {us:List Value},us.length = 6 -> ∃ x0,∃ x1,∃ x2,∃ x3,∃ x4,∃ x5,us = [x0,x1,x2,x3,x4,x5]
 | [x0,x1,x2,x3,x4,x5],_=>⟨x0,x1,x2,x3,x4,x5,rfl⟩
def FA (K:FG7) (x:Str) (t:Stmt) (f:Addr) (d:FuncData):Prop:=PySem.W.nsIn K mainGlobals x = some (some (.ref f)) /\ Fun K x x t f d
theorem FA.cl {P:Program} {w:World} {K:FG7} {h base:Heap} {mg:Str -> Option Value} {x:Str} {t:Stmt} {f:Addr} {d:FuncData} {k:Nat} {ps:List Str} {sp:Sp} (a:FA K x t f d) (X:K.In h) (G:h.Ns mainGlobals mg) (F:FnOk P w K mg base CX0 k f d ps sp) (b:rL K d ps []):zh P w K mg base k x ps sp:=⟨_,_,F,b,a.2.kp,PySem.W.mg_of X G a.1⟩
theorem all_mk {l:PySem.W.OpenLaw} {w:World} {K:FG7} {h:Heap} {mg:Str -> Option Value} {fa f1 f2 f3 f4 f5 f6 f7 f8 f9 f10 f11 f12 f13 f14 f15 f16 f17 f18 f19 f20 f21 f22 f23 f24 f25 f26 f27 f28 f29 f30 f31 f32 f33 f34 f35 f36 f37 f38 f39 f40 f41 f42 f43 f44 f45 f46 f47 f48 f49 f50 f51:Addr} (X:K.In h) (G:h.Ns mainGlobals mg) (hfa:mg "law" = some (.ref fa))
    {d1 d2 d3 d4 d5 d6 d7 d8 d9 d10 d11 d12 d13 d14 d15 d16 d17 d18 d19 d20 d21 d22 d23 d24 d25 d26 d27 d28 d29 d30 d31 d32 d33 d34 d35 d36 d37 d38 d39 d40 d41 d42 d43 d44 d45 d46 d47 d48 d49 d50 d51:FuncData}
 (h1:FA K "counted_on" ((top 53)) f1 d1)
 (h2:FA K "figure" ((top 30)) f2 d2)
 (h3:FA K "with_figure" ((top 31)) f3 d3)
 (h4:FA K "onward" ((top 32)) f4 d4)
 (h5:FA K "way_of" ((top 34)) f5 d5)
 (h6:FA K "side_for" ((top 42)) f6 d6)
 (h7:FA K "is_whole" ((top 9)) f7 d7)
 (h8:FA K "is_within" ((top 10)) f8 d8)
 (h9:FA K "is_line" ((top 28)) f9 d9)
 (h10:FA K "is_end" ((top 12)) f10 d10)
 (h11:FA K "is_deed" ((top 13)) f11 d11)
 (h12:FA K "is_ask" ((top 22)) f12 d12)
 (h13:FA K "is_board" ((top 20)) f13 d13)
 (h14:FA K "need_board" ((top 21)) f14 d14)
 (h15:FA K "are_asks" ((top 23)) f15 d15)
 (h16:FA K "need_asks" ((top 24)) f16 d16)
 (h17:FA K "need_net" ((top 27)) f17 d17)
 (h18:FA K "need_round" ((top 43)) f18 d18)
 (h19:FA K "plain_loads" ((top 55)) f19 d19)
 (h20:FA K "tidy" ((top 15)) f20 d20)
 (h21:FA K "made" ((top 14)) f21 d21)
 (h22:FA K "joined" ((top 16)) f22 d22)
 (h23:FA K "switch_at" ((top 33)) f23 d23)
 (h24:FA K "in_order" ((top 44)) f24 d24)
 (h25:FA K "pass_stage" ((top 45)) f25 d25)
 (h26:FA K "pass_net" ((top 46)) f26 d26)
 (h27:FA K "switches_in_a_stage" ((top 36)) f27 d27)
 (h28:FA K "straight" ((top 40)) f28 d28)
 (h29:FA K "joined_loads" ((top 54)) f29 d29)
 (h30:FA K "_law_line" ((top 64)) f30 d30)
 (h31:FA K "_law_other_loads" ((top 66)) f31 d31)
 (h32:FA K "are_marks" ((top 37)) f32 d32)
 (h33:FA K "is_settings" ((top 38)) f33 d33)
 (h34:FA K "need_settings" ((top 39)) f34 d34)
 (h35:FA K "remembered" ((top 51)) f35 d35)
 (h36:FA K "_law_switch" ((top 63)) f36 d36)
 (h37:FA K "_law_memory" ((top 67)) f37 d37)
 (h38:FA K "came" ((top 52)) f38 d38)
 (h39:FA K "need_side" ((top 29)) f39 d39)
 (h40:FA K "told_order" ((top 49)) f40 d40)
 (h41:FA K "share_stage" ((top 47)) f41 d41)
 (h42:FA K "one_round" ((top 48)) f42 d42)
 (h43:FA K "_law_other_firsts" ((top 65)) f43 d43)
 (h44:FA K "_law_is_right" ((top 68)) f44 d44)
 (h45:FA K "_law_take" ((top 58)) f45 d45)
 (h46:FA K "_law_firsts" ((top 62)) f46 d46)
 (h47:FA K "_law_number" ((top 59)) f47 d47)
 (h48:FA K "_law_deed" ((top 60)) f48 d48)
 (h49:FA K "_law_asks" ((top 61)) f49 d49)
 (h50:FA K "_law_pot" ((top 57)) f50 d50)
 (h51:FA K "law" ((top 69)) f51 d51)
    {t_DEEPEST:Tok} (ga_DEEPEST:PySem.W.nsIn K mainGlobals "DEEPEST" = some (some (.int 4 t_DEEPEST)))
    {t_LAST_HAND:Tok} (ga_LAST_HAND:PySem.W.nsIn K mainGlobals "LAST_HAND" = some (some (.int 15 t_LAST_HAND)))
    {t_MOST_BOXES:Tok} (ga_MOST_BOXES:PySem.W.nsIn K mainGlobals "MOST_BOXES" = some (some (.int 16 t_MOST_BOXES)))
    (ga_enumerate:PySem.W.nsIn K mainGlobals "enumerate" = some none)
    (ga_set:PySem.W.nsIn K mainGlobals "set" = some none)
    (ga_sorted:PySem.W.nsIn K mainGlobals "sorted" = some none)
    (z_abs:PySem.W.nsIn K mainGlobals "abs" = some none)
    (z_len:PySem.W.nsIn K mainGlobals "len" = some none)
    (z_max:PySem.W.nsIn K mainGlobals "max" = some none)
    (z_min:PySem.W.nsIn K mainGlobals "min" = some none)
    (z_divmod:PySem.W.nsIn K mainGlobals "divmod" = some none)
    (z_repr:PySem.W.nsIn K mainGlobals "repr" = some none)
    (z_isinstance:PySem.W.nsIn K mainGlobals "isinstance" = some none)
    (z_all:PySem.W.nsIn K mainGlobals "all" = some none)
    (z_range:PySem.W.nsIn K mainGlobals "range" = some none)
    (z_int:PySem.W.nsIn K mainGlobals "int" = some none)
    (z_bool:PySem.W.nsIn K mainGlobals "bool" = some none)
    (z_str:PySem.W.nsIn K mainGlobals "str" = some none)
    (z_tuple:PySem.W.nsIn K mainGlobals "tuple" = some none)
    (z_list:PySem.W.nsIn K mainGlobals "list" = some none)
    (z_dict:PySem.W.nsIn K mainGlobals "dict" = some none)
    :
    ∃ fd:FuncData,(∀ (s:Shared) (v:Value),BindsTo s fd ⟨[v],[]⟩ [("_law_script",v)]) /\ ∀ base:Heap,K.In base -> base.Ns mainGlobals mg -> FnOk l.prog w K mg base CX0 10 fa fd ["_law_script"] (qO K):=by
  have e:=hfa.symm.trans (PySem.W.mg_of X G h51.1)
  cases e
  have B:Blt mg:=⟨PySem.W.mg_none_of X G z_abs,PySem.W.mg_none_of X G z_len,PySem.W.mg_none_of X G z_max,PySem.W.mg_none_of X G z_min,PySem.W.mg_none_of X G z_divmod,PySem.W.mg_none_of X G z_repr,PySem.W.mg_none_of X G z_isinstance,PySem.W.mg_none_of X G z_all,PySem.W.mg_none_of X G z_range,PySem.W.mg_none_of X G z_int,PySem.W.mg_none_of X G z_bool,PySem.W.mg_none_of X G z_str,PySem.W.mg_none_of X G z_tuple,PySem.W.mg_none_of X G z_list,PySem.W.mg_none_of X G z_dict⟩
  obtain ⟨oc,od,kV,dc,pm,an,cd,ct,sl,rfl,lk,hc⟩:=h51.2.ex
  refine ⟨PySem.W.fnOf "law" "law" (vK (top 69)) (wN (top 69)) (zg (top 69)) .none kV dc pm an cd ct,fun s v=>.of_eq rfl,fun base _ _=>?_⟩
  have C1:zh l.prog w K mg base 1 _ _ _:=h1.cl X G (tP h1.2 B      ) (h1.2.binds fun _ _ _ _ _ _ us hl=>by obtain ⟨_,_,rfl⟩:=yq hl; rfl)
  have C2:zh l.prog w K mg base 1 _ _ _:=h2.cl X G (YN h2.2 B      ) (h2.2.binds fun _ _ _ _ _ _ us hl=>by obtain ⟨_,_,_,rfl⟩:=xp hl; rfl)
  have C3:zh l.prog w K mg base 2 _ _ _:=h3.cl X G (uk h3.2 B   (C2.mono (by decide))   ) (h3.2.binds fun _ _ _ _ _ _ us hl=>by obtain ⟨_,_,_,_,rfl⟩:=xq hl; rfl)
  have C4:zh l.prog w K mg base 3 _ _ _:=h4.cl X G (YQ h4.2 B   (C3.mono (by decide)) (C2.mono (by decide))   ) (h4.2.binds fun _ _ _ _ _ _ us hl=>by obtain ⟨_,_,_,_,rfl⟩:=xq hl; rfl)
  have C5:zh l.prog w K mg base 4 _ _ _:=h5.cl X G (YR h5.2 B   (C4.mono (by decide))   ) (h5.2.binds fun _ _ _ _ _ _ us hl=>by obtain ⟨_,_,_,rfl⟩:=xp hl; rfl)
  have C6:zh l.prog w K mg base 1 _ _ _:=h6.cl X G (qo h6.2 B      ) (h6.2.binds fun _ _ _ _ _ _ us hl=>by obtain ⟨_,_,rfl⟩:=yq hl; rfl)
  have C7:zh l.prog w K mg base 1 _ _ _:=h7.cl X G (qr h7.2 B      ) (h7.2.binds fun _ _ _ _ _ _ us hl=>by obtain ⟨_,rfl⟩:=xo hl; rfl)
  have C8:zh l.prog w K mg base 2 _ _ _:=h8.cl X G (rj h8.2 B   (C7.mono (by decide))   ) (h8.2.binds fun _ _ _ _ _ _ us hl=>by obtain ⟨_,_,_,rfl⟩:=xp hl; rfl)
  have C9:zh l.prog w K mg base 3 _ _ _:=h9.cl X G (j6 h9.2 B   (C8.mono (by decide))   ) (h9.2.binds fun _ _ _ _ _ _ us hl=>by obtain ⟨_,_,rfl⟩:=yq hl; rfl)
  have C10:zh l.prog w K mg base 2 _ _ _:=h10.cl X G (YT h10.2 B   (C7.mono (by decide))   ) (h10.2.binds fun _ _ _ _ _ _ us hl=>by obtain ⟨_,rfl⟩:=xo hl; rfl)
  have C11:zh l.prog w K mg base 3 _ _ _:=h11.cl X G (j7 h11.2 B   (C10.mono (by decide)) (C7.mono (by decide))   ) (h11.2.binds fun _ _ _ _ _ _ us hl=>by obtain ⟨_,rfl⟩:=xo hl; rfl)
  have C12:zh l.prog w K mg base 4 _ _ _:=h12.cl X G (YU h12.2 B   (C11.mono (by decide)) (C8.mono (by decide))  (PySem.W.mg_of X G ga_LAST_HAND) ) (h12.2.binds fun _ _ _ _ _ _ us hl=>by obtain ⟨_,_,rfl⟩:=yq hl; rfl)
  have C13:zh l.prog w K mg base 2 _ _ _:=h13.cl X G (qu h13.2 B   (C7.mono (by decide))  (PySem.W.mg_of X G ga_MOST_BOXES) ) (h13.2.binds fun _ _ _ _ _ _ us hl=>by obtain ⟨_,rfl⟩:=xo hl; rfl)
  have C14:zh l.prog w K mg base 3 _ _ _:=h14.cl X G (tR h14.2 B   (C13.mono (by decide))   ) (h14.2.binds fun _ _ _ _ _ _ us hl=>by obtain ⟨_,rfl⟩:=xo hl; rfl)
  have C15:zh l.prog w K mg base 5 _ _ _:=h15.cl X G (qw h15.2 B   (C12.mono (by decide)) (C14.mono (by decide))   ) (h15.2.binds fun _ _ _ _ _ _ us hl=>by obtain ⟨_,_,rfl⟩:=yq hl; rfl)
  have C16:zh l.prog w K mg base 6 _ _ _:=h16.cl X G (rm h16.2 B   (C15.mono (by decide))   ) (h16.2.binds fun _ _ _ _ _ _ us hl=>by obtain ⟨_,_,rfl⟩:=yq hl; rfl)
  have C17:zh l.prog w K mg base 3 _ _ _:=h17.cl X G (qy h17.2 B   (C8.mono (by decide))  (PySem.W.mg_of X G ga_DEEPEST) ) (h17.2.binds fun _ _ _ _ _ _ us hl=>by obtain ⟨_,rfl⟩:=xo hl; rfl)
  have C18:zh l.prog w K mg base 7 _ _ _:=h18.cl X G (tS h18.2 B   (C9.mono (by decide)) (C16.mono (by decide)) (C17.mono (by decide)) (PySem.W.mg_none_of X G ga_set)  ) (h18.2.binds fun _ _ _ _ _ _ us hl=>by obtain ⟨_,_,_,rfl⟩:=xp hl; rfl)
  have C19:zh l.prog w K mg base 8 _ _ _:=h19.cl X G (ul h19.2 B   (C1.mono (by decide)) (C5.mono (by decide)) (C6.mono (by decide)) (C18.mono (by decide))   ) (h19.2.binds fun _ _ _ _ _ _ us hl=>by obtain ⟨_,_,_,rfl⟩:=xp hl; rfl)
  have C20:zh l.prog w K mg base 1 _ _ _:=h20.cl X G (rN h20.2 B      ) (h20.2.binds fun _ _ _ _ _ _ us hl=>by obtain ⟨_,_,_,rfl⟩:=xp hl; rfl)
  have C21:zh l.prog w K mg base 1 _ _ _:=h21.cl X G (WV h21.2 B      ) (h21.2.binds fun _ _ _ _ _ _ us hl=>by obtain ⟨_,_,rfl⟩:=yq hl; rfl)
  have C22:zh l.prog w K mg base 2 _ _ _:=h22.cl X G (YV h22.2 B   (C20.mono (by decide)) (C21.mono (by decide))   ) (h22.2.binds fun _ _ _ _ _ _ us hl=>by obtain ⟨_,_,rfl⟩:=yq hl; rfl)
  have C23:zh l.prog w K mg base 1 _ _ _:=h23.cl X G (rn h23.2 B      ) (h23.2.binds fun _ _ _ _ _ _ us hl=>by obtain ⟨_,_,_,rfl⟩:=xp hl; rfl)
  have C24:zh l.prog w K mg base 3 _ _ _:=h24.cl X G (qz h24.2 B   (C3.mono (by decide)) (C23.mono (by decide))   ) (h24.2.binds fun _ _ _ _ _ _ us hl=>by obtain ⟨_,_,_,_,rfl⟩:=xq hl; rfl)
  have C25:zh l.prog w K mg base 4 _ _ _:=h25.cl X G (tT h25.2 B   (C22.mono (by decide)) (C23.mono (by decide)) (C4.mono (by decide)) (C6.mono (by decide)) (C24.mono (by decide))   ) (h25.2.binds fun _ _ _ _ _ _ us hl=>by obtain ⟨_,_,_,_,rfl⟩:=xq hl; rfl)
  have C26:zh l.prog w K mg base 5 _ _ _:=h26.cl X G (qA h26.2 B   (C25.mono (by decide))   ) (h26.2.binds fun _ _ _ _ _ _ us hl=>by obtain ⟨_,_,_,rfl⟩:=xp hl; rfl)
  have C27:zh l.prog w K mg base 1 _ _ _:=h27.cl X G (xG h27.2 B      ) (h27.2.binds fun _ _ _ _ _ _ us hl=>by obtain ⟨_,rfl⟩:=xo hl; rfl)
  have C28:zh l.prog w K mg base 4 _ _ _:=h28.cl X G (qC h28.2 B   (C27.mono (by decide)) (C17.mono (by decide))   ) (h28.2.binds fun _ _ _ _ _ _ us hl=>by obtain ⟨_,rfl⟩:=xo hl; rfl)
  have C29:zh l.prog w K mg base 8 _ _ _:=h29.cl X G (uc h29.2 B   (C1.mono (by decide)) (C26.mono (by decide)) (C28.mono (by decide)) (C18.mono (by decide))   ) (h29.2.binds fun _ _ _ _ _ _ us hl=>by obtain ⟨_,_,_,rfl⟩:=xp hl; rfl)
  have C30:zh l.prog w K mg base 1 _ _ _:=h30.cl X G (rp h30.2 B      ) (h30.2.binds fun _ _ _ _ _ _ us hl=>by obtain ⟨_,_,_,_,_,rfl⟩:=YX hl; rfl)
  have C31:zh l.prog w K mg base 2 _ _ _:=h31.cl X G (wo h31.2 B   (C30.mono (by decide)) (PySem.W.mg_none_of X G ga_enumerate)  ) (h31.2.binds fun _ _ _ _ _ _ us hl=>by obtain ⟨_,_,_,_,rfl⟩:=xq hl; rfl)
  have C32:zh l.prog w K mg base 3 _ _ _:=h32.cl X G (rz h32.2 B   (C8.mono (by decide)) (C27.mono (by decide))   ) (h32.2.binds fun _ _ _ _ _ _ us hl=>by obtain ⟨_,_,rfl⟩:=yq hl; rfl)
  have C33:zh l.prog w K mg base 4 _ _ _:=h33.cl X G (uo h33.2 B   (C32.mono (by decide)) (C17.mono (by decide))   ) (h33.2.binds fun _ _ _ _ _ _ us hl=>by obtain ⟨_,_,rfl⟩:=yq hl; rfl)
  have C34:zh l.prog w K mg base 5 _ _ _:=h34.cl X G (vu h34.2 B   (C33.mono (by decide))   ) (h34.2.binds fun _ _ _ _ _ _ us hl=>by obtain ⟨_,_,rfl⟩:=yq hl; rfl)
  have C35:zh l.prog w K mg base 8 _ _ _:=h35.cl X G (tU h35.2 B   (C26.mono (by decide)) (C34.mono (by decide)) (C18.mono (by decide)) (PySem.W.mg_none_of X G ga_sorted) (PySem.W.mg_none_of X G ga_enumerate)  ) (h35.2.binds fun _ _ _ _ _ _ us hl=>by obtain ⟨_,_,_,_,rfl⟩:=xq hl; rfl)
  have C36:zh l.prog w K mg base 1 _ _ _:=h36.cl X G (uq h36.2 B      ) (h36.2.binds fun _ _ _ _ _ _ us hl=>by obtain ⟨_,_,_,_,_,rfl⟩:=YX hl; rfl)
  have C37:zh l.prog w K mg base 2 _ _ _:=h37.cl X G (ur h37.2 B   (C36.mono (by decide)) (PySem.W.mg_none_of X G ga_sorted)  ) (h37.2.binds fun _ _ _ _ _ _ us hl=>by obtain ⟨_,_,_,_,rfl⟩:=xq hl; rfl)
  have C38:zh l.prog w K mg base 8 _ _ _:=h38.cl X G (WW h38.2 B   (C26.mono (by decide)) (C34.mono (by decide)) (C18.mono (by decide)) (PySem.W.mg_none_of X G ga_sorted)  ) (h38.2.binds fun _ _ _ _ _ _ us hl=>by obtain ⟨_,_,_,_,rfl⟩:=xq hl; rfl)
  have C39:zh l.prog w K mg base 4 _ _ _:=h39.cl X G (rB h39.2 B   (C9.mono (by decide))   ) (h39.2.binds fun _ _ _ _ _ _ us hl=>by obtain ⟨_,_,rfl⟩:=yq hl; rfl)
  have C40:zh l.prog w K mg base 6 _ _ _:=h40.cl X G (tV h40.2 B   (C24.mono (by decide)) (C34.mono (by decide)) (C39.mono (by decide)) (C17.mono (by decide))   ) (h40.2.binds fun _ _ _ _ _ _ us hl=>by obtain ⟨_,_,_,rfl⟩:=xp hl; rfl)
  have C41:zh l.prog w K mg base 4 _ _ _:=h41.cl X G (ut h41.2 B   (C21.mono (by decide)) (C24.mono (by decide)) (C23.mono (by decide)) (C4.mono (by decide)) (C6.mono (by decide))   ) (h41.2.binds fun _ _ _ _ _ _ us hl=>by obtain ⟨_,_,_,_,_,_,rfl⟩:=YY hl; rfl)
  have C42:zh l.prog w K mg base 8 _ _ _:=h42.cl X G (rC h42.2 B   (C41.mono (by decide)) (C21.mono (by decide)) (C26.mono (by decide)) (C34.mono (by decide)) (C18.mono (by decide))   ) (h42.2.binds fun _ _ _ _ _ _ us hl=>by obtain ⟨_,_,_,_,rfl⟩:=xq hl; rfl)
  have C43:zh l.prog w K mg base 2 _ _ _:=h43.cl X G (xZ h43.2 B   (C36.mono (by decide)) (PySem.W.mg_none_of X G ga_enumerate)  ) (h43.2.binds fun _ _ _ _ _ _ us hl=>by obtain ⟨_,_,_,_,rfl⟩:=xq hl; rfl)
  have C44:zh l.prog w K mg base 9 _ _ _:=h44.cl X G (vw h44.2 B   (C19.mono (by decide)) (C29.mono (by decide)) (C31.mono (by decide)) (C35.mono (by decide)) (C37.mono (by decide)) (C38.mono (by decide)) (C40.mono (by decide)) (C42.mono (by decide)) (C43.mono (by decide)) (PySem.W.mg_none_of X G ga_sorted)  ) (h44.2.binds fun _ _ _ _ _ _ us hl=>by obtain ⟨_,_,_,_,_,_,rfl⟩:=YY hl; rfl)
  have C45:zh l.prog w K mg base 1 _ _ _:=h45.cl X G (rD h45.2 B      ) (h45.2.binds fun _ _ _ _ _ _ us hl=>by obtain ⟨_,_,rfl⟩:=yq hl; rfl)
  have C46:zh l.prog w K mg base 2 _ _ _:=h46.cl X G (uv h46.2 B   (C45.mono (by decide))   ) (h46.2.binds fun _ _ _ _ _ _ us hl=>by obtain ⟨_,_,rfl⟩:=yq hl; rfl)
  have C47:zh l.prog w K mg base 2 _ _ _:=h47.cl X G (uw h47.2 B   (C45.mono (by decide))   ) (h47.2.binds fun _ _ _ _ _ _ us hl=>by obtain ⟨_,rfl⟩:=xo hl; rfl)
  have C48:zh l.prog w K mg base 3 _ _ _:=h48.cl X G (rE h48.2 B   (C45.mono (by decide)) (C47.mono (by decide))   ) (h48.2.binds fun _ _ _ _ _ _ us hl=>by obtain ⟨_,rfl⟩:=xo hl; rfl)
  have C49:zh l.prog w K mg base 4 _ _ _:=h49.cl X G (rF h49.2 B   (C45.mono (by decide)) (C48.mono (by decide))   ) (h49.2.binds fun _ _ _ _ _ _ us hl=>by obtain ⟨_,_,rfl⟩:=yq hl; rfl)
  have C50:zh l.prog w K mg base 1 _ _ _:=h50.cl X G (qD h50.2 B      ) (h50.2.binds fun _ _ _ _ _ _ us hl=>by obtain ⟨_,_,rfl⟩:=yq hl; rfl)
  exact VX (P:=l.prog) (w:=w) (base:=base) (n:=9) h51.2 B   (C44.mono (by decide)) (C46.mono (by decide)) (C49.mono (by decide)) (C47.mono (by decide)) (C45.mono (by decide)) (C50.mono (by decide))
theorem walk {l:PySem.W.OpenLaw} {q:Program} {loose:List Str} {XP:(Str -> Option Value) -> Heap -> Prop} {YP:World -> Heap -> Prop} {d:DefRec} {K:Params -> FG7} (hn:l.most = some 63) (hdf:d.params.defaults = [])
  (hY:∀ (w:World) (h:Heap),YP w h -> (K w.params).In h)
  (F:∀ (w:World) (mg:Str -> Option Value) (fa:Addr) (h:Heap),(K w.params).In h -> h.Ns mainGlobals mg -> mg d.name = some (.ref fa) →
   ∃ fd:FuncData,(∀ (s:Shared) (u:Value),BindsTo s fd ⟨[u],[]⟩ [("_law_script",u)]) /\ ∀ base:Heap,(K w.params).In base -> base.Ns mainGlobals mg -> FnOk l.prog w (K w.params) mg base CX0 10 fa fd ["_law_script"] (qO (K w.params))) :
  PySem.W.WalkO q loose XP YP l.row.toRowW d [] (fun f vs=>PySem.call f vs) :=
 L2.walk_of (n:=63) (k:=10) (x:="_law_script") (CX:=fun _=>CX0) (sp:=fun w=>qO (K w.params)) hn (by decide) hdf ⟨rfl,by decide,by decide,rfl⟩ hY F (fun _ _ a ns hl hO hS=>⟨_,rfl,a,ns,rfl,Scr.of hO hS,hl,fun _=>rfl⟩) fun _ _ _ _ _ z=>z
theorem walkX {q:Program} {loose:List Str} {XP:(Str -> Option Value) -> Heap -> Prop} {K:Params -> FG7} {as:List Addr} {n t:Nat} {r:PySem.W.RowW} {d:DefRec} {kwd:List (Str × Expr)} {run:Value -> List Value -> Sem Value}
  (e:∀ P,as = (K P).map (·.1)) (W:PySem.W.WalkO q loose XP (PySem.W.InK K) r d kwd run):PySem.W.WalkX q loose XP (PySem.W.X.obsZ as) (PySem.W.X.valZ K n t) r d kwd run :=
 fun w s₀ s₁ mg mb G Y a o pm cd doc dV kV h2 h3 h4 h5 h6 h7 args vals as' L hpre hlay hrd hwl hlo =>
  W w s₀ s₁ mg mb G (PySem.W.InK.keeps w s₀.heap s₁.heap (PySem.W.X.z_facts e Y).2.1 L.keeps) a o pm cd doc dV kV h2 h3 h4 h5 h6 h7 args vals as' hpre hlay hrd hwl hlo
end My
open PySem PySem.W PyProof.Rows
def PySem.W.Fast.tw5758078962663576294:Unit:=()
def PySem.W.Fast.tw7939502571264000789:Unit:=()
def PySem.W.Fast.tw4594013796816491080:Unit:=()
def PySem.W.Fast.tw8668470883577531394:Unit:=()
def PySem.W.Fast.tw4997421779835128941:Unit:=()
def PySem.W.Fast.tw11746758637079331160:Unit:=()
def PySem.W.Fast.tw8530908546656727673:Unit:=()
def PySem.W.Fast.tw14027242936474595483:Unit:=()
def PySem.W.Fast.tw2296903156169297259:Unit:=()
def PySem.W.Fast.tw6261480398316023688:Unit:=()
def PySem.W.Fast.tw11760772361238603450:Unit:=()
def PySem.W.Fast.tw14233200196801275151:Unit:=()
def PySem.W.Fast.tw16079190790333228031:Unit:=()
def PySem.W.Fast.tw10389764017859434783:Unit:=()
def PySem.W.Fast.tw8522529652029168859:Unit:=()
def PySem.W.Fast.tw5526098143966626889:Unit:=()
def PySem.W.Fast.tw4139118237829643328:Unit:=()
def PySem.W.Fast.tw12144794120440155774:Unit:=()
def PySem.W.Fast.tw14200698501603478409:Unit:=()
def PySem.W.Fast.tw16806766875887429584:Unit:=()
def PySem.W.Fast.tw4355182660436295536:Unit:=()
def PySem.W.Fast.tw801660307010304979:Unit:=()
def PySem.W.Fast.tw10114210598113138592:Unit:=()
def PySem.W.Fast.tw1643619285278151255:Unit:=()
def PySem.W.Fast.tw9280368556764721073:Unit:=()
def PySem.W.Fast.tw15433899347479227478:Unit:=()
def PySem.W.Fast.tw14373190475065452273:Unit:=()
def PySem.W.Fast.tw3290831306064849438:Unit:=()
def PySem.W.Fast.tw17981389253787414731:Unit:=()
def PySem.W.Fast.tw980576758126576438:Unit:=()
def PySem.W.Fast.tw10341205280341826038:Unit:=()
def PySem.W.Fast.tw5276637662615280712:Unit:=()
def PySem.W.Fast.tw13315544732093848933:Unit:=()
def PySem.W.Fast.tw9533512377834776354:Unit:=()
def PySem.W.Fast.tw7958656294824537017:Unit:=()
def PySem.W.Fast.tw9284702489484109789:Unit:=()
def PySem.W.Fast.tw6972225848525929885:Unit:=()
def PySem.W.Fast.tw5745691672778845182:Unit:=()
def PySem.W.Fast.tw7239917384137467557:Unit:=()
def PySem.W.Fast.tw18114571082933040785:Unit:=()
def PySem.W.Fast.tw4807272568330391249:Unit:=()
def PySem.W.Fast.tw4480730348170796428:Unit:=()
def PySem.W.Fast.tw2751579580199854250:Unit:=()
def PySem.W.Fast.tw14728881843156027301:Unit:=()
def PySem.W.Fast.tw1280329225935207572:Unit:=()
def PySem.W.Fast.tw10594934497918136847:Unit:=()
def PySem.W.Fast.tw14848865236565678817:Unit:=()
def PySem.W.Fast.tw18431459800033398084:Unit:=()
def PySem.W.Fast.tw10449121111936578253:Unit:=()
def PySem.W.Fast.tw11200173726371241230:Unit:=()
def PySem.W.Fast.tw10447180340688704727:Unit:=()
def PySem.W.Fast.tw5832724037869404752:Unit:=()
def PySem.W.Fast.tw2900639382871039442:Unit:=()
def PySem.W.Fast.tw16762823619776719642:Unit:=()
def PySem.W.Fast.tw3147752212191231276:Unit:=()
def PySem.W.Fast.tw7491853361310583873:Unit:=()
def PySem.W.Fast.tw450325449384305844:Unit:=()
def PySem.W.Fast.tw4908941961545551863:Unit:=()
def PySem.W.Fast.tw17636319919469567451:Unit:=()
def PySem.W.Fast.tw11651947839887661525:Unit:=()
def PySem.W.Fast.tw17807848301166495374:Unit:=()
def PySem.W.Fast.tw16342441697846469182:Unit:=()
def PySem.W.Fast.tw18416494408420044407:Unit:=()
def PySem.W.Fast.tw1853694646010653854:Unit:=()
def PySem.W.Fast.tw16888585884839282861:Unit:=()
def PySem.W.Fast.tw15099466362963112833:Unit:=()
def PySem.W.Fast.tw13313206469512090990:Unit:=()
def PySem.W.Fast.tw10729851000260134196:Unit:=()
def PySem.W.Fast.tw2866316659268000537:Unit:=()
def PySem.W.Fast.tw6763460633043131819:Unit:=()
def PySem.W.Fast.tw15653616936383122924:Unit:=()
def PySem.W.Fast.tw12124368995066236381:Unit:=()
def PySem.W.Fast.tw18309451623570289318:Unit:=()
def PySem.W.Fast.tw6662555837235968724:Unit:=()
def PySem.W.Fast.tw8682491159908776087:Unit:=()
def PySem.W.Fast.tw11231767037342438140:Unit:=()
def PySem.W.Fast.tw4782272176797515066:Unit:=()
def PySem.W.Fast.tw10228915931175116372:Unit:=()
def PySem.W.Fast.tw8882477496188970154:Unit:=()
def PySem.W.Fast.tw8577397623119069142:Unit:=()
def PySem.W.Fast.tw3300072297837183933:Unit:=()
def PySem.W.Fast.tw7317942927681729451:Unit:=()
def PySem.W.Fast.tw11521529100373701288:Unit:=()
def PySem.W.Fast.tw6586574181960911636:Unit:=()
def PySem.W.Fast.tw16574922122282090507:Unit:=()
def PySem.W.Fast.tw11570128151860118607:Unit:=()
def PySem.W.Fast.tw18081262068876886697:Unit:=()
def PySem.W.Fast.tw4384745421447077342:Unit:=()
def PySem.W.Fast.tw11883617664205421744:Unit:=()
def PySem.W.Fast.tw722705123844584231:Unit:=()
def PySem.W.Fast.tw17414158459087897967:Unit:=()
def PySem.W.Fast.tw16982320295531772743:Unit:=()
def PySem.W.Fast.tw4158616996456476825:Unit:=()
def PySem.W.Fast.tw5682324651303765872:Unit:=()
def PySem.W.Fast.tw173467980187123889:Unit:=()
def PySem.W.Fast.tw9361404049523289741:Unit:=()
def PySem.W.Fast.tw15883144524241120257:Unit:=()
def PySem.W.Fast.tw4360859402524526309:Unit:=()
def PySem.W.Fast.tw8004438864113917036:Unit:=()
def PySem.W.Fast.tw6058230759202298827:Unit:=()
def PySem.W.Fast.tw8528030524809488698:Unit:=()
def PySem.W.Fast.tw308375052824448000:Unit:=()
def PySem.W.Fast.tw14257387511049333861:Unit:=()
def PySem.W.Fast.tw11386269351660305421:Unit:=()
def PySem.W.Fast.tw12655477558793008666:Unit:=()
def PySem.W.Fast.tw8754259918547397350:Unit:=()
def PySem.W.Fast.tw17655614958393375616:Unit:=()
def PySem.W.Fast.tw1797480961069126676:Unit:=()
def PySem.W.Fast.tw6045068154248459806:Unit:=()
def PySem.W.Fast.tw10396323035119022489:Unit:=()
def PySem.W.Fast.tw8839760859037441026:Unit:=()
def PySem.W.Fast.tw17087300911304956543:Unit:=()
def PySem.W.Fast.tw910434351893830517:Unit:=()
def PySem.W.Fast.tw7451549319200781534:Unit:=()
def PySem.W.Fast.tw3647559782652839431:Unit:=()
def PySem.W.Fast.tw7178435067894794064:Unit:=()
def PySem.W.Fast.tw17923494218490027711:Unit:=()
def PySem.W.Fast.tw9651121361457501079:Unit:=()
def PySem.W.Fast.tw6934736186771836581:Unit:=()
def PySem.W.Fast.tw14924937203346815310:Unit:=()
def PySem.W.Fast.tw1469279410756067643:Unit:=()
def PySem.W.Fast.tw14430475636552532125:Unit:=()
def PySem.W.Fast.tw11120551558058942451:Unit:=()
def PySem.W.Fast.tw9220132965586879179:Unit:=()
def PySem.W.Fast.tw3185917180130079699:Unit:=()
def PySem.W.Fast.tw2872426503296926921:Unit:=()
def PySem.W.Fast.tw8529322635556873194:Unit:=()
def PySem.W.Fast.tw16319417353584340649:Unit:=()
def PySem.W.Fast.tw5926631759874649105:Unit:=()
def PySem.W.Fast.tw15633352784628893040:Unit:=()
def PySem.W.Fast.tw2342217459002954070:Unit:=()
def PySem.W.Fast.tw8381745499043113543:Unit:=()
def PySem.W.Fast.tw14441282660964505809:Unit:=()
def PySem.W.Fast.tw7958904536273130654:Unit:=()
def PySem.W.Fast.tw7480165319172603713:Unit:=()
def PySem.W.Fast.tw6461825605652219491:Unit:=()
def PySem.W.Fast.tw3707692625035377987:Unit:=()
def PySem.W.Fast.tw972226577429299564:Unit:=()
def PySem.W.Fast.tw3606539769754532578:Unit:=()
def PySem.W.Fast.tw9025060409784684223:Unit:=()
def PySem.W.Fast.tw18411495478523145857:Unit:=()
def PySem.W.Fast.tw6753930583885813250:Unit:=()
def PySem.W.Fast.tw12119880201095068070:Unit:=()
def PySem.W.Fast.tw11136299953271374464:Unit:=()
def PySem.W.Fast.tw10578516632204657042:Unit:=()
def PySem.W.Fast.tw16089883492948880994:Unit:=()
def PySem.W.Fast.tw18267007306067625864:Unit:=()
def PySem.W.Fast.tw15818124468239897877:Unit:=()
def PySem.W.Fast.tw13358141716715014983:Unit:=()
def PySem.W.Fast.tw14647832937297184527:Unit:=()
def PySem.W.Fast.tw11967006847041485779:Unit:=()
def PySem.W.Fast.tw11485039890324230190:Unit:=()
def PySem.W.Fast.tw4560298273802844164:Unit:=()
def PySem.W.Fast.tw7807616718358153815:Unit:=()
def PySem.W.Fast.tw14957460263956252048:Unit:=()
def PySem.W.Fast.tw15448924159233520985:Unit:=()
def PySem.W.Fast.tw15582269743910034393:Unit:=()
def PySem.W.Fast.tw14068053704518962016:Unit:=()
def PySem.W.Fast.tw8723371238866684536:Unit:=()
def PySem.W.Fast.tw281779365627739010:Unit:=()
def PySem.W.Fast.tw8610338641124604744:Unit:=()
def PySem.W.Fast.tw12183152398064223267:Unit:=()
def PySem.W.Fast.tw7937815410274159655:Unit:=()
def PySem.W.Fast.tw1101133562298702947:Unit:=()
def PySem.W.Fast.tw2045130538445150130:Unit:=()
def PySem.W.Fast.tw14323194309386196234:Unit:=()
def PySem.W.Fast.tw8182323731924830705:Unit:=()
def PySem.W.Fast.tw9243634285259925320:Unit:=()
def PySem.W.Fast.tw9196112856021028042:Unit:=()
def PySem.W.Fast.tw3191062772888368929:Unit:=()
def PySem.W.Fast.tw2567039374848608661:Unit:=()
def PySem.W.Fast.tw1819487484894337134:Unit:=()
def PySem.W.Fast.tw14490759137243144328:Unit:=()
def PySem.W.Fast.tw11799644836385325709:Unit:=()
def PySem.W.Fast.tw1009188907488941813:Unit:=()
def PySem.W.Fast.tw9667178464664195532:Unit:=()
def PySem.W.Fast.tw1775117454719572424:Unit:=()
def PySem.W.Fast.tw9517447706788201139:Unit:=()
def PySem.W.Fast.tw13051292070031906197:Unit:=()
def PySem.W.Fast.tw5219912727187980866:Unit:=()
def PySem.W.Fast.tw5754359471248743501:Unit:=()
def PySem.W.Fast.tw1690395902747464518:Unit:=()
def PySem.W.Fast.tw17019168162053019154:Unit:=()
def PySem.W.Fast.tw13777653876134430993:Unit:=()
def PySem.W.Fast.tw9359412394860727334:Unit:=()
def PySem.W.Fast.tw5893522723458615015:Unit:=()
def PySem.W.Fast.tw16729192340569629150:Unit:=()
def PySem.W.Fast.tw11900373360528367034:Unit:=()
def PySem.W.Fast.tw17329669515016949237:Unit:=()
def PySem.W.Fast.tw10054276277186192172:Unit:=()
def PySem.W.Fast.tw12322074758084341191:Unit:=()
def PySem.W.Fast.tw7698126960519167088:Unit:=()
def PySem.W.Fast.tw8348380261225960630:Unit:=()
def PySem.W.Fast.tw10212648623340335318:Unit:=()
def PySem.W.Fast.tw11757566435672795566:Unit:=()
def PySem.W.Fast.tw5156180575880659058:Unit:=()
def PySem.W.Fast.tw2488561210720761353:Unit:=()
def PySem.W.Fast.tw3775254621379645329:Unit:=()
def PySem.W.Fast.tw156722961009854986:Unit:=()
def PySem.W.Fast.tw12622364650027849836:Unit:=()
def PySem.W.Fast.tw17438642811787833929:Unit:=()
def PySem.W.Fast.tw5913775505462317261:Unit:=()
set_option maxRecDepth 100000 in
theorem PySem.Challenge.cw_joinedasks_k48_whole_exchanged_holds : PySem.Challenge.rw_joinedasks_k48_whole_exchanged.Holds := by
 w_on; o_law; z_head; (case hw=>w_witness2)
 refine My.walkX (fun _=>by kernel_rfl) (My.walk (l:=PySem.Challenge.rw_joinedasks_k48_whole_exchanged) rfl rfl (fun w h Y=>Y) ?F)
 case F =>
  intro w mg fa h KX G hmg
  refine' My.all_mk KX G hmg       ?h1 ?h2 ?h3 ?h4 ?h5 ?h6 ?h7 ?h8 ?h9 ?h10 ?h11 ?h12 ?h13 ?h14 ?h15 ?h16 ?h17 ?h18 ?h19 ?h20 ?h21 ?h22 ?h23 ?h24 ?h25 ?h26 ?h27 ?h28 ?h29 ?h30 ?h31 ?h32 ?h33 ?h34 ?h35 ?h36 ?h37 ?h38 ?h39 ?h40 ?h41 ?h42 ?h43 ?h44 ?h45 ?h46 ?h47 ?h48 ?h49 ?h50 ?h51 ?ga_DEEPEST ?ga_LAST_HAND ?ga_MOST_BOXES ?ga_enumerate ?ga_set ?ga_sorted ?z_abs ?z_len ?z_max ?z_min ?z_divmod ?z_repr ?z_isinstance ?z_all ?z_range ?z_int ?z_bool ?z_str ?z_tuple ?z_list ?z_dict
  (case h1=>exact ⟨by k_is,L2.fun_mk (by k_is) (by k_is) (by k_is)⟩)
  (case h2=>exact ⟨by k_is,L2.fun_mk (by k_is) (by k_is) (by k_is)⟩)
  (case h3=>exact ⟨by k_is,L2.fun_mk (by k_is) (by k_is) (by k_is)⟩)
  (case h4=>exact ⟨by k_is,L2.fun_mk (by k_is) (by k_is) (by k_is)⟩)
  (case h5=>exact ⟨by k_is,L2.fun_mk (by k_is) (by k_is) (by k_is)⟩)
  (case h6=>exact ⟨by k_is,L2.fun_mk (by k_is) (by k_is) (by k_is)⟩)
  (case h7=>exact ⟨by k_is,L2.fun_mk (by k_is) (by k_is) (by k_is)⟩)
  (case h8=>exact ⟨by k_is,L2.fun_mk (by k_is) (by k_is) (by k_is)⟩)
  (case h9=>exact ⟨by k_is,L2.fun_mk (by k_is) (by k_is) (by k_is)⟩)
  (case h10=>exact ⟨by k_is,L2.fun_mk (by k_is) (by k_is) (by k_is)⟩)
  (case h11=>exact ⟨by k_is,L2.fun_mk (by k_is) (by k_is) (by k_is)⟩)
  (case h12=>exact ⟨by k_is,L2.fun_mk (by k_is) (by k_is) (by k_is)⟩)
  (case h13=>exact ⟨by k_is,L2.fun_mk (by k_is) (by k_is) (by k_is)⟩)
  (case h14=>exact ⟨by k_is,L2.fun_mk (by k_is) (by k_is) (by k_is)⟩)
  (case h15=>exact ⟨by k_is,L2.fun_mk (by k_is) (by k_is) (by k_is)⟩)
  (case h16=>exact ⟨by k_is,L2.fun_mk (by k_is) (by k_is) (by k_is)⟩)
  (case h17=>exact ⟨by k_is,L2.fun_mk (by k_is) (by k_is) (by k_is)⟩)
  (case h18=>exact ⟨by k_is,L2.fun_mk (by k_is) (by k_is) (by k_is)⟩)
  (case h19=>exact ⟨by k_is,L2.fun_mk (by k_is) (by k_is) (by k_is)⟩)
  (case h20=>exact ⟨by k_is,L2.fun_mk (by k_is) (by k_is) (by k_is)⟩)
  (case h21=>exact ⟨by k_is,L2.fun_mk (by k_is) (by k_is) (by k_is)⟩)
  (case h22=>exact ⟨by k_is,L2.fun_mk (by k_is) (by k_is) (by k_is)⟩)
  (case h23=>exact ⟨by k_is,L2.fun_mk (by k_is) (by k_is) (by k_is)⟩)
  (case h24=>exact ⟨by k_is,L2.fun_mk (by k_is) (by k_is) (by k_is)⟩)
  (case h25=>exact ⟨by k_is,L2.fun_mk (by k_is) (by k_is) (by k_is)⟩)
  (case h26=>exact ⟨by k_is,L2.fun_mk (by k_is) (by k_is) (by k_is)⟩)
  (case h27=>exact ⟨by k_is,L2.fun_mk (by k_is) (by k_is) (by k_is)⟩)
  (case h28=>exact ⟨by k_is,L2.fun_mk (by k_is) (by k_is) (by k_is)⟩)
  (case h29=>exact ⟨by k_is,L2.fun_mk (by k_is) (by k_is) (by k_is)⟩)
  (case h30=>exact ⟨by k_is,L2.fun_mk (by k_is) (by k_is) (by k_is)⟩)
  (case h31=>exact ⟨by k_is,L2.fun_mk (by k_is) (by k_is) (by k_is)⟩)
  (case h32=>exact ⟨by k_is,L2.fun_mk (by k_is) (by k_is) (by k_is)⟩)
  (case h33=>exact ⟨by k_is,L2.fun_mk (by k_is) (by k_is) (by k_is)⟩)
  (case h34=>exact ⟨by k_is,L2.fun_mk (by k_is) (by k_is) (by k_is)⟩)
  (case h35=>exact ⟨by k_is,L2.fun_mk (by k_is) (by k_is) (by k_is)⟩)
  (case h36=>exact ⟨by k_is,L2.fun_mk (by k_is) (by k_is) (by k_is)⟩)
  (case h37=>exact ⟨by k_is,L2.fun_mk (by k_is) (by k_is) (by k_is)⟩)
  (case h38=>exact ⟨by k_is,L2.fun_mk (by k_is) (by k_is) (by k_is)⟩)
  (case h39=>exact ⟨by k_is,L2.fun_mk (by k_is) (by k_is) (by k_is)⟩)
  (case h40=>exact ⟨by k_is,L2.fun_mk (by k_is) (by k_is) (by k_is)⟩)
  (case h41=>exact ⟨by k_is,L2.fun_mk (by k_is) (by k_is) (by k_is)⟩)
  (case h42=>exact ⟨by k_is,L2.fun_mk (by k_is) (by k_is) (by k_is)⟩)
  (case h43=>exact ⟨by k_is,L2.fun_mk (by k_is) (by k_is) (by k_is)⟩)
  (case h44=>exact ⟨by k_is,L2.fun_mk (by k_is) (by k_is) (by k_is)⟩)
  (case h45=>exact ⟨by k_is,L2.fun_mk (by k_is) (by k_is) (by k_is)⟩)
  (case h46=>exact ⟨by k_is,L2.fun_mk (by k_is) (by k_is) (by k_is)⟩)
  (case h47=>exact ⟨by k_is,L2.fun_mk (by k_is) (by k_is) (by k_is)⟩)
  (case h48=>exact ⟨by k_is,L2.fun_mk (by k_is) (by k_is) (by k_is)⟩)
  (case h49=>exact ⟨by k_is,L2.fun_mk (by k_is) (by k_is) (by k_is)⟩)
  (case h50=>exact ⟨by k_is,L2.fun_mk (by k_is) (by k_is) (by k_is)⟩)
  (case h51=>exact ⟨by k_is,L2.fun_mk (by k_is) (by k_is) (by k_is)⟩)
  (case ga_DEEPEST=>k_is)
  (case ga_LAST_HAND=>k_is)
  (case ga_MOST_BOXES=>k_is)
  (case ga_enumerate=>k_is)
  (case ga_set=>k_is)
  (case ga_sorted=>k_is)
  (case z_abs=>k_is); (case z_len=>k_is); (case z_max=>k_is); (case z_min=>k_is); (case z_divmod=>k_is); (case z_repr=>k_is); (case z_isinstance=>k_is); (case z_all=>k_is); (case z_range=>k_is); (case z_int=>k_is); (case z_bool=>k_is); (case z_str=>k_is); (case z_tuple=>k_is); (case z_list=>k_is); (case z_dict=>k_is)
